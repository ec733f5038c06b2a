import PyProof.Rows.All
import Wide.All
import OpenK.AllK
import Wide.FinOn
import Lean
import PyProof.EqAt
import PyProof.EqKinds
import PyProof.TupleCall
import PySem.Challenge.RW_figuresort_k49_the_first_row
set_option compiler.extract_closed false
local macro_rules
 | `(tactic|lia)=>`(tactic|first | lia (config:={}) | omega)
open PySem.W renaming nsIn→Ig,Frag→Ih,mg_of→Ii,mg_none_of→IP,findIn→IQ,keepIn→Jk,kia_one→Jz,emptyDict→JE,kitOne→JN,hideAll_get→JP,instObj→JW,callWith_K→Kl,hasDictIn→Ks,hideAll_none→Kv,hideAll→KE,fnOf→KP,of_hideAll→K3,cellsFrom_some→Lf,funFrames_hide→Lg,mroIn→Li,plainGet→Lk,codeHdIn→Ln,codeIn→LP,clsIn→Ma,methodObj→Mc,plainOver→Md,takerIn→MB,makesIn→MC,OpenLaw→ME,lookIn→MO,exmOne→MX,isFn→Nh,codeRec_of→Ni,kitx_list→NF,kitx_dict→NG,handedIn→NY,kitAny→Ow,WalkO→OC
open PySem.Heap renaming get?_push_of_some→Ij,lt_size→Ip,get?_push_size→Iz,get?_update_other→JQ,size_push→Kg,get?_update_self→Kq,FlyingW→KQ,get?_update_ne→M9,SameBut→Nd,get?_some_iff→Np,HeldW→Om
open List renaming mem_append_right→Ik,mem_cons→Io,length_map→Ir,toArray→Iw,pairwise_append→IA,size_toArray→IB,range→IC,getElem?_eq_getElem→IF,mem_cons_of_mem→IG,getD_eq_getElem?_getD→IH,range'→II,getElem?_eq_some_iff→IK,map_append→IL,length_append→IM,mem_append→IN,length_cons→IU,getElem?_append_right→IX,take_of_length_le→Jb,lookup_cons→Jd,append_assoc→Je,mem_cons_self→Jg,replicate→Jh,getElem?_map→Ji,length_take→Jl,getElem?_append_left→Jn,extract_eq_drop_take→Jo,mem_singleton→Jv,lookup→Jw,map_cons→Jy,not_mem_nil→JC,flatten_cons→JF,take_append_drop→JH,mem_filterMap→JI,getElem_mem→JK,mem_of_getElem?→JO,take_succ_eq_append_getElem→JS,pairwise_cons→JU,pairwise_iff_getElem→JV,length_nil→JY,all_cons→Kb,getElem_of_mem→Ke,Nodup→Kj,append_nil→Kp,set→Kr,mem_range'_1→Kt,length_drop→Ky,all_eq_true→Kz,replicate_succ→KC,zip_cons_cons→KG,nil_append→KH,take_append_of_le_length→KM,take_add_one→KN,length_replicate→KO,mem_append_left→KS,mem_of_mem_drop→KT,mem_of_mem_take→KU,drop_eq_getElem_cons→K1,getElem_append_left→K6,drop_zero→K9,length_range→Lc,getElem?_set_ne→Lu,nodup_cons→Lv,of_mem_zip→Lx,mem_iff_getElem→Lz,range_eq_range'→LC,mem_map→LD,drop_append_of_le_length→LF,filterMap_cons→LL,length_pos_iff→LM,take_sublist→Mf,map_nil→Mn,map→Mp,getElem?_replicate→Mv,length_eq_zero_iff→Mz,getElem?_set_self→MF,drop_eq_nil_of_le→MI,mem_range→MN,perm_append_comm→MQ,take_zero→MT,range'_append_1→M1,getElem?_of_mem→M2,map_take→M4,getElem?_range→M6,zip_nil_right→Nj,find?_toArray→Nq,contains_cons→Nr,filter_append→Nu,zip_nil_left→NH,getElem_drop→NL,getElem_take→NM,drop_sublist→NN,mapM_toArray→NO,length→NV,perm_middle→N2,drop_append→N6,getElem_map→N7,mem_toArray→N8,mem_filter→Ob,foldl→Oc,foldl_cons→Od,find?_cons→Oo,getD→Oz,sum_cons→OF
open PySem.Challenge renaming pw_figuresort_k49_the_first_row→Il,rw_figuresort_k49_the_first_row→Jf
open Nat renaming le_refl→Im,lt_of_lt_of_le→Iu,ne_of_lt→Iy,zero_le→IZ,lt_irrefl→Jr,le_trans→Js,lt_or_ge→Jt,le_of_eq→Ju,lt_of_le_of_lt→JB,le_of_lt→JD,eq_or_lt_of_le→JT,ne_of_gt→JX,zero_add→Kn,le_succ→KY,eq_zero_or_pos→K5,sub_self→K7,lt_succ_self→Ll,lt_succ_of_lt→Mg,succ_le_succ→Mr,not_lt_zero→MD,add_assoc→M5,add_comm→Nk,lt_trichotomy→NK,log2_lt→NX,le_of_not_lt→N0,succ_ne_self→N1,min_eq_right→N9,min_le_left→On,min_eq_left→Os,sub_zero→O7,le_total→O8,not_lt→Pr
open Bool renaming false_eq_true→Iq,false_ne_true→Iv,and_eq_true→IY,not_true→Ka,eq_iff_iff→K0,false_or→Lj,not_eq_true'→Mh,or_true→Mo,and_false→MW,and_eq_true_iff→M3,true_or→Nl
open Or renaming inl→ID,inr→LU
open Array renaming getD→IE,toList_append→IJ,length_toList→Jx,toList_inj→JL,toList_extract→JZ,getD_eq_getD_getElem?→Km,getElem?_eq_none→KJ,toList_push→Ld,toList_map→Lm,getElem?_toList→Lq,perm_iff_toList_perm→LY,map_extract→Mi,size_map→MS,mem_toList_iff→M0,toList_modify→M7,find?_toList→Nf,ext_getElem?→Nn,forIn_toList→No,map_append→N4,map_push→Ou
open Option.some renaming inj→IR,injEq→NJ
open True renaming intro→IS
open PySem.Value renaming ref→IT,none→IW,isStrOf→Jq,builtin→Kc,type→Ku,int→KR,str→K2,bool→MZ,float→NT,bytes→Pa
open False renaming elim→IV
open PySem.PyData renaming keyHash→Ja,strOk→Mq,canLayAll0→NR,depthAll→Oh,canLay0→Ov
open PySem.Obj renaming mapSeq→Jc,putSet→Pq
open Ne renaming symm→Jj
open PySem.Str renaming length_append→Jm,append_assoc→Kk,ofString→Ko,cps_append→Kx,join→Lp,empty→PB,length→PN,ext'→PP
open PySem.Txt renaming split→Jp,removeprefix→Kh,join→Ms,contains→Mt
open PyProof.Rows renaming callWith_type1→JA,callWith_builtin1→Ly,text_ofNat→O9,lt_int→Ps
open PyProof.Rows.SortSt renaming mk'→JG
open Option renaming isSome_iff_exists→JJ,map_eq_some_iff→Ki,map_some→Ls,getD_none→NZ,none→Pe,map→Pk
open PySem renaming strKind→JM,mem_of_lookup→Kd,ofString_length→Lr,Builtin→LZ,Within→Nc,call→Of,frameOf→OD,update→O5,stack→Pf,alloc→Pg,load→Po,Str→Pw
open PySem.F renaming plain_max_loop→JR,excBase_ValueError→Kw,slot_str_split→KL,args_str_split_2→K8,entry_str_split→La,plainAttrs_str→Lh,slot_str_removeprefix→LG,plainAttrs_list→Mw,plain_list_iadd→Mx,entry_max_loop→ML,slot_tuple_lt→MU,typeOf_object_class→MV,attr_ValueError→NQ,slot_int_rmul→Oe,entry_bexc_ga→Ol,slot_gs_get→OE
open PySem.PassesOwn renaming never→KI
open PySem.Around renaming under_plainId→KW,under→Mm
open PySem.Heap.SameBut renaming update→KZ
open PySem.Builtin.List renaming listTooLong→K4,listExtendWith→OA
open Prod.mk renaming inj→Le
open Prod renaming snd→Lo
open PySem.Calls renaming Constant_str→LQ,spliced_cons→LS,Name_function_global→LX,spliced_nil→Me,callWith_builtin→MG
open PySem.Code renaming quiet_builtin→LV,isFrame→Ng,isGuard→O3,frames→Pc
open PySem.Builtin.Builtins renaming bindParams→LW
open List.cons renaming inj→Mb
open Sum renaming inl→Mj,inr→Ml
open PySem.Builtin.Range renaming rangeSize→Mu,small→Pu
open PySem.Heap.UpToSlots renaming of_keeps→My
open Int renaming eq_ofNat_of_zero_le→MA,natAbs_natCast→Nm,emod_lt_of_pos→Nt,toNat_natCast→NI,mul_one→NU,natCast_add→Og,emod_nonneg→Oq,mul_nonneg→Ox,le_refl→Ph
open ForIn renaming forIn→MH
open PySem.Sem renaming wp_pure→MJ
open PySem.Builtin.Getset_descriptor renaming descrCheckInstance→MK,descrNameAndClass→MM,descrGetter→Na,descrGet→NP
open List.Perm renaming refl→MP,append_left→MR,trans→Oj
open PySem.StrLaws renaming glued_eq_join→MY
open PySem.EntryCells renaming newEntry→M8
open PySem.W.Fast renaming tw10156331382660048174→Nv,tw11892475500146522536→Nw,tw14364793385576792824→Ny,te10156331382660048174→Nz,te11892475500146522536→NA,te14364793385576792824→NB,tw6613529449190102663→NC,te6613529449190102663→ND
open PySem.Heap.Ns1 renaming of_empty→NE
open PySem.Builtin.Str renaming glued→NS
open PySem.AutoListH renaming list___mul___list_int_3→NW
open PySem.Builtin.Tuple renaming tupleCompareSizes→Oa
open Array.Perm renaming refl→Oi
open MonadState renaming get→Ot
open Pure renaming pure→Oy
open PySem.Paired renaming length→OB
open PySem.EqNone renaming eq_none_none→OG,eq_none_bool→OH,eq_bool_none→OI,ne_none_none→OL,ne_none_bool→OM,ne_bool_none→ON,eq_none_int→OR,eq_none_str→OS,eq_int_none→OT,eq_str_none→OV,ne_none_int→OX,ne_none_str→OY,ne_int_none→OZ,ne_str_none→O1
open PySem.EqMixed renaming eq_bool_str→OJ,eq_str_bool→OK,ne_bool_str→OO,ne_str_bool→OP,eq_int_str→OU,eq_str_int→OW,ne_int_str→O0,ne_str_int→O2
open PySem.W.OpenLaw renaming wellSaid→OQ
open PySem.AutoSeq1 renaming sub_tuple_tuple→O4
open PySem.SeqAt renaming rcNeAt_reads→O6,eqv_refl→Pp
open PySem.IsRange renaming new→Pb
open PySem.MeetsSeq renaming list_pop_last→Pd
open PySem.W.KIN renaming call_text→Pi
open PySem.W.RowW renaming records→Pj
open PySem.Walks renaming list→Pl
open PySem.Draws renaming list→Pn
open PySem.SeqAt.EqAt renaming int_str→Px,str_int→Py,int_int→PC
open PySem.W.Looks renaming here→Pz
open PySem.Heap.IsSliceOf renaming new→PD
open Lean.Name renaming mkSimple→PF
open PySem.Within renaming cons→PH
open List.Pairwise renaming nil→PJ
open PySem.DictEntry renaming refKey→PK
open PySem.IsL renaming update→PL
open MonadStateOf renaming set→PM
open PySem.Value.ref renaming inj→PQ
open List.Mem renaming tail→PU,head→PV
set_option Elab.async false
set_option maxRecDepth 100000
set_option maxHeartbeats 0
namespace Fs
open PySem PySem.Spec PyProof.Rows
local macro_rules
 | `(tactic| o_head $_)=>`(tactic| assumption)
open PySem PySem.W PyProof.Rows in
theorem Kf (h:Jf.row.Holds):Jf.row.Holds:=by
 w_on; k_head
open PySem PySem.W PyProof.Rows in
def asF:List Addr:=[2,3,15,22,23,24,25,28,35,36,37,40,47,48,49,52,59,61,62,64,65,66,67,68,71,78,80,81,83,84,85,86,87,90,92,93,95,96,97,99,100,102,103,104,106,107,109,110,111,114,115,116,118,119,121,122,123,126,127,128,130,131,133,134,135,138,139,140,143,144,145,147,148,150,151,152,154,155,157,158,159,161,162,164,165,166,168,169,171,172,173,175,176,178,179,180,183,184,185,187,188,190,191,192,194,195,197,198,199,201,202,204,205,213,216,217,218,220,221,223,224,225,227,228,230,231,232,234,235,237,238,239,241,242,244,245,246,248,249,251,252,253,256,257,258,260,261,263,264,265,267,268,270,271,272,273,274,275,276,279,281,282,284,285,286,289,290,291,293,294,296,297,298,300,301,303,304,305,308,309,310,312,313,315,316,317,320,321,322,324,325,327,328,329,331,332,334,335,343,345,346,348,349,350,353,354,355,357,358,360,361,362,365,366,367,369,370,372,373,374,377,378,379,381,382,384,385,386,387,388,389,390,393,395,396,398,399,407,410,411,412,414,415,417,418,419,422,423,424,426,427,429,430,431,433,434,436,437,438,439,440,441,442,445,447,448,450,451,452,454,455,457,458,459,461,462,464,465,466,468,469,471,472,473,476,477,478,481,482,483,486,487,488,491,492,493,495,496,498,499,500,503,504,505,508,509,510,512,513,515,516,517,520,521,522,524,525,527,528,529,532,533,534,537,538,539,542,543,544,545,546,547,549,550,552,553,554,556,557,559,560,561,564,565,566,569,570,571,573,574,576,577,578,580,581,583,584,585,587,588,590,591,592,594,595,597,598,599,600,602,603,605,606,607,609,610,612,613,614,616,617,619,620,621,623,624,626,627,628,631,632,633,636,637,638,641,642,650,652,653,655,656,657,658,659,660,661,664,666,667,669,670,671,673,674,676,677,678,681,682,683,685,686,688,689,690,692,693,695,696,697,699,700,702,703,704,706,707,709,710,711,713,714,716,717,718,721,722,723,725,726,728,729,730,733,734,735,737,738,740,741,742,744,745,747,748,749,751,752,754,755,756,757,759,760,762,763,764,766,767,769,770,771,773,774,776,777,778,780,781,783,784,785,788,789,790,792,793,795,796,797,799,800,802,803,804,806,807,809,810,811,813,814,816,817,818,820,821,823,824,825,827,828,830,831,832,834,835,837,838,839,842,843]
open PySem PySem.W PyProof.Rows in
@[reducible] noncomputable def j7:Hook:=kmHook Kf.heap_1 asF (λ _=>by kernel_rfl) [555,200]
def GO (i:Nat):Stmt:=Il.main.body.getD i (.Pass ⟨0,0,0,0⟩)
def vwF:Program:={ Il with main:={ Il.main with body:=[1,2,3,4,5,7,8,9,10,11,12,13,15,16,17,18,20,21,22,23,24,25,26,28,29,30,32,33,34,35,36,37,39,40,42,43,45,46,48,49,50,51,52,53,54,55,57,58,60,61,62,63,64,65,66,67,68,69,70,71,73,74,75,76,77,78,79,80,81,82,83,84,85,86,87,88,89,90,92,93,94,95,96,97,98,99,100,101,102,103,104,105,106,107,108,109,110,111,112,113,114,115,116,117,119,120,121,122,123,124].map GO } }
def loF:List Pw:=["AHEAD","DONE","READERS","ASKS"]
def xtF (s:Shared):Bool:=PySem.W.xlAt vwF [] s && PySem.W.recOk (Pj Jf.row.toRowW) s
open PySem.W in
noncomputable def yA (P:Params):BT:=((((((((((BT.nil.ins 0 (boot_o_0 P)).ins 1 (boot_o_1 P)).ins 2 (boot_o_2 P)).ins 3 (boot_o_3 P)).ins 4 (boot_o_4 P)).ins 5 (boot_o_5 P)).ins 6 (boot_o_6 P)).ins 7 (boot_o_7 P)).ins 8 (boot_o_8 P)).ins 9 (boot_o_9 P)).ins 10 (boot_o_10 P)
open PySem.W in
theorem vx (P:Params):absHeap (yA P) 11 (boot_heap P).life=boot_heap P:=by kernel_rfl
open PySem.W in
noncomputable def lc (p:Program) (w:World) (n0:Nat) (ann:Option Value):Nat->SharedT->Thread->Option SharedT
 | 0,_,_=>none
 | n+1,s,t=>match through t with
  | true=>some s
  | false=>match NC n0 ann t with
   | false=>none
   | true=>match Nv (Nw Ny) p w s t with
    | some (s',t')=>lc p w n0 ann n s' t'
    | none=>none
open PySem.W in
theorem kq {p:Program} {w:World} {n0:Nat} {ann:Option Value}:∀ {n:Nat} {s s':SharedT} {t:Thread},lc p w n0 ann n s t=some s'->topRun treeTable p w n0 ann n s.abs t=some s'.abs
 | 0,_,_,_,h=>by cases h
 | n+1,s,s',t,h=>by
  unfold lc at h
  rw [<-ND,<-Nz,<-NA,<-NB] at h
  unfold topRun
  cases ht:through t with
  | true=>rw [ht] at h; cases h; rfl
  | false=>
   rw [ht] at h
   cases hk:stepOk n0 ann t with
   | false=>rw [hk] at h; cases h
   | true=>
    rw [hk] at h
    cases hs:stepT (denote treeTable) p w s t with
    | none=>rw [hs] at h; cases h
    | some r=>obtain ⟨s2,t2⟩:=r; rw [hs] at h; rw [stepT_spec hs]; exact kq h
open PySem.W in
theorem Ea {p q:Program} {loose:List Pw} {Xt:Shared->Bool} {α:Type} {Yf:Shared->α} {Ya:World->α} {N:Nat} {g0:Bool} (row:String)
  (h:∀ (b:Bool) (w:World),(fencedOpening treeTable p w N).map (λ s₀=>(topFrom treeTable p (w.withFollow row b) N s₀).map (λ s=>(openSeen q loose (importedModules p.main.body) Xt g0 s,Yf s)))=some (some (openGood q loose,Ya (w.withFollow row b)))):LeftO p q loose Xt Yf Ya N g0:=by
 refine LeftO.of_split row λ w=>?_
 obtain ⟨s,a,b⟩:=Ki.mp (h false w)
 obtain ⟨s',a',b'⟩:=Ki.mp (h true w)
 rw [a] at a'; cases a'
 rw [a,Ls,b,b']
open PySem.W in
def Dx (b:Bool) (w:World):Prop:=(fencedOpening treeTable Il w 11500).map (λ s₀=>(topFrom treeTable Il (w.withFollow "special-get-raises" b) 11500 s₀).map (λ s=>(openSeen vwF loF (importedModules Il.main.body) xtF true s,Hook.obs j7 s)))=some (some (openGood vwF loF,Hook.val j7 (w.withFollow "special-get-raises" b)))
open PySem.W in
noncomputable def yB (b:Bool) (w:World) (os:OsState):Option SharedT:=lc Il (w.withFollow "special-get-raises" b) 11 ((boot_heap w.params).nsMap mainGlobals "__annotations__") 11500 ⟨yA w.params,11,(boot_heap w.params).life,Array.mk [],boot_drawn,boot_toks,os⟩ (topStub Il)
open PySem.W in
def Pt0 (b:Bool) (w:World):Prop:=(λ os=>(yB b w os).map (λ sT=>((staticsOk (importedModules Il.main.body) (boot_heap w.params) sT.abs.heap && namesBound Il sT.abs.heap && gensDone sT.abs && laidKept (boot_heap w.params) sT.abs.heap),sT.abs.heap.bltView,(true && sT.abs.heap.accountedOkI (importedModules Il.main.body) && sT.abs.heap.isNs mainGlobals && sT.abs.heap.isNs builtinsNs && tablesOk vwF sT.abs.heap && xtF sT.abs && (if true=true then sT.abs.gens.size == 0 else !leftWithCleanup sT.abs.gens)),plainSeenD vwF loF sT.abs,clsSeenW vwF loF sT.abs,pinSeenD vwF (drecsOf vwF) sT.abs)))=λ _=>some (true,bltViewBooted,true,plainGoodD vwF loF,clsGoodW vwF loF,pinGoodD (drecsOf vwF))
open PySem.W in
def Pt1 (b:Bool) (w:World):Prop:=(λ os=>(yB b w os).map (λ sT=>seen ((recsOf vwF).map (·.name)) (ownsOf vwF) [] { sT.abs with gens:=#[] }))=λ _=>some (expectedOf vwF)
open PySem.W in
def Pt2 (b:Bool) (w:World):Prop:=(λ os=>(yB b w os).map (λ sT=>sT.abs.heap.keysOk (looseW vwF loF) ((recsOf vwF).map (·.name)) ((litsOf vwF).map (·.1)) ((clssOf vwF (looseW vwF loF)).map (·.name))))=λ _=>some (true)
open PySem.W in
def Pt3 (b:Bool) (w:World):Prop:=(λ os=>(yB b w os).map (λ sT=>tabsOk vwF sT.abs))=λ _=>some (true)
open PySem.W in
def Pt4 (b:Bool) (w:World):Prop:=(λ os=>(yB b w os).map (λ sT=>plainSeenE vwF (looseW vwF loF) sT.abs))=λ _=>some (plainGoodE vwF (looseW vwF loF))
open PySem.W in
def Pt5 (b:Bool) (w:World):Prop:=(λ os=>(yB b w os).map (λ sT=>wideSeen vwF sT.abs))=λ _=>some (wideGood vwF)
open PySem.W in
def Pt6 (b:Bool) (w:World):Prop:=(λ os=>(yB b w os).map (λ sT=>Hook.obs j7 sT.abs))=λ _=>some (Hook.val j7 (w.withFollow "special-get-raises" b))
open PySem.W in
theorem Eb (P:Params):((boot_heap P).isNs mainGlobals,(boot_heap P).objs.size)=(true,11):=by kernel_rfl
open PySem.W in
theorem Bt:opening Il=plainProg Il.main.scope.names:=by rfl
open PySem.W in
theorem Bu (s:Shared):fenceModules? Il s=some s:=by rfl
theorem Eg:OQ Jf=true:=by kernel_rfl
theorem p0f (w:World):Pt0 false w:=by unfold Pt0; kernel_rfl
theorem p0t (w:World):Pt0 true w:=by unfold Pt0; kernel_rfl
theorem p1f (w:World):Pt1 false w:=by unfold Pt1; kernel_rfl
theorem p1t (w:World):Pt1 true w:=by unfold Pt1; kernel_rfl
theorem p2f (w:World):Pt2 false w:=by unfold Pt2; kernel_rfl
theorem p2t (w:World):Pt2 true w:=by unfold Pt2; kernel_rfl
theorem p3f (w:World):Pt3 false w:=by unfold Pt3; kernel_rfl
theorem p3t (w:World):Pt3 true w:=by unfold Pt3; kernel_rfl
theorem p4f (w:World):Pt4 false w:=by unfold Pt4; kernel_rfl
theorem p4t (w:World):Pt4 true w:=by unfold Pt4; kernel_rfl
theorem p5f (w:World):Pt5 false w:=by unfold Pt5; kernel_rfl
theorem p5t (w:World):Pt5 true w:=by unfold Pt5; kernel_rfl
theorem p6f (w:World):Pt6 false w:=by unfold Pt6; kernel_rfl
theorem p6t (w:World):Pt6 true w:=by unfold Pt6; kernel_rfl
open PySem.W in
theorem xz {b:Bool} {w:World} (q0:Pt0 b w) (q1:Pt1 b w) (q2:Pt2 b w) (q3:Pt3 b w) (q4:Pt4 b w) (q5:Pt5 b w) (q6:Pt6 b w):Dx b w:=by
 obtain ⟨⟨hp,gs,d,k,os⟩,e,e'⟩:=Ki.mp (boot_open (p:=Il) (N:=11500) Bt rfl Bu w)
 obtain ⟨rfl,rfl,rfl,rfl⟩:hp=boot_heap w.params/\gs=Array.mk []/\d=boot_drawn/\k=boot_toks:=by simpa using e'
 obtain ⟨sT,hs,v0⟩:=Ki.mp (congrFun q0 os)
 have v1:=congrFun q1 os
 rw [hs] at v1
 replace v1:=IR v1
 dsimp only at v1
 have v2:=congrFun q2 os
 rw [hs] at v2
 replace v2:=IR v2
 dsimp only at v2
 have v3:=congrFun q3 os
 rw [hs] at v3
 replace v3:=IR v3
 dsimp only at v3
 have v4:=congrFun q4 os
 rw [hs] at v4
 replace v4:=IR v4
 dsimp only at v4
 have v5:=congrFun q5 os
 rw [hs] at v5
 replace v5:=IR v5
 dsimp only at v5
 have v6:=congrFun q6 os
 rw [hs] at v6
 replace v6:=IR v6
 dsimp only at v6
 obtain ⟨y0_0,z0_0⟩:=Le v0
 obtain ⟨y0_1,z0_1⟩:=Le z0_0
 obtain ⟨y0_2,z0_2⟩:=Le z0_1
 obtain ⟨y0_3,z0_3⟩:=Le z0_2
 obtain ⟨y0_4,z0_4⟩:=Le z0_3
 have r:=kq hs
 rw [show SharedT.abs ⟨yA w.params,11,(boot_heap w.params).life,Array.mk [],boot_drawn,boot_toks,os⟩=⟨boot_heap w.params,Array.mk [],boot_drawn,boot_toks,os⟩ by unfold SharedT.abs; rw [vx]] at r
 obtain ⟨z1,z2⟩:=Le (Eb w.params)
 unfold Dx
 rw [e]
 refine congrArg some ?_
 have tf:topFrom treeTable Il (w.withFollow "special-get-raises" b) 11500 ⟨boot_heap w.params,Array.mk [],boot_drawn,boot_toks,os⟩=some sT.abs:=by
  unfold topFrom
  dsimp only
  rw [z1,z2,r]
  show (match _ with | true=>some sT.abs | false=>none)=_
  rw [y0_0]
 show Pk _ (topFrom treeTable Il (w.withFollow "special-get-raises" b) 11500 ⟨boot_heap w.params,Array.mk [],boot_drawn,boot_toks,os⟩)=_
 rw [tf]
 refine congrArg some (congr (congrArg Prod.mk ?_) v6)
 unfold openSeen openGood
 rw [v1,y0_1,v2,y0_2,v3,z0_4,v4,y0_3,v5,y0_4]
theorem Ec (w:World):Dx false w:=xz (p0f w) (p1f w) (p2f w) (p3f w) (p4f w) (p5f w) (p6f w)
theorem Ed (w:World):Dx true w:=xz (p0t w) (p1t w) (p2t w) (p3t w) (p4t w) (p5t w) (p6t w)
open PySem.W in
theorem Ef:LeftO Il vwF loF xtF (Hook.obs j7) (Hook.val j7) 11500:=Ea "special-get-raises" λ b w=>by cases b; exact Ec w; exact Ed w
end Fs
set_option compiler.extract_closed false
set_option Elab.async false
set_option linter.all false
set_option maxRecDepth 100000
namespace L2
open PySem PySem.Spec PyProof.Rows
noncomputable abbrev Key:=Sum Int Str
noncomputable def Bv:Key->Value->Bool
 | .inl k,v=>Value.isInt k v
 | .inr x,v=>Jq x v
noncomputable def GP (w:World):Key->Int
 | .inl k=>hashInt k
 | .inr x=>hashStr w x
theorem aO:∀ {k:Key} {v:Value},Bv k v=true->(∃ i t,k=Mj i/\v=KR i t)\/(∃ x t,k=Ml x/\v=K2 x t)
 | .inl i,v,h=>by
  obtain ⟨t,e⟩:=Value.isInt_shape (k:=i) (v:=v) h
  exact .inl ⟨i,t,rfl,e⟩
 | .inr x,v,h=>by
  obtain ⟨t,e⟩:=Value.isStrOf_shape (x:=x) (v:=v) h
  exact .inr ⟨x,t,rfl,e⟩
theorem Bw (a b:Int):decide ((Mj a:Key)=Mj b)=(a == b):=by
 by_cases e:a=b
 ·subst e; simp
 ·have h:¬ (Mj a:Key)=Mj b:=λ q=>e (Sum.inl.inj q)
  rw [decide_eq_false h]
  exact (beq_eq_false_iff_ne.mpr e).symm
theorem Bx (a b:Str):decide ((Ml a:Key)=Ml b)=decide (a=b):=by
 by_cases e:a=b
 ·subst e; simp
 ·have h:¬ (Ml a:Key)=Ml b:=λ q=>e (Sum.inr.inj q)
  rw [decide_eq_false h,decide_eq_false e]
theorem By (a:Int) (b:Str):decide ((Mj a:Key)=Ml b)=false:=decide_eq_false (λ q=>nomatch q)
theorem Bz (a:Str) (b:Int):decide ((Ml a:Key)=Mj b)=false:=decide_eq_false (λ q=>nomatch q)
noncomputable def nK (prog:Program) (w:World):PySem.KeyKind prog w Key where
 is:=Bv
 hash:=GP w
 inj:=λ v a b ha hb=>by
  rcases aO ha with ⟨i,t,rfl,rfl⟩ | ⟨x,t,rfl,rfl⟩
  ·rcases aO hb with ⟨j,u,rfl,e⟩ | ⟨y,u,rfl,e⟩
   ·injection e with e1 _; rw [e1]
   ·exact nomatch e
  ·rcases aO hb with ⟨j,u,rfl,e⟩ | ⟨y,u,rfl,e⟩
   ·exact nomatch e
   ·injection e with e1 _; rw [e1]
 byValue:=λ k v h=>by
  rcases aO h with ⟨i,t,rfl,rfl⟩ | ⟨x,t,rfl,rfl⟩<;>rfl
 pyHash:=λ hv h=>by
  rcases aO hv with ⟨i,t,rfl,rfl⟩ | ⟨x,t,rfl,rfl⟩
  ·exact wpAny_pyHash_int h
  ·exact wpAny_pyHash_str h
 eqBool:=λ hu hv h=>by
  rcases aO hu with ⟨i,t,rfl,rfl⟩ | ⟨x,t,rfl,rfl⟩
  ·rcases aO hv with ⟨j,u,rfl,rfl⟩ | ⟨y,u,rfl,rfl⟩
   ·rw [Bw] at h; exact wpAny_eqBool_int h
   ·rw [By] at h; exact Px i t y u _ _ _ _ h
  ·rcases aO hv with ⟨j,u,rfl,rfl⟩ | ⟨y,u,rfl,rfl⟩
   ·rw [Bz] at h; exact Py x t j u _ _ _ _ h
   ·rw [Bx] at h; exact wpAny_eqBool_str h
 «strs»:=λ k x t v h=>by
  rcases aO h with ⟨i,u,rfl,e⟩ | ⟨y,u,rfl,e⟩
  ·exact nomatch e
  ·injection e with e1 _
   subst e1
   cases v<;>rfl
inductive V where
 | non | bl (b:Bool) | int (i:Int) | str (x:Str) | byt (b:Array UInt8) | flt (b:UInt64) | ref (a:Addr) | ty (n:String)
 deriving DecidableEq
noncomputable def RelV:V->Value->Prop
 | .non,u=>u=IW
 | .bl b,u=>u=MZ b
 | .int i,u=>∃ t,u=KR i t
 | .str x,u=>∃ t,u=K2 x t
 | .byt b,u=>∃ t,u=Pa b t
 | .flt b,u=>∃ t,u=NT b t
 | .ref a,u=>u=IT a
 | .ty n,u=>u=Ku n
noncomputable abbrev Vals:List V->List Value->Prop:=Paired RelV
theorem Vals.length {xs:List V} {us:List Value} (r:Vals xs us):xs.length=us.length:=OB r
theorem Vals.get:∀ {xs:List V} {us:List Value} {i:Nat} {x:V},Vals xs us->xs[i]? = some x->∃ u,us[i]? = some u/\RelV x u
 | _,_,_,_,.nil,e=>by simp at e
 | _,_,0,_,.cons r _,e=>by simp at e; subst e; exact ⟨_,rfl,r⟩
 | _,_,i+1,x,.cons _ t,e=>by
  obtain ⟨u,h1,h2⟩:=Vals.get (i:=i) (x:=x) t (by simpa using e)
  exact ⟨u,by simpa using h1,h2⟩
theorem Vals.set {x:V} {u:Value} (r:RelV x u):∀ {xs:List V} {us:List Value} (i:Nat),Vals xs us->Vals (xs.set i x) (us.set i u)
 | _,_,_,.nil=>.nil
 | _,_,0,.cons _ t=>.cons r t
 | _,_,i+1,.cons q t=>.cons q (Vals.set r i t)
theorem Vals.append:∀ {xs ys:List V} {us ws:List Value},Vals xs us->Vals ys ws->Vals (xs++ys) (us++ws)
 | _,_,_,_,.nil,s=>s
 | _,_,_,_,.cons r t,s=>.cons r (Vals.append t s)
theorem Vals.take:∀ {xs:List V} {us:List Value} (n:Nat),Vals xs us->Vals (xs.take n) (us.take n)
 | _,_,0,_=>.nil
 | _,_,_+1,.nil=>.nil
 | _,_,n+1,.cons r t=>.cons r (Vals.take n t)
theorem Vals.drop:∀ {xs:List V} {us:List Value} (n:Nat),Vals xs us->Vals (xs.drop n) (us.drop n)
 | _,_,0,r=>r
 | _,_,_+1,.nil=>.nil
 | _,_,n+1,.cons _ t=>Vals.drop n t
noncomputable def RelO:Option V->Option Value->Prop
 | some v,some u=>RelV v u
 | none,none=>True
 | _,_=>False
noncomputable def KV {κ:Type}:List (κ×V)->List (κ×Value)->Prop:=Paired λ (p:κ×V) (q:κ×Value)=>p.1=q.1/\RelV p.2 q.2
noncomputable def kV:Key->V
 | .inl i=>.int i
 | .inr x=>.str x
inductive HO where
 /-- a list -/
 | lst (xs:List V)
 /-- a tuple (never changes) -/
 | tup (xs:List V)
 /-- a dict whose keys are ints and texts; one whose keys are tuples of ints and texts (the empty one is both) -/
 | dK (kvs:List (Key×V)) | dT (kvs:List (List Key×V))
 /-- a set of ints: its members,its size -/
 | set (S:Int->Bool) (n:Nat)
 /-- an instance of the class at C,its dict at dx,its attributes -/
 | ins (C dx:Addr) (fs:List (Str×V))
 /-- the dict of the instance at x -/
 | own (x:Addr)
 /-- the dict of an exception -/
 | xd (fs:List (Str×V))
 /-- a bound method,f of x -/
 | met (f x:Addr)
 /-- a range object lo,lo+1,.. below hi -/
 | rng (lo hi:Int)
 /-- a thing that is known to the object (the script; a dict while a loop walks it): read,never written while it is so -/
 | frz (o:Obj) (u:HO)
 /-- a code object's table -/
 | tbl (ps:Array Value)
 /-- any other thing,by what is true of its one object (a def of one's own: SetO a S n:=HO.ext λ h=>..) -/
 | ext (φ:Heap->Prop)
noncomputable abbrev Hp:=Addr->Option HO
noncomputable def upd (H:Hp) (a:Addr) (o:HO):Hp:=λ b=>if b=a then some o else H b
theorem aa {H:Hp} {a:Addr} {o:HO}:upd H a o a=some o:=by unfold upd; rw [if_pos rfl]
theorem ag {H:Hp} {a b:Addr} {o:HO} (h:b≠a):upd H a o b=H b:=by unfold upd; rw [if_neg h]
theorem yC {H:Hp} {a:Addr} {o u:HO}:upd (upd H a o) a u=upd H a u:=by
 funext b; unfold upd; split<;>rfl
theorem lT {H:Hp} {a b:Addr} {o u:HO} (h:H a=some o) (h':H b=some u) (d:o≠u):a≠b:=by
 intro e; subst e; rw [h] at h'; exact d (IR h')
theorem ao {H:Hp} {a b:Addr} {o:HO} (h:H a=some o) (h':H b=none):a≠b:=by
 intro e; subst e; rw [h] at h'; cases h'
section
variable (P:Program) (w:World)
noncomputable def ObjOk (H:Hp) (h:Heap) (a:Addr):HO->Prop
 | .lst xs=>xs.length<=sizeLine/\∃ (its:List Value) (n:Nat),Vals xs its/\h.get? a=some { cls:=.type "list",data:=.seq its.toArray n }
 | .tup xs=>xs.length<=sizeLine/\∃ its:List Value,Vals xs its/\IsTup h a its.toArray
 | .dK kvs=>kvs.length<=sizeLine/\(a == sysModules)=false/\∃ vs,KV kvs vs/\h.DictOf (nK P w) a vs
 | .dT kvs=>kvs.length<=sizeLine/\(a == sysModules)=false/\∃ xs:List (List Key×Addr×Value),
   Paired (λ (p:List Key×V) (q:List Key×Addr×Value)=>p.1=q.1/\H q.2.1=some (.tup (p.1.map kV))/\RelV p.2 q.2.2) kvs xs/\
   ∃ o es ep,h.get? a=some o/\o.ExactDict/\o.data=.dict es ep/\es.toList=xs.map (entryOfKey (tupleKind (nK P w)))/\(xs.map (·.1)).Nodup
 | .set S n=>h.SetOf (intKind P w) a S n
 | .ins C dx fs=>H dx=some (.own a)/\fs.length<=1000/\dx≠a/\h.get? a=some (JW C dx)/\
   ∃ mA,h.Ns1 dx mA/\(∀ f,RelO (fs.lookup f) (mA f))/\Nc mA (fs.map (·.1))
 | .own _=>∃ o,h.get? a=some o
 | .xd fs=>∃ mA,h.Ns1 a mA/\∀ f,RelO (fs.lookup f) (mA f)
 | .rng lo hi=>∃ t u v,h.get? a=some { cls:=.type "range",data:=.fields #[.int lo t,.int hi u,.int 1 v] }
 | .frz o u=>h.get? a=some o/\ObjOk H h a u
 | .tbl ps=>h.get? a=some { cls:=.none,data:=.fields ps }
 | .met f x=>h.get? a=some (Mc (.ref f) (.ref x))
 | .ext φ=>φ h/\(∃ o,h.get? a=some o)/\∀ h1 h2:Heap,φ h1->(∀ o,h1.get? a=some o->h2.get? a=some o)->φ h2
noncomputable def HOk (H:Hp) (h:Heap):Prop:=∀ a o,H a=some o->ObjOk P w H h a o
end
section
variable {P:Program} {w:World} {H H':Hp} {h h':Heap} {a:Addr} {o:HO}
theorem ObjOk.lt (x:ObjOk P w H h a o):a<h.objs.size:=by
 cases o with
 | lst xs=>obtain ⟨_,_,_,_,e⟩:=x; exact Ip e
 | tup xs=>obtain ⟨_,_,_,p⟩:=x; exact p.lt
 | dK kvs=>obtain ⟨_,_,_,_,o,_,_,e,_⟩:=x; exact Ip e
 | dT kvs=>obtain ⟨_,_,_,_,o,_,_,e,_⟩:=x; exact Ip e
 | set S n=>obtain ⟨o,_,_,_,e,_⟩:=x; exact Ip e
 | ins C dx fs=>obtain ⟨_,_,_,e,_⟩:=x; exact Ip e
 | own y=>obtain ⟨_,e⟩:=x; exact Ip e
 | xd fs=>obtain ⟨_,⟨_,_,_,e,_⟩,_⟩:=x; exact Ip e
 | rng lo hi=>obtain ⟨_,_,_,e⟩:=x; exact Ip e
 | frz ob u=>obtain ⟨e,_⟩:=x; exact Ip e
 | tbl ps=>exact Ip (show h.get? a=some _ from x)
 | met f y=>exact Ip (show h.get? a=some _ from x)
 | ext φ=>obtain ⟨_,⟨_,e⟩,_⟩:=x; exact Ip e
theorem Paired.mapP {α β:Type} {F G:α->β->Prop}:∀ {l₁:List α} {l₂:List β},Paired F l₁ l₂->(∀ a b,F a b->G a b)->Paired G l₁ l₂
 | _,_,.nil,_=>.nil
 | _,_,.cons r t,f=>.cons (f _ _ r) (Paired.mapP t f)
theorem ObjOk.stay (x:ObjOk P w H h a o) (k:∀ b u,(b=a\/H b=some (.own a))->h.get? b=some u->h'.get? b=some u)
  (ho:∀ b,H b=some (.own a)->H' b=some (.own a)) (ht:∀ b xs,H b=some (.tup xs)->H' b=some (.tup xs)):ObjOk P w H' h' a o:=by
 induction o with
 | lst xs=>obtain ⟨z,its,n,r,e⟩:=x; exact ⟨z,its,n,r,k _ _ (.inl rfl) e⟩
 | tup xs=>obtain ⟨z,its,r,ob,e,c⟩:=x; exact ⟨z,its,r,ob,k _ _ (.inl rfl) e,c⟩
 | dK kvs=>obtain ⟨z,y,vs,r,ob,es,ep,e,c⟩:=x; exact ⟨z,y,vs,r,ob,es,ep,k _ _ (.inl rfl) e,c⟩
 | dT kvs=>
  obtain ⟨z,y,xs,r,ob,es,ep,e,c⟩:=x
  exact ⟨z,y,xs,Paired.mapP r λ p q z=>⟨z.1,ht _ _ z.2.1,z.2.2⟩,ob,es,ep,k _ _ (.inl rfl) e,c⟩
 | set S n=>obtain ⟨ob,es,ep,t,e,c⟩:=x; exact ⟨ob,es,ep,t,k _ _ (.inl rfl) e,c⟩
 | ins C dx fs=>
  obtain ⟨d,z,ne,e,mA,⟨od,es,ep,e2,c⟩,r⟩:=x
  exact ⟨ho _ d,z,ne,k _ _ (.inl rfl) e,mA,⟨od,es,ep,k _ _ (.inr d) e2,c⟩,r⟩
 | own y=>obtain ⟨ob,e⟩:=x; exact ⟨ob,k _ _ (.inl rfl) e⟩
 | xd fs=>obtain ⟨mA,⟨od,es,ep,e,c⟩,r⟩:=x; exact ⟨mA,⟨od,es,ep,k _ _ (.inl rfl) e,c⟩,r⟩
 | rng lo hi=>obtain ⟨t,u,v,e⟩:=x; exact ⟨t,u,v,k _ _ (.inl rfl) e⟩
 | frz ob u ih=>obtain ⟨e,q⟩:=x; exact ⟨k _ _ (.inl rfl) e,ih q⟩
 | tbl ps=>
  have e:h.get? a=some { cls:=.none,data:=.fields ps }:=x
  show h'.get? a=some { cls:=.none,data:=.fields ps }
  exact k a _ (.inl rfl) e
 | met f y=>
  have e:h.get? a=some (Mc (.ref f) (.ref y)):=x
  show h'.get? a=some (Mc (.ref f) (.ref y))
  exact k a _ (.inl rfl) e
 | ext φ=>obtain ⟨p,⟨o,e⟩,st⟩:=x; exact ⟨st _ _ p λ o q=>k _ _ (.inl rfl) q,⟨o,k _ _ (.inl rfl) e⟩,st⟩
theorem HOk.lt (x:HOk P w H h) (e:H a=some o):a<h.objs.size:=(x a o e).lt
theorem HOk.fresh (x:HOk P w H h) (e:h.objs.size<=a):H a=none:=by
 cases q:H a with
 | none=>rfl
 | some u=>exact absurd (Iu (x.lt q) e) (Jr _)
theorem HOk.kept (x:HOk P w H h) (k:∀ b u,h.get? b=some u->h'.get? b=some u):HOk P w H h':=λ a o e=>
 (x a o e).stay (λ b u _ q=>k b u q) (λ _ q=>q) λ _ _ q=>q
theorem HOk.laid (x:HOk P w H h) (k:∀ b u,h.get? b=some u->h'.get? b=some u) (hp:h.objs.size<=a) (new:ObjOk P w (upd H a o) h' a o):HOk P w (upd H a o) h':=λ b u e=>by
 have hn:=x.fresh hp
 by_cases hb:b=a
 ·subst hb; rw [aa] at e; cases e; exact new
 ·rw [ag hb] at e
  exact (x b u e).stay (λ c v _ q=>k c v q) (λ c q=>by rw [ag (ao q hn)]; exact q) λ c xs q=>by rw [ag (ao q hn)]; exact q
end
noncomputable def Rd (H:Hp) (a:Addr) (u:HO):Prop:=H a=some u\/∃ o,H a=some (.frz o u)
theorem Rd.ok {P:Program} {w:World} {H:Hp} {h:Heap} {a:Addr} {u:HO} (r:Rd H a u) (x:HOk P w H h):ObjOk P w H h a u:=by
 rcases r with r | ⟨o,r⟩
 ·exact x a u r
 ·obtain ⟨_,q⟩:=x a _ r
  exact q
noncomputable def Mut:Option HO->Prop
 | some (.lst _)=>True
 | some (.dK _)=>True
 | some (.dT _)=>True
 | some (.set _ _)=>True
 | some (.ins _ _ _)=>True
 | some (.ext _)=>True
 | _=>False
section
variable {P:Program} {w:World} {H:Hp} {h h':Heap} {x e:Addr} {o':HO}
theorem HOk.write (ok:HOk P w H h) (mu:Mut (H x)) (he:e=x\/H e=some (.own x)) (k:∀ b u,b≠e->h.get? b=some u->h'.get? b=some u) (heo:∃ u,h'.get? e=some u)
  (new:ObjOk P w (upd H x o') h' x o'):HOk P w (upd H x o') h':=λ b u q=>by
 have nown:∀ c y,H c=some (.own y)->c≠x:=λ c y r z=>by subst z; rw [r] at mu; exact mu
 have ntup:∀ c xs,H c=some (.tup xs)->c≠x:=λ c xs r z=>by subst z; rw [r] at mu; exact mu
 by_cases hb:b=x
 ·subst hb; rw [aa] at q; cases q; exact new
 ·rw [ag hb] at q
  by_cases hbe:b=e
  ·have q':H b=some (.own x):=by
    rcases he with z | z
    ·exact absurd (hbe.trans z) hb
    ·rw [hbe]; exact z
   rw [q] at q'; cases q'
   obtain ⟨v,hv⟩:=heo
   exact ⟨v,by rw [hbe]; exact hv⟩
  ·refine (ok b u q).stay (λ c v hc r=>k c v ?_ r) (λ c r=>by rw [ag (nown c b r)]; exact r) λ c xs r=>by rw [ag (ntup c xs r)]; exact r
   rcases hc with rfl | hc
   ·exact hbe
   ·rintro rfl
    rcases he with z | z
    ·exact nown c b hc z
    ·rw [hc] at z; cases z; exact hb rfl
end
structure Un (fs ex:List Addr) (H H':Hp) (h h':Heap):Prop where
 keep:∀ b o,h.get? b=some o->H b=none->b∉fs->b∉ex->h'.get? b=some o
 slot:∀ b o,h.get? b=some o->H b=none->b∈fs->b∉ex->∃ sl,h'.get? b=some { o with slots:=sl }
 free:∀ b o,h.get? b=some o->H b=none->b∉ex->H' b=none
 there:∀ b o,h.get? b=some o->b∉ex->∃ o',h'.get? b=some o'
 tups:∀ b xs,H b=some (.tup xs)->H' b=some (.tup xs)
 frzs:∀ b o u,H b=some (.frz o u)->H' b=some (.frz o u)
 tbls:∀ b ps,H b=some (.tbl ps)->∃ more,H' b=some (.tbl (ps++more))
section
variable {fs fs' ex ex':List Addr} {H H1 H2:Hp} {h h1 h2 h':Heap} {a x e:Addr} {o:HO}
theorem Un.any (u:Un fs ex H H1 h h1) {b:Addr} {ob:Obj} (q:h.get? b=some ob) (n:H b=none) (hx:b∉ex):∃ sl,h1.get? b=some { ob with slots:=sl }:=by
 by_cases hb:b∈fs
 ·exact u.slot b ob q n hb hx
 ·exact ⟨ob.slots,u.keep b ob q n hb hx⟩
theorem Un.kept (k:∀ b u,h.get? b=some u->h'.get? b=some u):Un fs ex H H h h':=
 ⟨λ b ob q _ _ _=>k b ob q,λ b ob q _ _ _=>⟨ob.slots,k b ob q⟩,λ _ _ _ n _=>n,λ b ob q _=>⟨ob,k b ob q⟩,λ _ _ q=>q,λ _ _ _ q=>q,λ _ ps q=>⟨#[],by rw [q]; simp⟩⟩
theorem Un.refl:Un fs ex H H h h:=Un.kept λ _ _ q=>q
theorem Un.laid (k:∀ b u,h.get? b=some u->h'.get? b=some u) (hp:h.objs.size<=a) (hn:H a=none):Un fs ex H (upd H a o) h h' where
 keep:=λ b u q _ _ _=>k b u q
 slot:=λ b u q _ _ _=>⟨u.slots,k b u q⟩
 free:=λ b u q n _=>by rw [ag (Iy (Iu (Ip q) hp))]; exact n
 there:=λ b u q _=>⟨u,k b u q⟩
 tups:=λ b xs q=>by rw [ag (ao q hn)]; exact q
 frzs:=λ b u xs q=>by rw [ag (ao q hn)]; exact q
 tbls:=λ b ps q=>⟨#[],by rw [ag (ao q hn),q]; simp⟩
theorem Un.write (mu:Mut (H x)) (he:e=x\/H e=some (.own x)) (k:∀ b u,b≠e->h.get? b=some u->h'.get? b=some u) (heo:∃ u,h'.get? e=some u):Un fs ex H (upd H x o) h h':=by
 have hx:∀ b,H b=none->b≠x:=λ b n z=>by subst z; rw [n] at mu; exact mu
 have hb:∀ b,H b=none->b≠e:=λ b n z=>by
  subst z
  rcases he with r | r
  ·exact hx b n r
  ·rw [n] at r; cases r
 have hm:∀ b u,H b=some u->¬ Mut (some u)->b≠x:=λ b u q nm z=>by subst z; rw [q] at mu; exact nm mu
 refine ⟨λ b u q n _ _=>k b u (hb b n) q,λ b u q n _ _=>⟨u.slots,k b u (hb b n) q⟩,λ b u q n _=>by rw [ag (hx b n)]; exact n,λ b u q _=>?_,
  λ b xs q=>by rw [ag (hm b _ q λ z=>z)]; exact q,λ b u xs q=>by rw [ag (hm b _ q λ z=>z)]; exact q,λ b ps q=>⟨#[],by rw [ag (hm b _ q λ z=>z),q]; simp⟩⟩
 by_cases hbe:b=e
 ·subst hbe; exact heo
 ·exact ⟨u,k b u hbe q⟩
end
noncomputable def trk (h:Heap) (H:Hp):List Addr:=(IC h.objs.size).filter λ a=>(H a).isSome
noncomputable def vc (h:Heap) (H:Hp):Heap:=KE h (trk h H)
theorem rM (h:Heap) (H:Hp):(vc h H).objs.size=h.objs.size:=PySem.W.hideAll_size _ _
theorem vy {h:Heap} {H:Hp} {b:Addr} {o:Obj} (e:h.get? b=some o) (n:H b=none):(vc h H).get? b=some o:=
 JP _ e λ hm=>by
  have q:(H b).isSome=true:=(Ob.mp hm).2
  rw [n] at q; simp at q
theorem yD {h:Heap} {H:Hp} {b:Addr} {o:Obj} (e:(vc h H).get? b=some o):h.get? b=some o/\H b=none:=by
 have e':h.get? b=some o:=K3 (trk h H) e
 refine ⟨e',?_⟩
 cases q:H b with
 | none=>rfl
 | some x=>
  have hm:b∈trk h H:=Ob.mpr ⟨MN.mpr (Ip e'),by simp [q]⟩
  have z:(vc h H).get? b=none:=Kv (trk h H) hm
  rw [z] at e; cases e
noncomputable def yE (g h:Heap) (L:Addr):List (Addr×Obj):=(IC h.objs.size).filterMap λ a=>if a=L\/(g.get? a).isSome=true then none else (h.get? a).map λ o=>(a,o)
noncomputable def rest (g h:Heap) (L d:Addr):List (Addr×Obj):=(yE g h L).filter λ p=>decide (p.1≠d)
structure Mod (K:Ih) (mg:Str->Option Value) (base:Heap):Prop where
 kin:K.In base
 glob:base.Ns mainGlobals mg
 blt:∃ mb,base.Ns builtinsNs mb/\∀ x:Str,x≠"__name__"->mb x=bootBuiltins x
 nolimit:base.NoLimit
/-- the context: a def's body (or a comprehension's block) running. base: fixed through the whole law; s₀,H₀: the entry; outer: the frames whose slots others may change (a def's callers); stack: all frames that run;
   ex: iterators that were made ahead of the entry and are walked here (a comprehension's); fn: the names whose cells were made at the entry (a def: all; a comprehension's block: its own); calm: not within an except suite; pn: pins that every state bears; xe: what is wanted of an exception that leaves the code -/
structure Cx where
 prog:Program
 w:World
 K:Ih
 mg:Str->Option Value
 base:Heap
 A:Around
 N:List Str
 s₀:Shared
 H₀:Hp
 env:Env
 outer:List Env
 stack:List Env
 ex:List Addr
 fn:Str->Bool
 calm:Bool
 pn:List (Addr×Obj)
 xe:Value->Shared->Prop
noncomputable def frs (l:List Env):List Addr:=l.filterMap (·.frame)
noncomputable abbrev Cx.fs (X:Cx):List Addr:=frs X.outer
noncomputable def Vis (sc:Scope) (x:Str):Prop:=sc.names.lookup x=some .local\/sc.names.lookup x=some .cell\/sc.names.lookup x=some .free
noncomputable def Loc (sc:Scope) (x:Str):Prop:=sc.names.lookup x=some .local\/sc.names.lookup x=some .cell
noncomputable def GQ (env:Env) (h:Heap) (m:Str->Option Value) (x:Str) (u:Value):Prop:=
 (env.kindOf x=some .local/\m x=some u)\/((env.kindOf x=some .cell\/env.kindOf x=some .free)/\∃ c,env.cells.lookup x=some c/\h.IsCell c (some u))
structure Cx.Ok (X:Cx):Prop where
 mod:Mod X.K X.mg X.base
 kind:X.env.scope.kind=.function
 glob:X.env.globals=mainGlobals
 blt:X.env.builtins=builtinsNs
 above:X.s₀.heap.objs.size<=X.env.locals
 inj:∀ x y c,X.env.cells.lookup x=some c->X.env.cells.lookup y=some c->x=y
 has:∀ x,(X.env.kindOf x=some .cell\/X.env.kindOf x=some .free)->∃ c,X.env.cells.lookup x=some c
 cab:∀ x c,X.fn x=true->X.env.cells.lookup x=some c->X.s₀.heap.objs.size<=c
 hd:X.calm=true->X.A.handled=none
 frames:X.A.frames=some X.stack
 stk:X.stack=X.outer\/(X.stack=X.env::X.outer/\X.env.frame=some X.env.locals)
 exf:∀ b∈X.ex,b≠X.env.locals/\∀ x c,X.env.cells.lookup x=some c->c≠b
 bs:∀ b o,X.base.get? b=some o->X.s₀.heap.get? b=some o/\X.H₀ b=none
 bsz:X.base.objs.size<=X.s₀.heap.objs.size
 noex:∀ b o,X.base.get? b=some o->b∉X.ex
 exfs:∀ b∈X.ex,b∉X.fs
 funs:X.s₀.heap.FunFrames X.base X.outer
 frf:∀ b∈X.fs,X.H₀ b=none
structure Inv (X:Cx) (pins:List (Addr×Obj)) (σ:List (Option V)) (H:Hp) (s:Shared):Prop where
 ok:X.Ok
 os:s.os=X.s₀.os
 bare:AllBare s.gens
 base:Un X.fs X.ex X.H₀ H X.s₀.heap s.heap
 loc:∃ m,s.heap.Ns X.env.locals m/\∀ (i:Nat) (x:Str) (v:V),X.N[i]? = some x->σ[i]? = some (some v)->Vis X.env.scope x->∃ u,RelV v u/\GQ X.env s.heap m x u
 cell:∀ x c,X.env.cells.lookup x=some c->∃ v,s.heap.IsCell c v
 free:H X.env.locals=none
 freeC:∀ x c,X.env.cells.lookup x=some c->H c=none
 pin:∀ p∈X.pn++pins,s.heap.get? p.1=some p.2/\H p.1=none/\p.1≠X.env.locals/\p.1∉X.fs/\∀ v,p.2.data≠.cell v
 hok:HOk X.prog X.w H s.heap
 len:σ.length=X.N.length
section
variable {X:Cx} {pins:List (Addr×Obj)} {σ:List (Option V)} {H H':Hp} {s:Shared} {h':Heap}
theorem Cx.Ok.nofr (ok:X.Ok) {b:Addr} {o:Obj} (e:X.base.get? b=some o):b∉X.fs:=λ hb=>by
 have:=(ok.funs.mem hb).1
 rw [e] at this; cases this
theorem Inv.bs (I:Inv X pins σ H s):∀ b o,X.base.get? b=some o->s.heap.get? b=some o/\H b=none:=λ b o e=>
 ⟨I.base.keep b o (I.ok.bs b o e).1 (I.ok.bs b o e).2 (I.ok.nofr e) (I.ok.noex b o e),I.base.free b o (I.ok.bs b o e).1 (I.ok.bs b o e).2 (I.ok.noex b o e)⟩
theorem Inv.bk (I:Inv X pins σ H s):∀ b o,X.base.get? b=some o->s.heap.get? b=some o:=λ b o e=>(I.bs b o e).1
theorem Inv.mod (I:Inv X pins σ H s):Mod X.K X.mg X.base:=I.ok.mod
theorem Inv.kIn (I:Inv X pins σ H s):X.K.In s.heap:=I.ok.mod.kin.keeps I.bk
theorem Inv.nolimit (I:Inv X pins σ H s):s.heap.NoLimit:=I.ok.mod.nolimit.keeps I.bk
theorem Inv.lt (I:Inv X pins σ H s):X.env.locals<s.heap.objs.size:=let ⟨_,hn,_⟩:=I.loc; hn.lt
theorem Inv.sz (I:Inv X pins σ H s):X.s₀.heap.objs.size<=s.heap.objs.size:=Js I.ok.above (JD I.lt)
theorem Inv.nofs (I:Inv X pins σ H s) {a:Addr} (h:s.heap.objs.size<=a):a∉X.fs:=λ hb=>by
 obtain ⟨_,o,ho,_⟩:=I.ok.funs.mem hb
 exact absurd (Iu (Ip ho) (Js I.sz h)) (Jr _)
theorem Inv.cne (I:Inv X pins σ H s):∀ x c,X.env.cells.lookup x=some c->c≠X.env.locals:=λ x c e z=>by
 obtain ⟨v,o,ho,hd⟩:=I.cell x c e
 obtain ⟨m,⟨o',es,ep,ho',hd',_⟩,_⟩:=I.loc
 rw [z,ho'] at ho; cases ho; rw [hd'] at hd; cases hd
theorem Inv.funs (I:Inv X pins σ H s):s.heap.FunFrames X.base X.outer:=by
 have all:∀ (l:List Env),(∀ b∈frs l,b∈X.fs)->X.s₀.heap.FunFrames X.base l->s.heap.FunFrames X.base l:=by
  intro l
  induction l with
  | nil=>intro _ _; trivial
  | cons env r ih=>
   intro hs hl
   obtain ⟨hk,⟨L,o,hf,hn,ho,hd⟩,hr⟩:=hl
   have hL:L∈X.fs:=hs L (by unfold frs; rw [LL,hf]; exact Jg)
   obtain ⟨sl,e⟩:=I.base.slot L o ho (I.ok.frf L hL) hL λ z=>I.ok.exfs L z hL
   exact ⟨hk,⟨L,_,hf,hn,e,hd⟩,ih (λ b hb=>hs b (by unfold frs; rw [LL,hf]; exact IG _ hb)) hr⟩
 exact all X.outer (λ _ hb=>hb) I.ok.funs
theorem Inv.stack (I:Inv X pins σ H s):s.heap.FunFrames X.base X.stack:=by
 rcases I.ok.stk with e | ⟨e,hf⟩
 ·rw [e]; exact I.funs
 ·rw [e]
  obtain ⟨m,hn,_⟩:=I.loc
  refine .cons (by rw [I.ok.kind]; decide) hf hn ?_ I.funs
  exact Heap.get?_none_of_le (Js I.ok.bsz I.ok.above)
theorem Inv.stkSub (I:Inv X pins σ H s):∀ b∈frs X.stack,b∈X.env.locals::X.fs:=λ b hb=>by
 rcases I.ok.stk with e | ⟨e,hf⟩
 ·rw [e] at hb; exact IG _ hb
 ·rw [e] at hb
  unfold frs at hb
  rw [LL,hf] at hb
  exact hb
theorem Inv.stkFree (I:Inv X pins σ H s):∀ b∈frs X.stack,H b=none:=λ b hb=>by
 rcases Io.mp (I.stkSub b hb) with e | hb
 ·rw [e]; exact I.free
 ·obtain ⟨_,o,ho,_⟩:=I.ok.funs.mem hb
  exact I.base.free b o ho (I.ok.frf b hb) λ z=>I.ok.exfs b z hb
theorem Inv.step {g':Array GenState} {t':Nat} {d':Drawn} {ch:List Addr} (I:Inv X pins σ H s)
  (hch:∀ b∈ch,(b∈X.ex\/X.s₀.heap.objs.size<=b)/\b≠X.env.locals/\(∀ x c,X.env.cells.lookup x=some c->c≠b)/\∀ p∈X.pn++pins,p.1≠b)
  (keep:∀ b o,b≠X.env.locals->b∉X.fs->b∉ch->s.heap.get? b=some o->H b=none->h'.get? b=some o)
  (slot:∀ b o,b≠X.env.locals->b∈X.fs->b∉ch->s.heap.get? b=some o->H b=none->∃ sl,h'.get? b=some { o with slots:=sl }) (free:∀ b o,b∉ch->s.heap.get? b=some o->H b=none->H' b=none)
  (there:∀ b o,b∉ch->s.heap.get? b=some o->∃ o',h'.get? b=some o')
  (tups:∀ b xs,H b=some (.tup xs)->H' b=some (.tup xs)) (frzs:∀ b o u,H b=some (.frz o u)->H' b=some (.frz o u)) (tbls:∀ b ps,H b=some (.tbl ps)->∃ more,H' b=some (.tbl (ps++more)))
  (ns:∀ m,s.heap.Ns X.env.locals m->h'.Ns X.env.locals m) (hok:HOk X.prog X.w H' h') (hg:AllBare g') :
  Inv X pins σ H' { s with heap:=h',gens:=g',drawn:=d',toks:=t' }:=by
 have neL:∀ b o,X.s₀.heap.get? b=some o->b≠X.env.locals:=λ b o e=>Iy (Iu (Ip e) I.ok.above)
 have neC:∀ b o,X.s₀.heap.get? b=some o->b∉X.ex->b∉ch:=λ b o e hx hb=>by
  rcases (hch b hb).1 with z | z
  ·exact hx z
  ·exact absurd (Iu (Ip e) z) (Jr _)
 have cellK:∀ x c,X.env.cells.lookup x=some c->∀ v,s.heap.IsCell c v->h'.IsCell c v:=λ x c e v ⟨o,ho,hd⟩=>by
  have nch:c∉ch:=λ z=>(hch c z).2.2.1 x c e rfl
  by_cases hc:c∈X.fs
  ·obtain ⟨sl,q⟩:=slot c o (I.cne x c e) hc nch ho (I.freeC x c e)
   exact ⟨_,q,hd⟩
  ·exact ⟨o,keep c o (I.cne x c e) hc nch ho (I.freeC x c e),hd⟩
 refine ⟨I.ok,I.os,hg,⟨λ b o e n hb hx=>?_,λ b o e n hb hx=>?_,λ b o e n hx=>?_,λ b o e hx=>?_,λ b xs e=>tups b xs (I.base.tups b xs e),λ b o xs e=>frzs b o xs (I.base.frzs b o xs e),λ b ps e=>?_⟩,?_,λ x c e=>?_,?_,λ x c e=>?_,λ p hp=>?_,hok,I.len⟩
 ·exact keep b o (neL b o e) hb (neC b o e hx) (I.base.keep b o e n hb hx) (I.base.free b o e n hx)
 ·obtain ⟨sl,e1⟩:=I.base.slot b o e n hb hx
  obtain ⟨sl',e2⟩:=slot b _ (neL b o e) hb (neC b o e hx) e1 (I.base.free b o e n hx)
  exact ⟨sl',e2⟩
 ·obtain ⟨o',e1⟩:=I.base.there b o e hx
  exact free b o' (neC b o e hx) e1 (I.base.free b o e n hx)
 ·obtain ⟨o',e1⟩:=I.base.there b o e hx
  exact there b o' (neC b o e hx) e1
 ·obtain ⟨m1,e1⟩:=I.base.tbls b ps e
  obtain ⟨m2,e2⟩:=tbls b _ e1
  exact ⟨m1++m2,by rw [e2,Array.append_assoc]⟩
 ·obtain ⟨m,hn,hl⟩:=I.loc
  refine ⟨m,ns m hn,λ i x v e1 e2 e3=>?_⟩
  obtain ⟨u,r,l⟩:=hl i x v e1 e2 e3
  refine ⟨u,r,?_⟩
  rcases l with l | ⟨k,c,e,z⟩
  ·exact .inl l
  ·exact .inr ⟨k,c,e,cellK x c e _ z⟩
 ·obtain ⟨v,z⟩:=I.cell x c e
  exact ⟨v,cellK x c e v z⟩
 ·obtain ⟨m,⟨o,_,_,ho,_⟩,_⟩:=I.loc
  exact free _ o (λ z=>(hch _ z).2.1 rfl) ho I.free
 ·obtain ⟨v,o,ho,hd⟩:=I.cell x c e
  exact free c o (λ z=>(hch c z).2.2.1 x c e rfl) ho (I.freeC x c e)
 ·obtain ⟨e,n,ne,nf,d⟩:=I.pin p hp
  have nch:p.1∉ch:=λ z=>(hch p.1 z).2.2.2 p hp rfl
  exact ⟨keep p.1 p.2 ne nf nch e n,free p.1 p.2 nch e n,ne,nf,d⟩
theorem Inv.un {t':Nat} (I:Inv X pins σ H s) (u:Un X.fs [] H H' s.heap h') (hok:HOk X.prog X.w H' h'):Inv X pins σ H' { s with heap:=h',toks:=t' }:=by
 obtain ⟨m,⟨o,es,ep,ho,r⟩,_⟩:=id I.loc
 obtain ⟨sl,hL⟩:=u.any ho I.free (by simp)
 exact I.step (g':=s.gens) (d':=s.drawn) (ch:=[]) (λ _ z=>nomatch z) (λ b o _ hb _ e n=>u.keep b o e n hb (by simp)) (λ b o _ hb _ e n=>u.slot b o e n hb (by simp)) (λ b o _ e n=>u.free b o e n (by simp)) (λ b o _ e=>u.there b o e (by simp)) u.tups u.frzs u.tbls (λ m' hm=>by
  obtain ⟨o',es',ep',ho',r'⟩:=hm
  rw [ho] at ho'; cases ho'
  exact ⟨_,es',ep',hL,r'⟩) hok I.bare
theorem Inv.call {g':Array GenState} {t':Nat} {d':Drawn} {ch:List Addr} (I:Inv X pins σ H s) (u:Un (frs X.stack) ch H H' s.heap h') (hok:HOk X.prog X.w H' h') (hg:AllBare g')
  (hch:∀ b∈ch,(b∈X.ex\/X.s₀.heap.objs.size<=b)/\b≠X.env.locals/\(∀ x c,X.env.cells.lookup x=some c->c≠b)/\∀ p∈X.pn++pins,p.1≠b) :
  Inv X pins σ H' { s with heap:=h',gens:=g',drawn:=d',toks:=t' }:=by
 obtain ⟨m,⟨o,es,ep,ho,r⟩,_⟩:=id I.loc
 obtain ⟨sl,hL⟩:=u.any ho I.free λ z=>(hch _ z).2.1 rfl
 exact I.step (ch:=ch) hch (λ b o hL hb hc e n=>u.keep b o e n (λ z=>(Io.mp (I.stkSub b z)).elim hL hb) hc) (λ b o _ _ hc e n=>u.any e n hc) (λ b o hc e n=>u.free b o e n hc) (λ b o hc e=>u.there b o e hc) u.tups u.frzs u.tbls (λ m' hm=>by
  obtain ⟨o',es',ep',ho',r'⟩:=hm
  rw [ho] at ho'; cases ho'
  exact ⟨_,es',ep',hL,r'⟩) hok hg
theorem Inv.turned {t':Nat} {it:Addr} (I:Inv X pins σ H s) (k:∀ b o,b≠it->s.heap.get? b=some o->h'.get? b=some o) (hn:H it=none) (hL:it≠X.env.locals)
  (h1:it∈X.ex\/X.s₀.heap.objs.size<=it) (h2:∀ x c,X.env.cells.lookup x=some c->c≠it) (h3:∀ p∈X.pn++pins,p.1≠it):Inv X pins σ H { s with heap:=h',toks:=t' }:=by
 have nit:∀ b u,H b=some u->b≠it:=λ b u e z=>by rw [z,hn] at e; cases e
 refine I.step (g':=s.gens) (d':=s.drawn) (ch:=[it]) (λ b hb=>?_) (λ b o _ _ hc e _=>k b o (λ z=>hc (by simp [z])) e) (λ b o _ _ hc e _=>⟨o.slots,k b o (λ z=>hc (by simp [z])) e⟩) (λ _ _ _ _ n=>n)
  (λ b o hc e=>⟨o,k b o (λ z=>hc (by simp [z])) e⟩) (λ _ _ e=>e) (λ _ _ _ e=>e) (λ b ps e=>⟨#[],by rw [e]; simp⟩) (λ m hm=>?_) (λ b u e=>?_) I.bare
 ·have e:b=it:=by simpa using hb
  subst e
  exact ⟨h1,hL,h2,h3⟩
 ·obtain ⟨o,es,ep,ho,r⟩:=hm
  exact ⟨o,es,ep,k _ o (Jj hL) ho,r⟩
 ·refine (I.hok b u e).stay (λ c v hc q=>k c v ?_ q) (λ _ q=>q) λ _ _ q=>q
  rcases hc with z | z
  ·rw [z]; exact nit b u e
  ·exact nit c _ z
theorem Inv.tok (I:Inv X pins σ H s) (t:Nat):Inv X pins σ H { s with toks:=t }:=I.un (h':=s.heap) (t':=t) Un.refl I.hok
theorem Inv.kept {t':Nat} (I:Inv X pins σ H s) (k:∀ b u,s.heap.get? b=some u->h'.get? b=some u):Inv X pins σ H { s with heap:=h',toks:=t' }:=I.un (Un.kept k) (I.hok.kept k)
theorem Inv.laid {a:Addr} {o:HO} {t':Nat} (I:Inv X pins σ H s) (k:∀ b u,s.heap.get? b=some u->h'.get? b=some u) (hp:s.heap.objs.size<=a) (new:ObjOk X.prog X.w (upd H a o) h' a o) :
  Inv X pins σ (upd H a o) { s with heap:=h',toks:=t' }:=I.un (Un.laid k hp (I.hok.fresh hp)) (I.hok.laid k hp new)
theorem Inv.write {x e:Addr} {o:HO} {t':Nat} (I:Inv X pins σ H s) (mu:Mut (H x)) (he:e=x\/H e=some (.own x)) (k:∀ b u,b≠e->s.heap.get? b=some u->h'.get? b=some u) (heo:∃ u,h'.get? e=some u)
  (new:ObjOk X.prog X.w (upd H x o) h' x o):Inv X pins σ (upd H x o) { s with heap:=h',toks:=t' }:=I.un (Un.write mu he k heo) (I.hok.write mu he k heo new)
theorem Inv.pins_of {pins':List (Addr×Obj)} (I:Inv X pins σ H s) (h:∀ p∈pins',s.heap.get? p.1=some p.2/\H p.1=none/\p.1≠X.env.locals/\p.1∉X.fs/\∀ v,p.2.data≠.cell v):Inv X pins' σ H s:=
 ⟨I.ok,I.os,I.bare,I.base,I.loc,I.cell,I.free,I.freeC,λ p hp=>(IN.mp hp).elim (λ z=>I.pin p (KS _ z)) (h p),I.hok,I.len⟩
theorem lg {N:List Str} (hN:N.Nodup) {i j:Nat} {x:Str} (a:N[i]? = some x) (b:N[j]? = some x):i=j:=by
 obtain ⟨h1,e1⟩:=IK.mp a
 obtain ⟨h2,e2⟩:=IK.mp b
 exact (List.getElem_inj hN).mp (e1.trans e2.symm)
theorem rN {M:Model} {A:Around} {E:Value->Shared->Prop} {i:Nat} {x:Str} {v:V} {u:Value} {Q:Unit->Shared->Prop} (I:Inv X pins σ H s) (hN:X.N.Nodup) (hi:X.N[i]? = some x) (hx:Loc X.env.scope x) (r:RelV v u)
  (h:∀ s',Inv X pins (σ.set i (some v)) H s'->(∃ a,Nd a s.heap s'.heap/\(a=X.env.locals\/X.env.cells.lookup x=some a))->Q () s') (hf:X.fn x=true\/X.env.scope.names.lookup x=some .local:=by first | exact .inl rfl | exact .inr rfl | assumption):wpAny M A (storeName X.env x u) Q E s:=by
 obtain ⟨m,hn,hl⟩:=id I.loc
 have hcls:(X.env.scope.kind == .class || (X.env.scope.kind == .module && X.env.locals != X.env.globals))=false:=by rw [I.ok.kind]; rfl
 have hiσ:i<σ.length:=by rw [I.len]; exact (IK.mp hi).1
 have cne:=I.cne
 have tracked:∀ {a:Addr} {h':Heap},(∃ o,s.heap.get? a=some o/\H a=none)->Nd a s.heap h'->HOk X.prog X.w H h':=λ {a h'} ha hs b ob e=>by
  obtain ⟨_,_,hfree⟩:=ha
  refine (I.hok b ob e).stay (λ c w' hc q=>(hs.2 c ?_).trans q) (λ _ q=>q) λ _ _ q=>q
  rintro rfl
  rcases hc with rfl | hc
  ·rw [hfree] at e; cases e
  ·rw [hfree] at hc; cases hc
 rcases hx with hk | hk
 ·refine wpAny_storeName_local hk hn (λ h' hn' hs=>?_) hcls
  obtain ⟨oL,_,_,hoL,_⟩:=id hn
  refine h _ ⟨I.ok,I.os,I.bare,⟨λ b o e n hb hx=>?_,λ b o e n hb hx=>?_,I.base.free,λ b o e hx=>?_,I.base.tups,I.base.frzs,I.base.tbls⟩,⟨_,hn',λ j y v' e1 e2 e3=>?_⟩,λ y c e=>?_,I.free,I.freeC,λ p hp=>?_,tracked ⟨oL,hoL,I.free⟩ hs,by simpa using I.len⟩ ⟨_,hs,.inl rfl⟩
  ·exact (hs.2 b (Iy (Iu (Ip e) I.ok.above))).trans (I.base.keep b o e n hb hx)
  ·obtain ⟨sl,e1⟩:=I.base.slot b o e n hb hx
   exact ⟨sl,(hs.2 b (Iy (Iu (Ip e) I.ok.above))).trans e1⟩
  ·obtain ⟨o',e1⟩:=I.base.there b o e hx
   exact ⟨o',(hs.2 b (Iy (Iu (Ip e) I.ok.above))).trans e1⟩
  ·by_cases hj:j=i
   ·subst hj
    rw [hi] at e1; cases e1
    rw [MF hiσ] at e2
    cases e2
    exact ⟨u,r,.inl ⟨hk,by simp⟩⟩
   ·rw [Lu (Jj hj)] at e2
    obtain ⟨u',r',q⟩:=hl j y v' e1 e2 e3
    refine ⟨u',r',?_⟩
    rcases q with ⟨k,e⟩ | ⟨k,c,e,z⟩
    ·refine .inl ⟨k,?_⟩
     have:y≠x:=λ e=>hj (lg hN e1 (e▸hi))
     simp [this,e]
    ·exact .inr ⟨k,c,e,z.sameBut hs (cne y c e)⟩
  ·obtain ⟨w',z⟩:=I.cell y c e
   exact ⟨w',z.sameBut hs (cne y c e)⟩
  ·obtain ⟨e,n,ne,nf,d⟩:=I.pin p hp
   exact ⟨(hs.2 p.1 ne).trans e,n,ne,nf,d⟩
 ·have hfn:X.fn x=true:=by
   rcases hf with z | z
   ·exact z
   ·rw [z] at hk; cases hk
  obtain ⟨c,hc⟩:=I.ok.has x (.inl hk)
  obtain ⟨w',z⟩:=I.cell x c hc
  refine wpAny_storeName_cell I.ok.kind hk hc z (λ h' hc' hs=>?_)
  obtain ⟨oc,hoc,hocd⟩:=id z
  refine h { s with heap:=h' } ⟨I.ok,I.os,I.bare,⟨λ b o e n hb hx=>?_,λ b o e n hb hx=>?_,I.base.free,λ b o e hx=>?_,I.base.tups,I.base.frzs,I.base.tbls⟩,⟨m,hn.sameBut hs (Jj (cne x c hc)),λ j y v' e1 e2 e3=>?_⟩,λ y c' e=>?_,I.free,I.freeC,λ p hp=>?_,tracked ⟨oc,hoc,I.freeC x c hc⟩ hs,by simpa using I.len⟩ ⟨c,hs,.inr hc⟩
  ·exact (hs.2 b (Iy (Iu (Ip e) (I.ok.cab x c hfn hc)))).trans (I.base.keep b o e n hb hx)
  ·obtain ⟨sl,e1⟩:=I.base.slot b o e n hb hx
   exact ⟨sl,(hs.2 b (Iy (Iu (Ip e) (I.ok.cab x c hfn hc)))).trans e1⟩
  ·obtain ⟨o',e1⟩:=I.base.there b o e hx
   exact ⟨o',(hs.2 b (Iy (Iu (Ip e) (I.ok.cab x c hfn hc)))).trans e1⟩
  ·by_cases hj:j=i
   ·subst hj
    rw [hi] at e1; cases e1
    rw [MF hiσ] at e2
    cases e2
    exact ⟨u,r,.inr ⟨.inl hk,c,hc,hc'⟩⟩
   ·rw [Lu (Jj hj)] at e2
    obtain ⟨u',r',q⟩:=hl j y v' e1 e2 e3
    refine ⟨u',r',?_⟩
    rcases q with q | ⟨k,c',e,z'⟩
    ·exact .inl q
    ·refine .inr ⟨k,c',e,z'.sameBut hs ?_⟩
     rintro rfl
     exact hj (lg hN e1 (I.ok.inj _ _ _ e hc▸hi))
  ·by_cases hcc:c'=c
   ·subst hcc; exact ⟨_,hc'⟩
   ·obtain ⟨w2,z2⟩:=I.cell y c' e
    exact ⟨w2,z2.sameBut hs hcc⟩
  ·obtain ⟨e,n,ne,nf,d⟩:=I.pin p hp
   refine ⟨(hs.2 p.1 ?_).trans e,n,ne,nf,d⟩
   intro q
   rw [q,hoc] at e
   have q':oc=p.2:=IR e
   exact d w' (by rw [<-q']; exact hocd)
theorem fH {M:Model} {A:Around} {E:Value->Shared->Prop} {i:Nat} {x:Str} {v:V} {u:Value} {Q:Unit->Shared->Prop} (I:Inv X pins σ H s) (hN:X.N.Nodup) (hi:X.N[i]? = some x) (hx:Loc X.env.scope x) (r:RelV v u)
  (h:∀ s',Inv X pins (σ.set i (some v)) H s'->Q () s') (hf:X.fn x=true\/X.env.scope.names.lookup x=some .local:=by first | exact .inl rfl | exact .inr rfl | assumption):wpAny M A (storeName X.env x u) Q E s:=
 rN I hN hi hx r (λ s' I' _=>h s' I') hf
theorem Inv.call' {s':Shared} {ch:List Addr} (I:Inv X pins σ H s) (ho:s'.os=s.os) (u:Un (frs X.stack) ch H H' s.heap s'.heap) (hok:HOk X.prog X.w H' s'.heap) (hg:AllBare s'.gens)
  (hch:∀ b∈ch,(b∈X.ex\/X.s₀.heap.objs.size<=b)/\b≠X.env.locals/\(∀ x c,X.env.cells.lookup x=some c->c≠b)/\∀ p∈X.pn++pins,p.1≠b):Inv X pins σ H' s':=by
 obtain ⟨h',g',d',t',o'⟩:=s'
 have e:o'=s.os:=ho
 subst e
 exact I.call (g':=g') (t':=t') (d':=d') u hok hg hch
end
noncomputable abbrev XK:=Value->Option Addr->Hp->Prop
noncomputable abbrev St:=List (Option V)
noncomputable abbrev VK:=V->Hp->Prop
noncomputable abbrev TE:=St->Hp->VK->Prop
noncomputable abbrev TT:=St->Hp->(Bool->Hp->Prop)->Prop
noncomputable abbrev TA:=St->Hp->(List V->Hp->Prop)->Prop
structure Ends where
 nx:St->Hp->Prop
 rt:VK
 bk:St->Hp->Prop:=λ _ _=>False
 ct:St->Hp->Prop:=λ _ _=>False
noncomputable abbrev TS:=Ends->St->Hp->Prop
noncomputable def EP (X:Cx) (pins:List (Addr×Obj)) (σ:St) (Q:VK) (u:Value) (s':Shared):Prop:=∃ v H',Inv X pins σ H' s'/\RelV v u/\Q v H'
noncomputable def TP (X:Cx) (pins:List (Addr×Obj)) (σ:St) (Q:Bool->Hp->Prop) (b:Bool) (s':Shared):Prop:=∃ H',Inv X pins σ H' s'/\Q b H'
noncomputable def AP (X:Cx) (pins:List (Addr×Obj)) (σ:St) (Q:List V->Hp->Prop) (us:List Value) (s':Shared):Prop:=∃ vs H',Inv X pins σ H' s'/\Vals vs us/\Q vs H'
noncomputable def SP (X:Cx) (pins:List (Addr×Obj)) (D:Ends) (f:Flow) (s':Shared):Prop:=
 match f with
 | .next=>∃ σ' H',Inv X pins σ' H' s'/\D.nx σ' H'
 | .brk=>∃ σ' H',Inv X pins σ' H' s'/\D.bk σ' H'
 | .cont=>∃ σ' H',Inv X pins σ' H' s'/\D.ct σ' H'
 | .ret u=>∃ v σ' H',Inv X pins σ' H' s'/\RelV v u/\D.rt v H'
noncomputable def PE (X:Cx) (e:Expr) (t:TE):Prop:=
 ∀ (pins:List (Addr×Obj)) (s:Shared) (σ:St) (H:Hp) (Q:VK),Inv X pins σ H s->t σ H Q->wpAny (model X.prog X.w) X.A (eval e X.env) (EP X pins σ Q) X.xe s
noncomputable def PT (X:Cx) (e:Expr) (t:TT):Prop:=
 ∀ (pins:List (Addr×Obj)) (s:Shared) (σ:St) (H:Hp) (Q:Bool->Hp->Prop),Inv X pins σ H s->t σ H Q->wpAny (model X.prog X.w) X.A (isTrue e X.env (eval e X.env)) (TP X pins σ Q) X.xe s
noncomputable def PW (X:Cx) (e:Expr) (t:TT):Prop:=
 ∀ (whole:Sem Value) (pins:List (Addr×Obj)) (s:Shared) (σ:St) (H:Hp) (Q:Bool->Hp->Prop),Inv X pins σ H s->t σ H Q->wpAny (model X.prog X.w) X.A (isTrue e X.env whole) (TP X pins σ Q) X.xe s
theorem PW.pt {X:Cx} {e:Expr} {t:TT} (h:PW X e t):PT X e t:=h _
noncomputable def PA (X:Cx) (es:List Expr) (t:TA):Prop:=
 ∀ (pos:Pos) (pins:List (Addr×Obj)) (s:Shared) (σ:St) (H:Hp) (Q:List V->Hp->Prop),Inv X pins σ H s->t σ H Q->wpAny (model X.prog X.w) X.A (spliced (backTo pos (starEach es X.env))) (AP X pins σ Q) X.xe s
noncomputable def PS (X:Cx) (st:Stmt) (t:TS):Prop:=
 ∀ (pins:List (Addr×Obj)) (s:Shared) (σ:St) (H:Hp) (D:Ends),Inv X pins σ H s->t D σ H->wpAny (model X.prog X.w) X.A (exec st X.env) (SP X pins D) X.xe s
noncomputable def PSs (X:Cx) (st:List Stmt) (t:TS):Prop:=
 ∀ (pins:List (Addr×Obj)) (s:Shared) (σ:St) (H:Hp) (D:Ends),Inv X pins σ H s->t D σ H->wpAny (model X.prog X.w) X.A (execs st X.env) (SP X pins D) X.xe s
theorem thn {α:Type} {t:Sem α} {Q Q':α->Shared->Prop} {M:Model} {A:Around} {E:Value->Shared->Prop} {s:Shared} (h:wpAny M A t Q E s) (hQ:∀ a s,Q a s->Q' a s):wpAny M A t Q' E s:=wpAny_mono h hQ λ _ _ x=>x
section
variable {X:Cx}
theorem bin {a b:Expr} {ta tb:TE} (ha:PE X a ta) (hb:PE X b tb) {pins:List (Addr×Obj)} {s:Shared} {σ:St} {H:Hp} {R:V->V->Hp->Prop} (I:Inv X pins σ H s) (h:ta σ H λ x H1=>tb σ H1 λ y H2=>R x y H2)
  {α:Type} {Q:α->Shared->Prop} {f:Value->Value->Sem α}
  (hf:∀ v u s2 x y H2,Inv X pins σ H2 s2->RelV x v->RelV y u->R x y H2->wpAny (model X.prog X.w) X.A (f v u) Q X.xe s2) :
  wpAny (model X.prog X.w) X.A (eval a X.env) (λ v s₁=>wpAny (model X.prog X.w) X.A (eval b X.env) (λ u s₂=>wpAny (model X.prog X.w) X.A (f v u) Q X.xe s₂) X.xe s₁) X.xe s:=by
 refine thn (ha pins s σ H _ I h) λ v s1 ⟨x,H1,I1,r1,q1⟩=>?_
 refine thn (hb pins s1 σ H1 _ I1 q1) λ u s2 ⟨y,H2,I2,r2,q2⟩=>?_
 exact hf v u s2 x y H2 I2 r1 r2 q2
noncomputable def Eh (i:Nat):TE:=λ σ H Q=>∃ v,σ[i]? = some (some v)/\Q v H
noncomputable def tC (v:V):TE:=λ _ H Q=>Q v H
theorem BA {i:Nat} {x:Str} {pos:Pos} (hN:X.N[i]? = some x) (hv:Vis X.env.scope x) (hd:(x == ("__debug__" : Str))=false:=by decide) (hcd:(x == ("__classdict__" : Str))=false:=by decide):PE X (.Name x pos) (Eh i):=by
 intro pins s σ H Q I h
 obtain ⟨v,e,h⟩:=h
 obtain ⟨m,hn,hl⟩:=I.loc
 obtain ⟨u,r,l⟩:=hl i x v hN e hv
 have fin:EP X pins σ Q u s:=⟨v,H,I,r,h⟩
 rcases l with ⟨hk,hm⟩ | ⟨hk,c,hc,hcell⟩
 ·exact wpAny_Name (wpAny_loadName_local I.ok.kind hk hn hm fin) hd
 ·rcases hk with hk | hk
  ·exact wpAny_Name (wpAny_loadName_cell I.ok.kind hk hc hcell fin) hd
  ·exact wpAny_Name (wpAny_loadName_free I.ok.kind hk hc hcell fin hcd) hd
theorem BB {i j pos}:PE X (.Constant (.int i) j pos) (tC (.int i)):=λ _ _ _ H _ I h=>wpAny_Constant_int ⟨.int i,H,I.tok _,⟨_,rfl⟩,h⟩
theorem Ei {b j pos}:PE X (.Constant (.bool b) j pos) (tC (.bl b)):=λ _ _ _ H _ I h=>Constant_bool ⟨.bl b,H,I,rfl,h⟩
theorem BC {j pos}:PE X (.Constant .none j pos) (tC .non):=λ _ _ _ H _ I h=>Constant_none ⟨.non,H,I,rfl,h⟩
theorem BD {x j pos}:PE X (.Constant (.str x) j pos) (tC (.str x)):=λ _ _ _ H _ I h=>LQ ⟨.str x,H,I.tok _,⟨_,rfl⟩,h⟩
noncomputable def Gl (X:Cx) (x:Str):Prop:=X.env.kindOf x=some .globalImplicit
theorem cG {E:Value->Shared->Prop} {pins:List (Addr×Obj)} {s:Shared} {σ:St} {H:Hp} {x:Str} {u:Value} {pos:Pos} {Q:Value->Shared->Prop} (I:Inv X pins σ H s) (hg:Gl X x) (hm:X.mg x=some u) (h:Q u s)
  (hd:(x == ("__debug__" : Str))=false:=by decide):wpAny (model X.prog X.w) X.A (eval (.Name x pos) X.env) Q E s:=
 LX I.ok.kind hg (Calls.loadGlobal_global (by rw [I.ok.glob]; exact I.mod.glob.keeps I.bk) hm h) hd
theorem eG {E:Value->Shared->Prop} {pins:List (Addr×Obj)} {s:Shared} {σ:St} {H:Hp} {x:Str} {u:Value} {pos:Pos} {Q:Value->Shared->Prop} (I:Inv X pins σ H s) (hg:Gl X x) (hm:X.mg x=none) (hv:bootBuiltins x=some u) (h:Q u s)
  (hn:x≠"__name__":=by decide) (hd:(x == ("__debug__" : Str))=false:=by decide):wpAny (model X.prog X.w) X.A (eval (.Name x pos) X.env) Q E s:=by
 obtain ⟨mb,h1,h2⟩:=I.mod.blt
 exact LX I.ok.kind hg (Calls.loadGlobal_builtin (by rw [I.ok.glob]; exact I.mod.glob.keeps I.bk) hm (by rw [I.ok.blt]; exact h1.keeps I.bk) ((h2 x hn).trans hv) h) hd
theorem rO {x:Str} {v:V} {u:Value} {pos:Pos} (hg:Gl X x) (hm:X.mg x=some u) (r:RelV v u) (hd:(x == ("__debug__" : Str))=false:=by decide):PE X (.Name x pos) (tC v):=
 λ _ _ _ H _ I h=>cG I hg hm ⟨v,H,I,r,h⟩ hd
theorem yF {x:Str} {v:V} {u:Value} {pos:Pos} (hg:Gl X x) (hm:X.mg x=none) (hv:bootBuiltins x=some u) (r:RelV v u) (hn:x≠"__name__":=by decide) (hd:(x == ("__debug__" : Str))=false:=by decide):PE X (.Name x pos) (tC v):=
 λ _ _ _ H _ I h=>eG I hg hm hv ⟨v,H,I,r,h⟩ hn hd
variable {a b:Expr} {ta tb:TE} {pos:Pos}
noncomputable def tB (t:TE):TT:=λ σ H Q=>t σ H λ x H1=>∃ c,x=.bl c/\Q c H1
theorem BE {e:Expr} {t:TE} (h:PE X e t) (he:∀ whole,isTrue e X.env whole=(do let v <-whole; standAt e.pos; holding [v] (truthy v)):=by intro _; rfl):PT X e (tB t):=by
 intro pins s σ H Q I hw
 refine isTrue_plain (thn (h pins s σ H _ I hw) λ v s1 ⟨x,H1,I1,r1,q1⟩=>?_) (he _)
 obtain ⟨d,rfl,q⟩:=q1
 cases r1
 exact wpAny_truthy_bool ⟨H1,I1,q⟩
variable {tA tB':TT} {rest:List Expr}
noncomputable def Ej (t u:TT):TT:=λ σ H Q=>t σ H λ c H1=>if c=true then u σ H1 Q else Q false H1
noncomputable def tOr (t u:TT):TT:=λ σ H Q=>t σ H λ c H1=>if c=true then Q true H1 else u σ H1 Q
noncomputable def Ek (t:TT):TT:=λ σ H Q=>t σ H λ c H1=>Q (!c) H1
theorem yG (ha:PT X a tA):PW X (.BoolOp .And [a] pos) tA:=by
 intro wh pins s σ H Q I h
 refine isTrue_and (thn (ha pins s σ H Q I h) λ c s1 e=>?_)
 cases c with
 | true=>exact isTrue_and_nil e
 | false=>exact e
theorem BF (ha:PT X a tA):PW X (.BoolOp .Or [a] pos) tA:=by
 intro wh pins s σ H Q I h
 refine isTrue_or (thn (ha pins s σ H Q I h) λ c s1 e=>?_)
 cases c with
 | false=>exact isTrue_or_nil e
 | true=>exact e
theorem BG (ha:PT X a tA) (hb:PW X (.BoolOp .And (b::rest) pos) tB'):PW X (.BoolOp .And (a::b::rest) pos) (Ej tA tB'):=by
 intro wh pins s σ H Q I h
 refine isTrue_and (thn (ha pins s σ H _ I h) λ c s1 ⟨H1,I1,q1⟩=>?_)
 cases c with
 | true=>exact hb wh pins s1 σ H1 Q I1 q1
 | false=>exact ⟨H1,I1,q1⟩
theorem El (ha:PT X a tA) (hb:PW X (.BoolOp .Or (b::rest) pos) tB'):PW X (.BoolOp .Or (a::b::rest) pos) (tOr tA tB'):=by
 intro wh pins s σ H Q I h
 refine isTrue_or (thn (ha pins s σ H _ I h) λ c s1 ⟨H1,I1,q1⟩=>?_)
 cases c with
 | true=>exact ⟨H1,I1,q1⟩
 | false=>exact hb wh pins s1 σ H1 Q I1 q1
theorem BH (ha:PT X a tA):PT X (.UnaryOp .Not a pos) (Ek tA):=by
 intro pins s σ H Q I h
 exact isTrue_not (ha pins s σ H (λ c H1=>Q (!c) H1) I h)
noncomputable def yH (ta tb:TE):TE:=λ σ H Q=>ta σ H λ x H1=>∃ c,x=.bl c/\if c=true then tb σ H1 Q else Q (.bl false) H1
noncomputable def Em (ta tb:TE):TE:=λ σ H Q=>ta σ H λ x H1=>∃ c,x=.bl c/\if c=true then Q (.bl true) H1 else tb σ H1 Q
noncomputable def yI (ta:TE):TE:=λ σ H Q=>ta σ H λ x H1=>∃ c,x=.bl c/\Q (.bl (!c)) H1
theorem BI {op} {t:TE} (h:PE X a t):PE X (.BoolOp op [a] pos) t:=λ pins s σ H Q I hw=>BoolOp_one (h pins s σ H Q I hw)
theorem BJ (ha:PE X a ta) (hb:PE X (.BoolOp .And (b::rest) pos) tb):PE X (.BoolOp .And (a::b::rest) pos) (yH ta tb):=by
 intro pins s σ H Q I h
 refine BoolOp_and (thn (ha pins s σ H _ I h) λ v s1 ⟨x,H1,I1,r1,q1⟩=>?_)
 obtain ⟨c,rfl,q1⟩:=q1
 cases r1
 refine wpAny_truthy_bool ?_
 cases c with
 | true=>exact hb pins s1 σ H1 Q I1 q1
 | false=>exact ⟨.bl false,H1,I1,rfl,q1⟩
theorem En (ha:PE X a ta) (hb:PE X (.BoolOp .Or (b::rest) pos) tb):PE X (.BoolOp .Or (a::b::rest) pos) (Em ta tb):=by
 intro pins s σ H Q I h
 refine BoolOp_or (thn (ha pins s σ H _ I h) λ v s1 ⟨x,H1,I1,r1,q1⟩=>?_)
 obtain ⟨c,rfl,q1⟩:=q1
 cases r1
 refine wpAny_truthy_bool ?_
 cases c with
 | false=>exact hb pins s1 σ H1 Q I1 q1
 | true=>exact ⟨.bl true,H1,I1,rfl,q1⟩
theorem BK (ha:PE X a ta):PE X (.UnaryOp .Not a pos) (yI ta):=by
 intro pins s σ H Q I h
 refine UnaryOp_ (thn (ha pins s σ H _ I h) λ v s1 ⟨x,H1,I1,r1,q1⟩=>?_)
 obtain ⟨c,rfl,q1⟩:=q1
 cases r1
 exact not_of (wpAny_truthy_bool ⟨.bl (!c),H1,I1,rfl,q1⟩)
noncomputable def tIf (t:TT) (ta tb:TE):TE:=λ σ H Q=>t σ H λ c H1=>if c=true then ta σ H1 Q else tb σ H1 Q
theorem vz {c:Expr} (hc:PT X c tA) (ha:PE X a ta) (hb:PE X b tb):PE X (.IfExp c a b pos) (tIf tA ta tb):=by
 intro pins s σ H Q I h
 refine wpAny_IfExp (thn (hc pins s σ H _ I h) λ d s1 ⟨H1,I1,q1⟩=>?_)
 cases d with
 | true=>exact ha pins s1 σ H1 Q I1 q1
 | false=>exact hb pins s1 σ H1 Q I1 q1
end
noncomputable def SqL (K:Ih) (H:Hp) (a:Addr) (xs:List V):Prop:=
 Rd H a (.lst xs)\/
  ∃ (o:Obj) (its:Array Value) (n:Nat),K.lookup a=some o/\o.cls=.type "list"/\o.dict=none/\o.data=.seq its n/\its.size<=sizeLine/\Vals xs its.toList
noncomputable def SqT (K:Ih) (H:Hp) (a:Addr) (xs:List V):Prop:=
 Rd H a (.tup xs)\/
  ∃ (o:Obj) (its:Array Value) (n:Nat),K.lookup a=some o/\o.cls=.type "tuple"/\o.data=.seq its n/\its.size<=sizeLine/\Vals xs its.toList
noncomputable def GR:Value->Option V
 | .none=>some .non
 | .bool b=>some (.bl b)
 | .int i _=>some (.int i)
 | .str x _=>some (.str x)
 | .bytes b _=>some (.byt b)
 | .float b _=>some (.flt b)
 | .ref a=>some (.ref a)
 | .type n=>some (.ty n)
 | _=>none
theorem RelV.abs {x:V} {u:Value} (r:RelV x u):GR u=some x:=by
 cases x with
 | non=>cases r; rfl
 | bl _=>cases r; rfl
 | int _=>obtain ⟨t,rfl⟩:=r; rfl
 | str _=>obtain ⟨t,rfl⟩:=r; rfl
 | byt _=>obtain ⟨t,rfl⟩:=r; rfl
 | flt _=>obtain ⟨t,rfl⟩:=r; rfl
 | ref _=>cases r; rfl
 | ty _=>cases r; rfl
theorem RelV.inj {x y:V} {u:Value} (r:RelV x u) (q:RelV y u):x=y:=IR (r.abs.symm.trans q.abs)
theorem Vals.inj:∀ {xs ys:List V} {us:List Value},Vals xs us->Vals ys us->xs=ys
 | _,_,_,.nil,.nil=>rfl
 | _,_,_,.cons r t,.cons r' t'=>by rw [r.inj r',Vals.inj t t']
section
variable {X:Cx} {pins:List (Addr×Obj)} {σ:St} {H:Hp} {s:Shared} {a:Addr} {xs ys:List V}
theorem SqL.of {K:Ih} (h:H a=some (.lst xs)):SqL K H a xs:=.inl (.inl h)
theorem SqT.of {K:Ih} (h:H a=some (.tup xs)):SqT K H a xs:=.inl (.inl h)
theorem Inv.list (I:Inv X pins σ H s) (h:SqL X.K H a xs):∃ its:List Value,Vals xs its/\PlainL s.heap a its.toArray/\xs.length<=sizeLine:=by
 rcases h with h | ⟨o,its,n,hk,hc,hd,hs,hz,r⟩
 ·obtain ⟨z,its,n,r,e⟩:=h.ok I.hok
  exact ⟨its,r,⟨_,n,e,rfl,rfl,rfl⟩,z⟩
 ·refine ⟨its.toList,r,⟨o,n,I.kIn a o hk,hc,hd,by simpa using hs⟩,?_⟩
  have e:=r.length
  simp only [Jx] at e
  lia
theorem Inv.tuple (I:Inv X pins σ H s) (h:SqT X.K H a xs):∃ its:List Value,Vals xs its/\IsTup s.heap a its.toArray/\xs.length<=sizeLine:=by
 rcases h with h | ⟨o,its,n,hk,hc,hs,hz,r⟩
 ·obtain ⟨z,its,r,p⟩:=h.ok I.hok
  exact ⟨its,r,p,z⟩
 ·refine ⟨its.toList,r,⟨o,I.kIn a o hk,hc,n,by simpa using hs⟩,?_⟩
  have e:=r.length
  simp only [Jx] at e
  lia
theorem Inv.list_inj (I:Inv X pins σ H s) (h:SqL X.K H a xs) (h':SqL X.K H a ys):xs=ys:=by
 obtain ⟨its,r,⟨o,n,e,_,_,d⟩,_⟩:=I.list h
 obtain ⟨its',r',⟨o',n',e',_,_,d'⟩,_⟩:=I.list h'
 rw [e] at e'; cases e'
 rw [d] at d'
 injection d' with d1 _
 have:its=its':=by simpa using congrArg Array.toList d1
 subst this
 exact r.inj r'
end
noncomputable abbrev Cx.wish (X:Cx) (E:Value->Shared->Prop):Cx:={ X with xe:=E }
noncomputable abbrev Cx.nox (X:Cx):Cx:=X.wish λ _ _=>False
theorem Cx.Ok.wish {X:Cx} (ok:X.Ok) (E:Value->Shared->Prop):(X.wish E).Ok:=
 ⟨ok.mod,ok.kind,ok.glob,ok.blt,ok.above,ok.inj,ok.has,ok.cab,ok.hd,ok.frames,ok.stk,ok.exf,ok.bs,ok.bsz,ok.noex,ok.exfs,ok.funs,ok.frf⟩
theorem Cx.Ok.unwish {X:Cx} {E:Value->Shared->Prop} (ok:(X.wish E).Ok):X.Ok:=
 ⟨ok.mod,ok.kind,ok.glob,ok.blt,ok.above,ok.inj,ok.has,ok.cab,ok.hd,ok.frames,ok.stk,ok.exf,ok.bs,ok.bsz,ok.noex,ok.exfs,ok.funs,ok.frf⟩
section
variable {X:Cx} {pins:List (Addr×Obj)} {σ:St} {H:Hp} {s:Shared} {E:Value->Shared->Prop}
theorem Inv.wish (I:Inv X pins σ H s) (E:Value->Shared->Prop):Inv (X.wish E) pins σ H s:=⟨I.ok.wish E,I.os,I.bare,I.base,I.loc,I.cell,I.free,I.freeC,I.pin,I.hok,I.len⟩
theorem Inv.unwish (I:Inv (X.wish E) pins σ H s):Inv X pins σ H s:=⟨I.ok.unwish,I.os,I.bare,I.base,I.loc,I.cell,I.free,I.freeC,I.pin,I.hok,I.len⟩
theorem SP.unwish {D:Ends} {f:Flow} {s':Shared} (h:SP (X.wish E) pins D f s'):SP X pins D f s':=by
 cases f with
 | next=>obtain ⟨σ',H',I,q⟩:=h; exact ⟨σ',H',I.unwish,q⟩
 | brk=>obtain ⟨σ',H',I,q⟩:=h; exact ⟨σ',H',I.unwish,q⟩
 | cont=>obtain ⟨σ',H',I,q⟩:=h; exact ⟨σ',H',I.unwish,q⟩
 | ret u=>obtain ⟨v,σ',H',I,r,q⟩:=h; exact ⟨v,σ',H',I.unwish,r,q⟩
theorem PSs.nox {st:List Stmt} {t:TS} (h:PSs X.nox st t):PSs X st t:=λ pins s σ H D I hw=>
 wpAny_mono (h pins s σ H D (I.wish _) hw) (λ _ _ q=>q.unwish) λ _ _ z=>IV z
end
section
variable {X:Cx} {st:Stmt} {rest:List Stmt} {t u:TS} {e:Expr} {te:TE} {pos:Pos}
noncomputable def yJ:TS:=λ D σ H=>D.nx σ H
noncomputable def Eo (t u:TS):TS:=λ D σ H=>t { D with nx:=u D } σ H
theorem yK:PSs X [] yJ:=λ _ _ σ H _ I h=>wpAny_execs_nil ⟨σ,H,I,h⟩
theorem vA (h1:PS X st t) (h2:PSs X rest u):PSs X (st::rest) (Eo t u):=by
 intro pins s σ H D I h
 refine wpAny_execs_cons (thn (h1 pins s σ H { D with nx:=u D } I h) λ f s1 q=>?_)
 cases f with
 | next=>
  obtain ⟨σ',H',I',q⟩:=q
  exact h2 pins s1 σ' H' D I' q
 | ret v=>exact q
 | brk=>exact q
 | cont=>exact q
theorem yL (h1:PS X st t):PSs X [st] t:=by
 intro pins s σ H D I h
 refine wpAny_execs_cons (thn (h1 pins s σ H D I h) λ f s1 q=>?_)
 cases f with
 | next=>exact wpAny_execs_nil q
 | ret v=>exact q
 | brk=>exact q
 | cont=>exact q
noncomputable def yM:TS:=λ D σ H=>D.ct σ H
theorem nL:PS X (.Continue pos) yM:=λ _ _ σ H _ I h=>wpAny_Continue ⟨σ,H,I,h⟩
theorem Inv.quiet {pins:List (Addr×Obj)} {σ:St} {H:Hp} {s:Shared} (I:Inv X pins σ H s):interactive X.env=false:=by simp [interactive,I.ok.kind]
noncomputable def yN (te:TE):TS:=λ D σ H=>te σ H λ _ H1=>D.nx σ H1
theorem yO (he:PE X e te) (hs:swapsWith e none pos.line X.env=pure false:=by rfl):PS X (.Expr e pos) (yN te):=by
 intro pins s σ H D I h
 exact wpAny_Expr_any (thn (he pins s σ H _ I h) λ v s1 ⟨x,H1,I1,r1,q1⟩=>⟨σ,H1,I1,q1⟩) I.quiet hs
noncomputable def Ep (te:TE):TS:=λ D σ H=>te σ H D.rt
theorem BL (he:PE X e te):PS X (.Return (some e) pos) (Ep te):=by
 intro pins s σ H D I h
 exact wpAny_Return_some (thn (he pins s σ H _ I h) λ v s1 ⟨x,H1,I1,r1,q1⟩=>⟨x,σ,H1,I1,r1,q1⟩)
noncomputable def Er (c:TT) (t u:TS):TS:=λ D σ H=>c σ H λ b H1=>if b=true then t D σ H1 else u D σ H1
theorem Es {c:Expr} {a b:List Stmt} {tc:TT} (hc:PT X c tc) (ha:PSs X a t) (hb:PSs X b u):PS X (.If c a b pos) (Er tc t u):=by
 intro pins s σ H D I h
 refine wpAny_If (thn (hc pins s σ H _ I h) λ d s1 ⟨H1,I1,q1⟩=>?_)
 cases d with
 | true=>exact ha pins s1 σ H1 D I1 q1
 | false=>exact hb pins s1 σ H1 D I1 q1
noncomputable def xA:TS:=λ _ _ _=>False
theorem vB:PS X st xA:=λ _ _ _ _ _ _ h=>h.elim
end
noncomputable abbrev TG:=V->St->Hp->(St->Hp->Prop)->Prop
noncomputable abbrev TGs:=List V->St->Hp->(St->Hp->Prop)->Prop
noncomputable def PG (X:Cx) (target:Expr) (t:TG):Prop:=
 ∀ (pins:List (Addr×Obj)) (s:Shared) (σ:St) (H:Hp) (v:V) (u:Value) (Q:St->Hp->Prop),Inv X pins σ H s->RelV v u->t v σ H Q->
  wpAny (model X.prog X.w) X.A (assign target X.env u) (λ _ s'=>∃ σ' H',Inv X pins σ' H' s'/\Q σ' H') X.xe s
noncomputable def PGs (X:Cx) (ts:List Expr) (t:TGs):Prop:=
 ∀ (pins:List (Addr×Obj)) (s:Shared) (σ:St) (H:Hp) (vs:List V) (us:List Value) (Q:St->Hp->Prop),Inv X pins σ H s->Vals vs us->t vs σ H Q->
  wpAny (model X.prog X.w) X.A (assignInOrder ((assignEach ts X.env).map (·.2)) us) (λ _ s'=>∃ σ' H',Inv X pins σ' H' s'/\Q σ' H') X.xe s
noncomputable abbrev Dy:=V->V->V->Hp->(Hp->Prop)->Prop
noncomputable def FR (X:Cx) (t:Dy):Prop:=
 ∀ (pins:List (Addr×Obj)) (s:Shared) (σ:St) (H:Hp) (o i v:V) (ov iv u:Value) (Q:Hp->Prop),Inv X pins σ H s->RelV o ov->RelV i iv->RelV v u->t o i v H Q->
  wpAny (model X.prog X.w) X.A (setItem ov iv u) (λ _ s'=>∃ H',Inv X pins σ H' s'/\Q H') X.xe s
noncomputable abbrev TIp:=V->V->Hp->VK->Prop
section
variable {X:Cx} {pos:Pos}
noncomputable def eY (i:Nat):TG:=λ v σ H Q=>Q (σ.set i (some v)) H
theorem yP {i:Nat} {x:Str} (hN:X.N.Nodup) (hi:X.N[i]? = some x) (hx:Loc X.env.scope x) (hf:X.fn x=true\/X.env.scope.names.lookup x=some .local:=by first | exact .inl rfl | exact .inr rfl | assumption):PG X (.Name x pos) (eY i):=by
 intro pins s σ H v u Q I r h
 exact wpAny_assign_Name (fH I hN hi hx r (λ s' I'=>⟨_,H,I',h⟩) hf)
noncomputable def Dz:TGs:=λ vs σ H Q=>vs=[]/\Q σ H
noncomputable def nM (t:TG) (u:TGs):TGs:=λ vs σ H Q=>∃ v r,vs=v::r/\t v σ H λ σ' H'=>u r σ' H' Q
theorem yQ:PGs X [] Dz:=by
 intro pins s σ H vs us Q I r h
 obtain ⟨e,h⟩:=h
 subst e
 cases r
 exact assignInOrder_nil ⟨σ,H,I,h⟩
theorem vC {e:Expr} {es:List Expr} {t:TG} {u:TGs} (h1:PG X e t) (h2:PGs X es u)
  (hs:(assignEach (e::es) X.env).map (·.2)=assign e X.env::(assignEach es X.env).map (·.2):=by rfl):PGs X (e::es) (nM t u):=by
 intro pins s σ H vs us Q I r h
 obtain ⟨v,vr,e1,h⟩:=h
 subst e1
 cases r with
 | cons r rr=>
  rw [hs]
  refine assignInOrder_cons (thn (h1 pins s σ H _ _ _ I r h) λ _ s1 ⟨σ1,H1,I1,q1⟩=>?_)
  exact h2 pins s1 σ1 H1 _ _ Q I1 rr q1
noncomputable def DA (K:Ih) (n:Nat) (t:TGs):TG:=λ v σ H Q=>∃ a xs,v=.ref a/\SqT K H a xs/\xs.length=n/\t xs σ H Q
theorem BM {es:List Expr} {k:Nat} {t:TGs} {n:Nat} (hc:X.calm=true) (h:PGs X es t)
  (hn:(assignEach es X.env).length=n:=by rfl) (hst:(assignEach es X.env).findIdx? (·.1)=none:=by rfl):PG X (.Tuple es k pos) (DA X.K n t):=by
 intro pins s σ H v u Q I r hw
 obtain ⟨a,xs,e1,hq,hl,hw⟩:=hw
 subst e1
 cases r
 obtain ⟨its,rv,ht,hz⟩:=I.tuple hq
 refine assign_Tuple_tuple (I.ok.hd hc) ht (by simp [hn,<-hl,rv.length]) hst λ h' hx=>?_
 have I1:Inv X pins σ H { s with heap:=h' }:=I.kept (t':=s.toks) λ b o e=>hx b o (Iy (Ip e)) e
 exact h pins _ σ H xs _ Q I1 (by simpa using rv) hw
noncomputable def Et (to ti:TE) (t:Dy):TG:=λ v σ H Q=>to σ H λ o H1=>ti σ H1 λ i H2=>t o i v H2 λ H3=>Q σ H3
theorem BN {o i:Expr} {to ti:TE} {t:Dy} (ho:PE X o to) (hi:PE X i ti) (hs:FR X t)
  (ha:∀ v,assign (.Subscript o i pos) X.env v=(do
   let ov <-holding [v] (eval o X.env)
   let iv <-holding [v,ov] (eval i X.env)
   standAt pos
   holding [v,ov,iv] (setItem ov iv v)
   release [v,ov,iv] []):=by intro _; rfl):PG X (.Subscript o i pos) (Et to ti t):=by
 intro pins s σ H v u Q I r h
 rw [ha]
 refine wpAny_bind (wpAny_holding (thn (ho pins s σ H _ I h) λ ov s1 ⟨x,H1,I1,r1,q1⟩=>?_))
 refine wpAny_bind (wpAny_holding (thn (hi pins s1 σ H1 _ I1 q1) λ iv s2 ⟨y,H2,I2,r2,q2⟩=>?_))
 refine wpAny_bind (wpAny_standAt (wpAny_bind (wpAny_holding (thn (hs pins s2 σ H2 x y v ov iv u _ I2 r1 r2 r q2) λ _ s3 ⟨H3,I3,q3⟩=>?_))))
 exact wpAny_release ⟨σ,H3,I3,q3⟩
noncomputable def vd (te:TE) (g:TG):TS:=λ D σ H=>te σ H λ x H1=>g x σ H1 D.nx
theorem xB {tg e:Expr} {te:TE} {g:TG} (he:PE X e te) (hg:PG X tg g) (hs:swapsWithSole [tg] e pos.line X.env=pure false:=by rfl) (hw:swappedStores [tg] e X.env=pure none:=by rfl)
  (h1:(assignEach [tg] X.env).map (·.2)=[assign tg X.env]:=by rfl):PS X (.Assign [tg] e pos) (vd te g):=by
 intro pins s σ H D I h
 refine wpAny_Assign_stores (thn (he pins s σ H _ I h) λ v s1 ⟨x,H1,I1,r1,q1⟩=>?_) hs hw
 rw [h1]
 exact thn (hg pins s1 σ H1 x v _ I1 r1 q1) λ _ s2 q=>q
theorem BO {i:Nat} {x:Str} {e:Expr} {te:TE} {pos':Pos} (hN:X.N.Nodup) (hi:X.N[i]? = some x) (hx:Loc X.env.scope x) (he:PE X e te) (hs:swapsWith e (some (.Name x pos')) pos.line X.env=pure false:=by rfl) (hf:X.fn x=true\/X.env.scope.names.lookup x=some .local:=by first | exact .inl rfl | exact .inr rfl | assumption) :
  PS X (.Assign [.Name x pos'] e pos) (vd te (eY i)):=by
 intro pins s σ H D I h
 refine wpAny_Assign_Name (thn (he pins s σ H _ I h) λ v s1 ⟨y,H1,I1,r1,q1⟩=>?_) hs
 exact fH I1 hN hi hx r1 (λ s2 I2=>⟨_,H1,I2,q1⟩) hf
noncomputable def GS (i:Nat) (te:TE) (ti:TIp):TS:=λ D σ H=>∃ x,σ[i]? = some (some x)/\te σ H λ y H1=>ti x y H1 λ z H2=>D.nx (σ.set i (some z)) H2
end
section
variable {X:Cx} {pos:Pos}
noncomputable def xC (c:TT) (tb:TS):TS:=λ D σ H=>∃ W:Nat->St->Hp->Prop,(∃ m,W m σ H)/\∀ m σ H,W m σ H->
 c σ H λ b H1=>if b=true then ∃ N:St->Hp->Prop,(∀ σ' H',N σ' H'->∃ m',m'<m/\W m' σ' H')/\tb { D with nx:=N,ct:=N,bk:=D.nx } σ H1 else D.nx σ H1
theorem vD {c:Expr} {body:List Stmt} {tc:TT} {tb:TS} (hp:PassesOwn (model X.prog X.w) X.A X.env X.xe) (hc:PT X c tc) (hb:PSs X body tb):PS X (.While c body [] pos) (xC tc tb):=by
 intro pins s σ H D I h
 obtain ⟨W,⟨m0,w0⟩,turn⟩:=h
 refine wpAny_While (codeAny_whileLoop (λ n s'=>∃ σ' H',Inv X pins σ' H' s'/\W n σ' H') ?_ m0 ⟨σ,H,I,w0⟩)
 rintro n s1 ⟨σ1,H1,I1,w1⟩
 refine wpAny_passesOwn hp (thn (hc pins s1 σ1 H1 _ I1 (turn n σ1 H1 w1)) λ b s2 ⟨H2,I2,q2⟩=>?_)
 cases b with
 | true=>
  obtain ⟨N,hN,q2⟩:=q2
  rw [if_pos rfl]
  refine wpAny_passesOwn hp (thn (hb pins s2 σ1 H2 _ I2 q2) λ f s3 q3=>?_)
  cases f with
  | next=>
   obtain ⟨σ3,H3,I3,n3⟩:=q3
   obtain ⟨m',hm,w3⟩:=hN σ3 H3 n3
   exact ⟨m',hm,σ3,H3,I3,w3⟩
  | cont=>
   obtain ⟨σ3,H3,I3,n3⟩:=q3
   obtain ⟨m',hm,w3⟩:=hN σ3 H3 n3
   exact ⟨m',hm,σ3,H3,I3,w3⟩
  | brk=>exact q3
  | ret v=>exact q3
 | false=>
  rw [if_neg Iv]
  exact wpAny_execs_nil ⟨σ1,H2,I2,q2⟩
end
structure It where
 go:Nat->Hp->Prop
 yld:Nat->Hp->V->Hp->Prop
 stop:Nat->Hp->Prop
noncomputable def qm (X:Cx) (pins:List (Addr×Obj)) (H:Hp) (b:Addr):Prop:=
 H b=none/\b≠X.env.locals/\b∉X.fs/\(b∈X.ex\/X.s₀.heap.objs.size<=b)/\(∀ x c,X.env.cells.lookup x=some c->c≠b)/\∀ p∈X.pn++pins,p.1≠b
theorem Inv.fpOk {X:Cx} {pins:List (Addr×Obj)} {σ:St} {H H':Hp} {s:Shared} {b:Addr} (I:Inv X pins σ H s) (hb:s.heap.objs.size<=b) (hn:H' b=none):qm X pins H' b:=by
 refine ⟨hn,JX (Iu I.lt hb),I.nofs hb,.inr (Js I.sz hb),λ x c e z=>?_,λ p hp z=>?_⟩
 ·obtain ⟨v,q⟩:=I.cell x c e
  exact absurd (Iu q.lt (by rw [z]; exact hb)) (Jr _)
 ·exact absurd (Iu (Ip (I.pin p hp).1) (by rw [z]; exact hb)) (Jr _)
structure Turn (P:Program) (w:World) (K:Ih) (tg:Expr) (J:It) (fp:List Addr) (it:Addr) (tn:Nat->Heap->Prop):Prop where
 mem:it∈fp
 obj:∀ i h,tn i h->∀ b∈fp,∃ o,h.get? b=some o/\∀ v,o.data≠.cell v
 keep:∀ i h h',tn i h->(∀ b∈fp,∀ o,h.get? b=some o->h'.get? b=some o)->tn i h'
 item:∀ (X:Cx),X.prog=P->X.w=w->X.K=K->X.calm=true->∀ (i:Nat) (pins:List (Addr×Obj)) (s:Shared) (σ:St) (H:Hp) (E:Value->Shared->Prop),Inv X pins σ H s->(∀ b∈fp,qm X pins H b)->tn i s.heap->J.go i H->
  wpAny (model P w) X.A (pyNext (.ref it)) (λ r s1=>∃ u,r=some u/\
   wpAny (model P w) X.A (letOwnedTupleGo tg (.ref it) u) (λ _ s2=>∃ x H',Inv X pins σ H' s2/\RelV x u/\J.yld i H x H'/\tn (i+1) s2.heap/\∀ b∈fp,H' b=none) E s1) E s
 done:∀ (X:Cx),X.prog=P->X.w=w->X.K=K->X.calm=true->∀ (i:Nat) (pins:List (Addr×Obj)) (s:Shared) (σ:St) (H:Hp) (E:Value->Shared->Prop),Inv X pins σ H s->(∀ b∈fp,qm X pins H b)->tn i s.heap->J.stop i H->
  wpAny (model P w) X.A (pyNext (.ref it)) (λ r s1=>r=none/\Inv X pins σ H s1) E s
 self:∀ (A:Around) (i:Nat) (s:Shared) (Q:Value->Shared->Prop) (E:Value->Shared->Prop),tn i s.heap->Q (.ref it) s->wpAny (model P w) A (pyIter (.ref it)) Q E s
noncomputable abbrev TI:=St->Hp->(It->Hp->Prop)->Prop
noncomputable def PIE (X:Cx) (pins:List (Addr×Obj)) (σ:St) (tg:Expr) (R:It->Hp->Prop) (itv:Value) (s2:Shared):Prop:=
 ∃ (it:Addr) (fp:List Addr) (tn:Nat->Heap->Prop) (J:It) (H':Hp),itv=.ref it/\Inv X pins σ H' s2/\Turn X.prog X.w X.K tg J fp it tn/\tn 0 s2.heap/\(∀ b∈fp,qm X pins H' b)/\R J H'
noncomputable def PI (X:Cx) (tg iter:Expr) (wi:TI):Prop:=
 ∀ (pins:List (Addr×Obj)) (s:Shared) (σ:St) (H:Hp) (R:It->Hp->Prop),Inv X pins σ H s->wi σ H R->
  wpAny (model X.prog X.w) X.A (eval iter X.env) (λ v s1=>wpAny (model X.prog X.w) X.A (pyIter v) (PIE X pins σ tg R) X.xe s1) X.xe s
theorem yR {M:Model} {A:Around} {E:Value->Shared->Prop} {s:Shared} {tg:Expr} {it:Addr} {u:Value} {o:Obj} {n:String} {vs:Array Value} {Q:Unit->Shared->Prop} (ho:s.heap.get? it=some o) (hc:o.cls=.type n) (hd:o.data=.fields vs)
    (hn:["enumerate","zip","dict_itemiterator","dict_reverseitemiterator","odict_iterator","itertools.zip_longest","itertools.pairwise"].contains n=false) (hQ:Q () s):wpAny M A (letOwnedTupleGo tg (.ref it) u) Q E s:=by
  unfold letOwnedTupleGo
  cases tg<;>first
    | exact wpAny_pure hQ
    | (cases u<;>first
        | exact wpAny_pure hQ
        | (refine wpAny_bind (wpAny_load ho ?_)
           rw [hc,hd]
           show wpAny M A (if (["enumerate","zip","dict_itemiterator","dict_reverseitemiterator","odict_iterator","itertools.zip_longest","itertools.pairwise"].contains n && vs[0]? == some (rawInt _))=true then _ else _) Q E s
           rw [if_neg (by intro h; rw [hn,Bool.false_and] at h; cases h)]
           exact wpAny_pure hQ))
noncomputable def Itl (K:Ih) (a:Addr):It:=
 ⟨λ i H=>∃ xs x,SqL K H a xs/\xs[i]? = some x,λ i H x H'=>H'=H/\∀ xs,SqL K H a xs->xs[i]? = some x,λ i H=>∃ xs,SqL K H a xs/\xs.length<=i⟩
noncomputable def Itr (lo:Int) (n:Nat):It:=⟨λ i _=>i<n,λ i H x H'=>H'=H/\x=.int (lo+i),λ i _=>n<=i⟩
theorem rP {P:Program} {w:World} {K:Ih} {tg:Expr} (a it:Addr):Turn P w K tg (Itl K a) [it] it (λ i h=>h.IsListIter it a i) where
 mem:=by simp
 obj:=λ i h st b hb=>by
  have e:b=it:=by simpa using hb
  subst e
  obtain ⟨o,e,c,d⟩:=st
  exact ⟨o,e,λ v z=>by rw [d] at z; cases z⟩
 keep:=λ i h h' st k=>st.at λ o e=>k it (by simp) o e
 item:=by
  intro X hP hw hK hc i pins s σ H E I hf st hg
  subst hP hw hK
  obtain ⟨xs,x,hq,hx⟩:=hg
  obtain ⟨its,rv,p,hz⟩:=I.list hq
  obtain ⟨u,hu,ru⟩:=rv.get hx
  obtain ⟨f0,f1,f2,f3,f4,f5⟩:=hf it (by simp)
  refine wpAny_pyNext_list_item st p.isList (x:=u) (by simpa using hu) λ h' st' sb=>?_
  have I1:Inv X pins σ H { s with heap:=h' }:=I.turned (t':=s.toks) (λ b o hb e=>(sb.2 b hb).trans e) f0 f1 f3 f4 f5
  obtain ⟨o,e,c,d⟩:=id st'
  exact ⟨u,rfl,yR (s:={ s with heap:=h' }) e c d (by decide) ⟨x,H,I1,ru,⟨rfl,λ ys hy=>by rw [I.list_inj hy hq]; exact hx⟩,st',λ b hb=>(hf b hb).1⟩⟩
 done:=by
  intro X hP hw hK hc i pins s σ H E I hf st hg
  subst hP hw hK
  obtain ⟨xs,hq,hx⟩:=hg
  obtain ⟨its,rv,p,hz⟩:=I.list hq
  obtain ⟨f0,f1,f2,f3,f4,f5⟩:=hf it (by simp)
  have hl:=rv.length
  exact wpAny_pyNext_list_end (I.ok.hd hc) st p.isList (by simp; lia) λ h' eb=>⟨rfl,I.turned (t':=s.toks) (λ b o hb e=>eb b o hb e) f0 f1 f3 f4 f5⟩
 self:=λ _ _ _ _ _ st h=>wpAny_pyIter_listiter st h
theorem qo {P:Program} {w:World} {K:Ih} {tg:Expr} (it:Addr) (lo:Int) (n:Nat):Turn P w K tg (Itr lo n) [it] it (λ i h=>IsRangeIter h it (lo+(i:Nat)*1) ((n:Int) - (i:Nat)) 1) where
 mem:=by simp
 obj:=λ i h st b hb=>by
  have e:b=it:=by simpa using hb
  subst e
  exact ⟨_,st,λ v z=>by
   have z':Data.fields _=Data.cell v:=z
   cases z'⟩
 keep:=λ i h h' st k=>k it (by simp) _ st
 item:=by
  intro X hP hw hK hc i pins s σ H E I hf st hg
  subst hP hw hK
  obtain ⟨f0,f1,f2,f3,f4,f5⟩:=hf it (by simp)
  have W:=Walks.range (prog:=X.prog) (w:=X.w) (I.ok.hd hc) it lo 1 n
  refine W.item i s _ _ hg st λ v h' tk hv st' kk=>?_
  obtain ⟨t,rfl⟩:=hv
  have I1:Inv X pins σ H { s with heap:=h',toks:=tk }:=I.turned (λ b o hb e=>kk b o (by simpa using hb) e) f0 f1 f3 f4 f5
  refine ⟨_,rfl,yR (s:={ s with heap:=h',toks:=tk }) (n:="range_iterator") st' rfl rfl (by decide) ⟨.int (lo+i),H,I1,⟨t,?_⟩,⟨rfl,rfl⟩,st',λ b hb=>(hf b hb).1⟩⟩
  rw [NU]
 done:=by
  intro X hP hw hK hc i pins s σ H E I hf st hg
  subst hP hw hK
  obtain ⟨f0,f1,f2,f3,f4,f5⟩:=hf it (by simp)
  exact wpAny_pyNext_range_end (I.ok.hd hc) st (by have:n<=i:=hg; lia) λ h' eb=>⟨rfl,I.turned (t':=s.toks) (λ b o hb e=>eb b o hb e) f0 f1 f3 f4 f5⟩
 self:=λ _ _ _ _ _ st h=>wpAny_pyIter_rangeiter st h
section
variable {X:Cx} {tg:Expr}
noncomputable def yS (K:Ih) (tl:TE):TI:=λ σ H R=>tl σ H λ x H1=>∃ a,x=.ref a/\(∃ xs,SqL K H1 a xs)/\R (Itl K a) H1
theorem yT {l:Expr} {tl:TE} (hl:PE X l tl):PI X tg l (yS X.K tl):=by
 intro pins s σ H R I h
 refine thn (hl pins s σ H _ I h) λ v s1 ⟨x,H1,I1,r1,q1⟩=>?_
 obtain ⟨a,e,⟨xs,hq⟩,q⟩:=q1
 subst e
 cases r1
 obtain ⟨its,rv,p,hz⟩:=I1.list hq
 refine wpAny_pyIter_list p.isList ?_
 refine ⟨s1.heap.objs.size,[s1.heap.objs.size],_,_,H1,rfl,I1.kept (t':=s1.toks) λ b o e=>Ij _ e,rP a _,⟨_,Iz _ rfl,rfl,rfl⟩,λ b hb=>?_,q⟩
 have e:b=s1.heap.objs.size:=by simpa using hb
 subst e
 exact I1.fpOk (Im _) (I1.hok.fresh (Im _))
theorem vE {pins:List (Addr×Obj)} {σ:St} {H:Hp} {s:Shared} {R:It->Hp->Prop} {E:Value->Shared->Prop} {lo hi:Int} {t u v:Tok} {tk:Nat} (I:Inv X pins σ H s) (h1:-(2 ^ 62)<=lo) (h2:lo<2 ^ 62) (h3:-(2 ^ 62)<=hi) (h4:hi<2 ^ 62)
  (q:R (Itr lo (hi - lo).toNat) H):wpAny (model X.prog X.w) X.A (pyIter (.ref s.heap.objs.size)) (PIE X pins σ tg R) E { s with heap:=s.heap.push { cls:=.type "range",data:=.fields #[.int lo t,.int hi u,.int 1 v] },toks:=tk }:=by
 refine wpAny_pyIter_range (Pb ..) (small_one h1 h2 h3 h4) ?_
 have I1:Inv X pins σ H { s with heap:=s.heap.push { cls:=.type "range",data:=.fields #[.int lo t,.int hi u,.int 1 v] },toks:=tk }:=I.kept λ b o e=>Ij _ e
 refine ⟨(s.heap.push { cls:=.type "range",data:=.fields #[.int lo t,.int hi u,.int 1 v] }).objs.size,[(s.heap.push { cls:=.type "range",data:=.fields #[.int lo t,.int hi u,.int 1 v] }).objs.size],_,_,H,rfl,
  I1.kept (t':=tk) λ b o e=>Ij _ e,qo _ lo (hi - lo).toNat,?_,λ b hb=>?_,q⟩
 ·have e1:lo+((0:Nat):Int)*1=lo:=by simp
  have e2:(((hi - lo).toNat:Nat):Int) - ((0:Nat):Int)=Mu lo hi 1:=by rw [rangeSize_one]; split<;>lia
  show IsRangeIter _ _ (lo+((0:Nat):Int)*1) ((((hi - lo).toNat:Nat):Int) - ((0:Nat):Int)) 1
  rw [e1,e2]
  exact Iz _ rfl
 ·have e:b=(s.heap.push { cls:=.type "range",data:=.fields #[.int lo t,.int hi u,.int 1 v] }).objs.size:=by simpa using hb
  subst e
  exact I1.fpOk (Im _) (I1.hok.fresh (Im _))
noncomputable def yU (ta:TA):TI:=λ σ H R=>ta σ H λ vs H1=>∃ j:Int,vs=[.int j]/\-(2 ^ 62)<=j/\j<2 ^ 62/\R (Itr 0 j.toNat) H1
theorem rQ {a:Expr} {ta:TA} {p pos:Pos} (hg:Gl X "range") (hm:X.mg "range" = none) (ha:PA X [a] ta) (hs:starEach [a] X.env=[(false,eval a X.env)]:=by rfl):PI X tg (.Call (.Name "range" p) [a] [] pos) (yU ta):=by
 intro pins s σ H R I h
 refine Call_ (eG I hg hm boot_range (JA (thn (ha pos pins s σ H _ I h) λ us s1 ⟨vs,H1,I1,r1,q1⟩=>?_) hs rfl))
 obtain ⟨j,e,q1,q2,q⟩:=q1
 subst e
 cases r1 with
 | cons r rr=>
  cases rr
  obtain ⟨t,rfl⟩:=r
  exact call_range_1 (vE I1 (by lia) (by lia) q1 q2 (by simpa using q))
noncomputable def Eu (wi:TI) (g:TG) (tb:TS):TS:=λ D σ H=>wi σ H λ J H1=>∃ W:Nat->Nat->St->Hp->Prop,(∃ m,W 0 m σ H1)/\∀ i m σ H,W i m σ H->
 (J.stop i H/\D.nx σ H)\/(J.go i H/\∃ N:St->Hp->Prop,(∀ σ' H',N σ' H'->∃ m',m'<m/\W (i+1) m' σ' H')/\∀ x H',J.yld i H x H'->g x σ H' λ σ2 H2=>tb { D with nx:=N,ct:=N,bk:=D.nx } σ2 H2)
noncomputable def o6 (fp:List Addr) (h:Heap):List (Addr×Obj):=fp.filterMap λ b=>(h.get? b).map λ o=>(b,o)
theorem aD {fp:List Addr} {h:Heap} {b:Addr} {o:Obj} (hb:b∈fp) (e:h.get? b=some o):(b,o)∈o6 fp h:=JI.mpr ⟨b,hb,by rw [e]; rfl⟩
theorem rR {fp:List Addr} {h:Heap} {p:Addr×Obj} (hp:p∈o6 fp h):p.1∈fp/\h.get? p.1=some p.2:=by
 obtain ⟨b,hb,e⟩:=JI.mp hp
 cases q:h.get? b with
 | none=>rw [q] at e; cases e
 | some o=>
  rw [q] at e
  have e':(b,o)=p:=IR e
  subst e'
  exact ⟨hb,q⟩
theorem Inv.pinned {pins:List (Addr×Obj)} {σ:St} {H:Hp} {s:Shared} {fp:List Addr} (I:Inv X pins σ H s) (hf:∀ b∈fp,qm X pins H b) (ho:∀ b∈fp,∃ o,s.heap.get? b=some o/\∀ v,o.data≠.cell v):Inv X (pins++o6 fp s.heap) σ H s:=
 I.pins_of λ p hp=>(IN.mp hp).elim (λ z=>I.pin p (Ik _ z)) λ z=>by
  obtain ⟨hb,e⟩:=rR z
  obtain ⟨f0,f1,f2,_⟩:=hf p.1 hb
  obtain ⟨o,e',d⟩:=ho p.1 hb
  rw [e] at e'; cases e'
  exact ⟨e,f0,f1,f2,d⟩
theorem Inv.unpinned {pins pl:List (Addr×Obj)} {σ:St} {H:Hp} {s:Shared} (I:Inv X (pins++pl) σ H s):Inv X pins σ H s:=I.pins_of λ p hp=>I.pin p (Ik _ (KS _ hp))
theorem BP {iter:Expr} {body:List Stmt} {wi:TI} {g:TG} {tb:TS} {pos:Pos} (hp:PassesOwn (model X.prog X.w) X.A X.env X.xe) (hc:X.calm=true) (hi:PI X tg iter wi) (hg:PG X tg g) (hb:PSs X body tb)
  (hs:∀ x,foldedSetIterable iter X.env x=pure x:=by intro _; rfl):PS X (.For tg iter body [] pos) (Eu wi g tb):=by
 intro pins s σ H D I h
 refine wpAny_For (thn (hi pins s σ H _ I h) λ v s1 h1=>thn h1 λ itv s2 h2=>?_) hs
 obtain ⟨it,fp,tn,J,H2,e,I2,T,st2,f2,W,⟨m0,w0⟩,turn⟩:=h2
 subst e
 -- what stays true of the iterator's objects through the loop
 have stat:∀ {H':Hp},(∀ b∈fp,H' b=none)->∀ b∈fp,qm X pins H' b:=λ hn b hb=>⟨hn b hb,(f2 b hb).2⟩
 refine codeAny_forLoop_any (λ n s'=>∃ i σ' H',Inv X pins σ' H' s'/\tn i s'.heap/\(∀ b∈fp,H' b=none)/\W i n σ' H') ?_ m0 ⟨0,σ,H2,I2,st2,λ b hb=>(f2 b hb).1,w0⟩
 rintro n s3 ⟨i,σ3,H3,I3,st3,fr3,w3⟩
 rcases turn i n σ3 H3 w3 with ⟨stop,qn⟩ | ⟨go,N,hN,step⟩
 ·refine wpAny_passesOwn hp (thn (T.done X rfl rfl rfl hc i pins s3 σ3 H3 X.xe I3 (stat fr3) st3 stop) λ r s4 ⟨hr,I4⟩=>?_)
  subst hr
  exact wpAny_execs_nil ⟨σ3,H3,I4,qn⟩
 ·refine wpAny_passesOwn hp (thn (T.item X rfl rfl rfl hc i pins s3 σ3 H3 X.xe I3 (stat fr3) st3 go) λ r s4 ⟨u,hr,h4⟩=>?_)
  subst hr
  refine wpAny_passesOwn hp (thn h4 λ _ s5 ⟨x,H5,I5,r5,y5,st5,fr5⟩=>?_)
  have I5':=I5.pinned (stat fr5) (T.obj _ _ st5)
  refine wpAny_passesOwn hp (thn (hg _ s5 σ3 H5 x u _ I5' r5 (step x H5 y5)) λ _ s6 ⟨σ6,H6,I6,q6⟩=>?_)
  refine wpAny_passesOwn hp (thn (hb _ s6 σ6 H6 _ I6 q6) λ f s7 q7=>?_)
  have again:∀ {σ7:St} {H7:Hp},Inv X (pins++o6 fp s5.heap) σ7 H7 s7->N σ7 H7->∃ m,m<n/\∃ i σ' H',Inv X pins σ' H' s7/\tn i s7.heap/\(∀ b∈fp,H' b=none)/\W i m σ' H':=λ {σ7 H7} I7 n7=>by
   obtain ⟨m',hm,w7⟩:=hN σ7 H7 n7
   refine ⟨m',hm,i+1,σ7,H7,I7.unpinned,T.keep _ _ _ st5 λ b hb o e=>(I7.pin (b,o) (Ik _ (Ik _ (aD hb e)))).1,λ b hb=>?_,w7⟩
   obtain ⟨o,e,d⟩:=T.obj _ _ st5 b hb
   exact (I7.pin (b,o) (Ik _ (Ik _ (aD hb e)))).2.1
  cases f with
  | next=>obtain ⟨σ7,H7,I7,n7⟩:=q7; exact again I7 n7
  | cont=>obtain ⟨σ7,H7,I7,n7⟩:=q7; exact again I7 n7
  | brk=>obtain ⟨σ7,H7,I7,q7⟩:=q7; exact ⟨σ7,H7,I7.unpinned,q7⟩
  | ret v=>obtain ⟨x7,σ7,H7,I7,r7,q7⟩:=q7; exact ⟨x7,σ7,H7,I7.unpinned,r7,q7⟩
end
theorem iH {K:Ih} {a:Addr} {xs:List V} {g:TG} {tb:TS} {D:Ends} {σ:St} {H:Hp} (Pv:Nat->St->Hp->Prop) (h0:Pv 0 σ H) (hl:∀ i σ H,i<=xs.length->Pv i σ H->SqL K H a xs)
  (hs:∀ i x σ H,xs[i]? = some x->Pv i σ H->g x σ H λ σ2 H2=>tb { D with nx:=Pv (i+1),ct:=Pv (i+1),bk:=D.nx } σ2 H2) (hd:∀ σ H,Pv xs.length σ H->D.nx σ H) :
  ∃ W:Nat->Nat->St->Hp->Prop,(∃ m,W 0 m σ H)/\∀ i m σ H,W i m σ H->
   ((Itl K a).stop i H/\D.nx σ H)\/((Itl K a).go i H/\∃ N:St->Hp->Prop,(∀ σ' H',N σ' H'->∃ m',m'<m/\W (i+1) m' σ' H')/\∀ x H',(Itl K a).yld i H x H'->g x σ H' λ σ2 H2=>tb { D with nx:=N,ct:=N,bk:=D.nx } σ2 H2):=by
 refine ⟨λ i m σ H=>m=xs.length - i/\i<=xs.length/\Pv i σ H,⟨xs.length,by simp,IZ _,h0⟩,?_⟩
 rintro i m σ H ⟨rfl,hi,p⟩
 have q:=hl i σ H hi p
 by_cases hlt:i<xs.length
 ·refine .inr ⟨⟨xs,xs[i],q,by simp [hlt]⟩,Pv (i+1),λ σ' H' p'=>⟨xs.length - (i+1),by lia,rfl,hlt,p'⟩,λ x H' y=>?_⟩
  obtain ⟨e,y⟩:=y
  subst e
  exact hs i x σ _ (y xs q) p
 ·have e:i=xs.length:=by lia
  subst e
  exact .inl ⟨⟨xs,q,Im _⟩,hd σ H p⟩
theorem rS {lo:Int} {n:Nat} {g:TG} {tb:TS} {D:Ends} {σ:St} {H:Hp} (Pv:Nat->St->Hp->Prop) (h0:Pv 0 σ H)
  (hs:∀ i σ H,i<n->Pv i σ H->g (.int (lo+i)) σ H λ σ2 H2=>tb { D with nx:=Pv (i+1),ct:=Pv (i+1),bk:=D.nx } σ2 H2) (hd:∀ σ H,Pv n σ H->D.nx σ H) :
  ∃ W:Nat->Nat->St->Hp->Prop,(∃ m,W 0 m σ H)/\∀ i m σ H,W i m σ H->
   ((Itr lo n).stop i H/\D.nx σ H)\/((Itr lo n).go i H/\∃ N:St->Hp->Prop,(∀ σ' H',N σ' H'->∃ m',m'<m/\W (i+1) m' σ' H')/\∀ x H',(Itr lo n).yld i H x H'->g x σ H' λ σ2 H2=>tb { D with nx:=N,ct:=N,bk:=D.nx } σ2 H2):=by
 refine ⟨λ i m σ H=>m=n - i/\i<=n/\Pv i σ H,⟨n,by simp,IZ _,h0⟩,?_⟩
 rintro i m σ H ⟨rfl,hi,p⟩
 by_cases hlt:i<n
 ·refine .inr ⟨hlt,Pv (i+1),λ σ' H' p'=>⟨n - (i+1),by lia,rfl,hlt,p'⟩,λ x H' y=>?_⟩
  obtain ⟨e,y⟩:=y
  subst e y
  exact hs i σ _ hlt p
 ·have e:i=n:=by lia
  subst e
  exact .inl ⟨Im _,hd σ H p⟩
noncomputable abbrev R2:=V->V->Hp->VK->Prop
noncomputable def OpR (X:Cx) (f:Value->Value->Sem Value) (r:R2):Prop:=
 ∀ (pins:List (Addr×Obj)) (s:Shared) (σ:St) (H:Hp) (x y:V) (v u:Value) (Q:VK),Inv X pins σ H s->RelV x v->RelV y u->r x y H Q->
  wpAny (model X.prog X.w) X.A (f v u) (EP X pins σ Q) X.xe s
noncomputable def UnR (X:Cx) (f:Value->Sem Value) (r:V->Hp->VK->Prop):Prop:=
 ∀ (pins:List (Addr×Obj)) (s:Shared) (σ:St) (H:Hp) (x:V) (v:Value) (Q:VK),Inv X pins σ H s->RelV x v->r x H Q->
  wpAny (model X.prog X.w) X.A (f v) (EP X pins σ Q) X.xe s
noncomputable def bZ (X:Cx) (f:Value) (r:List V->Hp->VK->Prop):Prop:=
 ∀ (pins:List (Addr×Obj)) (s:Shared) (σ:St) (H:Hp) (xs:List V) (us:List Value) (Q:VK),Inv X pins σ H s->Vals xs us->r xs H Q->
  wpAny (model X.prog X.w) X.A (call f us) (EP X pins σ Q) X.xe s
noncomputable def GT (X:Cx) (r:V->Hp->(Bool->Hp->Prop)->Prop):Prop:=
 ∀ (pins:List (Addr×Obj)) (s:Shared) (σ:St) (H:Hp) (x:V) (v:Value) (Q:Bool->Hp->Prop),Inv X pins σ H s->RelV x v->r x H Q->
  wpAny (model X.prog X.w) X.A (truthy v) (TP X pins σ Q) X.xe s
noncomputable def tOp (r:R2) (ta tb:TE):TE:=λ σ H Q=>ta σ H λ x H1=>tb σ H1 λ y H2=>r x y H2 Q
noncomputable def tUn (r:V->Hp->VK->Prop) (ta:TE):TE:=λ σ H Q=>ta σ H λ x H1=>r x H1 Q
noncomputable def rI (C:Int->Int->Prop) (g:Int->Int->V):R2:=λ x y H Q=>∃ i j,x=.int i/\y=.int j/\C i j/\Q (g i j) H
noncomputable def rI0 (g:Int->Int->V):R2:=λ x y H Q=>∃ i j,x=.int i/\y=.int j/\Q (g i j) H
noncomputable def rU (g:Int->V):V->Hp->VK->Prop:=λ x H Q=>∃ i,x=.int i/\Q (g i) H
section
variable {X:Cx} {a b c:Expr} {ta tb tc:TE} {pos:Pos}
theorem Ev (ha:PE X a ta) (hb:PE X b tb) {pins:List (Addr×Obj)} {s:Shared} {σ:St} {H:Hp} {R:V->V->Hp->Prop} (I:Inv X pins σ H s)
  (h:ta σ H λ x H1=>tb σ H1 λ y H2=>R x y H2) {Q:Value->Shared->Prop} {f:Value->Value->Sem Value}
  (hf:∀ v u s2 x y H2,Inv X pins σ H2 s2->RelV x v->RelV y u->R x y H2->wpAny (model X.prog X.w) X.A (f v u) Q X.xe s2) :
  wpAny (model X.prog X.w) X.A (eval a X.env) (λ v s₁=>wpAny (model X.prog X.w) X.A (eval b X.env) (λ u s₂=>wpAny (model X.prog X.w) X.A (f v u) Q X.xe s₂) X.xe s₁) X.xe s:=by
 refine thn (ha pins s σ H _ I h) λ v s1 ⟨x,H1,I1,r1,q1⟩=>?_
 refine thn (hb pins s1 σ H1 _ I1 q1) λ u s2 ⟨y,H2,I2,r2,q2⟩=>?_
 exact hf v u s2 x y H2 I2 r1 r2 q2
theorem Ew {op:Operator} {r:R2} (ho:OpR X (binaryOp op) r) (ha:PE X a ta) (hb:PE X b tb):PE X (.BinOp a op b pos) (tOp r ta tb):=by
 intro pins s σ H Q I h
 exact wpAny_BinOp (Ev ha hb I h λ v u s2 x y H2 I2 rx ry q=>ho pins s2 σ H2 x y v u Q I2 rx ry q)
theorem Ey {op:UnaryOp} {r:V->Hp->VK->Prop} (ho:UnR X (unaryOp op) r) (ha:PE X a ta):PE X (.UnaryOp op a pos) (tUn r ta):=by
 intro pins s σ H Q I h
 exact UnaryOp_ (thn (ha pins s σ H _ I h) λ v s1 ⟨x,H1,I1,r1,q1⟩=>ho pins s1 σ H1 x v Q I1 r1 q1)
theorem opI {f:Value->Value->Sem Value} {C:Int->Int->Prop} {g:Int->Int->Int}
  (rule:∀ (i j:Int) (t u:Tok) (s:Shared) (Q:Value->Shared->Prop) (E:Value->Shared->Prop),C i j->Q (.int (g i j) s.toks) { s with toks:=s.toks+1 }->wpAny (model X.prog X.w) X.A (f (.int i t) (.int j u)) Q E s) :
  OpR X f (rI C λ i j=>.int (g i j)):=by
 intro pins s σ H x y v u Q I rx ry h
 obtain ⟨i,j,rfl,rfl,hc,q⟩:=h
 obtain ⟨t,rfl⟩:=rx
 obtain ⟨t',rfl⟩:=ry
 exact rule i j t t' s _ _ hc ⟨.int (g i j),H,I.tok _,⟨_,rfl⟩,q⟩
theorem FS {f:Value->Value->Sem Value} {g:Int->Int->Int}
  (rule:∀ (i j:Int) (t u:Tok) (s:Shared) (Q:Value->Shared->Prop) (E:Value->Shared->Prop),Q (.int (g i j) s.toks) { s with toks:=s.toks+1 }->wpAny (model X.prog X.w) X.A (f (.int i t) (.int j u)) Q E s) :
  OpR X f (rI0 λ i j=>.int (g i j)):=by
 intro pins s σ H x y v u Q I rx ry h
 obtain ⟨i,j,rfl,rfl,q⟩:=h
 obtain ⟨t,rfl⟩:=rx
 obtain ⟨t',rfl⟩:=ry
 exact rule i j t t' s _ _ ⟨.int (g i j),H,I.tok _,⟨_,rfl⟩,q⟩
theorem Ez {f:Value->Value->Sem Value} {g:Int->Int->Bool}
  (rule:∀ (i j:Int) (t u:Tok) (s:Shared) (Q:Value->Shared->Prop) (E:Value->Shared->Prop),Q (.bool (g i j)) s->wpAny (model X.prog X.w) X.A (f (.int i t) (.int j u)) Q E s) :
  OpR X f (rI0 λ i j=>.bl (g i j)):=by
 intro pins s σ H x y v u Q I rx ry h
 obtain ⟨i,j,rfl,rfl,q⟩:=h
 obtain ⟨t,rfl⟩:=rx
 obtain ⟨t',rfl⟩:=ry
 exact rule i j t t' s _ _ ⟨.bl (g i j),H,I,rfl,q⟩
noncomputable def GU (i j:Int):Prop:=0<j/\j<1073741824
noncomputable def DB (i j:Int):Prop:=0<=j/\j<=1000000/\i.natAbs<2 ^ 64
noncomputable def CMul (i j:Int):Prop:=(-(2 ^ 64)<i/\i<2 ^ 64)\/(-(2 ^ 64)<j/\j<2 ^ 64)
theorem CMul.ok {i j:Int} (h:CMul i j):IntMulOk i j:=by
 rcases h with ⟨h1,h2⟩ | ⟨h1,h2⟩
 ·exact .of_left (intBits_le_64 h1 h2)
 ·exact .of_right (intBits_le_64 h1 h2)
theorem BQ:OpR X (binaryOp .Add) (rI0 λ i j=>.int (i+j)):=FS λ _ _ _ _ _ _ _ q=>add_int q
theorem BR:OpR X (binaryOp .Sub) (rI0 λ i j=>.int (i - j)):=FS λ _ _ _ _ _ _ _ q=>sub_int q
theorem BS:OpR X (binaryOp .Mult) (rI CMul λ i j=>.int (i*j)):=opI λ _ _ _ _ _ _ _ hc q=>mul_int q hc.ok
theorem BU:OpR X (binaryOp .Mod) (rI (λ _ j=>0<j) λ i j=>.int (i % j)):=opI λ i j _ _ _ _ _ hc q=>by
 have h1:(0:Int)<j:=hc
 exact mod_int' (by lia) (by rw [Int.fmod_eq_emod_of_nonneg i (by lia)]; exact q)
theorem BV:OpR X (binaryOp .Pow) (rI DB λ i j=>.int (i ^ j.toNat)):=opI λ _ _ _ _ _ _ _ hc q=>pow_int_small hc.1 hc.2.1 hc.2.2 q
theorem unI {f:Value->Sem Value} {g:Int->Int}
  (rule:∀ (i:Int) (t:Tok) (s:Shared) (Q:Value->Shared->Prop) (E:Value->Shared->Prop),Q (.int (g i) s.toks) { s with toks:=s.toks+1 }->wpAny (model X.prog X.w) X.A (f (.int i t)) Q E s) :
  UnR X f (rU λ i=>.int (g i)):=by
 intro pins s σ H x v Q I rx h
 obtain ⟨i,rfl,q⟩:=h
 obtain ⟨t,rfl⟩:=rx
 exact rule i t s _ _ ⟨.int (g i),H,I.tok _,⟨_,rfl⟩,q⟩
theorem BW:UnR X (unaryOp .USub) (rU λ i=>.int (-i)):=unI λ _ _ _ _ _ q=>neg_int q
end
noncomputable def FT:V->V->Bool
 | .non,.non=>true | .non,.int _=>true | .int _,.non=>true | .non,.bl _=>true | .bl _,.non=>true | .non,.str _=>true | .str _,.non=>true
 | .int _,.int _=>true | .bl _,.bl _=>true | .str _,.str _=>true | .byt _,.byt _=>true
 | .int _,.str _=>true | .str _,.int _=>true | .bl _,.str _=>true | .str _,.bl _=>true
 | _,_=>false
noncomputable def rEq:R2:=λ x y H Q=>FT x y=true/\Q (.bl (decide (x=y))) H
noncomputable def rNe:R2:=λ x y H Q=>FT x y=true/\Q (.bl (!decide (x=y))) H
theorem rT {i j:Int}:decide (V.int i=V.int j)=(i == j):=by
 rw [K0]
 simp
theorem xD {i j:Bool}:decide (V.bl i=V.bl j)=(i == j):=by
 rw [K0]
 simp
theorem rV {i j:Str}:decide (V.str i=V.str j)=(i == j):=by
 rw [K0]
 simp
theorem rW {i j:Array UInt8}:decide (V.byt i=V.byt j)=(i.toList == j.toList):=by
 rw [K0]
 cases i
 cases j
 simp
section
variable {X:Cx} {a b c:Expr} {ta tb tc:TE} {pos:Pos}
theorem aH {pins:List (Addr×Obj)} {σ:St} {H:Hp} {s:Shared} {Q:VK} {k k':Bool} (I:Inv X pins σ H s) (q:Q (.bl k) H) (e:k=k'):EP X pins σ Q (.bool k') s:=by
 subst e
 exact ⟨.bl k,H,I,rfl,q⟩
theorem EA:OpR X (compareOp .Eq) rEq:=by
 intro pins s σ H x y v u Q I rx ry h
 obtain ⟨hs,q⟩:=h
 cases x with
 | non=>
  cases rx
  cases y with
  | non=>cases ry; exact OG (aH I q (by simp))
  | bl j=>cases ry; exact OH (aH I q (by simp))
  | int j=>obtain ⟨t',rfl⟩:=ry; exact OR (aH I q (by simp))
  | str j=>obtain ⟨t',rfl⟩:=ry; exact OS (aH I q (by simp))
  | _=>exact absurd (show false=true from hs) Iv
 | bl i=>
  cases rx
  cases y with
  | non=>cases ry; exact OI (aH I q (by simp))
  | bl j=>cases ry; exact eq_bool (aH I q xD)
  | str j=>obtain ⟨t',rfl⟩:=ry; exact OJ (aH I q (by simp))
  | _=>exact absurd (show false=true from hs) Iv
 | int i=>
  obtain ⟨t,rfl⟩:=rx
  cases y with
  | non=>cases ry; exact OT (aH I q (by simp))
  | int j=>obtain ⟨t',rfl⟩:=ry; exact eq_int (aH I q rT)
  | str j=>obtain ⟨t',rfl⟩:=ry; exact OU (aH I q (by simp))
  | _=>exact absurd (show false=true from hs) Iv
 | str i=>
  obtain ⟨t,rfl⟩:=rx
  cases y with
  | non=>cases ry; exact OV (aH I q (by simp))
  | bl j=>cases ry; exact OK (aH I q (by simp))
  | int j=>obtain ⟨t',rfl⟩:=ry; exact OW (aH I q (by simp))
  | str j=>obtain ⟨t',rfl⟩:=ry; exact eq_str (aH I q rV)
  | _=>exact absurd (show false=true from hs) Iv
 | byt i=>
  obtain ⟨t,rfl⟩:=rx
  cases y with
  | byt j=>obtain ⟨t',rfl⟩:=ry; exact PySem.W.eq_bytes (aH I q rW)
  | _=>exact absurd (show false=true from hs) Iv
 | _=>cases y<;>exact absurd (show false=true from hs) Iv
theorem EB:OpR X (compareOp .NotEq) rNe:=by
 intro pins s σ H x y v u Q I rx ry h
 obtain ⟨hs,q⟩:=h
 cases x with
 | non=>
  cases rx
  cases y with
  | non=>cases ry; exact OL (aH I q (by simp))
  | bl j=>cases ry; exact OM (aH I q (by simp))
  | int j=>obtain ⟨t',rfl⟩:=ry; exact OX (aH I q (by simp))
  | str j=>obtain ⟨t',rfl⟩:=ry; exact OY (aH I q (by simp))
  | _=>exact absurd (show false=true from hs) Iv
 | bl i=>
  cases rx
  cases y with
  | non=>cases ry; exact ON (aH I q (by simp))
  | bl j=>cases ry; exact ne_bool (aH I q (congrArg not xD))
  | str j=>obtain ⟨t',rfl⟩:=ry; exact OO (aH I q (by simp))
  | _=>exact absurd (show false=true from hs) Iv
 | int i=>
  obtain ⟨t,rfl⟩:=rx
  cases y with
  | non=>cases ry; exact OZ (aH I q (by simp))
  | int j=>obtain ⟨t',rfl⟩:=ry; exact ne_int (aH I q (congrArg not rT))
  | str j=>obtain ⟨t',rfl⟩:=ry; exact O0 (aH I q (by simp))
  | _=>exact absurd (show false=true from hs) Iv
 | str i=>
  obtain ⟨t,rfl⟩:=rx
  cases y with
  | non=>cases ry; exact O1 (aH I q (by simp))
  | bl j=>cases ry; exact OP (aH I q (by simp))
  | int j=>obtain ⟨t',rfl⟩:=ry; exact O2 (aH I q (by simp))
  | str j=>obtain ⟨t',rfl⟩:=ry; exact ne_str (aH I q (congrArg not rV))
  | _=>exact absurd (show false=true from hs) Iv
 | byt i=>
  obtain ⟨t,rfl⟩:=rx
  cases y with
  | byt j=>obtain ⟨t',rfl⟩:=ry; exact PySem.W.ne_bytes (aH I q (congrArg not rW))
  | _=>exact absurd (show false=true from hs) Iv
 | _=>cases y<;>exact absurd (show false=true from hs) Iv
theorem EC:OpR X (compareOp .Lt) (rI0 λ i j=>.bl (decide (i<j))):=Ez λ _ _ _ _ _ _ _ q=>lt_int q
theorem ED:OpR X (compareOp .Gt) (rI0 λ i j=>.bl (decide (j<i))):=Ez λ _ _ _ _ _ _ _ q=>gt_int q
theorem EE:OpR X (compareOp .GtE) (rI0 λ i j=>.bl (decide (j<=i))):=Ez λ _ _ _ _ _ _ _ q=>ge_int q
theorem BX:OpR X (compareOp .Is) (λ x y H Q=>y=.non/\Q (.bl (decide (x=.non))) H):=by
 intro pins s σ H x y v u Q I rx ry h
 obtain ⟨rfl,q⟩:=h
 cases ry
 refine is_none_gen (aH I q ?_)
 cases x<;>first
  | (cases rx; rfl)
  | (obtain ⟨t,rfl⟩:=rx; rfl)
theorem aL (b:Expr) {op:CmpOp} (h:op≠.In:=by decide) (h2:op≠.NotIn:=by decide):behindInMarks op b=false:=by
 have e1:(op == CmpOp.In)=false:=by cases op<;>first | rfl | exact absurd rfl h
 have e2:(op == CmpOp.NotIn)=false:=by cases op<;>first | rfl | exact absurd rfl h2
 cases b<;>simp [behindInMarks,e1,e2]
theorem yV {op:CmpOp} {r:R2} (ho:OpR X (compareOp op) r) (ha:PE X a ta) (hb:PE X b tb) (hm:behindInMarks op b=false):PE X (.Compare a [op] [b] pos) (tOp r ta tb):=by
 intro pins s σ H Q I h
 exact wpAny_Compare1 (Ev ha hb I h λ v u s2 x y H2 I2 rx ry q=>ho pins s2 σ H2 x y v u Q I2 rx ry q) hm
noncomputable def yW (t:TE):TT:=λ σ H Q=>t σ H λ x H'=>∃ k,x=.bl k/\Q k H'
theorem yX {op:CmpOp} {r:R2} (ho:OpR X (compareOp op) r) (ha:PE X a ta) (hb:PE X b tb) (hm:behindInMarks op b=false):PT X (.Compare a [op] [b] pos) (yW (tOp r ta tb)):=by
 intro pins s σ H Q I h
 refine wpAny_isTrue_Compare1 (thn (ha pins s σ H _ I h) λ v s1 ⟨x,H1,I1,r1,q1⟩=>thn (hb pins s1 σ H1 _ I1 q1) λ u s2 ⟨y,H2,I2,r2,q2⟩=>
  thn (ho pins s2 σ H2 x y v u _ I2 r1 r2 q2) λ c s3 ⟨z,H3,I3,r3,k,e,q3⟩=>?_) hm
 subst e
 cases r3
 exact wpAny_truthy_bool ⟨H3,I3,q3⟩
noncomputable def yY (K:Ih) (x:V) (H:Hp) (k:Bool):Prop:=
 match x with
 | .non=>k=false
 | .bl b=>k=b
 | .int i=>k=(i != 0)
 | .str y=>y.length<=sizeLine/\k=((y.length:Int) != 0)
 | .byt y=>y.size<=sizeLine/\k=((y.size:Int) != 0)
 | .ref p=>(∃ xs,SqL K H p xs/\k=!xs.isEmpty)\/(∃ xs,SqT K H p xs/\k=!xs.isEmpty)\/∃ kvs,H p=some (.dK kvs)/\k=!kvs.isEmpty
 | _=>False
theorem qp {κ:Type} {kvs:List (κ×V)} {vs:List (κ×Value)} (r:KV kvs vs):(!vs.isEmpty)=!kvs.isEmpty:=by
 cases r<;>rfl
theorem kr {xs:List V} {its:List Value} (r:Vals xs its):(!its.toArray.isEmpty)=!xs.isEmpty:=by
 cases r<;>simp
theorem iO:(sizeLine:Nat)<2 ^ 63:=by rw [sizeLine_eq]; decide
theorem xE:GT X (λ x H Q=>∃ k,yY X.K x H k/\Q k H):=by
 intro pins s σ H x v Q I rx h
 obtain ⟨k,e,q⟩:=h
 have hl:=iO
 have hs:sizeLine=16777216:=sizeLine_eq
 cases x with
 | non=>
  cases rx
  have e':k=false:=e
  subst e'
  exact truthy_none ⟨H,I,q⟩
 | bl b=>
  cases rx
  have e':k=b:=e
  subst e'
  exact wpAny_truthy_bool ⟨H,I,q⟩
 | int i=>
  obtain ⟨t,rfl⟩:=rx
  have e':k=(i != 0):=e
  subst e'
  exact PySem.P.truthy_int ⟨H,I,q⟩
 | str y=>
  obtain ⟨t,rfl⟩:=rx
  obtain ⟨hy,e'⟩:y.length<=sizeLine/\k=((y.length:Int) != 0):=e
  subst e'
  exact PySem.P.truthy_str (by lia) ⟨H,I.tok _,q⟩
 | byt y=>
  obtain ⟨t,rfl⟩:=rx
  obtain ⟨hy,e'⟩:y.size<=sizeLine/\k=((y.size:Int) != 0):=e
  subst e'
  exact PySem.W.truthy_bytes (by lia) ⟨H,I.tok _,q⟩
 | ref p=>
  cases rx
  have e':(∃ xs,SqL X.K H p xs/\k=!xs.isEmpty)\/(∃ xs,SqT X.K H p xs/\k=!xs.isEmpty)\/∃ kvs,H p=some (.dK kvs)/\k=!kvs.isEmpty:=e
  rcases e' with ⟨xs,hx,e'⟩ | ⟨xs,hx,e'⟩ | ⟨kvs,hx,e'⟩
  ·subst e'
   obtain ⟨its,r,pl,hz⟩:=I.list hx
   have hlen:=r.length
   exact wpAny_truthy_list pl.isList (by simp only [IB]; lia) ⟨H,I.tok _,by rw [kr r]; exact q⟩
  ·subst e'
   obtain ⟨its,r,pl,hz⟩:=I.tuple hx
   have hlen:=r.length
   exact truthy_tuple pl (by simp only [IB]; lia) ⟨H,I.tok _,by rw [kr r]; exact q⟩
  ·subst e'
   obtain ⟨hz,hS,vs,r,m⟩:kvs.length<=sizeLine/\(p == sysModules)=false/\∃ vs,KV kvs vs/\s.heap.DictOf (nK X.prog X.w) p vs:=I.hok p _ hx
   have hlen:kvs.length=vs.length:=OB r
   exact wpAny_truthy_dict hS m (by lia) ⟨H,I.tok _,by rw [qp r]; exact q⟩
 | _=>exact (show False from e).elim
theorem vF (ha:PE X a ta) (he:∀ whole,isTrue a X.env whole=(do let v <-whole; standAt a.pos; holding [v] (truthy v))) :
  PT X a (λ σ H Q=>ta σ H λ x H'=>∃ k,yY X.K x H' k/\Q k H'):=by
 intro pins s σ H Q I h
 exact isTrue_plain (thn (ha pins s σ H _ I h) λ v s1 ⟨x,H1,I1,r1,q1⟩=>xE pins s1 σ H1 x v Q I1 r1 q1) (he _)
theorem qq:OpR X (binaryOp .Add) (λ x y H Q=>∃ i j,x=.str i/\y=.str j/\i.length+j.length<=sizeLine/\Q (.str (i++j)) H):=by
 intro pins s σ H x y v u Q I rx ry h
 obtain ⟨i,j,rfl,rfl,hz,q⟩:=h
 obtain ⟨t,rfl⟩:=rx
 obtain ⟨t',rfl⟩:=ry
 exact add_str (λ t' tk=>⟨.str (i++j),H,I.tok _,⟨_,rfl⟩,q⟩) hz
theorem eZ {x:V} {us:List Value} (r:Vals [x] us):∃ u,us=[u]/\RelV x u:=by
 cases r with
 | cons r1 r2=>cases r2; exact ⟨_,rfl,r1⟩
theorem BY {x y:V} {us:List Value} (r:Vals [x,y] us):∃ u w',us=[u,w']/\RelV x u/\RelV y w':=by
 cases r with
 | cons r1 r2=>
  cases r2 with
  | cons r3 r4=>cases r4; exact ⟨_,_,rfl,r1,r3⟩
theorem vG:bZ X (.builtin "abs") (λ xs H Q=>∃ i,xs=[.int i]/\Q (.int (if i<0 then -i else i)) H):=by
 intro pins s σ H xs us Q I r h
 obtain ⟨i,rfl,q⟩:=h
 obtain ⟨u,rfl,t,rfl⟩:=eZ r
 exact call_abs_int λ u tk=>⟨.int (if i<0 then -i else i),H,I.tok _,⟨_,rfl⟩,q⟩
theorem rX (hc:X.calm=true):bZ X (.builtin "min") (λ xs H Q=>∃ i j,xs=[.int i,.int j]/\Q (.int (if j<i then j else i)) H):=by
 intro pins s σ H xs us Q I r h
 obtain ⟨i,j,rfl,q⟩:=h
 obtain ⟨u,w',rfl,⟨t,rfl⟩,⟨t',rfl⟩⟩:=BY r
 refine min_two_ints (I.ok.hd hc) λ h' tk k=>⟨_,H,I.kept k,?_,q⟩
 by_cases hj:j<i
 ·rw [if_pos hj,if_pos hj]; exact ⟨_,rfl⟩
 ·rw [if_neg hj,if_neg hj]; exact ⟨_,rfl⟩
theorem rY:bZ X (.type "int") (λ xs H Q=>(∃ i,xs=[.int i]/\Q (.int i) H)\/∃ k,xs=[.bl k]/\Q (.int (if k then 1 else 0)) H):=by
 intro pins s σ H xs us Q I r h
 rcases h with ⟨i,rfl,q⟩ | ⟨k,rfl,q⟩
 ·obtain ⟨u,rfl,t,rfl⟩:=eZ r
  exact call_int_int ⟨.int i,H,I,⟨_,rfl⟩,q⟩
 ·obtain ⟨u,rfl,r1⟩:=eZ r
  cases r1
  exact call_int_bool ⟨.int (if k then 1 else 0),H,I.tok _,⟨_,rfl⟩,q⟩
theorem lU:bZ X (.type "str") (λ xs H Q=>∃ i,xs=[.int i]/\i.natAbs.log2<1920/\Q (.str (toString i)) H):=by
 intro pins s σ H xs us Q I r h
 obtain ⟨i,rfl,hz,q⟩:=h
 obtain ⟨u,rfl,t,rfl⟩:=eZ r
 exact PySem.P.str_of_int hz ⟨.str _,H,I.tok _,⟨_,rfl⟩,q⟩
end
structure ObjM (h:Heap) (x dx C:Addr) (mA:Str->Option Value):Prop where
 obj:h.get? x=some (JW C dx)
 ns:h.Ns1 dx mA
 ne:dx≠x
theorem lV {h:Heap} {dx:Addr} {mA:Str->Option Value} (n:h.Ns1 dx mA):∃ od,h.get? dx=some od/\∀ name,MO name od=some (mA name):=by
 obtain ⟨o,es,ep,ho,hd,hk,_,hm⟩:=n
 refine ⟨o,ho,λ name=>?_⟩
 have e:=hm name
 unfold nsFind findBy at e
 rw [<-Nf] at e
 unfold MO
 rw [hd]
 dsimp only
 split
 ·rename_i y q
  rw [q] at e
  exact congrArg some e
 ·rename_i q
  rw [q] at e
  have a:es.toList.any (·.refKey)=false:=by
   rw [List.any_eq_false]
   intro y hy
   obtain ⟨z,t,hkey⟩:=hk y (M0.mp hy)
   simp [PK,hkey]
  have a':¬ es.toList.any (·.refKey)=true:=by rw [a]; exact Iv
  rw [if_neg a']
  exact congrArg some e
theorem ObjM.look {h:Heap} {x dx C:Addr} {mA:Str->Option Value} (I:ObjM h x dx C mA):∃ od,PySem.W.InstAt h x (JW C dx) C (some od)/\∀ name,MO name od=some (mA name):=
 let ⟨od,ho,hl⟩:=lV I.ns
 ⟨od,⟨I.obj,rfl,rfl,ho⟩,hl⟩
section
variable {prog:Program} {w:World} {A:Around} {E:Value->Shared->Prop} {s:Shared} {K:Ih} {x dx C f:Addr} {mA:Str->Option Value} {name:Str} {v:Value}
theorem yZ {expr:Bool} {Q:Value->Shared->Prop} (X:K.In s.heap) (I:ObjM s.heap x dx C mA) (hg:Lk K C name=true) (hh:Ks K C=true)
  (ha:IQ K (.ref C) name=some none) (hv:mA name=some v) (hv':NY v=true) (h:Q v { s with toks:=s.toks+1 }) :
  wpAny (model prog w) A (getAttr (.ref x) name expr) Q E s:=by
 obtain ⟨od,J,hl⟩:=I.look
 exact PySem.W.get_value X J (PySem.W.plainGet_of hg).1 (PySem.W.findObj_own hh ha rfl (by rw [hl,hv])) hv' h
theorem y7 {ns:List Str} {Q:Unit->Shared->Prop} (X:K.In s.heap) (I:ObjM s.heap x dx C mA)
  (hs:IQ K (.ref C) "__setattr__" = some (some (.builtin "object.__setattr__"))) (hp:Md K C=true) (ht:MB K C name=some none) (hh:Ks K C=true)
  (hw:Nc mA ns) (hsz:ns.length<=sizeLine)
  (h:∀ h',ObjM h' x dx C (λ y=>if y=name then some v else mA y)->Nd dx s.heap h'->Q () { s with heap:=h',toks:=s.toks+2 }) :
  wpAny (model prog w) A (setAttr (.ref x) name v) Q E s:=by
 obtain ⟨od,J,hl⟩:=I.look
 refine PySem.W.set_plain X J hs (PySem.W.osa_open (s:={ s with toks:=s.toks+1 }) (r:=none) X J hp ht λ b=>?_)
 obtain ⟨cd,hc,hd'⟩:=PySem.W.any_some hh
 have hx:s.heap.get? x=some ⟨.ref C,some dx,.plain,#[]⟩:=I.obj
 refine wpAny_bind (wpAny_pure (wpAny_bind (wpAny_bind (wpAny_loadPart hx (wpAny_bind (Pz (s:={ s with toks:=s.toks+1 }) (PySem.W.looks_clsIn X hc) ?_))))))
 rw [hd']
 refine wpAny_pure (a:=some dx) (wpAny_bind (wpAny_pure (wpAny_bind ?_)))
 refine wpAny_nsSet1 (s:={ s with toks:=s.toks+1 }) I.ns λ h' hn2 hs2=>?_
 obtain ⟨oD,esD,epD,hoD,hdD,hcD⟩:=hn2.count (PH name v hw)
 refine wpAny_bind (wpAny_lookBehind hoD (by rw [hdD]; exact pastItsLine_dict (Js hcD (by rw [IU]; lia))) ?_)
 exact wpAny_pure (h _ ⟨(hs2.2 _ (Jj I.ne)).trans I.obj,hn2,I.ne⟩ hs2)
theorem vH {R:Result->Shared->Prop} {vs:List Value} {kw:List (Str×Value)} (X:K.In s.heap) (hm:MC K C=true)
  (hi:IQ K (.ref C) "__init__" = some (some (.ref f))) (hf:PySem.W.typeIn K (.ref f)=some (.type "function"))
  (h:codeAny (model prog w) (A.under (.builtin "type.__call__" ⟨.ref C::vs,kw⟩)) (.call (.ref f) ⟨.ref (s.heap.objs.size+1)::vs,kw⟩) (PySem.W.InitBack (s.heap.objs.size+1) R)
   { s with heap:=(s.heap.push JE).push (JW C s.heap.objs.size) }) :
  codeAny (model prog w) A (.call (.ref C) ⟨vs,kw⟩) R s:=by
 obtain ⟨hh,g,d,t,os⟩:=s
 exact PySem.W.make_core (PySem.W.makes_of X hm) (PySem.W.looks_findIn X hi) (λ self=>PySem.W.bind_fn X self hf) (.inl rfl) h
end
noncomputable def bo (f:Str) (v:V):List (Str×V)->List (Str×V)
 | []=>[(f,v)]
 | (g,x)::r=>if g=f then (g,v)::r else (g,x)::bo f v r
theorem iP (f g:Str) (v:V):∀ fs:List (Str×V),(bo f v fs).lookup g=if g=f then some v else fs.lookup g
 | []=>by
  show Jw g [(f,v)]=_
  by_cases h:g=f
  ·have hb:(g == f)=true:=beq_iff_eq.mpr h
   simp only [Jw,hb,if_pos h]
  ·have hb:(g == f)=false:=beq_eq_false_iff_ne.mpr h
   simp only [Jw,hb,if_neg h]
 | (k,x)::r=>by
  have ih:=iP f g v r
  rw [show bo f v ((k,x)::r)=(if k=f then (k,v)::r else (k,x)::bo f v r) from rfl]
  by_cases hk:k=f
  ·rw [if_pos hk]
   by_cases h:g=k
   ·have hb:(g == k)=true:=beq_iff_eq.mpr h
    simp only [Jw,hb,if_pos (h.trans hk)]
   ·have hb:(g == k)=false:=beq_eq_false_iff_ne.mpr h
    simp only [Jw,hb,if_neg (λ e:g=f=>h (e.trans hk.symm))]
  ·rw [if_neg hk]
   by_cases h:g=k
   ·have hb:(g == k)=true:=beq_iff_eq.mpr h
    simp only [Jw,hb,if_neg (λ e:g=f=>hk (h.symm.trans e))]
   ·have hb:(g == k)=false:=beq_eq_false_iff_ne.mpr h
    simp only [Jw,hb]
    exact ih
theorem iQ (f:Str) (v:V):∀ fs:List (Str×V),f∈(bo f v fs).map (·.1)/\∀ g,g∈fs.map (·.1)->g∈(bo f v fs).map (·.1)
 | []=>⟨by simp [bo],λ g h=>by simp at h⟩
 | (k,x)::r=>by
  obtain ⟨i1,i2⟩:=iQ f v r
  rw [show bo f v ((k,x)::r)=(if k=f then (k,v)::r else (k,x)::bo f v r) from rfl]
  by_cases hk:k=f
  ·rw [if_pos hk]
   subst hk
   exact ⟨by simp,λ g h=>by simpa using h⟩
  ·rw [if_neg hk]
   refine ⟨?_,λ g h=>?_⟩
   ·rw [Jy]
    exact IG _ i1
   ·rw [Jy] at h ⊢
    rcases Io.mp h with e | e
    ·exact Io.mpr (.inl e)
    ·exact IG _ (i2 g e)
theorem iR (f:Str) (v:V):∀ fs:List (Str×V),(bo f v fs).length<=fs.length+1
 | []=>by simp [bo]
 | (k,x)::r=>by
  have ih:=iR f v r
  rw [show bo f v ((k,x)::r)=(if k=f then (k,v)::r else (k,x)::bo f v r) from rfl]
  by_cases hk:k=f
  ·rw [if_pos hk,IU,IU]; lia
  ·rw [if_neg hk,IU,IU]; lia
theorem RelO.some_of {v:V} {o:Option Value} (r:RelO (some v) o):∃ u,o=some u/\RelV v u:=by
 cases o with
 | none=>exact (show False from r).elim
 | some u=>exact ⟨u,rfl,r⟩
theorem lW {v:V} {u:Value} (r:RelV v u):NY u=true:=by
 cases v with
 | non=>cases (show u=IW from r); rfl
 | bl b=>cases (show u=MZ b from r); rfl
 | int i=>obtain ⟨t,e⟩:=(show ∃ t,u=KR i t from r); cases e; rfl
 | str x=>obtain ⟨t,e⟩:=(show ∃ t,u=K2 x t from r); cases e; rfl
 | byt b=>obtain ⟨t,e⟩:=(show ∃ t,u=Pa b t from r); cases e; rfl
 | flt b=>obtain ⟨t,e⟩:=(show ∃ t,u=NT b t from r); cases e; rfl
 | ref a=>cases (show u=IT a from r); rfl
 | ty n=>cases (show u=Ku n from r); rfl
section
variable {P:Program} {w:World} {H H':Hp} {h h':Heap} {a C dx:Addr} {fs fs':List (Str×V)}
theorem nN (hok:HOk P w H h) (e:H a=some (.ins C dx fs)):∃ mA,ObjM h a dx C mA/\(∀ f,RelO (fs.lookup f) (mA f))/\Nc mA (fs.map (·.1))/\fs.length<=1000/\H dx=some (.own a):=by
 obtain ⟨d,z,ne,ob,mA,n,r,q⟩:=(show ObjOk P w H h a (.ins C dx fs) from hok a _ e)
 exact ⟨mA,⟨ob,n,ne⟩,r,q,z,d⟩
end
structure Cls (K:Ih) (C:Addr):Prop where
 pg:Lk K C PB=true
 hd:Ks K C=true
 po:Md K C=true
 sa:IQ K (.ref C) "__setattr__" = some (some (.builtin "object.__setattr__"))
theorem Cls.get {K:Ih} {C:Addr} (c:Cls K C) (f:Str):Lk K C f=true:=c.pg
noncomputable def NoAttr (K:Ih) (C:Addr) (f:Str):Prop:=IQ K (.ref C) f=some none
theorem NoAttr.taker {K:Ih} {C:Addr} {f:Str} (n:NoAttr K C f):MB K C f=some none:=by
 unfold MB
 rw [show IQ K (.ref C) f=some none from n]
 rfl
section
variable {X:Cx} {pins:List (Addr×Obj)} {σ:St} {H:Hp} {s:Shared} {a C dx:Addr} {fs:List (Str×V)} {f:Str} {v:V} {A:Around} {E:Value->Shared->Prop}
theorem qr {b:Bool} {Q:Value->Shared->Prop} (I:Inv X pins σ H s) (e:H a=some (.ins C dx fs)) (c:Cls X.K C) (n:NoAttr X.K C f) (l:fs.lookup f=some v)
  (h:∀ u s',Inv X pins σ H s'->RelV v u->Q u s'):wpAny (model X.prog X.w) A (getAttr (.ref a) f b) Q E s:=by
 obtain ⟨mA,O,r,_,_,_⟩:=nN I.hok e
 obtain ⟨u,hu,ru⟩:=RelO.some_of (v:=v) (o:=mA f) (by rw [<-l]; exact r f)
 exact yZ I.kIn O (c.get f) c.hd n hu (lW ru) (h u _ (I.tok _) ru)
theorem qu {y:V} {u:Value} {Q:Unit->Shared->Prop} (I:Inv X pins σ H s) (e:H a=some (.ins C dx fs)) (c:Cls X.K C) (n:NoAttr X.K C f) (hl:fs.length<1000) (ry:RelV y u)
  (h:∀ s',Inv X pins σ (upd H a (.ins C dx (bo f y fs))) s'->Q () s'):wpAny (model X.prog X.w) A (setAttr (.ref a) f u) Q E s:=by
 obtain ⟨mA,O,r,wi,_,ho⟩:=nN I.hok e
 have hz:(fs.map (·.1)).length<=sizeLine:=by rw [Ir,sizeLine_eq]; lia
 refine y7 I.kIn O c.sa c.po n.taker c.hd wi hz λ h' O' sb=>h _ ?_
 have hd:∃ o,h'.get? dx=some o:=let ⟨o,_,_,e',_⟩:=O'.ns; ⟨o,e'⟩
 refine I.write (x:=a) (e:=dx) (by rw [e]; exact IS) (.inr ho) (λ b q hb z=>(sb.2 b hb).trans z) hd ?_
 refine ⟨by rw [ag O.ne]; exact ho,?_,O.ne,O'.obj,_,O'.ns,λ g=>?_,λ g hg=>?_⟩
 ·have:=iR f y fs; lia
 ·show RelO ((bo f y fs).lookup g) (if g=f then some u else mA g)
  rw [iP]
  by_cases q:g=f
  ·rw [if_pos q,if_pos q]; exact ry
  ·rw [if_neg q,if_neg q]; exact r g
 ·by_cases q:g=f
  ·rw [q]; exact (iQ f y fs).1
  ·refine (iQ f y fs).2 g (wi g λ z=>hg ?_)
   show (if g=f then some u else mA g)=none
   rw [if_neg q]; exact z
theorem Inv.made (I:Inv X pins σ H s):Inv X pins σ (upd (upd H s.heap.objs.size (.own (s.heap.objs.size+1))) (s.heap.objs.size+1) (.ins C s.heap.objs.size []))
  { s with heap:=(s.heap.push JE).push (JW C s.heap.objs.size) }:=by
 have e1:(s.heap.push JE).get? s.heap.objs.size=some JE:=Iz s.heap rfl
 have e2:((s.heap.push JE).push (JW C s.heap.objs.size)).get? (s.heap.objs.size+1)=some (JW C s.heap.objs.size):=by
  have:=Iz (s.heap.push JE) (o:=JW C s.heap.objs.size) rfl
  rwa [Kg] at this
 have e3:(s.heap.push JE).Ns s.heap.objs.size (λ _=>none):=⟨JE,#[],_,e1,rfl,(λ e he=>absurd he (by simp)),λ _=>rfl⟩
 have I1:=I.laid (a:=s.heap.objs.size) (o:=.own (s.heap.objs.size+1)) (h':=s.heap.push JE) (t':=s.toks) (λ b u q=>Ij _ q) (Im _) ⟨_,e1⟩
 refine I1.laid (a:=s.heap.objs.size+1) (o:=.ins C s.heap.objs.size []) (t':=s.toks) (λ b u q=>Ij _ q) (Ju (Kg _ _)) ?_
 have ne:s.heap.objs.size≠s.heap.objs.size+1:=Iy (Ll _)
 refine ⟨by rw [ag ne,aa],IZ _,ne,e2,λ _=>none,(NE e3).at λ o q=>Ij _ q,λ _=>IS,λ y hy=>absurd rfl hy⟩
theorem rZ {prog:Program} {w:World} {env:Env} {e:Expr} {f:Str} {pos:Pos} {s:Shared} {Q:Value->Shared->Prop} (hb:attributeBase e f env (eval e env)=eval e env)
  (h:wpAny (model prog w) A (eval e env) (λ o s₁=>wpAny (model prog w) A (getAttr o f true) Q E s₁) E s):wpAny (model prog w) A (eval (.Attribute e f pos) env) Q E s:=
 Attribute_any_ h (by rw [arm_eval_Attribute,hb])
end
noncomputable def EF (K:Ih) (ta:TE) (f:Str):TE:=λ σ H Q=>ta σ H λ x H1=>∃ a C dx fs v,x=.ref a/\H1 a=some (.ins C dx fs)/\Cls K C/\NoAttr K C f/\fs.lookup f=some v/\Q v H1
noncomputable def EG (K:Ih) (ta tv:TE) (f:Str):TS:=λ D σ H=>tv σ H λ y H1=>ta σ H1 λ x H2=>∃ a C dx fs,x=.ref a/\H2 a=some (.ins C dx fs)/\Cls K C/\NoAttr K C f/\fs.length<1000/\
 D.nx σ (upd H2 a (.ins C dx (bo f y fs)))
section
variable {X:Cx} {o e value:Expr} {f:Str} {pos pos' tpos:Pos} {ta tv:TE}
theorem BZ (he:PE X e ta) (hb:attributeBase e f X.env (eval e X.env)=eval e X.env):PE X (.Attribute e f pos) (EF X.K ta f):=by
 intro pins s σ H Q I h
 refine rZ hb (thn (he pins s σ H _ I h) λ u s1 ⟨x,H1,I1,rx,a,C,dx,fs,v,ex,ea,c,n,l,q⟩=>?_)
 subst ex
 obtain rfl:u=IT a:=rx
 exact qr I1 ea c n l λ u' s2 I2 ru=>⟨v,H1,I2,ru,q⟩
theorem B0 (ha:PE X o ta) (hv:PE X value tv) (hs:swapsWith value (some (.Attribute o f pos')) pos.line X.env=pure false):PS X (.Assign [.Attribute o f pos'] value pos) (EG X.K ta tv f):=by
 intro pins s σ H D I h
 refine plainObj_wpAny_Assign_Attribute (thn (hv pins s σ H _ I h) λ u s1 ⟨y,H1,I1,ry,q⟩=>thn (ha pins s1 σ H1 _ I1 q) λ ov s2 ⟨x,H2,I2,rx,a,C,dx,fs,ex,ea,c,n,l,q2⟩=>?_) hs
 subst ex
 obtain rfl:ov=IT a:=rx
 exact qu I2 ea c n l ry λ s3 I3=>⟨σ,_,I3,q2⟩
end
section
variable {X:Cx} {pins:List (Addr×Obj)} {σ:St} {H:Hp} {s:Shared} {A:Around} {E:Value->Shared->Prop} {Q:Value->Shared->Prop} {c:Value} {b:Bool}
inductive TyOf (K:Ih) (H:Hp):V->Value->Prop where
 | non:TyOf K H .non (.type "NoneType")
 | bl (x:Bool):TyOf K H (.bl x) (.type "bool")
 | int (i:Int):TyOf K H (.int i) (.type "int")
 | str (x:Str):TyOf K H (.str x) (.type "str")
 | flt (x:UInt64):TyOf K H (.flt x) (.type "float")
 | lst {a:Addr} {xs:List V} (e:H a=some (.lst xs)):TyOf K H (.ref a) (.type "list")
 | frz {a:Addr} {o:Obj} {xs:List V} (e:H a=some (.frz o (.lst xs))):TyOf K H (.ref a) (.type "list")
 | tup {a:Addr} {xs:List V} (e:H a=some (.tup xs)):TyOf K H (.ref a) (.type "tuple")
 | dK {a:Addr} {kvs:List (Key×V)} (e:H a=some (.dK kvs)):TyOf K H (.ref a) (.type "dict")
 | dT {a:Addr} {kvs:List (List Key×V)} (e:H a=some (.dT kvs)):TyOf K H (.ref a) (.type "dict")
 | ins {a C dx:Addr} {fs:List (Str×V)} (e:H a=some (.ins C dx fs)) (cl:Cls K C) (ha:IQ K (.ref C) "__class__" = some (some (.builtin "object.__class__")))
   (hn:PySem.W.specialIn K (.builtin "object.__class__") "__get__" = some (some (.builtin "getset_descriptor.__get__"))) (htk:PySem.W.takesIn K (.builtin "object.__class__")=some true)
   (hm:Li K C (.type "object")=some true):TyOf K H (.ref a) (.ref C)
theorem r9 {x:V} {u t:Value} (I:Inv X pins σ H s) (rx:RelV x u) (ty:TyOf X.K H x t) (e:JN X.K t c=some b) (h:∀ tk,Q (.bool b) { s with toks:=tk }) :
  wpAny (model X.prog X.w) A (call (.builtin "isinstance") [u,c]) Q E s:=by
 cases ty with
 | non=>cases (show u=IW from rx); exact Jz PySem.W.kitx_none I.kIn IS e (λ z=>nomatch z) h
 | bl y=>cases (show u=MZ y from rx); exact Jz PySem.W.kitx_bool I.kIn IS e (λ z=>nomatch z) h
 | int i=>obtain ⟨t,q⟩:=(show ∃ t,u=KR i t from rx); cases q; exact Jz PySem.W.kitx_int I.kIn IS e (λ z=>nomatch z) h
 | str y=>obtain ⟨t,q⟩:=(show ∃ t,u=K2 y t from rx); cases q; exact Jz PySem.W.kitx_str I.kIn IS e (λ z=>nomatch z) h
 | flt y=>obtain ⟨t,q⟩:=(show ∃ t,u=NT y t from rx); cases q; exact Jz PySem.W.kitx_float I.kIn IS e (λ z=>nomatch z) h
 | @lst a xs ea=>
  cases (show u=IT a from rx)
  obtain ⟨_,_,n,_,h1⟩:=(show ObjOk X.prog X.w H s.heap a (.lst xs) from I.hok a _ ea)
  exact Jz NF I.kIn ⟨_,h1,rfl⟩ e (λ z=>nomatch z) h
 | @frz a ob xs ea=>
  cases (show u=IT a from rx)
  obtain ⟨_,_,_,n,_,h1⟩:=(show ObjOk X.prog X.w H s.heap a (.frz ob (.lst xs)) from I.hok a _ ea)
  exact Jz NF I.kIn ⟨_,h1,rfl⟩ e (λ z=>nomatch z) h
 | @tup a xs ea=>
  cases (show u=IT a from rx)
  obtain ⟨_,_,_,p⟩:=(show ObjOk X.prog X.w H s.heap a (.tup xs) from I.hok a _ ea)
  obtain ⟨o,h1,h2,_⟩:=p
  exact Jz PySem.W.kitx_tuple I.kIn ⟨o,h1,h2⟩ e (λ z=>nomatch z) h
 | @dK a kvs ea=>
  cases (show u=IT a from rx)
  obtain ⟨_,_,vs,_,p⟩:=(show ObjOk X.prog X.w H s.heap a (.dK kvs) from I.hok a _ ea)
  obtain ⟨o,es,ep,h1,h2,_⟩:=p
  exact Jz NG I.kIn ⟨o,h1,h2.1⟩ e (λ z=>nomatch z) h
 | @dT a kvs ea=>
  cases (show u=IT a from rx)
  obtain ⟨_,_,xs,_,o,es,ep,h1,h2,_⟩:=(show ObjOk X.prog X.w H s.heap a (.dT kvs) from I.hok a _ ea)
  exact Jz NG I.kIn ⟨o,h1,h2.1⟩ e (λ z=>nomatch z) h
 | @ins a C dx fs ea cl ha hn htk hm=>
  cases (show u=IT a from rx)
  obtain ⟨mA,O,_⟩:=nN I.hok ea
  obtain ⟨od,J,_⟩:=O.look
  exact Jz (PySem.W.kitx_own (cl.get _) cl.hd ha hn htk hm) I.kIn J e (λ z=>nomatch z) h
end
structure Room (k:Nat) (A:Around):Prop where
 hd:A.handled=none
 dp:A.depth+3*k+5<recursionLimit
 un:A.units+16*k+200<cLine
 gd:A.guards=some []
theorem Room.mono {j k:Nat} {A:Around} (r:Room k A) (h:j<=k):Room j A:=⟨r.hd,by have:=r.dp; lia,by have:=r.un; lia,r.gd⟩
theorem Room.deeper {k:Nat} {A:Around} (r:Room (k+1) A) (env:Env):Room k (A.deeper env):=
 ⟨r.hd,by have:=r.dp; show A.depth+1+3*k+5<_; lia,by have:=r.un; show A.units+3+16*k+200<_; lia,r.gd⟩
theorem qw {A:Around} {C:Addr} {us:List Value} {kw:List (Str×Value)}:(A.under (.builtin "type.__call__" ⟨.ref C::us,kw⟩)).depth=A.depth+1:=by
 first | rfl | simp [Mm,Code.weight,Code.isCreation,O3,Code.isCaller,Pc,Ng,guardIds]
theorem qx {A:Around} {C:Addr} {us:List Value} {kw:List (Str×Value)}:(A.under (.builtin "type.__call__" ⟨.ref C::us,kw⟩)).units=A.units+1:=by
 first | rfl | simp [Mm,Code.cUnits,Pc,Ng]
theorem Room.make {k:Nat} {A:Around} (r:Room (k+1) A) (C:Addr) (us:List Value) (kw:List (Str×Value)):Room k (A.under (.builtin "type.__call__" ⟨.ref C::us,kw⟩)):=
 ⟨r.hd,by have:=r.dp; rw [qw]; lia,by have:=r.un; rw [qx]; lia,by first | exact r.gd | (simp [Mm,Code.guards,O3,guardIds,pushGuards,r.gd])⟩
theorem Room.depth {k:Nat} {A:Around} (r:Room k A):A.depth<recursionLimit:=by have:=r.dp; lia
theorem Room.units {k:Nat} {A:Around} (r:Room k A):A.units+64<cLine:=by have:=r.un; lia
noncomputable def A8:TA:=λ _ H Q=>Q [] H
noncomputable def vI (ta:TE) (tr:TA):TA:=λ σ H Q=>ta σ H λ x H1=>tr σ H1 λ xs H2=>Q (x::xs) H2
section
variable {X:Cx} {e:Expr} {es:List Expr} {te:TE} {t:TA} {pos:Pos}
theorem B1:PA X [] A8:=λ _ _ _ _ H Q I h=>Me ⟨[],H,I,.nil,h⟩
theorem y8 (ha:PE X e te) (hr:PA X es t) (hs:starEach (e::es) X.env=(false,eval e X.env)::starEach es X.env:=by rfl):PA X (e::es) (vI te t):=by
 intro pos pins s σ H Q I h
 rw [hs]
 show wpAny _ _ (spliced ((false,eval e X.env)::backTo pos (starEach es X.env))) _ _ s
 refine LS (thn (ha pins s σ H _ I h) λ u s1 ⟨x,H1,I1,r1,q1⟩=>?_)
 exact thn (hr pos pins s1 σ H1 _ I1 q1) λ us s2 ⟨xs,H2,I2,r2,q2⟩=>⟨x::xs,H2,I2,.cons r1 r2,q2⟩
noncomputable def EH (t:TA):TE:=λ σ H Q=>t σ H λ xs H1=>xs.length<=sizeLine/\∀ p,H1 p=none->Q (.ref p) (upd H1 p (.tup xs))
noncomputable def EI (t:TA):TE:=λ σ H Q=>t σ H λ xs H1=>xs.length<=sizeLine/\∀ p,H1 p=none->Q (.ref p) (upd H1 p (.lst xs))
theorem B2 {x1} (h:PA X es t):PE X (.Tuple es x1 pos) (EH t):=by
 intro pins s σ H Q I hq
 refine wpAny_Tuple_spliced (thn (h pos pins s σ H _ I hq) λ us s1 ⟨xs,H1,I1,r,z,q⟩=>⟨by rw [<-r.length]; exact z,?_⟩)
 have hf:H1 s1.heap.objs.size=none:=I1.hok.fresh (Im _)
 refine ⟨.ref s1.heap.objs.size,upd H1 s1.heap.objs.size (.tup xs),I1.laid (t':=s1.toks) (λ b u e=>Ij _ e) (Im _) ?_,rfl,q _ hf⟩
 exact ⟨z,us,r,⟨_,Iz _ rfl,rfl,_,rfl⟩⟩
theorem B3 (h:PA X es t):PE X (.List es pos) (EI t):=by
 intro pins s σ H Q I hq
 refine wpAny_List_spliced (thn (h pos pins s σ H _ I hq) λ us s1 ⟨xs,H1,I1,r,z,q⟩=>⟨by rw [<-r.length]; exact z,?_⟩)
 have hf:H1 s1.heap.objs.size=none:=I1.hok.fresh (Im _)
 refine ⟨.ref s1.heap.objs.size,upd H1 s1.heap.objs.size (.lst xs),I1.laid (t':=s1.toks) (λ b u e=>Ij _ e) (Im _) ?_,rfl,q _ hf⟩
 exact ⟨z,us,0,r,Iz _ rfl⟩
end
noncomputable abbrev Sp:=List V->Hp->VK->XK->Prop
noncomputable abbrev CXT:=List Env->Hp->Shared->XK->Value->Shared->Prop
structure Env0 (P:Program) (w:World) (K:Ih) (mg:Str->Option Value) (base:Heap) (A:Around) (outer:List Env) (s:Shared) (H:Hp):Prop where
 frames:A.frames=some outer
 mod:Mod K mg base
 bs:∀ b o,base.get? b=some o->s.heap.get? b=some o/\H b=none
 bsz:base.objs.size<=s.heap.objs.size
 funs:s.heap.FunFrames base outer
 frf:∀ b∈frs outer,H b=none
 hok:HOk P w H s.heap
 bare:AllBare s.gens
noncomputable def CE (outer:List Env) (P:Program) (w:World) (H:Hp) (s:Shared) (Q:VK) (u:Value) (s':Shared):Prop:=
 ∃ v H',s'.os=s.os/\AllBare s'.gens/\Un (frs outer) [] H H' s.heap s'.heap/\HOk P w H' s'.heap/\RelV v u/\Q v H'
noncomputable def CR (CX:CXT) (outer:List Env) (P:Program) (w:World) (H:Hp) (s:Shared) (Q:VK) (E:XK) (r:Result) (s':Shared):Prop:=
 match r with
 | .ok (.ret u)=>CE outer P w H s Q u s'
 | .ok _=>False
 | .error e=>CX outer H s E e s'
structure FnOk (P:Program) (w:World) (K:Ih) (mg:Str->Option Value) (base:Heap) (CX:CXT) (k:Nat) (f:Addr) (fd:FuncData) (ps:List Str) (sp:Sp):Prop where
 len:∀ vs H Q E,sp vs H Q E->vs.length=ps.length
 run:∀ (A:Around) (outer:List Env) (s:Shared) (H:Hp) (args:Args) (us:List Value) (vs:List V) (Q:VK) (E:XK),Room k A->Env0 P w K mg base A outer s H->BindsTo s fd args (ps.zip us)->Vals vs us->sp vs H Q E->
  codeAny (model P w) A (.call (.ref f) args) (CR CX outer P w H s Q E) s
theorem Env0.make {P:Program} {w:World} {K:Ih} {mg:Str->Option Value} {base:Heap} {A:Around} {outer:List Env} {s:Shared} {H:Hp} (e:Env0 P w K mg base A outer s H) (C:Addr) (us:List Value) (kw:List (Str×Value)) :
  Env0 P w K mg base (A.under (.builtin "type.__call__" ⟨.ref C::us,kw⟩)) outer s H:=⟨by first | exact e.frames | (simpa [Mm,Code.envs,Ng,pushEnvs] using e.frames),e.mod,e.bs,e.bsz,e.funs,e.frf,e.hok,e.bare⟩
section
variable {X:Cx} {pins:List (Addr×Obj)} {σ:St} {H:Hp} {s s':Shared}
theorem Inv.env0 (I:Inv X pins σ H s):Env0 X.prog X.w X.K X.mg X.base X.A X.stack s H:=
 ⟨I.ok.frames,I.ok.mod,I.bs,Js I.ok.bsz I.sz,I.stack,I.stkFree,I.hok,I.bare⟩
theorem Inv.after {Q:VK} {u:Value} (I:Inv X pins σ H s) (h:CE X.stack X.prog X.w H s Q u s'):EP X pins σ Q u s':=by
 obtain ⟨v,H',os,bare,un,hok,r,q⟩:=h
 obtain ⟨hh,g,d,t,os'⟩:=s'
 obtain rfl:os'=s.os:=os
 exact ⟨v,H',I.call (h':=hh) (g':=g) (d':=d) (t':=t) (ch:=[]) un hok bare (λ b z=>absurd z (by simp)),r,q⟩
end
noncomputable def nO (sp:Sp) (dvs:List V) (E:XK) (t:TA):TE:=λ σ H Q=>t σ H λ vs H1=>sp (vs++dvs) H1 Q E
noncomputable def y9 (C:Addr) (sp:Sp) (dvs:List V) (E:XK) (t:TA):TE:=λ σ H Q=>t σ H λ vs H1=>∀ x dx,H1 x=none->H1 dx=none->dx≠x->
 sp (.ref x::(vs++dvs)) (upd (upd H1 dx (.own x)) x (.ins C dx [])) (λ v H2=>v=.non/\Q (.ref x) H2) E
noncomputable def Binds (K:Ih) (fd:FuncData) (ps:List Str) (ds:List Value):Prop:=
 ∀ (s:Shared) (us:List Value),K.In s.heap->(us++ds).length=ps.length->BindsTo s fd ⟨us,[]⟩ (ps.zip (us++ds))
theorem Binds.all {K:Ih} {fd:FuncData} {ps:List Str} (h:∀ us:List Value,us.length=ps.length->bindArgs fd ⟨us,[]⟩=pure (ps.zip us)):Binds K fd ps []:=λ s us _ hl=>by
 rw [Kp] at hl ⊢
 exact .of_eq (h us hl)
noncomputable def dg (CX:CXT) (X:Cx) (E:XK):Prop:=∀ (pins:List (Addr×Obj)) (σ:St) (H:Hp) (s:Shared) (e:Value) (s':Shared),Inv X pins σ H s->CX X.stack H s E e s'->X.xe e s'
section
variable {X:Cx} {CX:CXT} {k:Nat} {f C:Addr} {fd:FuncData} {ps:List Str} {sp:Sp} {dvs:List V} {ds:List Value} {E:XK} {x m:Str} {p pos apos:Pos} {e o:Expr} {es:List Expr} {ta:TE} {t:TA}
theorem sd {pins:List (Addr×Obj)} {σ:St} {H:Hp} {s:Shared} {Q:VK} {us:List Value} {vs:List V} (F:FnOk X.prog X.w X.K X.mg X.base CX k f fd ps sp) (hr:Room k X.A) (hb:Binds X.K fd ps ds) (hd:Vals dvs ds) (hx:dg CX X E)
  (I:Inv X pins σ H s) (r:Vals vs us) (h:sp (vs++dvs) H Q E):wpAny (model X.prog X.w) X.A (call (.ref f) us) (EP X pins σ Q) X.xe s:=by
 have r2:Vals (vs++dvs) (us++ds):=r.append hd
 have hl:(us++ds).length=ps.length:=by rw [<-r2.length]; exact F.len _ _ _ _ h
 refine wpAny_call (codeAny_mono (F.run X.A X.stack s H ⟨us,[]⟩ (us++ds) (vs++dvs) Q E hr I.env0 (hb s us I.kIn hl) r2 h) λ r s' hq=>?_)
 cases r with
 | error e=>exact hx pins σ H s e s' I hq
 | ok fl=>
  cases fl with
  | ret u=>exact I.after hq
  | next=>exact IV hq
  | brk=>exact IV hq
  | cont=>exact IV hq
theorem za (F:FnOk X.prog X.w X.K X.mg X.base CX k f fd ps sp) (hr:Room k X.A) (hg:Gl X x) (hm:X.mg x=some (.ref f)) (hk:Jk X.K (.ref f)=true) (hb:Binds X.K fd ps ds) (hd:Vals dvs ds) (hx:dg CX X E)
  (ha:PA X (e::es) t) (hdb:(x == ("__debug__" : Str))=false:=by decide) (he:starEach (e::es) X.env=(false,eval e X.env)::starEach es X.env:=by rfl) (hpl:(backTo pos (starEach es X.env)).any (·.1)=false:=by rfl) :
  PE X (.Call (.Name x p) (e::es) [] pos) (nO sp dvs E t):=by
 intro pins s σ H Q I h
 refine wpAny_Call_Name_kw (cG I hg hm ?_ hdb)
 refine Kl (h₀:=X.base) I.ok.mod.kin hk (thn (ha pos pins s σ H _ I h) λ us s1 ⟨vs,H1,I1,r,q⟩=>⟨I1.kIn,?_⟩) he hpl
 exact sd F hr hb hd hx I1 r q
theorem vJ (F:FnOk X.prog X.w X.K X.mg X.base CX k f fd ps sp) (hr:Room k X.A) (hg:Gl X x) (hm:X.mg x=some (.ref f)) (hk:Jk X.K (.ref f)=true) (hb:Binds X.K fd ps ds) (hd:Vals dvs ds) (hx:dg CX X E)
  (hdb:(x == ("__debug__" : Str))=false:=by decide):PE X (.Call (.Name x p) [] [] pos) (nO sp dvs E A8):=by
 intro pins s σ H Q I h
 refine wpAny_Call_Name_kw (cG I hg hm ?_ hdb)
 exact PySem.W.callWith_K0 I.kIn hk (sd (us:=[]) F hr hb hd hx I .nil h)
structure Mk (K:Ih) (C f:Addr):Prop where
 makes:MC K C=true
 init:IQ K (.ref C) "__init__" = some (some (.ref f))
 fn:Nh K (.ref f)=true
 kp:Jk K (.ref C)=true
theorem vK {pins:List (Addr×Obj)} {σ:St} {H:Hp} {s:Shared} {Q:VK} {us:List Value} {vs:List V} (M:Mk X.K C f) (F:FnOk X.prog X.w X.K X.mg X.base CX k f fd ps sp) (hr:Room (k+1) X.A) (hb:Binds X.K fd ps ds) (hd:Vals dvs ds)
  (hx:dg CX X E) (I:Inv X pins σ H s) (r:Vals vs us)
  (h:∀ x dx,H x=none->H dx=none->dx≠x->sp (.ref x::(vs++dvs)) (upd (upd H dx (.own x)) x (.ins C dx [])) (λ v H2=>v=.non/\Q (.ref x) H2) E) :
  wpAny (model X.prog X.w) X.A (call (.ref C) us) (EP X pins σ Q) X.xe s:=by
 have hq:=h (s.heap.objs.size+1) s.heap.objs.size (I.hok.fresh (KY _)) (I.hok.fresh (Im _)) (Iy (Ll _))
 have I2:=Inv.made (C:=C) I
 have r2:Vals (V.ref (s.heap.objs.size+1)::(vs++dvs)) (IT (s.heap.objs.size+1)::(us++ds)):=.cons rfl (r.append hd)
 have hl:(IT (s.heap.objs.size+1)::us++ds).length=ps.length:=by
  have e:=r2.length
  rw [F.len _ _ _ _ hq] at e
  exact e.symm
 refine wpAny_call (vH (f:=f) I.kIn M.makes M.init (beq_iff_eq.mp M.fn) (codeAny_mono (F.run _ X.stack _ _ ⟨IT (s.heap.objs.size+1)::us,[]⟩ (IT (s.heap.objs.size+1)::(us++ds)) _ _ E (hr.make C us [])
  (I2.env0.make C us []) (hb _ (IT (s.heap.objs.size+1)::us) I2.kIn hl) r2 hq) λ r s' hq'=>?_))
 cases r with
 | error e=>exact hx pins σ _ _ e s' I2 hq'
 | ok fl=>
  cases fl with
  | ret u=>
   obtain ⟨v,H',I3,rv,ev,q3⟩:=I2.after hq'
   subst ev
   exact ⟨rv,⟨V.ref (s.heap.objs.size+1),H',I3,rfl,q3⟩⟩
  | next=>exact IV hq'
  | brk=>exact IV hq'
  | cont=>exact IV hq'
theorem zb (M:Mk X.K C f) (F:FnOk X.prog X.w X.K X.mg X.base CX k f fd ps sp) (hr:Room (k+1) X.A) (hg:Gl X x) (hm:X.mg x=some (.ref C)) (hb:Binds X.K fd ps ds) (hd:Vals dvs ds) (hx:dg CX X E)
  (ha:PA X (e::es) t) (hdb:(x == ("__debug__" : Str))=false:=by decide) (he:starEach (e::es) X.env=(false,eval e X.env)::starEach es X.env:=by rfl) (hpl:(backTo pos (starEach es X.env)).any (·.1)=false:=by rfl) :
  PE X (.Call (.Name x p) (e::es) [] pos) (y9 C sp dvs E t):=by
 intro pins s σ H Q I h
 refine wpAny_Call_Name_kw (cG I hg hm ?_ hdb)
 refine Kl (h₀:=X.base) I.ok.mod.kin M.kp (thn (ha pos pins s σ H _ I h) λ us s1 ⟨vs,H1,I1,r,q⟩=>⟨I1.kIn,?_⟩) he hpl
 exact vK M F hr hb hd hx I1 r q
end
section
variable {X:Cx} {CX:CXT} {k:Nat} {f C:Addr} {fd:FuncData} {ps ks:List Str} {sp:Sp} {E:XK} {x m:Str} {p pos apos kpos:Pos} {e o:Expr} {es:List Expr} {kws:List Keyword} {te ta:TE} {t tk:TA} {nm:Option Str}
variable {g:List Value->List Value->List Value} {gV:List V->List V->List V}
end
structure FnScope (N P:List Str) (sc:Scope):Prop where
 kind:sc.kind=.function
 co:sc.isCoroutine=false
 gen:sc.isGenerator=false
 nd:N.Nodup
 pre:N.take P.length=P
 par:∀ x∈P,sc.names.lookup x=some .local\/sc.names.lookup x=some .cell
 nofree:∀ y∈sc.names,y.2≠.free
theorem lX {kindOf:Str->Option NameKind} {x:Str}:∀ {binds:List (Str×Value)} {m:Str->Option Value},(∀ v,(x,v)∉binds)->bindL kindOf binds m x=m x
 | [],_,_=>rfl
 | (n,v)::r,m,h=>by
  unfold bindL
  rw [lX λ w hw=>h w (IG _ hw)]
  split
  ·have:x≠n:=by rintro rfl; exact h v Jg
   simp [this]
  ·rfl
theorem lY {kindOf:Str->Option NameKind} {x:Str}:∀ {binds:List (Str×Value)} {m:Str->Option Value},(∀ v,(x,v)∉binds)->bindC kindOf binds m x=m x
 | [],_,_=>rfl
 | (n,v)::r,m,h=>by
  unfold bindC
  rw [lY λ w hw=>h w (IG _ hw)]
  split
  ·rfl
  ·have:x≠n:=by rintro rfl; exact h v Jg
   simp [this]
theorem lZ {kindOf:Str->Option NameKind} {x:Str} {v:Value}:∀ {P:List Str} {vs:List Value} {i:Nat} {m:Str->Option Value},P.Nodup->P[i]? = some x->vs[i]? = some v->kindOf x=some .local->
  bindL kindOf (P.zip vs) m x=some v
 | [],_,_,_,_,h,_,_=>by simp at h
 | _::_,[],_,_,_,_,h,_=>by simp at h
 | p::P,w::vs,0,m,nd,h1,h2,hk=>by
  simp at h1 h2; subst h1; subst h2
  show bindL kindOf ((p,w)::P.zip vs) m p=_
  unfold bindL
  rw [lX λ v hv=>(Lv.mp nd).1 (Lx hv).1,if_pos hk]
  simp
 | p::P,w::vs,i+1,m,nd,h1,h2,hk=>by
  show bindL kindOf ((p,w)::P.zip vs) m x=_
  unfold bindL
  exact lZ (i:=i) (Lv.mp nd).2 (by simpa using h1) (by simpa using h2) hk
theorem l6 {kindOf:Str->Option NameKind} {x:Str} {v:Value}:∀ {P:List Str} {vs:List Value} {i:Nat} {m:Str->Option Value},P.Nodup->P[i]? = some x->vs[i]? = some v->kindOf x≠some .local->
  bindC kindOf (P.zip vs) m x=some v
 | [],_,_,_,_,h,_,_=>by simp at h
 | _::_,[],_,_,_,_,h,_=>by simp at h
 | p::P,w::vs,0,m,nd,h1,h2,hk=>by
  simp at h1 h2; subst h1; subst h2
  show bindC kindOf ((p,w)::P.zip vs) m p=_
  unfold bindC
  rw [lY λ v hv=>(Lv.mp nd).1 (Lx hv).1,if_neg hk]
  simp
 | p::P,w::vs,i+1,m,nd,h1,h2,hk=>by
  show bindC kindOf ((p,w)::P.zip vs) m x=_
  unfold bindC
  exact l6 (i:=i) (Lv.mp nd).2 (by simpa using h1) (by simpa using h2) hk
noncomputable def aI (N:List Str) (vs:List V):St:=vs.map some++Jh (N.length - vs.length) none
noncomputable def lS (CX:CXT) (P:Program) (w:World) (K:Ih) (mg:Str->Option Value) (base:Heap) (N:List Str) (qual:Str) (scope:Scope) (f:Addr) (cd:Value) (A:Around) (outer:List Env) (s:Shared) (H:Hp) (E:XK):Cx where
 prog:=P
 w:=w
 K:=K
 mg:=mg
 base:=base
 A:=A.deeper (envOfC qual scope s.heap.objs.size f cd)
 N:=N
 s₀:=s
 H₀:=H
 env:=envOfC qual scope s.heap.objs.size f cd
 outer:=outer
 stack:=envOfC qual scope s.heap.objs.size f cd::outer
 ex:=[]
 calm:=true
 fn:=λ _=>true
 pn:=[]
 xe:=λ e s'=>wpAny (model P w) (A.deeper (envOfC qual scope s.heap.objs.size f cd)) (leaving (envOfC qual scope s.heap.objs.size f cd) e) (λ _ s''=>CX outer H s E e s'') (λ e' s''=>CX outer H s E e' s'') s'
theorem o7 {sc:Scope} {n:Nat} {x:Str} (h:sc.names.lookup x=some .cell):∃ c,(cellsFrom n sc.names []).lookup x=some c:=by
 have q:=Lf sc.names n [] (.inl h)
 exact JJ.mp q
theorem l7 {CX:CXT} {P:Program} {w:World} {K:Ih} {mg:Str->Option Value} {base:Heap} {N ps:List Str} {qual:Str} {scope:Scope} {f:Addr} {cd:Value} {A:Around} {outer:List Env} {s s1:Shared} {H:Hp} {E:XK} {us:List Value} {vs:List V}
  (S:FnScope N ps scope) (hd:A.handled=none) (e0:Env0 P w K mg base A outer s H) (hl:vs.length=ps.length) (r:Vals vs us)
  (x:InCallC s s.heap.objs.size (bindL (envOfC qual scope s.heap.objs.size f cd).kindOf (ps.zip us) λ _=>none) (cellsFrom (s.heap.objs.size+1) scope.names []) (bindC (envOfC qual scope s.heap.objs.size f cd).kindOf (ps.zip us) λ _=>none) s1) :
  Inv (lS CX P w K mg base N qual scope f cd A outer s H E) [] (aI N vs) H s1:=by
 have hpl:ps.length<=N.length:=by have:=congrArg NV S.pre; rw [Jl] at this; lia
 obtain ⟨h1,tk,rfl,hk⟩:=x.done
 have noA:∀ b:Addr,b∉(lS CX P w K mg base N qual scope f cd A outer s H E).ex:=λ b z=>absurd (show b∈([]:List Addr) from z) (by simp)
 refine ⟨⟨e0.mod,S.kind,rfl,rfl,Im _,λ y z c h1 h2=>?_,λ y hy=>?_,λ y c _ h=>?_,λ _=>hd,Around.frames_deeper e0.frames,.inr ⟨rfl,rfl⟩,λ b z=>absurd z (noA b),e0.bs,e0.bsz,λ b _ _=>noA b,λ b z=>absurd z (noA b),e0.funs,e0.frf⟩,
  rfl,e0.bare,Un.kept hk,⟨_,x.toInCall.ns,λ i y v h1 h2 h3=>?_⟩,λ y c h=>⟨_,x.cell y c h⟩,e0.hok.fresh (Im _),λ y c h=>?_,λ p hp=>absurd (show p∈([]:List (Addr×Obj)) from hp) (by simp),e0.hok.kept hk,?_⟩
 ·exact name_of_addr x.apart (Kd h1) (Kd h2)
 ·have hy:scope.names.lookup y=some .cell\/scope.names.lookup y=some .free:=hy
  rcases hy with hy | hy
  ·exact o7 hy
  ·exact absurd rfl (S.nofree _ (Kd hy))
 ·exact JD (x.above y c (Kd h))
 ·have hi:i<vs.length:=by
   unfold aI at h2
   by_cases hi:i<vs.length
   ·exact hi
   ·rw [IX (by simpa using hi)] at h2
    rw [Mv] at h2
    split at h2<;>cases h2
  have ha:vs[i]? = some v:=by
   unfold aI at h2
   rw [Jn (by simpa using hi),Ji] at h2
   cases e:vs[i]? with
   | none=>rw [e] at h2; cases h2
   | some a=>rw [e] at h2; cases h2; rfl
  obtain ⟨u,hu,rv⟩:=r.get ha
  have hp:ps[i]? = some y:=by
   rw [<-S.pre,List.getElem?_take_of_lt (by lia)]; exact h1
  have ndP:ps.Nodup:=by rw [<-S.pre]; exact S.nd.sublist (Mf _ _)
  refine ⟨u,rv,?_⟩
  rcases S.par y (JO hp) with k | k
  ·exact .inl ⟨k,lZ ndP hp hu k⟩
  ·obtain ⟨c,e⟩:=o7 (n:=s.heap.objs.size+1) k
   refine .inr ⟨.inl k,c,e,?_⟩
   have q:=x.cell y c e
   rw [l6 ndP hp hu (by show scope.names.lookup y≠_; rw [k]; decide)] at q
   exact q
 ·exact e0.hok.fresh (JD (x.above y c (Kd h)))
 ·unfold aI
  show _=N.length
  rw [IM,Ir,KO]
  lia
theorem zc {CX:CXT} {P:Program} {w:World} {K:Ih} {mg:Str->Option Value} {base:Heap} {k:Nat} {f:Addr} {name qual:Str} {params:Arguments} {body:List Stmt} {scope:Scope} {dV kV doc pm cdv ct oc:Value} {an od:Option Addr}
  {osl:Array (Option Value)} {N ps:List Str} {sp:Sp} (lk:K.lookup f=some ⟨oc,od,.func (KP name qual params body scope dV kV doc pm an cdv ct),osl⟩) (hcd:LP K cdv qual=true) (S:FnScope N ps scope)
  (len:∀ vs H Q E,sp vs H Q E->vs.length=ps.length)
  (hbody:∀ (A:Around) (outer:List Env) (s:Shared) (H:Hp) (vs:List V) (Q:VK) (E:XK),Room k (A.deeper (envOfC qual scope s.heap.objs.size f cdv))->sp vs H Q E->
   ∃ t,PSs (lS CX P w K mg base N qual scope f cdv A outer s H E) body t/\t { nx:=λ _ H'=>Q .non H',rt:=Q } (aI N vs) H) :
  FnOk P w K mg base CX (k+1) f (KP name qual params body scope dV kV doc pm an cdv ct) ps sp:=by
 refine ⟨len,λ A outer s H args us vs Q E hr e0 hb r hsp=>?_⟩
 have hl:=len _ _ _ _ hsp
 have KX:K.In s.heap:=e0.mod.kin.keeps λ b o e=>(e0.bs b o e).1
 have lim:s.heap.NoLimit:=e0.mod.nolimit.keeps λ b o e=>(e0.bs b o e).1
 have hkind:∀ y∈ps.zip us,scope.names.lookup y.1=some .local\/(scope.names.lookup y.1=some .cell/\((cellsFrom (s.heap.objs.size+1) scope.names []).lookup y.1).isSome=true):=λ⟨n,v⟩ hy=>by
  rcases S.par n (Lx hy).1 with q | q
  ·exact .inl q
  ·exact .inr ⟨q,Lf _ _ _ (.inl q)⟩
 refine codeAny_call_function hr.depth (KX _ _ lk) rfl S.co S.gen rfl (Ni KX hcd) (hb _ _ _ _ ?_)
 refine wpAny_newFunctionEnv_cells S.kind hkind λ env he s1 x=>?_
 subst he
 refine ⟨lim.keeps x.toInCall.keep,codeAny_func ?_⟩
 obtain ⟨t,ht,hq⟩:=hbody A outer s H vs Q E (hr.deeper _) hsp
 have I:Inv (lS CX P w K mg base N qual scope f cdv A outer s H E) [] (aI N vs) H s1:=l7 S hr.hd e0 hl r x
 refine wpAny_mono (ht [] s1 (aI N vs) H _ I hq) (λ fl s' hs=>?_) λ e s' hs=>hs
 have fin:∀ {σ':St} {H':Hp} {v:V} {u:Value},Inv (lS CX P w K mg base N qual scope f cdv A outer s H E) [] σ' H' s'->RelV v u->Q v H'->CE outer P w H s Q u s':=
  λ {σ' H' v u} J rv q=>⟨v,H',J.os,J.bare,J.base,J.hok,rv,q⟩
 cases fl with
 | ret u=>
  obtain ⟨v,σ',H',J,rv,q⟩:=hs
  exact fin J rv q
 | next=>
  obtain ⟨σ',H',J,q⟩:=hs
  exact fin (v:=V.non) (u:=IW) J rfl q
 | brk=>
  obtain ⟨_,_,_,q⟩:=hs
  exact IV q
 | cont=>
  obtain ⟨_,_,_,q⟩:=hs
  exact IV q
section
variable {X:Cx} {x:Str} {p pos:Pos} {e:Expr} {es:List Expr} {t:TA} {id T:String} {r:List V->Hp->VK->Prop}
noncomputable def tCB (r:List V->Hp->VK->Prop) (t:TA):TE:=λ σ H Q=>t σ H λ vs H1=>r vs H1 Q
theorem vL (hc:bZ X (.builtin id) r) (hg:Gl X x) (hm:X.mg x=none) (hv:bootBuiltins x=some (.builtin id)) (ha:PA X (e::es) t) (hn:x≠"__name__":=by decide) (hdb:(x == ("__debug__" : Str))=false:=by decide)
  (he:starEach (e::es) X.env=(false,eval e X.env)::starEach es X.env:=by rfl) (hpl:(backTo pos (starEach es X.env)).any (·.1)=false:=by rfl):PE X (.Call (.Name x p) (e::es) [] pos) (tCB r t):=by
 intro pins s σ H Q I h
 refine wpAny_Call_Name_kw (eG I hg hm hv ?_ hn hdb)
 exact Ly (thn (ha pos pins s σ H _ I h) λ us s1 ⟨vs,H1,I1,r1,q1⟩=>hc pins s1 σ H1 vs us Q I1 r1 q1) he hpl
theorem se (hc:bZ X (.type T) r) (hg:Gl X x) (hm:X.mg x=none) (hv:bootBuiltins x=some (.type T)) (ha:PA X (e::es) t) (hn:x≠"__name__":=by decide) (hdb:(x == ("__debug__" : Str))=false:=by decide)
  (he:starEach (e::es) X.env=(false,eval e X.env)::starEach es X.env:=by rfl) (hpl:(backTo pos (starEach es X.env)).any (·.1)=false:=by rfl):PE X (.Call (.Name x p) (e::es) [] pos) (tCB r t):=by
 intro pins s σ H Q I h
 refine wpAny_Call_Name_kw (eG I hg hm hv ?_ hn hdb)
 exact JA (thn (ha pos pins s σ H _ I h) λ us s1 ⟨vs,H1,I1,r1,q1⟩=>hc pins s1 σ H1 vs us Q I1 r1 q1) he hpl
end
end L2
open L2.SqL renaming of→PX
open L2.V renaming int→PY,str→PZ,ref→P0
open PySem PySem.Spec PyProof.Rows L2
variable {j n t' k i tk m c:Nat} {its vs us:List Value} {xs ys:List V} {σ:L2.St} {pins:List (Addr×Obj)} {h:Heap} {q P:Program} {X:Cx} {f l a C b d:Addr} {qual y name:Str} {H1 H':Hp} {o:HO} {v:V} {fp ch:List Addr} {te to ta:TE} {g:TG} {wi:TI} {pos spos py lpos:Pos} {elt iter tg cnd:Expr} {t:TA} {ix:List Nat} {u:Value} {scope:Scope} {tc:TT} {Q:Value->Shared->Prop} {s':Shared} {D:Ends}
namespace HT
open PySem PyProof.Rows
noncomputable def bS:List Int->List Int->Bool
 | [],[]=>false
 | [],_::_=>true
 | _::_,[]=>false
 | x::xs,y::ys=>if x=y then bS xs ys else decide (x<y)
theorem et (x y:Int) (xs ys:List Int):bS (x::xs) (y::ys)=if x=y then bS xs ys else decide (x<y):=rfl
theorem lh:bS [] []=false:=rfl
theorem j8 (y:Int) (ys:List Int):bS [] (y::ys)=true:=rfl
theorem j9 (x:Int) (xs:List Int):bS (x::xs) []=false:=rfl
theorem vM (A:Around) (s:Shared) (a:Int) (t:Tok) (c:Int) (u:Tok):∃ e,SeqAt.EqAt A s (.int a t) (.int c u) e/\(e=true↔a=c):=
 ⟨(a == c),PC a t c u,by simp⟩
theorem vN (A:Around) (s:Shared) (a:Int) (t:Tok) (c:Int) (u:Tok) (prog:Program) (w:World) (E:Value->Shared->Prop) (Q:Value->Shared->Prop) (h:Q (.bool (decide (a<c))) s) :
  wpAny (model prog w) A (richCompare .Lt (.int a t) (.int c u)) Q E s:=
 (Ps h:wpAny (model prog w) A (compareOp .Lt (.int a t) (.int c u)) Q E s)
section
open PySem.SeqAt
open PySem.AutoSeq1 (wpAny_loadPart')
open PySem.MeetsSeq PySem.MeetsSeq2 PySem.MeetsSeq3
theorem li (l b:Addr) (items items2:Array Value) (n n2:Nat) (dd dd2:Option Addr) (sl sl2:Array (Option Value)) (ns ms:List Int) (hi:IntsAre items.toList ns) (hj:IntsAre items2.toList ms) :
  Meets (Builtin.«tuple.__lt__» ⟨[.ref l,.ref b],[]⟩)
   (λ _ R s=>s.heap.get? l=some { cls:=.type "tuple",dict:=dd,data:=.seq items n,slots:=sl }/\s.heap.get? b=some { cls:=.type "tuple",dict:=dd2,data:=.seq items2 n2,slots:=sl2 }/\
    R (.ok (.ret (.bool (bS ns ms)))) s):=
 .of_wp λ prog w A R s h=>by
  obtain ⟨hp,g,d,tk,os⟩:=s; obtain ⟨hl,hb,h⟩:=h
  have f2:=O4
  have z1:items.size=ns.length:=by rw [<-hi.length]; simp
  have z2:items2.size=ms.length:=by rw [<-hj.length]; simp
  wp_walk using wpAny_loadPart' hl,wpAny_loadPart' hb,wpAny_forIn_list _ (λ rest b s'=>b.1=none/\s'=⟨hp,g,d,tk,os⟩/\∃ (vs ws:List Value) (ns' ms':List Int),rest=vs.zip ws/\
   IntsAre vs ns'/\IntsAre ws ms'/\ns'.length+items2.size=ms'.length+items.size/\R (.ok (.ret (.bool (bS ns' ms')))) ⟨hp,g,d,tk,os⟩) _
  case turn=>
   rintro ⟨y,x⟩ rest b s' ⟨hb',rfl,vs,ws,ns',ms',hz,hvi,hwi,hlen,hR⟩
   cases hvi with
   | nil=>rw [NH] at hz; cases hz
   | cons a t hvi'=>
    cases hwi with
    | nil=>rw [Nj] at hz; cases hz
    | cons c u hwi'=>
     rw [KG] at hz
     injection hz with hyx hrest
     injection hyx with hy hx
     subst hy hx
     rw [et] at hR
     simp only [IU] at hlen
     obtain ⟨e,he,hiff⟩:=vM A.in1 ⟨hp,g,d,tk,os⟩ a t c u
     refine wpAny_bind (he prog w _ _ ?_)
     cases e with
     | true=>
      rw [if_pos (hiff.mp rfl)] at hR
      wp_walk
      exact ⟨rfl,rfl,_,_,_,_,hrest,hvi',hwi',by lia,hR⟩
     | false=>
      rw [if_neg (λ q=>absurd (hiff.mpr q) Iv)] at hR
      have hri:=vN A.in1 ⟨hp,g,d,tk,os⟩ a t c u prog w
      wp_walk using hri
      exact ⟨_,rfl,by simpa using hR⟩
  case fin=>
   rintro ⟨b1,b2⟩ s' ⟨hb',rfl,vs,ws,ns',ms',hz,hvi,hwi,hlen,hR⟩
   simp only at hb'
   subst hb'
   have hv:bS ns' ms'=decide (items.size<items2.size):=by
    cases hvi with
    | nil=>
     cases hwi with
     | nil=>
      simp only [JY] at hlen
      rw [lh]
      exact (decide_eq_false (by lia)).symm
     | cons c u hw=>
      simp only [JY,IU] at hlen
      rw [j8]
      exact (decide_eq_true (by lia)).symm
    | cons a t hv=>
     cases hwi with
     | nil=>
      simp only [JY,IU] at hlen
      rw [j9]
      exact (decide_eq_false (by lia)).symm
     | cons c u hw=>
      rw [KG] at hz
      cases hz
   rw [hv] at hR
   wp_walk
   exact ⟨_,rfl,by simpa [Oa] using hR⟩
  case h=>
   exact ⟨rfl,rfl,items.toList,items2.toList,ns,ms,rfl,hi,hj,by lia,h⟩
end
section
variable {prog:Program} {w:World} {A:Around} {E:Value->Shared->Prop} {s:Shared}
noncomputable def sIx (n d:Nat):Option Int->Nat
 | none=>d
 | some v=>if v<0 then (v+(n:Int)).toNat else min v.toNat n
theorem o8 (n d:Nat):sIx n d none=d:=rfl
theorem sf (n d k:Nat):sIx n d (some (k:Int))=min k n:=by
 show (if (k:Int)<0 then ((k:Int)+(n:Int)).toNat else min (k:Int).toNat n)=min k n
 rw [if_neg (by lia),NI]
end
end HT
namespace L2
open PySem PySem.Spec PyProof.Rows
noncomputable abbrev TO:=St->Hp->(Option Int->Hp->Prop)->Prop
noncomputable def PO (X:Cx) (e:Option Expr) (t:TO):Prop:=
 ∀ (pins:List (Addr×Obj)) (s:Shared) (σ:St) (H:Hp) (Q:Option Int->Hp->Prop),Inv X pins σ H s->t σ H Q->
  wpAny (model X.prog X.w) X.A (evalPart e X.env) (λ u s'=>∃ o H',Inv X pins σ H' s'/\IsPart u o/\Q o H') X.xe s
noncomputable def nQ:TO:=λ _ H Q=>Q none H
noncomputable def zd (t:TE):TO:=λ σ H Q=>t σ H λ x H1=>∃ i,x=.int i/\Q (some i) H1
theorem eB {ns:List Int}:∀ {us:List Value},Vals (ns.map PY) us->IntsAre us ns:=by
 induction ns with
 | nil=>intro us r; rw [Mn] at r; cases r; exact .nil
 | cons n ns ih=>
  intro us r
  rw [Jy] at r
  cases r with
  | cons r1 r2=>
   obtain ⟨t,e⟩:=r1
   subst e
   exact .cons n t (ih r2)
section
variable {X:Cx} {e:Expr} {te:TE} {lo hi:Option Expr} {tl th:TO} {pos p2:Pos}
theorem ze:PO X none nQ:=by
 intro pins s σ H Q I h
 rw [evalPart_none]
 exact wpAny_pure ⟨none,H,I,.none,h⟩
theorem zf (h:PE X e te):PO X (some e) (zd te):=by
 intro pins s σ H Q I hw
 rw [evalPart_some]
 refine thn (h pins s σ H _ I hw) λ u s1 ⟨x,H1,I1,r1,q1⟩=>?_
 obtain ⟨i,rfl,q⟩:=q1
 obtain ⟨t,rfl⟩:=r1
 exact ⟨some i,H1,I1,.int i t,q⟩
noncomputable def SlR (X:Cx) (r:V->Option Int->Option Int->Hp->VK->Prop):Prop:=
 ∀ (pins:List (Addr×Obj)) (s:Shared) (σ:St) (H:Hp) (x:V) (v vl vu:Value) (lo hi:Option Int) (sl:Addr) (Q:VK),Inv X pins σ H s->RelV x v->s.heap.IsSliceOf sl vl vu .none->IsPart vl lo->IsPart vu hi->r x lo hi H Q->
  ∃ T id,typeLookup (.type T) "__getitem__" = pure (some (.builtin id))/\s.TypeIs v T/\wpAny (model X.prog X.w) X.A (getItem v (.ref sl)) (EP X pins σ Q) X.xe s
noncomputable def tSl (r:V->Option Int->Option Int->Hp->VK->Prop) (te:TE) (tl th:TO):TE:=λ σ H Q=>te σ H λ x H1=>tl σ H1 λ l H2=>th σ H2 λ u H3=>r x l u H3 Q
theorem vO {r:V->Option Int->Option Int->Hp->VK->Prop} (hr:SlR X r) (he:PE X e te) (hl:PO X lo tl) (hu:PO X hi th):PE X (.Subscript e (.Slice lo hi none p2) pos) (tSl r te tl th):=by
 intro pins s σ H Q I h
 refine Subscript_ (thn (he pins s σ H _ I h) λ v s1 ⟨x,H1,I1,r1,q1⟩=>?_)
 refine wpAny_Slice (thn (hl pins s1 σ H1 _ I1 q1) λ vl s2 ⟨l,H2,I2,pl,q2⟩=>thn (hu pins s2 σ H2 _ I2 q2) λ vu s3 ⟨u,H3,I3,pu,q3⟩=>?_)
 rw [evalPart_none]
 refine wpAny_pure ?_
 have I4:Inv X pins σ H3 { s3 with heap:=s3.heap.push { cls:=.type "slice",data:=.fields #[vl,vu,.none] } }:=I3.kept (t':=s3.toks) λ b ob q=>Ij _ q
 obtain ⟨T,id,hT,ht,hg⟩:=hr pins { s3 with heap:=s3.heap.push { cls:=.type "slice",data:=.fields #[vl,vu,.none] } } σ H3 x v vl vu l u s3.heap.objs.size Q I4 r1 (PD ..) pl pu q3
 show wpAny (model X.prog X.w) X.A (subscriptTail e (.Slice lo hi none p2) v (.ref s3.heap.objs.size)) (EP X pins σ Q) X.xe { s3 with heap:=s3.heap.push { cls:=.type "slice",data:=.fields #[vl,vu,.none] } }
 exact tail_any (ops:=[.ref s3.heap.objs.size,v]) ht hT hg (by with_unfolding_all rfl)
noncomputable def rz (xs:List V) (lo hi:Option Int):List V:=(xs.drop (HT.sIx xs.length 0 lo)).take (HT.sIx xs.length xs.length hi - HT.sIx xs.length 0 lo)
theorem nR (xs:List V) (lo hi:Option Int):(rz xs lo hi).length<=xs.length:=by
 unfold rz
 rw [Jl,Ky]
 lia
end
noncomputable def ixN (n:Nat) (i:Int):Option Nat:=if 0<=i then (if i<n then some i.toNat else none) else if -(n:Int)<=i then some (i+n).toNat else none
noncomputable def atI {α:Type} (xs:List α) (i:Int):Option α:=(ixN xs.length i).bind λ j=>xs[j]?
theorem sg {i:Int} (h:ixN n i=some j):seqIndex? i n=some j/\j<n/\-(n:Int)<=i/\i<n:=by
 unfold ixN at h
 by_cases h0:0<=i
 ·rw [if_pos h0] at h
  by_cases h1:i<n
  ·rw [if_pos h1] at h
   have e:i.toNat=j:=IR h
   exact ⟨by rw [seqIndex_of h0 h1,e],by lia,by lia,h1⟩
  ·rw [if_neg h1] at h; cases h
 ·rw [if_neg h0] at h
  by_cases h1:-(n:Int)<=i
  ·rw [if_pos h1] at h
   have e:(i+n).toNat=j:=IR h
   exact ⟨by rw [seqIndex_neg (by lia) h1,e],by lia,h1,by lia⟩
  ·rw [if_neg h1] at h; cases h
theorem nS {α:Type} {xs:List α} {i:Int} {v:α} (h:atI xs i=some v):∃ j,seqIndex? i xs.length=some j/\xs[j]? = some v/\j<xs.length/\-(xs.length:Int)<=i/\i<xs.length:=by
 unfold atI at h
 cases e:ixN xs.length i with
 | none=>rw [e] at h; cases h
 | some j=>
  rw [e] at h
  obtain ⟨h1,h2,h3,h4⟩:=sg e
  exact ⟨j,h1,h,h2,h3,h4⟩
theorem dh {α:Type} {xs:List α} {v:α} (h:xs[j]? = some v):atI xs (j:Int)=some v:=by
 have hj:j<xs.length:=(IK.mp h).1
 have e:ixN xs.length (j:Int)=some j:=by
  unfold ixN
  rw [if_pos (by lia),if_pos (by lia)]; simp
 unfold atI; rw [e]; exact h
noncomputable def si (b:Expr):Prop:=∀ o i,subscripted b false o i=operate [o,i] (getItem o i)
noncomputable def IxR (X:Cx) (r:R2):Prop:=
 ∀ (value slice:Expr) (pins:List (Addr×Obj)) (s:Shared) (σ:St) (H:Hp) (x y:V) (v u:Value) (Q:VK),Inv X pins σ H s->RelV x v->RelV y u->r x y H Q->
  subscripted slice false v u=operate [v,u] (getItem v u)->wpAny (model X.prog X.w) X.A (subscriptTail value slice v u) (EP X pins σ Q) X.xe s
noncomputable def MtR (X:Cx) (id:String) (r:V->List V->Hp->VK->Prop):Prop:=
 ∀ (pins:List (Addr×Obj)) (s:Shared) (σ:St) (H:Hp) (x:V) (xs:List V) (v:Value) (us:List Value) (Q:VK),Inv X pins σ H s->RelV x v->Vals xs us->r x xs H Q->
  wpAny (model X.prog X.w) X.A (call (.builtin id) (v::us)) (EP X pins σ Q) X.xe s
section
variable {X:Cx} {a b:Expr} {ta tb:TE} {pos:Pos}
theorem EJ {r:R2} (hr:IxR X r) (ha:PE X a ta) (hb:PE X b tb) (hs:si b):PE X (.Subscript a b pos) (tOp r ta tb):=by
 intro pins s σ H Q I h
 exact Subscript_ (Ev ha hb I h λ v u s2 x y H2 I2 rx ry q=>hr a b pins s2 σ H2 x y v u Q I2 rx ry q (hs _ _))
noncomputable def DC (K:Ih):R2:=λ x y H Q=>∃ p xs i v,x=.ref p/\y=.int i/\SqL K H p xs/\atI xs i=some v/\Q v H
noncomputable def EK (K:Ih):R2:=λ x y H Q=>∃ p xs i v,x=.ref p/\y=.int i/\SqT K H p xs/\atI xs i=some v/\Q v H
noncomputable def FU:R2:=λ x y H Q=>∃ z i c,x=.str z/\y=.int i/\z.length<=sizeLine/\atI z.cps.toList i=some c/\Q (.str ⟨#[c]⟩) H
theorem zg:IxR X (DC X.K):=by
 intro value slice pins s σ H x y v u Q I rx ry h hs
 obtain ⟨p,xs,i,z,rfl,rfl,hq,he,q⟩:=h
 cases rx
 obtain ⟨t,rfl⟩:=ry
 obtain ⟨its,r,pl,hz⟩:=I.list hq
 obtain ⟨j,h1,h2,h3,h4,h5⟩:=nS he
 obtain ⟨w,ew,rw'⟩:=r.get h2
 have hl:=r.length
 have hn:=iO
 have fin:EP X pins σ Q w s:=⟨z,H,I,rw',q⟩
 by_cases h0:0<=i
 ·have hj:i.toNat=j:=by
   rw [seqIndex_of h0 h5] at h1
   exact IR h1
  exact item_listR pl.isList h0 (by lia) (by rw [hj]; simpa using ew) fin hs
 ·have hj:(i+(its.toArray.size:Int)).toNat=j:=by
   rw [seqIndex_neg (by lia) h4] at h1
   rw [IB,<-hl]
   exact IR h1
  exact subscriptTail_builtinR (x:=w) pl.isList.typeIs slot_list_getitem.lookup
   (wpAny_getItem_list_neg (Q:=λ r s'=>r=w/\EP X pins σ Q r s') pl.isList (by lia) (by rw [IB]<;>lia) (by lia) (by rw [hj]; simpa using ew) ⟨rfl,fin⟩) hs
theorem B4:IxR X (EK X.K):=by
 intro value slice pins s σ H x y v u Q I rx ry h hs
 obtain ⟨p,xs,i,z,rfl,rfl,hq,he,q⟩:=h
 cases rx
 obtain ⟨t,rfl⟩:=ry
 obtain ⟨its,r,pl,hz⟩:=I.tuple hq
 obtain ⟨j,h1,h2,h3,h4,h5⟩:=nS he
 obtain ⟨w,ew,rw'⟩:=r.get h2
 have hl:=r.length
 have hn:=iO
 have fin:EP X pins σ Q w s:=⟨z,H,I,rw',q⟩
 exact subscriptTail_builtinR (x:=w) pl.typeIs slot_tuple_getitem.lookup
  (getItem_tuple (j:=j) (Q:=λ r s'=>r=w/\EP X pins σ Q r s') pl (by lia) (by lia) (by rw [IB,<-hl]; exact h1) (by simpa using ew) ⟨rfl,fin⟩) hs
theorem B5:IxR X FU:=by
 intro value slice pins s σ H x y v u Q I rx ry h hs
 obtain ⟨z,i,c,rfl,rfl,hz,he,q⟩:=h
 obtain ⟨t,rfl⟩:=rx
 obtain ⟨t',rfl⟩:=ry
 obtain ⟨j,h1,h2,h3,h4,h5⟩:=nS he
 have hl:z.cps.toList.length=z.length:=by simp [Str.length]
 rw [hl] at h1 h4 h5
 have hn:=iO
 exact tail_any (typeIs_str s z t) slot_str_getitem.lookup (getItem_str (c:=c) (by
  have e1:decide (i < -(2 ^ 63:Int))=false:=decide_eq_false (by lia)
  have e2:decide (i>=2 ^ 63)=false:=decide_eq_false (by lia)
  rw [e1,e2,Bool.or_false]) (by rw [h1]; simpa using h2) ⟨.str ⟨#[c]⟩,H,I.tok _,⟨_,rfl⟩,q⟩) hs
theorem qy (its:List Value) (n j:Nat) (u:Value):Jc (·.setIfInBounds j u) { cls:=.type "list",data:=.seq its.toArray n }={ cls:=.type "list",data:=.seq (its.set j u).toArray n }:=by
 simp [Jc]
theorem Inv.lst {pins:List (Addr×Obj)} {σ:St} {H:Hp} {s:Shared} {p:Addr} {xs:List V} (I:Inv X pins σ H s) (h:H p=some (.lst xs)) :
  ∃ (its:List Value) (n:Nat),Vals xs its/\s.heap.get? p=some { cls:=.type "list",data:=.seq its.toArray n }/\xs.length<=sizeLine:=by
 obtain ⟨z,its,n,r,e⟩:=I.hok p _ h
 exact ⟨its,n,r,e,z⟩
theorem Inv.lstUpd {H:Hp} {s:Shared} {p:Addr} {its':List Value} {n':Nat} {f:Obj->Obj} (I:Inv X pins σ H s) (h:H p=some (.lst xs))
  (ho:s.heap.get? p=some { cls:=.type "list",data:=.seq its.toArray n }) (hf:f { cls:=.type "list",data:=.seq its.toArray n }={ cls:=.type "list",data:=.seq its'.toArray n' }) (r:Vals ys its') (hz:ys.length<=sizeLine) (t:Nat) :
  Inv X pins σ (upd H p (.lst ys)) { s with heap:=s.heap.update p f,toks:=t }:=by
 have e:(s.heap.update p f).get? p=some { cls:=.type "list",data:=.seq its'.toArray n' }:=by
  rw [Kq f ho (by rw [hf]<;>rfl),hf]
 refine I.write (x:=p) (e:=p) (by rw [h]; trivial) (.inl rfl) (λ b u hb q=>(JQ _ _ (Jj hb)).trans q) ⟨_,e⟩ ?_
 exact ⟨hz,its',n',r,e⟩
noncomputable def zh:V->V->V->Hp->(Hp->Prop)->Prop:=λ o i v H Q=>∃ p xs k j,o=.ref p/\i=.int k/\H p=some (.lst xs)/\ixN xs.length k=some j/\Q (upd H p (.lst (xs.set j v)))
theorem vP:FR X zh:=by
 intro pins s σ H o i v ov iv u Q I ro ri rv h
 obtain ⟨p,xs,k,j,rfl,rfl,hp,hj,q⟩:=h
 cases ro
 obtain ⟨t,rfl⟩:=ri
 obtain ⟨its,n,r,ho,hz⟩:=I.lst hp
 obtain ⟨h1,h2,h3,h4⟩:=sg hj
 have hl:=r.length
 have hn:=iO
 have I':Inv X pins σ (upd H p (.lst (xs.set j v))) { s with heap:=s.heap.update p (Jc (·.setIfInBounds j u)) }:=
  I.lstUpd hp ho (qy its n j u) (r.set rv j) (by rw [List.length_set]; exact hz) s.toks
 by_cases h0:0<=k
 ·have hk:k.toNat=j:=by
   rw [seqIndex_of h0 h4] at h1
   exact IR h1
  exact PySem.W.ki_setAt ho h0 (by lia) (by rw [IB,<-hl]; exact h4) (by rw [hk]; exact ⟨_,I',q⟩)
 ·have hk:(k+(its.toArray.size:Int)).toNat=j:=by
   rw [seqIndex_neg (by lia) h3] at h1
   rw [IB,<-hl]
   exact IR h1
  exact PySem.W.ki_setBack ho (by lia) (by rw [IB,<-hl]; exact h3) (by lia) (by rw [hk]; exact ⟨_,I',q⟩)
theorem l8 (lo hi:Option Int) (n:Nat):(sliceBounds lo hi none n).1=((HT.sIx n 0 lo:Nat):Int)/\(sliceBounds lo hi none n).2.1=((HT.sIx n n hi:Nat):Int)/\(sliceBounds lo hi none n).2.2=1:=by
 refine ⟨?_,?_,rfl⟩
 ·cases lo with
  | none=>simp [sliceBounds,HT.sIx]
  | some i=>
   simp only [sliceBounds,HT.sIx,NZ,show (1:Int) > 0 by decide,if_true]
   by_cases h:i<0
   ·simp only [h,if_true]<;>lia
   ·simp only [h,if_false]<;>lia
 ·cases hi with
  | none=>simp [sliceBounds,HT.sIx]
  | some i=>
   simp only [sliceBounds,HT.sIx,NZ,show (1:Int) > 0 by decide,if_true]
   by_cases h:i<0
   ·simp only [h,if_true]<;>lia
   ·simp only [h,if_false]<;>lia
theorem lj (its:List Value) (lo hi:Option Int):slicePick its.toArray lo hi none=((its.drop (HT.sIx its.length 0 lo)).take (HT.sIx its.length its.length hi - HT.sIx its.length 0 lo)).toArray:=by
 obtain ⟨h1,h2,h3⟩:=l8 lo hi its.toArray.size
 unfold slicePick
 rw [h1,h2,h3]
 simp only [sliceRange_one,pick_run,IB]<;>rfl
noncomputable def EL (K:Ih):V->Option Int->Option Int->Hp->VK->Prop:=λ x lo hi H Q=>∃ a xs,x=.ref a/\SqL K H a xs/\∀ p,H p=none->Q (.ref p) (upd H p (.lst (rz xs lo hi)))
theorem zi:SlR X (EL X.K):=by
 intro pins s σ H x v vl vu lo hi sl Q I rx hs pl pu h
 obtain ⟨a,xs,rfl,hx,q⟩:=h
 cases rx
 obtain ⟨its,r,ht,hz⟩:=I.list hx
 have hlen:=r.length
 refine ⟨"list",_,slot_list_getitem.lookup,ht.isList.typeIs,?_⟩
 refine wpAny_getItem_list_slice ht.isList hs pl pu .none (by simp) ?_ (by rw [IB]<;>lia)
 rw [lj,<-hlen]
 refine ⟨.ref s.heap.objs.size,_,I.laid (t':=s.toks) (o:=.lst (rz xs lo hi)) (λ b ob q=>Ij _ q) (Im _) ?_,rfl,q _ (I.hok.fresh (Im _))⟩
 exact ⟨Js (nR xs lo hi) hz,_,0,(r.drop (HT.sIx xs.length 0 lo)).take (HT.sIx xs.length xs.length hi - HT.sIx xs.length 0 lo),Iz _ rfl⟩
theorem l9:bZ X (.builtin "len") (λ xs H Q=>∃ p ys,xs=[.ref p]/\(SqL X.K H p ys\/SqT X.K H p ys)/\Q (.int ys.length) H):=by
 intro pins s σ H xs us Q I r h
 obtain ⟨p,ys,rfl,hq,q⟩:=h
 obtain ⟨u,rfl,rx⟩:=eZ r
 cases rx
 have hn:=iO
 rcases hq with hq | hq
 ·obtain ⟨its,r',pl,hz⟩:=I.list hq
  have hlen:=r'.length
  exact Calls.call_len_list pl.isList (by simp only [IB]<;>lia) ⟨.int ys.length,H,I.tok _,⟨s.toks+1,by rw [IB,hlen]⟩,q⟩
 ·obtain ⟨its,r',pl,hz⟩:=I.tuple hq
  have hlen:=r'.length
  exact len_tuple pl (by simp only [IB]<;>lia) ⟨.int ys.length,H,I.tok _,⟨s.toks+1,by rw [IB,hlen]⟩,q⟩
theorem me:bZ X (.builtin "len") (λ xs H Q=>∃ z,xs=[.str z]/\z.length<=sizeLine/\Q (.int z.length) H):=by
 intro pins s σ H xs us Q I r h
 obtain ⟨z,rfl,hz,q⟩:=h
 obtain ⟨u,rfl,t,rfl⟩:=eZ r
 have hn:=iO
 exact len_str (by lia) ⟨.int z.length,H,I.tok _,⟨_,rfl⟩,q⟩
theorem ll:bZ X (.type "tuple") (λ xs H Q=>∃ p ys,xs=[.ref p]/\((SqL X.K H p ys/\∀ l,H l=none->Q (.ref l) (upd H l (.tup ys)))\/(SqT X.K H p ys/\Q (.ref p) H))):=by
 intro pins s σ H xs us Q I r h
 obtain ⟨p,ys,rfl,h⟩:=h
 obtain ⟨u,rfl,rx⟩:=eZ r
 cases rx
 rcases h with ⟨hq,q⟩ | ⟨hq,q⟩
 ·obtain ⟨its,r',pl,hz⟩:=I.list hq
  have hlen:=r'.length
  refine call_tuple_list pl.isList (λ h' kp=>?_) (by simp only [IB]<;>lia)
  have I1:Inv X pins σ H { s with heap:=h' }:=I.kept (t':=s.toks) kp
  have I2:Inv X pins σ (upd H h'.objs.size (.tup ys)) { s with heap:=h'.push { cls:=.type "tuple",data:=.seq its.toArray } }:=
   I1.laid (t':=s.toks) (λ b o e=>Ij _ e) (Im _) (show ObjOk X.prog X.w _ _ _ (.tup ys) from ⟨hz,its,r',IsTup.new _ _⟩)
  exact ⟨.ref h'.objs.size,_,I2,rfl,q _ (I1.hok.fresh (Im _))⟩
 ·obtain ⟨its,r',pl,hz⟩:=I.tuple hq
  exact call_tuple_same pl ⟨.ref p,H,I,rfl,q⟩
noncomputable def tyV (K:Ih) (T:String) (x:V) (H:Hp):Prop:=match x with
 | .str _=>T = "str"
 | .int _=>T = "int"
 | .ref p=>(T = "list"/\∃ xs,SqL K H p xs)\/(T = "tuple"/\∃ o,K.lookup p=some o/\o.cls=.type "tuple"/\o.dict=none)\/
   (T = "dict"/\((∃ kvs,H p=some (.dK kvs))\/∃ kvs,H p=some (.dT kvs)))\/(T = "set"/\∃ S n,H p=some (.set S n))
 | _=>False
theorem xF {H:Hp} {s:Shared} {T:String} {x:V} {v:Value} (I:Inv X pins σ H s) (r:RelV x v) (ty:tyV X.K T x H) :
  s.TypeIs v T/\∀ a,v=.ref a->∃ ob,s.heap.get? a=some ob/\ob.dict=none:=by
 cases x with
 | str z=>
  obtain ⟨t,rfl⟩:=r
  cases (show T = "str" from ty)
  exact ⟨typeIs_str s z t,λ _ e=>nomatch e⟩
 | int i=>
  obtain ⟨t,rfl⟩:=r
  cases (show T = "int" from ty)
  exact ⟨typeIs_int s i t,λ _ e=>nomatch e⟩
 | ref p=>
  cases r
  rcases ty with ⟨rfl,xs,hq⟩ | ⟨rfl,o,hk,hc,hd⟩ | ⟨rfl,hk⟩ | ⟨rfl,S,n,hk⟩
  ·obtain ⟨its,_,pl,_⟩:=I.list hq
   refine ⟨pl.isList.typeIs,λ a e=>?_⟩
   cases e
   obtain ⟨o,n,e,c,hd,_⟩:=pl
   exact ⟨o,e,hd⟩
  ·refine ⟨⟨o,I.kIn p o hk,hc⟩,λ a e=>?_⟩
   cases e
   exact ⟨o,I.kIn _ o hk,hd⟩
  ·have z:∃ o,s.heap.get? p=some o/\o.ExactDict:=by
    rcases hk with ⟨kvs,hk⟩ | ⟨kvs,hk⟩
    ·obtain ⟨_,_,_,_,o,_,_,e,ex,_⟩:=I.hok p _ hk
     exact ⟨o,e,ex⟩
    ·obtain ⟨_,_,_,_,o,_,_,e,ex,_⟩:=I.hok p _ hk
     exact ⟨o,e,ex⟩
   obtain ⟨o,e,ex⟩:=z
   refine ⟨⟨o,e,ex.1⟩,λ a e2=>?_⟩
   cases e2
   exact ⟨o,e,ex.2.1⟩
  ·obtain ⟨o,_,_,_,e,ex,_⟩:=I.hok p _ hk
   refine ⟨⟨o,e,ex.1⟩,λ a e2=>?_⟩
   cases e2
   exact ⟨o,e,ex.2.1⟩
 | _=>exact IV ty
noncomputable def EM (K:Ih) (T:String) (r:V->List V->Hp->VK->Prop) (to:TE):TE:=λ σ H Q=>to σ H λ x H1=>tyV K T x H1/\r x [] H1 Q
noncomputable def tBM (K:Ih) (T:String) (r:V->List V->Hp->VK->Prop) (to:TE) (t:TA):TE:=λ σ H Q=>to σ H λ x H1=>tyV K T x H1/\t σ H1 λ xs H2=>r x xs H2 Q
variable {o e:Expr} {es:List Expr} {to:TE} {t:TA} {name:Str} {apos cpos:Pos} {T id:String} {r:V->List V->Hp->VK->Prop}
theorem B6 (pa:PlainAttrs T) (slot:Slot T name id) (hty:typeOf (.builtin id)=pure (.type "method_descriptor")) (hm:MtR X id r) (ho:PE X o to)
  (hbase:attributeBase o name X.env (eval o X.env)=eval o X.env:=by rfl) (hline:(apos.endLine == cpos.line)=true:=by rfl):PE X (.Call (.Attribute o name apos) [] [] cpos) (EM X.K T r to):=by
 intro pins s σ H Q I h
 refine wpAny_Call_method0_late hbase hline (thn (ho pins s σ H _ I h) λ v s1 ⟨x,H1,I1,r1,ty,q1⟩=>?_)
 obtain ⟨h1,h2⟩:=xF I1 r1 ty
 exact ⟨T,id,pa,slot,hty,h1,h2,MG rfl (PySem.evalArgs_none (hm pins s1 σ H1 x [] v [] Q I1 r1 .nil q1))⟩
theorem EN (pa:PlainAttrs T) (slot:Slot T name id) (hty:typeOf (.builtin id)=pure (.type "method_descriptor")) (hm:MtR X id r) (ho:PE X o to) (ha:PA X (e::es) t)
  (hbase:attributeBase o name X.env (eval o X.env)=eval o X.env:=by rfl)
  (hfew:((backTo cpos (starEach (e::es) X.env)).all (λ x=>!x.1) && (backToKw cpos (keywordEach [] X.env)).all (λ x=>x.1.isSome)
   && decide ((e::es).length+([]:List Keyword).length+(if ([]:List Keyword).isEmpty then 0 else 1)<30))=true:=by rfl)
  (hline:(apos.endLine == cpos.line)=true:=by rfl) (hs:starEach (e::es) X.env=(false,eval e X.env)::starEach es X.env:=by rfl) (hplain:(backTo cpos (starEach es X.env)).any (·.1)=false:=by rfl) :
  PE X (.Call (.Attribute o name apos) (e::es) [] cpos) (tBM X.K T r to t):=by
 intro pins s σ H Q I h
 refine wpAny_Call_method_late hbase hfew hline rfl (thn (ho pins s σ H _ I h) λ v s1 ⟨x,H1,I1,r1,ty,q1⟩=>?_)
 obtain ⟨h1,h2⟩:=xF I1 r1 ty
 refine ⟨T,id,pa,slot,hty,h1,h2,?_⟩
 have hA:=ha cpos pins s1 σ H1 _ I1 q1
 rw [hs] at hA ⊢
 refine MG (by show (false || (backTo cpos (starEach es X.env)).any (·.1))=false; rw [hplain]<;>rfl) (Calls.evalArgs_plain ?_)
 exact thn hA λ us s2 ⟨vs,H2,I2,r2,q2⟩=>hm pins s2 σ H2 x vs v us Q I2 r1 r2 q2
end
noncomputable def MtM (X:Cx) (id:String) (r:V->List V->Hp->VK->Prop):Prop:=
 ∀ (pins:List (Addr×Obj)) (s:Shared) (σ:St) (H:Hp) (x:V) (xs:List V) (v:Value) (us:List Value) (Q:VK),Inv X pins σ H s->RelV x v->Vals xs us->r x xs H Q->
  wpAny (model X.prog X.w) X.A (call (.builtin id) (v::us)) (EP X pins σ Q) X.xe s
theorem Vals.one:∀ {x:V} {us:List Value},Vals [x] us->∃ u,us=[u]/\RelV x u
 | _,_,.cons r .nil=>⟨_,rfl,r⟩
theorem Vals.zero:∀ {us:List Value},Vals [] us->us=[]
 | _,.nil=>rfl
theorem Vals.dropLast {xs:List V} {us:List Value} (h:Vals xs us):Vals xs.dropLast us.dropLast:=by
 induction h with
 | nil=>exact .nil
 | cons r t ih=>
  cases t with
  | nil=>exact .nil
  | cons q t'=>exact .cons r ih
theorem Vals.rep {xs:List V} {us:List Value} (h:Vals xs us):∀ k:Nat,Vals (Jh k xs).flatten (Jh k us).flatten
 | 0=>.nil
 | k+1=>by
  rw [KC,KC,JF,JF]
  exact Vals.append h (Vals.rep h k)
theorem qz {α:Type} (l:List α):l.eraseIdx (l.length - 1)=l.dropLast:=by
 induction l with
 | nil=>rfl
 | cons a r ih=>
  cases r with
  | nil=>rfl
  | cons b r=>
   have e:(a::b::r).length - 1=((b::r).length - 1)+1:=by
    have h1:(a::b::r).length=r.length+2:=rfl
    have h2:(b::r).length=r.length+1:=rfl
    lia
   rw [e,List.eraseIdx_cons_succ,ih]
   all_goals rfl
theorem mf (its:List Value):∀ (k:Nat) (acc:List Value),
  Oc (λ x1 x2=>x1++x2) acc.toArray (Jh k its.toArray)=(acc++(Jh k its).flatten).toArray
 | 0,acc=>by simp
 | k+1,acc=>by
  have e:acc.toArray++its.toArray=(acc++its).toArray:=by simp
  have e2:(acc++its)++(Jh k its).flatten=acc++(Jh (k+1) its).flatten:=by
   rw [KC,JF,Je]
  rw [<-e2,<-mf its k (acc++its),<-e,KC,Od]
section
variable {X:Cx} {pins:List (Addr×Obj)} {σ:St} {H:Hp} {s:Shared} {l b:Addr} {xs ys zs:List V}
theorem Inv.lset {its':List Value} {f:Array Value->Array Value} (I:Inv X pins σ H s) (hH:H l=some (.lst xs))
  (e:s.heap.get? l=some { cls:=.type "list",data:=.seq its.toArray n }) (hf:f its.toArray=its'.toArray) (hv:Vals ys its') (hz:ys.length<=sizeLine) :
  Inv X pins σ (upd H l (.lst ys)) { s with heap:=s.heap.update l (Jc f),toks:=t' }:=by
 have q:=PL e f
 rw [hf] at q
 refine I.write (x:=l) (e:=l) (by rw [hH]; exact trivial) (.inl rfl) (λ b' u hb hu=>(JQ s.heap (Jc f) (Jj hb)).trans hu) ⟨_,q⟩ ?_
 exact ⟨hz,its',_,hv,q⟩
theorem Inv.lnew (I:Inv X pins σ H s) (hv:Vals ys its) (hz:ys.length<=sizeLine) :
  Inv X pins σ (upd H s.heap.objs.size (.lst ys)) { s with heap:=s.heap.push { cls:=.type "list",data:=.seq its.toArray },toks:=t' }:=
 I.laid (λ _ _ q=>Ij _ q) (Im _) ⟨hz,its,0,hv,Iz _ rfl⟩
theorem Inv.fresh (I:Inv X pins σ H s):H s.heap.objs.size=none:=I.hok.fresh (Im _)
theorem Inv.lstM (I:Inv X pins σ H s) (hH:H l=some (.lst xs)):xs.length<=sizeLine/\∃ (its:List Value) (n:Nat),Vals xs its/\xs.length=its.length/\s.heap.get? l=some { cls:=.type "list",data:=.seq its.toArray n }:=by
 obtain ⟨z,its,n,r,e⟩:=I.hok l _ hH
 exact ⟨z,its,n,r,r.length,e⟩
theorem vQ (h:n<=sizeLine):K4 n=false:=by
 unfold K4
 exact decide_eq_false (by lia)
end
section
variable {X:Cx}
noncomputable def nT:V->List V->Hp->VK->Prop:=λ x vs H Q=>∃ l xs y,x=.ref l/\vs=[y]/\H l=some (.lst xs)/\xs.length<sizeLine/\Q .non (upd H l (.lst (xs++[y])))
theorem sj:MtM X "list.append" nT:=by
 intro pins s σ H x vs v us Q I rx rv h
 obtain ⟨l,xs,y,rfl,rfl,hH,hz,q⟩:=h
 cases rx
 obtain ⟨u,rfl,ru⟩:=rv.one
 obtain ⟨z,its,n,r,hl,e⟩:=I.lstM hH
 refine call_meets F.slot_list_append ⟨_,e,rfl⟩ F.entry_list_append (F.args_list_append_2 _ _) (PySem.list_append l its.toArray n u (by rw [IB]; lia)) ⟨e,?_⟩
 refine ⟨.non,_,I.lset (its':=its++[u]) hH e (by simp) (r.append (.cons ru .nil)) ?_,rfl,q⟩
 rw [IM,List.length_singleton]
 lia
noncomputable def EO:V->List V->Hp->VK->Prop:=λ x vs H Q=>∃ l xs y,x=.ref l/\vs=[]/\H l=some (.lst xs)/\xs[xs.length - 1]? = some y/\Q y (upd H l (.lst xs.dropLast))
theorem B7:MtM X "list.pop" EO:=by
 intro pins s σ H x vs v us Q I rx rv h
 obtain ⟨l,xs,y,rfl,rfl,hH,hy,q⟩:=h
 cases rx
 have hus:=rv.zero
 subst hus
 obtain ⟨z,its,n,r,hl,e⟩:=I.lstM hH
 obtain ⟨u,hu,ru⟩:=r.get hy
 have hy':its.toArray[its.toArray.size - 1]? = some u:=by
  show its.toArray[its.length - 1]? = some u
  rw [<-Lq,<-hl]
  exact hu
 refine call_meets F.slot_list_pop ⟨_,e,rfl⟩ F.entry_list_pop (F.args_list_pop_1 _) (Pd l its.toArray n u hy' (by rw [IB]; lia)) ⟨e,?_⟩
 refine ⟨y,_,I.lset (its':=its.dropLast) hH e ?_ r.dropLast ?_,ru,q⟩
 ·show its.toArray.eraseIdxIfInBounds (its.toArray.size - 1)=its.dropLast.toArray
  rw [IB,List.eraseIdxIfInBounds_toArray,qz]
 ·rw [List.length_dropLast]
  lia
noncomputable def xG:R2:=λ x y H Q=>∃ l b xs zs,x=.ref l/\y=.ref b/\H l=some (.lst xs)/\H b=some (.lst zs)/\xs.length+zs.length<=sizeLine/\∀ p,H p=none->Q (.ref p) (upd H p (.lst (xs++zs)))
theorem B8:OpR X (binaryOp .Add) xG:=by
 intro pins s σ H x y v u Q I rx ry h
 obtain ⟨l,b,xs,zs,rfl,rfl,hH,hB,hz,q⟩:=h
 cases rx
 cases ry
 obtain ⟨z,its,n,r,hl,e⟩:=I.lstM hH
 obtain ⟨z2,its2,n2,r2,hl2,e2⟩:=I.lstM hB
 refine PySem.P.add_list e e2 ?_ (by rw [IB,IB]; lia)
 have ea:its.toArray++its2.toArray=(its++its2).toArray:=by simp
 rw [ea]
 exact ⟨.ref _,_,I.lnew (t':=s.toks) (r.append r2) (by rw [IM]; lia),rfl,q _ I.fresh⟩
noncomputable def FV:R2:=λ x y H Q=>∃ l k xs,x=.ref l/\y=.int k/\H l=some (.lst xs)/\-(2 ^ 63)<=k/\k<2 ^ 63/\xs.length*k.toNat<=sizeLine/\
 ∀ p,H p=none->Q (.ref p) (upd H p (.lst (Jh k.toNat xs).flatten))
theorem zj {α:Type} (xs:List α) (k:Nat):(Jh k xs).flatten.length=k*xs.length:=by
 induction k with
 | zero=>simp
 | succ k ih=>rw [KC,JF,IM,ih,Nat.succ_mul,Nk]
theorem B9:OpR X (binaryOp .Mult) FV:=by
 intro pins s σ H x y v u Q I rx ry h
 obtain ⟨l,k,xs,rfl,rfl,hH,h1,h2,hz,q⟩:=h
 cases rx
 obtain ⟨t,rfl⟩:=ry
 obtain ⟨z,its,n,r,hl,e⟩:=I.lstM hH
 have hlen:its.toArray.size*k.toNat<=sizeLine:=by rw [IB,<-hl]; exact hz
 have hcap:¬ its.toArray.size*k.toNat > (2 ^ 63 - 1) / 8:=by
  have:(sizeLine:Nat)<=(2 ^ 63 - 1) / 8:=by decide
  lia
 have hfit:¬ (!Builtin.List.listFitsIndex k)=true:=by
  rw [fitsIndex_both h1 h2]
  exact Iv
 have hlong:¬ K4 (its.toArray.size*k.toNat)=true:=by
  rw [vQ hlen]
  exact Iv
 have hnew:Oc (λ x1 x2=>x1++x2) #[] (Jh (if its.toArray.isEmpty=true then 0 else k.toNat) its.toArray)=(Jh k.toNat its).flatten.toArray:=by
  have f0:∀ m:Nat,Oc (λ x1 x2=>x1++x2) #[] (Jh m its.toArray)=(Jh m its).flatten.toArray:=λ m=>by
   have:=mf its m []
   rw [KH] at this
   exact this
  rw [f0]
  cases its with
  | nil=>simp
  | cons a r'=>rw [if_neg (by simp)]
 refine wpAny_binaryOp_repeat_ref (T:="list") (U:="int") (by decide) ⟨_,e,rfl⟩ (λ s'=>typeIs_int s' k t) noFill_list_mul F.fills_int_mul Oe repeat_list F.slot_int_index.lookup
  (call_meets Oe (typeIs_int s k t) F.entry_int_rmul (F.args_int_rmul_2 _ _) (int___rmul___int_list k t l its.toArray n)
   ⟨e,rfl,⟨_,e,rfl⟩,call_meets F.slot_list_mul ⟨_,e,rfl⟩ F.entry_list_mul (F.args_list_mul_2 _ _) (NW l its.toArray n k t hfit hcap hlong) ⟨e,?_⟩⟩)
 rw [hnew]
 exact ⟨.ref _,_,I.lnew (t':=s.toks) (r.rep k.toNat) (by rw [zj,Nat.mul_comm]; exact hz),rfl,q _ I.fresh⟩
end
section
variable {prog:Program} {w:World} {A:Around} {E:Value->Shared->Prop} {s:Shared}
end
section
variable {X:Cx}
end
end L2
namespace Att
open PySem PySem.W PySem.Calls PyProof.Rows
theorem iS {P:Params} :∀ (ns:List Int) (vs:List Value),WellAll P h vs (ns.map WData.int)->IntsAre vs ns:=by
 intro ns
 induction ns with
 | nil=>
  intro vs w
  rw [Mn] at w
  cases w
  exact .nil
 | cons n ns ih=>
  intro vs w
  rw [Jy] at w
  cases w with
  | cons a b=>
   cases a
   exact .cons _ _ (ih _ b)
theorem sk {l:OpenLaw} (hn:l.most=some n) {P:Params} {args:List WData} {vals:List Value}
  (hpre:l.row.toRowW.claim.pre args=true) (hwl:WellAll P h vals args) :
  ∃ a vs ns,vals=[IT a]/\args=[WData.list (ns.map WData.int)]/\h.get? a=some { cls:=.type "list",data:=.seq vs.toArray }/\IntsAre vs ns/\ns.length<=n:=by
 have hsh:WShape.hasAll [] args [.list .int]=true:=(pre_splitW hpre).1
 have hc:l.pre.holds [] { args:=args }=true:=(pre_splitW hpre).2
 obtain ⟨d,r,rfl,h1,h2⟩:=hasAllW_cons hsh
 obtain rfl:=hasAllW_nil h2
 obtain ⟨xs,rfl,h3⟩:=hasW_list h1
 obtain ⟨ns,rfl⟩:=items_int h3
 have hlen:ns.length<=n:=by
  unfold OpenLaw.pre at hc
  have h4:(WTm.not (.lt (.lit (.int (n:Int))) (.len (.arg 0)))).holds [] { args:=[.list (ns.map .int)] }=true:=by
   have h4:=(holds_andW hc).1
   rw [hn] at h4
   exact h4
  have h5:=condW_of h4 (w_not (w_lt w_lit (w_len_list (w_arg rfl))))
  rw [Ir] at h5
  refine N0 λ q=>?_
  have q':(n:Int)<((ns.length:Nat):Int):=by lia
  first
   | (rw [decide_eq_true q'] at h5; exact absurd h5 (by decide))
   | (simp at h5; lia)
 cases hwl with
 | cons w1 w2=>
  cases w2
  cases w1 with
  | list ho hall=>exact ⟨_,_,ns,rfl,rfl,ho,iS ns _ hall,hlen⟩
theorem sq (l:OpenLaw) (args:List WData):l.row.toRowW.claim.post args (.bool true) args=true:=
 postW_of (r:=l.row.toRowW) (X:=(true == true))
  (show WShape.has [] (.bool true) .bool=true by first | rfl | decide | simp [WShape.has,WShape.arms,WShape.armsAll])
  (show (WTm.eq .res (.lit (.bool true))).value [] { args:=args,res:=some (.bool true),after:=args }=some (.bool (true == true)) from w_eq_bool (w_res rfl) w_lit) rfl
theorem nU {l:OpenLaw} {loose:List Str} {XP:(Str->Option Value)->Heap->Prop} {YP:World->Heap->Prop} {d:DefRec}
  (hn:l.most=some n) (hdf:d.params.defaults=[])
  (call:∀ (w:World) (s₀ s₁:Shared) (mg mb:Str->Option Value) (fa:Addr) (o:Obj) (pm cd doc:Value) (a:Addr) (vs:List Value) (ns:List Int),
   Ground q loose [] XP w s₀ mg mb s₁.heap->YP w s₁.heap->
   s₁.heap.get? fa=some o->o.data=.func (docDef d.name d.params d.body d.scope pm cd doc)->s₁.heap.CodeRec cd d.name->mg d.name=some (.ref fa)->
   s₁.heap.get? a=some { cls:=.type "list",data:=.seq vs.toArray }->IntsAre vs ns->ns.length<=n->s₁.gens=#[]->
   codeAny (model l.prog w) callerA (.call (.ref fa) ⟨[.ref a],[]⟩) (λ r s'=>r=.ok (.ret (.bool true))/\OldK s₁.heap s'.heap/\s'.os=s₁.os/\AllBare s'.gens) s₁) :
  WalkO q loose XP YP l.row.toRowW d [] (λ f vs=>Of f vs):=by
 intro w s₀ s₁ mg mb G Y fa o pm cd doc dV kV ho hd hcd hD hmg hg args vals as hpre hlay hrd hwl hlo
 obtain rfl:dV=.none:=Dflts.none hD hdf
 obtain rfl:kV=.none:=Dflts.noKw hD
 obtain ⟨a,vs,ns,rfl,rfl,hobj,hints,hlen⟩:=sk hn hpre hwl
 refine enter_call (codeAny_mono (call w s₀ s₁ mg mb fa o pm cd doc a vs ns G Y ho (fd_plain hd) hcd hmg hobj hints hlen hg) λ r s' hq=>?_)
 obtain ⟨rfl,h2,h3,h4⟩:=hq
 exact ⟨.inl ⟨.bool true,.bool true,[],rfl,λ _=>rfl,.bool true,sq l _,λ _=>⟨PJ,λ _ hm=>(nomatch hm)⟩⟩,h2,h3,h4⟩
section
variable {prog:Program} {w:World} {A:Around} {E:Value->Shared->Prop} {s:Shared} {K:Frag}
end
end Att
namespace L2
open PySem PySem.Spec PyProof.Rows
theorem mh:∀ {vs:List Value} {ns:List Int},IntsAre vs ns->Vals (ns.map PY) vs
 | _,_,.nil=>.nil
 | _,_,.cons n t h=>.cons ⟨t,rfl⟩ (mh h)
noncomputable def sr (s:Stmt) (j:Nat):Stmt:=match s with
 | .ClassDef _ _ _ body _ _ _ _ _ _ _=>body.getD j (.Pass ⟨0,0,0,0⟩)
 | _=>.Pass ⟨0,0,0,0⟩
noncomputable def iT (s:Stmt):Arguments:=match s with
 | .FunctionDef _ a _ _ _ _ _ _ _ _=>a
 | _=>{ posonlyargs:=[],args:=[],vararg:=none,kwonlyargs:=[],kw_defaults:=[],kwarg:=none,defaults:=[] }
noncomputable def bE (s:Stmt):List Stmt:=match s with
 | .FunctionDef _ _ b _ _ _ _ _ _ _=>b
 | _=>[]
noncomputable def ae (s:Stmt):Scope:=match s with
 | .FunctionDef _ _ _ _ _ _ sc _ _ _=>sc
 | _=>{ kind:=.function,names:=[],isGenerator:=false,isCoroutine:=false }
noncomputable abbrev CX0:CXT:=λ _ _ _ _ _ _=>False
noncomputable abbrev E0:XK:=λ _ _ _=>False
theorem aR:dg CX0 X E0:=λ _ _ _ _ _ _ _ h=>h.elim
structure Fun (K:Ih) (x qual:Str) (st:Stmt) (f:Addr) (fd:FuncData):Prop where
 ex:∃ (oc:Value) (od:Option Addr) (kV doc pm:Value) (an:Option Addr) (cdv ct:Value) (osl:Array (Option Value)),
  fd=KP x qual (iT st) (bE st) (ae st) .none kV doc pm an cdv ct/\K.lookup f=some ⟨oc,od,.func fd,osl⟩/\LP K cdv qual=true
 kp:Jk K (.ref f)=true
section
variable {P:Program} {w:World} {K:Ih} {mg:Str->Option Value} {base:Heap}
theorem Fun.ok {x:Str} {st:Stmt} {fd:FuncData} {N ps:List Str} {sp:Sp} (F:Fun K x qual st f fd) (S:FnScope N ps (ae st)) (len:∀ vs H Q E,sp vs H Q E->vs.length=ps.length)
  (hbody:∀ (cdv:Value) (A:Around) (outer:List Env) (s:Shared) (H:Hp) (vs:List V) (Q:VK) (E:XK),Room k (A.deeper (envOfC qual (ae st) s.heap.objs.size f cdv))->sp vs H Q E->
   ∃ t,PSs (lS CX0 P w K mg base N qual (ae st) f cdv A outer s H E).nox (bE st) t/\t { nx:=λ _ H'=>Q .non H',rt:=Q } (aI N vs) H):FnOk P w K mg base CX0 (k+1) f fd ps sp:=by
 obtain ⟨oc,od,kV,doc,pm,an,cdv,ct,osl,rfl,lk,hcd⟩:=F.ex
 refine zc lk hcd S len λ A outer s H vs Q E hr hsp=>?_
 obtain ⟨t,h,q⟩:=hbody cdv A outer s H vs Q E hr hsp
 exact ⟨t,h.nox,q⟩
theorem Fun.binds {x:Str} {st:Stmt} {fd:FuncData} {ps:List Str} (F:Fun K x qual st f fd)
  (h:∀ (kV doc pm:Value) (an:Option Addr) (cdv ct:Value) (us:List Value),us.length=ps.length->bindArgs (KP x qual (iT st) (bE st) (ae st) .none kV doc pm an cdv ct) ⟨us,[]⟩=pure (ps.zip us)):Binds K fd ps []:=by
 obtain ⟨oc,od,kV,doc,pm,an,cdv,ct,osl,rfl,lk,hcd⟩:=F.ex
 exact .all (h kV doc pm an cdv ct)
theorem xH {x:Str} {st:Stmt} {oc:Value} {od an:Option Addr} {osl:Array (Option Value)} {kV doc pm cdv ct:Value} (l:K.lookup f=some ⟨oc,od,.func (KP x qual (iT st) (bE st) (ae st) .none kV doc pm an cdv ct),osl⟩)
  (c:LP K cdv qual=true) (k:Jk K (.ref f)=true):Fun K x qual st f (KP x qual (iT st) (bE st) (ae st) .none kV doc pm an cdv ct):=⟨⟨oc,od,kV,doc,pm,an,cdv,ct,osl,rfl,l,c⟩,k⟩
end
theorem cu (h:n<=1000):n<sizeLine:=JB h (by decide)
section
variable {X:Cx}
end
noncomputable def Same (H H':Hp):Prop:=∀ b o,H b=some o->H' b=some o
theorem Same.refl (H:Hp):Same H H:=λ _ _ h=>h
theorem Same.trans {H H2:Hp} (a:Same H H1) (b:Same H1 H2):Same H H2:=λ c o h=>b c o (a c o h)
theorem Same.free {H:Hp} (e:Same H H') (h:H' l=Pe):H l=Pe:=by
 cases q:H l with
 | none=>rfl
 | some o=>
  rw [e l o q] at h
  cases h
theorem Same.seq {K:Ih} {H:Hp} (e:Same H H') (h:SqL K H a xs):SqL K H' a xs:=by
 rcases h with (h | ⟨o,h⟩) | h
 ·exact .inl (.inl (e _ _ h))
 ·exact .inl (.inr ⟨o,e _ _ h⟩)
 ·exact .inr h
section
variable {X:Cx} {pins:List (Addr×Obj)} {σ:St} {H:Hp} {s:Shared}
theorem Inv.adopt {D:Addr} (I:Inv X pins σ H s) (hn:H D=none) (hL:D≠X.env.locals)
  (h1:D∈X.ex\/X.s₀.heap.objs.size<=D) (h2:∀ x c,X.env.cells.lookup x=some c->c≠D) (h3:∀ p∈X.pn++pins,p.1≠D)
  (new:ObjOk X.prog X.w (upd H D o) s.heap D o):Inv X pins σ (upd H D o) s:=by
 have nit:∀ b u,H b=some u->b≠D:=λ b u e z=>by rw [z,hn] at e; cases e
 have keep:∀ b u,H b=some u->upd H D o b=some u:=λ b u e=>by rw [ag (nit b u e)]; exact e
 refine I.step (h':=s.heap) (g':=s.gens) (d':=s.drawn) (t':=s.toks) (ch:=[D]) (λ b hb=>?_) (λ b o _ _ _ e _=>e) (λ b o _ _ _ e _=>⟨o.slots,e⟩) (λ b u hc e n=>?_)
  (λ b o _ e=>⟨o,e⟩) (λ b xs e=>keep b _ e) (λ b o u e=>keep b _ e) (λ b ps e=>⟨#[],by rw [keep b _ e]; simp⟩) (λ m hm=>hm) (λ b u e=>?_) I.bare
 ·have e:b=D:=by simpa using hb
  subst e
  exact ⟨h1,hL,h2,h3⟩
 ·rw [ag (λ z=>hc (by simp [z]))]; exact n
 ·by_cases hb:b=D
  ·subst hb; rw [aa] at e; cases e; exact new
  ·rw [ag hb] at e
   exact (I.hok b u e).stay (λ c v _ q=>q) (λ c q=>keep c _ q) λ c xs q=>keep c _ q
end
noncomputable def aj (X:Cx) (N:List Str) (scope:Scope) (cl:List (Str×Addr)) (fp:List Addr) (C:Addr) (s:Shared) (H:Hp):Cx:=
 { X with N:=N,s₀:=s,H₀:=H,env:=compEnvC scope cl C X.env,outer:=X.stack,ex:=fp,fn:=λ _=>false,pn:=[],xe:=λ _ _=>False }
noncomputable def FrOk (X:Cx) (scope:Scope) (cl:List (Str×Addr)):List Str->Prop
 | []=>True
 | x::r=>(X.env.kindOf x=some .cell/\(relabel scope X.env).names.lookup x=some .cell/\∃ c,cl.lookup x=some c/\X.env.cells.lookup x=some c)/\FrOk X scope cl r
theorem FrOk.mem {X:Cx} {scope:Scope} {cl:List (Str×Addr)}:∀ {l:List Str},FrOk X scope cl l->∀ x∈l,
  X.env.kindOf x=some .cell/\(relabel scope X.env).names.lookup x=some .cell/\∃ c,cl.lookup x=some c/\X.env.cells.lookup x=some c
 | [],_,_,h=>nomatch h
 | y::r,⟨h1,h2⟩,x,h=>by
  rcases Io.mp h with e | e
  ·subst e; exact h1
  ·exact FrOk.mem h2 x e
noncomputable def ClOk (X:Cx):List (Str×Addr)->Prop
 | []=>True
 | p::r=>X.env.cells.lookup p.1=some p.2/\ClOk X r
theorem ClOk.get {X:Cx}:∀ {l:List (Str×Addr)},ClOk X l->∀ x c,l.lookup x=some c->X.env.cells.lookup x=some c
 | [],_,_,_,h=>by simp at h
 | p::r,⟨h1,h2⟩,x,c,h=>by
  obtain ⟨n,a⟩:=p
  cases e:x == n with
  | true=>
   have e':x=n:=by simpa using e
   subst e'
   simp only [Jd,e] at h
   cases h
   exact h1
  | false=>
   simp only [Jd,e] at h
   exact ClOk.get h2 x c h
structure CompOk (X:Cx) (N tgs frs:List Str) (ix:List Nat) (scope:Scope) (cl:List (Str×Addr)):Prop where
 clos:closureFor scope X.env=pure cl
 cell:∀ y∈scope.names,y.2≠.cell
 kind:scope.kind=.function
 names:∀ y∈scope.names,y.2=.local->scope.names.lookup y.1=some .local
 nm:N=tgs++frs
 ixs:ix.map (X.N[·]?)=frs.map some
 fr:FrOk X scope cl frs
 cls:ClOk X cl
 has:(relabel scope X.env).names.all (λ p=>!(p.2 == .cell || p.2 == .free) || (cl.lookup p.1).isSome)=true
noncomputable def fI (tgs:List Str) (ix:List Nat) (σ:St):St:=Jh tgs.length none++ix.map λ j=>(σ[j]?).getD none
section
variable {X:Cx} {N tgs frs:List Str} {ix:List Nat} {scope:Scope} {cl:List (Str×Addr)}
theorem qA {x:Str} (c:CompOk X N tgs frs ix scope cl) (h1:N[i]? = some x) (h2:(fI tgs ix σ)[i]? = some (some v)):x∈frs/\∃ j:Nat,X.N[j]? = some x/\σ[j]? = some (some v):=by
 unfold fI at h2
 by_cases hi:i<tgs.length
 ·rw [Jn (by simpa using hi),Mv,if_pos hi] at h2
  cases h2
 ·rw [IX (by simpa using hi),KO,Ji] at h2
  rw [c.nm,IX (by lia)] at h1
  have e:=congrArg (·[i - tgs.length]?) c.ixs
  simp only [Ji,h1] at e
  cases q:ix[i - tgs.length]? with
  | none=>rw [q] at e; cases e
  | some j=>
   rw [q] at e h2
   simp only [Ls,NJ] at e h2
   refine ⟨JO h1,j,e,?_⟩
   cases z:σ[j]? with
   | none=>rw [z] at h2; cases h2
   | some o=>rw [z] at h2; simp at h2; rw [h2]
theorem eC {l:List (Str×NameKind)} {x:Str} {k:NameKind} (h:l.lookup x=some k):(x,k)∈l:=Kd h
theorem CompOk.hasOf (c:CompOk X N tgs frs ix scope cl) {x:Str} (h:(relabel scope X.env).names.lookup x=some .cell\/(relabel scope X.env).names.lookup x=some .free):∃ a,cl.lookup x=some a:=by
 have all:=Kz.mp c.has
 rcases h with h | h
 ·have q:=all _ (eC h)
  exact JJ.mp (by simpa only [beq_self_eq_true,Nl,Ka,Lj] using q)
 ·have q:=all _ (eC h)
  exact JJ.mp (by simpa only [beq_self_eq_true,Mo,Ka,Lj] using q)
theorem iI {H:Hp} {s2:Shared} {h1:Heap} {m:Str->Option Value} (c:CompOk X N tgs frs ix scope cl) (I:Inv X pins σ H s2) (hf:∀ b∈fp,qm X pins H b) (hfl:∀ b∈fp,b<s2.heap.objs.size)
  (hC:s2.heap.objs.size<=C) (hns:h1.Ns C m) (hk:∀ b o,s2.heap.get? b=some o->h1.get? b=some o) {pins':List (Addr×Obj)}
  (hpin:∀ p∈pins',h1.get? p.1=some p.2/\s2.heap.objs.size<=p.1/\p.1≠C/\∀ v,p.2.data≠.cell v) :
  Inv (aj X N scope cl fp C s2 H) pins' (fI tgs ix σ) H { s2 with heap:=h1,toks:=tk }:=by
 have hcn:∀ x a,cl.lookup x=some a->X.env.cells.lookup x=some a:=c.cls.get
 have clt:∀ x a,cl.lookup x=some a->a<s2.heap.objs.size:=λ x a e=>by
  obtain ⟨v,q⟩:=I.cell x a (hcn x a e)
  exact q.lt
 refine ⟨⟨I.ok.mod,c.kind,I.ok.glob,I.ok.blt,hC,λ x y a h1 h2=>I.ok.inj x y a (hcn _ _ h1) (hcn _ _ h2),λ x hx=>c.hasOf hx,(λ x a z _=>Bool.noConfusion z),I.ok.hd,I.ok.frames,.inl rfl,λ b hb=>⟨?_,λ x a e=>?_⟩,I.bs,Js I.ok.bsz I.sz,λ b o e hb=>?_,λ b hb z=>?_,I.stack,I.stkFree⟩,
  rfl,I.bare,Un.kept hk,⟨m,hns,λ i x v e1 e2 e3=>?_⟩,λ x a e=>?_,I.hok.fresh hC,λ x a e=>I.freeC x a (hcn x a e),λ p hp=>?_,I.hok.kept hk,?_⟩
 ·exact Iy (Iu (hfl b hb) hC)
 ·exact (hf b hb).2.2.2.2.1 x a (hcn x a e)
 ·rcases (hf b hb).2.2.2.1 with z | z
  ·exact I.ok.noex b o e z
  ·exact absurd (Iu (Ip (I.ok.bs b o e).1) z) (Jr _)
 ·rcases Io.mp (I.stkSub b z) with e | e
  ·exact (hf b hb).2.1 e
  ·exact (hf b hb).2.2.1 e
 ·obtain ⟨hx,j,n1,n2⟩:=qA c e1 e2
  obtain ⟨k1,k2,a,l1,l2⟩:=c.fr.mem x hx
  obtain ⟨m',_,hl⟩:=I.loc
  obtain ⟨u,r,l⟩:=hl j x v n1 n2 (.inr (.inl k1))
  refine ⟨u,r,.inr ⟨.inl k2,a,l1,?_⟩⟩
  rcases l with ⟨l,_⟩ | ⟨_,a',l3,o,l4,l5⟩
  ·rw [k1] at l; cases l
  ·rw [l2] at l3; cases l3
   exact ⟨o,hk _ _ l4,l5⟩
 ·obtain ⟨v,o,q1,q2⟩:=I.cell x a (hcn x a e)
  exact ⟨v,o,hk _ _ q1,q2⟩
 ·have hp':p∈pins':=by simpa [aj] using hp
  obtain ⟨q1,q2,q3,q4⟩:=hpin p hp'
  exact ⟨q1,I.hok.fresh q2,q3,λ z=>by
   rcases Io.mp (I.stkSub p.1 z) with e | e
   ·exact absurd (Iu I.lt q2) (by rw [e]; exact Jr _)
   ·exact I.nofs q2 e,q4⟩
 ·show (fI tgs ix σ).length=N.length
  unfold fI
  have e:=congrArg NV c.ixs
  simp only [Ir] at e
  rw [c.nm]; simp [e]
theorem gX {prog:Program} {w:World} {A:Around} {R:Result->Shared->Prop} {s:Shared} {elt target iter:Expr} {pos:Pos} {it acc:Value} {env:Env} (I:Nat->Shared->Prop)
  (turn:∀ n s,I n s->wpAny (model prog w) A (pyNext it) (λ r s1=>match r with
   | none=>R (.ok .next) s1
   | some v=>wpAny (model prog w) A (letOwnedTupleGo target it v) (λ _ s1'=>wpAny (model prog w) A (assign target env v) (λ _ s2=>wpAny (model prog w) A (eval elt env) (λ x s3=>
     wpAny (model prog w) A (call (.builtin "list.append") [acc,x]) (λ _ s4=>∃ m,m<n/\I m s4) (λ _ _=>False) s3)
     (λ _ _=>False) s2) (λ _ _=>False) s1') (λ _ _=>False) s1) (λ _ _=>False) s)
  (n:Nat) (h:I n s) :
  codeAny (model prog w) A (.compLoop (.ListComp elt [⟨target,iter,[],0⟩] scope pos) 0 it acc env) R s:=by
 have up:∀ {α:Type} {t:Sem α} {Q Q':α->Shared->Prop} {E:Value->Shared->Prop} {s:Shared},wpAny (model prog w) A t Q (λ _ _=>False) s->(∀ a s,Q a s->Q' a s)->wpAny (model prog w) A t Q' E s:=λ h hq=>wpAny_mono h hq λ _ _ f=>f.elim
 refine codeAny_loop rfl I (λ n s hI=>?_) n h
 show wpAny _ _ ((compTurn (.ListComp elt [⟨target,iter,[],0⟩] scope pos) 0 it acc env).onRaise (λ x=>do noteFrame x env; theTreesLotGoes x)) _ _ s
 refine wpAny_noted ?_
 rw [compTurn_list1]
 refine wpAny_bind (wpAny_standAt (wpAny_bind (up (turn n s hI) (λ r s1 h1=>?_))))
 cases r with
 | none=>exact wpAny_pure h1
 | some v=>
  refine wpAny_bind (up h1 λ _ s1' h1'=>?_)
  exact wpAny_bind (up h1' (λ _ s2 h2=>wpAny_bind (wpAny_bind (up h2 (λ x s3 h3=>wpAny_bind (up h3
   (λ _ s4 h4=>wpAny_pure (wpAny_pure ⟨rfl,h4⟩))))))))
noncomputable def ss (wi:TI) (g:TG) (te:TE) (tgs:List Str) (ix:List Nat):TE:=λ σ H Q=>wi σ H λ J H1=>
 ∃ W:Nat->Nat->List V->St->Hp->Prop,(∃ m,W 0 m [] (fI tgs ix σ) H1)/\∀ i m xs σc H,W i m xs σc H->xs.length<sizeLine/\
  ((J.stop i H/\∀ p,H p=none->Q (.ref p) (upd H p (.lst xs)))\/(J.go i H/\∀ x H',J.yld i H x H'->g x σc H' λ σ2 H2=>te σ2 H2 λ y H3=>∃ m',m'<m/\W (i+1) m' (xs++[y]) σ2 H3))
noncomputable abbrev aA (us:List Value) (k:Nat):Obj:={ cls:=.type "list",data:=.seq us.toArray k }
theorem zk (c:CompOk X N tgs frs ix scope cl) (hc:X.calm=true) (hi:PI X tg iter wi)
  (hg:∀ fp C s H,PG (aj X N scope cl fp C s H) tg g) (he:∀ fp C s H,PE (aj X N scope cl fp C s H) elt te)
  (hs:∀ x,foldedSetIterable iter X.env x=pure x:=by intro _; rfl) :
  PE X (.ListComp elt [⟨tg,iter,[],0⟩] scope pos) (ss wi g te tgs ix):=by
 intro pins s σ H Q I h
 rw [eval_ListComp]
 refine wpAny_comprehension_free (use:=none) rfl hs c.clos c.kind c.names (thn (hi pins s σ H _ I h) λ xv s1 h1=>thn h1 λ itv s2 h2=>?_)
 obtain ⟨it,fp,tn,J,H2,rfl,I2,T,st2,f2,W,⟨m0,w0⟩,turn⟩:=h2
 have hfl:∀ b∈fp,b<s2.heap.objs.size:=λ b hb=>by
  obtain ⟨o,e,_⟩:=T.obj _ _ st2 b hb
  exact Ip e
 have hcn:∀ x a,cl.lookup x=some a->X.env.cells.lookup x=some a:=c.cls.get
 refine wpAny_newObj_type (wpAny_newFunctionEnv c.cell (by intro y hy; simp at hy) (λ h1 hns1 hsb1=>?_) c.kind)
 dsimp only at hns1 hsb1 ⊢
 generalize hH2:s2.heap.push { cls:=.type "list",dict:=none,data:=.seq ([]:List Value).toArray }=G2 at hns1 hsb1 ⊢
 have hC:G2.objs.size=s2.heap.objs.size+1:=by rw [<-hH2,Kg]
 generalize hCC:G2.objs.size=C at *
 generalize hDD:s2.heap.objs.size=D at *
 have hDC:D≠C:=by lia
 have hCle:D<=C:=by lia
 have old:∀ b o,s2.heap.get? b=some o->h1.get? b=some o:=λ b o e=>by
  have lt:b<s2.heap.objs.size:=Ip e
  exact hsb1.extBut b o (Iy (Iu (hDD▸lt) hCle)) (Ij _ (hH2▸Ij _ e))
 have hacc:h1.get? D=some (aA [] 0):=hsb1.extBut _ _ hDC (Ij _ (hH2▸(hDD▸Iz _ rfl)))
 have cellD:∀ x a,X.env.cells.lookup x=some a->a<D:=λ x a e=>by
  obtain ⟨v,q⟩:=I2.cell x a e
  exact hDD▸q.lt
 have fpc:∀ {H':Hp} {us:List Value} {k:Nat},(∀ b∈fp,H' b=none)->∀ b∈fp,qm (aj X N scope cl fp C s2 H2) [(D,aA us k)] H' b:=λ {H' us k} hn b hb=>by
  have lb:=hfl b hb
  refine ⟨hn b hb,?_,λ z=>?_,.inl hb,λ x a e z=>?_,λ p hp=>?_⟩
  ·exact Iy (Iu lb hCle)
  ·rcases Io.mp (I2.stkSub b z) with e | e
   ·exact (f2 b hb).2.1 e
   ·exact (f2 b hb).2.2.1 e
  ·exact (f2 b hb).2.2.2.2.1 x a (hcn x a e) z
  ·have:p=(D,aA us k):=by simpa [aj] using hp
   rw [this]; exact JX lb
 have D_fs:D∉(aj X N scope cl fp C s2 H2).fs:=λ z=>by
  rcases Io.mp (I2.stkSub D z) with e | e
  ·exact absurd I2.lt (by rw [<-e,hDD]; exact Jr _)
  ·exact I2.nofs (Ju hDD) e
 have I3:=iI (tk:=s2.toks+([]:List (Str×Value)).length) (pins':=[(D,aA [] 0)]) c I2 f2 (λ b hb=>hDD▸hfl b hb) (hDD▸hCle:s2.heap.objs.size<=C) hns1 old (λ p hp=>by
  have e:p=(D,aA [] 0):=by simpa using hp
  subst e
  exact ⟨hacc,Ju hDD,hDC,λ v z=>by cases z⟩)
 have tn3:tn 0 h1:=T.keep _ _ _ st2 λ b _ o e=>old b o e
 have loop:codeAny (model X.prog X.w) X.A (.compLoop (.ListComp elt [⟨tg,iter,[],0⟩] scope pos) 0 (.ref it) (.ref D) (compEnvC scope cl C X.env))
   (compPost (model X.prog X.w) X.A X.xe none (EP X pins σ Q) (.ref D) C) { s2 with heap:=h1,toks:=s2.toks+([]:List (Str×Value)).length }:=by
  refine gX (λ n s'=>∃ i xs us k σc H',Inv (aj X N scope cl fp C s2 H2) [(D,aA us k)] σc H' s'/\tn i s'.heap/\(∀ b∈fp,H' b=none)/\Vals xs us/\W i n xs σc H') ?_ m0
   ⟨0,[],[],0,_,H2,I3,tn3,λ b hb=>(f2 b hb).1,.nil,w0⟩
  rintro n s4 ⟨i,xs,us,k,σ4,H4,I4,tn4,fr4,rv,w4⟩
  obtain ⟨hsz,tt⟩:=turn i n xs σ4 H4 w4
  rcases tt with ⟨stop,fin⟩ | ⟨go,step⟩
  ·refine thn (T.done (aj X N scope cl fp C s2 H2) rfl rfl rfl hc i _ s4 σ4 H4 _ I4 (fpc fr4) tn4 stop) λ r s5 ⟨hr,I5⟩=>?_
   subst hr
   obtain ⟨m,ns,_⟩:=I5.loc
   refine ⟨m,ns,λ h' sb=>?_⟩
   have J1:Inv X pins σ H4 s5:=I2.call' I5.os I5.base I5.hok I5.bare λ b hb=>⟨(f2 b hb).2.2.2.1,(f2 b hb).2.1,(f2 b hb).2.2.2.2.1,(f2 b hb).2.2.2.2.2⟩
   have big:∀ a,D<=a->a≠X.env.locals/\(a∈X.ex\/X.s₀.heap.objs.size<=a)/\(∀ x y,X.env.cells.lookup x=some y->y≠a)/\∀ p∈X.pn++pins,p.1≠a:=λ a ha=>by
    obtain ⟨q0,q1,q2,q3,q4,q5⟩:=I2.fpOk (b:=a) (H':=λ _=>none) (hDD▸ha) rfl
    exact ⟨q1,q3,q4,q5⟩
   obtain ⟨b1,b2,b3,b4⟩:=big C hCle
   have J2:Inv X pins σ H4 { s5 with heap:=h' }:=J1.turned (t':=s5.toks) (λ b o hb e=>sb.extBut b o hb e) I5.free b1 b2 b3 b4
   obtain ⟨p1,p2,p3,p4,p5⟩:=I5.pin (D,aA us k) (by simp)
   obtain ⟨d1,d2,d3,d4⟩:=big D (Im _)
   have J3:Inv X pins σ (upd H4 D (.lst xs)) { s5 with heap:=h' }:=J2.adopt p2 d1 d2 d3 d4 ⟨JD hsz,us,k,rv,sb.extBut _ _ hDC p1⟩
   exact ⟨.ref D,_,J3,rfl,fin D p2⟩
  ·refine thn (T.item (aj X N scope cl fp C s2 H2) rfl rfl rfl hc i _ s4 σ4 H4 _ I4 (fpc fr4) tn4 go) λ r s5 ⟨u,hr,h5⟩=>?_
   subst hr
   refine thn h5 λ _ s6 ⟨x,H6,I6,r6,y6,tn6,fr6⟩=>?_
   have I6':=I6.pinned (fpc fr6) (T.obj _ _ tn6)
   refine thn (hg fp C s2 H2 _ s6 σ4 H6 x u _ I6' r6 (step x H6 y6)) λ _ s7 ⟨σ7,H7,I7,q7⟩=>?_
   refine thn (he fp C s2 H2 _ s7 σ7 H7 _ I7 q7) λ yv s8 ⟨y,H8,I8,r8,m',hm,w8⟩=>?_
   obtain ⟨p1,p2,p3,p4,p5⟩:=I8.pin (D,aA us k) (by simp [aj])
   have hsz':us.toArray.size<=sizeLine:=by simp; rw [<-rv.length]; exact JD hsz
   refine wpAny_list_append_plain (hsz:=hsz') ⟨k,p1⟩ λ h' pl sb=>?_
   have tn8:tn (i+1) s8.heap:=T.keep _ _ _ tn6 λ b hb o e=>(I8.pin (b,o) (Ik _ (Ik _ (aD hb e)))).1
   have fr8:∀ b∈fp,H8 b=none:=λ b hb=>by
    obtain ⟨o,e,d⟩:=T.obj _ _ tn6 b hb
    exact (I8.pin (b,o) (Ik _ (Ik _ (aD hb e)))).2.1
   have I9:Inv (aj X N scope cl fp C s2 H2) [] σ7 H8 s8:=I8.pins_of λ p hp=>nomatch hp
   have I10:Inv (aj X N scope cl fp C s2 H2) [] σ7 H8 { s8 with heap:=h' }:=I9.turned (t':=s8.toks) (it:=D) (λ b o hb e=>sb.extBut b o hb e) p2 p3 (.inr (Ju hDD))
    (λ x a e=>Iy (cellD x a (hcn x a e))) (λ p hp=>by simp [aj] at hp)
   obtain ⟨k',pl⟩:=pl
   have eu:us.toArray.push yv=(us++[yv]).toArray:=by simp
   rw [eu] at pl
   have I11:Inv (aj X N scope cl fp C s2 H2) [(D,aA (us++[yv]) k')] σ7 H8 { s8 with heap:=h' }:=I10.pins_of λ p hp=>by
    have e:p=(D,aA (us++[yv]) k'):=by simpa using hp
    subst e
    exact ⟨pl,p2,p3,p4,λ v z=>by cases z⟩
   exact ⟨m',hm,i+1,xs++[y],us++[yv],k',σ7,H8,I11,T.keep _ _ _ tn8 λ b hb o e=>sb.extBut b o (Iy (hfl b hb)) e,fr8,rv.append (.cons r8 .nil),w8⟩
 exact codeAny_compStart_list loop (T.self _ 0 _ _ _ tn3 loop)
end
section
variable {X:Cx}
noncomputable def vR (i j:Int):Prop:=0<j/\j.natAbs.log2<9000
theorem qB {j:Int} (h0:0<j) (h:j<2 ^ 64):j.natAbs.log2<9000:=by
 have:j.natAbs<2 ^ 64:=by lia
 have h2:=(NX (by lia:j.natAbs≠0)).mpr this
 lia
theorem vS:OpR X (binaryOp .FloorDiv) (rI vR λ i j=>.int (i / j)):=opI λ i j _ _ _ _ _ hc q=>by
 have e:i.fdiv j=i / j:=Int.fdiv_eq_ediv_of_nonneg _ (Int.le_of_lt hc.1)
 exact floordiv_int (Int.ne_of_gt hc.1) (by rw [e]; exact q) (.inl (PyProof.noPylong_of_log2 hc.2))
theorem su {bs:List Bool} (h:bs.length=n):(IC n).all (λ i=>bs.getD i true)=bs.all id:=by
 subst h
 rw [K0,Kz,Kz]
 constructor
 ·intro h b hb
  obtain ⟨i,hi,rfl⟩:=Lz.mp hb
  have:=h i (by simpa using hi)
  simpa [hi] using this
 ·intro h i hi
  have hi:i<bs.length:=by simpa using hi
  simp only [IH,IF hi,Option.getD_some]
  exact h _ (JK hi)
theorem zl {bs:List Bool} (rv:Vals (bs.map V.bl) its) {v:Value} (h:its.toArray[i]? = some v) {d:Bool}:v=.bool (bs.getD i d):=by
 have h':its[i]? = some v:=by simpa using h
 have hl:=rv.length
 have hi:i<its.length:=(IK.mp h').1
 have hi':i<bs.length:=by simpa using (by lia:i<(bs.map V.bl).length)
 obtain ⟨u,e,ru⟩:=rv.get (i:=i) (x:=V.bl bs[i]) (by simp [hi'])
 rw [h'] at e; cases e
 have:v=.bool bs[i]:=ru
 rw [this]; simp [hi']
theorem vT (hc:X.calm=true):bZ X (.builtin "all") (λ xs H Q=>∃ (p:Addr) (bs:List Bool),xs=[.ref p]/\SqL X.K H p (bs.map V.bl)/\Q (.bl (bs.all id)) H):=by
 intro pins s σ H xs us Q I r h
 obtain ⟨p,bs,rfl,hq,q⟩:=h
 obtain ⟨u,rfl,ru⟩:=eZ r
 cases ru
 obtain ⟨its,rv,hp,hz⟩:=I.list hq
 have hlt:p<s.heap.objs.size:=by obtain ⟨o,e,_⟩:=hp.isList; exact Ip e
 refine call_all_walk (wpAny_pyIter_list hp.isList ?_)
 refine ⟨s.heap.objs.size,_,_,_,_,_,λ i=>bs.getD i true,rfl,Pl (A:=X.A.in1) (I.ok.hd hc) _ p (Iy hlt) its.toArray,⟨⟨_,Iz _ rfl,rfl,rfl⟩,hp.isList.at λ o e=>Ij _ e⟩,?_,λ h' tk hk=>?_⟩
 ·intro i v s Q E hv hQ
  rw [zl rv hv (d:=true)]
  exact wpAny_truthy_bool hQ
 ·have e:(IC its.toArray.size).all (λ i=>bs.getD i true)=bs.all id:=su (by have:=rv.length; simpa using this)
  rw [e]
  exact ⟨.bl (bs.all id),H,I.kept λ b o e=>hk b o (by simp; exact Iy (Ip e)) (Ij _ e),rfl,q⟩
theorem vU:bZ X (.builtin "isinstance") (λ xs H Q=>∃ x t T b,xs=[x,.ty T]/\TyOf X.K H x t/\JN X.K t (.type T)=some b/\Q (.bl b) H):=by
 intro pins s σ H xs us Q I r h
 obtain ⟨x,t,T,b,rfl,ty,e,q⟩:=h
 obtain ⟨u,w',rfl,ru,rw'⟩:=BY r
 cases (show w'=Ku T from rw')
 exact r9 I ru ty e λ tk=>⟨.bl b,H,I.tok _,rfl,q⟩
example (K:Ih):JN K (.type "int") (.type "int")=some true:=rfl
example (K:Ih):JN K (.type "int") (.type "bool")=some false:=rfl
example (K:Ih):JN K (.type "tuple") (.type "tuple")=some true:=rfl
end
noncomputable def bA:Expr->Bool
 | .Starred ..=>false
 | _=>true
theorem aB {e:Expr} {es:List Expr} {env:Env} (h:bA e=true):starEach (e::es) env=(false,eval e env)::starEach es env:=by
 cases e<;>first | rfl | cases h
theorem bT {pos:Pos} {env:Env}:∀ {es:List Expr},es.all bA=true->(backTo pos (starEach es env)).any (·.1)=false
 | [],_=>rfl
 | e::es,h=>by
  rw [Kb,IY] at h
  rw [aB h.1]
  exact bT (es:=es) h.2
section
variable {X:Cx} {CX:CXT} {k:Nat} {f:Addr} {fd:FuncData} {ps:List Str} {sp:Sp} {E:XK} {x:Str} {p pos apos cpos:Pos} {e o:Expr} {es:List Expr} {te to:TE} {t:TA} {id T:String} {name:Str}
theorem GV (ha:PE X e te) (hr:PA X es t) (hn:bA e=true:=by rfl):PA X (e::es) (vI te t):=y8 ha hr (aB hn)
theorem vV (F:FnOk X.prog X.w X.K X.mg X.base CX k f fd ps sp) (hr:Room k X.A) (hg:Gl X x) (hm:X.mg x=some (.ref f)) (hk:Jk X.K (.ref f)=true) (hb:Binds X.K fd ps []) (hx:dg CX X E)
  (ha:PA X (e::es) t) (hn:(e::es).all bA=true:=by rfl) (hdb:(x == ("__debug__" : Str))=false:=by decide):PE X (.Call (.Name x p) (e::es) [] pos) (nO sp [] E t):=by
 rw [Kb,IY] at hn
 exact za F hr hg hm hk hb .nil hx ha hdb (aB hn.1) (bT hn.2)
theorem sv {r:List V->Hp->VK->Prop} (hc:bZ X (.builtin id) r) (hg:Gl X x) (hm:X.mg x=none) (hv:bootBuiltins x=some (.builtin id)) (ha:PA X (e::es) t) (hn:(e::es).all bA=true:=by rfl) (hn2:x≠"__name__":=by decide) (hdb:(x == ("__debug__" : Str))=false:=by decide) :
  PE X (.Call (.Name x p) (e::es) [] pos) (tCB r t):=by
 rw [Kb,IY] at hn
 exact vL hc hg hm hv ha hn2 hdb (aB hn.1) (bT hn.2)
theorem qC {r:List V->Hp->VK->Prop} (hc:bZ X (.type T) r) (hg:Gl X x) (hm:X.mg x=none) (hv:bootBuiltins x=some (.type T)) (ha:PA X (e::es) t) (hn:(e::es).all bA=true:=by rfl) (hn2:x≠"__name__":=by decide) (hdb:(x == ("__debug__" : Str))=false:=by decide) :
  PE X (.Call (.Name x p) (e::es) [] pos) (tCB r t):=by
 rw [Kb,IY] at hn
 exact se hc hg hm hv ha hn2 hdb (aB hn.1) (bT hn.2)
theorem o9 {r:V->List V->Hp->VK->Prop} (pa:PlainAttrs T) (slot:Slot T name id) (hty:typeOf (.builtin id)=pure (.type "method_descriptor")) (hm:MtR X id r) (ho:PE X o to) (ha:PA X [e] t)
  (hbase:attributeBase o name X.env (eval o X.env)=eval o X.env:=by rfl) (hline:(apos.endLine == cpos.line)=true:=by rfl) (hn:bA e=true:=by rfl) :
  PE X (.Call (.Attribute o name apos) [e] [] cpos) (tBM X.K T r to t):=by
 refine EN pa slot hty hm ho ha hbase ?_ hline (aB hn) rfl
 rw [aB hn]; rfl
end
section
variable {K:Ih} {σ:St} {H:Hp} {Q:VK} {D:Ends} {E:XK}
theorem FX {t u:TS} (h:t { D with nx:=u D } σ H):Eo t u D σ H:=h
theorem FY (h:te σ H λ x H1=>g x σ H1 D.nx):vd te g D σ H:=h
theorem vW {R:St->Hp->Prop} (h:R (σ.set i (some v)) H):eY i v σ H R:=h
theorem EQ {ti:TE} {t:Dy} {R:St->Hp->Prop} (h:to σ H λ o H1=>ti σ H1 λ i H2=>t o i v H2 λ H3=>R σ H3):Et to ti t v σ H R:=h
theorem FZ (h:te σ H D.rt):Ep te D σ H:=h
theorem ER (h:te σ H λ _ H1=>D.nx σ H1):yN te D σ H:=h
theorem ES (h:D.nx σ H):yJ D σ H:=h
theorem GW {c:TT} {t u:TS} (h:c σ H λ b H1=>if b=true then t D σ H1 else u D σ H1):Er c t u D σ H:=h
theorem Ga {c:TT} {tb:TE} (h:c σ H λ b H1=>if b=true then ta σ H1 Q else tb σ H1 Q):tIf c ta tb σ H Q:=h
theorem ET {t:TE} {R:Bool->Hp->Prop} (h:t σ H λ x H'=>∃ k,x=.bl k/\R k H'):yW t σ H R:=h
theorem Ic {t:TE} {R:Bool->Hp->Prop} (h:t σ H λ x H'=>∃ k,x=.bl k/\R k H'):tB t σ H R:=h
theorem GX {b:Bool} {R:Bool->Prop} (h:R b):∃ k,V.bl b=.bl k/\R k:=⟨b,rfl,h⟩
theorem Gb {t:TT} {R:Bool->Hp->Prop} (h:t σ H λ c H1=>R (!c) H1):Ek t σ H R:=h
theorem GY {t u:TT} {R:Bool->Hp->Prop} (h:t σ H λ c H1=>if c=true then R true H1 else u σ H1 R):tOr t u σ H R:=h
theorem Gc {t u:TT} {R:Bool->Hp->Prop} (h:t σ H λ c H1=>if c=true then u σ H1 R else R false H1):Ej t u σ H R:=h
theorem EU {tb:TE} (h:ta σ H λ x H1=>∃ c,x=.bl c/\if c=true then tb σ H1 Q else Q (.bl false) H1):yH ta tb σ H Q:=h
theorem Ge {tb:TE} (h:ta σ H λ x H1=>∃ c,x=.bl c/\if c=true then Q (.bl true) H1 else tb σ H1 Q):Em ta tb σ H Q:=h
theorem EV (h:ta σ H λ x H1=>∃ c,x=.bl c/\Q (.bl (!c)) H1):yI ta σ H Q:=h
theorem Id (h:Q v H):tC v σ H Q:=h
theorem GZ {r:R2} {tb:TE} (h:ta σ H λ x H1=>tb σ H1 λ y H2=>r x y H2 Q):tOp r ta tb σ H Q:=h
theorem G6 {r:V->Hp->VK->Prop} (h:ta σ H λ x H1=>r x H1 Q):tUn r ta σ H Q:=h
theorem G7 {g:Int->Int->V} {i j:Int} (h:Q (g i j) H):rI0 g (.int i) (.int j) H Q:=⟨i,j,rfl,rfl,h⟩
theorem G8 {C:Int->Int->Prop} {g:Int->Int->V} {i j:Int} (c:C i j) (h:Q (g i j) H):rI C g (.int i) (.int j) H Q:=⟨i,j,rfl,rfl,c,h⟩
theorem Ie {g:Int->V} {i:Int} (h:Q (g i) H):rU g (.int i) H Q:=⟨i,rfl,h⟩
theorem Gf {i j:Int} (h:Q (.bl (decide (PY i=PY j))) H):rEq (.int i) (.int j) H Q:=⟨rfl,h⟩
theorem Gg {i j:Int} (h:Q (.bl (!decide (PY i=PY j))) H):rNe (.int i) (.int j) H Q:=⟨rfl,h⟩
theorem lm {p:Addr} {i:Int} (s:SqL K H p xs) (a:atI xs i=some v) (h:Q v H):DC K (.ref p) (.int i) H Q:=⟨p,xs,i,v,rfl,rfl,s,a,h⟩
theorem Ca {p:Addr} {i:Int} (s:H p=some (.lst xs)) (h:∃ v,atI xs i=some v/\Q v H):DC K (.ref p) (.int i) H Q:=let ⟨v,a,q⟩:=h; ⟨p,xs,i,v,rfl,rfl,PX s,a,q⟩
theorem zm {p:Addr} {i:Int} (s:H p=some (.tup xs)) (h:∃ v,atI xs i=some v/\Q v H):EK K (.ref p) (.int i) H Q:=let ⟨v,a,q⟩:=h; ⟨p,xs,i,v,rfl,rfl,SqT.of s,a,q⟩
theorem zn {p:Addr} {k:Int} {R:Hp->Prop} (s:H p=some (.lst xs)) (h:∃ j,ixN xs.length k=some j/\R (upd H p (.lst (xs.set j v)))):zh (.ref p) (.int k) v H R:=let ⟨j,a,q⟩:=h; ⟨p,xs,k,j,rfl,rfl,s,a,q⟩
theorem G9 {r:List V->Hp->VK->Prop} (h:t σ H λ vs H1=>r vs H1 Q):tCB r t σ H Q:=h
theorem EW {tr:TA} {R:List V->Hp->Prop} (h:ta σ H λ x H1=>tr σ H1 λ xs H2=>R (x::xs) H2):vI ta tr σ H R:=h
theorem Gh {R:List V->Hp->Prop} (h:R [] H):A8 σ H R:=h
theorem EX {sp:Sp} (h:t σ H λ vs H1=>sp (vs++[]) H1 Q E):nO sp [] E t σ H Q:=h
theorem Gi (h:t σ H λ xs H1=>xs.length<=sizeLine/\∀ p,H1 p=none->Q (.ref p) (upd H1 p (.lst xs))):EI t σ H Q:=h
theorem Gj (h:t σ H λ xs H1=>xs.length<=sizeLine/\∀ p,H1 p=none->Q (.ref p) (upd H1 p (.tup xs))):EH t σ H Q:=h
theorem ln {A B:Prop} (h:A):if true=true then A else B:=by rw [if_pos rfl]; exact h
theorem iU {A B:Prop} (h:B):if false=true then A else B:=by rw [if_neg Iv]; exact h
theorem bU {c A B:Prop} [Decidable c] (h1:c->A) (h2:¬ c->B):if decide c=true then A else B:=by
 by_cases h:c
 ·rw [decide_eq_true h]; exact ln (h1 h)
 ·rw [decide_eq_false h]; exact iU (h2 h)
theorem Cb {c A B:Prop} [Decidable c] (hc:c) (h:A):if decide c=true then A else B:=by rw [decide_eq_true hc]; exact ln h
theorem xI {c A B:Prop} [Decidable c] (hc:¬ c) (h:B):if decide c=true then A else B:=by rw [decide_eq_false hc]; exact iU h
theorem aG (h:n<=1000):n<=sizeLine:=JD (cu h)
theorem EY {i j:Int} (h1:0<j) (h2:j<2 ^ 64):vR i j:=⟨h1,qB h1 h2⟩
theorem EZ {i:Int} {b e:Nat} (h1:0<b) (h2:b<=64) (h3:e<=1000):vR i ((b ^ e:Nat):Int):=by
 have hp:0<b ^ e:=Nat.pow_pos h1
 refine ⟨Int.natCast_pos.mpr hp,?_⟩
 rw [Nm,NX (JX hp)]
 have h4:b ^ e<=64 ^ e:=Nat.pow_le_pow_left h2 e
 have h5:(64:Nat) ^ e=2 ^ (6*e):=by rw [Nat.pow_mul]
 have h6:2 ^ (6*e)<2 ^ 9000:=Nat.pow_lt_pow_right (by decide) (by lia)
 lia
theorem Ha {i j:Int} (h1:0<j) (h2:j<1073741824):GU i j:=⟨h1,h2⟩
theorem E1 {i j:Int} (h1:-(2 ^ 64)<i) (h2:i<2 ^ 64):CMul i j:=.inl ⟨h1,h2⟩
theorem E2 {i j:Int} (h1:-(2 ^ 64)<j) (h2:j<2 ^ 64):CMul i j:=.inr ⟨h1,h2⟩
theorem Hb {i j:Int} (h1:0<=j) (h2:j<=1000000) (h3:i.natAbs<2 ^ 64):DB i j:=⟨h1,h2,h3⟩
theorem DD (h:Q (.int 1000000000000000000) H):rI DB (λ i j=>.int (i ^ j.toNat)) (.int 10) (.int 18) H Q:=⟨10,18,rfl,rfl,⟨by decide,by decide,by decide⟩,by
 have e:(10:Int) ^ (18:Int).toNat=1000000000000000000:=by decide
 show Q (.int ((10:Int) ^ (18:Int).toNat)) H
 rw [e]; exact h⟩
noncomputable abbrev RC:=List V->Hp->VK->Prop
noncomputable def E3:RC:=λ xs H Q=>∃ i,xs=[.int i]/\Q (.int (if i<0 then -i else i)) H
noncomputable def zo:RC:=λ xs H Q=>∃ k,xs=[.bl k]/\Q (.int (if k then 1 else 0)) H
noncomputable def zp:RC:=λ xs H Q=>∃ i j,xs=[.int i,.int j]/\Q (.int (if j<i then j else i)) H
noncomputable def E4 (K:Ih):RC:=λ xs H Q=>∃ p ys,xs=[.ref p]/\(SqL K H p ys\/SqT K H p ys)/\Q (.int ys.length) H
noncomputable def E5 (K:Ih):RC:=λ xs H Q=>∃ (p:Addr) (bs:List Bool),xs=[.ref p]/\SqL K H p (bs.map V.bl)/\Q (.bl (bs.all id)) H
noncomputable def DE (K:Ih):RC:=λ xs H Q=>∃ x t T b,xs=[x,.ty T]/\TyOf K H x t/\JN K t (.type T)=some b/\Q (.bl b) H
noncomputable def pb (K:Ih):RC:=λ xs H Q=>∃ p ys,xs=[.ref p]/\((SqL K H p ys/\∀ l,H l=none->Q (.ref l) (upd H l (.tup ys)))\/(SqT K H p ys/\Q (.ref p) H))
section
variable {X:Cx}
theorem Cc:bZ X (.builtin "abs") E3:=vG
theorem Cd:bZ X (.type "int") zo:=λ pins s σ H xs us Q I r h=>rY pins s σ H xs us Q I r (.inr h)
theorem Ce (hc:X.calm=true):bZ X (.builtin "min") zp:=rX hc
theorem Cf:bZ X (.builtin "len") (E4 X.K):=l9
theorem Cg (hc:X.calm=true):bZ X (.builtin "all") (E5 X.K):=vT hc
theorem Ch:bZ X (.builtin "isinstance") (DE X.K):=vU
theorem vX:bZ X (.type "tuple") (pb X.K):=ll
end
theorem Gk {i:Int} (h:Q (.int (if i<0 then -i else i)) H):E3 [.int i] H Q:=⟨i,rfl,h⟩
theorem E6 {k:Bool} (h:Q (.int (if k then 1 else 0)) H):zo [.bl k] H Q:=⟨k,rfl,h⟩
theorem Gm {i j:Int} (h:Q (.int (if j<i then j else i)) H):zp [.int i,.int j] H Q:=⟨i,j,rfl,h⟩
theorem bx {p:Addr} (s:SqL K H p ys) (h:Q (.int ys.length) H):E4 K [.ref p] H Q:=⟨p,ys,rfl,.inl s,h⟩
theorem Ci {p:Addr} {bs:List Bool} (s:SqL K H p (bs.map V.bl)) (h:Q (.bl (bs.all id)) H):E5 K [.ref p] H Q:=⟨p,bs,rfl,s,h⟩
theorem DF {i:Int} (h:Q (.bl true) H):DE K [.int i,.ty "int"] H Q:=⟨_,_,_,_,rfl,.int i,rfl,h⟩
theorem DG {i:Int} (h:Q (.bl false) H):DE K [.int i,.ty "bool"] H Q:=⟨_,_,_,_,rfl,.int i,rfl,h⟩
theorem nV {r:Int} (h0:0<=r) (h1:r<xs.length):∃ v,atI xs r=some v/\v∈xs:=by
 have hl:r.toNat<xs.length:=by lia
 have e:r=(r.toNat:Int):=by lia
 refine ⟨xs[r.toNat],?_,JK hl⟩
 have:=dh (xs:=xs) (j:=r.toNat) (v:=xs[r.toNat]) (by simp [hl])
 rw [<-e] at this; exact this
theorem Gn {tb:TS} (h:wi σ H λ J H1=>∃ W:Nat->Nat->St->Hp->Prop,(∃ m,W 0 m σ H1)/\∀ i m σ H,W i m σ H->
 (J.stop i H/\D.nx σ H)\/(J.go i H/\∃ N:St->Hp->Prop,(∀ σ' H',N σ' H'->∃ m',m'<m/\W (i+1) m' σ' H')/\∀ x H',J.yld i H x H'->g x σ H' λ σ2 H2=>tb { D with nx:=N,ct:=N,bk:=D.nx } σ2 H2)):Eu wi g tb D σ H:=h
theorem E7 {ta:TA} {R:It->Hp->Prop} (h:ta σ H λ vs H1=>∃ j:Int,vs=[.int j]/\-(2 ^ 62)<=j/\j<2 ^ 62/\R (Itr 0 j.toNat) H1):yU ta σ H R:=h
theorem DH {tl:TE} {R:It->Hp->Prop} (h:tl σ H λ x H1=>∃ a,x=.ref a/\(∃ xs,SqL K H1 a xs)/\R (Itl K a) H1):yS K tl σ H R:=h
theorem He {A B:Prop} (h:B):if (!true)=true then A else B:=iU h
theorem Hf {A B:Prop} (h:A):if (!false)=true then A else B:=ln h
theorem E8 {tgs:List Str} (h:wi σ H λ J H1=>
 ∃ W:Nat->Nat->List V->St->Hp->Prop,(∃ m,W 0 m [] (fI tgs ix σ) H1)/\∀ i m xs σc H,W i m xs σc H->xs.length<sizeLine/\
  ((J.stop i H/\∀ p,H p=none->Q (.ref p) (upd H p (.lst xs)))\/(J.go i H/\∀ x H',J.yld i H x H'->g x σc H' λ σ2 H2=>te σ2 H2 λ y H3=>∃ m',m'<m/\W (i+1) m' (xs++[y]) σ2 H3))):ss wi g te tgs ix σ H Q:=h
noncomputable def Tape (H:Hp) (p:Addr):Prop:=∃ a b c:Int,H p=some (.lst [.int a,.int b,.int c])/\0<=a
structure Stp (p:Addr) (H H':Hp):Prop where
 keep:∀ q o,H q=some o->q≠p->H' q=some o
 tape:Tape H' p
theorem Tape.mk {p:Addr} {a b c:Int} (h:0<=a):Stp p H (upd H p (.lst [.int a,.int b,.int c])):=⟨λ q o e n=>by rw [ag n]; exact e,⟨a,b,c,aa,h⟩⟩
theorem Tape.ne {p q:Addr} (t:Tape H p) (h:H q=none):q≠p:=by
 obtain ⟨a,b,c,e,_⟩:=t
 exact λ z=>ao e h z.symm
noncomputable def Cj (K:Ih):Sp:=λ vs H Q _=>∃ (a:Addr) (ns:List Int) (k:Int),vs=[.ref a,.int k]/\SqL K H a (ns.map PY)/\0<=k/\
 ∀ p H',H p=none->Same H H'->Tape H' p->Q (.ref p) H'
noncomputable def Ck:Sp:=λ vs H Q _=>∃ (p:Addr) (m:Int),vs=[.ref p,.int m]/\Tape H p/\0<m/\m<2 ^ 64/\∀ r H',0<=r->r<m->Stp p H H'->Q (.int r) H'
noncomputable def zq:Sp:=λ vs H Q _=>∃ (i:Int),vs=[.int i]/\Q (.bl true) H
end
structure QE (X:Cx) (e:Expr) (t:TE):Prop where
 out:PE X e t
structure QT (X:Cx) (e:Expr) (t:TT):Prop where
 out:PT X e t
structure QW (X:Cx) (e:Expr) (t:TT):Prop where
 out:PW X e t
structure QA (X:Cx) (es:List Expr) (t:TA):Prop where
 out:PA X es t
structure QO (X:Cx) (e:Option Expr) (t:TO):Prop where
 out:PO X e t
structure QI (X:Cx) (tg iter:Expr) (t:TI):Prop where
 out:PI X tg iter t
structure QG (X:Cx) (tg:Expr) (t:TG):Prop where
 out:PG X tg t
structure QGs (X:Cx) (ts:List Expr) (t:TGs):Prop where
 out:PGs X ts t
structure QS (X:Cx) (st:Stmt) (t:TS):Prop where
 out:PS X st t
structure QB (X:Cx) (sts:List Stmt) (t:TS):Prop where
 out:PSs X sts t
structure QOp (X:Cx) (f:Value->Value->Sem Value) (r:R2):Prop where
 out:OpR X f r
structure QUn (X:Cx) (f:Value->Sem Value) (r:V->Hp->VK->Prop):Prop where
 out:UnR X f r
structure QC (X:Cx) (f:Value) (r:List V->Hp->VK->Prop):Prop where
 out:bZ X f r
structure QIx (X:Cx) (r:R2):Prop where
 out:IxR X r
structure QSl (X:Cx) (r:V->Option Int->Option Int->Hp->VK->Prop):Prop where
 out:SlR X r
noncomputable def Go:Expr->Bool
 | .Slice ..=>false
 | _=>true
theorem vY {b:Expr} (h:Go b=true):si b:=by
 cases b<;>first | (intro _ _; rfl) | cases h
noncomputable def Gp (K:Ih) (ta:TE):TT:=λ σ H Q=>ta σ H λ x H'=>∃ k,yY K x H' k/\Q k H'
section
variable {X:Cx} {a b c e o:Expr} {es rest:List Expr} {ta tb tc te to ti:TE} {tA tB':TT} {t:TA} {pos p p2 apos cpos:Pos} {r r':R2} {x:Str}
theorem qv (i:Nat) {x:Str} {pos:Pos} (hN:X.N[i]? = some x:=by rfl) (hv:Vis X.env.scope x:=by first | exact ID rfl | exact LU (ID rfl) | exact LU (LU rfl)) (hd:(x == ("__debug__" : Str))=false:=by decide)
  (hcd:(x == ("__classdict__" : Str))=false:=by decide):QE X (.Name x pos) (Eh i):=⟨BA hN hv hd hcd⟩
theorem al {i j pos}:QE X (.Constant (.int i) j pos) (tC (.int i)):=⟨BB⟩
theorem vZ {b j pos}:QE X (.Constant (.bool b) j pos) (tC (.bl b)):=⟨Ei⟩
theorem gY {j pos}:QE X (.Constant .none j pos) (tC .non):=⟨BC⟩
theorem ai {x j pos}:QE X (.Constant (.str x) j pos) (tC (.str x)):=⟨BD⟩
theorem nW (hg:Gl X x) (hm:X.mg x=none) (hv:bootBuiltins x=some u) (r:RelV v u) (hn:x≠"__name__":=by decide) (hd:(x == ("__debug__" : Str))=false:=by decide):QE X (.Name x pos) (tC v):=⟨yF hg hm hv r hn hd⟩
theorem aJ {op:Operator} (ho:QOp X (binaryOp op) r) (ha:QE X a ta) (hb:QE X b tb):QE X (.BinOp a op b pos) (tOp r ta tb):=⟨Ew ho.out ha.out hb.out⟩
theorem zr {op:UnaryOp} {r:V->Hp->VK->Prop} (ho:QUn X (unaryOp op) r) (ha:QE X a ta):QE X (.UnaryOp op a pos) (tUn r ta):=⟨Ey ho.out ha.out⟩
theorem gB {op:CmpOp} (ho:QOp X (compareOp op) r) (ha:QE X a ta) (hb:QE X b tb) (hm:behindInMarks op b=false):QE X (.Compare a [op] [b] pos) (tOp r ta tb):=⟨yV ho.out ha.out hb.out hm⟩
theorem aC {op:CmpOp} (ho:QOp X (compareOp op) r) (ha:QE X a ta) (hb:QE X b tb) (hm:behindInMarks op b=false):QT X (.Compare a [op] [b] pos) (yW (tOp r ta tb)):=⟨yX ho.out ha.out hb.out hm⟩
theorem pc {op} (h:QE X a ta):QE X (.BoolOp op [a] pos) ta:=⟨BI h.out⟩
theorem Cl (ha:QE X a ta) (hb:QE X (.BoolOp .And (b::rest) pos) tb):QE X (.BoolOp .And (a::b::rest) pos) (yH ta tb):=⟨BJ ha.out hb.out⟩
theorem E9 (ha:QE X a ta) (hb:QE X (.BoolOp .Or (b::rest) pos) tb):QE X (.BoolOp .Or (a::b::rest) pos) (Em ta tb):=⟨En ha.out hb.out⟩
theorem Cm (ha:QE X a ta):QE X (.UnaryOp .Not a pos) (yI ta):=⟨BK ha.out⟩
theorem iV (ha:QT X a tA):QT X (.UnaryOp .Not a pos) (Ek tA):=⟨BH ha.out⟩
theorem iW (h:QE X a ta) (he:∀ whole,isTrue a X.env whole=(do let v <-whole; standAt a.pos; holding [v] (truthy v)):=by intro _; rfl):QT X a (tB ta):=⟨BE h.out he⟩
theorem iJ {K:Ih} (h:QE X a ta) (he:∀ whole,isTrue a X.env whole=(do let v <-whole; standAt a.pos; holding [v] (truthy v)):=by intro _; rfl) (hK:X.K=K:=by rfl):QT X a (Gp K ta):=by subst hK; exact ⟨vF h.out he⟩
theorem sw (ha:QT X a tA):QW X (.BoolOp .And [a] pos) tA:=⟨yG ha.out⟩
theorem pe (ha:QT X a tA):QW X (.BoolOp .Or [a] pos) tA:=⟨BF ha.out⟩
theorem sA (ha:QT X a tA) (hb:QW X (.BoolOp .And (b::rest) pos) tB'):QW X (.BoolOp .And (a::b::rest) pos) (Ej tA tB'):=⟨BG ha.out hb.out⟩
theorem nX (ha:QT X a tA) (hb:QW X (.BoolOp .Or (b::rest) pos) tB'):QW X (.BoolOp .Or (a::b::rest) pos) (tOr tA tB'):=⟨El ha.out hb.out⟩
theorem QW.qt (h:QW X e tA):QT X e tA:=⟨h.out.pt⟩
theorem pf (hc:QT X c tA) (ha:QE X a ta) (hb:QE X b tb):QE X (.IfExp c a b pos) (tIf tA ta tb):=⟨vz hc.out ha.out hb.out⟩
theorem ac:QA X [] A8:=⟨B1⟩
theorem ak (ha:QE X e te) (hr:QA X es t) (hn:bA e=true:=by rfl):QA X (e::es) (vI te t):=⟨GV ha.out hr.out hn⟩
theorem aT (h:QA X es t):QE X (.List es pos) (EI t):=⟨B3 h.out⟩
theorem di {x1} (h:QA X es t):QE X (.Tuple es x1 pos) (EH t):=⟨B2 h.out⟩
theorem bf (hr:QIx X r) (ha:QE X a ta) (hb:QE X b tb) (hs:Go b=true:=by rfl):QE X (.Subscript a b pos) (tOp r ta tb):=⟨EJ hr.out ha.out hb.out (vY hs)⟩
theorem nY:QO X none nQ:=⟨ze⟩
theorem nZ (h:QE X e te):QO X (some e) (zd te):=⟨zf h.out⟩
theorem lp {r:V->Option Int->Option Int->Hp->VK->Prop} {lo hi:Option Expr} {tl th:TO} (hr:QSl X r) (he:QE X e te) (hl:QO X lo tl) (hu:QO X hi th):QE X (.Subscript e (.Slice lo hi none p2) pos) (tSl r te tl th):=⟨vO hr.out he.out hl.out hu.out⟩
theorem au {id:String} {r:RC} (hc:QC X (.builtin id) r) (hg:Gl X x) (hm:X.mg x=none) (hv:bootBuiltins x=some (.builtin id)) (ha:QA X (e::es) t) (hn:(e::es).all bA=true:=by rfl) (hn2:x≠"__name__":=by decide) (hdb:(x == ("__debug__" : Str))=false:=by decide) :
  QE X (.Call (.Name x p) (e::es) [] pos) (tCB r t):=⟨sv hc.out hg hm hv ha.out hn hn2 hdb⟩
theorem bF {T:String} {r:RC} (hc:QC X (.type T) r) (hg:Gl X x) (hm:X.mg x=none) (hv:bootBuiltins x=some (.type T)) (ha:QA X (e::es) t) (hn:(e::es).all bA=true:=by rfl) (hn2:x≠"__name__":=by decide) (hdb:(x == ("__debug__" : Str))=false:=by decide) :
  QE X (.Call (.Name x p) (e::es) [] pos) (tCB r t):=⟨qC hc.out hg hm hv ha.out hn hn2 hdb⟩
theorem aq {CX:CXT} {fd:FuncData} {ps:List Str} {sp:Sp} {E:XK} (F:FnOk X.prog X.w X.K X.mg X.base CX k f fd ps sp) (hr:Room k X.A) (hg:Gl X x) (hm:X.mg x=some (.ref f)) (hk:Jk X.K (.ref f)=true) (hb:Binds X.K fd ps []) (hx:dg CX X E)
  (ha:QA X (e::es) t) (hn:(e::es).all bA=true:=by rfl) (hdb:(x == ("__debug__" : Str))=false:=by decide):QE X (.Call (.Name x p) (e::es) [] pos) (nO sp [] E t):=⟨vV F hr hg hm hk hb hx ha.out hn hdb⟩
theorem wa {CX:CXT} {fd:FuncData} {ps:List Str} {sp:Sp} {E:XK} (F:FnOk X.prog X.w X.K X.mg X.base CX k f fd ps sp) (hr:Room k X.A) (hg:Gl X x) (hm:X.mg x=some (.ref f)) (hk:Jk X.K (.ref f)=true) (hb:Binds X.K fd ps []) (hx:dg CX X E)
  (hdb:(x == ("__debug__" : Str))=false:=by decide):QE X (.Call (.Name x p) [] [] pos) (nO sp [] E A8):=⟨vJ F hr hg hm hk hb .nil hx hdb⟩
theorem mi {K:Ih} (ho:QE X o to) (ha:QA X [e] t) (hbase:attributeBase o ("append" : Str) X.env (eval o X.env)=eval o X.env:=by rfl) (hline:(apos.endLine == cpos.line)=true:=by rfl) (hn:bA e=true:=by rfl) (hK:X.K=K:=by rfl) :
  QE X (.Call (.Attribute o "append" apos) [e] [] cpos) (tBM K "list" nT to t):=by subst hK; exact ⟨o9 Mw PySem.F.slot_list_append PySem.F.type_list_append sj ho.out ha.out hbase hline hn⟩
variable {tg iter:Expr} {wi:TI} {g:TG} {i:Nat} {u:TGs}
theorem sI {p pos:Pos} (hg:Gl X "range") (hm:X.mg "range" = none) (ha:QA X [a] t) (hn:bA a=true:=by rfl):QI X tg (.Call (.Name "range" p) [a] [] pos) (yU t):=⟨rQ hg hm ha.out (aB hn)⟩
theorem bG {K:Ih} (hl:QE X e te) (hK:X.K=K:=by rfl):QI X tg e (yS K te):=by subst hK; exact ⟨yT hl.out⟩
theorem ay (hN:X.N.Nodup) (hi:X.N[i]? = some x) (hx:Loc X.env.scope x) (hf:X.fn x=true\/X.env.scope.names.lookup x=some .local:=by first | exact .inl rfl | exact .inr rfl | assumption):QG X (.Name x pos) (eY i):=⟨yP hN hi hx hf⟩
theorem bH:QGs X [] Dz:=⟨yQ⟩
theorem az {ts:List Expr} (h1:QG X e g) (h2:QGs X ts u) (hs:(assignEach (e::ts) X.env).map (·.2)=assign e X.env::(assignEach ts X.env).map (·.2):=by rfl):QGs X (e::ts) (nM g u):=⟨vC h1.out h2.out hs⟩
theorem dj {K:Ih} {ts:List Expr} (hc:X.calm=true) (h:QGs X ts u) (hn:(assignEach ts X.env).length=n:=by rfl) (hst:(assignEach ts X.env).findIdx? (·.1)=none:=by rfl) (hK:X.K=K:=by rfl):QG X (.Tuple ts k pos) (DA K n u):=by subst hK; exact ⟨BM hc h.out hn hst⟩
variable {st:Stmt} {sts s1 s2:List Stmt} {T1 T2:TS}
theorem aZ:QB X [] yJ:=⟨yK⟩
theorem ad (h1:QS X st T1) (h2:QB X sts T2):QB X (st::sts) (Eo T1 T2):=⟨vA h1.out h2.out⟩
theorem am (h1:QS X st T1):QB X [st] T1:=⟨yL h1.out⟩
theorem av (he:QE X e te):QS X (.Return (some e) pos) (Ep te):=⟨BL he.out⟩
theorem aP:QS X st xA:=⟨vB⟩
theorem n6 (he:QE X e te) (hs:swapsWith e none pos.line X.env=pure false:=by rfl):QS X (.Expr e pos) (yN te):=⟨yO he.out hs⟩
theorem cw (hc:QT X c tA) (ha:QB X s1 T1) (hb:QB X s2 T2):QS X (.If c s1 s2 pos) (Er tA T1 T2):=⟨Es hc.out ha.out hb.out⟩
theorem ax {pos':Pos} (hN:X.N.Nodup) (hi:X.N[i]? = some x) (hx:Loc X.env.scope x) (he:QE X e te) (hs:swapsWith e (some (.Name x pos')) pos.line X.env=pure false:=by rfl) (hf:X.fn x=true\/X.env.scope.names.lookup x=some .local:=by first | exact .inl rfl | exact .inr rfl | assumption) :
  QS X (.Assign [.Name x pos'] e pos) (vd te (eY i)):=⟨BO hN hi hx he.out hs hf⟩
theorem xJ {tpos:Pos} (he:QE X e te) (ho:QE X o to) (hi:QE X b tb)
  (ha:∀ v,assign (.Subscript o b tpos) X.env v=(do
   let ov <-holding [v] (eval o X.env)
   let iv <-holding [v,ov] (eval b X.env)
   standAt tpos
   holding [v,ov,iv] (setItem ov iv v)
   release [v,ov,iv] []):=by intro _; rfl)
  (hs:swapsWithSole [.Subscript o b tpos] e pos.line X.env=pure false:=by rfl) (hw:swappedStores [.Subscript o b tpos] e X.env=pure none:=by rfl)
  (h1:(assignEach [.Subscript o b tpos] X.env).map (·.2)=[assign (.Subscript o b tpos) X.env]:=by rfl):QS X (.Assign [.Subscript o b tpos] e pos) (vd te (Et to tb zh)):=⟨xB he.out (BN ho.out hi.out vP ha) hs hw h1⟩
theorem wb (hp:PassesOwn (model X.prog X.w) X.A X.env X.xe) (hc:QT X c tA) (hb:QB X sts T1):QS X (.While c sts [] pos) (xC tA T1):=⟨vD hp hc.out hb.out⟩
theorem mj (hp:PassesOwn (model X.prog X.w) X.A X.env X.xe) (hc:X.calm=true) (hi:QI X tg iter wi) (hg:QG X tg g) (hb:QB X sts T1) (hs:∀ x,foldedSetIterable iter X.env x=pure x:=by intro _; rfl):QS X (.For tg iter sts [] pos) (Eu wi g T1):=⟨BP hp hc hi.out hg.out hb.out hs⟩
theorem gC {N tgs frs:List Str} {cl:List (Str×Addr)} (c:CompOk X N tgs frs ix scope cl) (hc:X.calm=true) (hi:QI X tg iter wi)
  (hg:∀ fp C s H,QG (aj X N scope cl fp C s H) tg g) (he:∀ fp C s H,QE (aj X N scope cl fp C s H) elt te)
  (hs:∀ x,foldedSetIterable iter X.env x=pure x:=by intro _; rfl) :
  QE X (.ListComp elt [⟨tg,iter,[],0⟩] scope pos) (ss wi g te tgs ix):=⟨zk c hc hi.out (λ fp C s H=>(hg fp C s H).out) (λ fp C s H=>(he fp C s H).out) hs⟩
theorem lq:QOp X (binaryOp .Add) (rI0 λ i j=>.int (i+j)):=⟨BQ⟩
theorem Fa:QOp X (binaryOp .Sub) (rI0 λ i j=>.int (i - j)):=⟨BR⟩
theorem mm:QOp X (binaryOp .Mult) (rI CMul λ i j=>.int (i*j)):=⟨BS⟩
theorem ls:QOp X (binaryOp .FloorDiv) (rI vR λ i j=>.int (i / j)):=⟨vS⟩
theorem n8:QOp X (binaryOp .Mod) (rI (λ _ j=>0<j) λ i j=>.int (i % j)):=⟨BU⟩
theorem Fb:QOp X (binaryOp .Pow) (rI DB λ i j=>.int (i ^ j.toNat)):=⟨BV⟩
theorem iX:QOp X (binaryOp .Add) xG:=⟨B8⟩
theorem Fc:QOp X (binaryOp .Mult) FV:=⟨B9⟩
theorem ve:QOp X (compareOp .Eq) rEq:=⟨EA⟩
theorem zt:QOp X (compareOp .NotEq) rNe:=⟨EB⟩
theorem DI:QOp X (compareOp .Lt) (rI0 λ i j=>.bl (decide (i<j))):=⟨EC⟩
theorem Fd:QOp X (compareOp .Gt) (rI0 λ i j=>.bl (decide (j<i))):=⟨ED⟩
theorem Hg:QOp X (compareOp .GtE) (rI0 λ i j=>.bl (decide (j<=i))):=⟨EE⟩
theorem zu:QUn X (unaryOp .USub) (rU λ i=>.int (-i)):=⟨BW⟩
theorem cx {K:Ih} (hK:X.K=K:=by rfl):QIx X (DC K):=by subst hK; exact ⟨zg⟩
theorem sK {K:Ih} (hK:X.K=K:=by rfl):QIx X (EK K):=by subst hK; exact ⟨B4⟩
theorem zv {K:Ih} (hK:X.K=K:=by rfl):QSl X (EL K):=by subst hK; exact ⟨zi⟩
theorem xK:QC X (.builtin "abs") E3:=⟨Cc⟩
theorem Cn:QC X (.type "int") zo:=⟨Cd⟩
theorem Co (hc:X.calm=true):QC X (.builtin "min") zp:=⟨Ce hc⟩
theorem cy {K:Ih} (hK:X.K=K:=by rfl):QC X (.builtin "len") (E4 K):=by subst hK; exact ⟨Cf⟩
theorem Cp {K:Ih} (hc:X.calm=true) (hK:X.K=K:=by rfl):QC X (.builtin "all") (E5 K):=by subst hK; exact ⟨Cg hc⟩
theorem xL {K:Ih} (hK:X.K=K:=by rfl):QC X (.builtin "isinstance") (DE K):=by subst hK; exact ⟨Ch⟩
theorem ph {K:Ih} (hK:X.K=K:=by rfl):QC X (.type "tuple") (pb K):=by subst hK; exact ⟨vX⟩
end
section
variable {P:Program} {w:World} {K:Ih} {mg:Str->Option Value} {base:Heap}
theorem Fun.okQ {x:Str} {st:Stmt} {fd:FuncData} {N ps:List Str} {sp:Sp} (F:Fun K x qual st f fd) (S:FnScope N ps (ae st)) (len:∀ vs H Q E,sp vs H Q E->vs.length=ps.length)
  (hbody:∀ (cdv:Value) (A:Around) (outer:List Env) (s:Shared) (H:Hp) (vs:List V) (Q:VK) (E:XK),Room k (A.deeper (envOfC qual (ae st) s.heap.objs.size f cdv))->sp vs H Q E->
   ∃ t,QB (lS CX0 P w K mg base N qual (ae st) f cdv A outer s H E).nox (bE st) t/\t { nx:=λ _ H'=>Q .non H',rt:=Q } (aI N vs) H):FnOk P w K mg base CX0 (k+1) f fd ps sp:=
 F.ok S len λ cdv A outer s H vs Q E hr hsp=>by
  obtain ⟨t,h,q⟩:=hbody cdv A outer s H vs Q E hr hsp
  exact ⟨t,h.out,q⟩
end
section
variable {X:Cx} {e:Expr} {te:TE} {pos p1 p2 p3:Pos} {j:Nat}
end
section
variable {X:Cx}
end
section
variable {K:Ih} {σ:St} {H:Hp} {Q:VK} {D:Ends}
theorem zw {x y:V} {R:V->V->Prop} (h:R x y):∃ v w,[x,y]=[v,w]/\R v w:=⟨x,y,rfl,h⟩
theorem Hh {r:V->List V->Hp->VK->Prop} {T:String} (h:to σ H λ x H1=>tyV K T x H1/\t σ H1 λ xs H2=>r x xs H2 Q):tBM K T r to t σ H Q:=h
theorem mn {y:V} (s:H l=some (.lst xs)) (z:xs.length<sizeLine) (h:Q .non (upd H l (.lst (xs++[y])))):nT (.ref l) [y] H Q:=⟨l,xs,y,rfl,rfl,s,z,h⟩
theorem n9 (h:H l=some (.lst xs)):tyV K "list" (.ref l) H:=.inl ⟨rfl,_,PX h⟩
theorem Same.new {p:Addr} (e:Same H H1) (h:H1 p=none):Same H (upd H1 p o):=λ b u q=>by rw [ag (ao (e b u q) h)]; exact e b u q
theorem Same.own {p:Addr} (e:Same H H1) (h:H p=none):Same H (upd H1 p o):=λ b u q=>by rw [ag (ao q h)]; exact e b u q
end
noncomputable def Nx (n i:Nat) (P:Prop):Prop:=∃ m',m'<n - i/\m'=n - (i+1)/\i+1<=n/\P
theorem Nx.mk {P:Prop} (h:i<n) (p:P):Nx n i P:=⟨n - (i+1),by lia,rfl,h,p⟩
section
variable {K:Ih} {H:Hp} {g:TG} {te:TE} {σ0:St} {R:List V->Hp->Prop}
theorem fJ {vs:List V} (Pv:Nat->List V->St->Hp->Prop) (hz:vs.length<sizeLine) (hl:∀ i ys σ H,Pv i ys σ H->ys.length=i) (ht:∀ i ys σ H,Pv i ys σ H->SqL K H a vs) (h0:Pv 0 [] σ0 H)
  (hs:∀ i ys σ H x,vs[i]? = some x->Pv i ys σ H->g x σ H λ σ2 H2=>te σ2 H2 λ y H3=>Nx vs.length i (Pv (i+1) (ys++[y]) σ2 H3)) (hd:∀ ys σ H,Pv vs.length ys σ H->R ys H) :
  ∃ W:Nat->Nat->List V->St->Hp->Prop,(∃ m,W 0 m [] σ0 H)/\∀ i m xs σc H,W i m xs σc H->xs.length<sizeLine/\
  (((Itl K a).stop i H/\R xs H)\/((Itl K a).go i H/\∀ x H',(Itl K a).yld i H x H'->g x σc H' λ σ2 H2=>te σ2 H2 λ y H3=>∃ m',m'<m/\W (i+1) m' (xs++[y]) σ2 H3)):=by
 refine ⟨λ i m xs σ H=>m=vs.length - i/\i<=vs.length/\Pv i xs σ H,⟨vs.length,by simp,IZ _,h0⟩,?_⟩
 rintro i m xs σ H ⟨rfl,hi,p⟩
 have q:=ht i xs σ H p
 refine ⟨by rw [hl i xs σ H p]; exact JB hi hz,?_⟩
 by_cases hlt:i<vs.length
 ·refine .inr ⟨⟨vs,vs[i],q,by simp [hlt]⟩,λ x H' y=>?_⟩
  obtain ⟨e,y⟩:=y
  subst e
  exact hs i xs σ _ x (y vs q) p
 ·have e:i=vs.length:=by lia
  subst e
  exact .inl ⟨⟨vs,q,Im _⟩,hd xs σ H p⟩
end
section
variable {X:Cx} {N tgs frs:List Str} {ix:List Nat} {scope:Scope} {cl:List (Str×Addr)}
theorem zx {iy:Nat} (hN:X.N.Nodup) (hy:X.N[iy]? = some y) (hx:Loc X.env.scope y) (c:CompOk X N tgs frs ix scope cl) (hc:X.calm=true) (hi:PI X tg iter wi)
  (hg:∀ fp C s H,PG (aj X N scope cl fp C s H) tg g) (he:∀ fp C s H,PE (aj X N scope cl fp C s H) elt te)
  (hs:∀ x,foldedSetIterable iter X.env x=pure x:=by intro _; rfl)
  (hsw:swapsWith (.ListComp elt [⟨tg,iter,[],0⟩] scope pos) (some (.Name y py)) spos.line X.env=pure true:=by rfl)
  (hf:X.fn y=true\/X.env.scope.names.lookup y=some .local:=by first | exact .inl rfl | exact .inr rfl | assumption) :
  PS X (.Assign [.Name y py] (.ListComp elt [⟨tg,iter,[],0⟩] scope pos) spos) (vd (ss wi g te tgs ix) (eY iy)):=by
 intro pins s σ H Dn I h
 rw [exec_Assign_Name_used _ _ _ _ hsw]
 refine wpAny_bind (wpAny_standAt (wpAny_bind ?_))
 show wpAny _ X.A (do let _ <-comprehension (.ListComp elt [⟨tg,iter,[],0⟩] scope pos) scope X.env _ (newList []) false (eval iter X.env) (some (assign (.Name y py) X.env))) _ _ s
 refine wpAny_bind (wpAny_mono (wpAny_comprehension_free (use:=some (assign (.Name y py) X.env)) (Q:=λ _ s'=>SP X pins Dn .next s') rfl hs c.clos c.kind c.names (thn (hi pins s σ H _ I h) λ xv s1 h1=>thn h1 λ itv s2 h2=>?_)) (λ _ s' hq=>wpAny_pure (wpAny_pure hq)) λ _ _ e=>e)
 obtain ⟨it,fp,tn,J,H2,rfl,I2,T,st2,f2,W,⟨m0,w0⟩,turn⟩:=h2
 have hfl:∀ b∈fp,b<s2.heap.objs.size:=λ b hb=>by
  obtain ⟨o,e,_⟩:=T.obj _ _ st2 b hb
  exact Ip e
 have hcn:∀ x a,cl.lookup x=some a->X.env.cells.lookup x=some a:=c.cls.get
 refine wpAny_newObj_type (wpAny_newFunctionEnv c.cell (by intro y hy; simp at hy) (λ h1 hns1 hsb1=>?_) c.kind)
 dsimp only at hns1 hsb1 ⊢
 generalize hH2:s2.heap.push { cls:=.type "list",dict:=none,data:=.seq ([]:List Value).toArray }=G2 at hns1 hsb1 ⊢
 have hC:G2.objs.size=s2.heap.objs.size+1:=by rw [<-hH2,Kg]
 generalize hCC:G2.objs.size=C at *
 generalize hDD:s2.heap.objs.size=D at *
 have hDC:D≠C:=by lia
 have hCle:D<=C:=by lia
 have old:∀ b o,s2.heap.get? b=some o->h1.get? b=some o:=λ b o e=>by
  have lt:b<s2.heap.objs.size:=Ip e
  exact hsb1.extBut b o (Iy (Iu (hDD▸lt) hCle)) (Ij _ (hH2▸Ij _ e))
 have hacc:h1.get? D=some (aA [] 0):=hsb1.extBut _ _ hDC (Ij _ (hH2▸(hDD▸Iz _ rfl)))
 have cellD:∀ x a,X.env.cells.lookup x=some a->a<D:=λ x a e=>by
  obtain ⟨v,q⟩:=I2.cell x a e
  exact hDD▸q.lt
 have fpc:∀ {H':Hp} {us:List Value} {k:Nat},(∀ b∈fp,H' b=none)->∀ b∈fp,qm (aj X N scope cl fp C s2 H2) [(D,aA us k)] H' b:=λ {H' us k} hn b hb=>by
  have lb:=hfl b hb
  refine ⟨hn b hb,?_,λ z=>?_,.inl hb,λ x a e z=>?_,λ p hp=>?_⟩
  ·exact Iy (Iu lb hCle)
  ·rcases Io.mp (I2.stkSub b z) with e | e
   ·exact (f2 b hb).2.1 e
   ·exact (f2 b hb).2.2.1 e
  ·exact (f2 b hb).2.2.2.2.1 x a (hcn x a e) z
  ·have:p=(D,aA us k):=by simpa [aj] using hp
   rw [this]; exact JX lb
 have D_fs:D∉(aj X N scope cl fp C s2 H2).fs:=λ z=>by
  rcases Io.mp (I2.stkSub D z) with e | e
  ·exact absurd I2.lt (by rw [<-e,hDD]; exact Jr _)
  ·exact I2.nofs (Ju hDD) e
 have I3:=iI (tk:=s2.toks+([]:List (Str×Value)).length) (pins':=[(D,aA [] 0)]) c I2 f2 (λ b hb=>hDD▸hfl b hb) (hDD▸hCle:s2.heap.objs.size<=C) hns1 old (λ p hp=>by
  have e:p=(D,aA [] 0):=by simpa using hp
  subst e
  exact ⟨hacc,Ju hDD,hDC,λ v z=>by cases z⟩)
 have tn3:tn 0 h1:=T.keep _ _ _ st2 λ b _ o e=>old b o e
 have loop:codeAny (model X.prog X.w) X.A (.compLoop (.ListComp elt [⟨tg,iter,[],0⟩] scope pos) 0 (.ref it) (.ref D) (compEnvC scope cl C X.env))
   (compPost (model X.prog X.w) X.A X.xe (some (assign (.Name y py) X.env)) (λ _ s'=>SP X pins Dn .next s') (.ref D) C) { s2 with heap:=h1,toks:=s2.toks+([]:List (Str×Value)).length }:=by
  refine gX (λ n s'=>∃ i xs us k σc H',Inv (aj X N scope cl fp C s2 H2) [(D,aA us k)] σc H' s'/\tn i s'.heap/\(∀ b∈fp,H' b=none)/\Vals xs us/\W i n xs σc H') ?_ m0
   ⟨0,[],[],0,_,H2,I3,tn3,λ b hb=>(f2 b hb).1,.nil,w0⟩
  rintro n s4 ⟨i,xs,us,k,σ4,H4,I4,tn4,fr4,rv,w4⟩
  obtain ⟨hsz,tt⟩:=turn i n xs σ4 H4 w4
  rcases tt with ⟨stop,fin⟩ | ⟨go,step⟩
  ·refine thn (T.done (aj X N scope cl fp C s2 H2) rfl rfl rfl hc i _ s4 σ4 H4 _ I4 (fpc fr4) tn4 stop) λ r s5 ⟨hr,I5⟩=>?_
   subst hr
   obtain ⟨m,ns,_⟩:=I5.loc
   have J1:Inv X pins σ H4 s5:=I2.call' I5.os I5.base I5.hok I5.bare λ b hb=>⟨(f2 b hb).2.2.2.1,(f2 b hb).2.1,(f2 b hb).2.2.2.2.1,(f2 b hb).2.2.2.2.2⟩
   have big:∀ a,D<=a->a≠X.env.locals/\(a∈X.ex\/X.s₀.heap.objs.size<=a)/\(∀ x y,X.env.cells.lookup x=some y->y≠a)/\∀ p∈X.pn++pins,p.1≠a:=λ a ha=>by
    obtain ⟨q0,q1,q2,q3,q4,q5⟩:=I2.fpOk (b:=a) (H':=λ _=>none) (hDD▸ha) rfl
    exact ⟨q1,q3,q4,q5⟩
   have nfs:∀ a,D<=a->a∉X.fs:=λ a ha=>I2.nofs (hDD▸ha)
   obtain ⟨b1,b2,b3,b4⟩:=big C hCle
   obtain ⟨p1,p2,p3,p4,p5⟩:=I5.pin (D,aA us k) (by simp)
   obtain ⟨d1,d2,d3,d4⟩:=big D (Im _)
   have J3:Inv X pins σ (upd H4 D (.lst xs)) s5:=J1.adopt p2 d1 d2 d3 d4 ⟨JD hsz,us,k,rv,p1⟩
   obtain ⟨oC,esC,epC,hoC,hdC,rC⟩:=id ns
   have hHC:(upd H4 D (.lst xs)) C=none:=by rw [ag (Jj hDC)]; exact I5.free
   have J4:Inv X (pins++[(C,oC)]) σ (upd H4 D (.lst xs)) s5:=J3.pins_of λ p hp=>by
    rcases IN.mp hp with z | z
    ·exact J3.pin p (Ik _ z)
    ·have e:p=(C,oC):=by simpa using z
     subst e
     exact ⟨hoC,hHC,b1,nfs C hCle,λ v z=>by rw [hdC] at z; cases z⟩
   show wpAny _ X.A (assign (.Name y py) X.env (.ref D)) _ _ s5
   refine wpAny_assign_Name (fH J4 hN hy hx (v:=.ref D) rfl (λ s6 J5=>?_) hf)
   have hC6:=(J5.pin (C,oC) (Ik _ (Ik _ (by simp)))).1
   refine ⟨m,⟨oC,esC,epC,hC6,hdC,rC⟩,λ h' sb=>?_⟩
   have J6:Inv X pins (σ.set iy (some (.ref D))) (upd H4 D (.lst xs)) s6:=J5.unpinned
   have J7:Inv X pins (σ.set iy (some (.ref D))) (upd H4 D (.lst xs)) { s6 with heap:=h' }:=J6.turned (t':=s6.toks) (λ b o hb e=>sb.extBut b o hb e) hHC b1 b2 b3 b4
   exact ⟨_,_,J7,fin D p2⟩
  ·refine thn (T.item (aj X N scope cl fp C s2 H2) rfl rfl rfl hc i _ s4 σ4 H4 _ I4 (fpc fr4) tn4 go) λ r s5 ⟨u,hr,h5⟩=>?_
   subst hr
   refine thn h5 λ _ s6 ⟨x,H6,I6,r6,y6,tn6,fr6⟩=>?_
   have I6':=I6.pinned (fpc fr6) (T.obj _ _ tn6)
   refine thn (hg fp C s2 H2 _ s6 σ4 H6 x u _ I6' r6 (step x H6 y6)) λ _ s7 ⟨σ7,H7,I7,q7⟩=>?_
   refine thn (he fp C s2 H2 _ s7 σ7 H7 _ I7 q7) λ yv s8 ⟨y,H8,I8,r8,m',hm,w8⟩=>?_
   obtain ⟨p1,p2,p3,p4,p5⟩:=I8.pin (D,aA us k) (by simp [aj])
   have hsz':us.toArray.size<=sizeLine:=by simp; rw [<-rv.length]; exact JD hsz
   refine wpAny_list_append_plain (hsz:=hsz') ⟨k,p1⟩ λ h' pl sb=>?_
   have tn8:tn (i+1) s8.heap:=T.keep _ _ _ tn6 λ b hb o e=>(I8.pin (b,o) (Ik _ (Ik _ (aD hb e)))).1
   have fr8:∀ b∈fp,H8 b=none:=λ b hb=>by
    obtain ⟨o,e,d⟩:=T.obj _ _ tn6 b hb
    exact (I8.pin (b,o) (Ik _ (Ik _ (aD hb e)))).2.1
   have I9:Inv (aj X N scope cl fp C s2 H2) [] σ7 H8 s8:=I8.pins_of λ p hp=>nomatch hp
   have I10:Inv (aj X N scope cl fp C s2 H2) [] σ7 H8 { s8 with heap:=h' }:=I9.turned (t':=s8.toks) (it:=D) (λ b o hb e=>sb.extBut b o hb e) p2 p3 (.inr (Ju hDD))
    (λ x a e=>Iy (cellD x a (hcn x a e))) (λ p hp=>by simp [aj] at hp)
   obtain ⟨k',pl⟩:=pl
   have eu:us.toArray.push yv=(us++[yv]).toArray:=by simp
   rw [eu] at pl
   have I11:Inv (aj X N scope cl fp C s2 H2) [(D,aA (us++[yv]) k')] σ7 H8 { s8 with heap:=h' }:=I10.pins_of λ p hp=>by
    have e:p=(D,aA (us++[yv]) k'):=by simpa using hp
    subst e
    exact ⟨pl,p2,p3,p4,λ v z=>by cases z⟩
   exact ⟨m',hm,i+1,xs++[y],us++[yv],k',σ7,H8,I11,T.keep _ _ _ tn8 λ b hb o e=>sb.extBut b o (Iy (hfl b hb)) e,fr8,rv.append (.cons r8 .nil),w8⟩
 exact codeAny_compStart_list loop (T.self _ 0 _ _ _ tn3 loop)
end
section
variable {X:Cx} {N tgs frs:List Str} {ix:List Nat} {scope:Scope} {cl:List (Str×Addr)}
theorem zy (hN:X.N.Nodup) (hy:X.N[i]? = some y) (hx:Loc X.env.scope y) (c:CompOk X N tgs frs ix scope cl) (hc:X.calm=true) (hi:QI X tg iter wi)
  (hg:∀ fp C s H,QG (aj X N scope cl fp C s H) tg g) (he:∀ fp C s H,QE (aj X N scope cl fp C s H) elt te)
  (hs:∀ x,foldedSetIterable iter X.env x=pure x:=by intro _; rfl)
  (hsw:swapsWith (.ListComp elt [⟨tg,iter,[],0⟩] scope pos) (some (.Name y py)) spos.line X.env=pure true:=by rfl)
  (hf:X.fn y=true\/X.env.scope.names.lookup y=some .local:=by first | exact .inl rfl | exact .inr rfl | assumption) :
  QS X (.Assign [.Name y py] (.ListComp elt [⟨tg,iter,[],0⟩] scope pos) spos) (vd (ss wi g te tgs ix) (eY i)):=
 ⟨zx hN hy hx c hc hi.out (λ fp C s H=>(hg fp C s H).out) (λ fp C s H=>(he fp C s H).out) hs hsw hf⟩
end
section
variable {prog:Program} {w:World} {A:Around} {E:Value->Shared->Prop} {s:Shared}
end
section
variable {X:Cx} {pos:Pos} {u:TGs}
end
section
variable {X:Cx} {pins:List (Addr×Obj)} {σ:St} {H:Hp} {s:Shared} {h':Heap}
theorem Inv.turnedAll (I:Inv X pins σ H s) (k:∀ b o,b∉ch->s.heap.get? b=some o->h'.get? b=some o) (hf:∀ b∈ch,qm X pins H b):Inv X pins σ H { s with heap:=h',toks:=t' }:=by
 have nit:∀ b u,H b=some u->b∉ch:=λ b u e z=>by rw [(hf b z).1] at e; cases e
 refine I.step (g':=s.gens) (d':=s.drawn) (ch:=ch) (λ b hb=>?_) (λ b o _ _ hc e _=>k b o hc e) (λ b o _ _ hc e _=>⟨o.slots,k b o hc e⟩) (λ _ _ _ _ n=>n)
  (λ b o hc e=>⟨o,k b o hc e⟩) (λ _ _ e=>e) (λ _ _ _ e=>e) (λ b ps e=>⟨#[],by rw [e]; simp⟩) (λ m hm=>?_) (λ b u e=>?_) I.bare
 ·obtain ⟨_,f1,_,f3,f4,f5⟩:=hf b hb
  exact ⟨f3,f1,f4,f5⟩
 ·obtain ⟨o,es,ep,q,r⟩:=hm
  exact ⟨o,es,ep,k _ o (λ z=>(hf _ z).2.1 rfl) q,r⟩
 ·refine (I.hok b u e).stay (λ c v hc q=>k c v ?_ q) (λ _ q=>q) λ _ _ q=>q
  rcases hc with z | z
  ·rw [z]; exact nit b u e
  ·exact nit c _ z
end
section
variable {X:Cx}
noncomputable def Fe (K:Ih):RC:=λ xs H Q=>∃ (p:Addr) (ns:List Int),xs=[.ref p]/\(SqL K H p (ns.map PY)\/SqT K H p (ns.map PY))/\ns≠[]/\∀ M,M∈ns->(∀ a∈ns,M<=a)->Q (.int M) H
theorem ku {zs:Array (Int×Tok)} {ns:List Int} (hn:zs.toList.map (·.1)=ns) (i:Nat):numAt zs i=ns.getD i 0:=by
 subst hn
 unfold numAt
 rw [IH,Ji,Lq]
theorem pi {zs:Array (Int×Tok)} {ns:List Int} (hn:zs.toList.map (·.1)=ns) (h0:ns≠[]):let M:=numAt zs (argBest (λ i j=>decide (numAt zs i<numAt zs j)) (zs.size - 1)); M∈ns/\∀ a∈ns,M<=a:=by
 have hz:ns.length=zs.size:=by rw [<-hn]; simp
 have hp:0<ns.length:=LM.mpr h0
 obtain ⟨b1,b2⟩:=argBest_lt (numAt zs) (zs.size - 1)
 refine ⟨?_,λ a ha=>?_⟩
 ·rw [ku hn,IH,IF (by lia)]
  exact JK _
 ·obtain ⟨j,hj,rfl⟩:=Lz.mp ha
  have:=b2 j (by lia)
  rw [ku hn j,IH,IF hj] at this
  exact this
theorem kv {ns:List Int} (rv:Vals (ns.map PY) its):∃ zs:Array (Int×Tok),its.toArray=intItems zs/\zs.toList.map (·.1)=ns:=by
 have hi:IntsAre its ns:=eB rv
 obtain ⟨zs,hx⟩:=hi.allInts.items
 have hn:numsOf its.toArray.toList=ns:=by rw [show its.toArray.toList=its from rfl,hi.numsOf]
 rw [hx,nums_intItems] at hn
 exact ⟨zs,hx,hn⟩
theorem sS {t:Addr} {items:Array Value} (ht:h.IsTuple t items):∀ b∈[h.objs.size,t],b<(h.push { cls:=.type "tuple_iterator",data:=.fields #[.ref t,.int 0 0] }).objs.size:=by
 intro b hb
 rw [Kg]
 obtain ⟨_,e,_⟩:=ht
 simp only [Io,JC,or_false] at hb
 rcases hb with rfl | rfl
 ·exact Ll _
 ·exact Mg (Ip e)
theorem wc {g:Heap} {o:Obj} (hk:∀ b u,b∉[h.objs.size]->(h.push o).get? b=some u->g.get? b=some u):∀ b u,h.get? b=some u->g.get? b=some u:=λ b u e=>by
 refine hk b u ?_ (Ij _ e)
 intro hm
 have e2:b=h.objs.size:=by simpa using hm
 exact absurd (e2▸Ip e) (Jr _)
theorem zA {K:Ih} (hc:X.calm=true) (hK:X.K=K:=by rfl):QC X (.builtin "min") (Fe K):=by
 subst hK
 refine ⟨λ pins s σ H xs us Q I r h=>?_⟩
 obtain ⟨p,ns,rfl,hq,h0,q⟩:=h
 obtain ⟨u,rfl,ru⟩:=eZ r
 cases ru
 rcases hq with hq | hq
 ·obtain ⟨its,rv,hp,hz⟩:=I.list hq
  obtain ⟨zs,hx,hn⟩:=kv rv
  have hl:=hp.isList
  rw [hx] at hl
  obtain ⟨m1,m2⟩:=pi hn h0
  refine min_intList (I.ok.hd hc) hl ?_ λ v h' tk hv hk=>?_
  ·have:zs.toList.length=ns.length:=by rw [<-hn]; simp
   have:=LM.mpr h0
   simp at *; lia
  ·obtain ⟨t,rfl⟩:=intItems_at hv
   exact ⟨.int _,H,I.kept hk,⟨t,rfl⟩,q _ m1 m2⟩
 ·obtain ⟨its,rv,hp,hz⟩:=I.tuple hq
  obtain ⟨zs,hx,hn⟩:=kv rv
  have ht:s.heap.IsTuple p (intItems zs):=by rw [<-hx]; exact hp
  have hlt:p<s.heap.objs.size:=by obtain ⟨_,e,_⟩:=ht; exact Ip e
  obtain ⟨m1,m2⟩:=pi hn h0
  refine call_min_walk (wpAny_pyIter_tuple ht ?_)
  refine ⟨_,_,_,_,_,_,_,rfl,Walks.tuple (A:=X.A.in1) (I.ok.hd hc) _ p (Iy hlt) (intItems zs),⟨⟨_,Iz _ rfl,rfl,rfl⟩,ht.push _⟩,sS ht,?_,CmpOf.ints_lt (numAt zs) (λ _ _=>intItems_at),λ v h' tk hv hk=>?_⟩
  ·have:zs.toList.length=ns.length:=by rw [<-hn]; simp
   have:=LM.mpr h0
   simp [intItems] at *; lia
  ·have hv':(intItems zs)[argBest (λ i j=>decide (numAt zs i<numAt zs j)) (zs.size - 1)]? = some v:=by simpa [intItems] using hv
   obtain ⟨t,rfl⟩:=intItems_at hv'
   exact ⟨.int _,H,I.kept (wc hk),⟨t,rfl⟩,q _ m1 m2⟩
end
section
variable {K:Ih} {H:Hp} {Q:VK}
end
section
variable {prog:Program} {w:World} {A:Around} {E:Value->Shared->Prop} {s:Shared}
end
noncomputable def Ff (K:Ih) (a:Addr):It:=
 ⟨λ i H=>∃ xs x,SqL K H a xs/\xs[i]? = some x,λ i H v H'=>∃ p x,v=.ref p/\H p=none/\H'=upd H p (.tup [.int i,x])/\∀ xs,SqL K H a xs->xs[i]? = some x,λ i H=>∃ xs,SqL K H a xs/\xs.length=i⟩
theorem iY {o u:Obj} {x y:String} (e1:h.get? a=some o) (c1:o.cls=.type x) (e2:h.get? b=some u) (c2:u.cls=.type y) (hn:x≠y):a≠b:=λ z=>by
 subst z
 rw [e1] at e2
 cases e2
 rw [c1] at c2
 exact hn (by injection c2)
theorem Inv.pair {H:Hp} {s:Shared} {g:Heap} {v:Value} {x y:V} (I:Inv X pins σ H s) (k:∀ b o,b∉ch->s.heap.get? b=some o->g.get? b=some o) (hf:∀ b∈ch,qm X pins H b)
  (hg:g.get? s.heap.objs.size=some { cls:=.type "tuple",data:=.seq #[u,v] }) (rx:RelV x u) (ry:RelV y v):Inv X pins σ (upd H s.heap.objs.size (.tup [x,y])) { s with heap:=g,toks:=tk }/\H s.heap.objs.size=none:=by
 have I1:Inv X pins σ H { s with heap:=g,toks:=tk }:=I.turnedAll k hf
 have hn:H s.heap.objs.size=none:=I.hok.fresh (Im _)
 obtain ⟨_,f1,f2,f3,f4,f5⟩:=I.fpOk (Im _) hn
 refine ⟨I1.adopt hn f1 f3 f4 f5 ?_,hn⟩
 exact ⟨by show 2<=sizeLine; decide,[u,v],.cons rx (.cons ry .nil),⟨_,hg,rfl,_,rfl⟩⟩
theorem qD {w:World} {K:Ih} {elts:List Expr} (a e it:Addr) (hei:e≠it):Turn P w K (.Tuple elts k pos) (Ff K a) [e,it] e (λ i h=>(∃ old,IsEnum h e it i old)/\h.IsListIter it a i) where
 mem:=by simp
 obj:=λ i h st b hb=>by
  obtain ⟨⟨old,q⟩,o,q1,q2,q3⟩:=st
  simp only [Io,JC,or_false] at hb
  rcases hb with rfl | rfl
  ·exact ⟨_,q,λ v z=>by cases z⟩
  ·exact ⟨o,q1,λ v z=>by rw [q3] at z; cases z⟩
 keep:=λ i h h' st kk=>by
  obtain ⟨⟨old,q⟩,o,q1,q2⟩:=st
  exact ⟨⟨old,kk e (by simp) _ q⟩,o,kk it (by simp) o q1,q2⟩
 item:=by
  intro X hP hw hK hc i pins s σ H E I hf st hg
  subst hP hw hK
  obtain ⟨xs,x,hq,hx⟩:=hg
  obtain ⟨its,rv,p,hz⟩:=I.list hq
  obtain ⟨u,hu,ru⟩:=rv.get hx
  have hl:=rv.length
  have hil:i<its.toArray.size:=by have:=(IK.mp hu).1; simpa using this
  obtain ⟨⟨old,q⟩,q2⟩:=st
  have hne:a≠it:=by
   obtain ⟨o1,g1,g2,_⟩:=p.isList
   obtain ⟨o2,g3,g4,_⟩:=q2
   exact iY g1 g2 g3 g4 (by decide)
  have hea:e≠a:=by
   obtain ⟨o1,g1,g2,_⟩:=p.isList
   exact iY q rfl g1 g2 (by decide)
  refine wpAny_pyNext_enum_itemD (Pn (A:=X.A.in1) (I.ok.hd hc) it a hne its.toArray) q ⟨q2,p.isList⟩ hil hei (by simp [hei,hea]) λ y h' tk hP ho hs' hT hsz hk=>⟨_,rfl,wpAny_letOwnedTupleGo_enum ho λ g he' sb=>?_⟩
  have ey:y=u:=by
   have h1:its.toArray[i]? = some u:=by simpa using hu
   exact IR (hP.symm.trans h1)
  subst ey
  have hTe:s.heap.objs.size≠e:=JX (Ip q)
  have lt2:it<s.heap.objs.size:=by obtain ⟨o2,g3,_⟩:=q2; exact Ip g3
  obtain ⟨I2,hn⟩:=I.pair (g:=g) (tk:=tk+1) (ch:=[e,it]) (x:=.int i) (y:=x) (λ b o hb r=>(sb.2 b (λ z=>hb (by simp [z]))).trans (hk b o (λ z=>hb (by simp [z])) (λ z=>hb (by simp [z])) r)) hf ((sb.2 _ hTe).trans hT) ⟨tk,rfl⟩ ru
  refine ⟨.ref s.heap.objs.size,_,I2,rfl,⟨_,x,rfl,hn,rfl,λ ys hy=>by rw [I.list_inj hy hq]; exact hx⟩,⟨⟨_,by simpa using he'⟩,hs'.1.at λ o r=>(sb.2 it hei.symm).trans r⟩,λ b hb=>?_⟩
  simp only [Io,JC,or_false] at hb
  rcases hb with rfl | rfl
  ·rw [ag hTe.symm]; exact (hf _ (by simp)).1
  ·rw [ag (Iy lt2)]; exact (hf _ (by simp)).1
 done:=by
  intro X hP hw hK hc i pins s σ H E I hf st hg
  subst hP hw hK
  obtain ⟨xs,hq,hx⟩:=hg
  obtain ⟨its,rv,p,hz⟩:=I.list hq
  obtain ⟨⟨old,q⟩,q2⟩:=st
  have hl:=rv.length
  have hne:a≠it:=by
   obtain ⟨o1,g1,g2,_⟩:=p.isList
   obtain ⟨o2,g3,g4,_⟩:=q2
   exact iY g1 g2 g3 g4 (by decide)
  have hi:its.toArray.size=i:=by simp; lia
  subst hi
  refine wpAny_pyNext_enum_endD (Pn (A:=X.A.in1) (I.ok.hd hc) it a hne its.toArray) q ⟨q2,p.isList⟩ λ h' eb=>⟨rfl,I.turnedAll (t':=s.toks) (ch:=[it]) (λ b o hb r=>eb b o (λ z=>hb (by simp [z])) r) λ b hb=>hf b (by simp at hb; simp [hb])⟩
 self:=λ _ _ _ _ _ st h=>by
  obtain ⟨⟨old,q⟩,_⟩:=st
  exact wpAny_pyIter_enum q h
section
variable {X:Cx} {a b:Expr} {t:TA} {p pos tpos:Pos} {ts:List Expr} {k:Nat}
noncomputable def xM (K:Ih) (t:TA):TI:=λ σ H R=>t σ H λ vs H1=>∃ a,vs=[.ref a]/\(∃ xs,SqL K H1 a xs)/\R (Ff K a) H1
theorem sU {K:Ih} (hg:Gl X "enumerate") (hm:X.mg "enumerate" = none) (ha:QA X [a] t) (hn:bA a=true:=by rfl) (hK:X.K=K:=by rfl):QI X (.Tuple ts k tpos) (.Call (.Name "enumerate" p) [a] [] pos) (xM K t):=by
 subst hK
 refine ⟨λ pins s σ H R I h=>?_⟩
 refine Call_ (eG I hg hm (by decide +kernel:bootBuiltins "enumerate" = some (.type "enumerate")) (JA (thn (ha.out pos pins s σ H _ I h) λ us s1 ⟨vs,H1,I1,r1,q1⟩=>?_) (aB hn) rfl))
 obtain ⟨l,e,⟨xs,hq⟩,q⟩:=q1
 subst e
 cases r1 with
 | cons r rr=>
  cases rr
  cases r
  obtain ⟨its,rv,pl,hz⟩:=I1.list hq
  refine call_enumerate_list pl.isList λ g h1 h2 h3 h4=>wpAny_pyIter_enum h1 ?_
  have I2:Inv X pins σ H1 { s1 with heap:=g }:=I1.kept (t':=s1.toks) h4
  refine ⟨s1.heap.objs.size+1,[s1.heap.objs.size+1,s1.heap.objs.size],_,_,H1,rfl,I2,qD l _ _ (N1 _),⟨⟨_,h1⟩,h2⟩,λ c hc=>?_,q⟩
  have hle:s1.heap.objs.size<=c:=by
   simp only [Io,JC,or_false] at hc
   rcases hc with rfl | rfl
   ·exact KY _
   ·exact Im _
  exact I1.fpOk hle (I1.hok.fresh hle)
end
section
variable {K:Ih} {σ:St} {H:Hp} {Q:VK} {D:Ends} {g:TG} {te:TE} {tb:TS}
theorem DJ {R:It->Hp->Prop} (h:t σ H λ vs H1=>∃ a,vs=[.ref a]/\(∃ xs,SqL K H1 a xs)/\R (Ff K a) H1):xM K t σ H R:=h
theorem we {J:It} {σ0:St} {R:List V->Hp->Prop} (Pv:Nat->List V->St->Hp->Prop) (hz:n<sizeLine) (hl:∀ i ys σ H,Pv i ys σ H->ys.length=i) (h0:Pv 0 [] σ0 H) (hgo:∀ i ys σ H,i<n->Pv i ys σ H->J.go i H) (hst:∀ ys σ H,Pv n ys σ H->J.stop n H)
  (hs:∀ i x ys σ H H',i<n->Pv i ys σ H->J.yld i H x H'->g x σ H' λ σ2 H2=>te σ2 H2 λ y H3=>Nx n i (Pv (i+1) (ys++[y]) σ2 H3)) (hd:∀ ys σ H,Pv n ys σ H->R ys H) :
  ∃ W:Nat->Nat->List V->St->Hp->Prop,(∃ m,W 0 m [] σ0 H)/\∀ i m xs σc H,W i m xs σc H->xs.length<sizeLine/\
  ((J.stop i H/\R xs H)\/(J.go i H/\∀ x H',J.yld i H x H'->g x σc H' λ σ2 H2=>te σ2 H2 λ y H3=>∃ m',m'<m/\W (i+1) m' (xs++[y]) σ2 H3)):=by
 refine ⟨λ i m xs σ H=>m=n - i/\i<=n/\Pv i xs σ H,⟨n,by simp,IZ _,h0⟩,?_⟩
 rintro i m xs σ H ⟨rfl,hi,p⟩
 refine ⟨by rw [hl i xs σ H p]; exact JB hi hz,?_⟩
 by_cases hlt:i<n
 ·exact .inr ⟨hgo i xs σ H hlt p,λ x H' y=>hs i x xs σ H H' hlt p y⟩
 ·have e:i=n:=by lia
  subst e
  exact .inl ⟨hst xs σ H p,hd xs σ H p⟩
end
section
variable {K:Ih} {σ:St} {H:Hp} {Q:VK} {D:Ends}
theorem Gq {x:Str} (h:Q (.bl (decide (PZ x=PZ y))) H):rEq (.str x) (.str y) H Q:=⟨rfl,h⟩
theorem Gr {R:Bool->Hp->Prop} (h:ta σ H λ x H'=>∃ k,yY K x H' k/\R k H'):Gp K ta σ H R:=h
theorem Hi {r:V->Option Int->Option Int->Hp->VK->Prop} {tl th:TO} (h:te σ H λ x H1=>tl σ H1 λ l H2=>th σ H2 λ u H3=>r x l u H3 Q):tSl r te tl th σ H Q:=h
theorem Fg {t:TE} {R:Option Int->Hp->Prop} (h:t σ H λ x H1=>∃ i,x=.int i/\R (some i) H1):zd t σ H R:=h
theorem Cq {R:Option Int->Hp->Prop} (h:R none H):nQ σ H R:=h
theorem eD {p:Addr} {x y:V} {R:St->Hp->Prop} (e:H p=some (.tup [x,y])) (h:R ((σ.set i (some x)).set j (some y)) H):DA K 2 (nM (eY i) (nM (eY j) Dz)) (.ref p) σ H R:=
 ⟨p,_,rfl,SqT.of e,rfl,_,_,rfl,_,_,rfl,rfl,h⟩
theorem Cr {p:Addr} (h:SqL K H p xs):yY K (.ref p) H (!xs.isEmpty):=.inl ⟨xs,h,rfl⟩
theorem lu {α:Type} {f:α->V} {xs:List α} {x:V} (h:(xs.map f)[i]? = some x):∃ z,x=f z/\xs[i]? = some z/\z∈xs/\i<xs.length:=by
 rw [Ji] at h
 cases e:xs[i]? with
 | none=>rw [e] at h; cases h
 | some z=>rw [e] at h; exact ⟨z,(IR h).symm,rfl,JO e,(IK.mp e).1⟩
end
section
variable {X:Cx} {e:Expr} {te:TE} {g:TG} {pos tpos:Pos} {ts:List Expr} {k:Nat}
theorem og (he:QE X e te) (hg:QG X (.Tuple ts k tpos) g) (hs:swapsWithSole [.Tuple ts k tpos] e pos.line X.env=pure false:=by rfl) (hw:swappedStores [.Tuple ts k tpos] e X.env=pure none:=by rfl)
  (h1:(assignEach [.Tuple ts k tpos] X.env).map (·.2)=[assign (.Tuple ts k tpos) X.env]:=by rfl):QS X (.Assign [.Tuple ts k tpos] e pos) (vd te g):=⟨xB he.out hg.out hs hw h1⟩
end
section
variable {K:Ih} {σ:St} {H:Hp}
end
theorem oh:∀ {xs:List V} {us:List Value},xs.length=us.length->(∀ (i:Nat) x u,xs[i]? = some x->us[i]? = some u->RelV x u)->Vals xs us
 | [],[],_,_=>.nil
 | [],_::_,h,_=>by simp at h
 | _::_,[],h,_=>by simp at h
 | x::xs,u::us,h,r=>.cons (r 0 x u rfl rfl) (oh (by simpa using h) λ i y v a b=>r (i+1) y v (by simpa using a) (by simpa using b))
section
variable {X:Cx} {a b e o:Expr} {es:List Expr} {t:TA} {te to tb:TE} {p p2 pos pos2 apos cpos tpos:Pos}
noncomputable def cH (lo n:Nat):List V:=(IC n).map λ i=>PY ((lo+i:Nat):Int)
noncomputable def xN (t:TA):TE:=λ σ H Q=>t σ H λ vs H1=>∃ j:Nat,vs=[.int j]/\j<=1000/\∀ l,H1 l=none->Q (.ref l) (upd H1 l (.lst (cH 0 j)))
theorem Hj {H:Hp} {s:Shared} {Q:VK} {t u v:Tok} (hc:X.calm=true) (I:Inv X pins σ H s) (h1:i<=1000) (h2:j<=1000) (h3:i<=j) (q:∀ l,H l=none->Q (.ref l) (upd H l (.lst (cH i (j - i))))) :
  wpAny (model X.prog X.w) X.A (call (.type "list") [.ref s.heap.objs.size]) (EP X pins σ Q) X.xe { s with heap:=s.heap.push { cls:=.type "range",data:=.fields #[.int i t,.int j u,.int 1 v] },toks:=tk }:=by
 have I1:Inv X pins σ H { s with heap:=s.heap.push { cls:=.type "range",data:=.fields #[.int i t,.int j u,.int 1 v] },toks:=tk }:=I.kept λ b o e=>Ij _ e
 refine call_list_range (n:=j - i) (I.ok.hd hc) (Pb ..) (small_one (by lia) (by lia) (by lia) (by lia)) (by rw [rangeSize_one]; split<;>lia) (by lia) λ h' tk' acc' c' hk hg hi=>?_
 obtain ⟨hz,hit⟩:=hi
 refine ⟨.ref _,_,I1.laid (t':=tk') (o:=.lst (cH i (j - i))) hk (Im _) ?_,rfl,q _ (I1.hok.fresh (Im _))⟩
 refine ⟨by simp only [cH,Ir,Lc]; exact aG (by lia),acc'.toList,c',?_,?_⟩
 ·refine oh (by simp [cH,hz]) λ k x w a b=>?_
  have hk':k<j - i:=by have:=(IK.mp a).1; simpa [cH] using this
  unfold cH at a
  rw [Ji,M6 hk'] at a
  obtain rfl:=IR a
  obtain ⟨tt,rfl⟩:=hit k w (by simpa using b)
  refine ⟨tt,?_⟩
  rw [NU,Og]
 ·simpa using hg
theorem wf (hc:X.calm=true) (hgl:Gl X "list") (hml:X.mg "list" = none) (hgr:Gl X "range") (hmr:X.mg "range" = none) (ha:QA X [a] t) (hn:bA a=true:=by rfl):QE X (.Call (.Name "list" p) [.Call (.Name "range" p2) [a] [] pos2] [] pos) (xN t):=by
 refine ⟨λ pins s σ H Q I h=>?_⟩
 refine Call_ (eG I hgl hml (by decide +kernel:bootBuiltins "list" = some (.type "list")) (JA ?_ (aB rfl) rfl))
 refine LS (Call_ (eG I hgr hmr boot_range (JA (thn (ha.out pos2 pins s σ H _ I h) λ us s1 ⟨vs,H1,I1,r1,q1⟩=>?_) (aB hn) rfl)))
 obtain ⟨j,e,q1,q⟩:=q1
 subst e
 cases r1 with
 | cons r rr=>
  cases rr
  obtain ⟨tt,rfl⟩:=r
  exact call_range_1 (Me (Hj (i:=0) hc I1 (by lia) q1 (by lia) q))
noncomputable def Gs:R2:=λ x y H Q=>y=.non/\Q (.bl (decide (x=.non))) H
theorem zB:QOp X (compareOp .Is) Gs:=⟨BX⟩
end
section
variable {K:Ih} {σ:St} {H:Hp} {Q:VK}
theorem DL (h:t σ H λ vs H1=>∃ j:Nat,vs=[.int j]/\j<=1000/\∀ l,H1 l=none->Q (.ref l) (upd H1 l (.lst (cH 0 j)))):xN t σ H Q:=h
theorem Fh {x:V} (h:Q (.bl (decide (x=.non))) H):Gs x .non H Q:=⟨rfl,h⟩
end
section
variable {H H1 H2:Hp} {p q l:Addr} {o:HO}
end
section
variable {H H1:Hp} {ps:List Addr} {nss:List (List Nat)}
end
noncomputable def DM (os:List Nat):Nat->List Bool->Nat->List Nat×List Bool
 | 0,met,_=>([],met)
 | f+1,met,pl=>if met.getD pl true=true then ([],met) else (pl::(DM os f (met.set pl true) (os.getD pl 0)).1,(DM os f (met.set pl true) (os.getD pl 0)).2)
section
variable {X:Cx} {e:Expr} {te:TE} {pos p1 p2 p3 p4 p5:Pos} {j j':Nat}
end
theorem pj {α:Type} {xs:List α} {x:α} (h:xs[i]? = some x):i<xs.length:=(IK.mp h).1
section
variable {X:Cx} {N tgs frs:List Str} {ix:List Nat} {scope:Scope} {cl:List (Str×Addr)}
theorem fK {prog:Program} {w:World} {A:Around} {R:Result->Shared->Prop} {s:Shared} {elt target iter cnd:Expr} {pos:Pos} {it acc:Value} {env:Env} (I:Nat->Shared->Prop)
  (turn:∀ n s,I n s->wpAny (model prog w) A (pyNext it) (λ r s1=>match r with
   | none=>R (.ok .next) s1
   | some v=>wpAny (model prog w) A (letOwnedTupleGo target it v) (λ _ s1'=>wpAny (model prog w) A (assign target env v) (λ _ s2=>wpAny (model prog w) A (isTrue cnd env (eval cnd env)) (λ b s2'=>if b=true then wpAny (model prog w) A (eval elt env) (λ x s3=>
     wpAny (model prog w) A (call (.builtin "list.append") [acc,x]) (λ _ s4=>∃ m,m<n/\I m s4) (λ _ _=>False) s3)
     (λ _ _=>False) s2' else ∃ m,m<n/\I m s2') (λ _ _=>False) s2) (λ _ _=>False) s1') (λ _ _=>False) s1) (λ _ _=>False) s)
  (n:Nat) (h:I n s) :
  codeAny (model prog w) A (.compLoop (.ListComp elt [⟨target,iter,[cnd],0⟩] scope pos) 0 it acc env) R s:=by
 have up:∀ {α:Type} {t:Sem α} {Q Q':α->Shared->Prop} {E:Value->Shared->Prop} {s:Shared},wpAny (model prog w) A t Q (λ _ _=>False) s->(∀ a s,Q a s->Q' a s)->wpAny (model prog w) A t Q' E s:=λ h hq=>wpAny_mono h hq λ _ _ f=>f.elim
 refine codeAny_loop rfl I (λ n s hI=>?_) n h
 show wpAny _ _ ((compTurn (.ListComp elt [⟨target,iter,[cnd],0⟩] scope pos) 0 it acc env).onRaise (λ x=>do noteFrame x env; theTreesLotGoes x)) _ _ s
 refine wpAny_noted ?_
 rw [compTurn_list]
 refine wpAny_bind (wpAny_standAt (wpAny_bind (up (turn n s hI) (λ r s1 h1=>?_))))
 cases r with
 | none=>exact wpAny_pure h1
 | some v=>
  refine wpAny_bind (up h1 λ _ s1' h1'=>?_)
  refine wpAny_bind (up h1' λ _ s2 h2=>?_)
  simp only [List.forIn_cons,List.forIn_nil,if_true]
  refine wpAny_bind (wpAny_bind (wpAny_bind (up h2 λ b s3 h3=>wpAny_pure (wpAny_pure ?_))))
  cases b with
  | true=>
   rw [if_pos rfl] at h3
   show wpAny _ _ (if true=true then _ else _) _ _ _
   rw [if_pos rfl]
   exact wpAny_bind (wpAny_bind (up h3 (λ x s4 h4=>wpAny_bind (up h4 (λ _ s5 h5=>wpAny_pure (wpAny_pure ⟨rfl,h5⟩))))))
  | false=>
   rw [if_neg (by decide)] at h3
   show wpAny _ _ (if false=true then _ else _) _ _ _
   rw [if_neg (by decide)]
   exact wpAny_pure ⟨rfl,h3⟩
noncomputable def mq (wi:TI) (g:TG) (tc:TT) (te:TE) (tgs:List Str) (ix:List Nat):TE:=λ σ H Q=>wi σ H λ J H1=>
 ∃ W:Nat->Nat->List V->St->Hp->Prop,(∃ m,W 0 m [] (fI tgs ix σ) H1)/\∀ i m xs σc H,W i m xs σc H->xs.length<sizeLine/\
  ((J.stop i H/\∀ p,H p=none->Q (.ref p) (upd H p (.lst xs)))\/(J.go i H/\∀ x H',J.yld i H x H'->g x σc H' λ σ2 H2=>tc σ2 H2 λ b H3=>if b=true then te σ2 H3 λ y H4=>∃ m',m'<m/\W (i+1) m' (xs++[y]) σ2 H4 else ∃ m',m'<m/\W (i+1) m' xs σ2 H3))
theorem wg (c:CompOk X N tgs frs ix scope cl) (hc:X.calm=true) (hi:PI X tg iter wi)
  (hg:∀ fp C s H,PG (aj X N scope cl fp C s H) tg g) (he:∀ fp C s H,PE (aj X N scope cl fp C s H) elt te)
  (hcd:∀ fp C s H,PT (aj X N scope cl fp C s H) cnd tc)
  (hs:∀ x,foldedSetIterable iter X.env x=pure x:=by intro _; rfl) :
  PE X (.ListComp elt [⟨tg,iter,[cnd],0⟩] scope pos) (mq wi g tc te tgs ix):=by
 intro pins s σ H Q I h
 rw [eval_ListComp]
 refine wpAny_comprehension_free (use:=none) rfl hs c.clos c.kind c.names (thn (hi pins s σ H _ I h) λ xv s1 h1=>thn h1 λ itv s2 h2=>?_)
 obtain ⟨it,fp,tn,J,H2,rfl,I2,T,st2,f2,W,⟨m0,w0⟩,turn⟩:=h2
 have hfl:∀ b∈fp,b<s2.heap.objs.size:=λ b hb=>by
  obtain ⟨o,e,_⟩:=T.obj _ _ st2 b hb
  exact Ip e
 have hcn:∀ x a,cl.lookup x=some a->X.env.cells.lookup x=some a:=c.cls.get
 refine wpAny_newObj_type (wpAny_newFunctionEnv c.cell (by intro y hy; simp at hy) (λ h1 hns1 hsb1=>?_) c.kind)
 dsimp only at hns1 hsb1 ⊢
 generalize hH2:s2.heap.push { cls:=.type "list",dict:=none,data:=.seq ([]:List Value).toArray }=G2 at hns1 hsb1 ⊢
 have hC:G2.objs.size=s2.heap.objs.size+1:=by rw [<-hH2,Kg]
 generalize hCC:G2.objs.size=C at *
 generalize hDD:s2.heap.objs.size=D at *
 have hDC:D≠C:=by lia
 have hCle:D<=C:=by lia
 have old:∀ b o,s2.heap.get? b=some o->h1.get? b=some o:=λ b o e=>by
  have lt:b<s2.heap.objs.size:=Ip e
  exact hsb1.extBut b o (Iy (Iu (hDD▸lt) hCle)) (Ij _ (hH2▸Ij _ e))
 have hacc:h1.get? D=some (aA [] 0):=hsb1.extBut _ _ hDC (Ij _ (hH2▸(hDD▸Iz _ rfl)))
 have cellD:∀ x a,X.env.cells.lookup x=some a->a<D:=λ x a e=>by
  obtain ⟨v,q⟩:=I2.cell x a e
  exact hDD▸q.lt
 have fpc:∀ {H':Hp} {us:List Value} {k:Nat},(∀ b∈fp,H' b=none)->∀ b∈fp,qm (aj X N scope cl fp C s2 H2) [(D,aA us k)] H' b:=λ {H' us k} hn b hb=>by
  have lb:=hfl b hb
  refine ⟨hn b hb,?_,λ z=>?_,.inl hb,λ x a e z=>?_,λ p hp=>?_⟩
  ·exact Iy (Iu lb hCle)
  ·rcases Io.mp (I2.stkSub b z) with e | e
   ·exact (f2 b hb).2.1 e
   ·exact (f2 b hb).2.2.1 e
  ·exact (f2 b hb).2.2.2.2.1 x a (hcn x a e) z
  ·have:p=(D,aA us k):=by simpa [aj] using hp
   rw [this]; exact JX lb
 have D_fs:D∉(aj X N scope cl fp C s2 H2).fs:=λ z=>by
  rcases Io.mp (I2.stkSub D z) with e | e
  ·exact absurd I2.lt (by rw [<-e,hDD]; exact Jr _)
  ·exact I2.nofs (Ju hDD) e
 have I3:=iI (tk:=s2.toks+([]:List (Str×Value)).length) (pins':=[(D,aA [] 0)]) c I2 f2 (λ b hb=>hDD▸hfl b hb) (hDD▸hCle:s2.heap.objs.size<=C) hns1 old (λ p hp=>by
  have e:p=(D,aA [] 0):=by simpa using hp
  subst e
  exact ⟨hacc,Ju hDD,hDC,λ v z=>by cases z⟩)
 have tn3:tn 0 h1:=T.keep _ _ _ st2 λ b _ o e=>old b o e
 have loop:codeAny (model X.prog X.w) X.A (.compLoop (.ListComp elt [⟨tg,iter,[cnd],0⟩] scope pos) 0 (.ref it) (.ref D) (compEnvC scope cl C X.env))
   (compPost (model X.prog X.w) X.A X.xe none (EP X pins σ Q) (.ref D) C) { s2 with heap:=h1,toks:=s2.toks+([]:List (Str×Value)).length }:=by
  refine fK (λ n s'=>∃ i xs us k σc H',Inv (aj X N scope cl fp C s2 H2) [(D,aA us k)] σc H' s'/\tn i s'.heap/\(∀ b∈fp,H' b=none)/\Vals xs us/\W i n xs σc H') ?_ m0
   ⟨0,[],[],0,_,H2,I3,tn3,λ b hb=>(f2 b hb).1,.nil,w0⟩
  rintro n s4 ⟨i,xs,us,k,σ4,H4,I4,tn4,fr4,rv,w4⟩
  obtain ⟨hsz,tt⟩:=turn i n xs σ4 H4 w4
  rcases tt with ⟨stop,fin⟩ | ⟨go,step⟩
  ·refine thn (T.done (aj X N scope cl fp C s2 H2) rfl rfl rfl hc i _ s4 σ4 H4 _ I4 (fpc fr4) tn4 stop) λ r s5 ⟨hr,I5⟩=>?_
   subst hr
   obtain ⟨m,ns,_⟩:=I5.loc
   refine ⟨m,ns,λ h' sb=>?_⟩
   have J1:Inv X pins σ H4 s5:=I2.call' I5.os I5.base I5.hok I5.bare λ b hb=>⟨(f2 b hb).2.2.2.1,(f2 b hb).2.1,(f2 b hb).2.2.2.2.1,(f2 b hb).2.2.2.2.2⟩
   have big:∀ a,D<=a->a≠X.env.locals/\(a∈X.ex\/X.s₀.heap.objs.size<=a)/\(∀ x y,X.env.cells.lookup x=some y->y≠a)/\∀ p∈X.pn++pins,p.1≠a:=λ a ha=>by
    obtain ⟨q0,q1,q2,q3,q4,q5⟩:=I2.fpOk (b:=a) (H':=λ _=>none) (hDD▸ha) rfl
    exact ⟨q1,q3,q4,q5⟩
   obtain ⟨b1,b2,b3,b4⟩:=big C hCle
   have J2:Inv X pins σ H4 { s5 with heap:=h' }:=J1.turned (t':=s5.toks) (λ b o hb e=>sb.extBut b o hb e) I5.free b1 b2 b3 b4
   obtain ⟨p1,p2,p3,p4,p5⟩:=I5.pin (D,aA us k) (by simp)
   obtain ⟨d1,d2,d3,d4⟩:=big D (Im _)
   have J3:Inv X pins σ (upd H4 D (.lst xs)) { s5 with heap:=h' }:=J2.adopt p2 d1 d2 d3 d4 ⟨JD hsz,us,k,rv,sb.extBut _ _ hDC p1⟩
   exact ⟨.ref D,_,J3,rfl,fin D p2⟩
  ·refine thn (T.item (aj X N scope cl fp C s2 H2) rfl rfl rfl hc i _ s4 σ4 H4 _ I4 (fpc fr4) tn4 go) λ r s5 ⟨u,hr,h5⟩=>?_
   subst hr
   refine thn h5 λ _ s6 ⟨x,H6,I6,r6,y6,tn6,fr6⟩=>?_
   have I6':=I6.pinned (fpc fr6) (T.obj _ _ tn6)
   refine thn (hg fp C s2 H2 _ s6 σ4 H6 x u _ I6' r6 (step x H6 y6)) λ _ s7 ⟨σ7,H7,I7,q7⟩=>?_
   refine thn (hcd fp C s2 H2 _ s7 σ7 H7 _ I7 q7) λ b s7' ⟨H7',I7',q7'⟩=>?_
   cases b with
   | false=>
    rw [if_neg (by decide)] at q7' ⊢
    obtain ⟨m',hm,w8⟩:=q7'
    have tn8:tn (i+1) s7'.heap:=T.keep _ _ _ tn6 λ b hb o e=>(I7'.pin (b,o) (Ik _ (Ik _ (aD hb e)))).1
    have fr8:∀ b∈fp,H7' b=none:=λ b hb=>by
     obtain ⟨o,e,d⟩:=T.obj _ _ tn6 b hb
     exact (I7'.pin (b,o) (Ik _ (Ik _ (aD hb e)))).2.1
    exact ⟨m',hm,i+1,xs,us,k,σ7,H7',I7'.unpinned,tn8,fr8,rv,w8⟩
   | true=>
    rw [if_pos rfl] at q7' ⊢
    refine thn (he fp C s2 H2 _ s7' σ7 H7' _ I7' q7') λ yv s8 ⟨y,H8,I8,r8,m',hm,w8⟩=>?_
    obtain ⟨p1,p2,p3,p4,p5⟩:=I8.pin (D,aA us k) (by simp [aj])
    have hsz':us.toArray.size<=sizeLine:=by simp; rw [<-rv.length]; exact JD hsz
    refine wpAny_list_append_plain (hsz:=hsz') ⟨k,p1⟩ λ h' pl sb=>?_
    have tn8:tn (i+1) s8.heap:=T.keep _ _ _ tn6 λ b hb o e=>(I8.pin (b,o) (Ik _ (Ik _ (aD hb e)))).1
    have fr8:∀ b∈fp,H8 b=none:=λ b hb=>by
     obtain ⟨o,e,d⟩:=T.obj _ _ tn6 b hb
     exact (I8.pin (b,o) (Ik _ (Ik _ (aD hb e)))).2.1
    have I9:Inv (aj X N scope cl fp C s2 H2) [] σ7 H8 s8:=I8.pins_of λ p hp=>nomatch hp
    have I10:Inv (aj X N scope cl fp C s2 H2) [] σ7 H8 { s8 with heap:=h' }:=I9.turned (t':=s8.toks) (it:=D) (λ b o hb e=>sb.extBut b o hb e) p2 p3 (.inr (Ju hDD))
     (λ x a e=>Iy (cellD x a (hcn x a e))) (λ p hp=>by simp [aj] at hp)
    obtain ⟨k',pl⟩:=pl
    have eu:us.toArray.push yv=(us++[yv]).toArray:=by simp
    rw [eu] at pl
    have I11:Inv (aj X N scope cl fp C s2 H2) [(D,aA (us++[yv]) k')] σ7 H8 { s8 with heap:=h' }:=I10.pins_of λ p hp=>by
     have e:p=(D,aA (us++[yv]) k'):=by simpa using hp
     subst e
     exact ⟨pl,p2,p3,p4,λ v z=>by cases z⟩
    exact ⟨m',hm,i+1,xs++[y],us++[yv],k',σ7,H8,I11,T.keep _ _ _ tn8 λ b hb o e=>sb.extBut b o (Iy (hfl b hb)) e,fr8,rv.append (.cons r8 .nil),w8⟩
 exact codeAny_compStart_list loop (T.self _ 0 _ _ _ tn3 loop)
theorem wj (c:CompOk X N tgs frs ix scope cl) (hc:X.calm=true) (hi:QI X tg iter wi)
  (hg:∀ fp C s H,QG (aj X N scope cl fp C s H) tg g) (he:∀ fp C s H,QE (aj X N scope cl fp C s H) elt te) (hcd:∀ fp C s H,QT (aj X N scope cl fp C s H) cnd tc)
  (hs:∀ x,foldedSetIterable iter X.env x=pure x:=by intro _; rfl) :
  QE X (.ListComp elt [⟨tg,iter,[cnd],0⟩] scope pos) (mq wi g tc te tgs ix):=⟨wg c hc hi.out (λ fp C s H=>(hg fp C s H).out) (λ fp C s H=>(he fp C s H).out) (λ fp C s H=>(hcd fp C s H).out) hs⟩
end
section
variable {X:Cx} {e o b:Expr} {to tb te:TE} {t:TA} {pos apos cpos tpos:Pos}
theorem sV {K:Ih} (ho:QE X o to) (hbase:attributeBase o ("pop" : Str) X.env (eval o X.env)=eval o X.env:=by rfl) (hline:(apos.endLine == cpos.line)=true:=by rfl) (hK:X.K=K:=by rfl) :
  QE X (.Call (.Attribute o "pop" apos) [] [] cpos) (EM K "list" EO to):=by subst hK; exact ⟨B6 Mw PySem.F.slot_list_pop PySem.F.type_list_pop B7 ho.out hbase hline⟩
end
section
variable {X:Cx} {N tgs frs:List Str} {ix:List Nat} {scope:Scope} {cl:List (Str×Addr)} {xc:Str}
end
section
variable {X:Cx} {e o b:Expr} {to tb te:TE} {pos tpos:Pos}
end
section
variable {K:Ih} {σ:St} {H:Hp} {Q:VK} {D:Ends}
theorem Gu {r:V->List V->Hp->VK->Prop} {T:String} (h:to σ H λ x H1=>tyV K T x H1/\r x [] H1 Q):EM K T r to σ H Q:=h
theorem DN {tgs:List Str} (h:wi σ H λ J H1=>
 ∃ W:Nat->Nat->List V->St->Hp->Prop,(∃ m,W 0 m [] (fI tgs ix σ) H1)/\∀ i m xs σc H,W i m xs σc H->xs.length<sizeLine/\
  ((J.stop i H/\∀ p,H p=none->Q (.ref p) (upd H p (.lst xs)))\/(J.go i H/\∀ x H',J.yld i H x H'->g x σc H' λ σ2 H2=>tc σ2 H2 λ b H3=>if b=true then te σ2 H3 λ y H4=>∃ m',m'<m/\W (i+1) m' (xs++[y]) σ2 H4 else ∃ m',m'<m/\W (i+1) m' xs σ2 H3))):mq wi g tc te tgs ix σ H Q:=h
theorem sW {σ0:St} {R:List V->Hp->Prop} {vs:List V} (Pv:Nat->List V->St->Hp->Prop) (hz:vs.length<sizeLine) (hl:∀ i ys σ H,Pv i ys σ H->ys.length<=i) (ht:∀ i ys σ H,Pv i ys σ H->SqL K H a vs) (h0:Pv 0 [] σ0 H)
  (hs:∀ i ys σ H x,vs[i]? = some x->Pv i ys σ H->g x σ H λ σ2 H2=>tc σ2 H2 λ b H3=>if b=true then te σ2 H3 λ y H4=>Nx vs.length i (Pv (i+1) (ys++[y]) σ2 H4) else Nx vs.length i (Pv (i+1) ys σ2 H3)) (hd:∀ ys σ H,Pv vs.length ys σ H->R ys H) :
  ∃ W:Nat->Nat->List V->St->Hp->Prop,(∃ m,W 0 m [] σ0 H)/\∀ i m xs σc H,W i m xs σc H->xs.length<sizeLine/\
  (((Itl K a).stop i H/\R xs H)\/((Itl K a).go i H/\∀ x H',(Itl K a).yld i H x H'->g x σc H' λ σ2 H2=>tc σ2 H2 λ b H3=>if b=true then te σ2 H3 λ y H4=>∃ m',m'<m/\W (i+1) m' (xs++[y]) σ2 H4 else ∃ m',m'<m/\W (i+1) m' xs σ2 H3)):=by
 refine ⟨λ i m xs σ H=>m=vs.length - i/\i<=vs.length/\Pv i xs σ H,⟨vs.length,by simp,IZ _,h0⟩,?_⟩
 rintro i m xs σ H ⟨rfl,hi,p⟩
 have q:=ht i xs σ H p
 refine ⟨JB (Js (hl i xs σ H p) hi) hz,?_⟩
 by_cases hlt:i<vs.length
 ·refine .inr ⟨⟨vs,vs[i],q,by simp [hlt]⟩,λ x H' y=>?_⟩
  obtain ⟨e,y⟩:=y
  subst e
  exact hs i xs σ _ x (y vs q) p
 ·have e:i=vs.length:=by lia
  subst e
  exact .inl ⟨⟨vs,q,Im _⟩,hd xs σ H p⟩
end
section
variable {X:Cx} {tg a b c:Expr} {t:TA} {p pos:Pos}
end
section
variable {prog:Program} {w:World} {A:Around} {E:Value->Shared->Prop} {s:Shared}
end
section
variable {X:Cx} {a b:Expr} {t:TA} {p pos tpos:Pos} {ts:List Expr} {k:Nat}
end
section
variable {X:Cx} {N tgs frs:List Str} {ix:List Nat} {scope:Scope} {cl:List (Str×Addr)}
theorem zC {iy:Nat} (hN:X.N.Nodup) (hy:X.N[iy]? = some y) (hx:Loc X.env.scope y) (c:CompOk X N tgs frs ix scope cl) (hc:X.calm=true) (hi:PI X tg iter wi)
  (hg:∀ fp C s H,PG (aj X N scope cl fp C s H) tg g) (he:∀ fp C s H,PE (aj X N scope cl fp C s H) elt te)
  (hcd:∀ fp C s H,PT (aj X N scope cl fp C s H) cnd tc)
  (hs:∀ x,foldedSetIterable iter X.env x=pure x:=by intro _; rfl)
  (hsw:swapsWith (.ListComp elt [⟨tg,iter,[cnd],0⟩] scope pos) (some (.Name y py)) spos.line X.env=pure true:=by rfl)
  (hf:X.fn y=true\/X.env.scope.names.lookup y=some .local:=by first | exact .inl rfl | exact .inr rfl | assumption) :
  PS X (.Assign [.Name y py] (.ListComp elt [⟨tg,iter,[cnd],0⟩] scope pos) spos) (vd (mq wi g tc te tgs ix) (eY iy)):=by
 intro pins s σ H Dn I h
 rw [exec_Assign_Name_used _ _ _ _ hsw]
 refine wpAny_bind (wpAny_standAt (wpAny_bind ?_))
 show wpAny _ X.A (do let _ <-comprehension (.ListComp elt [⟨tg,iter,[cnd],0⟩] scope pos) scope X.env _ (newList []) false (eval iter X.env) (some (assign (.Name y py) X.env))) _ _ s
 refine wpAny_bind (wpAny_mono (wpAny_comprehension_free (use:=some (assign (.Name y py) X.env)) (Q:=λ _ s'=>SP X pins Dn .next s') rfl hs c.clos c.kind c.names (thn (hi pins s σ H _ I h) λ xv s1 h1=>thn h1 λ itv s2 h2=>?_)) (λ _ s' hq=>wpAny_pure (wpAny_pure hq)) λ _ _ e=>e)
 obtain ⟨it,fp,tn,J,H2,rfl,I2,T,st2,f2,W,⟨m0,w0⟩,turn⟩:=h2
 have hfl:∀ b∈fp,b<s2.heap.objs.size:=λ b hb=>by
  obtain ⟨o,e,_⟩:=T.obj _ _ st2 b hb
  exact Ip e
 have hcn:∀ x a,cl.lookup x=some a->X.env.cells.lookup x=some a:=c.cls.get
 refine wpAny_newObj_type (wpAny_newFunctionEnv c.cell (by intro y hy; simp at hy) (λ h1 hns1 hsb1=>?_) c.kind)
 dsimp only at hns1 hsb1 ⊢
 generalize hH2:s2.heap.push { cls:=.type "list",dict:=none,data:=.seq ([]:List Value).toArray }=G2 at hns1 hsb1 ⊢
 have hC:G2.objs.size=s2.heap.objs.size+1:=by rw [<-hH2,Kg]
 generalize hCC:G2.objs.size=C at *
 generalize hDD:s2.heap.objs.size=D at *
 have hDC:D≠C:=by lia
 have hCle:D<=C:=by lia
 have old:∀ b o,s2.heap.get? b=some o->h1.get? b=some o:=λ b o e=>by
  have lt:b<s2.heap.objs.size:=Ip e
  exact hsb1.extBut b o (Iy (Iu (hDD▸lt) hCle)) (Ij _ (hH2▸Ij _ e))
 have hacc:h1.get? D=some (aA [] 0):=hsb1.extBut _ _ hDC (Ij _ (hH2▸(hDD▸Iz _ rfl)))
 have cellD:∀ x a,X.env.cells.lookup x=some a->a<D:=λ x a e=>by
  obtain ⟨v,q⟩:=I2.cell x a e
  exact hDD▸q.lt
 have fpc:∀ {H':Hp} {us:List Value} {k:Nat},(∀ b∈fp,H' b=none)->∀ b∈fp,qm (aj X N scope cl fp C s2 H2) [(D,aA us k)] H' b:=λ {H' us k} hn b hb=>by
  have lb:=hfl b hb
  refine ⟨hn b hb,?_,λ z=>?_,.inl hb,λ x a e z=>?_,λ p hp=>?_⟩
  ·exact Iy (Iu lb hCle)
  ·rcases Io.mp (I2.stkSub b z) with e | e
   ·exact (f2 b hb).2.1 e
   ·exact (f2 b hb).2.2.1 e
  ·exact (f2 b hb).2.2.2.2.1 x a (hcn x a e) z
  ·have:p=(D,aA us k):=by simpa [aj] using hp
   rw [this]; exact JX lb
 have D_fs:D∉(aj X N scope cl fp C s2 H2).fs:=λ z=>by
  rcases Io.mp (I2.stkSub D z) with e | e
  ·exact absurd I2.lt (by rw [<-e,hDD]; exact Jr _)
  ·exact I2.nofs (Ju hDD) e
 have I3:=iI (tk:=s2.toks+([]:List (Str×Value)).length) (pins':=[(D,aA [] 0)]) c I2 f2 (λ b hb=>hDD▸hfl b hb) (hDD▸hCle:s2.heap.objs.size<=C) hns1 old (λ p hp=>by
  have e:p=(D,aA [] 0):=by simpa using hp
  subst e
  exact ⟨hacc,Ju hDD,hDC,λ v z=>by cases z⟩)
 have tn3:tn 0 h1:=T.keep _ _ _ st2 λ b _ o e=>old b o e
 have loop:codeAny (model X.prog X.w) X.A (.compLoop (.ListComp elt [⟨tg,iter,[cnd],0⟩] scope pos) 0 (.ref it) (.ref D) (compEnvC scope cl C X.env))
   (compPost (model X.prog X.w) X.A X.xe (some (assign (.Name y py) X.env)) (λ _ s'=>SP X pins Dn .next s') (.ref D) C) { s2 with heap:=h1,toks:=s2.toks+([]:List (Str×Value)).length }:=by
  refine fK (λ n s'=>∃ i xs us k σc H',Inv (aj X N scope cl fp C s2 H2) [(D,aA us k)] σc H' s'/\tn i s'.heap/\(∀ b∈fp,H' b=none)/\Vals xs us/\W i n xs σc H') ?_ m0
   ⟨0,[],[],0,_,H2,I3,tn3,λ b hb=>(f2 b hb).1,.nil,w0⟩
  rintro n s4 ⟨i,xs,us,k,σ4,H4,I4,tn4,fr4,rv,w4⟩
  obtain ⟨hsz,tt⟩:=turn i n xs σ4 H4 w4
  rcases tt with ⟨stop,fin⟩ | ⟨go,step⟩
  ·refine thn (T.done (aj X N scope cl fp C s2 H2) rfl rfl rfl hc i _ s4 σ4 H4 _ I4 (fpc fr4) tn4 stop) λ r s5 ⟨hr,I5⟩=>?_
   subst hr
   obtain ⟨m,ns,_⟩:=I5.loc
   have J1:Inv X pins σ H4 s5:=I2.call' I5.os I5.base I5.hok I5.bare λ b hb=>⟨(f2 b hb).2.2.2.1,(f2 b hb).2.1,(f2 b hb).2.2.2.2.1,(f2 b hb).2.2.2.2.2⟩
   have big:∀ a,D<=a->a≠X.env.locals/\(a∈X.ex\/X.s₀.heap.objs.size<=a)/\(∀ x y,X.env.cells.lookup x=some y->y≠a)/\∀ p∈X.pn++pins,p.1≠a:=λ a ha=>by
    obtain ⟨q0,q1,q2,q3,q4,q5⟩:=I2.fpOk (b:=a) (H':=λ _=>none) (hDD▸ha) rfl
    exact ⟨q1,q3,q4,q5⟩
   have nfs:∀ a,D<=a->a∉X.fs:=λ a ha=>I2.nofs (hDD▸ha)
   obtain ⟨b1,b2,b3,b4⟩:=big C hCle
   obtain ⟨p1,p2,p3,p4,p5⟩:=I5.pin (D,aA us k) (by simp)
   obtain ⟨d1,d2,d3,d4⟩:=big D (Im _)
   have J3:Inv X pins σ (upd H4 D (.lst xs)) s5:=J1.adopt p2 d1 d2 d3 d4 ⟨JD hsz,us,k,rv,p1⟩
   obtain ⟨oC,esC,epC,hoC,hdC,rC⟩:=id ns
   have hHC:(upd H4 D (.lst xs)) C=none:=by rw [ag (Jj hDC)]; exact I5.free
   have J4:Inv X (pins++[(C,oC)]) σ (upd H4 D (.lst xs)) s5:=J3.pins_of λ p hp=>by
    rcases IN.mp hp with z | z
    ·exact J3.pin p (Ik _ z)
    ·have e:p=(C,oC):=by simpa using z
     subst e
     exact ⟨hoC,hHC,b1,nfs C hCle,λ v z=>by rw [hdC] at z; cases z⟩
   show wpAny _ X.A (assign (.Name y py) X.env (.ref D)) _ _ s5
   refine wpAny_assign_Name (fH J4 hN hy hx (v:=.ref D) rfl (λ s6 J5=>?_) hf)
   have hC6:=(J5.pin (C,oC) (Ik _ (Ik _ (by simp)))).1
   refine ⟨m,⟨oC,esC,epC,hC6,hdC,rC⟩,λ h' sb=>?_⟩
   have J6:Inv X pins (σ.set iy (some (.ref D))) (upd H4 D (.lst xs)) s6:=J5.unpinned
   have J7:Inv X pins (σ.set iy (some (.ref D))) (upd H4 D (.lst xs)) { s6 with heap:=h' }:=J6.turned (t':=s6.toks) (λ b o hb e=>sb.extBut b o hb e) hHC b1 b2 b3 b4
   exact ⟨_,_,J7,fin D p2⟩
  ·refine thn (T.item (aj X N scope cl fp C s2 H2) rfl rfl rfl hc i _ s4 σ4 H4 _ I4 (fpc fr4) tn4 go) λ r s5 ⟨u,hr,h5⟩=>?_
   subst hr
   refine thn h5 λ _ s6 ⟨x,H6,I6,r6,y6,tn6,fr6⟩=>?_
   have I6':=I6.pinned (fpc fr6) (T.obj _ _ tn6)
   refine thn (hg fp C s2 H2 _ s6 σ4 H6 x u _ I6' r6 (step x H6 y6)) λ _ s7 ⟨σ7,H7,I7,q7⟩=>?_
   refine thn (hcd fp C s2 H2 _ s7 σ7 H7 _ I7 q7) λ b s7' ⟨H7',I7',q7'⟩=>?_
   cases b with
   | false=>
    rw [if_neg (by decide)] at q7' ⊢
    obtain ⟨m',hm,w8⟩:=q7'
    have tn8:tn (i+1) s7'.heap:=T.keep _ _ _ tn6 λ b hb o e=>(I7'.pin (b,o) (Ik _ (Ik _ (aD hb e)))).1
    have fr8:∀ b∈fp,H7' b=none:=λ b hb=>by
     obtain ⟨o,e,d⟩:=T.obj _ _ tn6 b hb
     exact (I7'.pin (b,o) (Ik _ (Ik _ (aD hb e)))).2.1
    exact ⟨m',hm,i+1,xs,us,k,σ7,H7',I7'.unpinned,tn8,fr8,rv,w8⟩
   | true=>
    rw [if_pos rfl] at q7' ⊢
    refine thn (he fp C s2 H2 _ s7' σ7 H7' _ I7' q7') λ yv s8 ⟨y,H8,I8,r8,m',hm,w8⟩=>?_
    obtain ⟨p1,p2,p3,p4,p5⟩:=I8.pin (D,aA us k) (by simp [aj])
    have hsz':us.toArray.size<=sizeLine:=by simp; rw [<-rv.length]; exact JD hsz
    refine wpAny_list_append_plain (hsz:=hsz') ⟨k,p1⟩ λ h' pl sb=>?_
    have tn8:tn (i+1) s8.heap:=T.keep _ _ _ tn6 λ b hb o e=>(I8.pin (b,o) (Ik _ (Ik _ (aD hb e)))).1
    have fr8:∀ b∈fp,H8 b=none:=λ b hb=>by
     obtain ⟨o,e,d⟩:=T.obj _ _ tn6 b hb
     exact (I8.pin (b,o) (Ik _ (Ik _ (aD hb e)))).2.1
    have I9:Inv (aj X N scope cl fp C s2 H2) [] σ7 H8 s8:=I8.pins_of λ p hp=>nomatch hp
    have I10:Inv (aj X N scope cl fp C s2 H2) [] σ7 H8 { s8 with heap:=h' }:=I9.turned (t':=s8.toks) (it:=D) (λ b o hb e=>sb.extBut b o hb e) p2 p3 (.inr (Ju hDD))
     (λ x a e=>Iy (cellD x a (hcn x a e))) (λ p hp=>by simp [aj] at hp)
    obtain ⟨k',pl⟩:=pl
    have eu:us.toArray.push yv=(us++[yv]).toArray:=by simp
    rw [eu] at pl
    have I11:Inv (aj X N scope cl fp C s2 H2) [(D,aA (us++[yv]) k')] σ7 H8 { s8 with heap:=h' }:=I10.pins_of λ p hp=>by
     have e:p=(D,aA (us++[yv]) k'):=by simpa using hp
     subst e
     exact ⟨pl,p2,p3,p4,λ v z=>by cases z⟩
    exact ⟨m',hm,i+1,xs++[y],us++[yv],k',σ7,H8,I11,T.keep _ _ _ tn8 λ b hb o e=>sb.extBut b o (Iy (hfl b hb)) e,fr8,rv.append (.cons r8 .nil),w8⟩
 exact codeAny_compStart_list loop (T.self _ 0 _ _ _ tn3 loop)
theorem zD (hN:X.N.Nodup) (hy:X.N[i]? = some y) (hx:Loc X.env.scope y) (c:CompOk X N tgs frs ix scope cl) (hc:X.calm=true) (hi:QI X tg iter wi)
  (hg:∀ fp C s H,QG (aj X N scope cl fp C s H) tg g) (he:∀ fp C s H,QE (aj X N scope cl fp C s H) elt te) (hcd:∀ fp C s H,QT (aj X N scope cl fp C s H) cnd tc)
  (hs:∀ x,foldedSetIterable iter X.env x=pure x:=by intro _; rfl)
  (hsw:swapsWith (.ListComp elt [⟨tg,iter,[cnd],0⟩] scope pos) (some (.Name y py)) spos.line X.env=pure true:=by rfl)
  (hf:X.fn y=true\/X.env.scope.names.lookup y=some .local:=by first | exact .inl rfl | exact .inr rfl | assumption) :
  QS X (.Assign [.Name y py] (.ListComp elt [⟨tg,iter,[cnd],0⟩] scope pos) spos) (vd (mq wi g tc te tgs ix) (eY i)):=
 ⟨zC hN hy hx c hc hi.out (λ fp C s H=>(hg fp C s H).out) (λ fp C s H=>(he fp C s H).out) (λ fp C s H=>(hcd fp C s H).out) hs hsw hf⟩
end
section
variable {X:Cx} {N tgs frs:List Str} {ix:List Nat} {scope:Scope} {cl:List (Str×Addr)} {xc:Str}
end
section
variable {X:Cx} {e o:Expr} {to te:TE} {t:TA} {pos apos cpos:Pos}
end
section
variable {K:Ih} {σ:St} {H:Hp} {Q:VK} {g:TG} {tc:TT} {te:TE}
theorem sX {J:It} {σ0:St} {R:List V->Hp->Prop} (Pv:Nat->List V->St->Hp->Prop) (hz:n<sizeLine) (hl:∀ i ys σ H,Pv i ys σ H->ys.length<=i) (h0:Pv 0 [] σ0 H) (hgo:∀ i ys σ H,i<n->Pv i ys σ H->J.go i H) (hst:∀ ys σ H,Pv n ys σ H->J.stop n H)
  (hs:∀ i x ys σ H H',i<n->Pv i ys σ H->J.yld i H x H'->g x σ H' λ σ2 H2=>tc σ2 H2 λ b H3=>if b=true then te σ2 H3 λ y H4=>Nx n i (Pv (i+1) (ys++[y]) σ2 H4) else Nx n i (Pv (i+1) ys σ2 H3)) (hd:∀ ys σ H,Pv n ys σ H->R ys H) :
  ∃ W:Nat->Nat->List V->St->Hp->Prop,(∃ m,W 0 m [] σ0 H)/\∀ i m xs σc H,W i m xs σc H->xs.length<sizeLine/\
  ((J.stop i H/\R xs H)\/(J.go i H/\∀ x H',J.yld i H x H'->g x σc H' λ σ2 H2=>tc σ2 H2 λ b H3=>if b=true then te σ2 H3 λ y H4=>∃ m',m'<m/\W (i+1) m' (xs++[y]) σ2 H4 else ∃ m',m'<m/\W (i+1) m' xs σ2 H3)):=by
 refine ⟨λ i m xs σ H=>m=n - i/\i<=n/\Pv i xs σ H,⟨n,by simp,IZ _,h0⟩,?_⟩
 rintro i m xs σ H ⟨rfl,hi,p⟩
 refine ⟨JB (Js (hl i xs σ H p) hi) hz,?_⟩
 by_cases hlt:i<n
 ·exact .inr ⟨hgo i xs σ H hlt p,λ x H' y=>hs i x xs σ H H' hlt p y⟩
 ·have e:i=n:=by lia
  subst e
  exact .inl ⟨hst xs σ H p,hd xs σ H p⟩
end
section
variable {X:Cx}
end
noncomputable def mt (os:List Nat) (f:Nat):Nat:=os.countP λ x=>decide (x<f)
end L2
open L2.Same renaming refl→P4
namespace HT
open PySem PyProof.Rows
section
open PySem.SeqAt
open PySem.AutoSeq1 (wpAny_loadPart')
open PySem.MeetsSeq PySem.MeetsSeq2 PySem.MeetsSeq3
end
section
variable {prog:Program} {w:World} {A:Around} {E:Value->Shared->Prop} {s:Shared}
end
end HT
namespace L2
open PySem PySem.Spec PyProof.Rows
section
variable {X:Cx} {e e2 o:Expr} {to te:TE} {t:TA} {pos apos cpos:Pos}
end
theorem sY {P:PyData->Bool} {PA:List PyData->Bool} (h0:PA []=true) (h1:∀ x xs,PA (x::xs)=(P x && PA xs)):∀ {ds:List PyData},(∀ d∈ds,P d=true)->PA ds=true
 | [],_=>h0
 | d::ds,h=>by rw [h1,h d (Jg ..),sY h0 h1 λ x hx=>h x (IG _ hx)]; rfl
theorem e8 {n:Nat}:∀ {ds:List PyData},(∀ d∈ds,d.depth<=n)->Oh ds<=n
 | [],_=>IZ _
 | d::ds,h=>by
  show max d.depth (Oh ds)<=n
  have h1:=h d (Jg ..)
  have h2:=e8 (ds:=ds) λ x hx=>h x (IG _ hx)
  lia
section
variable {X:Cx} {pins:List (Addr×Obj)} {σ:St} {H:Hp} {s:Shared}
theorem fc {R:V->PyData->Prop} {h:Heap} (hR:∀ x v d,R x d->RelV x v->∃ as,Reads h v d as):∀ {xs:List V} {its:List Value} {ds:List PyData},Vals xs its->xs.length=ds.length->(∀ (i:Nat) u e,xs[i]? = some u->ds[i]? = some e->R u e)->∃ as,ReadsAll h its ds as
 | _,_,[],.nil,_,_=>⟨[],.nil⟩
 | _,_,d::ds,.cons r rr,hl,hi=>by
  obtain ⟨as,h1⟩:=hR _ _ d (hi 0 _ d rfl rfl) r
  obtain ⟨bs,h2⟩:=fc hR rr (by simpa using hl) λ i u e e1 e2=>hi (i+1) u e e1 e2
  exact ⟨as++bs,.cons h1 h2⟩
 | _,_,_::_,.nil,hl,_=>by simp at hl
 | _,_,[],.cons _ _,hl,_=>by simp at hl
end
section
variable {K:Ih} {σ:St} {H:Hp} {Q:VK}
end
noncomputable def wk (a:List Nat):List Int:=a.map λ x:Nat=>(x:Int)
noncomputable def lxt (a b:List Nat):Bool:=HT.bS (wk a) (wk b)
section
variable {X:Cx} {o a b e:Expr} {to ta tb te:TE} {pos p2 tpos:Pos}
theorem zE:QS X (.Continue pos) yM:=⟨nL⟩
end
section
variable {K:Ih} {σ:St} {H:Hp} {Q:VK} {D:Ends}
theorem Fj (h:D.ct σ H):yM D σ H:=h
theorem wl {p:Addr} {x y z:V} {R:St->Hp->Prop} (e:H p=some (.tup [x,y,z])) (h:R (((σ.set i (some x)).set j (some y)).set k (some z)) H):DA K 3 (nM (eY i) (nM (eY j) (nM (eY k) Dz))) (.ref p) σ H R:=
 ⟨p,_,rfl,SqT.of e,rfl,_,_,rfl,_,_,rfl,_,_,rfl,rfl,h⟩
theorem sZ {y:V} (h1:H l=some (.lst (xs++[y]))) (h:Q y (upd H l (.lst xs))):EO (.ref l) [] H Q:=⟨l,_,y,rfl,rfl,h1,by simp,by rw [List.dropLast_concat]; exact h⟩
end
section
variable {X:Cx} {e e2 o:Expr} {to te:TE} {t:TA} {pos apos cpos:Pos}
end
section
variable {K:Ih} {σ:St} {H:Hp} {Q:VK}
end
section
variable {X:Cx} {tg a b c:Expr} {t:TA} {p pos:Pos}
end
section
variable {X:Cx} {e o b:Expr} {to tb te:TE} {pos tpos:Pos}
end
end L2
namespace HT
open PySem PyProof.Rows L2
section
variable {prog:Program} {w:World} {A:Around} {E:Value->Shared->Prop} {s:Shared}
end
end HT
namespace L2
open PySem PySem.Spec PyProof.Rows
section
variable {X:Cx} {tg a b:Expr} {t:TA} {p pos:Pos}
noncomputable def Hk:V->Option Int->Option Int->Hp->VK->Prop:=λ x lo hi H Q=>∃ a xs,x=.ref a/\H a=some (.tup xs)/\∀ p H',Same H H'->H' p=some (.tup (rz xs lo hi))->Q (.ref p) H'
end
section
variable {K:Ih} {σ:St} {H:Hp} {Q:VK}
end
noncomputable def brk (rss:List (List Nat)) (k:Nat):Bool:=lxt (rss.getD k []) (rss.getD (k - 1) [])
end L2
namespace L2
open PySem PySem.Spec PyProof.Rows PySem.W
noncomputable def Sat (N:Nat) (lt:Nat->Nat->Bool) {α:Type}:KasT α->(α->Prop)->Prop
 | .ret a,R=>R a
 | .ask i j k,R=>i<N/\j<N/\Sat N lt (k (lt i j)) R
theorem Sat.mono {N:Nat} {lt:Nat->Nat->Bool} {α:Type} {R R':α->Prop} (hR:∀ a,R a->R' a):∀ (t:KasT α),Sat N lt t R->Sat N lt t R'
 | .ret _,h=>hR _ h
 | .ask i j k,h=>⟨h.1,h.2.1,Sat.mono hR (k (lt i j)) h.2.2⟩
theorem Sat.bind {N:Nat} {lt:Nat->Nat->Bool} {α β:Type} {R:α->Prop} {R':β->Prop} {f:α->KasT β} (hf:∀ a,R a->Sat N lt (f a) R'):∀ (t:KasT α),Sat N lt t R->Sat N lt (t.bind f) R'
 | .ret a,h=>hf a h
 | .ask i j k,h=>⟨h.1,h.2.1,Sat.bind hf (k (lt i j)) h.2.2⟩
structure Lt (lt:Nat->Nat->Bool):Prop where
 asym:∀ i j,lt i j=true->lt j i=false
 tr:∀ i j k,lt i j=false->lt j k=false->lt i k=false
noncomputable def Ah (lt:Nat->Nat->Bool) (i j:Nat):Prop:=lt j i=false/\(lt i j=false->i<j)
theorem Ah.of_lt {lt:Nat->Nat->Bool} (H:Lt lt) (h:lt i j=true):Ah lt i j:=⟨H.asym i j h,λ h'=>by rw [h] at h'; cases h'⟩
theorem Ah.trans {lt:Nat->Nat->Bool} (H:Lt lt) (a:Ah lt i j) (b:Ah lt j k):Ah lt i k:=by
 refine ⟨H.tr k j i b.1 a.1,λ h=>?_⟩
 have h1:lt i j=false:=H.tr i k j h b.1
 have h2:lt j k=false:=H.tr j i k a.1 h
 exact Nat.lt_trans (a.2 h1) (b.2 h2)
theorem oj {lt:Nat->Nat->Bool} (H:Lt lt) (h:lt i j=true) (h':lt k j=false):lt i k=true:=by
 cases e:lt i k with
 | true=>rfl
 | false=>rw [H.tr i k j e h'] at h; cases h
theorem lv {lt:Nat->Nat->Bool} (H:Lt lt) (h:lt i j=true) (h':lt i k=false):lt k j=true:=by
 cases e:lt k j with
 | true=>rfl
 | false=>rw [H.tr i k j h' e] at h; cases h
section
variable {N:Nat} {lt:Nat->Nat->Bool}
structure Pm (N:Nat) (p:Array Nat):Prop where
 sz:p.size=N
 bd:∀ i,i<N->p.getD i 0<N
 inj:∀ i j,i<N->j<N->p.getD i 0=p.getD j 0->i=j
theorem fL {p:Array Nat} (h:p.Perm (Iw (IC N))):Pm N p:=by
 have hp:p.toList.Perm (IC N):=by simpa using LY.mp h
 have hs:p.size=N:=by rw [<-Jx,hp.length_eq,Lc]
 have hn:p.toList.Nodup:=hp.nodup_iff.mpr List.nodup_range
 refine ⟨hs,λ i hi=>?_,λ i j hi hj e=>?_⟩
 ·have hi':i<p.size:=by lia
  have:p[i]∈p.toList:=M0.mpr (Array.getElem_mem hi')
  have h2:=hp.mem_iff.mp this
  rw [show p.getD i 0=p[i] by simp [IE,hi']]
  exact MN.mp h2
 ·have hi':i<p.size:=by lia
  have hj':j<p.size:=by lia
  rw [show p.getD i 0=p[i] by simp [IE,hi'],show p.getD j 0=p[j] by simp [IE,hj']] at e
  have e':p.toList[i]'(by simpa using hi')=p.toList[j]'(by simpa using hj'):=by simpa using e
  have hq:=JV.mp hn
  rcases NK i j with x | x | x
  ·exact absurd e' (hq i j _ _ x)
  ·exact x
  ·exact absurd e'.symm (hq j i _ _ x)
theorem bp {p:Array Nat} (hj:j<=p.size) (k:Nat):(kas_rev p i j).getD k 0=if i<=k/\k<j then p.getD (i+j - 1 - k) 0 else p.getD k 0:=by
 have h:=getElem?_mirror_all (i:=i) hj k
 rw [Km,Km,Km]
 show ((mirror p i j ((j - i) / 2))[k]?).getD 0=_
 rw [h]
 split<;>rfl
theorem iK {p:Array Nat} {l:Nat} (hk:k<p.size) (hl:l<=k) (i:Nat):(bubble p k (k - l)).getD i 0=if i=l then p.getD k 0 else if l<i/\i<=k then p.getD (i - 1) 0 else p.getD i 0:=by
 have h:=getElem?_bubble hk (k - l) (by lia) i
 have e:k - (k - l)=l:=by lia
 rw [e] at h
 simp only [Km]
 rw [h]
 repeat' split
 all_goals rfl
theorem aS {p:Array Nat} (i j:Nat) (h:p.Perm (Iw (IC N))):(kas_rev p i j).Perm (Iw (IC N)):=(mirror_perm _ _ _ _).trans h
theorem lw {p:Array Nat} (i j:Nat) (h:p.Perm (Iw (IC N))):(bubble p i j).Perm (Iw (IC N)):=(bubble_perm _ _ _).trans h
noncomputable def Tl (N:Nat) (p:Array Nat) (m:Nat):Prop:=∀ i,m<=i->i<N->p.getD i 0=i
theorem Pm.lo {p:Array Nat} (P:Pm N p) (T:Tl N p m) (hi:i<m) (hm:m<=N):p.getD i 0<m:=by
 rcases Jt (p.getD i 0) m with h | h
 ·exact h
 ·have h2:=T _ h (P.bd i (by lia))
  have:=P.inj _ _ (P.bd i (by lia)) (by lia) h2
  lia
noncomputable def Up (lt:Nat->Nat->Bool) (p:Array Nat) (m:Nat):Prop:=∀ i,0<i->i<m->Ah lt (p.getD (i - 1) 0) (p.getD i 0)
theorem Up.all (H:Lt lt) {p:Array Nat} {m:Nat} (U:Up lt p m):∀ d i,i+d+1<m->Ah lt (p.getD i 0) (p.getD (i+d+1) 0)
 | 0,i,h=>U (i+1) (by lia) h
 | d+1,i,h=>(Up.all H U d i (by lia)).trans H (U (i+d+1+1) (by lia) h)
theorem Up.at (H:Lt lt) {p:Array Nat} (U:Up lt p m) (h:i<j) (hj:j<m):Ah lt (p.getD i 0) (p.getD j 0):=by
 have:=U.all H (j - i - 1) i (by lia)
 rw [show i+(j - i - 1)+1=j by lia] at this
 exact this
theorem ol {p:Array Nat} (hb:∀ i,i<N->p.getD i 0<N):∀ (f n:Nat),1<=n->n+f<=N->
  Sat N lt (kas_asc p f n) (λ m=>n<=m/\m<=n+f/\(∀ i,n<=i->i<m->lt (p.getD i 0) (p.getD (i - 1) 0)=false)/\(m<n+f->lt (p.getD m 0) (p.getD (m - 1) 0)=true))
 | 0,n,_,_=>⟨Im _,Im _,λ i a b=>by lia,λ h=>by lia⟩
 | f+1,n,h1,hN=>by
  refine ⟨hb _ (by lia),hb _ (by lia),?_⟩
  cases e:lt (p.getD n 0) (p.getD (n - 1) 0) with
  | true=>
   simp only [if_true]
   exact ⟨Im _,by lia,λ i a b=>by lia,λ _=>e⟩
  | false=>
   simp only [Iq,if_false]
   refine Sat.mono (λ m hm=>?_) _ (ol hb f (n+1) (by lia) (by lia))
   obtain ⟨a,b,c,d⟩:=hm
   refine ⟨by lia,by lia,λ i hi him=>?_,λ h=>d (by lia)⟩
   rcases JT hi with rfl | h
   ·exact e
   ·exact c i h him
structure Dn (N:Nat) (lt:Nat->Nat->Bool) (p:Array Nat) (n q:Nat):Prop where
 perm:p.Perm (Iw (IC N))
 tl:Tl N p n
 fall:∀ i,0<i->i+(q+1)<n->Ah lt (p.getD i 0) (p.getD (i - 1) 0)
 like:∀ i,n<=i+q->i<n->Ah lt (p.getD (i - 1) 0) (p.getD i 0)/\lt (p.getD (i - 1) 0) (p.getD i 0)=false
 join:∀ i,0<i->i+(q+1)=n->lt (p.getD i 0) (p.getD (i - 1) 0)=true
 len:q+1<=n
 top:n<=N
theorem Dn.alike (H:Lt lt) {p:Array Nat} {n q:Nat} (D:Dn N lt p n q):∀ d i j,i+d=j->n<=i+q+1->j<n->lt (p.getD i 0) (p.getD j 0)=false/\lt (p.getD j 0) (p.getD i 0)=false
 | 0,i,j,e,h1,h2=>by
  have:i=j:=by lia
  subst this
  cases e:lt (p.getD i 0) (p.getD i 0) with
  | false=>exact ⟨rfl,rfl⟩
  | true=>have:=H.asym _ _ e; rw [e] at this; cases this
 | d+1,i,j,e,h1,h2=>by
  obtain ⟨a,b⟩:=Dn.alike H D d i (j - 1) (by lia) h1 (by lia)
  obtain ⟨⟨c,_⟩,c'⟩:=D.like j (by lia) h2
  exact ⟨H.tr _ _ _ a c',H.tr _ _ _ c b⟩
theorem Dn.turn (H:Lt lt) {p:Array Nat} {q:Nat} (D:Dn N lt p n q):Tl N (kas_rev p (n - (q+1)) n) n/\(∀ i,0<i->i<n->Ah lt ((kas_rev p (n - (q+1)) n).getD i 0) ((kas_rev p (n - (q+1)) n).getD (i - 1) 0))/\
  (∀ x,lt x (p.getD (n - 1) 0)=true->lt x ((kas_rev p (n - (q+1)) n).getD (n - 1) 0)=true):=by
 have P:=fL D.perm
 have hn:n<=p.size:=by rw [P.sz]; exact D.top
 have hl:=D.len
 refine ⟨λ i h1 h2=>?_,λ i h1 h2=>?_,λ x hx=>?_⟩
 ·rw [bp hn,if_neg (by lia)]; exact D.tl i h1 h2
 ·rw [bp hn,bp hn]
  by_cases c1:n - (q+1)<=i
  ·rw [if_pos ⟨c1,h2⟩]
   by_cases c2:n - (q+1)<=i - 1
   ·rw [if_pos ⟨c2,by lia⟩]
    have:=(D.like (n - (q+1)+n - 1 - (i - 1)) (by lia) (by lia)).1
    rw [show n - (q+1)+n - 1 - (i - 1) - 1=n - (q+1)+n - 1 - i by lia] at this
    exact this
   ·rw [if_neg (by lia)]
    have ei:i=n - (q+1):=by lia
    rw [show n - (q+1)+n - 1 - i=n - 1 by lia]
    have j:=D.join i h1 (by lia)
    have k:=(D.alike H (n - 1 - i) i (n - 1) (by lia) (by lia) (by lia)).1
    exact Ah.of_lt H (lv H j k)
  ·rw [if_neg (by lia),if_neg (by lia)]
   exact D.fall i h1 (by lia)
 ·rw [bp hn,if_pos (by lia),show n - (q+1)+n - 1 - (n - 1)=n - (q+1) by lia]
  have k:=(D.alike H (n - 1 - (n - (q+1))) (n - (q+1)) (n - 1) (by lia) (by lia) (by lia)).1
  exact oj H hx k
theorem iL (H:Lt lt):∀ (f:Nat) (p:Array Nat) (n q:Nat),Dn N lt p n q->n+f<=N->
  Sat N lt (kas_desc f p n q) (λ r=>Dn N lt r.1 r.2.1 r.2.2)
 | 0,p,n,q,D,_=>D
 | f+1,p,n,q,D,hN=>by
  have P:=fL D.perm
  have hl:=D.len
  have hn:n<=p.size:=by rw [P.sz]; exact D.top
  refine ⟨P.bd _ (by lia),P.bd _ (by lia),?_⟩
  cases e:lt (p.getD n 0) (p.getD (n - 1) 0) with
  | true=>
   simp only [if_true]
   have step:∀ p':Array Nat,p'.Perm (Iw (IC N))->Tl N p' n->(∀ i,0<i->i<n->Ah lt (p'.getD i 0) (p'.getD (i - 1) 0))->lt (p'.getD n 0) (p'.getD (n - 1) 0)=true->Dn N lt p' (n+1) 0:=
    λ p' a b c d=>⟨a,λ i h1 h2=>b i (by lia) h2,λ i h1 h2=>c i h1 (by lia),λ i h1 h2=>by lia,
     λ i h1 h2=>by (have:i=n:=(by lia)); subst this; exact d,by lia,by lia⟩
   by_cases hq:q > 0
   ·rw [if_pos hq]
    obtain ⟨t1,t2,t3⟩:=D.turn H
    refine iL H f _ (n+1) 0 (step _ (aS _ _ D.perm) t1 t2 ?_) (by lia)
    refine t3 _ ?_
    rw [bp hn,if_neg (by lia)]
    exact e
   ·rw [if_neg hq]
    have hq0:q=0:=by lia
    subst hq0
    refine iL H f _ (n+1) 0 (step _ D.perm D.tl (λ i h1 h2=>?_) e) (by lia)
    rcases Jt (i+1) n with h | h
    ·exact D.fall i h1 h
    ·exact Ah.of_lt H (D.join i h1 (by lia))
  | false=>
   simp only [Iq,if_false]
   refine ⟨P.bd _ (by lia),P.bd _ (by lia),?_⟩
   cases e2:lt (p.getD (n - 1) 0) (p.getD n 0) with
   | true=>
    simp only [if_true]
    exact D
   | false=>
    simp only [Iq,if_false]
    refine iL H f p (n+1) (q+1) ⟨D.perm,λ i h1 h2=>D.tl i (by lia) h2,λ i h1 h2=>D.fall i h1 (by lia),λ i h1 h2=>?_,λ i h1 h2=>D.join i h1 (by lia),by lia,by lia⟩ (by lia)
    rcases Jt i n with h | h
    ·exact D.like i (by lia) h
    ·have:i=n:=by lia
     subst this
     refine ⟨⟨e,λ _=>?_⟩,e2⟩
     rw [D.tl i (Im _) (by lia)]
     exact P.lo D.tl (by lia) D.top
structure Rn (N:Nat) (lt:Nat->Nat->Bool) (p:Array Nat) (m:Nat):Prop where
 perm:p.Perm (Iw (IC N))
 tl:Tl N p m
 up:Up lt p m
 top:m<=N
theorem Rn.longer (H:Lt lt) {p:Array Nat} (R:Rn N lt p n) (h1:1<=n) (h:n<=m) (hm:m<=N) (ha:∀ i,n<=i->i<m->lt (p.getD i 0) (p.getD (i - 1) 0)=false):Rn N lt p m:=by
 have P:=fL R.perm
 refine ⟨R.perm,λ i a b=>R.tl i (by lia) b,λ i a b=>?_,hm⟩
 rcases Jt i n with c | c
 ·exact R.up i a c
 ·refine ⟨ha i c b,λ _=>?_⟩
  rw [R.tl i c (by lia)]
  exact P.lo (λ j x y=>R.tl j (by lia) y) (by lia) (by lia)
theorem qE (H:Lt lt) {p:Array Nat} (hp:p.Perm (Iw (IC N))) (T:Tl N p n) (hn:n<=N) (F:∀ i,0<i->i<n->Ah lt (p.getD i 0) (p.getD (i - 1) 0)):Rn N lt (kas_rev p 0 n) n:=by
 have P:=fL hp
 have hs:n<=p.size:=by rw [P.sz]; exact hn
 refine ⟨aS _ _ hp,λ i a b=>?_,λ i a b=>?_,hn⟩
 ·rw [bp hs,if_neg (by lia)]; exact T i a b
 ·rw [bp hs,bp hs,if_pos (by lia),if_pos (by lia)]
  have:=F (0+n - 1 - (i - 1)) (by lia) (by lia)
  rw [show 0+n - 1 - (i - 1) - 1=0+n - 1 - i by lia] at this
  exact this
theorem mv (H:Lt lt) {p:Array Nat} (h1:1<=n) (hp:p.Perm (Iw (IC N))) (T:Tl N p n) (hn:n<=N) (F:∀ i,0<i->i<n->Ah lt (p.getD i 0) (p.getD (i - 1) 0)) :
  Sat N lt (kas_tail3 n N p) (λ r=>1<=r.1/\Rn N lt r.2 r.1):=by
 have R:=qE H hp T hn F
 refine Sat.bind (λ m hm=>?_) _ (ol (fL R.perm).bd (N - n) n h1 (by lia))
 exact ⟨by show 1<=m; lia,R.longer H h1 hm.1 (by lia) hm.2.2.1⟩
theorem gZ (H:Lt lt) {p:Array Nat} (D:Dn N lt p (n+1) 0):Sat N lt (kas_descPart n N p) (λ r=>1<=r.1/\Rn N lt r.2 r.1):=by
 have:=D.top
 refine Sat.bind (λ r D'=>?_) _ (iL H (N - (n+1)) p (n+1) 0 D (by lia))
 have hl:=D'.len
 by_cases hq:r.2.2 > 0
 ·rw [if_pos hq]
  obtain ⟨t1,t2,_⟩:=D'.turn H
  exact mv H (by lia) (aS _ _ D'.perm) t1 D'.top t2
 ·rw [if_neg hq]
  refine mv H (by lia) D'.perm D'.tl D'.top λ i h1 h2=>?_
  rcases Jt (i+(r.2.2+1)) r.2.1 with h | h
  ·exact D'.fall i h1 h
  ·exact Ah.of_lt H (D'.join i h1 (by lia))
theorem aK (i:Nat) (h:i<N):(Iw (IC N)).getD i 0=i:=by
 simp [IE,h]
theorem tm (H:Lt lt) (h1:1<=N):Sat N lt (kas_count N (Iw (IC N))) (λ r=>1<=r.1/\Rn N lt r.2 r.1):=by
 have hp:(Iw (IC N)).Perm (Iw (IC N)):=Oi _
 have P:=fL hp
 have R1:Rn N lt (Iw (IC N)) 1:=⟨hp,λ i a b=>aK i b,λ i a b=>by lia,h1⟩
 refine Sat.bind (λ n hn=>?_) _ (ol P.bd (N - 1) 1 (Im _) (by lia))
 obtain ⟨a,b,c,d⟩:=hn
 have R:=R1.longer H (Im _) a (by lia) c
 by_cases e:n=N
 ·rw [if_pos (by simp [e])]; exact ⟨a,R⟩
 ·rw [if_neg (by simp [e])]
  have dd:=d (by lia)
  rw [aK _ (by lia),aK _ (by lia)] at dd
  by_cases h:n > 1
  ·rw [if_pos h]
   refine ⟨P.bd _ (by lia),P.bd _ (by lia),?_⟩
   rw [aK _ (by lia),aK _ (by lia)]
   cases e2:lt 0 (n - 1) with
   | true=>
    simp only [if_true]
    exact ⟨a,R⟩
   | false=>
    simp only [Iq,if_false]
    have hs:n<=(Iw (IC N)).size:=by simp; lia
    have le:∀ i j,i<j->j<n->lt j i=false:=λ i j x y=>by
     have:=(R.up.at H x y).1
     rwa [aK _ (by lia),aK _ (by lia)] at this
    have ge:∀ i j,i<j->j<n->lt i j=false:=λ i j x y=>by
     have p1:lt i 0=false:=by
      rcases K5 i with rfl | q
      ·cases e5:lt 0 0 with
       | false=>rfl
       | true=>have:=H.asym _ _ e5; rw [e5] at this; cases this
      ·exact le 0 i q (by lia)
     have p2:lt (n - 1) j=false:=by
      rcases Jt j (n - 1) with q | q
      ·exact le j (n - 1) q (by lia)
      ·have:j=n - 1:=by lia
       subst this
       cases e5:lt (n - 1) (n - 1) with
       | false=>rfl
       | true=>have:=H.asym _ _ e5; rw [e5] at this; cases this
     exact H.tr _ _ _ p1 (H.tr _ _ _ e2 p2)
    have g:∀ i,i<N->(kas_rev (Iw (IC N)) 0 n).getD i 0=if i<n then n - 1 - i else i:=λ i hi=>by
     rw [bp hs]
     by_cases q:i<n
     ·rw [if_pos (by lia),if_pos q,aK _ (by lia)]; lia
     ·rw [if_neg (by lia),if_neg q,aK _ hi]
    refine gZ H ⟨aS _ _ hp,λ i x y=>?_,λ i x y=>?_,λ i x y=>by lia,λ i x y=>?_,by lia,by lia⟩
    ·rw [g i y,if_neg (by lia)]
    ·rw [g i (by lia),g (i - 1) (by lia),if_pos (by lia),if_pos (by lia)]
     exact ⟨le _ _ (by lia) (by lia),λ _=>by lia⟩
    ·have ei:i=n:=by lia
     subst ei
     rw [g i (by lia),g (i - 1) (by lia),if_neg (by lia),if_pos (by lia),show i - 1 - (i - 1)=0 by lia]
     exact oj H dd e2
  ·rw [if_neg h]
   have:n=1:=by lia
   subst this
   refine gZ H ⟨hp,λ i x y=>aK i y,λ i x y=>by lia,λ i x y=>by lia,λ i x y=>?_,by lia,by lia⟩
   have:i=1:=by lia
   subst this
   rw [aK _ (by lia),aK _ (by lia)]
   exact dd
theorem Rn.put (H:Lt lt) {p:Array Nat} (R:Rn N lt p k) (hk:k<N) (hm:m<=k) (a:∀ i,i<m->lt k (p.getD i 0)=false) (b:∀ i,m<=i->i<k->lt k (p.getD i 0)=true):Rn N lt (bubble p k (k - m)) (k+1):=by
 have P:=fL R.perm
 have hs:k<p.size:=by rw [P.sz]; exact hk
 have ek:p.getD k 0=k:=R.tl k (Im _) hk
 refine ⟨lw _ _ R.perm,λ i x y=>?_,λ i x y=>?_,hk⟩
 ·rw [iK hs hm,if_neg (by lia),if_neg (by lia)]; exact R.tl i (by lia) y
 ·rw [iK hs hm,iK hs hm,ek]
  rcases Jt i m with c | c
  ·rw [if_neg (by lia),if_neg (by lia),if_neg (by lia),if_neg (by lia)]
   exact R.up i x (by lia)
  ·by_cases c1:i=m
   ·rw [if_neg (by lia),if_neg (by lia),if_pos c1]
    exact ⟨a _ (by lia),λ _=>P.lo R.tl (by lia) (by lia)⟩
   ·by_cases c2:i=m+1
    ·rw [if_pos (by lia),if_neg (by lia),if_pos (by lia)]
     exact Ah.of_lt H (b _ (by lia) (by lia))
    ·rw [if_neg (by lia),if_pos (by lia),if_neg (by lia),if_pos (by lia)]
     exact R.up (i - 1) (by lia) (by lia)
end
noncomputable abbrev SM:=StateT SortSt Sem
structure Orc where
 prog:Program
 w:World
 A:Around
 E:Value->Shared->Prop
 κ:SortKind
 it:Array Keyed
 N:Nat
 lt:Nat->Nat->Bool
 I:Shared->Prop
 hc:∀ i j s,i<N->j<N->I s->kas_cmp prog w A κ it i j (λ b s'=>b=lt i j/\I s') s
structure Ab where
 p:Array Nat
 pd:Array (Nat×Nat×Nat)
 mg:Nat
noncomputable def Ab.st (O:Orc) (b:Ab):SortSt:=JG O.κ (b.p.map (kas_item O.it)) b.pd b.mg none
noncomputable def W (O:Orc) {α:Type} (m:SM α) (Q:α->Ab->Prop) (b:Ab):Prop:=
 ∀ s,O.I s->kasC (model O.prog O.w) O.A O.E m (λ a st s'=>O.I s'/\∃ b':Ab,st=b'.st O/\Q a b') (b.st O) s
section
variable {O:Orc} {α β:Type} {b:Ab}
theorem W.pure {a:α} {Q:α->Ab->Prop} (h:Q a b):W O (Oy a) Q b:=λ s hs=>kasC_pure ⟨hs,b,rfl,h⟩
theorem W.bind {m:SM α} {f:α->SM β} {Q:β->Ab->Prop} (h:W O m (λ a b'=>W O (f a) Q b') b):W O (m >>= f) Q b:=λ s hs=>
 kasC_bind (wpAny_mono (h s hs) (λ r s' ⟨i,b',e,q⟩=>by rw [e]; exact q s' i) λ _ _ z=>z)
theorem W.mono {m:SM α} {Q Q':α->Ab->Prop} (h:W O m Q b) (k:∀ a b',Q a b'->Q' a b'):W O m Q' b:=λ s hs=>
 wpAny_mono (h s hs) (λ r s' ⟨i,b',e,q⟩=>⟨i,b',e,k _ _ q⟩) λ _ _ z=>z
theorem W.ite {c:Prop} [Decidable c] {m m':SM α} {Q:α->Ab->Prop} (h:c->W O m Q b) (h':¬ c->W O m' Q b):W O (if c then m else m') Q b:=by
 by_cases q:c
 ·rw [if_pos q]; exact h q
 ·rw [if_neg q]; exact h' q
theorem W.get {Q:SortSt->Ab->Prop} (h:Q (b.st O) b):W O (Ot:SM SortSt) Q b:=λ s hs=>kasC_get ⟨hs,b,rfl,h⟩
theorem W.modify {f:SortSt->SortSt} {Q:PUnit->Ab->Prop} (b':Ab) (e:f (b.st O)=b'.st O) (h:Q ⟨⟩ b'):W O (_root_.modify f:SM PUnit) Q b:=λ s hs=>kasC_modify ⟨hs,b',e,h⟩
theorem W.rule {r:String} {Q:Unit->Ab->Prop} (h:Q () b):W O (liftM (PySem.rule r):SM Unit) Q b:=λ s hs=>kasC_lift (wpAny_rule ⟨hs,b,rfl,h⟩)
theorem W.lt {Q:Option Bool->Ab->Prop} (hi:i<O.N) (hj:j<O.N) (h:Q (some (O.lt i j)) b):W O (lt' (kas_item O.it i) (kas_item O.it j)) Q b:=λ s hs=>by
 rw [lt'_eq]
 refine kasC_bind (kasC_get ?_)
 refine kasC_bind (kasC_lift (wpAny_attempt (wpAny_mono (O.hc i j s hi hj hs) (λ c s' hc=>?_) λ _ _ hF=>hF.elim)))
 obtain ⟨rfl,hs'⟩:=hc
 exact kasC_pure ⟨hs',b,rfl,h⟩
theorem Cs {xs:Array Nat} (h:k<xs.size) (f:Nat->Keyed):(xs.map f)[k]? = some (f (xs.getD k 0)):=by
 have e:xs.getD k 0=xs[k]:=by simp [IE,h]
 rw [e]; simp [h]
theorem W.elem {xs:Array Nat} {Q:Keyed->Ab->Prop} (hk:k<xs.size) (h:Q (kas_item O.it (xs.getD k 0)) b):W O (elem' (xs.map (kas_item O.it)) k) Q b:=by
 rw [elem'_eq,Cs hk]; exact W.pure h
theorem W.ltAt {Q:Option Bool->Ab->Prop} (hi:i<b.p.size) (hj:j<b.p.size) (hN:∀ k,k<b.p.size->b.p.getD k 0<O.N) (h:Q (some (O.lt (b.p.getD i 0) (b.p.getD j 0))) b):W O (ltAt' i j) Q b:=by
 rw [ltAt'_eq]
 refine W.bind (W.get ?_)
 exact W.bind (W.elem hi (W.bind (W.elem hj (W.lt (hN i hi) (hN j hj) h))))
theorem W.forIn {γ:Type} {l:List Nat} {c:γ} {f:Nat->γ->SM (ForInStep γ)} {D:γ->Ab->Prop} (J:Nat->γ->Ab->Prop) (h0:J l.length c b)
  (hs:∀ x k c b,J (k+1) c b->W O (f x c) (λ r b'=>match r with | .done c'=>D c' b' | .yield c'=>J k c' b') b) (hd:∀ c b,J 0 c b->D c b):W O (MH l c f) D b:=by
 induction l generalizing c b with
 | nil=>exact λ s hi=>kasC_nil ⟨hi,b,rfl,hd c b h0⟩
 | cons x l ih=>
  intro s hi
  refine kasC_cons (wpAny_mono (hs x l.length c b h0 s hi) (λ r s' ⟨i,b',e,q⟩=>?_) λ _ _ z=>z)
  obtain ⟨r,st⟩:=r
  have e:st=b'.st O:=e
  subst e
  cases r with
  | done c'=>exact ⟨i,b',rfl,q⟩
  | yield c'=>exact ih q s' i
theorem W.range {γ:Type} {x y:Nat} {c:γ} {f:Nat->γ->SM (ForInStep γ)} {D:γ->Ab->Prop} (J:Nat->γ->Ab->Prop) (h0:J (y - x) c b)
  (hs:∀ x k c b,J (k+1) c b->W O (f x c) (λ r b'=>match r with | .done c'=>D c' b' | .yield c'=>J k c' b') b) (hd:∀ c b,J 0 c b->D c b):W O (MH [x:y] c f) D b:=λ s hi=>
 kasC_range (W.forIn (l:=II x (y - x)) J (by rw [List.length_range']; exact h0) hs hd s hi)
end
noncomputable def gal:Bool->Keyed->Array Keyed->Nat->Nat->Nat->SM (Option Nat):=sortPriv% PySem.Builtin.gallop
noncomputable def byd (lf:Bool) (ky:Keyed) (ar:Array Keyed) (bs i:Nat):SM (Option Bool):=do
 let z <-elem' ar (bs+i)
 if lf then lt' z ky else return (<-lt' ky z).map (!·)
theorem Ct (lf:Bool) (ky:Keyed) (ar:Array Keyed) (bs m hn:Nat):gal lf ky ar bs m hn=(do
 let mut lo1:=0
 let mut of1:=1
 let mut a1:=0
 let mut b1:=0
 let some rt <-byd lf ky ar bs hn | return none
 if rt then
  let mx:=m - hn
  for _ in [0:m] do
   if of1>=mx then break
   let some mo <-byd lf ky ar bs (hn+of1) | return none
   if !mo then break
   lo1:=of1
   of1:=2*of1+1
  a1:=hn+lo1+1
  b1:=hn+min of1 mx
 else
  let mx:=hn+1
  for _ in [0:m] do
   if of1>=mx then break
   let some fd <-byd lf ky ar bs (hn - of1) | return none
   if fd then break
   lo1:=of1
   of1:=2*of1+1
  a1:=hn+1 - min of1 mx
  b1:=hn - lo1
 for _ in [0:m] do
  if a1>=b1 then break
  let md:=a1+(b1 - a1) / 2
  let some mo <-byd lf ky ar bs md | return none
  if mo then a1:=md+1 else b1:=md
 return some b1):=rfl
section
variable {O:Orc} {b:Ab}
noncomputable def bey (O:Orc) (lf:Bool) (k:Nat) (xs:Array Nat) (bs i:Nat):Bool:=if lf then O.lt (xs.getD (bs+i) 0) k else !(O.lt k (xs.getD (bs+i) 0))
theorem W.byd {lf:Bool} {k:Nat} {xs:Array Nat} {bs i:Nat} {Q:Option Bool->Ab->Prop} (hk:k<O.N) (hx:∀ j,j<xs.size->xs.getD j 0<O.N) (hi:bs+i<xs.size) (h:Q (some (bey O lf k xs bs i)) b) :
  W O (byd lf (kas_item O.it k) (xs.map (kas_item O.it)) bs i) Q b:=by
 unfold L2.byd
 refine W.bind (W.elem hi ?_)
 unfold bey at h
 cases lf with
 | true=>
  rw [if_pos rfl] at h ⊢
  exact W.lt (hx _ hi) hk h
 | false=>
  rw [if_neg Iv] at h ⊢
  exact W.bind (W.lt hk (hx _ hi) (W.pure h))
theorem W.gal {lf:Bool} {xs:Array Nat} {bs hn K:Nat} {Q:Option Nat->Ab->Prop} (hk:k<O.N) (hx:∀ j,j<xs.size->xs.getD j 0<O.N) (hm:bs+m<=xs.size) (hh:hn<m) (hK:K<=m)
  (h1:∀ i,i<K->bey O lf k xs bs i=true) (h2:∀ i,K<=i->i<m->bey O lf k xs bs i=false) (h:Q (some K) b):W O (gal lf (kas_item O.it k) (xs.map (kas_item O.it)) bs m hn) Q b:=by
 have yes:∀ {i},bey O lf k xs bs i=true->i<m->i<K:=λ {i} e hi=>by
  rcases Jt i K with z | z
  ·exact z
  ·rw [h2 i z hi] at e; cases e
 have no:∀ {i},bey O lf k xs bs i=false->K<=i:=λ {i} e=>by
  rcases Jt i K with z | z
  ·rw [h1 i z] at e; cases e
  ·exact z
 rw [Ct]
 refine W.bind (W.byd hk hx (by lia) ?_)
 dsimp only
 cases e0:bey O lf k xs bs hn with
 | true=>
  simp only [if_true]
  have h0:=yes e0 hh
  refine W.bind (W.range (D:=λ c b'=>b'=b/\c.1=none/\hn+c.2.1<K/\K<=hn+min c.2.2 (m - hn)) (λ j c b'=>b'=b/\c.1=none/\hn+c.2.1<K/\m+1<=c.2.2+j) ⟨rfl,rfl,h0,by simp; lia⟩ ?_ ?_ |>.mono λ c b' hc=>?_)
  ·rintro x j ⟨c1,c2,c3⟩ b' ⟨eb,e1,e2,e3⟩
   subst b'
   dsimp only at e1 e2 e3 ⊢
   subst e1
   by_cases hge:c3>=m - hn
   ·rw [if_pos hge]
    exact W.pure ⟨rfl,rfl,e2,by show K<=hn+min c3 (m - hn); lia⟩
   ·rw [if_neg hge]
    refine W.bind (W.byd hk hx (by lia) ?_)
    cases e:bey O lf k xs bs (hn+c3) with
    | true=>
     simp only [Ka,Iq,if_false]
     have:=yes e (by lia)
     exact W.pure ⟨rfl,rfl,this,by show m+1<=2*c3+1+j; lia⟩
    | false=>
     simp only [Bool.not_false,if_true]
     have:=no e
     exact W.pure ⟨rfl,rfl,e2,by show K<=hn+min c3 (m - hn); lia⟩
  ·rintro ⟨c1,c2,c3⟩ b' ⟨eb,e1,e2,e3⟩
   subst b'
   exact ⟨rfl,e1,e2,by show K<=hn+min c3 (m - hn); dsimp only at e3; lia⟩
  ·obtain ⟨c1,c2,c3⟩:=c
   obtain ⟨eb,e1,e2,e3⟩:=hc
   subst b'
   dsimp only at e1 e2 e3 ⊢
   subst e1
   dsimp only
   refine W.bind (W.range (D:=λ c b'=>b'=b/\c.1=none/\c.2.2=K) (λ j c b'=>b'=b/\c.1=none/\c.2.1<=K/\K<=c.2.2/\c.2.2<=m/\c.2.2 - c.2.1<=j) ⟨rfl,rfl,by show hn+c2+1<=K; lia,by show K<=hn+min c3 (m - hn); exact e3,by show hn+min c3 (m - hn)<=m; lia,by show hn+min c3 (m - hn) - (hn+c2+1)<=m - 0; lia⟩ ?_ ?_ |>.mono λ c b' hc=>?_)
   ·rintro x j ⟨c1,c2,c3⟩ b' ⟨eb,e1,e2,e3,e4,e5⟩
    subst b'
    dsimp only at e1 e2 e3 e4 e5 ⊢
    subst e1
    by_cases hge:c2>=c3
    ·rw [if_pos hge]
     exact W.pure ⟨rfl,rfl,by show c3=K; lia⟩
    ·rw [if_neg hge]
     refine W.bind (W.byd hk hx (by lia) ?_)
     cases e:bey O lf k xs bs (c2+(c3 - c2) / 2) with
     | true=>
      simp only [if_true]
      have:=yes e (by lia)
      exact W.pure ⟨rfl,rfl,by show c2+(c3 - c2) / 2+1<=K; lia,e3,e4,by show c3 - (c2+(c3 - c2) / 2+1)<=j; lia⟩
     | false=>
      simp only [Iq,if_false]
      have:=no e
      exact W.pure ⟨rfl,rfl,e2,this,by show c2+(c3 - c2) / 2<=m; lia,by show c2+(c3 - c2) / 2 - c2<=j; lia⟩
   ·rintro ⟨c1,c2,c3⟩ b' ⟨eb,e1,e2,e3,e4,e5⟩
    subst b'
    exact ⟨rfl,e1,by show c3=K; dsimp only at e2 e3 e5; lia⟩
   ·obtain ⟨c1,c2,c3⟩:=c
    obtain ⟨eb,e1,e2⟩:=hc
    subst b'
    dsimp only at e1 e2 ⊢
    subst e1 e2
    exact W.pure h
 | false=>
  simp only [Iq,if_false]
  have h0:=no e0
  refine W.bind (W.range (D:=λ c b'=>b'=b/\c.1=none/\K+c.2.1<=hn/\hn+1 - min c.2.2 (hn+1)<=K) (λ j c b'=>b'=b/\c.1=none/\K+c.2.1<=hn/\m+1<=c.2.2+j) ⟨rfl,rfl,h0,by simp; lia⟩ ?_ ?_ |>.mono λ c b' hc=>?_)
  ·rintro x j ⟨c1,c2,c3⟩ b' ⟨eb,e1,e2,e3⟩
   subst b'
   dsimp only at e1 e2 e3 ⊢
   subst e1
   by_cases hge:c3>=hn+1
   ·rw [if_pos hge]
    exact W.pure ⟨rfl,rfl,e2,by show hn+1 - min c3 (hn+1)<=K; lia⟩
   ·rw [if_neg hge]
    refine W.bind (W.byd hk hx (by lia) ?_)
    cases e:bey O lf k xs bs (hn - c3) with
    | true=>
     simp only [if_true]
     have:=yes e (by lia)
     exact W.pure ⟨rfl,rfl,e2,by show hn+1 - min c3 (hn+1)<=K; lia⟩
    | false=>
     simp only [Iq,if_false]
     have:=no e
     exact W.pure ⟨rfl,rfl,by show K+c3<=hn; lia,by show m+1<=2*c3+1+j; lia⟩
  ·rintro ⟨c1,c2,c3⟩ b' ⟨eb,e1,e2,e3⟩
   subst b'
   exact ⟨rfl,e1,e2,by show hn+1 - min c3 (hn+1)<=K; dsimp only at e3; lia⟩
  ·obtain ⟨c1,c2,c3⟩:=c
   obtain ⟨eb,e1,e2,e3⟩:=hc
   subst b'
   dsimp only at e1 e2 e3 ⊢
   subst e1
   dsimp only
   refine W.bind (W.range (D:=λ c b'=>b'=b/\c.1=none/\c.2.2=K) (λ j c b'=>b'=b/\c.1=none/\c.2.1<=K/\K<=c.2.2/\c.2.2<=m/\c.2.2 - c.2.1<=j) ⟨rfl,rfl,by show hn+1 - min c3 (hn+1)<=K; exact e3,by show K<=hn - c2; lia,by show hn - c2<=m; lia,by show hn - c2 - (hn+1 - min c3 (hn+1))<=m - 0; lia⟩ ?_ ?_ |>.mono λ c b' hc=>?_)
   ·rintro x j ⟨c1,c2,c3⟩ b' ⟨eb,e1,e2,e3,e4,e5⟩
    subst b'
    dsimp only at e1 e2 e3 e4 e5 ⊢
    subst e1
    by_cases hge:c2>=c3
    ·rw [if_pos hge]
     exact W.pure ⟨rfl,rfl,by show c3=K; lia⟩
    ·rw [if_neg hge]
     refine W.bind (W.byd hk hx (by lia) ?_)
     cases e:bey O lf k xs bs (c2+(c3 - c2) / 2) with
     | true=>
      simp only [if_true]
      have:=yes e (by lia)
      exact W.pure ⟨rfl,rfl,by show c2+(c3 - c2) / 2+1<=K; lia,e3,e4,by show c3 - (c2+(c3 - c2) / 2+1)<=j; lia⟩
     | false=>
      simp only [Iq,if_false]
      have:=no e
      exact W.pure ⟨rfl,rfl,e2,this,by show c2+(c3 - c2) / 2<=m; lia,by show c2+(c3 - c2) / 2 - c2<=j; lia⟩
   ·rintro ⟨c1,c2,c3⟩ b' ⟨eb,e1,e2,e3,e4,e5⟩
    subst b'
    exact ⟨rfl,e1,by show c3=K; dsimp only at e2 e3 e5; lia⟩
   ·obtain ⟨c1,c2,c3⟩:=c
    obtain ⟨eb,e1,e2⟩:=hc
    subst b'
    dsimp only at e1 e2 ⊢
    subst e1 e2
    exact W.pure h
end
noncomputable def setMG:Nat->SM Unit:=sortPriv% PySem.Builtin.setMinGallop
noncomputable def mLo:Array Keyed->Array Keyed->SM (Array Keyed):=sortPriv% PySem.Builtin.mergeLo
theorem wm (g:Nat):setMG g=_root_.modify λ st=>JG (kindOf st) (arrOf st) (pendingOf st) g (failedOf st):=rfl
theorem Cu (a b:Array Keyed):mLo a b=(do
 rule "list.sort.merge-lo"
 let tt:=a.size+b.size
 let dn (o:Array Keyed) (i j:Nat):=o++a.extract i a.size++b.extract j b.size
 let la (o:Array Keyed) (i j:Nat):=o++b.extract j b.size++a.extract i a.size
 let mut o:Array Keyed:=#[<-elem' b 0]
 let mut i:=0
 let mut j:=1
 if j == b.size then return dn o i j
 if i+1 == a.size then return la o i j
 let mut mg:=gallopOf (<-get)
 for _ in [0:tt] do
  let mut ca:=0
  let mut cb:=0
  for _ in [0:tt] do
   let some bw <-lt' (<-elem' b j) (<-elem' a i) | return dn o i j
   if bw then
    o:=o.push (<-elem' b j); j:=j+1; cb:=cb+1; ca:=0
    if j == b.size then return dn o i j
    if cb>=mg then break
   else
    o:=o.push (<-elem' a i); i:=i+1; ca:=ca+1; cb:=0
    if i+1 == a.size then return la o i j
    if ca>=mg then break
  rule "list.sort.gallop"
  mg:=mg+1
  for _ in [0:tt] do
   if mg > 1 then mg:=mg - 1
   setMG mg
   let some k <-gal false (<-elem' b j) a i (a.size - i) 0 | return dn o i j
   ca:=k
   if k > 0 then
    o:=o++a.extract i (i+k); i:=i+k
    if i+1 == a.size then return la o i j
    if i == a.size then return dn o i j
   o:=o.push (<-elem' b j); j:=j+1
   if j == b.size then return dn o i j
   let some k <-gal true (<-elem' a i) b j (b.size - j) 0 | return dn o i j
   cb:=k
   if k > 0 then
    o:=o++b.extract j (j+k); j:=j+k
    if j == b.size then return dn o i j
   o:=o.push (<-elem' a i); i:=i+1
   if i+1 == a.size then return la o i j
   if ca<7 && cb<7 then break
  mg:=mg+1
  setMG mg
 unsupported "internal:list.sort.merge-bound"):=rfl
section
variable {O:Orc} {b:Ab}
theorem W.setMG {g:Nat} {Q:Unit->Ab->Prop} (h:Q () { b with mg:=g }):W O (setMG g) Q b:=by
 rw [wm]; exact W.modify { b with mg:=g } rfl h
structure Two (O:Orc) (xs ys:Array Nat):Prop where
 H:Lt O.lt
 nx:∀ i,i<xs.size->xs.getD i 0<O.N
 ny:∀ i,i<ys.size->ys.getD i 0<O.N
 sx:xs.toList.Pairwise (Ah O.lt)
 sy:ys.toList.Pairwise (Ah O.lt)
 xy:∀ x∈xs.toList,∀ y∈ys.toList,x<y
 x1:0<xs.size
 y1:0<ys.size
noncomputable def om (O:Orc) (xs ys:Array Nat) (rs:Array Nat):Prop:=rs.toList.Perm (xs.toList++ys.toList)/\rs.toList.Pairwise (Ah O.lt)
structure Lw (O:Orc) (xs ys os:Array Nat) (i j:Nat):Prop where
 pm:(os.toList++(xs.toList.drop i++ys.toList.drop j)).Perm (xs.toList++ys.toList)
 sa:(os.toList++xs.toList.drop i).Pairwise (Ah O.lt)
 sb:(os.toList++ys.toList.drop j).Pairwise (Ah O.lt)
 ti:i<=xs.size
 tj:j<=ys.size
theorem gD {xs:Array Nat} (h:i<xs.size):xs.toList.drop i=xs.getD i 0::xs.toList.drop (i+1):=by
 have h':i<xs.toList.length:=by simpa using h
 rw [K1 h']
 congr 1
 simp [IE,h]
variable {xs ys os:Array Nat} {i j k:Nat}
theorem mw {i:Nat} (h:i<xs.size):xs.getD i 0∈xs.toList:=by
 have:xs.getD i 0=xs[i]:=by simp [IE,h]
 rw [this]; simp
theorem Two.ah (T:Two O xs ys) {x y:Nat} (hx:x∈xs.toList) (hy:y∈ys.toList) (h:O.lt y x=false):Ah O.lt x y:=⟨h,λ _=>T.xy x hx y hy⟩
theorem gE (xs:Array Nat) (i:Nat):(xs.extract i xs.size).toList=xs.toList.drop i:=by
 rw [JZ,Jo]
 exact Jb (by simp)
theorem Lw.done (L:Lw O xs ys os i j) (h:j=ys.size):om O xs ys (os++xs.extract i xs.size++ys.extract j ys.size):=by
 subst h
 have e:(os++xs.extract i xs.size++ys.extract ys.size ys.size).toList=os.toList++xs.toList.drop i:=by rw [IJ,IJ,gE,gE]; simp
 have pm:=L.pm
 have e2:ys.toList.drop ys.size=[]:=by simp
 rw [e2,Kp] at pm
 exact ⟨by rw [e]; exact pm,by rw [e]; exact L.sa⟩
theorem Lw.done2 (L:Lw O xs ys os i j) (h:i=xs.size):om O xs ys (os++xs.extract i xs.size++ys.extract j ys.size):=by
 subst h
 have e:(os++xs.extract xs.size xs.size++ys.extract j ys.size).toList=os.toList++ys.toList.drop j:=by rw [IJ,IJ,gE,gE]; simp
 have pm:=L.pm
 have e2:xs.toList.drop xs.size=[]:=by simp
 rw [e2,KH] at pm
 exact ⟨by rw [e]; exact pm,by rw [e]; exact L.sb⟩
theorem Lw.last (T:Two O xs ys) (L:Lw O xs ys os i j) (h:i+1=xs.size) (hl:∀ y∈ys.toList,O.lt y (xs.getD (xs.size - 1) 0)=true):om O xs ys (os++ys.extract j ys.size++xs.extract i xs.size):=by
 have e:(os++ys.extract j ys.size++xs.extract i xs.size).toList=os.toList++ys.toList.drop j++xs.toList.drop i:=by rw [IJ,IJ,gE,gE]
 refine ⟨?_,?_⟩
 ·rw [e,Je]
  exact ((MP _).append MQ).trans L.pm
 ·rw [e]
  have hd:xs.toList.drop i=[xs.getD (xs.size - 1) 0]:=by
   rw [gD (by lia)]
   have:xs.toList.drop (i+1)=[]:=by rw [h]; simp
   rw [this,show xs.size - 1=i by lia]
  refine IA.mpr ⟨L.sb,(IA.mp L.sa).2.1,λ a ha c hc=>?_⟩
  rcases IN.mp ha with ha | ha
  ·exact (IA.mp L.sa).2.2 a ha c hc
  ·rw [hd] at hc
   rw [Jv.mp hc]
   exact Ah.of_lt T.H (hl a (KT ha))
theorem Lw.stepB (T:Two O xs ys) (L:Lw O xs ys os i j) (hi:i<xs.size) (hj:j<ys.size) (h:O.lt (ys.getD j 0) (xs.getD i 0)=true):Lw O xs ys (os.push (ys.getD j 0)) i (j+1):=by
 have e:(os.push (ys.getD j 0)).toList=os.toList++[ys.getD j 0]:=by simp
 have hy:=gD hj
 have pm:=L.pm; have sa:=L.sa; have sb:=L.sb
 rw [hy] at pm sb
 refine ⟨?_,?_,?_,L.ti,by lia⟩
 ·rw [e,Je]
  refine Oj (MR _ ?_) pm
  exact (N2 (a:=ys.getD j 0) (l₁:=xs.toList.drop i)).symm
 ·rw [e,Je]
  obtain ⟨s1,s2,s3⟩:=IA.mp sa
  obtain ⟨t1,t2,t3⟩:=IA.mp sb
  refine IA.mpr ⟨s1,JU.mpr ⟨λ c hc=>?_,s2⟩,λ a ha c hc=>?_⟩
  ·rw [gD hi] at hc s2
   rcases Io.mp hc with rfl | hc
   ·exact Ah.of_lt T.H h
   ·exact (Ah.of_lt T.H h).trans T.H ((JU.mp s2).1 c hc)
  ·rcases Io.mp hc with rfl | hc
   ·exact t3 a ha _ (Jg ..)
   ·exact s3 a ha c hc
 ·rw [e,Je]; exact sb
theorem Lw.stepA (T:Two O xs ys) (L:Lw O xs ys os i j) (hi:i<xs.size) (hj:j<ys.size) (h:O.lt (ys.getD j 0) (xs.getD i 0)=false):Lw O xs ys (os.push (xs.getD i 0)) (i+1) j:=by
 have e:(os.push (xs.getD i 0)).toList=os.toList++[xs.getD i 0]:=by simp
 have hx:=gD hi
 have pm:=L.pm; have sa:=L.sa; have sb:=L.sb
 rw [hx] at pm sa
 refine ⟨?_,?_,?_,by lia,L.tj⟩
 ·rw [e,Je]; exact pm
 ·rw [e,Je]; exact sa
 ·rw [e,Je]
  obtain ⟨s1,s2,s3⟩:=IA.mp sa
  obtain ⟨t1,t2,t3⟩:=IA.mp sb
  have h0:Ah O.lt (xs.getD i 0) (ys.getD j 0):=T.ah (mw hi) (mw hj) h
  refine IA.mpr ⟨s1,JU.mpr ⟨λ c hc=>?_,t2⟩,λ a ha c hc=>?_⟩
  ·rw [gD hj] at hc t2
   rcases Io.mp hc with rfl | hc
   ·exact h0
   ·exact h0.trans T.H ((JU.mp t2).1 c hc)
  ·rcases Io.mp hc with rfl | hc
   ·exact s3 a ha _ (Jg ..)
   ·exact t3 a ha c hc
theorem pk {os xs:Array Nat} {i k:Nat} (h:i+k<xs.size):(os++xs.extract i (i+k)).push (xs.getD (i+k) 0)=os++xs.extract i (i+(k+1)):=by
 apply JL.mp
 have e:xs.getD (i+k) 0=xs[i+k]:=by simp [IE,h]
 rw [e]
 simp only [Ld,IJ,JZ,Je]
 congr 1
 have hl:k<(xs.toList.drop i).length:=by simp; lia
 rw [Jo,Jo,show i+k - i=k by lia,show i+(k+1) - i=k+1 by lia,JS hl]
 simp
theorem Lw.manyA (T:Two O xs ys) (hj:j<ys.size):∀ k,Lw O xs ys os i j->i+k<=xs.size->(∀ d,d<k->O.lt (ys.getD j 0) (xs.getD (i+d) 0)=false)->Lw O xs ys (os++xs.extract i (i+k)) (i+k) j
 | 0,L,_,_=>by
  have e:os++xs.extract i (i+0)=os:=by apply JL.mp; simp
  rw [e]; exact L
 | k+1,L,hk,h=>by
  have L':=Lw.manyA T hj k L (by lia) λ d hd=>h d (by lia)
  have:=L'.stepA T (by lia) hj (h k (by lia))
  rw [pk (by lia)] at this
  exact this
theorem Lw.manyB (T:Two O xs ys) (hi:i<xs.size):∀ k,Lw O xs ys os i j->j+k<=ys.size->(∀ d,d<k->O.lt (ys.getD (j+d) 0) (xs.getD i 0)=true)->Lw O xs ys (os++ys.extract j (j+k)) i (j+k)
 | 0,L,_,_=>by
  have e:os++ys.extract j (j+0)=os:=by apply JL.mp; simp
  rw [e]; exact L
 | k+1,L,hk,h=>by
  have L':=Lw.manyB T hi k L (by lia) λ d hd=>h d (by lia)
  have:=L'.stepB T hi (by lia) (h k (by lia))
  rw [pk (by lia)] at this
  exact this
theorem kx {P:Nat->Bool}:∀ (m:Nat),(∀ i j,i<=j->j<m->P j=true->P i=true)->∃ K,K<=m/\(∀ i,i<K->P i=true)/\∀ i,K<=i->i<m->P i=false
 | 0,_=>⟨0,Im _,λ i h=>absurd h (MD _),λ i _ h=>absurd h (MD _)⟩
 | m+1,h=>by
  obtain ⟨K,a,c,d⟩:=kx m λ i j h1 h2 h3=>h i j h1 (by lia) h3
  cases e:P m with
  | true=>exact ⟨m+1,Im _,λ i hi=>h i m (by lia) (by lia) e,λ i h1 h2=>by lia⟩
  | false=>
   refine ⟨K,by lia,c,λ i h1 h2=>?_⟩
   rcases Jt i m with z | z
   ·exact d i h1 z
   ·have:i=m:=by lia
    subst this; exact e
theorem Cv {xs:Array Nat} (h:xs.toList.Pairwise (Ah O.lt)) {i j:Nat} (hij:i<j) (hj:j<xs.size):Ah O.lt (xs.getD i 0) (xs.getD j 0):=by
 have:=JV.mp h i j (by simp; lia) (by simpa using hj) hij
 have e1:xs.getD i 0=xs[i]:=by simp [IE,show i<xs.size by lia]
 have e2:xs.getD j 0=xs[j]:=by simp [IE,hj]
 rw [e1,e2]; simpa using this
theorem Two.monoA (T:Two O xs ys) {y d:Nat} (h1:c<=d) (h2:i+d<xs.size) (h3:bey O false y xs i d=true):bey O false y xs i c=true:=by
 simp only [bey,Iq,if_false,Mh] at h3 ⊢
 rcases JT h1 with rfl | h1
 ·exact h3
 ·exact T.H.tr _ _ _ h3 (Cv T.sx (show i+c<i+d by lia) h2).1
theorem Two.monoB (T:Two O xs ys) {x d:Nat} (h1:c<=d) (h2:j+d<ys.size) (h3:bey O true x ys j d=true):bey O true x ys j c=true:=by
 simp only [bey,if_true] at h3 ⊢
 rcases JT h1 with rfl | h1
 ·exact h3
 ·exact lv T.H h3 (Cv T.sy (show j+c<j+d by lia) h2).1
theorem W.mLo {Q:Array Keyed->Ab->Prop} (T:Two O xs ys) (h0:O.lt (ys.getD 0 0) (xs.getD 0 0)=true) (hl:∀ y∈ys.toList,O.lt y (xs.getD (xs.size - 1) 0)=true)
  (h:∀ rs mg,om O xs ys rs->Q (rs.map (kas_item O.it)) { b with mg:=mg }):W O (mLo (xs.map (kas_item O.it)) (ys.map (kas_item O.it))) Q b:=by
 have x1:=T.x1
 have y1:=T.y1
 have L0:Lw O xs ys #[] 0 0:=⟨by simp,by simpa using T.sx,by simpa using T.sy,IZ _,IZ _⟩
 have L1:=L0.stepB T x1 y1 h0
 have mpush:∀ (os:Array Nat) (x:Nat),(os.map (kas_item O.it)).push (kas_item O.it x)=(os.push x).map (kas_item O.it):=λ os x=>by rw [Ou]
 have mapp:∀ (os zs:Array Nat),os.map (kas_item O.it)++zs.map (kas_item O.it)=(os++zs).map (kas_item O.it):=λ os zs=>by rw [N4]
 have mext:∀ (zs:Array Nat) (i j:Nat),(zs.map (kas_item O.it)).extract i j=(zs.extract i j).map (kas_item O.it):=λ zs i j=>by rw [Mi]
 rw [Cu]
 refine W.bind (W.rule ?_)
 refine W.bind (W.elem y1 ?_)
 simp only [MS,mext,mapp]
 have e1:#[kas_item O.it (ys.getD 0 0)]=((#[]:Array Nat).push (ys.getD 0 0)).map (kas_item O.it):=by simp
 rw [e1]
 by_cases c1:(1 == ys.size)=true
 ·rw [if_pos c1]
  simp only [mapp]
  exact W.pure (h _ b.mg (L1.done (by simpa using c1)))
 rw [if_neg c1]
 by_cases c2:(0+1 == xs.size)=true
 ·rw [if_pos c2]
  simp only [mapp]
  exact W.pure (h _ b.mg (L1.last T (by simpa using c2) hl))
 rw [if_neg c2]
 refine W.bind (W.get ?_)
 have ex:∀ {P:Nat->Bool} (m:Nat),(∀ i j,i<=j->j<m->P j=true->P i=true)->∃ K,K<=m/\(∀ i,i<K->P i=true)/\∀ i,K<=i->i<m->P i=false:=λ m h=>kx m h
 have KA:∀ i j,i<xs.size->j<ys.size->∃ K,K<=xs.size - i/\(∀ d,d<K->bey O false (ys.getD j 0) xs i d=true)/\∀ d,K<=d->d<xs.size - i->bey O false (ys.getD j 0) xs i d=false:=λ i j hi hj=>ex _ λ c d h1 h2 h3=>T.monoA h1 (by lia) h3
 have KB:∀ i j,i<xs.size->j<ys.size->∃ K,K<=ys.size - j/\(∀ d,d<K->bey O true (xs.getD i 0) ys j d=true)/\∀ d,K<=d->d<ys.size - j->bey O true (xs.getD i 0) ys j d=false:=λ i j hi hj=>ex _ λ c d h1 h2 h3=>T.monoB h1 (by lia) h3
 have c1:1<ys.size:=by (have:¬ 1=ys.size:=(by simpa using c1)); lia
 have c2:1<xs.size:=by (have:¬ 1=xs.size:=(by simpa using c2)); lia
 refine W.bind (W.range (D:=λ c b1=>b1.p=b.p/\b1.pd=b.pd/\∃ rs:Array Nat,c.1=some (rs.map (kas_item O.it))/\om O xs ys rs) (λ k c b1=>b1.p=b.p/\b1.pd=b.pd/\c.1=none/\∃ os:Array Nat,c.2.1=os.map (kas_item O.it)/\Lw O xs ys os c.2.2.1 c.2.2.2.1/\c.2.2.1+1<xs.size/\c.2.2.2.1<ys.size/\xs.size+ys.size+1<=c.2.2.1+c.2.2.2.1+k) ⟨rfl,rfl,rfl,_,rfl,L1,c2,c1,by show xs.size+ys.size+1<=0+1+(xs.size+ys.size - 0); lia⟩ ?_ ?_ |>.mono λ c b1 hc=>?_)
 rotate_left
 ·rintro ⟨r,o,i,j,g⟩ b1 ⟨f1,f2,_,os,_,L,hi,hj,hk⟩
  dsimp only at hi hj hk
  exact absurd hk (by lia)
 ·obtain ⟨r,o,i,j,g⟩:=c
  obtain ⟨f1,f2,rs,e,hm⟩:=hc
  dsimp only at e ⊢
  subst e
  have:=h rs b1.mg hm
  obtain ⟨p1,d1,m1⟩:=b1
  have f1:p1=b.p:=f1
  have f2:d1=b.pd:=f2
  subst f1 f2
  exact W.pure this
 rintro x k ⟨r,o,i0,j0,g0⟩ b1 ⟨f1,f2,e,os0,eo,L,hi0,hj0,hk⟩
 dsimp only at e eo hi0 hj0 hk L ⊢
 subst e eo
 refine W.bind (W.range (D:=λ c b1=>b1.p=b.p/\b1.pd=b.pd/\((∃ rs:Array Nat,c.1=some (rs.map (kas_item O.it))/\om O xs ys rs)\/(c.1=none/\∃ os:Array Nat,c.2.1=os.map (kas_item O.it)/\Lw O xs ys os c.2.2.1 c.2.2.2.1/\c.2.2.1+1<xs.size/\c.2.2.2.1<ys.size/\i0+j0+1<=c.2.2.1+c.2.2.2.1))) (λ k c b1=>b1.p=b.p/\b1.pd=b.pd/\c.1=none/\∃ os:Array Nat,c.2.1=os.map (kas_item O.it)/\Lw O xs ys os c.2.2.1 c.2.2.2.1/\c.2.2.1+1<xs.size/\c.2.2.2.1<ys.size/\i0+j0+(xs.size+ys.size)<=c.2.2.1+c.2.2.2.1+k/\i0+j0<=c.2.2.1+c.2.2.2.1) ⟨f1,f2,rfl,_,rfl,L,hi0,hj0,by show i0+j0+(xs.size+ys.size)<=i0+j0+(xs.size+ys.size - 0)/\i0+j0<=i0+j0; lia⟩ ?_ ?_ |>.mono λ c b1 hc=>?_)
 ·rintro x k ⟨r,o,i,j,ca,cb⟩ b1 ⟨f1,f2,e,os,eo,L,hi,hj,hk1,hk2⟩
  dsimp only at e eo hi hj hk1 hk2 L ⊢
  subst e eo
  refine W.bind (W.elem hj (W.bind (W.elem (by lia) (W.bind (W.lt (T.ny _ hj) (T.nx _ (by lia)) ?_)))))
  cases e:O.lt (ys.getD j 0) (xs.getD i 0) with
  | true=>
   have L':=L.stepB T (by lia) hj e
   simp only [if_true]
   refine W.bind (W.elem hj ?_)
   simp only [mpush,mapp]
   by_cases q:(j+1 == ys.size)=true
   ·rw [if_pos q]
    exact W.pure ⟨f1,f2,.inl ⟨_,rfl,L'.done (by simpa using q)⟩⟩
   ·rw [if_neg q]
    have q':¬ j+1=ys.size:=by simpa using q
    refine W.ite (λ _=>?_) (λ _=>?_)
    ·exact W.pure ⟨f1,f2,.inr ⟨rfl,_,rfl,L',hi,by show j+1<ys.size; lia,by show i0+j0+1<=i+(j+1); lia⟩⟩
    ·exact W.pure ⟨f1,f2,rfl,_,rfl,L',hi,by show j+1<ys.size; lia,by show i0+j0+(xs.size+ys.size)<=i+(j+1)+k/\i0+j0<=i+(j+1); lia⟩
  | false=>
   have L':=L.stepA T (by lia) hj e
   simp only [Iq,if_false]
   refine W.bind (W.elem (by lia) ?_)
   simp only [mpush,mapp]
   by_cases q:(i+1+1 == xs.size)=true
   ·rw [if_pos q]
    exact W.pure ⟨f1,f2,.inl ⟨_,rfl,L'.last T (by simpa using q) hl⟩⟩
   ·rw [if_neg q]
    have q':¬ i+1+1=xs.size:=by simpa using q
    refine W.ite (λ _=>?_) (λ _=>?_)
    ·exact W.pure ⟨f1,f2,.inr ⟨rfl,_,rfl,L',by show i+1+1<xs.size; lia,hj,by show i0+j0+1<=i+1+j; lia⟩⟩
    ·exact W.pure ⟨f1,f2,rfl,_,rfl,L',by show i+1+1<xs.size; lia,hj,by show i0+j0+(xs.size+ys.size)<=i+1+j+k/\i0+j0<=i+1+j; lia⟩
 ·rintro ⟨r,o,i,j,ca,cb⟩ b1 ⟨f1,f2,_,os,_,L,hi,hj,hk1,hk2⟩
  dsimp only at hi hj hk1 hk2
  exact absurd hk1 (by lia)
 obtain ⟨r,o,i1,j1,ca,cb⟩:=c
 obtain ⟨f1,f2,hc⟩:=hc
 dsimp only at hc ⊢
 rcases hc with ⟨rs,e,hm⟩ | ⟨e,os1,eo,L,hi1,hj1,hk1⟩
 ·subst e
  exact W.pure ⟨f1,f2,rs,rfl,hm⟩
 subst e eo
 dsimp only
 refine W.bind (W.rule ?_)
 refine W.bind (W.range (D:=λ c b1=>b1.p=b.p/\b1.pd=b.pd/\((∃ rs:Array Nat,c.1=some (rs.map (kas_item O.it))/\om O xs ys rs)\/(c.1=none/\∃ os:Array Nat,c.2.1=os.map (kas_item O.it)/\Lw O xs ys os c.2.2.1 c.2.2.2.1/\c.2.2.1+1<xs.size/\c.2.2.2.1<ys.size/\i1+j1<=c.2.2.1+c.2.2.2.1))) (λ k c b1=>b1.p=b.p/\b1.pd=b.pd/\c.1=none/\∃ os:Array Nat,c.2.1=os.map (kas_item O.it)/\Lw O xs ys os c.2.2.1 c.2.2.2.1/\c.2.2.1+1<xs.size/\c.2.2.2.1<ys.size/\i1+j1+(xs.size+ys.size)<=c.2.2.1+c.2.2.2.1+k/\i1+j1<=c.2.2.1+c.2.2.2.1) ⟨f1,f2,rfl,_,rfl,L,hi1,hj1,by show i1+j1+(xs.size+ys.size)<=i1+j1+(xs.size+ys.size - 0)/\i1+j1<=i1+j1; lia⟩ ?_ ?_ |>.mono λ c b1 hc=>?_)
 ·rintro x k ⟨r,o,i,j,g,ca,cb⟩ b1 ⟨f1,f2,e,os,eo,L,hi,hj,hk1,hk2⟩
  dsimp only at e eo hi hj hk1 hk2 L ⊢
  subst e eo
  obtain ⟨K,hK,hK1,hK2⟩:=KA i j (by lia) hj
  have LK:=L.manyA T hj K (by lia) λ d hd=>by have:=hK1 d hd; simpa [bey] using this
  by_cases hg:g > 1
  ·rw [if_pos hg]
   refine W.bind (W.setMG ?_)
   refine W.bind (W.elem hj (W.bind (W.gal (K:=K) (T.ny _ hj) T.nx (by lia) (by lia) hK hK1 hK2 ?_)))
   dsimp only
   by_cases z:K > 0
   ·rw [if_pos z]
    simp only [mapp]
    by_cases q:(i+K+1 == xs.size)=true
    ·rw [if_pos q]
     exact W.pure ⟨f1,f2,.inl ⟨_,rfl,LK.last T (by simpa using q) hl⟩⟩
    rw [if_neg q]
    have q':¬ i+K+1=xs.size:=by simpa using q
    by_cases q1:(i+K == xs.size)=true
    ·rw [if_pos q1]
     exact W.pure ⟨f1,f2,.inl ⟨_,rfl,LK.done2 (by simpa using q1)⟩⟩
    rw [if_neg q1]
    have q1':¬ i+K=xs.size:=by simpa using q1
    have L2:=LK.stepB T (by lia) hj (by have:=hK2 K (Im _) (by lia); simpa [bey] using this)
    refine W.bind (W.elem hj ?_)
    simp only [mpush,mapp]
    by_cases q2:(j+1 == ys.size)=true
    ·rw [if_pos q2]
     exact W.pure ⟨f1,f2,.inl ⟨_,rfl,L2.done (by simpa using q2)⟩⟩
    rw [if_neg q2]
    have q2':¬ j+1=ys.size:=by simpa using q2
    obtain ⟨K',hK',hB1,hB2⟩:=KB (i+K) (j+1) (by lia) (by lia)
    have LB:=L2.manyB T (by lia) K' (by lia) λ d hd=>by have:=hB1 d hd; simpa [bey] using this
    refine W.bind (W.elem (by lia) (W.bind (W.gal (K:=K') (T.nx _ (by lia)) T.ny (by lia) (by lia) hK' hB1 hB2 ?_)))
    dsimp only
    by_cases z':K' > 0
    ·rw [if_pos z']
     by_cases q4:(j+1+K' == ys.size)=true
     ·rw [if_pos q4]
      exact W.pure ⟨f1,f2,.inl ⟨_,rfl,LB.done (by simpa using q4)⟩⟩
     rw [if_neg q4]
     have q4':¬ j+1+K'=ys.size:=by simpa using q4
     have L3:=LB.stepA T (by lia) (by lia) (by have:=hB2 K' (Im _) (by lia); simpa [bey] using this)
     refine W.bind (W.elem (by lia) ?_)
     simp only [mpush,mapp]
     by_cases q3:(i+K+1+1 == xs.size)=true
     ·rw [if_pos q3]
      exact W.pure ⟨f1,f2,.inl ⟨_,rfl,L3.last T (by simpa using q3) hl⟩⟩
     ·rw [if_neg q3]
      have q3':¬ i+K+1+1=xs.size:=by simpa using q3
      refine W.ite (λ _=>?_) (λ _=>?_)
      ·exact W.pure ⟨f1,f2,.inr ⟨rfl,_,rfl,L3,by show i+K+1+1<xs.size; lia,by show j+1+K'<ys.size; lia,by show i1+j1<=i+K+1+(j+1+K'); lia⟩⟩
      ·exact W.pure ⟨f1,f2,rfl,_,rfl,L3,by show i+K+1+1<xs.size; lia,by show j+1+K'<ys.size; lia,by show i1+j1+(xs.size+ys.size)<=i+K+1+(j+1+K')+k/\i1+j1<=i+K+1+(j+1+K'); lia⟩
    ·rw [if_neg z']
     have ek:K'=0:=by lia
     have L3:=L2.stepA T (by lia) (by lia) (by have:=hB2 0 (by lia) (by lia); simpa [bey] using this)
     refine W.bind (W.elem (by lia) ?_)
     simp only [mpush,mapp]
     by_cases q3:(i+K+1+1 == xs.size)=true
     ·rw [if_pos q3]
      exact W.pure ⟨f1,f2,.inl ⟨_,rfl,L3.last T (by simpa using q3) hl⟩⟩
     ·rw [if_neg q3]
      have q3':¬ i+K+1+1=xs.size:=by simpa using q3
      refine W.ite (λ _=>?_) (λ _=>?_)
      ·exact W.pure ⟨f1,f2,.inr ⟨rfl,_,rfl,L3,by show i+K+1+1<xs.size; lia,by show j+1<ys.size; lia,by show i1+j1<=i+K+1+(j+1); lia⟩⟩
      ·exact W.pure ⟨f1,f2,rfl,_,rfl,L3,by show i+K+1+1<xs.size; lia,by show j+1<ys.size; lia,by show i1+j1+(xs.size+ys.size)<=i+K+1+(j+1)+k/\i1+j1<=i+K+1+(j+1); lia⟩
   ·rw [if_neg z]
    have ek:K=0:=by lia
    have L2:=L.stepB T (by lia) hj (by have:=hK2 0 (by lia) (by lia); simpa [bey] using this)
    refine W.bind (W.elem hj ?_)
    simp only [mpush,mapp]
    by_cases q2:(j+1 == ys.size)=true
    ·rw [if_pos q2]
     exact W.pure ⟨f1,f2,.inl ⟨_,rfl,L2.done (by simpa using q2)⟩⟩
    rw [if_neg q2]
    have q2':¬ j+1=ys.size:=by simpa using q2
    obtain ⟨K',hK',hB1,hB2⟩:=KB (i) (j+1) (by lia) (by lia)
    have LB:=L2.manyB T (by lia) K' (by lia) λ d hd=>by have:=hB1 d hd; simpa [bey] using this
    refine W.bind (W.elem (by lia) (W.bind (W.gal (K:=K') (T.nx _ (by lia)) T.ny (by lia) (by lia) hK' hB1 hB2 ?_)))
    dsimp only
    by_cases z':K' > 0
    ·rw [if_pos z']
     by_cases q4:(j+1+K' == ys.size)=true
     ·rw [if_pos q4]
      exact W.pure ⟨f1,f2,.inl ⟨_,rfl,LB.done (by simpa using q4)⟩⟩
     rw [if_neg q4]
     have q4':¬ j+1+K'=ys.size:=by simpa using q4
     have L3:=LB.stepA T (by lia) (by lia) (by have:=hB2 K' (Im _) (by lia); simpa [bey] using this)
     refine W.bind (W.elem (by lia) ?_)
     simp only [mpush,mapp]
     by_cases q3:(i+1+1 == xs.size)=true
     ·rw [if_pos q3]
      exact W.pure ⟨f1,f2,.inl ⟨_,rfl,L3.last T (by simpa using q3) hl⟩⟩
     ·rw [if_neg q3]
      have q3':¬ i+1+1=xs.size:=by simpa using q3
      refine W.ite (λ _=>?_) (λ _=>?_)
      ·exact W.pure ⟨f1,f2,.inr ⟨rfl,_,rfl,L3,by show i+1+1<xs.size; lia,by show j+1+K'<ys.size; lia,by show i1+j1<=i+1+(j+1+K'); lia⟩⟩
      ·exact W.pure ⟨f1,f2,rfl,_,rfl,L3,by show i+1+1<xs.size; lia,by show j+1+K'<ys.size; lia,by show i1+j1+(xs.size+ys.size)<=i+1+(j+1+K')+k/\i1+j1<=i+1+(j+1+K'); lia⟩
    ·rw [if_neg z']
     have ek:K'=0:=by lia
     have L3:=L2.stepA T (by lia) (by lia) (by have:=hB2 0 (by lia) (by lia); simpa [bey] using this)
     refine W.bind (W.elem (by lia) ?_)
     simp only [mpush,mapp]
     by_cases q3:(i+1+1 == xs.size)=true
     ·rw [if_pos q3]
      exact W.pure ⟨f1,f2,.inl ⟨_,rfl,L3.last T (by simpa using q3) hl⟩⟩
     ·rw [if_neg q3]
      have q3':¬ i+1+1=xs.size:=by simpa using q3
      refine W.ite (λ _=>?_) (λ _=>?_)
      ·exact W.pure ⟨f1,f2,.inr ⟨rfl,_,rfl,L3,by show i+1+1<xs.size; lia,by show j+1<ys.size; lia,by show i1+j1<=i+1+(j+1); lia⟩⟩
      ·exact W.pure ⟨f1,f2,rfl,_,rfl,L3,by show i+1+1<xs.size; lia,by show j+1<ys.size; lia,by show i1+j1+(xs.size+ys.size)<=i+1+(j+1)+k/\i1+j1<=i+1+(j+1); lia⟩
  ·rw [if_neg hg]
   refine W.bind (W.setMG ?_)
   refine W.bind (W.elem hj (W.bind (W.gal (K:=K) (T.ny _ hj) T.nx (by lia) (by lia) hK hK1 hK2 ?_)))
   dsimp only
   by_cases z:K > 0
   ·rw [if_pos z]
    simp only [mapp]
    by_cases q:(i+K+1 == xs.size)=true
    ·rw [if_pos q]
     exact W.pure ⟨f1,f2,.inl ⟨_,rfl,LK.last T (by simpa using q) hl⟩⟩
    rw [if_neg q]
    have q':¬ i+K+1=xs.size:=by simpa using q
    by_cases q1:(i+K == xs.size)=true
    ·rw [if_pos q1]
     exact W.pure ⟨f1,f2,.inl ⟨_,rfl,LK.done2 (by simpa using q1)⟩⟩
    rw [if_neg q1]
    have q1':¬ i+K=xs.size:=by simpa using q1
    have L2:=LK.stepB T (by lia) hj (by have:=hK2 K (Im _) (by lia); simpa [bey] using this)
    refine W.bind (W.elem hj ?_)
    simp only [mpush,mapp]
    by_cases q2:(j+1 == ys.size)=true
    ·rw [if_pos q2]
     exact W.pure ⟨f1,f2,.inl ⟨_,rfl,L2.done (by simpa using q2)⟩⟩
    rw [if_neg q2]
    have q2':¬ j+1=ys.size:=by simpa using q2
    obtain ⟨K',hK',hB1,hB2⟩:=KB (i+K) (j+1) (by lia) (by lia)
    have LB:=L2.manyB T (by lia) K' (by lia) λ d hd=>by have:=hB1 d hd; simpa [bey] using this
    refine W.bind (W.elem (by lia) (W.bind (W.gal (K:=K') (T.nx _ (by lia)) T.ny (by lia) (by lia) hK' hB1 hB2 ?_)))
    dsimp only
    by_cases z':K' > 0
    ·rw [if_pos z']
     by_cases q4:(j+1+K' == ys.size)=true
     ·rw [if_pos q4]
      exact W.pure ⟨f1,f2,.inl ⟨_,rfl,LB.done (by simpa using q4)⟩⟩
     rw [if_neg q4]
     have q4':¬ j+1+K'=ys.size:=by simpa using q4
     have L3:=LB.stepA T (by lia) (by lia) (by have:=hB2 K' (Im _) (by lia); simpa [bey] using this)
     refine W.bind (W.elem (by lia) ?_)
     simp only [mpush,mapp]
     by_cases q3:(i+K+1+1 == xs.size)=true
     ·rw [if_pos q3]
      exact W.pure ⟨f1,f2,.inl ⟨_,rfl,L3.last T (by simpa using q3) hl⟩⟩
     ·rw [if_neg q3]
      have q3':¬ i+K+1+1=xs.size:=by simpa using q3
      refine W.ite (λ _=>?_) (λ _=>?_)
      ·exact W.pure ⟨f1,f2,.inr ⟨rfl,_,rfl,L3,by show i+K+1+1<xs.size; lia,by show j+1+K'<ys.size; lia,by show i1+j1<=i+K+1+(j+1+K'); lia⟩⟩
      ·exact W.pure ⟨f1,f2,rfl,_,rfl,L3,by show i+K+1+1<xs.size; lia,by show j+1+K'<ys.size; lia,by show i1+j1+(xs.size+ys.size)<=i+K+1+(j+1+K')+k/\i1+j1<=i+K+1+(j+1+K'); lia⟩
    ·rw [if_neg z']
     have ek:K'=0:=by lia
     have L3:=L2.stepA T (by lia) (by lia) (by have:=hB2 0 (by lia) (by lia); simpa [bey] using this)
     refine W.bind (W.elem (by lia) ?_)
     simp only [mpush,mapp]
     by_cases q3:(i+K+1+1 == xs.size)=true
     ·rw [if_pos q3]
      exact W.pure ⟨f1,f2,.inl ⟨_,rfl,L3.last T (by simpa using q3) hl⟩⟩
     ·rw [if_neg q3]
      have q3':¬ i+K+1+1=xs.size:=by simpa using q3
      refine W.ite (λ _=>?_) (λ _=>?_)
      ·exact W.pure ⟨f1,f2,.inr ⟨rfl,_,rfl,L3,by show i+K+1+1<xs.size; lia,by show j+1<ys.size; lia,by show i1+j1<=i+K+1+(j+1); lia⟩⟩
      ·exact W.pure ⟨f1,f2,rfl,_,rfl,L3,by show i+K+1+1<xs.size; lia,by show j+1<ys.size; lia,by show i1+j1+(xs.size+ys.size)<=i+K+1+(j+1)+k/\i1+j1<=i+K+1+(j+1); lia⟩
   ·rw [if_neg z]
    have ek:K=0:=by lia
    have L2:=L.stepB T (by lia) hj (by have:=hK2 0 (by lia) (by lia); simpa [bey] using this)
    refine W.bind (W.elem hj ?_)
    simp only [mpush,mapp]
    by_cases q2:(j+1 == ys.size)=true
    ·rw [if_pos q2]
     exact W.pure ⟨f1,f2,.inl ⟨_,rfl,L2.done (by simpa using q2)⟩⟩
    rw [if_neg q2]
    have q2':¬ j+1=ys.size:=by simpa using q2
    obtain ⟨K',hK',hB1,hB2⟩:=KB (i) (j+1) (by lia) (by lia)
    have LB:=L2.manyB T (by lia) K' (by lia) λ d hd=>by have:=hB1 d hd; simpa [bey] using this
    refine W.bind (W.elem (by lia) (W.bind (W.gal (K:=K') (T.nx _ (by lia)) T.ny (by lia) (by lia) hK' hB1 hB2 ?_)))
    dsimp only
    by_cases z':K' > 0
    ·rw [if_pos z']
     by_cases q4:(j+1+K' == ys.size)=true
     ·rw [if_pos q4]
      exact W.pure ⟨f1,f2,.inl ⟨_,rfl,LB.done (by simpa using q4)⟩⟩
     rw [if_neg q4]
     have q4':¬ j+1+K'=ys.size:=by simpa using q4
     have L3:=LB.stepA T (by lia) (by lia) (by have:=hB2 K' (Im _) (by lia); simpa [bey] using this)
     refine W.bind (W.elem (by lia) ?_)
     simp only [mpush,mapp]
     by_cases q3:(i+1+1 == xs.size)=true
     ·rw [if_pos q3]
      exact W.pure ⟨f1,f2,.inl ⟨_,rfl,L3.last T (by simpa using q3) hl⟩⟩
     ·rw [if_neg q3]
      have q3':¬ i+1+1=xs.size:=by simpa using q3
      refine W.ite (λ _=>?_) (λ _=>?_)
      ·exact W.pure ⟨f1,f2,.inr ⟨rfl,_,rfl,L3,by show i+1+1<xs.size; lia,by show j+1+K'<ys.size; lia,by show i1+j1<=i+1+(j+1+K'); lia⟩⟩
      ·exact W.pure ⟨f1,f2,rfl,_,rfl,L3,by show i+1+1<xs.size; lia,by show j+1+K'<ys.size; lia,by show i1+j1+(xs.size+ys.size)<=i+1+(j+1+K')+k/\i1+j1<=i+1+(j+1+K'); lia⟩
    ·rw [if_neg z']
     have ek:K'=0:=by lia
     have L3:=L2.stepA T (by lia) (by lia) (by have:=hB2 0 (by lia) (by lia); simpa [bey] using this)
     refine W.bind (W.elem (by lia) ?_)
     simp only [mpush,mapp]
     by_cases q3:(i+1+1 == xs.size)=true
     ·rw [if_pos q3]
      exact W.pure ⟨f1,f2,.inl ⟨_,rfl,L3.last T (by simpa using q3) hl⟩⟩
     ·rw [if_neg q3]
      have q3':¬ i+1+1=xs.size:=by simpa using q3
      refine W.ite (λ _=>?_) (λ _=>?_)
      ·exact W.pure ⟨f1,f2,.inr ⟨rfl,_,rfl,L3,by show i+1+1<xs.size; lia,by show j+1<ys.size; lia,by show i1+j1<=i+1+(j+1); lia⟩⟩
      ·exact W.pure ⟨f1,f2,rfl,_,rfl,L3,by show i+1+1<xs.size; lia,by show j+1<ys.size; lia,by show i1+j1+(xs.size+ys.size)<=i+1+(j+1)+k/\i1+j1<=i+1+(j+1); lia⟩
 ·rintro ⟨r,o,i,j,g,ca,cb⟩ b1 ⟨f1,f2,_,os,_,L,hi,hj,hk1,hk2⟩
  dsimp only at hi hj hk1 hk2
  exact absurd hk1 (by lia)
 obtain ⟨r,o,i2,j2,g2,ca,cb⟩:=c
 obtain ⟨f1,f2,hc⟩:=hc
 dsimp only at hc ⊢
 rcases hc with ⟨rs,e,hm⟩ | ⟨e,os2,eo,L,hi2,hj2,hk2⟩
 ·subst e
  exact W.pure ⟨f1,f2,rs,rfl,hm⟩
 subst e eo
 dsimp only
 exact W.bind (W.setMG (W.pure ⟨f1,f2,rfl,_,rfl,L,hi2,hj2,by show xs.size+ys.size+1<=i2+j2+k; lia⟩))
end
noncomputable def mHi:Array Keyed->Array Keyed->SM (Array Keyed):=sortPriv% PySem.Builtin.mergeHi
theorem Cw (a b:Array Keyed):mHi a b=(do
 rule "list.sort.merge-hi"
 let tt:=a.size+b.size
 let dn (o:Array Keyed) (i j:Nat):=a.extract 0 i++b.extract 0 j++o.reverse
 let fb (o:Array Keyed) (i j:Nat):=b.extract 0 j++a.extract 0 i++o.reverse
 let mut i:=a.size - 1
 let mut j:=b.size
 let mut o:Array Keyed:=#[<-elem' a i]
 if i == 0 then return dn o i j
 if j == 1 then return fb o i j
 let mut mg:=gallopOf (<-get)
 for _ in [0:tt] do
  let mut ca:=0
  let mut cb:=0
  for _ in [0:tt] do
   let some aw <-lt' (<-elem' b (j - 1)) (<-elem' a (i - 1)) | return dn o i j
   if aw then
    i:=i - 1; o:=o.push (<-elem' a i); ca:=ca+1; cb:=0
    if i == 0 then return dn o i j
    if ca>=mg then break
   else
    j:=j - 1; o:=o.push (<-elem' b j); cb:=cb+1; ca:=0
    if j == 1 then return fb o i j
    if cb>=mg then break
  rule "list.sort.gallop"
  mg:=mg+1
  for _ in [0:tt] do
   if mg > 1 then mg:=mg - 1
   setMG mg
   let some q <-gal false (<-elem' b (j - 1)) a 0 i (i - 1) | return dn o i j
   let k:=i - q
   ca:=k
   if k > 0 then
    o:=o++(a.extract q i).reverse; i:=q
    if i == 0 then return dn o i j
   j:=j - 1; o:=o.push (<-elem' b j)
   if j == 1 then return fb o i j
   let some q <-gal true (<-elem' a (i - 1)) b 0 j (j - 1) | return dn o i j
   let k:=j - q
   cb:=k
   if k > 0 then
    o:=o++(b.extract q j).reverse; j:=q
    if j == 1 then return fb o i j
    if j == 0 then return dn o i j
   i:=i - 1; o:=o.push (<-elem' a i)
   if i == 0 then return dn o i j
   if ca<7 && cb<7 then break
  mg:=mg+1
  setMG mg
 unsupported "internal:list.sort.merge-bound"):=rfl
section
variable {O:Orc} {b:Ab} {xs ys os:Array Nat} {i j k:Nat}
structure Hw (O:Orc) (xs ys os:Array Nat) (i j:Nat):Prop where
 pm:((xs.toList.take i++ys.toList.take j)++os.toList.reverse).Perm (xs.toList++ys.toList)
 sa:(xs.toList.take i++os.toList.reverse).Pairwise (Ah O.lt)
 sb:(ys.toList.take j++os.toList.reverse).Pairwise (Ah O.lt)
 ti:i<=xs.size
 tj:j<=ys.size
theorem iZ {xs:Array Nat} {i:Nat} (h0:0<i) (h:i<=xs.size):xs.toList.take i=xs.toList.take (i - 1)++[xs.getD (i - 1) 0]:=by
 obtain ⟨c,rfl⟩:∃ c,i=c+1:=⟨i - 1,by lia⟩
 have h':c<xs.toList.length:=by simp; lia
 rw [JS h',Nat.add_sub_cancel]
 congr 2
 simp [IE,show c<xs.size by lia]
theorem A9 (xs:Array Nat) (i:Nat):(xs.extract 0 i).toList=xs.toList.take i:=by
 rw [JZ,Jo]; simp
theorem Hw.done (L:Hw O xs ys os i j) (h:i=0):om O xs ys (xs.extract 0 i++ys.extract 0 j++os.reverse):=by
 subst h
 have e:(xs.extract 0 0++ys.extract 0 j++os.reverse).toList=ys.toList.take j++os.toList.reverse:=by rw [IJ,IJ,A9,A9]; simp
 have pm:=L.pm
 rw [MT,KH] at pm
 exact ⟨by rw [e]; exact pm,by rw [e]; exact L.sb⟩
theorem Hw.done2 (L:Hw O xs ys os i j) (h:j=0):om O xs ys (xs.extract 0 i++ys.extract 0 j++os.reverse):=by
 subst h
 have e:(xs.extract 0 i++ys.extract 0 0++os.reverse).toList=xs.toList.take i++os.toList.reverse:=by rw [IJ,IJ,A9,A9]; simp
 have pm:=L.pm
 rw [MT,Kp] at pm
 exact ⟨by rw [e]; exact pm,by rw [e]; exact L.sa⟩
theorem Hw.first (T:Two O xs ys) (L:Hw O xs ys os i j) (h:j=1) (h0:O.lt (ys.getD 0 0) (xs.getD 0 0)=true):om O xs ys (ys.extract 0 j++xs.extract 0 i++os.reverse):=by
 subst h
 have e:(ys.extract 0 1++xs.extract 0 i++os.reverse).toList=(ys.toList.take 1++xs.toList.take i)++os.toList.reverse:=by rw [IJ,IJ,A9,A9]; simp
 have hd:ys.toList.take 1=[ys.getD 0 0]:=by rw [iZ (by lia) L.tj]; simp
 refine ⟨by rw [e]; exact (MQ.append_right _).trans L.pm,?_⟩
 obtain ⟨s1,s2,s3⟩:=IA.mp L.sa
 obtain ⟨t1,t2,t3⟩:=IA.mp L.sb
 rw [e,hd]
 rw [hd] at t3
 refine IA.mpr ⟨?_,s2,λ a ha c hc=>?_⟩
 ·refine JU.mpr ⟨λ c hc=>?_,s1⟩
  have hc':c∈xs.toList:=KU hc
  have hx:=T.x1
  have ex:xs.toList=xs.getD 0 0::xs.toList.drop 1:=by have:=gD (xs:=xs) (i:=0) hx; simpa using this
  have sx:=T.sx
  rw [ex] at hc' sx
  rcases Io.mp hc' with rfl | hc'
  ·exact Ah.of_lt T.H h0
  ·exact (Ah.of_lt T.H h0).trans T.H ((JU.mp sx).1 c hc')
 ·rcases IN.mp ha with ha | ha
  ·exact t3 a ha c hc
  ·exact s3 a ha c hc
theorem Hw.stepA (T:Two O xs ys) (L:Hw O xs ys os i j) (hi:0<i) (hj:0<j) (h:O.lt (ys.getD (j - 1) 0) (xs.getD (i - 1) 0)=true):Hw O xs ys (os.push (xs.getD (i - 1) 0)) (i - 1) j:=by
 have e:(os.push (xs.getD (i - 1) 0)).toList.reverse=xs.getD (i - 1) 0::os.toList.reverse:=by simp
 have ti:=L.ti; have tj:=L.tj
 have hx:=iZ hi L.ti
 have pm:=L.pm; have sa:=L.sa; have sb:=L.sb
 rw [hx] at pm sa
 have sa':(xs.toList.take (i - 1)++(xs.getD (i - 1) 0::os.toList.reverse)).Pairwise (Ah O.lt):=by simpa using sa
 obtain ⟨s1,s2,s3⟩:=IA.mp sa'
 obtain ⟨t1,t2,t3⟩:=IA.mp sb
 refine ⟨?_,by rw [e]; exact sa',?_,by lia,L.tj⟩
 ·rw [e]
  refine Oj ?_ pm
  have:((xs.toList.take (i - 1)++[xs.getD (i - 1) 0])++ys.toList.take j++os.toList.reverse)=xs.toList.take (i - 1)++(xs.getD (i - 1) 0::(ys.toList.take j++os.toList.reverse)):=by simp
  rw [this]
  have e2:(xs.toList.take (i - 1)++ys.toList.take j)++(xs.getD (i - 1) 0::os.toList.reverse)=xs.toList.take (i - 1)++(ys.toList.take j++(xs.getD (i - 1) 0::os.toList.reverse)):=by simp
  rw [e2]
  exact MR _ N2
 ·rw [e]
  have hy:=iZ hj L.tj
  refine IA.mpr ⟨t1,s2,λ a ha c hc=>?_⟩
  rcases Io.mp hc with rfl | hc
  ·rw [hy] at ha t1
   rcases IN.mp ha with ha | ha
   ·exact ((IA.mp t1).2.2 a ha _ (Jv.mpr rfl)).trans T.H (Ah.of_lt T.H h)
   ·rw [Jv.mp ha]; exact Ah.of_lt T.H h
  ·exact t3 a ha c hc
theorem Hw.stepB (T:Two O xs ys) (L:Hw O xs ys os i j) (hi:0<i) (hj:0<j) (h:O.lt (ys.getD (j - 1) 0) (xs.getD (i - 1) 0)=false):Hw O xs ys (os.push (ys.getD (j - 1) 0)) i (j - 1):=by
 have e:(os.push (ys.getD (j - 1) 0)).toList.reverse=ys.getD (j - 1) 0::os.toList.reverse:=by simp
 have ti:=L.ti; have tj:=L.tj
 have hy:=iZ hj L.tj
 have pm:=L.pm; have sa:=L.sa; have sb:=L.sb
 rw [hy] at pm sb
 have sb':(ys.toList.take (j - 1)++(ys.getD (j - 1) 0::os.toList.reverse)).Pairwise (Ah O.lt):=by simpa using sb
 obtain ⟨s1,s2,s3⟩:=IA.mp sa
 obtain ⟨t1,t2,t3⟩:=IA.mp sb'
 refine ⟨?_,?_,by rw [e]; exact sb',L.ti,by lia⟩
 ·rw [e]
  have e2:(xs.toList.take i++ys.toList.take (j - 1))++(ys.getD (j - 1) 0::os.toList.reverse)=(xs.toList.take i++(ys.toList.take (j - 1)++[ys.getD (j - 1) 0]))++os.toList.reverse:=by simp
  rw [e2]; exact pm
 ·rw [e]
  have hx:=iZ hi L.ti
  have h0:Ah O.lt (xs.getD (i - 1) 0) (ys.getD (j - 1) 0):=T.ah (mw (by lia)) (mw (by lia)) h
  refine IA.mpr ⟨s1,t2,λ a ha c hc=>?_⟩
  rcases Io.mp hc with rfl | hc
  ·rw [hx] at ha s1
   rcases IN.mp ha with ha | ha
   ·exact ((IA.mp s1).2.2 a ha _ (Jv.mpr rfl)).trans T.H h0
   ·rw [Jv.mp ha]; exact h0
  ·exact s3 a ha c hc
theorem pp {os xs:Array Nat} {K k:Nat} (h:K+k<xs.size):os.push (xs.getD (K+k) 0)++(xs.extract K (K+k)).reverse=os++(xs.extract K (K+(k+1))).reverse:=by
 apply JL.mp
 have e:xs.getD (K+k) 0=xs[K+k]:=by simp [IE,h]
 rw [e]
 have hl:k<(xs.toList.drop K).length:=by simp; lia
 simp only [Ld,IJ,Array.toList_reverse,JZ,Je]
 rw [Jo,Jo,show K+k - K=k by lia,show K+(k+1) - K=k+1 by lia,JS hl,List.reverse_append]
 simp
theorem Hw.manyA (T:Two O xs ys) (hj:0<j) {K:Nat}:∀ (k:Nat) (os:Array Nat),Hw O xs ys os (K+k) j->(∀ d,K<=d->d<K+k->O.lt (ys.getD (j - 1) 0) (xs.getD d 0)=true)->Hw O xs ys (os++(xs.extract K (K+k)).reverse) K j
 | 0,os,L,_=>by
  have e:os++(xs.extract K (K+0)).reverse=os:=by apply JL.mp; simp
  rw [e]; exact L
 | k+1,os,L,h=>by
  have ti:=L.ti
  have L':=L.stepA T (by lia) hj (h _ (by lia) (by lia))
  rw [show K+(k+1) - 1=K+k by lia] at L'
  have:=Hw.manyA T hj k _ L' λ d h1 h2=>h d h1 (by lia)
  rw [pp (by lia)] at this
  exact this
theorem Hw.manyB (T:Two O xs ys) (hi:0<i) {K:Nat}:∀ (k:Nat) (os:Array Nat),Hw O xs ys os i (K+k)->(∀ d,K<=d->d<K+k->O.lt (ys.getD d 0) (xs.getD (i - 1) 0)=false)->Hw O xs ys (os++(ys.extract K (K+k)).reverse) i K
 | 0,os,L,_=>by
  have e:os++(ys.extract K (K+0)).reverse=os:=by apply JL.mp; simp
  rw [e]; exact L
 | k+1,os,L,h=>by
  have tj:=L.tj
  have L':=L.stepB T hi (by lia) (h _ (by lia) (by lia))
  rw [show K+(k+1) - 1=K+k by lia] at L'
  have:=Hw.manyB T hi k _ L' λ d h1 h2=>h d h1 (by lia)
  rw [pp (by lia)] at this
  exact this
theorem Hw.manyA' (T:Two O xs ys) (L:Hw O xs ys os i j) (hj:0<j) {K:Nat} (hK:K<=i) (h:∀ d,K<=d->d<i->O.lt (ys.getD (j - 1) 0) (xs.getD d 0)=true):Hw O xs ys (os++(xs.extract K i).reverse) K j:=by
 obtain ⟨k,rfl⟩:∃ k,i=K+k:=⟨i - K,by lia⟩
 exact Hw.manyA T hj k os L h
theorem Hw.manyB' (T:Two O xs ys) (L:Hw O xs ys os i j) (hi:0<i) {K:Nat} (hK:K<=j) (h:∀ d,K<=d->d<j->O.lt (ys.getD d 0) (xs.getD (i - 1) 0)=false):Hw O xs ys (os++(ys.extract K j).reverse) i K:=by
 obtain ⟨k,rfl⟩:∃ k,j=K+k:=⟨j - K,by lia⟩
 exact Hw.manyB T hi k os L h
theorem W.mHi {Q:Array Keyed->Ab->Prop} (T:Two O xs ys) (h0:O.lt (ys.getD 0 0) (xs.getD 0 0)=true) (hl:∀ y∈ys.toList,O.lt y (xs.getD (xs.size - 1) 0)=true)
  (h:∀ rs mg,om O xs ys rs->Q (rs.map (kas_item O.it)) { b with mg:=mg }):W O (mHi (xs.map (kas_item O.it)) (ys.map (kas_item O.it))) Q b:=by
 have x1:=T.x1
 have y1:=T.y1
 have tk:∀ zs:Array Nat,zs.toList.take zs.size=zs.toList:=λ zs=>Jb (by simp)
 have L0:Hw O xs ys #[] xs.size ys.size:=⟨by rw [tk,tk]; simp,by rw [tk]; simpa using T.sx,by rw [tk]; simpa using T.sy,Im _,Im _⟩
 have L1:=L0.stepA T x1 y1 (hl _ (mw (by lia)))
 have mpush:∀ (os:Array Nat) (x:Nat),(os.map (kas_item O.it)).push (kas_item O.it x)=(os.push x).map (kas_item O.it):=λ os x=>by rw [Ou]
 have mapp:∀ (os zs:Array Nat),os.map (kas_item O.it)++zs.map (kas_item O.it)=(os++zs).map (kas_item O.it):=λ os zs=>by rw [N4]
 have mext:∀ (zs:Array Nat) (i j:Nat),(zs.map (kas_item O.it)).extract i j=(zs.extract i j).map (kas_item O.it):=λ zs i j=>by rw [Mi]
 have mrev:∀ (zs:Array Nat),(zs.map (kas_item O.it)).reverse=zs.reverse.map (kas_item O.it):=λ zs=>by rw [Array.map_reverse]
 rw [Cw]
 refine W.bind (W.rule ?_)
 simp only [MS,mext]
 refine W.bind (W.elem (by lia) ?_)
 have e1:#[kas_item O.it (xs.getD (xs.size - 1) 0)]=((#[]:Array Nat).push (xs.getD (xs.size - 1) 0)).map (kas_item O.it):=by simp
 rw [e1]
 by_cases c1:(xs.size - 1 == 0)=true
 ·rw [if_pos c1]
  simp only [mapp,mrev]
  exact W.pure (h _ b.mg (L1.done (by simpa using c1)))
 rw [if_neg c1]
 by_cases c2:(ys.size == 1)=true
 ·rw [if_pos c2]
  simp only [mapp,mrev]
  exact W.pure (h _ b.mg (L1.first T (by simpa using c2) h0))
 rw [if_neg c2]
 refine W.bind (W.get ?_)
 have KA:∀ i j,i<=xs.size->∃ K,K<=i/\(∀ d,d<K->bey O false (ys.getD j 0) xs 0 d=true)/\∀ d,K<=d->d<i->bey O false (ys.getD j 0) xs 0 d=false:=λ i j hi=>kx _ λ c d h1 h2 h3=>T.monoA h1 (by lia) h3
 have KB:∀ i j,j<=ys.size->∃ K,K<=j/\(∀ d,d<K->bey O true (xs.getD i 0) ys 0 d=true)/\∀ d,K<=d->d<j->bey O true (xs.getD i 0) ys 0 d=false:=λ i j hj=>kx _ λ c d h1 h2 h3=>T.monoB h1 (by lia) h3
 have c1:1<xs.size:=by (have:¬ xs.size - 1=0:=(by simpa using c1)); lia
 have c2:1<ys.size:=by (have:¬ ys.size=1:=(by simpa using c2)); lia
 refine W.bind (W.range (D:=λ c b1=>b1.p=b.p/\b1.pd=b.pd/\∃ rs:Array Nat,c.1=some (rs.map (kas_item O.it))/\om O xs ys rs) (λ k c b1=>b1.p=b.p/\b1.pd=b.pd/\c.1=none/\∃ os:Array Nat,c.2.2.2.1=os.map (kas_item O.it)/\Hw O xs ys os c.2.1 c.2.2.1/\0<c.2.1/\1<c.2.2.1/\c.2.1+c.2.2.1+1<=k) ⟨rfl,rfl,rfl,_,rfl,L1,by show 0<xs.size - 1; lia,c2,by show xs.size - 1+ys.size+1<=xs.size+ys.size - 0; lia⟩ ?_ ?_ |>.mono λ c b1 hc=>?_)
 rotate_left
 ·rintro ⟨r,i,j,o,g⟩ b1 ⟨f1,f2,_,os,_,L,hi,hj,hk⟩
  dsimp only at hi hj hk
  exact absurd hk (by lia)
 ·obtain ⟨r,i,j,o,g⟩:=c
  obtain ⟨f1,f2,rs,e,hm⟩:=hc
  dsimp only at e ⊢
  subst e
  have:=h rs b1.mg hm
  obtain ⟨p1,d1,m1⟩:=b1
  have f1:p1=b.p:=f1
  have f2:d1=b.pd:=f2
  subst f1 f2
  exact W.pure this
 rintro x k ⟨r,i0,j0,o,g0⟩ b1 ⟨f1,f2,e,os0,eo,L,hi0,hj0,hk⟩
 dsimp only at e eo hi0 hj0 hk L ⊢
 subst e eo
 have tI:=L.ti; have tJ:=L.tj
 refine W.bind (W.range (D:=λ c b1=>b1.p=b.p/\b1.pd=b.pd/\((∃ rs:Array Nat,c.1=some (rs.map (kas_item O.it))/\om O xs ys rs)\/(c.1=none/\∃ os:Array Nat,c.2.2.2.1=os.map (kas_item O.it)/\Hw O xs ys os c.2.1 c.2.2.1/\0<c.2.1/\1<c.2.2.1/\c.2.1+c.2.2.1+1<=i0+j0))) (λ k c b1=>b1.p=b.p/\b1.pd=b.pd/\c.1=none/\∃ os:Array Nat,c.2.2.2.1=os.map (kas_item O.it)/\Hw O xs ys os c.2.1 c.2.2.1/\0<c.2.1/\1<c.2.2.1/\c.2.1+c.2.2.1+(xs.size+ys.size)<=i0+j0+k/\c.2.1+c.2.2.1<=i0+j0) ⟨f1,f2,rfl,_,rfl,L,hi0,hj0,by show i0+j0+(xs.size+ys.size)<=i0+j0+(xs.size+ys.size - 0)/\i0+j0<=i0+j0; lia⟩ ?_ ?_ |>.mono λ c b1 hc=>?_)
 ·rintro x k ⟨r,i,j,o,ca,cb⟩ b1 ⟨f1,f2,e,os,eo,L,hi,hj,hk1,hk2⟩
  dsimp only at e eo hi hj hk1 hk2 L ⊢
  subst e eo
  have ti:=L.ti; have tj:=L.tj
  refine W.bind (W.elem (by lia) (W.bind (W.elem (by lia) (W.bind (W.lt (T.ny _ (by lia)) (T.nx _ (by lia)) ?_)))))
  cases e:O.lt (ys.getD (j - 1) 0) (xs.getD (i - 1) 0) with
  | true=>
   have L':=L.stepA T hi (by lia) e
   simp only [if_true]
   refine W.bind (W.elem (by lia) ?_)
   simp only [mpush,mapp,mrev]
   by_cases q:(i - 1 == 0)=true
   ·rw [if_pos q]
    exact W.pure ⟨f1,f2,.inl ⟨_,rfl,L'.done (by simpa using q)⟩⟩
   ·rw [if_neg q]
    have q':¬ i - 1=0:=by simpa using q
    refine W.ite (λ _=>?_) (λ _=>?_)
    ·exact W.pure ⟨f1,f2,.inr ⟨rfl,_,rfl,L',by show 0<i - 1; lia,hj,by show i - 1+j+1<=i0+j0; lia⟩⟩
    ·exact W.pure ⟨f1,f2,rfl,_,rfl,L',by show 0<i - 1; lia,hj,by show i - 1+j+(xs.size+ys.size)<=i0+j0+k/\i - 1+j<=i0+j0; lia⟩
  | false=>
   have L':=L.stepB T hi (by lia) e
   simp only [Iq,if_false]
   refine W.bind (W.elem (by lia) ?_)
   simp only [mpush,mapp,mrev]
   by_cases q:(j - 1 == 1)=true
   ·rw [if_pos q]
    exact W.pure ⟨f1,f2,.inl ⟨_,rfl,L'.first T (by simpa using q) h0⟩⟩
   ·rw [if_neg q]
    have q':¬ j - 1=1:=by simpa using q
    refine W.ite (λ _=>?_) (λ _=>?_)
    ·exact W.pure ⟨f1,f2,.inr ⟨rfl,_,rfl,L',hi,by show 1<j - 1; lia,by show i+(j - 1)+1<=i0+j0; lia⟩⟩
    ·exact W.pure ⟨f1,f2,rfl,_,rfl,L',hi,by show 1<j - 1; lia,by show i+(j - 1)+(xs.size+ys.size)<=i0+j0+k/\i+(j - 1)<=i0+j0; lia⟩
 ·rintro ⟨r,i,j,o,ca,cb⟩ b1 ⟨f1,f2,_,os,_,L,hi,hj,hk1,hk2⟩
  dsimp only at hi hj hk1 hk2
  exact absurd hk1 (by lia)
 obtain ⟨r,i1,j1,o,ca,cb⟩:=c
 obtain ⟨f1,f2,hc⟩:=hc
 dsimp only at hc ⊢
 rcases hc with ⟨rs,e,hm⟩ | ⟨e,os1,eo,L,hi1,hj1,hk1⟩
 ·subst e
  exact W.pure ⟨f1,f2,rs,rfl,hm⟩
 subst e eo
 dsimp only
 refine W.bind (W.rule ?_)
 refine W.bind (W.range (D:=λ c b1=>b1.p=b.p/\b1.pd=b.pd/\((∃ rs:Array Nat,c.1=some (rs.map (kas_item O.it))/\om O xs ys rs)\/(c.1=none/\∃ os:Array Nat,c.2.2.2.1=os.map (kas_item O.it)/\Hw O xs ys os c.2.1 c.2.2.1/\0<c.2.1/\1<c.2.2.1/\c.2.1+c.2.2.1<=i1+j1))) (λ k c b1=>b1.p=b.p/\b1.pd=b.pd/\c.1=none/\∃ os:Array Nat,c.2.2.2.1=os.map (kas_item O.it)/\Hw O xs ys os c.2.1 c.2.2.1/\0<c.2.1/\1<c.2.2.1/\c.2.1+c.2.2.1+(xs.size+ys.size)<=i1+j1+k/\c.2.1+c.2.2.1<=i1+j1) ⟨f1,f2,rfl,_,rfl,L,hi1,hj1,by show i1+j1+(xs.size+ys.size)<=i1+j1+(xs.size+ys.size - 0)/\i1+j1<=i1+j1; lia⟩ ?_ ?_ |>.mono λ c b1 hc=>?_)
 ·rintro x k ⟨r,i,j,o,g,ca,cb⟩ b1 ⟨f1,f2,e,os,eo,L,hi,hj,hk1,hk2⟩
  dsimp only at e eo hi hj hk1 hk2 L ⊢
  subst e eo
  have ti:=L.ti; have tj:=L.tj
  obtain ⟨K,hK,hK1,hK2⟩:=KA i (j - 1) ti
  have LK:=L.manyA' T (by lia) hK λ d h1 h2=>by have:=hK2 d h1 h2; simpa [bey] using this
  by_cases hg:g > 1
  ·rw [if_pos hg]
   refine W.bind (W.setMG ?_)
   refine W.bind (W.elem (by lia) (W.bind (W.gal (K:=K) (T.ny _ (by lia)) T.nx (by lia) (by lia) hK hK1 hK2 ?_)))
   dsimp only
   by_cases z:i - K > 0
   ·rw [if_pos z]
    simp only [mapp,mrev]
    by_cases q:(K == 0)=true
    ·rw [if_pos q]
     exact W.pure ⟨f1,f2,.inl ⟨_,rfl,LK.done (by simpa using q)⟩⟩
    rw [if_neg q]
    have q':¬ K=0:=by simpa using q
    have L2:=LK.stepB T (by lia) (by lia) (by have:=hK1 (K - 1) (by lia); simpa [bey] using this)
    have ti2:=L2.ti; have tj2:=L2.tj
    refine W.bind (W.elem (by lia) ?_)
    simp only [mpush,mapp,mrev]
    by_cases q2:(j - 1 == 1)=true
    ·rw [if_pos q2]
     exact W.pure ⟨f1,f2,.inl ⟨_,rfl,L2.first T (by simpa using q2) h0⟩⟩
    rw [if_neg q2]
    have q2':¬ j - 1=1:=by simpa using q2
    obtain ⟨K',hK',hB1,hB2⟩:=KB (K - 1) (j - 1) (by lia)
    have LB:=L2.manyB' T (by lia) hK' λ d h1 h2=>by have:=hB2 d h1 h2; simpa [bey] using this
    refine W.bind (W.elem (by lia) (W.bind (W.gal (K:=K') (T.nx _ (by lia)) T.ny (by lia) (by lia) hK' hB1 hB2 ?_)))
    dsimp only
    by_cases z':j - 1 - K' > 0
    ·rw [if_pos z']
     try simp only [mapp,mrev]
     by_cases q4:(K' == 1)=true
     ·rw [if_pos q4]
      exact W.pure ⟨f1,f2,.inl ⟨_,rfl,LB.first T (by simpa using q4) h0⟩⟩
     rw [if_neg q4]
     have q4':¬ K'=1:=by simpa using q4
     by_cases q5:(K' == 0)=true
     ·rw [if_pos q5]
      exact W.pure ⟨f1,f2,.inl ⟨_,rfl,LB.done2 (by simpa using q5)⟩⟩
     rw [if_neg q5]
     have q5':¬ K'=0:=by simpa using q5
     have L3:=LB.stepA T (by lia) (by lia) (by have:=hB1 (K' - 1) (by lia); simpa [bey] using this)
     refine W.bind (W.elem (by lia) ?_)
     simp only [mpush,mapp,mrev]
     by_cases q3:(K - 1 == 0)=true
     ·rw [if_pos q3]
      exact W.pure ⟨f1,f2,.inl ⟨_,rfl,L3.done (by simpa using q3)⟩⟩
     ·rw [if_neg q3]
      have q3':¬ K - 1=0:=by simpa using q3
      refine W.ite (λ _=>?_) (λ _=>?_)
      ·exact W.pure ⟨f1,f2,.inr ⟨rfl,_,rfl,L3,by show 0<K - 1; lia,by show 1<K'; lia,by show K - 1+(K')<=i1+j1; lia⟩⟩
      ·exact W.pure ⟨f1,f2,rfl,_,rfl,L3,by show 0<K - 1; lia,by show 1<K'; lia,by show K - 1+(K')+(xs.size+ys.size)<=i1+j1+k/\K - 1+(K')<=i1+j1; lia⟩
    ·rw [if_neg z']
     have L3:=L2.stepA T (by lia) (by lia) (by have:=hB1 (j - 1 - 1) (by lia); simpa [bey] using this)
     refine W.bind (W.elem (by lia) ?_)
     simp only [mpush,mapp,mrev]
     by_cases q3:(K - 1 == 0)=true
     ·rw [if_pos q3]
      exact W.pure ⟨f1,f2,.inl ⟨_,rfl,L3.done (by simpa using q3)⟩⟩
     ·rw [if_neg q3]
      have q3':¬ K - 1=0:=by simpa using q3
      refine W.ite (λ _=>?_) (λ _=>?_)
      ·exact W.pure ⟨f1,f2,.inr ⟨rfl,_,rfl,L3,by show 0<K - 1; lia,by show 1<j - 1; lia,by show K - 1+(j - 1)<=i1+j1; lia⟩⟩
      ·exact W.pure ⟨f1,f2,rfl,_,rfl,L3,by show 0<K - 1; lia,by show 1<j - 1; lia,by show K - 1+(j - 1)+(xs.size+ys.size)<=i1+j1+k/\K - 1+(j - 1)<=i1+j1; lia⟩
   ·rw [if_neg z]
    have L2:=L.stepB T (by lia) (by lia) (by have:=hK1 (i - 1) (by lia); simpa [bey] using this)
    have ti2:=L2.ti; have tj2:=L2.tj
    refine W.bind (W.elem (by lia) ?_)
    simp only [mpush,mapp,mrev]
    by_cases q2:(j - 1 == 1)=true
    ·rw [if_pos q2]
     exact W.pure ⟨f1,f2,.inl ⟨_,rfl,L2.first T (by simpa using q2) h0⟩⟩
    rw [if_neg q2]
    have q2':¬ j - 1=1:=by simpa using q2
    obtain ⟨K',hK',hB1,hB2⟩:=KB (i - 1) (j - 1) (by lia)
    have LB:=L2.manyB' T (by lia) hK' λ d h1 h2=>by have:=hB2 d h1 h2; simpa [bey] using this
    refine W.bind (W.elem (by lia) (W.bind (W.gal (K:=K') (T.nx _ (by lia)) T.ny (by lia) (by lia) hK' hB1 hB2 ?_)))
    dsimp only
    by_cases z':j - 1 - K' > 0
    ·rw [if_pos z']
     try simp only [mapp,mrev]
     by_cases q4:(K' == 1)=true
     ·rw [if_pos q4]
      exact W.pure ⟨f1,f2,.inl ⟨_,rfl,LB.first T (by simpa using q4) h0⟩⟩
     rw [if_neg q4]
     have q4':¬ K'=1:=by simpa using q4
     by_cases q5:(K' == 0)=true
     ·rw [if_pos q5]
      exact W.pure ⟨f1,f2,.inl ⟨_,rfl,LB.done2 (by simpa using q5)⟩⟩
     rw [if_neg q5]
     have q5':¬ K'=0:=by simpa using q5
     have L3:=LB.stepA T (by lia) (by lia) (by have:=hB1 (K' - 1) (by lia); simpa [bey] using this)
     refine W.bind (W.elem (by lia) ?_)
     simp only [mpush,mapp,mrev]
     by_cases q3:(i - 1 == 0)=true
     ·rw [if_pos q3]
      exact W.pure ⟨f1,f2,.inl ⟨_,rfl,L3.done (by simpa using q3)⟩⟩
     ·rw [if_neg q3]
      have q3':¬ i - 1=0:=by simpa using q3
      refine W.ite (λ _=>?_) (λ _=>?_)
      ·exact W.pure ⟨f1,f2,.inr ⟨rfl,_,rfl,L3,by show 0<i - 1; lia,by show 1<K'; lia,by show i - 1+(K')<=i1+j1; lia⟩⟩
      ·exact W.pure ⟨f1,f2,rfl,_,rfl,L3,by show 0<i - 1; lia,by show 1<K'; lia,by show i - 1+(K')+(xs.size+ys.size)<=i1+j1+k/\i - 1+(K')<=i1+j1; lia⟩
    ·rw [if_neg z']
     have L3:=L2.stepA T (by lia) (by lia) (by have:=hB1 (j - 1 - 1) (by lia); simpa [bey] using this)
     refine W.bind (W.elem (by lia) ?_)
     simp only [mpush,mapp,mrev]
     by_cases q3:(i - 1 == 0)=true
     ·rw [if_pos q3]
      exact W.pure ⟨f1,f2,.inl ⟨_,rfl,L3.done (by simpa using q3)⟩⟩
     ·rw [if_neg q3]
      have q3':¬ i - 1=0:=by simpa using q3
      refine W.ite (λ _=>?_) (λ _=>?_)
      ·exact W.pure ⟨f1,f2,.inr ⟨rfl,_,rfl,L3,by show 0<i - 1; lia,by show 1<j - 1; lia,by show i - 1+(j - 1)<=i1+j1; lia⟩⟩
      ·exact W.pure ⟨f1,f2,rfl,_,rfl,L3,by show 0<i - 1; lia,by show 1<j - 1; lia,by show i - 1+(j - 1)+(xs.size+ys.size)<=i1+j1+k/\i - 1+(j - 1)<=i1+j1; lia⟩
  ·rw [if_neg hg]
   refine W.bind (W.setMG ?_)
   refine W.bind (W.elem (by lia) (W.bind (W.gal (K:=K) (T.ny _ (by lia)) T.nx (by lia) (by lia) hK hK1 hK2 ?_)))
   dsimp only
   by_cases z:i - K > 0
   ·rw [if_pos z]
    simp only [mapp,mrev]
    by_cases q:(K == 0)=true
    ·rw [if_pos q]
     exact W.pure ⟨f1,f2,.inl ⟨_,rfl,LK.done (by simpa using q)⟩⟩
    rw [if_neg q]
    have q':¬ K=0:=by simpa using q
    have L2:=LK.stepB T (by lia) (by lia) (by have:=hK1 (K - 1) (by lia); simpa [bey] using this)
    have ti2:=L2.ti; have tj2:=L2.tj
    refine W.bind (W.elem (by lia) ?_)
    simp only [mpush,mapp,mrev]
    by_cases q2:(j - 1 == 1)=true
    ·rw [if_pos q2]
     exact W.pure ⟨f1,f2,.inl ⟨_,rfl,L2.first T (by simpa using q2) h0⟩⟩
    rw [if_neg q2]
    have q2':¬ j - 1=1:=by simpa using q2
    obtain ⟨K',hK',hB1,hB2⟩:=KB (K - 1) (j - 1) (by lia)
    have LB:=L2.manyB' T (by lia) hK' λ d h1 h2=>by have:=hB2 d h1 h2; simpa [bey] using this
    refine W.bind (W.elem (by lia) (W.bind (W.gal (K:=K') (T.nx _ (by lia)) T.ny (by lia) (by lia) hK' hB1 hB2 ?_)))
    dsimp only
    by_cases z':j - 1 - K' > 0
    ·rw [if_pos z']
     try simp only [mapp,mrev]
     by_cases q4:(K' == 1)=true
     ·rw [if_pos q4]
      exact W.pure ⟨f1,f2,.inl ⟨_,rfl,LB.first T (by simpa using q4) h0⟩⟩
     rw [if_neg q4]
     have q4':¬ K'=1:=by simpa using q4
     by_cases q5:(K' == 0)=true
     ·rw [if_pos q5]
      exact W.pure ⟨f1,f2,.inl ⟨_,rfl,LB.done2 (by simpa using q5)⟩⟩
     rw [if_neg q5]
     have q5':¬ K'=0:=by simpa using q5
     have L3:=LB.stepA T (by lia) (by lia) (by have:=hB1 (K' - 1) (by lia); simpa [bey] using this)
     refine W.bind (W.elem (by lia) ?_)
     simp only [mpush,mapp,mrev]
     by_cases q3:(K - 1 == 0)=true
     ·rw [if_pos q3]
      exact W.pure ⟨f1,f2,.inl ⟨_,rfl,L3.done (by simpa using q3)⟩⟩
     ·rw [if_neg q3]
      have q3':¬ K - 1=0:=by simpa using q3
      refine W.ite (λ _=>?_) (λ _=>?_)
      ·exact W.pure ⟨f1,f2,.inr ⟨rfl,_,rfl,L3,by show 0<K - 1; lia,by show 1<K'; lia,by show K - 1+(K')<=i1+j1; lia⟩⟩
      ·exact W.pure ⟨f1,f2,rfl,_,rfl,L3,by show 0<K - 1; lia,by show 1<K'; lia,by show K - 1+(K')+(xs.size+ys.size)<=i1+j1+k/\K - 1+(K')<=i1+j1; lia⟩
    ·rw [if_neg z']
     have L3:=L2.stepA T (by lia) (by lia) (by have:=hB1 (j - 1 - 1) (by lia); simpa [bey] using this)
     refine W.bind (W.elem (by lia) ?_)
     simp only [mpush,mapp,mrev]
     by_cases q3:(K - 1 == 0)=true
     ·rw [if_pos q3]
      exact W.pure ⟨f1,f2,.inl ⟨_,rfl,L3.done (by simpa using q3)⟩⟩
     ·rw [if_neg q3]
      have q3':¬ K - 1=0:=by simpa using q3
      refine W.ite (λ _=>?_) (λ _=>?_)
      ·exact W.pure ⟨f1,f2,.inr ⟨rfl,_,rfl,L3,by show 0<K - 1; lia,by show 1<j - 1; lia,by show K - 1+(j - 1)<=i1+j1; lia⟩⟩
      ·exact W.pure ⟨f1,f2,rfl,_,rfl,L3,by show 0<K - 1; lia,by show 1<j - 1; lia,by show K - 1+(j - 1)+(xs.size+ys.size)<=i1+j1+k/\K - 1+(j - 1)<=i1+j1; lia⟩
   ·rw [if_neg z]
    have L2:=L.stepB T (by lia) (by lia) (by have:=hK1 (i - 1) (by lia); simpa [bey] using this)
    have ti2:=L2.ti; have tj2:=L2.tj
    refine W.bind (W.elem (by lia) ?_)
    simp only [mpush,mapp,mrev]
    by_cases q2:(j - 1 == 1)=true
    ·rw [if_pos q2]
     exact W.pure ⟨f1,f2,.inl ⟨_,rfl,L2.first T (by simpa using q2) h0⟩⟩
    rw [if_neg q2]
    have q2':¬ j - 1=1:=by simpa using q2
    obtain ⟨K',hK',hB1,hB2⟩:=KB (i - 1) (j - 1) (by lia)
    have LB:=L2.manyB' T (by lia) hK' λ d h1 h2=>by have:=hB2 d h1 h2; simpa [bey] using this
    refine W.bind (W.elem (by lia) (W.bind (W.gal (K:=K') (T.nx _ (by lia)) T.ny (by lia) (by lia) hK' hB1 hB2 ?_)))
    dsimp only
    by_cases z':j - 1 - K' > 0
    ·rw [if_pos z']
     try simp only [mapp,mrev]
     by_cases q4:(K' == 1)=true
     ·rw [if_pos q4]
      exact W.pure ⟨f1,f2,.inl ⟨_,rfl,LB.first T (by simpa using q4) h0⟩⟩
     rw [if_neg q4]
     have q4':¬ K'=1:=by simpa using q4
     by_cases q5:(K' == 0)=true
     ·rw [if_pos q5]
      exact W.pure ⟨f1,f2,.inl ⟨_,rfl,LB.done2 (by simpa using q5)⟩⟩
     rw [if_neg q5]
     have q5':¬ K'=0:=by simpa using q5
     have L3:=LB.stepA T (by lia) (by lia) (by have:=hB1 (K' - 1) (by lia); simpa [bey] using this)
     refine W.bind (W.elem (by lia) ?_)
     simp only [mpush,mapp,mrev]
     by_cases q3:(i - 1 == 0)=true
     ·rw [if_pos q3]
      exact W.pure ⟨f1,f2,.inl ⟨_,rfl,L3.done (by simpa using q3)⟩⟩
     ·rw [if_neg q3]
      have q3':¬ i - 1=0:=by simpa using q3
      refine W.ite (λ _=>?_) (λ _=>?_)
      ·exact W.pure ⟨f1,f2,.inr ⟨rfl,_,rfl,L3,by show 0<i - 1; lia,by show 1<K'; lia,by show i - 1+(K')<=i1+j1; lia⟩⟩
      ·exact W.pure ⟨f1,f2,rfl,_,rfl,L3,by show 0<i - 1; lia,by show 1<K'; lia,by show i - 1+(K')+(xs.size+ys.size)<=i1+j1+k/\i - 1+(K')<=i1+j1; lia⟩
    ·rw [if_neg z']
     have L3:=L2.stepA T (by lia) (by lia) (by have:=hB1 (j - 1 - 1) (by lia); simpa [bey] using this)
     refine W.bind (W.elem (by lia) ?_)
     simp only [mpush,mapp,mrev]
     by_cases q3:(i - 1 == 0)=true
     ·rw [if_pos q3]
      exact W.pure ⟨f1,f2,.inl ⟨_,rfl,L3.done (by simpa using q3)⟩⟩
     ·rw [if_neg q3]
      have q3':¬ i - 1=0:=by simpa using q3
      refine W.ite (λ _=>?_) (λ _=>?_)
      ·exact W.pure ⟨f1,f2,.inr ⟨rfl,_,rfl,L3,by show 0<i - 1; lia,by show 1<j - 1; lia,by show i - 1+(j - 1)<=i1+j1; lia⟩⟩
      ·exact W.pure ⟨f1,f2,rfl,_,rfl,L3,by show 0<i - 1; lia,by show 1<j - 1; lia,by show i - 1+(j - 1)+(xs.size+ys.size)<=i1+j1+k/\i - 1+(j - 1)<=i1+j1; lia⟩
 ·rintro ⟨r,i,j,o,g,ca,cb⟩ b1 ⟨f1,f2,_,os,_,L,hi,hj,hk1,hk2⟩
  dsimp only at hi hj hk1 hk2
  exact absurd hk1 (by lia)
 obtain ⟨r,i2,j2,o,g2,ca,cb⟩:=c
 obtain ⟨f1,f2,hc⟩:=hc
 dsimp only at hc ⊢
 rcases hc with ⟨rs,e,hm⟩ | ⟨e,os2,eo,L,hi2,hj2,hk2⟩
 ·subst e
  exact W.pure ⟨f1,f2,rs,rfl,hm⟩
 subst e eo
 dsimp only
 exact W.bind (W.setMG (W.pure ⟨f1,f2,rfl,_,rfl,L,hi2,hj2,by show i2+j2+1<=k; lia⟩))
end
theorem Cy (n:Nat):mergeAt' n=(do
 let st <-get
 let (some (u,nu,pw),some (v,nv,_)):=((pendingOf st)[n]?,(pendingOf st)[n+1]?) | unsupported "internal:list.sort.pending"
 set (setPending st (((pendingOf st).setIfInBounds n (u,nu+nv,pw)).eraseIdxIfInBounds (n+1)))
 let some k <-gal false (<-elem' (arrOf st) v) (arrOf st) u nu 0 | return false
 let (u,nu):=(u+k,nu - k)
 if nu == 0 then return true
 let some nv <-gal true (<-elem' (arrOf st) (u+nu - 1)) (arrOf st) v nv (nv - 1) | return false
 if nv == 0 then return true
 let X:=(arrOf st).extract u v
 let Y:=(arrOf st).extract v (v+nv)
 let R <-if nu<=nv then mLo X Y else mHi X Y
 modify λ st=>setArr st (R.toList.zipIdx.foldl (λ z (q,j)=>z.setIfInBounds (u+j) q) (arrOf st))
 return (failedOf (<-get)).isNone):=rfl
theorem pq {α:Type}:∀ (l:List α) (k s:Nat) (z:Array α),s+k+l.length<=z.size->
  ((l.zipIdx k).foldl (λ z x=>z.setIfInBounds (s+x.2) x.1) z).toList=z.toList.take (s+k)++l++z.toList.drop (s+k+l.length)
 | [],k,s,z,h=>by simp
 | x::l,k,s,z,h=>by
  rw [List.zipIdx_cons,Od]
  have ih:=pq l (k+1) s (z.setIfInBounds (s+k) x) (by rw [Array.size_setIfInBounds]; simp at h; lia)
  rw [ih]
  have hz:s+k<z.toList.length:=by simp at h ⊢; lia
  rw [Array.toList_setIfInBounds]
  have e1:(z.toList.set (s+k) x).take (s+(k+1))=z.toList.take (s+k)++[x]:=by
   rw [show s+(k+1)=s+k+1 by lia,JS (by simpa using hz)]
   rw [List.getElem_set_self,List.take_set_of_le (Im _)]
  have e2:(z.toList.set (s+k) x).drop (s+(k+1)+l.length)=z.toList.drop (s+(k+1)+l.length):=by
   rw [List.drop_set,if_pos (by lia)]
  rw [e1,e2]
  simp only [Je,List.cons_append,KH,IU]
  rw [show s+(k+1)+l.length=s+k+(l.length+1) by lia]
section
variable {O:Orc} {b:Ab}
theorem W.set {st:SortSt} {Q:PUnit->Ab->Prop} (b':Ab) (e:st=b'.st O) (h:Q ⟨⟩ b'):W O (PM st:SM PUnit) Q b:=λ s hs=>by
 unfold kasC
 show wpAny _ _ ((StateT.set st:SM PUnit).run (b.st O)) _ _ s
 exact wpAny_pure ⟨hs,b',e,h⟩
theorem gd {p:Array Nat} {pre l:List Nat} (h:p.toList=pre++l) (d:Nat):p.getD (pre.length+d) 0=l.getD d 0:=by
 have:p.getD (pre.length+d) 0=p.toList.getD (pre.length+d) 0:=by
  by_cases q:pre.length+d<p.size
  ·simp [IE,q]
  ·have q':¬ pre.length+d<p.toList.length:=by simpa using q
   simp [IE,q,Oz,List.getElem?_eq_none (N0 q')]
 rw [this,h]
 simp [Oz,IX]
theorem gl {l:List Nat} {d:Nat} (h:d<l.length):l.getD d 0=l[d]:=by simp [Oz,h]
structure Nb (O:Orc) (p:Array Nat) (pre R1 R2 suf:List Nat):Prop where
 H:Lt O.lt
 e:p.toList=pre++(R1++(R2++suf))
 nn:∀ k,k<p.size->p.getD k 0<O.N
 s1:R1.Pairwise (Ah O.lt)
 s2:R2.Pairwise (Ah O.lt)
 xy:∀ x∈R1,∀ y∈R2,x<y
 l1:0<R1.length
 l2:0<R2.length
theorem W.mAt {p:Array Nat} {pd:Array (Nat×Nat×Nat)} {mg pw pw2:Nat} {pre R1 R2 suf:List Nat} {Q:Bool->Ab->Prop} (T:Nb O p pre R1 R2 suf) (d1:pd[n]? = some (pre.length,R1.length,pw)) (d2:pd[n+1]? = some (pre.length+R1.length,R2.length,pw2))
  (h:∀ (M:List Nat) (p':Array Nat) mg',M.Perm (R1++R2)->M.Pairwise (Ah O.lt)->p'.toList=pre++(M++suf)->Q true ⟨p',(pd.setIfInBounds n (pre.length,R1.length+R2.length,pw)).eraseIdxIfInBounds (n+1),mg'⟩):W O (mergeAt' n) Q ⟨p,pd,mg⟩:=by
 have l1:=T.l1
 have l2:=T.l2
 have hz:p.size=pre.length+(R1.length+(R2.length+suf.length)):=by rw [<-Jx,T.e]; simp
 have g1:∀ d,d<R1.length->p.getD (pre.length+d) 0=R1.getD d 0:=λ d hd=>by
  rw [gd T.e,gl (by simp; lia),gl hd,K6 hd]
 have e2:p.toList=(pre++R1)++(R2++suf):=by rw [T.e]; simp
 have g2:∀ d,d<R2.length->p.getD (pre.length+R1.length+d) 0=R2.getD d 0:=λ d hd=>by
  have:=gd e2 d
  rw [IM] at this
  rw [this,gl (by simp; lia),gl hd,K6 hd]
 have m1:∀ d,d<R1.length->R1.getD d 0∈R1:=λ d hd=>by rw [gl hd]; exact JK hd
 have m2:∀ d,d<R2.length->R2.getD d 0∈R2:=λ d hd=>by rw [gl hd]; exact JK hd
 have a1:∀ c d,c<d->d<R1.length->Ah O.lt (R1.getD c 0) (R1.getD d 0):=λ c d hc hd=>by
  rw [gl hd,gl (by lia)]; exact JV.mp T.s1 c d (by lia) hd hc
 have a2:∀ c d,c<d->d<R2.length->Ah O.lt (R2.getD c 0) (R2.getD d 0):=λ c d hc hd=>by
  rw [gl hd,gl (by lia)]; exact JV.mp T.s2 c d (by lia) hd hc
 rw [Cy]
 refine W.bind (W.get ?_)
 have hp:pendingOf (Ab.st O ⟨p,pd,mg⟩)=pd:=rfl
 have ha:arrOf (Ab.st O ⟨p,pd,mg⟩)=p.map (kas_item O.it):=rfl
 simp only [hp,ha,d1,d2]
 refine W.bind (W.set ⟨p,(pd.setIfInBounds n (pre.length,R1.length+R2.length,pw)).eraseIdxIfInBounds (n+1),mg⟩ rfl ?_)
 generalize (pd.setIfInBounds n (pre.length,R1.length+R2.length,pw)).eraseIdxIfInBounds (n+1)=pd' at h ⊢
 -- the first of the second run,looked for in the first
 obtain ⟨K,hK,k1,k2⟩:=kx (P:=λ d=>bey O false (p.getD (pre.length+R1.length) 0) p pre.length d) R1.length (λ c d h1 h2 h3=>by
  simp only [bey,Iq,if_false,Mh] at h3 ⊢
  rcases JT h1 with rfl | h1
  ·exact h3
  ·rw [g1 d h2] at h3; rw [g1 c (by lia)]
   exact T.H.tr _ _ _ h3 (a1 c d h1 h2).1)
 have y0:p.getD (pre.length+R1.length) 0=R2.getD 0 0:=g2 0 l2
 have k1':∀ d,d<K->O.lt (R2.getD 0 0) (R1.getD d 0)=false:=λ d hd=>by
  have:=k1 d hd
  simp only [bey,Iq,if_false,Mh] at this
  rwa [y0,g1 d (by lia)] at this
 have k2':∀ d,K<=d->d<R1.length->O.lt (R2.getD 0 0) (R1.getD d 0)=true:=λ d h1 h2=>by
  have:=k2 d h1 h2
  simp only [bey,Iq,if_false,Bool.not_eq_false'] at this
  rwa [y0,g1 d (by lia)] at this
 refine W.bind (W.elem (by lia) (W.bind (W.gal (K:=K) (T.nn _ (by lia)) T.nn (by lia) l1 hK k1 k2 ?_)))
 -- what stays ahead stands ahead of all of the second run
 have F1:∀ a∈R1.take K,∀ y∈R2,Ah O.lt a y:=λ a ha y hy=>by
  obtain ⟨d,hd,rfl⟩:=Ke ha
  have hd':d<K:=by rw [Jl] at hd; lia
  have hd1:d<R1.length:=by lia
  have e:(R1.take K)[d]=R1.getD d 0:=by rw [gl hd1]; simp
  rw [e]
  have b0:Ah O.lt (R1.getD d 0) (R2.getD 0 0):=⟨k1' d hd',λ _=>T.xy _ (m1 d hd1) _ (m2 0 l2)⟩
  obtain ⟨c,hc,rfl⟩:=Ke hy
  rw [<-gl hc]
  rcases K5 c with rfl | hc0
  ·exact b0
  ·exact b0.trans T.H (a2 0 c hc0 hc)
 dsimp only
 by_cases q:(R1.length - K == 0)=true
 ·rw [if_pos q]
  have q':R1.length - K=0:=by simpa using q
  have eK:R1.take K=R1:=Jb (by lia)
  rw [eK] at F1
  exact W.pure (h (R1++R2) p mg (MP _) (IA.mpr ⟨T.s1,T.s2,λ a ha c hc=>F1 a ha c hc⟩) (by rw [T.e]; simp))
 rw [if_neg q]
 have q':¬ R1.length - K=0:=by simpa using q
 have ex:pre.length+K+(R1.length - K) - 1=pre.length+(R1.length - 1):=by lia
 rw [ex]
 obtain ⟨K',hK',j1,j2⟩:=kx (P:=λ d=>bey O true (p.getD (pre.length+(R1.length - 1)) 0) p (pre.length+R1.length) d) R2.length (λ c d h1 h2 h3=>by
  simp only [bey,if_true] at h3 ⊢
  rcases JT h1 with rfl | h1
  ·exact h3
  ·rw [g2 d h2] at h3; rw [g2 c (by lia)]
   exact lv T.H h3 (a2 c d h1 h2).1)
 have x9:=g1 (R1.length - 1) (by lia)
 have j1':∀ d,d<K'->O.lt (R2.getD d 0) (R1.getD (R1.length - 1) 0)=true:=λ d hd=>by
  have:=j1 d hd
  simp only [bey,if_true] at this
  rwa [x9,g2 d (by lia)] at this
 have j2':∀ d,K'<=d->d<R2.length->O.lt (R2.getD d 0) (R1.getD (R1.length - 1) 0)=false:=λ d h1 h2=>by
  have:=j2 d h1 h2
  simp only [bey,if_true] at this
  rwa [x9,g2 d (by lia)] at this
 refine W.bind (W.elem (by lia) (W.bind (W.gal (K:=K') (T.nn _ (by lia)) T.nn (by lia) (by lia) hK' j1 j2 ?_)))
 dsimp only
 have kp:0<K':=by
  rcases K5 K' with z | z
  ·have:=j2' 0 (by lia) l2
   rw [k2' _ (by lia) (by lia)] at this; cases this
  ·exact z
 rw [if_neg (by simp; lia)]
 have F2:∀ x∈R1,∀ y∈R2.drop K',Ah O.lt x y:=λ x hx y hy=>by
  obtain ⟨d,hd,rfl⟩:=Ke hy
  have hd':K'+d<R2.length:=by rw [Ky] at hd; lia
  have e:(R2.drop K')[d]=R2.getD (K'+d) 0:=by rw [gl hd']; simp
  rw [e]
  have b0:Ah O.lt (R1.getD (R1.length - 1) 0) (R2.getD (K'+d) 0):=⟨j2' _ (by lia) hd',λ _=>T.xy _ (m1 _ (by lia)) _ (m2 _ hd')⟩
  obtain ⟨c,hc,rfl⟩:=Ke hx
  rw [<-gl hc]
  rcases JT (show c<=R1.length - 1 by lia) with rfl | hc0
  ·exact b0
  ·exact (a1 c _ hc0 (by lia)).trans T.H b0
 have mext:∀ (zs:Array Nat) (i j:Nat),(zs.map (kas_item O.it)).extract i j=(zs.extract i j).map (kas_item O.it):=λ zs i j=>by rw [Mi]
 simp only [mext]
 have ex1:(p.extract (pre.length+K) (pre.length+R1.length)).toList=R1.drop K:=by
  rw [JZ,Jo,T.e,show pre.length+R1.length - (pre.length+K)=R1.length - K by lia,N6,MI (by lia),KH,show pre.length+K - pre.length=K by lia,LF hK,KM (by simp)]
  exact Jb (by simp)
 have ex2:(p.extract (pre.length+R1.length) (pre.length+R1.length+K')).toList=R2.take K':=by
  rw [JZ,Jo,e2,show pre.length+R1.length+K' - (pre.length+R1.length)=K' by lia,N6,MI (by simp),KH,IM,K7,K9,KM hK']
 have z1:(p.extract (pre.length+K) (pre.length+R1.length)).size=R1.length - K:=by rw [<-Jx,ex1,Ky]
 have z2:(p.extract (pre.length+R1.length) (pre.length+R1.length+K')).size=K':=by rw [<-Jx,ex2,Jl]; lia
 generalize p.extract (pre.length+K) (pre.length+R1.length)=xs at ex1 z1 ⊢
 generalize p.extract (pre.length+R1.length) (pre.length+R1.length+K')=ys at ex2 z2 ⊢
 have gx:∀ d,d<xs.size->xs.getD d 0=R1.getD (K+d) 0:=λ d hd=>by
  have:=gd (p:=xs) (pre:=[]) (l:=R1.drop K) (by simpa using ex1) d
  simp only [JY,Kn] at this
  rw [this,gl (by rw [Ky]; lia),gl (by lia),NL]
 have gy:∀ d,d<ys.size->ys.getD d 0=R2.getD d 0:=λ d hd=>by
  have:=gd (p:=ys) (pre:=[]) (l:=R2.take K') (by simpa using ex2) d
  simp only [JY,Kn] at this
  rw [this,gl (by rw [Jl]; lia),gl (by lia),NM]
 have TT:Two O xs ys:=by
  refine ⟨T.H,λ d hd=>?_,λ d hd=>?_,?_,?_,λ x hx y hy=>?_,by lia,by lia⟩
  ·rw [gx d hd,<-g1 (K+d) (by lia)]; exact T.nn _ (by lia)
  ·rw [gy d hd,<-g2 d (by lia)]; exact T.nn _ (by lia)
  ·rw [ex1]; exact T.s1.sublist (NN _ _)
  ·rw [ex2]; exact T.s2.sublist (Mf _ _)
  ·rw [ex1] at hx; rw [ex2] at hy
   exact T.xy x (KT hx) y (KU hy)
 have h0:O.lt (ys.getD 0 0) (xs.getD 0 0)=true:=by
  rw [gx 0 (by lia),gy 0 (by lia)]; exact k2' _ (by lia) (by lia)
 have hl:∀ y∈ys.toList,O.lt y (xs.getD (xs.size - 1) 0)=true:=λ y hy=>by
  rw [gx _ (by lia),show K+(xs.size - 1)=R1.length - 1 by lia]
  rw [ex2] at hy
  obtain ⟨d,hd,rfl⟩:=Ke hy
  rw [Jl] at hd
  have e:(R2.take K')[d]=R2.getD d 0:=by rw [gl (by lia)]; simp
  rw [e]; exact j1' d (by lia)
 have fin:∀ (rs:Array Nat) (mg':Nat),om O xs ys rs->W O (do
   _root_.modify λ st=>setArr st ((rs.map (kas_item O.it)).toList.zipIdx.foldl (λ z x=>z.setIfInBounds (pre.length+K+x.2) x.1) (arrOf st))
   let st <-Ot
   Oy (failedOf st).isNone) Q ⟨p,pd',mg'⟩:=by
  intro rs mg' ⟨hm,hs⟩
  rw [ex1,ex2] at hm
  have hrl:rs.toList.length=R1.length - K+K':=by rw [hm.length_eq,IM,Ky,Jl]; lia
  have hfs:=pq (rs.map (kas_item O.it)).toList 0 (pre.length+K) (p.map (kas_item O.it)) (by rw [Lm,Ir,hrl,MS]; lia)
  have el:(((rs.map (kas_item O.it)).toList.zipIdx.foldl (λ z x=>z.setIfInBounds (pre.length+K+x.2) x.1) (p.map (kas_item O.it))))=(Iw (pre++((R1.take K++rs.toList++R2.drop K')++suf))).map (kas_item O.it):=by
   apply JL.mp
   rw [hfs]
   rw [Lm,Lm,Lm,Ir,hrl,<-M4,<-List.map_drop,<-IL,<-IL]
   congr 1
   have t1:p.toList.take (pre.length+K+0)=pre++R1.take K:=by
    rw [T.e,Nat.add_zero,List.take_append,Jb (by lia),show pre.length+K - pre.length=K by lia,KM hK]
   have t2:p.toList.drop (pre.length+K+0+(R1.length - K+K'))=R2.drop K'++suf:=by
    rw [e2,show pre.length+K+0+(R1.length - K+K')=(pre++R1).length+K' by rw [IM]; lia,List.drop_length_add_append,LF hK']
   rw [t1,t2]
   simp
  refine W.bind (W.modify ⟨Iw (pre++((R1.take K++rs.toList++R2.drop K')++suf)),pd',mg'⟩ ?_ ?_)
  ·show JG O.κ _ pd' mg' none=JG O.κ _ pd' mg' none
   have:arrOf (Ab.st O ⟨p,pd',mg'⟩)=p.map (kas_item O.it):=rfl
   rw [this,el]
  refine W.bind (W.get (W.pure ?_))
  refine h (R1.take K++rs.toList++R2.drop K') _ mg' ?_ ?_ rfl
  ·have:(R1++R2)=R1.take K++(R1.drop K++R2.take K')++R2.drop K':=by
    rw [<-Je,JH,Je,JH]
   rw [this]
   exact (hm.append_left _).append_right _
  ·have mem:∀ r∈rs.toList,r∈R1.drop K\/r∈R2.take K':=λ r hr=>IN.mp (hm.mem_iff.mp hr)
   have p1:(R1.take K++R1.drop K).Pairwise (Ah O.lt):=by rw [JH]; exact T.s1
   have p2:(R2.take K'++R2.drop K').Pairwise (Ah O.lt):=by rw [JH]; exact T.s2
   refine IA.mpr ⟨IA.mpr ⟨T.s1.sublist (Mf _ _),hs,λ a ha r hr=>?_⟩,T.s2.sublist (NN _ _),λ a ha y hy=>?_⟩
   ·rcases mem r hr with z | z
    ·exact (IA.mp p1).2.2 a ha r z
    ·exact F1 a ha r (KU z)
   ·rcases IN.mp ha with z | z
    ·exact F1 a z y (KT hy)
    ·rcases mem a z with z | z
     ·exact F2 a (KT z) y hy
     ·exact (IA.mp p2).2.2 a z y hy
 by_cases c:R1.length - K<=K'
 ·rw [if_pos c]
  exact W.bind (W.mLo TT h0 hl λ rs mg' hm=>fin rs mg' hm)
 ·rw [if_neg c]
  exact W.bind (W.mHi TT h0 hl λ rs mg' hm=>fin rs mg' hm)
end
noncomputable def ev (lt:Nat->Nat->Bool) {α:Type}:KasT α->α
 | .ret a=>a
 | .ask i j k=>ev lt (k (lt i j))
theorem dl (lt:Nat->Nat->Bool) {α β:Type} (f:α->KasT β):∀ t:KasT α,ev lt (t.bind f)=ev lt (f (ev lt t))
 | .ret _=>rfl
 | .ask i j k=>dl lt f (k (lt i j))
theorem Sat.ev {N:Nat} {lt:Nat->Nat->Bool} {α:Type} {R:α->Prop}:∀ t:KasT α,Sat N lt t R->R (L2.ev lt t)
 | .ret _,h=>h
 | .ask i j k,h=>Sat.ev (k (lt i j)) h.2.2
noncomputable def sh (lt:Nat->Nat->Bool) (lo:Nat):Nat->Nat->Bool:=λ i j=>lt (i+lo) (j+lo)
theorem Lt.sh {lt:Nat->Nat->Bool} (H:Lt lt) (lo:Nat):Lt (sh lt lo):=⟨λ i j h=>H.asym _ _ h,λ i j k h h'=>H.tr _ _ _ h h'⟩
section
variable {O:Orc} {b:Ab} {lo n nrem:Nat} {pre:List Nat} {pd:Array (Nat×Nat×Nat)} {mg:Nat} {P:Array Nat}
theorem W.rangeV {γ:Type} {x y:Nat} {c:γ} {f:Nat->γ->SM (ForInStep γ)} {D:γ->Ab->Prop} (J:Nat->γ->Ab->Prop) (hxy:x<=y) (h0:J x c b)
  (hs:∀ k c b,x<=k->k<y->J k c b->W O (f k c) (λ r b'=>match r with | .done c'=>D c' b' | .yield c'=>J (k+1) c' b') b) (hd:∀ c b,J y c b->D c b):W O (MH [x:y] c f) D b:=λ s hi=>by
 refine kasC_range ?_
 have go:∀ (m k:Nat) (c:γ) (b:Ab),x<=k->k+m=y->J k c b->W O (MH (II k m) c f) D b:=by
  intro m
  induction m with
  | zero=>
   intro k c b _ e h s hi
   have:k=y:=by lia
   subst this
   exact kasC_nil ⟨hi,b,rfl,hd c b h⟩
  | succ m ih=>
   intro k c b hk e h s hi
   rw [List.range'_succ]
   refine kasC_cons (wpAny_mono (hs k c b hk (by lia) h s hi) (λ r s' ⟨i,b',e',q⟩=>?_) λ _ _ z=>z)
   obtain ⟨r,st⟩:=r
   have e':st=b'.st O:=e'
   subst e'
   cases r with
   | done c'=>exact ⟨i,b',rfl,q⟩
   | yield c'=>exact ih (k+1) c' b' (by lia) (by lia) q s' i
 exact go (y - x) x c b (Im _) (by lia) h0 s hi
noncomputable def abP (lo:Nat) (pre:List Nat) (pd:Array (Nat×Nat×Nat)) (mg:Nat) (P:Array Nat):Ab:=⟨Iw (pre++P.toList.map (· + lo)),pd,mg⟩
structure Fm (O:Orc) (lo nrem:Nat) (pre:List Nat) (P:Array Nat):Prop where
 pl:pre.length=lo
 pn:∀ x∈pre,x<O.N
 top:lo+nrem<=O.N
 perm:P.Perm (Iw (IC nrem))
theorem Fm.get (F:Fm O lo nrem pre P) (hi:i<nrem):(abP lo pre pd mg P).p.getD (lo+i) 0=P.getD i 0+lo:=by
 have hz:=(fL F.perm).sz
 have e:(abP lo pre pd mg P).p.toList=pre++P.toList.map (· + lo):=rfl
 have:=gd e i
 rw [F.pl] at this
 rw [this,gl (by simp; lia)]
 simp [IE,hz,hi]
theorem Fm.size (F:Fm O lo nrem pre P):(abP lo pre pd mg P).p.size=lo+nrem:=by
 have hz:=(fL F.perm).sz
 show (Iw (pre++P.toList.map (· + lo))).size=_
 simp [F.pl,hz]
theorem Fm.all (F:Fm O lo nrem pre P):∀ k,k<(abP lo pre pd mg P).p.size->(abP lo pre pd mg P).p.getD k 0<O.N:=λ k hk=>by
 rw [F.size] at hk
 rcases Jt k lo with h | h
 ·have e:(abP lo pre pd mg P).p.getD k 0=pre.getD k 0:=by
   show (Iw (pre++P.toList.map (· + lo))).getD k 0=_
   have hk':k<pre.length:=by rw [F.pl]; exact h
   have hz:=(fL F.perm).sz
   have:k<(Iw (pre++P.toList.map (· + lo))).size:=by simp [F.pl,hz]; lia
   rw [gl hk']
   simp [IE,F.pl,hz,hk,K6 hk']
  rw [e,gl (by rw [F.pl]; exact h)]
  exact F.pn _ (JK _)
 ·obtain ⟨d,rfl⟩:∃ d,k=lo+d:=⟨k - lo,by lia⟩
  rw [F.get (by lia)]
  have:=(fL F.perm).bd d (by lia)
  have:=F.top
  lia
theorem Fm.of (F:Fm O lo nrem pre P) {P':Array Nat} (h:P'.Perm (Iw (IC nrem))):Fm O lo nrem pre P':=⟨F.pl,F.pn,F.top,h⟩
theorem W.ltF {Q:Option Bool->Ab->Prop} (F:Fm O lo nrem pre P) (hi:i<nrem) (hj:j<nrem) (h:Q (some (sh O.lt lo (P.getD i 0) (P.getD j 0))) (abP lo pre pd mg P)):W O (ltAt' (lo+i) (lo+j)) Q (abP lo pre pd mg P):=by
 refine W.ltAt (by rw [F.size]; lia) (by rw [F.size]; lia) F.all ?_
 rw [F.get hi,F.get hj]; exact h
theorem zF (xs:Array Nat) (k:Nat) (h:k<xs.size):xs[k]? = some (xs.getD k 0):=by simp [IE,h]
theorem W.revF {Q:Unit->Ab->Prop} (F:Fm O lo nrem pre P) (hj:j<=nrem) (h:Q () (abP lo pre pd mg (kas_rev P i j))):W O (reverseSlice' (lo+i) (lo+j)) Q (abP lo pre pd mg P):=by
 rw [reverseSlice'_eq]
 refine W.modify _ ?_ h
 show JG O.κ (mirror ((abP lo pre pd mg P).p.map (kas_item O.it)) (lo+i) (lo+j) (((lo+j) - (lo+i)) / 2)) pd mg none=JG O.κ ((abP lo pre pd mg (kas_rev P i j)).p.map (kas_item O.it)) pd mg none
 have e1:mirror ((abP lo pre pd mg P).p.map (kas_item O.it)) (lo+i) (lo+j) (((lo+j) - (lo+i)) / 2)=(mirror (abP lo pre pd mg P).p (lo+i) (lo+j) (((lo+j) - (lo+i)) / 2)).map (kas_item O.it):=kas_swaps_map (kas_item O.it) (λ k=>lo+i+k) (λ k=>lo+j - 1 - k) _ _
 rw [e1]
 have F':Fm O lo nrem pre (kas_rev P i j):=F.of (aS _ _ F.perm)
 have hz:=(fL F.perm).sz
 congr 2
 apply Nn
 intro k
 rw [getElem?_mirror_all (by rw [F.size]; lia)]
 rcases Jt k lo with hk | hk
 ·rw [if_neg (by lia)]
  show (Iw (pre++_))[k]? = (Iw (pre++_))[k]?
  have hk':k<pre.length:=by rw [F.pl]; exact hk
  simp [Jn hk']
 ·obtain ⟨d,rfl⟩:∃ d,k=lo+d:=⟨k - lo,by lia⟩
  rcases Jt d nrem with hd | hd
  ·rw [zF (abP lo pre pd mg (kas_rev P i j)).p (lo+d) (by rw [F'.size]; lia),F'.get hd,bp (by lia)]
   by_cases c:i<=d/\d<j
   ·rw [if_pos (by lia),if_pos c,show lo+i+(lo+j) - 1 - (lo+d)=lo+(i+j - 1 - d) by lia,zF _ _ (by rw [F.size]; lia),F.get (by lia)]
   ·rw [if_neg (by lia),if_neg c,zF _ _ (by rw [F.size]; lia),F.get hd]
  ·rw [if_neg (by lia),KJ (by rw [F.size]; lia),KJ (by rw [F'.size]; lia)]
theorem W.movF {l:Nat} {Q:Unit->Ab->Prop} (F:Fm O lo nrem pre P) (hk:k<nrem) (hl:l<=k) (h:Q () (abP lo pre pd mg (bubble P k (k - l)))):W O (moveDown' (lo+k) (lo+l)) Q (abP lo pre pd mg P):=by
 rw [moveDown'_eq]
 refine W.modify _ ?_ h
 show JG O.κ (bubble ((abP lo pre pd mg P).p.map (kas_item O.it)) (lo+k) (lo+k - (lo+l))) pd mg none=JG O.κ ((abP lo pre pd mg (bubble P k (k - l))).p.map (kas_item O.it)) pd mg none
 have e1:bubble ((abP lo pre pd mg P).p.map (kas_item O.it)) (lo+k) (lo+k - (lo+l))=(bubble (abP lo pre pd mg P).p (lo+k) (lo+k - (lo+l))).map (kas_item O.it):=kas_swaps_map (kas_item O.it) (λ i=>lo+k - i) (λ i=>lo+k - i - 1) _ _
 rw [e1]
 have F':Fm O lo nrem pre (bubble P k (k - l)):=F.of (lw _ _ F.perm)
 have hz:=(fL F.perm).sz
 congr 2
 apply Nn
 intro x
 rw [getElem?_bubble (by rw [F.size]; lia) _ (by lia),show lo+k - (lo+k - (lo+l))=lo+l by lia]
 rcases Jt x lo with hx | hx
 ·rw [if_neg (by lia),if_neg (by lia)]
  show (Iw (pre++_))[x]? = (Iw (pre++_))[x]?
  have hx':x<pre.length:=by rw [F.pl]; exact hx
  simp [Jn hx']
 ·obtain ⟨d,rfl⟩:∃ d,x=lo+d:=⟨x - lo,by lia⟩
  rcases Jt d nrem with hd | hd
  ·rw [zF (abP lo pre pd mg (bubble P k (k - l))).p (lo+d) (by rw [F'.size]; lia),F'.get hd,iK (by lia) hl]
   by_cases c:d=l
   ·rw [if_pos (by lia),if_pos c,zF _ _ (by rw [F.size]; lia),F.get hk]
   ·rw [if_neg (by lia),if_neg c]
    by_cases c2:l<d/\d<=k
    ·rw [if_pos (by lia),if_pos c2,show lo+d - 1=lo+(d - 1) by lia,zF _ _ (by rw [F.size]; lia),F.get (by lia)]
    ·rw [if_neg (by lia),if_neg c2,zF _ _ (by rw [F.size]; lia),F.get hd]
  ·rw [if_neg (by lia),if_neg (by lia),KJ (by rw [F.size]; lia),KJ (by rw [F'.size]; lia)]
theorem W.cnt {Q:Option Nat->Ab->Prop} (F:Fm O lo nrem pre P) (h1:1<=nrem) (h:Q (some (ev (sh O.lt lo) (kas_count nrem P)).1) (abP lo pre pd mg (ev (sh O.lt lo) (kas_count nrem P)).2)):W O (countRun' lo nrem) Q (abP lo pre pd mg P):=by
 rw [countRun'_eq]
 refine W.bind (W.range (D:=λ c b1=>b1=abP lo pre pd mg P/\c.1=none/\c.2=ev (sh O.lt lo) (kas_asc P (nrem - 1) 1)/\1<=c.2/\c.2<=nrem) (λ k c b1=>b1=abP lo pre pd mg P/\c.1=none/\1<=c.2/\c.2+k=nrem/\ev (sh O.lt lo) (kas_asc P k c.2)=ev (sh O.lt lo) (kas_asc P (nrem - 1) 1)) ⟨rfl,rfl,by show 1<=1; lia,by show 1+(nrem - 1)=nrem; lia,rfl⟩ ?_ ?_ |>.mono λ c b1 hc=>?_)
 ·rintro x k ⟨r,m⟩ b1 ⟨eb,er,q1,q2,q3⟩
  dsimp only at er q1 q2 q3 ⊢
  subst eb er
  rw [show lo+m - 1=lo+(m - 1) by lia]
  refine W.bind (W.ltF F (by lia) (by lia) ?_)
  have q3:ev (sh O.lt lo) (if sh O.lt lo (IE P m 0) (IE P (m - 1) 0)=true then KasT.ret m else kas_asc P k (m+1))=_:=q3
  cases e:sh O.lt lo (IE P m 0) (IE P (m - 1) 0) with
  | true=>
   rw [e,if_pos rfl] at q3
   simp only [if_true]
   exact W.pure ⟨rfl,rfl,q3,q1,by show m<=nrem; lia⟩
  | false=>
   rw [e,if_neg Iv] at q3
   simp only [Iq,if_false]
   exact W.pure ⟨rfl,rfl,by show 1<=m+1; lia,by show m+1+k=nrem; lia,q3⟩
 ·rintro ⟨r,m⟩ b1 ⟨eb,er,q1,q2,q3⟩
  dsimp only at er q1 q2 q3
  exact ⟨eb,er,q3,q1,by show m<=nrem; lia⟩
 obtain ⟨r,m⟩:=c
 obtain ⟨eb,er,em,m1,m2⟩:=hc
 dsimp only at er em m1 m2 ⊢
 subst eb er
 dsimp only
 have ec:ev (sh O.lt lo) (kas_count nrem P)=ev (sh O.lt lo) (if (m == nrem)=true then KasT.ret (m,P) else if m > 1 then KasT.ask (P.getD 0 0) (P.getD (m - 1) 0) λ c=>if c=true then KasT.ret (m,P) else kas_descPart m nrem (kas_rev P 0 m) else kas_descPart m nrem P):=by
  unfold kas_count
  rw [dl,<-em]
 rw [ec] at h
 clear ec em
 by_cases q:(m == nrem)=true
 ·rw [if_pos q] at h ⊢
  exact W.pure h
 rw [if_neg q] at h ⊢
 have q':¬ m=nrem:=by simpa using q
 by_cases hm:m > 1
 ·rw [if_pos hm] at h ⊢
  rw [show lo+m - 1=lo+(m - 1) by lia]
  refine W.bind (W.ltF (i:=0) F (by lia) (by lia) ?_)
  have h:Q (some (ev (sh O.lt lo) (if sh O.lt lo (P.getD 0 0) (P.getD (m - 1) 0)=true then KasT.ret (m,P) else kas_descPart m nrem (kas_rev P 0 m))).1) (abP lo pre pd mg (ev (sh O.lt lo) (if sh O.lt lo (P.getD 0 0) (P.getD (m - 1) 0)=true then KasT.ret (m,P) else kas_descPart m nrem (kas_rev P 0 m))).2):=h
  cases e:sh O.lt lo (P.getD 0 0) (P.getD (m - 1) 0) with
  | true=>
   rw [e,if_pos rfl] at h
   simp only [if_true]
   exact W.pure h
  | false=>
   rw [e,if_neg Iv] at h
   simp only [Iq,if_false]
   refine W.bind (W.revF (i:=0) F (by lia) ?_)
   have F1:=F.of (aS 0 m F.perm)
   have ed:ev (sh O.lt lo) (kas_descPart m nrem (kas_rev P 0 m))=(λ r:Array Nat×Nat×Nat=>ev (sh O.lt lo) (if r.2.2 > 0 then kas_tail3 r.2.1 nrem (kas_rev r.1 (r.2.1 - (r.2.2+1)) r.2.1) else kas_tail3 r.2.1 nrem r.1)) (ev (sh O.lt lo) (kas_desc (nrem - (m+1)) (kas_rev P 0 m) (m+1) 0)):=by
    unfold kas_descPart
    rw [dl]
   rw [ed] at h
   clear ed
   refine W.bind (W.rule ?_)
   refine W.bind (W.range (D:=λ c b1=>c.1=none/\∃ P',b1=abP lo pre pd mg P'/\Fm O lo nrem pre P'/\(P',c.2.1,c.2.2)=ev (sh O.lt lo) (kas_desc (nrem - (m+1)) (kas_rev P 0 m) (m+1) 0)/\c.2.2+1<=c.2.1/\c.2.1<=nrem) (λ k c b1=>c.1=none/\∃ P',b1=abP lo pre pd mg P'/\Fm O lo nrem pre P'/\ev (sh O.lt lo) (kas_desc k P' c.2.1 c.2.2)=ev (sh O.lt lo) (kas_desc (nrem - (m+1)) (kas_rev P 0 m) (m+1) 0)/\c.2.2+1<=c.2.1/\c.2.1+k=nrem) ⟨rfl,_,rfl,F1,rfl,by show 0+1<=m+1; lia,by show m+1+(nrem - (m+1))=nrem; lia⟩ ?_ ?_ |>.mono λ c b1 hc=>?_)
   ·rintro x k ⟨r,u,v⟩ b1 ⟨er,P',eb,F',q3,q1,q2⟩
    dsimp only at er q1 q2 q3 ⊢
    subst eb er
    rw [show lo+u - 1=lo+(u - 1) by lia,show lo+u - (v+1)=lo+(u - (v+1)) by lia]
    refine W.bind (W.ltF F' (by lia) (by lia) ?_)
    have q3:ev (sh O.lt lo) (if sh O.lt lo (P'.getD u 0) (P'.getD (u - 1) 0)=true then (if v > 0 then kas_desc k (kas_rev P' (u - (v+1)) u) (u+1) 0 else kas_desc k P' (u+1) 0) else KasT.ask (P'.getD (u - 1) 0) (P'.getD u 0) λ d=>if d=true then KasT.ret (P',u,v) else kas_desc k P' (u+1) (v+1))=_:=q3
    cases e:sh O.lt lo (P'.getD u 0) (P'.getD (u - 1) 0) with
    | true=>
     rw [e,if_pos rfl] at q3
     simp only [if_true]
     by_cases hv:v > 0
     ·rw [if_pos hv] at q3 ⊢
      exact W.bind (W.revF F' (by lia) (W.pure ⟨rfl,_,rfl,F'.of (aS _ _ F'.perm),q3,by show 0+1<=u+1; lia,by show u+1+k=nrem; lia⟩))
     ·rw [if_neg hv] at q3 ⊢
      exact W.pure ⟨rfl,_,rfl,F',q3,by show 0+1<=u+1; lia,by show u+1+k=nrem; lia⟩
    | false=>
     rw [e,if_neg Iv] at q3
     simp only [Iq,if_false]
     refine W.bind (W.ltF F' (by lia) (by lia) ?_)
     have q3:ev (sh O.lt lo) (if sh O.lt lo (P'.getD (u - 1) 0) (P'.getD u 0)=true then KasT.ret (P',u,v) else kas_desc k P' (u+1) (v+1))=_:=q3
     cases e2:sh O.lt lo (P'.getD (u - 1) 0) (P'.getD u 0) with
     | true=>
      rw [e2,if_pos rfl] at q3
      simp only [if_true]
      exact W.pure ⟨rfl,_,rfl,F',q3,q1,by show u<=nrem; lia⟩
     | false=>
      rw [e2,if_neg Iv] at q3
      simp only [Iq,if_false]
      exact W.pure ⟨rfl,_,rfl,F',q3,by show v+1+1<=u+1; lia,by show u+1+k=nrem; lia⟩
   ·rintro ⟨r,u,v⟩ b1 ⟨er,P',eb,F',q3,q1,q2⟩
    dsimp only at er q1 q2 q3
    exact ⟨er,P',eb,F',q3,q1,by show u<=nrem; lia⟩
   obtain ⟨r,u,v⟩:=c
   obtain ⟨er,P',eb,F',e9,q1,q2⟩:=hc
   dsimp only at er e9 q1 q2 ⊢
   subst eb er
   rw [<-e9] at h
   dsimp only at h ⊢
   rw [show lo+u - (v+1)=lo+(u - (v+1)) by lia]
   by_cases hv:v > 0
   ·rw [if_pos hv] at h ⊢
    refine W.bind (W.revF F' (by lia) ?_)
    have F3:=F'.of (aS (u - (v+1)) u F'.perm)
    generalize kas_rev P' (u - (v+1)) u=P3 at F3 h ⊢
    have e3:ev (sh O.lt lo) (kas_tail3 u nrem P3)=(ev (sh O.lt lo) (kas_asc (kas_rev P3 0 u) (nrem - u) u),kas_rev P3 0 u):=by
     unfold kas_tail3
     rw [dl]; rfl
    rw [e3] at h
    have F4:=F3.of (aS 0 u F3.perm)
    refine W.bind (W.revF (i:=0) F3 (by lia) ?_)
    refine W.bind (W.range (D:=λ c b1=>b1=abP lo pre pd mg (kas_rev P3 0 u)/\c.1=none/\c.2=ev (sh O.lt lo) (kas_asc (kas_rev P3 0 u) (nrem - u) u)/\1<=c.2/\c.2<=nrem) (λ k c b1=>b1=abP lo pre pd mg (kas_rev P3 0 u)/\c.1=none/\1<=c.2/\c.2+k=nrem/\ev (sh O.lt lo) (kas_asc (kas_rev P3 0 u) k c.2)=ev (sh O.lt lo) (kas_asc (kas_rev P3 0 u) (nrem - u) u)) ⟨rfl,rfl,by show 1<=u; lia,by show u+(nrem - u)=nrem; lia,rfl⟩ ?_ ?_ |>.mono λ c b1 hc=>?_)
    ·rintro x k ⟨r,m⟩ b1 ⟨eb,er,q1,q2,q3⟩
     dsimp only at er q1 q2 q3 ⊢
     subst eb er
     rw [show lo+m - 1=lo+(m - 1) by lia]
     refine W.bind (W.ltF F4 (by lia) (by lia) ?_)
     have q3:ev (sh O.lt lo) (if sh O.lt lo (IE (kas_rev P3 0 u) m 0) (IE (kas_rev P3 0 u) (m - 1) 0)=true then KasT.ret m else kas_asc (kas_rev P3 0 u) k (m+1))=_:=q3
     cases e:sh O.lt lo (IE (kas_rev P3 0 u) m 0) (IE (kas_rev P3 0 u) (m - 1) 0) with
     | true=>
      rw [e,if_pos rfl] at q3
      simp only [if_true]
      exact W.pure ⟨rfl,rfl,q3,q1,by show m<=nrem; lia⟩
     | false=>
      rw [e,if_neg Iv] at q3
      simp only [Iq,if_false]
      exact W.pure ⟨rfl,rfl,by show 1<=m+1; lia,by show m+1+k=nrem; lia,q3⟩
    ·rintro ⟨r,m⟩ b1 ⟨eb,er,q1,q2,q3⟩
     dsimp only at er q1 q2 q3
     exact ⟨eb,er,q3,q1,by show m<=nrem; lia⟩
    obtain ⟨r,z⟩:=c
    obtain ⟨eb,er,em,z1,z2⟩:=hc
    dsimp only at er em z1 z2 ⊢
    subst eb er
    rw [<-em] at h
    exact W.pure h
   ·rw [if_neg hv] at h ⊢
    have F3:=F'
    generalize P'=P3 at F3 h ⊢
    have e3:ev (sh O.lt lo) (kas_tail3 u nrem P3)=(ev (sh O.lt lo) (kas_asc (kas_rev P3 0 u) (nrem - u) u),kas_rev P3 0 u):=by
     unfold kas_tail3
     rw [dl]; rfl
    rw [e3] at h
    have F4:=F3.of (aS 0 u F3.perm)
    refine W.bind (W.revF (i:=0) F3 (by lia) ?_)
    refine W.bind (W.range (D:=λ c b1=>b1=abP lo pre pd mg (kas_rev P3 0 u)/\c.1=none/\c.2=ev (sh O.lt lo) (kas_asc (kas_rev P3 0 u) (nrem - u) u)/\1<=c.2/\c.2<=nrem) (λ k c b1=>b1=abP lo pre pd mg (kas_rev P3 0 u)/\c.1=none/\1<=c.2/\c.2+k=nrem/\ev (sh O.lt lo) (kas_asc (kas_rev P3 0 u) k c.2)=ev (sh O.lt lo) (kas_asc (kas_rev P3 0 u) (nrem - u) u)) ⟨rfl,rfl,by show 1<=u; lia,by show u+(nrem - u)=nrem; lia,rfl⟩ ?_ ?_ |>.mono λ c b1 hc=>?_)
    ·rintro x k ⟨r,m⟩ b1 ⟨eb,er,q1,q2,q3⟩
     dsimp only at er q1 q2 q3 ⊢
     subst eb er
     rw [show lo+m - 1=lo+(m - 1) by lia]
     refine W.bind (W.ltF F4 (by lia) (by lia) ?_)
     have q3:ev (sh O.lt lo) (if sh O.lt lo (IE (kas_rev P3 0 u) m 0) (IE (kas_rev P3 0 u) (m - 1) 0)=true then KasT.ret m else kas_asc (kas_rev P3 0 u) k (m+1))=_:=q3
     cases e:sh O.lt lo (IE (kas_rev P3 0 u) m 0) (IE (kas_rev P3 0 u) (m - 1) 0) with
     | true=>
      rw [e,if_pos rfl] at q3
      simp only [if_true]
      exact W.pure ⟨rfl,rfl,q3,q1,by show m<=nrem; lia⟩
     | false=>
      rw [e,if_neg Iv] at q3
      simp only [Iq,if_false]
      exact W.pure ⟨rfl,rfl,by show 1<=m+1; lia,by show m+1+k=nrem; lia,q3⟩
    ·rintro ⟨r,m⟩ b1 ⟨eb,er,q1,q2,q3⟩
     dsimp only at er q1 q2 q3
     exact ⟨eb,er,q3,q1,by show m<=nrem; lia⟩
    obtain ⟨r,z⟩:=c
    obtain ⟨eb,er,em,z1,z2⟩:=hc
    dsimp only at er em z1 z2 ⊢
    subst eb er
    rw [<-em] at h
    exact W.pure h
 ·rw [if_neg hm] at h ⊢
  have ed:ev (sh O.lt lo) (kas_descPart m nrem P)=(λ r:Array Nat×Nat×Nat=>ev (sh O.lt lo) (if r.2.2 > 0 then kas_tail3 r.2.1 nrem (kas_rev r.1 (r.2.1 - (r.2.2+1)) r.2.1) else kas_tail3 r.2.1 nrem r.1)) (ev (sh O.lt lo) (kas_desc (nrem - (m+1)) P (m+1) 0)):=by
   unfold kas_descPart
   rw [dl]
  rw [ed] at h
  clear ed
  refine W.bind (W.rule ?_)
  refine W.bind (W.range (D:=λ c b1=>c.1=none/\∃ P',b1=abP lo pre pd mg P'/\Fm O lo nrem pre P'/\(P',c.2.1,c.2.2)=ev (sh O.lt lo) (kas_desc (nrem - (m+1)) P (m+1) 0)/\c.2.2+1<=c.2.1/\c.2.1<=nrem) (λ k c b1=>c.1=none/\∃ P',b1=abP lo pre pd mg P'/\Fm O lo nrem pre P'/\ev (sh O.lt lo) (kas_desc k P' c.2.1 c.2.2)=ev (sh O.lt lo) (kas_desc (nrem - (m+1)) P (m+1) 0)/\c.2.2+1<=c.2.1/\c.2.1+k=nrem) ⟨rfl,_,rfl,F,rfl,by show 0+1<=m+1; lia,by show m+1+(nrem - (m+1))=nrem; lia⟩ ?_ ?_ |>.mono λ c b1 hc=>?_)
  ·rintro x k ⟨r,u,v⟩ b1 ⟨er,P',eb,F',q3,q1,q2⟩
   dsimp only at er q1 q2 q3 ⊢
   subst eb er
   rw [show lo+u - 1=lo+(u - 1) by lia,show lo+u - (v+1)=lo+(u - (v+1)) by lia]
   refine W.bind (W.ltF F' (by lia) (by lia) ?_)
   have q3:ev (sh O.lt lo) (if sh O.lt lo (P'.getD u 0) (P'.getD (u - 1) 0)=true then (if v > 0 then kas_desc k (kas_rev P' (u - (v+1)) u) (u+1) 0 else kas_desc k P' (u+1) 0) else KasT.ask (P'.getD (u - 1) 0) (P'.getD u 0) λ d=>if d=true then KasT.ret (P',u,v) else kas_desc k P' (u+1) (v+1))=_:=q3
   cases e:sh O.lt lo (P'.getD u 0) (P'.getD (u - 1) 0) with
   | true=>
    rw [e,if_pos rfl] at q3
    simp only [if_true]
    by_cases hv:v > 0
    ·rw [if_pos hv] at q3 ⊢
     exact W.bind (W.revF F' (by lia) (W.pure ⟨rfl,_,rfl,F'.of (aS _ _ F'.perm),q3,by show 0+1<=u+1; lia,by show u+1+k=nrem; lia⟩))
    ·rw [if_neg hv] at q3 ⊢
     exact W.pure ⟨rfl,_,rfl,F',q3,by show 0+1<=u+1; lia,by show u+1+k=nrem; lia⟩
   | false=>
    rw [e,if_neg Iv] at q3
    simp only [Iq,if_false]
    refine W.bind (W.ltF F' (by lia) (by lia) ?_)
    have q3:ev (sh O.lt lo) (if sh O.lt lo (P'.getD (u - 1) 0) (P'.getD u 0)=true then KasT.ret (P',u,v) else kas_desc k P' (u+1) (v+1))=_:=q3
    cases e2:sh O.lt lo (P'.getD (u - 1) 0) (P'.getD u 0) with
    | true=>
     rw [e2,if_pos rfl] at q3
     simp only [if_true]
     exact W.pure ⟨rfl,_,rfl,F',q3,q1,by show u<=nrem; lia⟩
    | false=>
     rw [e2,if_neg Iv] at q3
     simp only [Iq,if_false]
     exact W.pure ⟨rfl,_,rfl,F',q3,by show v+1+1<=u+1; lia,by show u+1+k=nrem; lia⟩
  ·rintro ⟨r,u,v⟩ b1 ⟨er,P',eb,F',q3,q1,q2⟩
   dsimp only at er q1 q2 q3
   exact ⟨er,P',eb,F',q3,q1,by show u<=nrem; lia⟩
  obtain ⟨r,u,v⟩:=c
  obtain ⟨er,P',eb,F',e9,q1,q2⟩:=hc
  dsimp only at er e9 q1 q2 ⊢
  subst eb er
  rw [<-e9] at h
  dsimp only at h ⊢
  rw [show lo+u - (v+1)=lo+(u - (v+1)) by lia]
  by_cases hv:v > 0
  ·rw [if_pos hv] at h ⊢
   refine W.bind (W.revF F' (by lia) ?_)
   have F3:=F'.of (aS (u - (v+1)) u F'.perm)
   generalize kas_rev P' (u - (v+1)) u=P3 at F3 h ⊢
   have e3:ev (sh O.lt lo) (kas_tail3 u nrem P3)=(ev (sh O.lt lo) (kas_asc (kas_rev P3 0 u) (nrem - u) u),kas_rev P3 0 u):=by
    unfold kas_tail3
    rw [dl]; rfl
   rw [e3] at h
   have F4:=F3.of (aS 0 u F3.perm)
   refine W.bind (W.revF (i:=0) F3 (by lia) ?_)
   refine W.bind (W.range (D:=λ c b1=>b1=abP lo pre pd mg (kas_rev P3 0 u)/\c.1=none/\c.2=ev (sh O.lt lo) (kas_asc (kas_rev P3 0 u) (nrem - u) u)/\1<=c.2/\c.2<=nrem) (λ k c b1=>b1=abP lo pre pd mg (kas_rev P3 0 u)/\c.1=none/\1<=c.2/\c.2+k=nrem/\ev (sh O.lt lo) (kas_asc (kas_rev P3 0 u) k c.2)=ev (sh O.lt lo) (kas_asc (kas_rev P3 0 u) (nrem - u) u)) ⟨rfl,rfl,by show 1<=u; lia,by show u+(nrem - u)=nrem; lia,rfl⟩ ?_ ?_ |>.mono λ c b1 hc=>?_)
   ·rintro x k ⟨r,m⟩ b1 ⟨eb,er,q1,q2,q3⟩
    dsimp only at er q1 q2 q3 ⊢
    subst eb er
    rw [show lo+m - 1=lo+(m - 1) by lia]
    refine W.bind (W.ltF F4 (by lia) (by lia) ?_)
    have q3:ev (sh O.lt lo) (if sh O.lt lo (IE (kas_rev P3 0 u) m 0) (IE (kas_rev P3 0 u) (m - 1) 0)=true then KasT.ret m else kas_asc (kas_rev P3 0 u) k (m+1))=_:=q3
    cases e:sh O.lt lo (IE (kas_rev P3 0 u) m 0) (IE (kas_rev P3 0 u) (m - 1) 0) with
    | true=>
     rw [e,if_pos rfl] at q3
     simp only [if_true]
     exact W.pure ⟨rfl,rfl,q3,q1,by show m<=nrem; lia⟩
    | false=>
     rw [e,if_neg Iv] at q3
     simp only [Iq,if_false]
     exact W.pure ⟨rfl,rfl,by show 1<=m+1; lia,by show m+1+k=nrem; lia,q3⟩
   ·rintro ⟨r,m⟩ b1 ⟨eb,er,q1,q2,q3⟩
    dsimp only at er q1 q2 q3
    exact ⟨eb,er,q3,q1,by show m<=nrem; lia⟩
   obtain ⟨r,z⟩:=c
   obtain ⟨eb,er,em,z1,z2⟩:=hc
   dsimp only at er em z1 z2 ⊢
   subst eb er
   rw [<-em] at h
   exact W.pure h
  ·rw [if_neg hv] at h ⊢
   have F3:=F'
   generalize P'=P3 at F3 h ⊢
   have e3:ev (sh O.lt lo) (kas_tail3 u nrem P3)=(ev (sh O.lt lo) (kas_asc (kas_rev P3 0 u) (nrem - u) u),kas_rev P3 0 u):=by
    unfold kas_tail3
    rw [dl]; rfl
   rw [e3] at h
   have F4:=F3.of (aS 0 u F3.perm)
   refine W.bind (W.revF (i:=0) F3 (by lia) ?_)
   refine W.bind (W.range (D:=λ c b1=>b1=abP lo pre pd mg (kas_rev P3 0 u)/\c.1=none/\c.2=ev (sh O.lt lo) (kas_asc (kas_rev P3 0 u) (nrem - u) u)/\1<=c.2/\c.2<=nrem) (λ k c b1=>b1=abP lo pre pd mg (kas_rev P3 0 u)/\c.1=none/\1<=c.2/\c.2+k=nrem/\ev (sh O.lt lo) (kas_asc (kas_rev P3 0 u) k c.2)=ev (sh O.lt lo) (kas_asc (kas_rev P3 0 u) (nrem - u) u)) ⟨rfl,rfl,by show 1<=u; lia,by show u+(nrem - u)=nrem; lia,rfl⟩ ?_ ?_ |>.mono λ c b1 hc=>?_)
   ·rintro x k ⟨r,m⟩ b1 ⟨eb,er,q1,q2,q3⟩
    dsimp only at er q1 q2 q3 ⊢
    subst eb er
    rw [show lo+m - 1=lo+(m - 1) by lia]
    refine W.bind (W.ltF F4 (by lia) (by lia) ?_)
    have q3:ev (sh O.lt lo) (if sh O.lt lo (IE (kas_rev P3 0 u) m 0) (IE (kas_rev P3 0 u) (m - 1) 0)=true then KasT.ret m else kas_asc (kas_rev P3 0 u) k (m+1))=_:=q3
    cases e:sh O.lt lo (IE (kas_rev P3 0 u) m 0) (IE (kas_rev P3 0 u) (m - 1) 0) with
    | true=>
     rw [e,if_pos rfl] at q3
     simp only [if_true]
     exact W.pure ⟨rfl,rfl,q3,q1,by show m<=nrem; lia⟩
    | false=>
     rw [e,if_neg Iv] at q3
     simp only [Iq,if_false]
     exact W.pure ⟨rfl,rfl,by show 1<=m+1; lia,by show m+1+k=nrem; lia,q3⟩
   ·rintro ⟨r,m⟩ b1 ⟨eb,er,q1,q2,q3⟩
    dsimp only at er q1 q2 q3
    exact ⟨eb,er,q3,q1,by show m<=nrem; lia⟩
   obtain ⟨r,z⟩:=c
   obtain ⟨eb,er,em,z1,z2⟩:=hc
   dsimp only at er em z1 z2 ⊢
   subst eb er
   rw [<-em] at h
   exact W.pure h
end
section
variable {O:Orc} {b:Ab} {lo n nrem:Nat} {pre:List Nat} {pd:Array (Nat×Nat×Nat)} {mg:Nat} {P:Array Nat}
theorem W.bin {ok:Nat} {Q:Bool->Ab->Prop} (H:Lt O.lt) (F:Fm O lo nrem pre P) (R:Rn nrem (sh O.lt lo) P ok) (h1:1<=ok) (hn:ok<=n) (hn2:n<=nrem) (h:∀ P',Fm O lo nrem pre P'->Rn nrem (sh O.lt lo) P' n->Q true (abP lo pre pd mg P')) :
  W O (binarySort' lo n ok) Q (abP lo pre pd mg P):=by
 have H':=H.sh lo
 rw [binarySort'_eq]
 rw [show max ok 1=ok by lia]
 refine W.bind (W.rangeV (D:=λ c b1=>c.1=none/\∃ P',b1=abP lo pre pd mg P'/\Fm O lo nrem pre P'/\Rn nrem (sh O.lt lo) P' n) (λ k c b1=>c.1=none/\∃ P',b1=abP lo pre pd mg P'/\Fm O lo nrem pre P'/\Rn nrem (sh O.lt lo) P' k) hn ⟨rfl,P,rfl,F,R⟩ ?_ ?_ |>.mono λ c b1 hc=>?_)
 ·rintro k ⟨r,u⟩ b1 hk1 hk2 ⟨er,P',eb,F',R'⟩
  dsimp only at er
  subst eb er
  have ek:P'.getD k 0=k:=R'.tl k (Im _) (by lia)
  refine W.bind (W.range (D:=λ c b1=>b1=abP lo pre pd mg P'/\c.1=none/\c.2.1<=k/\(∀ i,i<c.2.1->sh O.lt lo k (P'.getD i 0)=false)/\∀ i,c.2.1<=i->i<k->sh O.lt lo k (P'.getD i 0)=true)
   (λ j c b1=>b1=abP lo pre pd mg P'/\c.1=none/\c.2.1<=c.2.2/\c.2.2<=k/\c.2.2 - c.2.1<=j/\(∀ i,i<c.2.1->sh O.lt lo k (P'.getD i 0)=false)/\∀ i,c.2.2<=i->i<k->sh O.lt lo k (P'.getD i 0)=true)
   ⟨rfl,rfl,IZ _,Im _,by show k - 0<=k - 0; lia,λ i hi=>absurd hi (MD _),λ i h1 h2=>absurd h1 (by show ¬ k<=i; lia)⟩ ?_ ?_ |>.mono λ c b1 hc=>?_)
  ·rintro x j ⟨r,l,t⟩ b1 ⟨eb,er,q1,q2,q3,q4,q5⟩
   dsimp only at er q1 q2 q3 q4 q5 ⊢
   subst eb er
   by_cases c:l>=t
   ·rw [if_pos c]
    exact W.pure ⟨rfl,rfl,by show l<=k; lia,q4,λ i h1 h2=>q5 i (by have:l<=i:=h1; lia) h2⟩
   ·rw [if_neg c]
    refine W.bind (W.ltF F' (by lia) (by lia) ?_)
    rw [ek]
    cases e:sh O.lt lo k (P'.getD ((l+t) / 2) 0) with
    | true=>
     simp only [if_true]
     refine W.pure ⟨rfl,rfl,by show l<=(l+t) / 2; lia,by show (l+t) / 2<=k; lia,by show (l+t) / 2 - l<=j; lia,q4,λ i h1 h2=>?_⟩
     rcases JT (show (l+t) / 2<=i from h1) with z | z
     ·rw [<-z]; exact e
     ·exact oj H' e (R'.up.at H' z h2).1
    | false=>
     simp only [Iq,if_false]
     refine W.pure ⟨rfl,rfl,by show (l+t) / 2+1<=t; lia,q2,by show t - ((l+t) / 2+1)<=j; lia,λ i h1=>?_,q5⟩
     have h1:i<(l+t) / 2+1:=h1
     rcases Jt i ((l+t) / 2) with z | z
     ·exact H'.tr _ _ _ e (R'.up.at H' z (by lia)).1
     ·have:i=(l+t) / 2:=by lia
      rw [this]; exact e
  ·rintro ⟨r,l,t⟩ b1 ⟨eb,er,q1,q2,q3,q4,q5⟩
   dsimp only at er q1 q2 q3 q4 q5
   exact ⟨eb,er,by show l<=k; lia,q4,λ i h1 h2=>q5 i (by have:l<=i:=h1; lia) h2⟩
  ·obtain ⟨r,l,t⟩:=c
   obtain ⟨eb,er,q1,q4,q5⟩:=hc
   dsimp only at er q1 q4 q5 ⊢
   subst eb er
   exact W.bind (W.movF F' (by lia) q1 (W.pure ⟨rfl,_,rfl,F'.of (lw _ _ F'.perm),R'.put H' (by lia) q1 q4 q5⟩))
 ·rintro ⟨r,u⟩ b1 hc
  exact hc
 ·obtain ⟨r,u⟩:=c
  obtain ⟨er,P',eb,F',R'⟩:=hc
  dsimp only at er ⊢
  subst eb er
  exact W.pure (h P' F' R')
noncomputable def Gd (O:Orc):Nat->List (List Nat)->List (Nat×Nat×Nat)->Prop
 | _,[],[]=>True
 | s,r::rs,d::ds=>d.1=s/\d.2.1=r.length/\0<r.length/\r.Perm (II s r.length)/\r.Pairwise (Ah O.lt)/\Gd O (s+r.length) rs ds
 | _,_,_=>False
theorem Gd.len:∀ {s:Nat} {rs:List (List Nat)} {ds:List (Nat×Nat×Nat)},Gd O s rs ds->rs.length=ds.length
 | _,[],[],_=>rfl
 | _,_::_,_::_,h=>by rw [IU,IU,Gd.len h.2.2.2.2.2]
 | _,[],_::_,h=>h.elim
 | _,_::_,[],h=>h.elim
theorem Gd.app:∀ {s:Nat} {rs:List (List Nat)} {ds:List (Nat×Nat×Nat)} {rs':List (List Nat)} {ds':List (Nat×Nat×Nat)},Gd O s rs ds->Gd O (s+rs.flatten.length) rs' ds'->Gd O s (rs++rs') (ds++ds')
 | _,[],[],_,_,_,h=>by simpa using h
 | s,r::rs,d::ds,rs',ds',h,h'=>by
  refine ⟨h.1,h.2.1,h.2.2.1,h.2.2.2.1,h.2.2.2.2.1,Gd.app h.2.2.2.2.2 ?_⟩
  rw [JF,IM,<-M5] at h'
  exact h'
 | _,[],_::_,_,_,h,_=>h.elim
 | _,_::_,[],_,_,h,_=>h.elim
theorem Gd.cut:∀ {s:Nat} (rs:List (List Nat)) {ds:List (Nat×Nat×Nat)} {rs':List (List Nat)},Gd O s (rs++rs') ds->∃ da db,ds=da++db/\Gd O s rs da/\Gd O (s+rs.flatten.length) rs' db
 | s,[],ds,rs',h=>⟨[],ds,rfl,trivial,by simpa using h⟩
 | s,r::rs,[],rs',h=>h.elim
 | s,r::rs,d::ds,rs',h=>by
  obtain ⟨da,db,e,a,c⟩:=Gd.cut rs h.2.2.2.2.2
  refine ⟨d::da,db,by rw [e]; rfl,⟨h.1,h.2.1,h.2.2.1,h.2.2.2.1,h.2.2.2.2.1,a⟩,?_⟩
  rw [JF,IM,<-M5]; exact c
theorem Gd.pair {rs:List (List Nat)} {ds:List (Nat×Nat×Nat)} (h:Gd O 0 rs ds) (hi:i+1<rs.length):∃ A R1 R2 B pw pw2,rs=A++R1::R2::B/\A.length=i/\ds[i]? = some (A.flatten.length,R1.length,pw)/\ds[i+1]? = some (A.flatten.length+R1.length,R2.length,pw2)/\
  R1.Pairwise (Ah O.lt)/\R2.Pairwise (Ah O.lt)/\0<R1.length/\0<R2.length/\(∀ x∈R1,∀ y∈R2,x<y)/\
  ∀ M:List Nat,M.Perm (R1++R2)->M.Pairwise (Ah O.lt)->Gd O 0 (A++M::B) ((ds.set i (A.flatten.length,R1.length+R2.length,pw)).eraseIdx (i+1)):=by
 have e1:rs=rs.take i++rs[i]::rs[i+1]::rs.drop (i+2):=by
  have h1:=K1 (show i<rs.length by lia)
  have h2:=K1 hi
  have:rs.take i++rs.drop i=rs:=JH i rs
  rw [h1,h2] at this
  exact this.symm
 have hA:(rs.take i).length=i:=by rw [Jl]; lia
 generalize rs.take i=A at e1 hA
 generalize rs[i]=R1 at e1
 generalize rs[i+1]=R2 at e1
 generalize rs.drop (i+2)=B at e1
 subst e1
 obtain ⟨da,db,rfl,ga,gb⟩:=Gd.cut A h
 have hda:=ga.len
 rw [Kn] at gb
 match db,gb with
 | [],gb=>exact gb.elim
 | [_],gb=>exact gb.2.2.2.2.2.elim
 | (u,nu,pw)::(v,nv,pw2)::db,gb=>
  obtain ⟨x1,x2,x3,x4,x5,y1,y2,y3,y4,y5,gz⟩:=gb
  dsimp only at x1 x2 y1 y2
  subst x1 x2 y1 y2
  have la:da.length=i:=by lia
  refine ⟨A,R1,R2,B,pw,pw2,rfl,hA,?_,?_,x5,y5,x3,y3,λ x hx y hy=>?_,λ M hm hs=>?_⟩
  ·rw [IX (by lia),la,K7]; rfl
  ·rw [IX (by lia),la,show i+1 - i=1 by lia]; rfl
  ·have hx':=x4.mem_iff.mp hx
   have hy':=y4.mem_iff.mp hy
   rw [Kt] at hx' hy'
   lia
  ·have ml:M.length=R1.length+R2.length:=by rw [hm.length_eq,IM]
   have ed:((da++(A.flatten.length,R1.length,pw)::(A.flatten.length+R1.length,R2.length,pw2)::db).set i (A.flatten.length,R1.length+R2.length,pw)).eraseIdx (i+1)=da++(A.flatten.length,R1.length+R2.length,pw)::db:=by
    rw [List.set_append_right _ _ (by lia),la,K7,List.set_cons_zero,List.eraseIdx_append_of_length_le (by lia),la,show i+1 - i=1 by lia]
    rfl
   rw [ed]
   refine ga.app ⟨?_,ml.symm,by lia,?_,hs,?_⟩
   ·show _=0+A.flatten.length; lia
   ·rw [Kn,ml,<-M1]
    exact hm.trans (x4.append y4)
   ·rw [Kn,ml,<-M5]; exact gz
theorem Gd.below:∀ {s:Nat} {rs:List (List Nat)} {ds:List (Nat×Nat×Nat)},Gd O s rs ds->∀ x∈rs.flatten,x<s+rs.flatten.length
 | _,[],[],_,x,hx=>by simp at hx
 | s,r::rs,d::ds,h,x,hx=>by
  rw [JF] at hx ⊢
  rw [IM]
  rcases IN.mp hx with z | z
  ·have:=Kt.mp (h.2.2.2.1.mem_iff.mp z); lia
  ·have:=Gd.below h.2.2.2.2.2 x z; lia
 | _,[],_::_,h,_,_=>h.elim
 | _,_::_,[],h,_,_=>h.elim
theorem Gd.many:∀ {s:Nat} {rs:List (List Nat)} {ds:List (Nat×Nat×Nat)},Gd O s rs ds->rs.length<=rs.flatten.length
 | _,[],[],_=>Im _
 | s,r::rs,d::ds,h=>by
  have:=Gd.many h.2.2.2.2.2
  have:=h.2.2.1
  rw [JF,IM,IU]; lia
 | _,[],_::_,h=>h.elim
 | _,_::_,[],h=>h.elim
theorem Gd.pow {f:Nat×Nat×Nat->Nat×Nat×Nat} (hf:∀ d,(f d).1=d.1/\(f d).2.1=d.2.1):∀ {s:Nat} {rs:List (List Nat)} {ds:List (Nat×Nat×Nat)} (i:Nat),Gd O s rs ds->Gd O s rs (ds.modify i f)
 | _,[],[],i,_=>by simp; trivial
 | s,r::rs,d::ds,0,h=>by
  rw [List.modify_zero_cons]
  exact ⟨(hf d).1.trans h.1,(hf d).2.trans h.2.1,h.2.2⟩
 | s,r::rs,d::ds,i+1,h=>by
  rw [List.modify_succ_cons]
  exact ⟨h.1,h.2.1,h.2.2.1,h.2.2.2.1,h.2.2.2.2.1,Gd.pow hf i h.2.2.2.2.2⟩
 | _,[],_::_,_,h=>h.elim
 | _,_::_,[],_,h=>h.elim
theorem xO (lo n:Nat):(IC n).map (· + lo)=II lo n:=by
 have:(λ x:Nat=>x+lo)=λ x=>lo+x:=funext λ x=>Nk x lo
 rw [this,LC,List.map_add_range']; simp
theorem Rn.split (R:Rn nrem (sh O.lt lo) P n) (H:Lt O.lt):∃ r,P.toList.map (· + lo)=r++II (lo+n) (nrem - n)/\r.length=n/\r.Perm (II lo n)/\r.Pairwise (Ah O.lt):=by
 have Pm:=fL R.perm
 have ht:=R.top
 have hz:=Pm.sz
 have hr:II lo nrem=II lo n++II (lo+n) (nrem - n):=by rw [M1]; congr 1; lia
 have hp:(P.toList.map (· + lo)).Perm (II lo nrem):=by
  have h1:P.toList.Perm (IC nrem):=by simpa using LY.mp R.perm
  have h2:(IC nrem).map (· + lo)=II lo nrem:=xO lo nrem
  rw [<-h2]; exact h1.map _
 have hd:(P.toList.drop n).map (· + lo)=II (lo+n) (nrem - n):=by
  apply List.ext_getElem
  ·simp [hz]
  ·intro i h1 h2
   have hi:n+i<nrem:=by simp at h2; lia
   have:=R.tl (n+i) (by lia) hi
   have e:P.getD (n+i) 0=P.toList[n+i]'(by simp [hz]; exact hi):=by simp [IE,hz,hi]
   rw [e] at this
   rw [N7,NL,this,List.getElem_range']
   lia
 refine ⟨(P.toList.take n).map (· + lo),?_,by simp [hz]; lia,?_,?_⟩
 ·rw [<-hd,<-IL,JH]
 ·have:((P.toList.take n).map (· + lo)++II (lo+n) (nrem - n)).Perm (II lo n++II (lo+n) (nrem - n)):=by
   rw [<-hd,<-IL,JH,hd,<-hr]; exact hp
  exact (List.perm_append_right_iff _).mp this
 ·rw [JV]
  intro i j hi hj hij
  have hi':i<n:=by simp at hi; lia
  have hj':j<n:=by simp at hj; lia
  have:=R.up.at (H.sh lo) hij hj'
  have e1:P.getD i 0=P.toList[i]'(by simp [hz]; lia):=by simp [IE,hz,show i<nrem by lia]
  have e2:P.getD j 0=P.toList[j]'(by simp [hz]; lia):=by simp [IE,hz,show j<nrem by lia]
  rw [e1,e2] at this
  simp only [N7,NM]
  exact ⟨this.1,λ z=>Nat.add_lt_add_right (this.2 z) lo⟩
theorem W.runs {N:Nat} {Q:Unit->Ab->Prop} (H:Lt O.lt) (hN:O.N=N) (h2:2<=N) (h:∀ b':Ab,b'.p.toList.Perm (IC N)->b'.p.toList.Pairwise (Ah O.lt)->Q () b'):W O sortRuns' Q ⟨Iw (IC N),#[],7⟩:=by
 rw [sortRuns'_eq]
 refine W.bind (W.get ?_)
 have hz:(arrOf (Ab.st O ⟨Iw (IC N),#[],7⟩)).size=N:=by
  show ((Iw (IC N)).map (kas_item O.it)).size=N
  simp
 simp only [hz]
 generalize minRun' N N 0=mr
 have merge:∀ (rs:List (List Nat)) (suf:List Nat) (b1:Ab) (i:Nat),b1.p.toList=rs.flatten++suf->Gd O 0 rs b1.pd.toList->(∀ x∈suf,x<N)->rs.flatten.length<=N->i+1<rs.length->∀ (Q:Bool->Ab->Prop),
   (∀ (rs':List (List Nat)) (b2:Ab),b2.p.toList=rs'.flatten++suf->Gd O 0 rs' b2.pd.toList->rs'.flatten.length=rs.flatten.length->rs'.length+1=rs.length->Q true b2)->W O (mergeAt' i) Q b1:=by
  intro rs suf b1 i e g hs hl hi Q hQ
  obtain ⟨p1,d1,m1⟩:=b1
  dsimp only at e g
  obtain ⟨A,R1,R2,B,pw,pw2,rfl,hA,dd1,dd2,s1,s2,l1,l2,xy,mk⟩:=g.pair hi
  have e':p1.toList=A.flatten++(R1++(R2++(B.flatten++suf))):=by rw [e]; simp
  have bl:=g.below
  refine W.mAt (pre:=A.flatten) (R1:=R1) (R2:=R2) (suf:=B.flatten++suf) ⟨H,e',λ k hk=>?_,s1,s2,xy,l1,l2⟩ (by simpa using dd1) (by simpa using dd2) λ M p' mg' hm hs' ep=>?_
  ·have hk':k<p1.toList.length:=by simpa using hk
   have ek:p1.getD k 0=p1.toList[k]:=by simp [IE,hk]
   rw [ek,hN]
   have hmem:p1.toList[k]∈(A++R1::R2::B).flatten++suf:=by rw [<-e]; exact JK hk'
   rcases IN.mp hmem with z | z
   ·have:=bl _ z; lia
   ·exact hs _ z
  ·refine hQ (A++M::B) _ (by rw [ep]; simp) ?_ ?_ (by simp; lia)
   ·have:=mk M hm hs'
    have ex:((d1.setIfInBounds i (A.flatten.length,R1.length+R2.length,pw)).eraseIdxIfInBounds (i+1)).toList=(d1.toList.set i (A.flatten.length,R1.length+R2.length,pw)).eraseIdx (i+1):=by
     simp
    show Gd O 0 (A++M::B) ((d1.setIfInBounds i (A.flatten.length,R1.length+R2.length,pw)).eraseIdxIfInBounds (i+1)).toList
    rw [ex]; exact this
   ·have:=hm.length_eq
    simp only [List.flatten_append,JF,IM] at this ⊢
    lia
 refine W.bind (W.range (D:=λ c b1=>c.1=none/\c.2=N/\∃ rs:List (List Nat),b1.p.toList=rs.flatten++II c.2 (N - c.2)/\Gd O 0 rs b1.pd.toList/\rs.flatten.length=c.2) (λ k c b1=>c.1=none/\c.2<=N/\N<=c.2+k/\∃ rs:List (List Nat),b1.p.toList=rs.flatten++II c.2 (N - c.2)/\Gd O 0 rs b1.pd.toList/\rs.flatten.length=c.2) ⟨rfl,IZ _,by show N<=0+(N - 0); lia,[],by show (Iw (IC N)).toList=[]++II 0 (N - 0); simp [LC],by exact trivial,rfl⟩ ?_ ?_ |>.mono λ c b1 hc=>?_)
 rotate_left
 ·rintro ⟨r,lo⟩ b1 ⟨er,q1,q2,q3⟩
  dsimp only at er q1 q2 q3
  exact ⟨er,by show lo=N; lia,q3⟩
 ·obtain ⟨r,lo⟩:=c
  obtain ⟨er,q1,rs,e,g,hl⟩:=hc
  dsimp only at er q1 e g hl ⊢
  subst er q1
  rw [K7,List.range'_zero] at e
  have gm:=g.many
  refine W.bind (W.range (D:=λ c b2=>c.1=none/\∃ rs':List (List Nat),b2.p.toList=rs'.flatten++[]/\Gd O 0 rs' b2.pd.toList/\rs'.flatten.length=lo/\rs'.length<=1) (λ k c b2=>c.1=none/\∃ rs':List (List Nat),b2.p.toList=rs'.flatten++[]/\Gd O 0 rs' b2.pd.toList/\rs'.flatten.length=lo/\rs'.length<=k+1) ⟨rfl,rs,e,g,hl,by show rs.length<=lo - 0+1; lia⟩ ?_ ?_ |>.mono λ c b2 hc=>?_)
  ·rintro x k ⟨r,u⟩ b2 ⟨er,rs',e',g',hl',hk⟩
   dsimp only at er
   subst er
   refine W.bind (W.get ?_)
   have hp:pendingOf (Ab.st O b2)=b2.pd:=rfl
   simp only [hp]
   have hps:b2.pd.size=rs'.length:=by rw [g'.len]; simp
   by_cases c1:b2.pd.size<=1
   ·rw [if_pos c1]
    exact W.pure ⟨rfl,rs',e',g',hl',by lia⟩
   rw [if_neg c1]
   refine W.bind ?_
   refine merge rs' [] b2 _ e' g' (λ x hx=>nomatch hx) (by lia) ?_ _ λ rs2 b3 e3 g3 hl3 hk3=>?_
   ·(repeat' split)<;>lia
   simp only [Ka,Iq,if_false]
   exact W.pure ⟨rfl,rs2,e3,g3,by lia,by lia⟩
  ·rintro ⟨r,u⟩ b2 ⟨er,rs',e',g',hl',hk⟩
   exact ⟨er,rs',e',g',hl',by lia⟩
  ·obtain ⟨r,u⟩:=c
   obtain ⟨er,rs',e',g',hl',hk⟩:=hc
   dsimp only at er ⊢
   subst er
   dsimp only
   refine W.pure ?_
   match rs',hk with
   | [],_=>simp at hl'; lia
   | [r],_=>
    have ev1:b2.p.toList=r:=by rw [e']; simp
    have lr:r.length=lo:=by simpa using hl'
    match hd:b2.pd.toList,g' with
    | d::ds,g'=>
     have pr:=g'.2.2.2.1
     rw [lr] at pr
     refine h b2 (by rw [ev1,LC]; exact pr) (by rw [ev1]; exact g'.2.2.2.2.1)
 rintro x k ⟨r,lo⟩ b1 ⟨er,q1,q2,rs,e,g,hl⟩
 dsimp only at er q1 q2 e g hl ⊢
 subst er
 by_cases c0:lo>=N
 ·rw [if_pos c0]
  exact W.pure ⟨rfl,by show lo=N; lia,rs,e,g,hl⟩
 rw [if_neg c0]
 obtain ⟨p1,d1,m1⟩:=b1
 dsimp only at e g
 have F0:Fm O lo (N - lo) rs.flatten (Iw (IC (N - lo))):=⟨hl,λ x hx=>by have:=g.below x hx; rw [hN]; lia,by rw [hN]; lia,Oi _⟩
 have eb:(⟨p1,d1,m1⟩:Ab)=abP lo rs.flatten d1 m1 (Iw (IC (N - lo))):=by
  unfold abP
  congr 1
  apply JL.mp
  rw [e]
  have:(IC (N - lo)).map (· + lo)=II lo (N - lo):=xO lo (N - lo)
  simp [this]
 rw [eb]
 have HS:=H.sh lo
 obtain ⟨n1,R1⟩:=Sat.ev _ (tm (N:=N - lo) HS (by lia))
 refine W.bind (W.cnt F0 (by lia) ?_)
 generalize ev (sh O.lt lo) (kas_count (N - lo) (Iw (IC (N - lo))))=R at n1 R1 ⊢
 obtain ⟨n,P1⟩:=R
 dsimp only at n1 R1 ⊢
 have nt:=R1.top
 have F1:Fm O lo (N - lo) rs.flatten P1:=F0.of R1.perm
 by_cases c1:n<mr
 ·rw [if_pos c1]
  refine W.bind (W.rule ?_)
  refine W.bind (W.bin H F1 R1 n1 (show n<=min (N - lo) mr by lia) (by lia) λ P2 F2 R2=>?_)
  have n2:1<=min (N - lo) mr:=by lia
  have nt2:min (N - lo) mr<=N - lo:=by lia
  generalize min (N - lo) mr=n' at R2 n2 nt2 ⊢
  simp only [Ka,Iq,if_false]
  obtain ⟨r,er1,er2,er3,er4⟩:=R2.split H
  have hsuf:∀ x∈r++II (lo+n') (N - lo - n'),x<N:=λ x hx=>by
   rcases IN.mp hx with z | z
   ·have:=Kt.mp (er3.mem_iff.mp z); lia
   ·have:=Kt.mp z; lia
  have fin:∀ (rs2:List (List Nat)) (b2:Ab),b2.p.toList=rs2.flatten++(r++II (lo+n') (N - lo - n'))->Gd O 0 rs2 b2.pd.toList->rs2.flatten.length=lo->(λ c (b1:Ab)=>c.1=none/\c.2<=N/\N<=c.2+k/\∃ rs:List (List Nat),b1.p.toList=rs.flatten++II c.2 (N - c.2)/\Gd O 0 rs b1.pd.toList/\rs.flatten.length=c.2) ((none:Option PUnit),lo+n') { b2 with pd:=b2.pd.push (lo,n',0) }:=λ rs2 b2 e2 g2 l2=>by
   refine ⟨rfl,by show lo+n'<=N; lia,by show N<=lo+n'+k; lia,rs2++[r],?_,?_,?_⟩
   ·show b2.p.toList=_++II (lo+n') (N - (lo+n'))
    rw [e2,show N - (lo+n')=N - lo - n' by lia]; simp
   ·show Gd O 0 (rs2++[r]) (b2.pd.push (lo,n',0)).toList
    rw [Ld]
    refine g2.app ⟨by show lo=0+rs2.flatten.length; lia,by show n'=r.length; lia,by lia,?_,er4,trivial⟩
    rw [Kn,l2,er2]; exact er3
   ·show (rs2++[r]).flatten.length=lo+n'; simp at l2 ⊢; lia
  have e0:(abP lo rs.flatten d1 m1 P2).p.toList=rs.flatten++(r++II (lo+n') (N - lo - n')):=by rw [<-er1]; rfl
  refine W.bind (W.get ?_)
  have hp:pendingOf (Ab.st O (abP lo rs.flatten d1 m1 P2))=d1:=rfl
  simp only [hp]
  cases hb:d1.back? with
  | none=>
   dsimp only
   exact W.bind (W.modify { abP lo rs.flatten d1 m1 P2 with pd:=d1.push (lo,n',0) } rfl (W.pure (fin rs _ e0 g hl)))
  | some w9=>
   obtain ⟨u9,v9,z9⟩:=w9
   dsimp only
   generalize power' N (2*u9+v9) (2*u9+v9+v9+n') N=pw9
   refine W.bind (W.range (D:=λ c b2=>c.1=none/\∃ rs2:List (List Nat),b2.p.toList=rs2.flatten++(r++II (lo+n') (N - lo - n'))/\Gd O 0 rs2 b2.pd.toList/\rs2.flatten.length=lo) (λ k c b2=>c.1=none/\∃ rs2:List (List Nat),b2.p.toList=rs2.flatten++(r++II (lo+n') (N - lo - n'))/\Gd O 0 rs2 b2.pd.toList/\rs2.flatten.length=lo) ⟨rfl,rs,e0,g,hl⟩ ?_ ?_ |>.mono λ c b2 hc=>?_)
   ·rintro x k ⟨r2,u2⟩ b2 ⟨er,rs2,e2,g2,l2⟩
    dsimp only at er
    subst er
    refine W.bind (W.get ?_)
    have hp:pendingOf (Ab.st O b2)=b2.pd:=rfl
    simp only [hp]
    have hps:b2.pd.size=rs2.length:=by rw [g2.len]; simp
    cases ho:(if b2.pd.size > 1 then b2.pd[b2.pd.size - 2]? else none) with
    | none=>exact W.pure ⟨rfl,rs2,e2,g2,l2⟩
    | some w8=>
     obtain ⟨u8,v8,z8⟩:=w8
     dsimp only
     have hgt:b2.pd.size > 1:=by
      by_cases q:b2.pd.size > 1
      ·exact q
      ·rw [if_neg q] at ho; cases ho
     refine W.ite (λ _=>W.pure ⟨rfl,rs2,e2,g2,l2⟩) (λ _=>?_)
     refine W.bind (merge rs2 _ b2 _ e2 g2 hsuf (by lia) (by lia) _ λ rs3 b3 e3 g3 l3 k3=>?_)
     simp only [Ka,Iq,if_false]
     exact W.pure ⟨rfl,rs3,e3,g3,by lia⟩
   ·rintro ⟨r2,u2⟩ b2 hc
    exact hc
   ·obtain ⟨r2,u2⟩:=c
    obtain ⟨er,rs2,e2,g2,l2⟩:=hc
    dsimp only at er ⊢
    subst er
    dsimp only
    have g3:Gd O 0 rs2 (b2.pd.modify (b2.pd.size - 1) λ x=>(x.1,x.2.1,pw9)).toList:=by
     rw [M7]
     exact g2.pow (f:=λ x=>(x.1,x.2.1,pw9)) (λ d=>⟨rfl,rfl⟩) _
    refine W.bind (W.modify { b2 with pd:=b2.pd.modify (b2.pd.size - 1) λ x=>(x.1,x.2.1,pw9) } rfl ?_)
    exact W.bind (W.modify { b2 with pd:=(b2.pd.modify (b2.pd.size - 1) λ x=>(x.1,x.2.1,pw9)).push (lo,n',0) } rfl (W.pure (fin rs2 { b2 with pd:=b2.pd.modify (b2.pd.size - 1) λ x=>(x.1,x.2.1,pw9) } e2 g3 l2)))
 ·rw [if_neg c1]
  obtain ⟨r,er1,er2,er3,er4⟩:=R1.split H
  have hsuf:∀ x∈r++II (lo+n) (N - lo - n),x<N:=λ x hx=>by
   rcases IN.mp hx with z | z
   ·have:=Kt.mp (er3.mem_iff.mp z); lia
   ·have:=Kt.mp z; lia
  have fin:∀ (rs2:List (List Nat)) (b2:Ab),b2.p.toList=rs2.flatten++(r++II (lo+n) (N - lo - n))->Gd O 0 rs2 b2.pd.toList->rs2.flatten.length=lo->(λ c (b1:Ab)=>c.1=none/\c.2<=N/\N<=c.2+k/\∃ rs:List (List Nat),b1.p.toList=rs.flatten++II c.2 (N - c.2)/\Gd O 0 rs b1.pd.toList/\rs.flatten.length=c.2) ((none:Option PUnit),lo+n) { b2 with pd:=b2.pd.push (lo,n,0) }:=λ rs2 b2 e2 g2 l2=>by
   refine ⟨rfl,by show lo+n<=N; lia,by show N<=lo+n+k; lia,rs2++[r],?_,?_,?_⟩
   ·show b2.p.toList=_++II (lo+n) (N - (lo+n))
    rw [e2,show N - (lo+n)=N - lo - n by lia]; simp
   ·show Gd O 0 (rs2++[r]) (b2.pd.push (lo,n,0)).toList
    rw [Ld]
    refine g2.app ⟨by show lo=0+rs2.flatten.length; lia,by show n=r.length; lia,by lia,?_,er4,trivial⟩
    rw [Kn,l2,er2]; exact er3
   ·show (rs2++[r]).flatten.length=lo+n; simp at l2 ⊢; lia
  have e0:(abP lo rs.flatten d1 m1 P1).p.toList=rs.flatten++(r++II (lo+n) (N - lo - n)):=by rw [<-er1]; rfl
  refine W.bind (W.get ?_)
  have hp:pendingOf (Ab.st O (abP lo rs.flatten d1 m1 P1))=d1:=rfl
  simp only [hp]
  cases hb:d1.back? with
  | none=>
   dsimp only
   exact W.bind (W.modify { abP lo rs.flatten d1 m1 P1 with pd:=d1.push (lo,n,0) } rfl (W.pure (fin rs _ e0 g hl)))
  | some w9=>
   obtain ⟨u9,v9,z9⟩:=w9
   dsimp only
   generalize power' N (2*u9+v9) (2*u9+v9+v9+n) N=pw9
   refine W.bind (W.range (D:=λ c b2=>c.1=none/\∃ rs2:List (List Nat),b2.p.toList=rs2.flatten++(r++II (lo+n) (N - lo - n))/\Gd O 0 rs2 b2.pd.toList/\rs2.flatten.length=lo) (λ k c b2=>c.1=none/\∃ rs2:List (List Nat),b2.p.toList=rs2.flatten++(r++II (lo+n) (N - lo - n))/\Gd O 0 rs2 b2.pd.toList/\rs2.flatten.length=lo) ⟨rfl,rs,e0,g,hl⟩ ?_ ?_ |>.mono λ c b2 hc=>?_)
   ·rintro x k ⟨r2,u2⟩ b2 ⟨er,rs2,e2,g2,l2⟩
    dsimp only at er
    subst er
    refine W.bind (W.get ?_)
    have hp:pendingOf (Ab.st O b2)=b2.pd:=rfl
    simp only [hp]
    have hps:b2.pd.size=rs2.length:=by rw [g2.len]; simp
    cases ho:(if b2.pd.size > 1 then b2.pd[b2.pd.size - 2]? else none) with
    | none=>exact W.pure ⟨rfl,rs2,e2,g2,l2⟩
    | some w8=>
     obtain ⟨u8,v8,z8⟩:=w8
     dsimp only
     have hgt:b2.pd.size > 1:=by
      by_cases q:b2.pd.size > 1
      ·exact q
      ·rw [if_neg q] at ho; cases ho
     refine W.ite (λ _=>W.pure ⟨rfl,rs2,e2,g2,l2⟩) (λ _=>?_)
     refine W.bind (merge rs2 _ b2 _ e2 g2 hsuf (by lia) (by lia) _ λ rs3 b3 e3 g3 l3 k3=>?_)
     simp only [Ka,Iq,if_false]
     exact W.pure ⟨rfl,rs3,e3,g3,by lia⟩
   ·rintro ⟨r2,u2⟩ b2 hc
    exact hc
   ·obtain ⟨r2,u2⟩:=c
    obtain ⟨er,rs2,e2,g2,l2⟩:=hc
    dsimp only at er ⊢
    subst er
    dsimp only
    have g3:Gd O 0 rs2 (b2.pd.modify (b2.pd.size - 1) λ x=>(x.1,x.2.1,pw9)).toList:=by
     rw [M7]
     exact g2.pow (f:=λ x=>(x.1,x.2.1,pw9)) (λ d=>⟨rfl,rfl⟩) _
    refine W.bind (W.modify { b2 with pd:=b2.pd.modify (b2.pd.size - 1) λ x=>(x.1,x.2.1,pw9) } rfl ?_)
    exact W.bind (W.modify { b2 with pd:=(b2.pd.modify (b2.pd.size - 1) λ x=>(x.1,x.2.1,pw9)).push (lo,n,0) } rfl (W.pure (fin rs2 { b2 with pd:=b2.pd.modify (b2.pd.size - 1) λ x=>(x.1,x.2.1,pw9) } e2 g3 l2)))
end
end L2
namespace HT
open PySem PyProof.Rows PySem.W L2
theorem zG {prog:Program} {w:World} {A:Around} {E:Value->Shared->Prop} {s:Shared} {κ:SortKind} {lt:Nat->Nat->Bool} {ks:List Value} {I:Shared->Prop} (hl:ks.length=vs.length) (h2:2<=vs.length) (H:Lt lt) (hI:I s)
  (hc:∀ i j s',i<vs.length->j<vs.length->I s'->wpAny (model prog w) A (keyLt' κ (ks.getD i IW) (ks.getD j IW)) (λ b s''=>b=lt i j/\I s'') (λ _ _=>False) s') :
  wpAny (model prog w) A ((sortRuns').run (JG κ (ks.toArray.zip vs.toArray) #[] 7 none))
   (λ r s'=>∃ p:Array Nat,arrOf r.2=p.map (kas_item (ks.toArray.zip vs.toArray))/\failedOf r.2=none/\p.size=vs.length/\I s'/\p.toList.Perm (IC vs.length)/\p.toList.Pairwise (Ah lt)) E s:=by
 have hc':∀ i j s',i<vs.length->j<vs.length->I s'->kas_cmp prog w A κ (ks.toArray.zip vs.toArray) i j (λ b s''=>b=lt i j/\I s'') s':=λ i j s' hi hj hs=>by
  have:=hc i j s' hi hj hs
  rw [<-kat_ask_eq (prog:=prog) (w:=w) (A:=A) (κ:=κ) hl]
  exact this
 have run:=W.runs (O:=⟨prog,w,A,E,κ,ks.toArray.zip vs.toArray,vs.length,lt,I,hc'⟩) (N:=vs.length) (Q:=λ _ b'=>b'.p.toList.Perm (IC vs.length)/\b'.p.toList.Pairwise (Ah lt)) H rfl h2 (λ b' h1 h2=>⟨h1,h2⟩) s hI
 have est:JG κ (ks.toArray.zip vs.toArray) #[] 7 none=Ab.st ⟨prog,w,A,E,κ,ks.toArray.zip vs.toArray,vs.length,lt,I,hc'⟩ ⟨Iw (IC vs.length),#[],7⟩:=by
  have e:=kas_range (ks.toArray.zip vs.toArray)
  rw [show (ks.toArray.zip vs.toArray).size=vs.length by simp [hl]] at e
  show JG κ (ks.toArray.zip vs.toArray) #[] 7 none=JG κ ((Iw (IC vs.length)).map (kas_item (ks.toArray.zip vs.toArray))) #[] 7 none
  rw [e]
 rw [est]
 refine wpAny_mono run (λ r s' hr=>?_) λ _ _ z=>z
 obtain ⟨hi,b',eb,p1,p2⟩:=hr
 obtain ⟨u,st⟩:=r
 have eb:st=Ab.st _ b':=eb
 subst eb
 exact ⟨b'.p,rfl,rfl,by rw [<-Jx,p1.length_eq,Lc],hi,p1,p2⟩
section
variable {prog:Program} {w:World} {A:Around} {E:Value->Shared->Prop} {s:Shared}
theorem wn {R:Nat->Nat->Prop} (n:Nat) (h:n<2):(IC n).Pairwise R:=by
 match n,h with
 | 0,_=>exact .nil
 | 1,_=>exact List.pairwise_singleton _ _
theorem pv {fin:Bool} {Q:Bool->Shared->Prop}:∀ {xs ys:List Value} {ns ms:List Int},IntsAre xs ns->IntsAre ys ms->∀ (i:Nat) (b:Bool),fin=decide (ns.length<ms.length)->Q (bS ns ms) s->
  KatLex prog w A b fin Q (xs.zip ys) i s
 | _,_,_,_,.nil,.nil,i,b,e,h=>by subst e; exact h
 | _,_,_,_,.nil,.cons m u r,i,b,e,h=>by
  subst e; rw [NH]; refine kat_nil ?_; simpa using (show Q true s from h)
 | _,_,_,_,.cons n t r,.nil,i,b,e,h=>by
  subst e; rw [Nj]; refine kat_nil ?_; simpa using (show Q false s from h)
 | _,_,_,_,.cons n t r,.cons m u r',i,b,e,h=>by
  rw [KG]
  refine kat_cons (wpAny_eqBool_int ?_)
  rw [et] at h
  by_cases hn:n=m
  ·rw [if_pos hn] at h
   rw [show (n == m)=true by simp [hn]]
   exact kat_yes (pv r r' (i+1) b (by rw [e]; simp) h)
  ·rw [if_neg hn] at h
   rw [show (n == m)=false by simp [hn]]
   refine kat_no ?_
   cases (b && i == 0) with
   | true=>exact oneLt_int h
   | false=>exact kat_one _ _ (lt_int h)
theorem wo {x y:Addr} {its its2:Array Value} {ns ms:List Int} {b:Bool} {Q:Bool->Shared->Prop} (hx:IsTup s.heap x its) (hy:IsTup s.heap y its2) (hi:IntsAre its.toList ns) (hj:IntsAre its2.toList ms) (h:Q (bS ns ms) s) :
  wpAny (model prog w) A (keyLt' (tuples' b) (.ref x) (.ref y)) Q E s:=by
 obtain ⟨o,ho,hc,n,hd⟩:=id hx
 obtain ⟨o2,ho2,hc2,n2,hd2⟩:=id hy
 refine kat_lt ho hd ho2 hd2 (pv hi hj 0 b ?_ h)
 rw [<-hi.length,<-hj.length]; simp
theorem zH {x y:Addr} {its its2:Array Value} {ns ms:List Int} {Q:Bool->Shared->Prop} (hu:A.units<cLine) (hx:IsTup s.heap x its) (hy:IsTup s.heap y its2) (hi:IntsAre its.toList ns) (hj:IntsAre its2.toList ms) (h:Q (bS ns ms) s) :
  wpAny (model prog w) A (keyLt' oneType' (.ref x) (.ref y)) Q E s:=by
 obtain ⟨⟨cls,dd,data,sl⟩,ho,hc,n,hd⟩:=id hx
 obtain ⟨⟨cls2,dd2,data2,sl2⟩,ho2,hc2,n2,hd2⟩:=id hy
 simp only at hc hd hc2 hd2
 subst hc hd hc2 hd2
 rw [keyLt'_oneType,oneLt'_eq]
 simp only [if_true]
 refine wpAny_bind (wpAny_cRoomFor hu ?_)
 refine wpAny_bind (wpAny_callSpecialIfBound?_slot (T:="tuple") ⟨_,ho,rfl⟩ MU (call_meets MU ⟨_,ho,rfl⟩ PySem.F.entry_tuple_lt (PySem.F.args_tuple_lt_2 _ _) (li x y its its2 n n2 dd dd2 sl sl2 ns ms hi hj) ⟨ho,ho2,?_⟩))
 exact wpAny_truthy_bool h
theorem wq {Q:SortKind->Shared->Prop} (h2:2<=vs.length) (ht:∀ v∈vs,∃ a,v=.ref a/\IsTup s.heap a #[]) (h:Q oneType' s) :
  wpAny (model prog w) A (keyKind' vs.toArray) Q E s:=by
 obtain ⟨v₁,rest,rfl⟩:∃ v₁ rest,vs=v₁::rest:=by
  match vs,h2 with
  | v₁::rest,_=>exact ⟨v₁,rest,rfl⟩
 rw [kat_kind_eq,NO,map_eq_pure_bind]
 refine wpAny_bind (wpAny_bind (kas_mapM (r:=none) _ (λ v hv Q' hq=>?_) (wpAny_pure ?_)))
 ·obtain ⟨a,rfl,o,ho,hc,n,hd⟩:=ht v hv
  rw [kas_first_eq]
  refine wpAny_bind (Looks.here (show Looks (model prog w) s.heap (typeOf (.ref a)) o.cls from (Looks.ld ho).andThen .now) ?_)
  rw [hc,if_neg (by first | decide | simp)]
  refine wpAny_bind (listItems_at ho hd (wpAny_pure ?_))
  exact hq
 ·rw [if_neg (by simp),if_neg (by simp)]
  rw [oneTypeOnly'_eq,NO,map_eq_pure_bind]
  refine wpAny_bind (wpAny_bind (wpAny_bind (kas_mapM (r:=Ku "tuple") _ (λ v hv Q' hq=>?_) (wpAny_pure ?_))))
  ·obtain ⟨a,rfl,o,ho,hc,n,hd⟩:=ht v hv
   refine Looks.here (show Looks (model prog w) s.heap (typeOf (.ref a)) (Ku "tuple") from ?_) hq
   rw [<-hc]
   exact (Looks.ld ho).andThen .now
  ·have hall:((Mp (λ _=>Ku "tuple") (v₁::rest)).toArray.all λ x=>x == Ku "tuple")=true:=by
    simp only [List.all_toArray,List.all_map,Kz]
    intro _ _
    rfl
   have h0:(Mp (λ _=>Ku "tuple") (v₁::rest)).toArray[0]? = some (Ku "tuple"):=by simp
   rw [h0]
   simp only [hall,if_true]
   exact wpAny_pure (wpAny_pure h)
theorem tu:∀ {vs:List Value} {rss:List (List Int)},vs.length=rss.length->(∀ (i:Nat) v r,vs[i]? = some v->rss[i]? = some r->∃ a its,v=.ref a/\IsTup s.heap a its/\IntsAre its.toList r)->(∀ r∈rss,r≠[])->
  ∃ fs,KatTups s.heap vs fs/\fs.length=vs.length/\∀ f∈fs,∃ n t,f=KR n t
 | [],[],_,_,_=>⟨[],.nil,rfl,λ _ h=>nomatch h⟩
 | v::vs,r::rss,hl,h,hne=>by
  obtain ⟨fs,k1,k2,k3⟩:=tu (vs:=vs) (rss:=rss) (by simpa using hl) (λ i v r e1 e2=>h (i+1) v r (by simpa using e1) (by simpa using e2)) λ r hr=>hne r (.tail _ hr)
  obtain ⟨a,its,rfl,⟨o,ho,hc,n,hd⟩,hi⟩:=h 0 v r rfl rfl
  have hr:=hne r (.head _)
  obtain ⟨its'⟩:=its
  cases hi with
  | nil=>exact absurd rfl hr
  | cons m t hi'=>exact ⟨_::fs,KatTups.cons (f:=.int m t) ho hc hd (by simp) k1,by simp [k2],λ f hf=>(Io.mp hf).elim (λ e=>⟨m,t,e⟩) (k3 f)⟩
theorem tz {rss:List (List Int)} {Q:SortKind->Shared->Prop} (h2:2<=vs.length) (hl:vs.length=rss.length) (ht:∀ (i:Nat) v r,vs[i]? = some v->rss[i]? = some r->∃ a its,v=.ref a/\IsTup s.heap a its/\IntsAre its.toList r) (hne:∀ r∈rss,r≠[])
  (h:Q (tuples' true) s):wpAny (model prog w) A (keyKind' vs.toArray) Q E s:=by
 obtain ⟨fs,k1,k2,k3⟩:=tu hl ht hne
 refine kat_kind (T:=Ku "int") k1 (by lia) (λ v hv=>?_) rfl h
 obtain ⟨n,t,rfl⟩:=k3 v hv
 exact Looks.of_pure rfl
end
theorem qF (a:List Int):∀ b,bS a b=true->bS b a=false:=by
 induction a with
 | nil=>intro b h; cases b<;>first | rfl | cases h
 | cons x xs ih=>
  intro b h
  cases b with
  | nil=>cases h
  | cons y ys=>
   rw [et] at h ⊢
   by_cases e:x=y
   ·rw [if_pos e] at h; rw [if_pos e.symm]; exact ih ys h
   ·rw [if_neg e] at h; rw [if_neg (Jj e)]
    have:=of_decide_eq_true h
    exact decide_eq_false (by lia)
theorem tD (a:List Int):∀ b c,bS a b=false->bS b c=false->bS a c=false:=by
 induction a with
 | nil=>
  intro b c h1 h2
  cases b with
  | nil=>exact h2
  | cons y ys=>cases h1
 | cons x xs ih=>
  intro b c h1 h2
  cases c with
  | nil=>rfl
  | cons z zs=>
   cases b with
   | nil=>cases h2
   | cons y ys=>
    rw [et] at h1 h2 ⊢
    by_cases e:x=y
    ·subst e
     rw [if_pos rfl] at h1
     by_cases e2:x=z
     ·subst e2; rw [if_pos rfl] at h2 ⊢; exact ih ys zs h1 h2
     ·rw [if_neg e2] at h2 ⊢; exact h2
    ·rw [if_neg e] at h1
     have h1:=of_decide_eq_false h1
     by_cases e2:y=z
     ·subst e2; rw [if_neg e]; exact decide_eq_false h1
     ·rw [if_neg e2] at h2
      have h2:=of_decide_eq_false h2
      rw [if_neg (by lia)]; exact decide_eq_false (by lia)
theorem Cz (rss:List (List Int)):Lt (λ i j=>bS (rss.getD i []) (rss.getD j [])):=⟨λ i j h=>qF _ _ h,λ i j k h1 h2=>tD _ _ _ h1 h2⟩
end HT
namespace L2
open PySem PySem.Spec PyProof.Rows PySem.W
section
variable {X:Cx}
theorem my:∀ {rs:List Addr} {us:List Value},Vals (rs.map P0) us->us=rs.map IT
 | [],_,.nil=>rfl
 | _::_,_,.cons r t=>by
  rw [Jy,<-my t]
  cases r
  rfl
theorem px {f:Nat->V} {g:Nat->Value}:∀ {p:List Nat},(∀ i∈p,RelV (f i) (g i))->Vals (p.map f) (p.map g)
 | [],_=>.nil
 | i::p,h=>.cons (h i (.head _)) (px λ j hj=>h j (.tail _ hj))
end
section
variable {X:Cx}
end
end L2
namespace HT
open PySem PyProof.Rows PySem.W L2
section
variable {prog:Program} {w:World} {A:Around} {E:Value->Shared->Prop} {s:Shared}
end
theorem zI (ns:List Int):Lt (λ i j=>decide (ns.getD i 0<ns.getD j 0)):=⟨λ i j h=>by
 have:=of_decide_eq_true h
 exact decide_eq_false (by lia),λ i j k h1 h2=>by
 have a:=of_decide_eq_false h1
 have b:=of_decide_eq_false h2
 exact decide_eq_false (by lia)⟩
theorem on {ns:List Int} (h:IntsAre vs ns):∀ {i:Nat},i<vs.length->∃ t,vs.getD i IW=.int (ns.getD i 0) t:=by
 induction h with
 | nil=>intro i hi; cases hi
 | cons n t h ih=>
  intro i hi
  cases i with
  | zero=>exact ⟨t,rfl⟩
  | succ i=>
   obtain ⟨t',e⟩:=ih (i:=i) (by simpa using hi)
   exact ⟨t',by simpa using e⟩
end HT
namespace L2
open PySem PySem.Spec PyProof.Rows PySem.W
section
variable {X:Cx}
end
end L2
namespace L2
open PySem PySem.Spec PyProof.Rows
section
variable {X:Cx} {pins:List (Addr×Obj)} {σ:St} {H:Hp} {s:Shared}
end
section
variable {κ:Type} [DecidableEq κ]
end
section
variable {P:Program} {w:World} {H:Hp} {h:Heap} {a:Addr}
end
section
variable {X:Cx} {pins:List (Addr×Obj)} {σ:St} {H:Hp} {s:Shared} {a:Addr} {y v:V} {u r:Value} {o:Option V} {A:Around} {E:Value->Shared->Prop}
end
section
variable {X:Cx} {pins:List (Addr×Obj)} {σ:St} {H:Hp} {s:Shared} {a:Addr} {kvs:List (Key×V)} {k:Key} {u:Value} {A:Around} {E:Value->Shared->Prop}
end
section
variable {X:Cx} {o i e value:Expr} {pos pos' tpos:Pos} {td ty tv:TE}
end
section
variable {X:Cx} {pos:Pos}
end
section
variable {X:Cx} {pins:List (Addr×Obj)} {σ:St} {H:Hp} {s:Shared} {a:Addr} {y d:V} {u r:Value} {o:Option V} {A:Around} {E:Value->Shared->Prop}
end
section
variable {X:Cx} {o e f:Expr} {apos cpos:Pos} {td ty tx:TE}
end
section
variable {X:Cx} {pins:List (Addr×Obj)} {σ:St} {H:Hp} {s:Shared} {a:Addr} {kvs:List (Key×V)} {A:Around} {E:Value->Shared->Prop}
end
section
variable {X:Cx} {pins:List (Addr×Obj)} {σ:St} {H:Hp} {s:Shared} {a:Addr} {y:V} {u:Value} {A:Around} {E:Value->Shared->Prop}
end
section
variable {X:Cx} {o i value:Expr} {td ty tv:TE} {pos pos':Pos}
end
end L2
namespace HT
open PySem PyProof.Rows PySem.W L2
section
variable {prog:Program} {w:World} {A:Around} {E:Value->Shared->Prop} {s:Shared} {a kS:Addr} {vs ks:List Value} {e e1:Nat} {P:PySem.Fin->Shared->Prop}
noncomputable abbrev mz (h:Heap) (kS a:Addr) (out:Array Value):Heap:=(h.update kS (Jc λ _=>(#[]:Array Value))).update a (Jc λ _=>out)
theorem pz {st:SortSt} {out:Array Value} (hka:kS≠a) (hoA:s.heap.get? a=some (seqObj "list" #[] e1)) (hoK:s.heap.get? kS=some (seqObj "list" ks.toArray e)) (hkl:ks.length<1000) (hol:out.size<1000) (hout:(arrOf st).map (·.2)=out) (hfl:failedOf st=none)
  (h:P (.done (.ret .none)) { s with heap:=mz s.heap kS a out }):wpAny (model prog w) A (ksk_tail a false e1 (.ref kS) st) P E s:=by
 have s1:=KZ s.heap kS (Jc λ _=>(#[]:Array Value))
 have na1:(s.heap.update kS (Jc λ _=>(#[]:Array Value))).get? a=some (seqObj "list" #[] e1):=(s1.2 a hka.symm).trans hoA
 unfold ksk_tail
 rw [hout]
 simp only [Iq,if_false]
 refine wpAny_bind (listUpdate_at hoK rfl ?_ (by rw [IB,sizeLine_eq]; lia) (IZ _))
 refine wpAny_bind (wpAny_letGo ?_)
 refine wpAny_bind (seqEpoch_at na1 rfl ?_)
 refine wpAny_bind (listUpdate_at na1 rfl ?_ (IZ _) (by rw [sizeLine_eq]; lia))
 rw [hfl]
 simp only [bne_self_eq_false,Iq,if_false]
 exact wpAny_pure h
theorem zJ {κ:SortKind} {lt:Nat->Nat->Bool} (hka:kS≠a) (hoA:s.heap.get? a=some (seqObj "list" #[] e1)) (hoK:s.heap.get? kS=some (seqObj "list" ks.toArray e)) (hlen:ks.length=vs.length) (h64:vs.length<1000) (H:Lt lt)
  (hk:∀ (Q:SortKind->Shared->Prop),2<=vs.length->Q κ s->wpAny (model prog w) A (keyKind' ks.toArray) Q (λ _ _=>False) s)
  (hc:∀ i j (Q:Bool->Shared->Prop),i<vs.length->j<vs.length->Q (lt i j) s->wpAny (model prog w) A (keyLt' κ (ks.getD i IW) (ks.getD j IW)) Q (λ _ _=>False) s)
  (h:∀ p:List Nat,p.Perm (IC vs.length)->p.Pairwise (Ah lt)->P (.done (.ret .none)) { s with heap:=mz s.heap kS a (Iw (p.map λ i=>vs.getD i IW)) }) :
  wpAny (model prog w) A (ksk_end a false vs.toArray e1 (.ref kS) ks.toArray) P E s:=by
 unfold ksk_end
 simp only [Iq,if_false]
 have hsz:vs.toArray.size=vs.length:=by simp
 by_cases h2:vs.toArray.size<2
 ·rw [if_pos h2,if_pos h2]
  refine wpAny_bind (wpAny_pure ?_)
  rw [StateT.run_pure]
  refine wpAny_bind (wpAny_pure ?_)
  dsimp only
  have eo:(arrOf (JG general' (ks.toArray.zip vs.toArray) #[] 7 none)).map (·.2)=Iw ((IC vs.length).map λ i=>vs.getD i IW):=by
   have e:=kas_range (ks.toArray.zip vs.toArray)
   rw [show (ks.toArray.zip vs.toArray).size=vs.length by simp [hlen]] at e
   have:=kat_snds (st:=JG general' (ks.toArray.zip vs.toArray) #[] 7 none) (ks:=ks) (vs:=vs) hlen e.symm
   simpa using this
  exact pz (st:=JG general' (ks.toArray.zip vs.toArray) #[] 7 none) hka hoA hoK (by lia) (by simp; lia) eo rfl (h (IC vs.length) (MP _) (wn _ (by lia)))
 ·rw [if_neg h2,if_neg h2]
  refine wpAny_bind (wpAny_mono (hk (λ κ' s'=>κ'=κ/\s'=s) (by lia) ⟨rfl,rfl⟩) (λ κ' s' hh=>?_) λ _ _ x=>x.elim)
  obtain ⟨rfl,rfl⟩:=hh
  refine wpAny_bind (wpAny_mono (zG (ks:=ks) (vs:=vs) (I:=λ s''=>s''=s') hlen (by lia) H rfl (λ i j s'' hi hj es=>by subst es; exact hc i j _ hi hj ⟨rfl,rfl⟩)) ?_ λ _ _ e=>e)
  rintro ⟨⟨⟩,st'⟩ s'' ⟨p,har,hf,hp,rfl,q1,q2⟩
  dsimp only
  exact pz hka hoA hoK (by lia) (by rw [IB,Ir,Jx,hp]; exact h64) (kat_snds hlen har) hf (h p.toList q1 q2)
theorem wt {f:Value} (J:Nat->List Value->Shared->Prop) (h0:J 0 [] s) (h64:vs.length<1000)
  (step:∀ i x ks s,vs[i]? = some x->J i ks s->ks.length=i/\wpAny (model prog w) A (call f [x]) (λ k s'=>∃ e,s'.heap.get? kS=some (seqObj "list" ks.toArray e)/\J (i+1) (ks++[k]) { s' with heap:=s'.heap.update kS (Jc (·.push k)) }) (λ _ _=>False) s)
  (done:∀ ks s,J vs.length ks s->∃ e,s.heap.get? kS=some (seqObj "list" ks.toArray e)/\wpAny (model prog w) A (ksk_end a false vs.toArray e1 (.ref kS) ks.toArray) P E s) :
  wpAny (model prog w) A (ksk_rest a f false vs.toArray e1 (.ref kS)) P E s:=by
 unfold ksk_rest
 refine wpAny_bind (wpAny_rule ?_)
 first
  | rw [List.forIn_toArray]
  | (rw [<-No]; simp only [List.toList_toArray])
  | rw [<-No]
 refine wpAny_bind (ksk_fold (λ i s'=>∃ ks,J i ks s') vs 0 s ⟨[],h0⟩ ?step ?done)
 case step=>
  rintro j x s' hx ⟨ks,hJ⟩
  rw [Kn] at hJ ⊢
  obtain ⟨hkl,hcall⟩:=step j x ks s' hx hJ
  have hj:j<vs.length:=(IK.mp hx).1
  refine wpAny_bind (wpAny_attempt (wpAny_mono hcall (λ k s'' he=>?_) λ _ _ hF=>hF.elim))
  obtain ⟨e,hk,hJ'⟩:=he
  try dsimp only
  refine wpAny_bind (listUpdate_at hk rfl ?_ (by rw [IB,sizeLine_eq]; lia) (Js (Ju (Array.size_push ..)) (by rw [IB,sizeLine_eq]; lia)))
  exact wpAny_pure ⟨rfl,_,hJ'⟩
 case done=>
  rintro s' ⟨ks,hJ⟩
  rw [Kn] at hJ
  obtain ⟨e,hk,hd⟩:=done ks s' hJ
  try dsimp only
  exact wpAny_bind (listItems_at hk rfl hd)
theorem wu {f:Value} (ho:s.heap.get? a=some (seqObj "list" vs.toArray n)) (h64:vs.length<1000)
  (h:∀ (h':Heap) (kS:Addr) (e1:Nat),(∀ b o,b≠a->s.heap.get? b=some o->h'.get? b=some o)->s.heap.objs.size<=kS->h'.get? kS=some (seqObj "list" #[] 0)->h'.get? a=some (seqObj "list" #[] e1)->(∀ b,s.heap.objs.size<=b->b<h'.objs.size->True)->
   wpAny (model prog w) A (ksk_rest a f false vs.toArray e1 (.ref kS)) P E { s with heap:=h' }) :
  wpAny (model prog w) A (ksk_tree a f false) P E s:=by
 have ha:a<s.heap.objs.size:=Ip ho
 have s1:=KZ s.heap a (Jc λ _=>(#[]:Array Value))
 obtain ⟨e1,ho1⟩:∃ e1,(s.heap.update a (Jc λ _=>(#[]:Array Value))).get? a=some (seqObj "list" #[] e1):=⟨_,get?_update_seq ho λ _=>#[]⟩
 have hkS:((s.heap.update a (Jc λ _=>(#[]:Array Value))).push (seqObj "tuple" vs.toArray 0)).objs.size=s.heap.objs.size+1:=by rw [size_push',Heap.size_update]
 unfold ksk_tree
 refine wpAny_bind (listItems_at ho rfl ?_)
 refine wpAny_bind (listUpdate_at ho rfl ?_ (by rw [IB,sizeLine_eq]; lia) (IZ _))
 refine wpAny_bind (seqEpoch_at ho1 rfl ?_)
 refine wpAny_bind (wpAny_newTuple ?_ (by show vs.length<=_; rw [sizeLine_eq]; lia))
 refine wpAny_bind (wpAny_newList ?_ (IZ _))
 refine wpAny_holding ?_
 refine h (((s.heap.update a (Jc λ _=>(#[]:Array Value))).push (seqObj "tuple" vs.toArray 0)).push (seqObj "list" #[] 0)) _ e1 (λ b o hb e=>?_) (by rw [hkS]; lia) (Iz _ rfl) (Ij _ (Ij _ ho1)) (λ _ _ _=>trivial)
 exact Ij _ (Ij _ ((s1.2 b hb).trans e))
theorem qG {q:Addr} {G:List Value->Prop} (h64:∀ vs,G vs->vs.length<1000)
  (hcol:∀ (Q:List Value->Shared->Prop),(∀ vs h1 tk,G vs->(∀ b o,s.heap.get? b=some o->h1.get? b=some o)->Q vs { s with heap:=h1,toks:=tk })->wpAny (model prog w) A.in1 (collect (.ref l)) Q (λ _ _=>False) s)
  (h:∀ (vs:List Value) (h1 h':Heap) (tk:Nat) (a kS:Addr) (e1:Nat),G vs->(∀ b o,s.heap.get? b=some o->h1.get? b=some o)->(∀ b o,h1.get? b=some o->h'.get? b=some o)->h1.objs.size<=a->a<kS->h'.get? kS=some (seqObj "list" #[] 0)->h'.get? a=some (seqObj "list" #[] e1)->
   wpAny (model prog w) A.in1.in1 (ksk_rest a (.ref q) false vs.toArray e1 (.ref kS)) (λ r s'=>r=.done (.ret .none)/\Q (.ref a) s') (λ _ _=>False) { s with heap:=h',toks:=tk }) :
  wpAny (model prog w) A (call (.builtin "sorted") [.ref l] [(Ko "key",.ref q)]) Q E s:=by
 refine call_function_entry_kw kind_sorted plain_sorted entry_sorted (ksk_s1 _ _) ?_
 unfold Builtin.«sorted»
 refine wpAny_bind (m:=checkCount "sorted" 1 1 _) (wpAny_pure ?_)
 refine wpAny_bind (wpAny_mono (hcol _ λ vs h1 tk g1 k1=>?_) (λ _ _ x=>x) λ _ _ x=>x.elim)
 have h64:=h64 vs g1
 refine wpAny_bind (wpAny_newList ?_ (by rw [sizeLine_eq]; lia))
 have hoL:(h1.push (seqObj "list" vs.toArray 0)).get? h1.objs.size=some (seqObj "list" vs.toArray 0):=Iz _ rfl
 show wpAny _ _ _ _ _ { s with heap:=h1.push (seqObj "list" vs.toArray 0),toks:=tk }
 refine wpAny_bind (wpAny_holding (wpAny_call_entry_kw slot_list_sort ⟨_,hoL,rfl⟩ entry_list_sort ?body (ksk_l1 _ _)))
 case body=>
  show wpAny (model prog w) A.in1.in1 (Builtin.«list.sort» ⟨[.ref h1.objs.size],[(Ko "key",.ref q)]⟩) _ _ _
  rw [ksk_t1]
  refine wu (s:={ s with heap:=h1.push (seqObj "list" vs.toArray 0),toks:=tk }) hoL h64 λ h' kS e1 k2 hk1 hk2 hk3 _=>?_
  have hlt:h1.objs.size<kS:=by
   have:=hk1
   rw [show ({ s with heap:=h1.push (seqObj "list" vs.toArray 0),toks:=tk }:Shared).heap.objs.size=h1.objs.size+1 from size_push' ..] at this
   lia
  refine wpAny_mono (h vs h1 h' tk h1.objs.size kS e1 g1 k1 (λ b o e=>k2 b o (Iy (Ip e)) (Ij _ e)) (Im _) hlt hk2 hk3) (λ r s' hr=>?_) λ _ _ x=>x.elim
  obtain ⟨rfl,hq⟩:=hr
  exact ⟨_,rfl,wpAny_pure ⟨_,rfl,hq⟩⟩
theorem lx {r:Addr} {x b c:Int} {t u v:Tok} {Q:List Value->Shared->Prop} (hh:A.handled=none) (hr:IsRange s.heap r x b c t u v) (hsmall:Pu x b c=true) (hn:Mu x b c=n) (hlen:n<=2 ^ 24)
  (hQ:∀ h' tk (acc:Array Value),(∀ b o,s.heap.get? b=some o->h'.get? b=some o)->ItemsOf (λ i v=>∃ t,v=.int (x+i*c) t) acc n->Q acc.toList { s with heap:=h',toks:=tk }) :
  wpAny (model prog w) A (collect (.ref r)) Q E s:=by
 unfold collect
 refine wpAny_bind (wpAny_runValue (codeAny_builtin PySem.F.entry_proto_collect ?_))
 rw [KW PySem.F.plain_proto_collect _]
 show wpAny _ A.in1 (newList [] >>= λ l=>again (.builtin "list.__iadd__" ⟨[l,.ref r],[]⟩)) _ _ s
 refine wpAny_bind (wpAny_newObj_type ?_)
 refine wpAny_pure ⟨plainId_quiet Mx _,codeAny_builtin PySem.F.entry_list_iadd ?_⟩
 rw [KW Mx _]
 show wpAny _ A.in1 (OA (.ref s.heap.objs.size) (.ref r) (.ref s.heap.objs.size)) _ _ _
 have hS:(s.heap.push { cls:=.type "list",data:=.seq ([]:List Value).toArray }).get? s.heap.objs.size=some { cls:=.type "list",data:=.seq #[] 0 }:=Iz _ rfl
 refine wpAny_mono (wpAny_extend_range (A:=A) (s:={ s with heap:=s.heap.push { cls:=.type "list",data:=.seq ([]:List Value).toArray } }) (R:=λ r' s'=>r'=.ok (.ret (.ref s.heap.objs.size))/\∃ h' tk acc c',s'={ s with heap:=h',toks:=tk }/\(∀ b o,s.heap.get? b=some o->h'.get? b=some o)/\h'.get? s.heap.objs.size=some { cls:=.type "list",dict:=none,data:=.seq acc c',slots:=#[] }/\ItemsOf (λ i v=>∃ t,v=.int (x+i*c) t) acc n)
  hh (Ij _ hr) hsmall hn hlen s.heap.objs.size _ 0 hS λ h' tk acc c' k g i=>⟨rfl,h',tk,acc,c',rfl,λ b o e=>k b o (Iy (Ip e)) (Ij _ e),g,i⟩) (λ fin s' hf=>?_) (λ e s' hf=>?_)
 ·have fin':∀ s',(∃ h' tk acc c',s'={ s with heap:=h',toks:=tk }/\(∀ b o,s.heap.get? b=some o->h'.get? b=some o)/\h'.get? s.heap.objs.size=some { cls:=.type "list",dict:=none,data:=.seq acc c',slots:=#[] }/\ItemsOf (λ i v=>∃ t,v=.int (x+i*c) t) acc n)->
   wpAny (model prog w) A (match IT s.heap.objs.size with
   | IT a=>do
    match (<-load a).data with
     | Data.seq xs _=>pure xs.toList
     | _=>unsupported "internal:collect"
   | _=>unsupported "internal:collect") Q E s':=by
   rintro s' ⟨h',tk,acc,c',rfl,k,g,i⟩
   show wpAny _ A (load s.heap.objs.size >>= _) _ _ _
   exact wpAny_bind (wpAny_load g (wpAny_pure (hQ h' tk acc k i)))
  cases fin with
  | done f=>
   obtain ⟨e,hx⟩:=hf
   cases e
   exact fin' _ hx
  | again c'=>exact ⟨hf.1,codeAny_mono hf.2 λ r' s'' hr=>by obtain ⟨rfl,hx⟩:=hr; exact fin' _ hx⟩
 ·exact absurd hf.1 (by simp)
end
end HT
namespace L2
open PySem PySem.Spec PyProof.Rows PySem.W
noncomputable def tE (X:Cx) (N:List Str) (qual:Str) (scope:Scope) (f c':Addr) (cl:List (Str×Addr)) (A:Around) (C:Addr) (s:Shared) (H:Hp):Cx:=
 { X with A:=A.deeper (envX qual scope C f (.ref c') cl),N:=N,s₀:=s,H₀:=H,env:=envX qual scope C f (.ref c') cl,outer:=X.stack,stack:=envX qual scope C f (.ref c') cl::X.stack,ex:=[],fn:=λ _=>false,calm:=true,pn:=[],xe:=λ _ _=>False }
noncomputable def FlOk (X:Cx) (scope:Scope) (cl:List (Str×Addr)):List Str->Prop
 | []=>True
 | x::r=>(X.env.kindOf x=some .cell/\scope.names.lookup x=some .free/\∃ c,cl.lookup x=some c/\X.env.cells.lookup x=some c)/\FlOk X scope cl r
theorem FlOk.mem {X:Cx} {scope:Scope} {cl:List (Str×Addr)}:∀ {l:List Str},FlOk X scope cl l->∀ x∈l,
  X.env.kindOf x=some .cell/\scope.names.lookup x=some .free/\∃ c,cl.lookup x=some c/\X.env.cells.lookup x=some c
 | [],_,_,h=>nomatch h
 | y::r,⟨h1,h2⟩,x,h=>by
  rcases Io.mp h with e | e
  ·subst e; exact h1
  ·exact FlOk.mem h2 x e
structure LamOk (X:Cx) (N:List Str) (x:Str) (frs:List Str) (ix:List Nat) (scope:Scope) (cl:List (Str×Addr)):Prop where
 clos:closureFor scope X.env=pure cl
 cell:∀ y∈scope.names,y.2≠.cell
 kind:scope.kind=.function
 par:scope.names.lookup x=some .local
 nm:N=x::frs
 ixs:ix.map (X.N[·]?)=frs.map some
 fr:FlOk X scope cl frs
 cls:ClOk X cl
 has:scope.names.all (λ p=>!(p.2 == .cell || p.2 == .free) || (cl.lookup p.1).isSome)=true
 co:scope.isCoroutine=false
 gen:scope.isGenerator=false
noncomputable def tF (ix:List Nat) (σ:St) (v:V):St:=some v::ix.map λ j=>(σ[j]?).getD none
section
variable {X:Cx} {N frs:List Str} {x qual:Str} {ix:List Nat} {scope:Scope} {cl:List (Str×Addr)} {A:Around} {f c' C:Addr}
theorem LamOk.hasOf (c:LamOk X N x frs ix scope cl) (h:scope.names.lookup y=some .cell\/scope.names.lookup y=some .free):∃ a,cl.lookup y=some a:=by
 have all:=Kz.mp c.has
 rcases h with h | h
 ·have q:=all _ (eC h)
  exact JJ.mp (by simpa only [beq_self_eq_true,Nl,Ka,Lj] using q)
 ·have q:=all _ (eC h)
  exact JJ.mp (by simpa only [beq_self_eq_true,Mo,Ka,Lj] using q)
theorem zK {H:Hp} {s:Shared} {h1:Heap} {m:Str->Option Value} (c:LamOk X N x frs ix scope cl) (I:Inv X pins σ H s) (hA:A.frames=some X.stack) (hh:A.handled=none)
  (hC:s.heap.objs.size<=C) (hns:h1.Ns C m) (hm:m x=some u) (r:RelV v u) (hk:∀ b o,s.heap.get? b=some o->h1.get? b=some o) :
  Inv (tE X N qual scope f c' cl A C s H) [] (tF ix σ v) H { s with heap:=h1,toks:=tk }:=by
 have hcn:∀ x a,cl.lookup x=some a->X.env.cells.lookup x=some a:=c.cls.get
 refine ⟨⟨I.ok.mod,c.kind,rfl,rfl,hC,λ x y a h1 h2=>I.ok.inj x y a (hcn _ _ h1) (hcn _ _ h2),λ x hx=>c.hasOf hx,(λ x a z _=>Bool.noConfusion z),λ _=>hh,?_,.inr ⟨rfl,rfl⟩,λ b hb=>(by cases hb),I.bs,Js I.ok.bsz I.sz,λ b o e hb=>(by cases hb),λ b hb z=>(by cases hb),I.stack,I.stkFree⟩,
  rfl,I.bare,Un.kept hk,⟨m,hns,λ i y w e1 e2 e3=>?_⟩,λ x a e=>?_,I.hok.fresh hC,λ x a e=>I.freeC x a (hcn x a e),λ p hp=>(by cases hp),I.hok.kept hk,?_⟩
 ·show (A.deeper _).frames=some _
  simp only [Around.deeper,hA]
  rfl
 ·rw [show (tE X N qual scope f c' cl A C s H).N=x::frs from c.nm] at e1
  match i,e1,e2 with
  | 0,e1,e2=>
   cases e1; cases e2
   exact ⟨u,r,.inl ⟨c.par,hm⟩⟩
  | i+1,e1,e2=>
   have e1:frs[i]? = some y:=by simpa using e1
   have e2:(ix.map λ j=>(σ[j]?).getD none)[i]? = some (some w):=e2
   have hy:y∈frs:=JO e1
   obtain ⟨k1,k2,a,l1,l2⟩:=c.fr.mem y hy
   have e:=congrArg (·[i]?) c.ixs
   simp only [Ji,e1] at e
   rw [Ji] at e2
   cases q:ix[i]? with
   | none=>rw [q] at e; cases e
   | some j=>
    rw [q] at e e2
    simp only [Ls,NJ] at e e2
    have n2:σ[j]? = some (some w):=by
     cases z:σ[j]? with
     | none=>rw [z] at e2; cases e2
     | some o=>rw [z] at e2; simp at e2; rw [e2]
    obtain ⟨m',_,hl⟩:=I.loc
    obtain ⟨u',r',l⟩:=hl j y w e n2 (.inr (.inl k1))
    refine ⟨u',r',.inr ⟨.inr k2,a,l1,?_⟩⟩
    rcases l with ⟨l,_⟩ | ⟨_,a',l3,o,l4,l5⟩
    ·rw [k1] at l; cases l
    ·rw [l2] at l3; cases l3
     exact ⟨o,hk _ _ l4,l5⟩
 ·obtain ⟨v,o,q1,q2⟩:=I.cell x a (hcn x a e)
  exact ⟨v,o,hk _ _ q1,q2⟩
 ·show (tF ix σ v).length=N.length
  unfold tF
  have e:=congrArg NV c.ixs
  simp only [Ir] at e
  rw [c.nm]; simp [e]
theorem wv {H:Hp} {s:Shared} {params:Arguments} {body:Expr} {pm ctv:Value} {Q:VK} (c:LamOk X N x frs ix scope cl) (I:Inv X pins σ H s) (hA:A.frames=some X.stack) (hh:A.handled=none) (hroom:A.depth<recursionLimit)
  (hf:s.heap.get? f=some (kla_obj name qual params body scope cl pm c' ctv)) (hcd:s.heap.CodeRec (.ref c') qual) (hbind:bindArgs (kla_fn name qual params body scope cl pm (.ref c') ctv) ⟨[u],[]⟩=pure [(x,u)]) (r:RelV v u)
  (he:∀ C s H,PE (tE X N qual scope f c' cl A C s H) body te) (q:te (tF ix σ v) H Q):wpAny (model X.prog X.w) A (call (.ref f) [u]) (EP X pins σ Q) (λ _ _=>False) s:=by
 refine wpAny_call (codeAny_mono (R:=λ r s'=>match r with
  | .ok (.ret u)=>CE X.stack X.prog X.w H s Q u s'
  | _=>False) (kla_callFunE hroom hf rfl c.co c.gen rfl hcd ?_) λ r s' hr=>?_)
 ·rw [hbind]
  refine wpAny_pure (wpAny_newFunctionEnv c.cell (λ y hy=>by rw [Jv.mp hy]; exact c.par) (λ h₁ hns hsb=>⟨(I.nolimit).fresh _ hsb,?_⟩) c.kind)
  have hk₁:∀ b o,s.heap.get? b=some o->h₁.get? b=some o:=λ b o e=>hsb.extBut b o (Iy (Ip e)) (Ij _ e)
  show codeAny _ _ (.expr body (envX qual scope s.heap.objs.size f (.ref c') cl)) _ _
  have I1:=zK (qual:=qual) (f:=f) (c':=c') (tk:=s.toks+[(x,u)].length) c I hA hh (Im _) hns (by show ([(x,u)].reverse).lookup x=some u; simp) r hk₁
  refine kla_codeExpr (wpAny_mono (he _ _ _ [] _ _ H Q I1 q) (λ w s' hs=>?_) λ _ _ z=>(by exact z.elim))
  obtain ⟨y,H',J,rv,hq⟩:=hs
  exact ⟨y,H',J.os,J.bare,J.base,J.hok,rv,hq⟩
 ·match r,hr with
  | .ok (.ret u'),hr=>exact I.after hr
end
noncomputable def oo (c':Addr) (qual:Str):HO:=.ext λ h=>h.CodeRec (.ref c') qual
noncomputable def TabOk (P:Addr) (lpos:Pos) (qual:Str) (H:Hp):Prop:=H P=some (.tbl #[])\/∃ c',H P=some (.tbl #[rawInt lpos.line,rawInt lpos.col,.ref c'])/\H c'=some (oo c' qual)
noncomputable def SameX (P:Addr) (H H':Hp):Prop:=∀ b o,b≠P->H b=some o->H' b=some o
theorem SameX.refl (P:Addr) (H:Hp):SameX P H H:=λ _ _ _ h=>h
theorem SameX.trans {P:Addr} {H H2:Hp} (a:SameX P H H1) (b:SameX P H1 H2):SameX P H H2:=λ c u n e=>b c u n (a c u n e)
theorem Same.x {P:Addr} {H:Hp} (a:Same H H1):SameX P H H1:=λ c u _ e=>a c u e
theorem TabOk.ne {P:Addr} {H:Hp} (t:TabOk P lpos qual H) (h:H b=some (.lst xs)):b≠P:=λ e=>by
 subst e
 rcases t with t | ⟨c,t,_⟩<;>rw [h] at t<;>cases t
theorem TabOk.neT {P:Addr} {H:Hp} (t:TabOk P lpos qual H) (h:H b=some (.tup xs)):b≠P:=λ e=>by
 subst e
 rcases t with t | ⟨c,t,_⟩<;>rw [h] at t<;>cases t
theorem TabOk.same {P:Addr} {H:Hp} (t:TabOk P lpos qual H) (s:Same H H1):TabOk P lpos qual H1:=by
 rcases t with t | ⟨c,t,u⟩
 ·exact .inl (s _ _ t)
 ·exact .inr ⟨c,s _ _ t,s _ _ u⟩
section
variable {X:Cx} {N frs:List Str} {x:Str} {ix:List Nat} {scope:Scope} {cl:List (Str×Addr)} {A:Around} {cc P:Addr} {pins:List (Addr×Obj)} {σ:St} {H:Hp} {s:Shared} {params:Arguments} {body:Expr} {lpos:Pos}
theorem qH {P:Program} {w:World} {H:Hp} {c':Addr} (e:h.CodeRec (.ref c') qual):ObjOk P w H h c' (oo c' qual):=by
 obtain ⟨c,o,vs,t,e1,e2,e3,e4⟩:=id e
 cases e1
 refine ⟨e,⟨o,e2⟩,λ h1 h2 hφ k=>?_⟩
 obtain ⟨c2,o2,vs2,t2,f1,f2,f3,f4⟩:=hφ
 cases f1
 exact ⟨_,o2,vs2,t2,rfl,k _ f2,f3,f4⟩
theorem ww {M:Model} {E:Value->Shared->Prop} (hcl:closureFor scope X.env=pure cl) (I:Inv X pins σ H s) (hcode:X.env.code=.ref cc) (hcd:codeHdIn X.K cc P=true) (hb:X.base.BuiltinsAt X.mg P) (hdef:defaultsOf params X.env=([],[])) (T:TabOk P lpos (X.env.qual++"<lambda>") H)
  (h:∀ f c' pm ctv H' s',Inv X ((f,kla_obj "<lambda>" (X.env.qual++"<lambda>") params body scope cl pm c' ctv)::pins) σ H' s'->TabOk P lpos (X.env.qual++"<lambda>") H'->SameX P H H'->H' c'=some (oo c' (X.env.qual++"<lambda>"))->Q (.ref f) s') :
  wpAny M A (eval (.Lambda params body scope lpos) X.env) Q E s:=by
 refine kla_eval hdef ?_
 have hg:s.heap.Ns mainGlobals X.mg:=I.mod.glob.keeps I.bk
 have C:CodeHd s.heap cc P:=codeHd_of_K I.kIn hcd
 have hbs:s.heap.BuiltinsAt X.mg P:=by
  obtain ⟨bm,o,b1,b2,b3,b4,b5,b6⟩:=hb
  exact ⟨bm,o,b1,b2,b3,b4,I.bk _ _ b5,b6⟩
 have hPL:∀ ps,H P=some (.tbl ps)->P≠X.env.locals:=λ ps e z=>by rw [z,I.free] at e; cases e
 have hPc:∀ ps,H P=some (.tbl ps)->∀ x c,X.env.cells.lookup x=some c->c≠P:=λ ps e x c h1 z=>by rw [<-z,I.freeC x c h1] at e; cases e
 have hgP:∀ ps,H P=some (.tbl ps)->mainGlobals≠P:=λ ps e z=>by
  obtain ⟨o,es,ep,ho,_⟩:=I.mod.glob
  rw [<-z,(I.bs _ _ ho).2] at e; cases e
 rcases T with T | ⟨c',T,Tc⟩
 ·have hP:s.heap.get? P=some (tabObj #[]):=I.hok P _ T
  refine kla_makeFunction (mg:=X.mg) hcl I.ok.glob hg hcode C hP trivial rfl (hgP _ T) hbs λ c' ctv h' tk hx hge hlt hrec htb=>?_
  have htb':h'.get? P=some (tabObj #[rawInt lpos.line,rawInt lpos.col,.ref c']):=htb
  have nP:∀ (b:Addr) (u:Obj),H b=none->b≠P:=λ b u n z=>by rw [z,T] at n; cases n
  have hcP:c'≠P:=JX (Iu (I.hok.lt T) hge)
  have I1:Inv X pins σ (upd H P (.tbl #[rawInt lpos.line,rawInt lpos.col,.ref c'])) { s with heap:=h',toks:=tk }:=by
   refine I.step (g':=s.gens) (d':=s.drawn) (ch:=[]) (λ _ z=>nomatch z) (λ b o _ _ _ e n=>hx b o (nP b o n) e) (λ b o _ _ _ e n=>⟨o.slots,hx b o (nP b o n) e⟩) (λ b o _ e n=>by rw [ag (nP b o n)]; exact n) (λ b o _ e=>?_)
    (λ b xs e=>?_) (λ b o u e=>?_) (λ b ps e=>?_) (λ m hm=>?_) (λ b u e=>?_) I.bare
   ·by_cases hb:b=P
    ·exact ⟨_,hb▸htb'⟩
    ·exact ⟨o,hx b o hb e⟩
   ·rw [ag (lT e T (by intro z; cases z))]; exact e
   ·rw [ag (lT e T (by intro z; cases z))]; exact e
   ·by_cases hb:b=P
    ·subst hb
     rw [T] at e
     cases e
     exact ⟨#[rawInt lpos.line,rawInt lpos.col,.ref c'],by rw [aa]; rfl⟩
    ·exact ⟨#[],by rw [ag hb,e]; simp⟩
   ·obtain ⟨o,es,ep,ho,r⟩:=hm
    exact ⟨o,es,ep,hx _ o (Jj (hPL _ T)) ho,r⟩
   ·by_cases hb:b=P
    ·subst hb
     rw [aa] at e
     cases e
     exact htb'
    ·rw [ag hb] at e
     refine (I.hok b u e).stay (λ c v hc q=>hx c v ?_ q) (λ c q=>by rw [ag (lT q T (by intro z; cases z))]; exact q) λ c xs q=>by rw [ag (lT q T (by intro z; cases z))]; exact q
     rcases hc with z | z
     ·rw [z]; exact hb
     ·exact lT z T (by intro z; cases z)
  have hcn:(upd H P (.tbl #[rawInt lpos.line,rawInt lpos.col,.ref c'])) c'=none:=by rw [ag hcP]; exact I.hok.fresh hge
  obtain ⟨q0,q1,q2,q3,q4,q5⟩:=I.fpOk (b:=c') (H':=λ _=>none) hge rfl
  have I2:=I1.adopt (D:=c') (o:=oo c' (X.env.qual++"<lambda>")) hcn q1 q3 q4 q5 (qH hrec)
  have I3:Inv X pins σ _ { s with heap:=h'.push (kla_obj "<lambda>" (X.env.qual++"<lambda>") params body scope cl ((X.mg "__name__").getD .none) c' ctv),toks:=tk }:=I2.kept (t':=tk) λ b o e=>Ij _ e
  have hfn:(upd (upd H P (.tbl #[rawInt lpos.line,rawInt lpos.col,.ref c'])) c' (oo c' (X.env.qual++"<lambda>"))) h'.objs.size=none:=I2.hok.fresh (Im _)
  obtain ⟨r0,r1,r2,r3,r4,r5⟩:=I2.fpOk (b:=h'.objs.size) (H':=λ _=>none) (Im _) rfl
  have I4:=I3.pins_of (pins':=(h'.objs.size,kla_obj "<lambda>" (X.env.qual++"<lambda>") params body scope cl ((X.mg "__name__").getD .none) c' ctv)::pins) λ p hp=>by
   rcases Io.mp hp with rfl | hp
   ·exact ⟨Iz _ rfl,hfn,r1,r2,λ v z=>by cases z⟩
   ·exact I3.pin p (Ik _ hp)
  refine h _ c' _ ctv _ _ I4 (.inr ⟨c',by rw [ag (Jj hcP),aa],aa⟩) (λ b o hb e=>?_) aa
  rw [ag (λ z=>by rw [z,I.hok.fresh hge] at e; cases e),ag hb]; exact e
 ·have hP:s.heap.get? P=some (tabObj #[rawInt lpos.line,rawInt lpos.col,.ref c']):=I.hok P _ T
  refine kla_makeFunctionHit (mg:=X.mg) (cv:=.ref c') hcl I.ok.glob hg hcode C hP (show TriplesOk [_,_,_] from trivial) (codeAmong_snoc [] trivial rfl) hbs λ ctv h' tk hk hsz=>?_
  have I1:Inv X pins σ H { s with heap:=h',toks:=tk }:=I.kept (t':=tk) hk
  have I3:Inv X pins σ H { s with heap:=h'.push (kla_obj "<lambda>" (X.env.qual++"<lambda>") params body scope cl ((X.mg "__name__").getD .none) c' ctv),toks:=tk }:=I1.kept (t':=tk) λ b o e=>Ij _ e
  obtain ⟨r0,r1,r2,r3,r4,r5⟩:=I1.fpOk (b:=h'.objs.size) (H':=λ _=>none) (Im _) rfl
  have I4:=I3.pins_of (pins':=(h'.objs.size,kla_obj "<lambda>" (X.env.qual++"<lambda>") params body scope cl ((X.mg "__name__").getD .none) c' ctv)::pins) λ p hp=>by
   rcases Io.mp hp with rfl | hp
   ·exact ⟨Iz _ rfl,I1.hok.fresh (Im _),r1,r2,λ v z=>by cases z⟩
   ·exact I3.pin p (Ik _ hp)
  exact h _ c' _ ctv _ _ I4 (.inr ⟨c',T,Tc⟩) (SameX.refl _ _) Tc
noncomputable def KeyR (H:Hp) (ys:List V) (lt:Nat->Nat->Bool):Prop:=
 (∃ ns:List Int,ys=ns.map PY/\lt=λ i j=>decide (ns.getD i 0<ns.getD j 0))\/
 (∃ (rs:List Addr) (rss:List (List Int)),ys=rs.map P0/\rs.length=rss.length/\(∀ (i:Nat) a r,rs[i]? = some a->rss[i]? = some r->H a=some (.tup (r.map PY)))/\((∀ r∈rss,r=[])\/(∀ r∈rss,r≠[]))/\lt=λ i j=>HT.bS (rss.getD i []) (rss.getD j []))
theorem KeyR.lt {H:Hp} {lt:Nat->Nat->Bool} (k:KeyR H ys lt):Lt lt:=by
 rcases k with ⟨ns,_,rfl⟩ | ⟨rs,rss,_,_,_,_,rfl⟩
 ·exact HT.zI ns
 ·exact HT.Cz rss
theorem KeyR.ask {lt:Nat->Nat->Bool} {ks:List Value} (k:KeyR H ys lt) (I:Inv X pins σ H s) (hu:A.units<cLine) (rv:Vals ys ks):∃ κ:SortKind,
  (∀ (Q:SortKind->Shared->Prop),2<=ks.length->Q κ s->wpAny (model X.prog X.w) A (keyKind' ks.toArray) Q (λ _ _=>False) s)/\
  (∀ i j (Q:Bool->Shared->Prop),i<ks.length->j<ks.length->Q (lt i j) s->wpAny (model X.prog X.w) A (keyLt' κ (ks.getD i IW) (ks.getD j IW)) Q (λ _ _=>False) s):=by
 rcases k with ⟨ns,rfl,rfl⟩ | ⟨rs,rss,rfl,hlen,ht,hw,rfl⟩
 ·have hi:=eB rv
  refine ⟨oneType',λ Q h2 hQ=>?_,λ i j Q hi1 hj1 hQ=>?_⟩
  ·obtain ⟨v₁,v₂,rest,rfl⟩:∃ v₁ v₂ rest,ks=v₁::v₂::rest:=by
    match ks,h2 with
    | v₁::v₂::rest,_=>exact ⟨v₁,v₂,rest,rfl⟩
   rw [keyKind_ints hi]
   exact wpAny_pure hQ
  ·obtain ⟨t1,e1⟩:=HT.on hi hi1
   obtain ⟨t2,e2⟩:=HT.on hi hj1
   rw [e1,e2,keyLt'_oneType]
   exact oneLt_int hQ
 ·obtain rfl:=my rv
  have hl:(rs.map IT).length=rs.length:=Ir _
  have tup:∀ (i:Nat) v r,(rs.map IT)[i]? = some v->rss[i]? = some r->∃ a its,v=.ref a/\IsTup s.heap a its/\IntsAre its.toList r:=λ i v r e1 e2=>by
   rw [Ji] at e1
   obtain ⟨a,ea,rfl⟩:=Ki.mp e1
   obtain ⟨its,r1,hT,_⟩:=I.tuple (SqT.of (ht i a r ea e2))
   exact ⟨a,its.toArray,rfl,hT,eB r1⟩
  have get:∀ i,i<(rs.map IT).length->(rs.map IT)[i]? = some ((rs.map IT).getD i IW)/\rss[i]? = some (rss.getD i []):=λ i hi=>by
   have h2:i<rss.length:=by lia
   constructor
   ·rw [IH,IF hi]; rfl
   ·rw [IH,IF h2]; rfl
  rcases hw with hw | hw
  ·refine ⟨oneType',λ Q h2 hQ=>HT.wq h2 (λ v hv=>?_) hQ,λ i j Q hi hj hQ=>?_⟩
   ·obtain ⟨i,hi,ei⟩:=Ke hv
    obtain ⟨g1,g2⟩:=get i hi
    obtain ⟨a,its,rfl,t,ti⟩:=tup i v _ (by rw [IF hi,ei]) g2
    rw [hw _ (JO g2)] at ti
    obtain ⟨its'⟩:=its
    cases ti
    exact ⟨a,rfl,t⟩
   ·obtain ⟨g1,g2⟩:=get i hi
    obtain ⟨k1,k2⟩:=get j hj
    obtain ⟨a,its,e,t,ti⟩:=tup i _ _ g1 g2
    obtain ⟨a',its',e',t',ti'⟩:=tup j _ _ k1 k2
    rw [e,e']
    exact HT.zH hu t t' ti ti' hQ
  ·refine ⟨tuples' true,λ Q h2 hQ=>HT.tz h2 (by lia) tup hw hQ,λ i j Q hi hj hQ=>?_⟩
   obtain ⟨g1,g2⟩:=get i hi
   obtain ⟨k1,k2⟩:=get j hj
   obtain ⟨a,its,e,t,ti⟩:=tup i _ _ g1 g2
   obtain ⟨a',its',e',t',ti'⟩:=tup j _ _ k1 k2
   rw [e,e']
   exact HT.wo t t' ti ti' hQ
noncomputable def zL (te:TE) (ix:List Nat) (xs:List V) (σ:St) (H:Hp) (Q:VK):Prop:=xs.length<1000/\
 ∃ W:Nat->List V->Hp->Prop,W 0 [] H/\(∀ i ys H x,xs[i]? = some x->W i ys H->te (tF ix σ x) H λ y H'=>Same H H'/\W (i+1) (ys++[y]) H')/\
  ∀ ys H,ys.length=xs.length->W xs.length ys H->∃ lt,KeyR H ys lt/\∀ (d:Addr) (p:List Nat),H d=none->p.Perm (IC xs.length)->p.Pairwise (Ah lt)->Q (.ref d) (upd H d (.lst (p.map λ i=>xs.getD i .non)))
theorem ly:∀ {xs:List V} {us:List Value},Vals xs us->∀ {i:Nat} {u:Value},us[i]? = some u->∃ y,xs[i]? = some y/\RelV y u
 | _,_,.nil,_,_,h=>by simp at h
 | _,_,.cons r t,0,u,h=>by cases h; exact ⟨_,rfl,r⟩
 | _,_,.cons r t,i+1,u,h=>by
  obtain ⟨y,e,q⟩:=ly t (i:=i) (by simpa using h)
  exact ⟨y,by simpa using e,q⟩
theorem tG (r:Vals xs us) {p:List Nat} (h:∀ i∈p,i<us.length):Vals (p.map λ i=>xs.getD i .non) (p.map λ i=>us.getD i IW):=by
 refine px λ i hi=>?_
 have h1:=h i hi
 obtain ⟨y,e,q⟩:=ly r (IF h1)
 rw [IH,IH,e,IF h1]
 exact q
theorem tH {pm ctv:Value} {Q:VK} {c':Addr} (c:LamOk X N x frs ix scope cl) (hc:X.calm=true) (hroom:X.A.in1.in1.depth<recursionLimit) (hu:X.A.in1.in1.units<cLine)
  (I:Inv X ((f,kla_obj name qual params body scope cl pm c' ctv)::pins) σ H s) (hH:H c'=some (oo c' qual)) (hbind:∀ u,bindArgs (kla_fn name qual params body scope cl pm (.ref c') ctv) ⟨[u],[]⟩=pure [(x,u)])
  (he:∀ C s H,PE (tE X N qual scope f c' cl X.A.in1.in1 C s H) body te)
  (hcol:∀ (Q:List Value->Shared->Prop),(∀ vs h1 tk,Vals xs vs->(∀ b o,s.heap.get? b=some o->h1.get? b=some o)->Q vs { s with heap:=h1,toks:=tk })->wpAny (model X.prog X.w) X.A.in1 (collect (.ref l)) Q (λ _ _=>False) s)
  (h:zL te ix xs σ H Q):wpAny (model X.prog X.w) X.A (call (.builtin "sorted") [.ref l] [(Ko "key",.ref f)]) (EP X pins σ Q) X.xe s:=by
 obtain ⟨h64,W,w0,wst,wfin⟩:=h
 refine HT.qG (G:=Vals xs) (λ vs g=>by rw [<-g.length]; exact h64) hcol λ vs h1 h' tk a kS e1 g k1 k2 ha hak hkS hoA=>?_
 have hvl:vs.length=xs.length:=g.length.symm
 generalize hfo:kla_obj name qual params body scope cl pm c' ctv=fo at I
 have I1:Inv X ((f,fo)::pins) σ H { s with heap:=h1,toks:=tk }:=I.kept (t':=tk) k1
 have I2:Inv X ((f,fo)::pins) σ H { s with heap:=h',toks:=tk }:=I1.kept (t':=tk) k2
 obtain ⟨_,a1,a2,a3,a4,a5⟩:=I1.fpOk (b:=a) (H':=λ _=>none) ha rfl
 have hak':@LT.lt Nat _ a kS:=hak
 have hk:h1.objs.size<=kS:=JD (JB ha hak')
 obtain ⟨_,b1,b2,b3,b4,b5⟩:=I1.fpOk (b:=kS) (H':=λ _=>none) hk rfl
 have hka:kS≠a:=JX hak'
 have I3:Inv X ((a,seqObj "list" #[] e1)::(kS,seqObj "list" ([]:List Value).toArray 0)::(f,fo)::pins) σ H { s with heap:=h',toks:=tk }:=I2.pins_of λ p hp=>by
  rcases Io.mp hp with rfl | hp
  ·exact ⟨hoA,I1.hok.fresh ha,a1,a2,λ v z=>by cases z⟩
  ·rcases Io.mp hp with rfl | hp
   ·exact ⟨hkS,I1.hok.fresh hk,b1,b2,λ v z=>by cases z⟩
   ·exact I2.pin p (Ik _ hp)
 have old:∀ {pn:List (Addr×Obj)} {H':Hp} {s':Shared} {u:Obj} {it:Addr},Inv X pn σ H' s'->H' it=none->it≠X.env.locals->(it∈X.ex\/X.s₀.heap.objs.size<=it)->(∀ x c,X.env.cells.lookup x=some c->c≠it)->(∀ p∈X.pn++pn,p.1≠it)->∀ g:Obj->Obj,Inv X pn σ H' { s' with heap:=s'.heap.update it g }:=
  λ {pn H' s' u it} J n1 n2 n3 n4 n5 g=>J.turned (t':=s'.toks) (it:=it) (λ b o hb e=>((KZ s'.heap it g).2 b hb).trans e) n1 n2 n3 n4 n5
 have pinF:∀ p∈X.pn++((f,fo)::pins),p.1≠a/\p.1≠kS:=λ p hp=>⟨a5 p hp,b5 p hp⟩
 refine HT.wt (λ i ks s'=>∃ ys H' e,Inv X ((a,seqObj "list" #[] e1)::(kS,seqObj "list" ks.toArray e)::(f,fo)::pins) σ H' s'/\Vals ys ks/\W i ys H'/\H' c'=some (oo c' qual)/\ks.length=i) ⟨[],H,0,I3,.nil,w0,hH,rfl⟩ (by lia) ?_ ?_
 ·rintro i u ks s' hu' ⟨ys,H',e,J,rv,hw,hHc,hkl⟩
  refine ⟨hkl,?_⟩
  obtain ⟨xv,ex,rx⟩:=ly g hu'
  have q:=wst i ys H' xv ex hw
  have hfp:=(J.pin (f,fo) (Ik _ (.tail _ (.tail _ (.head _))))).1
  rw [<-hfo] at hfp
  have hrec:s'.heap.CodeRec (.ref c') qual:=(J.hok c' _ hHc).1
  refine wpAny_mono (wv c J (show X.A.in1.in1.frames=some X.stack from J.ok.frames) (J.ok.hd hc) hroom hfp hrec (hbind u) rx he q) (λ k s2 hk2=>?_) λ _ _ z=>z
  obtain ⟨y,H2,J2,ry,sm,hw2⟩:=hk2
  obtain ⟨p1,p2,p3,p4,p5⟩:=J2.pin (kS,seqObj "list" ks.toArray e) (Ik _ (.tail _ (.head _)))
  refine ⟨e,p1,ys++[y],H2,?_⟩
  have J3:Inv X ((a,seqObj "list" #[] e1)::(f,fo)::pins) σ H2 s2:=J2.pins_of λ p hp=>by
   rcases Io.mp hp with rfl | hp
   ·exact J2.pin _ (Ik _ (.head _))
   ·exact J2.pin p (Ik _ (.tail _ (.tail _ hp)))
  have J4:=old (u:=fo) J3 p2 b1 b3 b4 (λ p hp=>by
   rcases IN.mp hp with hp | hp
   ·exact (pinF p (KS _ hp)).2
   ·rcases Io.mp hp with rfl | hp
    ·exact Jj hka
    ·exact (pinF p (Ik _ hp)).2) (Jc (·.push k))
  obtain ⟨c2,hc2⟩:∃ c2,(s2.heap.update kS (Jc (·.push k))).get? kS=some (seqObj "list" (ks.toArray.push k) c2):=⟨_,get?_update_seq p1 (·.push k)⟩
  have eu:ks.toArray.push k=(ks++[k]).toArray:=by simp
  rw [eu] at hc2
  refine ⟨c2,J4.pins_of λ p hp=>?_,rv.append (.cons ry .nil),hw2,sm _ _ hHc,by simp [hkl]⟩
  rcases Io.mp hp with rfl | hp
  ·exact J4.pin _ (Ik _ (.head _))
  ·rcases Io.mp hp with rfl | hp
   ·exact ⟨hc2,p2,p3,p4,λ v z=>by cases z⟩
   ·exact J4.pin p (Ik _ (.tail _ hp))
 ·rintro ks s' ⟨ys,H',e,J,rv,hw,hHc,hkl⟩
  have hyl:ys.length=xs.length:=by rw [rv.length,hkl,hvl]
  rw [hvl] at hw
  obtain ⟨lt,hK,fin⟩:=wfin ys H' hyl hw
  obtain ⟨κ,ask1,ask2⟩:=hK.ask (A:=X.A.in1.in1) J hu rv
  obtain ⟨p1,p2,p3,p4,p5⟩:=J.pin (kS,seqObj "list" ks.toArray e) (Ik _ (.tail _ (.head _)))
  obtain ⟨r1,r2,r3,r4,r5⟩:=J.pin (a,seqObj "list" #[] e1) (Ik _ (.head _))
  refine ⟨e,p1,HT.zJ hka r1 p1 hkl (by lia) hK.lt (λ Q' h2 hQ=>ask1 Q' (by lia) hQ) (λ i j Q' hi hj hQ=>ask2 i j Q' (by lia) (by lia) hQ) λ p hp hs=>⟨rfl,?_⟩⟩
  rw [hvl] at hp
  have J0:Inv X pins σ H' s':=J.pins_of λ p hp=>J.pin p (Ik _ (.tail _ (.tail _ (.tail _ hp))))
  have hpins:∀ it,(∀ p∈X.pn++((f,fo)::pins),p.1≠it)->∀ p∈X.pn++pins,p.1≠it:=λ it hh p hp=>hh p (by
   rcases IN.mp hp with hp | hp
   ·exact KS _ hp
   ·exact Ik _ (.tail _ hp))
  have J1:=old (u:=fo) J0 p2 b1 b3 b4 (hpins kS b5) (Jc λ _=>(#[]:Array Value))
  have J2:=old (u:=fo) J1 r2 a1 a3 a4 (hpins a a5) (Jc λ _=>Iw (p.map λ i=>vs.getD i IW))
  have oa:(s'.heap.update kS (Jc λ _=>(#[]:Array Value))).get? a=some (seqObj "list" #[] e1):=((KZ s'.heap kS _).2 a (Jj hka)).trans r1
  obtain ⟨c2,hc2⟩:∃ c2,((s'.heap.update kS (Jc λ _=>(#[]:Array Value))).update a (Jc λ _=>Iw (p.map λ i=>vs.getD i IW))).get? a=some (seqObj "list" (Iw (p.map λ i=>vs.getD i IW)) c2):=⟨_,get?_update_seq oa _⟩
  have hpl:=hp.length_eq
  rw [Lc] at hpl
  have J3:=J2.adopt (D:=a) (o:=.lst (p.map λ i=>xs.getD i .non)) r2 a1 a3 a4 (hpins a a5) ⟨by rw [Ir,hpl,sizeLine_eq]; lia,_,c2,tG g λ i hi=>by rw [hvl]; exact MN.mp (hp.mem_iff.mp hi),hc2⟩
  exact ⟨.ref a,_,J3,rfl,fin a p r2 hp hs⟩
noncomputable def tK (P:Addr) (lpos:Pos) (qual:Str) (ix:List Nat) (te:TE) (t:TA):TE:=λ σ H Q=>t σ H λ vs H1=>∃ n:Nat,vs=[.int n]/\n<1000/\TabOk P lpos qual H1/\∀ H2,SameX P H1 H2->TabOk P lpos qual H2->zL te ix (cH 0 n) σ H2 Q
section
variable {te:TE} {t:TA} {p p2 pos pos2 kpos:Pos} {e a:Expr} {k:Nat} {qual:Str}
theorem CA {E:Value->Shared->Prop} {Q:List Value->Shared->Prop} {lam:Expr} (h:wpAny (model X.prog X.w) X.A (eval lam X.env) (λ v s'=>Q [v] s') E s) :
  wpAny (model X.prog X.w) X.A (evalAll ((backToKw pos (keywordEach [⟨some "key",lam,kpos⟩] X.env)).map (·.2))) Q E s:=by
 show wpAny _ _ (evalAll ((do let v <-eval lam X.env; standAt pos; pure v)::[])) _ _ s
 exact wpAny_evalAll_cons (wpAny_bind (wpAny_mono h (λ v s' hq=>wpAny_bind (wpAny_standAt (wpAny_pure (wpAny_evalAll_nil hq)))) λ _ _ z=>z))
theorem tL (hr:Room k X.A):X.A.in1.in1.depth<recursionLimit/\X.A.in1.in1.units<cLine:=⟨hr.depth,by have:=hr.units; show X.A.units+1+1<_; lia⟩
theorem tM (c:LamOk X N x frs ix scope cl) (hc:X.calm=true) (hr:Room k X.A) (hg:Gl X "sorted") (hm:X.mg "sorted" = none) (hgr:Gl X "range") (hmr:X.mg "range" = none) (hcode:X.env.code=.ref cc) (hcd:codeHdIn X.K cc P=true) (hb:X.base.BuiltinsAt X.mg P) (ha:QA X [a] t)
  (he:∀ A f c' C s H,QE (tE X N (X.env.qual++"<lambda>") scope f c' cl A C s H) body te) (hbind:∀ u pm c' ctv,bindArgs (kla_fn "<lambda>" (X.env.qual++"<lambda>") params body scope cl pm (.ref c') ctv) ⟨[u],[]⟩=pure [(x,u)])
  (hdef:defaultsOf params X.env=([],[]):=by rfl) (hn:bA a=true:=by rfl):QE X (.Call (.Name "sorted" p) [.Call (.Name "range" p2) [a] [] pos2] [⟨some "key",.Lambda params body scope lpos,kpos⟩] pos) (tK P lpos (X.env.qual++"<lambda>") ix te t):=by
 refine ⟨λ pins s σ H Q I h=>?_⟩
 refine wpAny_Call_Name_kw (eG I hg hm (by decide +kernel:bootBuiltins "sorted" = some (.builtin "sorted")) ?_)
 refine callWith_kw ?_ (by rfl) (by rfl)
 refine LS (Call_ (eG I hgr hmr boot_range (JA (thn (ha.out pos2 pins s σ H _ I h) λ us s1 hu=>?_) (aB hn) rfl)))
 obtain ⟨vs,H1,I1,r1,n,rfl,hn64,T1,q⟩:=hu
 obtain ⟨u,rfl,ru⟩:=eZ r1
 obtain ⟨tt,rfl⟩:=ru
 refine call_range_1 (Me ?_)
 obtain ⟨w0,w1,w2,w3,w4,w5⟩:=I1.fpOk (b:=s1.heap.objs.size) (H':=λ _=>none) (Im _) rfl
 have I1':Inv X ((s1.heap.objs.size,{ cls:=.type "range",data:=.fields #[.int 0 s1.toks,.int n tt,.int 1 (s1.toks+1)] })::pins) σ H1 { s1 with heap:=s1.heap.push { cls:=.type "range",data:=.fields #[.int 0 s1.toks,.int n tt,.int 1 (s1.toks+1)] },toks:=s1.toks+1+1 }:=by
  have K:=I1.kept (h':=s1.heap.push { cls:=.type "range",data:=.fields #[.int 0 s1.toks,.int n tt,.int 1 (s1.toks+1)] }) (t':=s1.toks+1+1) λ b o e=>Ij _ e
  refine K.pins_of λ p hp=>?_
  rcases Io.mp hp with rfl | hp
  ·exact ⟨Iz _ rfl,I1.hok.fresh (Im _),w1,w2,λ v z=>by cases z⟩
  ·exact K.pin p (Ik _ hp)
 refine CA (ww c.clos I1' hcode hcd hb hdef T1 λ f c' pm ctv H2 s2 I2 T2 sx hc2=>?_)
 obtain ⟨g1,g2⟩:=tL hr
 refine thn (tH (l:=s1.heap.objs.size) (xs:=cH 0 n) c hc g1 g2 I2 hc2 (λ u=>hbind u pm c' ctv) (λ C s H=>(he _ _ _ C s H).out) (λ Q' hQ=>?_) (q H2 sx T2)) λ v s3 hv=>?_
 ·have hrg:=(I2.pin (s1.heap.objs.size,{ cls:=.type "range",data:=.fields #[.int 0 s1.toks,.int n tt,.int 1 (s1.toks+1)] }) (Ik _ (.tail _ (.head _)))).1
  refine HT.lx (n:=n) (I2.ok.hd hc) hrg (small_one (by lia) (by lia) (by lia) (by lia)) (by rw [rangeSize_one]; split<;>lia) (by lia) λ h' tk acc k hit=>hQ _ h' tk ?_ k
  obtain ⟨hz,hit⟩:=hit
  refine oh (by simp [cH,hz]) λ k x w a b=>?_
  have hk':k<n:=by have:=(IK.mp a).1; simpa [cH] using this
  unfold cH at a
  rw [Ji,M6 hk'] at a
  obtain rfl:=IR a
  obtain ⟨t2,rfl⟩:=hit k w (by simpa using b)
  refine ⟨t2,?_⟩
  rw [NU,Og]; rfl
 ·obtain ⟨y,H',J,ry,hq⟩:=hv
  exact ⟨y,H',J.pins_of λ p hp=>J.pin p (Ik _ (.tail _ hp)),ry,hq⟩
end
end
theorem tN {w:World} {K:Ih} {mg mb:Str->Option Value} {CX:CXT} {fa c Pt:Addr} {fd:FuncData} {x:Str} {sp:Sp} {s₁:Shared} {ns:List Int}
  (KX:K.In s₁.heap) (hns:s₁.heap.Ns mainGlobals mg) (hb:s₁.heap.Ns builtinsNs mb) (hbb:∀ x:Str,x≠"__name__"->mb x=bootBuiltins x) (hlim:s₁.heap.NoLimit) (hg:s₁.gens=#[])
  (hbm:∃ bm ob,mg "__builtins__" = some (.ref bm)/\bm≠builtinsNs/\s₁.heap.get? bm=some ob/\ob.cls=.type "module"/\ob.dict=some builtinsNs/\ob.data=.plain)
  (hcd:CodeHd s₁.heap c Pt) (hT:s₁.heap.get? Pt=some (tabObj #[])) (hKP:K.lookup Pt=none)
  (ha:s₁.heap.get? a=some { cls:=.type "list",data:=.seq vs.toArray }) (hi:IntsAre vs ns) (hl:ns.length<=sizeLine) (hr:Room k callerA)
  (F:∀ base:Heap,K.In base->base.Ns mainGlobals mg->base.BuiltinsAt mg Pt->FnOk P w K mg base CX k fa fd [x] sp) (hbind:∀ (s:Shared) (u:Value),BindsTo s fd ⟨[u],[]⟩ [(x,u)])
  (hsp:∀ H:Hp,H Pt=some (.tbl #[])->SqL K H a (ns.map PY)->sp [.ref a] H (λ v _=>v=.bl true) λ _ _ _=>False)
  (hCX:∀ H e s',CX [] H s₁ (λ _ _ _=>False) e s'->False) :
  codeAny (model P w) callerA (.call (.ref fa) ⟨[.ref a],[]⟩) (λ r s'=>r=.ok (.ret (.bool true))/\OldK s₁.heap s'.heap/\s'.os=s₁.os/\AllBare s'.gens) s₁:=by
 have rv:=mh hi
 have lenV:=hi.length
 have haP:a≠Pt:=λ z=>by rw [z,hT] at ha; cases ha
 have core:∀ H:Hp,H Pt=some (.tbl #[])->(∀ b,H b=none\/b=Pt\/∃ o xs,H b=some (.frz o (.lst xs)))->SqL K H a (ns.map PY)->HOk P w H s₁.heap->(∀ b,H b≠none->b=a\/b=Pt)->(H a≠none->K.lookup a=none)->
   codeAny (model P w) callerA (.call (.ref fa) ⟨[.ref a],[]⟩) (λ r s'=>r=.ok (.ret (.bool true))/\OldK s₁.heap s'.heap/\s'.os=s₁.os/\AllBare s'.gens) s₁:=by
  intro H hP hO hS hok hA hK
  have base_of:∀ {b:Addr} {o:Obj},s₁.heap.get? b=some o->H b=none->(vc s₁.heap H).get? b=some o:=λ e n=>vy e n
  have noA:∀ {b:Addr} {o:Obj},s₁.heap.get? b=some o->(∀ its n,o.data≠.seq its n)->(∀ fs,o.data≠.fields fs)->H b=none:=λ {b o} e d1 d2=>by
   cases q:H b with
   | none=>rfl
   | some u=>
    rcases hA b (by rw [q]; simp) with e' | e'
    ·subst e'
     rw [ha] at e; cases e
     exact absurd rfl (d1 _ _)
    ·subst e'
     rw [hT] at e; cases e
     exact absurd rfl (d2 _)
  have nsK:∀ {b:Addr} {m:Str->Option Value},s₁.heap.Ns b m->(vc s₁.heap H).Ns b m:=λ {b m} ⟨o,es,ep,e,d,r⟩=>⟨o,es,ep,base_of e (noA e (λ _ _ z=>by rw [d] at z; cases z) (λ _ z=>by rw [d] at z; cases z)),d,r⟩
  have hKb:K.In (vc s₁.heap H):=λ b o e=>base_of (KX b o e) (by
   cases q:H b with
   | none=>rfl
   | some u=>
    rcases hA b (by rw [q]; simp) with e' | e'
    ·subst e'
     rw [hK (by rw [q]; simp)] at e; cases e
    ·subst e'
     rw [hKP] at e; cases e)
  have hM:Mod K mg (vc s₁.heap H):=⟨hKb,nsK hns,⟨mb,nsK hb,hbb⟩,let ⟨mc,h1,h2⟩:=hlim; ⟨mc,nsK h1,h2⟩⟩
  have hBA:(vc s₁.heap H).BuiltinsAt mg Pt:=by
   obtain ⟨bm,ob,b1,b2,b3,b4,b5,b6⟩:=hbm
   refine ⟨bm,ob,b1,b2,λ z=>?_,λ z=>?_,base_of b3 (noA b3 (λ _ _ z=>by rw [b6] at z; cases z) (λ _ z=>by rw [b6] at z; cases z)),b4,b5,b6⟩
   ·obtain ⟨o,es,ep,e,d,_⟩:=hns
    rw [z,e] at b3; cases b3; rw [d] at b6; cases b6
   ·rw [z,hT] at b3; cases b3; cases b6
  have e0:Env0 P w K mg (vc s₁.heap H) callerA [] s₁ H:=⟨rfl,hM,λ b o e=>yD e,Ju (rM _ _),trivial,λ b hb=>absurd (show b∈([]:List Addr) from hb) (by simp),hok,.of_eq hg⟩
  refine codeAny_mono ((F _ hKb (nsK hns) hBA).run callerA [] s₁ H ⟨[.ref a],[]⟩ [.ref a] [.ref a] _ _ hr e0 (hbind s₁ (.ref a)) (.cons rfl .nil) (hsp H hP hS)) λ r s' h=>?_
  cases r with
  | error e=>exact (hCX H e s' h).elim
  | ok fl=>
   cases fl with
   | next=>exact IV h
   | brk=>exact IV h
   | cont=>exact IV h
   | ret u=>
    obtain ⟨v,H',os,bare,un,hok',r',q⟩:=h
    have q':v=.bl true:=q
    subst q'
    obtain rfl:u=MZ true:=r'
    refine ⟨rfl,⟨λ b o e=>?_,λ b o e=>un.there b o e (by simp)⟩,os,bare⟩
    cases q:H b with
    | none=>exact .inl (un.keep b o e q (by intro z; exact absurd (show b∈([]:List Addr) from z) (by simp)) (by simp))
    | some u=>
     rcases hO b with z | z | ⟨ob,xs,z⟩
     ·rw [q] at z; cases z
     ·subst z
      rw [hT] at e
      cases e
      obtain ⟨more,em⟩:=un.tbls b #[] hP
      exact .inr (.inl ⟨(hcd.tab hT).isCodeTable,rfl,#[],more,rfl,hok' b _ em⟩)
     ·have z2:=un.frzs b ob _ z
      obtain ⟨e1,_⟩:=hok b _ z
      obtain ⟨e2,_⟩:=hok' b _ z2
      rw [e] at e1; cases e1
      exact .inl e2
 cases hk:K.lookup a with
 | some o=>
  have e:=KX a o hk
  rw [ha] at e
  cases e
  refine core (λ b=>if b=Pt then some (.tbl #[]) else none) (if_pos rfl) (λ b=>?_) (.inr ⟨_,vs.toArray,_,hk,rfl,rfl,rfl,by rw [IB,lenV]; exact hl,by simpa using rv⟩) (λ b u z=>?_) (λ b z=>?_) (λ z=>absurd (if_neg haP) z)
  ·by_cases hb:b=Pt
   ·exact .inr (.inl hb)
   ·exact .inl (if_neg hb)
  ·by_cases hb:b=Pt
   ·have z':=(if_pos hb).symm.trans z
    cases z'
    subst hb
    exact hT
   ·have z':=(if_neg hb).symm.trans z
    cases z'
  ·by_cases hb:b=Pt
   ·exact .inr hb
   ·exact absurd (if_neg hb) z
 | none=>
  have e1:∀ b,(if b=Pt then some (.tbl #[]) else if b=a then some (.frz { cls:=.type "list",data:=.seq vs.toArray } (.lst (ns.map PY))) else none:Option HO)=if b=Pt then some (.tbl #[]) else if b=a then some (.frz { cls:=.type "list",data:=.seq vs.toArray } (.lst (ns.map PY))) else none:=λ b=>rfl
  have ea:(if a=Pt then some (.tbl #[]) else if a=a then some (.frz { cls:=.type "list",data:=.seq vs.toArray } (.lst (ns.map PY))) else none:Option HO)=some (.frz { cls:=.type "list",data:=.seq vs.toArray } (.lst (ns.map PY))):=by rw [if_neg haP,if_pos rfl]
  refine core (λ b=>if b=Pt then some (.tbl #[]) else if b=a then some (.frz { cls:=.type "list",data:=.seq vs.toArray } (.lst (ns.map PY))) else none) (if_pos rfl) (λ b=>?_) (.inl (.inr ⟨{ cls:=.type "list",data:=.seq vs.toArray },ea⟩)) (λ b u z=>?_) (λ b z=>?_) (λ _=>hk)
  ·by_cases hb:b=Pt
   ·exact .inr (.inl hb)
   ·by_cases hb2:b=a
    ·exact .inr (.inr ⟨_,_,by rw [hb2]; exact ea⟩)
    ·exact .inl (by show (if b=Pt then _ else _)=_; rw [if_neg hb,if_neg hb2])
  ·by_cases hb:b=Pt
   ·have z':=(if_pos hb).symm.trans z
    cases z'
    subst hb
    exact hT
   ·by_cases hb2:b=a
    ·subst hb2
     have z':=ea.symm.trans z
     cases z'
     exact ⟨ha,by rw [Ir]; exact hl,vs,_,rv,ha⟩
    ·have z':(if b=Pt then some (.tbl #[]) else if b=a then some (.frz { cls:=.type "list",data:=.seq vs.toArray } (.lst (ns.map PY))) else none:Option HO)=some u:=z
     rw [if_neg hb,if_neg hb2] at z'
     cases z'
  ·by_cases hb:b=Pt
   ·exact .inr hb
   ·by_cases hb2:b=a
    ·exact .inl hb2
    ·exact absurd (show (if b=Pt then some (.tbl #[]) else if b=a then some (.frz { cls:=.type "list",data:=.seq vs.toArray } (.lst (ns.map PY))) else none:Option HO)=none by rw [if_neg hb,if_neg hb2]) z
theorem wx {K:Ih} {Pt:Addr} (X:K.In h) (hT:h.get? Pt=some (tabObj #[])) (hK:noTabs K=true):K.lookup Pt=none:=by
 cases e:K.lookup Pt with
 | none=>rfl
 | some o=>
  have e2:=X _ _ e
  rw [hT] at e2
  cases e2
  exact absurd (Kz.mp hK _ (mem_of_lookupK e)) Iv
theorem wy {l:ME} {q:Program} {loose:List Str} {XP:(Str->Option Value)->Heap->Prop} {YP:World->Heap->Prop} {d:DefRec} {K:Params->Ih} {CX:World->CXT} {sp:World->Addr->Sp} {x:Str} {Pt:Addr}
  (hn:l.most=some n) (hn2:n<=sizeLine) (hdf:d.params.defaults=[]) (hr:Room k callerA)
  (hY:∀ (w:World) (h:Heap),YP w h->(K w.params).In h)
  (hYT:∀ (w:World) (h:Heap),YP w h->h.get? Pt=some (tabObj #[])) (hnt:∀ w:World,noTabs (K w.params)=true)
  (F:∀ (w:World) (mg:Str->Option Value) (fa:Addr) (h:Heap),(K w.params).In h->h.Ns mainGlobals mg->mg d.name=some (.ref fa)->
   ∃ fd:FuncData,(∃ c,codeHdIn (K w.params) c Pt=true)/\(∀ (s:Shared) (u:Value),BindsTo s fd ⟨[u],[]⟩ [(x,u)])/\
    ∀ base:Heap,(K w.params).In base->base.Ns mainGlobals mg->base.BuiltinsAt mg Pt->FnOk l.prog w (K w.params) mg base (CX w) k fa fd [x] (sp w Pt))
  (hsp:∀ (w:World) (H:Hp) (a:Addr) (ns:List Int),ns.length<=n->H Pt=some (.tbl #[])->SqL (K w.params) H a (ns.map PY)->sp w Pt [.ref a] H (λ v _=>v=.bl true) λ _ _ _=>False)
  (hCX:∀ (w:World) (H:Hp) (s:Shared) (e:Value) (s':Shared),CX w [] H s (λ _ _ _=>False) e s'->False) :
  OC q loose XP YP l.row.toRowW d [] (λ f vs=>Of f vs):=by
 refine Att.nU hn hdf λ w s₀ s₁ mg mb fa o pm cd doc a vs ns G Y ho hd hcd hmg hobj hints hlen hg=>?_
 have KX:=hY w _ Y
 obtain ⟨fd,⟨c,hchd⟩,hb,hF⟩:=F w mg fa _ KX G.T.g hmg
 have hT:=hYT w _ Y
 have hC:=codeHd_of_K KX hchd
 exact tN KX G.T.g G.T.b G.T.builtins G.T.nolimit hg G.T.bmain hC hT (wx KX hT (hnt w)) hobj hints (Js hlen hn2) hr hF hb (λ H hP hS=>hsp w H a ns hlen hP hS) λ H e s'=>hCX w H s₁ e s'
section
variable {P:Program} {w:World} {K:Ih} {mg:Str->Option Value} {base:Heap}
theorem Fun.okC {x:Str} {st:Stmt} {cc:Addr} {fd:FuncData} {N ps:List Str} {sp:Sp} (F:Fun K x qual st f fd) (hcc:fd.code=.ref cc) (S:FnScope N ps (ae st)) (len:∀ vs H Q E,sp vs H Q E->vs.length=ps.length)
  (hbody:∀ (A:Around) (outer:List Env) (s:Shared) (H:Hp) (vs:List V) (Q:VK) (E:XK),Room k (A.deeper (envOfC qual (ae st) s.heap.objs.size f (.ref cc)))->sp vs H Q E->
   ∃ t,QB (lS CX0 P w K mg base N qual (ae st) f (.ref cc) A outer s H E).nox (bE st) t/\t { nx:=λ _ H'=>Q .non H',rt:=Q } (aI N vs) H):FnOk P w K mg base CX0 (k+1) f fd ps sp:=by
 obtain ⟨oc,od,kV,doc,pm,an,cdv,ct,osl,rfl,lk,hcd⟩:=F.ex
 have e:cdv=.ref cc:=hcc
 subst e
 refine zc lk hcd S len λ A outer s H vs Q E hr hsp=>?_
 obtain ⟨t,h,q⟩:=hbody A outer s H vs Q E hr hsp
 exact ⟨t,h.out.nox,q⟩
end
section
variable {X:Cx} {o:Expr} {to:TE} {pos apos cpos:Pos}
end
end L2
namespace L2
open PySem PySem.Spec PyProof.Rows
section
variable {X:Cx}
end
section
variable {K:Ih} {H:Hp} {Q:VK}
end
section
variable {H:Hp} {n w:Nat}
end
section
variable {H H1 H2:Hp}
end
section
variable {H H1:Hp} {p a:Addr} {o:HO}
end
section
variable {H H1:Hp} {x:V} {os:List Nat} {a:Addr} {xs:List V}
end
section
variable {rss:List (List Nat)} {f m l:Nat} {x y:List Nat}
end
section
variable {rss:List (List Nat)}
end
section
variable {X:Cx} {pos:Pos}
end
section
variable {X:Cx} {tg a b c:Expr} {t:TA} {p pos:Pos}
end
end L2
namespace HT
open PySem PyProof.Rows PySem.W L2
noncomputable def DK (e:Addr) (dx:Option Addr) (h:Heap):Prop:=∃ o,h.get? e=some o/\o.dict=dx
structure KD {α:Type} (t:Sem α):Prop where
 out:∀ (M:Model) (Γ:PySem.Ctx) (P:α->Pos->Shared->Prop) (Ee:Value->Pos->Shared->Prop) (p:Pos) (s:Shared) (e:Addr) (dx:Option Addr),DK e dx s.heap->Sem.wp M Γ t P Ee p s->Sem.wp M Γ t (λ a p' s'=>P a p' s'/\DK e dx s'.heap) Ee p s
noncomputable def tO (f:Obj->Obj):Prop:=∀ o,(f o).dict=o.dict/\(f o).isFreed=o.isFreed
theorem DK.upd {e:Addr} {dx:Option Addr} {f:Obj->Obj} (hf:tO f) (d:DK e dx h):DK e dx (h.update a f):=by
 obtain ⟨o,he,hd⟩:=d
 by_cases q:a=e
 ·subst q
  exact ⟨_,Kq f he (by rw [(hf o).2]; exact (Np.mp he).2),by rw [(hf o).1]; exact hd⟩
 ·exact ⟨o,(JQ _ _ q).trans he,hd⟩
theorem tP (g:Array Value->Array Value):tO (Obj.mapFields g):=λ o=>by
 obtain ⟨c,d,da,sl⟩:=o
 cases da<;>exact ⟨rfl,rfl⟩
section
variable {α β:Type}
theorem KD.pure (a:α):KD (Oy a:Sem α):=⟨λ _ _ _ _ _ _ _ _ d h=>by rw [Sem.wp_pure'] at h ⊢; exact ⟨h,d⟩⟩
theorem KD.unsupported (w:String):KD (PySem.unsupported w:Sem α):=⟨λ _ _ _ _ _ _ _ _ d h=>h.elim⟩
theorem KD.bind {m:Sem α} {f:α->Sem β} (hm:KD m) (hf:∀ a,KD (f a)):KD (m >>= f):=⟨λ M Γ P Ee p s e dx d h=>by
 rw [Sem.wp_bind'] at h ⊢
 exact Sem.wp_mono M Γ m (λ a p' s' h'=>(hf a).out M Γ P Ee p' s' e dx h'.2 h'.1) (λ _ _ _ x=>x) p s (hm.out M Γ _ Ee p s e dx d h)⟩
theorem KD.ite {c:Prop} [Decidable c] {t u:Sem α} (ht:KD t) (hu:KD u):KD (if c then t else u):=by split<;>assumption
theorem KD.load (a:Addr):KD (Po a):=⟨λ _ _ _ _ _ _ _ _ d h=>by
 unfold Po at h ⊢
 rw [Sem.wp_load] at h ⊢
 obtain ⟨o,ho,h⟩:=h
 refine ⟨o,ho,?_⟩
 rw [MJ] at h ⊢
 exact ⟨h,d⟩⟩
theorem KD.update (a:Addr) (f:Obj->Obj) (hf:tO f):KD (O5 a f):=⟨λ _ _ _ _ _ _ _ _ d h=>by
 unfold O5 at h ⊢
 rw [Sem.wp_update] at h ⊢
 refine ⟨h.1,?_⟩
 have h:=h.2
 rw [MJ] at h ⊢
 exact ⟨h,d.upd hf⟩⟩
theorem KD.stack:KD Pf:=⟨λ M Γ P Ee p s _ _ d h=>by
 unfold Pf at h ⊢
 rw [Sem.wp_stack] at h ⊢
 rw [MJ] at h ⊢
 exact ⟨h,d⟩⟩
theorem KD.alloc (o:Obj):KD (Pg o):=⟨λ _ _ _ _ _ _ _ _ d h=>by
 unfold Pg at h ⊢
 rw [Sem.wp_alloc] at h ⊢
 rw [MJ] at h ⊢
 obtain ⟨o',he,hd⟩:=d
 exact ⟨h,o',Ij _ he,hd⟩⟩
theorem KD.field (v:Value) (i:Nat):KD (PySem.field v i):=⟨λ _ Γ P Ee p s _ _ d h=>by
 rw [wp_field_iff] at h ⊢
 obtain ⟨a,o,vs,x,e1,e2,e3,e4,h⟩:=h
 exact ⟨a,o,vs,x,e1,e2,e3,e4,h,d⟩⟩
theorem KD.setField (v:Value) (i:Nat) (x:Value):KD (PySem.setField v i x):=⟨λ _ Γ P Ee p s _ _ d h=>by
 rw [wp_setField_iff] at h ⊢
 obtain ⟨a,o,vs,e1,e2,e3,e4,h⟩:=h
 exact ⟨a,o,vs,e1,e2,e3,e4,h,d.upd (tP _)⟩⟩
end
theorem gF (env:Env) (outer:List Env):KD (behindIsImport env outer):=by
 unfold behindIsImport
 repeat' with_reducible first | assumption | exact KD.pure _ | exact KD.unsupported _ | exact KD.field _ _ | exact KD.setField _ _ _ | exact KD.load _ | exact KD.stack | exact KD.alloc _ | apply KD.ite | apply KD.bind | intro _ | split
theorem cI:KD underTheClaimsCaller:=by
 unfold underTheClaimsCaller
 repeat' with_reducible first | assumption | exact KD.pure _ | exact KD.unsupported _ | exact KD.field _ _ | exact KD.setField _ _ _ | exact KD.load _ | exact KD.stack | exact KD.alloc _ | apply KD.ite | apply KD.bind | intro _ | split
theorem oq (env:Env) (i:Bool) (l:List Env):KD (keptBack env i l):=by
 have:=cI
 cases l<;>unfold keptBack<;>repeat' with_reducible first | assumption | exact KD.pure _ | exact KD.unsupported _ | exact KD.field _ _ | exact KD.setField _ _ _ | exact KD.load _ | exact KD.stack | exact KD.alloc _ | apply KD.ite | apply KD.bind | intro _ | split
theorem eI:∀ l:List Env,KD (readyFrames l)
 | []=>KD.pure _
 | env::outer=>by
  have ih:=eI outer
  have h1:=gF env outer
  have h2:=λ i=>oq env i outer
  unfold readyFrames
  repeat' with_reducible first | assumption | exact KD.pure _ | exact KD.unsupported _ | exact KD.field _ _ | exact KD.setField _ _ _ | exact KD.load _ | exact KD.stack | exact KD.alloc _ | exact h2 _ | apply KD.ite | apply KD.bind | apply KD.update | intro _ | split
  all_goals (intro o; obtain ⟨c,d,da,sl⟩:=o; cases da<;>exact ⟨rfl,rfl⟩)
theorem ka (l:List Env):KD (frameObject l):=by
 cases l with
 | nil=>exact KD.pure _
 | cons env outer=>
  have:=eI (env::outer)
  unfold frameObject
  repeat' with_reducible first | assumption | exact KD.pure _ | exact KD.unsupported _ | exact KD.field _ _ | exact KD.setField _ _ _ | exact KD.load _ | exact KD.stack | exact KD.alloc _ | apply KD.ite | apply KD.bind | intro _ | split
theorem mB:KD frameEnvs:=by
 unfold frameEnvs
 repeat' with_reducible first | assumption | exact KD.pure _ | exact KD.unsupported _ | exact KD.field _ _ | exact KD.setField _ _ _ | exact KD.load _ | exact KD.stack | exact KD.alloc _ | apply KD.ite | apply KD.bind | intro _ | split
theorem qI (env:Env):KD (OD env):=by
 have h1:=mB
 have h2:=ka
 unfold OD
 repeat' with_reducible first | assumption | exact KD.pure _ | exact KD.unsupported _ | exact KD.field _ _ | exact KD.setField _ _ _ | exact KD.load _ | exact KD.stack | exact KD.alloc _ | exact h2 _ | apply KD.ite | apply KD.bind | intro _ | split
theorem i3 (f:Addr) (hadNext:Bool):KD (entryPlaceOf f hadNext):=by
 unfold entryPlaceOf
 repeat' with_reducible first | assumption | exact KD.pure _ | exact KD.unsupported _ | exact KD.field _ _ | exact KD.setField _ _ _ | exact KD.load _ | exact KD.stack | exact KD.alloc _ | apply KD.ite | apply KD.bind | intro _ | split
theorem ot (a b c d e:Value) (l:List Value):KD (M8 a b c d e l):=by
 unfold M8 newFields newObj newObjAsIs
 repeat' with_reducible first | assumption | exact KD.pure _ | exact KD.unsupported _ | exact KD.field _ _ | exact KD.setField _ _ _ | exact KD.load _ | exact KD.stack | exact KD.alloc _ | apply KD.ite | apply KD.bind | intro _ | split
theorem dm (e:Value) (f:Option Addr):KD (setFlight e f):=by
 unfold setFlight
 repeat' with_reducible first | assumption | exact KD.pure _ | exact KD.unsupported _ | exact KD.field _ _ | exact KD.setField _ _ _ | exact KD.load _ | exact KD.stack | exact KD.alloc _ | apply KD.ite | apply KD.bind | intro _ | split
theorem dq (e:Value) (env:Env):KD (noteFrame e env):=by
 have h1:=qI
 have h2:=i3
 have h3:=ot
 unfold noteFrame
 repeat' with_reducible first | assumption | exact KD.pure _ | exact KD.unsupported _ | exact KD.field _ _ | exact KD.setField _ _ _ | exact KD.load _ | exact KD.stack | exact KD.alloc _ | exact h1 _ | exact h2 _ _ | exact h3 _ _ _ _ _ _ | apply KD.ite | apply KD.bind | intro _ | split
theorem kz (env:Env) (e:Value):KD (leaving env e):=by
 unfold leaving
 exact (dq e env).bind λ _=>dm e _
theorem KD.any {α:Type} {t:Sem α} (k:KD t) {M:Model} {A:Around} {Q:α->Shared->Prop} {E:Value->Shared->Prop} {s:Shared} {e:Addr} {dx:Option Addr} (d:DK e dx s.heap) (h:wpAny M A t Q E s):wpAny M A t (λ a s'=>Q a s'/\DK e dx s'.heap) E s:=
 λ Γ p hΓ=>k.out M Γ _ _ p s e dx d (h Γ p hΓ)
end HT
namespace L2
open PySem PySem.Spec PyProof.Rows
theorem ObjOk.there {w:World} {H:Hp} (x:ObjOk P w H h a o):∃ ob,h.get? a=some ob:=by
 cases o with
 | lst xs=>obtain ⟨_,_,_,_,e⟩:=x; exact ⟨_,e⟩
 | tup xs=>obtain ⟨_,_,_,ob,e,_⟩:=x; exact ⟨ob,e⟩
 | dK kvs=>obtain ⟨_,_,_,_,o,_,_,e,_⟩:=x; exact ⟨_,e⟩
 | dT kvs=>obtain ⟨_,_,_,_,o,_,_,e,_⟩:=x; exact ⟨_,e⟩
 | set S n=>obtain ⟨o,_,_,_,e,_⟩:=x; exact ⟨_,e⟩
 | ins C dx fs=>obtain ⟨_,_,_,e,_⟩:=x; exact ⟨_,e⟩
 | own y=>obtain ⟨_,e⟩:=x; exact ⟨_,e⟩
 | xd fs=>obtain ⟨_,⟨_,_,_,e,_⟩,_⟩:=x; exact ⟨_,e⟩
 | rng lo hi=>obtain ⟨_,_,_,e⟩:=x; exact ⟨_,e⟩
 | frz ob u=>obtain ⟨e,_⟩:=x; exact ⟨_,e⟩
 | tbl ps=>exact ⟨_,(show h.get? a=some _ from x)⟩
 | met f y=>exact ⟨_,(show h.get? a=some _ from x)⟩
 | ext φ=>obtain ⟨_,⟨_,e⟩,_⟩:=x; exact ⟨_,e⟩
noncomputable def Fl (e C:Addr) (H:Hp) (h0 h:Heap):Prop:=
 ∃ oe vs T oT ts a0,h.get? e=some oe/\oe.cls=.ref C/\oe.data=.fields vs/\vs[0]? = some a0/\vs[1]? = some (.ref T)/\T≠e/\h.get? T=some oT/\oT.data=.fields ts/\ts[3]? = some .none/\
  H e=none/\H T=none/\h0.get? e=none/\h0.get? T=none
noncomputable def Dko (e:Addr) (d:Option Addr) (h:Heap):Prop:=match d with | none=>True | some dx=>HT.DK e (some dx) h
noncomputable def CXE (P:Program) (w:World):CXT:=λ outer H s E ev s'=>∃ e C d H',ev=.ref e/\s'.os=s.os/\AllBare s'.gens/\Un (frs outer) [] H H' s.heap s'.heap/\HOk P w H' s'.heap/\Fl e C H' s.heap s'.heap/\Dko e d s'.heap/\E (.ref C) d H'
noncomputable def nI (e C:Addr) (d:Option Addr:=none):HO:=.ext λ h=>∃ o vs,h.get? e=some o/\o.cls=.ref C/\o.data=.fields vs/\∀ dx,d=some dx->o.dict=some dx
theorem zM {w:World} {H:Hp} {e:Addr} {d:Option Addr} {o:Obj} {vs:Array Value} (he:h.get? e=some o) (hc:o.cls=.ref C) (hd:o.data=.fields vs) (hx:Dko e d h):ObjOk P w H h e (nI e C d):=
 ⟨⟨o,vs,he,hc,hd,λ dx q=>by subst q; obtain ⟨o',h',q⟩:=(show HT.DK e (some dx) h from hx); rw [he] at h'; cases h'; exact q⟩,⟨o,he⟩,λ h1 h2 ⟨o,vs,a,b,c,q⟩ k=>⟨o,vs,k _ a,b,c,q⟩⟩
section
variable {X:Cx} {pins:List (Addr×Obj)} {σ:St} {H:Hp} {s:Shared} {h':Heap}
theorem Inv.slip {hid:List Addr} (I:Inv X pins σ H s) (hex:X.ex=[]) (hB:∀ b o,s.heap.get? b=some o->b∉hid->h'.get? b=some o) (hs:s.heap.UpToSlots h')
  (hh:∀ b∈hid,b∈frs X.stack\/(H b=none/\X.s₀.heap.get? b=none/\∀ p∈X.pn++pins,p.1≠b)):Inv X pins σ H { s with heap:=h',toks:=t' }:=by
 have neL:∀ b o,X.s₀.heap.get? b=some o->b≠X.env.locals:=λ b o e=>Iy (Iu (Ip e) I.ok.above)
 have frU:∀ b∈frs X.stack,∀ o,s.heap.get? b=some o->∃ sl,h'.get? b=some { o with slots:=sl }:=λ b hb o e=>by
  obtain ⟨_,o',ho',hd⟩:=I.stack.mem hb
  rw [e] at ho'; cases ho'
  exact hs b o e hd
 have cellK:∀ c v,s.heap.IsCell c v->h'.IsCell c v:=λ c v ⟨o,ho,hd⟩=>by
  obtain ⟨sl,q⟩:=hs c o ho λ vs z=>by rw [hd] at z; cases z
  exact ⟨_,q,hd⟩
 refine ⟨I.ok,I.os,I.bare,⟨λ b o e n hb hx=>?_,λ b o e n hb hx=>?_,I.base.free,λ b o e hx=>?_,I.base.tups,I.base.frzs,I.base.tbls⟩,?_,λ x c e=>?_,I.free,I.freeC,λ p hp=>?_,λ b u e=>?_,I.len⟩
 ·refine hB b o (I.base.keep b o e n hb hx) λ z=>?_
  rcases hh b z with z | ⟨_,z,_⟩
  ·rcases Io.mp (I.stkSub b z) with z | z
   ·exact neL b o e z
   ·exact hb z
  ·rw [z] at e; cases e
 ·obtain ⟨sl,e1⟩:=I.base.slot b o e n hb hx
  obtain ⟨_,o',ho',hd⟩:=I.funs.mem hb
  rw [e1] at ho'; cases ho'
  obtain ⟨sl2,q⟩:=hs b _ e1 hd
  exact ⟨sl2,q⟩
 ·obtain ⟨o',e1⟩:=I.base.there b o e hx
  by_cases z:b∈hid
  ·rcases hh b z with z | ⟨_,z,_⟩
   ·obtain ⟨sl,q⟩:=frU b z o' e1
    exact ⟨_,q⟩
   ·rw [z] at e; cases e
  ·exact ⟨o',hB b o' e1 z⟩
 ·obtain ⟨m,hn,hl⟩:=I.loc
  refine ⟨m,hs.ns hn,λ i x v e1 e2 e3=>?_⟩
  obtain ⟨u,r,l⟩:=hl i x v e1 e2 e3
  refine ⟨u,r,?_⟩
  rcases l with l | ⟨k,c,e,z⟩
  ·exact .inl l
  ·exact .inr ⟨k,c,e,cellK c _ z⟩
 ·obtain ⟨v,z⟩:=I.cell x c e
  exact ⟨v,cellK c v z⟩
 ·obtain ⟨e,n,ne,nf,d⟩:=I.pin p hp
  refine ⟨hB _ _ e λ z=>?_,n,ne,nf,d⟩
  rcases hh _ z with z | ⟨_,_,z⟩
  ·rcases Io.mp (I.stkSub _ z) with z | z
   ·exact ne z
   ·exact nf z
  ·exact z p hp rfl
 ·have nh:∀ c v,H c=some v->c∉hid:=λ c v ec z=>by
   rcases hh c z with z | ⟨z,_⟩
   ·rw [I.stkFree c z] at ec; cases ec
   ·rw [z] at ec; cases ec
  refine (I.hok b u e).stay (λ c v hc q=>hB c v q ?_) (λ _ q=>q) λ _ _ q=>q
  rcases hc with rfl | z
  ·exact nh _ _ e
  ·exact nh _ _ z
theorem Inv.track {e:Addr} {oe:Obj} {vs:Array Value} (I:Inv X pins σ H s) (he:s.heap.get? e=some oe) (hd:oe.data=.fields vs) (hn:H e=none) (h0:X.s₀.heap.get? e=none) (hp:∀ p∈X.pn++pins,p.1≠e)
  (new:ObjOk X.prog X.w (upd H e o) s.heap e o):Inv X pins σ (upd H e o) s:=by
 have neL:X.env.locals≠e:=λ z=>by
  obtain ⟨m,⟨o',es,ep,ho',hd',_⟩,_⟩:=I.loc
  rw [z,he] at ho'; cases ho'; rw [hd] at hd'; cases hd'
 have neT:∀ b u,H b=some u->b≠e:=λ b u q z=>by rw [z,hn] at q; cases q
 refine ⟨I.ok,I.os,I.bare,⟨I.base.keep,I.base.slot,λ b ob q n hx=>?_,I.base.there,λ b xs q=>?_,λ b ob u q=>?_,λ b ps q=>?_⟩,I.loc,I.cell,?_,λ x c q=>?_,λ p hp'=>?_,λ b u q=>?_,I.len⟩
 ·rw [ag (λ z=>by rw [z,h0] at q; cases q)]; exact I.base.free b ob q n hx
 ·have z:=I.base.tups b xs q
  rw [ag (neT _ _ z)]; exact z
 ·have z:=I.base.frzs b ob u q
  rw [ag (neT _ _ z)]; exact z
 ·obtain ⟨more,z⟩:=I.base.tbls b ps q
  exact ⟨more,by rw [ag (neT _ _ z)]; exact z⟩
 ·rw [ag neL]; exact I.free
 ·rw [ag (λ z=>?_)]
  ·exact I.freeC x c q
  ·obtain ⟨v,o',ho',hd'⟩:=I.cell x c q
   rw [z,he] at ho'; cases ho'; rw [hd] at hd'; cases hd'
 ·obtain ⟨a1,a2,a3⟩:=I.pin p hp'
  exact ⟨a1,by rw [ag (hp p hp')]; exact a2,a3⟩
 ·by_cases hb:b=e
  ·subst hb; rw [aa] at q; cases q; exact new
  ·rw [ag hb] at q
   exact (I.hok b u q).stay (λ _ _ _ z=>z) (λ c z=>by rw [ag (neT _ _ z)]; exact z) λ c xs z=>by rw [ag (neT _ _ z)]; exact z
end
noncomputable abbrev XW:=Addr->Option Addr->St->Hp->Prop
noncomputable abbrev TX:=Ends->XW->St->Hp->Prop
noncomputable def Hl (X:Cx) (pins:List (Addr×Obj)) (e C:Addr) (H:Hp) (h:Heap):Prop:=
 ∃ oe vs a0,h.get? e=some oe/\oe.cls=.ref C/\oe.data=.fields vs/\vs[0]? = some a0/\vs[1]? = some .none/\H e=none/\X.s₀.heap.get? e=none/\∀ p∈X.pn++pins,p.1≠e
noncomputable def XP (X:Cx) (pins:List (Addr×Obj)) (Ex:XW) (ev:Value) (s':Shared):Prop:=
  ∃ e C d σ' H',ev=.ref e/\Ex C d σ' H'/\
    ((d=none/\∃ s0 vs,Inv X pins σ' H' s0/\Heap.MadeExcOf s0.heap s'.heap e (.ref C) vs/\s'={ s0 with heap:=s'.heap })\/
     (Dko e d s'.heap/\Inv X pins σ' H' s'/\∃ hb:Heap,Fl e C H' hb s'.heap/\(∀ b o,X.s₀.heap.get? b=some o->∃ o',hb.get? b=some o')/\∀ p∈X.pn++pins,∃ o',hb.get? p.1=some o')\/
     (Dko e d s'.heap/\Inv X pins σ' H' s'/\Hl X pins e C H' s'.heap))
theorem XP.mono {Ex Ex':XW} (k:∀ C d σ H,Ex C d σ H->Ex' C d σ H) {ev:Value} (h:XP X pins Ex ev s'):XP X pins Ex' ev s':=by
 obtain ⟨e,C,d,σ',H',a,b,c⟩:=h
 exact ⟨e,C,d,σ',H',a,k _ _ _ _ b,c⟩
structure QX (X:Cx) (st:Stmt) (t:TX):Prop where
 out:∀ (pins:List (Addr×Obj)) (s:Shared) (σ:St) (H:Hp) (D:Ends) (Ex:XW),Inv X pins σ H s->t D Ex σ H->wpAny (model X.prog X.w) X.A (exec st X.env) (SP X pins D) (XP X pins Ex) s
structure QXs (X:Cx) (sts:List Stmt) (t:TX):Prop where
 out:∀ (pins:List (Addr×Obj)) (s:Shared) (σ:St) (H:Hp) (D:Ends) (Ex:XW),Inv X pins σ H s->t D Ex σ H->wpAny (model X.prog X.w) X.A (execs sts X.env) (SP X pins D) (XP X pins Ex) s
noncomputable abbrev TEX:=St->Hp->VK->(Addr->Option Addr->Hp->Prop)->Prop
structure QEX (X:Cx) (e:Expr) (t:TEX):Prop where
 out:∀ (pins:List (Addr×Obj)) (s:Shared) (σ:St) (H:Hp) (Q:VK) (Ex:Addr->Option Addr->Hp->Prop),Inv X pins σ H s->t σ H Q Ex->wpAny (model X.prog X.w) X.A (eval e X.env) (EP X pins σ Q) (XP X pins λ C d σ' H'=>σ'=σ/\Ex C d H') s
section
variable {X:Cx} {st:Stmt} {sts s1 s2:List Stmt} {T1 T2:TX} {c e:Expr} {es:List Expr} {tA:TT} {te:TE} {t:TA} {pos p:Pos} {x:Str} {i:Nat}
noncomputable def xOf (t:TS):TX:=λ D _ σ H=>t D σ H
theorem wz {t:TS} (h:QS X st t) (hx:∀ e s,X.xe e s->False:=by intro _ _ z; exact z):QX X st (xOf t):=⟨λ pins s σ H D Ex I q=>wpAny_mono (h.out pins s σ H D I q) (λ _ _ z=>z) λ e s z=>(hx e s z).elim⟩
theorem pA {t:TS} (h:QB X sts t) (hx:∀ e s,X.xe e s->False:=by intro _ _ z; exact z):QXs X sts (xOf t):=⟨λ pins s σ H D Ex I q=>wpAny_mono (h.out pins s σ H D I q) (λ _ _ z=>z) λ e s z=>(hx e s z).elim⟩
noncomputable def Gv (t u:TX):TX:=λ D Ex σ H=>t { D with nx:=u D Ex } Ex σ H
theorem cJ (h1:QX X st T1) (h2:QXs X sts T2):QXs X (st::sts) (Gv T1 T2):=⟨by
 intro pins s σ H D Ex I h
 refine wpAny_execs_cons (thn (h1.out pins s σ H { D with nx:=T2 D Ex } Ex I h) λ f s1 q=>?_)
 cases f with
 | next=>
  obtain ⟨σ',H',I',q⟩:=q
  exact h2.out pins s1 σ' H' D Ex I' q
 | ret v=>exact q
 | brk=>exact q
 | cont=>exact q⟩
theorem ou (h1:QX X st T1):QXs X [st] T1:=⟨by
 intro pins s σ H D Ex I h
 refine wpAny_execs_cons (thn (h1.out pins s σ H D Ex I h) λ f s1 q=>?_)
 cases f with
 | next=>exact wpAny_execs_nil q
 | ret v=>exact q
 | brk=>exact q
 | cont=>exact q⟩
noncomputable def xIf (c:TT) (t u:TX):TX:=λ D Ex σ H=>c σ H λ b H1=>if b=true then t D Ex σ H1 else u D Ex σ H1
theorem CC (hc:QT X c tA) (ha:QXs X s1 T1) (hb:QXs X s2 T2) (hx:∀ e s,X.xe e s->False:=by intro _ _ z; exact z):QX X (.If c s1 s2 pos) (xIf tA T1 T2):=⟨by
 intro pins s σ H D Ex I h
 refine wpAny_If (wpAny_mono (hc.out pins s σ H _ I h) (λ d s1 ⟨H1,I1,q1⟩=>?_) λ e s z=>(hx e s z).elim)
 cases d with
 | true=>exact ha.out pins s1 σ H1 D Ex I1 q1
 | false=>exact hb.out pins s1 σ H1 D Ex I1 q1⟩
noncomputable def CD (te:TEX):TX:=λ D Ex σ H=>te σ H (λ _ H1=>D.nx σ H1) λ C d H1=>Ex C d σ H1
noncomputable def Hm (i:Nat) (te:TEX):TX:=λ D Ex σ H=>te σ H (λ v H1=>D.nx (σ.set i (some v)) H1) λ C d H1=>Ex C d σ H1
variable {tx:TEX}
theorem xpX {Ex:XW} {ev:Value} {s:Shared} (h:XP X pins (λ C d σ' H'=>σ'=σ/\Ex C d σ H') ev s):XP X pins Ex ev s:=h.mono λ C d σ' H' ⟨a,b⟩=>a▸b
theorem zN (he:QEX X e tx) (hs:swapsWith e none pos.line X.env=pure false:=by rfl):QX X (.Expr e pos) (CD tx):=⟨by
 intro pins s σ H D Ex I h
 exact wpAny_Expr_any (wpAny_mono (he.out pins s σ H _ _ I h) (λ v s1 ⟨x,H1,I1,r1,q1⟩=>⟨σ,H1,I1,q1⟩) λ _ _ z=>xpX z) I.quiet hs⟩
noncomputable def CF (sp:Sp) (t:TA):TEX:=λ σ H Q Ex=>t σ H λ vs H1=>sp vs H1 Q λ c d H2=>∃ C,c=.ref C/\Ex C d H2
theorem zO {fd:FuncData} {ps:List Str} {sp:Sp} {H:Hp} {s:Shared} {Q:VK} {Ex:Addr->Option Addr->Hp->Prop} {vs:List V} (F:FnOk X.prog X.w X.K X.mg X.base (CXE X.prog X.w) k f fd ps sp) (hr:Room k X.A) (hb:Binds X.K fd ps []) (hex:X.ex=[])
  (I:Inv X pins σ H s) (r:Vals vs us) (h:sp vs H Q λ c d H2=>∃ C,c=.ref C/\Ex C d H2):wpAny (model X.prog X.w) X.A (call (.ref f) us) (EP X pins σ Q) (XP X pins λ C d σ' H'=>σ'=σ/\Ex C d H') s:=by
 have hl:(us++[]).length=ps.length:=by rw [Kp,<-r.length]; exact F.len _ _ _ _ h
 refine wpAny_call (codeAny_mono (F.run X.A X.stack s H ⟨us,[]⟩ us vs Q _ hr I.env0 (by have:=hb s us I.kIn hl; rwa [Kp] at this) r h) λ r s' hq=>?_)
 cases r with
 | error e=>
  obtain ⟨ea,C,d0,H',rfl,os,bare,un,hok,fl,dk,C',hC,q⟩:=hq
  cases hC
  have I':Inv X pins σ H' s':=by
   obtain ⟨hh,g,d,t,os'⟩:=s'
   obtain rfl:os'=s.os:=os
   exact I.call (h':=hh) (g':=g) (d':=d) (t':=t) (ch:=[]) un hok bare (λ b z=>absurd z (by simp))
  refine ⟨ea,C,d0,σ,H',rfl,⟨rfl,q⟩,.inr (.inl ⟨dk,I',s.heap,fl,λ b o z=>I.base.there b o z (by rw [hex]; simp),λ p hp=>⟨_,(I.pin p hp).1⟩⟩)⟩
 | ok fl=>
  cases fl with
  | ret u=>exact I.after hq
  | next=>exact IV hq
  | brk=>exact IV hq
  | cont=>exact IV hq
theorem pB {fd:FuncData} {ps:List Str} {sp:Sp} (F:FnOk X.prog X.w X.K X.mg X.base (CXE X.prog X.w) k f fd ps sp) (hr:Room k X.A) (hg:Gl X x) (hm:X.mg x=some (.ref f)) (hk:Jk X.K (.ref f)=true) (hb:Binds X.K fd ps [])
  (ha:QA X (e::es) t) (hn:(e::es).all bA=true:=by rfl) (hdb:(x == ("__debug__" : Str))=false:=by decide) (hex:X.ex=[]:=by rfl) (hx:∀ e s,X.xe e s->False:=by intro _ _ z; exact z):QEX X (.Call (.Name x p) (e::es) [] pos) (CF sp t):=⟨by
 rw [Kb,IY] at hn
 intro pins s σ H Q Ex I h
 refine wpAny_Call_Name_kw (cG I hg hm ?_ hdb)
 refine Kl (h₀:=X.base) I.ok.mod.kin hk (wpAny_mono (ha.out pos pins s σ H _ I h) (λ us s1 ⟨vs,H1,I1,r,q⟩=>⟨I1.kIn,?_⟩) λ e s z=>(hx e s z).elim) (aB hn.1) (bT hn.2)
 exact zO F hr hb hex I1 r q⟩
end
section
variable {X:Cx} {pins:List (Addr×Obj)} {σ:St} {H:Hp} {s:Shared} {h':Heap}
theorem Inv.unseen {hid:List Addr} (I:Inv X pins σ H s) (hex:X.ex=[]) (hn:(KE s.heap hid).get? b=none)
  (hh:∀ c∈hid,c∈frs X.stack\/(H c=none/\X.s₀.heap.get? c=none/\∀ p∈X.pn++pins,p.1≠c))
  (hf:b∈frs X.stack->b=X.env.locals):H b=none/\X.s₀.heap.get? b=none/\(b∉frs X.stack->∀ p∈X.pn++pins,p.1≠b):=by
 refine ⟨?_,?_,λ hb p hp z=>?_⟩
 ·cases q:H b with
  | none=>rfl
  | some u=>
   obtain ⟨ob,e⟩:=(I.hok b u q).there
   have:=JP hid e λ z=>by
    rcases hh b z with z | ⟨z,_⟩
    ·rw [I.stkFree b z] at q; cases q
    ·rw [z] at q; cases q
   rw [hn] at this; cases this
 ·cases q:X.s₀.heap.get? b with
  | none=>rfl
  | some o=>
   obtain ⟨o',e⟩:=I.base.there b o q (by rw [hex]; simp)
   have:=JP hid e λ z=>by
    rcases hh b z with z | ⟨_,z,_⟩
    ·have:=hf z
     exact absurd (Iu (Ip q) I.ok.above) (by rw [this]; exact Jr _)
    ·rw [z] at q; cases q
   rw [hn] at this; cases this
 ·obtain ⟨e,n,ne,nf,d⟩:=I.pin p hp
  have:=JP hid e λ z=>by
   rcases hh _ z with z' | ⟨_,_,z'⟩
   ·rcases Io.mp (I.stkSub _ z') with z | z
    ·exact ne z
    ·exact nf z
   ·exact z' p hp rfl
  rw [z,hn] at this; cases this
theorem Dko.any {α:Type} {t:Sem α} (k:HT.KD t) {M:Model} {A:Around} {Q:α->Shared->Prop} {E:Value->Shared->Prop} {s:Shared} {e:Addr} {d:Option Addr} (hd:Dko e d s.heap) (h:wpAny M A t Q E s):wpAny M A t (λ a s'=>Q a s'/\Dko e d s'.heap) E s:=by
 cases d with
 | none=>exact wpAny_mono h (λ _ _ z=>⟨z,trivial⟩) λ _ _ z=>z
 | some dx=>exact k.any hd h
theorem XP.leave {w:World} {K:Ih} {mg:Str->Option Value} {base:Heap} {N:List Str} {cd:Value} {A:Around} {outer:List Env} {s0:Shared} {H0:Hp} {E:XK} {ev:Value} 
  (h:XP (lS (CXE P w) P w K mg base N qual scope f cd A outer s0 H0 E).nox pins (λ C d _ H'=>E (.ref C) d H') ev s') :
  (lS (CXE P w) P w K mg base N qual scope f cd A outer s0 H0 E).xe ev s':=by
 obtain ⟨e,C,dd,σ',H',rfl,q,h⟩:=h
 show wpAny (model P w) (A.deeper (envOfC qual scope s0.heap.objs.size f cd)) (leaving (envOfC qual scope s0.heap.objs.size f cd) (.ref e)) _ _ s'
 rcases h with ⟨rfl,s1,vs,I,hm,es⟩ | ⟨dk,I,hb,fl,c1,c2⟩ | ⟨dk,I,oe,ws,a0,he,hc,hd,h0,h1,e1,e2,e3⟩
 ·have I:=I.unwish
  have hfr:(A.deeper (envOfC qual scope s0.heap.objs.size f cd)).frames=some (envOfC qual scope s0.heap.objs.size f cd::outer):=I.ok.frames
  have hin:∀ env∈(envOfC qual scope s0.heap.objs.size f cd::outer),∀ b,env.frame=some b->b∈frs (envOfC qual scope s0.heap.objs.size f cd::outer):=λ env he b hb=>JI.mpr ⟨env,he,hb⟩
  have hh:∀ c∈frs (envOfC qual scope s0.heap.objs.size f cd::outer),c∈frs (envOfC qual scope s0.heap.objs.size f cd::outer)\/(H' c=none/\s0.heap.get? c=none/\∀ p∈([]:List (Addr×Obj))++pins,p.1≠c):=λ c z=>.inl z
  refine wpAny_leaves_madeW (base:=KE s1.heap (frs (envOfC qual scope s0.heap.objs.size f cd::outer))) hfr rfl (λ b o q=>K3 _ q) (Lg I.stack hin) hm λ h' t x1 x2 x3 x4=>?_
  have up:s1.heap.UpToSlots h':=(My hm.keeps).trans x4
  have J:Inv (lS (CXE P w) P w K mg base N qual scope f cd A outer s0 H0 E) pins σ' H' { s1 with heap:=h',toks:=s1.toks }:=I.slip rfl (λ b o e n=>x1.1 b o (JP _ e n)) up hh
  obtain ⟨f1,f2,f3,oe,ws,T,oT,ts,he,hc,hd,h1,hnT,hTe,hT,hdT,h3⟩:=x1
  have nfr:∀ b ob vs,h'.get? b=some ob->ob.data=.fields vs->b∈frs (envOfC qual scope s0.heap.objs.size f cd::outer)->b=s0.heap.objs.size:=λ b ob vs e d z=>by
   rcases Io.mp (I.stkSub b z) with z | z
   ·exact z
   ·obtain ⟨_,o',ho',hd'⟩:=f3.mem z
    rw [e] at ho'; cases ho'; exact absurd d (hd' _)
  obtain ⟨e1,e2,_⟩:=I.unseen rfl f2 hh (nfr e oe ws he hd)
  obtain ⟨t1,t2,_⟩:=I.unseen rfl hnT hh (nfr T oT ts hT hdT)
  rw [es]
  exact ⟨e,C,none,H',rfl,J.os,J.bare,J.base,J.hok,⟨oe,ws,T,oT,ts,.ref t,he,hc.1,hd,hc.2,h1,hTe,hT,hdT,h3,e1,t1,e2,t2⟩,trivial,q⟩
 ·have I:=I.unwish
  obtain ⟨oe,ws,T,oT,ts,a0,he,hc,hd,h0,h1,hTe,hT,hdT,h3,e1,t1,e2,t2⟩:=fl
  have hfr:(A.deeper (envOfC qual scope s0.heap.objs.size f cd)).frames=some (envOfC qual scope s0.heap.objs.size f cd::outer):=I.ok.frames
  have hin:∀ env∈(envOfC qual scope s0.heap.objs.size f cd::outer),∀ b,env.frame=some b->b∈T::e::frs (envOfC qual scope s0.heap.objs.size f cd::outer):=λ env he b hb=>IG _ (IG _ (JI.mpr ⟨env,he,hb⟩))
  have fresh:∀ b,hb.get? b=none->s0.heap.get? b=none/\∀ p∈([]:List (Addr×Obj))++pins,p.1≠b:=λ b z=>by
   constructor
   ·cases q:s0.heap.get? b with
    | none=>rfl
    | some o=>obtain ⟨o',z'⟩:=c1 b o q; rw [z] at z'; cases z'
   ·intro p hp y
    obtain ⟨o',z'⟩:=c2 p hp
    rw [y,z] at z'; cases z'
  have hh:∀ c∈T::e::frs (envOfC qual scope s0.heap.objs.size f cd::outer),c∈frs (envOfC qual scope s0.heap.objs.size f cd::outer)\/(H' c=none/\s0.heap.get? c=none/\∀ p∈([]:List (Addr×Obj))++pins,p.1≠c):=λ c z=>by
   rcases Io.mp z with rfl | z
   ·exact .inr ⟨t1,(fresh _ t2).1,(fresh _ t2).2⟩
   ·rcases Io.mp z with rfl | z
    ·exact .inr ⟨e1,(fresh _ e2).1,(fresh _ e2).2⟩
    ·exact .inl z
  have FW:KQ (KE s'.heap (T::e::frs (envOfC qual scope s0.heap.objs.size f cd::outer))) (envOfC qual scope s0.heap.objs.size f cd::outer) e (.ref C) a0 s'.heap:=
   ⟨λ b o q=>K3 _ q,Kv _ (by simp),Lg I.stack hin,oe,ws,T,oT,ts,he,⟨hc,h0⟩,hd,h1,Kv _ (by simp),hTe,hT,hdT,h3⟩
  refine wpAny_mono (Dko.any (HT.kz _ _) dk (Q:=λ _ s2=>s2.os=s0.os/\AllBare s2.gens/\Un (frs outer) [] H0 H' s0.heap s2.heap/\HOk P w H' s2.heap/\Fl e C H' s0.heap s2.heap) ?_) (λ _ s2 ⟨⟨b1,b2,b3,b4,b5⟩,b6⟩=>⟨e,C,dd,H',rfl,b1,b2,b3,b4,b5,b6,q⟩) λ _ _ z=>z
  refine wpAny_leaves_onW hfr rfl FW λ h' x1 up=>?_
  have J:Inv (lS (CXE P w) P w K mg base N qual scope f cd A outer s0 H0 E) pins σ' H' { s' with heap:=h',toks:=s'.toks }:=I.slip rfl (λ b o e n=>x1.1 b o (JP _ e n)) up hh
  obtain ⟨f1,f2,f3,oe,ws,T',oT,ts,he,hc,hd,h1,hnT,hTe,hT,hdT,h3⟩:=x1
  have nfr:∀ b ob vs,h'.get? b=some ob->ob.data=.fields vs->b∈frs (envOfC qual scope s0.heap.objs.size f cd::outer)->b=s0.heap.objs.size:=λ b ob vs e d z=>by
   rcases Io.mp (I.stkSub b z) with z | z
   ·exact z
   ·obtain ⟨_,o',ho',hd'⟩:=f3.mem z
    rw [e] at ho'; cases ho'; exact absurd d (hd' _)
  obtain ⟨e1,e2,_⟩:=I.unseen rfl f2 hh (nfr e oe ws he hd)
  obtain ⟨t1,t2,_⟩:=I.unseen rfl hnT hh (nfr T' oT ts hT hdT)
  exact ⟨J.os,J.bare,J.base,J.hok,⟨oe,ws,T',oT,ts,a0,he,hc.1,hd,hc.2,h1,hTe,hT,hdT,h3,e1,t1,e2,t2⟩⟩
 ·have I:=I.unwish
  have hfr:(A.deeper (envOfC qual scope s0.heap.objs.size f cd)).frames=some (envOfC qual scope s0.heap.objs.size f cd::outer):=I.ok.frames
  have hin:∀ env∈(envOfC qual scope s0.heap.objs.size f cd::outer),∀ b,env.frame=some b->b∈e::frs (envOfC qual scope s0.heap.objs.size f cd::outer):=λ env he b hb=>IG _ (JI.mpr ⟨env,he,hb⟩)
  have hh:∀ c∈e::frs (envOfC qual scope s0.heap.objs.size f cd::outer),c∈frs (envOfC qual scope s0.heap.objs.size f cd::outer)\/(H' c=none/\s0.heap.get? c=none/\∀ p∈([]:List (Addr×Obj))++pins,p.1≠c):=λ c z=>by
   rcases Io.mp z with rfl | z
   ·exact .inr ⟨e1,e2,e3⟩
   ·exact .inl z
  refine wpAny_mono (Dko.any (HT.kz _ _) dk (Q:=λ _ s2=>s2.os=s0.os/\AllBare s2.gens/\Un (frs outer) [] H0 H' s0.heap s2.heap/\HOk P w H' s2.heap/\Fl e C H' s0.heap s2.heap) ?_) (λ _ s2 ⟨⟨b1,b2,b3,b4,b5⟩,b6⟩=>⟨e,C,dd,H',rfl,b1,b2,b3,b4,b5,b6,q⟩) λ _ _ z=>z
  refine wpAny_leaving_firstW (base:=KE s'.heap (e::frs (envOfC qual scope s0.heap.objs.size f cd::outer))) hfr (Lg I.stack hin) rfl he (λ b o q=>K3 _ q) (Kv _ (by simp)) hd h1 h0 λ h' hL=>?_
  obtain ⟨k1,⟨_,_,k2⟩,k3,up⟩:=hL
  have x1:KQ (KE s'.heap (e::frs (envOfC qual scope s0.heap.objs.size f cd::outer))) outer e oe.cls a0 h':=⟨k1,Kv _ (by simp),k2,k3⟩
  rw [hc] at x1
  have J:Inv (lS (CXE P w) P w K mg base N qual scope f cd A outer s0 H0 E) pins σ' H' { s' with heap:=h',toks:=s'.toks }:=I.slip rfl (λ b o e n=>x1.1 b o (JP _ e n)) up hh
  obtain ⟨f1,f2,f3,oe,ws,T',oT,ts,he,hc,hd,h1,hnT,hTe,hT,hdT,h3⟩:=x1
  have nfr:∀ b ob vs,h'.get? b=some ob->ob.data=.fields vs->b∈frs (envOfC qual scope s0.heap.objs.size f cd::outer)->b=s0.heap.objs.size:=λ b ob vs e d z=>by
   rcases Io.mp (I.stkSub b z) with z | z
   ·exact z
   ·obtain ⟨_,o',ho',hd'⟩:=f3.mem z
    rw [e] at ho'; cases ho'; exact absurd d (hd' _)
  obtain ⟨e1,e2,_⟩:=I.unseen rfl f2 hh (nfr e oe ws he hd)
  obtain ⟨t1,t2,_⟩:=I.unseen rfl hnT hh (nfr T' oT ts hT hdT)
  exact ⟨J.os,J.bare,J.base,J.hok,⟨oe,ws,T',oT,ts,a0,he,hc.1,hd,hc.2,h1,hTe,hT,hdT,h3,e1,t1,e2,t2⟩⟩
end
section
variable {P:Program} {w:World} {K:Ih} {mg:Str->Option Value} {base:Heap}
theorem Fun.okX {x:Str} {st:Stmt} {fd:FuncData} {N ps:List Str} {sp:Sp} (F:Fun K x qual st f fd) (S:FnScope N ps (ae st)) (len:∀ vs H Q E,sp vs H Q E->vs.length=ps.length)
  (hbody:∀ (cdv:Value) (A:Around) (outer:List Env) (s:Shared) (H:Hp) (vs:List V) (Q:VK) (E:XK),Room k (A.deeper (envOfC qual (ae st) s.heap.objs.size f cdv))->sp vs H Q E->
   ∃ t,QXs (lS CX0 P w K mg base N qual (ae st) f cdv A outer s H E).nox (bE st) t/\t { nx:=λ _ H'=>Q .non H',rt:=Q } (λ C d _ H'=>E (.ref C) d H') (aI N vs) H):FnOk P w K mg base (CXE P w) (k+1) f fd ps sp:=by
 obtain ⟨oc,od,kV,doc,pm,an,cdv,ct,osl,rfl,lk,hcd⟩:=F.ex
 refine zc lk hcd S len λ A outer s H vs Q E hr hsp=>?_
 obtain ⟨t,h,q⟩:=hbody cdv A outer s H vs Q E hr hsp
 have h:QXs (lS (CXE P w) P w K mg base N qual (ae st) f cdv A outer s H E).nox (bE st) t:=h
 refine ⟨λ D σ H1=>t D (λ C d _ H'=>E (.ref C) d H') σ H1,λ pins s1 σ H1 D I q1=>?_,q⟩
 exact wpAny_mono (h.out pins s1 σ H1 D _ (I.wish _) q1) (λ _ _ z=>z.unwish) λ ev s' z=>XP.leave z
end
end L2
namespace L2
open PySem PySem.Spec PyProof.Rows PySem.W
structure XCl (K:Frag) (C:Addr):Prop where
 ga:findIn K (.ref C) "__getattribute__" = some (some (.builtin "BaseException.__getattribute__"))
 cl:findIn K (.ref C) "__class__" = some (some (.builtin "object.__class__"))
 gt:findIn K (.ref C) "__getattr__" = some none
 mb:mroIn K C (.type "BaseException")=some true
 mo:mroIn K C (.type "object")=some true
 cs:(clsIn K C).isSome=true
section
variable {prog:Program} {w:World} {A:Around} {E:Value->Shared->Prop} {h:Heap} {g:Array GenState} {d:Drawn} {t:Nat} {os:OsState} {K:Frag} {a C:Addr} {o:Obj} {vs:Array Value}
theorem CG {R:Result->Shared->Prop} (X:K.In h) (c:XCl K C) (hx:h.get? a=some o) (hc:o.cls=.ref C) (hq:R (.ok (.ret (.ref C))) ⟨h,g,d,t,os⟩) :
  codeAny (model prog w) A (.call (.builtin "getset_descriptor.__get__") ⟨[.builtin "object.__class__",.ref a,.ref C],[]⟩) R ⟨h,g,d,t,os⟩:=by
 have L0:Looks (model prog w) h (typeOf (.ref a)) (.ref C):=hc▸(Looks.ld hx).andThen .now
 have L1:=looks_mroIn (M:=model prog w) X c.mo
 have f5:(⟨h,g,d,t,os⟩:Shared).TypeIs (.builtin "object.__class__") "getset_descriptor":=MV
 have sl:=OE
 refine codeAny_call_builtin sl.plain F.entry_gs_get (sl.check _ _ _ _ _ _ _ _ f5 (F.args_gs_get _ _ _) ?_)
 unfold Builtin.«getset_descriptor.__get__» NP
 rw [dga_obj]
 refine wpAny_bind (wpAny_pure ?_)
 unfold Na MK MM isInstance
 simp only [KF.owner_class]
 repeat lk
 refine ⟨LV _ (by decide +kernel),codeAny_builtin KF.entry_class ?_⟩
 unfold Builtin.«object.__class__» shownTypeOf
 repeat lk
 exact hq
theorem wA {tk:Tok} {Q:Fin->Shared->Prop} (X:K.In h) (c:XCl K C) (hx:h.get? a=some o) (hc:o.cls=.ref C) (hq:Q (.done (.ret (.ref C))) ⟨h,g,d,t,os⟩) :
  wpAny (model prog w) A (Builtin.«object.__getattribute__» ⟨[.ref a,.str "__class__" tk],[]⟩) Q E ⟨h,g,d,t,os⟩:=by
 have L0:Looks (model prog w) h (typeOf (.ref a)) (.ref C):=hc▸(Looks.ld hx).andThen .now
 have L1:=looks_findIn (M:=model prog w) X c.cl
 have f5:=MV
 have f6:=OE.lookup
 have f7:=F.slot_gs_set.lookup
 repeat (any_goals (first | assumption | with_reducible refine Looks.at L0 ?_ | with_reducible refine Looks.at L1 ?_ | wp_step))
 refine CG X c hx hc ?_
 repeat (any_goals (first | assumption | wp_step))
theorem pC {M:Model} {v:Value} {Q:Unit->Shared->Prop} (X:K.In h) (c:XCl K C) (hx:h.get? a=some o) (hc:o.cls=.ref C) (hq:Q () ⟨h,g,d,t,os⟩) :
  wpAny M A (checkBuiltinCall "BaseException.__getattribute__" ⟨[.ref a,v],[]⟩) Q E ⟨h,g,d,t,os⟩:=by
 have kd:builtinKind "BaseException.__getattribute__" = some .slot:=by decide +kernel
 have sp:splitId "BaseException.__getattribute__" = some ("BaseException","__getattribute__"):=by decide +kernel
 have L0:Looks M h (typeOf (.ref a)) (.ref C):=hc▸(Looks.ld hx).andThen .now
 have L3:=looks_mroIn (M:=M) X c.mb
 have ar:=F.args_bexc_ga (.ref a) v
 simp only [checkBuiltinCall,kd,sp]
 refine wpAny_bind ?_
 unfold isInstance
 repeat (first | with_reducible refine Looks.at L0 ?_ | with_reducible refine Looks.at L3 ?_ | wp_step)
 exact hq
theorem Fk {tk:Tok} (X:K.In h) (c:XCl K C) (hx:h.get? a=some o) (hc:o.cls=.ref C) (hq:Q (.ref C) ⟨h,g,d,t,os⟩) :
  wpAny (model prog w) A (getAttrBy (.ref a) (.str "__class__" tk) false) Q E ⟨h,g,d,t,os⟩:=by
 have L0:Looks (model prog w) h (typeOf (.ref a)) (.ref C):=hc▸(Looks.ld hx).andThen .now
 have L1:=looks_findIn (M:=model prog w) X c.ga
 have L2:=looks_findIn (M:=model prog w) X c.gt
 have L3:=looks_mroIn (M:=model prog w) X c.mb
 have sl:=NQ.ga
 have bnd:=sl.bind (.ref a)
 have ne:(onTheHeap (IT C) && Kc "BaseException.__getattribute__" == Kc "object.__getattribute__")=false:=by
  rw [show (Kc "BaseException.__getattribute__" == Kc "object.__getattribute__")=false from by decide +kernel,MW]
 repeat (any_goals (first | assumption | with_reducible refine Looks.at L0 ?_ | with_reducible refine Looks.at L1 ?_ | with_reducible refine Looks.at L2 ?_ | wp_step))
 refine codeAny_call_builtin sl.plain Ol (pC X c hx hc (wA X c hx hc ?_))
 repeat (any_goals (first | assumption | wp_step))
theorem zP {Q:Option Value->Shared->Prop} (X:K.In h) (c:XCl K C) (hx:h.get? a=some o) (hc:o.cls=.ref C) (hq:Q (some (.ref C)) ⟨h,g,d,t+1,os⟩):wpAny (model prog w) A (getAttr? (.ref a) "__class__") Q E ⟨h,g,d,t,os⟩:=by
 unfold getAttr? getAttrBy?
 repeat (any_goals (first | assumption | with_reducible apply Fk X c hx hc | wp_step))
theorem pD (c:XCl K C):KitX K (.ref a) (.ref C) (λ h=>∃ o vs,h.get? a=some o/\o.cls=.ref C/\o.data=.fields vs) where
 ty:=λ M h _ ⟨o,vs,h1,h2,_⟩=>h2▸(Looks.ld h1).andThen .now
 it:=λ M h X _=>by
  have q:=c.cs
  unfold clsIn at q
  split at q
  ·rename_i ho
   intro A' Q' E' s' k z
   unfold isType loadHead
   exact wpAny_bind (wpAny_loadPart (k _ _ (X _ _ ho)) (wpAny_pure z))
  ·cases q
 ne:=λ h tp dd its n sl X htp=>by
  have q:=c.cs
  unfold clsIn at q
  split at q
  ·rename_i ho
   refine Bool.eq_false_iff.mpr λ z=>?_
   have e:C=tp:=PQ (beq_iff_eq.mp z)
   rw [<-e,X _ _ ho] at htp
   cases htp
  ·cases q
 ca:=λ {prog w A E Q s} X ⟨o,vs,h1,h2,_⟩ k=>by obtain ⟨h,g,d,t,os⟩:=s; exact zP X c h1 h2 k
end
inductive TyX (K:Frag) (H:Hp):V->Value->Prop where
 | non:TyX K H .non (.type "NoneType")
 | exc {a C:Addr} {d:Option Addr} (e:H a=some (nI a C d)) (c:XCl K C):TyX K H (.ref a) (.ref C)
noncomputable def clV:V->Value
 | .ref a=>.ref a
 | .ty n=>.type n
 | _=>.none
noncomputable def DO:V->Bool
 | .ref _=>true
 | .ty _=>true
 | _=>false
theorem xP (h:DO v=true) (r:RelV v u):u=clV v:=by
 cases v<;>first | exact r | cases h
theorem tQ:∀ {xs:List V} {us:List Value},(xs.all DO)=true->Vals xs us->us=xs.map clV
 | _,_,_,.nil=>rfl
 | _,_,h,.cons r t=>by
  rw [Kb,IY] at h
  rw [Jy,xP h.1 r,tQ h.2 t]
noncomputable def Fo (K:Frag):RC:=λ xs H Q=>∃ x t c b,xs=[x,c]/\DO c=true/\TyX K H x t/\kitOne K t (clV c)=some b/\Q (.bl b) H
noncomputable def Fp (K:Frag):RC:=λ xs H Q=>∃ x t tp cs b,xs=[x,.ref tp]/\H tp=some (.tup cs)/\cs.all DO=true/\TyX K H x t/\kitAny K t (cs.map clV)=some b/\Q (.bl b) H
section
variable {X:Cx}
theorem tR {K:Frag} (hK:X.K=K:=by rfl):QC X (.builtin "isinstance") (Fo K):=by
 subst hK
 refine ⟨λ pins s σ H xs us Q I r h=>?_⟩
 obtain ⟨x,t,c,b,rfl,hc,ty,e,q⟩:=h
 cases r with
 | cons rx rr=>
  cases rr with
  | cons ry rr=>
   cases rr
   rw [xP hc ry]
   have fin:∀ tk,EP X pins σ Q (.bool b) { s with toks:=tk }:=λ tk=>⟨.bl b,H,I.tok _,rfl,q⟩
   cases ty with
   | non=>cases (show _=IW from rx); exact kia_one kitx_none I.kIn IS e (λ z=>nomatch z) fin
   | @exc a C d ea cl=>
    cases rx
    obtain ⟨⟨o,vs,p1,p2,p3,_⟩,_⟩:=(show ObjOk X.prog X.w H s.heap a (nI a C d) from I.hok a _ ea)
    exact kia_one (pD cl) I.kIn ⟨o,vs,p1,p2,p3⟩ e (λ z=>nomatch z) fin
theorem zQ {K:Frag} (hK:X.K=K:=by rfl):QC X (.builtin "isinstance") (Fp K):=by
 subst hK
 refine ⟨λ pins s σ H xs us Q I r h=>?_⟩
 obtain ⟨x,t,tp,cs,b,rfl,htp,hcs,ty,e,q⟩:=h
 cases r with
 | cons rx rr=>
  cases rr with
  | cons ry rr=>
   cases rr
   cases ry
   obtain ⟨_,its,rv,⟨⟨c0,dd,dt,sl⟩,g1,g2,n,g3⟩⟩:=(show ObjOk X.prog X.w H s.heap tp (.tup cs) from I.hok tp _ htp)
   have g2':c0=.type "tuple":=g2
   have g3':dt=.seq its.toArray n:=g3
   subst g2' g3'
   rw [tQ hcs rv] at g1
   have fin:∀ tk,EP X pins σ Q (.bool b) { s with toks:=tk }:=λ tk=>⟨.bl b,H,I.tok _,rfl,q⟩
   cases ty with
   | non=>cases (show _=IW from rx); exact kia_tup kitx_none I.kIn IS g1 e (λ z=>nomatch z) fin
   | @exc a C d ea cl=>
    cases rx
    obtain ⟨⟨o,vs,p1,p2,p3,_⟩,_⟩:=(show ObjOk X.prog X.w H s.heap a (nI a C d) from I.hok a _ ea)
    exact kia_tup (pD cl) I.kIn ⟨o,vs,p1,p2,p3⟩ g1 e (λ z=>nomatch z) fin
theorem pE {x:Str} (hg:Gl X x) (hm:X.mg x=some (.ref C)) (hd:(x == ("__debug__" : Str))=false:=by decide):QE X (.Name x pos) (tC (.ref C)):=⟨rO hg hm (v:=.ref C) rfl hd⟩
end
noncomputable abbrev veB:List Value:=[.type "ValueError",.type "Exception",.type "BaseException",.type "object"]
section
variable {X:Cx} {e:Expr} {es:List Expr} {t:TA} {np cpos pos p:Pos} {x:Str} {C:Addr}
end
noncomputable abbrev fM (X:Cx) (e:Addr):Cx:={ X with A:=X.A.mark (some (.ref e)),calm:=false,xe:=λ _ _=>False }
section
variable {X:Cx} {pins:List (Addr×Obj)} {σ:St} {H:Hp} {s:Shared}
theorem Inv.mark (I:Inv X pins σ H s) (e:Addr):Inv (fM X e) pins σ H s:=
 ⟨⟨I.ok.mod,I.ok.kind,I.ok.glob,I.ok.blt,I.ok.above,I.ok.inj,I.ok.has,I.ok.cab,(λ z=>nomatch z),I.ok.frames,I.ok.stk,I.ok.exf,I.ok.bs,I.ok.bsz,I.ok.noex,I.ok.exfs,I.ok.funs,I.ok.frf⟩,I.os,I.bare,I.base,I.loc,I.cell,I.free,I.freeC,I.pin,I.hok,I.len⟩
theorem Inv.unmark {e:Addr} (I:Inv (fM X e) pins σ H s) (hd:X.calm=true->X.A.handled=none):Inv X pins σ H s:=
 ⟨⟨I.ok.mod,I.ok.kind,I.ok.glob,I.ok.blt,I.ok.above,I.ok.inj,I.ok.has,I.ok.cab,hd,I.ok.frames,I.ok.stk,I.ok.exf,I.ok.bs,I.ok.bsz,I.ok.noex,I.ok.exfs,I.ok.funs,I.ok.frf⟩,I.os,I.bare,I.base,I.loc,I.cell,I.free,I.freeC,I.pin,I.hok,I.len⟩
theorem fN {M:Model} {A:Around} {E:Value->Shared->Prop} {n:Str} {Q:Unit->Shared->Prop} (I:Inv X pins σ H s) (hN:X.N.Nodup) (hi:X.N[i]? = some n) (hl:X.env.scope.names.lookup n=some .local)
  (h:∀ s',Inv X pins (σ.set i none) H s'->Q () s'):wpAny M A (do bindName X.env n .none; unbindBehindTheSuite X.env n pos) Q E s:=by
 obtain ⟨m,hn,hlk⟩:=id I.loc
 have hcls:(X.env.scope.kind == .class || (X.env.scope.kind == .module && X.env.locals != X.env.globals))=false:=by rw [I.ok.kind]; rfl
 refine wpAny_nameGoes_keeps hl hn hcls λ h' v hn' hs=>h _ ?_
 have low:∀ b o,X.s₀.heap.get? b=some o->b≠X.env.locals:=λ b o e=>Iy (Iu (Ip e) I.ok.above)
 refine ⟨I.ok,I.os,I.bare,⟨λ b o e n hb hx=>(hs.2 b (low b o e)).trans (I.base.keep b o e n hb hx),λ b o e n hb hx=>?_,I.base.free,λ b o e hx=>?_,I.base.tups,I.base.frzs,I.base.tbls⟩,⟨_,hn',λ j y v' e1 e2 e3=>?_⟩,λ y c e=>?_,I.free,I.freeC,λ p hp=>?_,λ b u e=>?_,by simpa using I.len⟩
 ·obtain ⟨sl,e1⟩:=I.base.slot b o e n hb hx
  exact ⟨sl,(hs.2 b (low b o e)).trans e1⟩
 ·obtain ⟨o',e1⟩:=I.base.there b o e hx
  exact ⟨o',(hs.2 b (low b o e)).trans e1⟩
 ·by_cases hj:j=i
  ·subst hj
   rw [List.getElem?_set] at e2
   split at e2
   ·split at e2<;>cases e2
   ·rename_i z; exact absurd rfl z
  ·rw [Lu (Jj hj)] at e2
   obtain ⟨u',r',q⟩:=hlk j y v' e1 e2 e3
   refine ⟨u',r',?_⟩
   rcases q with ⟨k,e⟩ | ⟨k,c,e,z⟩
   ·have ny:y≠n:=λ e=>hj (lg hN e1 (e▸hi))
    exact .inl ⟨k,by simp [ny,e]⟩
   ·exact .inr ⟨k,c,e,z.sameBut hs (I.cne y c e)⟩
 ·obtain ⟨w',z⟩:=I.cell y c e
  exact ⟨w',z.sameBut hs (I.cne y c e)⟩
 ·obtain ⟨e,n,ne,nf,d⟩:=I.pin p hp
  exact ⟨(hs.2 p.1 ne).trans e,n,ne,nf,d⟩
 ·have nl:∀ c v,H c=some v->c≠X.env.locals:=λ c v q z=>by rw [z,I.free] at q; cases q
  refine (I.hok b u e).stay (λ c v hc q=>(hs.2 c ?_).trans q) (λ _ q=>q) λ _ _ q=>q
  rcases hc with rfl | z
  ·exact nl _ _ e
  ·exact nl _ _ z
end
theorem mC {M:Model} {A:Around} {E:Value->Shared->Prop} {s:Shared} {base:Heap} {l:List Env} {e:Addr} {d:Option Addr} {cls a0:Value} {Q:Unit->Shared->Prop} (dk:Dko e d s.heap) (hh:KQ base l e cls a0 s.heap)
  (hQ:∀ h',Dko e d h'->KQ base l e cls a0 h'->s.heap.UpToSlots h'->Q () { s with heap:=h' }):wpAny M A (setFlight (.ref e) none) Q E s:=
 wpAny_mono (Dko.any (HT.dm (.ref e) none) dk (Q:=λ _ s2=>∃ h',s2={ s with heap:=h' }/\KQ base l e cls a0 h'/\s.heap.UpToSlots h') (lands_againW hh λ h' a b=>⟨h',rfl,a,b⟩)) (λ _ s2 q=>by
  obtain ⟨⟨h',rfl,a,b⟩,dk'⟩:=q
  exact hQ h' dk' a b) λ _ _ z=>z
noncomputable def Gw (K:Frag) (C:Addr) (i:Nat) (tb:TX) (ts:TS):TS:=λ D σ H=>tb D (λ C' d σ1 H1=>exmOne K (.ref C') (.ref C)=some true/\∀ e,H1 e=none->
 ts { nx:=λ σ2 H2=>D.nx (σ2.set i none) H2,rt:=D.rt,bk:=λ σ2 H2=>D.bk (σ2.set i none) H2,ct:=λ σ2 H2=>D.ct (σ2.set i none) H2 } (σ1.set i (some (.ref e))) (upd H1 e (nI e C' d))) σ H
section
variable {X:Cx} {body suite:List Stmt} {b0:Stmt} {tb:TX} {ts:TS} {n x:Str} {i:Nat} {C:Addr} {np hpos pos:Pos}
theorem CH {K:Frag} (hb:QXs X body tb) (hs:∀ e,QB (fM X e) (b0::suite) ts) (hN:X.N.Nodup) (hi:X.N[i]? = some n) (hl:X.env.scope.names.lookup n=some .local) (hg:Gl X x) (hm:X.mg x=some (.ref C)) (hst:X.stack=X.env::X.outer) (hfr:X.env.frame=some X.env.locals)
  (hex:X.ex=[]:=by rfl) (hd:(x == ("__debug__" : Str))=false:=by decide) (hK:X.K=K:=by rfl):QS X (.Try body [.ExceptHandler (some (.Name x np)) (some n) (b0::suite) hpos] [] [] pos) (Gw K C i tb ts):=⟨by
 subst hK
 intro pins s σ H D I h
 refine wpAny_Try_except (wpAny_mono (hb.out pins s σ H D _ I h) (λ f s1 q=>?_) λ ev s1 q=>?_)
 ·cases f with
  | next=>exact wpAny_execs_nil q
  | ret v=>exact q
  | brk=>exact q
  | cont=>exact q
 obtain ⟨e,C',d0,σ1,H1,rfl,⟨hx,q⟩,hcase⟩:=q
 -- both ways come to one: the state s0 ahead,what is hidden
 have core:∀ (s0:Shared) (hid:List Addr) (a0:Value),Inv X pins σ1 H1 s0->s1={ s0 with heap:=s1.heap }->e∈hid\/s0.heap.get? e=none->
   (∀ b∈hid,b∈frs X.stack\/(H1 b=none/\X.s₀.heap.get? b=none/\∀ p∈X.pn++pins,p.1≠b))->∀ h4,Dko e d0 h4->Om (hideAll s0.heap hid) X.stack e (.ref C') a0 X.env.locals h4->s0.heap.UpToSlots h4->
   wpAny (model X.prog X.w) X.A (setFlight (.ref e) none) (λ _ s₃=>wpAny (model X.prog X.w) X.A (handleBy (.ref e) X.env [.ExceptHandler (some (.Name x np)) (some n) (b0::suite) hpos]) (SP X pins D) X.xe s₃) X.xe { s1 with heap:=h4 }:=by
  intro s0 hid a0 I0 es hei hh h4 dk4 hheld up4
  refine wpAny_mono (Dko.any (s:={ s1 with heap:=h4 }) (HT.dm (.ref e) none) dk4 (Q:=λ _ s2=>∃ h5,s2={ s1 with heap:=h5 }/\KQ (hideAll s0.heap hid) X.stack e (.ref C') a0 h5/\h4.UpToSlots h5) (wpAny_landsW (s:={ s1 with heap:=h4 }) hheld λ h5 fl5 up5=>⟨h5,rfl,fl5,up5⟩)) (λ _ s2 q2=>?_) λ _ _ z=>z
  obtain ⟨⟨h5,rfl,fl5,up5⟩,dk5⟩:=q2
  have dk5:Dko e d0 h5:=dk5
  have up5:s0.heap.UpToSlots h5:=up4.trans up5
  rw [es]
  have I5:Inv X pins σ1 H1 { s0 with heap:=h5,toks:=s0.toks }:=I0.slip hex (λ b o e n=>fl5.1 b o (hideAll_get _ e n)) up5 hh
  obtain ⟨ob,hob,hobc⟩:=fl5.there
  have LT:Looks (model X.prog X.w) h5 (typeOf (.ref e)) (.ref C'):=hobc▸(Looks.ld hob).andThen .now
  refine wpAny_handleBy_cons (codeAny_handlers_test (cG (X:=fM X e) (I5.mark e) hg hm ?_ hd)) (by intro q; cases q)
  refine (exm_one I5.kIn LT hx).here ?_
  refine codeAny_handlers_suite_as ?_
  refine mC (s:={ s0 with heap:=h5 }) dk5 fl5 λ h6 dk6 fl6 up6=>?_
  have up6:s0.heap.UpToSlots h6:=up5.trans up6
  have I6:Inv X pins σ1 H1 { s0 with heap:=h6,toks:=s0.toks }:=I0.slip hex (λ b o e n=>fl6.1 b o (hideAll_get _ e n)) up6 hh
  obtain ⟨oe,ws,hoe,hoec,hoed,_⟩:=fl6.first
  have nfr:e∈frs X.stack->e=X.env.locals:=λ z=>by
   obtain ⟨_,o',ho',hd'⟩:=fl6.2.2.1.mem z
   rw [hoe] at ho'; cases ho'; exact absurd hoed (hd' _)
  obtain ⟨u1,u2,u3⟩:=I0.unseen hex fl6.2.1 hh nfr
  have ne:e∉frs X.stack:=λ z=>by
   obtain ⟨_,o',ho',hd'⟩:=fl6.2.2.1.mem z
   rw [hoe] at ho'; cases ho'; exact absurd hoed (hd' _)
  have J6:Inv X pins σ1 (upd H1 e (nI e C' d0)) { s0 with heap:=h6,toks:=s0.toks }:=I6.track (o:=nI e C' d0) hoe hoed u1 u2 (u3 ne) (zM hoe hoec hoed dk6)
  refine fH (X:=fM X e) (v:=.ref e) (J6.mark e) hN hi (.inl hl) rfl (λ s7 J7=>?_) (.inr hl)
  refine wpAny_mono ((hs e).out pins s7 _ _ _ J7 (q e u1)) (λ f s8 hq=>?_) λ _ _ z=>IV z
  have hd0:=I0.ok.hd
  cases f with
  | next=>
   obtain ⟨σ2,H2,J8,q8⟩:=hq
   exact fN (J8.unmark hd0) hN hi hl λ s9 J9=>⟨_,H2,J9,q8⟩
  | brk=>
   obtain ⟨σ2,H2,J8,q8⟩:=hq
   exact fN (J8.unmark hd0) hN hi hl λ s9 J9=>⟨_,H2,J9,q8⟩
  | cont=>
   obtain ⟨σ2,H2,J8,q8⟩:=hq
   exact fN (J8.unmark hd0) hN hi hl λ s9 J9=>⟨_,H2,J9,q8⟩
  | ret u=>
   obtain ⟨v,σ2,H2,J8,r8,q8⟩:=hq
   exact fN (J8.unmark hd0) hN hi hl λ s9 J9=>⟨v,_,H2,J9,r8,q8⟩
 rcases hcase with ⟨rfl,s0,vs,I0,hmd,es⟩ | ⟨dk,I0,hbp,fl,c1,c2⟩ | ⟨dk,I0,oe,ws,a0,he,hc,hdd,h0,h1,e1,e2,e3⟩
 ·have hin:∀ env∈X.stack,∀ b,env.frame=some b->b∈frs X.stack:=λ env he b hb=>JI.mpr ⟨env,he,hb⟩
  have hh:∀ b∈frs X.stack,b∈frs X.stack\/(H1 b=none/\X.s₀.heap.get? b=none/\∀ p∈X.pn++pins,p.1≠b):=λ b z=>.inl z
  obtain ⟨t,he,htn,ht⟩:=hmd.there
  have hen:(hideAll s0.heap (frs X.stack)).get? e=none:=by
   cases q:(hideAll s0.heap (frs X.stack)).get? e with
   | none=>rfl
   | some o=>have:=of_hideAll _ q; rw [hmd.new] at this; cases this
  have hl0:s1.heap.FunFrames (hideAll s0.heap (frs X.stack)) X.stack:=(funFrames_hide I0.stack hin).of_keeps λ b o hb _=>⟨o,hmd.keeps b o hb,rfl⟩
  have hfs:X.A.frames=some (X.env::X.outer):=by rw [I0.ok.frames,hst]
  unfold noteFrame
  simp only [hfr]
  refine wpAny_bind (wpAny_field (x:=IW) he rfl rfl ?_)
  rw [if_neg (show ¬ ((IW != IW)=true) by decide)]
  refine wpAny_entryW hfs (hst▸hl0) hfr he (λ b o q=>hmd.keeps _ _ (of_hideAll _ q)) hen rfl (by show 1<6; decide) rfl λ h4 hN4=>?_
  obtain ⟨k1,k2,k3,k4⟩:=hN4
  exact core s0 (frs X.stack) (.ref t) I0 es (.inr hmd.new) hh h4 trivial ⟨k1,hen,hst▸k2,k3⟩ ((My hmd.keeps).trans k4)
 ·obtain ⟨oe,ws,T,oT,tts,a0,he,hc,hdd,h0,h1,hTe,hT,hdT,h3,e1,t1,e2,t2⟩:=fl
  have hin:∀ env∈X.stack,∀ b,env.frame=some b->b∈T::e::frs X.stack:=λ env he b hb=>IG _ (IG _ (JI.mpr ⟨env,he,hb⟩))
  have fresh:∀ b,hbp.get? b=none->X.s₀.heap.get? b=none/\∀ p∈X.pn++pins,p.1≠b:=λ b z=>by
   constructor
   ·cases q:X.s₀.heap.get? b with
    | none=>rfl
    | some o=>obtain ⟨o',z'⟩:=c1 b o q; rw [z] at z'; cases z'
   ·intro p hp y
    obtain ⟨o',z'⟩:=c2 p hp
    rw [y,z] at z'; cases z'
  have hh:∀ b∈T::e::frs X.stack,b∈frs X.stack\/(H1 b=none/\X.s₀.heap.get? b=none/\∀ p∈X.pn++pins,p.1≠b):=λ c z=>by
   rcases Io.mp z with rfl | z
   ·exact .inr ⟨t1,(fresh _ t2).1,(fresh _ t2).2⟩
   ·rcases Io.mp z with rfl | z
    ·exact .inr ⟨e1,(fresh _ e2).1,(fresh _ e2).2⟩
    ·exact .inl z
  have FW:KQ (hideAll s1.heap (T::e::frs X.stack)) X.stack e (.ref C') a0 s1.heap:=
   ⟨λ b o q=>of_hideAll _ q,hideAll_none _ (by simp),funFrames_hide I0.stack hin,oe,ws,T,oT,tts,he,⟨hc,h0⟩,hdd,h1,hideAll_none _ (by simp),hTe,hT,hdT,h3⟩
  have hfs:X.A.frames=some (X.env::X.outer):=by rw [I0.ok.frames,hst]
  refine wpAny_mono (Dko.any (HT.dq (.ref e) X.env) dk (Q:=λ _ s2=>∃ h4,s2={ s1 with heap:=h4 }/\Om (hideAll s1.heap (T::e::frs X.stack)) X.stack e (.ref C') a0 X.env.locals h4/\s1.heap.UpToSlots h4) (wpAny_looks_onW hfs hfr (hst▸FW) λ h4 hheld up=>⟨h4,rfl,hst▸hheld,up⟩)) (λ _ s2 q2=>?_) λ _ _ z=>z
  obtain ⟨⟨h4,rfl,hheld,up⟩,dk4⟩:=q2
  exact core s1 _ a0 I0 rfl (.inl (by simp)) hh h4 dk4 hheld up
 ·have hin:∀ env∈X.stack,∀ b,env.frame=some b->b∈e::frs X.stack:=λ env he b hb=>IG _ (JI.mpr ⟨env,he,hb⟩)
  have hh:∀ b∈e::frs X.stack,b∈frs X.stack\/(H1 b=none/\X.s₀.heap.get? b=none/\∀ p∈X.pn++pins,p.1≠b):=λ c z=>by
   rcases Io.mp z with rfl | z
   ·exact .inr ⟨e1,e2,e3⟩
   ·exact .inl z
  have hfs:X.A.frames=some (X.env::X.outer):=by rw [I0.ok.frames,hst]
  have hl0:s1.heap.FunFrames (hideAll s1.heap (e::frs X.stack)) X.stack:=funFrames_hide I0.stack hin
  have hen:(hideAll s1.heap (e::frs X.stack)).get? e=none:=hideAll_none _ (by simp)
  refine wpAny_mono (Dko.any (HT.dq (.ref e) X.env) dk (Q:=λ _ s2=>∃ h4,s2={ s1 with heap:=h4 }/\Om (hideAll s1.heap (e::frs X.stack)) X.stack e (.ref C') a0 X.env.locals h4/\s1.heap.UpToSlots h4) ?_) (λ _ s2 q2=>?_) λ _ _ z=>z
  ·unfold noteFrame
   simp only [hfr]
   refine wpAny_bind (wpAny_field (x:=IW) he hdd h1 ?_)
   rw [if_neg (show ¬ ((IW != IW)=true) by decide)]
   refine wpAny_entryW hfs (hst▸hl0) hfr he (λ b o q=>of_hideAll _ q) hen hdd (Array.getElem?_eq_some_iff.mp h1).1 h0 λ h4 hN4=>?_
   obtain ⟨k1,k2,k3,k4⟩:=hN4
   exact ⟨h4,rfl,⟨k1,hen,hst▸k2,hc▸k3⟩,k4⟩
  obtain ⟨⟨h4,rfl,hheld,up⟩,dk4⟩:=q2
  exact core s1 _ a0 I0 rfl (.inl (by simp)) hh h4 dk4 hheld up⟩
end
end L2
namespace L2
open PySem PySem.Spec PyProof.Rows
noncomputable def tFs (te:TE):TE:=λ σ H Q=>te σ H λ x H1=>∃ i:Int,x=.int i/\i.natAbs.log2<1920/\∀ y,Q (.str y) H1
section
variable {X:Cx} {v:Expr} {te:TE} {a b:Str} {p1 p2 p3 pos:Pos} {j1 j3:Nat}
theorem zR (hv:QE X v te) (hsz:a.length+b.length<=1000:=by decide):QE X (.JoinedStr [.Constant (.str a) j1 p1,.FormattedValue v (-1) none p2,.Constant (.str b) j3 p3] pos) (tFs te):=⟨by
 intro pins s σ H Q I h
 refine JoinedStr_many (joinParts_cons (LQ ?_))
 refine ⟨by rw [strLen_append,sizeLine_eq]; show 0+_<=_; lia,?_⟩
 refine joinParts_cons (FormattedValue_plain (thn (hv.out pins _ σ H _ (I.tok _) h) λ u s1 ⟨x,H1,I1,r,i,ex,hi,q⟩=>?_))
 subst ex
 obtain ⟨tk,rfl⟩:=r
 have hl:=int_text_length_le (a:=i) (k:=1920) (by decide) hi
 refine formatField_int_small hi ⟨?_,?_⟩
 ·rw [strLen_append,strLen_append,Lr,sizeLine_eq]; show 0+_+_<=_; lia
 refine joinParts_cons (LQ ?_)
 refine ⟨by rw [strLen_append,strLen_append,strLen_append,Lr,sizeLine_eq]; show 0+_+_+_<=_; lia,?_⟩
 refine joinParts_nil ⟨.str _,H1,I1.tok _,⟨_,rfl⟩,q _⟩ ?_
 rw [strLen_append,strLen_append,strLen_append,Lr,sizeLine_eq]; show 0+_+_+_<=_; lia⟩
end
section
variable {D:Ends} {Ex:XW} {σ:St} {H:Hp} {Q:VK} {K:Ih} {i:Nat} {C:Addr}
theorem Fq (h:te σ H λ x H1=>∃ i:Int,x=.int i/\i.natAbs.log2<1920/\∀ y,Q (.str y) H1):tFs te σ H Q:=h
theorem Gx {t:TS} (h:t D σ H):xOf t D Ex σ H:=h
theorem Fr {t u:TX} (h:t { D with nx:=u D Ex } Ex σ H):Gv t u D Ex σ H:=h
theorem Gy {c:TT} {t u:TX} (h:c σ H λ b H1=>if b=true then t D Ex σ H1 else u D Ex σ H1):xIf c t u D Ex σ H:=h
theorem DP {te:TEX} (h:te σ H (λ _ H1=>D.nx σ H1) λ C d H1=>Ex C d σ H1):CD te D Ex σ H:=h
theorem zS {te:TEX} (h:te σ H (λ v H1=>D.nx (σ.set i (some v)) H1) λ C d H1=>Ex C d σ H1):Hm i te D Ex σ H:=h
theorem DQ {sp:Sp} {Ex:Addr->Option Addr->Hp->Prop} (h:t σ H λ vs H1=>sp vs H1 Q λ c d H2=>∃ C,c=.ref C/\Ex C d H2):CF sp t σ H Q Ex:=h
theorem Gz {tb:TX} {ts:TS} (h:tb D (λ C' d σ1 H1=>MX K (.ref C') (.ref C)=some true/\∀ e,H1 e=none->
 ts { nx:=λ σ2 H2=>D.nx (σ2.set i none) H2,rt:=D.rt,bk:=λ σ2 H2=>D.bk (σ2.set i none) H2,ct:=λ σ2 H2=>D.ct (σ2.set i none) H2 } (σ1.set i (some (.ref e))) (upd H1 e (nI e C' d))) σ H):Gw K C i tb ts D σ H:=h
end
section
variable {X:Cx}
end
section
variable {H H1:Hp} {x:V} {n:Nat}
end
theorem i4:QOp X (binaryOp .Add) (λ x y H Q=>∃ i j,x=.str i/\y=.str j/\i.length+j.length<=sizeLine/\Q (.str (i++j)) H):=⟨qq⟩
theorem ow:QC X (.type "str") (λ xs H Q=>∃ i:Int,xs=[.int i]/\i.natAbs.log2<1920/\Q (.str (toString i)) H):=⟨lU⟩
end L2
namespace HT
open PySem PyProof.Rows PySem.W L2
noncomputable def lt2 (k m:List Int×List Int):Bool:=if k.1=m.1 then bS k.2 m.2 else bS k.1 m.1
section
variable {prog:Program} {w:World} {A:Around} {E:Value->Shared->Prop} {s:Shared}
end
end HT
namespace L2
open PySem PySem.Spec PyProof.Rows
section
variable {X:Cx}
end
section
variable {X:Cx} {o e value:Expr} {es:List Expr} {f m x:Str} {pos pos' tpos apos p:Pos} {ta tv:TE} {t:TA} {C g:Addr} {CX:CXT} {k:Nat} {fd:FuncData} {ps:List Str} {sp:Sp} {E:XK}
theorem tS {K:Ih} (he:QE X e ta) (hb:attributeBase e f X.env (eval e X.env)=eval e X.env:=by rfl) (hK:X.K=K:=by rfl):QE X (.Attribute e f pos) (EF K ta f):=by
 subst hK; exact ⟨BZ he.out hb⟩
theorem pF {K:Ih} (ha:QE X o ta) (hv:QE X value tv) (hs:swapsWith value (some (.Attribute o f pos')) pos.line X.env=pure false:=by rfl) (hK:X.K=K:=by rfl):QS X (.Assign [.Attribute o f pos'] value pos) (EG K ta tv f):=by
 subst hK; exact ⟨B0 ha.out hv.out hs⟩
theorem zT (M:Mk X.K C g) (F:FnOk X.prog X.w X.K X.mg X.base CX k g fd ps sp) (hr:Room (k+1) X.A) (hg:Gl X x) (hm:X.mg x=some (.ref C)) (hb:Binds X.K fd ps []) (hx:dg CX X E)
  (ha:QA X (e::es) t) (hdb:(x == ("__debug__" : Str))=false:=by decide) (he:starEach (e::es) X.env=(false,eval e X.env)::starEach es X.env:=by rfl) (hpl:(backTo pos (starEach es X.env)).any (·.1)=false:=by rfl) :
  QE X (.Call (.Name x p) (e::es) [] pos) (y9 C sp [] E t):=⟨zb M F hr hg hm hb .nil hx ha.out hdb he hpl⟩
end
section
variable {K:Ih} {σ:St} {H:Hp} {Q:VK} {D:Ends} {ta tv:TE} {t:TA} {f m:Str} {C:Addr} {sp:Sp} {E:XK} {a dx:Addr} {fs:List (Str×V)} {v:V}
theorem GA (h:ta σ H λ x H1=>∃ a C dx fs v,x=.ref a/\H1 a=some (.ins C dx fs)/\Cls K C/\NoAttr K C f/\fs.lookup f=some v/\Q v H1):EF K ta f σ H Q:=h
theorem Ft (h:tv σ H λ y H1=>ta σ H1 λ x H2=>∃ a C dx fs,x=.ref a/\H2 a=some (.ins C dx fs)/\Cls K C/\NoAttr K C f/\fs.length<1000/\D.nx σ (upd H2 a (.ins C dx (bo f y fs)))):EG K ta tv f D σ H:=h
theorem Fu (h:t σ H λ vs H1=>∀ x dx,H1 x=none->H1 dx=none->dx≠x->sp (.ref x::(vs++[])) (upd (upd H1 dx (.own x)) x (.ins C dx [])) (λ v H2=>v=.non/\Q (.ref x) H2) E):y9 C sp [] E t σ H Q:=h
end
noncomputable def tT (x:V) (d:PyData):Prop:=(x=.non/\d=.none)\/(∃ b,x=.bl b/\d=.bool b)\/(∃ i:Int,x=.int i/\d=.int i)\/(∃ y,x=.str y/\d=.str y/\Mq y=true)
noncomputable def DatE:Nat->Hp->V->PyData->Prop
 | 0,_,x,d=>tT x d
 | n+1,H,x,d=>tT x d\/(∃ a xs ds,x=.ref a/\d=.list ds/\H a=some (.lst xs)/\xs.length=ds.length/\∀ (i:Nat) u e,xs[i]? = some u->ds[i]? = some e->DatE n H u e)\/
  (∃ a xs ds,x=.ref a/\d=.tuple ds/\H a=some (.tup xs)/\xs.length=ds.length/\∀ (i:Nat) u e,xs[i]? = some u->ds[i]? = some e->DatE n H u e)
theorem DatE.leaf {H:Hp} {x:V} {d:PyData} (h:tT x d):∀ {n:Nat},DatE n H x d
 | 0=>h
 | n+1=>.inl h
theorem DatE.str {H:Hp} {n:Nat} {y:Str} (h:Mq y=true):DatE n H (.str y) (.str y):=DatE.leaf (.inr (.inr (.inr ⟨y,rfl,rfl,h⟩)))
theorem DatE.lst {H:Hp} {n:Nat} {a:Addr} {xs:List V} {ds:List PyData} (e:H a=some (.lst xs)) (hl:xs.length=ds.length) (h:∀ (i:Nat) u e,xs[i]? = some u->ds[i]? = some e->DatE n H u e):DatE (n+1) H (.ref a) (.list ds):=
 .inr (.inl ⟨a,xs,ds,rfl,rfl,e,hl,h⟩)
theorem DatE.facts {H:Hp}:∀ {n:Nat} {x:V} {d:PyData},DatE n H x d->d.canLay0=true/\d.depth<=n
 | n,x,d,h=>by
  have hint:tT x d->d.canLay0=true/\d.depth<=n:=by
   rintro (⟨rfl,rfl⟩ | ⟨b,rfl,rfl⟩ | ⟨i,rfl,rfl⟩ | ⟨y,rfl,rfl,hy⟩)
   ·exact ⟨rfl,IZ _⟩
   ·exact ⟨rfl,IZ _⟩
   ·exact ⟨rfl,IZ _⟩
   ·exact ⟨hy,IZ _⟩
  match n,h with
  | 0,h=>exact hint h
  | n+1,h=>
   rcases h with h | ⟨a,xs,ds,rfl,rfl,ha,hl,hi⟩ | ⟨a,xs,ds,rfl,rfl,ha,hl,hi⟩
   ·exact hint h
   ·have hd:∀ d∈ds,d.canLay0=true/\d.depth<=n:=λ d hd=>by
     obtain ⟨i,e⟩:=M2 hd
     have hlt:=pj e
     exact DatE.facts (hi i (xs[i]'(by lia)) d (IF _) e)
    exact ⟨sY (P:=Ov) (PA:=NR) rfl (λ _ _=>rfl) λ d h=>(hd d h).1,Mr (e8 λ d h=>(hd d h).2)⟩
   ·have hd:∀ d∈ds,d.canLay0=true/\d.depth<=n:=λ d hd=>by
     obtain ⟨i,e⟩:=M2 hd
     have hlt:=pj e
     exact DatE.facts (hi i (xs[i]'(by lia)) d (IF _) e)
    exact ⟨sY (P:=Ov) (PA:=NR) rfl (λ _ _=>rfl) λ d h=>(hd d h).1,Mr (e8 λ d h=>(hd d h).2)⟩
section
variable {X:Cx} {pins:List (Addr×Obj)} {σ:St} {H:Hp} {s:Shared}
theorem DatE.reads (I:Inv X pins σ H s):∀ {n:Nat} {x:V} {d:PyData} {v:Value},DatE n H x d->RelV x v->∃ as,Reads s.heap v d as
 | n,x,d,v,h,r=>by
  have hint:tT x d->∃ as,Reads s.heap v d as:=by
   rintro (⟨rfl,rfl⟩ | ⟨b,rfl,rfl⟩ | ⟨i,rfl,rfl⟩ | ⟨y,rfl,rfl,_⟩)
   ·cases r; exact ⟨_,.none⟩
   ·cases r; exact ⟨_,.bool b⟩
   ·obtain ⟨t,rfl⟩:=r; exact ⟨_,.int i t⟩
   ·obtain ⟨t,rfl⟩:=r; exact ⟨_,.str y t⟩
  match n,h with
  | 0,h=>exact hint h
  | n+1,h=>
   rcases h with h | ⟨a,xs,ds,rfl,rfl,ha,hl,hi⟩ | ⟨a,xs,ds,rfl,rfl,ha,hl,hi⟩
   ·exact hint h
   ·cases r
    obtain ⟨its,m,rv,ho,hz⟩:=I.lst ha
    obtain ⟨as,h1⟩:=fc (R:=DatE n H) (λ x v d h r=>DatE.reads I h r) rv hl hi
    exact ⟨_,.list ho rfl rfl (by simpa using h1)⟩
   ·cases r
    obtain ⟨its,rv,⟨ob,ho,hc,m,hd⟩,hz⟩:=I.tuple (SqT.of ha)
    obtain ⟨as,h1⟩:=fc (R:=DatE n H) (λ x v d h r=>DatE.reads I h r) rv hl hi
    exact ⟨_,.tuple ho hc hd (by simpa using h1)⟩
noncomputable def GB:R2:=λ x y H Q=>∃ (n:Nat) (d e:PyData),DatE n H x d/\DatE n H y e/\n<=32/\Q (.bl (!PyData.eqv d e)) H
theorem Fv (hu:X.A.units+64<cLine):QOp X (compareOp .NotEq) GB:=by
 refine ⟨λ pins s σ H x y v u Q I rx ry h=>?_⟩
 obtain ⟨n,d,e,hd,he,hn,q⟩:=h
 obtain ⟨as,r1⟩:=hd.reads I rx
 obtain ⟨bs,r2⟩:=he.reads I ry
 have f1:=hd.facts
 have f2:=he.facts
 exact O6 r1 r2 f1.1 f2.1 (by have:=On d.depth e.depth; have:=f1.2; lia) X.prog X.w X.xe _ ⟨.bl _,H,I,rfl,q⟩
end
section
variable {H:Hp} {Q:VK} {x y:V} {n:Nat} {d e:PyData}
theorem tU (h1:DatE n H x d) (h2:DatE n H y d) (hn:n<=32) (h:Q (.bl false) H):GB x y H Q:=⟨n,d,d,h1,h2,hn,by rw [Pp d h1.facts.1]; exact h⟩
end
end L2
namespace HT
open PySem PyProof.Rows PySem.W L2
section
variable {prog:Program} {w:World} {A:Around} {E:Value->Shared->Prop} {s:Shared}
end
end HT
namespace L2
open PySem PySem.Spec PyProof.Rows PySem.W
section
variable {X:Cx} {e:Expr} {t:TA} {p pos kpos cp:Pos} {k:Nat} {j:Nat}
theorem CI {s:Shared} {E:Value->Shared->Prop} {Q:List Value->Shared->Prop} {a:Expr} {x:Str} (h:wpAny (model X.prog X.w) X.A (eval a X.env) (λ v s'=>Q [v] s') E s) :
  wpAny (model X.prog X.w) X.A (evalAll ((backToKw pos (keywordEach [⟨some x,a,kpos⟩] X.env)).map (·.2))) Q E s:=by
 show wpAny _ _ (evalAll ((do let v <-eval a X.env; standAt pos; pure v)::[])) _ _ s
 exact wpAny_evalAll_cons (wpAny_bind (wpAny_mono h (λ v s' hq=>wpAny_bind (wpAny_standAt (wpAny_pure (wpAny_evalAll_nil hq)))) λ _ _ z=>z))
end
end L2
namespace L2
open PySem PySem.Spec PyProof.Rows
noncomputable def inP (os:List Nat) (g p:Nat):Bool:=decide (mt os g<=p) && decide (p<mt os (g+1))
section
variable {qs:List (Nat×Nat)} {b:Nat} {st:HW}
end
section
variable {qs:List (Nat×Nat)} {b:Nat} {st:HW}
end
theorem cz {f g:Str} (v x:V) (r:List (Str×V)) (h:¬ g=f):bo f v ((g,x)::r)=(g,x)::bo f v r:=by rw [bo,if_neg h]
theorem i5 {f:Str} {r:List (Str×V)}:Jw f ((f,v)::r)=some v:=by simp [Jw]
theorem lz {f g:Str} {r:List (Str×V)} (h:¬ f=g):Jw f ((g,v)::r)=Jw f r:=by
 have:(f == g)=false:=by simpa using h
 simp [Jw,this]
section
variable (pa:Addr) (hv v:V) (ma ea:Addr) (n m:Int)
end
section
variable {C:Addr} {H H1:Hp} {w pa ma ea:Addr} {vs:List V} {hv:V} {st:HW}
end
theorem eE (f:Str) (v:V):∀ fs:List (Str×V),(bo f v fs).length<=fs.length+1
 | []=>Im _
 | (g,x)::r=>by
  rw [bo]
  have:=eE f v r
  split<;>simp<;>lia
end L2
namespace HT
open PySem PyProof.Rows PySem.W L2
section
open PySem.SeqAt
open PySem.AutoSeq1 (wpAny_loadPart')
open PySem.MeetsSeq PySem.MeetsSeq2 PySem.MeetsSeq3
end
section
variable {prog:Program} {w:World} {A:Around} {E:Value->Shared->Prop} {s:Shared}
end
end HT
namespace L2
open PySem PySem.Spec PyProof.Rows
section
variable {X:Cx}
end
section
variable {prog:Program} {w:World} {A:Around} {R:Result->Shared->Prop} {s:Shared} {scope:Scope}
end
section
variable {X:Cx} {N tgs frs:List Str} {ix:List Nat} {scope:Scope} {cl:List (Str×Addr)}
end
section
variable {K:Ih} {g g2:TG} {wi2:TI} {te:TE} {σ0:St} {H:Hp} {R:List V->Hp->Prop}
end
inductive RMv where
 | take (p:Nat)
 | move (p q:Nat)
 | lay (p:Nat)
section
variable {H H1:Hp} {v y:V} {d:PyData}
variable {vs us rs:List V} {ds:List PyData}
end
section
variable (ta:Addr) (hv v:V) (pa:Addr) (n m:Int)
end
section
variable {C:Addr} {H H1:Hp} {w ta pa:Addr} {ps:List Addr} {us:List V} {hv:V} {ms:List RMv} {d:Nat}
end
section
variable {X:Cx} {e:Expr} {es:List Expr} {t:TA} {pos p:Pos} {x:Str} {C f:Addr}
end
end L2
namespace HT
open PySem PySem.Spec PyProof.Rows PySem.W L2
section
variable {prog:Program} {w:World} {A:Around} {E:Value->Shared->Prop} {s:Shared}
end
end HT
namespace L2
open PySem PySem.Spec PyProof.Rows
theorem kA:∀ {ys:List Str} {us:List Value},Vals (ys.map PZ) us->StrsAre us ys
 | [],_,h=>by cases h; exact .nil
 | y::ys,_,h=>by
  cases h with
  | cons rv r=>obtain ⟨t,rfl⟩:=rv; exact .cons y t (kA r)
section
variable {X:Cx}
end
noncomputable def Hn (s:List V×V):List V:=(s.1++[s.2]).filter (λ v=>decide (v≠V.non))
noncomputable def turn (r:List Nat):List Nat:=r.take 1++(r.drop 1).reverse
section
variable {H H1:Hp} {v y z:V} {d e:Option (List Nat×Nat)}
variable {vs us rs:List V}
end
section
variable {C:Addr} {H H1:Hp} {w ta pa:Addr} {ps:List Addr} {us:List V} {hv:V} {ms:List RMv} {d:Nat}
end
section
variable {H H1:Hp} {vs us:List V} {ds:List (List Nat×Nat)} {v:V} {d:List Nat×Nat}
end
section
variable {X:Cx} {e:Expr} {te:TE} {pos p1 p2 p3 p4 p5:Pos} {j j':Nat}
end
end L2
namespace HT
open PySem PyProof.Rows PySem.W L2
section
variable {prog:Program} {w:World} {A:Around} {E:Value->Shared->Prop}
noncomputable def GC (f:Nat->Int) (d v:Value) (n:Nat):Prop:=n=0/\v=d\/∃ (i:Nat) (t:Tok),i<n/\v=.int (f i) t/\∀ m,m<n->f m<=f i
theorem tV {I S:Addr} {wr:List Addr} {P:Nat->Value->Prop} {St:Nat->Heap->Prop} {d:Value} {R:Result->Shared->Prop} (f:Nat->Int) (W:Walks prog w A.in1 I fp wr n P St) (hf:∀ i v,P i v->∃ t,v=.int (f i) t) (hSf:S∉fp) :
  ∀ (k j:Nat) (s:Shared) (vb:List Value) (c:Nat),n - j=k->j<=n->St j s.heap->s.heap.get? S=some (seqObj "list" vb.toArray c)->
   (vb=[]/\j=0\/∃ (i:Nat) (t:Tok),i<j/\vb=[.int (f i) t,.int (f i) t]/\∀ m,m<j->f m<=f i)->
   (∀ v h' tk,GC f d v n->(∀ b o,b∉wr->b≠S->s.heap.get? b=some o->h'.get? b=some o)->R (.ok (.ret v)) { s with heap:=h',toks:=tk })->
   codeAny (model prog w) A (.builtin "max.loop" ⟨[.ref I,.none,.ref S],[(Ko "default",d)]⟩) R s:=by
 have hSw:S∉wr:=λ z=>hSf (W.sub _ z)
 have nm:(toString "max"++toString ".loop" : String) = "max.loop":=by decide
 intro k
 induction k with
 | zero=>
  intro j s vb c hk hj hst hS hb hR
  have hin:j=n:=by lia
  refine codeAny_builtin ML ?_
  rw [KW JR _]
  show wpAny _ A.in1 (seqItems? (.ref S) >>= _) _ _ s
  refine wpAny_bind (wpAny_seqItems hS rfl ?_)
  show wpAny _ A.in1 (tryCatch (pyNext (.ref I)) _ >>= _) _ _ s
  refine wpAny_bind (wpAny_tryCatch (W.done s _ _ (hin▸hst) λ h' tk kp=>?_))
  have hS1:=kp S _ hSw hS
  rcases hb with ⟨rfl,h0⟩ | ⟨i,t,hi,rfl,hm⟩
  ·refine wpAny_bind (wpAny_rule (wpAny_pure ?_))
   exact hR d _ tk (.inl ⟨by lia,rfl⟩) λ b o q1 q2 e=>kp b o q1 e
  ·show wpAny _ A.in1 (updateSeq S (λ _=>#[]) >>= _) _ _ _
   refine wpAny_bind ?_
   refine wpAny_updateSeq hS1 rfl (wpAny_bind (wpAny_letGo (wpAny_pure ?_)))
   exact hR _ _ tk (.inr ⟨i,t,by lia,rfl,λ m q=>hm m (by lia)⟩) λ b o q1 q2 e=>(JQ _ _ (Jj q2)).trans (kp b o q1 e)
 | succ k ih=>
  intro j s vb c hk hj hst hS hb hR
  have hlt:j<n:=by lia
  refine codeAny_builtin ML ?_
  rw [KW JR _]
  show wpAny _ A.in1 (seqItems? (.ref S) >>= _) _ _ s
  refine wpAny_bind (wpAny_seqItems hS rfl ?_)
  show wpAny _ A.in1 (tryCatch (pyNext (.ref I)) _ >>= _) _ _ s
  refine wpAny_bind (wpAny_tryCatch (W.item j s _ _ hlt hst λ v h' tk hP st1 kp=>?_))
  obtain ⟨tv,rfl⟩:=hf j v hP
  have hS1:=kp S _ hSw hS
  have upd1:∀ (g:Array Value->Array Value) b (o:Obj),b≠S->h'.get? b=some o->(h'.update S (Jc g)).get? b=some o:=λ g b o q e=>(JQ _ _ (Jj q)).trans e
  rcases hb with ⟨rfl,h0⟩ | ⟨i,t,hi,rfl,hm⟩
  ·show wpAny _ A.in1 (updateSeq S (λ _=>#[.int (f j) tv,.int (f j) tv]) >>= _) _ _ _
   refine wpAny_bind ?_
   refine wpAny_updateSeq hS1 rfl ?_
   rw [nm]
   obtain ⟨c1,hc1⟩:∃ c1,(h'.update S (Jc λ _=>#[.int (f j) tv,.int (f j) tv])).get? S=some (seqObj "list" [KR (f j) tv,KR (f j) tv].toArray c1):=⟨_,get?_update_seq hS1 λ _=>#[.int (f j) tv,.int (f j) tv]⟩
   refine wpAny_pure ⟨plainId_quiet JR _,ih (j+1) _ _ c1 (by lia) hlt (W.frame _ _ _ st1 λ b q o e=>upd1 _ b o (λ z=>hSf (z▸q)) e) hc1 (.inr ⟨j,tv,by lia,rfl,λ m q=>?_⟩) λ v2 h2 tk2 q2 k2=>?_⟩
   ·have:m=j:=by lia
    rw [this]; exact Ph _
   ·exact hR v2 h2 tk2 q2 λ b o q3 q4 e=>k2 b o q3 q4 (upd1 _ b o q4 (kp b o q3 e))
  ·show wpAny _ A.in1 (tryCatch (holding [.int (f j) tv,.int (f j) tv] (richCompare .Gt (.int (f j) tv) (.int (f i) t) >>= _)) _ >>= _) _ _ _
   refine wpAny_bind (wpAny_tryCatch (wpAny_holding (wpAny_bind (CmpOf.ints_gt (prog:=prog) (w:=w) (A:=A.in1) (P:=λ i v=>∃ t,v=.int (f i) t) f (λ i v z=>z) j i _ _ _ _ _ ⟨tv,rfl⟩ ⟨t,rfl⟩ ?_))))
   refine wpAny_bind (wpAny_holding (wpAny_truthy_bool ?_))
   refine wpAny_bind (wpAny_letGo (wpAny_pure ?_))
   by_cases hg:f j > f i
   ·simp only [hg,decide_true,if_true]
    refine wpAny_bind ?_
    refine wpAny_updateSeq hS1 rfl (wpAny_bind (wpAny_letGo ?_))
    rw [nm]
    obtain ⟨c1,hc1⟩:∃ c1,(h'.update S (Jc λ _=>#[.int (f j) tv,.int (f j) tv])).get? S=some (seqObj "list" [KR (f j) tv,KR (f j) tv].toArray c1):=⟨_,get?_update_seq hS1 λ _=>#[.int (f j) tv,.int (f j) tv]⟩
    refine wpAny_pure ⟨plainId_quiet JR _,ih (j+1) _ _ c1 (by lia) hlt (W.frame _ _ _ st1 λ b q o e=>upd1 _ b o (λ z=>hSf (z▸q)) e) hc1 (.inr ⟨j,tv,by lia,rfl,λ m q=>?_⟩) λ v2 h2 tk2 q2 k2=>?_⟩
    ·by_cases e:m=j
     ·rw [e]; exact Ph _
     ·have:=hm m (by lia); lia
    ·exact hR v2 h2 tk2 q2 λ b o q3 q4 e=>k2 b o q3 q4 (upd1 _ b o q4 (kp b o q3 e))
   ·simp only [hg,decide_false,Iq,if_false]
    refine wpAny_bind (wpAny_letGo ?_)
    rw [nm]
    refine wpAny_pure ⟨plainId_quiet JR _,ih (j+1) _ _ c (by lia) hlt st1 hS1 (.inr ⟨i,t,by lia,rfl,λ m q=>?_⟩) λ v2 h2 tk2 q2 k2=>?_⟩
    ·by_cases e:m=j
     ·rw [e]; lia
     ·exact hm m (by lia)
    ·exact hR v2 h2 tk2 q2 λ b o q3 q4 e=>k2 b o q3 q4 (kp b o q3 e)
theorem mD (a v:Value):argsOk "max" ⟨[a],[(Ko "default",v)]⟩:=by unfold argsOk; kernel_rfl
theorem zU {s:Shared} {d:Value} (f:Nat->Int) (hh:A.handled=none) (hl:s.heap.IsList l its.toArray) (hf:∀ (i:Nat) (v:Value),its[i]? = some v->∃ t,v=.int (f i) t)
  (h:∀ v h' tk,GC f d v its.length->(∀ b o,s.heap.get? b=some o->h'.get? b=some o)->Q v { s with heap:=h',toks:=tk }) :
  wpAny (model prog w) A (call (.builtin "max") [.ref l] [(Ko "default",d)]) Q E s:=by
 have nm:(toString "max"++toString ".loop" : String) = "max.loop":=by decide
 have hll:l<s.heap.objs.size:=by obtain ⟨_,e,_⟩:=id hl; exact Ip e
 refine kmk_tree PySem.F.kind_max PySem.F.plain_max PySem.F.entry_max (mD _ _) ?_
 show wpAny _ A.in1 (LW "max" ["key","default"] 0 ⟨[],[(Ko "default",d)]⟩ >>= _) _ _ s
 refine wpAny_bind (wpAny_of_eq (show LW "max" ["key","default"] 0 ⟨[],[(Ko "default",d)]⟩=pure [none,some d] from rfl) ?_)
 refine wpAny_bind (wpAny_pure ?_)
 refine wpAny_bind (wpAny_pyIter_list hl ?_)
 refine wpAny_bind (wpAny_newList ?_ (IZ _))
 rw [nm]
 have hS:(s.heap.push { cls:=.type "list_iterator",data:=.fields #[.ref l,.int 0 0] }).objs.size=s.heap.objs.size+1:=size_push' ..
 have W:=Pl (prog:=prog) (w:=w) (A:=A.in1) hh s.heap.objs.size l (Iy hll) its.toArray
 have ez:its.toArray.size=its.length:=IB ..
 rw [ez] at W
 have hll1:((s.heap.push { cls:=.type "list_iterator",data:=.fields #[.ref l,.int 0 0] }).push (seqObj "list" #[] 0)).IsList l its.toArray:=by
  obtain ⟨o,e,r⟩:=hl
  exact ⟨o,Ij _ (Ij _ e),r⟩
 have hf1:∀ (i:Nat) (v:Value),its.toArray[i]? = some v->∃ t,v=.int (f i) t:=λ i v hv=>hf i v (by simpa using hv)
 refine wpAny_pure ⟨plainId_quiet JR _,tV f W hf1 (S:=(s.heap.push { cls:=.type "list_iterator",data:=.fields #[.ref l,.int 0 0] }).objs.size) ?_ its.length 0 _ [] 0 (by lia) (IZ _) ⟨⟨_,Ij _ (Iz _ rfl),rfl,rfl⟩,hll1⟩ (Iz _ rfl) (.inl ⟨rfl,rfl⟩) λ v h' tk q kp=>?_⟩
 ·rw [hS]
  intro z
  simp only [Io,JC,or_false] at z
  rcases z with z | z
  ·exact absurd z (N1 _)
  ·rw [<-z] at hll; exact absurd hll (Nat.not_lt_of_le (KY _))
 ·refine h v h' tk q λ b o e=>kp b o ?_ ?_ (Ij _ (Ij _ e))
  ·intro z
   have e2:b=s.heap.objs.size:=by simpa using z
   exact absurd (e2▸Ip e) (Jr _)
  ·rw [hS]
   have:=Ip e
   exact Iy (Mg this)
end
end HT
namespace L2
open PySem PySem.Spec PyProof.Rows PySem.W
section
variable {X:Cx}
theorem zV:QIx X FU:=⟨B5⟩
theorem gG:QC X (.builtin "len") (λ xs H Q=>∃ z,xs=[.str z]/\z.length<=sizeLine/\Q (.int z.length) H):=⟨me⟩
theorem cK {x:Str} (hg:Gl X x) (hm:X.mg x=some u) (r:RelV v u) (hd:(x == ("__debug__" : Str))=false:=by decide):QE X (.Name x pos) (tC v):=⟨rO hg hm r hd⟩
noncomputable def Its (z:Str):It:=⟨λ i _=>i<z.cps.size,λ i H x H'=>H'=H/\∃ c,z.cps[i]? = some c/\x=.str ⟨#[c]⟩,λ i _=>i=z.cps.size⟩
theorem pG {w:World} {K:Ih} {T:String} (hT:["enumerate","zip","dict_itemiterator","dict_reverseitemiterator","odict_iterator","itertools.zip_longest","itertools.pairwise"].contains T=false) (it:Addr) (z:Str) (t:Tok)
  (W:∀ A:Around,A.handled=none->Walks P w A it [it] [it] z.cps.size (SignAt z) (λ i h=>h.IsStrIter it T z t i))
  (hself:∀ (A:Around) (i:Nat) (s:Shared) (Q:Value->Shared->Prop) (E:Value->Shared->Prop),s.heap.IsStrIter it T z t i->Q (.ref it) s->wpAny (model P w) A (pyIter (.ref it)) Q E s) :
  Turn P w K tg (Its z) [it] it (λ i h=>h.IsStrIter it T z t i) where
 mem:=by simp
 obj:=λ i h st b hb=>by
  have e:b=it:=by simpa using hb
  subst e
  obtain ⟨o,e,c,d⟩:=st
  exact ⟨o,e,λ v q=>by rw [d] at q; cases q⟩
 keep:=λ i h h' st k=>by
  obtain ⟨o,e,r⟩:=st
  exact ⟨o,k it (by simp) o e,r⟩
 item:=by
  intro X hP hw hK hc i pins s σ H E I hf st hg
  subst hP hw hK
  obtain ⟨f0,f1,f2,f3,f4,f5⟩:=hf it (by simp)
  refine (W X.A (I.ok.hd hc)).item i s _ _ hg st λ v h' tk hv st' kk=>?_
  obtain ⟨c,u,hcc,rfl⟩:=hv
  have I1:Inv X pins σ H { s with heap:=h',toks:=tk }:=I.turned (λ b o hb e=>kk b o (by simpa using hb) e) f0 f1 f3 f4 f5
  obtain ⟨o,e,cl,d⟩:=id st'
  exact ⟨_,rfl,yR (s:={ s with heap:=h',toks:=tk }) e cl d hT ⟨.str ⟨#[c]⟩,H,I1,⟨u,rfl⟩,⟨rfl,c,hcc,rfl⟩,st',λ b hb=>(hf b hb).1⟩⟩
 done:=by
  intro X hP hw hK hc i pins s σ H E I hf st hg
  subst hP hw hK
  obtain ⟨f0,f1,f2,f3,f4,f5⟩:=hf it (by simp)
  have e:i=z.cps.size:=hg
  subst e
  exact (W X.A (I.ok.hd hc)).done s _ _ st λ h' tk kk=>⟨rfl,I.turned (λ b o hb e=>kk b o (by simpa using hb) e) f0 f1 f3 f4 f5⟩
 self:=λ A i s Q E st h=>hself A i s Q E st h
noncomputable def GD (te:TE):TI:=λ σ H R=>te σ H λ x H1=>∃ z,x=.str z/\R (Its z) H1
theorem CJ {e:Expr} (hl:QE X e te):QI X tg e (GD te):=by
 refine ⟨λ pins s σ H R I h=>?_⟩
 refine thn (hl.out pins s σ H _ I h) λ v s1 ⟨x,H1,I1,r1,q1⟩=>?_
 obtain ⟨z,rfl,q⟩:=q1
 obtain ⟨t,rfl⟩:=r1
 have fin:∀ (T:String) (o:Obj),(s1.heap.push o).IsStrIter s1.heap.objs.size T z t 0->Turn X.prog X.w X.K tg (Its z) [s1.heap.objs.size] s1.heap.objs.size (λ i h=>h.IsStrIter s1.heap.objs.size T z t i)->
   PIE X pins σ tg R (.ref s1.heap.objs.size) { s1 with heap:=s1.heap.push o }:=by
  intro T o h0 hT
  refine ⟨s1.heap.objs.size,[s1.heap.objs.size],_,_,H1,rfl,I1.kept (t':=s1.toks) λ b ob e=>Ij _ e,hT,h0,λ b hb=>?_,q⟩
  have e:b=s1.heap.objs.size:=by simpa using hb
  subst e
  exact I1.fpOk (Im _) (I1.hok.fresh (Im _))
 cases ha:z.cps.all (· < 128)
 ·exact wpAny_pyIter_wide ha (fin "str_iterator" _ ⟨_,Iz _ rfl,rfl,rfl⟩ (pG (by decide) _ z t (λ A hh=>Walks.strWide hh _ z t) λ A i s Q E st h=>wpAny_pyIter_striter_wide st h))
 ·exact wpAny_pyIter_ascii ha (fin "str_ascii_iterator" _ ⟨_,Iz _ rfl,rfl,rfl⟩ (pG (by decide) _ z t (λ A hh=>Walks.strAscii hh _ z t) λ A i s Q E st h=>wpAny_pyIter_striter_ascii st h))
theorem Fw {H:Hp} {R:It->Hp->Prop} (h:te σ H λ x H1=>∃ z,x=.str z/\R (Its z) H1):GD te σ H R:=h
variable {o e:Expr} {to:TE} {t:TA} {apos cpos:Pos}
noncomputable def CK (K:Ih) (d:Int) (t:TA):TE:=λ σ H Q=>t σ H λ vs H1=>∃ (l:Addr) (ns:List Int),vs=[.ref l]/\SqL K H1 l (ns.map PY)/\∀ m:Int,(ns=[]/\m=d\/m∈ns/\∀ a∈ns,a<=m)->Q (.int m) H1
theorem zW {K:Ih} {p kpos cp:Pos} {d:Int} (hc:X.calm=true) (hg:Gl X "max") (hm:X.mg "max" = none) (ha:QA X [e] t) (hn:bA e=true:=by rfl) (hK:X.K=K:=by rfl):QE X (.Call (.Name "max" p) [e] [⟨some "default",.Constant (.int d) j cp,kpos⟩] pos) (CK K d t):=by
 subst hK
 refine ⟨λ pins s σ H Q I h=>?_⟩
 refine wpAny_Call_Name_kw (eG I hg hm (by decide +kernel:bootBuiltins "max" = some (.builtin "max")) ?_)
 have he1:starEach [e] X.env=[(false,eval e X.env)]:=aB hn
 refine callWith_kw (thn (ha.out pos pins s σ H _ I h) λ us s1 hu=>?_) (by rw [he1]; rfl) (by rw [he1]; rfl)
 obtain ⟨vs,H1,I1,r1,l,ns,rfl,hq,q⟩:=hu
 obtain ⟨u,rfl,ru⟩:=eZ r1
 cases ru
 refine CI (wpAny_Constant_int ?_)
 obtain ⟨its,rv,pl,hz⟩:=I1.list hq
 have hi:=eB rv
 have hl:its.length=ns.length:=hi.length
 refine HT.zU (λ i=>ns.getD i 0) (I.ok.hd hc) (s:={ s1 with toks:=s1.toks+1 }) pl.isList (λ i v hv=>?_) λ v h' tk hmx kp=>?_
 ·obtain ⟨t1,e1⟩:=HT.on hi (i:=i) (IK.mp hv).1
  rw [IH,hv] at e1
  exact ⟨t1,e1⟩
 ·have I2:Inv X pins σ H1 { s1 with heap:=h',toks:=tk }:=I1.kept (t':=tk) kp
  rcases hmx with ⟨h0,rfl⟩ | ⟨i,t1,hi1,rfl,hm1⟩
  ·exact ⟨.int d,H1,I2,⟨_,rfl⟩,q d (.inl ⟨List.eq_nil_of_length_eq_zero (by lia),rfl⟩)⟩
  ·refine ⟨.int (ns.getD i 0),H1,I2,⟨t1,rfl⟩,q _ (.inr ⟨?_,λ a ha=>?_⟩)⟩
   ·rw [IH,IF (by lia)]
    exact JK _
   ·obtain ⟨m,hm2,rfl⟩:=Lz.mp ha
    have:=hm1 m (by lia)
    dsimp only at this
    rw [IH (l:=ns) (i:=m),IF hm2] at this
    exact this
theorem Fx {K:Ih} {d:Int} {H:Hp} {Q:VK} (h:t σ H λ vs H1=>∃ (l:Addr) (ns:List Int),vs=[.ref l]/\SqL K H1 l (ns.map PY)/\∀ m:Int,(ns=[]/\m=d\/m∈ns/\∀ a∈ns,a<=m)->Q (.int m) H1):CK K d t σ H Q:=h
end
section
variable {X:Cx}
end
end L2
namespace HT
open PySem PyProof.Rows PySem.W L2
section
variable {prog:Program} {w:World} {A:Around} {E:Value->Shared->Prop} {s:Shared}
end
section
variable {prog:Program} {w:World} {A:Around} {E:Value->Shared->Prop} {s:Shared}
end
end HT
namespace L2
open PySem PySem.Spec PyProof.Rows PySem.W
section
variable {X:Cx} {pins:List (Addr×Obj)} {σ:St} {H:Hp} {s:Shared} {h':Heap}
end
section
variable {X:Cx} {o e f:Expr} {td ty tx:TE} {pos apos cpos p:Pos}
end
end L2
namespace HT
open PySem PyProof.Rows PySem.W L2
section
variable {prog:Program} {w:World} {A:Around} {E:Value->Shared->Prop} {s:Shared}
theorem GE {o:Obj} {es es1:Array (Int×Value)} {ep:Nat} {t t1:SetTable} (ho:h.get? a=some o) (hd:o.data=.set es ep t):(h.update a (Pq es1 t1)).get? a=some { o with data:=.set es1 (ep+1) t1 }:=by
 have:=Kq (Pq es1 t1) ho (by rw [putSet_of es1 t1 hd]; rfl)
 rw [putSet_of es1 t1 hd] at this
 exact this
end
section
variable {prog:Program} {w:World} {A:Around} {E:Value->Shared->Prop} {s:Shared}
end
section
variable {prog:Program} {w:World} {A:Around} {E:Value->Shared->Prop} {s:Shared}
end
section
variable {prog:Program} {w:World} {A:Around} {E:Value->Shared->Prop} {s:Shared}
end
end HT
namespace L2
open PySem PySem.Spec PyProof.Rows PySem.W
section
variable {X:Cx} {e:Expr} {t:TA} {p p2 pos pos2:Pos} {pins:List (Addr×Obj)} {σ:St} {H:Hp} {s:Shared}
end
section
variable {X:Cx}
end
noncomputable def DR (K:Frag) (P:Params) (d:Addr) (kfs:List (Str×Addr)):Prop:=
 ∃ (ts:List Tok) (ep:Nat),ts.length=kfs.length/\K.lookup d=some ⟨.type "dict",none,.dict ((kfs.zip ts).map λ p=>(⟨Ja P p.1.1,.str p.1.1 p.2,.ref p.1.2⟩:DictEntry)).toArray ep,#[]⟩
noncomputable def Ho (d:Addr) (kfs:List (Str×Addr)):R2:=λ x y H Q=>∃ z f,x=.ref d/\y=.str z/\kfs.lookup z=some f/\Q (.ref f) H
theorem pH {P:Params} {z:Str} {f:Addr}:∀ (kfs:List (Str×Addr)) (ts:List Tok),ts.length=kfs.length->kfs.lookup z=some f->
  (((kfs.zip ts).map λ p=>(⟨Ja P p.1.1,.str p.1.1 p.2,.ref p.1.2⟩:DictEntry)).find? λ e=>Jq z e.key).map (·.val)=some (.ref f)
 | [],_,_,h=>by cases h
 | (y,g)::kfs,[],hl,_=>by cases hl
 | (y,g)::kfs,t::ts,hl,h=>by
  rw [KG,Jy,Oo]
  rw [Jd] at h
  by_cases e:z=y
  ·subst e
   rw [beq_self_eq_true] at h
   cases h
   have:Jq z (K2 z t)=true:=by simp [Jq]
   simp only [this]
   rfl
  ·rw [beq_false_of_ne e] at h
   have:Jq z (K2 y t)=false:=by
    simp only [Jq]
    first
     | exact beq_false_of_ne e
     | exact beq_false_of_ne (Jj e)
     | simpa using e
     | simpa using Jj e
   simp only [this]
   exact pH kfs ts (by simpa using hl) h
section
variable {X:Cx}
theorem Fy {kfs:List (Str×Addr)} (hd:DR X.K X.w.params d kfs):QIx X (Ho d kfs):=by
 refine ⟨λ value slice pins s σ H x y v u Q I rx ry h hs=>?_⟩
 obtain ⟨z,f,rfl,rfl,hl,q⟩:=h
 cases rx
 obtain ⟨t,rfl⟩:=ry
 obtain ⟨ts,ep,hts,hK⟩:=hd
 have ho:=I.kIn _ _ hK
 have hm:s.heap.MapOf (JM X.prog X.w) d (λ k=>findBy (JM X.prog X.w).is ((kfs.zip ts).map λ p=>(⟨Ja X.w.params p.1.1,.str p.1.1 p.2,.ref p.1.2⟩:DictEntry)).toArray k):=by
  refine ⟨_,_,ep,ho,⟨rfl,rfl,rfl⟩,rfl,λ e he=>?_,λ _=>rfl⟩
  obtain ⟨p,hp,rfl⟩:=LD.mp (N8.mp he)
  exact ⟨p.1.1,by simp [JM,Jq],rfl⟩
 refine subscriptTail_builtinR (x:=.ref f) hm.typeIs slot_dict_getitem.lookup (wpAny_getItem_of (Q:=λ r s'=>r=.ref f/\EP X pins σ Q r s') (knd:=JM X.prog X.w) (k:=z) (by simp [JM,Jq]) hm (v:=.ref f) ?_ ⟨rfl,.ref f,H,I.tok _,rfl,q⟩) hs
 show findBy _ _ _=_
 unfold findBy
 rw [Nq]
 exact pH kfs ts hts hl
noncomputable def xQ (R:V->Sp->Prop) (E:XK) (tf:TE) (t:TA):TE:=λ σ H Q=>tf σ H λ v H1=>∃ sp,R v sp/\t σ H1 λ vs H2=>sp vs H2 Q E
theorem wB {R:V->Sp->Prop} {E:XK} {tf:TE} {x:Str} {p:Pos} {e:Expr} {es:List Expr} (hf:QE X (.Name x p) tf)
  (hR:∀ v sp,R v sp->∃ f fd ps CX k,v=.ref f/\FnOk X.prog X.w X.K X.mg X.base CX k f fd ps sp/\Room k X.A/\Jk X.K (.ref f)=true/\Binds X.K fd ps []/\dg CX X E)
  (ha:QA X (e::es) t) (hn:(e::es).all bA=true:=by rfl):QE X (.Call (.Name x p) (e::es) [] pos) (xQ R E tf t):=by
 rw [Kb,IY] at hn
 refine ⟨λ pins s σ H Q I h=>?_⟩
 refine wpAny_Call_Name_kw (thn (hf.out pins s σ H _ I h) λ u s1 hu=>?_)
 obtain ⟨v,H1,I1,ru,sp,hr,q⟩:=hu
 obtain ⟨f,fd,ps,CX,k,rfl,F,hro,hk,hb,hx⟩:=hR v sp hr
 cases ru
 refine Kl (h₀:=X.base) I1.ok.mod.kin hk (thn (ha.out pos pins s1 σ H1 _ I1 q) λ us s2 hu=>?_) (aB hn.1) (bT hn.2)
 obtain ⟨vs,H2,I2,r,q⟩:=hu
 exact ⟨I2.kIn,sd (dvs:=[]) (ds:=[]) F hro hb .nil hx I2 r (by rw [Kp]; exact q)⟩
theorem DS {R:V->Sp->Prop} {E:XK} {tf:TE} {H:Hp} {Q:VK} (h:tf σ H λ v H1=>∃ sp,R v sp/\t σ H1 λ vs H2=>sp vs H2 Q E):xQ R E tf t σ H Q:=h
noncomputable def CL (K:Frag):V->List V->Hp->VK->Prop:=λ x xs H Q=>∃ z l ys,x=.str z/\xs=[.ref l]/\SqL K H l (ys.map PZ)/\(ys.map (·.length)).sum+ys.length*z.length<=16777216/\Q (.str (Ms z ys)) H
theorem zX:MtR X "str.join" (CL X.K):=by
 intro pins s σ H x xs v us Q I rx rs h
 obtain ⟨z,l,ys,rfl,rfl,hq,hs,q⟩:=h
 obtain ⟨t,rfl⟩:=rx
 obtain ⟨u,rfl,ru⟩:=eZ rs
 cases ru
 obtain ⟨its,rv,pl,hz⟩:=I.list hq
 exact join_list pl.isList (kA (by simpa using rv)) hs λ t' k=>⟨.str (Ms z ys),H,I.tok k,⟨_,rfl⟩,q⟩
variable {o e:Expr} {to:TE} {t:TA} {apos cpos:Pos}
theorem lA {K:Ih} (ho:QE X o to) (ha:QA X [e] t) (hbase:attributeBase o ("join" : Str) X.env (eval o X.env)=eval o X.env:=by rfl) (hline:(apos.endLine == cpos.line)=true:=by rfl) (hn:bA e=true:=by rfl) (hK:X.K=K:=by rfl) :
  QE X (.Call (.Attribute o "join" apos) [e] [] cpos) (tBM K "str" (CL K) to t):=by subst hK; exact ⟨o9 Lh PySem.F.slot_str_join PySem.F.type_str_join zX ho.out ha.out hbase hline hn⟩
end
section
variable {X:Cx} {pins:List (Addr×Obj)} {σ:St} {H:Hp} {s:Shared}
variable {N frs:List Str} {x qual:Str} {ix:List Nat} {scope:Scope} {cl:List (Str×Addr)} {params:Arguments} {body:Expr}
section
variable {te:TE} {t:TA} {p pos kpos lpos:Pos} {e:Expr} {k:Nat} {cc P:Addr}
end
end
theorem TabOk.tbl {P:Addr} {lpos:Pos} {qual:Str} {H:Hp} (t:TabOk P lpos qual H):∃ ar,H P=some (.tbl ar):=by
 rcases t with t | ⟨c',t,tc⟩
 ·exact ⟨_,t⟩
 ·exact ⟨_,t⟩
end L2
namespace L2
open PySem PySem.Spec PyProof.Rows
section
variable {qs:List (Nat×Nat)} {b:Nat} {st:HW}
end
noncomputable def vf (c:Nat) (xs:List (List Nat)):List Nat:=xs.map λ r=>r.getD c 0
theorem block (c:Nat):∀ {ys:List (List Nat)} (_:(vf c ys).Pairwise (·<=·)) (g:Nat),(ys.drop (mt (vf c ys) g)).take ((vf c ys).count g)=ys.filter λ r=>decide (r.getD c 0=g)
 | [],_,g=>by simp
 | r::ys,h,g=>by
  have h':(r.getD c 0::vf c ys).Pairwise (·<=·):=h
  rw [JU] at h'
  have ih:=block c h'.2 g
  have e1:vf c (r::ys)=r.getD c 0::vf c ys:=rfl
  rw [e1,List.filter_cons]
  generalize hf:r.getD c 0=f at h'
  have hl:mt (f::vf c ys) g=(if f<g then 1 else 0)+mt (vf c ys) g:=by
   unfold mt
   rw [List.countP_cons]
   by_cases q:f<g
   ·rw [if_pos (by simpa using q),if_pos q]; lia
   ·rw [if_neg (by simpa using q),if_neg q]; lia
  rcases NK f g with q | q | q
  ·rw [hl,if_pos q,if_neg (by simpa using Iy q),List.count_cons_of_ne (by simpa using Iy q),Nk 1,List.drop_succ_cons]
   exact ih
  ·subst q
   have z:mt (vf c ys) f=0:=by
    unfold mt
    rw [List.countP_eq_zero]
    intro x hx
    have:=h'.1 x hx
    simpa using this
   rw [z] at ih
   rw [hl,if_neg (Jr _),z,if_pos (by simp),List.count_cons_self,K9,List.take_succ_cons]
   rw [K9] at ih
   rw [ih]
  ·have z:(f::vf c ys).count g=0:=by
    rw [List.count_eq_zero]
    intro hx
    rcases Io.mp hx with e | e
    ·lia
    ·have:=h'.1 g e; lia
   rw [z,MT,if_neg (by simpa using JX q)]
   symm
   rw [List.filter_eq_nil_iff]
   intro x hx
   have:=h'.1 (x.getD c 0) (LD.mpr ⟨x,hx,rfl⟩)
   simp only [decide_eq_true_eq]
   lia
section
variable {X:Cx} {o e f:Expr} {td ty tx:TE} {pos apos cpos p:Pos}
end
section
variable {X:Cx} {o tg:Expr} {td:TE} {pos apos cpos p:Pos}
end
end L2
namespace HT
open PySem PyProof.Rows PySem.W L2
section
variable {prog:Program} {w:World} {A:Around} {E:Value->Shared->Prop} {s:Shared}
end
end HT
namespace L2
open PySem PySem.Spec PyProof.Rows
section
variable {X:Cx}
end
section
variable {X:Cx} {N tgs frs:List Str} {ix:List Nat} {scope:Scope} {cl:List (Str×Addr)} {xc:Str}
end
end L2
namespace HT
open PySem PyProof.Rows PySem.W L2
structure OwnInit (K:Frag) (C:Addr) (bmB:List Value) (newId:String) (f:Addr):Prop where
 at_:∃ dd cd sl bm k0 k1 k2 k3 k5,K.lookup C=some ⟨.type "type",dd,.cls cd,sl⟩/\cd.mro=.ref C::bm/\sl.toList=[k0,k1,k2,k3,some (.builtin newId),k5]/\
  cd.hasDel=false/\tailIn K bmB bm=true/\nsOkIn K cd.ns=true/\nsIn K cd.ns "__init__" = some (some (.ref f))
 fn:typeIn K (.ref f)=some (.type "function")
theorem zY {K:Frag} {N:Addr} {m:Str->Option Value} {n:Str} {v:Value} (X:K.In h) (G:h.Ns N m) (e:nsIn K N n=some (some v)):m n=some v:=by
 obtain ⟨ob,xs,ep,h1,h2,_,h3⟩:=G
 simp only [nsIn] at e
 split at e
 ·rename_i q
  have:=X _ _ q
  rw [h1] at this
  cases this
  cases h2
  rw [<-h3]
  have k:nsFind xs n=(xs.toList.find? λ x=>x.key.isStr n).map (·.val):=by unfold nsFind findBy; rw [Nf]
  rw [k]
  revert e
  cases q2:xs.toList.find? λ x=>x.key.isStr n with
  | some y=>intro e; rw [Ls]; simpa using e
  | none=>intro e; dsimp only at e; split at e<;>cases e
 ·cases e
theorem OwnInit.obj {K:Frag} {bmB:List Value} {nid:String} (X:K.In h) (q:OwnInit K C bmB nid f) :
  ∃ tl N nm qn bs hd sn sub ab col dd k0 k1 k2 k3 k5 mN,h.get? C=some (excClassObj nm qn C N bs tl hd sn sub ab col dd k0 k1 k2 k3 k5 nid)/\h.Ns N mN/\mN "__init__" = some (.ref f)/\OwnTail h bmB tl:=by
 obtain ⟨dd,cd,sl,bm,k0,k1,k2,k3,k5,e1,e2,e3,e4,e5,e6,e7⟩:=q.at_
 obtain ⟨nm,bs,mro,ns,qn,hd,sn,sub,ab,col,del⟩:=cd
 dsimp only at e2 e4 e6 e7
 subst e2 e4
 obtain ⟨l⟩:=sl
 have e3:l=_:=e3
 subst e3
 have hns:=Heap.Ns.of_isNs (isNs_of_in X e6)
 exact ⟨bm,ns,nm,qn,bs,hd,sn,sub,ab,col,dd,k0,k1,k2,k3,k5,_,X _ _ e1,hns,zY X hns e7,tail_of_in X e5⟩
section
variable {prog:Program} {w:World} {A:Around} {E:Value->Shared->Prop} {h:Heap} {g:Array GenState} {d:Drawn} {t:Nat} {os:OsState}
variable {nm q:Str} {C N f:Addr} {bs bm bmB:List Value} {hdct:Bool} {sn:List Str} {sub:List Value} {ab:Bool} {col:Option Bool} {dd:Option Addr} {k0 k1 k2 k3 k5:Option Value} {B Bn newId nid initId inN:String} {bmN:List Value}
theorem kb {K:Frag} (X:K.In h) (Fn:ExcBaseFacts Bn newId inN bmN) (hBn:bmB.contains (.type Bn)=true) (F:ExcBaseFacts B nid initId bmB) (T:OwnTail h bmB bm) {mN:Str->Option Value} {rest:List Value} {Q:Fin->Shared->Prop}
  (hC:h.get? C=some (excClassObj nm q C N bs bm hdct sn sub ab col dd k0 k1 k2 k3 k5 newId)) (hn:h.Ns N mN) (hni:mN "__init__" = some (.ref f)) (hft:typeIn K (.ref f)=some (.type "function"))
  (hq:wpAny (model prog w) A (call (.ref f) (.ref (h.objs.size+1)::rest)) (λ v s'=>v=.none/\Q (.done (.ret (.ref (h.objs.size+1)))) s') E ⟨(h.push { cls:=.type "tuple",data:=.seq rest.toArray }).push { cls:=.ref C,data:=.fields #[.ref h.objs.size,.none,.none,.none,.bool false,.none] },g,d,t,os⟩) (hrest:rest.length<=sizeLine:=by size_fits) :
  wpAny (model prog w) A (Builtin.«type.__call__» ⟨.ref C::rest,[]⟩) Q E ⟨h,g,d,t,os⟩:=by
 repeat (first | with_reducible refine wpAny_loadPart_at hC ?_ | with_reducible refine wpAny_madeBy_exc hC ?_ | wp_step)
 refine codeAny_call_builtin_code (LV _ Fn.quiet) (wpAny_check_new_subU Fn hBn T hC ?_)
 refine codeAny_exc_new_subU Fn hBn F T hC ?_ hrest
 show wpAny _ _ _ _ _ _
 have kp:∀ b o,h.get? b=some o->((h.push { cls:=.type "tuple",data:=.seq rest.toArray }).push { cls:=.ref C,data:=.fields #[.ref h.objs.size,.none,.none,.none,.bool false,.none] }).get? b=some o:=λ b o e=>Ij _ (Ij _ e)
 have hC₁:=kp _ _ hC
 have hn₁:((h.push { cls:=.type "tuple",data:=.seq rest.toArray }).push { cls:=.ref C,data:=.fields #[.ref h.objs.size,.none,.none,.none,.bool false,.none] }).Ns N mN:=
  let ⟨o,es,ep,e,r⟩:=hn; ⟨o,es,ep,kp _ _ e,r⟩
 have hget:((h.push { cls:=.type "tuple",data:=.seq rest.toArray }).push
   { cls:=.ref C,data:=.fields #[.ref h.objs.size,.none,.none,.none,.bool false,.none] }).get? (h.objs.size+1)=some
   { cls:=.ref C,data:=.fields #[.ref h.objs.size,.none,.none,.none,.bool false,.none] }:=by heap_get
 have hcC:(IT C::bm).contains (.ref C)=true:=by simp
 have T₁:=T.keeps (h':=(h.push { cls:=.type "tuple",data:=.seq rest.toArray }).push { cls:=.ref C,data:=.fields #[.ref h.objs.size,.none,.none,.none,.bool false,.none] }) kp
 unfold isInstance
 repeat (first | with_reducible refine wpAny_loadPart_at hget ?_ | (with_reducible refine wpAny_isSubtype_exc hC₁ ?_; rw [hcC]) | wp_step)
 show wpAny _ _ (typeLookup (.ref C) _) _ _ _
 refine wpAny_typeLookup_tail hC₁ hn₁ T₁ F.mroIs F.init.lookup ?_
 rw [hni]
 refine wpAny_holding (wpAny_bind ((bind_fn (X.keeps kp) (.ref (h.objs.size+1)) hft) A _ _ _ (λ b o e=>e) ?_))
 refine wpAny_bind (wpAny_mono hq (λ v s' ⟨hv,hQ⟩=>?_) λ _ _ z=>z)
 subst hv
 refine wpAny_pure ?_
 show wpAny _ _ (ret (IT (h.objs.size+1))) _ _ _
 exact wpAny_pure hQ
theorem tW {K:Frag} (X:K.In h) (Fn:ExcBaseFacts Bn newId inN bmN) (hBn:bmB.contains (.type Bn)=true) (F:ExcBaseFacts B nid initId bmB) (T:OwnTail h bmB bm) {mN:Str->Option Value} {rest:List Value} 
  (hC:h.get? C=some (excClassObj nm q C N bs bm hdct sn sub ab col dd k0 k1 k2 k3 k5 newId)) (hn:h.Ns N mN) (hni:mN "__init__" = some (.ref f)) (hft:typeIn K (.ref f)=some (.type "function"))
  (hq:wpAny (model prog w) (A.under (.builtin "type.__call__" ⟨.ref C::rest,[]⟩)) (call (.ref f) (.ref (h.objs.size+1)::rest)) (λ v s'=>v=.none/\Q (.ref (h.objs.size+1)) s') E ⟨(h.push { cls:=.type "tuple",data:=.seq rest.toArray }).push { cls:=.ref C,data:=.fields #[.ref h.objs.size,.none,.none,.none,.bool false,.none] },g,d,t,os⟩) (hrest:rest.length<=sizeLine:=by size_fits) :
  wpAny (model prog w) A (call (.ref C) rest) Q E ⟨h,g,d,t,os⟩:=by
 have f1:=tc_lookup
 have f2:=tc_bind (.ref C)
 have hT:(⟨h,g,d,t,os⟩:Shared).TypeIs (.ref C) "type":=⟨_,hC,rfl⟩
 refine wpAny_call (codeAny_of_tree ?_)
 show wpAny _ _ (callAny (.ref C) _) _ _ _
 repeat (any_goals (first | assumption | with_reducible refine wpAny_loadPart_at hC ?_ | wp_step))
 refine ⟨rfl,?_⟩
 refine codeAny_call_builtin_at (LV _ (by decide +kernel)) entry_typeCall (wpAny_check_type_call_sub hC (kb (hrest:=hrest) X Fn hBn F T hC hn hni hft ?_))
 exact hq
end
section
variable {M:Model} {A:Around} {E:Value->Shared->Prop} {env:Env}
variable {nm q:Str} {C N:Addr} {bs bm:List Value} {hdct:Bool} {sn:List Str} {sub:List Value} {ab:Bool} {col:Option Bool} {dd:Option Addr} {k0 k1 k2 k3 k5:Option Value} {newId:String}
theorem tX {s:Shared} {x:Sem Value} {Q:Flow->Shared->Prop} (hb:bm.contains (.type "BaseException")=true) (hh:A.handled=none)
  (h:wpAny M A x (λ v s₁=>∃ e t dx,v=.ref e/\s₁.heap.get? C=some (excClassObj nm q C N bs bm hdct sn sub ab col dd k0 k1 k2 k3 k5 newId)/\
   s₁.heap.get? e=some { cls:=.ref C,dict:=dx,data:=.fields #[.ref t,.none,.none,.none,.bool false,.none] }/\E (.ref e) s₁) E s):wpAny M A (raiseStmt env (some x) none) Q E s:=by
 have hc:(IT C::bm).contains (.type "BaseException")=true:=by rw [Nr,hb,Mo]
 unfold raiseStmt
 refine wpAny_bind (wpAny_mono h (λ v s₁ h₁=>?_) λ _ _ z=>z)
 obtain ⟨e,t,dx,rfl,hC,he,hE⟩:=h₁
 obtain ⟨hp,g,d,tk,os⟩:=s₁
 repeat (first | with_reducible refine wpAny_loadPart_at he ?_ | with_reducible refine wpAny_loadPart_at hC ?_ | (with_reducible refine wpAny_isSubtype_exc hC ?_; rw [hc]) | wp_step)
 exact wpAny_raiseNew_none hh hE
end
end HT
namespace L2
open PySem PySem.Spec PyProof.Rows
section
variable {P:Program} {w:World} {K:Ih} {mg:Str->Option Value} {base:Heap} {N:List Str} {qual:Str} {scope:Scope} {f:Addr} {cd:Value} {A:Around} {outer:List Env} {s0:Shared} {H0:Hp} {E:XK}
end
end L2
namespace HT
open PySem PyProof.Rows PySem.W L2
section
variable {prog:Program} {w:World} {A:Around} {E:Value->Shared->Prop} {h:Heap} {g:Array GenState} {d:Drawn} {t:Nat} {os:OsState}
variable {C f e t0:Addr} {K:Frag} {dx:Option Addr} {u:Value}
noncomputable def du (C t0:Addr) (dx:Option Addr):Obj:={ cls:=.ref C,dict:=dx,data:=.fields #[.ref t0,.none,.none,.none,.bool false,.none] }
theorem qJ (X:K.In h) (q:OwnInit K C veB "ValueError.__new__" f) (he:h.get? e=some (du C t0 dx))
  (hq:∀ h',(∀ b o,b≠e->h.get? b=some o->h'.get? b=some o)->h'.get? e=some (du C h.objs.size dx)->Q .none ⟨h',g,d,t,os⟩) :
  wpAny (model prog w) A (call (.builtin "ValueError.__init__") [.ref e,u]) Q E ⟨h,g,d,t,os⟩:=by
 obtain ⟨tl,N,nm,qn,bs,hdd,sn,sub,ab,col,dd,k0,k1,k2,k3,k5,mN,hC,hN,hni,T⟩:=q.obj X
 have F:=Kw
 refine wpAny_call (codeAny_call_builtin F.init.plain F.initEntry (wpAny_check_init_subU F T hC he rfl ?_))
 unfold du at he
 wp_walk
 refine hq _ (λ b o hb e1=>?_) ?_
 ·rw [JQ _ _ (Jj hb)]
  exact Ij _ e1
 ·rw [Kq _ (Ij _ he) rfl]
  rfl
noncomputable def i6:List Value->Bool
 | .ref _::r=>i6 r
 | l=>l == veB
theorem kB (self:Value):∀ {l:List Value},i6 l=true->refuseLoop self "__setattr__" l=pure ()
 | [],e=>by cases e
 | c::r,e=>by
  cases c
  case ref a=>rw [refuseLoop_ref]; exact kB self (l:=r) e
  all_goals
   have z:=beq_iff_eq.mp (show (_::r == veB)=true from e)
   rw [z]; exact F.store_ValueError.passes self
theorem i7:∀ {l:List Value},i6 l=true->l.contains (.type "object")=true
 | [],e=>by cases e
 | c::r,e=>by
  cases c
  case ref a=>rw [Nr,i7 (l:=r) e,Mo]
  all_goals
   have z:=beq_iff_eq.mp (show (_::r == veB)=true from e)
   rw [z]; rfl
structure XSt (K:Frag) (C:Addr) (name:Str):Prop where
 sa:findIn K (.ref C) "__setattr__" = some (some (.builtin "object.__setattr__"))
 over:(clsIn K C).any (λ cd=>i6 cd.mro)=true
 no:findIn K (.ref C) name=some none
 hd:(clsIn K C).any (·.hasDict)=true
theorem wC {v:Value} {Q:Unit->Shared->Prop} (X:K.In h) (c:XSt K C name) (hx:h.get? e=some (du C t0 none))
  (hq:∀ h' tk,h'.get? e=some (du C t0 (some h.objs.size))->h'.Ns1 h.objs.size (λ y=>if y=name then some v else none)->(∀ b o,b≠e->h.get? b=some o->h'.get? b=some o)->Q () ⟨h',g,d,tk,os⟩) :
  wpAny (model prog w) A (setAttr (.ref e) name v) Q E ⟨h,g,d,t,os⟩:=by
 have I:InstAt h e (du C t0 none) C none:=⟨hx,rfl,rfl,trivial⟩
 refine set_plain (s:=⟨h,g,d,t,os⟩) X I c.sa ?_
 obtain ⟨cd,hc,ho⟩:=any_some c.over
 obtain ⟨cd',hc',hdd⟩:=any_some c.hd
 rw [hc] at hc'; cases hc'
 have SF:=PySem.F.store_object
 have ne:cd.mro.isEmpty=false:=by cases q:cd.mro with | nil=>rw [q] at ho; cases ho | cons _ _=>rfl
 have sub:Looks (model prog w) h (isInstance (.ref e) (.type "object")) true:=I.type.andThen (looks_mroIn X (by unfold mroIn; rw [hc,Option.bind_some,if_neg (by rw [ne]; decide),i7 ho]))
 refine codeAny_call_builtin SF.slot.plain SF.entry (@check_slot (model prog w) _ _ ⟨h,g,d,t+1,os⟩ "object.__setattr__" "object" "__setattr__" (.ref e) [.str name t,v] [] _ SF.kind SF.split sub (SF.args (.ref e) (.str name t) v) ?_)
 have hm:Looks (model prog w) h (mroOf (.ref C)) cd.mro:=(looks_clsIn X hc).andThen .now
 rw [osa_eq,refuse_eq]
 refine wpAny_bind (wpAny_bind (Looks.here (s:=⟨h,g,d,t+1,os⟩) I.type (wpAny_bind (Looks.here (s:=⟨h,g,d,t+1,os⟩) hm ?_))))
 rw [kB _ ho]
 refine wpAny_pure (wpAny_bind (Looks.here (s:=⟨h,g,d,t+1,os⟩) I.type (wpAny_bind (Looks.here (s:=⟨h,g,d,t+1,os⟩) (looks_findIn X c.no) (wpAny_bind (wpAny_pure ?_))))))
 refine wpAny_bind (wpAny_pure (wpAny_bind (wpAny_bind (wpAny_loadPart hx (wpAny_bind (Looks.here (s:=⟨h,g,d,t+1,os⟩) (looks_clsIn X hc) ?_))))))
 rw [hdd]
 have hx1:(h.push { cls:=.type "dict",data:=.dict #[] }).get? e=some (du C t0 none):=Ij _ hx
 have hxs:e≠h.objs.size:=Iy (Ip hx)
 refine wpAny_bind (wpAny_alloc' (wpAny_bind (wpAny_update' hx1 (wpAny_pure ?_))))
 have hgd:((h.push { cls:=.type "dict",data:=.dict #[] }).update e λ o=>{ o with dict:=some h.objs.size }).get? h.objs.size=some { cls:=.type "dict",data:=.dict #[] }:=
  (M9 _ _ _ _ hxs.symm).trans (Heap.get?_push_at rfl rfl)
 have hnd:((h.push { cls:=.type "dict",data:=.dict #[] }).update e λ o=>{ o with dict:=some h.objs.size }).Ns h.objs.size (λ _=>none):=
  ⟨_,#[],_,hgd,rfl,λ e he=>absurd he (by simp),λ _=>rfl⟩
 have hx2:((h.push { cls:=.type "dict",data:=.dict #[] }).update e λ o=>{ o with dict:=some h.objs.size }).get? e=some (du C t0 (some h.objs.size)):=Kq _ hx1 rfl
 refine wpAny_bind (wpAny_pure (wpAny_bind (wpAny_nsSet1 (s:=⟨(h.push { cls:=.type "dict",data:=.dict #[] }).update e λ o=>{ o with dict:=some h.objs.size },g,d,t+1,os⟩) (NE hnd) λ h' hn' hs=>?_)))
 obtain ⟨oD,esD,epD,hoD,hdD,hcD⟩:=hn'.count (Within.cons name v Within.nil)
 refine wpAny_bind (wpAny_lookBehind hoD (by rw [hdD]; exact pastItsLine_dict (Js hcD (by rw [IU,JY,sizeLine_eq]; lia))) ?_)
 refine wpAny_pure ?_
 exact hq h' _ ((hs.2 e hxs).trans hx2) hn' λ b o hb e1=>(hs.2 b (Iy (Ip e1))).trans ((M9 _ _ _ _ hb).trans (Ij _ e1))
structure SupI (K:Frag) (S:Addr):Prop where
 ga:specialIn K (.ref S) "__getattribute__" = some (some (.builtin "type.__getattribute__"))
 rd:readsIn K S (.type "type")=true
 fd:findCls K (.ref S) (.type "type") "__init__" = some (.val (.builtin "ValueError.__init__"))
theorem zZ {S:Addr} {pl:Sem Bool} {s:Shared} {Q:Value×List Value->Shared->Prop} (X:K.In s.heap) (c:SupI K S) (h:Q (.builtin "ValueError.__init__",[]) { s with toks:=s.toks+1 }) :
  wpAny (model prog w) A (getMethod (.ref S) "__init__" pl) Q E s:=method_cls X c.ga (cls_value X c.rd c.fd rfl h)
theorem qK {tk:Tok} {o:Obj} {v:Value} {Q:Fin->Shared->Prop} (X:K.In h) (c:XCl K C) (no:findIn K (.ref C) name=some none) (hdc:hasDictIn K C=true)
  (I:∃ od,InstAt h e o C (some od)/\lookIn name od=some (some v)) (hq:Q (.done (.ret v)) ⟨h,g,d,t,os⟩) :
  wpAny (model prog w) A (Builtin.«object.__getattribute__» ⟨[.ref e,.str name tk],[]⟩) Q E ⟨h,g,d,t,os⟩:=by
 obtain ⟨od,I,hl⟩:=I
 have L0:=I.type (M:=model prog w)
 have L2:=looks_find (M:=model prog w) X I (findObj_own hdc no rfl hl)
 repeat (any_goals (first | assumption | with_reducible refine Looks.at L0 ?_ | with_reducible refine Looks.at L2 ?_ | wp_step))
theorem z0 {tk:Tok} {fill expr:Bool} {o:Obj} {v:Value} (X:K.In h) (c:XCl K C) (no:findIn K (.ref C) name=some none) (hdc:hasDictIn K C=true)
  (I:∃ od,InstAt h e o C (some od)/\lookIn name od=some (some v)) (hh:handedIn v=true) (hq:Q v ⟨h,g,d,t,os⟩) :
  wpAny (model prog w) A (getAttrBy (.ref e) (.str name tk) fill expr) Q E ⟨h,g,d,t,os⟩:=by
 obtain ⟨od,J,hl⟩:=id I
 have L0:=J.type (M:=model prog w)
 have L1:=looks_findIn (M:=model prog w) X c.ga
 have L2:=looks_findIn (M:=model prog w) X c.gt
 have L3:=looks_mroIn (M:=model prog w) X c.mb
 have sl:=NQ.ga
 have bnd:=sl.bind (.ref e)
 have ne:(onTheHeap (IT C) && Kc "BaseException.__getattribute__" == Kc "object.__getattribute__")=false:=by
  rw [show (Kc "BaseException.__getattribute__" == Kc "object.__getattribute__")=false from by decide +kernel,MW]
 have nx:(expr && onTheHeap (Kc "BaseException.__getattribute__"))=false:=MW _
 have hho:=handedOut_of hh
 repeat (any_goals (first | assumption | with_reducible refine Looks.at L0 ?_ | with_reducible refine Looks.at L1 ?_ | with_reducible refine Looks.at L2 ?_ | wp_step))
 refine codeAny_call_builtin sl.plain Ol (pC X c J.at_ J.cls (qK X c no hdc I ?_))
 repeat (any_goals (first | assumption | wp_step))
theorem Hq {expr:Bool} {o:Obj} {v:Value} (X:K.In h) (c:XCl K C) (no:findIn K (.ref C) name=some none) (hdc:hasDictIn K C=true)
  (I:∃ od,InstAt h e o C (some od)/\lookIn name od=some (some v)) (hh:handedIn v=true) (hq:Q v ⟨h,g,d,t+1,os⟩) :
  wpAny (model prog w) A (getAttr (.ref e) name expr) Q E ⟨h,g,d,t,os⟩:=wpAny_bind (wpAny_mkText (z0 X c no hdc I hh hq))
end
end HT
namespace L2
open PySem PySem.Spec PyProof.Rows PySem.W
noncomputable def hU (e C:Addr) (d:Option Addr):HO:=.ext λ h=>∃ t0,h.get? e=some (HT.du C t0 d)
theorem ox {w:World} {H:Hp} {e t0:Addr} {d:Option Addr} (he:h.get? e=some (HT.du C t0 d)):ObjOk P w H h e (hU e C d):=
 ⟨⟨t0,he⟩,⟨_,he⟩,λ h1 h2 ⟨t,z⟩ k=>⟨t,k _ z⟩⟩
noncomputable def GF (K:Frag) (t:TA):TE:=λ σ H Q=>t σ H λ vs H1=>∃ e C f d y,vs=[.ref e,y]/\H1 e=some (hU e C d)/\HT.OwnInit K C veB "ValueError.__new__" f/\Q .non H1
noncomputable def CM (K:Frag) (ta tv:TE) (f:Str):TS:=λ D σ H=>tv σ H λ y H1=>ta σ H1 λ x H2=>∃ e C,x=.ref e/\H2 e=some (hU e C none)/\HT.XSt K C f/\∀ dx,H2 dx=none->dx≠e->
 D.nx σ (upd (upd H2 dx (.xd [(f,y)])) e (hU e C (some dx)))
section
variable {X:Cx} {o value e:Expr} {es:List Expr} {f x:Str} {pos pos' apos np:Pos} {ta tv:TE} {t:TA} {S:Addr}
theorem CN {K:Frag} {pl:Sem Bool} (hg:Gl X x) (hm:X.mg x=some (.ref S)) (c:HT.SupI X.K S) (ha:QA X (e::es) t)
  (hst:starEach (e::es) X.env=(false,eval e X.env)::starEach es X.env:=by rfl) (hpl:(backTo pos (starEach es X.env)).any (·.1)=false:=by rfl) (hd:(x == ("__debug__" : Str))=false:=by decide)
  (ht:eval (.Call (.Attribute (.Name x np) "__init__" apos) (e::es) [] pos) X.env=(do
   let ov <-eval (.Name x np) X.env
   standAt apos.atName
   let (f,first) <-holding [ov] (getMethod ov "__init__" pl)
   callWith pos f first (backTo pos (starEach (e::es) X.env)) (backToKw pos (keywordEach [] X.env))):=by rfl) (hK:X.K=K:=by rfl) :
  QE X (.Call (.Attribute (.Name x np) "__init__" apos) (e::es) [] pos) (GF K t):=⟨by
 subst hK
 intro pins s σ H Q I h
 refine PySem.W.methodCall_KW (pl:=pl) (cG I hg hm ?_ hd) ht
 refine HT.zZ I.kIn c ?_
 refine Ly (thn (ha.out pos pins _ σ H _ (I.tok _) h) λ us s2 ⟨vs,H2,I2,r,q2⟩=>?_) hst hpl
 obtain ⟨ea,C,f,d,y,rfl,he,oi,q⟩:=q2
 cases r with
 | cons rx rr=>
  cases rr with
  | cons ry rr=>
   cases rr
   cases rx
   obtain ⟨⟨t0,hx⟩,_⟩:=(show ObjOk X.prog X.w H2 s2.heap ea (hU ea C d) from I2.hok ea _ he)
   obtain ⟨hp,g,dr,tk,os⟩:=s2
   refine HT.qJ I2.kIn oi hx λ h' k1 k2=>?_
   have J:=I2.write (x:=ea) (e:=ea) (o:=hU ea C d) (h':=h') (t':=tk) (by rw [he]; exact IS) (.inl rfl) (λ b u hb z=>k1 b u hb z) ⟨_,k2⟩ (ox k2)
   have eH:upd H2 ea (hU ea C d)=H2:=by
    funext b
    by_cases z:b=ea
    ·subst z; rw [aa,he]
    ·rw [ag z]
   rw [eH] at J
   exact ⟨.non,H2,J,rfl,q⟩⟩
theorem z7 {K:Frag} (ha:QE X o ta) (hv:QE X value tv) (hs:swapsWith value (some (.Attribute o f pos')) pos.line X.env=pure false:=by rfl) (hK:X.K=K:=by rfl):QS X (.Assign [.Attribute o f pos'] value pos) (CM K ta tv f):=⟨by
 subst hK
 intro pins s σ H D I h
 refine plainObj_wpAny_Assign_Attribute (thn (hv.out pins s σ H _ I h) λ u s1 ⟨y,H1,I1,ry,q⟩=>thn (ha.out pins s1 σ H1 _ I1 q) λ ov s2 ⟨x,H2,I2,rx,ea,C,ex,he,c,q2⟩=>?_) hs
 subst ex
 cases rx
 obtain ⟨⟨t0,hx⟩,_⟩:=(show ObjOk X.prog X.w H2 s2.heap ea (hU ea C none) from I2.hok ea _ he)
 obtain ⟨hp,g,dr,tk,os⟩:=s2
 refine HT.wC I2.kIn c hx λ h' tk' k2 hn k1=>?_
 have hnew:H2 hp.objs.size=none:=I2.hok.fresh (Im _)
 have hne:hp.objs.size≠ea:=λ z=>by rw [z,he] at hnew; cases hnew
 obtain ⟨oD,esD,epD,hoD,rD⟩:=id hn
 have hg:(hp.push oD).get? hp.objs.size=some oD:=Iz _ (Np.mp hoD).2
 have J1:=I2.laid (a:=hp.objs.size) (o:=.xd [(f,y)]) (h':=hp.push oD) (t':=tk') (λ b u z=>Ij _ z) (Im _)
  ⟨_,hn.at λ o z=>by rw [hoD] at z; cases z; exact hg,λ z=>by
   show RelO (Jw z [(f,y)]) (if z=f then some u else none)
   by_cases zz:z=f
   ·subst zz
    have q:Jw z [(z,y)]=some y:=by simp [Jw]
    rw [if_pos rfl,q]; exact ry
   ·rw [if_neg zz]
    have:(z == f)=false:=beq_eq_false_iff_ne.mpr zz
    simp [Jw,this,RelO]⟩
 have he1:upd H2 hp.objs.size (.xd [(f,y)]) ea=some (hU ea C none):=by rw [ag (Jj hne)]; exact he
 have J2:=J1.write (x:=ea) (e:=ea) (o:=hU ea C (some hp.objs.size)) (h':=h') (t':=tk') (by rw [he1]; exact IS) (.inl rfl) (λ b u hb z=>by
  by_cases q:b=hp.objs.size
  ·subst q
   rw [show (hp.push oD).get? hp.objs.size=some oD from hg] at z; cases z; exact hoD
  ·have z:(hp.push oD).get? b=some u:=z
   exact k1 b u hb ((Heap.get?_push_ne _ _ _ q).symm.trans z)) ⟨_,k2⟩ (ox k2)
 exact ⟨σ,_,J2,q2 _ hnew hne⟩⟩
end
noncomputable def del (H:Hp) (a:Addr):Hp:=λ b=>if b=a then none else H b
theorem pI {H:Hp} :del H a a=none:=by unfold del; rw [if_pos rfl]
theorem hV {H:Hp} (h:b≠a):del H a b=H b:=by unfold del; rw [if_neg h]
noncomputable def tY (C:Addr) (sp:Sp) (t:TA):TX:=λ _ Ex σ H=>t σ H λ vs H1=>vs.length<=sizeLine/\∀ e,H1 e=none->sp (.ref e::(vs++[])) (upd H1 e (hU e C none)) (λ v H2=>v=.non/\∃ d,H2 e=some (hU e C d)/\Ex C d σ (del H2 e)) λ _ _ _=>False
section
variable {X:Cx} {pins:List (Addr×Obj)} {σ:St} {H:Hp} {s:Shared}
theorem Inv.drop {φ:Heap->Prop} (I:Inv X pins σ H s) (he:H a=some (.ext φ)):Inv X pins σ (del H a) s:=by
 have dn:∀ b,H b=none->del H a b=none:=λ b z=>by unfold del; split<;>first | rfl | exact z
 refine ⟨I.ok,I.os,I.bare,⟨I.base.keep,I.base.slot,λ b ob q n hx=>dn _ (I.base.free b ob q n hx),I.base.there,λ b xs q=>?_,λ b ob u q=>?_,λ b ps q=>?_⟩,I.loc,I.cell,dn _ I.free,λ x c q=>dn _ (I.freeC x c q),λ p hp'=>?_,λ b u q=>?_,I.len⟩
 ·have z:=I.base.tups b xs q
  rw [hV (λ y=>by rw [y,he] at z; cases z)]; exact z
 ·have z:=I.base.frzs b ob u q
  rw [hV (λ y=>by rw [y,he] at z; cases z)]; exact z
 ·obtain ⟨more,z⟩:=I.base.tbls b ps q
  exact ⟨more,by rw [hV (λ y=>by rw [y,he] at z; cases z)]; exact z⟩
 ·obtain ⟨a1,a2,a3⟩:=I.pin p hp'
  exact ⟨a1,dn _ a2,a3⟩
 ·have hb:b≠a:=λ z=>by rw [z,pI] at q; cases q
  rw [hV hb] at q
  exact (I.hok b u q).stay (λ _ _ _ z=>z) (λ c z=>by rw [hV (λ y=>by rw [y,he] at z; cases z)]; exact z) λ c xs z=>by rw [hV (λ y=>by rw [y,he] at z; cases z)]; exact z
end
section
variable {X:Cx} {e:Expr} {es:List Expr} {t:TA} {np cpos pos p:Pos} {x:Str} {C f:Addr}
theorem mE {fd:FuncData} {ps:List Str} {sp:Sp} (oi:HT.OwnInit X.K C veB "ValueError.__new__" f) (Fi:FnOk X.prog X.w X.K X.mg X.base CX0 k f fd ps sp) (hr:Room (k+1) X.A) (hb:Binds X.K fd ps []) (hkp:keepIn X.K (.ref C)=true) (hg:Gl X x) (hm:X.mg x=some (.ref C)) (hcalm:X.calm=true) (ha:QA X (e::es) t)
  (hn:(e::es).all bA=true:=by rfl) (hd:(x == ("__debug__" : Str))=false:=by decide) (hex:X.ex=[]:=by rfl) (hx:∀ e s,X.xe e s->False:=by intro _ _ z; exact z) :
  QX X (.Raise (some (.Call (.Name x np) (e::es) [] cpos)) none pos) (tY C sp t):=⟨by
 rw [Kb,IY] at hn
 intro pins s σ H D Ex I h
 obtain ⟨tl,N,nm,qn,bs,hdd,sn,sub,ab,col,dd,k0,k1,k2,k3,k5,mN,hC,hN,hni,T⟩:=oi.obj I.ok.mod.kin
 rw [arm_exec_Raise]
 simp only [evalOpt,Pk]
 refine wpAny_bind (wpAny_standAt (HT.tX (C:=C) (N:=N) (nm:=nm) (q:=qn) (bs:=bs) (bm:=tl) (hdct:=hdd) (sn:=sn) (sub:=sub) (ab:=ab) (col:=col) (dd:=dd) (k0:=k0) (k1:=k1) (k2:=k2) (k3:=k3) (k5:=k5) (newId:="ValueError.__new__") (T.hasType Kw.hasBase) (I.ok.hd hcalm) ?_))
 refine wpAny_bind (wpAny_Call_Name_kw (cG I hg hm ?_ hd))
 refine Kl (h₀:=X.base) I.ok.mod.kin hkp (wpAny_mono (ha.out cpos pins s σ H _ I h) (λ us s1 ⟨vs,H1,I1,r,hlen,q⟩=>⟨I1.kIn,?_⟩) λ e s z=>(hx e s z).elim) (aB hn.1) (bT hn.2)
 have e1:((s1.heap.push { cls:=.type "tuple",data:=.seq us.toArray }).push { cls:=.ref C,data:=.fields #[.ref s1.heap.objs.size,.none,.none,.none,.bool false,.none] }).get? (s1.heap.objs.size+1)=some (HT.du C s1.heap.objs.size none):=by
  have:=Iz (s1.heap.push { cls:=.type "tuple",data:=.seq us.toArray }) (o:={ cls:=.ref C,data:=.fields #[.ref s1.heap.objs.size,.none,.none,.none,.bool false,.none] }) rfl
  rwa [Kg] at this
 have hfr:H1 (s1.heap.objs.size+1)=none:=I1.hok.fresh (KY _)
 have I2:=I1.laid (a:=s1.heap.objs.size+1) (o:=hU (s1.heap.objs.size+1) C none) (h':=(s1.heap.push { cls:=.type "tuple",data:=.seq us.toArray }).push { cls:=.ref C,data:=.fields #[.ref s1.heap.objs.size,.none,.none,.none,.bool false,.none] }) (t':=s1.toks) (λ b u z=>Ij _ (Ij _ z)) (KY _) (ox e1)
 have hq:=q (s1.heap.objs.size+1) hfr
 have r2:Vals (P0 (s1.heap.objs.size+1)::(vs++[])) (IT (s1.heap.objs.size+1)::(us++[])):=.cons rfl (r.append .nil)
 have hl:(IT (s1.heap.objs.size+1)::us++[]).length=ps.length:=by
  have e:=r2.length
  rw [Fi.len _ _ _ _ hq] at e
  exact e.symm
 refine HT.tW (h:=s1.heap) (g:=s1.gens) (d:=s1.drawn) (t:=s1.toks) (os:=s1.os) I1.kIn Kw Kw.hasB Kw (T.keeps I1.bk) (I1.bk _ _ hC) (hN.keeps I1.bk) hni oi.fn ?_ (by show us.length<=sizeLine; rw [<-r.length]; exact hlen)
 refine wpAny_call (codeAny_mono (Fi.run _ X.stack _ _ ⟨IT (s1.heap.objs.size+1)::us,[]⟩ (IT (s1.heap.objs.size+1)::(us++[])) _ _ _ (hr.make C us [])
  (I2.env0.make C us []) (by have:=hb _ (IT (s1.heap.objs.size+1)::us) I2.kIn hl; exact this) r2 hq) λ rr s' hq'=>?_)
 cases rr with
 | error e=>exact IV hq'
 | ok fl=>
  cases fl with
  | ret u=>
   obtain ⟨v,H',I3,rv,ev,d,hd',ex⟩:=I2.after hq'
   subst ev
   obtain ⟨⟨t0,hx3⟩,_⟩:=(show ObjOk X.prog X.w H' s'.heap (s1.heap.objs.size+1) (hU (s1.heap.objs.size+1) C d) from I3.hok _ _ hd')
   refine ⟨rv,wpAny_bind (wpAny_standAt (wpAny_pure ⟨s1.heap.objs.size+1,t0,d,rfl,I3.bk _ _ hC,hx3,?_⟩))⟩
   refine ⟨s1.heap.objs.size+1,C,d,σ,del H' (s1.heap.objs.size+1),rfl,ex,.inr (.inr ⟨?_,I3.drop hd',_,_,.ref t0,hx3,rfl,rfl,rfl,rfl,pI,?_,λ p hp z=>?_⟩)⟩
   ·cases d with
    | none=>trivial
    | some dx=>exact ⟨_,hx3,rfl⟩
   ·cases q0:X.s₀.heap.get? (s1.heap.objs.size+1) with
    | none=>rfl
    | some o=>
     obtain ⟨o',z⟩:=I1.base.there _ o q0 (by rw [hex]; simp)
     exact absurd (Ip z) (Pr.mpr (KY _))
   ·have:=Ip (I1.pin p hp).1
    rw [z] at this
    exact absurd this (Pr.mpr (KY _))
  | next=>exact IV hq'
  | brk=>exact IV hq'
  | cont=>exact IV hq'⟩
noncomputable def CO (K:Frag) (te:TE) (f:Str):TE:=λ σ H Q=>te σ H λ x H1=>∃ a C dx fs v,x=.ref a/\H1 a=some (nI a C (some dx))/\H1 dx=some (.xd fs)/\XCl K C/\findIn K (.ref C) f=some none/\hasDictIn K C=true/\fs.lookup f=some v/\Q v H1
theorem tZ {K:Frag} {o:Expr} {nm:Str} (he:QE X o te) (hb:attributeBase o nm X.env (eval o X.env)=eval o X.env:=by rfl) (hK:X.K=K:=by rfl):QE X (.Attribute o nm pos) (CO K te nm):=⟨by
 subst hK
 intro pins s σ H Q I h
 refine rZ hb (thn (he.out pins s σ H _ I h) λ u s1 ⟨x,H1,I1,rx,a,C,dx,fs,v,ex,ea,ed,c,no,hdc,l,q⟩=>?_)
 subst ex
 cases rx
 obtain ⟨⟨o,vs,p1,p2,p3,p4⟩,_⟩:=(show ObjOk X.prog X.w H1 s1.heap a (nI a C (some dx)) from I1.hok a _ ea)
 obtain ⟨mA,hn,hrel⟩:=(show ObjOk X.prog X.w H1 s1.heap dx (.xd fs) from I1.hok dx _ ed)
 obtain ⟨od,hod,hl⟩:=lV hn
 have hv:=hrel nm
 rw [l] at hv
 cases hm:mA nm with
 | none=>rw [hm] at hv; exact hv.elim
 | some u'=>
  rw [hm] at hv
  obtain ⟨hp,g,dr,tk,os⟩:=s1
  have hd:=p4 dx rfl
  refine HT.Hq I1.kIn c no hdc ⟨od,⟨p1,p2,?_,?_⟩,by rw [hl,hm]⟩ (lW hv) ⟨v,H1,I1.tok _,hv,q⟩
  ·unfold notCls; rw [p3]
  ·rw [hd]; exact hod⟩
end
end L2
namespace HT
open PySem PyProof.Rows PySem.W L2
noncomputable def Aa (K:Frag) (C:Addr) (bmB:List Value) (nid:String) (f:Addr):Bool:=match K.lookup C with
 | some ⟨.type "type",_,.cls cd,sl⟩=>(match cd.mro,sl.toList with
  | .ref C'::bm,[_,_,_,_,some (.builtin n),_]=>C' == C && n == nid && !cd.hasDel && tailIn K bmB bm && nsOkIn K cd.ns && nsIn K cd.ns "__init__" == some (some (.ref f))
  | _,_=>false)
 | _=>false
theorem CP {K:Frag} {bmB:List Value} {nid:String} (q:Aa K C bmB nid f=true) (hf:isFn K (.ref f)=true):OwnInit K C bmB nid f:=by
 refine ⟨?_,beq_iff_eq.mp hf⟩
 unfold Aa at q
 split at q
 ·rename_i dd cd sl ho
  split at q
  ·rename_i C' bm k0 k1 k2 k3 n k5 hm hs
   rw [IY,IY,IY,IY,IY] at q
   obtain ⟨⟨⟨⟨⟨z1,z2⟩,z3⟩,z4⟩,z5⟩,z6⟩:=q
   have z1:C'=C:=beq_iff_eq.mp z1
   have z2:n=nid:=beq_iff_eq.mp z2
   have z3:cd.hasDel=false:=by simpa using z3
   subst z1 z2
   exact ⟨_,_,_,_,_,_,_,_,_,ho,hm,hs,z3,z4,z5,beq_iff_eq.mp z6⟩
  ·cases q
 ·cases q
noncomputable def Ac (K:Frag) (S:Addr):Bool:=specialIn K (.ref S) "__getattribute__" == some (some (.builtin "type.__getattribute__")) && readsIn K S (.type "type") && (match findCls K (.ref S) (.type "type") "__init__" with
 | some (.val (.builtin n))=>n == "ValueError.__init__"
 | _=>false)
theorem CQ {K:Frag} {S:Addr} (q:Ac K S=true):SupI K S:=by
 unfold Ac at q
 rw [IY,IY] at q
 obtain ⟨⟨z1,z2⟩,z3⟩:=q
 refine ⟨beq_iff_eq.mp z1,z2,?_⟩
 split at z3
 ·rename_i n e
  rw [e,show n = "ValueError.__init__" from beq_iff_eq.mp z3]
 ·cases z3
end HT
namespace L2
open PySem PySem.Spec PyProof.Rows PySem.W
section
variable {D:Ends} {Ex:XW} {σ:St} {H:Hp} {Q:VK} {K:Frag} {C:Addr} {t:TA} {ta tv:TE} {f:Str} {sp:Sp} {E:XK}
theorem GG (h:t σ H λ vs H1=>∃ e C f d y,vs=[.ref e,y]/\H1 e=some (hU e C d)/\HT.OwnInit K C veB "ValueError.__new__" f/\Q .non H1):GF K t σ H Q:=h
theorem DT (h:tv σ H λ y H1=>ta σ H1 λ x H2=>∃ e C,x=.ref e/\H2 e=some (hU e C none)/\HT.XSt K C f/\∀ dx,H2 dx=none->dx≠e->D.nx σ (upd (upd H2 dx (.xd [(f,y)])) e (hU e C (some dx)))):CM K ta tv f D σ H:=h
theorem Ba (h:t σ H λ vs H1=>vs.length<=sizeLine/\∀ e,H1 e=none->sp (.ref e::(vs++[])) (upd H1 e (hU e C none)) (λ v H2=>v=.non/\∃ d,H2 e=some (hU e C d)/\Ex C d σ (del H2 e)) λ _ _ _=>False):tY C sp t D Ex σ H:=h
theorem Fz (h:ta σ H λ x H1=>∃ a C dx fs v,x=.ref a/\H1 a=some (nI a C (some dx))/\H1 dx=some (.xd fs)/\XCl K C/\findIn K (.ref C) f=some none/\hasDictIn K C=true/\fs.lookup f=some v/\Q v H1):CO K ta f σ H Q:=h
end
end L2
namespace L2
open PySem PySem.Spec PyProof.Rows
section
variable {X:Cx}
end
end L2
namespace L2
open PySem PySem.Spec PyProof.Rows PySem.Builtin PySem.Builtin.Str
theorem mF:∀ l:List (Str×Tok),Vals ((l.map (·.1)).map PZ) (strValues l)
 | []=>.nil
 | p::r=>.cons ⟨p.2,rfl⟩ (mF r)
theorem qL {prog:Program} {w:World} {A:Around} {E:Value->Shared->Prop} {s:Shared} {x:Str} {t u:Tok} (hy:(y.length == 0)=false)
  (h:∀ l k,l.map (·.1)=Jp x y->l.length<=sizeLine->Q (.ref s.heap.objs.size) { s with heap:=s.heap.push { cls:=.type "list",data:=.seq (strValues l).toArray },toks:=k })
  (hsz:x.length+2<=sizeLine):wpAny (model prog w) A (call (.builtin "str.split") [.str x t,.str y u]) Q E s:=by
 have hn:(partsBetween x (occurrences x y 0 x.length (x.length+1)) y.length).length<=sizeLine:=by
  have e1:=StrLaws.occ_length_le x y 0 x.length (x.length+1)
  rw [length_partsBetween]; lia
 have h1s:([(x,t)]:List (Str×Tok)).length<=sizeLine:=by show 1<=_; lia
 cases h1:(decide (x.length<y.length) || decide (strKind x<strKind y))
 ·cases hf:(occurrences x y 0 x.length (x.length+1)).isEmpty
  ·refine call_meets KL (typeIs_str _ _ _) La (K8 _ _) (meets_str_split_sep x y t u h1 hy hf (by lia) hn) ?_
   show wants Q E _ { s with toks:=_,heap:=s.heap.push { cls:=.type "list",data:=.seq (strsFrom s.toks (partsBetween x (occurrences x y 0 x.length (x.length+1)) y.length)).toArray } }
   rw [strsFrom_eq]
   have e:=numbered_texts s.toks (partsBetween x (occurrences x y 0 x.length (x.length+1)) y.length)
   refine h (numbered s.toks _) _ (e.trans ((if_neg (ne_true_of_eq_false h1)).trans (if_neg (ne_true_of_eq_false hf))).symm) ?_
   rw [<-Ir (f:=(·.1)),e]; exact hn
  ·exact call_meets KL (typeIs_str _ _ _) La (K8 _ _) (meets_str_split_not_found x y t u h1 hy hf)
    (h [(x,t)] s.toks ((if_neg (ne_true_of_eq_false h1)).trans (if_pos hf)).symm h1s)
 ·exact call_meets KL (typeIs_str _ _ _) La (K8 _ _) (meets_str_split_cannot_occur x y t u h1)
   (h [(x,t)] s.toks (if_pos h1).symm h1s)
noncomputable def xR:V->List V->Hp->VK->Prop:=λ x xs H Q=>∃ z y,x=.str z/\xs=[.str y]/\(y.length == 0)=false/\z.length+2<=sizeLine/\∀ p,H p=none->Q (.ref p) (upd H p (.lst ((Jp z y).map PZ)))
noncomputable def CS:V->List V->Hp->VK->Prop:=λ x xs H Q=>∃ z y,x=.str z/\xs=[.str y]/\z.length<=sizeLine/\Q (.str (Kh z y)) H
noncomputable def Hr:R2:=λ x y H Q=>∃ a b,x=.str a/\y=.str b/\Q (.bl (Mt b a)) H
noncomputable def Hs (d:Addr) (kfs:List (Str×Addr)):R2:=λ x y H Q=>∃ z,x=.str z/\y=.ref d/\Q (.bl (kfs.lookup z).isSome) H
noncomputable def FA:List V->Hp->VK->Prop:=λ xs H Q=>∃ z n,xs=[.str z]/\intText? z=some n/\z.length<=640/\Q (.int n) H
noncomputable def GH (K:Ih) (ta tb:TE):TE:=λ σ H Q=>ta σ H λ x H1=>∃ k,yY K x H1 k/\(k=true->Q x H1)/\(k=false->tb σ H1 Q)
noncomputable def tNo:TE:=λ _ _ _=>False
section
variable {X:Cx}
theorem wD:MtR X "str.split" xR:=by
 intro pins s σ H x xs v us Q I rx rs h
 obtain ⟨z,y,rfl,rfl,hy,hz,q⟩:=h
 obtain ⟨t,rfl⟩:=rx
 obtain ⟨u,rfl,ru⟩:=eZ rs
 obtain ⟨t',rfl⟩:=ru
 refine qL hy (λ l k e hl=>?_) hz
 have hv:=mF l
 rw [e] at hv
 refine ⟨.ref s.heap.objs.size,_,I.laid (t':=k) (λ b o q=>Ij _ q) (Im _) (show ObjOk X.prog X.w _ _ _ (.lst ((Jp z y).map PZ)) from ⟨?_,strValues l,0,hv,Iz _ rfl⟩),rfl,q _ (I.hok.fresh (Im _))⟩
 rw [<-e,Ir,Ir]; exact hl
theorem Ae:MtR X "str.removeprefix" CS:=by
 intro pins s σ H x xs v us Q I rx rs h
 obtain ⟨z,y,rfl,rfl,hz,q⟩:=h
 obtain ⟨t,rfl⟩:=rx
 obtain ⟨u,rfl,ru⟩:=eZ rs
 obtain ⟨t',rfl⟩:=ru
 exact call_gives LG (typeIs_str _ _ _) PySem.F.entry_str_removeprefix (PySem.F.args_str_removeprefix_2 _ _) (gives_str_removeprefix z y t t') (post_affix hz _ λ t' k=>⟨.str _,H,I.tok k,⟨_,rfl⟩,q⟩)
theorem CT:QOp X (compareOp .In) Hr:=by
 refine ⟨λ pins s σ H x y v u Q I rx ry h=>?_⟩
 obtain ⟨a,b,rfl,rfl,q⟩:=h
 obtain ⟨t,rfl⟩:=rx
 obtain ⟨t',rfl⟩:=ry
 exact P.in_str ⟨.bl _,H,I,rfl,q⟩
theorem Af:QC X (.type "int") FA:=by
 refine ⟨λ pins s σ H xs us Q I r h=>?_⟩
 obtain ⟨z,n,rfl,hn,hl,q⟩:=h
 obtain ⟨u,rfl,ru⟩:=eZ r
 obtain ⟨t,rfl⟩:=ru
 exact Pi hn hl ⟨.int n,H,I.tok _,⟨_,rfl⟩,q⟩
variable {o e a b:Expr} {rest:List Expr} {to ta tb:TE} {t:TA} {apos cpos pos:Pos}
theorem pJ {K:Ih} (ho:QE X o to) (ha:QA X [e] t) (hbase:attributeBase o ("split" : Str) X.env (eval o X.env)=eval o X.env:=by rfl) (hline:(apos.endLine == cpos.line)=true:=by rfl) (hn:bA e=true:=by rfl) (hK:X.K=K:=by rfl) :
  QE X (.Call (.Attribute o "split" apos) [e] [] cpos) (tBM K "str" xR to t):=by subst hK; exact ⟨o9 Lh KL PySem.F.type_str_split wD ho.out ha.out hbase hline hn⟩
theorem Ag {K:Ih} (ho:QE X o to) (ha:QA X [e] t) (hbase:attributeBase o ("removeprefix" : Str) X.env (eval o X.env)=eval o X.env:=by rfl) (hline:(apos.endLine == cpos.line)=true:=by rfl) (hn:bA e=true:=by rfl) (hK:X.K=K:=by rfl) :
  QE X (.Call (.Attribute o "removeprefix" apos) [e] [] cpos) (tBM K "str" CS to t):=by subst hK; exact ⟨o9 Lh LG PySem.F.type_str_removeprefix Ae ho.out ha.out hbase hline hn⟩
theorem xS {K:Ih} (ha:QE X a ta) (hb:QE X (.BoolOp .Or (b::rest) pos) tb) (hK:X.K=K:=by rfl):QE X (.BoolOp .Or (a::b::rest) pos) (GH K ta tb):=⟨by
 subst hK
 intro pins s σ H Q I h
 refine BoolOp_or (thn (ha.out pins s σ H _ I h) λ v s1 ⟨x,H1,I1,r1,k,hk,q1,q2⟩=>?_)
 refine wpAny_mono (xE pins s1 σ H1 x v (λ c H2=>c=k/\H2=H1) I1 r1 ⟨k,hk,rfl,rfl⟩) (λ c s2 q=>?_) λ _ _ z=>z
 obtain ⟨H2,I2,rfl,rfl⟩:=q
 cases c with
 | true=>exact ⟨x,H2,I2,r1,q1 rfl⟩
 | false=>exact hb.out pins s2 σ H2 Q I2 (q2 rfl)⟩
theorem t7 {e:Expr}:QE X e tNo:=⟨λ _ _ _ _ _ _ h=>h.elim⟩
end
theorem mG {P:Params} {z:Str}:∀ (kfs:List (Str×Addr)) (ts:List Tok),ts.length=kfs.length->
  (((kfs.zip ts).map λ p=>(⟨Ja P p.1.1,.str p.1.1 p.2,.ref p.1.2⟩:DictEntry)).find? λ e=>Jq z e.key).isSome=(kfs.lookup z).isSome
 | [],_,_=>rfl
 | (y,g)::kfs,[],hl=>by cases hl
 | (y,g)::kfs,t::ts,hl=>by
  rw [KG,Jy,Oo,Jd]
  by_cases e:z=y
  ·subst e
   rw [beq_self_eq_true]
   have:Jq z (K2 z t)=true:=by simp [Jq]
   simp only [this]
   rfl
  ·rw [beq_false_of_ne e]
   have:Jq z (K2 y t)=false:=by
    simp only [Jq]
    first
     | exact beq_false_of_ne e
     | exact beq_false_of_ne (Jj e)
     | simpa using e
     | simpa using Jj e
   simp only [this]
   exact mG kfs ts (by simpa using hl)
theorem CU {kfs:List (Str×Addr)} (hd:DR X.K X.w.params d kfs) (hs:(d == sysModules)=false):QOp X (compareOp .In) (Hs d kfs):=by
 refine ⟨λ pins s σ H x y v u Q I rx ry h=>?_⟩
 obtain ⟨z,rfl,rfl,q⟩:=h
 obtain ⟨t,rfl⟩:=rx
 cases ry
 obtain ⟨ts,ep,hts,hK⟩:=hd
 have ho:=I.kIn _ _ hK
 have hm:s.heap.MapOf (JM X.prog X.w) d (λ k=>findBy (JM X.prog X.w).is ((kfs.zip ts).map λ p=>(⟨Ja X.w.params p.1.1,.str p.1.1 p.2,.ref p.1.2⟩:DictEntry)).toArray k):=by
  refine ⟨_,_,ep,ho,⟨rfl,rfl,rfl⟩,rfl,λ e he=>?_,λ _=>rfl⟩
  obtain ⟨p,hp,rfl⟩:=LD.mp (N8.mp he)
  exact ⟨p.1.1,by simp [JM,Jq],rfl⟩
 refine wpAny_in_of (knd:=JM X.prog X.w) (k:=z) (by simp [JM,Jq]) hs hm ?_
 have e:(findBy (JM X.prog X.w).is ((kfs.zip ts).map λ p=>(⟨Ja X.w.params p.1.1,.str p.1.1 p.2,.ref p.1.2⟩:DictEntry)).toArray z).isSome=(kfs.lookup z).isSome:=by
  unfold findBy
  rw [Nq,Option.isSome_map]
  exact mG kfs ts hts
 rw [e]
 exact ⟨.bl _,H,I.tok _,rfl,q⟩
structure FnM (P:Program) (w:World) (K:Ih) (mg:Str->Option Value) (base:Heap) (k:Nat) (f:Addr) (fd:FuncData) (ps:List Str) (sp:Sp):Prop where
 len:∀ vs H Q E,sp vs H Q E->vs.length=ps.length
 run:∀ (A:Around) (outer:List Env) (s:Shared) (H:Hp) (args:Args) (us:List Value) (vs:List V) (Q:VK) (E:XK) (e:Addr),Room k A->Env0 P w K mg base A outer s H->BindsTo s fd args (ps.zip us)->Vals vs us->sp vs H Q E->
  codeAny (model P w) (A.mark (some (.ref e))) (.call (.ref f) args) (CR CX0 outer P w H s Q E) s
section
variable {P:Program} {w:World} {K:Ih} {mg:Str->Option Value} {base:Heap}
theorem Fun.okM {x:Str} {st:Stmt} {fd:FuncData} {N ps:List Str} {sp:Sp} (F:Fun K x qual st f fd) (S:FnScope N ps (ae st)) (len:∀ vs H Q E,sp vs H Q E->vs.length=ps.length)
  (hbody:∀ (cdv:Value) (A:Around) (outer:List Env) (s:Shared) (H:Hp) (vs:List V) (Q:VK) (E:XK) (e:Addr),sp vs H Q E->
   ∃ t,QB (fM (lS CX0 P w K mg base N qual (ae st) f cdv A outer s H E) e) (bE st) t/\t { nx:=λ _ H'=>Q .non H',rt:=Q } (aI N vs) H):FnM P w K mg base (k+1) f fd ps sp:=by
 obtain ⟨oc,od,kV,doc,pm,an,cdv,ct,osl,rfl,lk,hcd⟩:=F.ex
 refine ⟨len,λ A outer s H args us vs Q E e hr e0 hb r hsp=>?_⟩
 have hl:=len _ _ _ _ hsp
 have KX:K.In s.heap:=e0.mod.kin.keeps λ b o e=>(e0.bs b o e).1
 have lim:s.heap.NoLimit:=e0.mod.nolimit.keeps λ b o e=>(e0.bs b o e).1
 have hkind:∀ y∈ps.zip us,(ae st).names.lookup y.1=some .local\/((ae st).names.lookup y.1=some .cell/\((cellsFrom (s.heap.objs.size+1) (ae st).names []).lookup y.1).isSome=true):=λ⟨n,v⟩ hy=>by
  rcases S.par n (Lx hy).1 with q | q
  ·exact .inl q
  ·exact .inr ⟨q,Lf _ _ _ (.inl q)⟩
 refine codeAny_call_function (A:=A.mark (some (.ref e))) hr.depth (KX _ _ lk) rfl S.co S.gen rfl (Ni KX hcd) (hb _ _ _ _ ?_)
 refine wpAny_newFunctionEnv_cells S.kind hkind λ env he s1 x=>?_
 subst he
 refine ⟨lim.keeps x.toInCall.keep,codeAny_func ?_⟩
 obtain ⟨t,ht,hq⟩:=hbody cdv A outer s H vs Q E e hsp
 have I:Inv (lS CX0 P w K mg base N qual (ae st) f cdv A outer s H E) [] (aI N vs) H s1:=l7 S hr.hd e0 hl r x
 refine wpAny_mono (ht.out [] s1 (aI N vs) H _ (I.mark e) hq) (λ fl s' hs=>?_) λ e s' hs=>IV hs
 have fin:∀ {σ':St} {H':Hp} {v:V} {u:Value},Inv (fM (lS CX0 P w K mg base N qual (ae st) f cdv A outer s H E) e) [] σ' H' s'->RelV v u->Q v H'->CE outer P w H s Q u s':=
  λ {σ' H' v u} J rv q=>⟨v,H',J.os,J.bare,J.base,J.hok,rv,q⟩
 cases fl with
 | ret u=>
  obtain ⟨v,σ',H',J,rv,q⟩:=hs
  exact fin J rv q
 | next=>
  obtain ⟨σ',H',J,q⟩:=hs
  exact fin (v:=V.non) (u:=IW) J rfl q
 | brk=>
  obtain ⟨_,_,_,q⟩:=hs
  exact IV q
 | cont=>
  obtain ⟨_,_,_,q⟩:=hs
  exact IV q
end
theorem wE {e:Addr} {fd:FuncData} {ps:List Str} {sp:Sp} {x:Str} {p:Pos} {a:Expr} {es:List Expr} (F:FnM X.prog X.w X.K X.mg X.base k f fd ps sp) (hr:Room k X.A) (hg:Gl X x) (hm:X.mg x=some (.ref f)) (hk:Jk X.K (.ref f)=true) (hb:Binds X.K fd ps [])
  (ha:QA (fM X e) (a::es) t) (hn:(a::es).all bA=true:=by rfl) (hdb:(x == ("__debug__" : Str))=false:=by decide):QE (fM X e) (.Call (.Name x p) (a::es) [] pos) (nO sp [] E0 t):=⟨by
 rw [Kb,IY] at hn
 intro pins s σ H Q I h
 refine wpAny_Call_Name_kw (cG I hg hm ?_ hdb)
 refine Kl (h₀:=X.base) I.ok.mod.kin hk (thn (ha.out pos pins s σ H _ I h) λ us s1 ⟨vs,H1,I1,r,q⟩=>⟨I1.kIn,?_⟩) (aB hn.1) (bT hn.2)
 have r2:Vals (vs++[]) (us++[]):=r.append .nil
 have hl:(us++[]).length=ps.length:=by rw [<-r2.length]; exact F.len _ _ _ _ q
 have e0:=I1.env0
 refine wpAny_call (codeAny_mono (F.run X.A X.stack s1 H1 ⟨us,[]⟩ (us++[]) (vs++[]) Q E0 e hr ⟨e0.frames,e0.mod,e0.bs,e0.bsz,e0.funs,e0.frf,e0.hok,e0.bare⟩ (hb s1 us I1.kIn hl) r2 q) λ r s' hq=>?_)
 cases r with
 | error e=>exact IV hq
 | ok fl=>
  cases fl with
  | ret u=>exact I1.after hq
  | next=>exact IV hq
  | brk=>exact IV hq
  | cont=>exact IV hq⟩
noncomputable def GI (te:TEX) (g:TG):TX:=λ D Ex σ H=>te σ H (λ v H1=>g v σ H1 D.nx) λ C d H1=>Ex C d σ H1
theorem Ai {e:Expr} {tx:TEX} {ts:List Expr} {tpos:Pos} (he:QEX X e tx) (hg:QG X (.Tuple ts k tpos) g) (hs:swapsWithSole [.Tuple ts k tpos] e pos.line X.env=pure false:=by rfl) (hw:swappedStores [.Tuple ts k tpos] e X.env=pure none:=by rfl)
  (h1:(assignEach [.Tuple ts k tpos] X.env).map (·.2)=[assign (.Tuple ts k tpos) X.env]:=by rfl) (hx:∀ e s,X.xe e s->False:=by intro _ _ z; exact z):QX X (.Assign [.Tuple ts k tpos] e pos) (GI tx g):=⟨by
 intro pins s σ H D Ex I h
 refine wpAny_Assign_stores (wpAny_mono (he.out pins s σ H _ _ I h) (λ v s1 ⟨y,H1,I1,r1,q1⟩=>?_) λ _ _ z=>xpX z) hs hw
 rw [h1]
 exact wpAny_mono (hg.out pins s1 σ H1 y v _ I1 r1 q1) (λ _ s2 q=>q) λ e s z=>(hx e s z).elim⟩
theorem FB {te:TEX} {Ex:XW} {H:Hp} (h:te σ H (λ v H1=>g v σ H1 D.nx) λ C d H1=>Ex C d σ H1):GI te g D Ex σ H:=h
theorem FnOk.calm {w:World} {K:Ih} {mg:Str->Option Value} {base:Heap} {fd:FuncData} {ps:List Str} {sp sp':Sp} (F:FnOk P w K mg base (CXE P w) k f fd ps sp) (h:∀ vs H Q E,sp' vs H Q E->sp vs H Q λ _ _ _=>False):FnOk P w K mg base CX0 k f fd ps sp':=
 ⟨λ vs H Q E q=>F.len _ _ _ _ (h _ _ _ _ q),λ A outer s H args us vs Q E hr he hb hv q=>codeAny_mono (F.run A outer s H args us vs Q _ hr he hb hv (h _ _ _ _ q)) λ r s' z=>by
  cases r with
  | error e=>obtain ⟨_,_,_,_,_,_,_,_,_,_,_,z⟩:=z; exact z
  | ok fl=>cases fl<;>exact z⟩
theorem GJ {K:Ih} {H:Hp} {Q:VK} {tb:TE} (h:ta σ H λ x H1=>∃ k,yY K x H1 k/\(k=true->Q x H1)/\(k=false->tb σ H1 Q)):GH K ta tb σ H Q:=h
end L2
set_option maxHeartbeats 0
namespace Fs
open PySem PySem.Spec PyProof.Rows L2
local macro_rules
 | `(tactic| walk_at "s")=>`(tactic| exact ⟨rfl,rfl,rfl,by decide +kernel,rfl,by decide +kernel,by decide +kernel⟩)
local macro_rules
 | `(tactic| nofun)=>do
  let q ←("FX Fr Gx Gy DP DQ Gz Fq FY EQ FZ ER ES GW Ga ET Ic Gb GY Gc EU Ge GJ FB EV Id GZ G6 G7 DD Gk E6 Gm DF DG Ie Gf Gg Gn E7 DH G9 EW Gh EX Gi Gj GX ln He Hf E8 DN Gu Fh DL Gq Gr Hi Fg Cq DJ GA Ft Fu Fj Hh iU Fw Fx DS GG DT Ba Fz".splitOn " ").foldrM (fun n (a:Lean.TSyntax `tactic)=>`(tactic| first | (with_reducible refine $(Lean.mkIdent (PF n)) ?_) | $a:tactic)) (←`(tactic| fail))
  `(tactic| (repeat (first | $q:tactic | (with_reducible refine zS ?_; dsimp only [Kr]) | (with_reducible refine vW ?_; dsimp only [Kr]) | ((with_reducible show Eh _ _ _ _); refine ⟨_,rfl,?_⟩) | (with_reducible refine G8 ?c ?_; (case c=>first | (show (0:Int)<_; omega) | exact EY (by omega) (by omega) | exact Ha (by omega) (by omega) | exact EZ (by omega) (by omega) (by omega) | exact E1 (by omega) (by omega) | exact E2 (by omega) (by omega) | exact Hb (by decide) (by decide) (by decide))) | (with_reducible refine Ca (by first | assumption | exact aa) ?_; refine ⟨_,rfl,?_⟩) | (with_reducible refine zm (by first | assumption | exact aa) ?_; refine ⟨_,rfl,?_⟩) | (with_reducible refine zn (by first | assumption | exact aa) ?_; refine ⟨_,rfl,?_⟩; dsimp only [Int.reduceToNat,Kr]) | (with_reducible refine zw ?_; dsimp only [Kr]) | ((with_reducible show GS _ _ _ _ _ _); refine ⟨_,rfl,?_⟩))))
def top (i:Nat):Stmt:=Il.main.body.getD i (.Pass ⟨0,0,0,0⟩)
noncomputable abbrev bg:Stmt:=sr (top 5) 0
noncomputable abbrev pK:Stmt:=top 7
noncomputable abbrev pL:Stmt:=top 8
noncomputable abbrev ce:Stmt:=top 9
noncomputable abbrev t8:Stmt:=top 10
noncomputable abbrev hW:Stmt:=top 11
noncomputable abbrev i8:Stmt:=top 12
noncomputable abbrev cA:Stmt:=top 13
noncomputable abbrev kC:Stmt:=top 15
noncomputable abbrev dv:Stmt:=top 16
noncomputable abbrev c4:Stmt:=top 17
noncomputable abbrev c5:Stmt:=top 18
noncomputable abbrev kD:Stmt:=top 20
noncomputable abbrev fO:Stmt:=top 21
noncomputable abbrev kF:Stmt:=top 22
noncomputable abbrev CV:Stmt:=top 23
noncomputable abbrev mH:Stmt:=top 24
noncomputable abbrev t9:Stmt:=top 25
noncomputable abbrev dw:Stmt:=top 26
noncomputable abbrev pM:Stmt:=top 29
noncomputable abbrev cL:Stmt:=top 30
noncomputable abbrev xT:Stmt:=top 32
noncomputable abbrev pN:Stmt:=top 33
noncomputable abbrev dy:Stmt:=top 34
noncomputable abbrev dz:Stmt:=top 35
noncomputable abbrev dA:Stmt:=top 36
noncomputable abbrev mI:Stmt:=top 37
noncomputable abbrev pO:Stmt:=top 39
noncomputable abbrev dB:Stmt:=top 42
noncomputable abbrev eJ:Stmt:=top 45
noncomputable abbrev mJ:Stmt:=top 46
noncomputable abbrev c6:Stmt:=top 49
noncomputable abbrev cf:Stmt:=top 50
noncomputable abbrev bI:Stmt:=top 51
noncomputable abbrev cM:Stmt:=top 52
noncomputable abbrev kG:Stmt:=top 53
noncomputable abbrev fe:Stmt:=top 54
noncomputable abbrev i9:Stmt:=top 55
noncomputable abbrev ja:Stmt:=top 57
noncomputable abbrev dC:Stmt:=top 58
noncomputable abbrev hX:Stmt:=top 60
noncomputable abbrev fP:Stmt:=top 61
noncomputable abbrev hZ:Stmt:=top 62
noncomputable abbrev jb:Stmt:=top 63
noncomputable abbrev h7:Stmt:=top 64
noncomputable abbrev jc:Stmt:=top 65
noncomputable abbrev fQ:Stmt:=top 69
noncomputable abbrev kH:Stmt:=top 70
noncomputable abbrev mK:Stmt:=top 71
noncomputable abbrev dD:Stmt:=top 78
noncomputable abbrev ff:Stmt:=top 79
noncomputable abbrev cN:Stmt:=top 80
noncomputable abbrev jd:Stmt:=top 81
noncomputable abbrev je:Stmt:=top 82
noncomputable abbrev jf:Stmt:=top 84
noncomputable abbrev jg:Stmt:=top 85
noncomputable abbrev h8:Stmt:=top 86
noncomputable abbrev jh:Stmt:=top 87
noncomputable abbrev h9:Stmt:=top 88
noncomputable abbrev fg:Stmt:=top 89
noncomputable abbrev ia:Stmt:=top 90
noncomputable abbrev bJ:Stmt:=sr (top 95) 0
noncomputable abbrev ji:Stmt:=top 96
noncomputable abbrev gH:Stmt:=top 97
noncomputable abbrev fR:Stmt:=top 98
noncomputable abbrev mL:Stmt:=top 99
noncomputable abbrev fS:Stmt:=top 100
noncomputable abbrev cg:Stmt:=top 101
noncomputable abbrev fT:Stmt:=top 102
noncomputable abbrev eL:Stmt:=top 103
noncomputable abbrev eM:Stmt:=top 104
noncomputable abbrev cB:Stmt:=top 105
noncomputable abbrev fU:Stmt:=top 106
noncomputable abbrev cO:Stmt:=top 107
noncomputable abbrev dE:Stmt:=top 108
noncomputable abbrev eO:Stmt:=top 109
noncomputable abbrev fh:Stmt:=top 111
noncomputable abbrev jj:Stmt:=top 112
noncomputable abbrev gI:Stmt:=top 113
noncomputable abbrev dF:Stmt:=top 114
noncomputable abbrev fi:Stmt:=top 115
noncomputable abbrev gJ:Stmt:=top 116
noncomputable abbrev Aj:Stmt:=top 117
noncomputable abbrev ua:Stmt:=top 119
noncomputable abbrev ub:Stmt:=top 120
noncomputable abbrev gK:Stmt:=top 121
noncomputable abbrev uc:Stmt:=top 122
noncomputable abbrev fj:Stmt:=top 123
noncomputable abbrev qM:Stmt:=top 124
set_option genSizeOfSpec false in
set_option genInjectivity false in
structure Ad where
 bn:Addr
 bj:FuncData
 p9:Addr
 pX:FuncData
 p8:Addr
 pW:FuncData
 cn:Addr
 ck:FuncData
 uR:Addr
 uM:FuncData
 iq:Addr
 ii:FuncData
 jR:Addr
 jF:FuncData
 cF:Addr
 cE:FuncData
 k7:Addr
 kW:FuncData
 dU:Addr
 dL:FuncData
 df:Addr
 c9:FuncData
 dc:Addr
 c7:FuncData
 kZ:Addr
 kT:FuncData
 gr:Addr
 gj:FuncData
 k6:Addr
 kU:FuncData
 Dp:Addr
 Do:FuncData
 nq:Addr
 nc:FuncData
 uQ:Addr
 uL:FuncData
 ef:Addr
 bW:FuncData
 qi:Addr
 p7:FuncData
 cU:Addr
 cR:FuncData
 yp:Addr
 yo:FuncData
 qh:Addr
 pZ:FuncData
 dX:Addr
 dN:FuncData
 dY:Addr
 dO:FuncData
 dS:Addr
 dI:FuncData
 nr:Addr
 ng:FuncData
 qg:Addr
 pY:FuncData
 dZ:Addr
 dP:FuncData
 eX:Addr
 eW:FuncData
 nw:Addr
 ni:FuncData
 de:Addr
 c8:FuncData
 cm:Addr
 cj:FuncData
 bO:Addr
 bM:FuncData
 cV:Addr
 cS:FuncData
 k8:Addr
 kX:FuncData
 fB:Addr
 fv:FuncData
 jX:Addr
 jN:FuncData
 jP:Addr
 jD:FuncData
 dR:Addr
 dH:FuncData
 iu:Addr
 ik:FuncData
 gu:Addr
 gk:FuncData
 iw:Addr
 il:FuncData
 jS:Addr
 jG:FuncData
 ir:Addr
 ij:FuncData
 jW:Addr
 jM:FuncData
 gv:Addr
 gn:FuncData
 kY:Addr
 kR:FuncData
 nz:Addr
 nj:FuncData
 dW:Addr
 dM:FuncData
 fy:Addr
 fq:FuncData
 bc:Addr
 cT:FuncData
 cW:Addr
 jJ:FuncData
 cX:Addr
 jK:FuncData
 jQ:Addr
 jE:FuncData
 jU:Addr
 jI:FuncData
 iA:Addr
 io:FuncData
 jY:Addr
 jO:FuncData
 iz:Addr
 im:FuncData
 fC:Addr
 fw:FuncData
 iB:Addr
 ip:FuncData
 bN:Addr
 bL:FuncData
 jV:Addr
 jL:FuncData
 gT:Addr
 gP:FuncData
 gw:Addr
 gp:FuncData
 nA:Addr
 nk:FuncData
 gq:Addr
 gh:FuncData
 aF:Addr
 ci:FuncData
 bB:Addr
 gg:FuncData
 bt:Addr
 eV:FuncData
 bq:Addr
 eT:FuncData
 aX:Addr
 cD:FuncData
 bC:Addr
 gi:FuncData
 aM:Addr
 cQ:FuncData
 bb:Addr
 dJ:FuncData
 br:Addr
 eU:FuncData
 fz:Addr
 ft:FuncData
 jT:Addr
 jH:FuncData
 gU:Addr
 gQ:FuncData
 ee:Addr
 dQ:FuncData
 fA:Addr
 fu:FuncData
 gR:Addr
 gN:FuncData
 xl:Addr
 xk:FuncData
 uS:Addr
 uN:FuncData
 uO:Addr
 uJ:FuncData
 gS:Addr
 gO:FuncData
 uP:Addr
 uK:FuncData
 fx:Addr
 fm:FuncData
 AU:Addr
 AT:FuncData
 cc:Addr
 pt:Addr
 bs:Heap
 wd:World
 bv:Addr
 gc:Addr
 aV:Addr
 af:Addr
 ap:Addr
 aQ:Addr
 aY:Addr
 aW:Addr
 fF:Tok
 jZ:Tok
 cq:Tok
 eh:Tok
 fD:Tok
 fE:Tok
structure Tx (K:Ih) (mg:Str->Option Value) (t:Ad):Prop where
 bi:HT.OwnInit K t.af veB "ValueError.__new__" t.bn
 gM:Fun K "__init__" "BadRow.__init__" bg t.bn t.bj
 cC:Binds K t.bj ["self","line"] []
 D6:mg "counts" = some (.ref t.p9)
 DV:Fun K "counts" "counts" pK t.p9 t.pX
 D0:Binds K t.pX ["row","base"] []
 D5:mg "begins" = some (.ref t.p8)
 DU:Fun K "begins" "begins" pL t.p8 t.pW
 DZ:Binds K t.pW ["counts"] []
 ko:mg "many_columns" = some (.ref t.cn)
 eS:Fun K "many_columns" "many_columns" ce t.cn t.ck
 kl:Binds K t.ck ["rows"] []
 FQ:mg "tally" = some (.ref t.uR)
 FM:Fun K "tally" "tally" t8 t.uR t.uM
 FO:Binds K t.uM ["rows","base"] []
 yr:mg "beginnings" = some (.ref t.iq)
 x8:Fun K "beginnings" "beginnings" hW t.iq t.ii
 yh:Binds K t.ii ["rows","column"] []
 AW:mg "is_parted" = some (.ref t.jR)
 AA:Fun K "is_parted" "is_parted" i8 t.jR t.jF
 AK:Binds K t.jF ["often"] []
 rl:mg "order_by_figure" = some (.ref t.cF)
 qY:Fun K "order_by_figure" "order_by_figure" cA t.cF t.cE
 re:Binds K t.cE ["row","base"] []
 Br:mg "parts_of" = some (.ref t.k7)
 Bg:Fun K "parts_of" "parts_of" kC t.k7 t.kW
 Bl:Binds K t.kW ["first","often","column"] []
 nC:mg "from_first" = some (.ref t.dU)
 ib:Fun K "from_first" "from_first" dv t.dU t.dL
 m5:Binds K t.dL ["rows","base"] []
 rL:mg "many_goings_on" = some (.ref t.df)
 rE:Fun K "many_goings_on" "many_goings_on" c4 t.df t.c9
 rH:Binds K t.c9 ["longer"] []
 rJ:mg "ahead_of_first" = some (.ref t.dc)
 rA:Fun K "ahead_of_first" "ahead_of_first" c5 t.dc t.c7
 rF:Binds K t.c7 ["lists"] []
 Bp:mg "is_order" = some (.ref t.kZ)
 Be:Fun K "is_order" "is_order" kD t.kZ t.kT
 Bj:Binds K t.kT ["thing"] []
 xq:mg "check_order" = some (.ref t.gr)
 wX:Fun K "check_order" "check_order" fO t.gr t.gj
 xg:Binds K t.gj ["thing","many"] []
 Bq:mg "own_copy" = some (.ref t.k6)
 Bf:Fun K "own_copy" "own_copy" kF t.k6 t.kU
 Bk:Binds K t.kU ["thing"] []
 Ib:mg "put" = some (.ref t.Dp)
 Hz:Fun K "put" "put" CV t.Dp t.Do
 HV:Binds K t.Do ["things","order"] []
 Dq:mg "back_of" = some (.ref t.nq)
 Db:Fun K "back_of" "back_of" mH t.nq t.nc
 Dg:Binds K t.nc ["order"] []
 FP:mg "rings" = some (.ref t.uQ)
 FL:Fun K "rings" "rings" t9 t.uQ t.uL
 FN:Binds K t.uL ["order"] []
 nG:mg "told_order" = some (.ref t.ef)
 ig:Fun K "told_order" "told_order" dw t.ef t.bW
 m9:Binds K t.bW ["rows"] []
 D9:mg "walked" = some (.ref t.qi)
 DY:Fun K "walked" "walked" pM t.qi t.p7
 D3:Binds K t.p7 ["row","base"] []
 lP:mg "heap_sorted" = some (.ref t.cU)
 fY:Fun K "heap_sorted" "heap_sorted" cL t.cU t.cR
 lN:Binds K t.cR ["rows","base"] []
 GN:mg "runs" = some (.ref t.yp)
 GL:Fun K "runs" "runs" xT t.yp t.yo
 GM:Binds K t.yo ["rows"] []
 D8:mg "merged" = some (.ref t.qh)
 DX:Fun K "merged" "merged" pN t.qh t.pZ
 D2:Binds K t.pZ ["one","other"] []
 u0:mg "merged_places" = some (.ref t.dX)
 ux:Fun K "merged_places" "merged_places" dy t.dX t.dN
 uF:Binds K t.dN ["rows","one","other"] []
 u4:mg "merging_round" = some (.ref t.dY)
 uy:Fun K "merging_round" "merging_round" dz t.dY t.dO
 uG:Binds K t.dO ["lengths"] []
 uW:mg "ahead_of_runs" = some (.ref t.dS)
 uv:Fun K "ahead_of_runs" "ahead_of_runs" dA t.dS t.dI
 uB:Binds K t.dI ["lengths"] []
 Dr:mg "by_runs" = some (.ref t.nr)
 Dc:Fun K "by_runs" "by_runs" mI t.nr t.ng
 Dh:Binds K t.ng ["rows"] []
 D7:mg "is_due" = some (.ref t.qg)
 DW:Fun K "is_due" "is_due" pO t.qg t.pY
 D1:Binds K t.pY ["lengths"] []
 u5:mg "moves_of_ring" = some (.ref t.dZ)
 uz:Fun K "moves_of_ring" "moves_of_ring" dB t.dZ t.dP
 uH:Binds K t.dP ["ring"] []
 vw:mg "many_figures" = some (.ref t.eX)
 vj:Fun K "many_figures" "many_figures" eJ t.eX t.eW
 vo:Binds K t.eW ["n","base"] []
 Ds:mg "figures" = some (.ref t.nw)
 Dd:Fun K "figures" "figures" mJ t.nw t.ni
 Di:Binds K t.ni ["n","base","many"] []
 rK:mg "common_measure" = some (.ref t.de)
 rB:Fun K "common_measure" "common_measure" c6 t.de t.c8
 rG:Binds K t.c8 ["one","other"] []
 kn:mg "least_bottom" = some (.ref t.cm)
 eR:Fun K "least_bottom" "least_bottom" cf t.cm t.cj
 kj:Binds K t.cj ["parts"] []
 j4:mg "whole_numbers" = some (.ref t.bO)
 dG:Fun K "whole_numbers" "whole_numbers" bI t.bO t.bM
 jC:Binds K t.bM ["parts"] []
 gA:mg "number_rows" = some (.ref t.cV)
 cP:Fun K "number_rows" "number_rows" cM t.cV t.cS
 gf:Binds K t.cS ["numbers","base"] []
 Bs:mg "text_row" = some (.ref t.k8)
 Bh:Fun K "text_row" "text_row" kG t.k8 t.kX
 Bm:Binds K t.kX ["text","columns"] []
 oY:mg "text_rows" = some (.ref t.fB)
 jy:Fun K "text_rows" "text_rows" fe t.fB t.fv
 oO:Binds K t.fv ["texts"] []
 u6:mg "spelled" = some (.ref t.jX)
 m4:Fun K "spelled" "spelled" i9 t.jX t.jN
 uI:Binds K t.jN ["kind","keys","base"] []
 AV:mg "from_last" = some (.ref t.jP)
 Az:Fun K "from_last" "from_last" ja t.jP t.jD
 AJ:Binds K t.jD ["rows","base"] []
 uV:mg "ahead_of_last" = some (.ref t.dR)
 uu:Fun K "ahead_of_last" "ahead_of_last" dC t.dR t.dH
 uA:Binds K t.dH ["tally"] []
 yu:mg "last_ahead" = some (.ref t.iu)
 yb:Fun K "last_ahead" "last_ahead" hX t.iu t.ik
 yj:Binds K t.ik ["rows","base"] []
 xr:mg "first_ahead" = some (.ref t.gu)
 wY:Fun K "first_ahead" "first_ahead" fP t.gu t.gk
 xh:Binds K t.gk ["rows","base"] []
 yw:mg "runs_ahead" = some (.ref t.iw)
 yc:Fun K "runs_ahead" "runs_ahead" hZ t.iw t.il
 yk:Binds K t.il ["rows","base"] []
 AX:mg "last_done" = some (.ref t.jS)
 AB:Fun K "last_done" "last_done" jb t.jS t.jG
 AL:Binds K t.jG ["rows","base"] []
 yt:mg "first_done" = some (.ref t.ir)
 ya:Fun K "first_done" "first_done" h7 t.ir t.ij
 yi:Binds K t.ij ["rows","base"] []
 A2:mg "runs_done" = some (.ref t.jW)
 AH:Fun K "runs_done" "runs_done" jc t.jW t.jM
 AR:Binds K t.jM ["rows","base"] []
 xt:mg "moves_ahead" = some (.ref t.gv)
 wZ:Fun K "moves_ahead" "moves_ahead" fQ t.gv t.gn
 xi:Binds K t.gn ["kind","keys","base"] []
 Bo:mg "cheapest" = some (.ref t.kY)
 Bd:Fun K "cheapest" "cheapest" kH t.kY t.kR
 Bi:Binds K t.kR ["kind","keys","base"] []
 Dt:mg "ordered" = some (.ref t.nz)
 De:Fun K "ordered" "ordered" mK t.nz t.nj
 Dj:Binds K t.nj ["way","kind","keys","base"] []
 nD:mg "is_made_of" = some (.ref t.dW)
 ic:Fun K "is_made_of" "is_made_of" dD t.dW t.dM
 m6:Binds K t.dM ["word","signs"] []
 oV:mg "is_number" = some (.ref t.fy)
 ju:Fun K "is_number" "is_number" ff t.fy t.fq
 oK:Binds K t.fq ["word"] []
 lQ:mg "read_number" = some (.ref t.bc)
 fZ:Fun K "read_number" "read_number" cN t.bc t.cT
 lO:Binds K t.cT ["word"] []
 A0:mg "read_part" = some (.ref t.cW)
 AE:Fun K "read_part" "read_part" jd t.cW t.jJ
 AO:Binds K t.jJ ["word"] []
 A1:mg "read_text" = some (.ref t.cX)
 AF:Fun K "read_text" "read_text" je t.cX t.jK
 AQ:Binds K t.jK ["word"] []
 uY:mg "is_kind" = some (.ref t.jQ)
 m3:Fun K "is_kind" "is_kind" jf t.jQ t.jE
 uD:Binds K t.jE ["word"] []
 AZ:mg "read_keys" = some (.ref t.jU)
 AD:Fun K "read_keys" "read_keys" jg t.jU t.jI
 AN:Binds K t.jI ["kind","words"] []
 yy:mg "write_part" = some (.ref t.iA)
 yf:Fun K "write_part" "write_part" h8 t.iA t.io
 ym:Binds K t.io ["part"] []
 A3:mg "write_key" = some (.ref t.jY)
 AI:Fun K "write_key" "write_key" jh t.jY t.jO
 AS:Binds K t.jO ["kind","key"] []
 yx:mg "write_keys" = some (.ref t.iz)
 ye:Fun K "write_keys" "write_keys" h9 t.iz t.im
 yl:Binds K t.im ["kind","keys"] []
 oZ:mg "write_row" = some (.ref t.fC)
 jz:Fun K "write_row" "write_row" fg t.fC t.fw
 oP:Binds K t.fw ["things"] []
 yz:mg "write_rows" = some (.ref t.iB)
 yg:Fun K "write_rows" "write_rows" ia t.iB t.ip
 yn:Binds K t.ip ["rows"] []
 jA:Mk K t.ap t.bN
 jr:Fun K "__init__" "Desk.__init__" bJ t.bN t.bL
 jB:Binds K t.bL ["self","kind","base"] []
 nF:mg "rows_of" = some (.ref t.jV)
 jx:Fun K "rows_of" "rows_of" ji t.jV t.jL
 m8:Binds K t.jL ["desk"] []
 rm:mg "order_of" = some (.ref t.gT)
 kO:Fun K "order_of" "order_of" gH t.gT t.gP
 rf:Binds K t.gP ["desk"] []
 xu:mg "poured_keys" = some (.ref t.gw)
 w6:Fun K "poured_keys" "poured_keys" fR t.gw t.gp
 xj:Binds K t.gp ["desk"] []
 Du:mg "pour_of" = some (.ref t.nA)
 Df:Fun K "pour_of" "pour_of" mL t.nA t.nk
 Dk:Binds K t.nk ["desk"] []
 xo:mg "answer_sort" = some (.ref t.gq)
 wV:Fun K "answer_sort" "answer_sort" fS t.gq t.gh
 xb:Binds K t.gh ["desk","way"] []
 vt:mg "answer_order" = some (.ref t.aF)
 eQ:Fun K "answer_order" "answer_order" cg t.aF t.ci
 ki:Binds K t.ci ["desk"] []
 xm:mg "answer_back" = some (.ref t.bB)
 wU:Fun K "answer_back" "answer_back" fT t.bB t.gg
 xa:Binds K t.gg ["desk"] []
 vv:mg "answer_rings" = some (.ref t.bt)
 vi:Fun K "answer_rings" "answer_rings" eL t.bt t.eV
 vn:Binds K t.eV ["desk"] []
 vp:mg "answer_ahead" = some (.ref t.bq)
 vg:Fun K "answer_ahead" "answer_ahead" eM t.bq t.eT
 vk:Binds K t.eT ["desk"] []
 rh:mg "answer_cheapest" = some (.ref t.aX)
 qX:Fun K "answer_cheapest" "answer_cheapest" cB t.aX t.cD
 qZ:Binds K t.cD ["desk"] []
 xp:mg "answer_walk" = some (.ref t.bC)
 wW:Fun K "answer_walk" "answer_walk" fU t.bC t.gi
 xf:Binds K t.gi ["desk"] []
 xn:mg "answer_puts" = some (.ref t.aM)
 fX:Fun K "answer_puts" "answer_puts" cO t.aM t.cQ
 lM:Binds K t.cQ ["desk"] []
 uX:mg "answer_poured" = some (.ref t.bb)
 uw:Fun K "answer_poured" "answer_poured" dE t.bb t.dJ
 uC:Binds K t.dJ ["desk"] []
 vq:mg "answer_heaps" = some (.ref t.br)
 vh:Fun K "answer_heaps" "answer_heaps" eO t.br t.eU
 vm:Binds K t.eU ["desk"] []
 oW:mg "read_kind" = some (.ref t.fz)
 jv:Fun K "read_kind" "read_kind" fh t.fz t.ft
 oM:Binds K t.ft ["words"] []
 AY:mg "read_deed" = some (.ref t.jT)
 AC:Fun K "read_deed" "read_deed" jj t.jT t.jH
 AM:Binds K t.jH ["kind","words","room"] []
 rn:mg "read_ask" = some (.ref t.gU)
 kP:Fun K "read_ask" "read_ask" gI t.gU t.gQ
 rg:Binds K t.gQ ["words"] []
 nE:mg "read_deeds" = some (.ref t.ee)
 ie:Fun K "read_deeds" "read_deeds" dF t.ee t.dQ
 m7:Binds K t.dQ ["kind","numbered"] []
 oX:mg "read_rows" = some (.ref t.fA)
 jw:Fun K "read_rows" "read_rows" fi t.fA t.fu
 oN:Binds K t.fu ["text"] []
 rj:mg "answered" = some (.ref t.gR)
 kM:Fun K "answered" "answered" gJ t.gR t.gN
 rb:Binds K t.gN ["desk","ask","way"] []
 Dv:mg "run" = some (.ref t.xl)
 AG:Fun K "run" "run" Aj t.xl t.xk
 Dl:Binds K t.xk ["text"] []
 Dw:mg "_law_tape" = some (.ref t.uS)
 yd:Fun K "_law_tape" "_law_tape" ua t.uS t.uN
 Dm:Binds K t.uN ["_law_script","_law_k"] []
 k9:mg "_law_draw" = some (.ref t.uO)
 jt:Fun K "_law_draw" "_law_draw" ub t.uO t.uJ
 kQ:Binds K t.uJ ["_law_tape_here","_law_many"] []
 rk:mg "_law_is_whole" = some (.ref t.gS)
 kN:Fun K "_law_is_whole" "_law_is_whole" gK t.gS t.gO
 rc:Binds K t.gO ["_law_thing"] []
 uZ:mg "_law_line" = some (.ref t.uP)
 pV:Fun K "_law_line" "_law_line" uc t.uP t.uK
 uE:Binds K t.uK ["_law_text"] []
 oU:mg "_law_bad_first" = some (.ref t.fx)
 js:Fun K "_law_bad_first" "_law_bad_first" fj t.fx t.fm
 oJ:Binds K t.fm [] []
 Ia:mg "law" = some (.ref t.AU)
 FK:Fun K "law" "law" qM t.AU t.AT
 HU:Binds K t.AT ["_law_script"] []
 bY:mg "ValueError" = none
 u7:mg "abs" = none
 xw:mg "all" = none
 qk:mg "bool" = none
 cY:mg "enumerate" = none
 rp:mg "int" = none
 aN:mg "isinstance" = none
 cZ:mg "len" = none
 ql:mg "list" = none
 xx:mg "max" = none
 va:mg "min" = none
 A5:mg "ord" = none
 gW:mg "range" = none
 iN:mg "sorted" = none
 rq:mg "str" = none
 A6:mg "sum" = none
 j6:mg "tuple" = none
 A7:mg "zip" = none
 HY:t.bW.code=.ref t.cc
 HZ:Ln K t.cc t.pt=true
 HX:t.bs.BuiltinsAt mg t.pt
 uU:mg "READERS" = some (.ref t.bv)
 o5:DR K t.wd.params t.bv [("number",t.bc),("part",t.cW),("text",t.cX)]
 yq:mg "ASKS" = some (.ref t.gc)
 qj:DR K t.wd.params t.gc [("order",t.aF),("back",t.bB),("rings",t.bt),("ahead",t.bq),("cheapest",t.aX),("walk",t.bC),("puts",t.aM),("poured",t.bb),("heaps",t.br)]
 o0:mg "BadOrder" = some (.ref t.aV)
 j5:mg "BadRow" = some (.ref t.af)
 A4:mg "Desk" = some (.ref t.ap)
 nH:mg "NotRising" = some (.ref t.aQ)
 iC:mg "SortError" = some (.ref t.aY)
 o4:mg "TooGreat" = some (.ref t.aW)
 g1:IQ K (.ref t.af) "__getattribute__" = some (some (.builtin "BaseException.__getattribute__"))
 g2:IQ K (.ref t.af) "__class__" = some (some (.builtin "object.__class__"))
 g3:IQ K (.ref t.af) "__getattr__" = some none
 g4:Li K t.af (.type "BaseException")=some true
 g5:Li K t.af (.type "object")=some true
 g6:(Ma K t.af).isSome=true
 g7:MX K (.ref t.af) (.ref t.aY)=some true
 g8:Ow K (.ref t.af) [.ref t.aV,.ref t.aQ,.ref t.aW]=some false
 g9:JN K (.ref t.af) (.ref t.af)=some true
 ga:JN K (.ref t.af) (.type "ValueError")=some true
 gb:Ks K t.af=true
 eF:(t.bv == sysModules)=false
 lR:(t.gc == sysModules)=false
 fk:Cls K t.ap
 bQ:NoAttr K t.ap "kind"
 bP:NoAttr K t.ap "base"
 bR:NoAttr K t.ap "laid"
 be:NoAttr K t.ap "pourings"
 ej:Jk K (.ref t.af)=true
 cr:HT.XSt K t.af "line"
 bX:HT.SupI K t.aY
 oS:mg "TEXT_BASE" = some (.int 27 t.fF)
 uT:mg "FIGURES" = some (.str "0123456789" t.jZ)
 km:mg "MOST_FIGURES" = some (.int 18 t.cq)
 nB:mg "LEAST_BASE" = some (.int 2 t.eh)
 oQ:mg "MOST_BASE" = some (.int 64 t.fD)
 oR:mg "MOST_KEYS" = some (.int 200 t.fE)
theorem lB:bootBuiltins "ValueError" = some (.type "ValueError"):=by decide +kernel
theorem xU:bootBuiltins "abs" = some (.builtin "abs"):=by decide +kernel
theorem CW:bootBuiltins "all" = some (.builtin "all"):=by decide +kernel
theorem Ak:bootBuiltins "bool" = some (.type "bool"):=by decide +kernel
theorem ud:bootBuiltins "int" = some (.type "int"):=by decide +kernel
theorem ba:bootBuiltins "isinstance" = some (.builtin "isinstance"):=by decide +kernel
theorem bz:bootBuiltins "len" = some (.builtin "len"):=by decide +kernel
theorem xV:bootBuiltins "min" = some (.builtin "min"):=by decide +kernel
theorem ue:bootBuiltins "str" = some (.type "str"):=by decide +kernel
theorem pP:bootBuiltins "tuple" = some (.type "tuple"):=by decide +kernel
theorem fV:FnScope ["self","line"] ["self","line"] (ae bg):=by walk_at "s"
theorem jk:FnScope ["rows"] ["rows"] (ae ce):=by walk_at "s"
theorem sc_from_first:FnScope ["rows","base","order","steps","columns","waiting","first","last","column","stretch","row","often"] ["rows","base"] (ae dv):=by walk_at "s"
theorem lC:FnScope ["rows"] ["rows"] (ae dw):=by walk_at "s"
theorem sc_heap_sorted:FnScope ["rows","base","rising","all_puts","first","last","column","stretch","walk"] ["rows","base"] (ae cL):=by walk_at "s"
theorem sc_least_bottom:FnScope ["parts","least","top","bottom"] ["parts"] (ae cf):=by walk_at "s"
theorem sc_whole_numbers:FnScope ["parts","least"] ["parts"] (ae bI):=by walk_at "s"
theorem sc_number_rows:FnScope ["numbers","base","least","columns"] ["numbers","base"] (ae cM):=by walk_at "s"
theorem sc_text_rows:FnScope ["texts","columns"] ["texts"] (ae fe):=by walk_at "s"
theorem qN:FnScope ["kind","keys","base"] ["kind","keys","base"] (ae i9):=by walk_at "s"
theorem lD:FnScope ["word","signs"] ["word","signs"] (ae dD):=by walk_at "s"
theorem sc_is_number:FnScope ["word","size"] ["word"] (ae ff):=by walk_at "s"
theorem kc:FnScope ["word"] ["word"] (ae cN):=by walk_at "s"
theorem qO:FnScope ["word"] ["word"] (ae jf):=by walk_at "s"
theorem mM:FnScope ["things"] ["things"] (ae fg):=by walk_at "s"
theorem iD:FnScope ["self","kind","base"] ["self","kind","base"] (ae bJ):=by walk_at "s"
theorem qP:FnScope ["desk"] ["desk"] (ae ji):=by walk_at "s"
theorem oy:FnScope ["desk"] ["desk"] (ae gH):=by walk_at "s"
theorem jl:FnScope ["desk"] ["desk"] (ae cg):=by walk_at "s"
theorem sc_answer_puts:FnScope ["desk","base","rows"] ["desk"] (ae cO):=by walk_at "s"
theorem sc_read_kind:FnScope ["words","base"] ["words"] (ae fh):=by walk_at "s"
theorem oz:FnScope ["words"] ["words"] (ae gI):=by walk_at "s"
theorem sc_read_deeds:FnScope ["kind","numbered","deeds","room","line","words","deed"] ["kind","numbered"] (ae dF):=by walk_at "s"
theorem sc_read_rows:FnScope ["text","rows","numbered","line","words","head"] ["text"] (ae fi):=by walk_at "s"
theorem sc_answered:FnScope ["desk","ask","way","answer"] ["desk","ask","way"] (ae gJ):=by walk_at "s"
theorem sc_run:FnScope ["text","kind","base","deeds","desk","answers","word","given"] ["text"] (ae Aj):=by walk_at "s"
theorem sc_tape:FnScope ["_law_script","_law_k","_law_cell"] ["_law_script","_law_k"] (ae ua):=by walk_at "s"
theorem sc_draw:FnScope ["_law_tape_here","_law_many","_law_found","_law_once","_law_twice"] ["_law_tape_here","_law_many"] (ae ub):=by walk_at "s"
theorem oA:FnScope ["_law_thing"] ["_law_thing"] (ae gK):=by walk_at "s"
theorem sc_line:FnScope ["_law_text","_law_found","e"] ["_law_text"] (ae uc):=by walk_at "s"
theorem sc_bad_first:FnScope ["_law_some"] [] (ae fj):=by walk_at "s"
theorem sc_law:FnScope ["_law_script","_law_some","_law_k","_law_tape_here","_law_kind","_law_ahead","_law_behind","_law_bad","_law_base","_law_answers"] ["_law_script"] (ae qM):=by walk_at "s"
section
variable {P:Program} {w:World} {K:Ih} {mg:Str->Option Value} {base:Heap} {t:Ad}
theorem gL (T:Tx K mg t):FnOk P t.wd K mg t.bs CX0 1 t.uO t.uJ ["_law_tape_here","_law_many"] Ck:=by
 refine T.jt.okQ sc_draw (λ vs H Q E h=>?_) (λ cdv A outer s H vs Q E hr h=>?_)
 ·obtain ⟨p,m,rfl,_⟩:=h
  rfl
 ·obtain ⟨p,m,rfl,⟨a,b,c,hp,ha⟩,hm,hm2,k⟩:=h
  refine ⟨_,(ad (cw (aC Fd (bf (cx (K:=K)) (qv 0) al) al (aL _)) (ad (ax (i:=2) sc_draw.nd rfl (ID rfl) (aJ n8 (bf (cx (K:=K)) (qv 0) al) (qv 1)))
   (ad (xJ (aJ ls (bf (cx (K:=K)) (qv 0) al) (qv 1)) (qv 0) al)
   (am (av (qv 2))))) aZ)
   (ad (xJ (aJ lq (bf (cx (K:=K)) (qv 0) al) al) (qv 0) al)
   (ad (ax (i:=3) sc_draw.nd rfl (ID rfl) (aJ n8 (aJ mm (aJ lq (bf (cx (K:=K)) (qv 0) al) (aJ mm al (bf (cx (K:=K)) (qv 0) al))) al) al))
   (ad (ax (i:=4) sc_draw.nd rfl (ID rfl) (aJ n8 (aJ mm (qv 3) (aJ lq (aJ n8 (qv 3) al) (bf (cx (K:=K)) (qv 0) al))) al))
   (am (av (aJ n8 (aJ ls (aJ mm (qv 4) (aJ lq (aJ n8 (qv 4) al) al)) al) (qv 1)))))))),?_⟩
  rw [show L2.aI ["_law_tape_here","_law_many","_law_found","_law_once","_law_twice"] [P0 p,PY m]=[some (P0 p),some (PY m),none,none,none] from rfl]
  nofun
  refine bU (λ h0=>?_) (λ h0=>?_)
  ·nofun
   exact k _ _ (Oq _ (by lia)) (Nt _ hm) (Tape.mk (Int.ediv_nonneg ha (by lia)))
  ·nofun
   exact k _ _ (Oq _ (by lia)) (Nt _ hm) (Tape.mk ha)
theorem Al (T:Tx K mg t):FnOk P t.wd K mg t.bs CX0 1 t.uS t.uN ["_law_script","_law_k"] (Cj K):=by
 refine T.yd.okQ sc_tape (λ vs H Q E h=>?_) (λ cdv A outer s H vs Q E hr h=>?_)
 ·obtain ⟨a,ns,k,rfl,_⟩:=h
  rfl
 ·obtain ⟨a,ns,k,rfl,hS,hk,q⟩:=h
  refine ⟨_,(ad (ax (i:=2) sc_tape.nd rfl (ID rfl) (pf (aC DI (qv 1) (au (cy (K:=K)) (by rfl) T.cZ bz (ak (qv 0) ac)) (aL _)) (bf (cx (K:=K)) (qv 0) (qv 1)) al))
   (am (av (aT (ak (aJ mm (au xK (by rfl) T.u7 xU (ak (qv 2) ac)) (bF Cn (by rfl) T.rp ud (ak (gB Hg (au xK (by rfl) T.u7 xU (ak (qv 2) ac)) (aJ Fb al al) (aL _)) ac))) (ak (aJ n8 (aJ lq (aJ lq (qv 2) (aJ mm al (qv 1))) al) al) (ak al ac))))))),?_⟩
  rw [show L2.aI ["_law_script","_law_k","_law_cell"] [P0 a,PY k]=[some (P0 a),some (PY k),none] from rfl]
  nofun
  refine bx hS ?_
  nofun
  refine bU (λ h0=>?_) (λ h0=>?_)
  ·nofun
   have hlt:k.toNat<ns.length:=by rw [Ir] at h0; lia
   have hget:atI (ns.map PY) k=some (PY ns[k.toNat]):=by
    have e:k=(k.toNat:Int):=by lia
    have:=dh (xs:=ns.map PY) (j:=k.toNat) (v:=PY ns[k.toNat]) (by simp [hlt])
    rw [<-e] at this; exact this
   refine lm hS hget ?_
   generalize ns[k.toNat]=cell
   nofun
   exact ⟨aG (by simp),λ p hp=>q p _ hp (λ b o e=>by rw [ag (ao e hp)]; exact e) ⟨_,_,_,aa,Ox (by split<;>lia) (by (repeat' split)<;>lia)⟩⟩
  ·nofun
   exact ⟨aG (by simp),λ p hp=>q p _ hp (λ b o e=>by rw [ag (ao e hp)]; exact e) ⟨_,_,_,aa,Ox (by split<;>lia) (by (repeat' split)<;>lia)⟩⟩
section
variable {K:Ih} {H:Hp} {Q:VK}
theorem oB {lo hi:Option Int} (h1:H a=some (.lst xs)) (h:∀ p H',Same H H'->H' p=some (.lst (rz xs lo hi))->Q (.ref p) H'):EL K (.ref a) lo hi H Q:=⟨a,xs,rfl,PX h1,λ p hp=>h p _ ((P4 H).new hp) aa⟩
end
theorem pQ (h:n<=5000):n+2<=sizeLine:=by rw [sizeLine_eq]; lia
theorem lE {x:Str} {H:Hp} {Q:VK} (h:Q (.bl (!decide (PZ x=PZ y))) H):rNe (.str x) (.str y) H Q:=⟨rfl,h⟩
noncomputable def uf (w g:Str):Bool:=(w.cps.toList.map λ c=>Mt g ⟨#[c]⟩).all id
noncomputable def hd0 (z:Str):Str:=⟨#[z.cps.toList.getD 0 0]⟩
noncomputable def oE (w:Str):Bool:=if (Kh w "-").length<1\/18<(Kh w "-").length\/uf (Kh w "-") "0123456789" = false then false else (decide (¬ hd0 (Kh w "-") = "0") || decide (w = "0"))
noncomputable def FC (t:Ad):List (Str×Addr):=[("number",t.bc),("part",t.cW),("text",t.cX)]
noncomputable def qQ (w:Str):Bool:=w == "number" || (w == "part" || w == "text")
theorem ug (t:Ad) (w:Str):((FC t).lookup w).isSome=qQ w:=by
 unfold FC qQ
 rw [Jd,Jd,Jd]
 cases (w == ("number" : Str))<;>cases (w == ("part" : Str))<;>cases (w == ("text" : Str))<;>rfl
noncomputable def CY:Sp:=λ vs H Q _=>∃ w g:Str,vs=[.str w,.str g]/\w.length<=1000/\∀ H',Same H H'->Q (.bl (uf w g)) H'
theorem lF (T:Tx K mg t):FnOk P t.wd K mg t.bs CX0 1 t.dW t.dM ["word","signs"] CY:=by
 refine T.ic.okQ lD (λ vs H Q E h=>?_) (λ cdv A outer s H vs Q E hr h=>?_)
 ·obtain ⟨w,g,rfl,_⟩:=h
  rfl
 ·obtain ⟨w,g,rfl,hw,k⟩:=h
  refine ⟨_,(am (av (au (Cp (K:=K) rfl) (by rfl) T.xw CW (ak (gC (N:=["sign","signs"]) (tgs:=["sign"]) (frs:=["signs"]) (ix:=[1]) ⟨rfl,by decide +kernel,rfl,by decide +kernel,rfl,rfl,⟨⟨rfl,rfl,_,rfl,rfl⟩,IS⟩,⟨rfl,IS⟩,rfl⟩ rfl (CJ (qv 0)) (λ _ _ _ _=>(ay (i:=0) (by show Kj (["sign","signs"]:List Str); decide +kernel) rfl (ID rfl))) (λ _ _ _ _=>(gB CT (qv 0) (qv 1) rfl))) ac)))),?_⟩
  rw [show L2.aI ["word","signs"] [PZ w,PZ g]=[some (PZ w),some (PZ g)] from rfl]
  nofun
  refine ⟨w,rfl,we (n:=w.cps.size) (λ i ys σ H'=>H=H'/\ys=((w.cps.toList.take i).map λ c=>Mt g ⟨#[c]⟩).map V.bl/\i<=w.cps.size/\∃ v,σ=[v,some (PZ g)]) (cu hw) (λ i ys σ H' h=>by obtain ⟨_,rfl,hi,_⟩:=h; simp; lia) ⟨rfl,rfl,IZ _,none,rfl⟩ (λ i ys σ H' hi h=>hi) (λ ys σ H' h=>rfl) ?_ ?_⟩
  ·rintro i x ys σ H1 H2 hi ⟨rfl,rfl,_,v,rfl⟩ ⟨rfl,c,hc,rfl⟩
   nofun
   refine ⟨_,_,rfl,rfl,?_⟩
   refine Nx.mk hi ⟨rfl,?_,hi,_,rfl⟩
   have ec:w.cps.toList[i]? = some c:=by rw [Lq]; exact hc
   rw [KN,ec,IL,IL]
   rfl
  ·rintro ys σ H1 ⟨rfl,rfl,_,v,rfl⟩ a ha
   rw [Jb (by simp)]
   have s1:=(P4 H).new (o:=.lst ((w.cps.toList.map λ c=>Mt g ⟨#[c]⟩).map V.bl)) ha
   refine Ci (PX aa) ?_
   nofun
   exact k _ s1
noncomputable def Am:Sp:=λ vs H Q _=>∃ w:Str,vs=[.str w]/\w.length<=1000/\∀ H',Same H H'->Q (.bl (oE w)) H'
theorem wF {w p:Str} (h:w.length<=1000):(Kh w p).length<=1000:=by
 rw [StrLaws.removeprefix_eq]
 split
 ·show (Iw _).size<=_
  rw [IB,Jl,Ky]
  lia
 ·exact h
theorem mO (T:Tx K mg t):FnOk P t.wd K mg t.bs CX0 2 t.fy t.fq ["word"] Am:=by
 refine T.ju.okQ sc_is_number (λ vs H Q E h=>?_) (λ cdv A outer s H vs Q E hr h=>?_)
 ·obtain ⟨w,rfl,_⟩:=h
  rfl
 ·obtain ⟨w,rfl,hw,k⟩:=h
  have hl:=wF (p:="-") hw
  unfold oE at k
  refine ⟨_,(ad (ax (i:=1) sc_is_number.nd rfl (ID rfl) (Ag (K:=K) (qv 0) (ak ai ac)))
   (ad (cw (QW.qt (nX (aC DI (au gG (by rfl) T.cZ bz (ak (qv 1) ac)) al (aL _)) (nX (aC Fd (au gG (by rfl) T.cZ bz (ak (qv 1) ac)) (cK (v:=.int 18) rfl T.km ⟨_,rfl⟩) (aL _)) (pe (iV (iW (aq (lF T) (hr.mono (by decide)) rfl T.nD T.ic.kp T.m6 aR (ak (qv 1) (ak (cK (v:=.str "0123456789") rfl T.uT ⟨_,rfl⟩) ac))))))))) (am (av vZ)) aZ)
   (am (av (E9 (gB zt (bf zV (qv 1) al) ai (aL _)) (pc (gB ve (qv 0) ai (aL _)))))))),?_⟩
  rw [show L2.aI ["word","size"] [PZ w]=[some (PZ w),none] from rfl]
  nofun
  refine ⟨rfl,?_⟩
  nofun
  refine ⟨_,_,rfl,rfl,by rw [sizeLine_eq]; lia,?_⟩
  generalize Kh w "-" = z at hl k
  nofun
  refine ⟨z,rfl,by rw [sizeLine_eq]; lia,?_⟩
  nofun
  refine bU (λ g=>?_) (λ g=>?_)
  ·nofun
   have k:=k H (P4 _)
   rw [if_pos (.inl (by lia))] at k
   exact k
  nofun
  refine ⟨z,rfl,by rw [sizeLine_eq]; lia,?_⟩
  nofun
  refine bU (λ g2=>?_) (λ g2=>?_)
  ·nofun
   have k:=k H (P4 _)
   rw [if_pos (.inr (.inl (by lia)))] at k
   exact k
  nofun
  refine ⟨z,_,rfl,hl,λ H1 s1=>?_⟩
  have k:=k H1 s1
  cases hm:uf z "0123456789" with
  | false=>
   nofun
   rw [if_pos (.inr (.inr hm))] at k
   exact k
  | true=>
   rw [if_neg (by rintro (q | q | q)<;>first | lia | (rw [hm] at q; cases q))] at k
   nofun
   have hz1:0<z.cps.toList.length:=by
    rw [Jx]; show 0<z.length; lia
   refine ⟨z,0,_,rfl,rfl,by rw [sizeLine_eq]; lia,dh (j:=0) (show z.cps.toList[0]? = some (z.cps.toList.getD 0 0) by rw [IH,IF hz1]; rfl),?_⟩
   nofun
   show rNe (.str (hd0 z)) _ _ _
   refine lE ?_
   by_cases q:hd0 z = "0"
   ·rw [decide_eq_true (congrArg PZ q)]
    nofun
    rw [decide_eq_false (λ z=>z q),Lj] at k
    have e:decide (PZ w=PZ "0")=decide (w = "0"):=by
     by_cases z:w = "0"
     ·rw [decide_eq_true z,decide_eq_true (congrArg PZ z)]
     ·rw [decide_eq_false z,decide_eq_false λ u=>z (PZ.inj u)]
    rw [e]
    exact k
   ·rw [decide_eq_false λ u=>q (PZ.inj u)]
    nofun
    rw [decide_eq_true q,Nl] at k
    exact k
noncomputable def qR (w:Str):Option Int:=if oE w=true then intText? w else none
noncomputable def An:Sp:=λ vs H Q _=>∃ w:Str,vs=[.str w]/\w.length<=600/\(oE w=true->(intText? w).isSome=true)/\∀ H',Same H H'->(qR w=none->Q .non H')/\∀ n,qR w=some n->Q (.int n) H'
theorem ke (T:Tx K mg t):FnOk P t.wd K mg t.bs CX0 3 t.bc t.cT ["word"] An:=by
 refine T.fZ.okQ kc (λ vs H Q E h=>?_) (λ cdv A outer s H vs Q E hr h=>?_)
 ·obtain ⟨w,rfl,_⟩:=h
  rfl
 ·obtain ⟨w,rfl,hw,hi,k⟩:=h
  refine ⟨_,(ad (cw (iV (iW (aq (mO T) (hr.mono (by decide)) rfl T.oV T.ju.kp T.oK aR (ak (qv 0) ac)))) (am (av gY)) aZ)
   (am (av (bF Af (by rfl) T.rp ud (ak (qv 0) ac))))),?_⟩
  rw [show L2.aI ["word"] [PZ w]=[some (PZ w)] from rfl]
  nofun
  refine ⟨w,rfl,by lia,λ H1 s1=>?_⟩
  obtain ⟨k1,k2⟩:=k H1 s1
  unfold qR at k1 k2
  cases hn:oE w with
  | false=>
   nofun
   exact k1 (by rw [if_neg (by rw [hn]; decide)])
  | true=>
   nofun
   obtain ⟨n,e⟩:=JJ.mp (hi hn)
   exact ⟨w,n,rfl,e,by lia,k2 n (by rw [if_pos hn]; exact e)⟩
noncomputable def Ao:Sp:=λ vs H Q _=>∃ w:Str,vs=[.str w]/\Q (.bl (qQ w)) H
theorem qS (T:Tx K mg t):FnOk P t.wd K mg t.bs CX0 1 t.jQ t.jE ["word"] Ao:=by
 refine T.m3.okQ qO (λ vs H Q E h=>?_) (λ cdv A outer s H vs Q E hr h=>?_)
 ·obtain ⟨w,rfl,_⟩:=h
  rfl
 ·obtain ⟨w,rfl,k⟩:=h
  refine ⟨_,(am (av (gB (CU T.o5 T.eF) (qv 0) (cK (v:=.ref t.bv) rfl T.uU rfl) rfl))),?_⟩
  rw [show L2.aI ["word"] [PZ w]=[some (PZ w)] from rfl]
  nofun
  refine ⟨w,rfl,rfl,?_⟩
  have e:=ug t w
  unfold FC at e
  rw [e]
  exact k
noncomputable def rdK (ws:List Str):Option (Str×Int):=
 if ws.length=3/\ws.getD 0 "" = "kind"/\qQ (ws.getD 1 "")=true then (match qR (ws.getD 2 "") with
  | none=>none
  | some b=>if b<2\/64<b then none else some (ws.getD 1 "",b))
 else none
noncomputable def okK (ws:List Str):Prop:=ws.length<=200/\(∀ w∈ws,w.length<=600)/\(ws.length=3->oE (ws.getD 2 "")=true->(intText? (ws.getD 2 "")).isSome=true)
noncomputable def FD:Sp:=λ vs H Q _=>∃ (a:Addr) (ws:List Str),vs=[.ref a]/\H a=some (.lst (ws.map PZ))/\okK ws/\(rdK ws=none->∀ H',Same H H'->Q .non H')/\∀ (x:Addr) (k:Str) (b:Int) H',Same H H'->rdK ws=some (k,b)->H' x=some (.tup [.str k,.int b])->Q (.ref x) H'
theorem kI {ws:List Str} (h:i<ws.length):(ws.map PZ)[i]? = some (PZ (ws.getD i "")):=by
 rw [Ji,IH,IF h]; rfl
theorem pR {ws:List Str} (h:i<ws.length):ws.getD i ""∈ws:=by
 rw [IH,IF h]; exact JK h
theorem mP (T:Tx K mg t):FnOk P t.wd K mg t.bs CX0 4 t.fz t.ft ["words"] FD:=by
 refine T.jv.okQ sc_read_kind (λ vs H Q E h=>?_) (λ cdv A outer s H vs Q E hr h=>?_)
 ·obtain ⟨a,ws,rfl,_⟩:=h
  rfl
 ·obtain ⟨a,ws,rfl,ta,⟨hl,hw,hi⟩,k0,k⟩:=h
  refine ⟨_,(ad (cw (QW.qt (nX (aC zt (au (cy (K:=K)) (by rfl) T.cZ bz (ak (qv 0) ac)) al (aL _)) (nX (aC zt (bf (cx (K:=K)) (qv 0) al) ai (aL _)) (pe (iV (iW (aq (qS T) (hr.mono (by decide)) rfl T.uY T.m3.kp T.uD aR (ak (bf (cx (K:=K)) (qv 0) al) ac)))))))) (am (av gY)) aZ)
   (ad (ax (i:=1) sc_read_kind.nd rfl (ID rfl) (aq (ke T) (hr.mono (by decide)) rfl T.lQ T.fZ.kp T.lO aR (ak (bf (cx (K:=K)) (qv 0) al) ac)))
   (ad (cw (QW.qt (nX (aC zB (qv 1) gY (aL _)) (nX (aC DI (qv 1) (cK (v:=.int 2) rfl T.nB ⟨_,rfl⟩) (aL _)) (pe (aC Fd (qv 1) (cK (v:=.int 64) rfl T.oQ ⟨_,rfl⟩) (aL _)))))) (am (av gY)) aZ)
   (am (av (di (ak (bf (cx (K:=K)) (qv 0) al) (ak (qv 1) ac)))))))),?_⟩
  rw [show L2.aI ["words","base"] [P0 a]=[some (P0 a),none] from rfl]
  nofun
  refine bx (PX ta) ?_
  rw [Ir]
  nofun
  by_cases h3:ws.length=3
  rotate_left
  ·rw [decide_eq_false (show ¬ PY ((ws.length:Nat):Int)=PY 3 from λ z=>h3 (by have:=PY.inj z; lia))]
   nofun
   refine k0 ?_ H (P4 _)
   unfold rdK; rw [if_neg λ z=>h3 z.1]
  rw [decide_eq_true (show PY ((ws.length:Nat):Int)=PY 3 by rw [h3]; rfl)]
  nofun
  refine lm (PX ta) (v:=PZ (ws.getD 0 "")) (dh (j:=0) (kI (by lia))) ?_
  nofun
  refine lE ?_
  by_cases hk:ws.getD 0 "" = "kind"
  rotate_left
  ·rw [decide_eq_false λ u=>hk (PZ.inj u)]
   nofun
   refine k0 ?_ H (P4 _)
   unfold rdK; rw [if_neg λ z=>hk z.2.1]
  rw [decide_eq_true (congrArg PZ hk)]
  nofun
  refine lm (PX ta) (v:=PZ (ws.getD 1 "")) (dh (j:=1) (kI (by lia))) ?_
  nofun
  refine ⟨_,rfl,?_⟩
  cases hq:qQ (ws.getD 1 "") with
  | false=>
   nofun
   refine k0 ?_ H (P4 _)
   unfold rdK; rw [if_neg λ z=>by rw [hq] at z; cases z.2.2]
  | true=>
   nofun
   refine lm (PX ta) (v:=PZ (ws.getD 2 "")) (dh (j:=2) (kI (by lia))) ?_
   nofun
   refine ⟨_,rfl,hw _ (pR (by lia)),hi h3,λ H1 s1=>⟨λ e=>?_,λ n e=>?_⟩⟩
   ·nofun
    refine k0 ?_ H1 s1
    unfold rdK; rw [if_pos ⟨h3,hk,hq⟩,e]
   ·nofun
    rw [decide_eq_false (show ¬ PY n=V.non from λ z=>nomatch z)]
    nofun
    refine bU (λ g=>?_) (λ g=>?_)
    ·nofun
     refine k0 ?_ H1 s1
     unfold rdK; rw [if_pos ⟨h3,hk,hq⟩,e]; exact if_pos (.inl g)
    nofun
    refine bU (λ g2=>?_) (λ g2=>?_)
    ·nofun
     refine k0 ?_ H1 s1
     unfold rdK; rw [if_pos ⟨h3,hk,hq⟩,e]; exact if_pos (.inr g2)
    nofun
    refine lm (PX (s1 _ _ ta)) (v:=PZ (ws.getD 1 "")) (dh (j:=1) (kI (by lia))) ?_
    nofun
    refine ⟨aG (by simp),λ x hx=>?_⟩
    refine k x _ _ _ (s1.new hx) ?_ aa
    unfold rdK; rw [if_pos ⟨h3,hk,hq⟩,e]; exact if_neg (by lia)
theorem mQ {p:Nat} (hp:p<=1000):(p:Int).natAbs.log2<1920:=by
 rw [Nm]
 rcases K5 p with rfl | h0
 ·decide
 ·exact Iu ((NX (by lia)).mpr (show p<2 ^ 10 by lia)) (by decide)
noncomputable def Ap (C:Addr):Sp:=λ vs H Q _=>∃ (e:Addr) (p:Nat),vs=[.ref e,.int p]/\p<=1000/\H e=some (hU e C none)/\
 ∀ dx,H dx=none->dx≠e->Q .non (upd (upd H dx (.xd [("line",.int p)])) e (hU e C (some dx)))
theorem bV (T:Tx K mg t):FnOk P t.wd K mg t.bs CX0 1 t.bn t.bj ["self","line"] (Ap t.af):=by
 refine T.gM.okQ fV (λ vs H Q E h=>?_) (λ cdv A outer s H vs Q E hr h=>?_)
 ·obtain ⟨e,p,rfl,_⟩:=h
  rfl
 ·obtain ⟨e,p,rfl,hp,he,k⟩:=h
  refine ⟨_,(ad (n6 (CN (K:=K) rfl T.iC T.bX (ak (qv 0) (ak (zR (qv 1)) ac))))
   (am (z7 (K:=K) (qv 0) (qv 1)))),?_⟩
  rw [show L2.aI ["self","line"] [P0 e,PY p]=[some (P0 e),some (PY p)] from rfl]
  nofun
  refine ⟨_,rfl,mQ hp,λ y=>?_⟩
  nofun
  refine ⟨e,_,_,none,_,rfl,he,T.bi,?_⟩
  nofun
  refine ⟨e,_,rfl,he,T.cr,λ dx h1 h2=>?_⟩
  nofun
  exact k dx h1 h2
noncomputable def iE (w:Str):Prop:=w = "order"\/w = "puts"
noncomputable def Bb (t:Ad):List (Str×Addr):=[("order",t.aF),("back",t.bB),("rings",t.bt),("ahead",t.bq),("cheapest",t.aX),("walk",t.bC),("puts",t.aM),("poured",t.bb),("heaps",t.br)]
theorem kJ (t:Ad):(Bb t).lookup ("order" : Str)=some t.aF:=by unfold Bb; rw [Jd,beq_self_eq_true]
theorem mR (t:Ad):(Bb t).lookup ("puts" : Str)=some t.aM:=by
 unfold Bb
 have h:∀ x∈([("order" : Str),"back","rings","ahead","cheapest","walk"]:List Str),(("puts" : Str) == x)=false:=by decide +kernel
 rw [Jd,h "order" (by simp),Jd,h "back" (by simp),Jd,h "rings" (by simp),Jd,h "ahead" (by simp),Jd,h "cheapest" (by simp),Jd,h "walk" (by simp),Jd,beq_self_eq_true]
theorem uh (t:Ad) {w:Str} (h:iE w):((Bb t).lookup w).isSome=true:=by
 rcases h with rfl | rfl
 ·rw [kJ]; rfl
 ·rw [mR]; rfl
noncomputable def Aq:Sp:=λ vs H Q _=>∃ (a:Addr) (w:Str),vs=[.ref a]/\H a=some (.lst [.str w])/\iE w/\∀ (x:Addr) H',Same H H'->H' x=some (.tup [.str w,.non])->Q (.ref x) H'
theorem oF (T:Tx K mg t):FnOk P t.wd K mg t.bs CX0 1 t.gU t.gQ ["words"] Aq:=by
 refine T.kP.okQ oz (λ vs H Q E h=>?_) (λ cdv A outer s H vs Q E hr h=>?_)
 ·obtain ⟨a,w,rfl,_⟩:=h
  rfl
 ·obtain ⟨a,w,rfl,ta,hw,k⟩:=h
  refine ⟨_,(ad (cw (QW.qt (sA (aC ve (au (cy (K:=K)) (by rfl) T.cZ bz (ak (qv 0) ac)) al (aL _)) (sw (aC (CU T.qj T.lR) (bf (cx (K:=K)) (qv 0) al) (cK (v:=.ref t.gc) rfl T.yq rfl) rfl)))) (am (av (di (ak (bf (cx (K:=K)) (qv 0) al) (ak gY ac))))) aZ)
   (ad aP
   (am (av gY)))),?_⟩
  rw [show L2.aI ["words"] [P0 a]=[some (P0 a)] from rfl]
  nofun
  refine bx (PX ta) ?_
  nofun
  rw [decide_eq_true (show PY ((([PZ w]:List V).length:Nat):Int)=PY 1 from rfl)]
  nofun
  refine ⟨w,rfl,rfl,?_⟩
  have e:=uh t hw
  unfold Bb at e
  rw [e]
  nofun
  exact ⟨aG (by simp),λ x hx=>k x _ ((P4 H).new hx) aa⟩
noncomputable def nbs (rows:List Str):Nat->List (Nat×Str)
 | 0=>[]
 | i+1=>nbs rows i++if rows.getD i "" = "" then [] else [(i,rows.getD i "")]
noncomputable def NbAt (H:Hp) (ts:List Addr) (ns:List (Nat×Str)):Prop:=ts.length=ns.length/\∀ (k:Nat) t n,ts[k]? = some t->ns[k]? = some n->∃ l,H t=some (.tup [.int (n.1:Nat),.ref l])/\H l=some (.lst ((Jp n.2 " ").map PZ))
theorem NbAt.same {H:Hp} {ts:List Addr} {ns:List (Nat×Str)} (h:NbAt H ts ns) (s:Same H H1):NbAt H1 ts ns:=⟨h.1,λ k t n a b=>by obtain ⟨l,e1,e2⟩:=h.2 k t n a b; exact ⟨l,s _ _ e1,s _ _ e2⟩⟩
theorem NbAt.snoc {H:Hp} {ts:List Addr} {ns:List (Nat×Str)} {t:Addr} {n:Nat×Str} (h:NbAt H ts ns) (e1:H t=some (.tup [.int (n.1:Nat),.ref l])) (e2:H l=some (.lst ((Jp n.2 " ").map PZ))):NbAt H (ts++[t]) (ns++[n]):=by
 refine ⟨by simp [h.1],λ k t' n' a b=>?_⟩
 by_cases hk:k<ts.length
 ·rw [Jn hk] at a
  rw [Jn (by rw [<-h.1]; exact hk)] at b
  exact h.2 k t' n' a b
 ·have e:k=ts.length:=by
   have:=(IK.mp a).1
   simp at this; lia
  subst e
  rw [IX (Im _),K7] at a
  rw [IX (by rw [h.1]; exact Im _),show ts.length - ns.length=0 by have:=h.1; lia] at b
  cases a; cases b
  exact ⟨l,e1,e2⟩
noncomputable def DdAt (H:Hp) (ts:List Addr) (ws:List Str):Prop:=ts.length=ws.length/\∀ (k:Nat) t w,ts[k]? = some t->ws[k]? = some w->H t=some (.tup [.str w,.non])
theorem DdAt.snoc {H:Hp} {ts:List Addr} {ws:List Str} {t:Addr} {w:Str} (h:DdAt H ts ws) (e1:H t=some (.tup [.str w,.non])):DdAt H (ts++[t]) (ws++[w]):=by
 refine ⟨by simp [h.1],λ k t' n' a b=>?_⟩
 by_cases hk:k<ts.length
 ·rw [Jn hk] at a
  rw [Jn (by rw [<-h.1]; exact hk)] at b
  exact h.2 k t' n' a b
 ·have e:k=ts.length:=by
   have:=(IK.mp a).1
   simp at this; lia
  subst e
  rw [IX (Im _),K7] at a
  rw [IX (by rw [h.1]; exact Im _),show ts.length - ws.length=0 by have:=h.1; lia] at b
  cases a; cases b
  exact e1
theorem mS {w:Str} (h:iE w):Jp w " " = [w]:=by
 rcases h with rfl | rfl<;>decide +kernel
theorem wG {w:Str} (h:iE w):¬ w = "pour":=by
 rcases h with rfl | rfl<;>decide +kernel
noncomputable def ui:Sp:=λ vs H Q _=>∃ (kd:Str) (a:Addr) (ts:List Addr) (ns:List (Nat×Str)),vs=[.str kd,.ref a]/\H a=some (.lst (ts.map P0))/\NbAt H ts ns/\(∀ n∈ns,iE n.2)/\ns.length<=100/\
 ∀ (d:Addr) (us:List Addr) H',Same H H'->H' d=some (.lst (us.map P0))->DdAt H' us (ns.map Lo)->Q (.ref d) H'
theorem lG (T:Tx K mg t):FnOk P t.wd K mg t.bs CX0 2 t.ee t.dQ ["kind","numbered"] ui:=by
 refine T.ie.okQ sc_read_deeds (λ vs H Q E h=>?_) (λ cdv A outer s H vs Q E hr h=>?_)
 ·obtain ⟨kd,a,ts,ns,rfl,_⟩:=h
  rfl
 ·obtain ⟨kd,a,ts,ns,rfl,ta,hN,hA,hn,k⟩:=h
  have htl:ts.length=ns.length:=hN.1
  refine ⟨_,(ad (ax (i:=2) sc_read_deeds.nd rfl (ID rfl) (aT ac))
   (ad (ax (i:=3) sc_read_deeds.nd rfl (ID rfl) (cK (v:=.int 200) rfl T.oR ⟨_,rfl⟩))
   (ad (mj KI rfl (bG (K:=K) (qv 1)) (dj (K:=K) (n:=2) rfl (az (ay (i:=4) sc_read_deeds.nd rfl (ID rfl)) (az (ay (i:=5) sc_read_deeds.nd rfl (ID rfl)) bH))) (ad (ax (i:=6) sc_read_deeds.nd rfl (ID rfl) (xS (K:=K) (aq (oF T) (hr.mono (by decide)) rfl T.rn T.kP.kp T.rg aR (ak (qv 5) ac)) (pc t7)))
   (ad (cw (aC zB (qv 6) gY (aL _)) (am aP) aZ)
   (ad (cw (aC ve (bf (sK (K:=K)) (qv 6) al) ai (aL _)) (am aP) aZ)
   (am (n6 (mi (K:=K) (qv 2) (ak (qv 6) ac))))))))
   (am (av (qv 2)))))),?_⟩
  rw [show L2.aI ["kind","numbered","deeds","room","line","words","deed"] [PZ kd,P0 a]=[some (PZ kd),some (P0 a),none,none,none,none,none] from rfl]
  nofun
  refine ⟨aG (by simp),λ d hd=>?_⟩
  have s1:=(P4 H).new (o:=.lst []) hd
  have td:(upd H d (.lst [])) d=some (.lst (([]:List Addr).map P0)):=aa
  generalize upd H d (.lst [])=H1 at s1 td
  nofun
  refine ⟨a,rfl,⟨_,PX (s1 _ _ ta)⟩,iH (a:=a) (xs:=ts.map P0) (λ i σ H'=>Same H H'/\(∃ us:List Addr,H' d=some (.lst (us.map P0))/\us.length=i/\DdAt H' us ((ns.map Lo).take i))/\∃ v1 v2 v3,σ=[some (PZ kd),some (P0 a),some (P0 d),some (PY 200),v1,v2,v3]) ⟨s1,⟨[],td,rfl,rfl,λ k t w h=>by simp at h⟩,_,_,_,rfl⟩ (λ i σ H' _ h=>PX (h.1 _ _ ta)) ?_ ?_⟩
  ·rintro i x σ H2 hx ⟨s2,⟨us,td2,hul,hD⟩,v1,v2,v3,rfl⟩
   obtain ⟨q,rfl,eq,_,hi⟩:=lu hx
   have en:ns[i]? = some (ns[i]'(by lia)):=IF _
   have hw:=hA _ (JO en)
   obtain ⟨l,e1,e2⟩:=hN.2 i q _ eq en
   rw [mS hw] at e2
   generalize ns[i]'(by lia)=n at en hw e1 e2
   refine eD (s2 _ _ e1) ?_
   dsimp only [Kr]
   nofun
   refine ⟨l,n.2,rfl,s2 _ _ e2,hw,λ x H3 s3 tx=>?_⟩
   refine ⟨true,.inr (.inl ⟨_,SqT.of tx,rfl⟩),λ _=>?_,λ z=>nomatch z⟩
   nofun
   refine xI (λ z=>nomatch z) ?_
   nofun
   rw [decide_eq_false (show ¬ PZ n.2=PZ "pour" from λ z=>wG hw (PZ.inj z))]
   nofun
   have td3:=s3 _ _ td2
   refine ⟨n9 td3,?_⟩
   nofun
   refine mn td3 (by rw [Ir]; exact cu (by lia)) ?_
   have hdn:H d=none:=hd
   have kt:∀ b xs,H2 b=some (.tup xs)->(upd H3 d (.lst (us.map P0++[P0 x]))) b=some (.tup xs):=λ b xs e=>by
    rw [ag (λ z=>by rw [z,td2] at e; cases e)]; exact s3 _ _ e
   nofun
   refine ⟨(s2.trans s3).own hdn,⟨us++[x],by rw [aa,IL]; rfl,by simp [hul],?_⟩,_,_,_,rfl⟩
   have ew:(ns.map Lo)[i]? = some n.2:=by rw [Ji,en]; rfl
   rw [KN,ew]
   refine DdAt.snoc ⟨hD.1,λ k t w a b=>kt _ _ (hD.2 k t w a b)⟩ ?_
   rw [ag (λ z=>by rw [z,td3] at tx; cases tx)]; exact tx
  ·rintro σ H2 ⟨s2,⟨us,td2,hul,hD⟩,v1,v2,v3,rfl⟩
   rw [Ir] at hul hD
   rw [Jb (by rw [Ir]; lia)] at hD
   nofun
   exact k d us H2 s2 td2 hD
theorem xW {rows:List Str}:∀ {i:Nat} {n:Nat×Str},n∈nbs rows i->n.1<i
 | 0,_,h=>by cases h
 | i+1,n,h=>by
  rw [nbs] at h
  rcases IN.mp h with h | h
  ·exact Mg (xW h)
  ·split at h
   ·cases h
   ·rw [Jv.mp h]; exact Ll _
theorem lH {rows:List Str}:∀ i:Nat,(nbs rows i).length<=i
 | 0=>Im _
 | i+1=>by
  have:=lH (rows:=rows) i
  rw [nbs,IM]
  split<;>simp<;>lia
noncomputable def uj (rows:List Str) (j:Nat):Prop:=(nbs rows rows.length=[]/\j=rows.length)\/∃ hd rest,nbs rows rows.length=(j,hd)::rest/\rdK (Jp hd " ")=none
noncomputable def uk (rows:List Str) (kd:Str) (b:Int) (as:List Str):Prop:=∃ i hd rest,nbs rows rows.length=(i,hd)::rest/\rdK (Jp hd " ")=some (kd,b)/\(∀ n∈rest,iE n.2)/\as=rest.map Lo
noncomputable def OkT (text:Str) (rows:List Str):Prop:=Jp text "\n" = rows/\text.length<=5000/\rows.length<=50/\(∀ r∈rows,r.length<=600)/\∀ n∈nbs rows rows.length,okK (Jp n.2 " ")
noncomputable def wH (C:Addr):Sp:=λ vs H Q E=>∃ (text:Str) (rows:List Str),vs=[.str text]/\OkT text rows/\
  ((∃ j,uj rows j/\∀ dx H',Same H H'->H' dx=some (.xd [("line",.int (j:Nat))])->E (.ref C) (some dx) H')\/
   ∃ kd b as,uk rows kd b as/\∀ (x h d:Addr) (us:List Addr) H',Same H H'->H' x=some (.tup [.ref h,.ref d])->H' h=some (.tup [.str kd,.int b])->H' d=some (.lst (us.map P0))->DdAt H' us as->Q (.ref x) H')
theorem Ht {x:V} :rz (x::xs) (some 1) none=xs:=by
 unfold rz
 simp [HT.sIx]
theorem xX {H:Hp} {e dx:Addr} (s:Same H H1) (he:H1 e=none) (h1:(upd H1 e (hU e C none)) dx=none) (h2:dx≠e) :
  Same H (del (upd (upd (upd H1 e (hU e C none)) dx (.xd [("line",.int (i:Nat))])) e (hU e C (some dx))) e)/\(del (upd (upd (upd H1 e (hU e C none)) dx (.xd [("line",.int (i:Nat))])) e (hU e C (some dx))) e) dx=some (.xd [("line",.int (i:Nat))]):=by
 refine ⟨λ c o hc=>?_,by rw [hV h2,ag h2,aa]⟩
 have hc4:=s _ _ hc
 have n1:c≠e:=λ z=>by rw [z,he] at hc4; cases hc4
 have n2:c≠dx:=λ z=>by rw [z] at hc4; rw [ag h2,hc4] at h1; cases h1
 rw [hV n1,ag n1,ag n2,ag n1]; exact hc4
theorem lI (T:Tx K mg t):FnOk P t.wd K mg t.bs (CXE P t.wd) 5 t.fA t.fu ["text"] (wH t.af):=by
 refine T.jw.okX sc_read_rows (λ vs H Q E h=>?_) (λ cdv A outer s H vs Q E hr h=>?_)
 ·obtain ⟨text,rows,rfl,_⟩:=h
  rfl
 ·obtain ⟨text,rows,rfl,⟨hrows,htl,hrl,hrw,hok⟩,k⟩:=h
  refine ⟨_,(cJ (wz (ax (i:=1) sc_read_rows.nd rfl (ID rfl) (pJ (K:=K) (qv 0) (ak ai ac))))
   (cJ (wz (zD (i:=2) (N:=["line","row"]) (tgs:=["line","row"]) (frs:=[]) (ix:=[])  sc_read_rows.nd rfl (ID rfl) ⟨rfl,by decide +kernel,rfl,by decide +kernel,rfl,rfl,IS,IS,rfl⟩ rfl (sU (K:=K) rfl T.cY (ak (qv 1) ac)) (λ _ _ _ _=>(dj (K:=K) (n:=2) rfl (az (ay (i:=0) (by show Kj (["line","row"]:List Str); decide +kernel) rfl (ID rfl)) (az (ay (i:=1) (by show Kj (["line","row"]:List Str); decide +kernel) rfl (ID rfl)) bH)))) (λ _ _ _ _=>(di (ak (qv 0) (ak (pJ (K:=K) (qv 1) (ak ai ac)) ac)))) (λ _ _ _ _=>(aC zt (qv 1) ai (aL _)))))
   (cJ (CC (iV (iJ (K:=K) (qv 2))) (ou (mE T.bi (bV T) (hr.mono (by decide)) T.cC T.ej rfl T.j5 rfl (ak (au (cy (K:=K)) (by rfl) T.cZ bz (ak (qv 1) ac)) ac))) (pA aZ))
   (cJ (wz (og (bf (cx (K:=K)) (qv 2) al) (dj (K:=K) (n:=2) rfl (az (ay (i:=3) sc_read_rows.nd rfl (ID rfl)) (az (ay (i:=4) sc_read_rows.nd rfl (ID rfl)) bH)))))
   (cJ (wz (ax (i:=5) sc_read_rows.nd rfl (ID rfl) (aq (mP T) (hr.mono (by decide)) rfl T.oW T.jv.kp T.oM aR (ak (qv 4) ac))))
   (cJ (CC (aC zB (qv 5) gY (aL _)) (ou (mE T.bi (bV T) (hr.mono (by decide)) T.cC T.ej rfl T.j5 rfl (ak (qv 3) ac))) (pA aZ))
   (pA (am (av (di (ak (qv 5) (ak (aq (lG T) (hr.mono (by decide)) rfl T.nE T.ie.kp T.m7 aR (ak (bf (sK (K:=K)) (qv 5) al) (ak (lp (zv (K:=K)) (qv 2) (nZ al) nY) ac))) ac)))))))))))),?_⟩
  rw [show L2.aI ["text","rows","numbered","line","words","head"] [PZ text]=[some (PZ text),none,none,none,none,none] from rfl]
  nofun
  refine ⟨rfl,?_⟩
  nofun
  refine ⟨text,"\n",rfl,rfl,by decide +kernel,pQ htl,λ ra hra=>?_⟩
  rw [hrows]
  have s1:=(P4 H).new (o:=.lst (rows.map PZ)) hra
  have tra:(upd H ra (.lst (rows.map PZ))) ra=some (.lst (rows.map PZ)):=aa
  generalize upd H ra (.lst (rows.map PZ))=H1 at s1 tra
  nofun
  refine ⟨ra,rfl,⟨_,PX tra⟩,sX (n:=rows.length) (λ i ys σ H'=>Same H1 H'/\(∃ ts:List Addr,ys=ts.map P0/\NbAt H' ts (nbs rows i))/\∃ v w,σ=[v,w]) (cu (by lia)) (λ i ys σ H' h=>by obtain ⟨_,⟨ts,rfl,e,_⟩,_⟩:=h; rw [Ir,e]; exact lH i) ⟨P4 _,⟨[],rfl,rfl,λ k t n h=>by simp at h⟩,none,none,rfl⟩ ?_ ?_ ?_ ?_⟩
  ·rintro i ys σ H2 hi ⟨s2,_⟩
   exact ⟨_,PZ (rows.getD i ""),PX (s2 _ _ tra),kI hi⟩
  ·rintro ys σ H2 ⟨s2,_⟩
   exact ⟨_,PX (s2 _ _ tra),by rw [Ir]⟩
  ·rintro i x ys σ H2 H3 hi ⟨s2,⟨ts,rfl,hN⟩,v,w,rfl⟩ ⟨q,x1,rfl,hq,rfl,hx1⟩
   have hx2:=hx1 _ (PX (s2 _ _ tra))
   rw [kI hi] at hx2
   cases hx2
   have hr:=hrw _ (pR hi)
   have enb:nbs rows (i+1)=nbs rows i++if rows.getD i "" = "" then [] else [(i,rows.getD i "")]:=rfl
   generalize rows.getD i "" = r at hr enb
   refine eD aa ?_
   dsimp only [Kr]
   have s3:=(P4 H2).new (o:=.tup [PY (i:Nat),PZ r]) hq
   generalize upd H2 q (.tup [PY (i:Nat),PZ r])=H3 at s3
   nofun
   refine lE ?_
   by_cases e:r = ""
   ·rw [decide_eq_true (congrArg PZ e)]
    nofun
    refine Nx.mk hi ⟨s2.trans s3,⟨ts,rfl,?_⟩,_,_,rfl⟩
    rw [enb,if_pos e,Kp]
    exact hN.same s3
   ·rw [decide_eq_false λ u=>e (PZ.inj u)]
    nofun
    refine ⟨rfl,?_⟩
    nofun
    refine ⟨r," ",rfl,rfl,by decide +kernel,pQ (by lia),λ l hl=>?_⟩
    have s4:=(P4 H3).new (o:=.lst ((Jp r " ").map PZ)) hl
    have tl:(upd H3 l (.lst ((Jp r " ").map PZ))) l=some (.lst ((Jp r " ").map PZ)):=aa
    generalize upd H3 l (.lst ((Jp r " ").map PZ))=H4 at s4 tl
    nofun
    refine ⟨aG (by simp),λ z hz=>?_⟩
    have s5:=(P4 H4).new (o:=.tup [PY (i:Nat),P0 l]) hz
    refine Nx.mk hi ⟨s2.trans (s3.trans (s4.trans s5)),⟨ts++[z],by rw [IL]; rfl,?_⟩,_,_,rfl⟩
    rw [enb,if_neg e]
    exact ((hN.same (s3.trans (s4.trans s5)))).snoc (n:=(i,r)) aa (s5 _ _ tl)
  rintro ys σ H2 ⟨s2,⟨ts,rfl,hN⟩,v,w,rfl⟩ na hna
  have s3:=(s1.trans s2).new (o:=.lst (ts.map P0)) hna
  have tna:(upd H2 na (.lst (ts.map P0))) na=some (.lst (ts.map P0)):=aa
  have N3:=hN.same ((P4 H2).new (o:=.lst (ts.map P0)) hna)
  have tra3:(upd H2 na (.lst (ts.map P0))) ra=some (.lst (rows.map PZ)):=by rw [ag (ao (s2 _ _ tra) hna)]; exact s2 _ _ tra
  generalize upd H2 na (.lst (ts.map P0))=H3 at s3 tna N3 tra3
  have hnl:=lH (rows:=rows) rows.length
  have hlt:∀ n∈nbs rows rows.length,n.1<50:=λ n hn=>by have:=xW hn; lia
  unfold uj uk at k
  generalize nbs rows rows.length=ns at N3 hlt hok hnl k
  nofun
  refine ⟨_,Cr (PX tna),?_⟩
  by_cases hz:ns=[]
  ·subst hz
   have:ts=[]:=Mz.mp N3.1
   subst this
   rcases k with ⟨j,⟨_,rfl⟩ | ⟨hd,rest,z,_⟩,kE⟩ | ⟨kd,b,as,⟨i,hd,rest,z,_⟩,k⟩
   ·rw [show (!(Mp P0 []).isEmpty)=false from rfl]
    nofun
    refine bx (PX tra3) ?_
    rw [Ir]
    nofun
    refine ⟨by simp [sizeLine_eq],λ e he=>⟨e,rows.length,rfl,by lia,aa,λ dx h1 h2=>⟨rfl,some dx,aa,?_⟩⟩⟩
    obtain ⟨r1,r2⟩:=xX (i:=rows.length) s3 he h1 h2
    exact kE dx _ r1 r2
   ·cases z
   ·cases z
  obtain ⟨n0,rest0,rfl⟩:∃ n r,ns=n::r:=by cases ns with | nil=>exact absurd rfl hz | cons n r=>exact ⟨n,r,rfl⟩
  obtain ⟨t0,ts0,rfl⟩:∃ n r,ts=n::r:=by
   cases ts with
   | nil=>have:=N3.1; simp at this
   | cons n r=>exact ⟨n,r,rfl⟩
  obtain ⟨l0,e1,e2⟩:=N3.2 0 t0 n0 rfl rfl
  have hok0:=hok n0 (Jg ..)
  have hlt0:=hlt n0 (Jg ..)
  rw [show (!(Mp P0 (t0::ts0)).isEmpty)=true from rfl]
  nofun
  refine lm (PX tna) (v:=P0 t0) (dh (j:=0) rfl) ?_
  refine eD e1 ?_
  dsimp only [Kr]
  nofun
  refine ⟨l0,_,rfl,e2,hok0,λ en H4 s4=>?_,λ x kd' b' H4 s4 en tx=>?_⟩
  ·nofun
   rcases k with ⟨j,⟨z,_⟩ | ⟨hd,rest,z,_⟩,kE⟩ | ⟨kd,b,as,⟨i,hd,rest,z,eg,_⟩,k⟩
   ·cases z
   ·cases z
    refine Cb rfl ?_
    nofun
    refine ⟨by simp [sizeLine_eq],λ e he=>⟨e,j,rfl,by have:j<50:=hlt0; lia,aa,λ dx h1 h2=>⟨rfl,some dx,aa,?_⟩⟩⟩
    obtain ⟨r1,r2⟩:=xX (i:=j) (s3.trans s4) he h1 h2
    exact kE dx _ r1 r2
   ·cases z
    rw [en] at eg; cases eg
  ·nofun
   rcases k with ⟨j,⟨z,_⟩ | ⟨hd,rest,z,eb⟩,kE⟩ | ⟨kd,b,as,⟨i,hd,rest,z,eg,hA,rfl⟩,k⟩
   ·cases z
   ·cases z
    rw [en] at eb; cases eb
   ·cases z
    rw [en] at eg; cases eg
    refine xI (λ z=>nomatch z) ?_
    nofun
    refine ⟨1,rfl,?_⟩
    nofun
    refine oB (s4 _ _ tna) λ p H5 s5 tp=>?_
    rw [Jy,Ht] at tp
    nofun
    have N5:NbAt H5 ts0 rest0:=⟨by have:=N3.1; simpa using this,λ k t n a b=>by obtain ⟨l,e1,e2⟩:=N3.2 (k+1) t n a b; exact ⟨l,s5 _ _ (s4 _ _ e1),s5 _ _ (s4 _ _ e2)⟩⟩
    refine ⟨kd',p,ts0,rest0,rfl,tp,N5,hA,by simp only [IU] at hnl; lia,λ d us H6 s6 td D=>?_⟩
    refine ⟨aG (by simp),λ y hy=>?_⟩
    have s7:=(P4 H6).new (o:=.tup [P0 x,P0 d]) hy
    exact k y x d us _ (s3.trans (s4.trans (s5.trans (s6.trans s7)))) aa (s7 _ _ (s6 _ _ (s5 _ _ tx))) (s7 _ _ td) ⟨D.1,λ k t w a b=>s7 _ _ (D.2 k t w a b)⟩
theorem ul {P:Addr} {t:TA} {σ:L2.St} {H:Hp} {Q:VK} (h:t σ H λ vs H1=>∃ n:Nat,vs=[.int n]/\n<1000/\TabOk P lpos qual H1/\∀ H2,SameX P H1 H2->TabOk P lpos qual H2->zL te ix (cH 0 n) σ H2 Q):tK P lpos qual ix te t σ H Q:=h
noncomputable abbrev kf (pt:Addr) (H:Hp):Prop:=TabOk pt ⟨142,40,142,72⟩ ((("told_order" : Str)++".<locals>.")++"<lambda>") H
noncomputable def Ar (pt:Addr):Sp:=λ vs H Q _=>∃ a:Addr,vs=[.ref a]/\H a=some (.lst [])/\kf pt H/\∀ (l:Addr) H',SameX pt H H'->kf pt H'->H' l=some (.lst [])->Q (.ref l) H'
theorem lJ (T:Tx K mg t):FnOk P t.wd K mg t.bs CX0 1 t.ef t.bW ["rows"] (Ar t.pt):=by
 refine T.ig.okC T.HY lC (λ vs H Q E h=>?_) (λ A outer s H vs Q E hr h=>?_)
 ·obtain ⟨a,rfl,_⟩:=h
  rfl
 ·obtain ⟨a,rfl,ta,hT,k⟩:=h
  refine ⟨_,(am (av (tM (N:=["place","rows"]) (x:="place") (frs:=["rows"]) (ix:=[0]) ⟨rfl,by decide +kernel,rfl,rfl,rfl,rfl,⟨⟨rfl,rfl,_,rfl,rfl⟩,IS⟩,⟨rfl,IS⟩,rfl,rfl,rfl⟩ rfl hr rfl T.iN rfl T.gW rfl T.HZ T.HX (ak (au (cy (K:=K)) (by rfl) T.cZ bz (ak (qv 0) ac)) ac) (λ _ _ _ _ _ _=>(bF (ph (K:=K)) (by rfl) T.j6 pP (ak (bf (cx (K:=K)) (qv 1) (qv 0)) ac))) (λ _ _ _ _=>rfl)))),?_⟩
  rw [show L2.aI ["rows"] [P0 a]=[some (P0 a)] from rfl]
  nofun
  refine ul ?_
  nofun
  refine bx (PX ta) ?_
  refine ⟨0,rfl,by decide,hT,λ H2 sx T2=>⟨by simp [cH],λ i ys H'=>H2=H'/\ys=[],⟨rfl,rfl⟩,λ i ys H x hx=>?_,?_⟩⟩
  ·have:=pj hx; simp [cH] at this
  ·rintro ys H3 hyl ⟨rfl,rfl⟩
   refine ⟨_,.inr ⟨[],[],rfl,rfl,(λ i q r h=>by simp at h),.inl (λ r h=>nomatch h),rfl⟩,λ d p hd hp hs=>?_⟩
   have:p=[]:=Mz.mp (by rw [hp.length_eq]; simp [cH])
   subst this
   exact k d _ (λ b o n e=>((P4 H2).new hd) _ _ (sx b o n e)) (T2.same ((P4 H2).new hd)) aa
noncomputable def xY:Sp:=λ vs H Q _=>∃ a:Addr,vs=[.ref a]/\H a=some (.lst [])/\∀ (l:Addr) H',Same H H'->H' l=some (.lst [])->Q (.ref l) H'
noncomputable def wI:Sp:=λ vs H Q _=>∃ a:Addr,vs=[.ref a]/\H a=some (.lst [])/\Q (.int 1) H
theorem jm (T:Tx K mg t):FnOk P t.wd K mg t.bs CX0 1 t.cm t.cj ["parts"] wI:=by
 refine T.eR.okQ sc_least_bottom (λ vs H Q E h=>?_) (λ cdv A outer s H vs Q E hr h=>?_)
 ·obtain ⟨a,rfl,_⟩:=h
  rfl
 ·obtain ⟨a,rfl,ta,k⟩:=h
  refine ⟨_,(ad (ax (i:=1) sc_least_bottom.nd rfl (ID rfl) al)
   (ad (mj KI rfl (bG (K:=K) (qv 0)) (dj (K:=K) (n:=2) rfl (az (ay (i:=2) sc_least_bottom.nd rfl (ID rfl)) (az (ay (i:=3) sc_least_bottom.nd rfl (ID rfl)) bH))) (am (ax (i:=1) sc_least_bottom.nd rfl (ID rfl) (aJ mm (aJ ls (qv 1) t7) (qv 3)))))
   (am (av (qv 1))))),?_⟩
  rw [show L2.aI ["parts","least","top","bottom"] [P0 a]=[some (P0 a),none,none,none] from rfl]
  nofun
  refine ⟨a,rfl,⟨_,PX ta⟩,iH (a:=a) (xs:=[]) (λ i σ H'=>H=H'/\σ=[some (P0 a),some (PY 1),none,none]) ⟨rfl,rfl⟩ (λ i σ H' _ h=>h.1▸PX ta) (λ i x σ H' hx _=>nomatch hx) ?_⟩
  rintro σ H' ⟨rfl,rfl⟩
  nofun
  exact k
theorem iF (T:Tx K mg t):FnOk P t.wd K mg t.bs CX0 2 t.bO t.bM ["parts"] xY:=by
 refine T.dG.okQ sc_whole_numbers (λ vs H Q E h=>?_) (λ cdv A outer s H vs Q E hr h=>?_)
 ·obtain ⟨a,rfl,_⟩:=h
  rfl
 ·obtain ⟨a,rfl,ta,k⟩:=h
  refine ⟨_,(ad (ax (i:=1) sc_whole_numbers.nd rfl (LU rfl) (aq (jm T) (hr.mono (by decide)) rfl T.kn T.eR.kp T.kj aR (ak (qv 0) ac)))
   (am (av (gC (N:=["top","bottom","least"]) (tgs:=["top","bottom"]) (frs:=["least"]) (ix:=[1]) ⟨rfl,by decide +kernel,rfl,by decide +kernel,rfl,rfl,⟨⟨rfl,rfl,_,rfl,rfl⟩,IS⟩,⟨rfl,IS⟩,rfl⟩ rfl (bG (K:=K) (qv 0)) (λ _ _ _ _=>(dj (K:=K) (n:=2) rfl (az (ay (i:=0) (by show Kj (["top","bottom","least"]:List Str); decide +kernel) rfl (ID rfl)) (az (ay (i:=1) (by show Kj (["top","bottom","least"]:List Str); decide +kernel) rfl (ID rfl)) bH)))) (λ _ _ _ _=>(aJ mm (qv 0) (aJ ls (qv 2) (qv 1)))))))),?_⟩
  rw [show L2.aI ["parts","least"] [P0 a]=[some (P0 a),none] from rfl]
  nofun
  refine ⟨a,rfl,ta,?_⟩
  nofun
  refine ⟨a,rfl,⟨_,PX ta⟩,fJ (a:=a) (vs:=[]) (λ i ys σ H'=>H=H'/\ys=[]/\i=0) (by decide) (λ i ys σ H' h=>by rw [h.2.1,h.2.2]; rfl) (λ i ys σ H' h=>h.1▸PX ta) ⟨rfl,rfl,rfl⟩ (λ i ys σ H' x hx _=>nomatch hx) ?_⟩
  rintro ys σ H' ⟨rfl,rfl,_⟩ l hl
  exact k l _ ((P4 H).new hl) aa
noncomputable def CZ:Sp:=λ vs H Q _=>∃ (a:Addr) (b:Int),vs=[.ref a,.int b]/\H a=some (.lst [])/\∀ (l:Addr) H',Same H H'->H' l=some (.lst [])->Q (.ref l) H'
theorem eP (T:Tx K mg t):FnOk P t.wd K mg t.bs CX0 1 t.cV t.cS ["numbers","base"] CZ:=by
 refine T.cP.okQ sc_number_rows (λ vs H Q E h=>?_) (λ cdv A outer s H vs Q E hr h=>?_)
 ·obtain ⟨a,b,rfl,_⟩:=h
  rfl
 ·obtain ⟨a,b,rfl,ta,k⟩:=h
  refine ⟨_,(ad (cw (iV (iJ (K:=K) (qv 0))) (am (av (aT ac))) aZ)
   (ad (ax (i:=2) sc_number_rows.nd rfl (LU rfl) (au (zA (K:=K) rfl) (by rfl) T.va xV (ak (qv 0) ac)))
   (ad (ax (i:=3) sc_number_rows.nd rfl (LU rfl) t7)
   (am (av (gC (N:=["number","base","least","columns"]) (tgs:=["number"]) (frs:=["base","least","columns"]) (ix:=[1,2,3]) ⟨rfl,by decide +kernel,rfl,by decide +kernel,rfl,rfl,⟨⟨rfl,rfl,_,rfl,rfl⟩,⟨rfl,rfl,_,rfl,rfl⟩,⟨rfl,rfl,_,rfl,rfl⟩,IS⟩,⟨rfl,rfl,rfl,IS⟩,rfl⟩ rfl (bG (K:=K) (qv 0)) (λ _ _ _ _=>(ay (i:=0) (by show Kj (["number","base","least","columns"]:List Str); decide +kernel) rfl (ID rfl))) (λ _ _ _ _=>t7))))))),?_⟩
  rw [show L2.aI ["numbers","base","least","columns"] [P0 a,PY b]=[some (P0 a),some (PY b),none,none] from rfl]
  nofun
  refine ⟨_,Cr (PX ta),?_⟩
  rw [show (!([]:List V).isEmpty)=false from rfl]
  nofun
  exact ⟨aG (by simp),λ l hl=>k l _ ((P4 H).new hl) aa⟩
theorem mT (T:Tx K mg t):FnOk P t.wd K mg t.bs CX0 1 t.fB t.fv ["texts"] xY:=by
 refine T.jy.okQ sc_text_rows (λ vs H Q E h=>?_) (λ cdv A outer s H vs Q E hr h=>?_)
 ·obtain ⟨a,rfl,_⟩:=h
  rfl
 ·obtain ⟨a,rfl,ta,k⟩:=h
  refine ⟨_,(ad (ax (i:=1) sc_text_rows.nd rfl (LU rfl) (zW (K:=K) rfl rfl T.xx (ak (gC (N:=["text"]) (tgs:=["text"]) (frs:=[]) (ix:=[]) ⟨rfl,by decide +kernel,rfl,by decide +kernel,rfl,rfl,IS,IS,rfl⟩ rfl (bG (K:=K) (qv 0)) (λ _ _ _ _=>(ay (i:=0) (by show Kj (["text"]:List Str); decide +kernel) rfl (ID rfl))) (λ _ _ _ _=>(au gG (by rfl) T.cZ bz (ak (qv 0) ac)))) ac)))
   (am (av (gC (N:=["text","columns"]) (tgs:=["text"]) (frs:=["columns"]) (ix:=[1]) ⟨rfl,by decide +kernel,rfl,by decide +kernel,rfl,rfl,⟨⟨rfl,rfl,_,rfl,rfl⟩,IS⟩,⟨rfl,IS⟩,rfl⟩ rfl (bG (K:=K) (qv 0)) (λ _ _ _ _=>(ay (i:=0) (by show Kj (["text","columns"]:List Str); decide +kernel) rfl (ID rfl))) (λ _ _ _ _=>t7))))),?_⟩
  rw [show L2.aI ["texts","columns"] [P0 a]=[some (P0 a),none] from rfl]
  nofun
  refine ⟨a,rfl,⟨_,PX ta⟩,fJ (a:=a) (vs:=[]) (λ i ys σ H'=>H=H'/\ys=[]/\i=0) (by decide) (λ i ys σ H' h=>by rw [h.2.1,h.2.2]; rfl) (λ i ys σ H' h=>h.1▸PX ta) ⟨rfl,rfl,rfl⟩ (λ i ys σ H' x hx _=>nomatch hx) ?_⟩
  rintro ys σ H' ⟨rfl,rfl,_⟩ l hl
  have s1:=(P4 H).new (o:=.lst []) hl
  have tl:(upd H l (.lst [])) l=some (.lst []):=aa
  generalize upd H l (.lst [])=H1 at s1 tl
  nofun
  refine ⟨l,[],rfl,PX tl,λ m hm=>?_⟩
  nofun
  refine ⟨a,rfl,⟨_,PX (s1 _ _ ta)⟩,fJ (a:=a) (vs:=[]) (λ i ys σ H'=>H1=H'/\ys=[]/\i=0) (by decide) (λ i ys σ H' h=>by rw [h.2.1,h.2.2]; rfl) (λ i ys σ H' h=>h.1▸PX (s1 _ _ ta)) ⟨rfl,rfl,rfl⟩ (λ i ys σ H' x hx _=>nomatch hx) ?_⟩
  rintro ys σ H' ⟨rfl,rfl,_⟩ l2 hl2
  exact k l2 _ (s1.new hl2) aa
noncomputable def wJ:Sp:=λ vs H Q _=>∃ (kd:Str) (a:Addr) (b:Int),vs=[.str kd,.ref a,.int b]/\H a=some (.lst [])/\∀ (x l:Addr) (c:Int) H',Same H H'->H' x=some (.tup [.int c,.ref l])->H' l=some (.lst [])->Q (.ref x) H'
theorem qT (T:Tx K mg t):FnOk P t.wd K mg t.bs CX0 3 t.jX t.jN ["kind","keys","base"] wJ:=by
 refine T.m4.okQ qN (λ vs H Q E h=>?_) (λ cdv A outer s H vs Q E hr h=>?_)
 ·obtain ⟨kd,a,b,rfl,_⟩:=h
  rfl
 ·obtain ⟨kd,a,b,rfl,ta,k⟩:=h
  refine ⟨_,(ad (cw (aC ve (qv 0) ai (aL _)) (am (av (di (ak (cK (v:=.int 27) rfl T.oS ⟨_,rfl⟩) (ak (aq (mT T) (hr.mono (by decide)) rfl T.oY T.jy.kp T.oO aR (ak (qv 1) ac)) ac))))) aZ)
   (ad (cw (aC ve (qv 0) ai (aL _)) (am (av (di (ak (qv 2) (ak (aq (eP T) (hr.mono (by decide)) rfl T.gA T.cP.kp T.gf aR (ak (aq (iF T) (hr.mono (by decide)) rfl T.j4 T.dG.kp T.jC aR (ak (qv 1) ac)) (ak (qv 2) ac))) ac))))) aZ)
   (am (av (di (ak (qv 2) (ak (aq (eP T) (hr.mono (by decide)) rfl T.gA T.cP.kp T.gf aR (ak (qv 1) (ak (qv 2) ac))) ac))))))),?_⟩
  rw [show L2.aI ["kind","keys","base"] [PZ kd,P0 a,PY b]=[some (PZ kd),some (P0 a),some (PY b)] from rfl]
  have fin:∀ {c:Int} {l x:Addr} {H1:Hp},Same H H1->H1 l=some (.lst [])->H1 x=none->Q (.ref x) (upd H1 x (.tup [PY c,P0 l])):=λ s tl hx=>k _ _ _ _ (s.new hx) aa (((P4 _).new hx) _ _ tl)
  nofun
  refine bU (λ g=>?_) (λ g=>?_)
  ·nofun
   refine ⟨a,rfl,ta,λ l H1 s1 tl=>?_⟩
   nofun
   exact ⟨aG (by simp),λ x hx=>fin s1 tl hx⟩
  nofun
  refine bU (λ g2=>?_) (λ g2=>?_)
  ·nofun
   refine ⟨a,rfl,ta,λ w H1 s1 tw=>?_⟩
   nofun
   refine ⟨w,b,rfl,tw,λ l H2 s2 tl=>?_⟩
   nofun
   exact ⟨aG (by simp),λ x hx=>fin (s1.trans s2) tl hx⟩
  nofun
  refine ⟨a,b,rfl,ta,λ l H1 s1 tl=>?_⟩
  nofun
  exact ⟨aG (by simp),λ x hx=>fin s1 tl hx⟩
noncomputable def As:Sp:=λ vs H Q _=>∃ a:Addr,vs=[.ref a]/\H a=some (.lst [])/\Q (.int 0) H
theorem jn (T:Tx K mg t):FnOk P t.wd K mg t.bs CX0 1 t.cn t.ck ["rows"] As:=by
 refine T.eS.okQ jk (λ vs H Q E h=>?_) (λ cdv A outer s H vs Q E hr h=>?_)
 ·obtain ⟨a,rfl,_⟩:=h
  rfl
 ·obtain ⟨a,rfl,ta,k⟩:=h
  refine ⟨_,(ad (cw (iV (iJ (K:=K) (qv 0))) (am (av al)) aZ)
   (am (av (au (cy (K:=K)) (by rfl) T.cZ bz (ak (bf (cx (K:=K)) (qv 0) al) ac))))),?_⟩
  rw [show L2.aI ["rows"] [P0 a]=[some (P0 a)] from rfl]
  nofun
  refine ⟨_,Cr (PX ta),?_⟩
  rw [show (!([]:List V).isEmpty)=false from rfl]
  nofun
  exact k
noncomputable def wK:Sp:=λ vs H Q _=>∃ (a:Addr) (b:Int),vs=[.ref a,.int b]/\H a=some (.lst [])/\∀ (x o l:Addr) H',Same H H'->H' x=some (.tup [.ref o,.ref l])->H' l=some (.lst [])->Q (.ref x) H'
theorem lK (T:Tx K mg t):FnOk P t.wd K mg t.bs CX0 2 t.dU t.dL ["rows","base"] wK:=by
 refine T.ib.okQ sc_from_first (λ vs H Q E h=>?_) (λ cdv A outer s H vs Q E hr h=>?_)
 ·obtain ⟨a,b,rfl,_⟩:=h
  rfl
 ·obtain ⟨a,b,rfl,ta,k⟩:=h
  refine ⟨_,(ad (ax (i:=2) sc_from_first.nd rfl (ID rfl) (wf rfl rfl T.ql rfl T.gW (ak (au (cy (K:=K)) (by rfl) T.cZ bz (ak (qv 0) ac)) ac)))
   (ad (ax (i:=3) sc_from_first.nd rfl (ID rfl) (aT ac))
   (ad (ax (i:=4) sc_from_first.nd rfl (ID rfl) (aq (jn T) (hr.mono (by decide)) rfl T.ko T.eS.kp T.kl aR (ak (qv 0) ac)))
   (ad (ax (i:=5) sc_from_first.nd rfl (ID rfl) (aT (ak (di (ak al (ak (au (cy (K:=K)) (by rfl) T.cZ bz (ak (qv 0) ac)) (ak al ac)))) ac)))
   (ad (wb KI (iJ (K:=K) (qv 5)) (ad (og (sV (K:=K) (qv 5)) (dj (K:=K) (n:=3) rfl (az (ay (i:=6) sc_from_first.nd rfl (ID rfl)) (az (ay (i:=7) sc_from_first.nd rfl (ID rfl)) (az (ay (i:=8) sc_from_first.nd rfl (LU rfl)) bH)))))
   (ad (cw (QW.qt (nX (aC DI (aJ Fa (qv 7) (qv 6)) al (aL _)) (pe (aC ve (qv 8) (qv 4) (aL _))))) (am zE) aZ)
   (ad aP
   (ad aP
   (ad aP
   (ad aP
   (am aP))))))))
   (am (av (di (ak (qv 2) (ak (qv 3) ac)))))))))),?_⟩
  rw [show L2.aI ["rows","base","order","steps","columns","waiting","first","last","column","stretch","row","often"] [P0 a,PY b]=[some (P0 a),some (PY b),none,none,none,none,none,none,none,none,none,none] from rfl]
  nofun
  refine bx (PX ta) ?_
  nofun
  refine ⟨0,rfl,by decide,λ o ho=>?_⟩
  have s1:=(P4 H).new (o:=.lst (cH 0 0)) ho
  generalize upd H o (.lst (cH 0 0))=H1 at s1
  nofun
  refine ⟨aG (by simp),λ l hl=>?_⟩
  have s2:=s1.new (o:=.lst []) hl
  have tl:(upd H1 l (.lst [])) l=some (.lst []):=aa
  generalize upd H1 l (.lst [])=H2 at s2 tl
  nofun
  refine ⟨a,rfl,s2 _ _ ta,?_⟩
  nofun
  refine bx (PX (s2 _ _ ta)) ?_
  nofun
  refine ⟨aG (by simp),λ q hq=>?_⟩
  have s3:=s2.new (o:=.tup [PY 0,PY (([]:List V).length:Nat),PY 0]) hq
  have tl3:(upd H2 q (.tup [PY 0,PY (([]:List V).length:Nat),PY 0])) l=some (.lst []):=by rw [ag (ao tl hq)]; exact tl
  have tq:(upd H2 q (.tup [PY 0,PY (([]:List V).length:Nat),PY 0])) q=some (.tup [PY 0,PY 0,PY 0]):=aa
  generalize upd H2 q (.tup [PY 0,PY (([]:List V).length:Nat),PY 0])=H3 at s3 tl3 tq
  nofun
  refine ⟨aG (by simp),λ w hw=>?_⟩
  have hw0:H w=none:=s3.free hw
  have nl:l≠w:=ao tl3 hw
  have s4:=s3.new (o:=.lst [P0 q]) hw
  have tl4:(upd H3 w (.lst [P0 q])) l=some (.lst []):=by rw [ag nl]; exact tl3
  have tq4:(upd H3 w (.lst [P0 q])) q=some (.tup [PY 0,PY 0,PY 0]):=by rw [ag (ao tq hw)]; exact tq
  have tw:(upd H3 w (.lst [P0 q])) w=some (.lst [P0 q]):=aa
  generalize upd H3 w (.lst [P0 q])=H4 at s4 tl4 tq4 tw
  nofun
  refine ⟨λ n σ H'=>Same H H'/\H' l=some (.lst [])/\(n=1/\H' w=some (.lst [P0 q])/\H' q=some (.tup [PY 0,PY 0,PY 0])\/n=0/\H' w=some (.lst []))/\∃ v1 v2 v3 v4 v5 v6,σ=[some (P0 a),some (PY b),some (P0 o),some (P0 l),some (PY 0),some (P0 w),v1,v2,v3,v4,v5,v6],⟨1,s4,tl4,.inl ⟨rfl,tw,tq4⟩,_,_,_,_,_,_,rfl⟩,?_⟩
  rintro n σ H5 ⟨s5,tl5,hc,v1,v2,v3,v4,v5,v6,rfl⟩
  nofun
  rcases hc with ⟨rfl,tw5,tq5⟩ | ⟨rfl,tw5⟩
  ·refine ⟨_,Cr (PX tw5),?_⟩
   rw [show (!([P0 q]:List V).isEmpty)=true from rfl]
   nofun
   refine ⟨_,λ _ _ z=>z,?_⟩
   nofun
   refine ⟨n9 tw5,?_⟩
   nofun
   refine sZ (xs:=[]) tw5 ?_
   have tq6:(upd H5 w (.lst [])) q=some (.tup [PY 0,PY 0,PY 0]):=by rw [ag (λ z=>by rw [z,tw5] at tq5; cases tq5)]; exact tq5
   have tl6:(upd H5 w (.lst [])) l=some (.lst []):=by rw [ag nl]; exact tl5
   have tw6:(upd H5 w (.lst [])) w=some (.lst []):=aa
   have s6:Same H (upd H5 w (.lst [])):=s5.own hw0
   generalize upd H5 w (.lst [])=H6 at tq6 tl6 tw6 s6
   refine wl tq6 ?_
   dsimp only [Kr]
   nofun
   rw [decide_eq_true (show (0:Int) - 0<2 by decide)]
   nofun
   exact ⟨0,by decide,s6,tl6,.inr ⟨rfl,tw6⟩,_,_,_,_,_,_,rfl⟩
  ·refine ⟨_,Cr (PX tw5),?_⟩
   rw [show (!([]:List V).isEmpty)=false from rfl]
   nofun
   refine ⟨aG (by simp),λ x hx=>?_⟩
   exact k x o l _ (s5.new hx) aa (by rw [ag (ao tl5 hx)]; exact tl5)
noncomputable def At:Sp:=λ vs H Q _=>∃ (a:Addr) (b:Int),vs=[.ref a,.int b]/\H a=some (.lst [])/\∀ (x l:Addr) H',Same H H'->H' x=some (.tup [.ref l,.int 0])->Q (.ref x) H'
theorem kg (T:Tx K mg t):FnOk P t.wd K mg t.bs CX0 3 t.cU t.cR ["rows","base"] At:=by
 refine T.fY.okQ sc_heap_sorted (λ vs H Q E h=>?_) (λ cdv A outer s H vs Q E hr h=>?_)
 ·obtain ⟨a,b,rfl,_⟩:=h
  rfl
 ·obtain ⟨a,b,rfl,ta,k⟩:=h
  refine ⟨_,(ad (zy (i:=2) (N:=["row"]) (tgs:=["row"]) (frs:=[]) (ix:=[])  sc_heap_sorted.nd rfl (ID rfl) ⟨rfl,by decide +kernel,rfl,by decide +kernel,rfl,rfl,IS,IS,rfl⟩ rfl (bG (K:=K) (qv 0)) (λ _ _ _ _=>(ay (i:=0) (by show Kj (["row"]:List Str); decide +kernel) rfl (ID rfl))) (λ _ _ _ _=>(bF (ph (K:=K)) (by rfl) T.j6 pP (ak (qv 0) ac))))
   (ad (ax (i:=3) sc_heap_sorted.nd rfl (ID rfl) al)
   (ad (mj KI rfl (bG (K:=K) (bf (sK (K:=K)) (aq (lK T) (hr.mono (by decide)) rfl T.nC T.ib.kp T.m5 aR (ak (qv 2) (ak (qv 1) ac))) al)) (dj (K:=K) (n:=3) rfl (az (ay (i:=4) sc_heap_sorted.nd rfl (ID rfl)) (az (ay (i:=5) sc_heap_sorted.nd rfl (ID rfl)) (az (ay (i:=6) sc_heap_sorted.nd rfl (LU rfl)) bH)))) (ad aP
   (ad aP
   (ad aP
   (am aP)))))
   (am (av (di (ak (qv 2) (ak (qv 3) ac)))))))),?_⟩
  rw [show L2.aI ["rows","base","rising","all_puts","first","last","column","stretch","walk"] [P0 a,PY b]=[some (P0 a),some (PY b),none,none,none,none,none,none,none] from rfl]
  nofun
  refine ⟨a,rfl,⟨_,PX ta⟩,fJ (a:=a) (vs:=[]) (λ i ys σ H'=>H=H'/\ys=[]/\i=0) (by decide) (λ i ys σ H' h=>by rw [h.2.1,h.2.2]; rfl) (λ i ys σ H' h=>h.1▸PX ta) ⟨rfl,rfl,rfl⟩ (λ i ys σ H' x hx _=>nomatch hx) ?_⟩
  rintro ys σ H' ⟨rfl,rfl,_⟩ r hr
  have s1:=(P4 H).new (o:=.lst []) hr
  have tr:(upd H r (.lst [])) r=some (.lst []):=aa
  generalize upd H r (.lst [])=H1 at s1 tr
  nofun
  refine ⟨r,b,rfl,tr,λ x o l H2 s2 tx tl=>?_⟩
  nofun
  refine ⟨l,rfl,⟨_,PX tl⟩,iH (a:=l) (xs:=[]) (λ i σ H'=>H2=H'/\∃ v1 v2 v3 v4 v5,σ=[some (P0 a),some (PY b),some (P0 r),some (PY 0),v1,v2,v3,v4,v5]) ⟨rfl,_,_,_,_,_,rfl⟩ (λ i σ H' _ h=>h.1▸PX tl) (λ i x σ H' hx _=>nomatch hx) ?_⟩
  rintro σ H' ⟨rfl,v1,v2,v3,v4,v5,rfl⟩
  nofun
  exact ⟨aG (by simp),λ y hy=>k y r _ ((s1.trans s2).new hy) aa⟩
noncomputable def wL:Sp:=λ vs H Q _=>∃ a:Addr,vs=[.ref a]/\H a=some (.lst [])/\∀ H',Same H H'->Q (.str "-") H'
theorem mU (T:Tx K mg t):FnOk P t.wd K mg t.bs CX0 1 t.fC t.fw ["things"] wL:=by
 refine T.jz.okQ mM (λ vs H Q E h=>?_) (λ cdv A outer s H vs Q E hr h=>?_)
 ·obtain ⟨a,rfl,_⟩:=h
  rfl
 ·obtain ⟨a,rfl,ta,k⟩:=h
  refine ⟨_,(am (av (xS (K:=K) (lA (K:=K) ai (ak (gC (N:=["thing"]) (tgs:=["thing"]) (frs:=[]) (ix:=[]) ⟨rfl,by decide +kernel,rfl,by decide +kernel,rfl,rfl,IS,IS,rfl⟩ rfl (bG (K:=K) (qv 0)) (λ _ _ _ _=>(ay (i:=0) (by show Kj (["thing"]:List Str); decide +kernel) rfl (ID rfl))) (λ _ _ _ _=>(bF ow (by rfl) T.rq ue (ak (qv 0) ac)))) ac)) (pc ai)))),?_⟩
  rw [show L2.aI ["things"] [P0 a]=[some (P0 a)] from rfl]
  nofun
  refine ⟨rfl,?_⟩
  nofun
  refine ⟨a,rfl,⟨_,PX ta⟩,fJ (a:=a) (vs:=[]) (λ i ys σ H'=>H=H'/\ys=[]/\i=0) (by decide) (λ i ys σ H' h=>by rw [h.2.1,h.2.2]; rfl) (λ i ys σ H' h=>h.1▸PX ta) ⟨rfl,rfl,rfl⟩ (λ i ys σ H' x hx _=>nomatch hx) ?_⟩
  rintro ys σ H' ⟨rfl,rfl,_⟩ r hr
  nofun
  refine ⟨_,r,[],rfl,rfl,PX aa,by decide,?_⟩
  refine ⟨false,⟨by decide +kernel,by decide +kernel⟩,(λ z=>nomatch z),λ _=>?_⟩
  nofun
  exact k _ ((P4 H).new hr)
noncomputable def dkF (kd:Str) (b:Int) (la pa:Addr):List (Str×V):=[("kind",.str kd),("base",.int b),("laid",.ref la),("pourings",.ref pa)]
theorem C0:∀ x∈([("base" : Str),"laid","pourings"]:List Str),¬ (("kind" : Str)=x):=by decide +kernel
theorem FE:∀ x∈([("laid" : Str),"pourings"]:List Str),¬ (("base" : Str)=x):=by decide +kernel
theorem Hu:¬ (("laid" : Str) = "pourings"):=by decide +kernel
theorem Au (kd:Str) (b:Int) (la pa:Addr):bo "pourings" (.ref pa) (bo "laid" (.ref la) (bo "base" (.int b) (bo "kind" (.str kd) [])))=dkF kd b la pa:=by
 rw [show bo "kind" (.str kd) []=[(("kind" : Str),PZ kd)] from rfl,cz _ _ _ (C0 "base" (by simp)),show bo "base" (.int b) []=[(("base" : Str),PY b)] from rfl]
 rw [cz _ _ _ (C0 "laid" (by simp)),cz _ _ _ (FE "laid" (by simp)),show bo "laid" (.ref la) []=[(("laid" : Str),P0 la)] from rfl]
 rw [cz _ _ _ (C0 "pourings" (by simp)),cz _ _ _ (FE "pourings" (by simp)),cz _ _ _ Hu]
 rfl
theorem wM (kd:Str) (b:Int) (la pa:Addr):(dkF kd b la pa).lookup ("kind" : Str)=some (.str kd):=i5
theorem wN (kd:Str) (b:Int) (la pa:Addr):(dkF kd b la pa).lookup ("base" : Str)=some (.int b):=by unfold dkF; rw [lz (Jj (C0 "base" (by simp))),i5]
theorem wO (kd:Str) (b:Int) (la pa:Addr):(dkF kd b la pa).lookup ("laid" : Str)=some (.ref la):=by unfold dkF; rw [lz (Jj (C0 "laid" (by simp))),lz (Jj (FE "laid" (by simp))),i5]
noncomputable def Bc (C:Addr) (H:Hp) (d:Addr):Prop:=∃ dx kd b la pa,H d=some (.ins C dx (dkF kd b la pa))/\H la=some (.lst [])
theorem eE (f:Str) (v:V):∀ r:List (Str×V),(bo f v r).length<=r.length+1
 | []=>Im _
 | (g,x)::r=>by
  have:=eE f v r
  rw [bo]
  split<;>simp<;>lia
noncomputable def C1 (C:Addr):Sp:=λ vs H Q _=>∃ (d dx:Addr) (kd:Str) (b:Int),vs=[.ref d,.str kd,.int b]/\H d=some (.ins C dx [])/\∀ H',Bc C H' d->(∀ c o,H c=some o->c≠d->H' c=some o)->Q .non H'
theorem iG (T:Tx K mg t):FnOk P t.wd K mg t.bs CX0 1 t.bN t.bL ["self","kind","base"] (C1 t.ap):=by
 refine T.jr.okQ iD (λ vs H Q E h=>?_) (λ cdv A outer s H vs Q E hr h=>?_)
 ·obtain ⟨d,dx,kd,b,rfl,_⟩:=h
  rfl
 ·obtain ⟨d,dx,kd,b,rfl,ob,k⟩:=h
  refine ⟨_,(ad (pF (K:=K) (qv 0) (qv 1))
   (ad (pF (K:=K) (qv 0) (qv 2))
   (ad (pF (K:=K) (qv 0) (aT ac))
   (am (pF (K:=K) (qv 0) (aT ac)))))),?_⟩
  rw [show L2.aI ["self","kind","base"] [P0 d,PZ kd,PY b]=[some (P0 d),some (PZ kd),some (PY b)] from rfl]
  nofun
  refine ⟨d,t.ap,dx,_,rfl,ob,T.fk,T.bQ,by decide,?_⟩
  nofun
  refine ⟨d,t.ap,dx,_,rfl,aa,T.fk,T.bP,by simp [bo],?_⟩
  rw [yC]
  have o1:(upd H d (.ins t.ap dx (bo "base" (.int b) (bo "kind" (.str kd) [])))) d=some (.ins t.ap dx (bo "base" (.int b) (bo "kind" (.str kd) []))):=aa
  have k1:∀ c o,H c=some o->c≠d->(upd H d (.ins t.ap dx (bo "base" (.int b) (bo "kind" (.str kd) [])))) c=some o:=λ c o e n=>by rw [ag n]; exact e
  generalize upd H d (.ins t.ap dx (bo "base" (.int b) (bo "kind" (.str kd) [])))=H1 at o1 k1
  nofun
  refine ⟨aG (by simp),λ la hla=>?_⟩
  have n1:d≠la:=ao o1 hla
  have s2:=(P4 H1).new (o:=.lst []) hla
  have tl:(upd H1 la (.lst [])) la=some (.lst []):=aa
  generalize upd H1 la (.lst [])=H2 at s2 tl
  nofun
  refine ⟨d,t.ap,dx,_,rfl,s2 _ _ o1,T.fk,T.bR,JB (eE _ _ _) (by simp [bo]),?_⟩
  have k3:∀ c o,H2 c=some o->c≠d->(upd H2 d (.ins t.ap dx (bo "laid" (.ref la) (bo "base" (.int b) (bo "kind" (.str kd) []))))) c=some o:=λ c o e n=>by rw [ag n]; exact e
  have o3:(upd H2 d (.ins t.ap dx (bo "laid" (.ref la) (bo "base" (.int b) (bo "kind" (.str kd) []))))) d=some (.ins t.ap dx (bo "laid" (.ref la) (bo "base" (.int b) (bo "kind" (.str kd) [])))):=aa
  generalize upd H2 d (.ins t.ap dx (bo "laid" (.ref la) (bo "base" (.int b) (bo "kind" (.str kd) []))))=H3 at k3 o3
  nofun
  refine ⟨aG (by simp),λ pa hpa=>?_⟩
  have s4:=(P4 H3).new (o:=.lst []) hpa
  generalize upd H3 pa (.lst [])=H4 at s4
  nofun
  refine ⟨d,t.ap,dx,_,rfl,s4 _ _ o3,T.fk,T.be,JB (eE _ _ _) (JB (Mr (eE _ _ _)) (by simp [bo])),?_⟩
  rw [Au]
  have k5:∀ c o,H4 c=some o->c≠d->(upd H4 d (.ins t.ap dx (dkF kd b la pa))) c=some o:=λ c o e n=>by rw [ag n]; exact e
  nofun
  exact k _ ⟨dx,kd,b,la,pa,aa,k5 _ _ (s4 _ _ (k3 _ _ tl (Jj n1))) (Jj n1)⟩ λ c o e n=>k5 _ _ (s4 _ _ (k3 _ _ (s2 _ _ (k1 _ _ e n)) n)) n
noncomputable def wP (C:Addr):Sp:=λ vs H Q _=>∃ d:Addr,vs=[.ref d]/\Bc C H d/\∀ (x l:Addr) (c:Int) H',Same H H'->H' x=some (.tup [.int c,.ref l])->H' l=some (.lst [])->Q (.ref x) H'
theorem kK (T:Tx K mg t):FnOk P t.wd K mg t.bs CX0 4 t.jV t.jL ["desk"] (wP t.ap):=by
 refine T.jx.okQ qP (λ vs H Q E h=>?_) (λ cdv A outer s H vs Q E hr h=>?_)
 ·obtain ⟨d,rfl,_⟩:=h
  rfl
 ·obtain ⟨d,rfl,hd,k⟩:=h
  obtain ⟨dx,kd,b,la,pa,e1,e2⟩:=hd
  refine ⟨_,(am (av (aq (qT T) (hr.mono (by decide)) rfl T.u6 T.m4.kp T.uI aR (ak (tS (K:=K) (qv 0)) (ak (tS (K:=K) (qv 0)) (ak (tS (K:=K) (qv 0)) ac)))))),?_⟩
  rw [show L2.aI ["desk"] [P0 d]=[some (P0 d)] from rfl]
  nofun
  refine ⟨d,t.ap,dx,_,_,rfl,e1,T.fk,T.bQ,wM _ _ _ _,?_⟩
  nofun
  refine ⟨d,t.ap,dx,_,_,rfl,e1,T.fk,T.bR,wO _ _ _ _,?_⟩
  nofun
  refine ⟨d,t.ap,dx,_,_,rfl,e1,T.fk,T.bP,wN _ _ _ _,?_⟩
  nofun
  exact ⟨kd,la,b,rfl,e2,k⟩
noncomputable def Av (C pt:Addr):Sp:=λ vs H Q _=>∃ d:Addr,vs=[.ref d]/\Bc C H d/\kf pt H/\∀ (l:Addr) H',SameX pt H H'->kf pt H'->H' l=some (.lst [])->Q (.ref l) H'
theorem oG (T:Tx K mg t):FnOk P t.wd K mg t.bs CX0 5 t.gT t.gP ["desk"] (Av t.ap t.pt):=by
 refine T.kO.okQ oy (λ vs H Q E h=>?_) (λ cdv A outer s H vs Q E hr h=>?_)
 ·obtain ⟨d,rfl,_⟩:=h
  rfl
 ·obtain ⟨d,rfl,hd,hT,k⟩:=h
  refine ⟨_,(am (av (aq (lJ T) (hr.mono (by decide)) rfl T.nG T.ig.kp T.m9 aR (ak (bf (sK (K:=K)) (aq (kK T) (hr.mono (by decide)) rfl T.nF T.jx.kp T.m8 aR (ak (qv 0) ac)) al) ac)))),?_⟩
  rw [show L2.aI ["desk"] [P0 d]=[some (P0 d)] from rfl]
  nofun
  refine ⟨d,rfl,hd,λ x l c H1 s1 tx tl=>?_⟩
  nofun
  exact ⟨l,rfl,tl,hT.same s1,λ l2 H2 s2 T2 t2=>k l2 H2 (s1.x.trans s2) T2 t2⟩
noncomputable def mV (w:Str):Str:=if w = "order" then "-" else "0"
noncomputable def wQ (C pt:Addr) (y:Str):Sp:=λ vs H Q _=>∃ d:Addr,vs=[.ref d]/\Bc C H d/\kf pt H/\∀ H',SameX pt H H'->kf pt H'->Q (.str y) H'
theorem jo (T:Tx K mg t):FnOk P t.wd K mg t.bs CX0 6 t.aF t.ci ["desk"] (wQ t.ap t.pt "-"):=by
 refine T.eQ.okQ jl (λ vs H Q E h=>?_) (λ cdv A outer s H vs Q E hr h=>?_)
 ·obtain ⟨d,rfl,_⟩:=h
  rfl
 ·obtain ⟨d,rfl,hd,hT,k⟩:=h
  refine ⟨_,(am (av (aq (mU T) (hr.mono (by decide)) rfl T.oZ T.jz.kp T.oP aR (ak (aq (oG T) (hr.mono (by decide)) rfl T.rm T.kO.kp T.rf aR (ak (qv 0) ac)) ac)))),?_⟩
  rw [show L2.aI ["desk"] [P0 d]=[some (P0 d)] from rfl]
  nofun
  refine ⟨d,rfl,hd,hT,λ l H1 s1 T1 tl=>?_⟩
  nofun
  exact ⟨l,rfl,tl,λ H2 s2=>k H2 (s1.trans s2.x) (T1.same s2)⟩
theorem kh (T:Tx K mg t):FnOk P t.wd K mg t.bs CX0 5 t.aM t.cQ ["desk"] (wQ t.ap t.pt "0"):=by
 refine T.fX.okQ sc_answer_puts (λ vs H Q E h=>?_) (λ cdv A outer s H vs Q E hr h=>?_)
 ·obtain ⟨d,rfl,_⟩:=h
  rfl
 ·obtain ⟨d,rfl,hd,hT,k⟩:=h
  refine ⟨_,(ad (og (aq (kK T) (hr.mono (by decide)) rfl T.nF T.jx.kp T.m8 aR (ak (qv 0) ac)) (dj (K:=K) (n:=2) rfl (az (ay (i:=1) sc_answer_puts.nd rfl (ID rfl)) (az (ay (i:=2) sc_answer_puts.nd rfl (ID rfl)) bH))))
   (am (av (bF ow (by rfl) T.rq ue (ak (bf (sK (K:=K)) (aq (kg T) (hr.mono (by decide)) rfl T.lP T.fY.kp T.lN aR (ak (qv 2) (ak (qv 1) ac))) al) ac))))),?_⟩
  rw [show L2.aI ["desk","base","rows"] [P0 d]=[some (P0 d),none,none] from rfl]
  nofun
  refine ⟨d,rfl,hd,λ x l c H1 s1 tx tl=>?_⟩
  refine eD tx ?_
  dsimp only [Kr]
  nofun
  refine ⟨l,c,rfl,tl,λ y z H2 s2 ty=>?_⟩
  nofun
  refine ⟨0,rfl,by decide,?_⟩
  have s12:=s1.trans s2
  exact k H2 s12.x (hT.same s12)
theorem um {w:Str} (h:iE w):¬ w = "sort"/\¬ w = "row"/\¬ w = "pour":=by
 rcases h with rfl | rfl<;>decide +kernel
noncomputable def Hv (K:Ih) (t:Ad) (v:V) (sp:Sp):Prop:=(v=.ref t.aF/\sp=wQ t.ap t.pt "-")\/(v=.ref t.aM/\sp=wQ t.ap t.pt "0")
noncomputable def qU (C pt:Addr):Sp:=λ vs H Q _=>∃ (d:Addr) (w:Str),vs=[.ref d,.str w,.non]/\Bc C H d/\iE w/\kf pt H/\∀ H',SameX pt H H'->kf pt H'->Q (.str (mV w)) H'
theorem oH (T:Tx K mg t):FnOk P t.wd K mg t.bs CX0 7 t.gR t.gN ["desk","ask","way"] (qU t.ap t.pt):=by
 refine T.kM.okQ sc_answered (λ vs H Q E h=>?_) (λ cdv A outer s H vs Q E hr h=>?_)
 ·obtain ⟨d,w,rfl,_⟩:=h
  rfl
 ·obtain ⟨d,w,rfl,hd,hw,hT,k⟩:=h
  refine ⟨_,(ad (cw (aC ve (qv 1) ai (aL _)) (am aP) aZ)
   (ad (ax (i:=3) sc_answered.nd rfl (ID rfl) (bf (Fy T.qj) (cK (v:=.ref t.gc) rfl T.yq rfl) (qv 1)))
   (am (av (wB (R:=Hv K t) (qv 3) (λ v sp h=>by
     rcases h with ⟨rfl,rfl⟩ | ⟨rfl,rfl⟩
     ·exact ⟨_,_,_,_,_,rfl,jo T,hr.mono (by decide),T.eQ.kp,T.ki,aR⟩
     ·exact ⟨_,_,_,_,_,rfl,kh T,hr.mono (by decide),T.fX.kp,T.lM,aR⟩) (ak (qv 0) ac)))))),?_⟩
  rw [show L2.aI ["desk","ask","way","answer"] [P0 d,PZ w,V.non]=[some (P0 d),some (PZ w),some (V.non),none] from rfl]
  nofun
  rw [decide_eq_false (show ¬ PZ w=PZ "sort" from λ z=>(um hw).1 (PZ.inj z))]
  nofun
  rcases hw with rfl | rfl
  ·refine ⟨_,t.aF,rfl,rfl,kJ t,?_⟩
   nofun
   refine ⟨_,.inl ⟨rfl,rfl⟩,?_⟩
   nofun
   exact ⟨d,rfl,hd,hT,λ H1 s1 T1=>k H1 s1 T1⟩
  ·refine ⟨_,t.aM,rfl,rfl,mR t,?_⟩
   nofun
   refine ⟨_,.inr ⟨rfl,rfl⟩,?_⟩
   nofun
   exact ⟨d,rfl,hd,hT,λ H1 s1 T1=>k H1 s1 T1⟩
noncomputable def DkX (C:Addr) (H:Hp) (d an:Addr):Prop:=∃ dx kd b la pa,H d=some (.ins C dx (dkF kd b la pa))/\H la=some (.lst [])/\la≠an
theorem DkX.at {H:Hp} {an:Addr} (h:DkX C H d an):Bc C H d:=by obtain ⟨dx,kd,b,la,pa,e1,e2,_⟩:=h; exact ⟨dx,kd,b,la,pa,e1,e2⟩
theorem DkX.app {H:Hp} {an pt:Addr} (h:DkX C H d an) (T:kf pt H) (s:SameX pt H H1) (ta:H1 an=some (.lst xs)):DkX C (upd H1 an (.lst ys)) d an:=by
 obtain ⟨dx,kd,b,la,pa,e1,e2,n⟩:=h
 have g1:H1 d=_:=s _ _ (λ z=>by obtain ⟨ar,e⟩:=TabOk.tbl T; rw [z,e] at e1; cases e1) e1
 refine ⟨dx,kd,b,la,pa,?_,by rw [ag n]; exact s _ _ (T.ne e2) e2,n⟩
 rw [ag (λ z=>by rw [z,ta] at g1; cases g1)]; exact g1
noncomputable def FF (C pt:Addr) (CB:Addr):Sp:=λ vs H Q E=>∃ (text:Str) (rows:List Str),vs=[.str text]/\OkT text rows/\kf pt H/\
  ((∃ j,uj rows j/\∀ dx H',Same H H'->H' dx=some (.xd [("line",.int (j:Nat))])->E (.ref CB) (some dx) H')\/
   ∃ kd b as,uk rows kd b as/\∀ (x:Addr) H',SameX pt H H'->kf pt H'->H' x=some (.lst ((as.map mV).map PZ))->Q (.ref x) H')
theorem uo (T:Tx K mg t):FnOk P t.wd K mg t.bs (CXE P t.wd) 8 t.xl t.xk ["text"] (FF t.ap t.pt t.af):=by
 refine T.AG.okX sc_run (λ vs H Q E h=>?_) (λ cdv A outer s H vs Q E hr h=>?_)
 ·obtain ⟨text,rows,rfl,_⟩:=h
  rfl
 ·obtain ⟨text,rows,rfl,hok,hT,k⟩:=h
  refine ⟨_,(cJ (Ai (pB (lI T) (hr.mono (by decide)) rfl T.oX T.jw.kp T.oN (ak (qv 0) ac)) (dj (K:=K) (n:=2) rfl (az (dj (K:=K) (n:=2) rfl (az (ay (i:=1) sc_run.nd rfl (ID rfl)) (az (ay (i:=2) sc_run.nd rfl (ID rfl)) bH))) (az (ay (i:=3) sc_run.nd rfl (ID rfl)) bH))))
   (pA (ad (ax (i:=4) sc_run.nd rfl (ID rfl) (zT T.jA (iG T) (hr.mono (by decide)) rfl T.A4 T.jB aR (ak (qv 1) (ak (qv 2) ac))))
   (ad (ax (i:=5) sc_run.nd rfl (ID rfl) (aT ac))
   (ad (mj KI rfl (bG (K:=K) (qv 3)) (dj (K:=K) (n:=2) rfl (az (ay (i:=6) sc_run.nd rfl (ID rfl)) (az (ay (i:=7) sc_run.nd rfl (ID rfl)) bH))) (am (cw (aC ve (qv 6) ai (aL _)) (am aP) (am (cw (aC ve (qv 6) ai (aL _)) (am aP) (am (n6 (mi (K:=K) (qv 5) (ak (aq (oH T) (hr.mono (by decide)) rfl T.rj T.kM.kp T.rb aR (ak (qv 4) (ak (qv 6) (ak (qv 7) ac)))) ac)))))))))
   (am (av (qv 5)))))))),?_⟩
  rw [show L2.aI ["text","kind","base","deeds","desk","answers","word","given"] [PZ text]=[some (PZ text),none,none,none,none,none,none,none] from rfl]
  nofun
  refine ⟨text,rows,rfl,hok,?_⟩
  rcases k with ⟨j,hB,kE⟩ | ⟨kd,b,as,hG,k⟩
  ·exact .inl ⟨j,hB,λ dx H' s hd=>⟨_,rfl,kE dx H' s hd⟩⟩
  refine .inr ⟨kd,b,as,hG,λ x h d us H1 s1 tx th td D=>?_⟩
  refine ⟨x,_,rfl,SqT.of tx,rfl,_,_,rfl,eD th ?_⟩
  dsimp only [Kr]
  refine ⟨_,_,rfl,rfl,?_⟩
  dsimp only [Kr]
  nofun
  intro w dx hw hdx hne
  have sN:Same H1 (upd (upd H1 dx (.own w)) w (.ins t.ap dx [])):=λ b u e=>by
   rw [ag (ao e hw),ag (ao e hdx)]; exact e
  refine ⟨w,dx,kd,b,rfl,aa,λ H2 hd kp=>⟨rfl,?_⟩⟩
  have s2:Same H1 H2:=λ c o e=>kp _ _ (sN _ _ e) (ao e hw)
  nofun
  refine ⟨aG (by simp),λ an han=>?_⟩
  have s3:=(P4 H2).new (o:=.lst []) han
  have ta:(upd H2 an (.lst [])) an=some (.lst []):=aa
  have hand:H an=none:=s1.free (s2.free han)
  generalize upd H2 an (.lst [])=H3 at s3 ta
  have s13:=s2.trans s3
  have hul:us.length=as.length:=D.1
  have hD3:DdAt H3 us as:=⟨D.1,λ k t w a b=>s13 _ _ (D.2 k t w a b)⟩
  obtain ⟨i0,hd0,rest0,eN,_,hA,rfl⟩:=hG
  have hAs:∀ w∈rest0.map Lo,iE w:=λ w hw=>by obtain ⟨n,hn,rfl⟩:=LD.mp hw; exact hA n hn
  have hlen:(rest0.map Lo).length<=50:=by
   have:=lH (rows:=rows) rows.length
   rw [eN] at this
   rw [Ir]
   simp only [IU] at this
   have:=hok.2.2.1
   lia
  generalize rest0.map Lo=as at *
  nofun
  refine ⟨d,rfl,⟨_,PX (s13 _ _ td)⟩,iH (a:=d) (xs:=us.map P0) (λ i σ H'=>SameX t.pt H H'/\kf t.pt H'/\DkX t.ap H' w an/\H' d=some (.lst (us.map P0))/\DdAt H' us as/\H' an=some (.lst (((as.take i).map mV).map PZ))/\d≠an/\∃ v1 v2,σ=[some (PZ text),some (PZ kd),some (PY b),some (P0 d),some (P0 w),some (P0 an),v1,v2]) ⟨(s1.trans s13).x,hT.same (s1.trans s13),(by obtain ⟨dx,kd,b,la,pa,e1,e2⟩:=hd; exact ⟨dx,kd,b,la,pa,s3 _ _ e1,s3 _ _ e2,ao e2 han⟩),s13 _ _ td,hD3,ta,ao (s2 _ _ td) han,_,_,rfl⟩ (λ i σ H' _ h=>PX h.2.2.2.1) ?_ ?_⟩
  ·rintro i x σ H4 hx ⟨s4,T4,hd4,td4,D4,ta4,nda,v1,v2,rfl⟩
   obtain ⟨q,rfl,eq,_,hi⟩:=lu hx
   have ew:as[i]? = some (as[i]'(by lia)):=IF _
   have hwk:=hAs _ (JO ew)
   have tq:=D4.2 i q _ eq ew
   generalize as[i]'(by lia)=wd at ew hwk tq
   refine eD tq ?_
   dsimp only [Kr]
   nofun
   rw [decide_eq_false (show ¬ PZ wd=PZ "row" from λ z=>(um hwk).2.1 (PZ.inj z))]
   nofun
   rw [decide_eq_false (show ¬ PZ wd=PZ "pour" from λ z=>(um hwk).2.2 (PZ.inj z))]
   nofun
   refine ⟨n9 ta4,?_⟩
   nofun
   refine ⟨w,wd,rfl,hd4.at,hwk,T4,λ H5 s5 T5=>?_⟩
   have ta5:=s5 _ _ (T4.ne ta4) ta4
   have td5:=s5 _ _ (T4.ne td4) td4
   nofun
   refine mn ta5 (by rw [Ir,Ir,Jl]; exact cu (by lia)) ?_
   have T6:kf t.pt (upd H5 an (.lst (((as.take i).map mV).map PZ++[PZ (mV wd)]))):=by
    have hne:=T5.ne ta5
    rcases T5 with z | ⟨c',z1,z2⟩
    ·exact .inl (by rw [ag (Jj hne)]; exact z)
    ·refine .inr ⟨c',by rw [ag (Jj hne)]; exact z1,?_⟩
     rw [ag (λ e=>by rw [e,ta5] at z2; cases z2)]; exact z2
   nofun
   refine ⟨λ c o n e=>?_,T6,hd4.app T4 s5 ta5,by rw [ag nda]; exact td5,⟨D4.1,λ k t w a b=>?_⟩,?_,nda,_,_,rfl⟩
   ·rw [ag (λ z=>by rw [z,hand] at e; cases e)]
    exact s5 _ _ n (s4 _ _ n e)
   ·have z:=s5 _ _ (T4.neT (D4.2 k t w a b)) (D4.2 k t w a b)
    rw [ag (λ e=>by rw [e,ta5] at z; cases z)]; exact z
   ·rw [aa,KN,ew,IL,IL]
    rfl
  ·rintro σ H4 ⟨s4,T4,hd4,td4,D4,ta4,nda,v1,v2,rfl⟩
   rw [Ir,Jb (by lia)] at ta4
   nofun
   exact k an H4 s4 T4 ta4
noncomputable def bad0:List Str:=["kind","kind number","kind number 10 10","kind number  10"," kind number 10","kind number 10 "]
noncomputable def bad1:List Str:=["kind number 1","kind number 0","kind number 65","kind number 64.0","kind number -2"]
noncomputable def bad2:List Str:=["kind number 010","kind number +10","kind number 1e1","kind number ten","kind number 1000"]
noncomputable def bad3:List Str:=["kind numbers 10","kind Number 10","Kind number 10","kinds number 10","number 10"]
noncomputable def bad4:List Str:=["kind part","kind parts 10","kind text 27 a","kind 10 number","kind text","kind \"text\" 27"]
noncomputable def bad5:List Str:=["row 1 2","row","pour 1","order","sort last","heaps","ahead","-","0"," ","'","cheapest"]
noncomputable def bad6:List Str:=["kind number 99999999999999999999","kind text 2 ","kind,number,10","kind~number~10"]
noncomputable def bads:List Str:=((((((bad0++bad1)++bad2)++bad3)++bad4)++bad5)++bad6)
noncomputable def aE (a:Nat):List Str:=Jh a ""
noncomputable def aU (b:Nat):List Str:=(["","order","puts"]:List Str).take b
noncomputable def fW (b:Nat):List Str:=(aU b).filter λ w=>decide (¬ w = "")
noncomputable instance (ws:List Str):Decidable (okK ws):=by unfold okK; infer_instance
noncomputable instance (t:Str) (rows:List Str):Decidable (OkT t rows):=by unfold OkT; infer_instance
theorem xZ {c:Nat}:∀ {x y r1 r2:List Nat},c∉x->c∉y->x++c::r1=y++c::r2->x=y/\r1=r2
 | [],[],_,_,_,_,h=>⟨rfl,(Mb h).2⟩
 | [],b::y,_,_,_,hy,h=>absurd (Io.mpr (.inl (Mb h).1)) hy
 | a::x,[],_,_,hx,_,h=>absurd (Io.mpr (.inl (Mb h).1.symm)) hx
 | a::x,b::y,_,_,hx,hy,h=>by
  obtain ⟨e1,e2⟩:=Mb h
  obtain ⟨e3,e4⟩:=xZ (λ z=>hx (IG _ z)) (λ z=>hy (IG _ z)) e2
  exact ⟨by rw [e1,e3],e4⟩
theorem iM (c:Nat) (x y:Str) (r:List Str):(Lp ⟨#[c]⟩ (x::y::r)).cps.toList=x.cps.toList++c::(Lp ⟨#[c]⟩ (y::r)).cps.toList:=by
 show (x++⟨#[c]⟩++Lp ⟨#[c]⟩ (y::r)).cps.toList=_
 rw [Kx,Kx,IJ,IJ,Je]
 rfl
theorem jp {x:Str} (h:x.cps.toList=y.cps.toList):x=y:=PP (JL.mp h)
theorem pS {c:Nat}:∀ {xs ys:List Str},xs≠[]->ys≠[]->(∀ x∈xs,c∉x.cps.toList)->(∀ y∈ys,c∉y.cps.toList)->(Lp ⟨#[c]⟩ xs).cps.toList=(Lp ⟨#[c]⟩ ys).cps.toList->xs=ys
 | [],_,h,_,_,_,_=>absurd rfl h
 | _,[],_,h,_,_,_=>absurd rfl h
 | [x],[y],_,_,_,_,h=>by rw [jp (x:=x) (y:=y) h]
 | [x],y::z::r,_,_,hx,_,h=>by
  rw [iM] at h
  refine absurd ?_ (hx x (Jv.mpr rfl))
  rw [show x.cps.toList=_ from h]; simp
 | x::z::r,[y],_,_,_,hy,h=>by
  rw [iM] at h
  refine absurd ?_ (hy y (Jv.mpr rfl))
  rw [show y.cps.toList=_ from h.symm]; simp
 | x::x2::xs,y::y2::ys,_,_,hx,hy,h=>by
  rw [iM,iM] at h
  obtain ⟨e1,e2⟩:=xZ (hx x (Jg ..)) (hy y (Jg ..)) h
  rw [jp e1,pS (by simp) (by simp) (λ z hz=>hx z (IG _ hz)) (λ z hz=>hy z (IG _ hz)) e2]
theorem kL {rows:List Str} (h0:rows≠[]) (h:∀ r∈rows,c∉r.cps.toList):Jp (Lp ⟨#[c]⟩ rows) ⟨#[c]⟩=rows:=by
 refine pS (c:=c) (λ z=>?_) h0 (StrLaws.split_free _ c) h (by rw [StrLaws.join_split])
 have:=split_pos (Lp ⟨#[c]⟩ rows) ⟨#[c]⟩
 rw [z] at this; simp at this
theorem FG:("\n" : Str)=⟨#[10]⟩:=by decide +kernel
theorem C2:(" " : Str)=⟨#[32]⟩:=by decide +kernel
noncomputable def bu (a:Nat) (hd:Str) (b:Nat):List Str:=aE a++[hd]++aU b
theorem GK {P:Nat->Prop} (h0:P 0) (h1:P 1) (h2:P 2) (h3:P 3):∀ a,a<4->P a
 | 0,_=>h0
 | 1,_=>h1
 | 2,_=>h2
 | 3,_=>h3
 | a+4,h=>absurd h (by lia)
theorem lL {hd:Str} (h0:¬ hd = ""):∀ a,a<4->∀ b,b<4->∃ rest,nbs (bu a hd b) (bu a hd b).length=(a,hd)::rest/\rest.map Lo=fW b/\∀ n∈rest,iE n.2:=by
 have e1:fW 0=[]:=by decide +kernel
 have e2:fW 1=[]:=by decide +kernel
 have e3:fW 2=(["order"]:List Str):=by decide +kernel
 have e4:fW 3=(["order","puts"]:List Str):=by decide +kernel
 have n1:¬ (("order" : Str) = ""):=by decide +kernel
 have n2:¬ (("puts" : Str) = ""):=by decide +kernel
 refine GK ?_ ?_ ?_ ?_<;>refine GK ?_ ?_ ?_ ?_<;>refine ⟨_,by simp [bu,aE,aU,nbs,h0,n1,n2]; rfl,?_,?_⟩<;>simp [e1,e2,e3,e4,iE]
theorem C3 {w:Str} (h:iE w):okK (Jp w " "):=by
 rw [mS h]
 rcases h with rfl | rfl<;>decide +kernel
theorem x6 {hd:Str} (h0:¬ hd = "") (h1:10∉hd.cps.toList) (h2:hd.length<=400) (h3:okK (Jp hd " ")) {a b:Nat} (ha:a<4) (hb:b<4):OkT (Ms "\n" (bu a hd b)) (bu a hd b):=by
 obtain ⟨rest,e,_,hA⟩:=lL h0 a ha b hb
 have hm:∀ r∈bu a hd b,r = ""\/r=hd\/r = "order"\/r = "puts":=λ r hr=>by
  unfold bu at hr
  rcases IN.mp hr with hr | hr
  ·rcases IN.mp hr with hr | hr
   ·exact .inl (List.mem_replicate.mp hr).2
   ·exact .inr (.inl (Jv.mp hr))
  ·have:=KU hr
   simp only [Io,JC,or_false] at this
   rcases this with h | h | h
   ·exact .inl h
   ·exact .inr (.inr (.inl h))
   ·exact .inr (.inr (.inr h))
 have hl:(bu a hd b).length<=10:=by
  unfold bu aE aU
  rw [IM,IM,KO,Jl]
  simp; lia
 have hr:∀ r∈bu a hd b,r.length<=400:=λ r hr=>by
  rcases hm r hr with rfl | rfl | rfl | rfl
  ·decide
  ·exact h2
  ·decide +kernel
  ·decide +kernel
 have hf:∀ r∈bu a hd b,10∉r.cps.toList:=λ r hr=>by
  rcases hm r hr with rfl | rfl | rfl | rfl
  ·decide +kernel
  ·exact h1
  ·decide +kernel
  ·decide +kernel
 refine ⟨?_,?_,by lia,(λ r h=>Js (hr r h) (by decide)),λ n hn=>?_⟩
 ·rw [FG]
  show Jp (NS ⟨#[10]⟩ (bu a hd b)) _=_
  rw [MY]
  exact kL (by unfold bu; simp) hf
 ·show (NS "\n" (bu a hd b)).length<=_
  rw [MY]
  have e1:=StrLaws.join_length_le "\n" (bu a hd b)
  have e2:((bu a hd b).map (·.length)).sum<=400*(bu a hd b).length:=by
   generalize bu a hd b=rs at hr
   clear e e1 hl hf hm
   induction rs with
   | nil=>simp
   | cons x rs ih=>
    have:=hr x (Jg ..)
    have:=ih λ r h=>hr r (IG _ h)
    simp only [Jy,OF,IU]
    lia
  have e3:(("\n" : Str)).length=1:=by decide +kernel
  rw [e3] at e1
  lia
 ·rw [e] at hn
  rcases Io.mp hn with rfl | hn
  ·exact h3
  ·exact C3 (hA n hn)
theorem uq:∀ hd∈bads,¬ hd = ""/\10∉hd.cps.toList/\hd.length<=400/\okK (Jp hd " ")/\rdK (Jp hd " ")=none:=by decide +kernel
theorem FH {a b:Nat} {hd:Str} (ha:a<4) (hb:b<4) (h:hd∈bads):OkT (Ms "\n" (bu a hd b)) (bu a hd b)/\uj (bu a hd b) a:=by
 obtain ⟨h0,h1,h2,h3,h4⟩:=uq hd h
 obtain ⟨rest,e,_⟩:=lL h0 a ha b hb
 exact ⟨x6 h0 h1 h2 h3 ha hb,.inr ⟨hd,rest,e,h4⟩⟩
theorem FI:∀ a,a<4->OkT (Ms "\n" (aE a++([""]:List Str))) (aE a++([""]:List Str))/\nbs (aE a++([""]:List Str)) (aE a++([""]:List Str)).length=[]/\(aE a++([""]:List Str)).length=a+1:=by
 decide +kernel
theorem C4:OkT "" ([""]:List Str)/\nbs ([""]:List Str) 1=[]:=by
 decide +kernel
noncomputable def nJ (n:Nat):Str:=⟨((Nat.toDigits 10 n).map Char.toNat).toArray⟩
noncomputable def bK (kd:Str) (b:Nat):Str:="kind "++kd++" "++nJ b
theorem mW:∀ n,n<65->2<=n->oE (nJ n)=true/\intText? (nJ n)=some (n:Int)/\32∉(nJ n).cps.toList/\10∉(nJ n).cps.toList/\(nJ n).length<=2:=by decide +kernel
theorem pT:∀ kd∈(["number","part","text"]:List Str),qQ kd=true/\32∉kd.cps.toList/\10∉kd.cps.toList/\kd.length<=6:=by decide +kernel
theorem ur (kd:Str) (n:Nat):bK kd n=Lp ⟨#[32]⟩ ["kind",kd,nJ n]:=by
 have e:("kind " : Str) = "kind"++(⟨#[32]⟩:Str):=by decide +kernel
 unfold bK
 rw [e,C2]
 show _ = "kind"++(⟨#[32]⟩:Str)++(kd++⟨#[32]⟩++nJ n)
 rw [Kk,Kk,Kk,Kk,Kk]
theorem qV {kd:Str} (hk:32∉kd.cps.toList) (hn:32∉(nJ n).cps.toList):Jp (bK kd n) " " = (["kind",kd,nJ n]:List Str):=by
 rw [ur,C2]
 refine kL (by simp) λ r hr=>?_
 simp only [Io,JC,or_false] at hr
 rcases hr with rfl | rfl | rfl
 ·decide +kernel
 ·exact hk
 ·exact hn
theorem FJ {a b:Nat} {kd:Str} (ha:a<4) (hb:b<4) (hk:kd∈(["number","part","text"]:List Str)) (hn:n<65) (hn2:2<=n):OkT (Ms "\n" (bu a (bK kd n) b)) (bu a (bK kd n) b)/\uk (bu a (bK kd n) b) kd (n:Int) (fW b):=by
 obtain ⟨k1,k2,k3,k4⟩:=pT kd hk
 obtain ⟨n1,n2,n3,n4,n5⟩:=mW n hn hn2
 have es:=qV k2 n3
 have hl:(bK kd n).length<=20:=by
  unfold bK
  rw [Jm,Jm,Jm]
  have:("kind " : Str).length=5:=by decide +kernel
  have:(" " : Str).length=1:=by decide +kernel
  lia
 have h0:¬ bK kd n = "":=λ z=>by
  have:=congrArg PN z
  unfold bK at this
  rw [Jm,Jm,Jm] at this
  have e5:("kind " : Str).length=5:=by decide +kernel
  have e0:("" : Str).length=0:=by decide +kernel
  lia
 have h1:10∉(bK kd n).cps.toList:=by
  unfold bK
  rw [Kx,Kx,Kx,IJ,IJ,IJ]
  intro z
  rcases IN.mp z with z | z
  ·rcases IN.mp z with z | z
   ·rcases IN.mp z with z | z
    ·exact absurd z (by decide +kernel)
    ·exact k3 z
   ·exact absurd z (by decide +kernel)
  ·exact n4 z
 have hok:okK (Jp (bK kd n) " "):=by
  rw [es]
  refine ⟨by simp,λ w hw=>?_,λ _ _=>?_⟩
  ·simp only [Io,JC,or_false] at hw
   rcases hw with rfl | rfl | rfl
   ·decide +kernel
   ·lia
   ·lia
  ·show (intText? (nJ n)).isSome=true
   rw [n2]; rfl
 obtain ⟨rest,e,eA,hA⟩:=lL h0 a ha b hb
 refine ⟨x6 h0 h1 (by lia) hok ha hb,a,bK kd n,rest,e,?_,hA,eA.symm⟩
 rw [es]
 unfold rdK
 rw [if_pos ⟨rfl,rfl,k1⟩]
 show (match qR (nJ n) with | none=>none | some b=>if b<2\/64<b then none else some (kd,b))=_
 unfold qR
 rw [if_pos n1,n2]
 exact if_neg (by lia)
theorem mX (T:Tx K mg t):FnM P t.wd K mg t.bs 1 t.gS t.gO ["_law_thing"] zq:=by
 refine T.kN.okM oA (λ vs H Q E h=>?_) (λ cdv A outer s H vs Q E e h=>?_)
 ·obtain ⟨i,rfl,_⟩:=h
  rfl
 ·obtain ⟨i,rfl,k⟩:=h
  refine ⟨_,(am (av (Cl (au (xL (K:=K)) (by rfl) T.aN ba (ak (qv 0) (ak (nW rfl T.rp ud (v:=.ty "int") rfl) ac))) (pc (Cm (au (xL (K:=K)) (by rfl) T.aN ba (ak (qv 0) (ak (nW rfl T.qk Ak (v:=.ty "bool") rfl) ac)))))))),?_⟩
  rw [show L2.aI ["_law_thing"] [PY i]=[some (PY i)] from rfl]
  nofun
  exact k
noncomputable def Aw (pt:Addr):Sp:=λ vs H Q _=>∃ (text:Str) (rows:List Str),vs=[.str text]/\OkT text rows/\kf pt H/\
   ∃ kd b as,uk rows kd b as/\∀ (x:Addr) H',SameX pt H H'->kf pt H'->H' x=some (.lst ((as.map mV).map PZ))->Q (.ref x) H'
theorem C5 (T:Tx K mg t):FnOk P t.wd K mg t.bs CX0 8 t.xl t.xk ["text"] (Aw t.pt):=(uo T).calm λ vs H Q E h=>by
 obtain ⟨text,rows,rfl,hok,hT,k⟩:=h
 exact ⟨text,rows,rfl,hok,hT,.inr k⟩
noncomputable def C6 (pt:Addr):Sp:=λ vs H Q _=>∃ (text:Str) (rows:List Str) (j:Nat),vs=[.str text]/\OkT text rows/\kf pt H/\uj rows j/\∀ H',Same H H'->Q (.int (j:Nat)) H'
theorem oI (T:Tx K mg t):FnOk P t.wd K mg t.bs CX0 9 t.uP t.uK ["_law_text"] (C6 t.pt):=by
 refine T.pV.okQ sc_line (λ vs H Q E h=>?_) (λ cdv A outer s H vs Q E hr h=>?_)
 ·obtain ⟨text,rows,j,rfl,_⟩:=h
  rfl
 ·obtain ⟨text,rows,j,rfl,hok,hT,hB,k⟩:=h
  have xc:XCl K t.af:=⟨T.g1,T.g2,T.g3,T.g4,T.g5,T.g6⟩
  refine ⟨_,(ad (ax (i:=1) sc_line.nd rfl (ID rfl) (zr zu al))
   (ad (CH (K:=K) (i:=2) (ou (zN (pB (uo T) (hr.mono (by decide)) rfl T.Dv T.AG.kp T.Dl (ak (qv 0) ac)))) (λ _=>(ad (ax (i:=1) sc_line.nd rfl (ID rfl) (zr zu al))
   (am (cw (QW.qt (sA (iW (au (tR (K:=K)) (by rfl) T.aN ba (ak (qv 2) (ak (pE rfl T.j5) ac)))) (sA (iW (au (tR (K:=K)) (by rfl) T.aN ba (ak (qv 2) (ak (nW rfl T.bY lB (v:=.ty "ValueError") rfl) ac)))) (sw (iV (iW (au (zQ (K:=K)) (by rfl) T.aN ba (ak (qv 2) (ak (di (ak (pE rfl T.o0) (ak (pE rfl T.nH) (ak (pE rfl T.o4) ac)))) ac))))))))) (am (ax (i:=1) sc_line.nd rfl (ID rfl) (pf (iW (wE (mX T) (hr.mono (by decide)) rfl T.rk T.kN.kp T.rc (ak (tZ (K:=K) (qv 2)) ac))) (tZ (K:=K) (qv 2)) (zr zu al)))) aZ)))) sc_line.nd rfl rfl rfl T.iC rfl rfl)
   (am (av (qv 1))))),?_⟩
  rw [show L2.aI ["_law_text","_law_found","e"] [PZ text]=[some (PZ text),none,none] from rfl]
  nofun
  refine ⟨text,rows,rfl,hok,hT,.inl ⟨j,hB,λ dx H1 s1 hd=>⟨_,rfl,T.g7,λ e he=>?_⟩⟩⟩
  try dsimp only [Kr]
  have hne':dx≠e:=ao hd he
  have s2:=s1.new (o:=nI e t.af (some dx)) he
  have te:(upd H1 e (nI e t.af (some dx))) e=some (nI e t.af (some dx)):=aa
  have td:(upd H1 e (nI e t.af (some dx))) dx=some (.xd [("line",.int (j:Nat))]):=by rw [ag hne']; exact hd
  generalize upd H1 e (nI e t.af (some dx))=H2 at s2 te td
  nofun
  refine ⟨_,_,_,true,rfl,rfl,.exc te xc,T.g9,?_⟩
  nofun
  refine ⟨_,_,_,true,rfl,rfl,.exc te xc,T.ga,?_⟩
  nofun
  refine ⟨aG (by simp),λ tp htp=>?_⟩
  have s23:=(P4 H2).new (o:=.tup [P0 t.aV,P0 t.aQ,P0 t.aW]) htp
  have ttp:(upd H2 tp (.tup [P0 t.aV,P0 t.aQ,P0 t.aW])) tp=some (.tup [P0 t.aV,P0 t.aQ,P0 t.aW]):=aa
  generalize upd H2 tp (.tup [P0 t.aV,P0 t.aQ,P0 t.aW])=H3 at s23 ttp
  refine ⟨_,_,tp,_,false,rfl,ttp,rfl,.exc (s23 _ _ te) xc,T.g8,?_⟩
  nofun
  refine ⟨e,t.af,dx,_,.int (j:Nat),rfl,s23 _ _ te,s23 _ _ td,xc,T.cr.no,T.gb,i5,?_⟩
  nofun
  refine ⟨_,rfl,?_⟩
  nofun
  refine ⟨e,t.af,dx,_,.int (j:Nat),rfl,s23 _ _ te,s23 _ _ td,xc,T.cr.no,T.gb,i5,?_⟩
  nofun
  exact k _ (s2.trans s23)
noncomputable def C7:Sp:=λ vs H Q _=>vs=[]/\∀ (a:Addr) H',Same H H'->H' a=some (.lst (bads.map PZ))->Q (.ref a) H'
theorem mY (T:Tx K mg t):FnOk P t.wd K mg t.bs CX0 1 t.fx t.fm [] C7:=by
 refine T.js.okQ sc_bad_first (λ vs H Q E h=>?_) (λ cdv A outer s H vs Q E hr h=>?_)
 ·obtain ⟨rfl,_⟩:=h
  rfl
 ·obtain ⟨rfl,k⟩:=h
  refine ⟨_,(ad (ax (i:=0) sc_bad_first.nd rfl (ID rfl) (aT (ak ai (ak ai (ak ai (ak ai (ak ai (ak ai ac))))))))
   (ad (ax (i:=0) sc_bad_first.nd rfl (ID rfl) (aJ iX (qv 0) (aT (ak ai (ak ai (ak ai (ak ai (ak ai ac))))))))
   (ad (ax (i:=0) sc_bad_first.nd rfl (ID rfl) (aJ iX (qv 0) (aT (ak ai (ak ai (ak ai (ak ai (ak ai ac))))))))
   (ad (ax (i:=0) sc_bad_first.nd rfl (ID rfl) (aJ iX (qv 0) (aT (ak ai (ak ai (ak ai (ak ai (ak ai ac))))))))
   (ad (ax (i:=0) sc_bad_first.nd rfl (ID rfl) (aJ iX (qv 0) (aT (ak ai (ak ai (ak ai (ak ai (ak ai (ak ai ac)))))))))
   (ad (ax (i:=0) sc_bad_first.nd rfl (ID rfl) (aJ iX (qv 0) (aT (ak ai (ak ai (ak ai (ak ai (ak ai (ak ai (ak ai (ak ai (ak ai (ak ai (ak ai (ak ai ac)))))))))))))))
   (am (av (aJ iX (qv 0) (aT (ak ai (ak ai (ak ai (ak ai ac)))))))))))))),?_⟩
  rw [show L2.aI ["_law_some"] []=[none] from rfl]
  nofun
  refine ⟨aG (by simp),λ p0 hp0=>?_⟩
  have s0:=(P4 H).new (o:=.lst (bad0.map PZ)) hp0
  have t0:(upd H p0 (.lst (bad0.map PZ))) p0=some (.lst (bad0.map PZ)):=aa
  change eY 0 (P0 p0) [none] (upd H p0 (.lst (bad0.map PZ))) _
  generalize upd H p0 (.lst (bad0.map PZ))=G0 at s0 t0
  nofun
  refine ⟨aG (by simp),λ q1 hq1=>?_⟩
  change xG _ _ (upd G0 q1 (.lst (bad1.map PZ))) _
  have sq1:=(P4 G0).new (o:=.lst (bad1.map PZ)) hq1
  have tq1:(upd G0 q1 (.lst (bad1.map PZ))) q1=some (.lst (bad1.map PZ)):=aa
  refine ⟨p0,q1,bad0.map PZ,bad1.map PZ,rfl,rfl,sq1 _ _ t0,tq1,aG (by decide),λ p1 hp1=>?_⟩
  rw [<-IL]
  have s1:=s0.trans (sq1.new (o:=.lst ((bad0++bad1).map PZ)) hp1)
  have t1:(upd (upd G0 q1 (.lst (bad1.map PZ))) p1 (.lst ((bad0++bad1).map PZ))) p1=some (.lst ((bad0++bad1).map PZ)):=aa
  generalize upd (upd G0 q1 (.lst (bad1.map PZ))) p1 (.lst ((bad0++bad1).map PZ))=G1 at s1 t1
  nofun
  refine ⟨aG (by simp),λ q2 hq2=>?_⟩
  change xG _ _ (upd G1 q2 (.lst (bad2.map PZ))) _
  have sq2:=(P4 G1).new (o:=.lst (bad2.map PZ)) hq2
  have tq2:(upd G1 q2 (.lst (bad2.map PZ))) q2=some (.lst (bad2.map PZ)):=aa
  refine ⟨p1,q2,(bad0++bad1).map PZ,bad2.map PZ,rfl,rfl,sq2 _ _ t1,tq2,aG (by decide),λ p2 hp2=>?_⟩
  rw [<-IL]
  have s2:=s1.trans (sq2.new (o:=.lst (((bad0++bad1)++bad2).map PZ)) hp2)
  have t2:(upd (upd G1 q2 (.lst (bad2.map PZ))) p2 (.lst (((bad0++bad1)++bad2).map PZ))) p2=some (.lst (((bad0++bad1)++bad2).map PZ)):=aa
  generalize upd (upd G1 q2 (.lst (bad2.map PZ))) p2 (.lst (((bad0++bad1)++bad2).map PZ))=G2 at s2 t2
  nofun
  refine ⟨aG (by simp),λ q3 hq3=>?_⟩
  change xG _ _ (upd G2 q3 (.lst (bad3.map PZ))) _
  have sq3:=(P4 G2).new (o:=.lst (bad3.map PZ)) hq3
  have tq3:(upd G2 q3 (.lst (bad3.map PZ))) q3=some (.lst (bad3.map PZ)):=aa
  refine ⟨p2,q3,((bad0++bad1)++bad2).map PZ,bad3.map PZ,rfl,rfl,sq3 _ _ t2,tq3,aG (by decide),λ p3 hp3=>?_⟩
  rw [<-IL]
  have s3:=s2.trans (sq3.new (o:=.lst ((((bad0++bad1)++bad2)++bad3).map PZ)) hp3)
  have t3:(upd (upd G2 q3 (.lst (bad3.map PZ))) p3 (.lst ((((bad0++bad1)++bad2)++bad3).map PZ))) p3=some (.lst ((((bad0++bad1)++bad2)++bad3).map PZ)):=aa
  generalize upd (upd G2 q3 (.lst (bad3.map PZ))) p3 (.lst ((((bad0++bad1)++bad2)++bad3).map PZ))=G3 at s3 t3
  nofun
  refine ⟨aG (by simp),λ q4 hq4=>?_⟩
  change xG _ _ (upd G3 q4 (.lst (bad4.map PZ))) _
  have sq4:=(P4 G3).new (o:=.lst (bad4.map PZ)) hq4
  have tq4:(upd G3 q4 (.lst (bad4.map PZ))) q4=some (.lst (bad4.map PZ)):=aa
  refine ⟨p3,q4,(((bad0++bad1)++bad2)++bad3).map PZ,bad4.map PZ,rfl,rfl,sq4 _ _ t3,tq4,aG (by decide),λ p4 hp4=>?_⟩
  rw [<-IL]
  have s4:=s3.trans (sq4.new (o:=.lst (((((bad0++bad1)++bad2)++bad3)++bad4).map PZ)) hp4)
  have t4:(upd (upd G3 q4 (.lst (bad4.map PZ))) p4 (.lst (((((bad0++bad1)++bad2)++bad3)++bad4).map PZ))) p4=some (.lst (((((bad0++bad1)++bad2)++bad3)++bad4).map PZ)):=aa
  generalize upd (upd G3 q4 (.lst (bad4.map PZ))) p4 (.lst (((((bad0++bad1)++bad2)++bad3)++bad4).map PZ))=G4 at s4 t4
  nofun
  refine ⟨aG (by simp),λ q5 hq5=>?_⟩
  change xG _ _ (upd G4 q5 (.lst (bad5.map PZ))) _
  have sq5:=(P4 G4).new (o:=.lst (bad5.map PZ)) hq5
  have tq5:(upd G4 q5 (.lst (bad5.map PZ))) q5=some (.lst (bad5.map PZ)):=aa
  refine ⟨p4,q5,((((bad0++bad1)++bad2)++bad3)++bad4).map PZ,bad5.map PZ,rfl,rfl,sq5 _ _ t4,tq5,aG (by decide),λ p5 hp5=>?_⟩
  rw [<-IL]
  have s5:=s4.trans (sq5.new (o:=.lst ((((((bad0++bad1)++bad2)++bad3)++bad4)++bad5).map PZ)) hp5)
  have t5:(upd (upd G4 q5 (.lst (bad5.map PZ))) p5 (.lst ((((((bad0++bad1)++bad2)++bad3)++bad4)++bad5).map PZ))) p5=some (.lst ((((((bad0++bad1)++bad2)++bad3)++bad4)++bad5).map PZ)):=aa
  generalize upd (upd G4 q5 (.lst (bad5.map PZ))) p5 (.lst ((((((bad0++bad1)++bad2)++bad3)++bad4)++bad5).map PZ))=G5 at s5 t5
  nofun
  refine ⟨aG (by simp),λ q6 hq6=>?_⟩
  change xG _ _ (upd G5 q6 (.lst (bad6.map PZ))) _
  have sq6:=(P4 G5).new (o:=.lst (bad6.map PZ)) hq6
  have tq6:(upd G5 q6 (.lst (bad6.map PZ))) q6=some (.lst (bad6.map PZ)):=aa
  refine ⟨p5,q6,(((((bad0++bad1)++bad2)++bad3)++bad4)++bad5).map PZ,bad6.map PZ,rfl,rfl,sq6 _ _ t5,tq6,aG (by decide),λ p6 hp6=>?_⟩
  rw [<-IL]
  have s6:=s5.trans (sq6.new (o:=.lst (((((((bad0++bad1)++bad2)++bad3)++bad4)++bad5)++bad6).map PZ)) hp6)
  have t6:(upd (upd G5 q6 (.lst (bad6.map PZ))) p6 (.lst (((((((bad0++bad1)++bad2)++bad3)++bad4)++bad5)++bad6).map PZ))) p6=some (.lst (((((((bad0++bad1)++bad2)++bad3)++bad4)++bad5)++bad6).map PZ)):=aa
  exact k _ _ s6 t6
theorem C8 {pt:Addr} {K:Ih} {H:Hp} (T:kf pt H) (e:SameX pt H H') (h:SqL K H a xs):SqL K H' a xs:=by
 rcases h with (h | ⟨o,h⟩) | h
 ·exact .inl (.inl (e _ _ (T.ne h) h))
 ·refine .inl (.inr ⟨o,e _ _ (λ z=>?_) h⟩)
  subst z
  rcases T with z | ⟨c,z,_⟩<;>rw [h] at z<;>cases z
 ·exact .inr h
structure Lb (pt p:Addr) (H1 Hc:Hp) (so:Addr):Prop where
 kp:∀ q o,H1 q=some o->q≠p->q≠pt->Hc q=some o
 tp:Tape Hc p
 sb:Hc so=some (.lst (bads.map PZ))
 ns:so≠p
 tb:kf pt Hc
theorem Lb.same {pt p so:Addr} {H1 Hc Hd:Hp} (h:Lb pt p H1 Hc so) (s:Same Hc Hd):Lb pt p H1 Hd so:=
 ⟨λ q o a b c=>s _ _ (h.kp q o a b c),by obtain ⟨x,y,z,u,v⟩:=h.tp; exact ⟨x,y,z,s _ _ u,v⟩,s _ _ h.sb,h.ns,h.tb.same s⟩
theorem Lb.stp {pt p so:Addr} {Hc Hd:Hp} (h:Lb pt p H1 Hc so) (s:Stp p Hc Hd):Lb pt p H1 Hd so:=by
 obtain ⟨x,y,z,u,v⟩:=h.tp
 refine ⟨λ q o a b c=>s.keep _ _ (h.kp q o a b c) b,s.tape,s.keep _ _ h.sb h.ns,h.ns,?_⟩
 rcases h.tb with q | ⟨c,q,r⟩
 ·exact .inl (s.keep _ _ q (lT q u (by intro c; cases c)))
 ·exact .inr ⟨c,s.keep _ _ q (lT q u (by intro c; cases c)),s.keep _ _ r (lT r u (by intro c; cases c))⟩
theorem Lb.sx {pt p so:Addr} {Hc Hd:Hp} (h:Lb pt p H1 Hc so) (s:SameX pt Hc Hd) (T:kf pt Hd):Lb pt p H1 Hd so:=by
 obtain ⟨x,y,z,u,v⟩:=h.tp
 exact ⟨λ q o a b c=>s _ _ c (h.kp q o a b c),⟨x,y,z,s _ _ (h.tb.ne u) u,v⟩,s _ _ (h.tb.ne h.sb) h.sb,h.ns,T⟩
theorem pU:∀ {rs:List Str},(∀ r∈rs,r.length<=600)->(rs.map (·.length)).sum<=600*rs.length
 | [],_=>by simp
 | x::rs,h=>by
  have h1:=h x (Jg ..)
  have h2:=pU λ r z=>h r (IG _ z)
  simp only [Jy,OF,IU]
  lia
theorem jq {t:Str} {rows:List Str} (h:OkT t rows):(rows.map (·.length)).sum+rows.length*("\n" : Str).length<=16777216:=by
 have e:("\n" : Str).length=1:=by decide +kernel
 have h1:=pU h.2.2.2.1
 have h2:=h.2.2.1
 rw [e]; lia
theorem ut (k:Nat):(Jh k [PZ ""]).flatten=(aE k).map PZ:=by
 unfold aE
 rw [List.flatten_replicate_singleton,List.map_replicate]
theorem qW (b:Nat):rz [PZ "",PZ "order",PZ "puts"] none (some ((b:Nat):Int))=(aU b).map PZ:=by
 unfold rz aU
 rw [HT.o8,HT.sf,K9,O7,M4]
 show ([PZ "",PZ "order",PZ "puts"]:List V).take (min b 3)=([PZ "",PZ "order",PZ "puts"]:List V).take b
 rcases O8 b 3 with h | h
 ·rw [Os h]
 ·rw [N9 h]; exact (Jb (l:=[PZ "",PZ "order",PZ "puts"]) (i:=b) h).symm
theorem Ax (m:Nat):rz [PZ "-",PZ "0"] none (some ((m:Nat):Int))=((["-","0"]:List Str).take m).map PZ:=by
 unfold rz
 rw [HT.o8,HT.sf,K9,O7,M4]
 show ([PZ "-",PZ "0"]:List V).take (min m 2)=([PZ "-",PZ "0"]:List V).take m
 rcases O8 m 2 with h | h
 ·rw [Os h]
 ·rw [N9 h]; exact (Jb (l:=[PZ "-",PZ "0"]) (i:=m) h).symm
theorem Ay:∀ b,b<4->(fW b).map mV=(["-","0"]:List Str).take (fW b).length/\∀ w∈(fW b).map mV,Mq w=true:=by decide +kernel
theorem mZ {H:Hp} {ws:List Str} (h:H a=some (.lst (ws.map PZ))) (hs:∀ w∈ws,Mq w=true):DatE 1 H (.ref a) (.list (ws.map PyData.str)):=by
 refine DatE.lst h (by rw [Ir,Ir]) λ i u e x y=>?_
 obtain ⟨w,rfl,ew,hw,_⟩:=lu x
 rw [Ji,ew] at y
 cases y
 exact DatE.str (hs w hw)
theorem wR:Ko (toString ((n:Nat):Int))=nJ n:=O9 n
noncomputable def wS (K:Ih) (pt:Addr):Sp:=λ vs H Q _=>∃ (a:Addr) (ns:List Int),vs=[.ref a]/\SqL K H a (ns.map PY)/\ns.length<=63/\kf pt H/\∀ H',Q (.bl true) H'
theorem C9 (T:Tx K mg t):FnOk P t.wd K mg t.bs CX0 10 t.AU t.AT ["_law_script"] (wS K t.pt):=by
 refine T.FK.okQ sc_law (λ vs H Q E h=>?_) (λ cdv A outer s H vs Q E hr h=>?_)
 ·obtain ⟨a,ns,rfl,_⟩:=h
  rfl
 ·obtain ⟨a,ns,rfl,hS,hlen,hT,k⟩:=h
  refine ⟨_,(ad (ax (i:=1) sc_law.nd rfl (ID rfl) (wa (mY T) (hr.mono (by decide)) rfl T.oU T.js.kp T.oJ aR ))
   (ad (mj KI rfl (sI rfl T.gW (ak (aJ lq al (au (Co rfl) (by rfl) T.va xV (ak al (ak (au (cy (K:=K)) (by rfl) T.cZ bz (ak (qv 0) ac)) ac)))) ac)) (ay (i:=2) sc_law.nd rfl (ID rfl)) (ad (ax (i:=3) sc_law.nd rfl (ID rfl) (aq (Al T) (hr.mono (by decide)) rfl T.Dw T.yd.kp T.Dm aR (ak (qv 0) (ak (qv 2) ac))))
   (ad (ax (i:=4) sc_law.nd rfl (ID rfl) (bf (cx (K:=K)) (aT (ak ai (ak ai (ak ai ac)))) (aq (gL T) (hr.mono (by decide)) rfl T.k9 T.jt.kp T.kQ aR (ak (qv 3) (ak al ac)))))
   (ad (ax (i:=5) sc_law.nd rfl (ID rfl) (aJ Fc (aT (ak ai ac)) (aq (gL T) (hr.mono (by decide)) rfl T.k9 T.jt.kp T.kQ aR (ak (qv 3) (ak al ac)))))
   (ad (ax (i:=6) sc_law.nd rfl (ID rfl) (lp (zv (K:=K)) (aT (ak ai (ak ai (ak ai ac)))) nY (nZ (aq (gL T) (hr.mono (by decide)) rfl T.k9 T.jt.kp T.kQ aR (ak (qv 3) (ak al ac))))))
   (ad (ax (i:=7) sc_law.nd rfl (ID rfl) (bf (cx (K:=K)) (qv 1) (aq (gL T) (hr.mono (by decide)) rfl T.k9 T.jt.kp T.kQ aR (ak (qv 3) (ak (au (cy (K:=K)) (by rfl) T.cZ bz (ak (qv 1) ac)) ac)))))
   (ad (cw (aC zt (aq (oI T) (hr.mono (by decide)) rfl T.uZ T.pV.kp T.uE aR (ak (lA (K:=K) ai (ak (aJ iX (aJ iX (qv 5) (aT (ak (qv 7) ac))) (qv 6)) ac)) ac)) (au (cy (K:=K)) (by rfl) T.cZ bz (ak (qv 5) ac)) (aL _)) (am (av vZ)) aZ)
   (ad (cw (aC zt (aq (oI T) (hr.mono (by decide)) rfl T.uZ T.pV.kp T.uE aR (ak (lA (K:=K) ai (ak (aJ iX (qv 5) (aT (ak ai ac))) ac)) ac)) (aJ lq (au (cy (K:=K)) (by rfl) T.cZ bz (ak (qv 5) ac)) al) (aL _)) (am (av vZ)) aZ)
   (ad (ax (i:=8) sc_law.nd rfl (ID rfl) (bf (cx (K:=K)) (aT (ak al (ak al (ak (aJ lq al (aq (gL T) (hr.mono (by decide)) rfl T.k9 T.jt.kp T.kQ aR (ak (qv 3) (ak al ac)))) ac)))) (aq (gL T) (hr.mono (by decide)) rfl T.k9 T.jt.kp T.kQ aR (ak (qv 3) (ak al ac)))))
   (ad (ax (i:=9) sc_law.nd rfl (ID rfl) (aq (C5 T) (hr.mono (by decide)) rfl T.Dv T.AG.kp T.Dl aR (ak (lA (K:=K) ai (ak (aJ iX (aJ iX (qv 5) (aT (ak (aJ i4 (aJ i4 (aJ i4 ai (qv 4)) ai) (bF ow (by rfl) T.rq ue (ak (qv 8) ac))) ac))) (qv 6)) ac)) ac)))
   (am (cw (aC (Fv hr.units) (qv 9) (lp (zv (K:=K)) (aT (ak ai (ak ai ac))) nY (nZ (au (cy (K:=K)) (by rfl) T.cZ bz (ak (wj (N:=["_law_row"]) (tgs:=["_law_row"]) (frs:=[]) (ix:=[]) ⟨rfl,by decide +kernel,rfl,by decide +kernel,rfl,rfl,IS,IS,rfl⟩ rfl (bG (K:=K) (qv 6)) (λ _ _ _ _=>(ay (i:=0) (by show Kj (["_law_row"]:List Str); decide +kernel) rfl (ID rfl))) (λ _ _ _ _=>(qv 0)) (λ _ _ _ _=>(aC zt (qv 0) ai (aL _)))) ac)))) (aL _)) (am (av vZ)) aZ))))))))))))
   (am (av (gB ve (aq (oI T) (hr.mono (by decide)) rfl T.uZ T.pV.kp T.uE aR (ak ai ac)) al (aL _)))))),?_⟩
  rw [show L2.aI ["_law_script","_law_some","_law_k","_law_tape_here","_law_kind","_law_ahead","_law_behind","_law_bad","_law_base","_law_answers"] [P0 a]=[some (P0 a),none,none,none,none,none,none,none,none,none] from rfl]
  nofun
  refine ⟨rfl,λ so H0 s0 tso=>?_⟩
  have hT0:=hT.same s0
  nofun
  refine bx (s0.seq hS) ?_
  nofun
  have hml:(Mp PY ns).length=ns.length:=Ir ..
  refine ⟨_,rfl,by (repeat' split)<;>lia,by (repeat' split)<;>lia,rS (λ i σ H'=>SameX t.pt H H'/\kf t.pt H'/\H' so=some (.lst (bads.map PZ))/\∃ v1 v2 v3 v4 v5 v6 v7 v8,σ=[some (P0 a),some (P0 so),v1,v2,v3,v4,v5,v6,v7,v8]) ⟨s0.x,hT0,tso,_,_,_,_,_,_,_,_,rfl⟩ ?_ ?_⟩
  ·rintro i σ H' hi ⟨sm,T0,tso',v1,v2,v3,v4,v5,v6,v7,v8,rfl⟩
   nofun
   refine ⟨a,ns,_,rfl,C8 hT sm hS,by lia,λ p H1 hp0 same T1=>?_⟩
   have L1:Lb t.pt p H1 H1 so:=⟨λ q o h _ _=>h,T1,same _ _ tso',ao tso' hp0,T0.same same⟩
   have fin:∀ {Hc:Hp},Lb t.pt p H1 Hc so->SameX t.pt H Hc:=λ {Hc} L c o n e=>L.kp _ _ (same _ _ (sm c o n e)) (λ z=>by rw [z] at e; have:=sm _ _ (by rw [<-z]; exact n) e; rw [hp0] at this; cases this) n
   nofun
   refine ⟨aG (by simp),λ q1 hq1=>?_⟩
   have n1:=L1.tp
   have L2':=L1.same ((P4 H1).new (o:=.lst [PZ "number",PZ "part",PZ "text"]) hq1)
   have tq1:(upd H1 q1 (.lst [PZ "number",PZ "part",PZ "text"])) q1=some (.lst [PZ "number",PZ "part",PZ "text"]):=aa
   have nq1:q1≠p:=T1.ne hq1
   generalize upd H1 q1 (.lst [PZ "number",PZ "part",PZ "text"])=H2 at L2' tq1
   nofun
   refine ⟨p,3,rfl,L2'.tp,by decide,by decide,λ r1 H3 r1a r1b S3=>?_⟩
   have L3:=L2'.stp S3
   obtain ⟨v,ev,hv⟩:=nV (xs:=[PZ "number",PZ "part",PZ "text"]) r1a (by simpa using r1b)
   refine lm (PX (S3.keep _ _ tq1 nq1)) ev ?_
   obtain ⟨kd,rfl,hkd⟩:∃ kd:Str,v=PZ kd/\kd∈(["number","part","text"]:List Str):=by
    simp only [Io,JC,or_false] at hv
    rcases hv with rfl | rfl | rfl
    ·exact ⟨_,rfl,by simp⟩
    ·exact ⟨_,rfl,by simp⟩
    ·exact ⟨_,rfl,by simp⟩
   nofun
   refine ⟨aG (by simp),λ q2 hq2=>?_⟩
   have L4:=L3.same ((P4 H3).new (o:=.lst [PZ ""]) hq2)
   have tq2:(upd H3 q2 (.lst [PZ ""])) q2=some (.lst [PZ ""]):=aa
   have nq2:q2≠p:=L3.tp.ne hq2
   generalize upd H3 q2 (.lst [PZ ""])=H4 at L4 tq2
   nofun
   refine ⟨p,4,rfl,L4.tp,by decide,by decide,λ r2 H5 r2a r2b S5=>?_⟩
   have L5:=L4.stp S5
   obtain ⟨na,rfl⟩:=MA r2a
   have hna:na<4:=by lia
   nofun
   refine ⟨q2,_,_,rfl,rfl,S5.keep _ _ tq2 nq2,by lia,by lia,aG (by simp; lia),λ ah hah=>?_⟩
   rw [NI,ut]
   have L6:=L5.same ((P4 H5).new (o:=.lst ((aE na).map PZ)) hah)
   have tah:(upd H5 ah (.lst ((aE na).map PZ))) ah=some (.lst ((aE na).map PZ)):=aa
   have nah:ah≠p:=L5.tp.ne hah
   generalize upd H5 ah (.lst ((aE na).map PZ))=H6 at L6 tah
   nofun
   refine ⟨aG (by simp),λ q3 hq3=>?_⟩
   have s7:=(P4 H6).new (o:=.lst [PZ "",PZ "order",PZ "puts"]) hq3
   have L7:=L6.same s7
   have tq3:(upd H6 q3 (.lst [PZ "",PZ "order",PZ "puts"])) q3=some (.lst [PZ "",PZ "order",PZ "puts"]):=aa
   have tah7:=s7 _ _ tah
   have nq3:q3≠p:=L6.tp.ne hq3
   generalize upd H6 q3 (.lst [PZ "",PZ "order",PZ "puts"])=H7 at L7 tq3 tah7
   nofun
   refine ⟨p,4,rfl,L7.tp,by decide,by decide,λ r3 H8 r3a r3b S8=>?_⟩
   have L8:=L7.stp S8
   have tah8:=S8.keep _ _ tah7 nah
   obtain ⟨nb,rfl⟩:=MA r3a
   have hnb:nb<4:=by lia
   nofun
   refine ⟨_,rfl,?_⟩
   refine oB (S8.keep _ _ tq3 nq3) λ bh H9 s9 tbh=>?_
   rw [qW] at tbh
   have L9:=L8.same s9
   have tah9:=s9 _ _ tah8
   have nbh:bh≠p:=λ z=>by
    obtain ⟨x,y,w,u,_⟩:=L9.tp
    rw [<-z,tbh] at u
    have:=HO.lst.inj (IR u)
    generalize aU nb=bs at this
    cases bs with
    | nil=>cases this
    | cons b0 bs=>cases this
   have lah:((aE na).map PZ).length=na:=by rw [Ir]; exact KO
   nofun
   refine bx (PX L9.sb) ?_
   nofun
   have hbl:(Mp PZ bads).length=43:=by rw [Ir]; rfl
   rw [hbl]
   refine ⟨p,_,rfl,L9.tp,by decide,by decide,λ r4 HA r4a r4b SA=>?_⟩
   have LA:=L9.stp SA
   have tahA:=SA.keep _ _ tah9 nah
   have tbhA:=SA.keep _ _ tbh nbh
   obtain ⟨v',ev',hv'⟩:=nV (xs:=bads.map PZ) r4a (by rw [hbl]; exact r4b)
   refine lm (PX LA.sb) ev' ?_
   obtain ⟨bad,hbad,rfl⟩:=LD.mp hv'
   obtain ⟨f1,f2⟩:=FH hna hnb hbad
   nofun
   refine ⟨rfl,?_⟩
   nofun
   refine ⟨aG (by simp),λ q4 hq4=>?_⟩
   have sB:=(P4 HA).new (o:=.lst [PZ bad]) hq4
   have tq4:(upd HA q4 (.lst [PZ bad])) q4=some (.lst ([bad].map PZ)):=aa
   generalize upd HA q4 (.lst [PZ bad])=HB at sB tq4
   refine ⟨ah,q4,_,_,rfl,rfl,sB _ _ tahA,tq4,aG (by rw [lah]; simp; lia),λ q5 hq5=>?_⟩
   rw [<-IL]
   have sC:=sB.new (o:=.lst ((aE na++[bad]).map PZ)) hq5
   have tq5:(upd HB q5 (.lst ((aE na++[bad]).map PZ))) q5=some (.lst ((aE na++[bad]).map PZ)):=aa
   generalize upd HB q5 (.lst ((aE na++[bad]).map PZ))=HC at sC tq5
   nofun
   have lbh:((aU nb).map PZ).length<=3:=by rw [Ir]; unfold aU; rw [Jl]; exact Nat.min_le_right _ _
   refine ⟨q5,bh,_,_,rfl,rfl,tq5,sC _ _ tbhA,aG (by rw [IL,IM,lah]; simp only [Jy,Mn,IU,JY]; lia),λ q6 hq6=>?_⟩
   rw [<-IL]
   have sD:=sC.new (o:=.lst ((aE na++[bad]++aU nb).map PZ)) hq6
   have tq6:(upd HC q6 (.lst ((aE na++[bad]++aU nb).map PZ))) q6=some (.lst ((bu na bad nb).map PZ)):=aa
   generalize upd HC q6 (.lst ((aE na++[bad]++aU nb).map PZ))=HD at sD tq6
   nofun
   refine ⟨_,q6,_,rfl,rfl,PX tq6,jq f1,?_⟩
   nofun
   refine ⟨_,_,na,rfl,f1,LA.tb.same sD,f2,λ HE sE=>?_⟩
   have sAE:=sD.trans sE
   nofun
   refine bx (PX (sAE _ _ tahA)) ?_
   rw [lah]
   nofun
   rw [decide_eq_true rfl]
   nofun
   have LE:=LA.same sAE
   have tahE:=sAE _ _ tahA
   have tbhE:=sAE _ _ tbhA
   obtain ⟨g1,g2,g3⟩:=FI na hna
   refine ⟨rfl,?_⟩
   nofun
   refine ⟨aG (by simp),λ q7 hq7=>?_⟩
   have sF:=(P4 HE).new (o:=.lst [PZ ""]) hq7
   have tq7:(upd HE q7 (.lst [PZ ""])) q7=some (.lst (([""]:List Str).map PZ)):=aa
   generalize upd HE q7 (.lst [PZ ""])=HF at sF tq7
   refine ⟨ah,q7,_,_,rfl,rfl,sF _ _ tahE,tq7,aG (by rw [lah]; simp; lia),λ q8 hq8=>?_⟩
   rw [<-IL]
   have sG:=sF.new (o:=.lst ((aE na++([""]:List Str)).map PZ)) hq8
   have tq8:(upd HF q8 (.lst ((aE na++([""]:List Str)).map PZ))) q8=some (.lst ((aE na++([""]:List Str)).map PZ)):=aa
   generalize upd HF q8 (.lst ((aE na++([""]:List Str)).map PZ))=HG at sG tq8
   nofun
   refine ⟨_,q8,_,rfl,rfl,PX tq8,jq g1,?_⟩
   nofun
   refine ⟨_,_,na+1,rfl,g1,LE.tb.same sG,.inl ⟨g2,g3.symm⟩,λ HH sH=>?_⟩
   have sEH:=sG.trans sH
   nofun
   refine bx (PX (sEH _ _ tahE)) ?_
   rw [lah]
   nofun
   rw [decide_eq_true (show PY ((na+1:Nat):Int)=PY ((na:Int)+1) from rfl)]
   nofun
   have LH:=LE.same sEH
   have tahH:=sEH _ _ tahE
   have tbhH:=sEH _ _ tbhE
   refine ⟨p,63,rfl,LH.tp,by decide,by decide,λ r5 HI r5a r5b SI=>?_⟩
   have LI:=LH.stp SI
   nofun
   refine ⟨aG (by simp),λ q9 hq9=>?_⟩
   have LJ:=LI.same ((P4 HI).new (o:=.lst [PY 2,PY 64,PY (2+r5)]) hq9)
   have sJ:=(P4 HI).new (o:=.lst [PY 2,PY 64,PY (2+r5)]) hq9
   have tq9:(upd HI q9 (.lst [PY 2,PY 64,PY (2+r5)])) q9=some (.lst [PY 2,PY 64,PY (2+r5)]):=aa
   have nq9:q9≠p:=LI.tp.ne hq9
   have tahJ:=sJ _ _ (SI.keep _ _ tahH nah)
   have tbhJ:=sJ _ _ (SI.keep _ _ tbhH nbh)
   generalize upd HI q9 (.lst [PY 2,PY 64,PY (2+r5)])=HJ at LJ tq9 tahJ tbhJ
   nofun
   refine ⟨p,3,rfl,LJ.tp,by decide,by decide,λ r6 HK r6a r6b SK=>?_⟩
   have LK:=LJ.stp SK
   have tahK:=SK.keep _ _ tahJ nah
   have tbhK:=SK.keep _ _ tbhJ nbh
   obtain ⟨v'',ev'',hv''⟩:=nV (xs:=[PY 2,PY 64,PY (2+r5)]) r6a (by simpa using r6b)
   refine lm (PX (SK.keep _ _ tq9 nq9)) ev'' ?_
   obtain ⟨n,rfl,hn1,hn2⟩:∃ n:Nat,v''=PY (n:Nat)/\2<=n/\n<65:=by
    simp only [Io,JC,or_false] at hv''
    rcases hv'' with rfl | rfl | rfl
    ·exact ⟨2,rfl,by decide,by decide⟩
    ·exact ⟨64,rfl,by decide,by decide⟩
    ·exact ⟨(2+r5).toNat,by rw [Int.toNat_of_nonneg (by lia)],by lia,by lia⟩
   obtain ⟨y1,y2⟩:=FJ (a:=na) (b:=nb) (n:=n) (kd:=kd) hna hnb hkd hn2 hn1
   obtain ⟨_,_,_,hkl⟩:=pT kd hkd
   obtain ⟨_,_,_,_,hnl⟩:=mW n hn2 hn1
   have e5:("kind " : Str).length=5:=by decide +kernel
   have e6:(" " : Str).length=1:=by decide +kernel
   nofun
   refine ⟨rfl,?_⟩
   nofun
   refine ⟨_,_,rfl,rfl,by rw [sizeLine_eq]; lia,?_⟩
   nofun
   refine ⟨_,_,rfl,rfl,by rw [sizeLine_eq,Jm]; lia,?_⟩
   nofun
   refine ⟨_,rfl,mQ (by lia),?_⟩
   rw [wR]
   refine ⟨_,_,rfl,rfl,by rw [sizeLine_eq,Jm,Jm]; lia,?_⟩
   nofun
   refine ⟨aG (by simp),λ qa hqa=>?_⟩
   have sL:=(P4 HK).new (o:=.lst [PZ ("kind "++kd++" "++nJ n)]) hqa
   have tqa:(upd HK qa (.lst [PZ ("kind "++kd++" "++nJ n)])) qa=some (.lst ([bK kd n].map PZ)):=aa
   generalize upd HK qa (.lst [PZ ("kind "++kd++" "++nJ n)])=HL at sL tqa
   refine ⟨ah,qa,_,_,rfl,rfl,sL _ _ tahK,tqa,aG (by rw [lah]; simp; lia),λ qb hqb=>?_⟩
   rw [<-IL]
   have sM:=sL.new (o:=.lst ((aE na++[bK kd n]).map PZ)) hqb
   have tqb:(upd HL qb (.lst ((aE na++[bK kd n]).map PZ))) qb=some (.lst ((aE na++[bK kd n]).map PZ)):=aa
   generalize upd HL qb (.lst ((aE na++[bK kd n]).map PZ))=HM at sM tqb
   nofun
   refine ⟨qb,bh,_,_,rfl,rfl,tqb,sM _ _ tbhK,aG (by rw [IL,IM,lah]; simp only [Jy,Mn,IU,JY]; lia),λ qc hqc=>?_⟩
   rw [<-IL]
   have sN:=sM.new (o:=.lst ((aE na++[bK kd n]++aU nb).map PZ)) hqc
   have tqc:(upd HM qc (.lst ((aE na++[bK kd n]++aU nb).map PZ))) qc=some (.lst ((bu na (bK kd n) nb).map PZ)):=aa
   generalize upd HM qc (.lst ((aE na++[bK kd n]++aU nb).map PZ))=HN at sN tqc
   have LN:=LK.same sN
   nofun
   refine ⟨_,qc,_,rfl,rfl,PX tqc,jq y1,?_⟩
   nofun
   refine ⟨_,_,rfl,y1,LN.tb,kd,n,_,y2,λ an HO' sO TO tan=>?_⟩
   have LO:=LN.sx sO TO
   have tbhO:=sO _ _ (LN.tb.ne (sN _ _ tbhK)) (sN _ _ tbhK)
   obtain ⟨d1,d2⟩:=Ay nb hnb
   nofun
   refine ⟨aG (by simp),λ qd hqd=>?_⟩
   have sP:=(P4 HO').new (o:=.lst [PZ "-",PZ "0"]) hqd
   have tqd:(upd HO' qd (.lst [PZ "-",PZ "0"])) qd=some (.lst [PZ "-",PZ "0"]):=aa
   generalize upd HO' qd (.lst [PZ "-",PZ "0"])=HP at sP tqd
   have tbhP:=sP _ _ tbhO
   nofun
   refine ⟨bh,rfl,⟨_,PX tbhP⟩,sW (a:=bh) (vs:=(aU nb).map PZ) (λ i ys σ H'=>HP=H'/\ys=(((aU nb).take i).filter λ w:Str=>decide (¬ w = "")).map PZ/\∃ v,σ=[v]) (by rw [Ir]; exact cu (by rw [Ir] at lbh; lia)) (λ i ys σ H' h=>by obtain ⟨_,rfl,_⟩:=h; rw [Ir]; exact Js (List.length_filter_le ..) (by rw [Jl]; exact On _ _)) (λ i ys σ H' h=>h.1▸PX tbhP) ⟨rfl,rfl,none,rfl⟩ ?_ ?_⟩
   ·rintro i ys σ H' x hx ⟨rfl,rfl,v,rfl⟩
    have hil:=pj hx
    obtain ⟨w,rfl,ew,_,_⟩:=lu hx
    nofun
    refine lE ?_
    by_cases e:w = ""
    ·rw [decide_eq_true (congrArg PZ e)]
     nofun
     refine Nx.mk hil ⟨rfl,?_,_,rfl⟩
     rw [KN,ew,Nu]
     simp [e]
    ·rw [decide_eq_false λ u=>e (PZ.inj u)]
     nofun
     refine Nx.mk hil ⟨rfl,?_,_,rfl⟩
     rw [KN,ew,Nu]
     simp [e]
   ·rintro ys σ H' ⟨rfl,rfl,v,rfl⟩ qe hqe
    rw [Ir,Jb (Im _)]
    have sQ:=(P4 HP).new (o:=.lst ((fW nb).map PZ)) hqe
    have tqe:(upd HP qe (.lst ((fW nb).map PZ))) qe=some (.lst ((fW nb).map PZ)):=aa
    change A8 _ (upd HP qe (.lst ((fW nb).map PZ))) _
    generalize upd HP qe (.lst ((fW nb).map PZ))=HQ at sQ tqe
    nofun
    refine bx (PX tqe) ?_
    rw [Ir]
    refine ⟨_,rfl,?_⟩
    refine oB (sQ _ _ tqd) λ qf HR sR tqf=>?_
    rw [Ax,<-d1] at tqf
    refine tU (n:=1) (mZ (sR _ _ (sQ _ _ (sP _ _ tan))) d2) (mZ tqf d2) (by decide) ?_
    nofun
    have LR:=LO.same (sP.trans (sQ.trans sR))
    exact ⟨fin LR,LR.tb,LR.sb,_,_,_,_,_,_,_,_,rfl⟩
  ·rintro σ H' ⟨sm,T0,tso',v1,v2,v3,v4,v5,v6,v7,v8,rfl⟩
   nofun
   refine ⟨"",_,1,rfl,C4.1,T0,.inl ⟨C4.2,rfl⟩,λ H2 s2=>?_⟩
   nofun
   rw [decide_eq_true (show PY ((1:Nat):Int)=PY 1 from rfl)]
   exact k _
end
theorem Hx {α:Type} {P:List α->Prop} (h:P []):∀ us:List α,us.length=0->P us
 | [],_=>h 
theorem bD {α:Type} {P:List α->Prop} (h:∀ x0:α,P [x0]):∀ us:List α,us.length=1->P us
 | [x0],_=>h x0
theorem fG {α:Type} {P:List α->Prop} (h:∀ x0 x1:α,P [x0,x1]):∀ us:List α,us.length=2->P us
 | [x0,x1],_=>h x0 x1
theorem wT {α:Type} {P:List α->Prop} (h:∀ x0 x1 x2:α,P [x0,x1,x2]):∀ us:List α,us.length=3->P us
 | [x0,x1,x2],_=>h x0 x1 x2
theorem Hy {α:Type} {P:List α->Prop} (h:∀ x0 x1 x2 x3:α,P [x0,x1,x2,x3]):∀ us:List α,us.length=4->P us
 | [x0,x1,x2,x3],_=>h x0 x1 x2 x3
theorem Da {l:ME} {w:World} {K:Ih} {mg:Str->Option Value} {fa f0 f1 f2 f3 f4 f5 f6 f7 f8 f9 f10 f11 f12 f13 f14 f15 f16 f17 f18 f19 f20 f21 f22 f23 f24 f25 f26 f27 f28 f29 f30 f31 f32 f33 f34 f35 f36 f37 f38 f39 f40 f41 f42 f43 f44 f45 f46 f47 f48 f49 f50 f51 f52 f53 f54 f55 f56 f57 f58 f59 f60 f61 f62 f63 f64 f65 f66 f67 f68 f69 f70 f71 f72 f73 f74 f75 f76 f77 f78 f79 f80 f81 f82 f83 f84 f85 f86 f87 f88 aV af ap aQ aY aW:Addr} {d0 d1 d2 d3 d4 d5 d6 d7 d8 d9 d10 d11 d12 d13 d14 d15 d16 d17 d18 d19 d20 d21 d22 d23 d24 d25 d26 d27 d28 d29 d30 d31 d32 d33 d34 d35 d36 d37 d38 d39 d40 d41 d42 d43 d44 d45 d46 d47 d48 d49 d50 d51 d52 d53 d54 d55 d56 d57 d58 d59 d60 d61 d62 d63 d64 d65 d66 d67 d68 d69 d70 d71 d72 d73 d74 d75 d76 d77 d78 d79 d80 d81 d82 d83 d84 d85 d86 d87:FuncData} (X:K.In h) (G:h.Ns mainGlobals mg) (hfa:mg "law" = some (.ref fa))
  (a0:IQ K (.ref af) "__init__" = some (some (.ref f0))) (i0:Nh K (.ref f0)=true) (F0:Fun K "__init__" "BadRow.__init__" bg f0 d0)
  (a1:Ig K mainGlobals "counts" = some (some (.ref f1))) (F1:Fun K "counts" "counts" pK f1 d1)
  (a2:Ig K mainGlobals "begins" = some (some (.ref f2))) (F2:Fun K "begins" "begins" pL f2 d2)
  (a3:Ig K mainGlobals "many_columns" = some (some (.ref f3))) (F3:Fun K "many_columns" "many_columns" ce f3 d3)
  (a4:Ig K mainGlobals "tally" = some (some (.ref f4))) (F4:Fun K "tally" "tally" t8 f4 d4)
  (a5:Ig K mainGlobals "beginnings" = some (some (.ref f5))) (F5:Fun K "beginnings" "beginnings" hW f5 d5)
  (a6:Ig K mainGlobals "is_parted" = some (some (.ref f6))) (F6:Fun K "is_parted" "is_parted" i8 f6 d6)
  (a7:Ig K mainGlobals "order_by_figure" = some (some (.ref f7))) (F7:Fun K "order_by_figure" "order_by_figure" cA f7 d7)
  (a8:Ig K mainGlobals "parts_of" = some (some (.ref f8))) (F8:Fun K "parts_of" "parts_of" kC f8 d8)
  (a9:Ig K mainGlobals "from_first" = some (some (.ref f9))) (F9:Fun K "from_first" "from_first" dv f9 d9)
  (a10:Ig K mainGlobals "many_goings_on" = some (some (.ref f10))) (F10:Fun K "many_goings_on" "many_goings_on" c4 f10 d10)
  (a11:Ig K mainGlobals "ahead_of_first" = some (some (.ref f11))) (F11:Fun K "ahead_of_first" "ahead_of_first" c5 f11 d11)
  (a12:Ig K mainGlobals "is_order" = some (some (.ref f12))) (F12:Fun K "is_order" "is_order" kD f12 d12)
  (a13:Ig K mainGlobals "check_order" = some (some (.ref f13))) (F13:Fun K "check_order" "check_order" fO f13 d13)
  (a14:Ig K mainGlobals "own_copy" = some (some (.ref f14))) (F14:Fun K "own_copy" "own_copy" kF f14 d14)
  (a15:Ig K mainGlobals "put" = some (some (.ref f15))) (F15:Fun K "put" "put" CV f15 d15)
  (a16:Ig K mainGlobals "back_of" = some (some (.ref f16))) (F16:Fun K "back_of" "back_of" mH f16 d16)
  (a17:Ig K mainGlobals "rings" = some (some (.ref f17))) (F17:Fun K "rings" "rings" t9 f17 d17)
  (a18:Ig K mainGlobals "told_order" = some (some (.ref f18))) (F18:Fun K "told_order" "told_order" dw f18 d18)
  (a19:Ig K mainGlobals "walked" = some (some (.ref f19))) (F19:Fun K "walked" "walked" pM f19 d19)
  (a20:Ig K mainGlobals "heap_sorted" = some (some (.ref f20))) (F20:Fun K "heap_sorted" "heap_sorted" cL f20 d20)
  (a21:Ig K mainGlobals "runs" = some (some (.ref f21))) (F21:Fun K "runs" "runs" xT f21 d21)
  (a22:Ig K mainGlobals "merged" = some (some (.ref f22))) (F22:Fun K "merged" "merged" pN f22 d22)
  (a23:Ig K mainGlobals "merged_places" = some (some (.ref f23))) (F23:Fun K "merged_places" "merged_places" dy f23 d23)
  (a24:Ig K mainGlobals "merging_round" = some (some (.ref f24))) (F24:Fun K "merging_round" "merging_round" dz f24 d24)
  (a25:Ig K mainGlobals "ahead_of_runs" = some (some (.ref f25))) (F25:Fun K "ahead_of_runs" "ahead_of_runs" dA f25 d25)
  (a26:Ig K mainGlobals "by_runs" = some (some (.ref f26))) (F26:Fun K "by_runs" "by_runs" mI f26 d26)
  (a27:Ig K mainGlobals "is_due" = some (some (.ref f27))) (F27:Fun K "is_due" "is_due" pO f27 d27)
  (a28:Ig K mainGlobals "moves_of_ring" = some (some (.ref f28))) (F28:Fun K "moves_of_ring" "moves_of_ring" dB f28 d28)
  (a29:Ig K mainGlobals "many_figures" = some (some (.ref f29))) (F29:Fun K "many_figures" "many_figures" eJ f29 d29)
  (a30:Ig K mainGlobals "figures" = some (some (.ref f30))) (F30:Fun K "figures" "figures" mJ f30 d30)
  (a31:Ig K mainGlobals "common_measure" = some (some (.ref f31))) (F31:Fun K "common_measure" "common_measure" c6 f31 d31)
  (a32:Ig K mainGlobals "least_bottom" = some (some (.ref f32))) (F32:Fun K "least_bottom" "least_bottom" cf f32 d32)
  (a33:Ig K mainGlobals "whole_numbers" = some (some (.ref f33))) (F33:Fun K "whole_numbers" "whole_numbers" bI f33 d33)
  (a34:Ig K mainGlobals "number_rows" = some (some (.ref f34))) (F34:Fun K "number_rows" "number_rows" cM f34 d34)
  (a35:Ig K mainGlobals "text_row" = some (some (.ref f35))) (F35:Fun K "text_row" "text_row" kG f35 d35)
  (a36:Ig K mainGlobals "text_rows" = some (some (.ref f36))) (F36:Fun K "text_rows" "text_rows" fe f36 d36)
  (a37:Ig K mainGlobals "spelled" = some (some (.ref f37))) (F37:Fun K "spelled" "spelled" i9 f37 d37)
  (a38:Ig K mainGlobals "from_last" = some (some (.ref f38))) (F38:Fun K "from_last" "from_last" ja f38 d38)
  (a39:Ig K mainGlobals "ahead_of_last" = some (some (.ref f39))) (F39:Fun K "ahead_of_last" "ahead_of_last" dC f39 d39)
  (a40:Ig K mainGlobals "last_ahead" = some (some (.ref f40))) (F40:Fun K "last_ahead" "last_ahead" hX f40 d40)
  (a41:Ig K mainGlobals "first_ahead" = some (some (.ref f41))) (F41:Fun K "first_ahead" "first_ahead" fP f41 d41)
  (a42:Ig K mainGlobals "runs_ahead" = some (some (.ref f42))) (F42:Fun K "runs_ahead" "runs_ahead" hZ f42 d42)
  (a43:Ig K mainGlobals "last_done" = some (some (.ref f43))) (F43:Fun K "last_done" "last_done" jb f43 d43)
  (a44:Ig K mainGlobals "first_done" = some (some (.ref f44))) (F44:Fun K "first_done" "first_done" h7 f44 d44)
  (a45:Ig K mainGlobals "runs_done" = some (some (.ref f45))) (F45:Fun K "runs_done" "runs_done" jc f45 d45)
  (a46:Ig K mainGlobals "moves_ahead" = some (some (.ref f46))) (F46:Fun K "moves_ahead" "moves_ahead" fQ f46 d46)
  (a47:Ig K mainGlobals "cheapest" = some (some (.ref f47))) (F47:Fun K "cheapest" "cheapest" kH f47 d47)
  (a48:Ig K mainGlobals "ordered" = some (some (.ref f48))) (F48:Fun K "ordered" "ordered" mK f48 d48)
  (a49:Ig K mainGlobals "is_made_of" = some (some (.ref f49))) (F49:Fun K "is_made_of" "is_made_of" dD f49 d49)
  (a50:Ig K mainGlobals "is_number" = some (some (.ref f50))) (F50:Fun K "is_number" "is_number" ff f50 d50)
  (a51:Ig K mainGlobals "read_number" = some (some (.ref f51))) (F51:Fun K "read_number" "read_number" cN f51 d51)
  (a52:Ig K mainGlobals "read_part" = some (some (.ref f52))) (F52:Fun K "read_part" "read_part" jd f52 d52)
  (a53:Ig K mainGlobals "read_text" = some (some (.ref f53))) (F53:Fun K "read_text" "read_text" je f53 d53)
  (a54:Ig K mainGlobals "is_kind" = some (some (.ref f54))) (F54:Fun K "is_kind" "is_kind" jf f54 d54)
  (a55:Ig K mainGlobals "read_keys" = some (some (.ref f55))) (F55:Fun K "read_keys" "read_keys" jg f55 d55)
  (a56:Ig K mainGlobals "write_part" = some (some (.ref f56))) (F56:Fun K "write_part" "write_part" h8 f56 d56)
  (a57:Ig K mainGlobals "write_key" = some (some (.ref f57))) (F57:Fun K "write_key" "write_key" jh f57 d57)
  (a58:Ig K mainGlobals "write_keys" = some (some (.ref f58))) (F58:Fun K "write_keys" "write_keys" h9 f58 d58)
  (a59:Ig K mainGlobals "write_row" = some (some (.ref f59))) (F59:Fun K "write_row" "write_row" fg f59 d59)
  (a60:Ig K mainGlobals "write_rows" = some (some (.ref f60))) (F60:Fun K "write_rows" "write_rows" ia f60 d60)
  (a61:IQ K (.ref ap) "__init__" = some (some (.ref f61))) (i61:Nh K (.ref f61)=true) (F61:Fun K "__init__" "Desk.__init__" bJ f61 d61)
  (a62:Ig K mainGlobals "rows_of" = some (some (.ref f62))) (F62:Fun K "rows_of" "rows_of" ji f62 d62)
  (a63:Ig K mainGlobals "order_of" = some (some (.ref f63))) (F63:Fun K "order_of" "order_of" gH f63 d63)
  (a64:Ig K mainGlobals "poured_keys" = some (some (.ref f64))) (F64:Fun K "poured_keys" "poured_keys" fR f64 d64)
  (a65:Ig K mainGlobals "pour_of" = some (some (.ref f65))) (F65:Fun K "pour_of" "pour_of" mL f65 d65)
  (a66:Ig K mainGlobals "answer_sort" = some (some (.ref f66))) (F66:Fun K "answer_sort" "answer_sort" fS f66 d66)
  (a67:Ig K mainGlobals "answer_order" = some (some (.ref f67))) (F67:Fun K "answer_order" "answer_order" cg f67 d67)
  (a68:Ig K mainGlobals "answer_back" = some (some (.ref f68))) (F68:Fun K "answer_back" "answer_back" fT f68 d68)
  (a69:Ig K mainGlobals "answer_rings" = some (some (.ref f69))) (F69:Fun K "answer_rings" "answer_rings" eL f69 d69)
  (a70:Ig K mainGlobals "answer_ahead" = some (some (.ref f70))) (F70:Fun K "answer_ahead" "answer_ahead" eM f70 d70)
  (a71:Ig K mainGlobals "answer_cheapest" = some (some (.ref f71))) (F71:Fun K "answer_cheapest" "answer_cheapest" cB f71 d71)
  (a72:Ig K mainGlobals "answer_walk" = some (some (.ref f72))) (F72:Fun K "answer_walk" "answer_walk" fU f72 d72)
  (a73:Ig K mainGlobals "answer_puts" = some (some (.ref f73))) (F73:Fun K "answer_puts" "answer_puts" cO f73 d73)
  (a74:Ig K mainGlobals "answer_poured" = some (some (.ref f74))) (F74:Fun K "answer_poured" "answer_poured" dE f74 d74)
  (a75:Ig K mainGlobals "answer_heaps" = some (some (.ref f75))) (F75:Fun K "answer_heaps" "answer_heaps" eO f75 d75)
  (a76:Ig K mainGlobals "read_kind" = some (some (.ref f76))) (F76:Fun K "read_kind" "read_kind" fh f76 d76)
  (a77:Ig K mainGlobals "read_deed" = some (some (.ref f77))) (F77:Fun K "read_deed" "read_deed" jj f77 d77)
  (a78:Ig K mainGlobals "read_ask" = some (some (.ref f78))) (F78:Fun K "read_ask" "read_ask" gI f78 d78)
  (a79:Ig K mainGlobals "read_deeds" = some (some (.ref f79))) (F79:Fun K "read_deeds" "read_deeds" dF f79 d79)
  (a80:Ig K mainGlobals "read_rows" = some (some (.ref f80))) (F80:Fun K "read_rows" "read_rows" fi f80 d80)
  (a81:Ig K mainGlobals "answered" = some (some (.ref f81))) (F81:Fun K "answered" "answered" gJ f81 d81)
  (a82:Ig K mainGlobals "run" = some (some (.ref f82))) (F82:Fun K "run" "run" Aj f82 d82)
  (a83:Ig K mainGlobals "_law_tape" = some (some (.ref f83))) (F83:Fun K "_law_tape" "_law_tape" ua f83 d83)
  (a84:Ig K mainGlobals "_law_draw" = some (some (.ref f84))) (F84:Fun K "_law_draw" "_law_draw" ub f84 d84)
  (a85:Ig K mainGlobals "_law_is_whole" = some (some (.ref f85))) (F85:Fun K "_law_is_whole" "_law_is_whole" gK f85 d85)
  (a86:Ig K mainGlobals "_law_line" = some (some (.ref f86))) (F86:Fun K "_law_line" "_law_line" uc f86 d86)
  (a87:Ig K mainGlobals "_law_bad_first" = some (some (.ref f87))) (F87:Fun K "_law_bad_first" "_law_bad_first" fj f87 d87)
  (a88:Ig K mainGlobals "law" = some (some (.ref f88)))
  {oc88 kV88 dc88 pm88 cd88 ct88:Value} {od88 an88:Option Addr} {sl88:Array (Option Value)}
  (l88:K.lookup f88=some ⟨oc88,od88,.func (KP "law" "law" (iT qM) (bE qM) (ae qM) .none kV88 dc88 pm88 an88 cd88 ct88),sl88⟩) (c88:LP K cd88 "law" = true) (k88:Jk K (.ref f88)=true)
  (bY:Ig K mainGlobals "ValueError" = some none)
  (u7:Ig K mainGlobals "abs" = some none)
  (xw:Ig K mainGlobals "all" = some none)
  (qk:Ig K mainGlobals "bool" = some none)
  (cY:Ig K mainGlobals "enumerate" = some none)
  (rp:Ig K mainGlobals "int" = some none)
  (aN:Ig K mainGlobals "isinstance" = some none)
  (cZ:Ig K mainGlobals "len" = some none)
  (ql:Ig K mainGlobals "list" = some none)
  (xx:Ig K mainGlobals "max" = some none)
  (va:Ig K mainGlobals "min" = some none)
  (A5:Ig K mainGlobals "ord" = some none)
  (gW:Ig K mainGlobals "range" = some none)
  (iN:Ig K mainGlobals "sorted" = some none)
  (rq:Ig K mainGlobals "str" = some none)
  (A6:Ig K mainGlobals "sum" = some none)
  (j6:Ig K mainGlobals "tuple" = some none)
  (A7:Ig K mainGlobals "zip" = some none)
  {cc pt:Addr} (hcc:d18.code=.ref cc) (hchd:Ln K cc pt=true)
  {bv:Addr} {q0_READERS q1_READERS q2_READERS:Tok} {ep_READERS:Nat} (ag_READERS:Ig K mainGlobals "READERS" = some (some (.ref bv))) (at_READERS:K.lookup bv=some ⟨.type "dict",none,.dict #[⟨Ja w.params "number",.str "number" q0_READERS,.ref f51⟩,⟨Ja w.params "part",.str "part" q1_READERS,.ref f52⟩,⟨Ja w.params "text",.str "text" q2_READERS,.ref f53⟩] ep_READERS,#[]⟩)
  {gc:Addr} {q0_ASKS q1_ASKS q2_ASKS q3_ASKS q4_ASKS q5_ASKS q6_ASKS q7_ASKS q8_ASKS:Tok} {ep_ASKS:Nat} (ag_ASKS:Ig K mainGlobals "ASKS" = some (some (.ref gc))) (at_ASKS:K.lookup gc=some ⟨.type "dict",none,.dict #[⟨Ja w.params "order",.str "order" q0_ASKS,.ref f67⟩,⟨Ja w.params "back",.str "back" q1_ASKS,.ref f68⟩,⟨Ja w.params "rings",.str "rings" q2_ASKS,.ref f69⟩,⟨Ja w.params "ahead",.str "ahead" q3_ASKS,.ref f70⟩,⟨Ja w.params "cheapest",.str "cheapest" q4_ASKS,.ref f71⟩,⟨Ja w.params "walk",.str "walk" q5_ASKS,.ref f72⟩,⟨Ja w.params "puts",.str "puts" q6_ASKS,.ref f73⟩,⟨Ja w.params "poured",.str "poured" q7_ASKS,.ref f74⟩,⟨Ja w.params "heaps",.str "heaps" q8_ASKS,.ref f75⟩] ep_ASKS,#[]⟩)
  (ac_BadOrder:Ig K mainGlobals "BadOrder" = some (some (.ref aV))) (ac_BadRow:Ig K mainGlobals "BadRow" = some (some (.ref af))) (ac_Desk:Ig K mainGlobals "Desk" = some (some (.ref ap))) (ac_NotRising:Ig K mainGlobals "NotRising" = some (some (.ref aQ))) (ac_SortError:Ig K mainGlobals "SortError" = some (some (.ref aY))) (ac_TooGreat:Ig K mainGlobals "TooGreat" = some (some (.ref aW)))
  (g1:IQ K (.ref af) "__getattribute__" = some (some (.builtin "BaseException.__getattribute__")))
  (g2:IQ K (.ref af) "__class__" = some (some (.builtin "object.__class__")))
  (g3:IQ K (.ref af) "__getattr__" = some none)
  (g4:Li K af (.type "BaseException")=some true)
  (g5:Li K af (.type "object")=some true)
  (g6:(Ma K af).isSome=true)
  (g7:MX K (.ref af) (.ref aY)=some true)
  (g8:Ow K (.ref af) [.ref aV,.ref aQ,.ref aW]=some false)
  (g9:JN K (.ref af) (.ref af)=some true)
  (ga:JN K (.ref af) (.type "ValueError")=some true)
  (gb:Ks K af=true)
  (eF:(bv == sysModules)=false)
  (lR:(gc == sysModules)=false)
  (pg_Desk:Lk K ap PB=true)
  (hd_Desk:Ks K ap=true)
  (po_Desk:Md K ap=true)
  (sa_Desk:IQ K (.ref ap) "__setattr__" = some (some (.builtin "object.__setattr__")))
  (mk_Desk:MC K ap=true)
  (kc_Desk:Jk K (.ref ap)=true)
  (bQ:IQ K (.ref ap) "kind" = some none)
  (bP:IQ K (.ref ap) "base" = some none)
  (bR:IQ K (.ref ap) "laid" = some none)
  (be:IQ K (.ref ap) "pourings" = some none)
  (ow_BadRow:HT.Aa K af veB "ValueError.__new__" f0=true)
  (ej:Jk K (.ref af)=true)
  (sa_BadRow:IQ K (.ref af) "__setattr__" = some (some (.builtin "object.__setattr__")))
  (ov_BadRow:(Ma K af).any (λ cd=>HT.i6 cd.mro)=true)
  (hd_BadRow:(Ma K af).any (·.hasDict)=true)
  (n_BadRow_line:IQ K (.ref af) "line" = some none)
  (bX:HT.Ac K aY=true)
  {fF:Tok} (ag_TEXT_BASE:Ig K mainGlobals "TEXT_BASE" = some (some (.int 27 fF)))
  {jZ:Tok} (ag_FIGURES:Ig K mainGlobals "FIGURES" = some (some (.str "0123456789" jZ)))
  {cq:Tok} (ag_MOST_FIGURES:Ig K mainGlobals "MOST_FIGURES" = some (some (.int 18 cq)))
  {eh:Tok} (ag_LEAST_BASE:Ig K mainGlobals "LEAST_BASE" = some (some (.int 2 eh)))
  {fD:Tok} (ag_MOST_BASE:Ig K mainGlobals "MOST_BASE" = some (some (.int 64 fD)))
  {fE:Tok} (ag_MOST_KEYS:Ig K mainGlobals "MOST_KEYS" = some (some (.int 200 fE))) :
  ∃ fd:FuncData,(∃ c,Ln K c pt=true)/\(∀ (s:Shared) (v:Value),BindsTo s fd ⟨[v],[]⟩ [("_law_script",v)])/\∀ base:Heap,K.In base->base.Ns mainGlobals mg->base.BuiltinsAt mg pt->FnOk l.prog w K mg base CX0 10 fa fd ["_law_script"] (wS K pt):=by
 have e:=hfa.symm.trans (Ii X G a88)
 cases e
 have b0:=F0.binds (ps:=["self","line"]) λ _ _ _ _ _ _=>fG (λ _ _=>rfl)
 have b1:=F1.binds (ps:=["row","base"]) λ _ _ _ _ _ _=>fG (λ _ _=>rfl)
 have b2:=F2.binds (ps:=["counts"]) λ _ _ _ _ _ _=>bD (λ _=>rfl)
 have b3:=F3.binds (ps:=["rows"]) λ _ _ _ _ _ _=>bD (λ _=>rfl)
 have b4:=F4.binds (ps:=["rows","base"]) λ _ _ _ _ _ _=>fG (λ _ _=>rfl)
 have b5:=F5.binds (ps:=["rows","column"]) λ _ _ _ _ _ _=>fG (λ _ _=>rfl)
 have b6:=F6.binds (ps:=["often"]) λ _ _ _ _ _ _=>bD (λ _=>rfl)
 have b7:=F7.binds (ps:=["row","base"]) λ _ _ _ _ _ _=>fG (λ _ _=>rfl)
 have b8:=F8.binds (ps:=["first","often","column"]) λ _ _ _ _ _ _=>wT (λ _ _ _=>rfl)
 have b9:=F9.binds (ps:=["rows","base"]) λ _ _ _ _ _ _=>fG (λ _ _=>rfl)
 have b10:=F10.binds (ps:=["longer"]) λ _ _ _ _ _ _=>bD (λ _=>rfl)
 have b11:=F11.binds (ps:=["lists"]) λ _ _ _ _ _ _=>bD (λ _=>rfl)
 have b12:=F12.binds (ps:=["thing"]) λ _ _ _ _ _ _=>bD (λ _=>rfl)
 have b13:=F13.binds (ps:=["thing","many"]) λ _ _ _ _ _ _=>fG (λ _ _=>rfl)
 have b14:=F14.binds (ps:=["thing"]) λ _ _ _ _ _ _=>bD (λ _=>rfl)
 have b15:=F15.binds (ps:=["things","order"]) λ _ _ _ _ _ _=>fG (λ _ _=>rfl)
 have b16:=F16.binds (ps:=["order"]) λ _ _ _ _ _ _=>bD (λ _=>rfl)
 have b17:=F17.binds (ps:=["order"]) λ _ _ _ _ _ _=>bD (λ _=>rfl)
 have b18:=F18.binds (ps:=["rows"]) λ _ _ _ _ _ _=>bD (λ _=>rfl)
 have b19:=F19.binds (ps:=["row","base"]) λ _ _ _ _ _ _=>fG (λ _ _=>rfl)
 have b20:=F20.binds (ps:=["rows","base"]) λ _ _ _ _ _ _=>fG (λ _ _=>rfl)
 have b21:=F21.binds (ps:=["rows"]) λ _ _ _ _ _ _=>bD (λ _=>rfl)
 have b22:=F22.binds (ps:=["one","other"]) λ _ _ _ _ _ _=>fG (λ _ _=>rfl)
 have b23:=F23.binds (ps:=["rows","one","other"]) λ _ _ _ _ _ _=>wT (λ _ _ _=>rfl)
 have b24:=F24.binds (ps:=["lengths"]) λ _ _ _ _ _ _=>bD (λ _=>rfl)
 have b25:=F25.binds (ps:=["lengths"]) λ _ _ _ _ _ _=>bD (λ _=>rfl)
 have b26:=F26.binds (ps:=["rows"]) λ _ _ _ _ _ _=>bD (λ _=>rfl)
 have b27:=F27.binds (ps:=["lengths"]) λ _ _ _ _ _ _=>bD (λ _=>rfl)
 have b28:=F28.binds (ps:=["ring"]) λ _ _ _ _ _ _=>bD (λ _=>rfl)
 have b29:=F29.binds (ps:=["n","base"]) λ _ _ _ _ _ _=>fG (λ _ _=>rfl)
 have b30:=F30.binds (ps:=["n","base","many"]) λ _ _ _ _ _ _=>wT (λ _ _ _=>rfl)
 have b31:=F31.binds (ps:=["one","other"]) λ _ _ _ _ _ _=>fG (λ _ _=>rfl)
 have b32:=F32.binds (ps:=["parts"]) λ _ _ _ _ _ _=>bD (λ _=>rfl)
 have b33:=F33.binds (ps:=["parts"]) λ _ _ _ _ _ _=>bD (λ _=>rfl)
 have b34:=F34.binds (ps:=["numbers","base"]) λ _ _ _ _ _ _=>fG (λ _ _=>rfl)
 have b35:=F35.binds (ps:=["text","columns"]) λ _ _ _ _ _ _=>fG (λ _ _=>rfl)
 have b36:=F36.binds (ps:=["texts"]) λ _ _ _ _ _ _=>bD (λ _=>rfl)
 have b37:=F37.binds (ps:=["kind","keys","base"]) λ _ _ _ _ _ _=>wT (λ _ _ _=>rfl)
 have b38:=F38.binds (ps:=["rows","base"]) λ _ _ _ _ _ _=>fG (λ _ _=>rfl)
 have b39:=F39.binds (ps:=["tally"]) λ _ _ _ _ _ _=>bD (λ _=>rfl)
 have b40:=F40.binds (ps:=["rows","base"]) λ _ _ _ _ _ _=>fG (λ _ _=>rfl)
 have b41:=F41.binds (ps:=["rows","base"]) λ _ _ _ _ _ _=>fG (λ _ _=>rfl)
 have b42:=F42.binds (ps:=["rows","base"]) λ _ _ _ _ _ _=>fG (λ _ _=>rfl)
 have b43:=F43.binds (ps:=["rows","base"]) λ _ _ _ _ _ _=>fG (λ _ _=>rfl)
 have b44:=F44.binds (ps:=["rows","base"]) λ _ _ _ _ _ _=>fG (λ _ _=>rfl)
 have b45:=F45.binds (ps:=["rows","base"]) λ _ _ _ _ _ _=>fG (λ _ _=>rfl)
 have b46:=F46.binds (ps:=["kind","keys","base"]) λ _ _ _ _ _ _=>wT (λ _ _ _=>rfl)
 have b47:=F47.binds (ps:=["kind","keys","base"]) λ _ _ _ _ _ _=>wT (λ _ _ _=>rfl)
 have b48:=F48.binds (ps:=["way","kind","keys","base"]) λ _ _ _ _ _ _=>Hy (λ _ _ _ _=>rfl)
 have b49:=F49.binds (ps:=["word","signs"]) λ _ _ _ _ _ _=>fG (λ _ _=>rfl)
 have b50:=F50.binds (ps:=["word"]) λ _ _ _ _ _ _=>bD (λ _=>rfl)
 have b51:=F51.binds (ps:=["word"]) λ _ _ _ _ _ _=>bD (λ _=>rfl)
 have b52:=F52.binds (ps:=["word"]) λ _ _ _ _ _ _=>bD (λ _=>rfl)
 have b53:=F53.binds (ps:=["word"]) λ _ _ _ _ _ _=>bD (λ _=>rfl)
 have b54:=F54.binds (ps:=["word"]) λ _ _ _ _ _ _=>bD (λ _=>rfl)
 have b55:=F55.binds (ps:=["kind","words"]) λ _ _ _ _ _ _=>fG (λ _ _=>rfl)
 have b56:=F56.binds (ps:=["part"]) λ _ _ _ _ _ _=>bD (λ _=>rfl)
 have b57:=F57.binds (ps:=["kind","key"]) λ _ _ _ _ _ _=>fG (λ _ _=>rfl)
 have b58:=F58.binds (ps:=["kind","keys"]) λ _ _ _ _ _ _=>fG (λ _ _=>rfl)
 have b59:=F59.binds (ps:=["things"]) λ _ _ _ _ _ _=>bD (λ _=>rfl)
 have b60:=F60.binds (ps:=["rows"]) λ _ _ _ _ _ _=>bD (λ _=>rfl)
 have b61:=F61.binds (ps:=["self","kind","base"]) λ _ _ _ _ _ _=>wT (λ _ _ _=>rfl)
 have b62:=F62.binds (ps:=["desk"]) λ _ _ _ _ _ _=>bD (λ _=>rfl)
 have b63:=F63.binds (ps:=["desk"]) λ _ _ _ _ _ _=>bD (λ _=>rfl)
 have b64:=F64.binds (ps:=["desk"]) λ _ _ _ _ _ _=>bD (λ _=>rfl)
 have b65:=F65.binds (ps:=["desk"]) λ _ _ _ _ _ _=>bD (λ _=>rfl)
 have b66:=F66.binds (ps:=["desk","way"]) λ _ _ _ _ _ _=>fG (λ _ _=>rfl)
 have b67:=F67.binds (ps:=["desk"]) λ _ _ _ _ _ _=>bD (λ _=>rfl)
 have b68:=F68.binds (ps:=["desk"]) λ _ _ _ _ _ _=>bD (λ _=>rfl)
 have b69:=F69.binds (ps:=["desk"]) λ _ _ _ _ _ _=>bD (λ _=>rfl)
 have b70:=F70.binds (ps:=["desk"]) λ _ _ _ _ _ _=>bD (λ _=>rfl)
 have b71:=F71.binds (ps:=["desk"]) λ _ _ _ _ _ _=>bD (λ _=>rfl)
 have b72:=F72.binds (ps:=["desk"]) λ _ _ _ _ _ _=>bD (λ _=>rfl)
 have b73:=F73.binds (ps:=["desk"]) λ _ _ _ _ _ _=>bD (λ _=>rfl)
 have b74:=F74.binds (ps:=["desk"]) λ _ _ _ _ _ _=>bD (λ _=>rfl)
 have b75:=F75.binds (ps:=["desk"]) λ _ _ _ _ _ _=>bD (λ _=>rfl)
 have b76:=F76.binds (ps:=["words"]) λ _ _ _ _ _ _=>bD (λ _=>rfl)
 have b77:=F77.binds (ps:=["kind","words","room"]) λ _ _ _ _ _ _=>wT (λ _ _ _=>rfl)
 have b78:=F78.binds (ps:=["words"]) λ _ _ _ _ _ _=>bD (λ _=>rfl)
 have b79:=F79.binds (ps:=["kind","numbered"]) λ _ _ _ _ _ _=>fG (λ _ _=>rfl)
 have b80:=F80.binds (ps:=["text"]) λ _ _ _ _ _ _=>bD (λ _=>rfl)
 have b81:=F81.binds (ps:=["desk","ask","way"]) λ _ _ _ _ _ _=>wT (λ _ _ _=>rfl)
 have b82:=F82.binds (ps:=["text"]) λ _ _ _ _ _ _=>bD (λ _=>rfl)
 have b83:=F83.binds (ps:=["_law_script","_law_k"]) λ _ _ _ _ _ _=>fG (λ _ _=>rfl)
 have b84:=F84.binds (ps:=["_law_tape_here","_law_many"]) λ _ _ _ _ _ _=>fG (λ _ _=>rfl)
 have b85:=F85.binds (ps:=["_law_thing"]) λ _ _ _ _ _ _=>bD (λ _=>rfl)
 have b86:=F86.binds (ps:=["_law_text"]) λ _ _ _ _ _ _=>bD (λ _=>rfl)
 have b87:=F87.binds (ps:=[]) λ _ _ _ _ _ _=>Hx (rfl)
 have F88:=xH (st:=qM) l88 c88 k88
 have b88:=F88.binds (ps:=["_law_script"]) λ _ _ _ _ _ _=>bD (λ _=>rfl)
 have TT:∀ base:Heap,base.BuiltinsAt mg pt->Tx K mg ⟨_,_,_,_,_,_,_,_,_,_,_,_,_,_,_,_,_,_,_,_,_,_,_,_,_,_,_,_,_,_,_,_,_,_,_,_,_,_,_,_,_,_,_,_,_,_,_,_,_,_,_,_,_,_,_,_,_,_,_,_,_,_,_,_,_,_,_,_,_,_,_,_,_,_,_,_,_,_,_,_,_,_,_,_,_,_,_,_,_,_,_,_,_,_,_,_,_,_,_,_,_,_,_,_,_,_,_,_,_,_,_,_,_,_,_,_,_,_,_,_,_,_,_,_,_,_,_,_,_,_,_,_,_,_,_,_,_,_,_,_,_,_,_,_,_,_,_,_,_,_,_,_,_,_,_,_,_,_,_,_,_,_,_,_,_,_,_,_,_,_,_,_,_,_,_,_,_,_,cc,pt,base,w,_,_,_,_,_,_,_,_,_,_,_,_,_,_⟩:=λ base hba=>⟨HT.CP ow_BadRow i0,F0,b0,Ii X G a1,F1,b1,Ii X G a2,F2,b2,Ii X G a3,F3,b3,Ii X G a4,F4,b4,Ii X G a5,F5,b5,Ii X G a6,F6,b6,Ii X G a7,F7,b7,Ii X G a8,F8,b8,Ii X G a9,F9,b9,Ii X G a10,F10,b10,Ii X G a11,F11,b11,Ii X G a12,F12,b12,Ii X G a13,F13,b13,Ii X G a14,F14,b14,Ii X G a15,F15,b15,Ii X G a16,F16,b16,Ii X G a17,F17,b17,Ii X G a18,F18,b18,Ii X G a19,F19,b19,Ii X G a20,F20,b20,Ii X G a21,F21,b21,Ii X G a22,F22,b22,Ii X G a23,F23,b23,Ii X G a24,F24,b24,Ii X G a25,F25,b25,Ii X G a26,F26,b26,Ii X G a27,F27,b27,Ii X G a28,F28,b28,Ii X G a29,F29,b29,Ii X G a30,F30,b30,Ii X G a31,F31,b31,Ii X G a32,F32,b32,Ii X G a33,F33,b33,Ii X G a34,F34,b34,Ii X G a35,F35,b35,Ii X G a36,F36,b36,Ii X G a37,F37,b37,Ii X G a38,F38,b38,Ii X G a39,F39,b39,Ii X G a40,F40,b40,Ii X G a41,F41,b41,Ii X G a42,F42,b42,Ii X G a43,F43,b43,Ii X G a44,F44,b44,Ii X G a45,F45,b45,Ii X G a46,F46,b46,Ii X G a47,F47,b47,Ii X G a48,F48,b48,Ii X G a49,F49,b49,Ii X G a50,F50,b50,Ii X G a51,F51,b51,Ii X G a52,F52,b52,Ii X G a53,F53,b53,Ii X G a54,F54,b54,Ii X G a55,F55,b55,Ii X G a56,F56,b56,Ii X G a57,F57,b57,Ii X G a58,F58,b58,Ii X G a59,F59,b59,Ii X G a60,F60,b60,⟨mk_Desk,a61,i61,kc_Desk⟩,F61,b61,Ii X G a62,F62,b62,Ii X G a63,F63,b63,Ii X G a64,F64,b64,Ii X G a65,F65,b65,Ii X G a66,F66,b66,Ii X G a67,F67,b67,Ii X G a68,F68,b68,Ii X G a69,F69,b69,Ii X G a70,F70,b70,Ii X G a71,F71,b71,Ii X G a72,F72,b72,Ii X G a73,F73,b73,Ii X G a74,F74,b74,Ii X G a75,F75,b75,Ii X G a76,F76,b76,Ii X G a77,F77,b77,Ii X G a78,F78,b78,Ii X G a79,F79,b79,Ii X G a80,F80,b80,Ii X G a81,F81,b81,Ii X G a82,F82,b82,Ii X G a83,F83,b83,Ii X G a84,F84,b84,Ii X G a85,F85,b85,Ii X G a86,F86,b86,Ii X G a87,F87,b87,Ii X G a88,F88,b88,IP X G bY,IP X G u7,IP X G xw,IP X G qk,IP X G cY,IP X G rp,IP X G aN,IP X G cZ,IP X G ql,IP X G xx,IP X G va,IP X G A5,IP X G gW,IP X G iN,IP X G rq,IP X G A6,IP X G j6,IP X G A7,hcc,hchd,hba,Ii X G ag_READERS,⟨[q0_READERS,q1_READERS,q2_READERS],ep_READERS,rfl,at_READERS⟩,Ii X G ag_ASKS,⟨[q0_ASKS,q1_ASKS,q2_ASKS,q3_ASKS,q4_ASKS,q5_ASKS,q6_ASKS,q7_ASKS,q8_ASKS],ep_ASKS,rfl,at_ASKS⟩,Ii X G ac_BadOrder,Ii X G ac_BadRow,Ii X G ac_Desk,Ii X G ac_NotRising,Ii X G ac_SortError,Ii X G ac_TooGreat,g1,g2,g3,g4,g5,g6,g7,g8,g9,ga,gb,eF,lR,⟨pg_Desk,hd_Desk,po_Desk,sa_Desk⟩,bQ,bP,bR,be,ej,⟨sa_BadRow,ov_BadRow,n_BadRow_line,hd_BadRow⟩,HT.CQ bX,Ii X G ag_TEXT_BASE,Ii X G ag_FIGURES,Ii X G ag_MOST_FIGURES,Ii X G ag_LEAST_BASE,Ii X G ag_MOST_BASE,Ii X G ag_MOST_KEYS⟩
 exact ⟨_,⟨_,hchd⟩,λ s v=>.of_eq rfl,λ base _ _ hba=>C9 (TT base hba)⟩
theorem DM {l:ME} {loose:List Str} {XP:(Str->Option Value)->Heap->Prop} {YP:World->Heap->Prop} {d:DefRec} {K:Params->Ih} {pt:Addr} (hn:l.most=some 63) (hdf:d.params.defaults=[])
  (hY:∀ (w:World) (h:Heap),YP w h->(K w.params).In h)
  (hYT:∀ (w:World) (h:Heap),YP w h->h.get? pt=some (PySem.W.tabObj #[])) (hnt:∀ w:World,PySem.W.noTabs (K w.params)=true)
  (F:∀ (w:World) (mg:Str->Option Value) (fa:Addr) (h:Heap),(K w.params).In h->h.Ns mainGlobals mg->mg d.name=some (.ref fa)->
   ∃ fd:FuncData,(∃ c,Ln (K w.params) c pt=true)/\(∀ (s:Shared) (u:Value),BindsTo s fd ⟨[u],[]⟩ [("_law_script",u)])/\∀ base:Heap,(K w.params).In base->base.Ns mainGlobals mg->base.BuiltinsAt mg pt->FnOk l.prog w (K w.params) mg base CX0 10 fa fd ["_law_script"] (wS (K w.params) pt)) :
  OC q loose XP YP l.row.toRowW d [] (λ f vs=>Of f vs):=
 L2.wy (n:=63) (k:=10) (x:="_law_script") (CX:=λ _=>CX0) (sp:=λ w pt=>wS (K w.params) pt) hn (by decide) hdf ⟨rfl,by decide,by decide,rfl⟩ hY hYT hnt F (λ _ _ a ns hl hP hS=>⟨a,ns,rfl,hS,hl,.inl hP,λ _=>rfl⟩) λ _ _ _ _ _ z=>z
end Fs
open PySem PySem.W PyProof.Rows
set_option maxRecDepth 100000 in
set_option maxHeartbeats 0 in
theorem PySem.Challenge.cw_figuresort_k49_the_first_row_holds : PySem.Challenge.rw_figuresort_k49_the_first_row.Holds := by
 w_on; refine holds_law Fs.Eg λ said=>?_
 refine holds_open (q:=Fs.vwF) (loose:=Fs.loF) (Xt:=Fs.xtF) (XP:=XL Fs.vwF []) (YP:=Hook.says Fs.j7) Fs.Ef (Hook.of Fs.j7) (Hook.keeps Fs.j7) (λ s e=>xl_of s (M3.mp e).1) XL.keeps (by rfl) (by rfl) (by rfl) (λ s e=>recFacts_of (M3.mp e).2) (by rfl) said (by decide +kernel) ⟨rfl,rfl,rfl,rfl,rfl,by decide +kernel⟩ ?hw ?hc
 (case hw=>w_witness2)
 delta Fs.j7
 k_fill
 refine' Fs.DM (l:=Jf) (pt:=?pt) rfl rfl (λ w h Y=>PySem.W.km_in_of Y) (λ w h Y=>PySem.W.km_tabs_of Y _ (PU _ (PV _))) ?nt ?F
 case F=>
  intro w mg fa h KX G hmg
  refine' Fs.Da KX G hmg ?a0 ?i0 ?F0 ?a1 ?F1 ?a2 ?F2 ?a3 ?F3 ?a4 ?F4 ?a5 ?F5 ?a6 ?F6 ?a7 ?F7 ?a8 ?F8 ?a9 ?F9 ?a10 ?F10 ?a11 ?F11 ?a12 ?F12 ?a13 ?F13 ?a14 ?F14 ?a15 ?F15 ?a16 ?F16 ?a17 ?F17 ?a18 ?F18 ?a19 ?F19 ?a20 ?F20 ?a21 ?F21 ?a22 ?F22 ?a23 ?F23 ?a24 ?F24 ?a25 ?F25 ?a26 ?F26 ?a27 ?F27 ?a28 ?F28 ?a29 ?F29 ?a30 ?F30 ?a31 ?F31 ?a32 ?F32 ?a33 ?F33 ?a34 ?F34 ?a35 ?F35 ?a36 ?F36 ?a37 ?F37 ?a38 ?F38 ?a39 ?F39 ?a40 ?F40 ?a41 ?F41 ?a42 ?F42 ?a43 ?F43 ?a44 ?F44 ?a45 ?F45 ?a46 ?F46 ?a47 ?F47 ?a48 ?F48 ?a49 ?F49 ?a50 ?F50 ?a51 ?F51 ?a52 ?F52 ?a53 ?F53 ?a54 ?F54 ?a55 ?F55 ?a56 ?F56 ?a57 ?F57 ?a58 ?F58 ?a59 ?F59 ?a60 ?F60 ?a61 ?i61 ?F61 ?a62 ?F62 ?a63 ?F63 ?a64 ?F64 ?a65 ?F65 ?a66 ?F66 ?a67 ?F67 ?a68 ?F68 ?a69 ?F69 ?a70 ?F70 ?a71 ?F71 ?a72 ?F72 ?a73 ?F73 ?a74 ?F74 ?a75 ?F75 ?a76 ?F76 ?a77 ?F77 ?a78 ?F78 ?a79 ?F79 ?a80 ?F80 ?a81 ?F81 ?a82 ?F82 ?a83 ?F83 ?a84 ?F84 ?a85 ?F85 ?a86 ?F86 ?a87 ?F87 ?a88 ?l88 ?c88 ?k88 ?bY ?u7 ?xw ?qk ?cY ?rp ?aN ?cZ ?ql ?xx ?va ?A5 ?gW ?iN ?rq ?A6 ?j6 ?A7 ?hcc ?hchd ?ag_READERS ?at_READERS ?ag_ASKS ?at_ASKS ?ac_BadOrder ?ac_BadRow ?ac_Desk ?ac_NotRising ?ac_SortError ?ac_TooGreat ?g1 ?g2 ?g3 ?g4 ?g5 ?g6 ?g7 ?g8 ?g9 ?ga ?gb ?eF ?lR ?pg_Desk ?hd_Desk ?po_Desk ?sa_Desk ?mk_Desk ?kc_Desk ?bQ ?bP ?bR ?be ?ow_BadRow ?ej ?sa_BadRow ?ov_BadRow ?hd_BadRow ?n_BadRow_line ?bX ?ag_TEXT_BASE ?ag_FIGURES ?ag_MOST_FIGURES ?ag_LEAST_BASE ?ag_MOST_BASE ?ag_MOST_KEYS
  iterate 2 all_goals (first | k_is | exact L2.xH (by k_is) (by k_is) (by k_is) | skip)
  (case hcc=>exact rfl)
  all_goals kernel_rfl
 case nt=>
  intro w
  kernel_rfl
