import PyProof.Rows.All
import Wide.All
import OpenK.AllK
import Wide.FinOn
import Lean
import PyProof.EqAt
import PyProof.EqKinds
import PyProof.TupleCall
import PySem.Challenge.RW_figuresort_k60_whole_one_order_by_every
set_option compiler.extract_closed false
local macro_rules
 | `(tactic|lia)=>`(tactic|first | lia (config:={}) | omega)
local macro_rules
 | `(⋯)=>`(by lia)
open List renaming getElem?_eq_getElem→GE,length_map→GF,getD_eq_getElem?_getD→GG,getElem?_map→GK,getElem?_eq_some_iff→GM,take_of_length_le→GN,range→GO,map_append→GP,size_toArray→GQ,replicate→GS,mem_append_right→GT,getElem?_append_left→GU,getElem_mem→GV,length_append→GY,mem_cons→GZ,mem_singleton→G0,mem_of_getElem?→G3,take_add_one→G4,length_take→G5,getElem?_append_right→G6,pairwise_iff_getElem→G7,length_cons→G8,mem_append→Hc,mem_cons_of_mem→Hd,mem_range→Hg,mem_cons_self→Hj,mem_map→Hk,length_drop→Hm,not_mem_nil→Ho,toArray→Hs,drop_zero→Ht,getElem_of_mem→Hv,mem_append_left→Hy,pairwise_append→Hz,length→HL,set→HM,nodup_cons→HQ,range'→HS,append_assoc→HV,length_eq_zero_iff→HZ,replicate_succ→Ia,length_nil→Ib,length_range→Ic,length_singleton→Ie,map_cons→Ig,length_pos_iff→Ij,lookup→Ik,getElem?_range→Ir,map_congr_left→Iu,length_replicate→Iz,append_nil→IB,all_eq_true→IC,length_reverse→IF,take_append_drop→II,zip_cons_cons→IJ,getElem?_drop→IM,sum_cons→IP,pairwise_singleton→IS,map_map→IV,pairwise_cons→IY,map_replicate→IZ,flatten_cons→Jg,pairwise_map→Jr,drop_eq_getElem_cons→Jt,range_eq_range'→Ju,ext_getElem→Jy,mem_reverse→Jz,flatten_replicate_singleton→JA,filterMap_cons→JC,getElem?_replicate→JE,mem_filterMap→JF,sum_append→JH,count_append→JP,mem_range'_1→JQ,getElem_drop→JR,getElem?_eq_none→JV,eq_nil_or_concat→JW,perm_append_comm→JX,getElem?_concat_length→J7,mem_iff_getElem→J9,getElem?_of_mem→Ka,getElem_map→Kb,mem_of_mem_take→Kc,map_take→Ki,map_drop→Kj,length_set→Kn,getElem?_take_of_lt→Kr,zip_nil_right→Ks,eq_of_mem_replicate→Kw,drop_drop→Ky,zip_nil_left→KE,getElem?_set→KF,getElem_take→KH,getElem?_set_self→KJ,pairwise_lt_range→KL,all_cons→KM,map_reverse→KR,filter_cons→KU,getElem?_reverse→KW,concat_eq_append→KY,eraseIdxIfInBounds_toArray→KZ,mem_filter→K0,getElem?_set_ne→K1,nil_append→La,range_succ→Li,replicate_succ'→Lk,reverse_append→Ln,map_singleton→LB,getElem?_take→LC,nodup_iff_pairwise_ne→LM,mem_take_iff_getElem→LY,map_nil→L7,lookup_cons→Ma,cons_append→Me,getElem?_cons_succ→Mn,of_mem_zip→Mr,forIn_cons→Ms,count_cons→Mt,drop_of_length_le→Mz,range_succ_eq_map→ML,forIn_nil→MO,perm_cons→MR,drop_left→MU,take_left→MV,filterMap_append→MX,cons_lt_cons_iff→MY,range'_append_1→Nb,mem_of_mem_drop→Nc,take_succ_cons→Nh,toList_toArray→Ni,getElem_range'→Nj,map_eq_nil_iff→Nl,perm_iff_count→Nm,count_eq_zero→NA,getElem_range→NC,length_range'→NH,take_sublist→NW,reverse_cons→NX,mapM_toArray→N1,filter_congr→N6,nodup_range→Ot,zipIdx_cons→Ou,countP_cons→Ow,map→Ox,take_length→Oy,perm_middle→OA,foldl→OF,zipIdx_nil→ON,take_left'→OV,lt_irrefl→O0,take_succ→O2,count_nil→O3,map_set→PZ,count→Qu
open PySem.W renaming Frag→GH,findIn→Hh,mg_none_of→Hu,nsIn→Hw,isFn→Iy,kia_one→IA,keepIn→ID,emptyDict→IE,kia_tup→IH,instObj→Ja,fnOf→Jd,plainGet→Jw,hasDictIn→JN,kitOne→JS,mg_of→Kk,callWith_K→Kp,plainOver→KC,kitx_list→KD,codeHdIn→KS,makesIn→K2,plainGet_of→Ll,lookIn→Lo,codeIn→Lp,kitx_tuple→Ls,methodObj→LP,kitx_none→LQ,kitx_int→L4,takerIn→Mq,OpenLaw→Mu,cellsFrom_some→Mx,methodCall_KW→MM,callWith_K0→Nf,kitx_bool→NT,kitx_dict→NU,handedIn→Of,kitx_str→Og,kitAny→OY,WalkO→Pc
open PySem.Heap renaming get?_push_of_some→GI,lt_size→GX,get?_push_size→G1,size_push→Jj,get?_update_other→JL,size_update→Ke,get?_push_ne→KG,SameBut→L1,get?_update_self→MN,IsTuple→P0
open Nat renaming le_refl→GJ,zero_le→GW,ne_of_lt→Hf,lt_of_lt_of_le→Hi,lt_of_le_of_lt→HR,le_trans→HU,le_add_right→Ii,lt_trichotomy→Iv,lt_irrefl→Iw,le_of_lt→IU,ne_of_gt→Jb,lt_or_ge→Jf,min_eq_left→Jn,gcd→Jv,sub_self→JB,eq_zero_or_pos→JI,not_lt_zero→JJ,lt_succ_of_lt→JO,succ_le_succ→J8,add_assoc→Kh,lcm→Kl,le_of_eq→Ko,add_sub_cancel→Kv,lt_succ_self→KQ,add_comm→K4,pow_succ→Lb,sub_zero→Le,zero_add→Lh,mul_le_mul_left→Lm,le_of_dvd→LL,gcd_dvd_right→LS,mod_lt→LW,mul_div_cancel_left→Ml,pos_of_mul_pos_left→Mm,gcd_pos_of_pos_left→Mo,le_succ→Mw,pow_pos→ME,add_zero→NB,lt_or_gt_of_ne→ND,eq_or_lt_of_le→NF,gcd_zero_right→NJ,mul_add→Oc,mul_one→Od,min_le_right→Oh,gcd_dvd_left→On,succ_ne_self→Oq,mod_eq_of_lt→OB,log2_le_self→OD,div_pos_iff→OJ,div_le_self→OL,dvd_trans→Pa,succ_mul→PV,mul_comm→PX,gcd_comm→PY,one_mul→Ql,mod_mul→Qn
open PySem.Challenge renaming pw_figuresort_k60_whole_one_order_by_every→GL,rw_figuresort_k60_whole_one_order_by_every→Hx
open True renaming intro→GR
open Option.some renaming inj→G9,injEq→NZ
open Bool renaming false_ne_true→Ha,false_eq_true→HY,and_eq_true→Ip,eq_iff_iff→JG,not_true→LI,false_or→LJ,and_eq_true_iff→Nd,true_or→Nt,or_true→Nv,and_false→OX
open PySem.PassesOwn renaming never→Hb
open PySem.Str renaming ofString→He,length→LU,empty→O6,join→Q0
open Ne renaming symm→Hl
open PySem.Obj renaming mapSeq→Hn,data_mapFields→Nz
open PySem.Value renaming ref→Hq,none→Hr,type→Jl,isStrOf→Jo,int→JZ,bool→Kx,str→Lr,notImplemented→Na,float→N7,isInt→Qc,bytes→Qd
open PyProof.Rows renaming callWith_type1→HN,slot_tuple_getitem→Il,callWith_builtin1→OE,lt_int→Qv,le_int→Qw,gt_int→Qx
open Int renaming toNat_natCast→Ih,natCast_ediv→Jk,emod_nonneg→JK,natCast_mul→Lj,mul_lt_mul_of_pos_right→LA,fdiv_eq_ediv_of_nonneg→LF,lt_of_mul_lt_mul_right→LO,natCast_emod→Mg,eq_ofNat_of_zero_le→Mh,toNat_of_nonneg→Nk,le_trans→Nu,le_of_lt→Nw,emod_lt_of_pos→NI,mul_left_comm→N4,mul_one→Oa,mul_pos→Oe,natCast_add→OM,ediv_nonneg→OT,natCast_pos→OU,mul_nonneg→O1,mul_assoc→Pd,ediv_one→PU,mul_comm→Qa,lt_or_le→Qb,le_refl→Qm,toNat→QL
open PySem.Builtin.Range renaming rangeSize→Im,small→JD,rangeFitsLong→J6
open Option renaming map_eq_some_iff→Io,isSome_iff_exists→Jc,getD_none→L8,map_some→Mp,getD_some→Om,toList→Pe,none→Qh
open PySem.Builtin.SmallTypes renaming nextOf→Iq,ownedTupleIsFree→IQ,ownedTupleHandOut→Ku
open False renaming elim→IG
open PySem.Builtin.List renaming listTooLong→IK,listSubscript?→Lw,listAllItems→LV,listSameRef→L9,listExtendWith→O7,listItems→Qg
open List.Pairwise renaming imp_of_mem→IL,nil→Jq
open PySem.F renaming plainAttrs_list→IR,plain_max_loop→IW,slot_tuple_iterator_next→Jp,slot_zip_next→Lc,args_tuple_iterator_next_1→Lq,entry_tuple_iterator_next→Ly,slot_list_extend→Mc,type_list_extend→Md,plain_list_iadd→Mi,args_tuple_gt_2→Mj,entry_tuple_gt→MG,entry_max_loop→MI,slot_list_pop→MP,type_list_pop→MQ,slot_tuple_lt→MT,slot_tuple_gt→MW,args_list_extend_2→M3,entry_list_extend→Ng,slot_list_extend→Nr,args_zip_next_1→N0,entry_list_pop→Oj,entry_zip_next→Ov,slot_list_pop→OG,slot_int_rmul→OH
open Array renaming length_toList→IT,getD_eq_getD_getElem?→Jm,getElem?_toList→JT,getD→Lf,perm_iff_toList_perm→LN,mem_toList_iff→MZ,forIn_toList→NG,size_append→NY,toList→Px
open List.Perm renaming refl→IX,append_left→MS,trans→OO,append_right→Qk,cons→Q2
open PySem.Builtin.Tuple renaming tupleCompareSizes→I0,tupleExact→Jx,tupleItemsOf→LH
open PySem.AutoSeq1 renaming sub_tuple_tuple→Je,wpAny_loadPart'→Ld,list_insert_list_int_val_1→NQ,list_extend_list_list_0→Oi
open PySem renaming mem_of_lookup→Jh,field→JM,strKind→KN,Within→Nn,call→OI,seqItems?→OK,Str→Qy,Fin→QK
open PySem.Heap.SameBut renaming update→Ji
open PySem.Builtin.Slice renaming slicePlaces→Js,sliceAdjust→Km,sliceApplied→LG,slicePartIndex→OW,sliceFields→Pu
open Or renaming inl→JU,inr→QJ
open PySem.PyData renaming keyHash→JY,strOk→Mf,canLayAll0→N2,depthAll→OP,eqv→OR,canLay0→OZ
open PySem.Around renaming under_plainId→Kg,under→L6
open PyProof renaming noPylong_of_log2→Kt
open PySem.SetTable renaming Probe→Kz,leap→KO,bits→KP,runEnd→OS
open Prod.mk renaming inj→KI
open PyProof.Rows.SortSt renaming mk'→Lg
open PySem.Calls renaming spliced_cons→Lu,Name_function_global→LD,spliced_nil→LR,callWith_builtin→My
open PySem.Heap.IsSliceOf renaming new→Lv
open PySem.W.KFB renaming if_not→Lx,if_so→QQ
open PySem.Builtin.Builtins renaming bindParams→Lz
open PySem.SeqAt.RcNeAt renaming lists_lengths→LK,lists→Ny
open Classical renaming byContradiction→LX
open Sum renaming inl→LZ,inr→L0
open PySem.SeqAt.RcAt renaming lists_lengths→Mb,lists→Oo,tuples→QR
open PySem.IsRange renaming new→Mv
open PySem.Code renaming isFrame→Np,isGuard→PQ,frames→Qe
open PySem.SeqAt.EqAt renaming int_int→Nq,int_int→P1,int_str→Qz,str_int→QD
open PySem.W.Fast renaming tw10156331382660048174→NK,tw11892475500146522536→NL,tw14364793385576792824→NM,te10156331382660048174→NN,te11892475500146522536→NO,te14364793385576792824→NP,tw6613529449190102663→NR,te6613529449190102663→NS
open PySem.Data renaming fields→N8,cell→O5,seq→QZ
open PySem.Walks renaming range→N9,tuple→Qi,list→Qs
open PySem.AutoListH renaming list___mul___list_int_3→Ob
open PySem.IsL renaming isList→Ol,update→QY
open PySem.SeqAt renaming EqAt→Oz,compareEq_reads→O8,EqAt→Qq
open PySem.Txt renaming join→OC
open StateT renaming run_pure→OQ
open PyProof.Rows.IsTup renaming new→O4
open PySem.Paired renaming length→O9
open PySem.CmpOf renaming ints_gt→Pb
open Int.ofNat renaming inj→Pf
open PySem.EqNone renaming eq_none_none→Pg,eq_none_bool→Ph,eq_bool_none→Pi,ne_none_none→Pl,ne_none_bool→Pn,ne_bool_none→Po,eq_none_int→Py,eq_none_str→Pz,eq_int_none→PC,eq_str_none→PF,ne_none_int→PJ,ne_none_str→PK,ne_int_none→PL,ne_str_none→PN
open PySem.EqMixed renaming eq_bool_str→Pj,eq_str_bool→Pk,ne_bool_str→Pp,ne_str_bool→Pq,eq_int_str→PD,eq_str_int→PH,ne_int_str→PM,ne_str_int→PP
open PySem.W.OpenLaw renaming wellSaid→Pw
open PySem.MeetsSeq renaming list_pop_last→Qf,list_pop_at→Qr
open PySem.Shared renaming heap→Qj
open List.Sublist renaming count_le→Qo
open PySem.W.RowW renaming records→Qp
open PySem.Draws renaming list→Qt
open PySem.Flow renaming next→QF
open PySem.W.Looks renaming here→QH
open Lean.Name renaming mkSimple→QM
open PySem.Within renaming cons→QN
open PySem.Heap.Ns1 renaming of_empty→QP
open PySem.Heap.IsTuple renaming push→QU
open PySem.Builtin.Str renaming glued→QV
open PySem.DictEntry renaming refKey→QX
open Array.Perm renaming refl→Q1
open List.cons renaming inj→Q4
open List.Mem renaming head→Q5
open PySem renaming wpAny_bind→Rh,wpAny_pure→Ri,sizeLine→Rj,starEach→Rl,compareOp→Rm,wpAny_mono→Ro,wpAny_holding→Rq,foldedSetIterable→Rr,sizeLine_eq→Rt,wpAny_field→Ru,wpAny_loadPart'→Rv,attributeBase→Rw,wpAny_callSpecial?_slot→Rx,wpAny_newObj_type→Ry,wpAny_seqItems→Rz,wpAny_Call_Name_kw→RA,holding→RB,wpAny_truthy_bool→RD,wpAny_call_entry→RE,binaryOp→RF,assignEach→RG,wpAny_passesOwn→RH,wpAny_standAt→RI,rawInt→RJ,IsPair→RK,sliceBounds→RL,wpAny_pyIter_tuple→RM,wpAny_setField_rec→RN,call_meets→RQ,wpAny_letGo→RR,standAt→RS,swapsWith→RT,backTo→RU,swapsWithSole→RV,swappedStores→RW,behindInMarks→RX,intItems→RY,wpAny_rule→RZ,inplaceOp→R0,keywordEach→R4,richCompare→R7
open PyProof.Rows renaming IntsAre→Rp,get?_update_seq→RO,listUpdate_at→RP
set_option Elab.async false
set_option maxRecDepth 100000
set_option maxHeartbeats 0
namespace Fs
open PySem PySem.Spec PyProof.Rows
local macro_rules
 | `(tactic| o_head $_)=>`(tactic| assumption)
open PySem PySem.W PyProof.Rows in
theorem Kf(h:Hx.row.Holds):Hx.row.Holds:=by
 w_on;k_head
open PySem PySem.W PyProof.Rows in
def asF:List Addr:=[2,3,15,17,18,20,21,22,24,25,27,28,29,31,32,34,35,36,39,40,41,43,44,46,47,48,51,52,53,56,57,58,61,62,63,70,71,72,73,76,83,84,85,88,95,96,97,100,107,109,110,112,113,114,115,116,119,121,122,124,125,126,128,129,131,132,133,135,136,138,139,140,143,144,145,147,148,150,151,152,154,155,157,158,159,161,162,164,165,166,168,169,171,172,173,176,177,178,180,181,183,184,185,188,189,190,192,193,195,196,197,199,200,202,203,204,206,207,209,210,211,213,214,216,217,218,220,221,223,224,225,228,229,230,233,234,235,238,239,240,243,244,245,247,248,250,251,252,255,256,257,260,261,262,265,266,267,268,271,272,273,275,276,278,279,280,282,283,285,286,294,297,298,299,301,302,304,305,306,308,309,311,312,313,316,317,318,319,320,321,322,325,327,328,330,331,332,334,335,337,338,346,348,349,351,352,353,356,357,358,360,361,363,364,365,368,369,370,372,373,375,376,377,380,381,382,384,385,387,388,389,390,391,392,393,396,398,399,401,402,403,405,406,408,409,410,412,413,415,416,417,419,420,422,423,424,426,427,429,430,431,433,434,436,437,438,440,441,443,444,445,448,449,450,452,453,455,456,457,459,460,462,463,464,467,468,469,471,472,474,475,476,478,479,481,482,483,485,486,488,489,490,492,493,495,496,497,499,500,502,503,504,507,508,509,512,513]
open PySem PySem.W PyProof.Rows in
@[reducible] noncomputable def jw:Hook:=kmHook Kf.heap_1 asF (λ_=>by kernel_rfl) [146]
def FR(i:Nat):Stmt:=GL.main.body.getD i (.Pass ⟨0,0,0,0⟩)
def vwF:Program:={ GL with main:={ GL.main with body:=[1,2,3,4,5,7,8,10,12,13,14,15,17,18,19,20,21,22,24,25,26,27,28,29,31,32,34,35,36,37,38,39,40,41,43,44,45,46,47,49,50,51,52,54,55,57,58,59,60,61,62,63,64,65,66,67,68,69,70,71,72,73,74].map FR } }
def loF:List Qy:=["DONE"]
def xtF(s:Shared):Bool:=PySem.W.xlAt vwF [] s && PySem.W.recOk (Qp Hx.row.toRowW) s
open PySem.W in
noncomputable def xx(P:Params):BT:=((((((((((BT.nil.ins 0 (boot_o_0 P)).ins 1 (boot_o_1 P)).ins 2 (boot_o_2 P)).ins 3 (boot_o_3 P)).ins 4 (boot_o_4 P)).ins 5 (boot_o_5 P)).ins 6 (boot_o_6 P)).ins 7 (boot_o_7 P)).ins 8 (boot_o_8 P)).ins 9 (boot_o_9 P)).ins 10 (boot_o_10 P)
open PySem.W in
theorem ur(P:Params):absHeap (xx P) 11 (boot_heap P).life=boot_heap P:=by kernel_rfl
open PySem.W in
noncomputable def j6(p:Program)(w:World)(n0:Nat)(ann:Option Value):Nat->SharedT->Thread->Option SharedT
 | 0,_,_=>none
 | n+1,s,t=>match through t with
  | true=>some s
  | false=>match NR n0 ann t with
   | false=>none
   | true=>match NK (NL NM) p w s t with
    | some (s',t')=>j6 p w n0 ann n s' t'
    | none=>none
open PySem.W in
theorem jG{p:Program}{w:World}{n0:Nat}{ann:Option Value}:∀{n:Nat}{s s':SharedT}{t:Thread},j6 p w n0 ann n s t=some s'->topRun treeTable p w n0 ann n s.abs t=some s'.abs
 | 0,_,_,_,h=>by cases h
 | n+1,s,s',t,h=>by
  unfold j6 at h;rw[<-NS,<-NN,<-NO,<-NP]at h;unfold topRun;cases ht:through t with
  | true=>rw[ht]at h;cases h;rfl
  | false=>
   rw[ht]at h;cases hk:stepOk n0 ann t with
   | false=>rw[hk]at h;cases h
   | true=>
    rw[hk]at h;cases hs:stepT (denote treeTable) p w s t with
    | none=>rw[hs]at h;cases h
    | some r=>obtain⟨s2,t2⟩:=r;rw[hs]at h;rw[stepT_spec hs];exact jG h
open PySem.W in
theorem Da{p q:Program}{loose:List Qy}{Xt:Shared->Bool}{α:Type}{Yf:Shared->α}{Ya:World->α}{N:Nat}{g0:Bool}(row:String)
  (h:∀(b:Bool) (w:World),(fencedOpening treeTable p w N).map (λs₀=>(topFrom treeTable p (w.withFollow row b) N s₀).map (λs=>(openSeen q loose (importedModules p.main.body) Xt g0 s,Yf s)))=some (some (openGood q loose,Ya (w.withFollow row b)))):LeftO p q loose Xt Yf Ya N g0:=by
 refine LeftO.of_split row λw=>?_
 obtain⟨s,a,b⟩:=Io.mp (h false w);obtain⟨s',a',b'⟩:=Io.mp (h true w);rw[a]at a';cases a';rw[a,Mp,b,b']
open PySem.W in
def CM (b:Bool) (w:World):Prop:=(fencedOpening treeTable GL w 6902).map (λs₀=>(topFrom treeTable GL (w.withFollow "special-get-raises" b) 6902 s₀).map (λs=>(openSeen vwF loF (importedModules GL.main.body) xtF true s,Hook.obs jw s)))=some (some (openGood vwF loF,Hook.val jw (w.withFollow "special-get-raises" b)))
open PySem.W in
noncomputable def xy (b:Bool) (w:World) (os:OsState):Option SharedT:=j6 GL (w.withFollow "special-get-raises" b) 11 ((boot_heap w.params).nsMap mainGlobals "__annotations__") 6902 ⟨xx w.params,11,(boot_heap w.params).life,Array.mk [],boot_drawn,boot_toks,os⟩ (topStub GL)
open PySem.W in
def Pt0(b:Bool)(w:World):Prop:=(λos=>(xy b w os).map (λsT=>((staticsOk (importedModules GL.main.body) (boot_heap w.params) sT.abs.heap && namesBound GL sT.abs.heap && gensDone sT.abs && laidKept (boot_heap w.params) sT.abs.heap),sT.abs.heap.bltView,(true && sT.abs.heap.accountedOkI (importedModules GL.main.body) && sT.abs.heap.isNs mainGlobals && sT.abs.heap.isNs builtinsNs && tablesOk vwF sT.abs.heap && xtF sT.abs && (if true=true then sT.abs.gens.size == 0 else !leftWithCleanup sT.abs.gens)),plainSeenD vwF loF sT.abs,clsSeenW vwF loF sT.abs,pinSeenD vwF (drecsOf vwF) sT.abs)))=λ_=>some (true,bltViewBooted,true,plainGoodD vwF loF,clsGoodW vwF loF,pinGoodD (drecsOf vwF))
open PySem.W in
def Pt1(b:Bool)(w:World):Prop:=(λos=>(xy b w os).map (λsT=>seen ((recsOf vwF).map (·.name)) (ownsOf vwF) [] { sT.abs with gens:=#[] }))=λ_=>some (expectedOf vwF)
open PySem.W in
def Pt2(b:Bool)(w:World):Prop:=(λos=>(xy b w os).map (λsT=>sT.abs.heap.keysOk (looseW vwF loF) ((recsOf vwF).map (·.name)) ((litsOf vwF).map (·.1)) ((clssOf vwF (looseW vwF loF)).map (·.name))))=λ_=>some (true)
open PySem.W in
def Pt3(b:Bool)(w:World):Prop:=(λos=>(xy b w os).map (λsT=>tabsOk vwF sT.abs))=λ_=>some (true)
open PySem.W in
def Pt4(b:Bool)(w:World):Prop:=(λos=>(xy b w os).map (λsT=>plainSeenE vwF (looseW vwF loF) sT.abs))=λ_=>some (plainGoodE vwF (looseW vwF loF))
open PySem.W in
def Pt5(b:Bool)(w:World):Prop:=(λos=>(xy b w os).map (λsT=>wideSeen vwF sT.abs))=λ_=>some (wideGood vwF)
open PySem.W in
def Pt6 (b:Bool) (w:World):Prop:=(λos=>(xy b w os).map (λsT=>Hook.obs jw sT.abs))=λ_=>some (Hook.val jw (w.withFollow "special-get-raises" b))
open PySem.W in
theorem Dc(P:Params):((boot_heap P).isNs mainGlobals,(boot_heap P).objs.size)=(true,11):=by kernel_rfl
open PySem.W in
theorem z7:opening GL=plainProg GL.main.scope.names:=by rfl
open PySem.W in
theorem z8(s:Shared):fenceModules? GL s=some s:=by rfl
theorem p0f(w:World):Pt0 false w:=by unfold Pt0;kernel_rfl
theorem p0t(w:World):Pt0 true w:=by unfold Pt0;kernel_rfl
theorem p1f(w:World):Pt1 false w:=by unfold Pt1;kernel_rfl
theorem p1t(w:World):Pt1 true w:=by unfold Pt1;kernel_rfl
theorem p2f(w:World):Pt2 false w:=by unfold Pt2;kernel_rfl
theorem p2t(w:World):Pt2 true w:=by unfold Pt2;kernel_rfl
theorem p3f(w:World):Pt3 false w:=by unfold Pt3;kernel_rfl
theorem p3t(w:World):Pt3 true w:=by unfold Pt3;kernel_rfl
theorem p4f(w:World):Pt4 false w:=by unfold Pt4;kernel_rfl
theorem p4t(w:World):Pt4 true w:=by unfold Pt4;kernel_rfl
theorem p5f(w:World):Pt5 false w:=by unfold Pt5;kernel_rfl
theorem p5t(w:World):Pt5 true w:=by unfold Pt5;kernel_rfl
theorem p6f(w:World):Pt6 false w:=by unfold Pt6;kernel_rfl
theorem p6t(w:World):Pt6 true w:=by unfold Pt6;kernel_rfl
open PySem.W in
theorem wH{b:Bool}{w:World}(q0:Pt0 b w)(q1:Pt1 b w)(q2:Pt2 b w)(q3:Pt3 b w)(q4:Pt4 b w)(q5:Pt5 b w)(q6:Pt6 b w):CM b w:=by
 obtain⟨⟨hp,gs,d,k,os⟩,e,e'⟩:=Io.mp (boot_open (p:=GL) (N:=6902) z7 rfl z8 w);obtain⟨rfl,rfl,rfl,rfl⟩:hp=boot_heap w.params/\gs=Array.mk []/\d=boot_drawn/\k=boot_toks:=by simpa using e'
 obtain⟨sT,hs,v0⟩:=Io.mp (congrFun q0 os);have v1:=congrFun q1 os;rw[hs]at v1;replace v1:=G9 v1;dsimp only at v1;have v2:=congrFun q2 os;rw[hs]at v2;replace v2:=G9 v2;dsimp only at v2;have v3:=congrFun q3 os;rw[hs]at v3;replace v3:=G9 v3;dsimp only at v3;have v4:=congrFun q4 os;rw[hs]at v4;replace v4:=G9 v4;dsimp only at v4;have v5:=congrFun q5 os;rw[hs]at v5;replace v5:=G9 v5;dsimp only at v5;have v6:=congrFun q6 os;rw[hs]at v6;replace v6:=G9 v6;dsimp only at v6;obtain⟨y0_0,z0_0⟩:=KI v0;obtain⟨y0_1,z0_1⟩:=KI z0_0;obtain⟨y0_2,z0_2⟩:=KI z0_1;obtain⟨y0_3,z0_3⟩:=KI z0_2;obtain⟨y0_4,z0_4⟩:=KI z0_3;have r:=jG hs;rw[show SharedT.abs ⟨xx w.params,11,(boot_heap w.params).life,Array.mk [],boot_drawn,boot_toks,os⟩=⟨boot_heap w.params,Array.mk [],boot_drawn,boot_toks,os⟩by unfold SharedT.abs;rw[ur]]at r;obtain⟨z1,z2⟩:=KI (Dc w.params);unfold CM;rw[e];refine congrArg some ?_;have tf:topFrom treeTable GL (w.withFollow "special-get-raises" b) 6902 ⟨boot_heap w.params,Array.mk [],boot_drawn,boot_toks,os⟩=some sT.abs:=by
  unfold topFrom;dsimp only;rw[z1,z2,r];show(match _ with|true=>some sT.abs|false=>none)=_
  rw[y0_0]
 show Option.map _ (topFrom treeTable GL (w.withFollow "special-get-raises" b) 6902 ⟨boot_heap w.params,Array.mk [],boot_drawn,boot_toks,os⟩)=_
 rw[tf];refine congrArg some (congr (congrArg Prod.mk ?_) v6);unfold openSeen openGood;rw[v1,y0_1,v2,y0_2,v3,z0_4,v4,y0_3,v5,y0_4]
theorem Dd(w:World):CM false w:=wH (p0f w) (p1f w) (p2f w) (p3f w) (p4f w) (p5f w) (p6f w)
theorem De(w:World):CM true w:=wH (p0t w) (p1t w) (p2t w) (p3t w) (p4t w) (p5t w) (p6t w)
open PySem.W in
theorem Df:LeftO GL vwF loF xtF (Hook.obs jw) (Hook.val jw) 6902:=Da "special-get-raises" λb w=>by cases b;exact Dd w;exact De w
theorem Dg:Pw Hx=true:=by kernel_rfl
end Fs
set_option compiler.extract_closed false
set_option Elab.async false
set_option linter.all false
set_option maxRecDepth 100000
namespace L2
open PySem PySem.Spec PyProof.Rows
noncomputable abbrev Key:=Sum Int Str
noncomputable def Aa:Key->Value->Bool
 | .inl k,v=>Qc k v
 | .inr x,v=>Jo x v
noncomputable def FS(w:World):Key->Int
 | .inl k=>hashInt k
 | .inr x=>hashStr w x
theorem bN:∀{k:Key}{v:Value},Aa k v=true->(∃i t,k=LZ i/\v=JZ i t)\/(∃x t,k=L0 x/\v=Lr x t)
 | .inl i,v,h=>by
  obtain⟨t,e⟩:=Value.isInt_shape (k:=i) (v:=v) h;exact .inl ⟨i,t,rfl,e⟩
 | .inr x,v,h=>by
  obtain⟨t,e⟩:=Value.isStrOf_shape (x:=x) (v:=v) h;exact .inr ⟨x,t,rfl,e⟩
theorem Ab(a b:Int):decide ((LZ a:Key)=LZ b)=(a == b):=by
 by_cases e:a=b
 ·subst e;simp
 ·have h:¬(LZ a:Key)=LZ b:=λq=>e (Sum.inl.inj q)
  rw[decide_eq_false h];exact(beq_eq_false_iff_ne.mpr e).symm
theorem Ac(a b:Str):decide ((L0 a:Key)=L0 b)=decide (a=b):=by
 by_cases e:a=b
 ·subst e;simp
 ·have h:¬(L0 a:Key)=L0 b:=λq=>e (Sum.inr.inj q)
  rw[decide_eq_false h,decide_eq_false e]
theorem Ae(a:Int)(b:Str):decide ((LZ a:Key)=L0 b)=false:=decide_eq_false (λq=>nomatch q)
theorem Af(a:Str)(b:Int):decide ((L0 a:Key)=LZ b)=false:=decide_eq_false (λq=>nomatch q)
noncomputable def mL(prog:Program)(w:World):PySem.KeyKind prog w Key where
 is:=Aa
 hash:=FS w
 inj:=λv a b ha hb=>by
  rcases bN ha with⟨i,t,rfl,rfl⟩|⟨x,t,rfl,rfl⟩
  ·rcases bN hb with⟨j,u,rfl,e⟩|⟨y,u,rfl,e⟩
   ·injection e with e1 _;rw[e1]
   ·exact nomatch e
  ·rcases bN hb with⟨j,u,rfl,e⟩|⟨y,u,rfl,e⟩
   ·exact nomatch e
   ·injection e with e1 _;rw[e1]
 byValue:=λk v h=>by
  rcases bN h with⟨i,t,rfl,rfl⟩|⟨x,t,rfl,rfl⟩<;>rfl
 pyHash:=λhv h=>by
  rcases bN hv with⟨i,t,rfl,rfl⟩|⟨x,t,rfl,rfl⟩
  ·exact wpAny_pyHash_int h
  ·exact wpAny_pyHash_str h
 eqBool:=λhu hv h=>by
  rcases bN hu with⟨i,t,rfl,rfl⟩|⟨x,t,rfl,rfl⟩
  ·rcases bN hv with⟨j,u,rfl,rfl⟩|⟨y,u,rfl,rfl⟩
   ·rw[Ab]at h;exact wpAny_eqBool_int h
   ·rw[Ae]at h;exact Qz i t y u _ _ _ _ h
  ·rcases bN hv with⟨j,u,rfl,rfl⟩|⟨y,u,rfl,rfl⟩
   ·rw[Af]at h;exact QD x t j u _ _ _ _ h
   ·rw[Ac]at h;exact wpAny_eqBool_str h
 «strs»:=λk x t v h=>by
  rcases bN h with⟨i,u,rfl,e⟩|⟨y,u,rfl,e⟩
  ·exact nomatch e
  ·injection e with e1 _
   subst e1;cases v<;>rfl
inductive V where
 | non|bl (b:Bool)|int (i:Int)|str (x:Str)|byt (b:Array UInt8)|flt (b:UInt64)|ref (a:Addr)|ty (n:String)
 deriving DecidableEq
noncomputable def RelV:V->Value->Prop
 | .non,u=>u=Hr
 | .bl b,u=>u=Kx b
 | .int i,u=>∃t,u=JZ i t
 | .str x,u=>∃t,u=Lr x t
 | .byt b,u=>∃t,u=Qd b t
 | .flt b,u=>∃t,u=N7 b t
 | .ref a,u=>u=Hq a
 | .ty n,u=>u=Jl n
abbrev Vals:List V->List Value->Prop:=Paired RelV
theorem Vals.length{xs:List V}{us:List Value}(r:Vals xs us):xs.length=us.length:=O9 r
theorem Vals.get:∀{xs:List V}{us:List Value}{i:Nat}{x:V},Vals xs us->xs[i]? = some x->∃u,us[i]? = some u/\RelV x u
 | _,_,_,_,.nil,e=>by simp at e
 | _,_,0,_,.cons r _,e=>by simp at e;subst e;exact⟨_,rfl,r⟩
 | _,_,i+1,x,.cons _ t,e=>by
  obtain⟨u,h1,h2⟩:=Vals.get (i:=i) (x:=x) t (by simpa using e);exact⟨u,by simpa using h1,h2⟩
theorem Vals.set{x:V}{u:Value}(r:RelV x u):∀{xs:List V}{us:List Value}(i:Nat),Vals xs us->Vals (xs.set i x) (us.set i u)
 | _,_,_,.nil=>.nil
 | _,_,0,.cons _ t=>.cons r t
 | _,_,i+1,.cons q t=>.cons q (Vals.set r i t)
theorem Vals.append:∀{xs ys:List V}{us ws:List Value},Vals xs us->Vals ys ws->Vals (xs++ys) (us++ws)
 | _,_,_,_,.nil,s=>s
 | _,_,_,_,.cons r t,s=>.cons r (Vals.append t s)
theorem Vals.take:∀{xs:List V}{us:List Value}(n:Nat),Vals xs us->Vals (xs.take n) (us.take n)
 | _,_,0,_=>.nil
 | _,_,_+1,.nil=>.nil
 | _,_,n+1,.cons r t=>.cons r (Vals.take n t)
theorem Vals.drop:∀{xs:List V}{us:List Value}(n:Nat),Vals xs us->Vals (xs.drop n) (us.drop n)
 | _,_,0,r=>r
 | _,_,_+1,.nil=>.nil
 | _,_,n+1,.cons _ t=>Vals.drop n t
noncomputable def RelO:Option V->Option Value->Prop
 | some v,some u=>RelV v u
 | none,none=>True
 | _,_=>False
def KV{κ:Type}:List (κ×V)->List (κ×Value)->Prop:=Paired λ(p:κ×V) (q:κ×Value)=>p.1=q.1/\RelV p.2 q.2
noncomputable def kV:Key->V
 | .inl i=>.int i
 | .inr x=>.str x
inductive HO where
 /-- a list -/
 | lst (xs:List V)
 /-- a tuple (never changes) -/
 | tup (xs:List V)
 /-- a dict whose keys are ints and texts;one whose keys are tuples of ints and texts (the empty one is both) -/
 | dK (kvs:List (Key×V))|dT (kvs:List (List Key×V))
 /-- a set of ints: its members,its size -/
 | set (S:Int->Bool) (n:Nat)
 /-- an instance of the class at C,its dict at dx,its attributes -/
 | ins (C dx:Addr) (fs:List (Str×V))
 /-- the dict of the instance at x -/
 | own (x:Addr)
 /-- the dict of an exception -/
 | xd (fs:List (Str×V))
 /-- a bound method,f of x -/
 | met (f x:Addr)
 /-- a range object lo,lo+1,.. below hi -/
 | rng (lo hi:Int)
 /-- a thing that is known to the object (the script;a dict while a loop walks it): read,never written while it is so -/
 | frz (o:Obj) (u:HO)
 /-- a code object's table -/
 | tbl (ps:Array Value)
 /-- any other thing,by what is true of its one object (a def of one's own: SetO a S n:=HO.ext λh=>..) -/
 | ext (φ:Heap->Prop)
noncomputable abbrev Hp:=Addr->Option HO
noncomputable def upd(H:Hp)(a:Addr)(o:HO):Hp:=λb=>if b=a then some o else H b
theorem af{H:Hp}{a:Addr}{o:HO}:upd H a o a=some o:=by unfold upd;rw[if_pos rfl]
theorem ar{H:Hp}{a b:Addr}{o:HO}(h:b≠a):upd H a o b=H b:=by unfold upd;rw[if_neg h]
theorem bw{H:Hp}{a b:Addr}{o u:HO}(h:H a=some o)(h':H b=some u)(d:o≠u):a≠b:=by
 intro e;subst e;rw[h]at h';exact d (G9 h')
theorem aq{H:Hp}{a b:Addr}{o:HO}(h:H a=some o)(h':H b=none):a≠b:=by
 intro e;subst e;rw[h]at h';cases h'
section
variable(P:Program)(w:World)
noncomputable def ObjOk(H:Hp)(h:Heap)(a:Addr):HO->Prop
 | .lst xs=>xs.length<=Rj/\∃(its:List Value) (n:Nat),Vals xs its/\h.get? a=some { cls:=.type "list",data:=.seq its.toArray n }
 | .tup xs=>xs.length<=Rj/\∃its:List Value,Vals xs its/\IsTup h a its.toArray
 | .dK kvs=>kvs.length<=Rj/\(a == sysModules)=false/\∃vs,KV kvs vs/\h.DictOf (mL P w) a vs
 | .dT kvs=>kvs.length<=Rj/\(a == sysModules)=false/\∃xs:List (List Key×Addr×Value),
   Paired (λ(p:List Key×V) (q:List Key×Addr×Value)=>p.1=q.1/\H q.2.1=some (.tup (p.1.map kV))/\RelV p.2 q.2.2) kvs xs/\
   ∃o es ep,h.get? a=some o/\o.ExactDict/\o.data=.dict es ep/\es.toList=xs.map (entryOfKey (tupleKind (mL P w)))/\(xs.map (·.1)).Nodup
 | .set S n=>h.SetOf (intKind P w) a S n
 | .ins C dx fs=>H dx=some (.own a)/\fs.length<=1000/\dx≠a/\h.get? a=some (Ja C dx)/\
   ∃mA,h.Ns1 dx mA/\(∀f,RelO (fs.lookup f) (mA f))/\Nn mA (fs.map (·.1))
 | .own _=>∃o,h.get? a=some o
 | .xd fs=>∃mA,h.Ns1 a mA/\∀f,RelO (fs.lookup f) (mA f)
 | .rng lo hi=>∃t u v,h.get? a=some { cls:=.type "range",data:=.fields #[.int lo t,.int hi u,.int 1 v] }
 | .frz o u=>h.get? a=some o/\ObjOk H h a u
 | .tbl ps=>h.get? a=some { cls:=.none,data:=.fields ps }
 | .met f x=>h.get? a=some (LP (.ref f) (.ref x))
 | .ext φ=>φ h/\(∃o,h.get? a=some o)/\∀h1 h2:Heap,φ h1->(∀o,h1.get? a=some o->h2.get? a=some o)->φ h2
def HOk(H:Hp)(h:Heap):Prop:=∀a o,H a=some o->ObjOk P w H h a o
end
section
variable{P:Program}{w:World}{H H':Hp}{h h':Heap}{a:Addr}{o:HO}
theorem ObjOk.lt(x:ObjOk P w H h a o):a<h.objs.size:=by
 cases o with
 | lst xs=>obtain⟨_,_,_,_,e⟩:=x;exact GX e
 | tup xs=>obtain⟨_,_,_,p⟩:=x;exact p.lt
 | dK kvs=>obtain⟨_,_,_,_,o,_,_,e,_⟩:=x;exact GX e
 | dT kvs=>obtain⟨_,_,_,_,o,_,_,e,_⟩:=x;exact GX e
 | set S n=>obtain⟨o,_,_,_,e,_⟩:=x;exact GX e
 | ins C dx fs=>obtain⟨_,_,_,e,_⟩:=x;exact GX e
 | own y=>obtain⟨_,e⟩:=x;exact GX e
 | xd fs=>obtain⟨_,⟨_,_,_,e,_⟩,_⟩:=x;exact GX e
 | rng lo hi=>obtain⟨_,_,_,e⟩:=x;exact GX e
 | frz ob u=>obtain⟨e,_⟩:=x;exact GX e
 | tbl ps=>exact GX (show h.get? a=some _ from x)
 | met f y=>exact GX (show h.get? a=some _ from x)
 | ext φ=>obtain⟨_,⟨_,e⟩,_⟩:=x;exact GX e
theorem Paired.mapP{α β:Type}{F G:α->β->Prop}:∀{l₁:List α}{l₂:List β},Paired F l₁ l₂->(∀a b,F a b->G a b)->Paired G l₁ l₂
 | _,_,.nil,_=>.nil
 | _,_,.cons r t,f=>.cons (f _ _ r) (Paired.mapP t f)
theorem ObjOk.stay(x:ObjOk P w H h a o)(k:∀b u,(b=a\/H b=some (.own a))->h.get? b=some u->h'.get? b=some u)
  (ho:∀b,H b=some (.own a)->H' b=some (.own a)) (ht:∀b xs,H b=some (.tup xs)->H' b=some (.tup xs)):ObjOk P w H' h' a o:=by
 induction o with
 | lst xs=>obtain⟨z,its,n,r,e⟩:=x;exact⟨z,its,n,r,k _ _ (.inl rfl) e⟩
 | tup xs=>obtain⟨z,its,r,ob,e,c⟩:=x;exact⟨z,its,r,ob,k _ _ (.inl rfl) e,c⟩
 | dK kvs=>obtain⟨z,y,vs,r,ob,es,ep,e,c⟩:=x;exact⟨z,y,vs,r,ob,es,ep,k _ _ (.inl rfl) e,c⟩
 | dT kvs=>
  obtain⟨z,y,xs,r,ob,es,ep,e,c⟩:=x;exact⟨z,y,xs,Paired.mapP r λp q z=>⟨z.1,ht _ _ z.2.1,z.2.2⟩,ob,es,ep,k _ _ (.inl rfl) e,c⟩
 | set S n=>obtain⟨ob,es,ep,t,e,c⟩:=x;exact⟨ob,es,ep,t,k _ _ (.inl rfl) e,c⟩
 | ins C dx fs=>
  obtain⟨d,z,ne,e,mA,⟨od,es,ep,e2,c⟩,r⟩:=x;exact⟨ho _ d,z,ne,k _ _ (.inl rfl) e,mA,⟨od,es,ep,k _ _ (.inr d) e2,c⟩,r⟩
 | own y=>obtain⟨ob,e⟩:=x;exact⟨ob,k _ _ (.inl rfl) e⟩
 | xd fs=>obtain⟨mA,⟨od,es,ep,e,c⟩,r⟩:=x;exact⟨mA,⟨od,es,ep,k _ _ (.inl rfl) e,c⟩,r⟩
 | rng lo hi=>obtain⟨t,u,v,e⟩:=x;exact⟨t,u,v,k _ _ (.inl rfl) e⟩
 | frz ob u ih=>obtain⟨e,q⟩:=x;exact⟨k _ _ (.inl rfl) e,ih q⟩
 | tbl ps=>
  have e:h.get? a=some { cls:=.none,data:=.fields ps }:=x;show h'.get? a=some { cls:=.none,data:=.fields ps }
  exact k a _ (.inl rfl) e
 | met f y=>
  have e:h.get? a=some (LP (.ref f) (.ref y)):=x;show h'.get? a=some (LP (.ref f) (.ref y))
  exact k a _ (.inl rfl) e
 | ext φ=>obtain⟨p,⟨o,e⟩,st⟩:=x;exact⟨st _ _ p λo q=>k _ _ (.inl rfl) q,⟨o,k _ _ (.inl rfl) e⟩,st⟩
theorem HOk.lt(x:HOk P w H h)(e:H a=some o):a<h.objs.size:=(x a o e).lt
theorem HOk.fresh(x:HOk P w H h)(e:h.objs.size<=a):H a=none:=by
 cases q:H a with
 | none=>rfl
 | some u=>exact absurd (Hi (x.lt q) e) (Iw _)
theorem HOk.kept(x:HOk P w H h)(k:∀b u,h.get? b=some u->h'.get? b=some u):HOk P w H h':=λa o e=>
 (x a o e).stay (λb u _ q=>k b u q) (λ_ q=>q) λ_ _ q=>q
theorem HOk.laid(x:HOk P w H h)(k:∀b u,h.get? b=some u->h'.get? b=some u)(hp:h.objs.size<=a)(new:ObjOk P w (upd H a o) h' a o):HOk P w (upd H a o) h':=λb u e=>by
 have hn:=x.fresh hp;by_cases hb:b=a
 ·subst hb;rw[af]at e;cases e;exact new
 ·rw[ar hb]at e
  exact(x b u e).stay (λc v _ q=>k c v q) (λc q=>by rw[ar (aq q hn)];exact q) λc xs q=>by rw[ar (aq q hn)];exact q
end
def Rd(H:Hp)(a:Addr)(u:HO):Prop:=H a=some u\/∃o,H a=some (.frz o u)
theorem Rd.ok{P:Program}{w:World}{H:Hp}{h:Heap}{a:Addr}{u:HO}(r:Rd H a u)(x:HOk P w H h):ObjOk P w H h a u:=by
 rcases r with r|⟨o,r⟩
 ·exact x a u r
 ·obtain⟨_,q⟩:=x a _ r
  exact q
noncomputable def Mut:Option HO->Prop
 | some (.lst _)=>True
 | some (.dK _)=>True
 | some (.dT _)=>True
 | some (.set _ _)=>True
 | some (.ins _ _ _)=>True
 | some (.ext _)=>True
 | _=>False
section
variable{P:Program}{w:World}{H:Hp}{h h':Heap}{x e:Addr}{o':HO}
theorem HOk.write(ok:HOk P w H h)(mu:Mut (H x))(he:e=x\/H e=some (.own x))(k:∀b u,b≠e->h.get? b=some u->h'.get? b=some u)(heo:∃u,h'.get? e=some u)
  (new:ObjOk P w (upd H x o') h' x o'):HOk P w (upd H x o') h':=λb u q=>by
 have nown:∀c y,H c=some (.own y)->c≠x:=λc y r z=>by subst z;rw[r]at mu;exact mu
 have ntup:∀c xs,H c=some (.tup xs)->c≠x:=λc xs r z=>by subst z;rw[r]at mu;exact mu
 by_cases hb:b=x
 ·subst hb;rw[af]at q;cases q;exact new
 ·rw[ar hb]at q
  by_cases hbe:b=e
  ·have q':H b=some (.own x):=by
    rcases he with z|z
    ·exact absurd (hbe.trans z) hb
    ·rw[hbe];exact z
   rw[q]at q';cases q';obtain⟨v,hv⟩:=heo;exact⟨v,by rw[hbe];exact hv⟩
  ·refine(ok b u q).stay (λc v hc r=>k c v ?_ r) (λc r=>by rw[ar (nown c b r)];exact r) λc xs r=>by rw[ar (ntup c xs r)];exact r
   rcases hc with rfl|hc
   ·exact hbe
   ·rintro rfl
    rcases he with z|z
    ·exact nown c b hc z
    ·rw[hc]at z;cases z;exact hb rfl
end
structure Un (fs ex:List Addr) (H H':Hp) (h h':Heap):Prop where
 keep:∀b o,h.get? b=some o->H b=none->b∉fs->b∉ex->h'.get? b=some o
 slot:∀b o,h.get? b=some o->H b=none->b∈fs->b∉ex->∃sl,h'.get? b=some { o with slots:=sl }
 free:∀b o,h.get? b=some o->H b=none->b∉ex->H' b=none
 there:∀b o,h.get? b=some o->b∉ex->∃o',h'.get? b=some o'
 tups:∀b xs,H b=some (.tup xs)->H' b=some (.tup xs)
 frzs:∀b o u,H b=some (.frz o u)->H' b=some (.frz o u)
 tbls:∀b ps,H b=some (.tbl ps)->∃more,H' b=some (.tbl (ps++more))
section
variable{fs fs' ex ex':List Addr}{H H1 H2:Hp}{h h1 h2 h':Heap}{a x e:Addr}{o:HO}
theorem Un.any(u:Un fs ex H H1 h h1){b:Addr}{ob:Obj}(q:h.get? b=some ob)(n:H b=none)(hx:b∉ex):∃sl,h1.get? b=some { ob with slots:=sl }:=by
 by_cases hb:b∈fs
 ·exact u.slot b ob q n hb hx
 ·exact⟨ob.slots,u.keep b ob q n hb hx⟩
theorem Un.kept(k:∀b u,h.get? b=some u->h'.get? b=some u):Un fs ex H H h h':=
 ⟨λb ob q _ _ _=>k b ob q,λb ob q _ _ _=>⟨ob.slots,k b ob q⟩,λ_ _ _ n _=>n,λb ob q _=>⟨ob,k b ob q⟩,λ_ _ q=>q,λ_ _ _ q=>q,λ_ ps q=>⟨#[],by rw[q];simp⟩⟩
theorem Un.refl:Un fs ex H H h h:=Un.kept λ_ _ q=>q
theorem Un.laid(k:∀b u,h.get? b=some u->h'.get? b=some u)(hp:h.objs.size<=a)(hn:H a=none):Un fs ex H (upd H a o) h h' where
 keep:=λb u q _ _ _=>k b u q
 slot:=λb u q _ _ _=>⟨u.slots,k b u q⟩
 free:=λb u q n _=>by rw[ar (Hf (Hi (GX q) hp))];exact n
 there:=λb u q _=>⟨u,k b u q⟩
 tups:=λb xs q=>by rw[ar (aq q hn)];exact q
 frzs:=λb u xs q=>by rw[ar (aq q hn)];exact q
 tbls:=λb ps q=>⟨#[],by rw[ar (aq q hn),q];simp⟩
theorem Un.write(mu:Mut (H x))(he:e=x\/H e=some (.own x))(k:∀b u,b≠e->h.get? b=some u->h'.get? b=some u)(heo:∃u,h'.get? e=some u):Un fs ex H (upd H x o) h h':=by
 have hx:∀b,H b=none->b≠x:=λb n z=>by subst z;rw[n]at mu;exact mu
 have hb:∀b,H b=none->b≠e:=λb n z=>by
  subst z;rcases he with r|r
  ·exact hx b n r
  ·rw[n]at r;cases r
 have hm:∀b u,H b=some u->¬Mut (some u)->b≠x:=λb u q nm z=>by subst z;rw[q]at mu;exact nm mu
 refine⟨λb u q n _ _=>k b u (hb b n) q,λb u q n _ _=>⟨u.slots,k b u (hb b n) q⟩,λb u q n _=>by rw[ar (hx b n)];exact n,λb u q _=>?_,
  λb xs q=>by rw[ar (hm b _ q λz=>z)];exact q,λb u xs q=>by rw[ar (hm b _ q λz=>z)];exact q,λb ps q=>⟨#[],by rw[ar (hm b _ q λz=>z),q];simp⟩⟩
 by_cases hbe:b=e
 ·subst hbe;exact heo
 ·exact⟨u,k b u hbe q⟩
end
noncomputable def trk(h:Heap)(H:Hp):List Addr:=(GO h.objs.size).filter λa=>(H a).isSome
noncomputable def uo(h:Heap)(H:Hp):Heap:=PySem.W.hideAll h (trk h H)
theorem qd(h:Heap)(H:Hp):(uo h H).objs.size=h.objs.size:=PySem.W.hideAll_size _ _
theorem uu{h:Heap}{H:Hp}{b:Addr}{o:Obj}(e:h.get? b=some o)(n:H b=none):(uo h H).get? b=some o:=
 PySem.W.hideAll_get _ e λhm=>by
  have q:(H b).isSome=true:=(K0.mp hm).2;rw[n]at q;simp at q
theorem xA{h:Heap}{H:Hp}{b:Addr}{o:Obj}(e:(uo h H).get? b=some o):h.get? b=some o/\H b=none:=by
 have e':h.get? b=some o:=PySem.W.of_hideAll (trk h H) e;refine⟨e',?_⟩;cases q:H b with
 | none=>rfl
 | some x=>
  have hm:b∈trk h H:=K0.mpr ⟨Hg.mpr (GX e'),by simp[q]⟩;have z:(uo h H).get? b=none:=PySem.W.hideAll_none (trk h H) hm;rw[z]at e;cases e
noncomputable def xB(g h:Heap)(L:Addr):List (Addr×Obj):=(GO h.objs.size).filterMap λa=>if a=L\/(g.get? a).isSome=true then none else(h.get? a).map λo=>(a,o)
noncomputable def rest(g h:Heap)(L d:Addr):List (Addr×Obj):=(xB g h L).filter λp=>decide (p.1≠d)
structure Mod (K:GH) (mg:Str->Option Value) (base:Heap):Prop where
 kin:K.In base
 glob:base.Ns mainGlobals mg
 blt:∃mb,base.Ns builtinsNs mb/\∀x:Str,x≠"__name__"->mb x=bootBuiltins x
 nolimit:base.NoLimit
/-- the context: a def's body (or a comprehension's block) running. base: fixed through the whole law;s₀,H₀: the entry;outer: the frames whose slots others may change (a def's callers);stack: all frames that run;
   ex: iterators that were made ahead of the entry and are walked here (a comprehension's);fn: the names whose cells were made at the entry (a def: all;a comprehension's block: its own);calm: not within an except suite;pn: pins that every state bears;xe: what is wanted of an exception that leaves the code -/
structure Cx where
 prog:Program
 w:World
 K:GH
 mg:Str->Option Value
 base:Heap
 A:Around
 N:List Str
 s₀:Shared
 H₀:Hp
 env:Env
 outer:List Env
 stack:List Env
 ex:List Addr
 fn:Str->Bool
 calm:Bool
 pn:List (Addr×Obj)
 xe:Value->Shared->Prop
noncomputable def frs(l:List Env):List Addr:=l.filterMap (·.frame)
noncomputable abbrev Cx.fs(X:Cx):List Addr:=frs X.outer
def Vis(sc:Scope)(x:Str):Prop:=sc.names.lookup x=some .local\/sc.names.lookup x=some .cell\/sc.names.lookup x=some .free
def Loc(sc:Scope)(x:Str):Prop:=sc.names.lookup x=some .local\/sc.names.lookup x=some .cell
def FU(env:Env)(h:Heap)(m:Str->Option Value)(x:Str)(u:Value):Prop:=
 (env.kindOf x=some .local/\m x=some u)\/((env.kindOf x=some .cell\/env.kindOf x=some .free)/\∃c,env.cells.lookup x=some c/\h.IsCell c (some u))
structure Cx.Ok (X:Cx):Prop where
 mod:Mod X.K X.mg X.base
 kind:X.env.scope.kind=.function
 glob:X.env.globals=mainGlobals
 blt:X.env.builtins=builtinsNs
 above:X.s₀.heap.objs.size<=X.env.locals
 inj:∀x y c,X.env.cells.lookup x=some c->X.env.cells.lookup y=some c->x=y
 has:∀x,(X.env.kindOf x=some .cell\/X.env.kindOf x=some .free)->∃c,X.env.cells.lookup x=some c
 cab:∀x c,X.fn x=true->X.env.cells.lookup x=some c->X.s₀.heap.objs.size<=c
 hd:X.calm=true->X.A.handled=none
 frames:X.A.frames=some X.stack
 stk:X.stack=X.outer\/(X.stack=X.env::X.outer/\X.env.frame=some X.env.locals)
 exf:∀b∈X.ex,b≠X.env.locals/\∀x c,X.env.cells.lookup x=some c->c≠b
 bs:∀b o,X.base.get? b=some o->X.s₀.heap.get? b=some o/\X.H₀ b=none
 bsz:X.base.objs.size<=X.s₀.heap.objs.size
 noex:∀b o,X.base.get? b=some o->b∉X.ex
 exfs:∀b∈X.ex,b∉X.fs
 funs:X.s₀.heap.FunFrames X.base X.outer
 frf:∀b∈X.fs,X.H₀ b=none
structure Inv (X:Cx) (pins:List (Addr×Obj)) (σ:List (Option V)) (H:Hp) (s:Shared):Prop where
 ok:X.Ok
 os:s.os=X.s₀.os
 bare:AllBare s.gens
 base:Un X.fs X.ex X.H₀ H X.s₀.heap s.heap
 loc:∃m,s.heap.Ns X.env.locals m/\∀(i:Nat) (x:Str) (v:V),X.N[i]? = some x->σ[i]? = some (some v)->Vis X.env.scope x->∃u,RelV v u/\FU X.env s.heap m x u
 cell:∀x c,X.env.cells.lookup x=some c->∃v,s.heap.IsCell c v
 free:H X.env.locals=none
 freeC:∀x c,X.env.cells.lookup x=some c->H c=none
 pin:∀p∈X.pn++pins,s.heap.get? p.1=some p.2/\H p.1=none/\p.1≠X.env.locals/\p.1∉X.fs/\∀v,p.2.data≠.cell v
 hok:HOk X.prog X.w H s.heap
 len:σ.length=X.N.length
section
variable{X:Cx}{pins:List (Addr×Obj)}{σ:List (Option V)}{H H':Hp}{s:Shared}{h':Heap}
theorem Cx.Ok.nofr(ok:X.Ok){b:Addr}{o:Obj}(e:X.base.get? b=some o):b∉X.fs:=λhb=>by
 have:=(ok.funs.mem hb).1;rw[e]at this;cases this
theorem Inv.bs(I:Inv X pins σ H s):∀b o,X.base.get? b=some o->s.heap.get? b=some o/\H b=none:=λb o e=>
 ⟨I.base.keep b o (I.ok.bs b o e).1 (I.ok.bs b o e).2 (I.ok.nofr e) (I.ok.noex b o e),I.base.free b o (I.ok.bs b o e).1 (I.ok.bs b o e).2 (I.ok.noex b o e)⟩
theorem Inv.bk(I:Inv X pins σ H s):∀b o,X.base.get? b=some o->s.heap.get? b=some o:=λb o e=>(I.bs b o e).1
theorem Inv.mod(I:Inv X pins σ H s):Mod X.K X.mg X.base:=I.ok.mod
theorem Inv.kIn(I:Inv X pins σ H s):X.K.In s.heap:=I.ok.mod.kin.keeps I.bk
theorem Inv.nolimit(I:Inv X pins σ H s):s.heap.NoLimit:=I.ok.mod.nolimit.keeps I.bk
theorem Inv.lt(I:Inv X pins σ H s):X.env.locals<s.heap.objs.size:=let⟨_,hn,_⟩:=I.loc;hn.lt
theorem Inv.sz(I:Inv X pins σ H s):X.s₀.heap.objs.size<=s.heap.objs.size:=HU I.ok.above (IU I.lt)
theorem Inv.nofs(I:Inv X pins σ H s){a:Addr}(h:s.heap.objs.size<=a):a∉X.fs:=λhb=>by
 obtain⟨_,o,ho,_⟩:=I.ok.funs.mem hb;exact absurd (Hi (GX ho) (HU I.sz h)) (Iw _)
theorem Inv.cne(I:Inv X pins σ H s):∀x c,X.env.cells.lookup x=some c->c≠X.env.locals:=λx c e z=>by
 obtain⟨v,o,ho,hd⟩:=I.cell x c e;obtain⟨m,⟨o',es,ep,ho',hd',_⟩,_⟩:=I.loc;rw[z,ho']at ho;cases ho;rw[hd']at hd;cases hd
theorem Inv.funs(I:Inv X pins σ H s):s.heap.FunFrames X.base X.outer:=by
 have all:∀(l:List Env),(∀b∈frs l,b∈X.fs)->X.s₀.heap.FunFrames X.base l->s.heap.FunFrames X.base l:=by
  intro l
  induction l with
  | nil=>intro _ _;trivial
  | cons env r ih=>
   intro hs hl;obtain⟨hk,⟨L,o,hf,hn,ho,hd⟩,hr⟩:=hl;have hL:L∈X.fs:=hs L (by unfold frs;rw[JC,hf];exact Hj);obtain⟨sl,e⟩:=I.base.slot L o ho (I.ok.frf L hL) hL λz=>I.ok.exfs L z hL
   exact⟨hk,⟨L,_,hf,hn,e,hd⟩,ih (λb hb=>hs b (by unfold frs;rw[JC,hf];exact Hd _ hb)) hr⟩
 exact all X.outer (λ_ hb=>hb) I.ok.funs
theorem Inv.stack(I:Inv X pins σ H s):s.heap.FunFrames X.base X.stack:=by
 rcases I.ok.stk with e|⟨e,hf⟩
 ·rw[e];exact I.funs
 ·rw[e]
  obtain⟨m,hn,_⟩:=I.loc;refine .cons (by rw[I.ok.kind];decide) hf hn ?_ I.funs;exact Heap.get?_none_of_le (HU I.ok.bsz I.ok.above)
theorem Inv.stkSub(I:Inv X pins σ H s):∀b∈frs X.stack,b∈X.env.locals::X.fs:=λb hb=>by
 rcases I.ok.stk with e|⟨e,hf⟩
 ·rw[e]at hb;exact Hd _ hb
 ·rw[e]at hb
  unfold frs at hb;rw[JC,hf]at hb;exact hb
theorem Inv.stkFree(I:Inv X pins σ H s):∀b∈frs X.stack,H b=none:=λb hb=>by
 rcases GZ.mp (I.stkSub b hb)with e|hb
 ·rw[e];exact I.free
 ·obtain⟨_,o,ho,_⟩:=I.ok.funs.mem hb
  exact I.base.free b o ho (I.ok.frf b hb) λz=>I.ok.exfs b z hb
theorem Inv.step{g':Array GenState}{t':Nat}{d':Drawn}{ch:List Addr}(I:Inv X pins σ H s)
  (hch:∀b∈ch,(b∈X.ex\/X.s₀.heap.objs.size<=b)/\b≠X.env.locals/\(∀x c,X.env.cells.lookup x=some c->c≠b)/\∀p∈X.pn++pins,p.1≠b)
  (keep:∀b o,b≠X.env.locals->b∉X.fs->b∉ch->s.heap.get? b=some o->H b=none->h'.get? b=some o)
  (slot:∀b o,b≠X.env.locals->b∈X.fs->b∉ch->s.heap.get? b=some o->H b=none->∃sl,h'.get? b=some { o with slots:=sl }) (free:∀b o,b∉ch->s.heap.get? b=some o->H b=none->H' b=none)
  (there:∀b o,b∉ch->s.heap.get? b=some o->∃o',h'.get? b=some o')
  (tups:∀b xs,H b=some (.tup xs)->H' b=some (.tup xs)) (frzs:∀b o u,H b=some (.frz o u)->H' b=some (.frz o u)) (tbls:∀b ps,H b=some (.tbl ps)->∃more,H' b=some (.tbl (ps++more)))
  (ns:∀m,s.heap.Ns X.env.locals m->h'.Ns X.env.locals m) (hok:HOk X.prog X.w H' h') (hg:AllBare g') :
  Inv X pins σ H' { s with heap:=h',gens:=g',drawn:=d',toks:=t' }:=by
 have neL:∀b o,X.s₀.heap.get? b=some o->b≠X.env.locals:=λb o e=>Hf (Hi (GX e) I.ok.above)
 have neC:∀b o,X.s₀.heap.get? b=some o->b∉X.ex->b∉ch:=λb o e hx hb=>by
  rcases(hch b hb).1 with z|z
  ·exact hx z
  ·exact absurd (Hi (GX e) z) (Iw _)
 have cellK:∀x c,X.env.cells.lookup x=some c->∀v,s.heap.IsCell c v->h'.IsCell c v:=λx c e v ⟨o,ho,hd⟩=>by
  have nch:c∉ch:=λz=>(hch c z).2.2.1 x c e rfl
  by_cases hc:c∈X.fs
  ·obtain⟨sl,q⟩:=slot c o (I.cne x c e) hc nch ho (I.freeC x c e)
   exact⟨_,q,hd⟩
  ·exact⟨o,keep c o (I.cne x c e) hc nch ho (I.freeC x c e),hd⟩
 refine⟨I.ok,I.os,hg,⟨λb o e n hb hx=>?_,λb o e n hb hx=>?_,λb o e n hx=>?_,λb o e hx=>?_,λb xs e=>tups b xs (I.base.tups b xs e),λb o xs e=>frzs b o xs (I.base.frzs b o xs e),λb ps e=>?_⟩,?_,λx c e=>?_,?_,λx c e=>?_,λp hp=>?_,hok,I.len⟩
 ·exact keep b o (neL b o e) hb (neC b o e hx) (I.base.keep b o e n hb hx) (I.base.free b o e n hx)
 ·obtain⟨sl,e1⟩:=I.base.slot b o e n hb hx
  obtain⟨sl',e2⟩:=slot b _ (neL b o e) hb (neC b o e hx) e1 (I.base.free b o e n hx);exact⟨sl',e2⟩
 ·obtain⟨o',e1⟩:=I.base.there b o e hx
  exact free b o' (neC b o e hx) e1 (I.base.free b o e n hx)
 ·obtain⟨o',e1⟩:=I.base.there b o e hx
  exact there b o' (neC b o e hx) e1
 ·obtain⟨m1,e1⟩:=I.base.tbls b ps e
  obtain⟨m2,e2⟩:=tbls b _ e1;exact⟨m1++m2,by rw[e2,Array.append_assoc]⟩
 ·obtain⟨m,hn,hl⟩:=I.loc
  refine⟨m,ns m hn,λi x v e1 e2 e3=>?_⟩;obtain⟨u,r,l⟩:=hl i x v e1 e2 e3;refine⟨u,r,?_⟩;rcases l with l|⟨k,c,e,z⟩
  ·exact .inl l
  ·exact .inr ⟨k,c,e,cellK x c e _ z⟩
 ·obtain⟨v,z⟩:=I.cell x c e
  exact⟨v,cellK x c e v z⟩
 ·obtain⟨m,⟨o,_,_,ho,_⟩,_⟩:=I.loc
  exact free _ o (λz=>(hch _ z).2.1 rfl) ho I.free
 ·obtain⟨v,o,ho,hd⟩:=I.cell x c e
  exact free c o (λz=>(hch c z).2.2.1 x c e rfl) ho (I.freeC x c e)
 ·obtain⟨e,n,ne,nf,d⟩:=I.pin p hp
  have nch:p.1∉ch:=λz=>(hch p.1 z).2.2.2 p hp rfl
  exact⟨keep p.1 p.2 ne nf nch e n,free p.1 p.2 nch e n,ne,nf,d⟩
theorem Inv.un{t':Nat}(I:Inv X pins σ H s)(u:Un X.fs [] H H' s.heap h')(hok:HOk X.prog X.w H' h'):Inv X pins σ H' { s with heap:=h',toks:=t' }:=by
 obtain⟨m,⟨o,es,ep,ho,r⟩,_⟩:=id I.loc;obtain⟨sl,hL⟩:=u.any ho I.free (by simp);exact I.step (g':=s.gens) (d':=s.drawn) (ch:=[]) (λ_ z=>nomatch z) (λb o _ hb _ e n=>u.keep b o e n hb (by simp)) (λb o _ hb _ e n=>u.slot b o e n hb (by simp)) (λb o _ e n=>u.free b o e n (by simp)) (λb o _ e=>u.there b o e (by simp)) u.tups u.frzs u.tbls (λm' hm=>by
  obtain⟨o',es',ep',ho',r'⟩:=hm;rw[ho]at ho';cases ho';exact⟨_,es',ep',hL,r'⟩) hok I.bare
theorem Inv.call{g':Array GenState}{t':Nat}{d':Drawn}{ch:List Addr}(I:Inv X pins σ H s)(u:Un (frs X.stack) ch H H' s.heap h')(hok:HOk X.prog X.w H' h')(hg:AllBare g')
  (hch:∀b∈ch,(b∈X.ex\/X.s₀.heap.objs.size<=b)/\b≠X.env.locals/\(∀x c,X.env.cells.lookup x=some c->c≠b)/\∀p∈X.pn++pins,p.1≠b) :
  Inv X pins σ H' { s with heap:=h',gens:=g',drawn:=d',toks:=t' }:=by
 obtain⟨m,⟨o,es,ep,ho,r⟩,_⟩:=id I.loc;obtain⟨sl,hL⟩:=u.any ho I.free λz=>(hch _ z).2.1 rfl
 exact I.step (ch:=ch) hch (λb o hL hb hc e n=>u.keep b o e n (λz=>(GZ.mp (I.stkSub b z)).elim hL hb) hc) (λb o _ _ hc e n=>u.any e n hc) (λb o hc e n=>u.free b o e n hc) (λb o hc e=>u.there b o e hc) u.tups u.frzs u.tbls (λm' hm=>by
  obtain⟨o',es',ep',ho',r'⟩:=hm;rw[ho]at ho';cases ho';exact⟨_,es',ep',hL,r'⟩) hok hg
theorem Inv.turned{t':Nat}{it:Addr}(I:Inv X pins σ H s)(k:∀b o,b≠it->s.heap.get? b=some o->h'.get? b=some o)(hn:H it=none)(hL:it≠X.env.locals)
  (h1:it∈X.ex\/X.s₀.heap.objs.size<=it) (h2:∀x c,X.env.cells.lookup x=some c->c≠it) (h3:∀p∈X.pn++pins,p.1≠it):Inv X pins σ H { s with heap:=h',toks:=t' }:=by
 have nit:∀b u,H b=some u->b≠it:=λb u e z=>by rw[z,hn]at e;cases e
 refine I.step (g':=s.gens) (d':=s.drawn) (ch:=[it]) (λb hb=>?_) (λb o _ _ hc e _=>k b o (λz=>hc (by simp[z])) e) (λb o _ _ hc e _=>⟨o.slots,k b o (λz=>hc (by simp[z])) e⟩) (λ_ _ _ _ n=>n)
  (λb o hc e=>⟨o,k b o (λz=>hc (by simp[z])) e⟩) (λ_ _ e=>e) (λ_ _ _ e=>e) (λb ps e=>⟨#[],by rw[e];simp⟩) (λm hm=>?_) (λb u e=>?_) I.bare
 ·have e:b=it:=by simpa using hb
  subst e;exact⟨h1,hL,h2,h3⟩
 ·obtain⟨o,es,ep,ho,r⟩:=hm
  exact⟨o,es,ep,k _ o (Hl hL) ho,r⟩
 ·refine(I.hok b u e).stay (λc v hc q=>k c v ?_ q) (λ_ q=>q) λ_ _ q=>q
  rcases hc with z|z
  ·rw[z];exact nit b u e
  ·exact nit c _ z
theorem Inv.tok(I:Inv X pins σ H s)(t:Nat):Inv X pins σ H { s with toks:=t }:=I.un (h':=s.heap) (t':=t) Un.refl I.hok
theorem Inv.kept{t':Nat}(I:Inv X pins σ H s)(k:∀b u,s.heap.get? b=some u->h'.get? b=some u):Inv X pins σ H { s with heap:=h',toks:=t' }:=I.un (Un.kept k) (I.hok.kept k)
theorem Inv.laid{a:Addr}{o:HO}{t':Nat}(I:Inv X pins σ H s)(k:∀b u,s.heap.get? b=some u->h'.get? b=some u)(hp:s.heap.objs.size<=a)(new:ObjOk X.prog X.w (upd H a o) h' a o):
  Inv X pins σ (upd H a o) { s with heap:=h',toks:=t' }:=I.un (Un.laid k hp (I.hok.fresh hp)) (I.hok.laid k hp new)
theorem Inv.write{x e:Addr}{o:HO}{t':Nat}(I:Inv X pins σ H s)(mu:Mut (H x))(he:e=x\/H e=some (.own x))(k:∀b u,b≠e->s.heap.get? b=some u->h'.get? b=some u)(heo:∃u,h'.get? e=some u)
  (new:ObjOk X.prog X.w (upd H x o) h' x o):Inv X pins σ (upd H x o) { s with heap:=h',toks:=t' }:=I.un (Un.write mu he k heo) (I.hok.write mu he k heo new)
theorem Inv.pins_of{pins':List (Addr×Obj)}(I:Inv X pins σ H s)(h:∀p∈pins',s.heap.get? p.1=some p.2/\H p.1=none/\p.1≠X.env.locals/\p.1∉X.fs/\∀v,p.2.data≠.cell v):Inv X pins' σ H s:=
 ⟨I.ok,I.os,I.bare,I.base,I.loc,I.cell,I.free,I.freeC,λp hp=>(Hc.mp hp).elim (λz=>I.pin p (Hy _ z)) (h p),I.hok,I.len⟩
theorem nQ{N:List Str}(hN:N.Nodup){i j:Nat}{x:Str}(a:N[i]? = some x)(b:N[j]? = some x):i=j:=by
 obtain⟨h1,e1⟩:=GM.mp a;obtain⟨h2,e2⟩:=GM.mp b;exact(List.getElem_inj hN).mp (e1.trans e2.symm)
theorem qe{M:Model}{A:Around}{E:Value->Shared->Prop}{i:Nat}{x:Str}{v:V}{u:Value}{Q:Unit->Shared->Prop}(I:Inv X pins σ H s)(hN:X.N.Nodup)(hi:X.N[i]? = some x)(hx:Loc X.env.scope x)(r:RelV v u)
  (h:∀s',Inv X pins (σ.set i (some v)) H s'->(∃a,L1 a s.heap s'.heap/\(a=X.env.locals\/X.env.cells.lookup x=some a))->Q () s') (hf:X.fn x=true\/X.env.scope.names.lookup x=some .local:=by first|exact .inl rfl|exact .inr rfl|assumption):wpAny M A (storeName X.env x u) Q E s:=by
 obtain⟨m,hn,hl⟩:=id I.loc;have hcls:(X.env.scope.kind == .class || (X.env.scope.kind == .module && X.env.locals != X.env.globals))=false:=by rw[I.ok.kind];rfl
 have hiσ:i<σ.length:=by rw[I.len];exact(GM.mp hi).1
 have cne:=I.cne;have tracked:∀{a:Addr}{h':Heap},(∃o,s.heap.get? a=some o/\H a=none)->L1 a s.heap h'->HOk X.prog X.w H h':=λ{a h'} ha hs b ob e=>by
  obtain⟨_,_,hfree⟩:=ha;refine(I.hok b ob e).stay (λc w' hc q=>(hs.2 c ?_).trans q) (λ_ q=>q) λ_ _ q=>q
  rintro rfl;rcases hc with rfl|hc
  ·rw[hfree]at e;cases e
  ·rw[hfree]at hc;cases hc
 rcases hx with hk|hk
 ·refine wpAny_storeName_local hk hn (λh' hn' hs=>?_) hcls
  obtain⟨oL,_,_,hoL,_⟩:=id hn;refine h _ ⟨I.ok,I.os,I.bare,⟨λb o e n hb hx=>?_,λb o e n hb hx=>?_,I.base.free,λb o e hx=>?_,I.base.tups,I.base.frzs,I.base.tbls⟩,⟨_,hn',λj y v' e1 e2 e3=>?_⟩,λy c e=>?_,I.free,I.freeC,λp hp=>?_,tracked ⟨oL,hoL,I.free⟩ hs,by simpa using I.len⟩ ⟨_,hs,.inl rfl⟩
  ·exact(hs.2 b (Hf (Hi (GX e) I.ok.above))).trans (I.base.keep b o e n hb hx)
  ·obtain⟨sl,e1⟩:=I.base.slot b o e n hb hx
   exact⟨sl,(hs.2 b (Hf (Hi (GX e) I.ok.above))).trans e1⟩
  ·obtain⟨o',e1⟩:=I.base.there b o e hx
   exact⟨o',(hs.2 b (Hf (Hi (GX e) I.ok.above))).trans e1⟩
  ·by_cases hj:j=i
   ·subst hj
    rw[hi]at e1;cases e1;rw[KJ hiσ]at e2;cases e2;exact⟨u,r,.inl ⟨hk,by simp⟩⟩
   ·rw[K1 (Hl hj)]at e2
    obtain⟨u',r',q⟩:=hl j y v' e1 e2 e3;refine⟨u',r',?_⟩;rcases q with⟨k,e⟩|⟨k,c,e,z⟩
    ·refine .inl ⟨k,?_⟩
     have:y≠x:=λe=>hj (nQ hN e1 (e▸hi))
     simp[this,e]
    ·exact .inr ⟨k,c,e,z.sameBut hs (cne y c e)⟩
  ·obtain⟨w',z⟩:=I.cell y c e
   exact⟨w',z.sameBut hs (cne y c e)⟩
  ·obtain⟨e,n,ne,nf,d⟩:=I.pin p hp
   exact⟨(hs.2 p.1 ne).trans e,n,ne,nf,d⟩
 ·have hfn:X.fn x=true:=by
   rcases hf with z|z
   ·exact z
   ·rw[z]at hk;cases hk
  obtain⟨c,hc⟩:=I.ok.has x (.inl hk);obtain⟨w',z⟩:=I.cell x c hc;refine wpAny_storeName_cell I.ok.kind hk hc z (λh' hc' hs=>?_);obtain⟨oc,hoc,hocd⟩:=id z;refine h { s with heap:=h' } ⟨I.ok,I.os,I.bare,⟨λb o e n hb hx=>?_,λb o e n hb hx=>?_,I.base.free,λb o e hx=>?_,I.base.tups,I.base.frzs,I.base.tbls⟩,⟨m,hn.sameBut hs (Hl (cne x c hc)),λj y v' e1 e2 e3=>?_⟩,λy c' e=>?_,I.free,I.freeC,λp hp=>?_,tracked ⟨oc,hoc,I.freeC x c hc⟩ hs,by simpa using I.len⟩ ⟨c,hs,.inr hc⟩
  ·exact(hs.2 b (Hf (Hi (GX e) (I.ok.cab x c hfn hc)))).trans (I.base.keep b o e n hb hx)
  ·obtain⟨sl,e1⟩:=I.base.slot b o e n hb hx
   exact⟨sl,(hs.2 b (Hf (Hi (GX e) (I.ok.cab x c hfn hc)))).trans e1⟩
  ·obtain⟨o',e1⟩:=I.base.there b o e hx
   exact⟨o',(hs.2 b (Hf (Hi (GX e) (I.ok.cab x c hfn hc)))).trans e1⟩
  ·by_cases hj:j=i
   ·subst hj
    rw[hi]at e1;cases e1;rw[KJ hiσ]at e2;cases e2;exact⟨u,r,.inr ⟨.inl hk,c,hc,hc'⟩⟩
   ·rw[K1 (Hl hj)]at e2
    obtain⟨u',r',q⟩:=hl j y v' e1 e2 e3;refine⟨u',r',?_⟩;rcases q with q|⟨k,c',e,z'⟩
    ·exact .inl q
    ·refine .inr ⟨k,c',e,z'.sameBut hs ?_⟩
     rintro rfl;exact hj (nQ hN e1 (I.ok.inj _ _ _ e hc▸hi))
  ·by_cases hcc:c'=c
   ·subst hcc;exact⟨_,hc'⟩
   ·obtain⟨w2,z2⟩:=I.cell y c' e
    exact⟨w2,z2.sameBut hs hcc⟩
  ·obtain⟨e,n,ne,nf,d⟩:=I.pin p hp
   refine⟨(hs.2 p.1 ?_).trans e,n,ne,nf,d⟩;intro q;rw[q,hoc]at e;have q':oc=p.2:=G9 e;exact d w' (by rw[<-q'];exact hocd)
theorem eS{M:Model}{A:Around}{E:Value->Shared->Prop}{i:Nat}{x:Str}{v:V}{u:Value}{Q:Unit->Shared->Prop}(I:Inv X pins σ H s)(hN:X.N.Nodup)(hi:X.N[i]? = some x)(hx:Loc X.env.scope x)(r:RelV v u)
  (h:∀s',Inv X pins (σ.set i (some v)) H s'->Q () s') (hf:X.fn x=true\/X.env.scope.names.lookup x=some .local:=by first|exact .inl rfl|exact .inr rfl|assumption):wpAny M A (storeName X.env x u) Q E s:=
 qe I hN hi hx r (λs' I' _=>h s' I') hf
theorem Inv.call'{s':Shared}{ch:List Addr}(I:Inv X pins σ H s)(ho:s'.os=s.os)(u:Un (frs X.stack) ch H H' s.heap s'.heap)(hok:HOk X.prog X.w H' s'.heap)(hg:AllBare s'.gens)
  (hch:∀b∈ch,(b∈X.ex\/X.s₀.heap.objs.size<=b)/\b≠X.env.locals/\(∀x c,X.env.cells.lookup x=some c->c≠b)/\∀p∈X.pn++pins,p.1≠b):Inv X pins σ H' s':=by
 obtain⟨h',g',d',t',o'⟩:=s';have e:o'=s.os:=ho;subst e;exact I.call (g':=g') (t':=t') (d':=d') u hok hg hch
end
noncomputable abbrev XK:=Value->Option Addr->Hp->Prop
noncomputable abbrev St:=List (Option V)
noncomputable abbrev VK:=V->Hp->Prop
noncomputable abbrev TE:=St->Hp->VK->Prop
noncomputable abbrev TT:=St->Hp->(Bool->Hp->Prop)->Prop
noncomputable abbrev TA:=St->Hp->(List V->Hp->Prop)->Prop
structure Ends where
 nx:St->Hp->Prop
 rt:VK
 bk:St->Hp->Prop:=λ_ _=>False
 ct:St->Hp->Prop:=λ_ _=>False
noncomputable abbrev TS:=Ends->St->Hp->Prop
def EP(X:Cx)(pins:List (Addr×Obj))(σ:St)(Q:VK)(u:Value)(s':Shared):Prop:=∃v H',Inv X pins σ H' s'/\RelV v u/\Q v H'
def TP(X:Cx)(pins:List (Addr×Obj))(σ:St)(Q:Bool->Hp->Prop)(b:Bool)(s':Shared):Prop:=∃H',Inv X pins σ H' s'/\Q b H'
def AP(X:Cx)(pins:List (Addr×Obj))(σ:St)(Q:List V->Hp->Prop)(us:List Value)(s':Shared):Prop:=∃vs H',Inv X pins σ H' s'/\Vals vs us/\Q vs H'
def SP(X:Cx)(pins:List (Addr×Obj))(D:Ends)(f:Flow)(s':Shared):Prop:=
 match f with
 | .next=>∃σ' H',Inv X pins σ' H' s'/\D.nx σ' H'
 | .brk=>∃σ' H',Inv X pins σ' H' s'/\D.bk σ' H'
 | .cont=>∃σ' H',Inv X pins σ' H' s'/\D.ct σ' H'
 | .ret u=>∃v σ' H',Inv X pins σ' H' s'/\RelV v u/\D.rt v H'
def PE(X:Cx)(e:Expr)(t:TE):Prop:=
 ∀(pins:List (Addr×Obj)) (s:Shared) (σ:St) (H:Hp) (Q:VK),Inv X pins σ H s->t σ H Q->wpAny (model X.prog X.w) X.A (eval e X.env) (EP X pins σ Q) X.xe s
def PT(X:Cx)(e:Expr)(t:TT):Prop:=
 ∀(pins:List (Addr×Obj)) (s:Shared) (σ:St) (H:Hp) (Q:Bool->Hp->Prop),Inv X pins σ H s->t σ H Q->wpAny (model X.prog X.w) X.A (isTrue e X.env (eval e X.env)) (TP X pins σ Q) X.xe s
def PW(X:Cx)(e:Expr)(t:TT):Prop:=
 ∀(whole:Sem Value) (pins:List (Addr×Obj)) (s:Shared) (σ:St) (H:Hp) (Q:Bool->Hp->Prop),Inv X pins σ H s->t σ H Q->wpAny (model X.prog X.w) X.A (isTrue e X.env whole) (TP X pins σ Q) X.xe s
theorem PW.pt{X:Cx}{e:Expr}{t:TT}(h:PW X e t):PT X e t:=h _
def PA(X:Cx)(es:List Expr)(t:TA):Prop:=
 ∀(pos:Pos) (pins:List (Addr×Obj)) (s:Shared) (σ:St) (H:Hp) (Q:List V->Hp->Prop),Inv X pins σ H s->t σ H Q->wpAny (model X.prog X.w) X.A (spliced (RU pos (Rl es X.env))) (AP X pins σ Q) X.xe s
def PS(X:Cx)(st:Stmt)(t:TS):Prop:=
 ∀(pins:List (Addr×Obj)) (s:Shared) (σ:St) (H:Hp) (D:Ends),Inv X pins σ H s->t D σ H->wpAny (model X.prog X.w) X.A (exec st X.env) (SP X pins D) X.xe s
def PSs(X:Cx)(st:List Stmt)(t:TS):Prop:=
 ∀(pins:List (Addr×Obj)) (s:Shared) (σ:St) (H:Hp) (D:Ends),Inv X pins σ H s->t D σ H->wpAny (model X.prog X.w) X.A (execs st X.env) (SP X pins D) X.xe s
theorem thn{α:Type}{t:Sem α}{Q Q':α->Shared->Prop}{M:Model}{A:Around}{E:Value->Shared->Prop}{s:Shared}(h:wpAny M A t Q E s)(hQ:∀a s,Q a s->Q' a s):wpAny M A t Q' E s:=Ro h hQ λ_ _ x=>x
section
variable{X:Cx}
def Dh(i:Nat):TE:=λσ H Q=>∃v,σ[i]? = some (some v)/\Q v H
def tC(v:V):TE:=λ_ H Q=>Q v H
theorem Ag {i:Nat}{x:Str}{pos:Pos}(hN:X.N[i]? = some x) (hv:Vis X.env.scope x) (hd:(x == ("__debug__" : Str))=false:=by decide) (hcd:(x == ("__classdict__" : Str))=false:=by decide):PE X (.Name x pos) (Dh i):=by
 intro pins s σ H Q I h;obtain⟨v,e,h⟩:=h;obtain⟨m,hn,hl⟩:=I.loc;obtain⟨u,r,l⟩:=hl i x v hN e hv;have fin:EP X pins σ Q u s:=⟨v,H,I,r,h⟩;rcases l with⟨hk,hm⟩|⟨hk,c,hc,hcell⟩
 ·exact wpAny_Name (wpAny_loadName_local I.ok.kind hk hn hm fin) hd
 ·rcases hk with hk|hk
  ·exact wpAny_Name (wpAny_loadName_cell I.ok.kind hk hc hcell fin) hd
  ·exact wpAny_Name (wpAny_loadName_free I.ok.kind hk hc hcell fin hcd) hd
theorem wI{i j pos}:PE X (.Constant (.int i) j pos) (tC (.int i)):=λ_ _ _ H _ I h=>wpAny_Constant_int ⟨.int i,H,I.tok _,⟨_,rfl⟩,h⟩
theorem Di{b j pos}:PE X (.Constant (.bool b) j pos) (tC (.bl b)):=λ_ _ _ H _ I h=>Constant_bool ⟨.bl b,H,I,rfl,h⟩
theorem Ai{j pos}:PE X (.Constant .none j pos) (tC .non):=λ_ _ _ H _ I h=>Constant_none ⟨.non,H,I,rfl,h⟩
theorem Aj{x j pos}:PE X (.Constant (.str x) j pos) (tC (.str x)):=λ_ _ _ H _ I h=>Calls.Constant_str ⟨.str x,H,I.tok _,⟨_,rfl⟩,h⟩
def Gl(X:Cx)(x:Str):Prop:=X.env.kindOf x=some .globalImplicit
theorem j7{E:Value->Shared->Prop}{pins:List (Addr×Obj)}{s:Shared}{σ:St}{H:Hp}{x:Str}{u:Value}{pos:Pos}{Q:Value->Shared->Prop}(I:Inv X pins σ H s)(hg:Gl X x)(hm:X.mg x=some u)(h:Q u s)
  (hd:(x == ("__debug__" : Str))=false:=by decide):wpAny (model X.prog X.w) X.A (eval (.Name x pos) X.env) Q E s:=
 LD I.ok.kind hg (Calls.loadGlobal_global (by rw[I.ok.glob];exact I.mod.glob.keeps I.bk) hm h) hd
theorem dr{E:Value->Shared->Prop}{pins:List (Addr×Obj)}{s:Shared}{σ:St}{H:Hp}{x:Str}{u:Value}{pos:Pos}{Q:Value->Shared->Prop}(I:Inv X pins σ H s)(hg:Gl X x)(hm:X.mg x=none)(hv:bootBuiltins x=some u)(h:Q u s)
  (hn:x≠"__name__":=by decide) (hd:(x == ("__debug__" : Str))=false:=by decide):wpAny (model X.prog X.w) X.A (eval (.Name x pos) X.env) Q E s:=by
 obtain⟨mb,h1,h2⟩:=I.mod.blt;exact LD I.ok.kind hg (Calls.loadGlobal_builtin (by rw[I.ok.glob];exact I.mod.glob.keeps I.bk) hm (by rw[I.ok.blt];exact h1.keeps I.bk) ((h2 x hn).trans hv) h) hd
theorem xC {x:Str}{v:V}{u:Value}{pos:Pos}(hg:Gl X x) (hm:X.mg x=some u) (r:RelV v u) (hd:(x == ("__debug__" : Str))=false:=by decide):PE X (.Name x pos) (tC v):=
 λ_ _ _ H _ I h=>j7 I hg hm ⟨v,H,I,r,h⟩ hd
theorem xD {x:Str}{v:V}{u:Value}{pos:Pos}(hg:Gl X x) (hm:X.mg x=none) (hv:bootBuiltins x=some u) (r:RelV v u) (hn:x≠"__name__":=by decide) (hd:(x == ("__debug__" : Str))=false:=by decide):PE X (.Name x pos) (tC v):=
 λ_ _ _ H _ I h=>dr I hg hm hv ⟨v,H,I,r,h⟩ hn hd
variable{a b:Expr}{ta tb:TE}{pos:Pos}
def tB(t:TE):TT:=λσ H Q=>t σ H λx H1=>∃c,x=.bl c/\Q c H1
theorem Ak{e:Expr}{t:TE}(h:PE X e t)(he:∀whole,isTrue e X.env whole=(do let v <-whole;RS e.pos;RB [v] (truthy v)):=by intro _;rfl):PT X e (tB t):=by
 intro pins s σ H Q I hw;refine isTrue_plain (thn (h pins s σ H _ I hw) λv s1 ⟨x,H1,I1,r1,q1⟩=>?_) (he _);obtain⟨d,rfl,q⟩:=q1;cases r1;exact RD ⟨H1,I1,q⟩
variable{tA tB':TT}{rest:List Expr}
def Dj(t u:TT):TT:=λσ H Q=>t σ H λc H1=>if c=true then u σ H1 Q else Q false H1
def tOr(t u:TT):TT:=λσ H Q=>t σ H λc H1=>if c=true then Q true H1 else u σ H1 Q
def Dk(t:TT):TT:=λσ H Q=>t σ H λc H1=>Q (!c) H1
theorem xE(ha:PT X a tA):PW X (.BoolOp .And [a] pos) tA:=by
 intro wh pins s σ H Q I h;refine isTrue_and (thn (ha pins s σ H Q I h) λc s1 e=>?_);cases c with
 | true=>exact isTrue_and_nil e
 | false=>exact e
theorem Am(ha:PT X a tA):PW X (.BoolOp .Or [a] pos) tA:=by
 intro wh pins s σ H Q I h;refine isTrue_or (thn (ha pins s σ H Q I h) λc s1 e=>?_);cases c with
 | false=>exact isTrue_or_nil e
 | true=>exact e
theorem An(ha:PT X a tA)(hb:PW X (.BoolOp .And (b::rest) pos) tB'):PW X (.BoolOp .And (a::b::rest) pos) (Dj tA tB'):=by
 intro wh pins s σ H Q I h;refine isTrue_and (thn (ha pins s σ H _ I h) λc s1 ⟨H1,I1,q1⟩=>?_);cases c with
 | true=>exact hb wh pins s1 σ H1 Q I1 q1
 | false=>exact⟨H1,I1,q1⟩
theorem Dl(ha:PT X a tA)(hb:PW X (.BoolOp .Or (b::rest) pos) tB'):PW X (.BoolOp .Or (a::b::rest) pos) (tOr tA tB'):=by
 intro wh pins s σ H Q I h;refine isTrue_or (thn (ha pins s σ H _ I h) λc s1 ⟨H1,I1,q1⟩=>?_);cases c with
 | true=>exact⟨H1,I1,q1⟩
 | false=>exact hb wh pins s1 σ H1 Q I1 q1
theorem Ao(ha:PT X a tA):PT X (.UnaryOp .Not a pos) (Dk tA):=by
 intro pins s σ H Q I h;exact isTrue_not (ha pins s σ H (λc H1=>Q (!c) H1) I h)
def xF(ta tb:TE):TE:=λσ H Q=>ta σ H λx H1=>∃c,x=.bl c/\if c=true then tb σ H1 Q else Q (.bl false) H1
def xG(ta:TE):TE:=λσ H Q=>ta σ H λx H1=>∃c,x=.bl c/\Q (.bl (!c)) H1
theorem Ap{op}{t:TE}(h:PE X a t):PE X (.BoolOp op [a] pos) t:=λpins s σ H Q I hw=>BoolOp_one (h pins s σ H Q I hw)
theorem Aq(ha:PE X a ta)(hb:PE X (.BoolOp .And (b::rest) pos) tb):PE X (.BoolOp .And (a::b::rest) pos) (xF ta tb):=by
 intro pins s σ H Q I h;refine BoolOp_and (thn (ha pins s σ H _ I h) λv s1 ⟨x,H1,I1,r1,q1⟩=>?_);obtain⟨c,rfl,q1⟩:=q1;cases r1;refine RD ?_;cases c with
 | true=>exact hb pins s1 σ H1 Q I1 q1
 | false=>exact⟨.bl false,H1,I1,rfl,q1⟩
theorem Ar(ha:PE X a ta):PE X (.UnaryOp .Not a pos) (xG ta):=by
 intro pins s σ H Q I h;refine UnaryOp_ (thn (ha pins s σ H _ I h) λv s1 ⟨x,H1,I1,r1,q1⟩=>?_);obtain⟨c,rfl,q1⟩:=q1;cases r1;exact not_of (RD ⟨.bl (!c),H1,I1,rfl,q1⟩)
end
def SqL(K:GH)(H:Hp)(a:Addr)(xs:List V):Prop:=
 Rd H a (.lst xs)\/
  ∃(o:Obj) (its:Array Value) (n:Nat),K.lookup a=some o/\o.cls=.type "list"/\o.dict=none/\o.data=.seq its n/\its.size<=Rj/\Vals xs its.toList
def SqT(K:GH)(H:Hp)(a:Addr)(xs:List V):Prop:=
 Rd H a (.tup xs)\/
  ∃(o:Obj) (its:Array Value) (n:Nat),K.lookup a=some o/\o.cls=.type "tuple"/\o.data=.seq its n/\its.size<=Rj/\Vals xs its.toList
noncomputable def FV:Value->Option V
 | .none=>some .non
 | .bool b=>some (.bl b)
 | .int i _=>some (.int i)
 | .str x _=>some (.str x)
 | .bytes b _=>some (.byt b)
 | .float b _=>some (.flt b)
 | .ref a=>some (.ref a)
 | .type n=>some (.ty n)
 | _=>none
theorem RelV.abs{x:V}{u:Value}(r:RelV x u):FV u=some x:=by
 cases x with
 | non=>cases r;rfl
 | bl _=>cases r;rfl
 | int _=>obtain⟨t,rfl⟩:=r;rfl
 | str _=>obtain⟨t,rfl⟩:=r;rfl
 | byt _=>obtain⟨t,rfl⟩:=r;rfl
 | flt _=>obtain⟨t,rfl⟩:=r;rfl
 | ref _=>cases r;rfl
 | ty _=>cases r;rfl
theorem RelV.inj{x y:V}{u:Value}(r:RelV x u)(q:RelV y u):x=y:=G9 (r.abs.symm.trans q.abs)
theorem Vals.inj:∀{xs ys:List V}{us:List Value},Vals xs us->Vals ys us->xs=ys
 | _,_,_,.nil,.nil=>rfl
 | _,_,_,.cons r t,.cons r' t'=>by rw[r.inj r',Vals.inj t t']
section
variable{X:Cx}{pins:List (Addr×Obj)}{σ:St}{H:Hp}{s:Shared}{a:Addr}{xs ys:List V}
theorem SqL.of{K:GH}(h:H a=some (.lst xs)):SqL K H a xs:=.inl (.inl h)
theorem SqT.of{K:GH}(h:H a=some (.tup xs)):SqT K H a xs:=.inl (.inl h)
theorem Inv.list(I:Inv X pins σ H s)(h:SqL X.K H a xs):∃its:List Value,Vals xs its/\PlainL s.heap a its.toArray/\xs.length<=Rj:=by
 rcases h with h|⟨o,its,n,hk,hc,hd,hs,hz,r⟩
 ·obtain⟨z,its,n,r,e⟩:=h.ok I.hok
  exact⟨its,r,⟨_,n,e,rfl,rfl,rfl⟩,z⟩
 ·refine⟨its.toList,r,⟨o,n,I.kIn a o hk,hc,hd,by simpa using hs⟩,?_⟩
  have e:=r.length;simp only[IT]at e;lia
theorem Inv.tuple(I:Inv X pins σ H s)(h:SqT X.K H a xs):∃its:List Value,Vals xs its/\IsTup s.heap a its.toArray/\xs.length<=Rj:=by
 rcases h with h|⟨o,its,n,hk,hc,hs,hz,r⟩
 ·obtain⟨z,its,r,p⟩:=h.ok I.hok
  exact⟨its,r,p,z⟩
 ·refine⟨its.toList,r,⟨o,I.kIn a o hk,hc,n,by simpa using hs⟩,?_⟩
  have e:=r.length;simp only[IT]at e;lia
theorem Inv.list_inj(I:Inv X pins σ H s)(h:SqL X.K H a xs)(h':SqL X.K H a ys):xs=ys:=by
 obtain⟨its,r,⟨o,n,e,_,_,d⟩,_⟩:=I.list h;obtain⟨its',r',⟨o',n',e',_,_,d'⟩,_⟩:=I.list h';rw[e]at e';cases e';rw[d]at d';injection d' with d1 _
 have:its=its':=by simpa using congrArg Px d1
 subst this;exact r.inj r'
theorem Inv.tuple_inj(I:Inv X pins σ H s)(h:SqT X.K H a xs)(h':SqT X.K H a ys):xs=ys:=by
 obtain⟨its,r,⟨o,e,_,n,d⟩,_⟩:=I.tuple h;obtain⟨its',r',⟨o',e',_,n',d'⟩,_⟩:=I.tuple h';rw[e]at e';cases e';rw[d]at d';injection d' with d1 _
 have:its=its':=by simpa using congrArg Px d1
 subst this;exact r.inj r'
end
noncomputable abbrev Cx.wish(X:Cx)(E:Value->Shared->Prop):Cx:={ X with xe:=E }
noncomputable abbrev Cx.nox(X:Cx):Cx:=X.wish λ_ _=>False
theorem Cx.Ok.wish{X:Cx}(ok:X.Ok)(E:Value->Shared->Prop):(X.wish E).Ok:=
 ⟨ok.mod,ok.kind,ok.glob,ok.blt,ok.above,ok.inj,ok.has,ok.cab,ok.hd,ok.frames,ok.stk,ok.exf,ok.bs,ok.bsz,ok.noex,ok.exfs,ok.funs,ok.frf⟩
theorem Cx.Ok.unwish{X:Cx}{E:Value->Shared->Prop}(ok:(X.wish E).Ok):X.Ok:=
 ⟨ok.mod,ok.kind,ok.glob,ok.blt,ok.above,ok.inj,ok.has,ok.cab,ok.hd,ok.frames,ok.stk,ok.exf,ok.bs,ok.bsz,ok.noex,ok.exfs,ok.funs,ok.frf⟩
section
variable{X:Cx}{pins:List (Addr×Obj)}{σ:St}{H:Hp}{s:Shared}{E:Value->Shared->Prop}
theorem Inv.wish(I:Inv X pins σ H s)(E:Value->Shared->Prop):Inv (X.wish E) pins σ H s:=⟨I.ok.wish E,I.os,I.bare,I.base,I.loc,I.cell,I.free,I.freeC,I.pin,I.hok,I.len⟩
theorem Inv.unwish(I:Inv (X.wish E) pins σ H s):Inv X pins σ H s:=⟨I.ok.unwish,I.os,I.bare,I.base,I.loc,I.cell,I.free,I.freeC,I.pin,I.hok,I.len⟩
theorem SP.unwish{D:Ends}{f:Flow}{s':Shared}(h:SP (X.wish E) pins D f s'):SP X pins D f s':=by
 cases f with
 | next=>obtain⟨σ',H',I,q⟩:=h;exact⟨σ',H',I.unwish,q⟩
 | brk=>obtain⟨σ',H',I,q⟩:=h;exact⟨σ',H',I.unwish,q⟩
 | cont=>obtain⟨σ',H',I,q⟩:=h;exact⟨σ',H',I.unwish,q⟩
 | ret u=>obtain⟨v,σ',H',I,r,q⟩:=h;exact⟨v,σ',H',I.unwish,r,q⟩
theorem PSs.nox{st:List Stmt}{t:TS}(h:PSs X.nox st t):PSs X st t:=λpins s σ H D I hw=>
 Ro (h pins s σ H D (I.wish _) hw) (λ_ _ q=>q.unwish) λ_ _ z=>IG z
end
section
variable{X:Cx}{st:Stmt}{rest:List Stmt}{t u:TS}{e:Expr}{te:TE}{pos:Pos}
def xH:TS:=λD σ H=>D.nx σ H
def Dm(t u:TS):TS:=λD σ H=>t { D with nx:=u D } σ H
theorem xI:PSs X [] xH:=λ_ _ σ H _ I h=>wpAny_execs_nil ⟨σ,H,I,h⟩
theorem uv(h1:PS X st t)(h2:PSs X rest u):PSs X (st::rest) (Dm t u):=by
 intro pins s σ H D I h;refine wpAny_execs_cons (thn (h1 pins s σ H { D with nx:=u D } I h) λf s1 q=>?_);cases f with
 | next=>
  obtain⟨σ',H',I',q⟩:=q;exact h2 pins s1 σ' H' D I' q
 | ret v=>exact q
 | brk=>exact q
 | cont=>exact q
theorem xJ(h1:PS X st t):PSs X [st] t:=by
 intro pins s σ H D I h;refine wpAny_execs_cons (thn (h1 pins s σ H D I h) λf s1 q=>?_);cases f with
 | next=>exact wpAny_execs_nil q
 | ret v=>exact q
 | brk=>exact q
 | cont=>exact q
def xK:TS:=λD σ H=>D.ct σ H
theorem mM:PS X (.Continue pos) xK:=λ_ _ σ H _ I h=>wpAny_Continue ⟨σ,H,I,h⟩
theorem Inv.quiet{pins:List (Addr×Obj)}{σ:St}{H:Hp}{s:Shared}(I:Inv X pins σ H s):interactive X.env=false:=by simp[interactive,I.ok.kind]
def xM(te:TE):TS:=λD σ H=>te σ H λ_ H1=>D.nx σ H1
theorem xN(he:PE X e te)(hs:RT e none pos.line X.env=pure false:=by rfl):PS X (.Expr e pos) (xM te):=by
 intro pins s σ H D I h;exact wpAny_Expr_any (thn (he pins s σ H _ I h) λv s1 ⟨x,H1,I1,r1,q1⟩=>⟨σ,H1,I1,q1⟩) I.quiet hs
def Do(te:TE):TS:=λD σ H=>te σ H D.rt
theorem As(he:PE X e te):PS X (.Return (some e) pos) (Do te):=by
 intro pins s σ H D I h;exact wpAny_Return_some (thn (he pins s σ H _ I h) λv s1 ⟨x,H1,I1,r1,q1⟩=>⟨x,σ,H1,I1,r1,q1⟩)
def Dp(c:TT)(t u:TS):TS:=λD σ H=>c σ H λb H1=>if b=true then t D σ H1 else u D σ H1
theorem Dq{c:Expr}{a b:List Stmt}{tc:TT}(hc:PT X c tc)(ha:PSs X a t)(hb:PSs X b u):PS X (.If c a b pos) (Dp tc t u):=by
 intro pins s σ H D I h;refine wpAny_If (thn (hc pins s σ H _ I h) λd s1 ⟨H1,I1,q1⟩=>?_);cases d with
 | true=>exact ha pins s1 σ H1 D I1 q1
 | false=>exact hb pins s1 σ H1 D I1 q1
def wJ:TS:=λ_ _ _=>False
theorem uw:PS X st wJ:=λ_ _ _ _ _ _ h=>h.elim
end
noncomputable abbrev TG:=V->St->Hp->(St->Hp->Prop)->Prop
noncomputable abbrev TGs:=List V->St->Hp->(St->Hp->Prop)->Prop
def PG(X:Cx)(target:Expr)(t:TG):Prop:=
 ∀(pins:List (Addr×Obj)) (s:Shared) (σ:St) (H:Hp) (v:V) (u:Value) (Q:St->Hp->Prop),Inv X pins σ H s->RelV v u->t v σ H Q->
  wpAny (model X.prog X.w) X.A (assign target X.env u) (λ_ s'=>∃σ' H',Inv X pins σ' H' s'/\Q σ' H') X.xe s
def PGs(X:Cx)(ts:List Expr)(t:TGs):Prop:=
 ∀(pins:List (Addr×Obj)) (s:Shared) (σ:St) (H:Hp) (vs:List V) (us:List Value) (Q:St->Hp->Prop),Inv X pins σ H s->Vals vs us->t vs σ H Q->
  wpAny (model X.prog X.w) X.A (assignInOrder ((RG ts X.env).map (·.2)) us) (λ_ s'=>∃σ' H',Inv X pins σ' H' s'/\Q σ' H') X.xe s
noncomputable abbrev xO:=V->V->V->Hp->(Hp->Prop)->Prop
def Dr(X:Cx)(t:xO):Prop:=
 ∀(pins:List (Addr×Obj)) (s:Shared) (σ:St) (H:Hp) (o i v:V) (ov iv u:Value) (Q:Hp->Prop),Inv X pins σ H s->RelV o ov->RelV i iv->RelV v u->t o i v H Q->
  wpAny (model X.prog X.w) X.A (setItem ov iv u) (λ_ s'=>∃H',Inv X pins σ H' s'/\Q H') X.xe s
noncomputable abbrev TIp:=V->V->Hp->VK->Prop
def PIp(X:Cx)(op:Operator)(t:TIp):Prop:=
 ∀(pins:List (Addr×Obj)) (s:Shared) (σ:St) (H:Hp) (x y:V) (v u:Value) (Q:VK),Inv X pins σ H s->RelV x v->RelV y u->t x y H Q->
  wpAny (model X.prog X.w) X.A (R0 op v u) (EP X pins σ Q) X.xe s
section
variable{X:Cx}{pos:Pos}
def fz(i:Nat):TG:=λv σ H Q=>Q (σ.set i (some v)) H
theorem xP{i:Nat}{x:Str}(hN:X.N.Nodup)(hi:X.N[i]? = some x)(hx:Loc X.env.scope x)(hf:X.fn x=true\/X.env.scope.names.lookup x=some .local:=by first|exact .inl rfl|exact .inr rfl|assumption):PG X (.Name x pos) (fz i):=by
 intro pins s σ H v u Q I r h;exact wpAny_assign_Name (eS I hN hi hx r (λs' I'=>⟨_,H,I',h⟩) hf)
noncomputable def CN:TGs:=λvs σ H Q=>vs=[]/\Q σ H
noncomputable def mN(t:TG)(u:TGs):TGs:=λvs σ H Q=>∃v r,vs=v::r/\t v σ H λσ' H'=>u r σ' H' Q
theorem xQ:PGs X [] CN:=by
 intro pins s σ H vs us Q I r h;obtain⟨e,h⟩:=h;subst e;cases r;exact assignInOrder_nil ⟨σ,H,I,h⟩
theorem ux{e:Expr}{es:List Expr}{t:TG}{u:TGs}(h1:PG X e t)(h2:PGs X es u)
  (hs:(RG (e::es) X.env).map (·.2)=assign e X.env::(RG es X.env).map (·.2):=by rfl):PGs X (e::es) (mN t u):=by
 intro pins s σ H vs us Q I r h;obtain⟨v,vr,e1,h⟩:=h;subst e1;cases r with
 | cons r rr=>
  rw[hs];refine assignInOrder_cons (thn (h1 pins s σ H _ _ _ I r h) λ_ s1 ⟨σ1,H1,I1,q1⟩=>?_);exact h2 pins s1 σ1 H1 _ _ Q I1 rr q1
def CO(K:GH)(n:Nat)(t:TGs):TG:=λv σ H Q=>∃a xs,v=.ref a/\SqT K H a xs/\xs.length=n/\t xs σ H Q
theorem Au{es:List Expr}{k:Nat}{t:TGs}{n:Nat}(hc:X.calm=true)(h:PGs X es t)
  (hn:(RG es X.env).length=n:=by rfl) (hst:(RG es X.env).findIdx? (·.1)=none:=by rfl):PG X (.Tuple es k pos) (CO X.K n t):=by
 intro pins s σ H v u Q I r hw;obtain⟨a,xs,e1,hq,hl,hw⟩:=hw;subst e1;cases r;obtain⟨its,rv,ht,hz⟩:=I.tuple hq;refine assign_Tuple_tuple (I.ok.hd hc) ht (by simp[hn,<-hl,rv.length]) hst λh' hx=>?_
 have I1:Inv X pins σ H { s with heap:=h' }:=I.kept (t':=s.toks) λb o e=>hx b o (Hf (GX e)) e
 exact h pins _ σ H xs _ Q I1 (by simpa using rv) hw
def Ds(to ti:TE)(t:xO):TG:=λv σ H Q=>to σ H λo H1=>ti σ H1 λi H2=>t o i v H2 λH3=>Q σ H3
theorem Av{o i:Expr}{to ti:TE}{t:xO}(ho:PE X o to)(hi:PE X i ti)(hs:Dr X t)
  (ha:∀v,assign (.Subscript o i pos) X.env v=(do
   let ov <-RB [v] (eval o X.env)
   let iv <-RB [v,ov] (eval i X.env)
   RS pos
   RB [v,ov,iv] (setItem ov iv v)
   release [v,ov,iv] []):=by intro _;rfl):PG X (.Subscript o i pos) (Ds to ti t):=by
 intro pins s σ H v u Q I r h;rw[ha];refine Rh (Rq (thn (ho pins s σ H _ I h) λov s1 ⟨x,H1,I1,r1,q1⟩=>?_));refine Rh (Rq (thn (hi pins s1 σ H1 _ I1 q1) λiv s2 ⟨y,H2,I2,r2,q2⟩=>?_));refine Rh (RI (Rh (Rq (thn (hs pins s2 σ H2 x y v ov iv u _ I2 r1 r2 r q2) λ_ s3 ⟨H3,I3,q3⟩=>?_))));exact wpAny_release ⟨σ,H3,I3,q3⟩
def qf(te:TE)(g:TG):TS:=λD σ H=>te σ H λx H1=>g x σ H1 D.nx
theorem qg{tg e:Expr}{te:TE}{g:TG}(he:PE X e te)(hg:PG X tg g)(hs:RV [tg] e pos.line X.env=pure false:=by rfl)(hw:RW [tg] e X.env=pure none:=by rfl)
  (h1:(RG [tg] X.env).map (·.2)=[assign tg X.env]:=by rfl):PS X (.Assign [tg] e pos) (qf te g):=by
 intro pins s σ H D I h;refine wpAny_Assign_stores (thn (he pins s σ H _ I h) λv s1 ⟨x,H1,I1,r1,q1⟩=>?_) hs hw;rw[h1];exact thn (hg pins s1 σ H1 x v _ I1 r1 q1) λ_ s2 q=>q
theorem Aw{i:Nat}{x:Str}{e:Expr}{te:TE}{pos':Pos}(hN:X.N.Nodup)(hi:X.N[i]? = some x)(hx:Loc X.env.scope x)(he:PE X e te)(hs:RT e (some (.Name x pos')) pos.line X.env=pure false:=by rfl)(hf:X.fn x=true\/X.env.scope.names.lookup x=some .local:=by first|exact .inl rfl|exact .inr rfl|assumption):
  PS X (.Assign [.Name x pos'] e pos) (qf te (fz i)):=by
 intro pins s σ H D I h;refine wpAny_Assign_Name (thn (he pins s σ H _ I h) λv s1 ⟨y,H1,I1,r1,q1⟩=>?_) hs;exact eS I1 hN hi hx r1 (λs2 I2=>⟨_,H1,I2,q1⟩) hf
def Dt(i j:Nat)(ta:TA):TS:=λD σ H=>ta σ H λvs H1=>∃v w,vs=[v,w]/\D.nx ((σ.set i (some v)).set j (some w)) H1
theorem Ax{i j:Nat}{x y:Str}{a b:Expr}{ta:TA}{px py pt:Pos}{kt k2 pt2}(hc:X.calm=true)(hN:X.N.Nodup)(hi:X.N[i]? = some x)(hj:X.N[j]? = some y)(hij:i≠j)
  (hx:X.env.scope.names.lookup x=some .local) (hy:X.env.scope.names.lookup y=some .local) (ha:PA X [a,b] ta)
  (hw:RW [.Tuple [.Name x px,.Name y py] kt pt] (.Tuple [a,b] k2 pt2) X.env=pure (some [x,y]))
  (hs:RV [.Tuple [.Name x px,.Name y py] kt pt] (.Tuple [a,b] k2 pt2) pos.line X.env=pure false:=by rfl) :
  PS X (.Assign [.Tuple [.Name x px,.Name y py] kt pt] (.Tuple [a,b] k2 pt2) pos) (Dt i j ta):=by
 intro pins s σ H D I h;rw[exec_Assign_arm];refine Rh (RI ?_);rw[hs];refine Rh (Ri ?_);rw[if_neg (by decide)];refine Rh (Tuple_ (thn (ha _ pins s σ H _ I h) λus s1 ⟨vs,H1,I1,r1,q1⟩=>?_));obtain⟨v,w,e1,q1⟩:=q1;subst e1;obtain⟨u1,u2,rfl,rv,rw'⟩:∃u1 u2,us=[u1,u2]/\RelV v u1/\RelV w u2:=by
  cases r1 with
  | cons p q=>
   cases q with
   | cons p' q'=>
    cases q';exact⟨_,_,rfl,p,p'⟩
 refine Ry ?_ (by show 2<=Rj;decide);have I2:Inv X pins σ H1 { s1 with heap:=s1.heap.push { cls:=.type "tuple",data:=.seq [u1,u2].toArray } }:=I1.kept (t':=s1.toks) λb o e=>GI _ e
 rw[hw];refine Rh (Ri ?_);show wpAny (model X.prog X.w) X.A (do rule "assign.swapped-stores";let items <-unpackItems (.ref s1.heap.objs.size) 2 none;assignInOrder [λv=>bindName X.env y v,λv=>bindName X.env x v] items.reverse;pure QF) _ _ _
 refine Rh (RZ (Rh (unpackItems_tuple (items:=#[u1,u2]) (I.ok.hd hc) (O4 s1.heap _) λh' hx'=>?_)));have I3:=I2.kept (h':=h') (t':=s1.toks) λb o e=>hx' b o (Hf (GX e)) e
 show wpAny _ _ (assignInOrder [λv=>bindName X.env y v,λv=>bindName X.env x v] [u2,u1] >>= λ_=>pure QF) _ _ _
 refine Rh (assignInOrder_cons (wpAny_bindName (eS I3 hN hj (.inl hy) rw' (λs2 I4=>?_) (.inr hy))));refine assignInOrder_cons (wpAny_bindName (eS I4 hN hi (.inl hx) rv (λs3 I5=>assignInOrder_nil (Ri ?_)) (.inr hx)));rw[List.set_comm _ _ (Hl hij)]at I5;exact⟨_,H1,I5,q1⟩
def Du(i:Nat)(te:TE)(ti:TIp):TS:=λD σ H=>∃x,σ[i]? = some (some x)/\te σ H λy H1=>ti x y H1 λz H2=>D.nx (σ.set i (some z)) H2
theorem Ay{i:Nat}{x:Str}{e:Expr}{te:TE}{op:Operator}{ti:TIp}{pos':Pos}(hN:X.N.Nodup)(hi:X.N[i]? = some x)(hx:Loc X.env.scope x)(he:PE X e te)(ho:PIp X op ti)(hf:X.fn x=true\/X.env.scope.names.lookup x=some .local:=by first|exact .inl rfl|exact .inr rfl|assumption):
  PS X (.AugAssign (.Name x pos') op e pos) (Du i te ti):=by
 intro pins s σ H D I h;obtain⟨v,e1,h⟩:=h;obtain⟨m,hn,hl⟩:=I.loc;have vis:Vis X.env.scope x:=by rcases hx with k|k;exact .inl k;exact .inr (.inl k)
 obtain⟨u,r,l⟩:=hl i x v hi e1 vis;refine wpAny_AugAssign_Name ?_;have go:wpAny (model X.prog X.w) X.A (eval e X.env) (λw s₂=>wpAny (model X.prog X.w) X.A (R0 op u w) (λr s₃=>wpAny (model X.prog X.w) X.A (storeName X.env x r) (λ_=>SP X pins D .next) X.xe s₃) X.xe s₂) X.xe s:=by
  refine thn (he pins s σ H _ I h) λw s1 ⟨y,H1,I1,r1,q1⟩=>?_
  refine thn (ho pins s1 σ H1 v y u w _ I1 r r1 q1) λz s2 ⟨zv,H2,I2,r2,q2⟩=>?_
  exact eS I2 hN hi hx r2 (λs3 I3=>⟨_,H2,I3,q2⟩) hf
 rcases l with⟨hk,hm⟩|⟨hk,c,hc,hcell⟩
 ·exact wpAny_loadName_local I.ok.kind hk hn hm go
 ·rcases hk with hk|hk
  ·exact wpAny_loadName_cell I.ok.kind hk hc hcell go
  ·rcases hx with k|k
   ·have:X.env.scope.names.lookup x=some .free:=hk
    rw[k]at this;cases this
   ·have:X.env.scope.names.lookup x=some .free:=hk
    rw[k]at this;cases this
def uy(to ti te:TE)(tget:V->V->Hp->VK->Prop)(tip:TIp)(tset:xO):TS:=λD σ H=>to σ H λo H1=>ti σ H1 λi H2=>tget o i H2 λx H3=>te σ H3 λy H4=>tip x y H4 λz H5=>tset o i z H5 λH6=>D.nx σ H6
def Dv(X:Cx)(t:V->V->Hp->VK->Prop):Prop:=
 ∀(pins:List (Addr×Obj)) (s:Shared) (σ:St) (H:Hp) (o i:V) (ov iv:Value) (Q:VK),Inv X pins σ H s->RelV o ov->RelV i iv->t o i H Q->
  wpAny (model X.prog X.w) X.A (getItem ov iv) (EP X pins σ Q) X.xe s
theorem qh{o i e:Expr}{to ti te:TE}{tget:V->V->Hp->VK->Prop}{tip:TIp}{tset:xO}{op:Operator}{tpos:Pos}(ho:PE X o to)(hi:PE X i ti)(hg:Dv X tget)(he:PE X e te)(hp:PIp X op tip)(hs:Dr X tset)
  (ha:∀ov iv new,augStore i ov iv new=(do RB [new,ov,iv] (setItem ov iv new);release [new,ov,iv] [];pure .next):=by intros;rfl):PS X (.AugAssign (.Subscript o i tpos) op e pos) (uy to ti te tget tip tset):=by
 intro pins s σ H D I h;refine wpAny_AugAssign_SubscriptAny (thn (ho pins s σ H _ I h) λov s1 ⟨x1,H1,I1,r1,q1⟩=>?_) ha;refine thn (hi pins s1 σ H1 _ I1 q1) λiv s2 ⟨x2,H2,I2,r2,q2⟩=>?_
 refine thn (hg pins s2 σ H2 x1 x2 ov iv _ I2 r1 r2 q2) λold s3 ⟨x3,H3,I3,r3,q3⟩=>?_
 refine thn (he pins s3 σ H3 _ I3 q3) λv s4 ⟨x4,H4,I4,r4,q4⟩=>?_
 refine thn (hp pins s4 σ H4 x3 x4 old v _ I4 r3 r4 q4) λnew s5 ⟨x5,H5,I5,r5,q5⟩=>?_
 exact thn (hs pins s5 σ H5 x1 x2 x5 ov iv new _ I5 r1 r2 r5 q5) λ_ s6 ⟨H6,I6,q6⟩=>⟨σ,H6,I6,q6⟩
noncomputable def ipI(f:Int->Int->Int):TIp:=λx y H Q=>∃i j,x=.int i/\y=.int j/\Q (.int (f i j)) H
theorem wK:PIp X .Add (ipI λi j=>i+j):=by
 intro pins s σ H x y v u Q I r1 r2 h;obtain⟨i,j,e1,e2,q⟩:=h;subst e1;subst e2;obtain⟨t,rfl⟩:=r1;obtain⟨t',rfl⟩:=r2;exact iadd_int ⟨.int _,H,I.tok _,⟨_,rfl⟩,q⟩
end
section
variable{X:Cx}{pos:Pos}
def wL(c:TT)(tb:TS):TS:=λD σ H=>∃W:Nat->St->Hp->Prop,(∃m,W m σ H)/\∀m σ H,W m σ H->
 c σ H λb H1=>if b=true then ∃N:St->Hp->Prop,(∀σ' H',N σ' H'->∃m',m'<m/\W m' σ' H')/\tb { D with nx:=N,ct:=N,bk:=D.nx } σ H1 else D.nx σ H1
theorem uz{c:Expr}{body:List Stmt}{tc:TT}{tb:TS}(hp:PassesOwn (model X.prog X.w) X.A X.env X.xe)(hc:PT X c tc)(hb:PSs X body tb):PS X (.While c body [] pos) (wL tc tb):=by
 intro pins s σ H D I h;obtain⟨W,⟨m0,w0⟩,turn⟩:=h;refine wpAny_While (codeAny_whileLoop (λn s'=>∃σ' H',Inv X pins σ' H' s'/\W n σ' H') ?_ m0 ⟨σ,H,I,w0⟩);rintro n s1 ⟨σ1,H1,I1,w1⟩;refine RH hp (thn (hc pins s1 σ1 H1 _ I1 (turn n σ1 H1 w1)) λb s2 ⟨H2,I2,q2⟩=>?_);cases b with
 | true=>
  obtain⟨N,hN,q2⟩:=q2;rw[if_pos rfl];refine RH hp (thn (hb pins s2 σ1 H2 _ I2 q2) λf s3 q3=>?_);cases f with
  | next=>
   obtain⟨σ3,H3,I3,n3⟩:=q3;obtain⟨m',hm,w3⟩:=hN σ3 H3 n3;exact⟨m',hm,σ3,H3,I3,w3⟩
  | cont=>
   obtain⟨σ3,H3,I3,n3⟩:=q3;obtain⟨m',hm,w3⟩:=hN σ3 H3 n3;exact⟨m',hm,σ3,H3,I3,w3⟩
  | brk=>exact q3
  | ret v=>exact q3
 | false=>
  rw[if_neg Ha];exact wpAny_execs_nil ⟨σ1,H2,I2,q2⟩
end
structure It where
 go:Nat->Hp->Prop
 yld:Nat->Hp->V->Hp->Prop
 stop:Nat->Hp->Prop
def uq(X:Cx)(pins:List (Addr×Obj))(H:Hp)(b:Addr):Prop:=
 H b=none/\b≠X.env.locals/\b∉X.fs/\(b∈X.ex\/X.s₀.heap.objs.size<=b)/\(∀x c,X.env.cells.lookup x=some c->c≠b)/\∀p∈X.pn++pins,p.1≠b
theorem Inv.fpOk{X:Cx}{pins:List (Addr×Obj)}{σ:St}{H H':Hp}{s:Shared}{b:Addr}(I:Inv X pins σ H s)(hb:s.heap.objs.size<=b)(hn:H' b=none):uq X pins H' b:=by
 refine⟨hn,Jb (Hi I.lt hb),I.nofs hb,.inr (HU I.sz hb),λx c e z=>?_,λp hp z=>?_⟩
 ·obtain⟨v,q⟩:=I.cell x c e
  exact absurd (Hi q.lt (by rw[z];exact hb)) (Iw _)
 ·exact absurd (Hi (GX (I.pin p hp).1) (by rw[z];exact hb)) (Iw _)
structure Turn (P:Program) (w:World) (K:GH) (tg:Expr) (J:It) (fp:List Addr) (it:Addr) (tn:Nat->Heap->Prop):Prop where
 mem:it∈fp
 obj:∀i h,tn i h->∀b∈fp,∃o,h.get? b=some o/\∀v,o.data≠.cell v
 keep:∀i h h',tn i h->(∀b∈fp,∀o,h.get? b=some o->h'.get? b=some o)->tn i h'
 item:∀(X:Cx),X.prog=P->X.w=w->X.K=K->X.calm=true->∀(i:Nat) (pins:List (Addr×Obj)) (s:Shared) (σ:St) (H:Hp) (E:Value->Shared->Prop),Inv X pins σ H s->(∀b∈fp,uq X pins H b)->tn i s.heap->J.go i H->
  wpAny (model P w) X.A (pyNext (.ref it)) (λr s1=>∃u,r=some u/\
   wpAny (model P w) X.A (letOwnedTupleGo tg (.ref it) u) (λ_ s2=>∃x H',Inv X pins σ H' s2/\RelV x u/\J.yld i H x H'/\tn (i+1) s2.heap/\∀b∈fp,H' b=none) E s1) E s
 done:∀(X:Cx),X.prog=P->X.w=w->X.K=K->X.calm=true->∀(i:Nat) (pins:List (Addr×Obj)) (s:Shared) (σ:St) (H:Hp) (E:Value->Shared->Prop),Inv X pins σ H s->(∀b∈fp,uq X pins H b)->tn i s.heap->J.stop i H->
  wpAny (model P w) X.A (pyNext (.ref it)) (λr s1=>r=none/\Inv X pins σ H s1) E s
 self:∀(A:Around) (i:Nat) (s:Shared) (Q:Value->Shared->Prop) (E:Value->Shared->Prop),tn i s.heap->Q (.ref it) s->wpAny (model P w) A (pyIter (.ref it)) Q E s
noncomputable abbrev TI:=St->Hp->(It->Hp->Prop)->Prop
def PIE(X:Cx)(pins:List (Addr×Obj))(σ:St)(tg:Expr)(R:It->Hp->Prop)(itv:Value)(s2:Shared):Prop:=
 ∃(it:Addr) (fp:List Addr) (tn:Nat->Heap->Prop) (J:It) (H':Hp),itv=.ref it/\Inv X pins σ H' s2/\Turn X.prog X.w X.K tg J fp it tn/\tn 0 s2.heap/\(∀b∈fp,uq X pins H' b)/\R J H'
def PI(X:Cx)(tg iter:Expr)(wi:TI):Prop:=
 ∀(pins:List (Addr×Obj)) (s:Shared) (σ:St) (H:Hp) (R:It->Hp->Prop),Inv X pins σ H s->wi σ H R->
  wpAny (model X.prog X.w) X.A (eval iter X.env) (λv s1=>wpAny (model X.prog X.w) X.A (pyIter v) (PIE X pins σ tg R) X.xe s1) X.xe s
theorem o8{M:Model}{A:Around}{E:Value->Shared->Prop}{s:Shared}{tg:Expr}{it:Addr}{u:Value}{o:Obj}{n:String}{vs:Array Value}{Q:Unit->Shared->Prop}(ho:s.heap.get? it=some o)(hc:o.cls=.type n)(hd:o.data=.fields vs)
    (hn:["enumerate","zip","dict_itemiterator","dict_reverseitemiterator","odict_iterator","itertools.zip_longest","itertools.pairwise"].contains n=false) (hQ:Q () s):wpAny M A (letOwnedTupleGo tg (.ref it) u) Q E s:=by
  unfold letOwnedTupleGo;cases tg<;>first
    | exact Ri hQ
    | (cases u<;>first
        | exact Ri hQ
        | (refine Rh (wpAny_load ho ?_)
           rw[hc,hd];show wpAny M A (if(["enumerate","zip","dict_itemiterator","dict_reverseitemiterator","odict_iterator","itertools.zip_longest","itertools.pairwise"].contains n && vs[0]? == some (RJ _))=true then _ else _) Q E s
           rw[if_neg (by intro h;rw[hn,Bool.false_and]at h;cases h)];exact Ri hQ))
def Itl(K:GH)(a:Addr):It:=
 ⟨λi H=>∃xs x,SqL K H a xs/\xs[i]? = some x,λi H x H'=>H'=H/\∀xs,SqL K H a xs->xs[i]? = some x,λi H=>∃xs,SqL K H a xs/\xs.length<=i⟩
def Itt(K:GH)(a:Addr):It:=
 ⟨λi H=>∃xs x,SqT K H a xs/\xs[i]? = some x,λi H x H'=>H'=H/\∀xs,SqT K H a xs->xs[i]? = some x,λi H=>∃xs,SqT K H a xs/\xs.length<=i⟩
def Itr(lo:Int)(n:Nat):It:=⟨λi _=>i<n,λi H x H'=>H'=H/\x=.int (lo+i),λi _=>n<=i⟩
theorem qi{P:Program}{w:World}{K:GH}{tg:Expr}(a it:Addr):Turn P w K tg (Itl K a) [it] it (λi h=>h.IsListIter it a i) where
 mem:=by simp
 obj:=λi h st b hb=>by
  have e:b=it:=by simpa using hb
  subst e;obtain⟨o,e,c,d⟩:=st;exact⟨o,e,λv z=>by rw[d]at z;cases z⟩
 keep:=λi h h' st k=>st.at λo e=>k it (by simp) o e
 item:=by
  intro X hP hw hK hc i pins s σ H E I hf st hg;subst hP hw hK;obtain⟨xs,x,hq,hx⟩:=hg;obtain⟨its,rv,p,hz⟩:=I.list hq;obtain⟨u,hu,ru⟩:=rv.get hx;obtain⟨f0,f1,f2,f3,f4,f5⟩:=hf it (by simp);refine wpAny_pyNext_list_item st p.isList (x:=u) (by simpa using hu) λh' st' sb=>?_
  have I1:Inv X pins σ H { s with heap:=h' }:=I.turned (t':=s.toks) (λb o hb e=>(sb.2 b hb).trans e) f0 f1 f3 f4 f5;obtain⟨o,e,c,d⟩:=id st';exact⟨u,rfl,o8 (s:={ s with heap:=h' }) e c d (by decide) ⟨x,H,I1,ru,⟨rfl,λys hy=>by rw[I.list_inj hy hq];exact hx⟩,st',λb hb=>(hf b hb).1⟩⟩
 done:=by
  intro X hP hw hK hc i pins s σ H E I hf st hg;subst hP hw hK;obtain⟨xs,hq,hx⟩:=hg;obtain⟨its,rv,p,hz⟩:=I.list hq;obtain⟨f0,f1,f2,f3,f4,f5⟩:=hf it (by simp);have hl:=rv.length;exact wpAny_pyNext_list_end (I.ok.hd hc) st p.isList (by simp;lia) λh' eb=>⟨rfl,I.turned (t':=s.toks) (λb o hb e=>eb b o hb e) f0 f1 f3 f4 f5⟩
 self:=λ_ _ _ _ _ st h=>wpAny_pyIter_listiter st h
theorem pb{P:Program}{w:World}{K:GH}{tg:Expr}(a it:Addr):Turn P w K tg (Itt K a) [it] it (λi h=>h.IsTupleIter it a i) where
 mem:=by simp
 obj:=λi h st b hb=>by
  have e:b=it:=by simpa using hb
  subst e;obtain⟨o,e,c,d⟩:=st;exact⟨o,e,λv z=>by rw[d]at z;cases z⟩
 keep:=λi h h' st k=>st.at λo e=>k it (by simp) o e
 item:=by
  intro X hP hw hK hc i pins s σ H E I hf st hg;subst hP hw hK;obtain⟨xs,x,hq,hx⟩:=hg;obtain⟨its,rv,p,hz⟩:=I.tuple hq;obtain⟨u,hu,ru⟩:=rv.get hx;obtain⟨f0,f1,f2,f3,f4,f5⟩:=hf it (by simp);refine wpAny_pyNext_tuple_item st (show s.heap.IsTuple a its.toArray from p) (x:=u) (by simpa using hu) λh' st' sb=>?_
  have I1:Inv X pins σ H { s with heap:=h' }:=I.turned (t':=s.toks) (λb o hb e=>(sb.2 b hb).trans e) f0 f1 f3 f4 f5;obtain⟨o,e,c,d⟩:=id st';exact⟨u,rfl,o8 (s:={ s with heap:=h' }) e c d (by decide) ⟨x,H,I1,ru,⟨rfl,λys hy=>by rw[I.tuple_inj hy hq];exact hx⟩,st',λb hb=>(hf b hb).1⟩⟩
 done:=by
  intro X hP hw hK hc i pins s σ H E I hf st hg;subst hP hw hK;obtain⟨xs,hq,hx⟩:=hg;obtain⟨its,rv,p,hz⟩:=I.tuple hq;obtain⟨f0,f1,f2,f3,f4,f5⟩:=hf it (by simp);have hl:=rv.length;exact wpAny_pyNext_tuple_end (I.ok.hd hc) st (show s.heap.IsTuple a its.toArray from p) (by simp;lia) λh' eb=>⟨rfl,I.turned (t':=s.toks) (λb o hb e=>eb b o hb e) f0 f1 f3 f4 f5⟩
 self:=λ_ _ _ _ _ st h=>wpAny_pyIter_tupleiter st h
theorem pd{P:Program}{w:World}{K:GH}{tg:Expr}(it:Addr)(lo:Int)(n:Nat):Turn P w K tg (Itr lo n) [it] it (λi h=>IsRangeIter h it (lo+(i:Nat)*1) ((n:Int) - (i:Nat)) 1) where
 mem:=by simp
 obj:=λi h st b hb=>by
  have e:b=it:=by simpa using hb
  subst e;exact⟨_,st,λv z=>by
   have z':N8 _=O5 v:=z;cases z'⟩
 keep:=λi h h' st k=>k it (by simp) _ st
 item:=by
  intro X hP hw hK hc i pins s σ H E I hf st hg;subst hP hw hK;obtain⟨f0,f1,f2,f3,f4,f5⟩:=hf it (by simp);have W:=N9 (prog:=X.prog) (w:=X.w) (I.ok.hd hc) it lo 1 n;refine W.item i s _ _ hg st λv h' tk hv st' kk=>?_
  obtain⟨t,rfl⟩:=hv;have I1:Inv X pins σ H { s with heap:=h',toks:=tk }:=I.turned (λb o hb e=>kk b o (by simpa using hb) e) f0 f1 f3 f4 f5;refine⟨_,rfl,o8 (s:={ s with heap:=h',toks:=tk }) (n:="range_iterator") st' rfl rfl (by decide) ⟨.int (lo+i),H,I1,⟨t,?_⟩,⟨rfl,rfl⟩,st',λb hb=>(hf b hb).1⟩⟩;rw[Oa]
 done:=by
  intro X hP hw hK hc i pins s σ H E I hf st hg;subst hP hw hK;obtain⟨f0,f1,f2,f3,f4,f5⟩:=hf it (by simp);exact wpAny_pyNext_range_end (I.ok.hd hc) st (by have:n<=i:=hg;lia) λh' eb=>⟨rfl,I.turned (t':=s.toks) (λb o hb e=>eb b o hb e) f0 f1 f3 f4 f5⟩
 self:=λ_ _ _ _ _ st h=>wpAny_pyIter_rangeiter st h
section
variable{X:Cx}{tg:Expr}
def xR(K:GH)(tl:TE):TI:=λσ H R=>tl σ H λx H1=>∃a,x=.ref a/\(∃xs,SqL K H1 a xs)/\R (Itl K a) H1
def Dw(K:GH)(tl:TE):TI:=λσ H R=>tl σ H λx H1=>∃a,x=.ref a/\(∃xs,SqT K H1 a xs)/\R (Itt K a) H1
theorem xS{l:Expr}{tl:TE}(hl:PE X l tl):PI X tg l (xR X.K tl):=by
 intro pins s σ H R I h;refine thn (hl pins s σ H _ I h) λv s1 ⟨x,H1,I1,r1,q1⟩=>?_
 obtain⟨a,e,⟨xs,hq⟩,q⟩:=q1;subst e;cases r1;obtain⟨its,rv,p,hz⟩:=I1.list hq;refine wpAny_pyIter_list p.isList ?_;refine⟨s1.heap.objs.size,[s1.heap.objs.size],_,_,H1,rfl,I1.kept (t':=s1.toks) λb o e=>GI _ e,qi a _,⟨_,G1 _ rfl,rfl,rfl⟩,λb hb=>?_,q⟩;have e:b=s1.heap.objs.size:=by simpa using hb
 subst e;exact I1.fpOk (GJ _) (I1.hok.fresh (GJ _))
theorem Az{l:Expr}{tl:TE}(hl:PE X l tl):PI X tg l (Dw X.K tl):=by
 intro pins s σ H R I h;refine thn (hl pins s σ H _ I h) λv s1 ⟨x,H1,I1,r1,q1⟩=>?_
 obtain⟨a,e,⟨xs,hq⟩,q⟩:=q1;subst e;cases r1;obtain⟨its,rv,p,hz⟩:=I1.tuple hq;refine RM (show s1.heap.IsTuple a its.toArray from p) ?_;refine⟨s1.heap.objs.size,[s1.heap.objs.size],_,_,H1,rfl,I1.kept (t':=s1.toks) λb o e=>GI _ e,pb a _,⟨_,G1 _ rfl,rfl,rfl⟩,λb hb=>?_,q⟩;have e:b=s1.heap.objs.size:=by simpa using hb
 subst e;exact I1.fpOk (GJ _) (I1.hok.fresh (GJ _))
theorem uA{pins:List (Addr×Obj)}{σ:St}{H:Hp}{s:Shared}{R:It->Hp->Prop}{E:Value->Shared->Prop}{lo hi:Int}{t u v:Tok}{tk:Nat}(I:Inv X pins σ H s)(h1:-(2 ^ 62)<=lo)(h2:lo<2 ^ 62)(h3:-(2 ^ 62)<=hi)(h4:hi<2 ^ 62)
  (q:R (Itr lo (hi - lo).toNat) H):wpAny (model X.prog X.w) X.A (pyIter (.ref s.heap.objs.size)) (PIE X pins σ tg R) E { s with heap:=s.heap.push { cls:=.type "range",data:=.fields #[.int lo t,.int hi u,.int 1 v] },toks:=tk }:=by
 refine wpAny_pyIter_range (Mv ..) (small_one h1 h2 h3 h4) ?_;have I1:Inv X pins σ H { s with heap:=s.heap.push { cls:=.type "range",data:=.fields #[.int lo t,.int hi u,.int 1 v] },toks:=tk }:=I.kept λb o e=>GI _ e
 refine⟨(s.heap.push { cls:=.type "range",data:=.fields #[.int lo t,.int hi u,.int 1 v] }).objs.size,[(s.heap.push { cls:=.type "range",data:=.fields #[.int lo t,.int hi u,.int 1 v] }).objs.size],_,_,H,rfl,
  I1.kept (t':=tk) λb o e=>GI _ e,pd _ lo (hi - lo).toNat,?_,λb hb=>?_,q⟩
 ·have e1:lo+((0:Nat):Int)*1=lo:=by simp
  have e2:(((hi - lo).toNat:Nat):Int) - ((0:Nat):Int)=Im lo hi 1:=by rw[rangeSize_one];split<;>lia
  show IsRangeIter _ _ (lo+((0:Nat):Int)*1) ((((hi - lo).toNat:Nat):Int) - ((0:Nat):Int)) 1
  rw[e1,e2];exact G1 _ rfl
 ·have e:b=(s.heap.push { cls:=.type "range",data:=.fields #[.int lo t,.int hi u,.int 1 v] }).objs.size:=by simpa using hb
  subst e;exact I1.fpOk (GJ _) (I1.hok.fresh (GJ _))
def xT(ta:TA):TI:=λσ H R=>ta σ H λvs H1=>∃j:Int,vs=[.int j]/\-(2 ^ 62)<=j/\j<2 ^ 62/\R (Itr 0 j.toNat) H1
theorem qj {a:Expr}{ta:TA}{p pos:Pos}(hg:Gl X "range") (hm:X.mg "range" = none) (ha:PA X [a] ta) (hs:Rl [a] X.env=[(false,eval a X.env)]:=by rfl):PI X tg (.Call (.Name "range" p) [a] [] pos) (xT ta):=by
 intro pins s σ H R I h;refine Call_ (dr I hg hm boot_range (HN (thn (ha pos pins s σ H _ I h) λus s1 ⟨vs,H1,I1,r1,q1⟩=>?_) hs rfl));obtain⟨j,e,q1,q2,q⟩:=q1;subst e;cases r1 with
 | cons r rr=>
  cases rr;obtain⟨t,rfl⟩:=r;exact call_range_1 (uA I1 ⋯ ⋯ q1 q2 (by simpa using q))
def Dx(wi:TI)(g:TG)(tb:TS):TS:=λD σ H=>wi σ H λJ H1=>∃W:Nat->Nat->St->Hp->Prop,(∃m,W 0 m σ H1)/\∀i m σ H,W i m σ H->
 (J.stop i H/\D.nx σ H)\/(J.go i H/\∃N:St->Hp->Prop,(∀σ' H',N σ' H'->∃m',m'<m/\W (i+1) m' σ' H')/\∀x H',J.yld i H x H'->g x σ H' λσ2 H2=>tb { D with nx:=N,ct:=N,bk:=D.nx } σ2 H2)
noncomputable def nR(fp:List Addr)(h:Heap):List (Addr×Obj):=fp.filterMap λb=>(h.get? b).map λo=>(b,o)
theorem eT{fp:List Addr}{h:Heap}{b:Addr}{o:Obj}(hb:b∈fp)(e:h.get? b=some o):(b,o)∈nR fp h:=JF.mpr ⟨b,hb,by rw[e];rfl⟩
theorem qk{fp:List Addr}{h:Heap}{p:Addr×Obj}(hp:p∈nR fp h):p.1∈fp/\h.get? p.1=some p.2:=by
 obtain⟨b,hb,e⟩:=JF.mp hp;cases q:h.get? b with
 | none=>rw[q]at e;cases e
 | some o=>
  rw[q]at e;have e':(b,o)=p:=G9 e;subst e';exact⟨hb,q⟩
theorem Inv.pinned{pins:List (Addr×Obj)}{σ:St}{H:Hp}{s:Shared}{fp:List Addr}(I:Inv X pins σ H s)(hf:∀b∈fp,uq X pins H b)(ho:∀b∈fp,∃o,s.heap.get? b=some o/\∀v,o.data≠.cell v):Inv X (pins++nR fp s.heap) σ H s:=
 I.pins_of λp hp=>(Hc.mp hp).elim (λz=>I.pin p (GT _ z)) λz=>by
  obtain⟨hb,e⟩:=qk z;obtain⟨f0,f1,f2,_⟩:=hf p.1 hb;obtain⟨o,e',d⟩:=ho p.1 hb;rw[e]at e';cases e';exact⟨e,f0,f1,f2,d⟩
theorem Inv.unpinned{pins pl:List (Addr×Obj)}{σ:St}{H:Hp}{s:Shared}(I:Inv X (pins++pl) σ H s):Inv X pins σ H s:=I.pins_of λp hp=>I.pin p (GT _ (Hy _ hp))
theorem AG{iter:Expr}{body:List Stmt}{wi:TI}{g:TG}{tb:TS}{pos:Pos}(hp:PassesOwn (model X.prog X.w) X.A X.env X.xe)(hc:X.calm=true)(hi:PI X tg iter wi)(hg:PG X tg g)(hb:PSs X body tb)
  (hs:∀x,Rr iter X.env x=pure x:=by intro _;rfl):PS X (.For tg iter body [] pos) (Dx wi g tb):=by
 intro pins s σ H D I h;refine wpAny_For (thn (hi pins s σ H _ I h) λv s1 h1=>thn h1 λitv s2 h2=>?_) hs;obtain⟨it,fp,tn,J,H2,e,I2,T,st2,f2,W,⟨m0,w0⟩,turn⟩:=h2;subst e
 -- what stays true of the iterator's objects through the loop
 have stat:∀{H':Hp},(∀b∈fp,H' b=none)->∀b∈fp,uq X pins H' b:=λhn b hb=>⟨hn b hb,(f2 b hb).2⟩
 refine codeAny_forLoop_any (λn s'=>∃i σ' H',Inv X pins σ' H' s'/\tn i s'.heap/\(∀b∈fp,H' b=none)/\W i n σ' H') ?_ m0 ⟨0,σ,H2,I2,st2,λb hb=>(f2 b hb).1,w0⟩;rintro n s3 ⟨i,σ3,H3,I3,st3,fr3,w3⟩;rcases turn i n σ3 H3 w3 with⟨stop,qn⟩|⟨go,N,hN,step⟩
 ·refine RH hp (thn (T.done X rfl rfl rfl hc i pins s3 σ3 H3 X.xe I3 (stat fr3) st3 stop) λr s4 ⟨hr,I4⟩=>?_)
  subst hr;exact wpAny_execs_nil ⟨σ3,H3,I4,qn⟩
 ·refine RH hp (thn (T.item X rfl rfl rfl hc i pins s3 σ3 H3 X.xe I3 (stat fr3) st3 go) λr s4 ⟨u,hr,h4⟩=>?_)
  subst hr;refine RH hp (thn h4 λ_ s5 ⟨x,H5,I5,r5,y5,st5,fr5⟩=>?_);have I5':=I5.pinned (stat fr5) (T.obj _ _ st5);refine RH hp (thn (hg _ s5 σ3 H5 x u _ I5' r5 (step x H5 y5)) λ_ s6 ⟨σ6,H6,I6,q6⟩=>?_);refine RH hp (thn (hb _ s6 σ6 H6 _ I6 q6) λf s7 q7=>?_);have again:∀{σ7:St}{H7:Hp},Inv X (pins++nR fp s5.heap) σ7 H7 s7->N σ7 H7->∃m,m<n/\∃i σ' H',Inv X pins σ' H' s7/\tn i s7.heap/\(∀b∈fp,H' b=none)/\W i m σ' H':=λ{σ7 H7} I7 n7=>by
   obtain⟨m',hm,w7⟩:=hN σ7 H7 n7;refine⟨m',hm,i+1,σ7,H7,I7.unpinned,T.keep _ _ _ st5 λb hb o e=>(I7.pin (b,o) (GT _ (GT _ (eT hb e)))).1,λb hb=>?_,w7⟩;obtain⟨o,e,d⟩:=T.obj _ _ st5 b hb;exact(I7.pin (b,o) (GT _ (GT _ (eT hb e)))).2.1
  cases f with
  | next=>obtain⟨σ7,H7,I7,n7⟩:=q7;exact again I7 n7
  | cont=>obtain⟨σ7,H7,I7,n7⟩:=q7;exact again I7 n7
  | brk=>obtain⟨σ7,H7,I7,q7⟩:=q7;exact⟨σ7,H7,I7.unpinned,q7⟩
  | ret v=>obtain⟨x7,σ7,H7,I7,r7,q7⟩:=q7;exact⟨x7,σ7,H7,I7.unpinned,r7,q7⟩
end
theorem du{K:GH}{a:Addr}{xs:List V}{g:TG}{tb:TS}{D:Ends}{σ:St}{H:Hp}(Pv:Nat->St->Hp->Prop)(h0:Pv 0 σ H)(hl:∀i σ H,i<=xs.length->Pv i σ H->SqL K H a xs)
  (hs:∀i x σ H,xs[i]? = some x->Pv i σ H->g x σ H λσ2 H2=>tb { D with nx:=Pv (i+1),ct:=Pv (i+1),bk:=D.nx } σ2 H2) (hd:∀σ H,Pv xs.length σ H->D.nx σ H) :
  ∃W:Nat->Nat->St->Hp->Prop,(∃m,W 0 m σ H)/\∀i m σ H,W i m σ H->
   ((Itl K a).stop i H/\D.nx σ H)\/((Itl K a).go i H/\∃N:St->Hp->Prop,(∀σ' H',N σ' H'->∃m',m'<m/\W (i+1) m' σ' H')/\∀x H',(Itl K a).yld i H x H'->g x σ H' λσ2 H2=>tb { D with nx:=N,ct:=N,bk:=D.nx } σ2 H2):=by
 refine⟨λi m σ H=>m=xs.length - i/\i<=xs.length/\Pv i σ H,⟨xs.length,by simp,GW _,h0⟩,?_⟩;rintro i m σ H ⟨rfl,hi,p⟩;have q:=hl i σ H hi p;by_cases hlt:i<xs.length
 ·refine .inr ⟨⟨xs,xs[i],q,by simp[hlt]⟩,Pv (i+1),λσ' H' p'=>⟨xs.length - (i+1),by lia,rfl,hlt,p'⟩,λx H' y=>?_⟩
  obtain⟨e,y⟩:=y;subst e;exact hs i x σ _ (y xs q) p
 ·have e:i=xs.length:=by lia
  subst e;exact .inl ⟨⟨xs,q,GJ _⟩,hd σ H p⟩
theorem xU{K:GH}{a:Addr}{xs:List V}{g:TG}{tb:TS}{D:Ends}{σ:St}{H:Hp}(Pv:Nat->St->Hp->Prop)(h0:Pv 0 σ H)(hl:∀i σ H,i<=xs.length->Pv i σ H->SqT K H a xs)
  (hs:∀i x σ H,xs[i]? = some x->Pv i σ H->g x σ H λσ2 H2=>tb { D with nx:=Pv (i+1),ct:=Pv (i+1),bk:=D.nx } σ2 H2) (hd:∀σ H,Pv xs.length σ H->D.nx σ H) :
  ∃W:Nat->Nat->St->Hp->Prop,(∃m,W 0 m σ H)/\∀i m σ H,W i m σ H->
   ((Itt K a).stop i H/\D.nx σ H)\/((Itt K a).go i H/\∃N:St->Hp->Prop,(∀σ' H',N σ' H'->∃m',m'<m/\W (i+1) m' σ' H')/\∀x H',(Itt K a).yld i H x H'->g x σ H' λσ2 H2=>tb { D with nx:=N,ct:=N,bk:=D.nx } σ2 H2):=by
 refine⟨λi m σ H=>m=xs.length - i/\i<=xs.length/\Pv i σ H,⟨xs.length,by simp,GW _,h0⟩,?_⟩;rintro i m σ H ⟨rfl,hi,p⟩;have q:=hl i σ H hi p;by_cases hlt:i<xs.length
 ·refine .inr ⟨⟨xs,xs[i],q,by simp[hlt]⟩,Pv (i+1),λσ' H' p'=>⟨xs.length - (i+1),by lia,rfl,hlt,p'⟩,λx H' y=>?_⟩
  obtain⟨e,y⟩:=y;subst e;exact hs i x σ _ (y xs q) p
 ·have e:i=xs.length:=by lia
  subst e;exact .inl ⟨⟨xs,q,GJ _⟩,hd σ H p⟩
theorem fQ{lo:Int}{n:Nat}{g:TG}{tb:TS}{D:Ends}{σ:St}{H:Hp}(Pv:Nat->St->Hp->Prop)(h0:Pv 0 σ H)
  (hs:∀i σ H,i<n->Pv i σ H->g (.int (lo+i)) σ H λσ2 H2=>tb { D with nx:=Pv (i+1),ct:=Pv (i+1),bk:=D.nx } σ2 H2) (hd:∀σ H,Pv n σ H->D.nx σ H) :
  ∃W:Nat->Nat->St->Hp->Prop,(∃m,W 0 m σ H)/\∀i m σ H,W i m σ H->
   ((Itr lo n).stop i H/\D.nx σ H)\/((Itr lo n).go i H/\∃N:St->Hp->Prop,(∀σ' H',N σ' H'->∃m',m'<m/\W (i+1) m' σ' H')/\∀x H',(Itr lo n).yld i H x H'->g x σ H' λσ2 H2=>tb { D with nx:=N,ct:=N,bk:=D.nx } σ2 H2):=by
 refine⟨λi m σ H=>m=n - i/\i<=n/\Pv i σ H,⟨n,by simp,GW _,h0⟩,?_⟩;rintro i m σ H ⟨rfl,hi,p⟩;by_cases hlt:i<n
 ·refine .inr ⟨hlt,Pv (i+1),λσ' H' p'=>⟨n - (i+1),by lia,rfl,hlt,p'⟩,λx H' y=>?_⟩
  obtain⟨e,y⟩:=y;subst e y;exact hs i σ _ hlt p
 ·have e:i=n:=by lia
  subst e;exact .inl ⟨GJ _,hd σ H p⟩
noncomputable abbrev R2:=V->V->Hp->VK->Prop
def OpR(X:Cx)(f:Value->Value->Sem Value)(r:R2):Prop:=
 ∀(pins:List (Addr×Obj)) (s:Shared) (σ:St) (H:Hp) (x y:V) (v u:Value) (Q:VK),Inv X pins σ H s->RelV x v->RelV y u->r x y H Q->
  wpAny (model X.prog X.w) X.A (f v u) (EP X pins σ Q) X.xe s
def UnR(X:Cx)(f:Value->Sem Value)(r:V->Hp->VK->Prop):Prop:=
 ∀(pins:List (Addr×Obj)) (s:Shared) (σ:St) (H:Hp) (x:V) (v:Value) (Q:VK),Inv X pins σ H s->RelV x v->r x H Q->
  wpAny (model X.prog X.w) X.A (f v) (EP X pins σ Q) X.xe s
def cQ(X:Cx)(f:Value)(r:List V->Hp->VK->Prop):Prop:=
 ∀(pins:List (Addr×Obj)) (s:Shared) (σ:St) (H:Hp) (xs:List V) (us:List Value) (Q:VK),Inv X pins σ H s->Vals xs us->r xs H Q->
  wpAny (model X.prog X.w) X.A (call f us) (EP X pins σ Q) X.xe s
def FW(X:Cx)(r:V->Hp->(Bool->Hp->Prop)->Prop):Prop:=
 ∀(pins:List (Addr×Obj)) (s:Shared) (σ:St) (H:Hp) (x:V) (v:Value) (Q:Bool->Hp->Prop),Inv X pins σ H s->RelV x v->r x H Q->
  wpAny (model X.prog X.w) X.A (truthy v) (TP X pins σ Q) X.xe s
def tOp(r:R2)(ta tb:TE):TE:=λσ H Q=>ta σ H λx H1=>tb σ H1 λy H2=>r x y H2 Q
def tUn(r:V->Hp->VK->Prop)(ta:TE):TE:=λσ H Q=>ta σ H λx H1=>r x H1 Q
def rI(C:Int->Int->Prop)(g:Int->Int->V):R2:=λx y H Q=>∃i j,x=.int i/\y=.int j/\C i j/\Q (g i j) H
def rI0(g:Int->Int->V):R2:=λx y H Q=>∃i j,x=.int i/\y=.int j/\Q (g i j) H
def rU(g:Int->V):V->Hp->VK->Prop:=λx H Q=>∃i,x=.int i/\Q (g i) H
section
variable{X:Cx}{a b c:Expr}{ta tb tc:TE}{pos:Pos}
theorem Dy(ha:PE X a ta)(hb:PE X b tb){pins:List (Addr×Obj)}{s:Shared}{σ:St}{H:Hp}{R:V->V->Hp->Prop}(I:Inv X pins σ H s)
  (h:ta σ H λx H1=>tb σ H1 λy H2=>R x y H2){Q:Value->Shared->Prop}{f:Value->Value->Sem Value}
  (hf:∀v u s2 x y H2,Inv X pins σ H2 s2->RelV x v->RelV y u->R x y H2->wpAny (model X.prog X.w) X.A (f v u) Q X.xe s2) :
  wpAny (model X.prog X.w) X.A (eval a X.env) (λv s₁=>wpAny (model X.prog X.w) X.A (eval b X.env) (λu s₂=>wpAny (model X.prog X.w) X.A (f v u) Q X.xe s₂) X.xe s₁) X.xe s:=by
 refine thn (ha pins s σ H _ I h) λv s1 ⟨x,H1,I1,r1,q1⟩=>?_
 refine thn (hb pins s1 σ H1 _ I1 q1) λu s2 ⟨y,H2,I2,r2,q2⟩=>?_
 exact hf v u s2 x y H2 I2 r1 r2 q2
theorem Dz{op:Operator}{r:R2}(ho:OpR X (RF op) r)(ha:PE X a ta)(hb:PE X b tb):PE X (.BinOp a op b pos) (tOp r ta tb):=by
 intro pins s σ H Q I h;exact wpAny_BinOp (Dy ha hb I h λv u s2 x y H2 I2 rx ry q=>ho pins s2 σ H2 x y v u Q I2 rx ry q)
theorem AI{op:UnaryOp}{r:V->Hp->VK->Prop}(ho:UnR X (unaryOp op) r)(ha:PE X a ta):PE X (.UnaryOp op a pos) (tUn r ta):=by
 intro pins s σ H Q I h;exact UnaryOp_ (thn (ha pins s σ H _ I h) λv s1 ⟨x,H1,I1,r1,q1⟩=>ho pins s1 σ H1 x v Q I1 r1 q1)
theorem opI{f:Value->Value->Sem Value}{C:Int->Int->Prop}{g:Int->Int->Int}
  (rule:∀(i j:Int) (t u:Tok) (s:Shared) (Q:Value->Shared->Prop) (E:Value->Shared->Prop),C i j->Q (.int (g i j) s.toks) { s with toks:=s.toks+1 }->wpAny (model X.prog X.w) X.A (f (.int i t) (.int j u)) Q E s) :
  OpR X f (rI C λi j=>.int (g i j)):=by
 intro pins s σ H x y v u Q I rx ry h;obtain⟨i,j,rfl,rfl,hc,q⟩:=h;obtain⟨t,rfl⟩:=rx;obtain⟨t',rfl⟩:=ry;exact rule i j t t' s _ _ hc ⟨.int (g i j),H,I.tok _,⟨_,rfl⟩,q⟩
theorem DE{f:Value->Value->Sem Value}{g:Int->Int->Int}
  (rule:∀(i j:Int) (t u:Tok) (s:Shared) (Q:Value->Shared->Prop) (E:Value->Shared->Prop),Q (.int (g i j) s.toks) { s with toks:=s.toks+1 }->wpAny (model X.prog X.w) X.A (f (.int i t) (.int j u)) Q E s) :
  OpR X f (rI0 λi j=>.int (g i j)):=by
 intro pins s σ H x y v u Q I rx ry h;obtain⟨i,j,rfl,rfl,q⟩:=h;obtain⟨t,rfl⟩:=rx;obtain⟨t',rfl⟩:=ry;exact rule i j t t' s _ _ ⟨.int (g i j),H,I.tok _,⟨_,rfl⟩,q⟩
theorem DG{f:Value->Value->Sem Value}{g:Int->Int->Bool}
  (rule:∀(i j:Int) (t u:Tok) (s:Shared) (Q:Value->Shared->Prop) (E:Value->Shared->Prop),Q (.bool (g i j)) s->wpAny (model X.prog X.w) X.A (f (.int i t) (.int j u)) Q E s) :
  OpR X f (rI0 λi j=>.bl (g i j)):=by
 intro pins s σ H x y v u Q I rx ry h;obtain⟨i,j,rfl,rfl,q⟩:=h;obtain⟨t,rfl⟩:=rx;obtain⟨t',rfl⟩:=ry;exact rule i j t t' s _ _ ⟨.bl (g i j),H,I,rfl,q⟩
def DI(i j:Int):Prop:=0<j/\j<1073741824
def CP(i j:Int):Prop:=0<=j/\j<=1000000/\i.natAbs<2 ^ 64
def CMul(i j:Int):Prop:=(-(2 ^ 64)<i/\i<2 ^ 64)\/(-(2 ^ 64)<j/\j<2 ^ 64)
theorem CMul.ok{i j:Int}(h:CMul i j):IntMulOk i j:=by
 rcases h with⟨h1,h2⟩|⟨h1,h2⟩
 ·exact .of_left (intBits_le_64 h1 h2)
 ·exact .of_right (intBits_le_64 h1 h2)
theorem AL:OpR X (RF .Add) (rI0 λi j=>.int (i+j)):=DE λ_ _ _ _ _ _ _ q=>add_int q
theorem AM:OpR X (RF .Sub) (rI0 λi j=>.int (i - j)):=DE λ_ _ _ _ _ _ _ q=>sub_int q
theorem AN:OpR X (RF .Mult) (rI CMul λi j=>.int (i*j)):=opI λ_ _ _ _ _ _ _ hc q=>mul_int q hc.ok
theorem AO:OpR X (RF .Mod) (rI (λ_ j=>0<j) λi j=>.int (i % j)):=opI λi j _ _ _ _ _ hc q=>by
 have h1:(0:Int)<j:=hc;exact mod_int' ⋯ (by rw[Int.fmod_eq_emod_of_nonneg i ⋯];exact q)
theorem AQ:OpR X (RF .Pow) (rI CP λi j=>.int (i ^ j.toNat)):=opI λ_ _ _ _ _ _ _ hc q=>pow_int_small hc.1 hc.2.1 hc.2.2 q
theorem xV:OpR X (R0 .Add) (rI0 λi j=>.int (i+j)):=DE λ_ _ _ _ _ _ _ q=>iadd_int q
theorem uB:OpR X (R0 .FloorDiv) (rI DI λi j=>.int (i / j)):=opI λi j _ _ _ _ _ hc q=>by
 have h1:(0:Int)<j:=hc.1;have h2:j<1073741824:=hc.2;exact ifloordiv_int ⋯ (by rw[LF i ⋯];exact q) (.inl (PyProof.noPylong_small ⋯))
theorem unI{f:Value->Sem Value}{g:Int->Int}
  (rule:∀(i:Int) (t:Tok) (s:Shared) (Q:Value->Shared->Prop) (E:Value->Shared->Prop),Q (.int (g i) s.toks) { s with toks:=s.toks+1 }->wpAny (model X.prog X.w) X.A (f (.int i t)) Q E s) :
  UnR X f (rU λi=>.int (g i)):=by
 intro pins s σ H x v Q I rx h;obtain⟨i,rfl,q⟩:=h;obtain⟨t,rfl⟩:=rx;exact rule i t s _ _ ⟨.int (g i),H,I.tok _,⟨_,rfl⟩,q⟩
theorem wM:UnR X (unaryOp .USub) (rU λi=>.int (-i)):=unI λ_ _ _ _ _ q=>neg_int q
end
noncomputable def Fc:V->V->Bool
 | .non,.non=>true | .non,.int _=>true | .int _,.non=>true | .non,.bl _=>true | .bl _,.non=>true | .non,.str _=>true | .str _,.non=>true
 | .int _,.int _=>true | .bl _,.bl _=>true | .str _,.str _=>true | .byt _,.byt _=>true
 | .int _,.str _=>true | .str _,.int _=>true | .bl _,.str _=>true | .str _,.bl _=>true
 | _,_=>false
def rEq:R2:=λx y H Q=>Fc x y=true/\Q (.bl (decide (x=y))) H
def rNe:R2:=λx y H Q=>Fc x y=true/\Q (.bl (!decide (x=y))) H
theorem ql{i j:Int}:decide (V.int i=V.int j)=(i == j):=by
 rw[JG];simp
theorem wN{i j:Bool}:decide (V.bl i=V.bl j)=(i == j):=by
 rw[JG];simp
theorem qo{i j:Str}:decide (V.str i=V.str j)=(i == j):=by
 rw[JG];simp
theorem qp{i j:Array UInt8}:decide (V.byt i=V.byt j)=(i.toList == j.toList):=by
 rw[JG];cases i;cases j;simp
section
variable{X:Cx}{a b c:Expr}{ta tb tc:TE}{pos:Pos}
theorem bA{pins:List (Addr×Obj)}{σ:St}{H:Hp}{s:Shared}{Q:VK}{k k':Bool}(I:Inv X pins σ H s)(q:Q (.bl k) H)(e:k=k'):EP X pins σ Q (.bool k') s:=by
 subst e;exact⟨.bl k,H,I,rfl,q⟩
theorem DJ:OpR X (Rm .Eq) rEq:=by
 intro pins s σ H x y v u Q I rx ry h;obtain⟨hs,q⟩:=h;cases x with
 | non=>
  cases rx;cases y with
  | non=>cases ry;exact Pg (bA I q (by simp))
  | bl j=>cases ry;exact Ph (bA I q (by simp))
  | int j=>obtain⟨t',rfl⟩:=ry;exact Py (bA I q (by simp))
  | str j=>obtain⟨t',rfl⟩:=ry;exact Pz (bA I q (by simp))
  | _=>exact absurd (show false=true from hs) Ha
 | bl i=>
  cases rx;cases y with
  | non=>cases ry;exact Pi (bA I q (by simp))
  | bl j=>cases ry;exact eq_bool (bA I q wN)
  | str j=>obtain⟨t',rfl⟩:=ry;exact Pj (bA I q (by simp))
  | _=>exact absurd (show false=true from hs) Ha
 | int i=>
  obtain⟨t,rfl⟩:=rx;cases y with
  | non=>cases ry;exact PC (bA I q (by simp))
  | int j=>obtain⟨t',rfl⟩:=ry;exact eq_int (bA I q ql)
  | str j=>obtain⟨t',rfl⟩:=ry;exact PD (bA I q (by simp))
  | _=>exact absurd (show false=true from hs) Ha
 | str i=>
  obtain⟨t,rfl⟩:=rx;cases y with
  | non=>cases ry;exact PF (bA I q (by simp))
  | bl j=>cases ry;exact Pk (bA I q (by simp))
  | int j=>obtain⟨t',rfl⟩:=ry;exact PH (bA I q (by simp))
  | str j=>obtain⟨t',rfl⟩:=ry;exact eq_str (bA I q qo)
  | _=>exact absurd (show false=true from hs) Ha
 | byt i=>
  obtain⟨t,rfl⟩:=rx;cases y with
  | byt j=>obtain⟨t',rfl⟩:=ry;exact PySem.W.eq_bytes (bA I q qp)
  | _=>exact absurd (show false=true from hs) Ha
 | _=>cases y<;>exact absurd (show false=true from hs) Ha
theorem DK:OpR X (Rm .NotEq) rNe:=by
 intro pins s σ H x y v u Q I rx ry h;obtain⟨hs,q⟩:=h;cases x with
 | non=>
  cases rx;cases y with
  | non=>cases ry;exact Pl (bA I q (by simp))
  | bl j=>cases ry;exact Pn (bA I q (by simp))
  | int j=>obtain⟨t',rfl⟩:=ry;exact PJ (bA I q (by simp))
  | str j=>obtain⟨t',rfl⟩:=ry;exact PK (bA I q (by simp))
  | _=>exact absurd (show false=true from hs) Ha
 | bl i=>
  cases rx;cases y with
  | non=>cases ry;exact Po (bA I q (by simp))
  | bl j=>cases ry;exact ne_bool (bA I q (congrArg not wN))
  | str j=>obtain⟨t',rfl⟩:=ry;exact Pp (bA I q (by simp))
  | _=>exact absurd (show false=true from hs) Ha
 | int i=>
  obtain⟨t,rfl⟩:=rx;cases y with
  | non=>cases ry;exact PL (bA I q (by simp))
  | int j=>obtain⟨t',rfl⟩:=ry;exact ne_int (bA I q (congrArg not ql))
  | str j=>obtain⟨t',rfl⟩:=ry;exact PM (bA I q (by simp))
  | _=>exact absurd (show false=true from hs) Ha
 | str i=>
  obtain⟨t,rfl⟩:=rx;cases y with
  | non=>cases ry;exact PN (bA I q (by simp))
  | bl j=>cases ry;exact Pq (bA I q (by simp))
  | int j=>obtain⟨t',rfl⟩:=ry;exact PP (bA I q (by simp))
  | str j=>obtain⟨t',rfl⟩:=ry;exact ne_str (bA I q (congrArg not qo))
  | _=>exact absurd (show false=true from hs) Ha
 | byt i=>
  obtain⟨t,rfl⟩:=rx;cases y with
  | byt j=>obtain⟨t',rfl⟩:=ry;exact PySem.W.ne_bytes (bA I q (congrArg not qp))
  | _=>exact absurd (show false=true from hs) Ha
 | _=>cases y<;>exact absurd (show false=true from hs) Ha
theorem DL:OpR X (Rm .Lt) (rI0 λi j=>.bl (decide (i<j))):=DG λ_ _ _ _ _ _ _ q=>lt_int q
theorem DM:OpR X (Rm .Gt) (rI0 λi j=>.bl (decide (j<i))):=DG λ_ _ _ _ _ _ _ q=>gt_int q
theorem DN:OpR X (Rm .GtE) (rI0 λi j=>.bl (decide (j<=i))):=DG λ_ _ _ _ _ _ _ q=>ge_int q
theorem qq:OpR X (Rm .Lt) (λx y H Q=>∃i j,x=.str i/\y=.str j/\Q (.bl (decide (i.cps.toList<j.cps.toList))) H):=by
 intro pins s σ H x y v u Q I rx ry h;obtain⟨i,j,rfl,rfl,q⟩:=h;obtain⟨t,rfl⟩:=rx;obtain⟨t',rfl⟩:=ry;exact lt_str (bA I q rfl)
theorem AR:OpR X (Rm .Is) (λx y H Q=>y=.non/\Q (.bl (decide (x=.non))) H):=by
 intro pins s σ H x y v u Q I rx ry h;obtain⟨rfl,q⟩:=h;cases ry;refine is_none_gen (bA I q ?_);cases x<;>first
  | (cases rx;rfl)
  | (obtain⟨t,rfl⟩:=rx;rfl)
theorem xW:OpR X (Rm .IsNot) (λx y H Q=>y=.non/\Q (.bl (!decide (x=.non))) H):=by
 intro pins s σ H x y v u Q I rx ry h;obtain⟨rfl,q⟩:=h;cases ry;refine isnot_none_gen (bA I q ?_);cases x<;>first
  | (cases rx;rfl)
  | (obtain⟨t,rfl⟩:=rx;rfl)
theorem ax(b:Expr){op:CmpOp}(h:op≠.In:=by decide)(h2:op≠.NotIn:=by decide):RX op b=false:=by
 have e1:(op == CmpOp.In)=false:=by cases op<;>first|rfl|exact absurd rfl h
 have e2:(op == CmpOp.NotIn)=false:=by cases op<;>first|rfl|exact absurd rfl h2
 cases b<;>simp[RX,e1,e2]
theorem xX{op:CmpOp}{r:R2}(ho:OpR X (Rm op) r)(ha:PE X a ta)(hb:PE X b tb)(hm:RX op b=false):PE X (.Compare a [op] [b] pos) (tOp r ta tb):=by
 intro pins s σ H Q I h;exact wpAny_Compare1 (Dy ha hb I h λv u s2 x y H2 I2 rx ry q=>ho pins s2 σ H2 x y v u Q I2 rx ry q) hm
def xY(t:TE):TT:=λσ H Q=>t σ H λx H'=>∃k,x=.bl k/\Q k H'
theorem xZ{op:CmpOp}{r:R2}(ho:OpR X (Rm op) r)(ha:PE X a ta)(hb:PE X b tb)(hm:RX op b=false):PT X (.Compare a [op] [b] pos) (xY (tOp r ta tb)):=by
 intro pins s σ H Q I h;refine wpAny_isTrue_Compare1 (thn (ha pins s σ H _ I h) λv s1 ⟨x,H1,I1,r1,q1⟩=>thn (hb pins s1 σ H1 _ I1 q1) λu s2 ⟨y,H2,I2,r2,q2⟩=>
  thn (ho pins s2 σ H2 x y v u _ I2 r1 r2 q2) λc s3 ⟨z,H3,I3,r3,k,e,q3⟩=>?_) hm
 subst e;cases r3;exact RD ⟨H3,I3,q3⟩
def zW(K:GH)(x:V)(H:Hp)(k:Bool):Prop:=
 match x with
 | .non=>k=false
 | .bl b=>k=b
 | .int i=>k=(i != 0)
 | .str y=>y.length<=Rj/\k=((y.length:Int) != 0)
 | .byt y=>y.size<=Rj/\k=((y.size:Int) != 0)
 | .ref p=>(∃xs,SqL K H p xs/\k=!xs.isEmpty)\/(∃xs,SqT K H p xs/\k=!xs.isEmpty)\/∃kvs,H p=some (.dK kvs)/\k=!kvs.isEmpty
 | _=>False
theorem pf{κ:Type}{kvs:List (κ×V)}{vs:List (κ×Value)}(r:KV kvs vs):(!vs.isEmpty)=!kvs.isEmpty:=by
 cases r<;>rfl
theorem jH{xs:List V}{its:List Value}(r:Vals xs its):(!its.toArray.isEmpty)=!xs.isEmpty:=by
 cases r<;>simp
theorem fm:(Rj:Nat)<2 ^ 63:=by rw[Rt];decide
theorem AS:FW X (λx H Q=>∃k,zW X.K x H k/\Q k H):=by
 intro pins s σ H x v Q I rx h;obtain⟨k,e,q⟩:=h;have hl:=fm;have hs:Rj=16777216:=Rt;cases x with
 | non=>
  cases rx;have e':k=false:=e;subst e';exact truthy_none ⟨H,I,q⟩
 | bl b=>
  cases rx;have e':k=b:=e;subst e';exact RD ⟨H,I,q⟩
 | int i=>
  obtain⟨t,rfl⟩:=rx;have e':k=(i != 0):=e;subst e';exact PySem.P.truthy_int ⟨H,I,q⟩
 | str y=>
  obtain⟨t,rfl⟩:=rx;obtain⟨hy,e'⟩:y.length<=Rj/\k=((y.length:Int) != 0):=e;subst e';exact PySem.P.truthy_str ⋯ ⟨H,I.tok _,q⟩
 | byt y=>
  obtain⟨t,rfl⟩:=rx;obtain⟨hy,e'⟩:y.size<=Rj/\k=((y.size:Int) != 0):=e;subst e';exact PySem.W.truthy_bytes ⋯ ⟨H,I.tok _,q⟩
 | ref p=>
  cases rx;have e':(∃xs,SqL X.K H p xs/\k=!xs.isEmpty)\/(∃xs,SqT X.K H p xs/\k=!xs.isEmpty)\/∃kvs,H p=some (.dK kvs)/\k=!kvs.isEmpty:=e
  rcases e' with⟨xs,hx,e'⟩|⟨xs,hx,e'⟩|⟨kvs,hx,e'⟩
  ·subst e'
   obtain⟨its,r,pl,hz⟩:=I.list hx;have hlen:=r.length;exact wpAny_truthy_list pl.isList (by simp only[GQ];lia) ⟨H,I.tok _,by rw[jH r];exact q⟩
  ·subst e'
   obtain⟨its,r,pl,hz⟩:=I.tuple hx;have hlen:=r.length;exact truthy_tuple pl (by simp only[GQ];lia) ⟨H,I.tok _,by rw[jH r];exact q⟩
  ·subst e'
   obtain⟨hz,hS,vs,r,m⟩:kvs.length<=Rj/\(p == sysModules)=false/\∃vs,KV kvs vs/\s.heap.DictOf (mL X.prog X.w) p vs:=I.hok p _ hx
   have hlen:kvs.length=vs.length:=O9 r;exact wpAny_truthy_dict hS m ⋯ ⟨H,I.tok _,by rw[pf r];exact q⟩
 | _=>exact(show False from e).elim
theorem uC(ha:PE X a ta)(he:∀whole,isTrue a X.env whole=(do let v <-whole;RS a.pos;RB [v] (truthy v))):
  PT X a (λσ H Q=>ta σ H λx H'=>∃k,zW X.K x H' k/\Q k H'):=by
 intro pins s σ H Q I h;exact isTrue_plain (thn (ha pins s σ H _ I h) λv s1 ⟨x,H1,I1,r1,q1⟩=>AS pins s1 σ H1 x v Q I1 r1 q1) (he _)
theorem fg{x:V}{us:List Value}(r:Vals [x] us):∃u,us=[u]/\RelV x u:=by
 cases r with
 | cons r1 r2=>cases r2;exact⟨_,rfl,r1⟩
theorem x6{x y:V}{us:List Value}(r:Vals [x,y] us):∃u w',us=[u,w']/\RelV x u/\RelV y w':=by
 cases r with
 | cons r1 r2=>
  cases r2 with
  | cons r3 r4=>cases r4;exact⟨_,_,rfl,r1,r3⟩
theorem uD:cQ X (.builtin "abs") (λxs H Q=>∃i,xs=[.int i]/\Q (.int (if i<0 then -i else i)) H):=by
 intro pins s σ H xs us Q I r h;obtain⟨i,rfl,q⟩:=h;obtain⟨u,rfl,t,rfl⟩:=fg r;exact call_abs_int λu tk=>⟨.int (if i<0 then -i else i),H,I.tok _,⟨_,rfl⟩,q⟩
theorem qr (hc:X.calm=true):cQ X (.builtin "min") (λxs H Q=>∃i j,xs=[.int i,.int j]/\Q (.int (if j<i then j else i)) H):=by
 intro pins s σ H xs us Q I r h;obtain⟨i,j,rfl,q⟩:=h;obtain⟨u,w',rfl,⟨t,rfl⟩,⟨t',rfl⟩⟩:=x6 r;refine min_two_ints (I.ok.hd hc) λh' tk k=>⟨_,H,I.kept k,?_,q⟩
 by_cases hj:j<i
 ·rw[if_pos hj,if_pos hj];exact⟨_,rfl⟩
 ·rw[if_neg hj,if_neg hj];exact⟨_,rfl⟩
theorem qu:cQ X (.type "int") (λxs H Q=>(∃i,xs=[.int i]/\Q (.int i) H)\/∃k,xs=[.bl k]/\Q (.int (if k then 1 else 0)) H):=by
 intro pins s σ H xs us Q I r h;rcases h with⟨i,rfl,q⟩|⟨k,rfl,q⟩
 ·obtain⟨u,rfl,t,rfl⟩:=fg r
  exact call_int_int ⟨.int i,H,I,⟨_,rfl⟩,q⟩
 ·obtain⟨u,rfl,r1⟩:=fg r
  cases r1;exact call_int_bool ⟨.int (if k then 1 else 0),H,I.tok _,⟨_,rfl⟩,q⟩
theorem uE:cQ X (.builtin "ord") (λxs H Q=>∃x,xs=[.str x]/\x.length=1/\Q (.int (x.cps.getD 0 0:Nat)) H):=by
 intro pins s σ H xs us Q I r h;obtain⟨x,rfl,hz,q⟩:=h;obtain⟨u,rfl,t,rfl⟩:=fg r;exact ord_of_one hz ⟨.int _,H,I.tok _,⟨_,rfl⟩,q⟩
end
structure ObjM (h:Heap) (x dx C:Addr) (mA:Str->Option Value):Prop where
 obj:h.get? x=some (Ja C dx)
 ns:h.Ns1 dx mA
 ne:dx≠x
theorem qw{h:Heap}{dx:Addr}{mA:Str->Option Value}(n:h.Ns1 dx mA):∃od,h.get? dx=some od/\∀name,Lo name od=some (mA name):=by
 obtain⟨o,es,ep,ho,hd,hk,_,hm⟩:=n;refine⟨o,ho,λname=>?_⟩;have e:=hm name;unfold nsFind findBy at e;rw[<-Array.find?_toList]at e;unfold Lo;rw[hd];dsimp only;split
 ·rename_i y q
  rw[q]at e;exact congrArg some e
 ·rename_i q
  rw[q]at e;have a:es.toList.any (·.refKey)=false:=by
   rw[List.any_eq_false];intro y hy;obtain⟨z,t,hkey⟩:=hk y (MZ.mp hy);simp[QX,hkey]
  have a':¬es.toList.any (·.refKey)=true:=by rw[a];exact Ha
  rw[if_neg a'];exact congrArg some e
theorem ObjM.look{h:Heap}{x dx C:Addr}{mA:Str->Option Value}(I:ObjM h x dx C mA):∃od,PySem.W.InstAt h x (Ja C dx) C (some od)/\∀name,Lo name od=some (mA name):=
 let⟨od,ho,hl⟩:=qw I.ns
 ⟨od,⟨I.obj,rfl,rfl,ho⟩,hl⟩
section
variable{prog:Program}{w:World}{A:Around}{E:Value->Shared->Prop}{s:Shared}{K:GH}{x dx C f:Addr}{mA:Str->Option Value}{name:Str}{v:Value}
theorem x8{expr:Bool}{Q:Value->Shared->Prop}(X:K.In s.heap)(I:ObjM s.heap x dx C mA)(hg:Jw K C name=true)(hh:JN K C=true)
  (ha:Hh K (.ref C) name=some none) (hv:mA name=some v) (hv':Of v=true) (h:Q v { s with toks:=s.toks+1 }) :
  wpAny (model prog w) A (getAttr (.ref x) name expr) Q E s:=by
 obtain⟨od,J,hl⟩:=I.look;exact PySem.W.get_value X J (Ll hg).1 (PySem.W.findObj_own hh ha rfl (by rw[hl,hv])) hv' h
theorem uF{pl:Sem Bool}{Q:Value×List Value->Shared->Prop}(X:K.In s.heap)(I:ObjM s.heap x dx C mA)(hg:Jw K C name=true)
  (hf:Hh K (.ref C) name=some (some (.ref f))) (ht:Iy K (.ref f)=true) (hv:mA name=none) (h:Q (.ref f,[.ref x]) s) :
  wpAny (model prog w) A (getMethod (.ref x) name pl) Q E s:=by
 obtain⟨od,J,hl⟩:=I.look;exact PySem.W.method_fn X J (Ll hg).1 (Ll hg).2 hf (beq_iff_eq.mp ht) (by show(Lo name od).map (·.isSome)=some false;rw[hl,hv];rfl) h
theorem ya{ns:List Str}{Q:Unit->Shared->Prop}(X:K.In s.heap)(I:ObjM s.heap x dx C mA)
  (hs:Hh K (.ref C) "__setattr__" = some (some (.builtin "object.__setattr__"))) (hp:KC K C=true) (ht:Mq K C name=some none) (hh:JN K C=true)
  (hw:Nn mA ns) (hsz:ns.length<=Rj)
  (h:∀h',ObjM h' x dx C (λy=>if y=name then some v else mA y)->L1 dx s.heap h'->Q () { s with heap:=h',toks:=s.toks+2 }) :
  wpAny (model prog w) A (setAttr (.ref x) name v) Q E s:=by
 obtain⟨od,J,hl⟩:=I.look;refine PySem.W.set_plain X J hs (PySem.W.osa_open (s:={ s with toks:=s.toks+1 }) (r:=none) X J hp ht λb=>?_);obtain⟨cd,hc,hd'⟩:=PySem.W.any_some hh;have hx:s.heap.get? x=some ⟨.ref C,some dx,.plain,#[]⟩:=I.obj;refine Rh (Ri (Rh (Rh (wpAny_loadPart hx (Rh (QH (s:={ s with toks:=s.toks+1 }) (PySem.W.looks_clsIn X hc) ?_))))));rw[hd'];refine Ri (a:=some dx) (Rh (Ri (Rh ?_)));refine wpAny_nsSet1 (s:={ s with toks:=s.toks+1 }) I.ns λh' hn2 hs2=>?_
 obtain⟨oD,esD,epD,hoD,hdD,hcD⟩:=hn2.count (QN name v hw);refine Rh (wpAny_lookBehind hoD (by rw[hdD];exact pastItsLine_dict (HU hcD (by rw[G8];lia))) ?_);exact Ri (h _ ⟨(hs2.2 _ (Hl I.ne)).trans I.obj,hn2,I.ne⟩ hs2)
theorem uG{R:Result->Shared->Prop}{vs:List Value}{kw:List (Str×Value)}(X:K.In s.heap)(hm:K2 K C=true)
  (hi:Hh K (.ref C) "__init__" = some (some (.ref f))) (hf:PySem.W.typeIn K (.ref f)=some (.type "function"))
  (h:codeAny (model prog w) (A.under (.builtin "type.__call__" ⟨.ref C::vs,kw⟩)) (.call (.ref f) ⟨.ref (s.heap.objs.size+1)::vs,kw⟩) (PySem.W.InitBack (s.heap.objs.size+1) R)
   { s with heap:=(s.heap.push IE).push (Ja C s.heap.objs.size) }) :
  codeAny (model prog w) A (.call (.ref C) ⟨vs,kw⟩) R s:=by
 obtain⟨hh,g,d,t,os⟩:=s;exact PySem.W.make_core (PySem.W.makes_of X hm) (PySem.W.looks_findIn X hi) (λself=>PySem.W.bind_fn X self hf) (.inl rfl) h
end
noncomputable def dA(f:Str)(v:V):List (Str×V)->List (Str×V)
 | []=>[(f,v)]
 | (g,x)::r=>if g=f then(g,v)::r else(g,x)::dA f v r
theorem iK(f g:Str)(v:V):∀fs:List (Str×V),(dA f v fs).lookup g=if g=f then some v else fs.lookup g
 | []=>by
  show Ik g [(f,v)]=_
  by_cases h:g=f
  ·have hb:(g == f)=true:=beq_iff_eq.mpr h
   simp only[Ik,hb,if_pos h]
  ·have hb:(g == f)=false:=beq_eq_false_iff_ne.mpr h
   simp only[Ik,hb,if_neg h]
 | (k,x)::r=>by
  have ih:=iK f g v r;rw[show dA f v ((k,x)::r)=(if k=f then(k,v)::r else(k,x)::dA f v r)from rfl];by_cases hk:k=f
  ·rw[if_pos hk]
   by_cases h:g=k
   ·have hb:(g == k)=true:=beq_iff_eq.mpr h
    simp only[Ik,hb,if_pos (h.trans hk)]
   ·have hb:(g == k)=false:=beq_eq_false_iff_ne.mpr h
    simp only[Ik,hb,if_neg (λe:g=f=>h (e.trans hk.symm))]
  ·rw[if_neg hk]
   by_cases h:g=k
   ·have hb:(g == k)=true:=beq_iff_eq.mpr h
    simp only[Ik,hb,if_neg (λe:g=f=>hk (h.symm.trans e))]
   ·have hb:(g == k)=false:=beq_eq_false_iff_ne.mpr h
    simp only[Ik,hb];exact ih
theorem iL(f:Str)(v:V):∀fs:List (Str×V),f∈(dA f v fs).map (·.1)/\∀g,g∈fs.map (·.1)->g∈(dA f v fs).map (·.1)
 | []=>⟨by simp[dA],λg h=>by simp at h⟩
 | (k,x)::r=>by
  obtain⟨i1,i2⟩:=iL f v r;rw[show dA f v ((k,x)::r)=(if k=f then(k,v)::r else(k,x)::dA f v r)from rfl];by_cases hk:k=f
  ·rw[if_pos hk]
   subst hk;exact⟨by simp,λg h=>by simpa using h⟩
  ·rw[if_neg hk]
   refine⟨?_,λg h=>?_⟩
   ·rw[Ig]
    exact Hd _ i1
   ·rw[Ig]at h ⊢
    rcases GZ.mp h with e|e
    ·exact GZ.mpr (.inl e)
    ·exact Hd _ (i2 g e)
theorem iM(f:Str)(v:V):∀fs:List (Str×V),(dA f v fs).length<=fs.length+1
 | []=>by simp[dA]
 | (k,x)::r=>by
  have ih:=iM f v r;rw[show dA f v ((k,x)::r)=(if k=f then(k,v)::r else(k,x)::dA f v r)from rfl];by_cases hk:k=f
  ·rw[if_pos hk,G8,G8];lia
  ·rw[if_neg hk,G8,G8];lia
theorem RelO.some_of{v:V}{o:Option Value}(r:RelO (some v) o):∃u,o=some u/\RelV v u:=by
 cases o with
 | none=>exact(show False from r).elim
 | some u=>exact⟨u,rfl,r⟩
theorem RelO.none_of{o:Option Value}(r:RelO none o):o=none:=by
 cases o with
 | none=>rfl
 | some u=>exact(show False from r).elim
theorem qx{v:V}{u:Value}(r:RelV v u):Of u=true:=by
 cases v with
 | non=>cases(show u=Hr from r);rfl
 | bl b=>cases(show u=Kx b from r);rfl
 | int i=>obtain⟨t,e⟩:=(show ∃t,u=JZ i t from r);cases e;rfl
 | str x=>obtain⟨t,e⟩:=(show ∃t,u=Lr x t from r);cases e;rfl
 | byt b=>obtain⟨t,e⟩:=(show ∃t,u=Qd b t from r);cases e;rfl
 | flt b=>obtain⟨t,e⟩:=(show ∃t,u=N7 b t from r);cases e;rfl
 | ref a=>cases(show u=Hq a from r);rfl
 | ty n=>cases(show u=Jl n from r);rfl
section
variable{P:Program}{w:World}{H H':Hp}{h h':Heap}{a C dx:Addr}{fs fs':List (Str×V)}
theorem j8(hok:HOk P w H h)(e:H a=some (.ins C dx fs)):∃mA,ObjM h a dx C mA/\(∀f,RelO (fs.lookup f) (mA f))/\Nn mA (fs.map (·.1))/\fs.length<=1000/\H dx=some (.own a):=by
 obtain⟨d,z,ne,ob,mA,n,r,q⟩:=(show ObjOk P w H h a (.ins C dx fs)from hok a _ e);exact⟨mA,⟨ob,n,ne⟩,r,q,z,d⟩
end
structure Cls (K:GH) (C:Addr):Prop where
 pg:Jw K C O6=true
 hd:JN K C=true
 po:KC K C=true
 sa:Hh K (.ref C) "__setattr__" = some (some (.builtin "object.__setattr__"))
theorem Cls.get{K:GH}{C:Addr}(c:Cls K C)(f:Str):Jw K C f=true:=c.pg
def NoAttr(K:GH)(C:Addr)(f:Str):Prop:=Hh K (.ref C) f=some none
theorem NoAttr.taker{K:GH}{C:Addr}{f:Str}(n:NoAttr K C f):Mq K C f=some none:=by
 unfold Mq;rw[show Hh K (.ref C) f=some none from n];rfl
structure Meth (K:GH) (C:Addr) (m:Str) (f:Addr):Prop where
 at_:Hh K (.ref C) m=some (some (.ref f))
 fn:Iy K (.ref f)=true
 kp:ID K (.ref f)=true
section
variable{X:Cx}{pins:List (Addr×Obj)}{σ:St}{H:Hp}{s:Shared}{a C dx:Addr}{fs:List (Str×V)}{f:Str}{v:V}{A:Around}{E:Value->Shared->Prop}
theorem jI{b:Bool}{Q:Value->Shared->Prop}(I:Inv X pins σ H s)(e:H a=some (.ins C dx fs))(c:Cls X.K C)(n:NoAttr X.K C f)(l:fs.lookup f=some v)
  (h:∀u s',Inv X pins σ H s'->RelV v u->Q u s'):wpAny (model X.prog X.w) A (getAttr (.ref a) f b) Q E s:=by
 obtain⟨mA,O,r,_,_,_⟩:=j8 I.hok e;obtain⟨u,hu,ru⟩:=RelO.some_of (v:=v) (o:=mA f) (by rw[<-l];exact r f);exact x8 I.kIn O (c.get f) c.hd n hu (qx ru) (h u _ (I.tok _) ru)
theorem jJ{m:Str}{g:Addr}{pl:Sem Bool}{Q:Value×List Value->Shared->Prop}(I:Inv X pins σ H s)(e:H a=some (.ins C dx fs))(c:Cls X.K C)(k:Meth X.K C m g)(l:fs.lookup m=none)
  (h:Q (.ref g,[.ref a]) s):wpAny (model X.prog X.w) A (getMethod (.ref a) m pl) Q E s:=by
 obtain⟨mA,O,r,_,_,_⟩:=j8 I.hok e;have hn:mA m=none:=RelO.none_of (by rw[<-l];exact r m);exact uF I.kIn O (c.get m) k.at_ k.fn hn h
theorem jK{y:V}{u:Value}{Q:Unit->Shared->Prop}(I:Inv X pins σ H s)(e:H a=some (.ins C dx fs))(c:Cls X.K C)(n:NoAttr X.K C f)(hl:fs.length<1000)(ry:RelV y u)
  (h:∀s',Inv X pins σ (upd H a (.ins C dx (dA f y fs))) s'->Q () s'):wpAny (model X.prog X.w) A (setAttr (.ref a) f u) Q E s:=by
 obtain⟨mA,O,r,wi,_,ho⟩:=j8 I.hok e;have hz:(fs.map (·.1)).length<=Rj:=by rw[GF,Rt];lia
 refine ya I.kIn O c.sa c.po n.taker c.hd wi hz λh' O' sb=>h _ ?_
 have hd:∃o,h'.get? dx=some o:=let⟨o,_,_,e',_⟩:=O'.ns;⟨o,e'⟩
 refine I.write (x:=a) (e:=dx) (by rw[e];exact GR) (.inr ho) (λb q hb z=>(sb.2 b hb).trans z) hd ?_;refine⟨by rw[ar O.ne];exact ho,?_,O.ne,O'.obj,_,O'.ns,λg=>?_,λg hg=>?_⟩
 ·have:=iM f y fs;lia
 ·show RelO ((dA f y fs).lookup g) (if g=f then some u else mA g)
  rw[iK];by_cases q:g=f
  ·rw[if_pos q,if_pos q];exact ry
  ·rw[if_neg q,if_neg q];exact r g
 ·by_cases q:g=f
  ·rw[q];exact(iL f y fs).1
  ·refine(iL f y fs).2 g (wi g λz=>hg ?_)
   show(if g=f then some u else mA g)=none
   rw[if_neg q];exact z
theorem Inv.made(I:Inv X pins σ H s):Inv X pins σ (upd (upd H s.heap.objs.size (.own (s.heap.objs.size+1))) (s.heap.objs.size+1) (.ins C s.heap.objs.size []))
  { s with heap:=(s.heap.push IE).push (Ja C s.heap.objs.size) }:=by
 have e1:(s.heap.push IE).get? s.heap.objs.size=some IE:=G1 s.heap rfl;have e2:((s.heap.push IE).push (Ja C s.heap.objs.size)).get? (s.heap.objs.size+1)=some (Ja C s.heap.objs.size):=by
  have:=G1 (s.heap.push IE) (o:=Ja C s.heap.objs.size) rfl
  rwa [Jj]at this
 have e3:(s.heap.push IE).Ns s.heap.objs.size (λ_=>none):=⟨IE,#[],_,e1,rfl,(λe he=>absurd he (by simp)),λ_=>rfl⟩;have I1:=I.laid (a:=s.heap.objs.size) (o:=.own (s.heap.objs.size+1)) (h':=s.heap.push IE) (t':=s.toks) (λb u q=>GI _ q) (GJ _) ⟨_,e1⟩;refine I1.laid (a:=s.heap.objs.size+1) (o:=.ins C s.heap.objs.size []) (t':=s.toks) (λb u q=>GI _ q) (Ko (Jj _ _)) ?_;have ne:s.heap.objs.size≠s.heap.objs.size+1:=Hf (KQ _);refine⟨by rw[ar ne,af],GW _,ne,e2,λ_=>none,(QP e3).at λo q=>GI _ q,λ_=>GR,λy hy=>absurd rfl hy⟩
theorem yc{prog:Program}{w:World}{env:Env}{e:Expr}{f:Str}{pos:Pos}{s:Shared}{Q:Value->Shared->Prop}(hb:Rw e f env (eval e env)=eval e env)
  (h:wpAny (model prog w) A (eval e env) (λo s₁=>wpAny (model prog w) A (getAttr o f true) Q E s₁) E s):wpAny (model prog w) A (eval (.Attribute e f pos) env) Q E s:=
 Attribute_any_ h (by rw[arm_eval_Attribute,hb])
end
def DO(K:GH)(ta:TE)(f:Str):TE:=λσ H Q=>ta σ H λx H1=>∃a C dx fs v,x=.ref a/\H1 a=some (.ins C dx fs)/\Cls K C/\NoAttr K C f/\fs.lookup f=some v/\Q v H1
def DP(K:GH)(ta tv:TE)(f:Str):TS:=λD σ H=>tv σ H λy H1=>ta σ H1 λx H2=>∃a C dx fs,x=.ref a/\H2 a=some (.ins C dx fs)/\Cls K C/\NoAttr K C f/\fs.length<1000/\
 D.nx σ (upd H2 a (.ins C dx (dA f y fs)))
def FX(X:Cx)(op:Operator)(rd:V->V->Hp->VK->Prop):Prop:=
 ∀(pins:List (Addr×Obj)) (s:Shared) (σ:St) (H:Hp) (x y:V) (u v:Value) (Q:VK),Inv X pins σ H s->RelV x u->RelV y v->rd x y H Q->wpAny (model X.prog X.w) X.A (R0 op u v) (EP X pins σ Q) X.xe s
def mO(K:GH)(ta tv:TE)(rd:V->V->Hp->VK->Prop)(f:Str):TS:=λD σ H=>ta σ H λx H1=>∃a C dx fs v,x=.ref a/\H1 a=some (.ins C dx fs)/\Cls K C/\NoAttr K C f/\fs.lookup f=some v/\
 tv σ H1 λy H2=>rd v y H2 λz H3=>∃dx' fs',H3 a=some (.ins C dx' fs')/\fs'.length<1000/\D.nx σ (upd H3 a (.ins C dx' (dA f z fs')))
section
variable{X:Cx}{o e value:Expr}{f:Str}{pos pos' tpos:Pos}{ta tv:TE}
theorem AU(he:PE X e ta)(hb:Rw e f X.env (eval e X.env)=eval e X.env):PE X (.Attribute e f pos) (DO X.K ta f):=by
 intro pins s σ H Q I h;refine yc hb (thn (he pins s σ H _ I h) λu s1 ⟨x,H1,I1,rx,a,C,dx,fs,v,ex,ea,c,n,l,q⟩=>?_);subst ex;obtain rfl:u=Hq a:=rx;exact jI I1 ea c n l λu' s2 I2 ru=>⟨v,H1,I2,ru,q⟩
theorem AV(ha:PE X o ta)(hv:PE X value tv)(hs:RT value (some (.Attribute o f pos')) pos.line X.env=pure false):PS X (.Assign [.Attribute o f pos'] value pos) (DP X.K ta tv f):=by
 intro pins s σ H D I h;refine plainObj_wpAny_Assign_Attribute (thn (hv pins s σ H _ I h) λu s1 ⟨y,H1,I1,ry,q⟩=>thn (ha pins s1 σ H1 _ I1 q) λov s2 ⟨x,H2,I2,rx,a,C,dx,fs,ex,ea,c,n,l,q2⟩=>?_) hs;subst ex;obtain rfl:ov=Hq a:=rx;exact jK I2 ea c n l ry λs3 I3=>⟨σ,_,I3,q2⟩
theorem qy{op:Operator}{rd:V->V->Hp->VK->Prop}(ha:PE X o ta)(hv:PE X value tv)(hop:FX X op rd):PS X (.AugAssign (.Attribute o f tpos) op value pos) (mO X.K ta tv rd f):=by
 intro pins s σ H D I h;refine wpAny_AugAssign_AttributeAny (thn (ha pins s σ H _ I h) λov s1 ⟨x,H1,I1,rx,a,C,dx,fs,v,ex,ea,c,n,l,q⟩=>?_);subst ex;obtain rfl:ov=Hq a:=rx;refine jI I1 ea c n l λu s2 I2 ru=>thn (hv pins s2 σ H1 _ I2 q) λw3 s3 ⟨y,H2,I3,ry,q3⟩=>thn (hop pins s3 σ H2 v y u w3 _ I3 ru ry q3) λw4 s4 ⟨z,H3,I4,rz,dx',fs',ea',l',q4⟩=>?_
 exact jK I4 ea' c n l' rz λs5 I5=>⟨σ,_,I5,q4⟩
end
section
variable{X:Cx}{pins:List (Addr×Obj)}{σ:St}{H:Hp}{s:Shared}{A:Around}{E:Value->Shared->Prop}{Q:Value->Shared->Prop}{c:Value}{b:Bool}
inductive TyOf (K:GH) (H:Hp):V->Value->Prop where
 | non:TyOf K H .non (.type "NoneType")
 | bl (x:Bool):TyOf K H (.bl x) (.type "bool")
 | int (i:Int):TyOf K H (.int i) (.type "int")
 | str (x:Str):TyOf K H (.str x) (.type "str")
 | flt (x:UInt64):TyOf K H (.flt x) (.type "float")
 | lst {a:Addr}{xs:List V}(e:H a=some (.lst xs)):TyOf K H (.ref a) (.type "list")
 | frz {a:Addr}{o:Obj}{xs:List V}(e:H a=some (.frz o (.lst xs))):TyOf K H (.ref a) (.type "list")
 | tup {a:Addr}{xs:List V}(e:H a=some (.tup xs)):TyOf K H (.ref a) (.type "tuple")
 | dK {a:Addr}{kvs:List (Key×V)}(e:H a=some (.dK kvs)):TyOf K H (.ref a) (.type "dict")
 | dT {a:Addr}{kvs:List (List Key×V)}(e:H a=some (.dT kvs)):TyOf K H (.ref a) (.type "dict")
 | ins {a C dx:Addr}{fs:List (Str×V)}(e:H a=some (.ins C dx fs)) (cl:Cls K C) (ha:Hh K (.ref C) "__class__" = some (some (.builtin "object.__class__")))
   (hn:PySem.W.specialIn K (.builtin "object.__class__") "__get__" = some (some (.builtin "getset_descriptor.__get__"))) (htk:PySem.W.takesIn K (.builtin "object.__class__")=some true)
   (hm:PySem.W.mroIn K C (.type "object")=some true):TyOf K H (.ref a) (.ref C)
theorem qz{x:V}{u t:Value}(I:Inv X pins σ H s)(rx:RelV x u)(ty:TyOf X.K H x t)(e:JS X.K t c=some b)(h:∀tk,Q (.bool b) { s with toks:=tk }):
  wpAny (model X.prog X.w) A (call (.builtin "isinstance") [u,c]) Q E s:=by
 cases ty with
 | non=>cases(show u=Hr from rx);exact IA LQ I.kIn GR e (λz=>nomatch z) h
 | bl y=>cases(show u=Kx y from rx);exact IA NT I.kIn GR e (λz=>nomatch z) h
 | int i=>obtain⟨t,q⟩:=(show ∃t,u=JZ i t from rx);cases q;exact IA L4 I.kIn GR e (λz=>nomatch z) h
 | str y=>obtain⟨t,q⟩:=(show ∃t,u=Lr y t from rx);cases q;exact IA Og I.kIn GR e (λz=>nomatch z) h
 | flt y=>obtain⟨t,q⟩:=(show ∃t,u=N7 y t from rx);cases q;exact IA PySem.W.kitx_float I.kIn GR e (λz=>nomatch z) h
 | @lst a xs ea=>
  cases(show u=Hq a from rx);obtain⟨_,_,n,_,h1⟩:=(show ObjOk X.prog X.w H s.heap a (.lst xs)from I.hok a _ ea);exact IA KD I.kIn ⟨_,h1,rfl⟩ e (λz=>nomatch z) h
 | @frz a ob xs ea=>
  cases(show u=Hq a from rx);obtain⟨_,_,_,n,_,h1⟩:=(show ObjOk X.prog X.w H s.heap a (.frz ob (.lst xs))from I.hok a _ ea);exact IA KD I.kIn ⟨_,h1,rfl⟩ e (λz=>nomatch z) h
 | @tup a xs ea=>
  cases(show u=Hq a from rx);obtain⟨_,_,_,p⟩:=(show ObjOk X.prog X.w H s.heap a (.tup xs)from I.hok a _ ea);obtain⟨o,h1,h2,_⟩:=p;exact IA Ls I.kIn ⟨o,h1,h2⟩ e (λz=>nomatch z) h
 | @dK a kvs ea=>
  cases(show u=Hq a from rx);obtain⟨_,_,vs,_,p⟩:=(show ObjOk X.prog X.w H s.heap a (.dK kvs)from I.hok a _ ea);obtain⟨o,es,ep,h1,h2,_⟩:=p;exact IA NU I.kIn ⟨o,h1,h2.1⟩ e (λz=>nomatch z) h
 | @dT a kvs ea=>
  cases(show u=Hq a from rx);obtain⟨_,_,xs,_,o,es,ep,h1,h2,_⟩:=(show ObjOk X.prog X.w H s.heap a (.dT kvs)from I.hok a _ ea);exact IA NU I.kIn ⟨o,h1,h2.1⟩ e (λz=>nomatch z) h
 | @ins a C dx fs ea cl ha hn htk hm=>
  cases(show u=Hq a from rx);obtain⟨mA,O,_⟩:=j8 I.hok ea;obtain⟨od,J,_⟩:=O.look;exact IA (PySem.W.kitx_own (cl.get _) cl.hd ha hn htk hm) I.kIn J e (λz=>nomatch z) h
end
structure Room (k:Nat) (A:Around):Prop where
 hd:A.handled=none
 dp:A.depth+3*k+5<recursionLimit
 un:A.units+16*k+200<cLine
 gd:A.guards=some []
theorem Room.mono{j k:Nat}{A:Around}(r:Room k A)(h:j<=k):Room j A:=⟨r.hd,by have:=r.dp;lia,by have:=r.un;lia,r.gd⟩
theorem Room.deeper{k:Nat}{A:Around}(r:Room (k+1) A)(env:Env):Room k (A.deeper env):=
 ⟨r.hd,by have:=r.dp;show A.depth+1+3*k+5<_;lia,by have:=r.un;show A.units+3+16*k+200<_;lia,r.gd⟩
theorem pj {A:Around}{C:Addr}{us:List Value}{kw:List (Str×Value)}:(A.under (.builtin "type.__call__" ⟨.ref C::us,kw⟩)).depth=A.depth+1:=by
 first|rfl|simp[L6,Code.weight,Code.isCreation,PQ,Code.isCaller,Qe,Np,guardIds]
theorem pk {A:Around}{C:Addr}{us:List Value}{kw:List (Str×Value)}:(A.under (.builtin "type.__call__" ⟨.ref C::us,kw⟩)).units=A.units+1:=by
 first|rfl|simp[L6,Code.cUnits,Qe,Np]
theorem Room.make {k:Nat}{A:Around}(r:Room (k+1) A) (C:Addr) (us:List Value) (kw:List (Str×Value)):Room k (A.under (.builtin "type.__call__" ⟨.ref C::us,kw⟩)):=
 ⟨r.hd,by have:=r.dp;rw[pj];lia,by have:=r.un;rw[pk];lia,by first|exact r.gd|(simp[L6,Code.guards,PQ,guardIds,pushGuards,r.gd])⟩
theorem Room.depth{k:Nat}{A:Around}(r:Room k A):A.depth<recursionLimit:=by have:=r.dp;lia
theorem Room.units{k:Nat}{A:Around}(r:Room k A):A.units+64<cLine:=by have:=r.un;lia
theorem Room.units0{k:Nat}{A:Around}(r:Room k A):A.units<cLine:=by have:=r.un;lia
def wO:TA:=λ_ H Q=>Q [] H
def pq(ta:TE)(tr:TA):TA:=λσ H Q=>ta σ H λx H1=>tr σ H1 λxs H2=>Q (x::xs) H2
section
variable{X:Cx}{e:Expr}{es:List Expr}{te:TE}{t:TA}{pos:Pos}
theorem AW:PA X [] wO:=λ_ _ _ _ H Q I h=>LR ⟨[],H,I,.nil,h⟩
theorem yd(ha:PE X e te)(hr:PA X es t)(hs:Rl (e::es) X.env=(false,eval e X.env)::Rl es X.env:=by rfl):PA X (e::es) (pq te t):=by
 intro pos pins s σ H Q I h;rw[hs];show wpAny _ _ (spliced ((false,eval e X.env)::RU pos (Rl es X.env))) _ _ s
 refine Lu (thn (ha pins s σ H _ I h) λu s1 ⟨x,H1,I1,r1,q1⟩=>?_);exact thn (hr pos pins s1 σ H1 _ I1 q1) λus s2 ⟨xs,H2,I2,r2,q2⟩=>⟨x::xs,H2,I2,.cons r1 r2,q2⟩
def DQ(t:TA):TE:=λσ H Q=>t σ H λxs H1=>xs.length<=Rj/\∀p,H1 p=none->Q (.ref p) (upd H1 p (.tup xs))
def DR(t:TA):TE:=λσ H Q=>t σ H λxs H1=>xs.length<=Rj/\∀p,H1 p=none->Q (.ref p) (upd H1 p (.lst xs))
theorem AX{x1}(h:PA X es t):PE X (.Tuple es x1 pos) (DQ t):=by
 intro pins s σ H Q I hq;refine wpAny_Tuple_spliced (thn (h pos pins s σ H _ I hq) λus s1 ⟨xs,H1,I1,r,z,q⟩=>⟨by rw[<-r.length];exact z,?_⟩);have hf:H1 s1.heap.objs.size=none:=I1.hok.fresh (GJ _);refine⟨.ref s1.heap.objs.size,upd H1 s1.heap.objs.size (.tup xs),I1.laid (t':=s1.toks) (λb u e=>GI _ e) (GJ _) ?_,rfl,q _ hf⟩;exact⟨z,us,r,⟨_,G1 _ rfl,rfl,_,rfl⟩⟩
theorem AY(h:PA X es t):PE X (.List es pos) (DR t):=by
 intro pins s σ H Q I hq;refine wpAny_List_spliced (thn (h pos pins s σ H _ I hq) λus s1 ⟨xs,H1,I1,r,z,q⟩=>⟨by rw[<-r.length];exact z,?_⟩);have hf:H1 s1.heap.objs.size=none:=I1.hok.fresh (GJ _);refine⟨.ref s1.heap.objs.size,upd H1 s1.heap.objs.size (.lst xs),I1.laid (t':=s1.toks) (λb u e=>GI _ e) (GJ _) ?_,rfl,q _ hf⟩;exact⟨z,us,0,r,G1 _ rfl⟩
end
noncomputable abbrev Sp:=List V->Hp->VK->XK->Prop
noncomputable abbrev CXT:=List Env->Hp->Shared->XK->Value->Shared->Prop
structure Env0 (P:Program) (w:World) (K:GH) (mg:Str->Option Value) (base:Heap) (A:Around) (outer:List Env) (s:Shared) (H:Hp):Prop where
 frames:A.frames=some outer
 mod:Mod K mg base
 bs:∀b o,base.get? b=some o->s.heap.get? b=some o/\H b=none
 bsz:base.objs.size<=s.heap.objs.size
 funs:s.heap.FunFrames base outer
 frf:∀b∈frs outer,H b=none
 hok:HOk P w H s.heap
 bare:AllBare s.gens
def CE(outer:List Env)(P:Program)(w:World)(H:Hp)(s:Shared)(Q:VK)(u:Value)(s':Shared):Prop:=
 ∃v H',s'.os=s.os/\AllBare s'.gens/\Un (frs outer) [] H H' s.heap s'.heap/\HOk P w H' s'.heap/\RelV v u/\Q v H'
def CR(CX:CXT)(outer:List Env)(P:Program)(w:World)(H:Hp)(s:Shared)(Q:VK)(E:XK)(r:Result)(s':Shared):Prop:=
 match r with
 | .ok (.ret u)=>CE outer P w H s Q u s'
 | .ok _=>False
 | .error e=>CX outer H s E e s'
structure FnOk (P:Program) (w:World) (K:GH) (mg:Str->Option Value) (base:Heap) (CX:CXT) (k:Nat) (f:Addr) (fd:FuncData) (ps:List Str) (sp:Sp):Prop where
 len:∀vs H Q E,sp vs H Q E->vs.length=ps.length
 run:∀(A:Around) (outer:List Env) (s:Shared) (H:Hp) (args:Args) (us:List Value) (vs:List V) (Q:VK) (E:XK),Room k A->Env0 P w K mg base A outer s H->BindsTo s fd args (ps.zip us)->Vals vs us->sp vs H Q E->
  codeAny (model P w) A (.call (.ref f) args) (CR CX outer P w H s Q E) s
theorem FnOk.imp{P:Program}{w:World}{K:GH}{mg:Str->Option Value}{base:Heap}{CX:CXT}{k:Nat}{f:Addr}{fd:FuncData}{ps:List Str}{sp sp':Sp}(F:FnOk P w K mg base CX k f fd ps sp)
  (h:∀vs H Q E,sp' vs H Q E->sp vs H Q E):FnOk P w K mg base CX k f fd ps sp':=
 ⟨λvs H Q E q=>F.len vs H Q E (h _ _ _ _ q),λA outer s H args us vs Q E hr he hb hv hs=>F.run A outer s H args us vs Q E hr he hb hv (h _ _ _ _ hs)⟩
theorem Env0.make{P:Program}{w:World}{K:GH}{mg:Str->Option Value}{base:Heap}{A:Around}{outer:List Env}{s:Shared}{H:Hp}(e:Env0 P w K mg base A outer s H)(C:Addr)(us:List Value)(kw:List (Str×Value)):
  Env0 P w K mg base (A.under (.builtin "type.__call__" ⟨.ref C::us,kw⟩)) outer s H:=⟨by first | exact e.frames | (simpa [L6,Code.envs,Np,pushEnvs]using e.frames),e.mod,e.bs,e.bsz,e.funs,e.frf,e.hok,e.bare⟩
section
variable{X:Cx}{pins:List (Addr×Obj)}{σ:St}{H:Hp}{s s':Shared}
theorem Inv.env0(I:Inv X pins σ H s):Env0 X.prog X.w X.K X.mg X.base X.A X.stack s H:=
 ⟨I.ok.frames,I.ok.mod,I.bs,HU I.ok.bsz I.sz,I.stack,I.stkFree,I.hok,I.bare⟩
theorem Inv.after{Q:VK}{u:Value}(I:Inv X pins σ H s)(h:CE X.stack X.prog X.w H s Q u s'):EP X pins σ Q u s':=by
 obtain⟨v,H',os,bare,un,hok,r,q⟩:=h;obtain⟨hh,g,d,t,os'⟩:=s';obtain rfl:os'=s.os:=os;exact⟨v,H',I.call (h':=hh) (g':=g) (d':=d) (t':=t) (ch:=[]) un hok bare (λb z=>absurd z (by simp)),r,q⟩
end
def qA(sp:Sp)(dvs:List V)(E:XK)(t:TA):TE:=λσ H Q=>t σ H λvs H1=>sp (vs++dvs) H1 Q E
def qB(C:Addr)(m:Str)(sp:Sp)(dvs:List V)(E:XK)(ta:TE)(t:TA):TE:=λσ H Q=>ta σ H λx H1=>∃a dx fs,x=.ref a/\H1 a=some (.ins C dx fs)/\fs.lookup m=none/\
 t σ H1 λvs H2=>sp (x::(vs++dvs)) H2 Q E
def qC(C:Addr)(sp:Sp)(dvs:List V)(E:XK)(t:TA):TE:=λσ H Q=>t σ H λvs H1=>∀x dx,H1 x=none->H1 dx=none->dx≠x->
 sp (.ref x::(vs++dvs)) (upd (upd H1 dx (.own x)) x (.ins C dx [])) (λv H2=>v=.non/\Q (.ref x) H2) E
def Binds(K:GH)(fd:FuncData)(ps:List Str)(ds:List Value):Prop:=
 ∀(s:Shared) (us:List Value),K.In s.heap->(us++ds).length=ps.length->BindsTo s fd ⟨us,[]⟩ (ps.zip (us++ds))
theorem Binds.all{K:GH}{fd:FuncData}{ps:List Str}(h:∀us:List Value,us.length=ps.length->bindArgs fd ⟨us,[]⟩=pure (ps.zip us)):Binds K fd ps []:=λs us _ hl=>by
 rw[IB]at hl ⊢;exact .of_eq (h us hl)
def dc(CX:CXT)(X:Cx)(E:XK):Prop:=∀(pins:List (Addr×Obj)) (σ:St) (H:Hp) (s:Shared) (e:Value) (s':Shared),Inv X pins σ H s->CX X.stack H s E e s'->X.xe e s'
section
variable{X:Cx}{CX:CXT}{k:Nat}{f C:Addr}{fd:FuncData}{ps:List Str}{sp:Sp}{dvs:List V}{ds:List Value}{E:XK}{x m:Str}{p pos apos:Pos}{e o:Expr}{es:List Expr}{ta:TE}{t:TA}
theorem nS{pins:List (Addr×Obj)}{σ:St}{H:Hp}{s:Shared}{Q:VK}{us:List Value}{vs:List V}(F:FnOk X.prog X.w X.K X.mg X.base CX k f fd ps sp)(hr:Room k X.A)(hb:Binds X.K fd ps ds)(hd:Vals dvs ds)(hx:dc CX X E)
  (I:Inv X pins σ H s) (r:Vals vs us) (h:sp (vs++dvs) H Q E):wpAny (model X.prog X.w) X.A (call (.ref f) us) (EP X pins σ Q) X.xe s:=by
 have r2:Vals (vs++dvs) (us++ds):=r.append hd;have hl:(us++ds).length=ps.length:=by rw[<-r2.length];exact F.len _ _ _ _ h
 refine wpAny_call (codeAny_mono (F.run X.A X.stack s H ⟨us,[]⟩ (us++ds) (vs++dvs) Q E hr I.env0 (hb s us I.kIn hl) r2 h) λr s' hq=>?_);cases r with
 | error e=>exact hx pins σ H s e s' I hq
 | ok fl=>
  cases fl with
  | ret u=>exact I.after hq
  | next=>exact IG hq
  | brk=>exact IG hq
  | cont=>exact IG hq
theorem ye(F:FnOk X.prog X.w X.K X.mg X.base CX k f fd ps sp)(hr:Room k X.A)(hg:Gl X x)(hm:X.mg x=some (.ref f))(hk:ID X.K (.ref f)=true)(hb:Binds X.K fd ps ds)(hd:Vals dvs ds)(hx:dc CX X E)
  (ha:PA X (e::es) t) (hdb:(x == ("__debug__" : Str))=false:=by decide) (he:Rl (e::es) X.env=(false,eval e X.env)::Rl es X.env:=by rfl) (hpl:(RU pos (Rl es X.env)).any (·.1)=false:=by rfl) :
  PE X (.Call (.Name x p) (e::es) [] pos) (qA sp dvs E t):=by
 intro pins s σ H Q I h;refine RA (j7 I hg hm ?_ hdb);refine Kp (h₀:=X.base) I.ok.mod.kin hk (thn (ha pos pins s σ H _ I h) λus s1 ⟨vs,H1,I1,r,q⟩=>⟨I1.kIn,?_⟩) he hpl;exact nS F hr hb hd hx I1 r q
theorem yf{pl:Sem Bool}(he:PE X o ta)(c:Cls X.K C)(hm:Meth X.K C m f)(F:FnOk X.prog X.w X.K X.mg X.base CX k f fd ps sp)(hr:Room k X.A)(hb:Binds X.K fd ps ds)(hd:Vals dvs ds)(hx:dc CX X E)(ha:PA X (e::es) t)
  (hst:Rl (e::es) X.env=(false,eval e X.env)::Rl es X.env:=by rfl) (hpl:(RU pos (Rl es X.env)).any (·.1)=false:=by rfl)
  (ht:eval (.Call (.Attribute o m apos) (e::es) [] pos) X.env=(do
   let ov <-eval o X.env
   RS apos.atName
   let(f,first) <-RB [ov] (getMethod ov m pl)
   callWith pos f first (RU pos (Rl (e::es) X.env)) (backToKw pos (R4 [] X.env))):=by rfl) :
  PE X (.Call (.Attribute o m apos) (e::es) [] pos) (qB C m sp dvs E ta t):=by
 intro pins s σ H Q I h;refine MM (pl:=pl) (thn (he pins s σ H _ I h) λu s1 ⟨x,H1,I1,rx,a,dx,fs,ex,ea,l,q⟩=>?_) ht;subst ex;obtain rfl:u=Hq a:=rx;refine jJ I1 ea c hm l ?_;refine Kp (first:=[.ref a]) (h₀:=X.base) I.ok.mod.kin hm.kp (thn (ha pos pins s1 σ H1 _ I1 q) λus s2 ⟨vs,H2,I2,r,q2⟩=>⟨I2.kIn,?_⟩) hst hpl;exact nS (us:=.ref a::us) (vs:=.ref a::vs) F hr hb hd hx I2 (.cons rfl r) q2
theorem uH{pl:Sem Bool}(he:PE X o ta)(c:Cls X.K C)(hm:Meth X.K C m f)(F:FnOk X.prog X.w X.K X.mg X.base CX k f fd ps sp)(hr:Room k X.A)(hb:Binds X.K fd ps ds)(hd:Vals dvs ds)(hx:dc CX X E)
  (ht:eval (.Call (.Attribute o m apos) [] [] pos) X.env=(do
   let ov <-eval o X.env
   RS apos.atName
   let(f,first) <-RB [ov] (getMethod ov m pl)
   callWith pos f first (RU pos (Rl [] X.env)) (backToKw pos (R4 [] X.env))):=by rfl) :
  PE X (.Call (.Attribute o m apos) [] [] pos) (qB C m sp dvs E ta wO):=by
 intro pins s σ H Q I h;refine MM (pl:=pl) (thn (he pins s σ H _ I h) λu s1 ⟨x,H1,I1,rx,a,dx,fs,ex,ea,l,q⟩=>?_) ht;subst ex;obtain rfl:u=Hq a:=rx;refine jJ I1 ea c hm l ?_;exact Nf (first:=[.ref a]) I1.kIn hm.kp (nS (us:=[.ref a]) (vs:=[.ref a]) F hr hb hd hx I1 (.cons rfl .nil) q)
structure Mk (K:GH) (C f:Addr):Prop where
 makes:K2 K C=true
 init:Hh K (.ref C) "__init__" = some (some (.ref f))
 fn:Iy K (.ref f)=true
 kp:ID K (.ref C)=true
theorem nT{pins:List (Addr×Obj)}{σ:St}{H:Hp}{s:Shared}{Q:VK}{us:List Value}{vs:List V}(M:Mk X.K C f)(F:FnOk X.prog X.w X.K X.mg X.base CX k f fd ps sp)(hr:Room (k+1) X.A)(hb:Binds X.K fd ps ds)(hd:Vals dvs ds)
  (hx:dc CX X E) (I:Inv X pins σ H s) (r:Vals vs us)
  (h:∀x dx,H x=none->H dx=none->dx≠x->sp (.ref x::(vs++dvs)) (upd (upd H dx (.own x)) x (.ins C dx [])) (λv H2=>v=.non/\Q (.ref x) H2) E) :
  wpAny (model X.prog X.w) X.A (call (.ref C) us) (EP X pins σ Q) X.xe s:=by
 have hq:=h (s.heap.objs.size+1) s.heap.objs.size (I.hok.fresh (Mw _)) (I.hok.fresh (GJ _)) (Hf (KQ _));have I2:=Inv.made (C:=C) I;have r2:Vals (V.ref (s.heap.objs.size+1)::(vs++dvs)) (Hq (s.heap.objs.size+1)::(us++ds)):=.cons rfl (r.append hd);have hl:(Hq (s.heap.objs.size+1)::us++ds).length=ps.length:=by
  have e:=r2.length;rw[F.len _ _ _ _ hq]at e;exact e.symm
 refine wpAny_call (uG (f:=f) I.kIn M.makes M.init (beq_iff_eq.mp M.fn) (codeAny_mono (F.run _ X.stack _ _ ⟨Hq (s.heap.objs.size+1)::us,[]⟩ (Hq (s.heap.objs.size+1)::(us++ds)) _ _ E (hr.make C us [])
  (I2.env0.make C us []) (hb _ (Hq (s.heap.objs.size+1)::us) I2.kIn hl) r2 hq) λr s' hq'=>?_))
 cases r with
 | error e=>exact hx pins σ _ _ e s' I2 hq'
 | ok fl=>
  cases fl with
  | ret u=>
   obtain⟨v,H',I3,rv,ev,q3⟩:=I2.after hq';subst ev;exact⟨rv,⟨V.ref (s.heap.objs.size+1),H',I3,rfl,q3⟩⟩
  | next=>exact IG hq'
  | brk=>exact IG hq'
  | cont=>exact IG hq'
theorem yg(M:Mk X.K C f)(F:FnOk X.prog X.w X.K X.mg X.base CX k f fd ps sp)(hr:Room (k+1) X.A)(hg:Gl X x)(hm:X.mg x=some (.ref C))(hb:Binds X.K fd ps ds)(hd:Vals dvs ds)(hx:dc CX X E)
  (ha:PA X (e::es) t) (hdb:(x == ("__debug__" : Str))=false:=by decide) (he:Rl (e::es) X.env=(false,eval e X.env)::Rl es X.env:=by rfl) (hpl:(RU pos (Rl es X.env)).any (·.1)=false:=by rfl) :
  PE X (.Call (.Name x p) (e::es) [] pos) (qC C sp dvs E t):=by
 intro pins s σ H Q I h;refine RA (j7 I hg hm ?_ hdb);refine Kp (h₀:=X.base) I.ok.mod.kin M.kp (thn (ha pos pins s σ H _ I h) λus s1 ⟨vs,H1,I1,r,q⟩=>⟨I1.kIn,?_⟩) he hpl;exact nT M F hr hb hd hx I1 r q
theorem uI(M:Mk X.K C f)(F:FnOk X.prog X.w X.K X.mg X.base CX k f fd ps sp)(hr:Room (k+1) X.A)(hg:Gl X x)(hm:X.mg x=some (.ref C))(hb:Binds X.K fd ps ds)(hd:Vals dvs ds)(hx:dc CX X E)
  (hdb:(x == ("__debug__" : Str))=false:=by decide):PE X (.Call (.Name x p) [] [] pos) (qC C sp dvs E wO):=by
 intro pins s σ H Q I h;refine RA (j7 I hg hm ?_ hdb);exact Nf I.kIn M.kp (nT (us:=[]) M F hr hb hd hx I .nil h)
end
section
variable{X:Cx}{CX:CXT}{k:Nat}{f C:Addr}{fd:FuncData}{ps ks:List Str}{sp:Sp}{E:XK}{x m:Str}{p pos apos kpos:Pos}{e o:Expr}{es:List Expr}{kws:List Keyword}{te ta:TE}{t tk:TA}{nm:Option Str}
variable{g:List Value->List Value->List Value}{gV:List V->List V->List V}
end
structure FnScope (N P:List Str) (sc:Scope):Prop where
 kind:sc.kind=.function
 co:sc.isCoroutine=false
 gen:sc.isGenerator=false
 nd:N.Nodup
 pre:N.take P.length=P
 par:∀x∈P,sc.names.lookup x=some .local\/sc.names.lookup x=some .cell
 nofree:∀y∈sc.names,y.2≠.free
theorem k4{kindOf:Str->Option NameKind}{x:Str}:∀{binds:List (Str×Value)}{m:Str->Option Value},(∀v,(x,v)∉binds)->bindL kindOf binds m x=m x
 | [],_,_=>rfl
 | (n,v)::r,m,h=>by
  unfold bindL;rw[k4 λw hw=>h w (Hd _ hw)];split
  ·have:x≠n:=by rintro rfl;exact h v Hj
   simp[this]
  ·rfl
theorem k6{kindOf:Str->Option NameKind}{x:Str}:∀{binds:List (Str×Value)}{m:Str->Option Value},(∀v,(x,v)∉binds)->bindC kindOf binds m x=m x
 | [],_,_=>rfl
 | (n,v)::r,m,h=>by
  unfold bindC;rw[k6 λw hw=>h w (Hd _ hw)];split
  ·rfl
  ·have:x≠n:=by rintro rfl;exact h v Hj
   simp[this]
theorem k7{kindOf:Str->Option NameKind}{x:Str}{v:Value}:∀{P:List Str}{vs:List Value}{i:Nat}{m:Str->Option Value},P.Nodup->P[i]? = some x->vs[i]? = some v->kindOf x=some .local->
  bindL kindOf (P.zip vs) m x=some v
 | [],_,_,_,_,h,_,_=>by simp at h
 | _::_,[],_,_,_,_,h,_=>by simp at h
 | p::P,w::vs,0,m,nd,h1,h2,hk=>by
  simp at h1 h2;subst h1;subst h2;show bindL kindOf ((p,w)::P.zip vs) m p=_
  unfold bindL;rw[k4 λv hv=>(HQ.mp nd).1 (Mr hv).1,if_pos hk];simp
 | p::P,w::vs,i+1,m,nd,h1,h2,hk=>by
  show bindL kindOf ((p,w)::P.zip vs) m x=_
  unfold bindL;exact k7 (i:=i) (HQ.mp nd).2 (by simpa using h1) (by simpa using h2) hk
theorem lg{kindOf:Str->Option NameKind}{x:Str}{v:Value}:∀{P:List Str}{vs:List Value}{i:Nat}{m:Str->Option Value},P.Nodup->P[i]? = some x->vs[i]? = some v->kindOf x≠some .local->
  bindC kindOf (P.zip vs) m x=some v
 | [],_,_,_,_,h,_,_=>by simp at h
 | _::_,[],_,_,_,_,h,_=>by simp at h
 | p::P,w::vs,0,m,nd,h1,h2,hk=>by
  simp at h1 h2;subst h1;subst h2;show bindC kindOf ((p,w)::P.zip vs) m p=_
  unfold bindC;rw[k6 λv hv=>(HQ.mp nd).1 (Mr hv).1,if_neg hk];simp
 | p::P,w::vs,i+1,m,nd,h1,h2,hk=>by
  show bindC kindOf ((p,w)::P.zip vs) m x=_
  unfold bindC;exact lg (i:=i) (HQ.mp nd).2 (by simpa using h1) (by simpa using h2) hk
noncomputable def start(N:List Str)(vs:List V):St:=vs.map some++GS (N.length - vs.length) none
noncomputable def uJ(CX:CXT)(P:Program)(w:World)(K:GH)(mg:Str->Option Value)(base:Heap)(N:List Str)(qual:Str)(scope:Scope)(f:Addr)(cd:Value)(A:Around)(outer:List Env)(s:Shared)(H:Hp)(E:XK):Cx where
 prog:=P
 w:=w
 K:=K
 mg:=mg
 base:=base
 A:=A.deeper (envOfC qual scope s.heap.objs.size f cd)
 N:=N
 s₀:=s
 H₀:=H
 env:=envOfC qual scope s.heap.objs.size f cd
 outer:=outer
 stack:=envOfC qual scope s.heap.objs.size f cd::outer
 ex:=[]
 calm:=true
 fn:=λ_=>true
 pn:=[]
 xe:=λe s'=>wpAny (model P w) (A.deeper (envOfC qual scope s.heap.objs.size f cd)) (leaving (envOfC qual scope s.heap.objs.size f cd) e) (λ_ s''=>CX outer H s E e s'') (λe' s''=>CX outer H s E e' s'') s'
theorem nU{sc:Scope}{n:Nat}{x:Str}(h:sc.names.lookup x=some .cell):∃c,(cellsFrom n sc.names []).lookup x=some c:=by
 have q:=Mx sc.names n [] (.inl h);exact Jc.mp q
theorem qD{CX:CXT}{P:Program}{w:World}{K:GH}{mg:Str->Option Value}{base:Heap}{N ps:List Str}{qual:Str}{scope:Scope}{f:Addr}{cd:Value}{A:Around}{outer:List Env}{s s1:Shared}{H:Hp}{E:XK}{us:List Value}{vs:List V}
  (S:FnScope N ps scope) (hd:A.handled=none) (e0:Env0 P w K mg base A outer s H) (hl:vs.length=ps.length) (r:Vals vs us)
  (x:InCallC s s.heap.objs.size (bindL (envOfC qual scope s.heap.objs.size f cd).kindOf (ps.zip us) λ_=>none) (cellsFrom (s.heap.objs.size+1) scope.names []) (bindC (envOfC qual scope s.heap.objs.size f cd).kindOf (ps.zip us) λ_=>none) s1) :
  Inv (uJ CX P w K mg base N qual scope f cd A outer s H E) [] (start N vs) H s1:=by
 have hpl:ps.length<=N.length:=by have:=congrArg HL S.pre;rw[G5]at this;lia
 obtain⟨h1,tk,rfl,hk⟩:=x.done;have noA:∀b:Addr,b∉(uJ CX P w K mg base N qual scope f cd A outer s H E).ex:=λb z=>absurd (show b∈([]:List Addr)from z) (by simp)
 refine⟨⟨e0.mod,S.kind,rfl,rfl,GJ _,λy z c h1 h2=>?_,λy hy=>?_,λy c _ h=>?_,λ_=>hd,Around.frames_deeper e0.frames,.inr ⟨rfl,rfl⟩,λb z=>absurd z (noA b),e0.bs,e0.bsz,λb _ _=>noA b,λb z=>absurd z (noA b),e0.funs,e0.frf⟩,
  rfl,e0.bare,Un.kept hk,⟨_,x.toInCall.ns,λi y v h1 h2 h3=>?_⟩,λy c h=>⟨_,x.cell y c h⟩,e0.hok.fresh (GJ _),λy c h=>?_,λp hp=>absurd (show p∈([]:List (Addr×Obj))from hp) (by simp),e0.hok.kept hk,?_⟩
 ·exact name_of_addr x.apart (Jh h1) (Jh h2)
 ·have hy:scope.names.lookup y=some .cell\/scope.names.lookup y=some .free:=hy
  rcases hy with hy|hy
  ·exact nU hy
  ·exact absurd rfl (S.nofree _ (Jh hy))
 ·exact IU (x.above y c (Jh h))
 ·have hi:i<vs.length:=by
   unfold start at h2;by_cases hi:i<vs.length
   ·exact hi
   ·rw[G6 (by simpa using hi)]at h2
    rw[JE]at h2;split at h2<;>cases h2
  have ha:vs[i]? = some v:=by
   unfold start at h2;rw[GU (by simpa using hi),GK]at h2;cases e:vs[i]? with
   | none=>rw[e]at h2;cases h2
   | some a=>rw[e]at h2;cases h2;rfl
  obtain⟨u,hu,rv⟩:=r.get ha;have hp:ps[i]? = some y:=by
   rw[<-S.pre,Kr ⋯];exact h1
  have ndP:ps.Nodup:=by rw[<-S.pre];exact S.nd.sublist (NW _ _)
  refine⟨u,rv,?_⟩;rcases S.par y (G3 hp)with k|k
  ·exact .inl ⟨k,k7 ndP hp hu k⟩
  ·obtain⟨c,e⟩:=nU (n:=s.heap.objs.size+1) k
   refine .inr ⟨.inl k,c,e,?_⟩;have q:=x.cell y c e;rw[lg ndP hp hu (by show scope.names.lookup y≠_;rw[k];decide)]at q;exact q
 ·exact e0.hok.fresh (IU (x.above y c (Jh h)))
 ·unfold start
  show _=N.length
  rw[GY,GF,Iz];lia
theorem AZ{CX:CXT}{P:Program}{w:World}{K:GH}{mg:Str->Option Value}{base:Heap}{k:Nat}{f:Addr}{name qual:Str}{params:Arguments}{body:List Stmt}{scope:Scope}{dV kV doc pm cdv ct oc:Value}{an od:Option Addr}
  {osl:Array (Option Value)}{N ps:List Str}{sp:Sp}(lk:K.lookup f=some ⟨oc,od,.func (Jd name qual params body scope dV kV doc pm an cdv ct),osl⟩) (hcd:Lp K cdv qual=true) (S:FnScope N ps scope)
  (len:∀vs H Q E,sp vs H Q E->vs.length=ps.length)
  (hbody:∀(A:Around) (outer:List Env) (s:Shared) (H:Hp) (vs:List V) (Q:VK) (E:XK),Room k (A.deeper (envOfC qual scope s.heap.objs.size f cdv))->sp vs H Q E->
   ∃t,PSs (uJ CX P w K mg base N qual scope f cdv A outer s H E) body t/\t { nx:=λ_ H'=>Q .non H',rt:=Q } (start N vs) H) :
  FnOk P w K mg base CX (k+1) f (Jd name qual params body scope dV kV doc pm an cdv ct) ps sp:=by
 refine⟨len,λA outer s H args us vs Q E hr e0 hb r hsp=>?_⟩;have hl:=len _ _ _ _ hsp;have KX:K.In s.heap:=e0.mod.kin.keeps λb o e=>(e0.bs b o e).1
 have lim:s.heap.NoLimit:=e0.mod.nolimit.keeps λb o e=>(e0.bs b o e).1
 have hkind:∀y∈ps.zip us,scope.names.lookup y.1=some .local\/(scope.names.lookup y.1=some .cell/\((cellsFrom (s.heap.objs.size+1) scope.names []).lookup y.1).isSome=true):=λ⟨n,v⟩ hy=>by
  rcases S.par n (Mr hy).1 with q|q
  ·exact .inl q
  ·exact .inr ⟨q,Mx _ _ _ (.inl q)⟩
 refine codeAny_call_function hr.depth (KX _ _ lk) rfl S.co S.gen rfl (PySem.W.codeRec_of KX hcd) (hb _ _ _ _ ?_);refine wpAny_newFunctionEnv_cells S.kind hkind λenv he s1 x=>?_
 subst he;refine⟨lim.keeps x.toInCall.keep,codeAny_func ?_⟩;obtain⟨t,ht,hq⟩:=hbody A outer s H vs Q E (hr.deeper _) hsp;have I:Inv (uJ CX P w K mg base N qual scope f cdv A outer s H E) [] (start N vs) H s1:=qD S hr.hd e0 hl r x;refine Ro (ht [] s1 (start N vs) H _ I hq) (λfl s' hs=>?_) λe s' hs=>hs
 have fin:∀{σ':St}{H':Hp}{v:V}{u:Value},Inv (uJ CX P w K mg base N qual scope f cdv A outer s H E) [] σ' H' s'->RelV v u->Q v H'->CE outer P w H s Q u s':=
  λ{σ' H' v u} J rv q=>⟨v,H',J.os,J.bare,J.base,J.hok,rv,q⟩
 cases fl with
 | ret u=>
  obtain⟨v,σ',H',J,rv,q⟩:=hs;exact fin J rv q
 | next=>
  obtain⟨σ',H',J,q⟩:=hs;exact fin (v:=V.non) (u:=Hr) J rfl q
 | brk=>
  obtain⟨_,_,_,q⟩:=hs;exact IG q
 | cont=>
  obtain⟨_,_,_,q⟩:=hs;exact IG q
section
variable{X:Cx}{x:Str}{p pos:Pos}{e:Expr}{es:List Expr}{t:TA}{id T:String}{r:List V->Hp->VK->Prop}
def tCB(r:List V->Hp->VK->Prop)(t:TA):TE:=λσ H Q=>t σ H λvs H1=>r vs H1 Q
theorem uK (hc:cQ X (.builtin id) r) (hg:Gl X x) (hm:X.mg x=none) (hv:bootBuiltins x=some (.builtin id)) (ha:PA X (e::es) t) (hn:x≠"__name__":=by decide) (hdb:(x == ("__debug__" : Str))=false:=by decide)
  (he:Rl (e::es) X.env=(false,eval e X.env)::Rl es X.env:=by rfl) (hpl:(RU pos (Rl es X.env)).any (·.1)=false:=by rfl):PE X (.Call (.Name x p) (e::es) [] pos) (tCB r t):=by
 intro pins s σ H Q I h;refine RA (dr I hg hm hv ?_ hn hdb);exact OE (thn (ha pos pins s σ H _ I h) λus s1 ⟨vs,H1,I1,r1,q1⟩=>hc pins s1 σ H1 vs us Q I1 r1 q1) he hpl
theorem qE (hc:cQ X (.type T) r) (hg:Gl X x) (hm:X.mg x=none) (hv:bootBuiltins x=some (.type T)) (ha:PA X (e::es) t) (hn:x≠"__name__":=by decide) (hdb:(x == ("__debug__" : Str))=false:=by decide)
  (he:Rl (e::es) X.env=(false,eval e X.env)::Rl es X.env:=by rfl) (hpl:(RU pos (Rl es X.env)).any (·.1)=false:=by rfl):PE X (.Call (.Name x p) (e::es) [] pos) (tCB r t):=by
 intro pins s σ H Q I h;refine RA (dr I hg hm hv ?_ hn hdb);exact HN (thn (ha pos pins s σ H _ I h) λus s1 ⟨vs,H1,I1,r1,q1⟩=>hc pins s1 σ H1 vs us Q I1 r1 q1) he hpl
end
end L2
open L2.SqL renaming of→Q6
open L2.SqT renaming of→Q7
open L2.V renaming int→Q8,bl→Q9,str→Ra,ref→Rb
open PySem PySem.Spec PyProof.Rows L2
variable{n j t' c k i tk b m:Nat}{vl vu pm u:Value}{sl p l a C it i1 i2 l1 l2 q:Addr}{Q E:Value->Shared->Prop}{items:Array Value}{its vs us:List Value}{xs ys:List V}{σ:L2.St}{pins:List (Addr×Obj)}{h:Heap}{X:Cx}{x qual z:Str}{H1 H' H0:Hp}{o:HO}{v y:V}{fp ps qs cs hs hts:List Addr}{elt cnd iter tg e:Expr}{tc:TT}{g:TG}{wi:TI}{pos pos' py lpos:Pos}{s':Shared}{to ti ta:TE}{t:TA}{tb:TS}{ix zs row ms ms' r:List Nat}{scope:Scope}{P:Program}{rss oss qss:List (List Nat)}
namespace HT
open PySem PyProof.Rows
noncomputable def bC:List Int->List Int->Bool
 | [],[]=>false
 | [],_::_=>true
 | _::_,[]=>false
 | x::xs,y::ys=>if x=y then bC xs ys else decide (x<y)
theorem bt(x y:Int)(xs ys:List Int):bC (x::xs) (y::ys)=if x=y then bC xs ys else decide (x<y):=rfl
theorem fR:bC [] []=false:=rfl
theorem jx(y:Int)(ys:List Int):bC [] (y::ys)=true:=rfl
theorem jy(x:Int)(xs:List Int):bC (x::xs) []=false:=rfl
theorem j9(A:Around)(s:Shared)(a:Int)(t:Tok)(c:Int)(u:Tok):∃e,Qq A s (.int a t) (.int c u) e/\(e=true↔a=c):=
 ⟨(a == c),Nq a t c u,by simp⟩
theorem uL(A:Around)(s:Shared)(a:Int)(t:Tok)(c:Int)(u:Tok)(prog:Program)(w:World)(E:Value->Shared->Prop)(Q:Value->Shared->Prop)(h:Q (.bool (decide (a<c))) s):
  wpAny (model prog w) A (R7 .Lt (.int a t) (.int c u)) Q E s:=
 (Qv h:wpAny (model prog w) A (Rm .Lt (.int a t) (.int c u)) Q E s)
section
open PySem.SeqAt
open PySem.AutoSeq1 (wpAny_loadPart')
open PySem.MeetsSeq PySem.MeetsSeq2 PySem.MeetsSeq3
theorem ka(l b:Addr)(items items2:Array Value)(n n2:Nat)(dd dd2:Option Addr)(sl sl2:Array (Option Value))(ns ms:List Int)(hi:Rp items.toList ns)(hj:Rp items2.toList ms):
  Meets (Builtin.«tuple.__lt__» ⟨[.ref l,.ref b],[]⟩)
   (λ_ R s=>s.heap.get? l=some { cls:=.type "tuple",dict:=dd,data:=.seq items n,slots:=sl }/\s.heap.get? b=some { cls:=.type "tuple",dict:=dd2,data:=.seq items2 n2,slots:=sl2 }/\
    R (.ok (.ret (.bool (bC ns ms)))) s):=
 .of_wp λprog w A R s h=>by
  obtain⟨hp,g,d,tk,os⟩:=s;obtain⟨hl,hb,h⟩:=h;have f2:=Je;have z1:items.size=ns.length:=by rw[<-hi.length];simp
  have z2:items2.size=ms.length:=by rw[<-hj.length];simp
  wp_walk using Rv hl,Rv hb,wpAny_forIn_list _ (λrest b s'=>b.1=none/\s'=⟨hp,g,d,tk,os⟩/\∃(vs ws:List Value) (ns' ms':List Int),rest=vs.zip ws/\
   Rp vs ns'/\Rp ws ms'/\ns'.length+items2.size=ms'.length+items.size/\R (.ok (.ret (.bool (bC ns' ms')))) ⟨hp,g,d,tk,os⟩) _
  case turn=>
   rintro⟨y,x⟩ rest b s' ⟨hb',rfl,vs,ws,ns',ms',hz,hvi,hwi,hlen,hR⟩;cases hvi with
   | nil=>rw[KE]at hz;cases hz
   | cons a t hvi'=>
    cases hwi with
    | nil=>rw[Ks]at hz;cases hz
    | cons c u hwi'=>
     rw[IJ]at hz;injection hz with hyx hrest
     injection hyx with hy hx
     subst hy hx;rw[bt]at hR;simp only[G8]at hlen;obtain⟨e,he,hiff⟩:=j9 A.in1 ⟨hp,g,d,tk,os⟩ a t c u;refine Rh (he prog w _ _ ?_);cases e with
     | true=>
      rw[if_pos (hiff.mp rfl)]at hR
      wp_walk
      exact⟨rfl,rfl,_,_,_,_,hrest,hvi',hwi',by lia,hR⟩
     | false=>
      rw[if_neg (λq=>absurd (hiff.mpr q) Ha)]at hR;have hri:=uL A.in1 ⟨hp,g,d,tk,os⟩ a t c u prog w
      wp_walk using hri
      exact⟨_,rfl,by simpa using hR⟩
  case fin=>
   rintro⟨b1,b2⟩ s' ⟨hb',rfl,vs,ws,ns',ms',hz,hvi,hwi,hlen,hR⟩;simp only at hb';subst hb';have hv:bC ns' ms'=decide (items.size<items2.size):=by
    cases hvi with
    | nil=>
     cases hwi with
     | nil=>
      simp only[Ib]at hlen;rw[fR];exact(decide_eq_false ⋯).symm
     | cons c u hw=>
      simp only[Ib,G8]at hlen;rw[jx];exact(decide_eq_true ⋯).symm
    | cons a t hv=>
     cases hwi with
     | nil=>
      simp only[Ib,G8]at hlen;rw[jy];exact(decide_eq_false ⋯).symm
     | cons c u hw=>
      rw[IJ]at hz;cases hz
   rw[hv]at hR
   wp_walk
   exact⟨_,rfl,by simpa [I0]using hR⟩
  case h=>
   exact⟨rfl,rfl,items.toList,items2.toList,ns,ms,rfl,hi,hj,by lia,h⟩
end
section
variable{prog:Program}{w:World}{A:Around}{E:Value->Shared->Prop}{s:Shared}
noncomputable def sIx(n d:Nat):Option Int->Nat
 | none=>d
 | some v=>if v<0 then(v+(n:Int)).toNat else min v.toNat n
theorem dU(n d k:Nat):sIx n d (some (k:Int))=min k n:=by
 show(if(k:Int)<0 then((k:Int)+(n:Int)).toNat else min (k:Int).toNat n)=min k n
 rw[if_neg ⋯,Ih]
theorem A0(n d:Nat)(hd:d<=n)(o:Option Int):sIx n d o<=n:=by
 cases o with
 | none=>exact hd
 | some v=>
  show(if v<0 then(v+(n:Int)).toNat else min v.toNat n)<=n
  by_cases hv:v<0
  ·rw[if_pos hv];lia
  ·rw[if_neg hv];exact Oh _ _
theorem qF(v:Int)(n d:Nat):(if v<0 then max (v+(n:Int)) 0 else min v (n:Int))=((sIx n d (some v):Nat):Int):=by
 show(if v<0 then max (v+(n:Int)) 0 else min v (n:Int))=(((if v<0 then(v+(n:Int)).toNat else min v.toNat n):Nat):Int)
 by_cases hv:v<0
 ·simp only[if_pos hv];lia
 ·simp only[if_neg hv];lia
theorem pv(lo hi:Option Int)(n:Nat):Km lo hi 1 (n:Int)=(((sIx n 0 lo:Nat):Int),((sIx n n hi:Nat):Int)):=by
 have h1:¬((1:Int)<0):=by lia
 unfold Km;simp only[h1,if_false];refine Prod.ext ?_ ?_
 ·cases lo with
  | none=>rfl
  | some v=>exact qF v n 0
 ·cases hi with
  | none=>rfl
  | some v=>exact qF v n n
theorem pw(i j:Nat):Js (i:Int) (j:Int) 1=j - i:=by
 unfold Js;have h1:(1:Int) > 0:=by lia
 simp only[h1,if_true,PU];split<;>lia
theorem jL{v:Value}{o:Option Int}{Q:Option Int->Shared->Prop}(p:IsPart v o)(h:Q o s):wpAny (model prog w) A (OW v) Q E s:=by
 cases p with
 | none=>exact slicePart_none h
 | int i t=>exact slicePart_int h
theorem dO{lo hi:Option Int}{Q:Int×Int×Nat->Shared->Prop}(hs:s.heap.IsSliceOf sl vl vu .none)(pl:IsPart vl lo)(pu:IsPart vu hi)
  (h:Q (((sIx n 0 lo:Nat):Int),1,sIx n n hi - sIx n 0 lo) s):wpAny (model prog w) A (LG (.ref sl) (pure (n:Int))) Q E s:=by
 obtain⟨os,hos,hcs,hds⟩:=id hs;unfold LG Pu;refine Rh (Rh (Ru hos hds (x:=vl) rfl (Rh (Ru hos hds (x:=vu) rfl (Rh (Ru hos hds (x:=.none) rfl (Ri ?_)))))));refine Rh (slicePart_none ?_);show wpAny _ _ (if((1:Int) == 0)=true then _ else _) _ _ s
 rw[if_neg (by decide)];refine Rh (jL pl (Rh (jL pu (Rh (Ri ?_)))));show wpAny _ _ (match Km lo hi 1 (n:Int)with|(lo,hi)=>pure (lo,(1:Int),Js lo hi 1)) _ _ s
 rw[pv lo hi n];show wpAny _ _ (pure (((sIx n 0 lo:Nat):Int),(1:Int),Js ((sIx n 0 lo:Nat):Int) ((sIx n n hi:Nat):Int) 1)) _ _ s
 rw[pw];exact Ri h
theorem uM(xs:Array Value)(i k:Nat):((GO k).filterMap λ(m:Nat)=>xs[((i:Int)+(m:Int)*1).toNat]?).toArray=((xs.toList.drop i).take k).toArray:=by
 have e:(λ(m:Nat)=>xs[((i:Int)+(m:Int)*1).toNat]?)=λm=>xs[i+m]?:=by
  funext m
  have:((i:Int)+(m:Int)*1).toNat=i+m:=by lia
  rw[this]
 rw[e];have:=pick_run xs i k;rw[List.filterMap_map]at this;have e2:((λx=>xs[x]?)∘λx=>i+x)=λm=>xs[i+m]?:=rfl
 rw[e2]at this;rw[this]
theorem gy{t:Addr}{lo hi:Option Int}(ht:IsTup s.heap t items)(hs:s.heap.IsSliceOf sl vl vu .none)(pl:IsPart vl lo)(pu:IsPart vu hi)
  (hw:¬(sIx items.size 0 lo=0/\sIx items.size items.size hi=items.size))
  (h:Q (.ref s.heap.objs.size) { s with heap:=s.heap.push { cls:=.type "tuple",data:=.seq ((items.toList.drop (sIx items.size 0 lo)).take (sIx items.size items.size hi - sIx items.size 0 lo)).toArray } })
  (hsz:items.size<=Rj):wpAny (model prog w) A (getItem (.ref t) (.ref sl)) Q E s:=by
 have htake:sizeOk (.seq ((items.toList.drop (sIx items.size 0 lo)).take (sIx items.size items.size hi - sIx items.size 0 lo)).toArray):=by
  show((items.toList.drop (sIx items.size 0 lo)).take (sIx items.size items.size hi - sIx items.size 0 lo)).toArray.size<=Rj
  rw[GQ,G5,Hm,IT];lia
 have hj:sIx items.size items.size hi<=items.size:=A0 _ _ (GJ _) hi;obtain⟨os,hos,hcs,hds⟩:=id hs;have hTs:s.TypeIs (.ref sl) "slice":=⟨os,hos,hcs⟩;unfold getItem
 try with_reducible refine Rq ?_
 first|refine Rh (Ri ?_)|skip
 refine Rh (wpAny_sequenceKey ht.typeIs (by decide) ?_);refine Rh (Rx (name:=He "__getitem__") ht.typeIs Il
  (RE Il ht.typeIs entry_tuple_getitem ?_ (args_tuple_getitem _ _)))
 show wpAny _ _ (LH (.ref t) >>= _) _ _ s
 refine Rh (tupleItemsOf_ ht ?_);refine Rh (wpAny_typeOf hTs ?_);rw[if_pos (by decide)];refine Rh (dO hs pl pu ?_);have hno:¬((((sIx items.size 0 lo:Nat):Int) == 0 && (1:Int) == 1 && (sIx items.size items.size hi - sIx items.size 0 lo) == items.size)=true):=by
  intro q;rw[Ip,Ip]at q;have q1:((sIx items.size 0 lo:Nat):Int)=0:=eq_of_beq q.1.1;have q2:sIx items.size items.size hi - sIx items.size 0 lo=items.size:=eq_of_beq q.2;exact hw ⟨by lia,by lia⟩
 show wpAny _ _ (if(((sIx items.size 0 lo:Nat):Int) == 0 && (1:Int) == 1 && (sIx items.size items.size hi - sIx items.size 0 lo) == items.size)=true then _ else _) _ _ s
 rw[if_neg hno,uM]
 first
  | exact Rh (m:=Jx _) (Ry (Ri ⟨_,rfl,Ri h⟩) htake)
  | exact Rh (m:=Jx _) (Ry (Rh (Ri (Ri ⟨_,rfl,Ri h⟩))) htake)
  | exact Rh (Rh (m:=Jx _) (Ry (Ri (Ri ⟨_,rfl,Ri h⟩)) htake))
  | exact Rh (Rh (m:=Jx _) (Ry (Ri ⟨_,rfl,Ri h⟩) htake))
end
end HT
namespace L2
open PySem PySem.Spec PyProof.Rows
noncomputable abbrev TO:=St->Hp->(Option Int->Hp->Prop)->Prop
def PO(X:Cx)(e:Option Expr)(t:TO):Prop:=
 ∀(pins:List (Addr×Obj)) (s:Shared) (σ:St) (H:Hp) (Q:Option Int->Hp->Prop),Inv X pins σ H s->t σ H Q->
  wpAny (model X.prog X.w) X.A (evalPart e X.env) (λu s'=>∃o H',Inv X pins σ H' s'/\IsPart u o/\Q o H') X.xe s
noncomputable def mP:TO:=λ_ H Q=>Q none H
noncomputable def yh(t:TE):TO:=λσ H Q=>t σ H λx H1=>∃i,x=.int i/\Q (some i) H1
theorem bG{ns:List Int}:∀{us:List Value},Vals (ns.map Q8) us->Rp us ns:=by
 induction ns with
 | nil=>intro us r;rw[L7]at r;cases r;exact .nil
 | cons n ns ih=>
  intro us r;rw[Ig]at r;cases r with
  | cons r1 r2=>
   obtain⟨t,e⟩:=r1;subst e;exact .cons n t (ih r2)
section
variable{X:Cx}{e:Expr}{te:TE}{lo hi:Option Expr}{tl th:TO}{pos p2:Pos}
theorem yi:PO X none mP:=by
 intro pins s σ H Q I h;rw[evalPart_none];exact Ri ⟨none,H,I,.none,h⟩
theorem yj(h:PE X e te):PO X (some e) (yh te):=by
 intro pins s σ H Q I hw;rw[evalPart_some];refine thn (h pins s σ H _ I hw) λu s1 ⟨x,H1,I1,r1,q1⟩=>?_
 obtain⟨i,rfl,q⟩:=q1;obtain⟨t,rfl⟩:=r1;exact⟨some i,H1,I1,.int i t,q⟩
def SlR(X:Cx)(r:V->Option Int->Option Int->Hp->VK->Prop):Prop:=
 ∀(pins:List (Addr×Obj)) (s:Shared) (σ:St) (H:Hp) (x:V) (v vl vu:Value) (lo hi:Option Int) (sl:Addr) (Q:VK),Inv X pins σ H s->RelV x v->s.heap.IsSliceOf sl vl vu .none->IsPart vl lo->IsPart vu hi->r x lo hi H Q->
  ∃T id,typeLookup (.type T) "__getitem__" = pure (some (.builtin id))/\s.TypeIs v T/\wpAny (model X.prog X.w) X.A (getItem v (.ref sl)) (EP X pins σ Q) X.xe s
def tSl(r:V->Option Int->Option Int->Hp->VK->Prop)(te:TE)(tl th:TO):TE:=λσ H Q=>te σ H λx H1=>tl σ H1 λl H2=>th σ H2 λu H3=>r x l u H3 Q
theorem uN{r:V->Option Int->Option Int->Hp->VK->Prop}(hr:SlR X r)(he:PE X e te)(hl:PO X lo tl)(hu:PO X hi th):PE X (.Subscript e (.Slice lo hi none p2) pos) (tSl r te tl th):=by
 intro pins s σ H Q I h;refine Subscript_ (thn (he pins s σ H _ I h) λv s1 ⟨x,H1,I1,r1,q1⟩=>?_);refine wpAny_Slice (thn (hl pins s1 σ H1 _ I1 q1) λvl s2 ⟨l,H2,I2,pl,q2⟩=>thn (hu pins s2 σ H2 _ I2 q2) λvu s3 ⟨u,H3,I3,pu,q3⟩=>?_);rw[evalPart_none];refine Ri ?_;have I4:Inv X pins σ H3 { s3 with heap:=s3.heap.push { cls:=.type "slice",data:=.fields #[vl,vu,.none] } }:=I3.kept (t':=s3.toks) λb ob q=>GI _ q
 obtain⟨T,id,hT,ht,hg⟩:=hr pins { s3 with heap:=s3.heap.push { cls:=.type "slice",data:=.fields #[vl,vu,.none] } } σ H3 x v vl vu l u s3.heap.objs.size Q I4 r1 (Lv ..) pl pu q3;show wpAny (model X.prog X.w) X.A (subscriptTail e (.Slice lo hi none p2) v (.ref s3.heap.objs.size)) (EP X pins σ Q) X.xe { s3 with heap:=s3.heap.push { cls:=.type "slice",data:=.fields #[vl,vu,.none] } }
 exact tail_any (ops:=[.ref s3.heap.objs.size,v]) ht hT hg (by with_unfolding_all rfl)
noncomputable def jz(xs:List V)(lo hi:Option Int):List V:=(xs.drop (HT.sIx xs.length 0 lo)).take (HT.sIx xs.length xs.length hi - HT.sIx xs.length 0 lo)
theorem iN(xs:List V)(lo hi:Option Int):(jz xs lo hi).length<=xs.length:=by
 unfold jz;rw[G5,Hm];lia
def FY(K:GH):V->Option Int->Option Int->Hp->VK->Prop:=λx lo hi H Q=>∃a xs,x=.ref a/\SqT K H a xs/\
 ¬(HT.sIx xs.length 0 lo=0/\HT.sIx xs.length xs.length hi=xs.length)/\∀p,H p=none->Q (.ref p) (upd H p (.tup (jz xs lo hi)))
theorem A1:SlR X (FY X.K):=by
 intro pins s σ H x v vl vu lo hi sl Q I rx hs pl pu h;obtain⟨a,xs,rfl,hx,hw,q⟩:=h;cases rx;obtain⟨its,r,ht,hz⟩:=I.tuple hx;have hlen:its.toArray.size=xs.length:=by rw[GQ];exact r.length.symm
 refine⟨"tuple",_,Il.lookup,ht.typeIs,?_⟩;refine HT.gy ht hs pl pu (by rw[hlen];exact hw) ?_ (by rw[hlen];exact hz);rw[hlen];refine⟨.ref s.heap.objs.size,_,I.laid (t':=s.toks) (o:=.tup (jz xs lo hi)) (λb ob q=>GI _ q) (GJ _) ?_,rfl,q _ (I.hok.fresh (GJ _))⟩;exact⟨HU (iN xs lo hi) hz,_,(r.drop (HT.sIx xs.length 0 lo)).take (HT.sIx xs.length xs.length hi - HT.sIx xs.length 0 lo),O4 _ _⟩
end
noncomputable def ixN(n:Nat)(i:Int):Option Nat:=if 0<=i then(if i<n then some i.toNat else none)else if -(n:Int)<=i then some (i+n).toNat else none
noncomputable def atI{α:Type}(xs:List α)(i:Int):Option α:=(ixN xs.length i).bind λj=>xs[j]?
theorem mQ{i:Int}(h:ixN n i=some j):seqIndex? i n=some j/\j<n/\-(n:Int)<=i/\i<n:=by
 unfold ixN at h;by_cases h0:0<=i
 ·rw[if_pos h0]at h
  by_cases h1:i<n
  ·rw[if_pos h1]at h
   have e:i.toNat=j:=G9 h;exact⟨by rw[seqIndex_of h0 h1,e],by lia,by lia,h1⟩
  ·rw[if_neg h1]at h;cases h
 ·rw[if_neg h0]at h
  by_cases h1:-(n:Int)<=i
  ·rw[if_pos h1]at h
   have e:(i+n).toNat=j:=G9 h;exact⟨by rw[seqIndex_neg ⋯ h1,e],by lia,h1,by lia⟩
  ·rw[if_neg h1]at h;cases h
theorem mR{α:Type}{xs:List α}{i:Int}{v:α}(h:atI xs i=some v):∃j,seqIndex? i xs.length=some j/\xs[j]? = some v/\j<xs.length/\-(xs.length:Int)<=i/\i<xs.length:=by
 unfold atI at h;cases e:ixN xs.length i with
 | none=>rw[e]at h;cases h
 | some j=>
  rw[e]at h;obtain⟨h1,h2,h3,h4⟩:=mQ e;exact⟨j,h1,h,h2,h3,h4⟩
theorem ba{α:Type}{xs:List α}{v:α}(h:xs[j]? = some v):atI xs (j:Int)=some v:=by
 have hj:j<xs.length:=(GM.mp h).1;have e:ixN xs.length (j:Int)=some j:=by
  unfold ixN;rw[if_pos ⋯,if_pos ⋯];simp
 unfold atI;rw[e];exact h
theorem nV{α:Type}(xs:List α)(v:α):atI (xs++[v]) (-1)=some v:=by
 have hl:(xs++[v]).length=xs.length+1:=by simp
 have e:ixN (xs++[v]).length (-1)=some xs.length:=by
  unfold ixN;rw[hl,if_neg (by decide),if_pos ⋯];congr 1;lia
 unfold atI;rw[e];show(xs++[v])[xs.length]? = some v
 simp
def qG(b:Expr):Prop:=∀o i,subscripted b false o i=operate [o,i] (getItem o i)
def IxR(X:Cx)(r:R2):Prop:=
 ∀(value slice:Expr) (pins:List (Addr×Obj)) (s:Shared) (σ:St) (H:Hp) (x y:V) (v u:Value) (Q:VK),Inv X pins σ H s->RelV x v->RelV y u->r x y H Q->
  subscripted slice false v u=operate [v,u] (getItem v u)->wpAny (model X.prog X.w) X.A (subscriptTail value slice v u) (EP X pins σ Q) X.xe s
def MtR(X:Cx)(id:String)(r:V->List V->Hp->VK->Prop):Prop:=
 ∀(pins:List (Addr×Obj)) (s:Shared) (σ:St) (H:Hp) (x:V) (xs:List V) (v:Value) (us:List Value) (Q:VK),Inv X pins σ H s->RelV x v->Vals xs us->r x xs H Q->
  wpAny (model X.prog X.w) X.A (call (.builtin id) (v::us)) (EP X pins σ Q) X.xe s
section
variable{X:Cx}{a b:Expr}{ta tb:TE}{pos:Pos}
theorem IxR.or{r r':R2}(h:IxR X r)(h':IxR X r'):IxR X (λx y H Q=>r x y H Q\/r' x y H Q):=by
 intro value slice pins s σ H x y v u Q I rx ry q hs;rcases q with q|q
 ·exact h value slice pins s σ H x y v u Q I rx ry q hs
 ·exact h' value slice pins s σ H x y v u Q I rx ry q hs
theorem DS{r:R2}(hr:IxR X r)(ha:PE X a ta)(hb:PE X b tb)(hs:qG b):PE X (.Subscript a b pos) (tOp r ta tb):=by
 intro pins s σ H Q I h;exact Subscript_ (Dy ha hb I h λv u s2 x y H2 I2 rx ry q=>hr a b pins s2 σ H2 x y v u Q I2 rx ry q (hs _ _))
def A2(K:GH):R2:=λx y H Q=>∃p xs i v,x=.ref p/\y=.int i/\SqL K H p xs/\atI xs i=some v/\Q v H
def A3(K:GH):R2:=λx y H Q=>∃p xs i v,x=.ref p/\y=.int i/\SqT K H p xs/\atI xs i=some v/\Q v H
def DT:R2:=λx y H Q=>∃z i c,x=.str z/\y=.int i/\z.length<=Rj/\atI z.cps.toList i=some c/\Q (.str ⟨#[c]⟩) H
theorem ix_list:IxR X (A2 X.K):=by
 intro value slice pins s σ H x y v u Q I rx ry h hs;obtain⟨p,xs,i,z,rfl,rfl,hq,he,q⟩:=h;cases rx;obtain⟨t,rfl⟩:=ry;obtain⟨its,r,pl,hz⟩:=I.list hq;obtain⟨j,h1,h2,h3,h4,h5⟩:=mR he;obtain⟨w,ew,rw'⟩:=r.get h2;have hl:=r.length;have hn:=fm;have fin:EP X pins σ Q w s:=⟨z,H,I,rw',q⟩;by_cases h0:0<=i
 ·have hj:i.toNat=j:=by
   rw[seqIndex_of h0 h5]at h1;exact G9 h1
  exact item_listR pl.isList h0 ⋯ (by rw[hj];simpa using ew) fin hs
 ·have hj:(i+(its.toArray.size:Int)).toNat=j:=by
   rw[seqIndex_neg ⋯ h4]at h1;rw[GQ,<-hl];exact G9 h1
  exact subscriptTail_builtinR (x:=w) pl.isList.typeIs slot_list_getitem.lookup
   (wpAny_getItem_list_neg (Q:=λr s'=>r=w/\EP X pins σ Q r s') pl.isList ⋯ (by rw[GQ]<;>lia) ⋯ (by rw[hj];simpa using ew) ⟨rfl,fin⟩) hs
theorem ix_tup:IxR X (A3 X.K):=by
 intro value slice pins s σ H x y v u Q I rx ry h hs;obtain⟨p,xs,i,z,rfl,rfl,hq,he,q⟩:=h;cases rx;obtain⟨t,rfl⟩:=ry;obtain⟨its,r,pl,hz⟩:=I.tuple hq;obtain⟨j,h1,h2,h3,h4,h5⟩:=mR he;obtain⟨w,ew,rw'⟩:=r.get h2;have hl:=r.length;have hn:=fm;have fin:EP X pins σ Q w s:=⟨z,H,I,rw',q⟩;exact subscriptTail_builtinR (x:=w) pl.typeIs slot_tuple_getitem.lookup
  (getItem_tuple (j:=j) (Q:=λr s'=>r=w/\EP X pins σ Q r s') pl ⋯ ⋯ (by rw[GQ,<-hl];exact h1) (by simpa using ew) ⟨rfl,fin⟩) hs
theorem wQ:IxR X DT:=by
 intro value slice pins s σ H x y v u Q I rx ry h hs;obtain⟨z,i,c,rfl,rfl,hz,he,q⟩:=h;obtain⟨t,rfl⟩:=rx;obtain⟨t',rfl⟩:=ry;obtain⟨j,h1,h2,h3,h4,h5⟩:=mR he;have hl:z.cps.toList.length=z.length:=by simp[LU]
 rw[hl]at h1 h4 h5;have hn:=fm;exact tail_any (typeIs_str s z t) slot_str_getitem.lookup (getItem_str (c:=c) (by
  have e1:decide (i < -(2 ^ 63:Int))=false:=decide_eq_false ⋯;have e2:decide (i>=2 ^ 63)=false:=decide_eq_false ⋯;rw[e1,e2,Bool.or_false]) (by rw[h1];simpa using h2) ⟨.str ⟨#[c]⟩,H,I.tok _,⟨_,rfl⟩,q⟩) hs
def rIx(K:GH):R2:=λx y H Q=>A2 K x y H Q\/A3 K x y H Q\/DT x y H Q
theorem Ba:IxR X (rIx X.K):=ix_list.or (ix_tup.or wQ)
theorem pz (its:List Value) (n j:Nat) (u:Value):Hn (·.setIfInBounds j u) { cls:=.type "list",data:=.seq its.toArray n }={ cls:=.type "list",data:=.seq (its.set j u).toArray n }:=by
 simp[Hn]
theorem Inv.lst{pins:List (Addr×Obj)}{σ:St}{H:Hp}{s:Shared}{p:Addr}{xs:List V}(I:Inv X pins σ H s)(h:H p=some (.lst xs)):
  ∃(its:List Value) (n:Nat),Vals xs its/\s.heap.get? p=some { cls:=.type "list",data:=.seq its.toArray n }/\xs.length<=Rj:=by
 obtain⟨z,its,n,r,e⟩:=I.hok p _ h;exact⟨its,n,r,e,z⟩
theorem Inv.lstUpd{H:Hp}{s:Shared}{its':List Value}{n':Nat}{f:Obj->Obj}(I:Inv X pins σ H s)(h:H p=some (.lst xs))
  (ho:s.heap.get? p=some { cls:=.type "list",data:=.seq its.toArray n }) (hf:f { cls:=.type "list",data:=.seq its.toArray n }={ cls:=.type "list",data:=.seq its'.toArray n' }) (r:Vals ys its') (hz:ys.length<=Rj) (t:Nat) :
  Inv X pins σ (upd H p (.lst ys)) { s with heap:=s.heap.update p f,toks:=t }:=by
 have e:(s.heap.update p f).get? p=some { cls:=.type "list",data:=.seq its'.toArray n' }:=by
  rw[MN f ho (by rw[hf]<;>rfl),hf]
 refine I.write (x:=p) (e:=p) (by rw[h];trivial) (.inl rfl) (λb u hb q=>(JL _ _ (Hl hb)).trans q) ⟨_,e⟩ ?_;exact⟨hz,its',n',r,e⟩
def pC:V->V->V->Hp->(Hp->Prop)->Prop:=λo i v H Q=>∃p xs k j,o=.ref p/\i=.int k/\H p=some (.lst xs)/\ixN xs.length k=some j/\Q (upd H p (.lst (xs.set j v)))
theorem kb:Dr X pC:=by
 intro pins s σ H o i v ov iv u Q I ro ri rv h;obtain⟨p,xs,k,j,rfl,rfl,hp,hj,q⟩:=h;cases ro;obtain⟨t,rfl⟩:=ri;obtain⟨its,n,r,ho,hz⟩:=I.lst hp;obtain⟨h1,h2,h3,h4⟩:=mQ hj;have hl:=r.length;have hn:=fm;have I':Inv X pins σ (upd H p (.lst (xs.set j v))) { s with heap:=s.heap.update p (Hn (·.setIfInBounds j u)) }:=
  I.lstUpd hp ho (pz its n j u) (r.set rv j) (by rw[Kn];exact hz) s.toks
 by_cases h0:0<=k
 ·have hk:k.toNat=j:=by
   rw[seqIndex_of h0 h4]at h1;exact G9 h1
  exact PySem.W.ki_setAt ho h0 ⋯ (by rw[GQ,<-hl];exact h4) (by rw[hk];exact⟨_,I',q⟩)
 ·have hk:(k+(its.toArray.size:Int)).toNat=j:=by
   rw[seqIndex_neg ⋯ h3]at h1;rw[GQ,<-hl];exact G9 h1
  exact PySem.W.ki_setBack ho ⋯ (by rw[GQ,<-hl];exact h3) ⋯ (by rw[hk];exact⟨_,I',q⟩)
theorem lh(lo hi:Option Int)(n:Nat):(RL lo hi none n).1=((HT.sIx n 0 lo:Nat):Int)/\(RL lo hi none n).2.1=((HT.sIx n n hi:Nat):Int)/\(RL lo hi none n).2.2=1:=by
 refine⟨?_,?_,rfl⟩
 ·cases lo with
  | none=>simp[RL,HT.sIx]
  | some i=>
   simp only[RL,HT.sIx,L8,show(1:Int) > 0 by decide,if_true];by_cases h:i<0
   ·simp only[h,if_true]<;>lia
   ·simp only[h,if_false]<;>lia
 ·cases hi with
  | none=>simp[RL,HT.sIx]
  | some i=>
   simp only[RL,HT.sIx,L8,show(1:Int) > 0 by decide,if_true];by_cases h:i<0
   ·simp only[h,if_true]<;>lia
   ·simp only[h,if_false]<;>lia
theorem kc(its:List Value)(lo hi:Option Int):slicePick its.toArray lo hi none=((its.drop (HT.sIx its.length 0 lo)).take (HT.sIx its.length its.length hi - HT.sIx its.length 0 lo)).toArray:=by
 obtain⟨h1,h2,h3⟩:=lh lo hi its.toArray.size;unfold slicePick;rw[h1,h2,h3];simp only[sliceRange_one,pick_run,GQ]<;>rfl
def CQ(K:GH):V->Option Int->Option Int->Hp->VK->Prop:=λx lo hi H Q=>∃a xs,x=.ref a/\SqL K H a xs/\∀p,H p=none->Q (.ref p) (upd H p (.lst (jz xs lo hi)))
theorem yk:SlR X (CQ X.K):=by
 intro pins s σ H x v vl vu lo hi sl Q I rx hs pl pu h;obtain⟨a,xs,rfl,hx,q⟩:=h;cases rx;obtain⟨its,r,ht,hz⟩:=I.list hx;have hlen:=r.length;refine⟨"list",_,slot_list_getitem.lookup,ht.isList.typeIs,?_⟩;refine wpAny_getItem_list_slice ht.isList hs pl pu .none (by simp) ?_ (by rw[GQ]<;>lia);rw[kc,<-hlen];refine⟨.ref s.heap.objs.size,_,I.laid (t':=s.toks) (o:=.lst (jz xs lo hi)) (λb ob q=>GI _ q) (GJ _) ?_,rfl,q _ (I.hok.fresh (GJ _))⟩;exact⟨HU (iN xs lo hi) hz,_,0,(r.drop (HT.sIx xs.length 0 lo)).take (HT.sIx xs.length xs.length hi - HT.sIx xs.length 0 lo),G1 _ rfl⟩
theorem lj:cQ X (.builtin "len") (λxs H Q=>∃p ys,xs=[.ref p]/\(SqL X.K H p ys\/SqT X.K H p ys)/\Q (.int ys.length) H):=by
 intro pins s σ H xs us Q I r h;obtain⟨p,ys,rfl,hq,q⟩:=h;obtain⟨u,rfl,rx⟩:=fg r;cases rx;have hn:=fm;rcases hq with hq|hq
 ·obtain⟨its,r',pl,hz⟩:=I.list hq
  have hlen:=r'.length;exact Calls.call_len_list pl.isList (by simp only[GQ]<;>lia) ⟨.int ys.length,H,I.tok _,⟨s.toks+1,by rw[GQ,hlen]⟩,q⟩
 ·obtain⟨its,r',pl,hz⟩:=I.tuple hq
  have hlen:=r'.length;exact len_tuple pl (by simp only[GQ]<;>lia) ⟨.int ys.length,H,I.tok _,⟨s.toks+1,by rw[GQ,hlen]⟩,q⟩
theorem lp:cQ X (.builtin "len") (λxs H Q=>∃z,xs=[.str z]/\z.length<=Rj/\Q (.int z.length) H):=by
 intro pins s σ H xs us Q I r h;obtain⟨z,rfl,hz,q⟩:=h;obtain⟨u,rfl,t,rfl⟩:=fg r;have hn:=fm;exact len_str ⋯ ⟨.int z.length,H,I.tok _,⟨_,rfl⟩,q⟩
theorem lq:cQ X (.type "list") (λxs H Q=>∃p ys,xs=[.ref p]/\(SqL X.K H p ys\/SqT X.K H p ys)/\∀l,H l=none->Q (.ref l) (upd H l (.lst ys))):=by
 intro pins s σ H xs us Q I r h;obtain⟨p,ys,rfl,hq,q⟩:=h;obtain⟨u,rfl,rx⟩:=fg r;cases rx;have fin:∀(its:List Value),Vals ys its->ys.length<=Rj->∀(h':Heap) (c':Nat),(∀b o',s.heap.get? b=some o'->h'.get? b=some o')->
   h'.get? s.heap.objs.size=some { cls:=.type "list",dict:=none,data:=.seq its.toArray c',slots:=#[] }->EP X pins σ Q (.ref s.heap.objs.size) { s with heap:=h' }:=λits r' hz h' c' kp e=>
  ⟨.ref s.heap.objs.size,_,I.laid (t':=s.toks) kp (GJ _) (show ObjOk X.prog X.w _ h' _ (.lst ys)from⟨hz,its,c',r',e⟩),rfl,q _ (I.hok.fresh (GJ _))⟩
 rcases hq with hq|hq
 ·obtain⟨its,r',pl,hz⟩:=I.list hq
  have hlen:=r'.length;obtain⟨o,ho,hc,n,hd⟩:=pl.isList;exact call_list_seq p (.inl rfl) ho hc hd (λh' c' kp e=>fin its r' hz h' c' kp e) (by simp only[GQ]<;>lia)
 ·obtain⟨its,r',pl,hz⟩:=I.tuple hq
  have hlen:=r'.length;obtain⟨o,ho,hc,n,hd⟩:=pl;exact call_list_seq p (.inr rfl) ho hc hd (λh' c' kp e=>fin its r' hz h' c' kp e) (by simp only[GQ]<;>lia)
theorem ke:cQ X (.type "tuple") (λxs H Q=>∃p ys,xs=[.ref p]/\((SqL X.K H p ys/\∀l,H l=none->Q (.ref l) (upd H l (.tup ys)))\/(SqT X.K H p ys/\Q (.ref p) H))):=by
 intro pins s σ H xs us Q I r h;obtain⟨p,ys,rfl,h⟩:=h;obtain⟨u,rfl,rx⟩:=fg r;cases rx;rcases h with⟨hq,q⟩|⟨hq,q⟩
 ·obtain⟨its,r',pl,hz⟩:=I.list hq
  have hlen:=r'.length;refine call_tuple_list pl.isList (λh' kp=>?_) (by simp only[GQ]<;>lia);have I1:Inv X pins σ H { s with heap:=h' }:=I.kept (t':=s.toks) kp;have I2:Inv X pins σ (upd H h'.objs.size (.tup ys)) { s with heap:=h'.push { cls:=.type "tuple",data:=.seq its.toArray } }:=
   I1.laid (t':=s.toks) (λb o e=>GI _ e) (GJ _) (show ObjOk X.prog X.w _ _ _ (.tup ys)from⟨hz,its,r',O4 _ _⟩)
  exact⟨.ref h'.objs.size,_,I2,rfl,q _ (I1.hok.fresh (GJ _))⟩
 ·obtain⟨its,r',pl,hz⟩:=I.tuple hq
  exact call_tuple_same pl ⟨.ref p,H,I,rfl,q⟩
def tyV(K:GH)(T:String)(x:V)(H:Hp):Prop:=match x with
 | .str _=>T = "str"
 | .int _=>T = "int"
 | .ref p=>(T = "list"/\∃xs,SqL K H p xs)\/(T = "tuple"/\∃o,K.lookup p=some o/\o.cls=.type "tuple"/\o.dict=none)\/
   (T = "dict"/\((∃kvs,H p=some (.dK kvs))\/∃kvs,H p=some (.dT kvs)))\/(T = "set"/\∃S n,H p=some (.set S n))
 | _=>False
theorem wR{H:Hp}{s:Shared}{T:String}{x:V}{v:Value}(I:Inv X pins σ H s)(r:RelV x v)(ty:tyV X.K T x H):
  s.TypeIs v T/\∀a,v=.ref a->∃ob,s.heap.get? a=some ob/\ob.dict=none:=by
 cases x with
 | str z=>
  obtain⟨t,rfl⟩:=r;cases(show T = "str" from ty);exact⟨typeIs_str s z t,λ_ e=>nomatch e⟩
 | int i=>
  obtain⟨t,rfl⟩:=r;cases(show T = "int" from ty);exact⟨typeIs_int s i t,λ_ e=>nomatch e⟩
 | ref p=>
  cases r;rcases ty with⟨rfl,xs,hq⟩|⟨rfl,o,hk,hc,hd⟩|⟨rfl,hk⟩|⟨rfl,S,n,hk⟩
  ·obtain⟨its,_,pl,_⟩:=I.list hq
   refine⟨pl.isList.typeIs,λa e=>?_⟩;cases e;obtain⟨o,n,e,c,hd,_⟩:=pl;exact⟨o,e,hd⟩
  ·refine⟨⟨o,I.kIn p o hk,hc⟩,λa e=>?_⟩
   cases e;exact⟨o,I.kIn _ o hk,hd⟩
  ·have z:∃o,s.heap.get? p=some o/\o.ExactDict:=by
    rcases hk with⟨kvs,hk⟩|⟨kvs,hk⟩
    ·obtain⟨_,_,_,_,o,_,_,e,ex,_⟩:=I.hok p _ hk
     exact⟨o,e,ex⟩
    ·obtain⟨_,_,_,_,o,_,_,e,ex,_⟩:=I.hok p _ hk
     exact⟨o,e,ex⟩
   obtain⟨o,e,ex⟩:=z;refine⟨⟨o,e,ex.1⟩,λa e2=>?_⟩;cases e2;exact⟨o,e,ex.2.1⟩
  ·obtain⟨o,_,_,_,e,ex,_⟩:=I.hok p _ hk
   refine⟨⟨o,e,ex.1⟩,λa e2=>?_⟩;cases e2;exact⟨o,e,ex.2.1⟩
 | _=>exact IG ty
def DU(K:GH)(T:String)(r:V->List V->Hp->VK->Prop)(to:TE):TE:=λσ H Q=>to σ H λx H1=>tyV K T x H1/\r x [] H1 Q
def tBM(K:GH)(T:String)(r:V->List V->Hp->VK->Prop)(to:TE)(t:TA):TE:=λσ H Q=>to σ H λx H1=>tyV K T x H1/\t σ H1 λxs H2=>r x xs H2 Q
variable{o e:Expr}{es:List Expr}{to:TE}{t:TA}{name:Str}{apos cpos:Pos}{T id:String}{r:V->List V->Hp->VK->Prop}
theorem Bb (pa:PlainAttrs T) (slot:Slot T name id) (hty:typeOf (.builtin id)=pure (.type "method_descriptor")) (hm:MtR X id r) (ho:PE X o to)
  (hbase:Rw o name X.env (eval o X.env)=eval o X.env:=by rfl) (hline:(apos.endLine == cpos.line)=true:=by rfl):PE X (.Call (.Attribute o name apos) [] [] cpos) (DU X.K T r to):=by
 intro pins s σ H Q I h;refine wpAny_Call_method0_late hbase hline (thn (ho pins s σ H _ I h) λv s1 ⟨x,H1,I1,r1,ty,q1⟩=>?_);obtain⟨h1,h2⟩:=wR I1 r1 ty;exact⟨T,id,pa,slot,hty,h1,h2,My rfl (PySem.evalArgs_none (hm pins s1 σ H1 x [] v [] Q I1 r1 .nil q1))⟩
theorem Bc (pa:PlainAttrs T) (slot:Slot T name id) (hty:typeOf (.builtin id)=pure (.type "method_descriptor")) (hm:MtR X id r) (ho:PE X o to) (ha:PA X (e::es) t)
  (hbase:Rw o name X.env (eval o X.env)=eval o X.env:=by rfl)
  (hfew:((RU cpos (Rl (e::es) X.env)).all (λx=>!x.1) && (backToKw cpos (R4 [] X.env)).all (λx=>x.1.isSome)
   && decide ((e::es).length+([]:List Keyword).length+(if([]:List Keyword).isEmpty then 0 else 1)<30))=true:=by rfl)
  (hline:(apos.endLine == cpos.line)=true:=by rfl) (hs:Rl (e::es) X.env=(false,eval e X.env)::Rl es X.env:=by rfl) (hplain:(RU cpos (Rl es X.env)).any (·.1)=false:=by rfl) :
  PE X (.Call (.Attribute o name apos) (e::es) [] cpos) (tBM X.K T r to t):=by
 intro pins s σ H Q I h;refine wpAny_Call_method_late hbase hfew hline rfl (thn (ho pins s σ H _ I h) λv s1 ⟨x,H1,I1,r1,ty,q1⟩=>?_);obtain⟨h1,h2⟩:=wR I1 r1 ty;refine⟨T,id,pa,slot,hty,h1,h2,?_⟩;have hA:=ha cpos pins s1 σ H1 _ I1 q1;rw[hs]at hA ⊢;refine My (by show(false || (RU cpos (Rl es X.env)).any (·.1))=false;rw[hplain]<;>rfl) (Calls.evalArgs_plain ?_);exact thn hA λus s2 ⟨vs,H2,I2,r2,q2⟩=>hm pins s2 σ H2 x vs v us Q I2 r1 r2 q2
end
def MtM(X:Cx)(id:String)(r:V->List V->Hp->VK->Prop):Prop:=
 ∀(pins:List (Addr×Obj)) (s:Shared) (σ:St) (H:Hp) (x:V) (xs:List V) (v:Value) (us:List Value) (Q:VK),Inv X pins σ H s->RelV x v->Vals xs us->r x xs H Q->
  wpAny (model X.prog X.w) X.A (call (.builtin id) (v::us)) (EP X pins σ Q) X.xe s
theorem Vals.one:∀{x:V}{us:List Value},Vals [x] us->∃u,us=[u]/\RelV x u
 | _,_,.cons r .nil=>⟨_,rfl,r⟩
theorem Vals.zero:∀{us:List Value},Vals [] us->us=[]
 | _,.nil=>rfl
theorem Vals.dropLast{xs:List V}{us:List Value}(h:Vals xs us):Vals xs.dropLast us.dropLast:=by
 induction h with
 | nil=>exact .nil
 | cons r t ih=>
  cases t with
  | nil=>exact .nil
  | cons q t'=>exact .cons r ih
theorem Vals.eraseIdx:∀{xs:List V}{us:List Value}(i:Nat),Vals xs us->Vals (xs.eraseIdx i) (us.eraseIdx i)
 | _,_,_,.nil=>.nil
 | _,_,0,.cons _ t=>t
 | _,_,i+1,.cons r t=>.cons r (Vals.eraseIdx i t)
theorem Vals.reverse{xs:List V}{us:List Value}(h:Vals xs us):Vals xs.reverse us.reverse:=by
 induction h with
 | nil=>exact .nil
 | cons r t ih=>rw[NX,NX];exact Vals.append ih (.cons r .nil)
theorem Vals.rep{xs:List V}{us:List Value}(h:Vals xs us):∀k:Nat,Vals (GS k xs).flatten (GS k us).flatten
 | 0=>.nil
 | k+1=>by
  rw[Ia,Ia,Jg,Jg];exact Vals.append h (Vals.rep h k)
theorem pD{α:Type}(l:List α):l.eraseIdx (l.length - 1)=l.dropLast:=by
 induction l with
 | nil=>rfl
 | cons a r ih=>
  cases r with
  | nil=>rfl
  | cons b r=>
   have e:(a::b::r).length - 1=((b::r).length - 1)+1:=by
    have h1:(a::b::r).length=r.length+2:=rfl;have h2:(b::r).length=r.length+1:=rfl;lia
   rw[e,List.eraseIdx_cons_succ,ih]
   all_goals rfl
theorem lu{α:Type}:∀(l:List α) (i:Nat),(l.eraseIdx i).length<=l.length
 | [],_=>GJ _
 | _::_,0=>Mw _
 | _::r,i+1=>J8 (lu r i)
theorem lx(its:List Value):∀(k:Nat) (acc:List Value),
  OF (λx1 x2=>x1++x2) acc.toArray (GS k its.toArray)=(acc++(GS k its).flatten).toArray
 | 0,acc=>by simp
 | k+1,acc=>by
  have e:acc.toArray++its.toArray=(acc++its).toArray:=by simp
  have e2:(acc++its)++(GS k its).flatten=acc++(GS (k+1) its).flatten:=by
   rw[Ia,Jg,HV]
  rw[<-e2,<-lx its k (acc++its),<-e,Ia,List.foldl_cons]
section
variable{X:Cx}{pins:List (Addr×Obj)}{σ:St}{H:Hp}{s:Shared}{l b:Addr}{xs ys zs:List V}
theorem Inv.lset{its':List Value}{f:Array Value->Array Value}(I:Inv X pins σ H s)(hH:H l=some (.lst xs))
  (e:s.heap.get? l=some { cls:=.type "list",data:=.seq its.toArray n }) (hf:f its.toArray=its'.toArray) (hv:Vals ys its') (hz:ys.length<=Rj) :
  Inv X pins σ (upd H l (.lst ys)) { s with heap:=s.heap.update l (Hn f),toks:=t' }:=by
 have q:=QY e f;rw[hf]at q;refine I.write (x:=l) (e:=l) (by rw[hH];exact trivial) (.inl rfl) (λb' u hb hu=>(JL s.heap (Hn f) (Hl hb)).trans hu) ⟨_,q⟩ ?_;exact⟨hz,its',_,hv,q⟩
theorem Inv.lnew(I:Inv X pins σ H s)(hv:Vals ys its)(hz:ys.length<=Rj):
  Inv X pins σ (upd H s.heap.objs.size (.lst ys)) { s with heap:=s.heap.push { cls:=.type "list",data:=.seq its.toArray },toks:=t' }:=
 I.laid (λ_ _ q=>GI _ q) (GJ _) ⟨hz,its,0,hv,G1 _ rfl⟩
theorem Inv.fresh(I:Inv X pins σ H s):H s.heap.objs.size=none:=I.hok.fresh (GJ _)
theorem Inv.lstM (I:Inv X pins σ H s) (hH:H l=some (.lst xs)):xs.length<=Rj/\∃(its:List Value) (n:Nat),Vals xs its/\xs.length=its.length/\s.heap.get? l=some { cls:=.type "list",data:=.seq its.toArray n }:=by
 obtain⟨z,its,n,r,e⟩:=I.hok l _ hH;exact⟨z,its,n,r,r.length,e⟩
theorem fS(h:n<=Rj):IK n=false:=by
 unfold IK;exact decide_eq_false ⋯
end
section
variable{X:Cx}
def mS:V->List V->Hp->VK->Prop:=λx vs H Q=>∃l xs y,x=.ref l/\vs=[y]/\H l=some (.lst xs)/\xs.length<Rj/\Q .non (upd H l (.lst (xs++[y])))
theorem qH:MtM X "list.append" mS:=by
 intro pins s σ H x vs v us Q I rx rv h;obtain⟨l,xs,y,rfl,rfl,hH,hz,q⟩:=h;cases rx;obtain⟨u,rfl,ru⟩:=rv.one;obtain⟨z,its,n,r,hl,e⟩:=I.lstM hH;refine RQ F.slot_list_append ⟨_,e,rfl⟩ F.entry_list_append (F.args_list_append_2 _ _) (PySem.list_append l its.toArray n u (by rw[GQ];lia)) ⟨e,?_⟩;refine⟨.non,_,I.lset (its':=its++[u]) hH e (by simp) (r.append (.cons ru .nil)) ?_,rfl,q⟩;rw[GY,Ie];lia
def mT:V->List V->Hp->VK->Prop:=λx vs H Q=>∃l b xs zs,x=.ref l/\vs=[.ref b]/\H l=some (.lst xs)/\H b=some (.lst zs)/\xs.length+zs.length<=Rj/\Q .non (upd H l (.lst (xs++zs)))
theorem qI:MtM X "list.extend" mT:=by
 intro pins s σ H x vs v us Q I rx rv h;obtain⟨l,b,xs,zs,rfl,rfl,hH,hB,hz,q⟩:=h;cases rx;obtain⟨u,rfl,ru⟩:=rv.one;cases ru;obtain⟨z,its,n,r,hl,e⟩:=I.lstM hH;obtain⟨z2,its2,n2,r2,hl2,e2⟩:=I.lstM hB;have hsz:its.toArray.size+its2.toArray.size<=Rj:=by rw[GQ,GQ];lia
 have hlong:¬(!its.toArray.isEmpty && IK (its.toArray.size+its2.toArray.size))=true:=by
  rw[fS hsz,OX];exact Ha
 refine RQ Nr ⟨_,e,rfl⟩ Ng (M3 _ _)
  (Oi l its.toArray n b its2.toArray n2 hlong (by rw[GQ];lia) ⋯) ⟨e,e2,?_⟩
 refine⟨.non,_,I.lset (its':=its++its2) hH e (by simp) (r.append r2) ?_,rfl,q⟩;rw[GY];lia
def DV:V->List V->Hp->VK->Prop:=λx vs H Q=>∃l xs y,x=.ref l/\vs=[]/\H l=some (.lst xs)/\xs[xs.length - 1]? = some y/\Q y (upd H l (.lst xs.dropLast))
theorem Bd:MtM X "list.pop" DV:=by
 intro pins s σ H x vs v us Q I rx rv h;obtain⟨l,xs,y,rfl,rfl,hH,hy,q⟩:=h;cases rx;have hus:=rv.zero;subst hus;obtain⟨z,its,n,r,hl,e⟩:=I.lstM hH;obtain⟨u,hu,ru⟩:=r.get hy;have hy':its.toArray[its.toArray.size - 1]? = some u:=by
  show its.toArray[its.length - 1]? = some u
  rw[<-JT,<-hl];exact hu
 refine RQ OG ⟨_,e,rfl⟩ Oj (F.args_list_pop_1 _) (Qf l its.toArray n u hy' (by rw[GQ];lia)) ⟨e,?_⟩;refine⟨y,_,I.lset (its':=its.dropLast) hH e ?_ r.dropLast ?_,ru,q⟩
 ·show its.toArray.eraseIdxIfInBounds (its.toArray.size - 1)=its.dropLast.toArray
  rw[GQ,KZ,pD]
 ·rw[List.length_dropLast]
  lia
def qJ:V->List V->Hp->VK->Prop:=λx vs H Q=>∃l xs i k y,x=.ref l/\vs=[.int i]/\H l=some (.lst xs)/\-(2 ^ 63)<=i/\i<2 ^ 63/\seqIndex? i xs.length=some k/\xs[k]? = some y/\Q y (upd H l (.lst (xs.eraseIdx k)))
theorem uO:MtM X "list.pop" qJ:=by
 intro pins s σ H x vs v us Q I rx rv h;obtain⟨l,xs,i,k,y,rfl,rfl,hH,h1,h2,hk,hy,q⟩:=h;cases rx;obtain⟨u,rfl,ru⟩:=rv.one;obtain⟨t,rfl⟩:=ru;obtain⟨z,its,n,r,hl,e⟩:=I.lstM hH;obtain⟨w,hw,rw'⟩:=r.get hy;refine RQ OG ⟨_,e,rfl⟩ Oj (F.args_list_pop_2 _ _)
  (Qr l its.toArray n i t k w (fitsIndex_both h1 h2) (by rw[GQ,<-hl];exact hk) (by rw[<-JT];exact hw) (by rw[GQ];lia)) ⟨e,?_⟩
 refine⟨y,_,I.lset (its':=its.eraseIdx k) hH e ?_ (r.eraseIdx k) ?_,rw',q⟩
 ·show its.toArray.eraseIdxIfInBounds k=(its.eraseIdx k).toArray
  rw[KZ]
 ·have:=lu xs k
  lia
def Fd:R2:=λx y H Q=>∃l b xs zs,x=.ref l/\y=.ref b/\H l=some (.lst xs)/\H b=some (.lst zs)/\xs.length+zs.length<=Rj/\∀p,H p=none->Q (.ref p) (upd H p (.lst (xs++zs)))
theorem Be:OpR X (RF .Add) Fd:=by
 intro pins s σ H x y v u Q I rx ry h;obtain⟨l,b,xs,zs,rfl,rfl,hH,hB,hz,q⟩:=h;cases rx;cases ry;obtain⟨z,its,n,r,hl,e⟩:=I.lstM hH;obtain⟨z2,its2,n2,r2,hl2,e2⟩:=I.lstM hB;refine PySem.P.add_list e e2 ?_ (by rw[GQ,GQ];lia);have ea:its.toArray++its2.toArray=(its++its2).toArray:=by simp
 rw[ea];exact⟨.ref _,_,I.lnew (t':=s.toks) (r.append r2) (by rw[GY];lia),rfl,q _ I.fresh⟩
def Fe:R2:=λx y H Q=>∃l k xs,x=.ref l/\y=.int k/\H l=some (.lst xs)/\-(2 ^ 63)<=k/\k<2 ^ 63/\xs.length*k.toNat<=Rj/\
 ∀p,H p=none->Q (.ref p) (upd H p (.lst (GS k.toNat xs).flatten))
theorem yl{α:Type}(xs:List α)(k:Nat):(GS k xs).flatten.length=k*xs.length:=by
 induction k with
 | zero=>simp
 | succ k ih=>rw[Ia,Jg,GY,ih,PV,K4]
theorem Bf:OpR X (RF .Mult) Fe:=by
 intro pins s σ H x y v u Q I rx ry h;obtain⟨l,k,xs,rfl,rfl,hH,h1,h2,hz,q⟩:=h;cases rx;obtain⟨t,rfl⟩:=ry;obtain⟨z,its,n,r,hl,e⟩:=I.lstM hH;have hlen:its.toArray.size*k.toNat<=Rj:=by rw[GQ,<-hl];exact hz
 have hcap:¬its.toArray.size*k.toNat > (2 ^ 63 - 1) / 8:=by
  have:(Rj:Nat)<=(2 ^ 63 - 1) / 8:=by decide
  lia
 have hfit:¬(!Builtin.List.listFitsIndex k)=true:=by
  rw[fitsIndex_both h1 h2];exact Ha
 have hlong:¬IK (its.toArray.size*k.toNat)=true:=by
  rw[fS hlen];exact Ha
 have hnew:OF (λx1 x2=>x1++x2) #[] (GS (if its.toArray.isEmpty=true then 0 else k.toNat) its.toArray)=(GS k.toNat its).flatten.toArray:=by
  have f0:∀m:Nat,OF (λx1 x2=>x1++x2) #[] (GS m its.toArray)=(GS m its).flatten.toArray:=λm=>by
   have:=lx its m [];rw[La]at this;exact this
  rw[f0];cases its with
  | nil=>simp
  | cons a r'=>rw[if_neg (by simp)]
 refine wpAny_binaryOp_repeat_ref (T:="list") (U:="int") (by decide) ⟨_,e,rfl⟩ (λs'=>typeIs_int s' k t) noFill_list_mul F.fills_int_mul OH repeat_list F.slot_int_index.lookup
  (RQ OH (typeIs_int s k t) F.entry_int_rmul (F.args_int_rmul_2 _ _) (int___rmul___int_list k t l its.toArray n)
   ⟨e,rfl,⟨_,e,rfl⟩,RQ F.slot_list_mul ⟨_,e,rfl⟩ F.entry_list_mul (F.args_list_mul_2 _ _) (Ob l its.toArray n k t hfit hcap hlong) ⟨e,?_⟩⟩)
 rw[hnew];exact⟨.ref _,_,I.lnew (t':=s.toks) (r.rep k.toNat) (by rw[yl,PX];exact hz),rfl,q _ I.fresh⟩
end
section
variable{prog:Program}{w:World}{A:Around}{E:Value->Shared->Prop}{s:Shared}
theorem qK(its its2:List Value)(a c:Nat):its.toArray.extract 0 a++its2.toArray++its.toArray.extract c its.toArray.size=(its.take a++its2++its.drop c).toArray:=by
  apply Array.toList_inj.mp
  first
    | (simp
       exact GN (by simp))
    | simp[GN]
    | simp
theorem pE{a:Nat}(hac:a<=c)(hc:c<=n):RL (some (a:Int)) (some (c:Int)) none n=((a:Int),(c:Int),1):=by
 simp only[RL,L8];have h1:¬((a:Int)<0):=by lia
 have h2:¬((c:Int)<0):=by lia
 simp only[h1,h2,if_false,show(1:Int) > 0 by decide,if_true];congr 1
 ·lia
 ·congr 1;lia
set_option maxRecDepth 100000 in
theorem kf{b:Addr}{new:Array Value}{n2:Nat}{a:Nat}{Q:Unit->Shared->Prop}
    (e:s.heap.get? l=some { cls:=.type "list",data:=.seq items n }) (e2:s.heap.get? b=some { cls:=.type "list",data:=.seq new n2 }) (hne:l≠b)
    (hs:s.heap.IsSliceOf sl vl vu .none) (pl:IsPart vl (some (a:Int))) (pu:IsPart vu (some (c:Int))) (hac:a<=c) (hc:c<=items.size)
    (hsz:items.size+new.size<=Rj) (h:Q () { s with heap:=s.heap.update l (Hn λxs=>xs.extract 0 a++new++xs.extract c xs.size) }) :
    wpAny (model prog w) A (setItem (.ref l) (.ref sl) (.ref b)) Q E s:=by
  have hl:s.heap.IsList l items:=Ol e;have hb:s.heap.IsList b new:=Ol e2;obtain⟨os,hos,hcs,hds⟩:=id hs;have hTs:s.TypeIs (.ref sl) "slice":=⟨os,hos,hcs⟩;have hstep:¬((rawPart none == RJ 0)=true):=Ha;have hsame:L9 (.ref l) (.ref b)=false:=by
    unfold L9;exact beq_eq_false_iff_ne.mpr hne
  have hmax:(max (a:Int) (c:Int)).toNat=c:=by lia
  have hz':((λxs:Array Value=>xs.extract 0 a++new++xs.extract c xs.size) items).size<=Rj+1:=by
    simp only[NY,Array.size_extract];lia
  unfold setItem
  try with_reducible refine Rq ?_
  first|refine Rh (Ri ?_)|skip
  refine Rh (wpAny_sequenceKey hl.typeIs (by decide) ?_);refine Rh (Rx (name:=He "__setitem__") hl.typeIs slot_list_setitem
    (RE slot_list_setitem hl.typeIs entry_list_setitem ?_ (args_list_setitem _ _ _)))
  show wpAny _ _ (Lw (.ref sl) >>= _) _ _ s
  refine Rh ?_;unfold Lw;refine Rh (wpAny_specialOf hTs slice_no_index ?_);simp only[Option.isNone_none,if_true];refine Ri ?_;show wpAny _ _ (typeOf (.ref sl) >>= _) _ _ s
  refine Rh (wpAny_typeOf hTs ?_)
  first
    | rw[if_neg (by decide)]
    | refine Lx (by decide) ?_
  rw[listSliceParts_eq];refine Rh (Rh (Ru hos hds (x:=.none) rfl (Rh (wpAny_listPart .none ?_))));rw[if_neg hstep];refine Rh (Ru hos hds (x:=vl) rfl (Rh (wpAny_listPart pl ?_)));refine Rh (Ru hos hds (x:=vu) rfl (Rh (wpAny_listPart pu (Ri ?_))))
  first
    | simp only[hsame,HY,if_false]
    | refine Lx hsame ?_
    | (dsimp only
       rw[if_neg (by rw[hsame];exact Ha)])
  refine Rh (m:=LV (.ref b) "must assign iterable to extended slice") ?_;unfold LV;refine Rh (wpAny_typeOf hb.typeIs ?_)
  first
    | refine QQ (by decide) ?_
    | rw[if_pos (by decide)]
    | simp only[beq_self_eq_true,Nt,if_true]
  unfold Qg;refine Rh (Rz e2 rfl (Ri ?_));refine Rh (Rh (Rz e rfl (Ri ?_)));refine Rh (wpAny_of_eq ((sliceIndices_raw (some (a:Int)) (some (c:Int)) none items.size (by simp)).trans (congrArg (pure:Int×Int×Int->Sem (Int×Int×Int)) (pE hac hc))) ?_);show wpAny _ _ (if((1:Int) == 1)=true then _ else _) _ _ s
  rw[if_pos (by decide)];refine Rh (RZ ?_)
  first
    | simp only[fS hsz,HY,if_false]
    | refine Lx (fS hsz) ?_
  first|refine Rh (Ri ?_)|skip
  show wpAny _ _ (updateSeq l (λxs=>xs.extract 0 ((a:Int)).toNat++new++xs.extract (max (a:Int) (c:Int)).toNat xs.size) >>= _) _ _ s
  rw[hmax,Ih];refine Rh (wpAny_updateSeq (hz:=HU (Ii _ _) hsz) (_hz':=hz') e rfl ?_);refine Rh (RR ?_)
  first
    | exact Rh (Ri (Ri ⟨.none,rfl,Ri h⟩))
    | exact Ri ⟨.none,rfl,Ri h⟩
end
section
variable{X:Cx}
theorem qL{s:Shared}{H:Hp}{b:Addr}{a c:Int}{Q:Unit->Shared->Prop}(I:Inv X pins σ H s)
  (hH:H l=some (.lst xs)) (hB:H b=some (.lst ys)) (hne:l≠b) (hs:s.heap.IsSliceOf sl vl vu .none) (ra:RelV (.int a) vl) (rc:RelV (.int c) vu) (h0:0<=a) (hac:a<=c) (hc:c<=xs.length)
  (hz:xs.length+ys.length<=Rj) (h:∀s',Inv X pins σ (upd H l (.lst (xs.take a.toNat++ys++xs.drop c.toNat))) s'->Q () s') :
  wpAny (model X.prog X.w) X.A (setItem (.ref l) (.ref sl) (.ref b)) Q X.xe s:=by
 obtain⟨ta,rfl⟩:=ra;obtain⟨tc,rfl⟩:=rc;obtain⟨z,its,n,r,hl,e⟩:=I.lstM hH;obtain⟨z2,its2,n2,r2,hl2,e2⟩:=I.lstM hB;obtain⟨a',rfl⟩:=Mh h0;obtain⟨c',rfl⟩:=Mh (Nu h0 hac);simp only[Ih]at h;refine kf (a:=a') (c:=c') e e2 hne hs (.int _ _) (.int _ _) ⋯ (by rw[GQ];lia) (by rw[GQ,GQ];lia) (h _ ?_);refine I.lset (its':=its.take a'++its2++its.drop c') (t':=s.toks) hH e ?_ (Vals.append (Vals.append (r.take _) r2) (r.drop _)) ?_
 ·exact qK its its2 a' c'
 ·rw[GY,GY,G5,Hm]
  lia
end
end L2
namespace Att
open PySem PySem.W PySem.Calls PyProof.Rows
theorem iO{P:Params}:∀(ns:List Int) (vs:List Value),WellAll P h vs (ns.map WData.int)->Rp vs ns:=by
 intro ns
 induction ns with
 | nil=>
  intro vs w;rw[L7]at w;cases w;exact .nil
 | cons n ns ih=>
  intro vs w;rw[Ig]at w;cases w with
  | cons a b=>
   cases a;exact .cons _ _ (ih _ b)
theorem qM{l:OpenLaw}(hn:l.most=some n){P:Params}{args:List WData}{vals:List Value}
  (hpre:l.row.toRowW.claim.pre args=true) (hwl:WellAll P h vals args) :
  ∃a vs ns,vals=[Hq a]/\args=[WData.list (ns.map WData.int)]/\h.get? a=some { cls:=.type "list",data:=.seq vs.toArray }/\Rp vs ns/\ns.length<=n:=by
 have hsh:WShape.hasAll [] args [.list .int]=true:=(pre_splitW hpre).1;have hc:l.pre.holds [] { args:=args }=true:=(pre_splitW hpre).2;obtain⟨d,r,rfl,h1,h2⟩:=hasAllW_cons hsh;obtain rfl:=hasAllW_nil h2;obtain⟨xs,rfl,h3⟩:=hasW_list h1;obtain⟨ns,rfl⟩:=items_int h3;have hlen:ns.length<=n:=by
  unfold OpenLaw.pre at hc;have h4:(WTm.not (.lt (.lit (.int (n:Int))) (.len (.arg 0)))).holds [] { args:=[.list (ns.map .int)] }=true:=by
   have h4:=(holds_andW hc).1;rw[hn]at h4;exact h4
  have h5:=condW_of h4 (w_not (w_lt w_lit (w_len_list (w_arg rfl))));rw[GF]at h5;refine Nat.le_of_not_lt λq=>?_
  have q':(n:Int)<((ns.length:Nat):Int):=by lia
  first
   | (rw[decide_eq_true q']at h5;exact absurd h5 (by decide))
   | (simp at h5;lia)
 cases hwl with
 | cons w1 w2=>
  cases w2;cases w1 with
  | list ho hall=>exact⟨_,_,ns,rfl,rfl,ho,iO ns _ hall,hlen⟩
theorem qN(l:OpenLaw)(args:List WData):l.row.toRowW.claim.post args (.bool true) args=true:=
 postW_of (r:=l.row.toRowW) (X:=(true == true))
  (show WShape.has [] (.bool true) .bool=true by first|rfl|decide|simp[WShape.has,WShape.arms,WShape.armsAll])
  (show(WTm.eq .res (.lit (.bool true))).value [] { args:=args,res:=some (.bool true),after:=args }=some (.bool (true == true))from w_eq_bool (w_res rfl) w_lit) rfl
theorem mU{l:OpenLaw}{q:Program}{loose:List Str}{XP:(Str->Option Value)->Heap->Prop}{YP:World->Heap->Prop}{d:DefRec}
  (hn:l.most=some n) (hdf:d.params.defaults=[])
  (call:∀(w:World) (s₀ s₁:Shared) (mg mb:Str->Option Value) (fa:Addr) (o:Obj) (pm cd doc:Value) (a:Addr) (vs:List Value) (ns:List Int),
   Ground q loose [] XP w s₀ mg mb s₁.heap->YP w s₁.heap->
   s₁.heap.get? fa=some o->o.data=.func (docDef d.name d.params d.body d.scope pm cd doc)->s₁.heap.CodeRec cd d.name->mg d.name=some (.ref fa)->
   s₁.heap.get? a=some { cls:=.type "list",data:=.seq vs.toArray }->Rp vs ns->ns.length<=n->s₁.gens=#[]->
   codeAny (model l.prog w) callerA (.call (.ref fa) ⟨[.ref a],[]⟩) (λr s'=>r=.ok (.ret (.bool true))/\OldK s₁.heap s'.heap/\s'.os=s₁.os/\AllBare s'.gens) s₁) :
  WalkO q loose XP YP l.row.toRowW d [] (λf vs=>OI f vs):=by
 intro w s₀ s₁ mg mb G Y fa o pm cd doc dV kV ho hd hcd hD hmg hg args vals as hpre hlay hrd hwl hlo;obtain rfl:dV=.none:=Dflts.none hD hdf;obtain rfl:kV=.none:=Dflts.noKw hD;obtain⟨a,vs,ns,rfl,rfl,hobj,hints,hlen⟩:=qM hn hpre hwl;refine enter_call (codeAny_mono (call w s₀ s₁ mg mb fa o pm cd doc a vs ns G Y ho (fd_plain hd) hcd hmg hobj hints hlen hg) λr s' hq=>?_);obtain⟨rfl,h2,h3,h4⟩:=hq;exact⟨.inl ⟨.bool true,.bool true,[],rfl,λ_=>rfl,.bool true,qN l _,λ_=>⟨Jq,λ_ hm=>(nomatch hm)⟩⟩,h2,h3,h4⟩
section
variable{prog:Program}{w:World}{A:Around}{E:Value->Shared->Prop}{s:Shared}{K:Frag}
end
end Att
namespace L2
open PySem PySem.Spec PyProof.Rows
theorem ly:∀{vs:List Value}{ns:List Int},Rp vs ns->Vals (ns.map Q8) vs
 | _,_,.nil=>.nil
 | _,_,.cons n t h=>.cons ⟨t,rfl⟩ (ly h)
noncomputable def de(s:Stmt)(j:Nat):Stmt:=match s with
 | .ClassDef _ _ _ body _ _ _ _ _ _ _=>body.getD j (.Pass ⟨0,0,0,0⟩)
 | _=>.Pass ⟨0,0,0,0⟩
noncomputable def dW(s:Stmt):Arguments:=match s with
 | .FunctionDef _ a _ _ _ _ _ _ _ _=>a
 | _=>{ posonlyargs:=[],args:=[],vararg:=none,kwonlyargs:=[],kw_defaults:=[],kwarg:=none,defaults:=[] }
noncomputable def cU(s:Stmt):List Stmt:=match s with
 | .FunctionDef _ _ b _ _ _ _ _ _ _=>b
 | _=>[]
noncomputable def aM(s:Stmt):Scope:=match s with
 | .FunctionDef _ _ _ _ _ _ sc _ _ _=>sc
 | _=>{ kind:=.function,names:=[],isGenerator:=false,isCoroutine:=false }
noncomputable abbrev CX0:CXT:=λ_ _ _ _ _ _=>False
noncomputable abbrev E0:XK:=λ_ _ _=>False
theorem fh:dc CX0 X E0:=λ_ _ _ _ _ _ _ h=>h.elim
structure Fun (K:GH) (x qual:Str) (st:Stmt) (f:Addr) (fd:FuncData):Prop where
 ex:∃(oc:Value) (od:Option Addr) (kV doc pm:Value) (an:Option Addr) (cdv ct:Value) (osl:Array (Option Value)),
  fd=Jd x qual (dW st) (cU st) (aM st) .none kV doc pm an cdv ct/\K.lookup f=some ⟨oc,od,.func fd,osl⟩/\Lp K cdv qual=true
 kp:ID K (.ref f)=true
section
variable{P:Program}{w:World}{K:GH}{mg:Str->Option Value}{base:Heap}
theorem Fun.ok{st:Stmt}{f:Addr}{fd:FuncData}{N ps:List Str}{sp:Sp}(F:Fun K x qual st f fd)(S:FnScope N ps (aM st))(len:∀vs H Q E,sp vs H Q E->vs.length=ps.length)
  (hbody:∀(cdv:Value) (A:Around) (outer:List Env) (s:Shared) (H:Hp) (vs:List V) (Q:VK) (E:XK),Room k (A.deeper (envOfC qual (aM st) s.heap.objs.size f cdv))->sp vs H Q E->
   ∃t,PSs (uJ CX0 P w K mg base N qual (aM st) f cdv A outer s H E).nox (cU st) t/\t { nx:=λ_ H'=>Q .non H',rt:=Q } (start N vs) H):FnOk P w K mg base CX0 (k+1) f fd ps sp:=by
 obtain⟨oc,od,kV,doc,pm,an,cdv,ct,osl,rfl,lk,hcd⟩:=F.ex;refine AZ lk hcd S len λA outer s H vs Q E hr hsp=>?_
 obtain⟨t,h,q⟩:=hbody cdv A outer s H vs Q E hr hsp;exact⟨t,h.nox,q⟩
theorem Fun.binds{st:Stmt}{f:Addr}{fd:FuncData}{ps:List Str}(F:Fun K x qual st f fd)
  (h:∀(kV doc pm:Value) (an:Option Addr) (cdv ct:Value) (us:List Value),us.length=ps.length->bindArgs (Jd x qual (dW st) (cU st) (aM st) .none kV doc pm an cdv ct) ⟨us,[]⟩=pure (ps.zip us)):Binds K fd ps []:=by
 obtain⟨oc,od,kV,doc,pm,an,cdv,ct,osl,rfl,lk,hcd⟩:=F.ex;exact .all (h kV doc pm an cdv ct)
theorem wU{st:Stmt}{f:Addr}{oc:Value}{od an:Option Addr}{osl:Array (Option Value)}{kV doc cdv ct:Value}(l:K.lookup f=some ⟨oc,od,.func (Jd x qual (dW st) (cU st) (aM st) .none kV doc pm an cdv ct),osl⟩)
  (c:Lp K cdv qual=true) (k:ID K (.ref f)=true):Fun K x qual st f (Jd x qual (dW st) (cU st) (aM st) .none kV doc pm an cdv ct):=⟨⟨oc,od,kV,doc,pm,an,cdv,ct,osl,rfl,l,c⟩,k⟩
end
theorem au(h:n<=1000):n<Rj:=HR h (by decide)
section
variable{X:Cx}
end
def Same(H H':Hp):Prop:=∀b o,H b=some o->H' b=some o
theorem Same.refl(H:Hp):Same H H:=λ_ _ h=>h
theorem Same.trans{H H2:Hp}(a:Same H H1)(b:Same H1 H2):Same H H2:=λc o h=>b c o (a c o h)
theorem Same.free{H:Hp}(e:Same H H')(h:H' l=Qh):H l=Qh:=by
 cases q:H l with
 | none=>rfl
 | some o=>
  rw[e l o q]at h;cases h
theorem Same.seq{K:GH}{H:Hp}(e:Same H H')(h:SqL K H a xs):SqL K H' a xs:=by
 rcases h with(h|⟨o,h⟩)|h
 ·exact .inl (.inl (e _ _ h))
 ·exact .inl (.inr ⟨o,e _ _ h⟩)
 ·exact .inr h
section
variable{X:Cx}{pins:List (Addr×Obj)}{σ:St}{H:Hp}{s:Shared}
theorem Inv.adopt{D:Addr}(I:Inv X pins σ H s)(hn:H D=none)(hL:D≠X.env.locals)
  (h1:D∈X.ex\/X.s₀.heap.objs.size<=D) (h2:∀x c,X.env.cells.lookup x=some c->c≠D) (h3:∀p∈X.pn++pins,p.1≠D)
  (new:ObjOk X.prog X.w (upd H D o) s.heap D o):Inv X pins σ (upd H D o) s:=by
 have nit:∀b u,H b=some u->b≠D:=λb u e z=>by rw[z,hn]at e;cases e
 have keep:∀b u,H b=some u->upd H D o b=some u:=λb u e=>by rw[ar (nit b u e)];exact e
 refine I.step (h':=s.heap) (g':=s.gens) (d':=s.drawn) (t':=s.toks) (ch:=[D]) (λb hb=>?_) (λb o _ _ _ e _=>e) (λb o _ _ _ e _=>⟨o.slots,e⟩) (λb u hc e n=>?_)
  (λb o _ e=>⟨o,e⟩) (λb xs e=>keep b _ e) (λb o u e=>keep b _ e) (λb ps e=>⟨#[],by rw[keep b _ e];simp⟩) (λm hm=>hm) (λb u e=>?_) I.bare
 ·have e:b=D:=by simpa using hb
  subst e;exact⟨h1,hL,h2,h3⟩
 ·rw[ar (λz=>hc (by simp[z]))];exact n
 ·by_cases hb:b=D
  ·subst hb;rw[af]at e;cases e;exact new
  ·rw[ar hb]at e
   exact(I.hok b u e).stay (λc v _ q=>q) (λc q=>keep c _ q) λc xs q=>keep c _ q
end
noncomputable def bD(X:Cx)(N:List Str)(scope:Scope)(cl:List (Str×Addr))(fp:List Addr)(C:Addr)(s:Shared)(H:Hp):Cx:=
 { X with N:=N,s₀:=s,H₀:=H,env:=compEnvC scope cl C X.env,outer:=X.stack,ex:=fp,fn:=λ_=>false,pn:=[],xe:=λ_ _=>False }
noncomputable def FrOk(X:Cx)(scope:Scope)(cl:List (Str×Addr)):List Str->Prop
 | []=>True
 | x::r=>(X.env.kindOf x=some .cell/\(relabel scope X.env).names.lookup x=some .cell/\∃c,cl.lookup x=some c/\X.env.cells.lookup x=some c)/\FrOk X scope cl r
theorem FrOk.mem{X:Cx}{scope:Scope}{cl:List (Str×Addr)}:∀{l:List Str},FrOk X scope cl l->∀x∈l,
  X.env.kindOf x=some .cell/\(relabel scope X.env).names.lookup x=some .cell/\∃c,cl.lookup x=some c/\X.env.cells.lookup x=some c
 | [],_,_,h=>nomatch h
 | y::r,⟨h1,h2⟩,x,h=>by
  rcases GZ.mp h with e|e
  ·subst e;exact h1
  ·exact FrOk.mem h2 x e
noncomputable def ClOk(X:Cx):List (Str×Addr)->Prop
 | []=>True
 | p::r=>X.env.cells.lookup p.1=some p.2/\ClOk X r
theorem ClOk.get{X:Cx}:∀{l:List (Str×Addr)},ClOk X l->∀x c,l.lookup x=some c->X.env.cells.lookup x=some c
 | [],_,_,_,h=>by simp at h
 | p::r,⟨h1,h2⟩,x,c,h=>by
  obtain⟨n,a⟩:=p;cases e:x == n with
  | true=>
   have e':x=n:=by simpa using e
   subst e';simp only[Ma,e]at h;cases h;exact h1
  | false=>
   simp only[Ma,e]at h;exact ClOk.get h2 x c h
structure CompOk (X:Cx) (N tgs frs:List Str) (ix:List Nat) (scope:Scope) (cl:List (Str×Addr)):Prop where
 clos:closureFor scope X.env=pure cl
 cell:∀y∈scope.names,y.2≠.cell
 kind:scope.kind=.function
 names:∀y∈scope.names,y.2=.local->scope.names.lookup y.1=some .local
 nm:N=tgs++frs
 ixs:ix.map (X.N[·]?)=frs.map some
 fr:FrOk X scope cl frs
 cls:ClOk X cl
 has:(relabel scope X.env).names.all (λp=>!(p.2 == .cell || p.2 == .free) || (cl.lookup p.1).isSome)=true
noncomputable def fq(tgs:List Str)(ix:List Nat)(σ:St):St:=GS tgs.length none++ix.map λj=>(σ[j]?).getD none
section
variable{X:Cx}{N tgs frs:List Str}{ix:List Nat}{scope:Scope}{cl:List (Str×Addr)}
theorem pF(c:CompOk X N tgs frs ix scope cl)(h1:N[i]? = some x)(h2:(fq tgs ix σ)[i]? = some (some v)):x∈frs/\∃j:Nat,X.N[j]? = some x/\σ[j]? = some (some v):=by
 unfold fq at h2;by_cases hi:i<tgs.length
 ·rw[GU (by simpa using hi),JE,if_pos hi]at h2
  cases h2
 ·rw[G6 (by simpa using hi),Iz,GK]at h2
  rw[c.nm,G6 ⋯]at h1;have e:=congrArg (·[i - tgs.length]?) c.ixs;simp only[GK,h1]at e;cases q:ix[i - tgs.length]? with
  | none=>rw[q]at e;cases e
  | some j=>
   rw[q]at e h2;simp only[Mp,NZ]at e h2;refine⟨G3 h1,j,e,?_⟩;cases z:σ[j]? with
   | none=>rw[z]at h2;cases h2
   | some o=>rw[z]at h2;simp at h2;rw[h2]
theorem eU{l:List (Str×NameKind)}{k:NameKind}(h:l.lookup x=some k):(x,k)∈l:=Jh h
theorem CompOk.hasOf(c:CompOk X N tgs frs ix scope cl)(h:(relabel scope X.env).names.lookup x=some .cell\/(relabel scope X.env).names.lookup x=some .free):∃a,cl.lookup x=some a:=by
 have all:=IC.mp c.has;rcases h with h|h
 ·have q:=all _ (eU h)
  exact Jc.mp (by simpa only[beq_self_eq_true,Nt,LI,LJ]using q)
 ·have q:=all _ (eU h)
  exact Jc.mp (by simpa only[beq_self_eq_true,Nv,LI,LJ]using q)
theorem uP{H:Hp}{s2:Shared}{h1:Heap}{m:Str->Option Value}(c:CompOk X N tgs frs ix scope cl)(I:Inv X pins σ H s2)(hf:∀b∈fp,uq X pins H b)(hfl:∀b∈fp,b<s2.heap.objs.size)
  (hC:s2.heap.objs.size<=C) (hns:h1.Ns C m) (hk:∀b o,s2.heap.get? b=some o->h1.get? b=some o){pins':List (Addr×Obj)}
  (hpin:∀p∈pins',h1.get? p.1=some p.2/\s2.heap.objs.size<=p.1/\p.1≠C/\∀v,p.2.data≠.cell v) :
  Inv (bD X N scope cl fp C s2 H) pins' (fq tgs ix σ) H { s2 with heap:=h1,toks:=tk }:=by
 have hcn:∀x a,cl.lookup x=some a->X.env.cells.lookup x=some a:=c.cls.get
 have clt:∀x a,cl.lookup x=some a->a<s2.heap.objs.size:=λx a e=>by
  obtain⟨v,q⟩:=I.cell x a (hcn x a e);exact q.lt
 refine⟨⟨I.ok.mod,c.kind,I.ok.glob,I.ok.blt,hC,λx y a h1 h2=>I.ok.inj x y a (hcn _ _ h1) (hcn _ _ h2),λx hx=>c.hasOf hx,(λx a z _=>Bool.noConfusion z),I.ok.hd,I.ok.frames,.inl rfl,λb hb=>⟨?_,λx a e=>?_⟩,I.bs,HU I.ok.bsz I.sz,λb o e hb=>?_,λb hb z=>?_,I.stack,I.stkFree⟩,
  rfl,I.bare,Un.kept hk,⟨m,hns,λi x v e1 e2 e3=>?_⟩,λx a e=>?_,I.hok.fresh hC,λx a e=>I.freeC x a (hcn x a e),λp hp=>?_,I.hok.kept hk,?_⟩
 ·exact Hf (Hi (hfl b hb) hC)
 ·exact(hf b hb).2.2.2.2.1 x a (hcn x a e)
 ·rcases(hf b hb).2.2.2.1 with z|z
  ·exact I.ok.noex b o e z
  ·exact absurd (Hi (GX (I.ok.bs b o e).1) z) (Iw _)
 ·rcases GZ.mp (I.stkSub b z)with e|e
  ·exact(hf b hb).2.1 e
  ·exact(hf b hb).2.2.1 e
 ·obtain⟨hx,j,n1,n2⟩:=pF c e1 e2
  obtain⟨k1,k2,a,l1,l2⟩:=c.fr.mem x hx;obtain⟨m',_,hl⟩:=I.loc;obtain⟨u,r,l⟩:=hl j x v n1 n2 (.inr (.inl k1));refine⟨u,r,.inr ⟨.inl k2,a,l1,?_⟩⟩;rcases l with⟨l,_⟩|⟨_,a',l3,o,l4,l5⟩
  ·rw[k1]at l;cases l
  ·rw[l2]at l3;cases l3
   exact⟨o,hk _ _ l4,l5⟩
 ·obtain⟨v,o,q1,q2⟩:=I.cell x a (hcn x a e)
  exact⟨v,o,hk _ _ q1,q2⟩
 ·have hp':p∈pins':=by simpa [bD]using hp
  obtain⟨q1,q2,q3,q4⟩:=hpin p hp';exact⟨q1,I.hok.fresh q2,q3,λz=>by
   rcases GZ.mp (I.stkSub p.1 z)with e|e
   ·exact absurd (Hi I.lt q2) (by rw[e];exact Iw _)
   ·exact I.nofs q2 e,q4⟩
 ·show(fq tgs ix σ).length=N.length
  unfold fq;have e:=congrArg HL c.ixs;simp only[GF]at e;rw[c.nm];simp[e]
theorem lz{prog:Program}{w:World}{A:Around}{R:Result->Shared->Prop}{s:Shared}{elt target iter:Expr}{pos:Pos}{it acc:Value}{env:Env}(I:Nat->Shared->Prop)
  (turn:∀n s,I n s->wpAny (model prog w) A (pyNext it) (λr s1=>match r with
   | none=>R (.ok .next) s1
   | some v=>wpAny (model prog w) A (letOwnedTupleGo target it v) (λ_ s1'=>wpAny (model prog w) A (assign target env v) (λ_ s2=>wpAny (model prog w) A (eval elt env) (λx s3=>
     wpAny (model prog w) A (call (.builtin "list.append") [acc,x]) (λ_ s4=>∃m,m<n/\I m s4) (λ_ _=>False) s3)
     (λ_ _=>False) s2) (λ_ _=>False) s1') (λ_ _=>False) s1) (λ_ _=>False) s)
  (n:Nat) (h:I n s) :
  codeAny (model prog w) A (.compLoop (.ListComp elt [⟨target,iter,[],0⟩] scope pos) 0 it acc env) R s:=by
 have up:∀{α:Type}{t:Sem α}{Q Q':α->Shared->Prop}{E:Value->Shared->Prop}{s:Shared},wpAny (model prog w) A t Q (λ_ _=>False) s->(∀a s,Q a s->Q' a s)->wpAny (model prog w) A t Q' E s:=λh hq=>Ro h hq λ_ _ f=>f.elim
 refine codeAny_loop rfl I (λn s hI=>?_) n h;show wpAny _ _ ((compTurn (.ListComp elt [⟨target,iter,[],0⟩] scope pos) 0 it acc env).onRaise (λx=>do noteFrame x env;theTreesLotGoes x)) _ _ s
 refine wpAny_noted ?_;rw[compTurn_list1];refine Rh (RI (Rh (up (turn n s hI) (λr s1 h1=>?_))));cases r with
 | none=>exact Ri h1
 | some v=>
  refine Rh (up h1 λ_ s1' h1'=>?_);exact Rh (up h1' (λ_ s2 h2=>Rh (Rh (up h2 (λx s3 h3=>Rh (up h3
   (λ_ s4 h4=>Ri (Ri ⟨rfl,h4⟩))))))))
def qO(wi:TI)(g:TG)(te:TE)(tgs:List Str)(ix:List Nat):TE:=λσ H Q=>wi σ H λJ H1=>
 ∃W:Nat->Nat->List V->St->Hp->Prop,(∃m,W 0 m [] (fq tgs ix σ) H1)/\∀i m xs σc H,W i m xs σc H->xs.length<Rj/\
  ((J.stop i H/\∀p,H p=none->Q (.ref p) (upd H p (.lst xs)))\/(J.go i H/\∀x H',J.yld i H x H'->g x σc H' λσ2 H2=>te σ2 H2 λy H3=>∃m',m'<m/\W (i+1) m' (xs++[y]) σ2 H3))
noncomputable abbrev fu (us:List Value) (k:Nat):Obj:={ cls:=.type "list",data:=.seq us.toArray k }
theorem kg{prog:Program}{w:World}{A:Around}{R:Result->Shared->Prop}{s:Shared}{elt target iter cnd:Expr}{pos:Pos}{it acc:Value}{env:Env}(I:Nat->Shared->Prop)
  (turn:∀n s,I n s->wpAny (model prog w) A (pyNext it) (λr s1=>match r with
   | none=>R (.ok .next) s1
   | some v=>wpAny (model prog w) A (letOwnedTupleGo target it v) (λ_ s1'=>wpAny (model prog w) A (assign target env v) (λ_ s2=>wpAny (model prog w) A (isTrue cnd env (eval cnd env)) (λb s2'=>if b=true then wpAny (model prog w) A (eval elt env) (λx s3=>
     wpAny (model prog w) A (call (.builtin "list.append") [acc,x]) (λ_ s4=>∃m,m<n/\I m s4) (λ_ _=>False) s3)
     (λ_ _=>False) s2' else ∃m,m<n/\I m s2') (λ_ _=>False) s2) (λ_ _=>False) s1') (λ_ _=>False) s1) (λ_ _=>False) s)
  (n:Nat) (h:I n s) :
  codeAny (model prog w) A (.compLoop (.ListComp elt [⟨target,iter,[cnd],0⟩] scope pos) 0 it acc env) R s:=by
 have up:∀{α:Type}{t:Sem α}{Q Q':α->Shared->Prop}{E:Value->Shared->Prop}{s:Shared},wpAny (model prog w) A t Q (λ_ _=>False) s->(∀a s,Q a s->Q' a s)->wpAny (model prog w) A t Q' E s:=λh hq=>Ro h hq λ_ _ f=>f.elim
 refine codeAny_loop rfl I (λn s hI=>?_) n h;show wpAny _ _ ((compTurn (.ListComp elt [⟨target,iter,[cnd],0⟩] scope pos) 0 it acc env).onRaise (λx=>do noteFrame x env;theTreesLotGoes x)) _ _ s
 refine wpAny_noted ?_;rw[compTurn_list];refine Rh (RI (Rh (up (turn n s hI) (λr s1 h1=>?_))));cases r with
 | none=>exact Ri h1
 | some v=>
  refine Rh (up h1 λ_ s1' h1'=>?_);refine Rh (up h1' λ_ s2 h2=>?_);simp only[Ms,MO,if_true];refine Rh (Rh (Rh (up h2 λb s3 h3=>Ri (Ri ?_))));cases b with
  | true=>
   rw[if_pos rfl]at h3;show wpAny _ _ (if true=true then _ else _) _ _ _
   rw[if_pos rfl];exact Rh (Rh (up h3 (λx s4 h4=>Rh (up h4 (λ_ s5 h5=>Ri (Ri ⟨rfl,h5⟩))))))
  | false=>
   rw[if_neg (by decide)]at h3;show wpAny _ _ (if false=true then _ else _) _ _ _
   rw[if_neg (by decide)];exact Ri ⟨rfl,h3⟩
def elB(M:Model)(A:Around)(E:Value->Shared->Prop)(oc:Option Expr)(elt:Expr)(env:Env)(K:Option Value->Shared->Prop)(s:Shared):Prop:=match oc with
 | none=>wpAny M A (eval elt env) (λx s'=>K (some x) s') E s
 | some c=>wpAny M A (isTrue c env (eval c env)) (λb s1=>if b=true then wpAny M A (eval elt env) (λx s'=>K (some x) s') E s1 else K none s1) E s
theorem elB.mono{M:Model}{A:Around}{oc:Option Expr}{env:Env}{K K':Option Value->Shared->Prop}{s:Shared}(h:elB M A E oc elt env K s)(k:∀r s',K r s'->K' r s'):elB M A E oc elt env K' s:=by
 cases oc with
 | none=>exact Ro h (λx s' e=>k _ _ e) λ_ _ e=>e
 | some c=>
  refine Ro h (λb s1 e=>?_) λ_ _ e=>e
  cases b with
  | true=>exact Ro e (λx s' e=>k _ _ e) λ_ _ e=>e
  | false=>exact k _ _ e
theorem kh{prog:Program}{w:World}{A:Around}{R:Result->Shared->Prop}{s:Shared}{elt target iter:Expr}{oc:Option Expr}{pos:Pos}{it acc:Value}{env:Env}(I:Nat->Shared->Prop)
  (turn:∀n s,I n s->wpAny (model prog w) A (pyNext it) (λr s1=>match r with
   | none=>R (.ok .next) s1
   | some v=>wpAny (model prog w) A (letOwnedTupleGo target it v) (λ_ s1'=>wpAny (model prog w) A (assign target env v) (λ_ s2=>elB (model prog w) A (λ_ _=>False) oc elt env (λr s3=>match r with
     | none=>∃m,m<n/\I m s3
     | some x=>wpAny (model prog w) A (call (.builtin "list.append") [acc,x]) (λ_ s4=>∃m,m<n/\I m s4) (λ_ _=>False) s3) s2) (λ_ _=>False) s1') (λ_ _=>False) s1) (λ_ _=>False) s)
  (n:Nat) (h:I n s) :
  codeAny (model prog w) A (.compLoop (.ListComp elt [⟨target,iter,oc.toList,0⟩] scope pos) 0 it acc env) R s:=by
 cases oc with
 | none=>exact lz I turn n h
 | some c=>exact kg I turn n h
noncomputable abbrev TB:=St->Hp->(Option V->Hp->Prop)->Prop
def PB(X:Cx)(oc:Option Expr)(elt:Expr)(tb:TB):Prop:=∀(pins:List (Addr×Obj)) (s:Shared) (σ:St) (H:Hp) (R:Option V->Hp->Prop),Inv X pins σ H s->tb σ H R->elB (model X.prog X.w) X.A X.xe oc elt X.env (λr s'=>∃H',Inv X pins σ H' s'/\match r with
 | none=>R none H'
 | some u=>∃y,RelV y u/\R (some y) H') s
noncomputable def tbE(te:TE):TB:=λσ H R=>te σ H λy H'=>R (some y) H'
noncomputable def tbF(tc:TT)(te:TE):TB:=λσ H R=>tc σ H λb H1=>if b=true then te σ H1 λy H'=>R (some y) H' else R none H1
theorem PB.no{X:Cx}{te:TE}(he:PE X elt te):PB X none elt (tbE te):=λpins s σ H R I h=>Ro (he pins s σ H _ I h) (λu s' ⟨y,H',I',r,q⟩=>⟨H',I',y,r,q⟩) λ_ _ e=>e
theorem PB.ts{X:Cx}{te:TE}(hcd:PT X cnd tc)(he:PE X elt te):PB X (some cnd) elt (tbF tc te):=λpins s σ H R I h=>Ro (hcd pins s σ H _ I h) (λb s1 ⟨H1,I1,q⟩=>by
 cases b with
 | true=>exact Ro (he pins s1 σ H1 _ I1 q) (λu s' ⟨y,H',I',r,q⟩=>⟨H',I',y,r,q⟩) λ_ _ e=>e
 | false=>exact⟨H1,I1,q⟩) λ_ _ e=>e
def qP(wi:TI)(g:TG)(tb:TB)(tgs:List Str)(ix:List Nat):TE:=λσ H Q=>wi σ H λJ H1=>
 ∃W:Nat->Nat->List V->St->Hp->Prop,(∃m,W 0 m [] (fq tgs ix σ) H1)/\∀i m xs σc H,W i m xs σc H->xs.length<Rj/\
  ((J.stop i H/\∀p,H p=none->Q (.ref p) (upd H p (.lst xs)))\/(J.go i H/\∀x H',J.yld i H x H'->g x σc H' λσ2 H2=>tb σ2 H2 λr H3=>match r with
   | none=>∃m',m'<m/\W (i+1) m' xs σ2 H3
   | some y=>∃m',m'<m/\W (i+1) m' (xs++[y]) σ2 H3))
theorem lA{oc:Option Expr}{tb:TB}(c:CompOk X N tgs frs ix scope cl)(hc:X.calm=true)(hi:PI X tg iter wi)
  (hg:∀fp C s H,PG (bD X N scope cl fp C s H) tg g) (hb:∀fp C s H,PB (bD X N scope cl fp C s H) oc elt tb)
  (hs:∀x,Rr iter X.env x=pure x){use:Option (Value->Sem Unit)}{R:Value->Shared->Prop}{pins:List (Addr×Obj)}{s:Shared}{σ:St}{H:Hp}{Q:VK}
  (hfin:∀{H':Hp}{D C:Addr}{s':Shared}{m:Str->Option Value},Inv X pins σ H' s'->s'.heap.Ns C m->H' C=none->C≠X.env.locals->(C∈X.ex\/X.s₀.heap.objs.size<=C)->(∀x y,X.env.cells.lookup x=some y->y≠C)->(∀p∈X.pn++pins,p.1≠C)->C∉X.fs->Q (.ref D) H'->
   compPost (model X.prog X.w) X.A X.xe use R (.ref D) C (.ok .next) s')
  (I:Inv X pins σ H s) (h:qP wi g tb tgs ix σ H Q) :
  wpAny (model X.prog X.w) X.A (comprehension (.ListComp elt [⟨tg,iter,oc.toList,0⟩] scope pos) scope X.env pos' (newList []) false (eval iter X.env) use) R X.xe s:=by
 refine wpAny_comprehension_free (use:=use) rfl hs c.clos c.kind c.names (thn (hi pins s σ H _ I h) λxv s1 h1=>thn h1 λitv s2 h2=>?_);obtain⟨it,fp,tn,J,H2,rfl,I2,T,st2,f2,W,⟨m0,w0⟩,turn⟩:=h2;have hfl:∀b∈fp,b<s2.heap.objs.size:=λb hb=>by
  obtain⟨o,e,_⟩:=T.obj _ _ st2 b hb;exact GX e
 have hcn:∀x a,cl.lookup x=some a->X.env.cells.lookup x=some a:=c.cls.get
 refine Ry (wpAny_newFunctionEnv c.cell (by intro y hy;simp at hy) (λh1 hns1 hsb1=>?_) c.kind);dsimp only at hns1 hsb1 ⊢;generalize hH2:s2.heap.push { cls:=.type "list",dict:=none,data:=.seq ([]:List Value).toArray }=G2 at hns1 hsb1 ⊢;have hC:G2.objs.size=s2.heap.objs.size+1:=by rw[<-hH2,Jj]
 generalize hCC:G2.objs.size=C at *;generalize hDD:s2.heap.objs.size=D at *;have hDC:D≠C:=by lia
 have hCle:D<=C:=by lia
 have old:∀b o,s2.heap.get? b=some o->h1.get? b=some o:=λb o e=>by
  have lt:b<s2.heap.objs.size:=GX e;exact hsb1.extBut b o (Hf (Hi (hDD▸lt) hCle)) (GI _ (hH2▸GI _ e))
 have hacc:h1.get? D=some (fu [] 0):=hsb1.extBut _ _ hDC (GI _ (hH2▸(hDD▸G1 _ rfl)));have cellD:∀x a,X.env.cells.lookup x=some a->a<D:=λx a e=>by
  obtain⟨v,q⟩:=I2.cell x a e;exact hDD▸q.lt
 have fpc:∀{H':Hp}{us:List Value}{k:Nat},(∀b∈fp,H' b=none)->∀b∈fp,uq (bD X N scope cl fp C s2 H2) [(D,fu us k)] H' b:=λ{H' us k} hn b hb=>by
  have lb:=hfl b hb;refine⟨hn b hb,?_,λz=>?_,.inl hb,λx a e z=>?_,λp hp=>?_⟩
  ·exact Hf (Hi lb hCle)
  ·rcases GZ.mp (I2.stkSub b z)with e|e
   ·exact(f2 b hb).2.1 e
   ·exact(f2 b hb).2.2.1 e
  ·exact(f2 b hb).2.2.2.2.1 x a (hcn x a e) z
  ·have:p=(D,fu us k):=by simpa [bD]using hp
   rw[this];exact Jb lb
 have D_fs:D∉(bD X N scope cl fp C s2 H2).fs:=λz=>by
  rcases GZ.mp (I2.stkSub D z)with e|e
  ·exact absurd I2.lt (by rw[<-e,hDD];exact Iw _)
  ·exact I2.nofs (Ko hDD) e
 have I3:=uP (tk:=s2.toks+([]:List (Str×Value)).length) (pins':=[(D,fu [] 0)]) c I2 f2 (λb hb=>hDD▸hfl b hb) (hDD▸hCle:s2.heap.objs.size<=C) hns1 old (λp hp=>by
  have e:p=(D,fu [] 0):=by simpa using hp
  subst e;exact⟨hacc,Ko hDD,hDC,λv z=>by cases z⟩)
 have tn3:tn 0 h1:=T.keep _ _ _ st2 λb _ o e=>old b o e
 have loop:codeAny (model X.prog X.w) X.A (.compLoop (.ListComp elt [⟨tg,iter,oc.toList,0⟩] scope pos) 0 (.ref it) (.ref D) (compEnvC scope cl C X.env))
   (compPost (model X.prog X.w) X.A X.xe use R (.ref D) C) { s2 with heap:=h1,toks:=s2.toks+([]:List (Str×Value)).length }:=by
  refine kh (λn s'=>∃i xs us k σc H',Inv (bD X N scope cl fp C s2 H2) [(D,fu us k)] σc H' s'/\tn i s'.heap/\(∀b∈fp,H' b=none)/\Vals xs us/\W i n xs σc H') ?_ m0
   ⟨0,[],[],0,_,H2,I3,tn3,λb hb=>(f2 b hb).1,.nil,w0⟩
  rintro n s4 ⟨i,xs,us,k,σ4,H4,I4,tn4,fr4,rv,w4⟩;obtain⟨hsz,tt⟩:=turn i n xs σ4 H4 w4;rcases tt with⟨stop,fin⟩|⟨go,step⟩
  ·refine thn (T.done (bD X N scope cl fp C s2 H2) rfl rfl rfl hc i _ s4 σ4 H4 _ I4 (fpc fr4) tn4 stop) λr s5 ⟨hr,I5⟩=>?_
   subst hr;obtain⟨m,ns,_⟩:=I5.loc;have J1:Inv X pins σ H4 s5:=I2.call' I5.os I5.base I5.hok I5.bare λb hb=>⟨(f2 b hb).2.2.2.1,(f2 b hb).2.1,(f2 b hb).2.2.2.2.1,(f2 b hb).2.2.2.2.2⟩
   have big:∀a,D<=a->a≠X.env.locals/\(a∈X.ex\/X.s₀.heap.objs.size<=a)/\(∀x y,X.env.cells.lookup x=some y->y≠a)/\∀p∈X.pn++pins,p.1≠a:=λa ha=>by
    obtain⟨q0,q1,q2,q3,q4,q5⟩:=I2.fpOk (b:=a) (H':=λ_=>none) (hDD▸ha) rfl;exact⟨q1,q3,q4,q5⟩
   obtain⟨b1,b2,b3,b4⟩:=big C hCle;obtain⟨p1,p2,p3,p4,p5⟩:=I5.pin (D,fu us k) (by simp);obtain⟨d1,d2,d3,d4⟩:=big D (GJ _);exact hfin (J1.adopt (D:=D) (o:=.lst xs) p2 d1 d2 d3 d4 ⟨IU hsz,us,k,rv,p1⟩) ns (by rw[ar (Hl hDC)];exact I5.free) b1 b2 b3 b4 (I2.nofs (hDD▸hCle)) (fin D p2)
  ·refine thn (T.item (bD X N scope cl fp C s2 H2) rfl rfl rfl hc i _ s4 σ4 H4 _ I4 (fpc fr4) tn4 go) λr s5 ⟨u,hr,h5⟩=>?_
   subst hr;refine thn h5 λ_ s6 ⟨x,H6,I6,r6,y6,tn6,fr6⟩=>?_
   have I6':=I6.pinned (fpc fr6) (T.obj _ _ tn6);refine thn (hg fp C s2 H2 _ s6 σ4 H6 x u _ I6' r6 (step x H6 y6)) λ_ s7 ⟨σ7,H7,I7,q7⟩=>?_
   refine(hb fp C s2 H2 _ s7 σ7 H7 _ I7 q7).mono λr s8 ⟨H8,I8,q8⟩=>?_
   have tn8:tn (i+1) s8.heap:=T.keep _ _ _ tn6 λb hb o e=>(I8.pin (b,o) (GT _ (GT _ (eT hb e)))).1
   have fr8:∀b∈fp,H8 b=none:=λb hb=>by
    obtain⟨o,e,d⟩:=T.obj _ _ tn6 b hb;exact(I8.pin (b,o) (GT _ (GT _ (eT hb e)))).2.1
   cases r with
   | none=>
    obtain⟨m',hm,w8⟩:=q8;exact⟨m',hm,i+1,xs,us,k,σ7,H8,I8.unpinned,tn8,fr8,rv,w8⟩
   | some yv=>
   obtain⟨y,r8,m',hm,w8⟩:=q8;obtain⟨p1,p2,p3,p4,p5⟩:=I8.pin (D,fu us k) (by simp[bD]);have hsz':us.toArray.size<=Rj:=by simp;rw[<-rv.length];exact IU hsz
   refine wpAny_list_append_plain (hsz:=hsz') ⟨k,p1⟩ λh' pl sb=>?_
   have I9:Inv (bD X N scope cl fp C s2 H2) [] σ7 H8 s8:=I8.pins_of λp hp=>nomatch hp
   have I10:Inv (bD X N scope cl fp C s2 H2) [] σ7 H8 { s8 with heap:=h' }:=I9.turned (t':=s8.toks) (it:=D) (λb o hb e=>sb.extBut b o hb e) p2 p3 (.inr (Ko hDD))
    (λx a e=>Hf (cellD x a (hcn x a e))) (λp hp=>by simp[bD]at hp)
   obtain⟨k',pl⟩:=pl;have eu:us.toArray.push yv=(us++[yv]).toArray:=by simp
   rw[eu]at pl;have I11:Inv (bD X N scope cl fp C s2 H2) [(D,fu (us++[yv]) k')] σ7 H8 { s8 with heap:=h' }:=I10.pins_of λp hp=>by
    have e:p=(D,fu (us++[yv]) k'):=by simpa using hp
    subst e;exact⟨pl,p2,p3,p4,λv z=>by cases z⟩
   exact⟨m',hm,i+1,xs++[y],us++[yv],k',σ7,H8,I11,T.keep _ _ _ tn8 λb hb o e=>sb.extBut b o (Hf (hfl b hb)) e,fr8,rv.append (.cons r8 .nil),w8⟩
 exact codeAny_compStart_list loop (T.self _ 0 _ _ _ tn3 loop)
theorem Bg{Q:VK}{D:Addr}{m:Str->Option Value}(J:Inv X pins σ H' s')(ns:s'.heap.Ns C m)(hC:H' C=none)(b1:C≠X.env.locals)(b2:C∈X.ex\/X.s₀.heap.objs.size<=C)(b3:∀x y,X.env.cells.lookup x=some y->y≠C)(b4:∀p∈X.pn++pins,p.1≠C)(_:C∉X.fs)(q:Q (.ref D) H'):
  compPost (model X.prog X.w) X.A X.xe none (EP X pins σ Q) (.ref D) C (.ok .next) s':=
 ⟨m,ns,λh' sb=>⟨.ref D,H',J.turned (t':=s'.toks) (λb o hb e=>sb.extBut b o hb e) hC b1 b2 b3 b4,rfl,q⟩⟩
theorem Bh{Dn:Ends}{y:Str}{iy:Nat}(hN:X.N.Nodup)(hy:X.N[iy]? = some y)(hx:Loc X.env.scope y)(hf:X.fn y=true\/X.env.scope.names.lookup y=some .local){D:Addr}{m:Str->Option Value}(J:Inv X pins σ H' s')(ns:s'.heap.Ns C m)(hC:H' C=none)(b1:C≠X.env.locals)(b2:C∈X.ex\/X.s₀.heap.objs.size<=C)(b3:∀x y,X.env.cells.lookup x=some y->y≠C)(b4:∀p∈X.pn++pins,p.1≠C)(nf:C∉X.fs)(q:Dn.nx (σ.set iy (some (.ref D))) H'):
  compPost (model X.prog X.w) X.A X.xe (some (assign (.Name y py) X.env)) (λ_ s'=>SP X pins Dn .next s') (.ref D) C (.ok .next) s':=by
 obtain⟨oC,esC,epC,hoC,hdC,rC⟩:=id ns;have J4:Inv X (pins++[(C,oC)]) σ H' s':=J.pins_of λp hp=>by
  rcases Hc.mp hp with z|z
  ·exact J.pin p (GT _ z)
  ·have e:p=(C,oC):=by simpa using z
   subst e;exact⟨hoC,hC,b1,nf,λv z=>by rw[hdC]at z;cases z⟩
 show wpAny _ X.A (assign (.Name y py) X.env (.ref D)) _ _ s'
 refine wpAny_assign_Name (eS J4 hN hy hx (v:=.ref D) rfl (λs6 J5=>?_) hf);have hC6:=(J5.pin (C,oC) (GT _ (GT _ (by simp)))).1;exact⟨m,⟨oC,esC,epC,hC6,hdC,rC⟩,λh' sb=>⟨_,_,J5.unpinned.turned (t':=s6.toks) (λb o hb e=>sb.extBut b o hb e) hC b1 b2 b3 b4,q⟩⟩
theorem nW{oc:Option Expr}{tb:TB}(c:CompOk X N tgs frs ix scope cl)(hc:X.calm=true)(hi:PI X tg iter wi)
  (hg:∀fp C s H,PG (bD X N scope cl fp C s H) tg g) (hb:∀fp C s H,PB (bD X N scope cl fp C s H) oc elt tb) (hs:∀x,Rr iter X.env x=pure x) :
  PE X (.ListComp elt [⟨tg,iter,oc.toList,0⟩] scope pos) (qP wi g tb tgs ix):=λpins s σ H Q I h=>by
 rw[eval_ListComp];exact lA c hc hi hg hb hs Bg I h
theorem ym{oc:Option Expr}{spos:Pos}{y:Str}{iy:Nat}{tb:TB}(hN:X.N.Nodup)(hy:X.N[iy]? = some y)(hx:Loc X.env.scope y)(c:CompOk X N tgs frs ix scope cl)(hc:X.calm=true)(hi:PI X tg iter wi)
  (hg:∀fp C s H,PG (bD X N scope cl fp C s H) tg g) (hb:∀fp C s H,PB (bD X N scope cl fp C s H) oc elt tb) (hs:∀x,Rr iter X.env x=pure x)
  (hsw:RT (.ListComp elt [⟨tg,iter,oc.toList,0⟩] scope pos) (some (.Name y py)) spos.line X.env=pure true) (hf:X.fn y=true\/X.env.scope.names.lookup y=some .local) :
  PS X (.Assign [.Name y py] (.ListComp elt [⟨tg,iter,oc.toList,0⟩] scope pos) spos) (qf (qP wi g tb tgs ix) (fz iy)):=λpins s σ H Dn I h=>by
 rw[exec_Assign_Name_used _ _ _ _ hsw];refine Rh (RI (Rh ?_));show wpAny _ X.A (do let _ <-comprehension (.ListComp elt [⟨tg,iter,oc.toList,0⟩] scope pos) scope X.env _ (newList []) false (eval iter X.env) (some (assign (.Name y py) X.env))) _ _ s
 exact Rh (Ro (lA (R:=λ_ s'=>SP X pins Dn .next s') c hc hi hg hb hs (Bh hN hy hx hf) I h) (λ_ s' hq=>Ri (Ri hq)) λ_ _ e=>e)
theorem yn{te:TE}(c:CompOk X N tgs frs ix scope cl)(hc:X.calm=true)(hi:PI X tg iter wi)
  (hg:∀fp C s H,PG (bD X N scope cl fp C s H) tg g) (he:∀fp C s H,PE (bD X N scope cl fp C s H) elt te)
  (hs:∀x,Rr iter X.env x=pure x:=by intro _;rfl) :
  PE X (.ListComp elt [⟨tg,iter,[],0⟩] scope pos) (qO wi g te tgs ix):=nW (oc:=none) (tb:=tbE te) c hc hi hg (λfp C s H=>.no (he fp C s H)) hs
end
section
variable{X:Cx}
def qQ(i j:Int):Prop:=0<j/\j.natAbs.log2<9000
theorem pG{j:Int}(h0:0<j)(h:j<2 ^ 64):j.natAbs.log2<9000:=by
 have:j.natAbs<2 ^ 64:=by lia
 have h2:=(Nat.log2_lt (by lia:j.natAbs≠0)).mpr this;lia
theorem uQ:OpR X (RF .FloorDiv) (rI qQ λi j=>.int (i / j)):=opI λi j _ _ _ _ _ hc q=>by
 have e:i.fdiv j=i / j:=LF _ (Nw hc.1);exact floordiv_int (Int.ne_of_gt hc.1) (by rw[e];exact q) (.inl (Kt hc.2))
theorem uR (hc:X.calm=true):cQ X (.builtin "sum") (λxs H Q=>∃(p:Addr) (ns:List Int),xs=[.ref p]/\SqL X.K H p (ns.map Q8)/\Q (.int ns.sum) H):=by
 intro pins s σ H xs us Q I r h;obtain⟨p,ns,rfl,hq,q⟩:=h;obtain⟨u,rfl,ru⟩:=fg r;cases ru;obtain⟨its,rv,hp,hz⟩:=I.list hq;have hi:Rp its ns:=bG rv;have hl:=hp.isList;obtain⟨zs,hx⟩:=hi.allInts.items;have hn:numsOf its.toArray.toList=ns:=by rw[show its.toArray.toList=its from rfl,hi.numsOf]
 rw[hx]at hl hn;rw[nums_intItems]at hn;refine sum_intListG (I.ok.hd hc) hl λh' tk t' hk=>?_
 refine⟨.int ns.sum,H,I.kept hk,⟨t',?_⟩,q⟩;rw[preSum_eq,GN (by simp),hn]
theorem qR{bs:List Bool}(h:bs.length=n):(GO n).all (λi=>bs.getD i true)=bs.all id:=by
 subst h;rw[JG,IC,IC];constructor
 ·intro h b hb
  obtain⟨i,hi,rfl⟩:=J9.mp hb;have:=h i (by simpa using hi);simpa [hi]using this
 ·intro h i hi
  have hi:i<bs.length:=by simpa using hi
  simp only[GG,GE hi,Om];exact h _ (GV hi)
theorem yo{bs:List Bool}(rv:Vals (bs.map Q9) its){v:Value}(h:its.toArray[i]? = some v){d:Bool}:v=.bool (bs.getD i d):=by
 have h':its[i]? = some v:=by simpa using h
 have hl:=rv.length;have hi:i<its.length:=(GM.mp h').1;have hi':i<bs.length:=by simpa using(by lia:i<(bs.map Q9).length)
 obtain⟨u,e,ru⟩:=rv.get (i:=i) (x:=Q9 bs[i]) (by simp[hi']);rw[h']at e;cases e;have:v=.bool bs[i]:=ru;rw[this];simp[hi']
theorem uS (hc:X.calm=true):cQ X (.builtin "all") (λxs H Q=>∃(p:Addr) (bs:List Bool),xs=[.ref p]/\SqL X.K H p (bs.map Q9)/\Q (.bl (bs.all id)) H):=by
 intro pins s σ H xs us Q I r h;obtain⟨p,bs,rfl,hq,q⟩:=h;obtain⟨u,rfl,ru⟩:=fg r;cases ru;obtain⟨its,rv,hp,hz⟩:=I.list hq;have hlt:p<s.heap.objs.size:=by obtain⟨o,e,_⟩:=hp.isList;exact GX e
 refine call_all_walk (wpAny_pyIter_list hp.isList ?_);refine⟨s.heap.objs.size,_,_,_,_,_,λi=>bs.getD i true,rfl,Qs (A:=X.A.in1) (I.ok.hd hc) _ p (Hf hlt) its.toArray,⟨⟨_,G1 _ rfl,rfl,rfl⟩,hp.isList.at λo e=>GI _ e⟩,?_,λh' tk hk=>?_⟩
 ·intro i v s Q E hv hQ
  rw[yo rv hv (d:=true)];exact RD hQ
 ·have e:(GO its.toArray.size).all (λi=>bs.getD i true)=bs.all id:=qR (by have:=rv.length;simpa using this)
  rw[e];exact⟨.bl (bs.all id),H,I.kept λb o e=>hk b o (by simp;exact Hf (GX e)) (GI _ e),rfl,q⟩
theorem uT:cQ X (.builtin "isinstance") (λxs H Q=>∃x t T b,xs=[x,.ty T]/\TyOf X.K H x t/\JS X.K t (.type T)=some b/\Q (.bl b) H):=by
 intro pins s σ H xs us Q I r h;obtain⟨x,t,T,b,rfl,ty,e,q⟩:=h;obtain⟨u,w',rfl,ru,rw'⟩:=x6 r;cases(show w'=Jl T from rw');exact qz I ru ty e λtk=>⟨.bl b,H,I.tok _,rfl,q⟩
example (K:GH):JS K (.type "int") (.type "int")=some true:=rfl
example (K:GH):JS K (.type "int") (.type "bool")=some false:=rfl
example (K:GH):JS K (.type "tuple") (.type "tuple")=some true:=rfl
end
noncomputable def bT:Expr->Bool
 | .Starred ..=>false
 | _=>true
theorem aK{es:List Expr}{env:Env}(h:bT e=true):Rl (e::es) env=(false,eval e env)::Rl es env:=by
 cases e<;>first|rfl|cases h
theorem fT{pos:Pos}{env:Env}:∀{es:List Expr},es.all bT=true->(RU pos (Rl es env)).any (·.1)=false
 | [],_=>rfl
 | e::es,h=>by
  rw[KM,Ip]at h;rw[aK h.1];exact fT (es:=es) h.2
section
variable{X:Cx}{CX:CXT}{k:Nat}{f:Addr}{fd:FuncData}{ps:List Str}{sp:Sp}{E:XK}{x:Str}{p pos apos cpos:Pos}{e o:Expr}{es:List Expr}{te to:TE}{t:TA}{id T:String}{name:Str}
theorem FZ(ha:PE X e te)(hr:PA X es t)(hn:bT e=true:=by rfl):PA X (e::es) (pq te t):=yd ha hr (aK hn)
theorem uU(F:FnOk X.prog X.w X.K X.mg X.base CX k f fd ps sp)(hr:Room k X.A)(hg:Gl X x)(hm:X.mg x=some (.ref f))(hk:ID X.K (.ref f)=true)(hb:Binds X.K fd ps [])(hx:dc CX X E)
  (ha:PA X (e::es) t) (hn:(e::es).all bT=true:=by rfl) (hdb:(x == ("__debug__" : Str))=false:=by decide):PE X (.Call (.Name x p) (e::es) [] pos) (qA sp [] E t):=by
 rw[KM,Ip]at hn;exact ye F hr hg hm hk hb .nil hx ha hdb (aK hn.1) (fT hn.2)
theorem qS {r:List V->Hp->VK->Prop}(hc:cQ X (.builtin id) r) (hg:Gl X x) (hm:X.mg x=none) (hv:bootBuiltins x=some (.builtin id)) (ha:PA X (e::es) t) (hn:(e::es).all bT=true:=by rfl) (hn2:x≠"__name__":=by decide) (hdb:(x == ("__debug__" : Str))=false:=by decide) :
  PE X (.Call (.Name x p) (e::es) [] pos) (tCB r t):=by
 rw[KM,Ip]at hn;exact uK hc hg hm hv ha hn2 hdb (aK hn.1) (fT hn.2)
theorem pH {r:List V->Hp->VK->Prop}(hc:cQ X (.type T) r) (hg:Gl X x) (hm:X.mg x=none) (hv:bootBuiltins x=some (.type T)) (ha:PA X (e::es) t) (hn:(e::es).all bT=true:=by rfl) (hn2:x≠"__name__":=by decide) (hdb:(x == ("__debug__" : Str))=false:=by decide) :
  PE X (.Call (.Name x p) (e::es) [] pos) (tCB r t):=by
 rw[KM,Ip]at hn;exact qE hc hg hm hv ha hn2 hdb (aK hn.1) (fT hn.2)
theorem lB {r:V->List V->Hp->VK->Prop}(pa:PlainAttrs T) (slot:Slot T name id) (hty:typeOf (.builtin id)=pure (.type "method_descriptor")) (hm:MtR X id r) (ho:PE X o to) (ha:PA X [e] t)
  (hbase:Rw o name X.env (eval o X.env)=eval o X.env:=by rfl) (hline:(apos.endLine == cpos.line)=true:=by rfl) (hn:bT e=true:=by rfl) :
  PE X (.Call (.Attribute o name apos) [e] [] cpos) (tBM X.K T r to t):=by
 refine Bc pa slot hty hm ho ha hbase ?_ hline (aK hn) rfl;rw[aK hn];rfl
end
section
variable{K:GH}{σ:St}{H:Hp}{Q:VK}{D:Ends}{E:XK}
theorem Ff{t u:TS}(h:t { D with nx:=u D } σ H):Dm t u D σ H:=h
theorem Fg{te:TE}(h:te σ H λx H1=>g x σ H1 D.nx):qf te g D σ H:=h
theorem uV{R:St->Hp->Prop}(h:R (σ.set i (some v)) H):fz i v σ H R:=h
theorem DW{t:xO}{R:St->Hp->Prop}(h:to σ H λo H1=>ti σ H1 λi H2=>t o i v H2 λH3=>R σ H3):Ds to ti t v σ H R:=h
theorem Fh{te:TE}(h:te σ H D.rt):Do te D σ H:=h
theorem DX{te:TE}(h:te σ H λ_ H1=>D.nx σ H1):xM te D σ H:=h
theorem DY(h:D.nx σ H):xH D σ H:=h
theorem F0{c:TT}{t u:TS}(h:c σ H λb H1=>if b=true then t D σ H1 else u D σ H1):Dp c t u D σ H:=h
theorem DZ{t:TE}{R:Bool->Hp->Prop}(h:t σ H λx H'=>∃k,x=.bl k/\R k H'):xY t σ H R:=h
theorem GB{t:TE}{R:Bool->Hp->Prop}(h:t σ H λx H'=>∃k,x=.bl k/\R k H'):tB t σ H R:=h
theorem F1{b:Bool}{R:Bool->Prop}(h:R b):∃k,Q9 b=.bl k/\R k:=⟨b,rfl,h⟩
theorem Fi{t:TT}{R:Bool->Hp->Prop}(h:t σ H λc H1=>R (!c) H1):Dk t σ H R:=h
theorem F5{t u:TT}{R:Bool->Hp->Prop}(h:t σ H λc H1=>if c=true then R true H1 else u σ H1 R):tOr t u σ H R:=h
theorem Fj{t u:TT}{R:Bool->Hp->Prop}(h:t σ H λc H1=>if c=true then u σ H1 R else R false H1):Dj t u σ H R:=h
theorem D0{tb:TE}(h:ta σ H λx H1=>∃c,x=.bl c/\if c=true then tb σ H1 Q else Q (.bl false) H1):xF ta tb σ H Q:=h
theorem D1(h:ta σ H λx H1=>∃c,x=.bl c/\Q (.bl (!c)) H1):xG ta σ H Q:=h
theorem GC(h:Q v H):tC v σ H Q:=h
theorem F8{r:R2}{tb:TE}(h:ta σ H λx H1=>tb σ H1 λy H2=>r x y H2 Q):tOp r ta tb σ H Q:=h
theorem Ga{r:V->Hp->VK->Prop}(h:ta σ H λx H1=>r x H1 Q):tUn r ta σ H Q:=h
theorem Gb{g:Int->Int->V}{i j:Int}(h:Q (g i j) H):rI0 g (.int i) (.int j) H Q:=⟨i,j,rfl,rfl,h⟩
theorem D2{C:Int->Int->Prop}{g:Int->Int->V}{i j:Int}(c:C i j)(h:Q (g i j) H):rI C g (.int i) (.int j) H Q:=⟨i,j,rfl,rfl,c,h⟩
theorem GD{g:Int->V}{i:Int}(h:Q (g i) H):rU g (.int i) H Q:=⟨i,rfl,h⟩
theorem Fk{i j:Int}(h:Q (.bl (decide (Q8 i=Q8 j))) H):rEq (.int i) (.int j) H Q:=⟨rfl,h⟩
theorem Fl{i j:Int}(h:Q (.bl (!decide (Q8 i=Q8 j))) H):rNe (.int i) (.int j) H Q:=⟨rfl,h⟩
theorem bx{i:Int}(s:SqL K H p xs)(a:atI xs i=some v)(h:Q v H):A2 K (.ref p) (.int i) H Q:=⟨p,xs,i,v,rfl,rfl,s,a,h⟩
theorem qT{i:Int}(s:SqT K H p xs)(a:atI xs i=some v)(h:Q v H):A3 K (.ref p) (.int i) H Q:=⟨p,xs,i,v,rfl,rfl,s,a,h⟩
theorem gR{k:Int}{R:Hp->Prop}(s:H p=some (.lst xs))(a:ixN xs.length k=some j)(h:R (upd H p (.lst (xs.set j v)))):pC (.ref p) (.int k) v H R:=⟨p,xs,k,j,rfl,rfl,s,a,h⟩
theorem Bi{i:Int}(s:H p=some (.lst xs))(h:∃v,atI xs i=some v/\Q v H):A2 K (.ref p) (.int i) H Q:=let⟨v,a,q⟩:=h;⟨p,xs,i,v,rfl,rfl,Q6 s,a,q⟩
theorem yp{i:Int}(s:H p=some (.tup xs))(h:∃v,atI xs i=some v/\Q v H):A3 K (.ref p) (.int i) H Q:=let⟨v,a,q⟩:=h;⟨p,xs,i,v,rfl,rfl,Q7 s,a,q⟩
theorem yq{k:Int}{R:Hp->Prop}(s:H p=some (.lst xs))(h:∃j,ixN xs.length k=some j/\R (upd H p (.lst (xs.set j v)))):pC (.ref p) (.int k) v H R:=let⟨j,a,q⟩:=h;⟨p,xs,k,j,rfl,rfl,s,a,q⟩
theorem Gc{r:List V->Hp->VK->Prop}(h:t σ H λvs H1=>r vs H1 Q):tCB r t σ H Q:=h
theorem D3{tr:TA}{R:List V->Hp->Prop}(h:ta σ H λx H1=>tr σ H1 λxs H2=>R (x::xs) H2):pq ta tr σ H R:=h
theorem Fm{R:List V->Hp->Prop}(h:R [] H):wO σ H R:=h
theorem D4{sp:Sp}(h:t σ H λvs H1=>sp (vs++[]) H1 Q E):qA sp [] E t σ H Q:=h
theorem Fn(h:t σ H λxs H1=>xs.length<=Rj/\∀p,H1 p=none->Q (.ref p) (upd H1 p (.lst xs))):DR t σ H Q:=h
theorem Fo(h:t σ H λxs H1=>xs.length<=Rj/\∀p,H1 p=none->Q (.ref p) (upd H1 p (.tup xs))):DQ t σ H Q:=h
theorem ki{A B:Prop}(h:A):if true=true then A else B:=by rw[if_pos rfl];exact h
theorem cR{A B:Prop}(h:B):if false=true then A else B:=by rw[if_neg Ha];exact h
theorem aV{c A B:Prop}[Decidable c](h1:c->A)(h2:¬c->B):if decide c=true then A else B:=by
 by_cases h:c
 ·rw[decide_eq_true h];exact ki (h1 h)
 ·rw[decide_eq_false h];exact cR (h2 h)
theorem dP{c A B:Prop}[Decidable c](hc:c)(h:A):if decide c=true then A else B:=by rw[decide_eq_true hc];exact ki h
theorem cD{c A B:Prop}[Decidable c](hc:¬c)(h:B):if decide c=true then A else B:=by rw[decide_eq_false hc];exact cR h
theorem iP{c A B:Prop}[Decidable c](hc:c)(h:B):if(!decide c)=true then A else B:=by rw[decide_eq_true hc];exact cR h
theorem aE(h:n<=1000):n<=Rj:=IU (au h)
theorem D5{i j:Int}(h1:0<j)(h2:j<2 ^ 64):qQ i j:=⟨h1,pG h1 h2⟩
theorem Gd{i j:Int}(h1:0<j)(h2:j<1073741824):DI i j:=⟨h1,h2⟩
theorem D6{i j:Int}(h1:-(2 ^ 64)<i)(h2:i<2 ^ 64):CMul i j:=.inl ⟨h1,h2⟩
theorem Ea{i j:Int}(h1:-(2 ^ 64)<j)(h2:j<2 ^ 64):CMul i j:=.inr ⟨h1,h2⟩
theorem Ge{i j:Int}(h1:0<=j)(h2:j<=1000000)(h3:i.natAbs<2 ^ 64):CP i j:=⟨h1,h2,h3⟩
theorem CS(h:Q (.int 1000000000000000000) H):rI CP (λi j=>.int (i ^ j.toNat)) (.int 10) (.int 18) H Q:=⟨10,18,rfl,rfl,⟨by decide,by decide,by decide⟩,by
 have e:(10:Int) ^ (18:Int).toNat=1000000000000000000:=by decide
 show Q (.int ((10:Int) ^ (18:Int).toNat)) H
 rw[e];exact h⟩
noncomputable abbrev RC:=List V->Hp->VK->Prop
def Eb:RC:=λxs H Q=>∃i,xs=[.int i]/\Q (.int (if i<0 then -i else i)) H
def yr:RC:=λxs H Q=>∃k,xs=[.bl k]/\Q (.int (if k then 1 else 0)) H
def yt:RC:=λxs H Q=>∃i j,xs=[.int i,.int j]/\Q (.int (if j<i then j else i)) H
def Bj(K:GH):RC:=λxs H Q=>∃p ys,xs=[.ref p]/\(SqL K H p ys\/SqT K H p ys)/\Q (.int ys.length) H
def Ec(K:GH):RC:=λxs H Q=>∃(p:Addr) (ns:List Int),xs=[.ref p]/\SqL K H p (ns.map Q8)/\Q (.int ns.sum) H
def Ed(K:GH):RC:=λxs H Q=>∃(p:Addr) (bs:List Bool),xs=[.ref p]/\SqL K H p (bs.map Q9)/\Q (.bl (bs.all id)) H
def nX(K:GH):RC:=λxs H Q=>∃x t T b,xs=[x,.ty T]/\TyOf K H x t/\JS K t (.type T)=some b/\Q (.bl b) H
def mV(K:GH):RC:=λxs H Q=>∃p ys,xs=[.ref p]/\(SqL K H p ys\/SqT K H p ys)/\∀l,H l=none->Q (.ref l) (upd H l (.lst ys))
def fU(K:GH):RC:=λxs H Q=>∃p ys,xs=[.ref p]/\((SqL K H p ys/\∀l,H l=none->Q (.ref l) (upd H l (.tup ys)))\/(SqT K H p ys/\Q (.ref p) H))
section
variable{X:Cx}
theorem Bk:cQ X (.builtin "abs") Eb:=uD
theorem Bl:cQ X (.type "int") yr:=λpins s σ H xs us Q I r h=>qu pins s σ H xs us Q I r (.inr h)
theorem Bm (hc:X.calm=true):cQ X (.builtin "min") yt:=qr hc
theorem Bo:cQ X (.builtin "len") (Bj X.K):=lj
theorem Bp (hc:X.calm=true):cQ X (.builtin "sum") (Ec X.K):=uR hc
theorem Bq (hc:X.calm=true):cQ X (.builtin "all") (Ed X.K):=uS hc
theorem Br:cQ X (.builtin "isinstance") (nX X.K):=uT
theorem yu:cQ X (.type "list") (mV X.K):=lq
theorem uW:cQ X (.type "tuple") (fU X.K):=ke
end
theorem Fp{i:Int}(h:Q (.int (if i<0 then -i else i)) H):Eb [.int i] H Q:=⟨i,rfl,h⟩
theorem Ee{k:Bool}(h:Q (.int (if k then 1 else 0)) H):yr [.bl k] H Q:=⟨k,rfl,h⟩
theorem Fq{i j:Int}(h:Q (.int (if j<i then j else i)) H):yt [.int i,.int j] H Q:=⟨i,j,rfl,h⟩
theorem aJ(s:SqL K H p ys)(h:Q (.int ys.length) H):Bj K [.ref p] H Q:=⟨p,ys,rfl,.inl s,h⟩
theorem kj(s:SqT K H p ys)(h:Q (.int ys.length) H):Bj K [.ref p] H Q:=⟨p,ys,rfl,.inr s,h⟩
theorem jM{ns:List Int}(s:SqL K H p (ns.map Q8))(h:Q (.int ns.sum) H):Ec K [.ref p] H Q:=⟨p,ns,rfl,s,h⟩
theorem qU{bs:List Bool}(s:SqL K H p (bs.map Q9))(h:Q (.bl (bs.all id)) H):Ed K [.ref p] H Q:=⟨p,bs,rfl,s,h⟩
theorem CT {i:Int}(h:Q (.bl true) H):nX K [.int i,.ty "int"] H Q:=⟨_,_,_,_,rfl,.int i,rfl,h⟩
theorem CU {i:Int}(h:Q (.bl false) H):nX K [.int i,.ty "bool"] H Q:=⟨_,_,_,_,rfl,.int i,rfl,h⟩
theorem km (s:H p=some (.tup xs)) (h:Q (.bl true) H):nX K [.ref p,.ty "tuple"] H Q:=⟨_,_,_,_,rfl,.tup s,rfl,h⟩
theorem nY (s:H p=some (.lst xs)) (h:Q (.bl true) H):nX K [.ref p,.ty "list"] H Q:=⟨_,_,_,_,rfl,.lst s,rfl,h⟩
theorem iQ(s:SqL K H p ys\/SqT K H p ys)(h:∀l,H l=none->Q (.ref l) (upd H l (.lst ys))):mV K [.ref p] H Q:=⟨p,ys,rfl,s,h⟩
theorem fV(s:SqL K H p ys)(h:∀l,H l=none->Q (.ref l) (upd H l (.tup ys))):fU K [.ref p] H Q:=⟨p,ys,rfl,.inl ⟨s,h⟩⟩
theorem qV(s:SqT K H p ys)(h:Q (.ref p) H):fU K [.ref p] H Q:=⟨p,ys,rfl,.inr ⟨s,h⟩⟩
theorem dz{r:Int}(h0:0<=r)(h1:r<xs.length):∃v,atI xs r=some v/\v∈xs:=by
 have hl:r.toNat<xs.length:=by lia
 have e:r=(r.toNat:Int):=by lia
 refine⟨xs[r.toNat],?_,GV hl⟩;have:=ba (xs:=xs) (j:=r.toNat) (v:=xs[r.toNat]) (by simp[hl]);rw[<-e]at this;exact this
theorem Ft (h:wi σ H λJ H1=>∃W:Nat->Nat->St->Hp->Prop,(∃m,W 0 m σ H1)/\∀i m σ H,W i m σ H->
 (J.stop i H/\D.nx σ H)\/(J.go i H/\∃N:St->Hp->Prop,(∀σ' H',N σ' H'->∃m',m'<m/\W (i+1) m' σ' H')/\∀x H',J.yld i H x H'->g x σ H' λσ2 H2=>tb { D with nx:=N,ct:=N,bk:=D.nx } σ2 H2)):Dx wi g tb D σ H:=h
theorem Ef{ta:TA}{R:It->Hp->Prop}(h:ta σ H λvs H1=>∃j:Int,vs=[.int j]/\-(2 ^ 62)<=j/\j<2 ^ 62/\R (Itr 0 j.toNat) H1):xT ta σ H R:=h
theorem CV{tl:TE}{R:It->Hp->Prop}(h:tl σ H λx H1=>∃a,x=.ref a/\(∃xs,SqL K H1 a xs)/\R (Itl K a) H1):xR K tl σ H R:=h
theorem Eg{tl:TE}{R:It->Hp->Prop}(h:tl σ H λx H1=>∃a,x=.ref a/\(∃xs,SqT K H1 a xs)/\R (Itt K a) H1):Dw K tl σ H R:=h
theorem Gf{A B:Prop}(h:B):if(!true)=true then A else B:=cR h
theorem Gg{A B:Prop}(h:A):if(!false)=true then A else B:=ki h
theorem Eh {te:TE}{tgs:List Str}(h:wi σ H λJ H1=>
 ∃W:Nat->Nat->List V->St->Hp->Prop,(∃m,W 0 m [] (fq tgs ix σ) H1)/\∀i m xs σc H,W i m xs σc H->xs.length<Rj/\
  ((J.stop i H/\∀p,H p=none->Q (.ref p) (upd H p (.lst xs)))\/(J.go i H/\∀x H',J.yld i H x H'->g x σc H' λσ2 H2=>te σ2 H2 λy H3=>∃m',m'<m/\W (i+1) m' (xs++[y]) σ2 H3))):qO wi g te tgs ix σ H Q:=h
theorem dvp(n b k:Nat):n / b ^ k / b=n / b ^ (k+1):=by rw[Nat.div_div_eq_div_mul,Lb]
theorem uX{pl:Nat}(hb:2<=b)(h:0<n / b ^ pl):2 ^ (pl+1)<=2*n+1:=by
 have h1:b ^ pl<=n:=(OJ.mp h).2;have h2:2 ^ pl<=b ^ pl:=Nat.pow_le_pow_left hb pl;rw[Lb];lia
end
structure QE (X:Cx) (e:Expr) (t:TE):Prop where
 out:PE X e t
structure QT (X:Cx) (e:Expr) (t:TT):Prop where
 out:PT X e t
structure QW (X:Cx) (e:Expr) (t:TT):Prop where
 out:PW X e t
structure QA (X:Cx) (es:List Expr) (t:TA):Prop where
 out:PA X es t
structure QO (X:Cx) (e:Option Expr) (t:TO):Prop where
 out:PO X e t
structure QI (X:Cx) (tg iter:Expr) (t:TI):Prop where
 out:PI X tg iter t
structure QG (X:Cx) (tg:Expr) (t:TG):Prop where
 out:PG X tg t
structure QGs (X:Cx) (ts:List Expr) (t:TGs):Prop where
 out:PGs X ts t
structure QS (X:Cx) (st:Stmt) (t:TS):Prop where
 out:PS X st t
structure QB (X:Cx) (sts:List Stmt) (t:TS):Prop where
 out:PSs X sts t
structure QOp (X:Cx) (f:Value->Value->Sem Value) (r:R2):Prop where
 out:OpR X f r
structure QUn (X:Cx) (f:Value->Sem Value) (r:V->Hp->VK->Prop):Prop where
 out:UnR X f r
structure QC (X:Cx) (f:Value) (r:List V->Hp->VK->Prop):Prop where
 out:cQ X f r
structure QIx (X:Cx) (r:R2):Prop where
 out:IxR X r
structure QSl (X:Cx) (r:V->Option Int->Option Int->Hp->VK->Prop):Prop where
 out:SlR X r
noncomputable def Fu:Expr->Bool
 | .Slice ..=>false
 | _=>true
theorem uY{b:Expr}(h:Fu b=true):qG b:=by
 cases b<;>first|(intro _ _;rfl)|cases h
def Fv(K:GH)(ta:TE):TT:=λσ H Q=>ta σ H λx H'=>∃k,zW K x H' k/\Q k H'
section
variable{X:Cx}{a b c e o:Expr}{es rest:List Expr}{ta tb tc te to ti:TE}{tA tB':TT}{t:TA}{pos p p2 apos cpos:Pos}{r r':R2}{x:Str}
theorem qv (i:Nat){x:Str}{pos:Pos}(hN:X.N[i]? = some x:=by rfl) (hv:Vis X.env.scope x:=by first | exact JU rfl | exact QJ (JU rfl) | exact QJ (QJ rfl)) (hd:(x == ("__debug__" : Str))=false:=by decide)
  (hcd:(x == ("__classdict__" : Str))=false:=by decide):QE X (.Name x pos) (Dh i):=⟨Ag hN hv hd hcd⟩
theorem aj{i j pos}:QE X (.Constant (.int i) j pos) (tC (.int i)):=⟨wI⟩
theorem fi{b j pos}:QE X (.Constant (.bool b) j pos) (tC (.bl b)):=⟨Di⟩
theorem dv{j pos}:QE X (.Constant .none j pos) (tC .non):=⟨Ai⟩
theorem bK{x j pos}:QE X (.Constant (.str x) j pos) (tC (.str x)):=⟨Aj⟩
theorem ay (hg:Gl X x) (hm:X.mg x=none) (hv:bootBuiltins x=some u) (r:RelV v u) (hn:x≠"__name__":=by decide) (hd:(x == ("__debug__" : Str))=false:=by decide):QE X (.Name x pos) (tC v):=⟨xD hg hm hv r hn hd⟩
theorem aI{op:Operator}(ho:QOp X (RF op) r)(ha:QE X a ta)(hb:QE X b tb):QE X (.BinOp a op b pos) (tOp r ta tb):=⟨Dz ho.out ha.out hb.out⟩
theorem fj{op:UnaryOp}{r:V->Hp->VK->Prop}(ho:QUn X (unaryOp op) r)(ha:QE X a ta):QE X (.UnaryOp op a pos) (tUn r ta):=⟨AI ho.out ha.out⟩
theorem aN{op:CmpOp}(ho:QOp X (Rm op) r)(ha:QE X a ta)(hb:QE X b tb)(hm:RX op b=false):QE X (.Compare a [op] [b] pos) (tOp r ta tb):=⟨xX ho.out ha.out hb.out hm⟩
theorem az{op:CmpOp}(ho:QOp X (Rm op) r)(ha:QE X a ta)(hb:QE X b tb)(hm:RX op b=false):QT X (.Compare a [op] [b] pos) (xY (tOp r ta tb)):=⟨xZ ho.out ha.out hb.out hm⟩
theorem bX{op}(h:QE X a ta):QE X (.BoolOp op [a] pos) ta:=⟨Ap h.out⟩
theorem bI(ha:QE X a ta)(hb:QE X (.BoolOp .And (b::rest) pos) tb):QE X (.BoolOp .And (a::b::rest) pos) (xF ta tb):=⟨Aq ha.out hb.out⟩
theorem jN(ha:QE X a ta):QE X (.UnaryOp .Not a pos) (xG ta):=⟨Ar ha.out⟩
theorem fv(ha:QT X a tA):QT X (.UnaryOp .Not a pos) (Dk tA):=⟨Ao ha.out⟩
theorem bE(h:QE X a ta)(he:∀whole,isTrue a X.env whole=(do let v <-whole;RS a.pos;RB [v] (truthy v)):=by intro _;rfl):QT X a (tB ta):=⟨Ak h.out he⟩
theorem fW{K:GH}(h:QE X a ta)(he:∀whole,isTrue a X.env whole=(do let v <-whole;RS a.pos;RB [v] (truthy v)):=by intro _;rfl)(hK:X.K=K:=by rfl):QT X a (Fv K ta):=by subst hK;exact⟨uC h.out he⟩
theorem kn(ha:QT X a tA):QW X (.BoolOp .And [a] pos) tA:=⟨xE ha.out⟩
theorem dX(ha:QT X a tA):QW X (.BoolOp .Or [a] pos) tA:=⟨Am ha.out⟩
theorem nZ(ha:QT X a tA)(hb:QW X (.BoolOp .And (b::rest) pos) tB'):QW X (.BoolOp .And (a::b::rest) pos) (Dj tA tB'):=⟨An ha.out hb.out⟩
theorem gz(ha:QT X a tA)(hb:QW X (.BoolOp .Or (b::rest) pos) tB'):QW X (.BoolOp .Or (a::b::rest) pos) (tOr tA tB'):=⟨Dl ha.out hb.out⟩
theorem QW.qt(h:QW X e tA):QT X e tA:=⟨h.out.pt⟩
theorem aa:QA X [] wO:=⟨AW⟩
theorem ah(ha:QE X e te)(hr:QA X es t)(hn:bT e=true:=by rfl):QA X (e::es) (pq te t):=⟨FZ ha.out hr.out hn⟩
theorem aQ(h:QA X es t):QE X (.List es pos) (DR t):=⟨AY h.out⟩
theorem bB{x1}(h:QA X es t):QE X (.Tuple es x1 pos) (DQ t):=⟨AX h.out⟩
theorem aO(hr:QIx X r)(ha:QE X a ta)(hb:QE X b tb)(hs:Fu b=true:=by rfl):QE X (.Subscript a b pos) (tOp r ta tb):=⟨DS hr.out ha.out hb.out (uY hs)⟩
theorem qW:QO X none mP:=⟨yi⟩
theorem cx(h:QE X e te):QO X (some e) (yh te):=⟨yj h.out⟩
theorem c0{r:V->Option Int->Option Int->Hp->VK->Prop}{lo hi:Option Expr}{tl th:TO}(hr:QSl X r)(he:QE X e te)(hl:QO X lo tl)(hu:QO X hi th):QE X (.Subscript e (.Slice lo hi none p2) pos) (tSl r te tl th):=⟨uN hr.out he.out hl.out hu.out⟩
theorem ag {id:String}{r:RC}(hc:QC X (.builtin id) r) (hg:Gl X x) (hm:X.mg x=none) (hv:bootBuiltins x=some (.builtin id)) (ha:QA X (e::es) t) (hn:(e::es).all bT=true:=by rfl) (hn2:x≠"__name__":=by decide) (hdb:(x == ("__debug__" : Str))=false:=by decide) :
  QE X (.Call (.Name x p) (e::es) [] pos) (tCB r t):=⟨qS hc.out hg hm hv ha.out hn hn2 hdb⟩
theorem bq {T:String}{r:RC}(hc:QC X (.type T) r) (hg:Gl X x) (hm:X.mg x=none) (hv:bootBuiltins x=some (.type T)) (ha:QA X (e::es) t) (hn:(e::es).all bT=true:=by rfl) (hn2:x≠"__name__":=by decide) (hdb:(x == ("__debug__" : Str))=false:=by decide) :
  QE X (.Call (.Name x p) (e::es) [] pos) (tCB r t):=⟨pH hc.out hg hm hv ha.out hn hn2 hdb⟩
theorem mW{CX:CXT}{f:Addr}{fd:FuncData}{ps:List Str}{sp:Sp}{E:XK}(F:FnOk X.prog X.w X.K X.mg X.base CX k f fd ps sp)(hr:Room k X.A)(hg:Gl X x)(hm:X.mg x=some (.ref f))(hk:ID X.K (.ref f)=true)(hb:Binds X.K fd ps [])(hx:dc CX X E)
  (ha:QA X (e::es) t) (hn:(e::es).all bT=true:=by rfl) (hdb:(x == ("__debug__" : Str))=false:=by decide):QE X (.Call (.Name x p) (e::es) [] pos) (qA sp [] E t):=⟨uU F hr hg hm hk hb hx ha.out hn hdb⟩
theorem br {K:GH}(ho:QE X o to) (ha:QA X [e] t) (hbase:Rw o ("append" : Str) X.env (eval o X.env)=eval o X.env:=by rfl) (hline:(apos.endLine == cpos.line)=true:=by rfl) (hn:bT e=true:=by rfl) (hK:X.K=K:=by rfl) :
  QE X (.Call (.Attribute o "append" apos) [e] [] cpos) (tBM K "list" mS to t):=by subst hK;exact⟨lB IR PySem.F.slot_list_append PySem.F.type_list_append qH ho.out ha.out hbase hline hn⟩
variable{tg iter:Expr}{wi:TI}{g:TG}{i:Nat}{u:TGs}
theorem dY {p pos:Pos}(hg:Gl X "range") (hm:X.mg "range" = none) (ha:QA X [a] t) (hn:bT a=true:=by rfl):QI X tg (.Call (.Name "range" p) [a] [] pos) (xT t):=⟨qj hg hm ha.out (aK hn)⟩
theorem aS{K:GH}(hl:QE X e te)(hK:X.K=K:=by rfl):QI X tg e (xR K te):=by subst hK;exact⟨xS hl.out⟩
theorem lC{K:GH}(hl:QE X e te)(hK:X.K=K:=by rfl):QI X tg e (Dw K te):=by subst hK;exact⟨Az hl.out⟩
theorem yw(hN:X.N.Nodup)(hi:X.N[i]? = some x)(hx:Loc X.env.scope x)(hf:X.fn x=true\/X.env.scope.names.lookup x=some .local:=by first|exact .inl rfl|exact .inr rfl|assumption):QG X (.Name x pos) (fz i):=⟨xP hN hi hx hf⟩
theorem aY:QGs X [] CN:=⟨xQ⟩
theorem av{ts:List Expr}(h1:QG X e g)(h2:QGs X ts u)(hs:(RG (e::ts) X.env).map (·.2)=assign e X.env::(RG ts X.env).map (·.2):=by rfl):QGs X (e::ts) (mN g u):=⟨ux h1.out h2.out hs⟩
theorem bF{K:GH}{ts:List Expr}(hc:X.calm=true)(h:QGs X ts u)(hn:(RG ts X.env).length=n:=by rfl)(hst:(RG ts X.env).findIdx? (·.1)=none:=by rfl)(hK:X.K=K:=by rfl):QG X (.Tuple ts k pos) (CO K n u):=by subst hK;exact⟨Au hc h.out hn hst⟩
variable{st:Stmt}{sts s1 s2:List Stmt}{T1 T2:TS}
theorem aG:QB X [] xH:=⟨xI⟩
theorem ae(h1:QS X st T1)(h2:QB X sts T2):QB X (st::sts) (Dm T1 T2):=⟨uv h1.out h2.out⟩
theorem ak(h1:QS X st T1):QB X [st] T1:=⟨xJ h1.out⟩
theorem aw(he:QE X e te):QS X (.Return (some e) pos) (Do te):=⟨As he.out⟩
theorem bV:QS X st wJ:=⟨uw⟩
theorem bb(he:QE X e te)(hs:RT e none pos.line X.env=pure false:=by rfl):QS X (.Expr e pos) (xM te):=⟨xN he.out hs⟩
theorem aT(hc:QT X c tA)(ha:QB X s1 T1)(hb:QB X s2 T2):QS X (.If c s1 s2 pos) (Dp tA T1 T2):=⟨Dq hc.out ha.out hb.out⟩
theorem Bs(hN:X.N.Nodup)(hi:X.N[i]? = some x)(hx:Loc X.env.scope x)(he:QE X e te)(hs:RT e (some (.Name x pos')) pos.line X.env=pure false:=by rfl)(hf:X.fn x=true\/X.env.scope.names.lookup x=some .local:=by first|exact .inl rfl|exact .inr rfl|assumption):
  QS X (.Assign [.Name x pos'] e pos) (qf te (fz i)):=⟨Aw hN hi hx he.out hs hf⟩
theorem iR{tpos:Pos}(he:QE X e te)(ho:QE X o to)(hi:QE X b tb)
  (ha:∀v,assign (.Subscript o b tpos) X.env v=(do
   let ov <-RB [v] (eval o X.env)
   let iv <-RB [v,ov] (eval b X.env)
   RS tpos
   RB [v,ov,iv] (setItem ov iv v)
   release [v,ov,iv] []):=by intro _;rfl)
  (hs:RV [.Subscript o b tpos] e pos.line X.env=pure false:=by rfl) (hw:RW [.Subscript o b tpos] e X.env=pure none:=by rfl)
  (h1:(RG [.Subscript o b tpos] X.env).map (·.2)=[assign (.Subscript o b tpos) X.env]:=by rfl):QS X (.Assign [.Subscript o b tpos] e pos) (qf te (Ds to tb pC)):=⟨qg he.out (Av ho.out hi.out kb ha) hs hw h1⟩
theorem iS{op:Operator}{ti:R2}(hN:X.N.Nodup)(hi:X.N[i]? = some x)(hx:Loc X.env.scope x)(he:QE X e te)(ho:QOp X (R0 op) ti)(hf:X.fn x=true\/X.env.scope.names.lookup x=some .local:=by first|exact .inl rfl|exact .inr rfl|assumption):
  QS X (.AugAssign (.Name x pos') op e pos) (Du i te ti):=⟨Ay hN hi hx he.out ho.out hf⟩
theorem lD{i:Nat}{x y:Str}{a b:Expr}{ta:TA}{px pt:Pos}{kt k2 pt2}(hc:X.calm=true)(hN:X.N.Nodup)(hi:X.N[i]? = some x)(hj:X.N[j]? = some y)(hij:i≠j)
  (hx:X.env.scope.names.lookup x=some .local) (hy:X.env.scope.names.lookup y=some .local) (ha:QA X [a,b] ta)
  (hw:RW [.Tuple [.Name x px,.Name y py] kt pt] (.Tuple [a,b] k2 pt2) X.env=pure (some [x,y]):=by rfl)
  (hs:RV [.Tuple [.Name x px,.Name y py] kt pt] (.Tuple [a,b] k2 pt2) pos.line X.env=pure false:=by rfl) :
  QS X (.Assign [.Tuple [.Name x px,.Name y py] kt pt] (.Tuple [a,b] k2 pt2) pos) (Dt i j ta):=⟨Ax hc hN hi hj hij hx hy ha.out hw hs⟩
theorem cF(hp:PassesOwn (model X.prog X.w) X.A X.env X.xe)(hc:QT X c tA)(hb:QB X sts T1):QS X (.While c sts [] pos) (wL tA T1):=⟨uz hp hc.out hb.out⟩
theorem cA(hp:PassesOwn (model X.prog X.w) X.A X.env X.xe)(hc:X.calm=true)(hi:QI X tg iter wi)(hg:QG X tg g)(hb:QB X sts T1)(hs:∀x,Rr iter X.env x=pure x:=by intro _;rfl):QS X (.For tg iter sts [] pos) (Dx wi g T1):=⟨AG hp hc hi.out hg.out hb.out hs⟩
theorem a0{N tgs frs:List Str}{cl:List (Str×Addr)}(c:CompOk X N tgs frs ix scope cl)(hc:X.calm=true)(hi:QI X tg iter wi)
  (hg:∀fp C s H,QG (bD X N scope cl fp C s H) tg g) (he:∀fp C s H,QE (bD X N scope cl fp C s H) elt te)
  (hs:∀x,Rr iter X.env x=pure x:=by intro _;rfl) :
  QE X (.ListComp elt [⟨tg,iter,[],0⟩] scope pos) (qO wi g te tgs ix):=⟨yn c hc hi.out (λfp C s H=>(hg fp C s H).out) (λfp C s H=>(he fp C s H).out) hs⟩
theorem cV:QOp X (RF .Add) (rI0 λi j=>.int (i+j)):=⟨AL⟩
theorem dM:QOp X (RF .Sub) (rI0 λi j=>.int (i - j)):=⟨AM⟩
theorem fC:QOp X (RF .Mult) (rI CMul λi j=>.int (i*j)):=⟨AN⟩
theorem dZ:QOp X (RF .FloorDiv) (rI qQ λi j=>.int (i / j)):=⟨uQ⟩
theorem gA:QOp X (RF .Mod) (rI (λ_ j=>0<j) λi j=>.int (i % j)):=⟨AO⟩
theorem pI:QOp X (RF .Pow) (rI CP λi j=>.int (i ^ j.toNat)):=⟨AQ⟩
theorem Bt:QOp X (RF .Add) Fd:=⟨Be⟩
theorem qX:QOp X (RF .Mult) Fe:=⟨Bf⟩
theorem eV:QOp X (Rm .Eq) rEq:=⟨DJ⟩
theorem Bu:QOp X (Rm .NotEq) rNe:=⟨DK⟩
theorem n8:QOp X (Rm .Lt) (rI0 λi j=>.bl (decide (i<j))):=⟨DL⟩
theorem qb:QOp X (Rm .Gt) (rI0 λi j=>.bl (decide (j<i))):=⟨DM⟩
theorem Ei:QOp X (Rm .GtE) (rI0 λi j=>.bl (decide (j<=i))):=⟨DN⟩
theorem jO:QOp X (R0 .Add) (rI0 λi j=>.int (i+j)):=⟨xV⟩
theorem qY:QOp X (R0 .FloorDiv) (rI DI λi j=>.int (i / j)):=⟨uB⟩
theorem fk:QUn X (unaryOp .USub) (rU λi=>.int (-i)):=⟨wM⟩
theorem bc{K:GH}(hK:X.K=K:=by rfl):QIx X (A2 K):=by subst hK;exact⟨ix_list⟩
theorem ie{K:GH}(hK:X.K=K:=by rfl):QIx X (A3 K):=by subst hK;exact⟨ix_tup⟩
theorem lE{K:GH}(hK:X.K=K:=by rfl):QSl X (CQ K):=by subst hK;exact⟨yk⟩
theorem qZ:QC X (.builtin "abs") Eb:=⟨Bk⟩
theorem og:QC X (.type "int") yr:=⟨Bl⟩
theorem rb (hc:X.calm=true):QC X (.builtin "min") yt:=⟨Bm hc⟩
theorem aU {K:GH}(hK:X.K=K:=by rfl):QC X (.builtin "len") (Bj K):=by subst hK;exact⟨Bo⟩
theorem lF {K:GH}(hc:X.calm=true) (hK:X.K=K:=by rfl):QC X (.builtin "sum") (Ec K):=by subst hK;exact⟨Bp hc⟩
theorem rf {K:GH}(hc:X.calm=true) (hK:X.K=K:=by rfl):QC X (.builtin "all") (Ed K):=by subst hK;exact⟨Bq hc⟩
theorem aR {K:GH}(hK:X.K=K:=by rfl):QC X (.builtin "isinstance") (nX K):=by subst hK;exact⟨Br⟩
theorem mX {K:GH}(hK:X.K=K:=by rfl):QC X (.type "list") (mV K):=by subst hK;exact⟨yu⟩
theorem cG {K:GH}(hK:X.K=K:=by rfl):QC X (.type "tuple") (fU K):=by subst hK;exact⟨uW⟩
end
section
variable{P:Program}{w:World}{K:GH}{mg:Str->Option Value}{base:Heap}
theorem Fun.okQ{st:Stmt}{f:Addr}{fd:FuncData}{N ps:List Str}{sp:Sp}(F:Fun K x qual st f fd)(S:FnScope N ps (aM st))(len:∀vs H Q E,sp vs H Q E->vs.length=ps.length)
  (hbody:∀(cdv:Value) (A:Around) (outer:List Env) (s:Shared) (H:Hp) (vs:List V) (Q:VK) (E:XK),Room k (A.deeper (envOfC qual (aM st) s.heap.objs.size f cdv))->sp vs H Q E->
   ∃t,QB (uJ CX0 P w K mg base N qual (aM st) f cdv A outer s H E).nox (cU st) t/\t { nx:=λ_ H'=>Q .non H',rt:=Q } (start N vs) H):FnOk P w K mg base CX0 (k+1) f fd ps sp:=
 F.ok S len λcdv A outer s H vs Q E hr hsp=>by
  obtain⟨t,h,q⟩:=hbody cdv A outer s H vs Q E hr hsp;exact⟨t,h.out,q⟩
end
def Ej(K:GH)(te:TE):TE:=λσ H Q=>te σ H λx H1=>∃a xs,x=.ref a/\SqL K H1 a xs/\∀p,H1 p=none->Q (.ref p) (upd H1 p (.lst xs.reverse))
section
variable{X:Cx}{e:Expr}{te:TE}{pos p1 p2 p3:Pos}{j:Nat}
theorem Bv(he:PE X e te):PE X (.Subscript e (.Slice none none (some (.UnaryOp .USub (.Constant (.int 1) j p1) p2)) p3) pos) (Ej X.K te):=by
 intro pins s σ H Q I h;refine Subscript_ (thn (he pins s σ H _ I h) λv s1 ⟨x,H1,I1,r1,q1⟩=>?_);obtain⟨a,xs,rfl,hx,q⟩:=q1;cases r1;refine wpAny_Slice (evalPart_none_step (evalPart_none_step (evalPart_some_step ?_)));refine thn (AI (X:=X) wM wI pins s1 σ H1 (λx H'=>x=.int (-1)/\H'=H1) I1 ⟨1,rfl,rfl,rfl⟩) λvk s2 ⟨y,H2,I2,r2,e2,e3⟩=>?_
 subst e2 e3;obtain⟨t,rfl⟩:=r2;have I4:Inv X pins σ H2 { s2 with heap:=s2.heap.push { cls:=.type "slice",data:=.fields #[.none,.none,.int (-1) t] } }:=I2.kept (t':=s2.toks) λb ob q=>GI _ q
 obtain⟨its,r,ht,hz⟩:=I4.list hx;have hlen:=r.length;show wpAny (model X.prog X.w) X.A (subscriptTail e (.Slice none none (some (.UnaryOp .USub (.Constant (.int 1) j p1) p2)) p3) (.ref a) (.ref s2.heap.objs.size)) (EP X pins σ Q) X.xe { s2 with heap:=s2.heap.push { cls:=.type "slice",data:=.fields #[.none,.none,.int (-1) t] } }
 refine tail_any (ops:=[.ref a,.ref s2.heap.objs.size]) ht.isList.typeIs slot_list_getitem.lookup ?_ (by with_unfolding_all rfl);refine wpAny_getItem_list_slice ht.isList (Lv ..) .none .none (.int (-1) t) (by decide) ?_ (by rw[GQ];lia);rw[PySem.W.krv_pick];refine⟨.ref _,_,I4.laid (t':=s2.toks) (o:=.lst xs.reverse) (λb ob q=>GI _ q) (GJ _) ?_,rfl,q _ (I4.hok.fresh (GJ _))⟩;exact⟨by rw[IF];exact hz,its.reverse,0,r.reverse,G1 _ rfl⟩
theorem rg{K:GH}(he:QE X e te)(hK:X.K=K:=by rfl):QE X (.Subscript e (.Slice none none (some (.UnaryOp .USub (.Constant (.int 1) j p1) p2)) p3) pos) (Ej K te):=by subst hK;exact⟨Bv he.out⟩
end
theorem iT(ns ms:List Int):((GO (min ns.length ms.length)).all (λi=>ns.getD i 0 == ms.getD i 0) && ns.length == ms.length)=decide (ns=ms):=by
 rw[JG,Ip,IC,decide_eq_true_iff,beq_iff_eq];constructor
 ·rintro⟨h,hl⟩
  apply Jy hl;intro i h1 h2;have:=h i (by simp;lia);simpa [h1,h2]using this
 ·rintro rfl
  exact⟨λi _=>by simp,rfl⟩
section
variable{X:Cx}
theorem wV{ns:List Int}(rv:Vals (ns.map Q8) its)(h:i<its.toArray.size):∃t,its.toArray[i]=.int (ns.getD i 0) t:=by
 have hl:=rv.length;have h':i<ns.length:=by simp at hl h;lia
 obtain⟨u,e,ru⟩:=rv.get (i:=i) (x:=Q8 ns[i]) (by simp[h']);obtain⟨t,rfl⟩:=ru;refine⟨t,?_⟩;have e2:its.toArray[i]? = some (.int ns[i] t):=by simpa using e
 have e3:its.toArray[i]=.int ns[i] t:=by
  have:=(Array.getElem?_eq_some_iff.mp e2).2;exact this
 rw[e3];simp[h']
theorem iU{A:Around}{s:Shared}{ns ms:List Int}{its2:List Value}(r1:Vals (ns.map Q8) its)(r2:Vals (ms.map Q8) its2)(j:Nat)(h1:j<its.toArray.size)(h2:j<its2.toArray.size):
  Qq A s its.toArray[j] its2.toArray[j] (ns.getD j 0 == ms.getD j 0):=by
 obtain⟨t,e⟩:=wV r1 h1;obtain⟨u,e'⟩:=wV r2 h2;rw[e,e'];exact Nq _ _ _ _
def Fw(K:GH):R2:=λx y H Q=>∃(a b:Addr) (ns ms:List Int),x=.ref a/\y=.ref b/\SqT K H a (ns.map Q8)/\SqT K H b (ms.map Q8)/\Q (.bl (decide (ns=ms))) H
theorem Bw(hu:X.A.units<cLine):OpR X (Rm .Eq) (Fw X.K):=by
 intro pins s σ H x y v u Q I rx ry h;obtain⟨a,b,ns,ms,rfl,rfl,ha,hb,q⟩:=h;cases rx;cases ry;obtain⟨its,r1,p1,z1⟩:=I.tuple ha;obtain⟨its2,r2,p2,z2⟩:=I.tuple hb;refine QR (e:=λi=>ns.getD i 0 == ms.getD i 0) p1 p2 hu (λj h1 h2=>iU r1 r2 j h1 h2) X.prog X.w X.xe _ ?_;have l1:its.toArray.size=ns.length:=by have:=r1.length;simp at this;simp[this]
 have l2:its2.toArray.size=ms.length:=by have:=r2.length;simp at this;simp[this]
 rw[l1,l2,iT];exact⟨.bl _,H,I,rfl,q⟩
theorem yx{K:GH}(hu:X.A.units<cLine)(hK:X.K=K:=by rfl):QOp X (Rm .Eq) (Fw K):=by subst hK;exact⟨Bw hu⟩
end
section
variable{K:GH}{σ:St}{H:Hp}{Q:VK}{D:Ends}
theorem Fx{te:TE}(h:te σ H λx H1=>∃a xs,x=.ref a/\SqL K H1 a xs/\∀p,H1 p=none->Q (.ref p) (upd H1 p (.lst xs.reverse))):Ej K te σ H Q:=h
theorem Ek{tb:TE}(h:ta σ H λx H1=>tb σ H1 λy H2=>(λx y=>∃v w,[x,y]=[v,w]/\D.nx ((σ.set i (some v)).set j (some w)) H2) x y):Dt i j (pq ta (pq tb wO)) D σ H:=h
theorem yy{x:V}{R:V->V->Prop}(h:R x y):∃v w,[x,y]=[v,w]/\R v w:=⟨x,y,rfl,h⟩
theorem Gh{r:V->List V->Hp->VK->Prop}{T:String}(h:to σ H λx H1=>tyV K T x H1/\t σ H1 λxs H2=>r x xs H2 Q):tBM K T r to t σ H Q:=h
theorem aW(s:H l=some (.lst xs))(z:xs.length<Rj)(h:Q .non (upd H l (.lst (xs++[y])))):mS (.ref l) [y] H Q:=⟨l,xs,y,rfl,rfl,s,z,h⟩
theorem a9 (h:H l=some (.lst xs)):tyV K "list" (.ref l) H:=.inl ⟨rfl,_,Q6 h⟩
theorem Same.tup{H1:Hp}{a:Addr}{xs:List V}(e:Same H H1)(h:SqT K H a xs):SqT K H1 a xs:=by
 rcases h with(h|⟨o,h⟩)|h
 ·exact .inl (.inl (e _ _ h))
 ·exact .inl (.inr ⟨o,e _ _ h⟩)
 ·exact .inr h
theorem Same.new(e:Same H H1)(h:H1 p=none):Same H (upd H1 p o):=λb u q=>by rw[ar (aq (e b u q) h)];exact e b u q
theorem Same.own(e:Same H H1)(h:H p=none):Same H (upd H1 p o):=λb u q=>by rw[ar (aq q h)];exact e b u q
end
def Nx(n i:Nat)(P:Prop):Prop:=∃m',m'<n - i/\m'=n - (i+1)/\i+1<=n/\P
theorem Nx.mk{P:Prop}(h:i<n)(p:P):Nx n i P:=⟨n - (i+1),by lia,rfl,h,p⟩
section
variable{K:GH}{H:Hp}{g:TG}{te:TE}{σ0:St}{R:List V->Hp->Prop}
theorem uZ(Pv:Nat->List V->St->Hp->Prop)(hz:n<Rj)(hl:∀i ys σ H,Pv i ys σ H->ys.length=i)(h0:Pv 0 [] σ0 H)
  (hs:∀i ys σ H,i<n->Pv i ys σ H->g (.int (0+i)) σ H λσ2 H2=>te σ2 H2 λy H3=>Nx n i (Pv (i+1) (ys++[y]) σ2 H3)) (hd:∀ys σ H,Pv n ys σ H->R ys H) :
  ∃W:Nat->Nat->List V->St->Hp->Prop,(∃m,W 0 m [] σ0 H)/\∀i m xs σc H,W i m xs σc H->xs.length<Rj/\
  (((Itr 0 n).stop i H/\R xs H)\/((Itr 0 n).go i H/\∀x H',(Itr 0 n).yld i H x H'->g x σc H' λσ2 H2=>te σ2 H2 λy H3=>∃m',m'<m/\W (i+1) m' (xs++[y]) σ2 H3)):=by
 refine⟨λi m xs σ H=>m=n - i/\i<=n/\Pv i xs σ H,⟨n,by simp,GW _,h0⟩,?_⟩;rintro i m xs σ H ⟨rfl,hi,p⟩;refine⟨by rw[hl i xs σ H p];exact HR hi hz,?_⟩;by_cases hlt:i<n
 ·refine .inr ⟨hlt,λx H' y=>?_⟩
  obtain⟨e,y⟩:=y;subst e y;exact hs i xs σ _ hlt p
 ·have e:i=n:=by lia
  subst e;exact .inl ⟨GJ _,hd xs σ H p⟩
theorem fX{vs:List V}(Pv:Nat->List V->St->Hp->Prop)(hz:vs.length<Rj)(hl:∀i ys σ H,Pv i ys σ H->ys.length=i)(ht:∀i ys σ H,Pv i ys σ H->SqT K H a vs)(h0:Pv 0 [] σ0 H)
  (hs:∀i ys σ H x,vs[i]? = some x->Pv i ys σ H->g x σ H λσ2 H2=>te σ2 H2 λy H3=>Nx vs.length i (Pv (i+1) (ys++[y]) σ2 H3)) (hd:∀ys σ H,Pv vs.length ys σ H->R ys H) :
  ∃W:Nat->Nat->List V->St->Hp->Prop,(∃m,W 0 m [] σ0 H)/\∀i m xs σc H,W i m xs σc H->xs.length<Rj/\
  (((Itt K a).stop i H/\R xs H)\/((Itt K a).go i H/\∀x H',(Itt K a).yld i H x H'->g x σc H' λσ2 H2=>te σ2 H2 λy H3=>∃m',m'<m/\W (i+1) m' (xs++[y]) σ2 H3)):=by
 refine⟨λi m xs σ H=>m=vs.length - i/\i<=vs.length/\Pv i xs σ H,⟨vs.length,by simp,GW _,h0⟩,?_⟩;rintro i m xs σ H ⟨rfl,hi,p⟩;have q:=ht i xs σ H p;refine⟨by rw[hl i xs σ H p];exact HR hi hz,?_⟩;by_cases hlt:i<vs.length
 ·refine .inr ⟨⟨vs,vs[i],q,by simp[hlt]⟩,λx H' y=>?_⟩
  obtain⟨e,y⟩:=y;subst e;exact hs i xs σ _ x (y vs q) p
 ·have e:i=vs.length:=by lia
  subst e;exact .inl ⟨⟨vs,q,GJ _⟩,hd xs σ H p⟩
theorem aX{vs:List V}(Pv:Nat->List V->St->Hp->Prop)(hz:vs.length<Rj)(hl:∀i ys σ H,Pv i ys σ H->ys.length=i)(ht:∀i ys σ H,Pv i ys σ H->SqL K H a vs)(h0:Pv 0 [] σ0 H)
  (hs:∀i ys σ H x,vs[i]? = some x->Pv i ys σ H->g x σ H λσ2 H2=>te σ2 H2 λy H3=>Nx vs.length i (Pv (i+1) (ys++[y]) σ2 H3)) (hd:∀ys σ H,Pv vs.length ys σ H->R ys H) :
  ∃W:Nat->Nat->List V->St->Hp->Prop,(∃m,W 0 m [] σ0 H)/\∀i m xs σc H,W i m xs σc H->xs.length<Rj/\
  (((Itl K a).stop i H/\R xs H)\/((Itl K a).go i H/\∀x H',(Itl K a).yld i H x H'->g x σc H' λσ2 H2=>te σ2 H2 λy H3=>∃m',m'<m/\W (i+1) m' (xs++[y]) σ2 H3)):=by
 refine⟨λi m xs σ H=>m=vs.length - i/\i<=vs.length/\Pv i xs σ H,⟨vs.length,by simp,GW _,h0⟩,?_⟩;rintro i m xs σ H ⟨rfl,hi,p⟩;have q:=ht i xs σ H p;refine⟨by rw[hl i xs σ H p];exact HR hi hz,?_⟩;by_cases hlt:i<vs.length
 ·refine .inr ⟨⟨vs,vs[i],q,by simp[hlt]⟩,λx H' y=>?_⟩
  obtain⟨e,y⟩:=y;subst e;exact hs i xs σ _ x (y vs q) p
 ·have e:i=vs.length:=by lia
  subst e;exact .inl ⟨⟨vs,q,GJ _⟩,hd xs σ H p⟩
end
noncomputable def dg(n b m:Nat):List Int:=(GO m).map λj=>((n / b ^ (m - 1 - j) % b:Nat):Int)
theorem Bx(n b m:Nat):((GO m).map λj=>Q8 ((n / b ^ j % b:Nat):Int)).reverse=(dg n b m).map Q8:=by
 unfold dg;rw[<-KR,<-PySem.W.krv_range,IV,IV];rfl
section
variable{X:Cx}{N tgs frs:List Str}{ix:List Nat}{scope:Scope}{cl:List (Str×Addr)}
theorem yz{spos:Pos}{y:Str}{iy:Nat}{te:TE}(hN:X.N.Nodup)(hy:X.N[iy]? = some y)(hx:Loc X.env.scope y)(c:CompOk X N tgs frs ix scope cl)(hc:X.calm=true)(hi:PI X tg iter wi)
  (hg:∀fp C s H,PG (bD X N scope cl fp C s H) tg g) (he:∀fp C s H,PE (bD X N scope cl fp C s H) elt te)
  (hs:∀x,Rr iter X.env x=pure x:=by intro _;rfl)
  (hsw:RT (.ListComp elt [⟨tg,iter,[],0⟩] scope pos) (some (.Name y py)) spos.line X.env=pure true:=by rfl)
  (hf:X.fn y=true\/X.env.scope.names.lookup y=some .local:=by first|exact .inl rfl|exact .inr rfl|assumption) :
  PS X (.Assign [.Name y py] (.ListComp elt [⟨tg,iter,[],0⟩] scope pos) spos) (qf (qO wi g te tgs ix) (fz iy)):=ym (oc:=none) (tb:=tbE te) hN hy hx c hc hi hg (λfp C s H=>.no (he fp C s H)) hs hsw hf
theorem ko{spos:Pos}{y:Str}{te:TE}(hN:X.N.Nodup)(hy:X.N[i]? = some y)(hx:Loc X.env.scope y)(c:CompOk X N tgs frs ix scope cl)(hc:X.calm=true)(hi:QI X tg iter wi)
  (hg:∀fp C s H,QG (bD X N scope cl fp C s H) tg g) (he:∀fp C s H,QE (bD X N scope cl fp C s H) elt te)
  (hs:∀x,Rr iter X.env x=pure x:=by intro _;rfl)
  (hsw:RT (.ListComp elt [⟨tg,iter,[],0⟩] scope pos) (some (.Name y py)) spos.line X.env=pure true:=by rfl)
  (hf:X.fn y=true\/X.env.scope.names.lookup y=some .local:=by first|exact .inl rfl|exact .inr rfl|assumption) :
  QS X (.Assign [.Name y py] (.ListComp elt [⟨tg,iter,[],0⟩] scope pos) spos) (qf (qO wi g te tgs ix) (fz i)):=
 ⟨yz hN hy hx c hc hi.out (λfp C s H=>(hg fp C s H).out) (λfp C s H=>(he fp C s H).out) hs hsw hf⟩
end
section
variable{prog:Program}{w:World}{A:Around}{E:Value->Shared->Prop}{s:Shared}
end
section
variable{X:Cx}{pos:Pos}{u:TGs}
end
noncomputable def fD(bs:List Nat):Nat:=bs.foldl Kl 1
theorem oh(m n:Nat):m / Jv m n*n=Kl m n:=by
 rw[Kl,Nat.div_mul_right_comm (On m n)]
theorem oi:∀(bs:List Nat) (a m:Nat),a∣m->(∀b∈bs,b∣m)->bs.foldl Kl a∣m
 | [],a,m,h,_=>h
 | b::bs,a,m,h,hb=>oi bs _ m (Nat.lcm_dvd h (hb b (by simp))) λc hc=>hb c (by simp[hc])
theorem oj:∀(bs:List Nat) (a:Nat),a∣bs.foldl Kl a/\∀b∈bs,b∣bs.foldl Kl a
 | [],a=>⟨Nat.dvd_refl a,λ_ h=>nomatch h⟩
 | b::bs,a=>by
  obtain⟨h1,h2⟩:=oj bs (Kl a b);refine⟨Pa (Nat.dvd_lcm_left a b) h1,λc hc=>?_⟩;rcases GZ.mp hc with rfl|hc
  ·exact Pa (Nat.dvd_lcm_right a c) h1
  ·exact h2 c hc
theorem u0{bs:List Nat}(h:∀b∈bs,b∣m):fD bs∣m:=oi bs 1 m (Nat.one_dvd m) h
theorem oo{bs:List Nat}(h:b∈bs):b∣fD bs:=(oj bs 1).2 b h
theorem oq{bs:List Nat}(h:∀b∈bs,1<=b/\b<=60):0<fD bs:=by
 have:∀(bs:List Nat) (a:Nat),0<a->(∀b∈bs,1<=b/\b<=60)->0<bs.foldl Kl a:=by
  intro bs
  induction bs with
  | nil=>intro a ha _;exact ha
  | cons b bs ih=>intro a ha hb;exact ih _ (Nat.lcm_pos ha (by have:=(hb b (by simp)).1;lia)) λc hc=>hb c (by simp[hc])
 exact this bs 1 (by decide) h
theorem lG(bs:List Nat)(i:Nat)(b:Nat)(h:bs[i]? = some b):fD (bs.take (i+1))=Kl (fD (bs.take i)) b:=by
 have et:bs.take (i+1)=bs.take i++[b]:=by rw[G4,h];rfl
 unfold fD;rw[et,List.foldl_append];rfl
noncomputable def zX:Nat:=2 ^ 5*(3 ^ 3*(5 ^ 2*(7 ^ 2*(11 ^ 1*(13 ^ 1*(17 ^ 1*(19 ^ 1*(23 ^ 1*(29 ^ 1*(31 ^ 1*(37 ^ 1*(41 ^ 1*(43 ^ 1*(47 ^ 1*(53 ^ 1*(59 ^ 1*1))))))))))))))))
theorem rh:∀b,b<=60->1<=b->b∣zX:=by
 have key:∀b:_root_.Fin 61,1<=b.val->zX % b.val=0:=by decide +kernel
 intro b h1 h2;exact Nat.dvd_of_mod_eq_zero (key ⟨b,by lia⟩ h2)
theorem By{bs:List Nat}(hb:∀b∈bs,1<=b/\b<=60):fD bs∣zX:=u0 λb h=>rh b (hb b h).2 (hb b h).1
theorem ot{g l:Nat}(h:0<l):Jv l (g % l)=Jv g l:=by
 rw[PY g l,Nat.gcd_rec l g,PY]
def PartsT(H:Hp)(ps:List Addr)(tb:List (Int×Nat)):Prop:=ps.length=tb.length/\∀(i:Nat) (p:Addr) (z:Int×Nat),ps[i]? = some p->tb[i]? = some z->H p=some (.tup [.int z.1,.int z.2])
theorem PartsT.same{H:Hp}{tb:List (Int×Nat)}(h:PartsT H ps tb)(e:Same H H1):PartsT H1 ps tb:=⟨h.1,λi p z a b=>e _ _ (h.2 i p z a b)⟩
theorem bO{α:Type}{xs:List α}{x:α}{y:α}(h:(xs++[x])[i]? = some y):(i<xs.length/\xs[i]? = some y)\/(i=xs.length/\y=x):=by
 rcases Iv i xs.length with l|l|l
 ·rw[GU l]at h;exact .inl ⟨l,h⟩
 ·subst l;simp at h;exact .inr ⟨rfl,h.symm⟩
 ·rw[JV (by simp;lia)]at h;cases h
section
variable{X:Cx}{pins:List (Addr×Obj)}{σ:St}{H:Hp}{s:Shared}{h':Heap}
theorem Inv.turnedAll{ch:List Addr}(I:Inv X pins σ H s)(k:∀b o,b∉ch->s.heap.get? b=some o->h'.get? b=some o)(hf:∀b∈ch,uq X pins H b):Inv X pins σ H { s with heap:=h',toks:=t' }:=by
 have nit:∀b u,H b=some u->b∉ch:=λb u e z=>by rw[(hf b z).1]at e;cases e
 refine I.step (g':=s.gens) (d':=s.drawn) (ch:=ch) (λb hb=>?_) (λb o _ _ hc e _=>k b o hc e) (λb o _ _ hc e _=>⟨o.slots,k b o hc e⟩) (λ_ _ _ _ n=>n)
  (λb o hc e=>⟨o,k b o hc e⟩) (λ_ _ e=>e) (λ_ _ _ e=>e) (λb ps e=>⟨#[],by rw[e];simp⟩) (λm hm=>?_) (λb u e=>?_) I.bare
 ·obtain⟨_,f1,_,f3,f4,f5⟩:=hf b hb
  exact⟨f3,f1,f4,f5⟩
 ·obtain⟨o,es,ep,q,r⟩:=hm
  exact⟨o,es,ep,k _ o (λz=>(hf _ z).2.1 rfl) q,r⟩
 ·refine(I.hok b u e).stay (λc v hc q=>k c v ?_ q) (λ_ q=>q) λ_ _ q=>q
  rcases hc with z|z
  ·rw[z];exact nit b u e
  ·exact nit c _ z
end
section
variable{X:Cx}
def Bz(K:GH):RC:=λxs H Q=>∃(p:Addr) (ns:List Int),xs=[.ref p]/\(SqL K H p (ns.map Q8)\/SqT K H p (ns.map Q8))/\ns≠[]/\∀M,M∈ns->(∀a∈ns,M<=a)->Q (.int M) H
def BA(K:GH):RC:=λxs H Q=>∃(p:Addr) (ns:List Int),xs=[.ref p]/\(SqL K H p (ns.map Q8)\/SqT K H p (ns.map Q8))/\ns≠[]/\∀M,M∈ns->(∀a∈ns,a<=M)->Q (.int M) H
theorem eW{zs:Array (Int×Tok)}{ns:List Int}(hn:zs.toList.map (·.1)=ns)(i:Nat):numAt zs i=ns.getD i 0:=by
 subst hn;unfold numAt;rw[GG,GK,JT]
theorem ou{zs:Array (Int×Tok)}{ns:List Int}(hn:zs.toList.map (·.1)=ns)(h0:ns≠[]):let M:=numAt zs (argBest (λi j=>decide (numAt zs i<numAt zs j)) (zs.size - 1));M∈ns/\∀a∈ns,M<=a:=by
 have hz:ns.length=zs.size:=by rw[<-hn];simp
 have hp:0<ns.length:=Ij.mpr h0;obtain⟨b1,b2⟩:=argBest_lt (numAt zs) (zs.size - 1);refine⟨?_,λa ha=>?_⟩
 ·rw[eW hn,GG,GE ⋯]
  exact GV _
 ·obtain⟨j,hj,rfl⟩:=J9.mp ha
  have:=b2 j ⋯;rw[eW hn j,GG,GE hj]at this;exact this
theorem ow{zs:Array (Int×Tok)}{ns:List Int}(hn:zs.toList.map (·.1)=ns)(h0:ns≠[]):let M:=numAt zs (argBest (λi j=>decide (numAt zs i > numAt zs j)) (zs.size - 1));M∈ns/\∀a∈ns,a<=M:=by
 have hz:ns.length=zs.size:=by rw[<-hn];simp
 have hp:0<ns.length:=Ij.mpr h0;obtain⟨b1,b2⟩:=argBest_gt (numAt zs) (zs.size - 1);refine⟨?_,λa ha=>?_⟩
 ·rw[eW hn,GG,GE ⋯]
  exact GV _
 ·obtain⟨j,hj,rfl⟩:=J9.mp ha
  have:=b2 j ⋯;rw[eW hn j,GG,GE hj]at this;exact this
theorem eX{ns:List Int}(rv:Vals (ns.map Q8) its):∃zs:Array (Int×Tok),its.toArray=RY zs/\zs.toList.map (·.1)=ns:=by
 have hi:Rp its ns:=bG rv;obtain⟨zs,hx⟩:=hi.allInts.items;have hn:numsOf its.toArray.toList=ns:=by rw[show its.toArray.toList=its from rfl,hi.numsOf]
 rw[hx,nums_intItems]at hn;exact⟨zs,hx,hn⟩
theorem lH {t:Addr}(ht:h.IsTuple t items):∀b∈[h.objs.size,t],b<(h.push { cls:=.type "tuple_iterator",data:=.fields #[.ref t,.int 0 0] }).objs.size:=by
 intro b hb;rw[Jj];obtain⟨_,e,_⟩:=ht;simp only[GZ,Ho,or_false]at hb;rcases hb with rfl|rfl
 ·exact KQ _
 ·exact JO (GX e)
theorem ox{g:Heap}{o:Obj}(hk:∀b u,b∉[h.objs.size]->(h.push o).get? b=some u->g.get? b=some u):∀b u,h.get? b=some u->g.get? b=some u:=λb u e=>by
 refine hk b u ?_ (GI _ e);intro hm;have e2:b=h.objs.size:=by simpa using hm
 exact absurd (e2▸GX e) (Iw _)
theorem rj {K:GH}(hc:X.calm=true) (hK:X.K=K:=by rfl):QC X (.builtin "min") (Bz K):=by
 subst hK;refine⟨λpins s σ H xs us Q I r h=>?_⟩;obtain⟨p,ns,rfl,hq,h0,q⟩:=h;obtain⟨u,rfl,ru⟩:=fg r;cases ru;rcases hq with hq|hq
 ·obtain⟨its,rv,hp,hz⟩:=I.list hq
  obtain⟨zs,hx,hn⟩:=eX rv;have hl:=hp.isList;rw[hx]at hl;obtain⟨m1,m2⟩:=ou hn h0;refine min_intList (I.ok.hd hc) hl ?_ λv h' tk hv hk=>?_
  ·have:zs.toList.length=ns.length:=by rw[<-hn];simp
   have:=Ij.mpr h0;simp at *;lia
  ·obtain⟨t,rfl⟩:=intItems_at hv
   exact⟨.int _,H,I.kept hk,⟨t,rfl⟩,q _ m1 m2⟩
 ·obtain⟨its,rv,hp,hz⟩:=I.tuple hq
  obtain⟨zs,hx,hn⟩:=eX rv;have ht:s.heap.IsTuple p (RY zs):=by rw[<-hx];exact hp
  have hlt:p<s.heap.objs.size:=by obtain⟨_,e,_⟩:=ht;exact GX e
  obtain⟨m1,m2⟩:=ou hn h0;refine call_min_walk (RM ht ?_);refine⟨_,_,_,_,_,_,_,rfl,Qi (A:=X.A.in1) (I.ok.hd hc) _ p (Hf hlt) (RY zs),⟨⟨_,G1 _ rfl,rfl,rfl⟩,ht.push _⟩,lH ht,?_,CmpOf.ints_lt (numAt zs) (λ_ _=>intItems_at),λv h' tk hv hk=>?_⟩
  ·have:zs.toList.length=ns.length:=by rw[<-hn];simp
   have:=Ij.mpr h0;simp[RY]at *;lia
  ·have hv':(RY zs)[argBest (λi j=>decide (numAt zs i<numAt zs j)) (zs.size - 1)]? = some v:=by simpa [RY]using hv
   obtain⟨t,rfl⟩:=intItems_at hv';exact⟨.int _,H,I.kept (ox hk),⟨t,rfl⟩,q _ m1 m2⟩
theorem rk {K:GH}(hc:X.calm=true) (hK:X.K=K:=by rfl):QC X (.builtin "max") (BA K):=by
 subst hK;refine⟨λpins s σ H xs us Q I r h=>?_⟩;obtain⟨p,ns,rfl,hq,h0,q⟩:=h;obtain⟨u,rfl,ru⟩:=fg r;cases ru;rcases hq with hq|hq
 ·obtain⟨its,rv,hp,hz⟩:=I.list hq
  obtain⟨zs,hx,hn⟩:=eX rv;have hl:=hp.isList;rw[hx]at hl;obtain⟨m1,m2⟩:=ow hn h0;refine max_intList (I.ok.hd hc) hl ?_ λv h' tk hv hk=>?_
  ·have:zs.toList.length=ns.length:=by rw[<-hn];simp
   have:=Ij.mpr h0;simp at *;lia
  ·obtain⟨t,rfl⟩:=intItems_at hv
   exact⟨.int _,H,I.kept hk,⟨t,rfl⟩,q _ m1 m2⟩
 ·obtain⟨its,rv,hp,hz⟩:=I.tuple hq
  obtain⟨zs,hx,hn⟩:=eX rv;have ht:s.heap.IsTuple p (RY zs):=by rw[<-hx];exact hp
  have hlt:p<s.heap.objs.size:=by obtain⟨_,e,_⟩:=ht;exact GX e
  obtain⟨m1,m2⟩:=ow hn h0;refine call_max_walk (RM ht ?_);refine⟨_,_,_,_,_,_,_,rfl,Qi (A:=X.A.in1) (I.ok.hd hc) _ p (Hf hlt) (RY zs),⟨⟨_,G1 _ rfl,rfl,rfl⟩,ht.push _⟩,lH ht,?_,Pb (numAt zs) (λ_ _=>intItems_at),λv h' tk hv hk=>?_⟩
  ·have:zs.toList.length=ns.length:=by rw[<-hn];simp
   have:=Ij.mpr h0;simp[RY]at *;lia
  ·have hv':(RY zs)[argBest (λi j=>decide (numAt zs i > numAt zs j)) (zs.size - 1)]? = some v:=by simpa [RY]using hv
   obtain⟨t,rfl⟩:=intItems_at hv';exact⟨.int _,H,I.kept (ox hk),⟨t,rfl⟩,q _ m1 m2⟩
def Fy(K:GH):R2:=λx y H Q=>∃(a b:Addr) (ns ms:List Int),x=.ref a/\y=.ref b/\SqL K H a (ns.map Q8)/\SqL K H b (ms.map Q8)/\Q (.bl (!decide (ns=ms))) H
def Fz(K:GH):R2:=λx y H Q=>∃(a b:Addr) (ns ms:List Int),x=.ref a/\y=.ref b/\SqL K H a (ns.map Q8)/\SqL K H b (ms.map Q8)/\Q (.bl (decide (ns=ms))) H
theorem oy{ns ms:List Int}(hl:ns.length=ms.length):(GO ns.length).all (λi=>ns.getD i 0 == ms.getD i 0)=decide (ns=ms):=by
 have:=iT ns ms;rw[hl,Nat.min_self,beq_self_eq_true,Bool.and_true]at this;rw[hl];exact this
theorem El{K:GH}(hu:X.A.units<cLine)(hK:X.K=K:=by rfl):QOp X (Rm .NotEq) (Fy K):=by
 subst hK;refine⟨λpins s σ H x y v u Q I rx ry h=>?_⟩;obtain⟨a,b,ns,ms,rfl,rfl,ha,hb,q⟩:=h;cases rx;cases ry;obtain⟨its,r1,p1,z1⟩:=I.list ha;obtain⟨its2,r2,p2,z2⟩:=I.list hb;have l1:its.toArray.size=ns.length:=by have:=r1.length;simp at this;simp[this]
 have l2:its2.toArray.size=ms.length:=by have:=r2.length;simp at this;simp[this]
 by_cases hl:ns.length=ms.length
 ·refine Ny (e:=λi=>ns.getD i 0 == ms.getD i 0) p1.isList p2.isList ⋯ hu (λj h1 h2=>iU r1 r2 j h1 h2) X.prog X.w X.xe _ ?_
  rw[l1,oy hl];exact⟨.bl _,H,I,rfl,q⟩
 ·refine LK p1.isList p2.isList (by rw[l1,l2];simpa using hl) hu X.prog X.w X.xe _ ?_
  have e:decide (ns=ms)=false:=decide_eq_false λz=>hl (by rw[z])
  rw[e]at q;exact⟨.bl true,H,I,rfl,q⟩
theorem u4{K:GH}(hu:X.A.units<cLine)(hK:X.K=K:=by rfl):QOp X (Rm .Eq) (Fz K):=by
 subst hK;refine⟨λpins s σ H x y v u Q I rx ry h=>?_⟩;obtain⟨a,b,ns,ms,rfl,rfl,ha,hb,q⟩:=h;cases rx;cases ry;obtain⟨its,r1,p1,z1⟩:=I.list ha;obtain⟨its2,r2,p2,z2⟩:=I.list hb;have l1:its.toArray.size=ns.length:=by have:=r1.length;simp at this;simp[this]
 have l2:its2.toArray.size=ms.length:=by have:=r2.length;simp at this;simp[this]
 by_cases hl:ns.length=ms.length
 ·refine Oo (e:=λi=>ns.getD i 0 == ms.getD i 0) p1.isList p2.isList ⋯ hu (λj h1 h2=>iU r1 r2 j h1 h2) X.prog X.w X.xe _ ?_
  rw[l1,oy hl];exact⟨.bl _,H,I,rfl,q⟩
 ·refine Mb p1.isList p2.isList (by rw[l1,l2];simpa using hl) hu X.prog X.w X.xe _ ?_
  have e:decide (ns=ms)=false:=decide_eq_false λz=>hl (by rw[z])
  rw[e]at q;exact⟨.bl false,H,I,rfl,q⟩
end
section
variable{K:GH}{H:Hp}{Q:VK}
theorem rm{ns:List Int}(hs:SqL K H p (ns.map Q8)\/SqT K H p (ns.map Q8))(h0:ns≠[])(h:∀M,M∈ns->(∀a∈ns,M<=a)->Q (.int M) H):Bz K [.ref p] H Q:=⟨p,ns,rfl,hs,h0,h⟩
theorem rn{ns:List Int}(hs:SqL K H p (ns.map Q8)\/SqT K H p (ns.map Q8))(h0:ns≠[])(h:∀M,M∈ns->(∀a∈ns,a<=M)->Q (.int M) H):BA K [.ref p] H Q:=⟨p,ns,rfl,hs,h0,h⟩
theorem BB{b:Addr}{ns ms:List Int}(ha:SqL K H a (ns.map Q8))(hb:SqL K H b (ms.map Q8))(h:Q (.bl (!decide (ns=ms))) H):Fy K (.ref a) (.ref b) H Q:=⟨a,b,ns,ms,rfl,rfl,ha,hb,h⟩
theorem BC{b:Addr}{ns ms:List Int}(ha:SqL K H a (ns.map Q8))(hb:SqL K H b (ms.map Q8))(h:Q (.bl (decide (ns=ms))) H):Fz K (.ref a) (.ref b) H Q:=⟨a,b,ns,ms,rfl,rfl,ha,hb,h⟩
end
section
variable{prog:Program}{w:World}{A:Around}{E:Value->Shared->Prop}{s:Shared}
theorem jP{t:Addr}{vs:Array Value}{x:Value}(a1:s.heap.IsTupleIter it t i)(a2:s.heap.IsTuple t vs)(a3:vs[i]? = some x)
  (a4:∀g,g.IsTupleIter it t (i+1)->L1 it s.heap g->Q x { s with heap:=g }):wpAny (model prog w) A (Iq (.ref it)) Q E s:=by
 have ty:=a1.typeIs;obtain⟨u,e1,e2,e3⟩:=a1;obtain⟨v,f1,_,m,f3⟩:=a2;unfold Iq;refine Rh (Rx (name:=He "__next__") ty Jp (RE Jp ty Ly ?_ (Lq _)));show wpAny _ _ (JM (.ref it) 0 >>= _) _ _ s
 refine Rh (Ru e1 e3 (x:=.ref t) rfl ?_);show wpAny _ _ (ite ((Hq t == Hr)=true) _ _) _ _ s
 rw[if_neg (λz:(Hq t == Hr)=true=>Ha z)];show wpAny _ _ (JM (.ref it) 1 >>= _) _ _ s
 refine Rh (Ru e1 e3 (x:=.int i 0) rfl ?_);show wpAny _ _ (OK (.ref t) >>= _) _ _ s
 refine Rh (Rz f1 f3 ?_);simp only[a3,Ih];refine Rh (wpAny_setField e1 e3 (by simp) (Ri ⟨x,rfl,Ri (a4 _ ?_ (Ji ..))⟩));refine⟨_,MN _ e1 (Obj.isFreed_of_fields (Nz e3 _)),(Obj.cls_mapFields ..).trans e2,?_⟩;rw[Nz e3];simp[RJ]
theorem rp{t:Addr}{vs:Array Value}(hh:A.handled=none)(a1:s.heap.IsTupleIter it t i)(a2:s.heap.IsTuple t vs)(a3:vs[i]? = none)
  (a4:∀g e,Heap.ExtBut it s.heap g->(∃o,g.get? e=some o/\o.cls=.type "StopIteration")->E (.ref e) { s with heap:=g }):wpAny (model prog w) A (Iq (.ref it)) Q E s:=by
 have ty:=a1.typeIs;obtain⟨u,e1,e2,e3⟩:=a1;obtain⟨v,f1,_,m,f3⟩:=a2;unfold Iq;refine Rh (Rx (name:=He "__next__") ty Jp (RE Jp ty Ly ?_ (Lq _)));show wpAny _ _ (JM (.ref it) 0 >>= _) _ _ s
 refine Rh (Ru e1 e3 (x:=.ref t) rfl ?_);show wpAny _ _ (ite ((Hq t == Hr)=true) _ _) _ _ s
 rw[if_neg (λz:(Hq t == Hr)=true=>Ha z)];show wpAny _ _ (JM (.ref it) 1 >>= _) _ _ s
 refine Rh (Ru e1 e3 (x:=.int i 0) rfl ?_);show wpAny _ _ (OK (.ref t) >>= _) _ _ s
 refine Rh (Rz f1 f3 ?_);simp only[a3,Ih];refine Rh (RZ (Rh (wpAny_setField e1 e3 (by simp) ?_)));show wpAny _ _ (PySem.newExc (.type "StopIteration") [] >>= _) _ _ _
 refine Rh ?_;simp only[newTuple,newExc];refine Rh (Ry ?_ (by size_fits));refine Rh (m:=PySem.firstArgMember _ _) (wpAny_of_eq (a:=Hr) (by first|rfl|(simp only[firstArgMember];rfl)) ?_);refine Ry ?_ (by size_fits);simp only[raiseNew];refine Rh (wpAny_handled ?_)
 first
  | rw[show A.in1.handled=none from hh]
  | rw[hh]
 refine Rh (Ri (wpAny_throw ?_));exact a4 _ _ (((Ji ..).extBut.push _).push _) ⟨_,G1 _ rfl,rfl⟩
end
def Em(K:GH)(a:Addr):It:=
 ⟨λi H=>∃xs x,SqL K H a xs/\xs[i]? = some x,λi H v H'=>∃p x,v=.ref p/\H p=none/\H'=upd H p (.tup [.int i,x])/\∀xs,SqL K H a xs->xs[i]? = some x,λi H=>∃xs,SqL K H a xs/\xs.length=i⟩
theorem iV{b:Addr}{o u:Obj}{x y:String}(e1:h.get? a=some o)(c1:o.cls=.type x)(e2:h.get? b=some u)(c2:u.cls=.type y)(hn:x≠y):a≠b:=λz=>by
 subst z;rw[e1]at e2;cases e2;rw[c1]at c2;exact hn (by injection c2)
theorem Inv.pair{H:Hp}{s:Shared}{g:Heap}{ch:List Addr}{v:Value}{x:V}(I:Inv X pins σ H s)(k:∀b o,b∉ch->s.heap.get? b=some o->g.get? b=some o)(hf:∀b∈ch,uq X pins H b)
  (hg:g.get? s.heap.objs.size=some { cls:=.type "tuple",data:=.seq #[u,v] }) (rx:RelV x u) (ry:RelV y v):Inv X pins σ (upd H s.heap.objs.size (.tup [x,y])) { s with heap:=g,toks:=tk }/\H s.heap.objs.size=none:=by
 have I1:Inv X pins σ H { s with heap:=g,toks:=tk }:=I.turnedAll k hf;have hn:H s.heap.objs.size=none:=I.hok.fresh (GJ _);obtain⟨_,f1,f2,f3,f4,f5⟩:=I.fpOk (GJ _) hn;refine⟨I1.adopt hn f1 f3 f4 f5 ?_,hn⟩;exact⟨by show 2<=Rj;decide,[u,v],.cons rx (.cons ry .nil),⟨_,hg,rfl,_,rfl⟩⟩
theorem pJ{w:World}{K:GH}{elts:List Expr}(a e it:Addr)(hei:e≠it):Turn P w K (.Tuple elts k pos) (Em K a) [e,it] e (λi h=>(∃old,IsEnum h e it i old)/\h.IsListIter it a i) where
 mem:=by simp
 obj:=λi h st b hb=>by
  obtain⟨⟨old,q⟩,o,q1,q2,q3⟩:=st;simp only[GZ,Ho,or_false]at hb;rcases hb with rfl|rfl
  ·exact⟨_,q,λv z=>by cases z⟩
  ·exact⟨o,q1,λv z=>by rw[q3]at z;cases z⟩
 keep:=λi h h' st kk=>by
  obtain⟨⟨old,q⟩,o,q1,q2⟩:=st;exact⟨⟨old,kk e (by simp) _ q⟩,o,kk it (by simp) o q1,q2⟩
 item:=by
  intro X hP hw hK hc i pins s σ H E I hf st hg;subst hP hw hK;obtain⟨xs,x,hq,hx⟩:=hg;obtain⟨its,rv,p,hz⟩:=I.list hq;obtain⟨u,hu,ru⟩:=rv.get hx;have hl:=rv.length;have hil:i<its.toArray.size:=by have:=(GM.mp hu).1;simpa using this
  obtain⟨⟨old,q⟩,q2⟩:=st;have hne:a≠it:=by
   obtain⟨o1,g1,g2,_⟩:=p.isList;obtain⟨o2,g3,g4,_⟩:=q2;exact iV g1 g2 g3 g4 (by decide)
  have hea:e≠a:=by
   obtain⟨o1,g1,g2,_⟩:=p.isList;exact iV q rfl g1 g2 (by decide)
  refine wpAny_pyNext_enum_itemD (Qt (A:=X.A.in1) (I.ok.hd hc) it a hne its.toArray) q ⟨q2,p.isList⟩ hil hei (by simp[hei,hea]) λy h' tk hP ho hs' hT hsz hk=>⟨_,rfl,wpAny_letOwnedTupleGo_enum ho λg he' sb=>?_⟩
  have ey:y=u:=by
   have h1:its.toArray[i]? = some u:=by simpa using hu
   exact G9 (hP.symm.trans h1)
  subst ey;have hTe:s.heap.objs.size≠e:=Jb (GX q);have lt2:it<s.heap.objs.size:=by obtain⟨o2,g3,_⟩:=q2;exact GX g3
  obtain⟨I2,hn⟩:=I.pair (g:=g) (tk:=tk+1) (ch:=[e,it]) (x:=.int i) (y:=x) (λb o hb r=>(sb.2 b (λz=>hb (by simp[z]))).trans (hk b o (λz=>hb (by simp[z])) (λz=>hb (by simp[z])) r)) hf ((sb.2 _ hTe).trans hT) ⟨tk,rfl⟩ ru;refine⟨.ref s.heap.objs.size,_,I2,rfl,⟨_,x,rfl,hn,rfl,λys hy=>by rw[I.list_inj hy hq];exact hx⟩,⟨⟨_,by simpa using he'⟩,hs'.1.at λo r=>(sb.2 it hei.symm).trans r⟩,λb hb=>?_⟩;simp only[GZ,Ho,or_false]at hb;rcases hb with rfl|rfl
  ·rw[ar hTe.symm];exact(hf _ (by simp)).1
  ·rw[ar (Hf lt2)];exact(hf _ (by simp)).1
 done:=by
  intro X hP hw hK hc i pins s σ H E I hf st hg;subst hP hw hK;obtain⟨xs,hq,hx⟩:=hg;obtain⟨its,rv,p,hz⟩:=I.list hq;obtain⟨⟨old,q⟩,q2⟩:=st;have hl:=rv.length;have hne:a≠it:=by
   obtain⟨o1,g1,g2,_⟩:=p.isList;obtain⟨o2,g3,g4,_⟩:=q2;exact iV g1 g2 g3 g4 (by decide)
  have hi:its.toArray.size=i:=by simp;lia
  subst hi;refine wpAny_pyNext_enum_endD (Qt (A:=X.A.in1) (I.ok.hd hc) it a hne its.toArray) q ⟨q2,p.isList⟩ λh' eb=>⟨rfl,I.turnedAll (t':=s.toks) (ch:=[it]) (λb o hb r=>eb b o (λz=>hb (by simp[z])) r) λb hb=>hf b (by simp at hb;simp[hb])⟩
 self:=λ_ _ _ _ _ st h=>by
  obtain⟨⟨old,q⟩,_⟩:=st;exact wpAny_pyIter_enum q h
def Itz(K:GH)(a b:Addr):It:=
 ⟨λi H=>∃xs ys x y,SqL K H a xs/\SqL K H b ys/\xs[i]? = some x/\ys[i]? = some y,λi H v H'=>∃p x y,v=.ref p/\H p=none/\H'=upd H p (.tup [x,y])/\(∀xs,SqL K H a xs->xs[i]? = some x)/\∀ys,SqL K H b ys->ys[i]? = some y,λi H=>∃xs ys,SqL K H a xs/\SqL K H b ys/\(xs.length<=i\/ys.length<=i)⟩
theorem u5{w:World}{K:GH}{elts:List Expr}(a b z TI TO i1 i2:Addr)(D:ZipApart z TI TO i1 i2 a b):
  Turn P w K (.Tuple elts k pos) (Itz K a b) [z,TI,TO,i1,i2] z (λi h=>IsZip h z TI TO .none/\RK h TI (.ref i1) (.ref i2)/\(∃u v,RK h TO u v)/\h.IsListIter i1 a i/\h.IsListIter i2 b i) where
 mem:=by simp
 obj:=λi h st c hb=>by
  obtain⟨q1,q2,⟨u,v,q3⟩,⟨o4,q4,_,d4⟩,⟨o5,q5,_,d5⟩⟩:=st;simp only[GZ,Ho,or_false]at hb;rcases hb with rfl|rfl|rfl|rfl|rfl
  ·exact⟨_,q1,λv z=>by cases z⟩
  ·exact⟨_,q2,λv z=>by cases z⟩
  ·exact⟨_,q3,λv z=>by cases z⟩
  ·exact⟨o4,q4,λv z=>by rw[d4]at z;cases z⟩
  ·exact⟨o5,q5,λv z=>by rw[d5]at z;cases z⟩
 keep:=λi h h' st kk=>by
  obtain⟨q1,q2,⟨u,v,q3⟩,⟨o4,q4,r4⟩,⟨o5,q5,r5⟩⟩:=st;exact⟨kk z (by simp) _ q1,kk TI (by simp) _ q2,⟨u,v,kk TO (by simp) _ q3⟩,⟨o4,kk i1 (by simp) _ q4,r4⟩,⟨o5,kk i2 (by simp) _ q5,r5⟩⟩
 item:=by
  intro X hP hw hK hc i pins s σ H E I hf st hg;subst hP hw hK;obtain⟨xs,ys,x,y,hqx,hqy,hx,hy⟩:=hg;obtain⟨its,rv,p,hz⟩:=I.list hqx;obtain⟨jts,rw',p',hz'⟩:=I.list hqy;obtain⟨u,hu,ru⟩:=rv.get hx;obtain⟨v,hv,rv'⟩:=rw'.get hy;obtain⟨q1,q2,⟨u3,v3,q3⟩,q4,q5⟩:=st;have l1:=GX q1;have l2:=GX q2;have l3:=GX q3;have l4:i1<s.heap.objs.size:=by obtain⟨o,g,_⟩:=q4;exact GX g
  have l5:i2<s.heap.objs.size:=by obtain⟨o,g,_⟩:=q5;exact GX g
  refine wpAny_pyNext_zip_item D q1 q2 q3 q4 q5 p.isList p'.isList (x:=u) (y:=v) (by simpa using hu) (by simpa using hv) λh' a1 a2 a3 a4 a5 a6 a7=>⟨_,rfl,wpAny_letOwnedTupleGo_zip a1 λg hz2 sb=>?_⟩
  obtain⟨I2,hn⟩:=I.pair (g:=g) (tk:=s.toks) (ch:=[z,TO,i1,i2]) (x:=x) (y:=y) (λc o hb r=>(sb.2 c (λe=>hb (by simp[e]))).trans (a7 c o (λe=>hb (by simp[e])) (λe=>hb (by simp[e])) (λe=>hb (by simp[e])) (λe=>hb (by simp[e])) r)) (λc hb=>hf c (by simp at hb;rcases hb with e|e|e|e<;>simp[e])) ((sb.2 _ (Jb l1)).trans a5) ru rv';refine⟨.ref s.heap.objs.size,_,I2,rfl,⟨_,x,y,rfl,hn,rfl,λzs h=>by rw[I.list_inj h hqx];exact hx,λzs h=>by rw[I.list_inj h hqy];exact hy⟩,⟨hz2,?_,⟨_,_,(sb.2 _ D.TOz).trans a2⟩,a3.at λo r=>(sb.2 i1 D.i1z).trans r,a4.at λo r=>(sb.2 i2 D.i2z).trans r⟩,λc hb=>?_⟩
  ·exact(sb.2 _ D.TIz).trans (a7 TI _ D.TIz D.TITO D.TIi1 D.TIi2 q2)
  ·have hc0:=(hf c hb).1
   simp only[GZ,Ho,or_false]at hb;have:c<s.heap.objs.size:=by rcases hb with rfl|rfl|rfl|rfl|rfl<;>assumption
   rw[ar (Hf this)];exact hc0
 done:=by
  intro X hP hw hK hc i pins s σ H E I hf st hg;subst hP hw hK;obtain⟨xs,ys,hqx,hqy,hx⟩:=hg;obtain⟨its,rv,p,hz⟩:=I.list hqx;obtain⟨jts,rw',p',hz'⟩:=I.list hqy;have m1:=rv.length;have m2:=rw'.length;obtain⟨q1,q2,⟨u3,v3,q3⟩,q4,q5⟩:=st;refine wpAny_pyNext_zip_end (I.ok.hd hc) D q1 q2 q3 q4 q5 p.isList p'.isList ?_ λh' kk=>⟨rfl,I.turnedAll (t':=s.toks) (ch:=[z,TO,i1,i2]) (λc o hb r=>kk c o (λe=>hb (by simp[e])) (λe=>hb (by simp[e])) (λe=>hb (by simp[e])) (λe=>hb (by simp[e])) r) (λc hb=>hf c (by simp at hb;rcases hb with e|e|e|e<;>simp[e]))⟩
  rcases hx with h|h
  ·exact .inl (by simp;lia)
  ·exact .inr (by simp;lia)
 self:=λ_ _ _ _ _ st h=>wpAny_pyIter_zip st.1 h
section
variable{X:Cx}{a b:Expr}{t:TA}{p pos tpos:Pos}{ts:List Expr}{k:Nat}
def wW(K:GH)(t:TA):TI:=λσ H R=>t σ H λvs H1=>∃a,vs=[.ref a]/\(∃xs,SqL K H1 a xs)/\R (Em K a) H1
def FA(K:GH)(t:TA):TI:=λσ H R=>t σ H λvs H1=>∃a b,vs=[.ref a,.ref b]/\(∃xs,SqL K H1 a xs)/\(∃ys,SqL K H1 b ys)/\R (Itz K a b) H1
theorem fY {K:GH}(hg:Gl X "enumerate") (hm:X.mg "enumerate" = none) (ha:QA X [a] t) (hn:bT a=true:=by rfl) (hK:X.K=K:=by rfl):QI X (.Tuple ts k tpos) (.Call (.Name "enumerate" p) [a] [] pos) (wW K t):=by
 subst hK;refine⟨λpins s σ H R I h=>?_⟩;refine Call_ (dr I hg hm (by decide +kernel:bootBuiltins "enumerate" = some (.type "enumerate")) (HN (thn (ha.out pos pins s σ H _ I h) λus s1 ⟨vs,H1,I1,r1,q1⟩=>?_) (aK hn) rfl));obtain⟨l,e,⟨xs,hq⟩,q⟩:=q1;subst e;cases r1 with
 | cons r rr=>
  cases rr;cases r;obtain⟨its,rv,pl,hz⟩:=I1.list hq;refine call_enumerate_list pl.isList λg h1 h2 h3 h4=>wpAny_pyIter_enum h1 ?_
  have I2:Inv X pins σ H1 { s1 with heap:=g }:=I1.kept (t':=s1.toks) h4;refine⟨s1.heap.objs.size+1,[s1.heap.objs.size+1,s1.heap.objs.size],_,_,H1,rfl,I2,pJ l _ _ (Oq _),⟨⟨_,h1⟩,h2⟩,λc hc=>?_,q⟩;have hle:s1.heap.objs.size<=c:=by
   simp only[GZ,Ho,or_false]at hc;rcases hc with rfl|rfl
   ·exact Mw _
   ·exact GJ _
  exact I1.fpOk hle (I1.hok.fresh hle)
theorem rq {K:GH}(hg:Gl X "zip") (hm:X.mg "zip" = none) (ha:QA X [a,b] t) (hn:bT a=true:=by rfl) (hn2:bT b=true:=by rfl) (hK:X.K=K:=by rfl):QI X (.Tuple ts k tpos) (.Call (.Name "zip" p) [a,b] [] pos) (FA K t):=by
 subst hK;refine⟨λpins s σ H R I h=>?_⟩;have e2:Rl [b] X.env=[(false,eval b X.env)]:=aK hn2;refine Call_ (dr I hg hm (by decide +kernel:bootBuiltins "zip" = some (.type "zip")) (HN (thn (ha.out pos pins s σ H _ I h) λus s1 ⟨vs,H1,I1,r1,q1⟩=>?_) (aK hn) (by rw[e2];rfl)));obtain⟨l,m,e,⟨xs,hq⟩,⟨ys,hq'⟩,q⟩:=q1;subst e;cases r1 with
 | cons r rr=>
  cases rr with
  | cons r' rr=>
   cases rr;cases r;cases r';obtain⟨its,rv,pl,hz⟩:=I1.list hq;obtain⟨jts,rw',pl',hz'⟩:=I1.list hq';have a1:l<s1.heap.objs.size:=by obtain⟨o,g,_⟩:=pl.isList;exact GX g
   have a2:m<s1.heap.objs.size:=by obtain⟨o,g,_⟩:=pl'.isList;exact GX g
   refine call_zip_2 pl.isList pl'.isList λg h1 h2 h3 h4 h5 h6 h7=>wpAny_pyIter_zip h1 ?_
   have I2:Inv X pins σ H1 { s1 with heap:=g }:=I1.kept (t':=s1.toks) h7;refine⟨_,_,_,_,H1,rfl,I2,u5 l m _ _ _ _ _ (zipApart_new a1 a2),⟨h1,h2,⟨_,_,h3⟩,h4,h5⟩,λc hc=>?_,q⟩;have hle:s1.heap.objs.size<=c:=by
    simp only[GZ,Ho,or_false]at hc;rcases hc with rfl|rfl|rfl|rfl|rfl
    ·exact Ii _ _
    ·exact Ii _ _
    ·exact Ii _ _
    ·exact GJ _
    ·exact Ii _ _
   exact I1.fpOk hle (I1.hok.fresh hle)
end
section
variable{K:GH}{σ:St}{H:Hp}{Q:VK}{D:Ends}{g:TG}{te:TE}{tb:TS}
theorem CW{R:It->Hp->Prop}(h:t σ H λvs H1=>∃a,vs=[.ref a]/\(∃xs,SqL K H1 a xs)/\R (Em K a) H1):wW K t σ H R:=h
theorem FC{R:It->Hp->Prop}(h:t σ H λvs H1=>∃a b,vs=[.ref a,.ref b]/\(∃xs,SqL K H1 a xs)/\(∃ys,SqL K H1 b ys)/\R (Itz K a b) H1):FA K t σ H R:=h
theorem d6{J:It}(Pv:Nat->St->Hp->Prop)(h0:Pv 0 σ H)(hgo:∀i σ H,i<n->Pv i σ H->J.go i H)(hst:∀σ H,Pv n σ H->J.stop n H)
  (hs:∀i x σ H H',i<n->Pv i σ H->J.yld i H x H'->g x σ H' λσ2 H2=>tb { D with nx:=Pv (i+1),ct:=Pv (i+1),bk:=D.nx } σ2 H2) (hd:∀σ H,Pv n σ H->D.nx σ H) :
  ∃W:Nat->Nat->St->Hp->Prop,(∃m,W 0 m σ H)/\∀i m σ H,W i m σ H->
   (J.stop i H/\D.nx σ H)\/(J.go i H/\∃N:St->Hp->Prop,(∀σ' H',N σ' H'->∃m',m'<m/\W (i+1) m' σ' H')/\∀x H',J.yld i H x H'->g x σ H' λσ2 H2=>tb { D with nx:=N,ct:=N,bk:=D.nx } σ2 H2):=by
 refine⟨λi m σ H=>m=n - i/\i<=n/\Pv i σ H,⟨n,by simp,GW _,h0⟩,?_⟩;rintro i m σ H ⟨rfl,hi,p⟩;by_cases hlt:i<n
 ·exact .inr ⟨hgo i σ H hlt p,Pv (i+1),λσ' H' p'=>⟨n - (i+1),by lia,rfl,hlt,p'⟩,λx H' y=>hs i x σ H H' hlt p y⟩
 ·have e:i=n:=by lia
  subst e;exact .inl ⟨hst σ H p,hd σ H p⟩
theorem iB{J:It}{σ0:St}{R:List V->Hp->Prop}(Pv:Nat->List V->St->Hp->Prop)(hz:n<Rj)(hl:∀i ys σ H,Pv i ys σ H->ys.length=i)(h0:Pv 0 [] σ0 H)(hgo:∀i ys σ H,i<n->Pv i ys σ H->J.go i H)(hst:∀ys σ H,Pv n ys σ H->J.stop n H)
  (hs:∀i x ys σ H H',i<n->Pv i ys σ H->J.yld i H x H'->g x σ H' λσ2 H2=>te σ2 H2 λy H3=>Nx n i (Pv (i+1) (ys++[y]) σ2 H3)) (hd:∀ys σ H,Pv n ys σ H->R ys H) :
  ∃W:Nat->Nat->List V->St->Hp->Prop,(∃m,W 0 m [] σ0 H)/\∀i m xs σc H,W i m xs σc H->xs.length<Rj/\
  ((J.stop i H/\R xs H)\/(J.go i H/\∀x H',J.yld i H x H'->g x σc H' λσ2 H2=>te σ2 H2 λy H3=>∃m',m'<m/\W (i+1) m' (xs++[y]) σ2 H3)):=by
 refine⟨λi m xs σ H=>m=n - i/\i<=n/\Pv i xs σ H,⟨n,by simp,GW _,h0⟩,?_⟩;rintro i m xs σ H ⟨rfl,hi,p⟩;refine⟨by rw[hl i xs σ H p];exact HR hi hz,?_⟩;by_cases hlt:i<n
 ·exact .inr ⟨hgo i xs σ H hlt p,λx H' y=>hs i x xs σ H H' hlt p y⟩
 ·have e:i=n:=by lia
  subst e;exact .inl ⟨hst xs σ H p,hd xs σ H p⟩
end
section
variable{K:GH}{σ:St}{H:Hp}{Q:VK}{D:Ends}
theorem FD{y:Str}(h:Q (.bl (decide (Ra x=Ra y))) H):rEq (.str x) (.str y) H Q:=⟨rfl,h⟩
theorem FE{R:Bool->Hp->Prop}(h:ta σ H λx H'=>∃k,zW K x H' k/\R k H'):Fv K ta σ H R:=h
theorem Gi{r:V->Option Int->Option Int->Hp->VK->Prop}{te:TE}{tl th:TO}(h:te σ H λx H1=>tl σ H1 λl H2=>th σ H2 λu H3=>r x l u H3 Q):tSl r te tl th σ H Q:=h
theorem En{t:TE}{R:Option Int->Hp->Prop}(h:t σ H λx H1=>∃i,x=.int i/\R (some i) H1):yh t σ H R:=h
theorem BD{R:Option Int->Hp->Prop}(h:R none H):mP σ H R:=h
theorem bf{x:V}{R:St->Hp->Prop}(e:H p=some (.tup [x,y]))(h:R ((σ.set i (some x)).set j (some y)) H):CO K 2 (mN (fz i) (mN (fz j) CN)) (.ref p) σ H R:=
 ⟨p,_,rfl,Q7 e,rfl,_,_,rfl,_,_,rfl,rfl,h⟩
theorem CY(h:SqL K H p xs):zW K (.ref p) H (!xs.isEmpty):=.inl ⟨xs,h,rfl⟩
theorem Gj(h:SqT K H p xs):zW K (.ref p) H (!xs.isEmpty):=.inr (.inl ⟨xs,h,rfl⟩)
theorem CZ{α:Type}{G:Prop}{S B:α->Hp->Prop}(hA:(∀a H,S a H->B a H)->G)(hB:∀a H,S a H->B a H):G:=hA hB
theorem aF{α:Type}{f:α->V}{xs:List α}{x:V}(h:(xs.map f)[i]? = some x):∃z,x=f z/\xs[i]? = some z/\z∈xs/\i<xs.length:=by
 rw[GK]at h;cases e:xs[i]? with
 | none=>rw[e]at h;cases h
 | some z=>rw[e]at h;exact⟨z,(G9 h).symm,rfl,G3 e,(GM.mp e).1⟩
end
def RowsAt(H:Hp)(ps:List Addr)(b m:Nat)(zs:List Nat):Prop:=ps.length=zs.length/\∀(i:Nat) (p:Addr) (z:Nat),ps[i]? = some p->zs[i]? = some z->H p=some (.tup ((dg z b m).map Q8))
theorem RowsAt.same{H:Hp}(h:RowsAt H ps b m zs)(e:Same H H1):RowsAt H1 ps b m zs:=⟨h.1,λi p z a c=>e _ _ (h.2 i p z a c)⟩
theorem RowsAt.snoc{H:Hp}{z:Nat}(h:RowsAt H ps b m zs)(e:H p=some (.tup ((dg z b m).map Q8))):RowsAt H (ps++[p]) b m (zs++[z]):=by
 refine⟨by simp[h.1],λi q y a c=>?_⟩;rcases bO a with⟨l,a⟩|⟨l,a⟩
 ·rcases bO c with⟨_,c⟩|⟨l',c⟩
  ·exact h.2 i q y a c
  ·have:=h.1;lia
 ·rcases bO c with⟨l',c⟩|⟨_,c⟩
  ·have:=h.1;lia
  ·rw[a,c];exact e
def Spelt(ns:List Int)(b:Nat)(zs:List Nat)(m:Nat):Prop:=(ns=[]/\zs=[]/\m=0)\/∃lo hi:Int,lo∈ns/\hi∈ns/\(∀x∈ns,lo<=x/\x<=hi)/\zs=ns.map (λx=>(x - lo).toNat)/\(hi - lo).toNat<b ^ m/\(0<m->b ^ (m - 1)<=(hi - lo).toNat)/\m<201
theorem Spelt.len{ns:List Int}(h:Spelt ns b zs m):zs.length=ns.length:=by
 rcases h with⟨rfl,rfl,_⟩|⟨lo,hi,_,_,_,rfl,_⟩
 ·rfl
 ·simp
theorem Spelt.few{ns:List Int}(h:Spelt ns b zs m):m<201:=by
 rcases h with⟨rfl,rfl,rfl⟩|⟨lo,hi,_,_,_,rfl,_,_,h⟩
 ·decide
 ·exact h
theorem Spelt.at{ns:List Int}(h:Spelt ns b zs m)(hb:2<=b){x:Int}{z:Nat}(hx:ns[i]? = some x)(hz:zs[i]? = some z):z<b ^ m/\∀lo,lo∈ns->(∀y∈ns,lo<=y)->x - lo=z:=by
 rcases h with⟨rfl,rfl,rfl⟩|⟨lo,hi,h1,h2,h3,rfl,h4,h5,h6⟩
 ·simp at hx
 ·rw[GK,hx]at hz
  have ez:(x - lo).toNat=z:=G9 hz;have hm:=h3 x (G3 hx);refine⟨by lia,λlo' g1 g2=>?_⟩;have a1:=g2 lo h1;have a2:=(h3 lo' g1).1;lia
section
variable{X:Cx}{e:Expr}{te:TE}{g:TG}{pos tpos:Pos}{ts:List Expr}{k:Nat}
theorem df(he:QE X e te)(hg:QG X (.Tuple ts k tpos) g)(hs:RV [.Tuple ts k tpos] e pos.line X.env=pure false:=by rfl)(hw:RW [.Tuple ts k tpos] e X.env=pure none:=by rfl)
  (h1:(RG [.Tuple ts k tpos] X.env).map (·.2)=[assign (.Tuple ts k tpos) X.env]:=by rfl):QS X (.Assign [.Tuple ts k tpos] e pos) (qf te g):=⟨qg he.out hg.out hs hw h1⟩
end
section
variable{K:GH}{σ:St}{H:Hp}
end
theorem iW{i:Int}(e:i=j)(h:j<n):ixN n i=some j:=by
 subst e;unfold ixN;rw[if_pos ⋯,if_pos ⋯];simp
noncomputable def bY(tb:List (Int×Nat)):List Int:=tb.map λz=>z.1*((fD (tb.map (·.2)) / z.2:Nat):Int)
theorem bS(tb:List (Int×Nat)):(bY tb).length=tb.length:=by simp[bY]
theorem rA{tb:List (Int×Nat)}(hb:∀z∈tb,1<=z.2/\z.2<=60)(ht:∀z∈tb,-(10 ^ 18)<z.1/\z.1<10 ^ 18):∀x∈bY tb,-(2 ^ 190)<x/\x<2 ^ 190:=by
 intro x hx;obtain⟨z,hz,rfl⟩:=Hk.mp hx;have h1:=ht z hz;have hM:fD (tb.map (·.2))∣zX:=By λb h=>by
  obtain⟨y,hy,rfl⟩:=Hk.mp h;exact hb y hy
 have h2:fD (tb.map (·.2))<=zX:=LL (by decide +kernel) hM;have h3:zX<2 ^ 90:=by decide +kernel
 have h4:fD (tb.map (·.2)) / z.2<=fD (tb.map (·.2)):=OL _ _;generalize fD (tb.map (·.2)) / z.2=c at h4;have h5:c<2 ^ 90:=by lia
 have h6:z.1.natAbs<2 ^ 60:=by lia
 have h7:(z.1*(c:Int)).natAbs<2 ^ 150:=by
  rw[Int.natAbs_mul,Int.natAbs_natCast]
  calc z.1.natAbs*c<2 ^ 60*2 ^ 90:=Nat.mul_lt_mul'' h6 h5
   _=2 ^ 150:=by decide
 lia
theorem mY:∀{xs:List V}{us:List Value},xs.length=us.length->(∀(i:Nat) x u,xs[i]? = some x->us[i]? = some u->RelV x u)->Vals xs us
 | [],[],_,_=>.nil
 | [],_::_,h,_=>by simp at h
 | _::_,[],h,_=>by simp at h
 | x::xs,u::us,h,r=>.cons (r 0 x u rfl rfl) (mY (by simpa using h) λi y v a b=>r (i+1) y v (by simpa using a) (by simpa using b))
section
variable{X:Cx}{a b e o:Expr}{es:List Expr}{t:TA}{te to tb:TE}{p p2 pos pos2 apos cpos tpos:Pos}
noncomputable def cJ(lo n:Nat):List V:=(GO n).map λi=>Q8 ((lo+i:Nat):Int)
def wX(t:TA):TE:=λσ H Q=>t σ H λvs H1=>∃j:Nat,vs=[.int j]/\j<=1000/\∀l,H1 l=none->Q (.ref l) (upd H1 l (.lst (cJ 0 j)))
theorem Gk{H:Hp}{s:Shared}{Q:VK}{t u v:Tok}(hc:X.calm=true)(I:Inv X pins σ H s)(h1:i<=1000)(h2:j<=1000)(h3:i<=j)(q:∀l,H l=none->Q (.ref l) (upd H l (.lst (cJ i (j - i))))):
  wpAny (model X.prog X.w) X.A (call (.type "list") [.ref s.heap.objs.size]) (EP X pins σ Q) X.xe { s with heap:=s.heap.push { cls:=.type "range",data:=.fields #[.int i t,.int j u,.int 1 v] },toks:=tk }:=by
 have I1:Inv X pins σ H { s with heap:=s.heap.push { cls:=.type "range",data:=.fields #[.int i t,.int j u,.int 1 v] },toks:=tk }:=I.kept λb o e=>GI _ e
 refine call_list_range (n:=j - i) (I.ok.hd hc) (Mv ..) (small_one ⋯ ⋯ ⋯ ⋯) (by rw[rangeSize_one];split<;>lia) ⋯ λh' tk' acc' c' hk hg hi=>?_
 obtain⟨hz,hit⟩:=hi;refine⟨.ref _,_,I1.laid (t':=tk') (o:=.lst (cJ i (j - i))) hk (GJ _) ?_,rfl,q _ (I1.hok.fresh (GJ _))⟩;refine⟨by simp only[cJ,GF,Ic];exact aE ⋯,acc'.toList,c',?_,?_⟩
 ·refine mY (by simp[cJ,hz]) λk x w a b=>?_
  have hk':k<j - i:=by have:=(GM.mp a).1;simpa [cJ]using this
  unfold cJ at a;rw[GK,Ir hk']at a;obtain rfl:=G9 a;obtain⟨tt,rfl⟩:=hit k w (by simpa using b);refine⟨tt,?_⟩;rw[Oa,OM]
 ·simpa using hg
theorem iC (hc:X.calm=true) (hgl:Gl X "list") (hml:X.mg "list" = none) (hgr:Gl X "range") (hmr:X.mg "range" = none) (ha:QA X [a] t) (hn:bT a=true:=by rfl):QE X (.Call (.Name "list" p) [.Call (.Name "range" p2) [a] [] pos2] [] pos) (wX t):=by
 refine⟨λpins s σ H Q I h=>?_⟩;refine Call_ (dr I hgl hml (by decide +kernel:bootBuiltins "list" = some (.type "list")) (HN ?_ (aK rfl) rfl));refine Lu (Call_ (dr I hgr hmr boot_range (HN (thn (ha.out pos2 pins s σ H _ I h) λus s1 ⟨vs,H1,I1,r1,q1⟩=>?_) (aK hn) rfl)));obtain⟨j,e,q1,q⟩:=q1;subst e;cases r1 with
 | cons r rr=>
  cases rr;obtain⟨tt,rfl⟩:=r;exact call_range_1 (LR (Gk (i:=0) hc I1 ⋯ q1 ⋯ q))
inductive TyB (H:Hp):V->Value->Prop where
 | non:TyB H .non (.type "NoneType")
 | int (i:Int):TyB H (.int i) (.type "int")
 | lst {a:Addr}{xs:List V}(e:H a=some (.lst xs)):TyB H (.ref a) (.type "list")
 | tup {a:Addr}{xs:List V}(e:H a=some (.tup xs)):TyB H (.ref a) (.type "tuple")
def BE (K:GH):RC:=λxs H Q=>∃x t tp b,xs=[x,.ref tp]/\H tp=some (.tup [.ty "list",.ty "tuple"])/\TyB H x t/\OY K t [.type "list",.type "tuple"]=some b/\Q (.bl b) H
theorem yA {K:GH}(hK:X.K=K:=by rfl):QC X (.builtin "isinstance") (BE K):=by
 subst hK;refine⟨λpins s σ H xs us Q I r h=>?_⟩;obtain⟨x,t,tp,b,rfl,htp,ty,e,q⟩:=h;cases r with
 | cons rx rr=>
  cases rr with
  | cons ry rr=>
   cases rr;cases ry;obtain⟨_,its,rv,⟨⟨c,dd,dt,sl⟩,g1,g2,n,g3⟩⟩:=(show ObjOk X.prog X.w H s.heap tp (.tup [.ty "list",.ty "tuple"])from I.hok tp _ htp);have g2':c=.type "tuple":=g2;have g3':dt=.seq its.toArray n:=g3;subst g2' g3';have ei:its=[.type "list",.type "tuple"]:=by
    cases rv with
    | cons r1 rr=>
     cases rr with
     | cons r2 rr=>
      cases rr;cases r1;cases r2;rfl
   subst ei;have fin:∀tk,EP X pins σ Q (.bool b) { s with toks:=tk }:=λtk=>⟨.bl b,H,I.tok _,rfl,q⟩
   cases ty with
   | non=>cases(show _=Hr from rx);exact IH LQ I.kIn GR g1 e (λz=>nomatch z) fin
   | int i=>obtain⟨tt,rfl⟩:=rx;exact IH L4 I.kIn GR g1 e (λz=>nomatch z) fin
   | @lst a xs ea=>
    cases rx;obtain⟨_,_,n',_,h1⟩:=(show ObjOk X.prog X.w H s.heap a (.lst xs)from I.hok a _ ea);exact IH KD I.kIn ⟨_,h1,rfl⟩ g1 e (λz=>nomatch z) fin
   | @tup a xs ea=>
    cases rx;obtain⟨_,_,_,⟨o',h1,h2,_⟩⟩:=(show ObjOk X.prog X.w H s.heap a (.tup xs)from I.hok a _ ea);exact IH Ls I.kIn ⟨_,h1,h2⟩ g1 e (λz=>nomatch z) fin
def FF:R2:=λx y H Q=>y=.non/\Q (.bl (decide (x=.non))) H
theorem ig:QOp X (Rm .Is) FF:=⟨AR⟩
theorem u6 {K:GH}(ho:QE X o to) (ha:QA X [e] t) (hbase:Rw o ("pop" : Str) X.env (eval o X.env)=eval o X.env:=by rfl) (hline:(apos.endLine == cpos.line)=true:=by rfl) (hn:bT e=true:=by rfl) (hK:X.K=K:=by rfl) :
  QE X (.Call (.Attribute o "pop" apos) [e] [] cpos) (tBM K "list" qJ to t):=by subst hK;exact⟨lB IR MP MQ uO ho.out ha.out hbase hline hn⟩
end
section
variable{K:GH}{σ:St}{H:Hp}{Q:VK}
theorem C0(h:t σ H λvs H1=>∃j:Nat,vs=[.int j]/\j<=1000/\∀l,H1 l=none->Q (.ref l) (upd H1 l (.lst (cJ 0 j)))):wX t σ H Q:=h
theorem u7 {tp:Addr}(s:H p=some (.lst xs)) (e:H tp=some (.tup [.ty "list",.ty "tuple"])) (h:Q (.bl true) H):BE K [.ref p,.ref tp] H Q:=⟨_,_,tp,_,rfl,e,.lst s,rfl,h⟩
theorem oz (s:H p=some (.lst xs)) (h:Q (.bl false) H):nX K [.ref p,.ty "tuple"] H Q:=⟨_,_,_,_,rfl,.lst s,rfl,h⟩
theorem C1 {i:Int}(h:Q (.bl false) H):nX K [.int i,.ty "str"] H Q:=⟨_,_,_,_,rfl,.int i,rfl,h⟩
theorem FG{x y:Bool}(h:Q (.bl (!decide (Q9 x=Q9 y))) H):rNe (.bl x) (.bl y) H Q:=⟨rfl,h⟩
theorem Eo{x:V}(h:Q (.bl (decide (x=.non))) H):FF x .non H Q:=⟨rfl,h⟩
theorem u9{i:Int}(s:H l=some (.lst xs))(e:i=k)(hk:k<1000)(hy:xs[k]? = some y)(h:Q y (upd H l (.lst (xs.eraseIdx k)))):qJ (.ref l) [.int i] H Q:=by
 subst e;have hl:k<xs.length:=(GM.mp hy).1;refine⟨l,xs,k,k,y,rfl,rfl,s,by lia,by lia,?_,hy,h⟩;exact(mQ (iW rfl hl)).1
end
def Tp2(H:Hp)(p:Addr):Prop:=∃a b:Int,H p=some (.lst [.int a,.int b])/\0<=a/\0<=b
structure St2 (p:Addr) (H H':Hp):Prop where
 keep:∀q o,H q=some o->q≠p->H' q=some o
 tape:Tp2 H' p
section
variable{H H1 H2:Hp}{p q l:Addr}{o:HO}
theorem St2.refl(t:Tp2 H p):St2 p H H:=⟨λ_ _ h _=>h,t⟩
theorem St2.trans(a:St2 p H H1)(b:St2 p H1 H2):St2 p H H2:=⟨λq o h n=>b.keep q o (a.keep q o h n) n,b.tape⟩
theorem Tp2.mk{a b:Int}(h:0<=a)(h2:0<=b):St2 p H (upd H p (.lst [.int a,.int b])):=⟨λq o e n=>by rw[ar n];exact e,⟨a,b,af,h,h2⟩⟩
theorem Tp2.ne(t:Tp2 H p)(h:H q=none):q≠p:=by
 obtain⟨a,b,e,_⟩:=t;exact λz=>aq e h z.symm
theorem Tp2.same(t:Tp2 H p)(s:Same H H1):Tp2 H1 p:=by
 obtain⟨a,b,e,n⟩:=t;exact⟨a,b,s _ _ e,n⟩
theorem Tp2.own(t:Tp2 H p)(n:l≠p):Tp2 (upd H l o) p:=by
 obtain⟨a,b,e,q⟩:=t;exact⟨a,b,by rw[ar (Hl n)];exact e,q⟩
theorem St2.new(a:St2 p H H1)(h:H1 q=none):St2 p H (upd H1 q o):=⟨λb u e1 e2=>by rw[ar (aq (a.keep b u e1 e2) h)];exact a.keep b u e1 e2,a.tape.own (a.tape.ne h)⟩
theorem St2.own(a:St2 p H H1)(h:H l=none)(n:l≠p):St2 p H (upd H1 l o):=⟨λb u e1 e2=>by rw[ar (aq e1 h)];exact a.keep b u e1 e2,a.tape.own n⟩
theorem St2.free(s:St2 p H H1)(h:H1 q=none):H q=none:=by
 cases e:H q with
 | none=>rfl
 | some o=>
  have:=s.keep q o e (s.tape.ne h);rw[h]at this;cases this
end
def yB(K:GH):Sp:=λvs H Q _=>∃(a:Addr) (ns:List Int) (k:Int),vs=[.ref a,.int k]/\SqL K H a (ns.map Q8)/\0<=k/\∀p H',H p=none->Same H H'->Tp2 H' p->Q (.ref p) H'
def yC:Sp:=λvs H Q _=>∃(p:Addr) (m:Int),vs=[.ref p,.int m]/\Tp2 H p/\0<m/\m<2 ^ 64/\∀(r:Nat) H',(r:Int)<m->St2 p H H'->Q (.int r) H'
noncomputable def NV(os:List Nat):List V:=os.map λo:Nat=>Q8 o
theorem aB(os:List Nat):(NV os).length=os.length:=by simp[NV]
theorem lI(os:List Nat):NV os=(os.map λo:Nat=>(o:Int)).map Q8:=by rw[NV,IV];rfl
theorem dh{os:List Nat}{o:Nat}(h:os[i]? = some o):(NV os)[i]? = some (Q8 o):=by rw[NV,GK,h];rfl
theorem kr{os:List Nat}{o:Nat}{k:Int}(e:k=i)(h:os[i]? = some o):atI (NV os) k=some (Q8 o):=by rw[e];exact ba (dh h)
theorem cB(os:List Nat)(o:Nat):NV os++[Q8 o]=NV (os++[o]):=by simp[NV]
theorem kv(lo n:Nat):cJ lo n=NV ((GO n).map λi=>lo+i):=by simp[cJ,NV]
def LsAt(H:Hp)(ps:List Addr)(nss:List (List Nat)):Prop:=ps.length=nss.length/\∀(i:Nat) p ns,ps[i]? = some p->nss[i]? = some ns->H p=some (.lst (NV ns))
section
variable{H H1:Hp}{ps:List Addr}{nss:List (List Nat)}
theorem LsAt.same(h:LsAt H ps nss)(e:Same H H1):LsAt H1 ps nss:=⟨h.1,λi p z a c=>e _ _ (h.2 i p z a c)⟩
theorem LsAt.snoc{ns:List Nat}(h:LsAt H ps nss)(e:H p=some (.lst (NV ns))):LsAt H (ps++[p]) (nss++[ns]):=by
 refine⟨by simp[h.1],λi q y a c=>?_⟩;rcases bO a with⟨l,a⟩|⟨l,a⟩
 ·rcases bO c with⟨_,c⟩|⟨l',c⟩
  ·exact h.2 i q y a c
  ·have:=h.1;lia
 ·rcases bO c with⟨l',c⟩|⟨_,c⟩
  ·have:=h.1;lia
  ·rw[a,c];exact e
theorem LsAt.nil:LsAt H [] []:=⟨rfl,λi p ns h=>by simp at h⟩
end
noncomputable def C2(os:List Nat):Nat->List Bool->Nat->List Nat×List Bool
 | 0,met,_=>([],met)
 | f+1,met,pl=>if met.getD pl true=true then([],met)else(pl::(C2 os f (met.set pl true) (os.getD pl 0)).1,(C2 os f (met.set pl true) (os.getD pl 0)).2)
theorem rB{xs:List Nat}(hn:xs.Nodup)(hi:i<xs.length)(hj:j<xs.length)(e:xs[i]=xs[j]):i=j:=by
 rcases Iv i j with h|h|h
 ·exact absurd e (G7.mp hn i j hi hj h)
 ·exact h
 ·exact absurd e.symm (G7.mp hn j i hj hi h)
theorem lJ(os:List Nat)(i o:Nat):(NV os).set i (Q8 o)=NV (os.set i o):=by simp[NV,PZ]
theorem rD(os:List Nat)(h:0<os.length):jz (NV os) (some 1) none=NV (os.drop 1):=by
 cases os with
 | nil=>simp at h
 | cons x r=>
  simp[jz,HT.sIx,NV];exact GN (by simp)
section
variable{X:Cx}{e:Expr}{te:TE}{pos p1 p2 p3 p4 p5:Pos}{j j':Nat}
end
structure Ord (os:List Nat) (n:Nat):Prop where
 len:os.length=n
 lt:∀x∈os,x<n
 inj:∀(i j r:Nat),os[i]? = some r->os[j]? = some r->i=j
 sur:∀x,x<n->∃i,i<n/\os[i]? = some x
theorem Ord.of_perm{os:List Nat}(h:os.Perm (GO n)):Ord os n:=by
 have hl:os.length=n:=by have:=h.length_eq;rw[Ic]at this;exact this
 refine⟨hl,λx hx=>Hg.mp (h.mem_iff.mp hx),λi j r a b=>?_,λx hx=>?_⟩
 ·obtain⟨a1,a2⟩:=GM.mp a
  obtain⟨b1,b2⟩:=GM.mp b;exact rB (h.nodup_iff.mpr Ot) a1 b1 (by rw[a2,b2])
 ·obtain⟨i,hi⟩:=Ka (h.mem_iff.mpr (Hg.mpr hx))
  exact⟨i,by have:=(GM.mp hi).1;lia,hi⟩
theorem Ord.get{os:List Nat}(h:Ord os n)(hi:i<n):∃r,os[i]? = some r/\r<n:=by
 have hl:i<os.length:=by rw[h.len];exact hi
 exact⟨os[i],by simp[hl],h.lt _ (GV hl)⟩
noncomputable def cmp(one other:List Nat):List Nat:=other.map λj=>one.getD j 0
theorem mZ{one other:List Nat}{r:Nat}(h1:other[i]? = some j)(h2:one[j]? = some r):(cmp one other)[i]? = some r:=by
 unfold cmp;rw[GK,h1];show some (one.getD j 0)=some r
 rw[GG,h2];rfl
theorem gB(one other:List Nat):(cmp one other).length=other.length:=by simp[cmp]
theorem bj{α:Type}{xs:List α}{x:α}(h:xs[i]? = some x):i<xs.length:=(GM.mp h).1
theorem iX{α:Type}{xs:List α}{v:α}(h:xs[xs.length - 1]? = some v):atI xs (-1)=some v:=by
 have hl:=bj h;have e:ixN xs.length (-1)=some (xs.length - 1):=by
  unfold ixN;rw[if_neg (by decide),if_pos ⋯];congr 1;lia
 unfold atI;rw[e];exact h
section
variable{X:Cx}{N tgs frs:List Str}{ix:List Nat}{scope:Scope}{cl:List (Str×Addr)}
def rE(wi:TI)(g:TG)(tc:TT)(te:TE)(tgs:List Str)(ix:List Nat):TE:=λσ H Q=>wi σ H λJ H1=>
 ∃W:Nat->Nat->List V->St->Hp->Prop,(∃m,W 0 m [] (fq tgs ix σ) H1)/\∀i m xs σc H,W i m xs σc H->xs.length<Rj/\
  ((J.stop i H/\∀p,H p=none->Q (.ref p) (upd H p (.lst xs)))\/(J.go i H/\∀x H',J.yld i H x H'->g x σc H' λσ2 H2=>tc σ2 H2 λb H3=>if b=true then te σ2 H3 λy H4=>∃m',m'<m/\W (i+1) m' (xs++[y]) σ2 H4 else ∃m',m'<m/\W (i+1) m' xs σ2 H3))
theorem vc{te:TE}(c:CompOk X N tgs frs ix scope cl)(hc:X.calm=true)(hi:PI X tg iter wi)
  (hg:∀fp C s H,PG (bD X N scope cl fp C s H) tg g) (he:∀fp C s H,PE (bD X N scope cl fp C s H) elt te)
  (hcd:∀fp C s H,PT (bD X N scope cl fp C s H) cnd tc)
  (hs:∀x,Rr iter X.env x=pure x:=by intro _;rfl) :
  PE X (.ListComp elt [⟨tg,iter,[cnd],0⟩] scope pos) (rE wi g tc te tgs ix):=nW (oc:=some cnd) (tb:=tbF tc te) c hc hi hg (λfp C s H=>.ts (hcd fp C s H) (he fp C s H)) hs
theorem ve{te:TE}(c:CompOk X N tgs frs ix scope cl)(hc:X.calm=true)(hi:QI X tg iter wi)
  (hg:∀fp C s H,QG (bD X N scope cl fp C s H) tg g) (he:∀fp C s H,QE (bD X N scope cl fp C s H) elt te) (hcd:∀fp C s H,QT (bD X N scope cl fp C s H) cnd tc)
  (hs:∀x,Rr iter X.env x=pure x:=by intro _;rfl) :
  QE X (.ListComp elt [⟨tg,iter,[cnd],0⟩] scope pos) (rE wi g tc te tgs ix):=⟨vc c hc hi.out (λfp C s H=>(hg fp C s H).out) (λfp C s H=>(he fp C s H).out) (λfp C s H=>(hcd fp C s H).out) hs⟩
end
section
variable{X:Cx}{e o b:Expr}{to tb te:TE}{t:TA}{pos apos cpos tpos:Pos}
theorem iY {K:GH}(ho:QE X o to) (hbase:Rw o ("pop" : Str) X.env (eval o X.env)=eval o X.env:=by rfl) (hline:(apos.endLine == cpos.line)=true:=by rfl) (hK:X.K=K:=by rfl) :
  QE X (.Call (.Attribute o "pop" apos) [] [] cpos) (DU K "list" DV to):=by subst hK;exact⟨Bb IR MP MQ Bd ho.out hbase hline⟩
theorem iZ {K:GH}(ho:QE X o to) (ha:QA X [e] t) (hbase:Rw o ("extend" : Str) X.env (eval o X.env)=eval o X.env:=by rfl) (hline:(apos.endLine == cpos.line)=true:=by rfl) (hn:bT e=true:=by rfl) (hK:X.K=K:=by rfl) :
  QE X (.Call (.Attribute o "extend" apos) [e] [] cpos) (tBM K "list" mT to t):=by subst hK;exact⟨lB IR Mc Md qI ho.out ha.out hbase hline hn⟩
end
section
variable{X:Cx}{N tgs frs:List Str}{ix:List Nat}{scope:Scope}{cl:List (Str×Addr)}{xc:Str}
end
section
variable{X:Cx}{e o b:Expr}{to tb te:TE}{pos tpos:Pos}
def BF(K:GH):R2:=λx y H Q=>∃a b xs,x=.ref a/\y=.ref b/\SqL K H a xs/\SqL K H b []/\Q (.bl (!decide (xs=[]))) H
theorem yD{K:GH}(hu:X.A.units<cLine)(hK:X.K=K:=by rfl):QOp X (Rm .NotEq) (BF K):=by
 subst hK;refine⟨λpins s σ H x y v u Q I rx ry h=>?_⟩;obtain⟨a,b,xs,rfl,rfl,ha,hb,q⟩:=h;cases rx;cases ry;obtain⟨its,r1,p1,z1⟩:=I.list ha;obtain⟨its2,r2,p2,z2⟩:=I.list hb;have l1:its.toArray.size=xs.length:=by have:=r1.length;simp;lia
 have l2:its2.toArray.size=0:=by have:=r2.length;simp at this;simp[this]
 by_cases hx:xs=[]
 ·subst hx
  refine Ny (e:=λ_=>true) p1.isList p2.isList (by rw[l1,l2];rfl) hu (λj h1 h2=>absurd h2 ⋯) X.prog X.w X.xe _ ?_;rw[l1];exact⟨.bl false,H,I,rfl,q⟩
 ·refine LK p1.isList p2.isList (by rw[l1,l2];have:=Ij.mpr hx;simp;exact hx) hu X.prog X.w X.xe _ ?_
  rw[decide_eq_false hx]at q;exact⟨.bl true,H,I,rfl,q⟩
def BG(K:GH):V->V->Hp->VK->Prop:=λo i H Q=>∃a xs k v,o=.ref a/\i=.int k/\SqL K H a xs/\0<=k/\xs[k.toNat]? = some v/\Q v H
theorem vf:Dv X (BG X.K):=by
 intro pins s σ H o i ov iv Q I ro ri h;obtain⟨a,xs,k,v,rfl,rfl,hq,h0,hv,q⟩:=h;cases ro;obtain⟨t,rfl⟩:=ri;obtain⟨its,r,pl,hz⟩:=I.list hq;obtain⟨w,ew,rw'⟩:=r.get hv;have hl:=bj hv;have hn:=fm;exact wpAny_getItem_list pl.isList h0 ⋯ (by simpa using ew) ⟨v,H,I,rw',q⟩
theorem kx{K:GH}(ho:QE X o to)(hi:QE X b tb)(he:QE X e te)(ha:∀ov iv new,augStore b ov iv new=(do RB [new,ov,iv] (setItem ov iv new);release [new,ov,iv] [];pure .next):=by intros;rfl)(hK:X.K=K:=by rfl):
  QS X (.AugAssign (.Subscript o b tpos) .Add e pos) (uy to tb te (BG K) (ipI λi j=>i+j) pC):=by subst hK;exact⟨qh ho.out hi.out vf he.out wK kb ha⟩
end
section
variable{K:GH}{σ:St}{H:Hp}{Q:VK}{D:Ends}
theorem Ep{te:TE}{tget:V->V->Hp->VK->Prop}{tip:TIp}{tset:xO}(h:to σ H λo H1=>ti σ H1 λi H2=>tget o i H2 λx H3=>te σ H3 λy H4=>tip x y H4 λz H5=>tset o i z H5 λH6=>D.nx σ H6):uy to ti te tget tip tset D σ H:=h
theorem FH{r:V->List V->Hp->VK->Prop}{T:String}(h:to σ H λx H1=>tyV K T x H1/\r x [] H1 Q):DU K T r to σ H Q:=h
theorem C3 {te:TE}{tgs:List Str}(h:wi σ H λJ H1=>
 ∃W:Nat->Nat->List V->St->Hp->Prop,(∃m,W 0 m [] (fq tgs ix σ) H1)/\∀i m xs σc H,W i m xs σc H->xs.length<Rj/\
  ((J.stop i H/\∀p,H p=none->Q (.ref p) (upd H p (.lst xs)))\/(J.go i H/\∀x H',J.yld i H x H'->g x σc H' λσ2 H2=>tc σ2 H2 λb H3=>if b=true then te σ2 H3 λy H4=>∃m',m'<m/\W (i+1) m' (xs++[y]) σ2 H4 else ∃m',m'<m/\W (i+1) m' xs σ2 H3))):rE wi g tc te tgs ix σ H Q:=h
theorem rF{te:TE}{σ0:St}{R:List V->Hp->Prop}{vs:List V}(Pv:Nat->List V->St->Hp->Prop)(hz:vs.length<Rj)(hl:∀i ys σ H,Pv i ys σ H->ys.length<=i)(ht:∀i ys σ H,Pv i ys σ H->SqL K H a vs)(h0:Pv 0 [] σ0 H)
  (hs:∀i ys σ H x,vs[i]? = some x->Pv i ys σ H->g x σ H λσ2 H2=>tc σ2 H2 λb H3=>if b=true then te σ2 H3 λy H4=>Nx vs.length i (Pv (i+1) (ys++[y]) σ2 H4)else Nx vs.length i (Pv (i+1) ys σ2 H3)) (hd:∀ys σ H,Pv vs.length ys σ H->R ys H) :
  ∃W:Nat->Nat->List V->St->Hp->Prop,(∃m,W 0 m [] σ0 H)/\∀i m xs σc H,W i m xs σc H->xs.length<Rj/\
  (((Itl K a).stop i H/\R xs H)\/((Itl K a).go i H/\∀x H',(Itl K a).yld i H x H'->g x σc H' λσ2 H2=>tc σ2 H2 λb H3=>if b=true then te σ2 H3 λy H4=>∃m',m'<m/\W (i+1) m' (xs++[y]) σ2 H4 else ∃m',m'<m/\W (i+1) m' xs σ2 H3)):=by
 refine⟨λi m xs σ H=>m=vs.length - i/\i<=vs.length/\Pv i xs σ H,⟨vs.length,by simp,GW _,h0⟩,?_⟩;rintro i m xs σ H ⟨rfl,hi,p⟩;have q:=ht i xs σ H p;refine⟨HR (HU (hl i xs σ H p) hi) hz,?_⟩;by_cases hlt:i<vs.length
 ·refine .inr ⟨⟨vs,vs[i],q,by simp[hlt]⟩,λx H' y=>?_⟩
  obtain⟨e,y⟩:=y;subst e;exact hs i xs σ _ x (y vs q) p
 ·have e:i=vs.length:=by lia
  subst e;exact .inl ⟨⟨vs,q,GJ _⟩,hd xs σ H p⟩
end
noncomputable def cnt(os:List Nat)(b:Nat):List Nat:=(GO b).map λf=>os.count f
theorem bU(os:List Nat)(b:Nat):(cnt os b).length=b:=by simp[cnt]
theorem fE{os:List Nat}{f:Nat}(h:f<b):(cnt os b)[f]? = some (os.count f):=by
 unfold cnt;rw[GK,Ir h];rfl
theorem vg{os:List Nat}{x:Nat}(h:x<b):(cnt os b).set x (os.count x+1)=cnt (os++[x]) b:=by
 apply List.ext_getElem?;intro i;rw[KF];by_cases hi:i<b
 ·rw[fE hi,fE hi,JP,bU]
  by_cases e:x=i
  ·subst e;rw[if_pos rfl,if_pos h];simp
  ·rw[if_neg e]
   have:Qu i [x]=0:=NA.mpr (by simp;exact λz=>e z.symm);rw[this,NB]
 ·rw[JV (l:=cnt os b) (by rw[bU];lia),JV (l:=cnt (os++[x]) b) (by rw[bU];lia)]
  split
  ·split
   ·rename_i h1 h2;rw[bU]at h2;lia
   ·rfl
  ·rfl
noncomputable def cT(rss:List (List Nat))(c:Nat):List Nat:=rss.map λr=>r.getD c 0
noncomputable def dB(rss:List (List Nat))(w b:Nat):List (List Nat):=(GO (if rss=[]then 0 else w)).map λc=>cnt (cT rss c) b
theorem rG(rss:List (List Nat))(w b:Nat):(dB rss w b).length=if rss=[]then 0 else w:=by simp[dB]
theorem BH(m:Nat):Im ((m:Int) - 1) (-1) (-1)=m:=by
 unfold Im;rw[if_neg (by decide)];split
 ·rw[show(-(-1):Int)=1 by decide,PU];lia
 ·lia
theorem BI(h:m<=1000):JD ((m:Int) - 1) (-1) (-1)=true:=by
 unfold JD;rw[BH];simp only[J6,Ip,Bool.or_eq_true,decide_eq_true_eq,beq_iff_eq,show ¬((-1:Int) > 0)by decide,if_false];refine⟨?_,?_⟩<;>first|lia|(refine⟨?_,?_⟩<;>first|lia|(split<;>lia))|(split<;>lia)|trace_state
def Itd(m:Nat):It:=⟨λi _=>i<m,λi H x H'=>H'=H/\x=.int ((m - 1 - i:Nat):Int),λi _=>m<=i⟩
theorem m4{w:World}{K:GH}(it:Addr)(m:Nat):Turn P w K tg (Itd m) [it] it (λi h=>IsRangeIter h it (((m:Int) - 1)+(i:Nat)*(-1)) ((m:Int) - (i:Nat)) (-1)) where
 mem:=by simp
 obj:=λi h st b hb=>by
  have e:b=it:=by simpa using hb
  subst e;exact⟨_,st,λv z=>by
   have z':N8 _=O5 v:=z;cases z'⟩
 keep:=λi h h' st k=>k it (by simp) _ st
 item:=by
  intro X hP hw hK hc i pins s σ H E I hf st hg;subst hP hw hK;obtain⟨f0,f1,f2,f3,f4,f5⟩:=hf it (by simp);have hi:i<m:=hg;have W:=N9 (prog:=X.prog) (w:=X.w) (I.ok.hd hc) it ((m:Int) - 1) (-1) m;refine W.item i s _ _ hg st λv h' tk hv st' kk=>?_
  obtain⟨t,rfl⟩:=hv;have I1:Inv X pins σ H { s with heap:=h',toks:=tk }:=I.turned (λb o hb e=>kk b o (by simpa using hb) e) f0 f1 f3 f4 f5;refine⟨_,rfl,o8 (s:={ s with heap:=h',toks:=tk }) (n:="range_iterator") st' rfl rfl (by decide) ⟨.int ((m - 1 - i:Nat):Int),H,I1,⟨t,?_⟩,⟨rfl,rfl⟩,st',λb hb=>(hf b hb).1⟩⟩;congr 1;lia
 done:=by
  intro X hP hw hK hc i pins s σ H E I hf st hg;subst hP hw hK;obtain⟨f0,f1,f2,f3,f4,f5⟩:=hf it (by simp);exact wpAny_pyNext_range_end (I.ok.hd hc) st (by have:m<=i:=hg;lia) λh' eb=>⟨rfl,I.turned (t':=s.toks) (λb o hb e=>eb b o hb e) f0 f1 f3 f4 f5⟩
 self:=λ_ _ _ _ _ st h=>wpAny_pyIter_rangeiter st h
section
variable{X:Cx}{tg a b c:Expr}{t:TA}{p pos:Pos}
def BJ(t:TA):TI:=λσ H R=>t σ H λvs H1=>∃m:Nat,vs=[.int ((m:Int) - 1),.int (-1),.int (-1)]/\m<=1000/\R (Itd m) H1
theorem lK (hg:Gl X "range") (hm:X.mg "range" = none) (ha:QA X [a,b,c] t) (hn:bT a=true:=by rfl) (hn2:bT b=true:=by rfl) (hn3:bT c=true:=by rfl):QI X tg (.Call (.Name "range" p) [a,b,c] [] pos) (BJ t):=by
 refine⟨λpins s σ H R I h=>?_⟩;have e3:Rl [c] X.env=[(false,eval c X.env)]:=aK hn3;have e2:Rl [b,c] X.env=[(false,eval b X.env),(false,eval c X.env)]:=by rw[aK hn2,e3]
 refine Call_ (dr I hg hm boot_range (HN (thn (ha.out pos pins s σ H _ I h) λus s1 ⟨vs,H1,I1,r1,q1⟩=>?_) (aK hn) (by rw[e2];rfl)));obtain⟨m,e,hm1,q⟩:=q1;subst e;cases r1 with
 | cons r rr=>
  cases rr with
  | cons r' rr=>
   cases rr with
   | cons r'' rr=>
    cases rr;obtain⟨t1,rfl⟩:=r;obtain⟨t2,rfl⟩:=r';obtain⟨t3,rfl⟩:=r'';refine call_range_3 (by decide) ?_ (.inl (Kt (by decide +kernel)));refine wpAny_pyIter_range (Mv ..) (BI hm1) ?_;have I2:Inv X pins σ H1 { s1 with heap:=s1.heap.push { cls:=.type "range",data:=.fields #[.int ((m:Int) - 1) t1,.int (-1) t2,.int (-1) t3] },toks:=s1.toks }:=I1.kept λb o e=>GI _ e
    refine⟨_,[(s1.heap.push { cls:=.type "range",data:=.fields #[.int ((m:Int) - 1) t1,.int (-1) t2,.int (-1) t3] }).objs.size],_,_,H1,rfl,I2.kept (t':=s1.toks) λb o e=>GI _ e,m4 _ m,?_,λb hb=>?_,q⟩
    ·show IsRangeIter _ _ (((m:Int) - 1)+((0:Nat):Int)*(-1)) ((m:Int) - ((0:Nat):Int)) (-1)
     have g1:((m:Int) - 1)+((0:Nat):Int)*(-1)=(m:Int) - 1:=by simp
     have g2:(m:Int) - ((0:Nat):Int)=Im ((m:Int) - 1) (-1) (-1):=by rw[BH];simp
     rw[g1,g2];exact G1 _ rfl
    ·have e:b=(s1.heap.push { cls:=.type "range",data:=.fields #[.int ((m:Int) - 1) t1,.int (-1) t2,.int (-1) t3] }).objs.size:=by simpa using hb
     subst e;exact I2.fpOk (GJ _) (I2.hok.fresh (GJ _))
end
theorem Er{H:Hp}{R:It->Hp->Prop}(h:t σ H λvs H1=>∃m:Nat,vs=[.int ((m:Int) - 1),.int (-1),.int (-1)]/\m<=1000/\R (Itd m) H1):BJ t σ H R:=h
section
variable{prog:Program}{w:World}{A:Around}{E:Value->Shared->Prop}{s:Shared}
theorem rH{z TI TO:Addr}{xs ys:Array Value}{x y a b:Value}(D:ZipApart z TI TO i1 i2 l1 l2)
  (g0:IsZip s.heap z TI TO .none) (g1:RK s.heap TI (.ref i1) (.ref i2)) (g2:RK s.heap TO a b) (g3:s.heap.IsTupleIter i1 l1 k) (g4:s.heap.IsTupleIter i2 l2 k) (g5:s.heap.IsTuple l1 xs) (g6:s.heap.IsTuple l2 ys) (g7:xs[k]? = some x) (g8:ys[k]? = some y)
  (hQ:∀g,IsZip g z TI TO (RJ s.heap.objs.size)->RK g TO x y->g.IsTupleIter i1 l1 (k+1)->g.IsTupleIter i2 l2 (k+1)->RK g s.heap.objs.size x y->(∀c o,c≠z->c≠TO->c≠i1->c≠i2->s.heap.get? c=some o->g.get? c=some o)->Q (.ref s.heap.objs.size) { s with heap:=g }) :
  wpAny (model prog w) A (Builtin.«zip.__next__» ⟨[.ref z],[]⟩) (λfin s'=>∃v,fin=.done (.ret v)/\Q v s') E s:=by
 show wpAny _ _ (JM (.ref z) 2 >>= _) _ _ _
 refine Rh (Ru g0 rfl (x:=.bool false) rfl ?_);show wpAny _ _ (JM (.ref z) 3 >>= _) _ _ _
 refine Rh (Ru g0 rfl (x:=.ref TI) rfl ?_);refine Rh (Rz g1 rfl ?_);show wpAny _ _ (IQ (Hq z) >>= _) _ _ _
 refine Rh ?_;unfold IQ;refine Rh (Ru g0 rfl (x:=.none) rfl (Ri ?_));simp only[if_true];refine Rh (RZ ?_);refine Rh (Ru g0 rfl (x:=.ref TO) rfl ?_);refine Rh (RN g0 (by simp) λa1 b1 c1=>?_);have b1:IsZip a1 z TI TO .ellipsis:=b1;refine Rh ?_;simp only[Ou,ON,Ms,MO];refine Rh (Rh (wpAny_onRaise ?_));show wpAny _ _ (Iq (Hq i1) >>= _) _ _ _
 refine Rh (jP (g3.extBut c1.extBut D.i1z) (g5.extBut c1.extBut D.l1z) g7 λa2 b2 c2=>Ri ?_);have d2:RK a2 TO a b:=c2.extBut _ _ D.TOi1 (c1.extBut _ _ D.TOz g2);refine Rh (Rz d2 rfl ?_);refine Rh (wpAny_updateSeq_pair d2 λa3 b3 c3=>?_);have b3:RK a3 TO x b:=b3;refine Rh (RR (Ri ?_));refine Rh (Rh (wpAny_onRaise ?_));show wpAny _ _ (Iq (Hq i2) >>= _) _ _ _
 refine Rh (jP (((g4.extBut c1.extBut D.i2z).extBut c2.extBut D.i12.symm).extBut c3.extBut D.TOi2.symm) (((g6.extBut c1.extBut D.l2z).extBut c2.extBut D.l2i1).extBut c3.extBut D.l2TO) g8 λa4 b4 c4=>Ri ?_);have d4:RK a4 TO x b:=c4.extBut _ _ D.TOi2 b3;refine Rh (Rz d4 rfl ?_);refine Rh (wpAny_updateSeq_pair d4 λa5 b5 c5=>?_);have b5:RK a5 TO x y:=b5;refine Rh (RR (Ri (Ri ?_)));refine Rh (Rz b5 rfl ?_);refine Rh (wpAny_newTuple ?_);have sz:a5.objs.size=s.heap.objs.size:=by rw[c5.1,c4.1,c3.1,c2.1,c1.1]
 have z5:IsZip a5 z TI TO .ellipsis:=c5.extBut _ _ D.TOz.symm (c4.extBut _ _ D.i2z.symm (c3.extBut _ _ D.TOz.symm (c2.extBut _ _ D.i1z.symm b1)));have k5:∀c o,c≠z->c≠TO->c≠i1->c≠i2->s.heap.get? c=some o->a5.get? c=some o:=λc o n1 n2 n3 n4 e=>c5.extBut _ _ n2 (c4.extBut _ _ n4 (c3.extBut _ _ n2 (c2.extBut _ _ n3 (c1.extBut _ _ n1 e))))
 have p5:a5.IsTupleIter i1 l1 (k+1):=((b2.extBut c3.extBut D.TOi1.symm).extBut c4.extBut D.i12).extBut c5.extBut D.TOi1.symm;have q5:a5.IsTupleIter i2 l2 (k+1):=b4.extBut c5.extBut D.TOi2.symm;have zl:z<a5.objs.size:=GX z5;show wpAny _ _ (Ku (Hq z) (.ref a5.objs.size) >>= _) _ _ _
 refine Rh ?_;unfold Ku;have z6:IsZip (a5.push { cls:=.type "tuple",data:=.seq #[x,y] }) z TI TO .ellipsis:=GI _ z5;refine Rh (RN z6 (by simp) λa7 b7 c7=>?_);have b7:IsZip a7 z TI TO (RJ a5.objs.size):=b7;refine RN b7 (by simp) λa8 b8 c8=>?_
 have b8:IsZip a8 z TI TO (RJ a5.objs.size):=b8;have up:∀c o,c≠z->a5.get? c=some o->a8.get? c=some o:=λc o n e=>c8.extBut _ _ n (c7.extBut _ _ n (GI _ e))
 have t8:RK a8 a5.objs.size x y:=c8.extBut _ _ (Jb zl) (c7.extBut _ _ (Jb zl) (G1 _ rfl));rw[sz]at b8 t8;refine Ri ⟨_,rfl,?_⟩;show Q (.ref a5.objs.size) _
 rw[sz];have r1:a8.IsTupleIter i1 l1 (k+1):=by obtain⟨o,e,r⟩:=p5;exact⟨o,up _ _ D.i1z e,r⟩
 have r2:a8.IsTupleIter i2 l2 (k+1):=by obtain⟨o,e,r⟩:=q5;exact⟨o,up _ _ D.i2z e,r⟩
 exact hQ a8 b8 (up _ _ D.TOz b5) r1 r2 t8 λc o n1 n2 n3 n4 e=>up c o n1 (k5 c o n1 n2 n3 n4 e)
theorem vh{z TI TO:Addr}{xs:Array Value}{Q:Fin->Shared->Prop}(hh:A.handled=none)(D:ZipApart z TI TO i1 i2 l1 l2)
  (g0:IsZip s.heap z TI TO .none) (g1:RK s.heap TI (.ref i1) (.ref i2)) (g3:s.heap.IsTupleIter i1 l1 k) (g5:s.heap.IsTuple l1 xs) (g7:xs[k]? = none)
  (hE:∀g e,(∀c o,c≠z->c≠i1->s.heap.get? c=some o->g.get? c=some o)->(∃o,g.get? e=some o/\o.cls=.type "StopIteration")->E (.ref e) { s with heap:=g }) :
  wpAny (model prog w) A (Builtin.«zip.__next__» ⟨[.ref z],[]⟩) Q E s:=by
 show wpAny _ _ (JM (.ref z) 2 >>= _) _ _ _
 refine Rh (Ru g0 rfl (x:=.bool false) rfl ?_);show wpAny _ _ (JM (.ref z) 3 >>= _) _ _ _
 refine Rh (Ru g0 rfl (x:=.ref TI) rfl ?_);refine Rh (Rz g1 rfl ?_);show wpAny _ _ (IQ (Hq z) >>= _) _ _ _
 refine Rh ?_;unfold IQ;refine Rh (Ru g0 rfl (x:=.none) rfl (Ri ?_));simp only[if_true];refine Rh (RZ ?_);refine Rh (Ru g0 rfl (x:=.ref TO) rfl ?_);refine Rh (RN g0 (by simp) λa1 b1 c1=>?_);have b1:IsZip a1 z TI TO .ellipsis:=b1;refine Rh ?_;simp only[Ou,ON,Ms,MO];refine Rh (Rh (wpAny_onRaise ?_));show wpAny _ _ (Iq (Hq i1) >>= _) _ _ _
 refine Rh (rp hh (g3.extBut c1.extBut D.i1z) (g5.extBut c1.extBut D.l1z) g7 λa2 e c2 he=>?_);obtain⟨oe,e1,e2⟩:=he;have z2:IsZip a2 z TI TO .ellipsis:=c2 _ _ D.i1z.symm b1;have ez:e≠z:=λq=>by
  subst q;rw[z2]at e1;cases e1;simp at e2
 exact RN z2 (by simp) λa3 _ c3=>hE a3 e (λc o n1 n3 q=>c3.extBut _ _ n1 (c2 _ _ n3 (c1.extBut _ _ n1 q))) ⟨oe,c3.extBut _ _ ez e1,e2⟩
theorem m5{z TI TO:Addr}{xs ys:Array Value}{x y a b:Value}{Q:Option Value->Shared->Prop}(D:ZipApart z TI TO i1 i2 l1 l2)
  (g0:IsZip s.heap z TI TO .none) (g1:RK s.heap TI (.ref i1) (.ref i2)) (g2:RK s.heap TO a b) (g3:s.heap.IsTupleIter i1 l1 k) (g4:s.heap.IsTupleIter i2 l2 k) (g5:s.heap.IsTuple l1 xs) (g6:s.heap.IsTuple l2 ys) (g7:xs[k]? = some x) (g8:ys[k]? = some y)
  (hQ:∀g,IsZip g z TI TO (RJ s.heap.objs.size)->RK g TO x y->g.IsTupleIter i1 l1 (k+1)->g.IsTupleIter i2 l2 (k+1)->RK g s.heap.objs.size x y->(∀c o,c≠z->c≠TO->c≠i1->c≠i2->s.heap.get? c=some o->g.get? c=some o)->Q (some (.ref s.heap.objs.size)) { s with heap:=g }) :
  wpAny (model prog w) A (pyNext (.ref z)) Q E s:=by
 have ty:s.TypeIs (.ref z) "zip":=⟨_,g0,rfl⟩;unfold pyNext;exact Rh (wpAny_attempt (Rx (name:=He "__next__") ty Lc (RE Lc ty Ov (rH D g0 g1 g2 g3 g4 g5 g6 g7 g8 λg a1 a2 a3 a4 a5 a6=>Ri (hQ g a1 a2 a3 a4 a5 a6)) (N0 _))))
theorem pK{z TI TO:Addr}{xs:Array Value}{Q:Option Value->Shared->Prop}(hh:A.handled=none)(D:ZipApart z TI TO i1 i2 l1 l2)
  (g0:IsZip s.heap z TI TO .none) (g1:RK s.heap TI (.ref i1) (.ref i2)) (g3:s.heap.IsTupleIter i1 l1 k) (g5:s.heap.IsTuple l1 xs) (g7:xs[k]? = none)
  (hQ:∀g,(∀c o,c≠z->c≠i1->s.heap.get? c=some o->g.get? c=some o)->Q none { s with heap:=g }):wpAny (model prog w) A (pyNext (.ref z)) Q E s:=by
 have ty:s.TypeIs (.ref z) "zip":=⟨_,g0,rfl⟩;unfold pyNext;refine Rh (wpAny_attempt (Rx (name:=He "__next__") ty Lc (RE Lc ty Ov (vh hh D g0 g1 g3 g5 g7 λg e kk he=>?_) (N0 _))));obtain⟨o,e1,e2⟩:=he;refine Rh (wpAny_isInstance (T:="StopIteration") (b:=true) ⟨o,e1,e2⟩ isSubtype_stop ?_);exact Ri (hQ _ kk)
noncomputable abbrev zt1 (h:Heap) (l:Addr):Heap:=h.push { cls:=.type "tuple_iterator",data:=.fields #[.ref l,.int 0 0] }
noncomputable abbrev zt2(h:Heap)(l m:Addr):Heap:=zt1 (zt1 h l) m
noncomputable abbrev zt3 (h:Heap) (l m:Addr):Heap:=(zt2 h l m).push { cls:=.type "tuple",data:=.seq #[.ref h.objs.size,.ref (zt1 h l).objs.size] }
noncomputable abbrev zt4 (h:Heap) (l m:Addr):Heap:=(zt3 h l m).push { cls:=.type "tuple",data:=.seq #[.none,.none] }
noncomputable abbrev zt5 (h:Heap) (l m:Addr):Heap:=(zt4 h l m).push { cls:=.type "zip",data:=.fields #[.none,.bool false,.bool false,.ref (zt2 h l m).objs.size,.ref (zt3 h l m).objs.size] }
theorem yE (l m:Addr) (xs ys:Array Value):Meets (Builtin.«zip.__new__» ⟨[.type "zip",.ref l,.ref m],[]⟩) (λ_ R s=>s.heap.IsTuple l xs/\s.heap.IsTuple m ys/\R (.ok (.ret (.ref (zt4 s.heap l m).objs.size))) { s with heap:=zt5 s.heap l m }):=
 .of_wp λprog w A R s h=>by
  obtain⟨q1,q2,q3,q4,q5⟩:=s;obtain⟨a1,a2,h⟩:=h;have sub:=sub_zip;have e1:P0 (Qj ⟨q1,q2,q3,q4,q5⟩) l xs:=a1;have e2:P0 (Qj ⟨zt1 q1 l,q2,q3,q4,q5⟩) m ys:=QU a2 _
  wp_walk using RM e1,RM e2
  exact⟨_,rfl,h⟩
theorem vi{m:Addr}{xs ys:Array Value}(a1:s.heap.IsTuple l xs)(a2:s.heap.IsTuple m ys)
  (h:∀g,IsZip g (s.heap.objs.size+4) (s.heap.objs.size+2) (s.heap.objs.size+3) .none->RK g (s.heap.objs.size+2) (.ref s.heap.objs.size) (.ref (s.heap.objs.size+1))->RK g (s.heap.objs.size+3) .none .none->g.IsTupleIter s.heap.objs.size l 0->g.IsTupleIter (s.heap.objs.size+1) m 0->
   (∀c o,s.heap.get? c=some o->g.get? c=some o)->Q (.ref (s.heap.objs.size+4)) { s with heap:=g }):wpAny (model prog w) A (call (.type "zip") [.ref l,.ref m]) Q E s:=by
 refine callType_new F.called_zip (by decide) (F.typeCall_zip_2 _ _) (F.newCall_zip_2 _ _) (λobj=>F.args_object_init_3 obj _ _) F.entry_zip_new (yE l m xs ys) ⟨a1,a2,?_⟩;have w1:(zt1 s.heap l).objs.size=s.heap.objs.size+1:=Jj ..;have w2:(zt2 s.heap l m).objs.size=s.heap.objs.size+2:=by rw[Jj,w1]
 have w3:(zt3 s.heap l m).objs.size=s.heap.objs.size+3:=by rw[Jj,w2]
 have w4:(zt4 s.heap l m).objs.size=s.heap.objs.size+4:=by rw[Jj,w3]
 have r5:(zt5 s.heap l m).get? (zt4 s.heap l m).objs.size=some { cls:=.type "zip",data:=.fields #[.none,.bool false,.bool false,.ref (zt2 s.heap l m).objs.size,.ref (zt3 s.heap l m).objs.size] }:=G1 _ rfl;have r4:(zt5 s.heap l m).get? (zt3 s.heap l m).objs.size=some { cls:=.type "tuple",data:=.seq #[.none,.none] }:=GI _ (G1 _ rfl);have r3:(zt5 s.heap l m).get? (zt2 s.heap l m).objs.size=some { cls:=.type "tuple",data:=.seq #[.ref s.heap.objs.size,.ref (zt1 s.heap l).objs.size] }:=GI _ (GI _ (G1 _ rfl));have r2:(zt5 s.heap l m).get? (zt1 s.heap l).objs.size=some { cls:=.type "tuple_iterator",data:=.fields #[.ref m,.int 0 0] }:=GI _ (GI _ (GI _ (G1 _ rfl)));have r1:(zt5 s.heap l m).get? s.heap.objs.size=some { cls:=.type "tuple_iterator",data:=.fields #[.ref l,.int 0 0] }:=GI _ (GI _ (GI _ (GI _ (G1 _ rfl))));rw[w2,w3,w4]at r5;rw[w1,w2]at r3;rw[w3]at r4;rw[w1]at r2;show _/\_
 rw[w4];exact⟨⟨_,r5,rfl⟩,h _ r5 r3 r4 ⟨_,r1,rfl,rfl⟩ ⟨_,r2,rfl,rfl⟩ λc o q=>GI _ (GI _ (GI _ (GI _ (GI _ q))))⟩
end
def Es(K:GH)(a b:Addr):It:=
 ⟨λi H=>∃xs ys x y,SqT K H a xs/\SqT K H b ys/\xs[i]? = some x/\ys[i]? = some y,λi H v H'=>∃p x y,v=.ref p/\H p=none/\H'=upd H p (.tup [x,y])/\(∀xs,SqT K H a xs->xs[i]? = some x)/\∀ys,SqT K H b ys->ys[i]? = some y,λi H=>∃xs,SqT K H a xs/\xs.length<=i⟩
theorem rJ{w:World}{K:GH}{elts:List Expr}(a b z TI TO i1 i2:Addr)(D:ZipApart z TI TO i1 i2 a b):
  Turn P w K (.Tuple elts k pos) (Es K a b) [z,TI,TO,i1,i2] z (λi h=>IsZip h z TI TO .none/\RK h TI (.ref i1) (.ref i2)/\(∃u v,RK h TO u v)/\h.IsTupleIter i1 a i/\h.IsTupleIter i2 b i) where
 mem:=by simp
 obj:=λi h st c hb=>by
  obtain⟨q1,q2,⟨u,v,q3⟩,⟨o4,q4,_,d4⟩,⟨o5,q5,_,d5⟩⟩:=st;simp only[GZ,Ho,or_false]at hb;rcases hb with rfl|rfl|rfl|rfl|rfl
  ·exact⟨_,q1,λv z=>by cases z⟩
  ·exact⟨_,q2,λv z=>by cases z⟩
  ·exact⟨_,q3,λv z=>by cases z⟩
  ·exact⟨o4,q4,λv z=>by rw[d4]at z;cases z⟩
  ·exact⟨o5,q5,λv z=>by rw[d5]at z;cases z⟩
 keep:=λi h h' st kk=>by
  obtain⟨q1,q2,⟨u,v,q3⟩,⟨o4,q4,r4⟩,⟨o5,q5,r5⟩⟩:=st;exact⟨kk z (by simp) _ q1,kk TI (by simp) _ q2,⟨u,v,kk TO (by simp) _ q3⟩,⟨o4,kk i1 (by simp) _ q4,r4⟩,⟨o5,kk i2 (by simp) _ q5,r5⟩⟩
 item:=by
  intro X hP hw hK hc i pins s σ H E I hf st hg;subst hP hw hK;obtain⟨xs,ys,x,y,hqx,hqy,hx,hy⟩:=hg;obtain⟨its,rv,p,hz⟩:=I.tuple hqx;obtain⟨jts,rw',p',hz'⟩:=I.tuple hqy;have p:s.heap.IsTuple a its.toArray:=p;have p':s.heap.IsTuple b jts.toArray:=p';obtain⟨u,hu,ru⟩:=rv.get hx;obtain⟨v,hv,rv'⟩:=rw'.get hy;obtain⟨q1,q2,⟨u3,v3,q3⟩,q4,q5⟩:=st;have l1:=GX q1;have l2:=GX q2;have l3:=GX q3;have l4:i1<s.heap.objs.size:=by obtain⟨o,g,_⟩:=q4;exact GX g
  have l5:i2<s.heap.objs.size:=by obtain⟨o,g,_⟩:=q5;exact GX g
  refine m5 D q1 q2 q3 q4 q5 p p' (x:=u) (y:=v) (by simpa using hu) (by simpa using hv) λh' a1 a2 a3 a4 a5 a7=>⟨_,rfl,wpAny_letOwnedTupleGo_zip a1 λg hz2 sb=>?_⟩
  obtain⟨I2,hn⟩:=I.pair (g:=g) (tk:=s.toks) (ch:=[z,TO,i1,i2]) (x:=x) (y:=y) (λc o hb r=>(sb.2 c (λe=>hb (by simp[e]))).trans (a7 c o (λe=>hb (by simp[e])) (λe=>hb (by simp[e])) (λe=>hb (by simp[e])) (λe=>hb (by simp[e])) r)) (λc hb=>hf c (by simp at hb;rcases hb with e|e|e|e<;>simp[e])) ((sb.2 _ (Jb l1)).trans a5) ru rv';have r3:g.IsTupleIter i1 a (i+1):=by obtain⟨o,e,r⟩:=a3;exact⟨o,(sb.2 i1 D.i1z).trans e,r⟩
  have r4:g.IsTupleIter i2 b (i+1):=by obtain⟨o,e,r⟩:=a4;exact⟨o,(sb.2 i2 D.i2z).trans e,r⟩
  refine⟨.ref s.heap.objs.size,_,I2,rfl,⟨_,x,y,rfl,hn,rfl,λzs h=>by rw[I.tuple_inj h hqx];exact hx,λzs h=>by rw[I.tuple_inj h hqy];exact hy⟩,⟨hz2,?_,⟨_,_,(sb.2 _ D.TOz).trans a2⟩,r3,r4⟩,λc hb=>?_⟩
  ·exact(sb.2 _ D.TIz).trans (a7 TI _ D.TIz D.TITO D.TIi1 D.TIi2 q2)
  ·have hc0:=(hf c hb).1
   simp only[GZ,Ho,or_false]at hb;have:c<s.heap.objs.size:=by rcases hb with rfl|rfl|rfl|rfl|rfl<;>assumption
   rw[ar (Hf this)];exact hc0
 done:=by
  intro X hP hw hK hc i pins s σ H E I hf st hg;subst hP hw hK;obtain⟨xs,hqx,hx⟩:=hg;obtain⟨its,rv,p,hz⟩:=I.tuple hqx;have m1:=rv.length;obtain⟨q1,q2,_,q4,_⟩:=st;exact pK (I.ok.hd hc) D q1 q2 q4 (show s.heap.IsTuple a its.toArray from p) (by simp;lia) λh' kk=>⟨rfl,I.turnedAll (t':=s.toks) (ch:=[z,i1]) (λc o hb r=>kk c o (λe=>hb (by simp[e])) (λe=>hb (by simp[e])) r) (λc hb=>hf c (by simp at hb;rcases hb with e|e<;>simp[e]))⟩
 self:=λ_ _ _ _ _ st h=>wpAny_pyIter_zip st.1 h
section
variable{X:Cx}{a b:Expr}{t:TA}{p pos tpos:Pos}{ts:List Expr}{k:Nat}
def BK(K:GH)(t:TA):TI:=λσ H R=>t σ H λvs H1=>∃a b,vs=[.ref a,.ref b]/\(∃xs,SqT K H1 a xs)/\(∃ys,SqT K H1 b ys)/\R (Es K a b) H1
theorem yF {K:GH}(hg:Gl X "zip") (hm:X.mg "zip" = none) (ha:QA X [a,b] t) (hn:bT a=true:=by rfl) (hn2:bT b=true:=by rfl) (hK:X.K=K:=by rfl):QI X (.Tuple ts k tpos) (.Call (.Name "zip" p) [a,b] [] pos) (BK K t):=by
 subst hK;refine⟨λpins s σ H R I h=>?_⟩;have e2:Rl [b] X.env=[(false,eval b X.env)]:=aK hn2;refine Call_ (dr I hg hm (by decide +kernel:bootBuiltins "zip" = some (.type "zip")) (HN (thn (ha.out pos pins s σ H _ I h) λus s1 ⟨vs,H1,I1,r1,q1⟩=>?_) (aK hn) (by rw[e2];rfl)));obtain⟨l,m,e,⟨xs,hq⟩,⟨ys,hq'⟩,q⟩:=q1;subst e;cases r1 with
 | cons r rr=>
  cases rr with
  | cons r' rr=>
   cases rr;cases r;cases r';obtain⟨its,rv,pl,hz⟩:=I1.tuple hq;obtain⟨jts,rw',pl',hz'⟩:=I1.tuple hq';have pl:s1.heap.IsTuple l its.toArray:=pl;have pl':s1.heap.IsTuple m jts.toArray:=pl';have a1:l<s1.heap.objs.size:=by obtain⟨o,g,_⟩:=pl;exact GX g
   have a2:m<s1.heap.objs.size:=by obtain⟨o,g,_⟩:=pl';exact GX g
   refine vi pl pl' λg h1 h2 h3 h4 h5 h7=>wpAny_pyIter_zip h1 ?_
   have I2:Inv X pins σ H1 { s1 with heap:=g }:=I1.kept (t':=s1.toks) h7;refine⟨_,_,_,_,H1,rfl,I2,rJ l m _ _ _ _ _ (zipApart_new a1 a2),⟨h1,h2,⟨_,_,h3⟩,h4,h5⟩,λc hc=>?_,q⟩;have hle:s1.heap.objs.size<=c:=by
    simp only[GZ,Ho,or_false]at hc;rcases hc with rfl|rfl|rfl|rfl|rfl
    ·exact Ii _ _
    ·exact Ii _ _
    ·exact Ii _ _
    ·exact GJ _
    ·exact Ii _ _
   exact I1.fpOk hle (I1.hok.fresh hle)
end
theorem Et{K:GH}{H:Hp}{R:It->Hp->Prop}(h:t σ H λvs H1=>∃a b,vs=[.ref a,.ref b]/\(∃xs,SqT K H1 a xs)/\(∃ys,SqT K H1 b ys)/\R (Es K a b) H1):BK K t σ H R:=h
section
variable{X:Cx}{N tgs frs:List Str}{ix:List Nat}{scope:Scope}{cl:List (Str×Addr)}
end
section
variable{X:Cx}{N tgs frs:List Str}{ix:List Nat}{scope:Scope}{cl:List (Str×Addr)}{xc:Str}
end
section
variable{X:Cx}{e o:Expr}{to te:TE}{t:TA}{pos apos cpos:Pos}
end
section
variable{K:GH}{σ:St}{H:Hp}{Q:VK}{g:TG}{tc:TT}{te:TE}
end
section
variable{X:Cx}
def BL(K:GH):R2:=λx y H Q=>∃a b xs,x=.ref a/\y=.ref b/\SqL K H a xs/\SqL K H b []/\Q (.bl (decide (xs=[]))) H
theorem yG{K:GH}(hu:X.A.units<cLine)(hK:X.K=K:=by rfl):QOp X (Rm .Eq) (BL K):=by
 subst hK;refine⟨λpins s σ H x y v u Q I rx ry h=>?_⟩;obtain⟨a,b,xs,rfl,rfl,ha,hb,q⟩:=h;cases rx;cases ry;obtain⟨its,r1,p1,z1⟩:=I.list ha;obtain⟨its2,r2,p2,z2⟩:=I.list hb;have l1:its.toArray.size=xs.length:=by have:=r1.length;simp;lia
 have l2:its2.toArray.size=0:=by have:=r2.length;simp at this;simp[this]
 by_cases hx:xs=[]
 ·subst hx
  refine Oo (e:=λ_=>true) p1.isList p2.isList (by rw[l1,l2];rfl) hu (λj h1 h2=>absurd h2 ⋯) X.prog X.w X.xe _ ?_;rw[l1];exact⟨.bl true,H,I,rfl,q⟩
 ·refine Mb p1.isList p2.isList (by rw[l1,l2];have:=Ij.mpr hx;simp;exact hx) hu X.prog X.w X.xe _ ?_
  rw[decide_eq_false hx]at q;exact⟨.bl false,H,I,rfl,q⟩
end
noncomputable def lL(os:List Nat):List Nat:=os.filter λm=>decide (0<m)
noncomputable def fZ(os:List Nat):Bool:=decide (1<(lL os).length)
noncomputable def cK(os:List Nat)(f:Nat):Nat:=os.countP λx=>decide (x<f)
noncomputable def vj(cs:List Nat):List Nat:=(GO cs.length).map λf=>(cs.take f).sum
noncomputable def fw(os:List Nat)(k:Nat):Nat:=cK os (os.getD k 0)+(os.take k).count (os.getD k 0)
theorem da(os:List Nat)(f:Nat):cK os (f+1)=cK os f+os.count f:=by
 unfold cK
 induction os with
 | nil=>rfl
 | cons x xs ih=>
  rw[Ow,Ow,Mt,ih];by_cases h:x<f
  ·have h1:x≠f:=by lia
   have h2:x<f+1:=by lia
   simp[h,h1,h2];lia
  ·by_cases h1:x=f
   ·subst h1;simp;lia
   ·have h2:¬x<f+1:=by lia
    simp[h,h1,h2]
theorem dC{os:List Nat}{f g:Nat}(h:f<=g):cK os f<=cK os g:=by
 induction g with
 | zero=>(have:f=0:=⋯);subst this;exact GJ _
 | succ g ih=>
  by_cases e:f=g+1
  ·subst e;exact GJ _
  ·have:=ih ⋯
   rw[da];lia
theorem iD(os:List Nat)(f:Nat):cK os f<=os.length:=List.countP_le_length
theorem cE(os:List Nat)(b f:Nat)(h:f<=b):((cnt os b).take f).sum=cK os f:=by
 induction f with
 | zero=>simp[cK]
 | succ f ih=>
  rw[G4,fE ⋯,JH,ih ⋯,da];simp
theorem iE(cs:List Nat):(vj cs).length=cs.length:=by simp[vj]
theorem iF{cs:List Nat}{f:Nat}(h:f<cs.length):(vj cs)[f]? = some (cs.take f).sum:=by
 unfold vj;rw[GK,Ir h];rfl
theorem rK{cs:List Nat}{f:Nat}(h:f<cs.length):(vj cs).take (f+1)=(vj cs).take f++[(cs.take f).sum]:=by
 rw[G4,iF h];rfl
theorem f6(os:List Nat)(f:Nat)(h:i<=j):(os.take i).count f<=(os.take j).count f:=by
 have:os.take i=(os.take j).take i:=by rw[List.take_take,Jn h]
 rw[this];exact Qo _ (NW i _)
theorem di{os:List Nat}(h:k<os.length):(os.take (k+1)).count (os.getD k 0)=(os.take k).count (os.getD k 0)+1:=by
 rw[G4,GE h,JP];simp[GG,GE h]
theorem f7{os:List Nat}(h:k<os.length):fw os k<cK os (os.getD k 0+1):=by
 unfold fw;rw[da];have h1:=di h;have h2:=f6 os (os.getD k 0) (i:=k+1) (j:=os.length) ⋯;rw[GN (GJ _)]at h2;lia
theorem m6{os:List Nat}(h:k<os.length):fw os k<os.length:=Hi (f7 h) (iD _ _)
theorem dD{os:List Nat}(hi:i<os.length)(hj:j<os.length)(h:os.getD i 0<os.getD j 0\/os.getD i 0=os.getD j 0/\i<j):fw os i<fw os j:=by
 rcases h with h|⟨h,hij⟩
 ·have h1:=f7 hi
  have h2:=dC (os:=os) (f:=os.getD i 0+1) (g:=os.getD j 0) h;unfold fw at *;lia
 ·unfold fw
  rw[<-h];have h1:=di hi;have h2:=f6 os (os.getD i 0) (i:=i+1) (j:=j) hij;lia
theorem oA{os:List Nat}(hi:i<os.length)(hj:j<os.length)(h:fw os i=fw os j):i=j:=by
 rcases Iv (os.getD i 0) (os.getD j 0)with g|g|g
 ·have:=dD hi hj (.inl g);lia
 ·rcases Iv i j with q|q|q
  ·have:=dD hi hj (.inr ⟨g,q⟩);lia
  ·exact q
  ·have:=dD hj hi (.inr ⟨g.symm,q⟩);lia
 ·have:=dD hj hi (.inl g);lia
theorem lM{xs ys:List Nat}(h:xs.Nodup)(hs:∀x∈xs,x∈ys)(hl:ys.length<=xs.length):xs.Perm ys:=by
 induction xs generalizing ys with
 | nil=>cases ys with
  | nil=>exact IX _
  | cons y r=>simp at hl
 | cons x xs ih=>
  have hx:x∈ys:=hs x (Hj ..);have hp:=List.perm_cons_erase hx;refine OO (Q2 x (ih (HQ.mp h).2 (λz hz=>?_) ?_)) hp.symm
  ·have:z≠x:=λe=>(HQ.mp h).1 (e▸hz)
   exact(List.mem_erase_of_ne this).mpr (hs z (Hd _ hz))
  ·rw[List.length_erase_of_mem hx];simp at hl;lia
structure ByF (os ob:List Nat):Prop where
 len:ob.length=os.length
 at_:∀k,k<os.length->ob[fw os k]? = some k
theorem ByF.get{os ob:List Nat}(h:ByF os ob){a x:Nat}(e:ob[a]? = some x):x<os.length/\a=fw os x:=by
 -- the spots are each place once
 have hsur:∀a,a<os.length->∃k,k<os.length/\fw os k=a:=by
  intro a ha;have hnd:((GO os.length).map (fw os)).Nodup:=by
   rw[LM,G7];intro i j hi hj hij e;simp only[GF,Ic]at hi hj;rw[Kb,Kb,NC,NC]at e;have:=oA hi hj e;lia
  have hsub:∀x∈(GO os.length).map (fw os),x∈GO os.length:=λx hx=>by
   obtain⟨k,hk,rfl⟩:=Hk.mp hx;exact Hg.mpr (m6 (Hg.mp hk))
  have hp:((GO os.length).map (fw os)).Perm (GO os.length):=lM hnd hsub (by simp);obtain⟨k,hk,e⟩:=Hk.mp (hp.mem_iff.mpr (Hg.mpr ha));exact⟨k,Hg.mp hk,e⟩
 have ha:a<os.length:=by rw[<-h.len];exact bj e
 obtain⟨k,hk,rfl⟩:=hsur a ha;rw[h.at_ k hk]at e;cases e;exact⟨hk,rfl⟩
theorem ByF.ord{os ob:List Nat}(h:ByF os ob):Ord ob os.length:=by
 refine⟨h.len,λx hx=>?_,λi j r a b=>?_,λx hx=>⟨fw os x,m6 hx,h.at_ x hx⟩⟩
 ·obtain⟨a,e⟩:=Ka hx
  exact(h.get e).1
 ·rw[(h.get a).2,(h.get b).2]
theorem ByF.rise{os ob:List Nat}(h:ByF os ob):ob.Pairwise λi j=>os.getD i 0<os.getD j 0\/os.getD i 0=os.getD j 0/\i<j:=by
 rw[G7];intro a b ha hb hab;obtain⟨h1,e1⟩:=h.get (GE ha);obtain⟨h2,e2⟩:=h.get (GE hb);generalize ob[a]=i at *;generalize ob[b]=j at *;rcases Iv (os.getD i 0) (os.getD j 0)with g|g|g
 ·exact .inl g
 ·rcases Iv i j with q|q|q
  ·exact .inr ⟨g,q⟩
  ·subst q;lia
  ·have:=dD h2 h1 (.inr ⟨g.symm,q⟩);lia
 ·have:=dD h2 h1 (.inl g);lia
theorem Ord.perm{os:List Nat}(h:Ord os n):os.Perm (GO n):=by
 refine lM ?_ (λx hx=>Hg.mpr (h.lt x hx)) (by rw[Ic,h.len];exact GJ _);rw[LM,G7];intro i j hi hj hij e;have:=h.inj i j os[i] (GE hi) (by rw[e];exact GE hj);lia
theorem fx(xs:List Nat):(GO xs.length).map (λp=>xs.getD p 0)=xs:=by
 apply Jy (by simp);intro i h1 h2;simp[GG,GE h2]
theorem ky{os xs:List Nat}(h:os.Perm (GO xs.length)):(os.map λp=>xs.getD p 0).Perm xs:=by
 have:=h.map (λp=>xs.getD p 0);rw[fx]at this;exact this
theorem vm{xs ys:List Nat}(h:xs.Perm ys):cnt xs b=cnt ys b:=by
 unfold cnt;apply Iu;intro f _;exact h.count_eq f
theorem yH{os:List Nat}(h:∀o∈os,o<b):(cnt os b).sum=os.length:=by
 have h1:=cE os b b (GJ _);rw[GN (by rw[bU];exact GJ _)]at h1;rw[h1];unfold cK;rw[List.countP_eq_length];intro o ho;simpa using h o ho
theorem lN(ns:List Nat):(ns.map λx:Nat=>(x:Int)).sum=((ns.sum:Nat):Int):=by
 induction ns with
 | nil=>rfl
 | cons x xs ih=>simp[ih]
end L2
open L2.Nx renaming mk→Rf
open L2.QW renaming qt→Re
open L2.Same renaming refl→Rc
open L2.St2 renaming refl→Rg
namespace HT
open PySem PyProof.Rows
noncomputable def dR:List Int->List Int->Bool
 | [],[]=>true
 | [],_::_=>true
 | _::_,[]=>false
 | x::xs,y::ys=>if x=y then dR xs ys else decide (x<=y)
theorem jQ(x y:Int)(xs ys:List Int):dR (x::xs) (y::ys)=if x=y then dR xs ys else decide (x<=y):=rfl
theorem kz:dR [] []=true:=rfl
theorem jA(y:Int)(ys:List Int):dR [] (y::ys)=true:=rfl
theorem jB(x:Int)(xs:List Int):dR (x::xs) []=false:=rfl
theorem vn(A:Around)(s:Shared)(a:Int)(t:Tok)(c:Int)(u:Tok)(prog:Program)(w:World)(E:Value->Shared->Prop)(Q:Value->Shared->Prop)(h:Q (.bool (decide (a<=c))) s):
  wpAny (model prog w) A (R7 .LtE (.int a t) (.int c u)) Q E s:=
 (Qw h:wpAny (model prog w) A (Rm .LtE (.int a t) (.int c u)) Q E s)
section
open PySem.SeqAt
open PySem.AutoSeq1 (wpAny_loadPart')
open PySem.MeetsSeq PySem.MeetsSeq2 PySem.MeetsSeq3
theorem kC(l b:Addr)(items items2:Array Value)(n n2:Nat)(dd dd2:Option Addr)(sl sl2:Array (Option Value))(ns ms:List Int)(hi:Rp items.toList ns)(hj:Rp items2.toList ms):
  Meets (Builtin.«tuple.__le__» ⟨[.ref l,.ref b],[]⟩)
   (λ_ R s=>s.heap.get? l=some { cls:=.type "tuple",dict:=dd,data:=.seq items n,slots:=sl }/\s.heap.get? b=some { cls:=.type "tuple",dict:=dd2,data:=.seq items2 n2,slots:=sl2 }/\
    R (.ok (.ret (.bool (dR ns ms)))) s):=
 .of_wp λprog w A R s h=>by
  obtain⟨hp,g,d,tk,os⟩:=s;obtain⟨hl,hb,h⟩:=h;have f2:=Je;have z1:items.size=ns.length:=by rw[<-hi.length];simp
  have z2:items2.size=ms.length:=by rw[<-hj.length];simp
  wp_walk using Rv hl,Rv hb,wpAny_forIn_list _ (λrest b s'=>b.1=none/\s'=⟨hp,g,d,tk,os⟩/\∃(vs ws:List Value) (ns' ms':List Int),rest=vs.zip ws/\
   Rp vs ns'/\Rp ws ms'/\ns'.length+items2.size=ms'.length+items.size/\R (.ok (.ret (.bool (dR ns' ms')))) ⟨hp,g,d,tk,os⟩) _
  case turn=>
   rintro⟨y,x⟩ rest b s' ⟨hb',rfl,vs,ws,ns',ms',hz,hvi,hwi,hlen,hR⟩;cases hvi with
   | nil=>rw[KE]at hz;cases hz
   | cons a t hvi'=>
    cases hwi with
    | nil=>rw[Ks]at hz;cases hz
    | cons c u hwi'=>
     rw[IJ]at hz;injection hz with hyx hrest
     injection hyx with hy hx
     subst hy hx;rw[jQ]at hR;simp only[G8]at hlen;obtain⟨e,he,hiff⟩:=j9 A.in1 ⟨hp,g,d,tk,os⟩ a t c u;refine Rh (he prog w _ _ ?_);cases e with
     | true=>
      rw[if_pos (hiff.mp rfl)]at hR
      wp_walk
      exact⟨rfl,rfl,_,_,_,_,hrest,hvi',hwi',by lia,hR⟩
     | false=>
      rw[if_neg (λq=>absurd (hiff.mpr q) Ha)]at hR;have hri:=vn A.in1 ⟨hp,g,d,tk,os⟩ a t c u prog w
      wp_walk using hri
      exact⟨_,rfl,by simpa using hR⟩
  case fin=>
   rintro⟨b1,b2⟩ s' ⟨hb',rfl,vs,ws,ns',ms',hz,hvi,hwi,hlen,hR⟩;simp only at hb';subst hb';have hv:dR ns' ms'=decide (items.size<=items2.size):=by
    cases hvi with
    | nil=>
     cases hwi with
     | nil=>
      simp only[Ib]at hlen;rw[kz];exact(decide_eq_true ⋯).symm
     | cons c u hw=>
      simp only[Ib,G8]at hlen;rw[jA];exact(decide_eq_true ⋯).symm
    | cons a t hv=>
     cases hwi with
     | nil=>
      simp only[Ib,G8]at hlen;rw[jB];exact(decide_eq_false ⋯).symm
     | cons c u hw=>
      rw[IJ]at hz;cases hz
   rw[hv]at hR
   wp_walk
   exact⟨_,rfl,by simpa [I0]using hR⟩
  case h=>
   exact⟨rfl,rfl,items.toList,items2.toList,ns,ms,rfl,hi,hj,by lia,h⟩
end
section
variable{prog:Program}{w:World}{A:Around}{E:Value->Shared->Prop}{s:Shared}
theorem pL{b:Addr}{items2:Array Value}{ns ms:List Int}(hl:IsTup s.heap l items)(hb:IsTup s.heap b items2)(hi:Rp items.toList ns)(hj:Rp items2.toList ms)
  (hu:A.units<cLine) (h:Q (.bool (dR ns ms)) s):wpAny (model prog w) A (Rm .LtE (.ref l) (.ref b)) Q E s:=by
 obtain⟨⟨cls,dd,data,sl⟩,ho,hc,n,hd⟩:=id hl;obtain⟨⟨cls2,dd2,data2,sl2⟩,ho2,hc2,n2,hd2⟩:=id hb;simp only at hc hd hc2 hd2;subst hc hd hc2 hd2;exact richCompare_meets_room (op:=.LtE) ⟨_,ho,rfl⟩ ⟨_,ho2,rfl⟩ PySem.F.slot_tuple_le PySem.F.entry_tuple_le (PySem.F.args_tuple_le_2 _ _) (kC l b items items2 n n2 dd dd2 sl sl2 ns ms hi hj)
  ⟨ho,ho2,show Kx (dR ns ms)≠Na/\Q (.bool (dR ns ms)) s from⟨(λx=>nomatch x),h⟩⟩ hu
end
theorem lO(ns ms:List Int):dR ns ms=!bC ms ns:=by
 induction ns generalizing ms with
 | nil=>cases ms<;>rfl
 | cons x xs ih=>
  cases ms with
  | nil=>rfl
  | cons y ys=>
   rw[jQ,bt];by_cases h:x=y
   ·subst h;rw[if_pos rfl,if_pos rfl,ih]
   ·rw[if_neg h,if_neg (Hl h)]
    by_cases g:x<=y
    ·rw[decide_eq_true g,decide_eq_false ⋯];rfl
    ·rw[decide_eq_false g,decide_eq_true ⋯];rfl
end HT
namespace L2
open PySem PySem.Spec PyProof.Rows
section
variable{X:Cx}{e e2 o:Expr}{to te:TE}{t:TA}{pos apos cpos:Pos}
def Eu(K:GH):R2:=λx y H Q=>∃a b ns ms,x=.ref a/\y=.ref b/\SqT K H a (ns.map Q8)/\SqT K H b (ms.map Q8)/\Q (.bl (HT.dR ns ms)) H
theorem BM(hu:X.A.units<cLine):OpR X (Rm .LtE) (Eu X.K):=by
 intro pins s σ H x y v u Q I rx ry h;obtain⟨a,b,ns,ms,rfl,rfl,ha,hb,q⟩:=h;cases rx;cases ry;obtain⟨its,r1,p1,_⟩:=I.tuple ha;obtain⟨its2,r2,p2,_⟩:=I.tuple hb;have i1:Rp its.toArray.toList ns:=bG r1;have i2:Rp its2.toArray.toList ms:=bG r2;exact HT.pL p1 p2 i1 i2 hu ⟨.bl (HT.dR ns ms),H,I,rfl,q⟩
theorem BN{K:GH}(hu:X.A.units<cLine)(hK:X.K=K:=by rfl):QOp X (Rm .LtE) (Eu K):=by subst hK;exact⟨BM hu⟩
theorem Ew{K:GH}(hK:X.K=K:=by rfl):QIx X (rIx K):=by subst hK;exact⟨Ba⟩
def m7:V->List V->Hp->VK->Prop:=λx vs H Q=>∃(l:Addr) (xs:List V) (k:Nat) (i:Int) (y:V),x=.ref l/\vs=[.int i,y]/\i=(k:Nat)/\H l=some (.lst xs)/\k<=xs.length/\xs.length<Rj/\Q .non (upd H l (.lst (xs.take k++y::xs.drop k)))
theorem rL:MtM X "list.insert" m7:=by
 intro pins s σ H x vs v us Q I rx rv h;obtain⟨l,xs,k,i,y,rfl,rfl,hik,hH,hk,hz,q⟩:=h;cases rx;obtain⟨u1,u,rfl,r1,r2⟩:=x6 rv;obtain⟨t,rfl⟩:=r1;obtain⟨z,its,n,r,hl,e⟩:=I.lstM hH;have hn:=fm;have hk63:i<2 ^ 63:=by
  rw[hik];have:k<2 ^ 63:=HR (HU hk (IU hz)) hn;exact Int.ofNat_lt.mpr this
 have hk0:-(2 ^ 63)<=i:=by rw[hik];exact Nu (by decide) (Int.natCast_nonneg k)
 have hfi:¬(!Builtin.List.listFitsIndex i)=true:=by rw[fitsIndex_both hk0 hk63];exact Ha
 have hsz:its.toArray.size<=Rj:=by rw[GQ];lia
 have M:=NQ l its.toArray n i t u hfi hsz;refine RQ F.slot_list_insert ⟨_,e,rfl⟩ F.entry_list_insert (F.args_list_insert_3 (.ref l) (.int i t) u) M ⟨e,?_⟩;refine⟨.non,_,I.lstUpd (t:=s.toks) (its':=its.take k++u::its.drop k) (n':=n+1) hH e ?_ ((r.take k).append (.cons r2 (r.drop k))) ?_,rfl,q⟩
 ·have hki:k<=its.length:=by lia
  have hi0:¬i<0:=by lia
  have hi1:i.toNat=k:=by lia
  simp[Hn,hi0,hi1,hki]
  first|exact⟨GN (by simp),by lia⟩|exact GN (by simp)|(refine⟨GN (by simp),?_⟩;lia)|trace_state
 ·rw[GY,G5,G8,Hm];lia
theorem yI {r:V->List V->Hp->VK->Prop}{T id:String}{name:Str}(pa:PlainAttrs T) (slot:Slot T name id) (hty:typeOf (.builtin id)=pure (.type "method_descriptor")) (hm:MtR X id r) (ho:PE X o to) (ha:PA X [e,e2] t)
  (hbase:Rw o name X.env (eval o X.env)=eval o X.env) (hline:(apos.endLine == cpos.line)=true) (hn:bT e=true) (hn2:bT e2=true) :
  PE X (.Call (.Attribute o name apos) [e,e2] [] cpos) (tBM X.K T r to t):=by
 refine Bc pa slot hty hm ho ha hbase ?_ hline (aK hn) ?_
 ·rw[aK hn,aK hn2];rfl
 ·rw[aK hn2];rfl
theorem rM {K:GH}(ho:QE X o to) (ha:QA X [e,e2] t) (hbase:Rw o ("insert" : Str) X.env (eval o X.env)=eval o X.env:=by rfl) (hline:(apos.endLine == cpos.line)=true:=by rfl) (hn:bT e=true:=by rfl) (hn2:bT e2=true:=by rfl) (hK:X.K=K:=by rfl) :
  QE X (.Call (.Attribute o "insert" apos) [e,e2] [] cpos) (tBM K "list" m7 to t):=by subst hK;exact⟨yI IR PySem.F.slot_list_insert PySem.F.type_list_insert rL ho.out ha.out hbase hline hn hn2⟩
end
theorem rN{P:PyData->Bool}{PA:List PyData->Bool}(h0:PA []=true)(h1:∀x xs,PA (x::xs)=(P x && PA xs)):∀{ds:List PyData},(∀d∈ds,P d=true)->PA ds=true
 | [],_=>h0
 | d::ds,h=>by rw[h1,h d (Hj ..),rN h0 h1 λx hx=>h x (Hd _ hx)];rfl
theorem fF{n:Nat}:∀{ds:List PyData},(∀d∈ds,d.depth<=n)->OP ds<=n
 | [],_=>GW _
 | d::ds,h=>by
  show max d.depth (OP ds)<=n
  have h1:=h d (Hj ..);have h2:=fF (ds:=ds) λx hx=>h x (Hd _ hx)
  lia
section
variable{X:Cx}{pins:List (Addr×Obj)}{σ:St}{H:Hp}{s:Shared}
theorem fG{R:V->PyData->Prop}{h:Heap}(hR:∀x v d,R x d->RelV x v->∃as,Reads h v d as):∀{xs:List V}{its:List Value}{ds:List PyData},Vals xs its->xs.length=ds.length->(∀(i:Nat) u e,xs[i]? = some u->ds[i]? = some e->R u e)->∃as,ReadsAll h its ds as
 | _,_,[],.nil,_,_=>⟨[],.nil⟩
 | _,_,d::ds,.cons r rr,hl,hi=>by
  obtain⟨as,h1⟩:=hR _ _ d (hi 0 _ d rfl rfl) r;obtain⟨bs,h2⟩:=fG hR rr (by simpa using hl) λi u e e1 e2=>hi (i+1) u e e1 e2
  exact⟨as++bs,.cons h1 h2⟩
 | _,_,_::_,.nil,hl,_=>by simp at hl
 | _,_,[],.cons _ _,hl,_=>by simp at hl
end
section
variable{K:GH}{σ:St}{H:Hp}{Q:VK}
theorem wY{b:Addr}{ns ms:List Int}(h1:SqT K H a (ns.map Q8))(h2:SqT K H b (ms.map Q8))(h:Q (.bl (HT.dR ns ms)) H):Eu K (.ref a) (.ref b) H Q:=⟨a,b,ns,ms,rfl,rfl,h1,h2,h⟩
theorem rO(h1:H l=some (.lst xs))(h2:k<=xs.length)(h3:xs.length<Rj)(h:Q .non (upd H l (.lst (xs.take k++y::xs.drop k)))):m7 (.ref l) [.int (k:Nat),y] H Q:=⟨l,xs,k,_,y,rfl,rfl,rfl,h1,h2,h3,h⟩
theorem BO{i:Int}(s:H p=some (.lst xs)\/H p=some (.tup xs))(a:atI xs i=some v)(h:Q v H):rIx K (.ref p) (.int i) H Q:=
 s.elim (λs=>.inl (bx (Q6 s) a h)) (λs=>.inr (.inl (qT (Q7 s) a h)))
end
noncomputable def bo(a:List Nat):List Int:=a.map λx:Nat=>(x:Int)
noncomputable def lxt(a b:List Nat):Bool:=HT.bC (bo a) (bo b)
theorem dN(x y:Nat)(a b:List Nat):lxt (x::a) (y::b)=if x=y then lxt a b else decide (x<y):=by
 unfold lxt bo;rw[Ig,Ig,HT.bt];by_cases h:x=y
 ·rw[if_pos h,if_pos (by rw[h])]
 ·rw[if_neg h,if_neg ⋯]
  exact decide_eq_decide.mpr ⋯
theorem cM(a:List Nat):lxt a a=false:=by
 induction a with
 | nil=>rfl
 | cons x a ih=>rw[dN,if_pos rfl,ih]
theorem i0{a b c:List Nat}(h1:lxt a b=true)(h2:lxt b c=true):lxt a c=true:=by
 induction a generalizing b c with
 | nil=>
  cases b with
  | nil=>cases h1
  | cons y b=>cases c with
   | nil=>cases h2
   | cons z c=>rfl
 | cons x a ih=>
  cases b with
  | nil=>cases h1
  | cons y b=>
   cases c with
   | nil=>cases h2
   | cons z c=>
    rw[dN]at h1 h2 ⊢;by_cases e1:x=y
    ·subst e1
     rw[if_pos rfl]at h1;by_cases e2:x=z
     ·rw[if_pos e2]at h2 ⊢;exact ih h1 h2
     ·rw[if_neg e2]at h2 ⊢;exact h2
    ·rw[if_neg e1]at h1
     have h1:=of_decide_eq_true h1;by_cases e2:y=z
     ·subst e2;rw[if_neg e1];exact decide_eq_true h1
     ·rw[if_neg e2]at h2
      have h2:=of_decide_eq_true h2;rw[if_neg ⋯];exact decide_eq_true ⋯
theorem gC(a b:List Nat):lxt a b=true\/a=b\/lxt b a=true:=by
 induction a generalizing b with
 | nil=>cases b with
  | nil=>exact .inr (.inl rfl)
  | cons y b=>exact .inl rfl
 | cons x a ih=>
  cases b with
  | nil=>exact .inr (.inr rfl)
  | cons y b=>
   rw[dN,dN];by_cases e:x=y
   ·subst e
    rw[if_pos rfl,if_pos rfl];rcases ih b with h|h|h
    ·exact .inl h
    ·exact .inr (.inl (by rw[h]))
    ·exact .inr (.inr h)
   ·rw[if_neg e,if_neg (Hl e)]
    rcases ND e with h|h
    ·exact .inl (decide_eq_true h)
    ·exact .inr (.inr (decide_eq_true h))
theorem i3{a b:List Nat}(h1:lxt a b=true)(h2:lxt b a=true):False:=by
 have:=i0 h1 h2;rw[cM]at this;cases this
def Rk(rss:List (List Nat))(c i j:Nat):Prop:=lxt ((rss.getD i []).drop c) ((rss.getD j []).drop c)=true\/((rss.getD i []).drop c=(rss.getD j []).drop c/\i<j)
theorem Rk.asymm(h1:Rk rss c i j)(h2:Rk rss c j i):False:=by
 rcases h1 with h1|⟨e1,l1⟩
 ·rcases h2 with h2|⟨e2,l2⟩
  ·exact i3 h1 h2
  ·rw[e2,cM]at h1;cases h1
 ·rcases h2 with h2|⟨e2,l2⟩
  ·rw[e1,cM]at h2;cases h2
  ·lia
theorem gD{α:Type}{R:α->α->Prop}(ha:∀a b,R a b->R b a->False):∀{xs ys:List α},xs.Perm ys->xs.Pairwise R->ys.Pairwise R->xs=ys
 | [],ys,hp,_,_=>by have:=hp.length_eq;exact(HZ.mp this.symm).symm
 | x::xs,[],hp,_,_=>by have:=hp.length_eq;simp at this
 | x::xs,y::ys,hp,h1,h2=>by
  have e:x=y:=by
   rcases GZ.mp (hp.mem_iff.mp (Hj ..))with h|h
   ·exact h
   ·rcases GZ.mp (hp.mem_iff.mpr (Hj ..))with g|g
    ·exact g.symm
    ·exact(ha x y ((IY.mp h1).1 y g) ((IY.mp h2).1 x h)).elim
  subst e;rw[gD ha (MR x |>.mp hp) (IY.mp h1).2 (IY.mp h2).2]
theorem oB{w b i c:Nat}(hi:i<rss.length)(hl:∀r∈rss,r.length=w)(hc:c<w):(rss.getD i []).drop c=(cT rss c).getD i 0::(rss.getD i []).drop (c+1):=by
 have e:rss.getD i []=rss[i]:=by rw[GG,GE hi];rfl
 have hr:=hl rss[i] (GV hi);have e2:(cT rss c).getD i 0=rss[i].getD c 0:=by
  unfold cT;rw[GG,GK,GE hi];rfl
 rw[e,e2,Jt (by lia:c<rss[i].length)];congr 1;rw[GG,GE ⋯];rfl
theorem Rk.col{w:Nat}(hi:i<rss.length)(hj:j<rss.length)(hl:∀r∈rss,r.length=w)(hc:c<w)
  (h:(cT rss c).getD i 0<(cT rss c).getD j 0\/(cT rss c).getD i 0=(cT rss c).getD j 0/\Rk rss (c+1) i j):Rk rss c i j:=by
 unfold Rk;rw[oB (b:=0) hi hl hc,oB (b:=0) hj hl hc,dN];rcases h with h|⟨e,h|⟨h1,h2⟩⟩
 ·left;rw[if_neg ⋯];exact decide_eq_true h
 ·left;rw[if_pos e];exact h
 ·right;rw[e,h1];exact⟨rfl,h2⟩
theorem jR{os:List Nat}{x y:Nat}(h:∀o∈os,o<b)(hp:¬fZ (cnt os b)=true)(hx:x∈os)(hy:y∈os):x=y:=by
 have hl:(lL (cnt os b)).length=((GO b).filter λf=>decide (0<os.count f)).length:=by
  unfold lL cnt;rw[List.filter_map,GF];rfl
 have hm:∀z,z∈os->z∈(GO b).filter λf=>decide (0<os.count f):=λz hz=>K0.mpr ⟨Hg.mpr (h z hz),decide_eq_true (List.count_pos_iff.mpr hz)⟩
 have h1:((GO b).filter λf=>decide (0<os.count f)).length<=1:=by
  rw[<-hl];unfold fZ at hp;have:=of_decide_eq_false (Bool.eq_false_iff.mpr hp);lia
 have g1:=hm x hx;have g2:=hm y hy;generalize (GO b).filter (λf=>decide (0<os.count f))=l at h1 g1 g2
 match l,h1,g1,g2 with
 | [z],_,g1,g2=>rw[G0.mp g1,G0.mp g2]
 | _::_::_,h1,_,_=>simp at h1
theorem vo{w:Nat}{os ob:List Nat}(hl:∀r∈rss,r.length=w)(hc:c<w)(hP:os.Perm (GO rss.length))(hS:os.Pairwise (Rk rss (c+1)))(hB:ByF (os.map λp=>(cT rss c).getD p 0) ob):(cmp os ob).Pairwise (Rk rss c):=by
 have hn:os.length=rss.length:=by have:=hP.length_eq;simpa using this
 have hO:=hB.ord;have hr:=hB.rise;rw[GF]at hO;unfold cmp;rw[Jr];refine IL (λ{i j} hi hj h=>?_) hr;have h1:=hO.lt i hi;have h2:=hO.lt j hj;have g1:os.getD i 0=os[i]:=by rw[GG,GE h1];rfl
 have g2:os.getD j 0=os[j]:=by rw[GG,GE h2];rfl
 have m1:os[i]<rss.length:=by simpa using hP.mem_iff.mp (GV h1)
 have m2:os[j]<rss.length:=by simpa using hP.mem_iff.mp (GV h2)
 have e1:(os.map λp=>(cT rss c).getD p 0).getD i 0=(cT rss c).getD os[i] 0:=by
  rw[GG,GK,GE h1];rfl
 have e2:(os.map λp=>(cT rss c).getD p 0).getD j 0=(cT rss c).getD os[j] 0:=by
  rw[GG,GK,GE h2];rfl
 rw[g1,g2];rw[e1,e2]at h;refine Rk.col m1 m2 hl hc ?_;rcases h with h|⟨h,hij⟩
 ·exact .inl h
 ·exact .inr ⟨h,G7.mp hS i j h1 h2 hij⟩
theorem vp{w:Nat}{os:List Nat}(hl:∀r∈rss,r.length=w)(hb:∀o∈cT rss c,o<b)(hc:c<w)(hP:os.Perm (GO rss.length))(hS:os.Pairwise (Rk rss (c+1)))(hp:¬fZ (cnt (cT rss c) b)=true):os.Pairwise (Rk rss c):=by
 refine IL (λ{i j} hi hj h=>?_) hS;have m1:i<rss.length:=by simpa using hP.mem_iff.mp hi
 have m2:j<rss.length:=by simpa using hP.mem_iff.mp hj
 refine Rk.col m1 m2 hl hc (.inr ⟨?_,h⟩);have hm:∀i,i<rss.length->(cT rss c).getD i 0∈cT rss c:=λi h=>by
  have h':i<(cT rss c).length:=by simpa [cT]using h
  rw[GG,GE h'];exact GV h'
 exact jR hb hp (hm i m1) (hm j m2)
theorem lP(h:∀r∈rss,r.length<=c):(GO rss.length).Pairwise (Rk rss c):=by
 refine IL (λ{i j} hi hj h'=>?_) KL;have m1:i<rss.length:=by simpa using hi
 have m2:j<rss.length:=by simpa using hj
 have e:∀i,i<rss.length->(rss.getD i []).drop c=[]:=λi hi=>by
  rw[GG,GE hi];exact Mz (h _ (GV hi))
 exact .inr ⟨by rw[e i m1,e j m2],h'⟩
section
variable{X:Cx}{o a b e:Expr}{to ta tb te:TE}{pos p2 tpos:Pos}
def Ey(to ta tb:TE):TG:=λv σ H R=>to σ H λx H1=>ta σ H1 λy H2=>tb σ H2 λz H3=>∃(l c:Addr) (xs ys:List V) (i j:Int),x=.ref l/\v=.ref c/\y=.int i/\z=.int j/\H3 l=some (.lst xs)/\H3 c=some (.lst ys)/\l≠c/\0<=i/\i<=j/\j<=xs.length/\xs.length+ys.length<=Rj/\R σ (upd H3 l (.lst (xs.take i.toNat++ys++xs.drop j.toNat)))
theorem BQ(ho:PE X o to)(ha:PE X a ta)(hb:PE X b tb)
  (has:∀v,assign (.Subscript o (.Slice (some a) (some b) none p2) pos) X.env v=(do
   let ov <-RB [v] (eval o X.env)
   let iv <-RB [v,ov] (eval (.Slice (some a) (some b) none p2) X.env)
   RS pos
   RB [v,ov,iv] (setItem ov iv v)
   release [iv,v,ov] []):=by intro _;rfl):PG X (.Subscript o (.Slice (some a) (some b) none p2) pos) (Ey to ta tb):=by
 intro pins s σ H v u Q I r h;rw[has];refine Rh (Rq (thn (ho pins s σ H _ I h) λov s1 ⟨x,H1,I1,r1,q1⟩=>?_));refine Rh (Rq (wpAny_Slice (evalPart_some_step (thn (ha pins s1 σ H1 _ I1 q1) λiv s2 ⟨y,H2,I2,r2,q2⟩=>?_))));refine evalPart_some_step (thn (hb pins s2 σ H2 _ I2 q2) λjv s3 ⟨z,H3,I3,r3,q3⟩=>?_);refine evalPart_none_step ?_;obtain⟨l,c,xs,ys,i,j,rfl,rfl,rfl,rfl,hl,hc,hne,h0,hij,hj,hz,q⟩:=q3;cases r1;cases r;have I4:Inv X pins σ H3 { s3 with heap:=s3.heap.push { cls:=.type "slice",data:=.fields #[iv,jv,.none] } }:=I3.kept (t':=s3.toks) λb ob q=>GI _ q
 refine Rh (RI (Rh (Rq (qL I4 hl hc hne (Lv ..) r2 r3 h0 hij hj hz λs' I'=>?_))));exact wpAny_release ⟨σ,_,I',q⟩
theorem wZ(he:QE X e te)(ho:QE X o to)(ha:QE X a ta)(hb:QE X b tb)
  (has:∀v,assign (.Subscript o (.Slice (some a) (some b) none p2) tpos) X.env v=(do
   let ov <-RB [v] (eval o X.env)
   let iv <-RB [v,ov] (eval (.Slice (some a) (some b) none p2) X.env)
   RS tpos
   RB [v,ov,iv] (setItem ov iv v)
   release [iv,v,ov] []):=by intro _;rfl)
  (hs:RV [.Subscript o (.Slice (some a) (some b) none p2) tpos] e pos.line X.env=pure false:=by rfl) (hw:RW [.Subscript o (.Slice (some a) (some b) none p2) tpos] e X.env=pure none:=by rfl)
  (h1:(RG [.Subscript o (.Slice (some a) (some b) none p2) tpos] X.env).map (·.2)=[assign (.Subscript o (.Slice (some a) (some b) none p2) tpos) X.env]:=by rfl) :
  QS X (.Assign [.Subscript o (.Slice (some a) (some b) none p2) tpos] e pos) (qf te (Ey to ta tb)):=⟨qg he.out (BQ ho.out ha.out hb.out has) hs hw h1⟩
theorem yJ:QS X (.Continue pos) xK:=⟨mM⟩
end
section
variable{K:GH}{σ:St}{H:Hp}{Q:VK}{D:Ends}
theorem Ez{tb:TE}{R:St->Hp->Prop}(h:to σ H λx H1=>ta σ H1 λy H2=>tb σ H2 λz H3=>∃(l c:Addr) (xs ys:List V) (i j:Int),x=.ref l/\v=.ref c/\y=.int i/\z=.int j/\H3 l=some (.lst xs)/\H3 c=some (.lst ys)/\l≠c/\0<=i/\i<=j/\j<=xs.length/\xs.length+ys.length<=Rj/\R σ (upd H3 l (.lst (xs.take i.toNat++ys++xs.drop j.toNat)))):Ey to ta tb v σ H R:=h
theorem EA(h:D.ct σ H):xK D σ H:=h
theorem eY{x z:V}{R:St->Hp->Prop}(e:H p=some (.tup [x,y,z]))(h:R (((σ.set i (some x)).set j (some y)).set k (some z)) H):CO K 3 (mN (fz i) (mN (fz j) (mN (fz k) CN))) (.ref p) σ H R:=
 ⟨p,_,rfl,Q7 e,rfl,_,_,rfl,_,_,rfl,_,_,rfl,rfl,h⟩
theorem i4{c:Addr}(h1:H l=some (.lst xs))(h2:H c=some (.lst ys))(hz:xs.length+ys.length<=Rj)(h:Q .non (upd H l (.lst (xs++ys)))):mT (.ref l) [.ref c] H Q:=⟨l,c,xs,ys,rfl,rfl,h1,h2,hz,h⟩
theorem i5(h1:H l=some (.lst (xs++[y])))(h:Q y (upd H l (.lst xs))):DV (.ref l) [] H Q:=⟨l,_,y,rfl,rfl,h1,by simp,by rw[List.dropLast_concat];exact h⟩
end
theorem oE:∀{c:Nat}{a b:List Nat},a.take c=b.take c->c<a.length->c<b.length->a.getD c 0<b.getD c 0->lxt a b=true
 | 0,x::a,y::b,_,_,_,h=>by rw[dN,if_neg (by simp at h;lia)];exact decide_eq_true (by simpa using h)
 | c+1,x::a,y::b,e,h1,h2,h=>by
  rw[Nh,Nh]at e;injection e with e1 e2
  rw[dN,if_pos e1];exact oE e2 (by simpa using h1) (by simpa using h2) (by simpa using h)
 | _,[],_,_,h1,_,_=>by simp at h1
 | _,_::_,[],_,_,h2,_=>by simp at h2
theorem oF{os:List Nat}{g:Nat}(hk:k<os.length)(h1:cK os g<=fw os k)(h2:fw os k<cK os (g+1)):os.getD k 0=g:=by
 have r1:=f7 hk;have r2:cK os (os.getD k 0)<=fw os k:=by unfold fw;lia
 rcases Iv (os.getD k 0) g with h|h|h
 ·have:=dC (os:=os) (f:=os.getD k 0+1) (g:=g) h;lia
 ·exact h
 ·have:=dC (os:=os) (f:=g+1) (g:=os.getD k 0) h;lia
noncomputable abbrev dJ:=Nat×Nat×Nat
structure Msd (rss:List (List Nat)) (C:Nat) (os:List Nat) (ws:List dJ):Prop where
 perm:os.Perm (GO rss.length)
 ok:∀s∈ws,s.1<=s.2.1/\s.2.1<=rss.length/\s.2.2<=C
 dis:ws.Pairwise λs t=>s.2.1<=t.1\/t.2.1<=s.1
 like:∀s∈ws,∀i j,s.1<=i->i<j->j<s.2.1->(rss.getD (os.getD i 0) []).take s.2.2=(rss.getD (os.getD j 0) []).take s.2.2/\os.getD i 0<os.getD j 0
 rest:∀i j,i<j->j<rss.length->Rk rss 0 (os.getD i 0) (os.getD j 0)\/∃s∈ws,s.1<=i/\j<s.2.1
theorem Msd.ok'{C:Nat}{os:List Nat}{ws:List dJ}(h:Msd rss C os ws):∀s∈ws,s.2.2<=C:=λs hs=>(h.ok s hs).2.2
theorem jS(h:i<n):(GO n).getD i 0=i:=by rw[GG,Ir h];rfl
theorem Msd.start(rss:List (List Nat))(C:Nat):Msd rss C (GO rss.length) [(0,rss.length,0)]:=by
 refine⟨IX _,λs hs=>?_,IS ..,λs hs i j h1 h2 h3=>?_,λi j h1 h2=>.inr ⟨_,G0.mpr rfl,GW _,h2⟩⟩
 ·rw[G0.mp hs];exact⟨GW _,GJ _,GW _⟩
 ·rw[G0.mp hs]at h1 h3 ⊢
  have h3:j<rss.length:=h3;rw[jS h3,jS (by lia:i<rss.length)];exact⟨rfl,h2⟩
theorem Msd.done{C:Nat}{os:List Nat}(h:Msd rss C os []):os.Pairwise (Rk rss 0):=by
 have hl:os.length=rss.length:=by have:=h.perm.length_eq;simpa using this
 rw[G7];intro i j hi hj hij;have e1:os.getD i 0=os[i]:=by rw[GG,GE hi];rfl
 have e2:os.getD j 0=os[j]:=by rw[GG,GE hj];rfl
 rcases h.rest i j hij ⋯with g|⟨s,hs,_⟩
 ·rw[e1,e2]at g;exact g
 ·cases hs
theorem Msd.at{C:Nat}{os:List Nat}{ws:List dJ}(h:Msd rss C os ws)(hi:i<rss.length):os.getD i 0<rss.length:=by
 have hl:os.length=rss.length:=by have:=h.perm.length_eq;simpa using this
 have hi':i<os.length:=by lia
 rw[GG,GE hi'];simpa using h.perm.mem_iff.mp (GV hi')
theorem gE{C p:Nat}(hw:∀r∈rss,r.length=C)(hp:p<rss.length):(rss.getD p []).length=C:=by
 rw[GG,GE hp];exact hw _ (GV hp)
theorem Msd.skip{C:Nat}{os:List Nat}{ws:List dJ}{f l:Nat}(h:Msd rss C os (ws++[(f,l,c)]))(hw:∀r∈rss,r.length=C)(hs:l<f+2\/c=C):Msd rss C os ws:=by
 have hm:(f,l,c)∈ws++[(f,l,c)]:=GT _ (G0.mpr rfl);refine⟨h.perm,λs hs=>h.ok s (Hy _ hs),(Hz.mp h.dis).1,λs hs=>h.like s (Hy _ hs),λi j hij hj=>?_⟩;rcases h.rest i j hij hj with g|⟨s,hs',h1,h2⟩
 ·exact .inl g
 ·rcases Hc.mp hs' with g|g
  ·exact .inr ⟨s,g,h1,h2⟩
  ·rw[G0.mp g]at h1 h2
   have h1:f<=i:=h1;have h2:j<l:=h2;rcases hs with hs|hs
   ·lia
   ·obtain⟨e1,e2⟩:=h.like _ hm i j h1 hij h2
    left;right;rw[Ht,Ht];have e1:(rss.getD (os.getD i 0) []).take c=(rss.getD (os.getD j 0) []).take c:=e1;rw[GN (by rw[gE hw (h.at ⋯)];lia),GN (by rw[gE hw (h.at hj)];lia)]at e1;exact⟨e1,e2⟩
noncomputable def bM(f:Nat)(cs:List Nat)(c:Nat):List dJ:=(GO cs.length).map λg=>(f+(cs.take g).sum,f+(cs.take g).sum+cs.getD g 0,c)
theorem gF{f:Nat}{s:dJ}(h:s∈bM f (cnt row b) c):∃g,g<b/\s=(f+cK row g,f+cK row (g+1),c):=by
 unfold bM at h;obtain⟨g,hg,rfl⟩:=Hk.mp h;rw[bU,Hg]at hg;refine⟨g,hg,?_⟩;rw[cE row b g ⋯,da,GG,fE hg,Kh];rfl
theorem pM{f g:Nat}(hg:g<b):(f+cK row g,f+cK row (g+1),c)∈bM f (cnt row b) c:=by
 unfold bM;refine Hk.mpr ⟨g,Hg.mpr (by rw[bU];exact hg),?_⟩;rw[cE row b g ⋯,da,GG,fE hg,Kh];rfl
theorem partsF_dis{f:Nat}:(bM f (cnt row b) c).Pairwise λs t=>s.2.1<=t.1\/t.2.1<=s.1:=by
 unfold bM;rw[Jr];refine IL (λ{g h} hg hh hgh=>?_) KL;rw[bU,Hg]at hg hh;left;have e:(cnt row b).getD g 0=row.count g:=by rw[GG,fE hg];rfl
 show f+((cnt row b).take g).sum+(cnt row b).getD g 0<=f+((cnt row b).take h).sum
 rw[cE row b g ⋯,cE row b h ⋯,e];have:=dC (os:=row) (f:=g+1) (g:=h) hgh;rw[da]at this;lia
theorem Msd.step{C:Nat}{os ob:List Nat}{ws:List dJ}{f l:Nat}(h:Msd rss C os (ws++[(f,l,c)]))(hw:∀r∈rss,r.length=C)(hc:c<C)(hb:∀o∈cT rss c,o<b)
  (hB:ByF (((os.drop f).take (l - f)).map λp=>(cT rss c).getD p 0) ob):Msd rss C (os.take f++cmp ((os.drop f).take (l - f)) ob++os.drop l) (ws++(bM f (cnt (((os.drop f).take (l - f)).map λp=>(cT rss c).getD p 0) b) (c+1)).reverse):=by
 have hm:(f,l,c)∈ws++[(f,l,c)]:=GT _ (G0.mpr rfl);obtain⟨hfl,hln,_⟩:=h.ok _ hm;have hfl:f<=l:=hfl;have hln:l<=rss.length:=hln;have hol:os.length=rss.length:=by have:=h.perm.length_eq;simpa using this
 have hsl:((os.drop f).take (l - f)).length=l - f:=by rw[G5,Hm];lia
 have hrl:(((os.drop f).take (l - f)).map λp=>(cT rss c).getD p 0).length=l - f:=by rw[GF,hsl]
 have hO:=hB.ord;rw[hrl]at hO;have hrise:=hB.rise;have hold:=h.like _ hm;have hold:∀i j,f<=i->i<j->j<l->(rss.getD (os.getD i 0) []).take c=(rss.getD (os.getD j 0) []).take c/\os.getD i 0<os.getD j 0:=hold
 have segD:∀k,k<l - f->((os.drop f).take (l - f)).getD k 0=os.getD (f+k) 0:=λk hk=>by
  rw[GG,Kr hk,IM,GG]
 have rowDk:∀k,k<l - f->(((os.drop f).take (l - f)).map λp=>(cT rss c).getD p 0).getD k 0=(cT rss c).getD (os.getD (f+k) 0) 0:=λk hk=>by
  rw[GG,GK,<-segD k hk,GG (l:=(os.drop f).take (l - f)),GE (by lia:k<((os.drop f).take (l - f)).length)];rfl
 have hfig:∀k,k<l - f->(rss.getD (os.getD (f+k) 0) []).getD c 0=(cT rss c).getD (os.getD (f+k) 0) 0:=λk hk=>by
  have:=h.at (i:=f+k) ⋯;unfold cT;rw[GG (l:=rss.map _),GK,GE this,GG (l:=rss),GE this];rfl
 -- where each comes from
 have hpi:∀i,i<rss.length->(f<=i/\i<l->∃k,k<l - f/\ob[i - f]? = some k/\i - f=fw (((os.drop f).take (l - f)).map λp=>(cT rss c).getD p 0) k/\(os.take f++cmp ((os.drop f).take (l - f)) ob++os.drop l).getD i 0=os.getD (f+k) 0)/\(¬(f<=i/\i<l)->(os.take f++cmp ((os.drop f).take (l - f)) ob++os.drop l).getD i 0=os.getD i 0):=by
  intro i hi;have hcl:(cmp ((os.drop f).take (l - f)) ob).length=l - f:=by rw[gB,hO.len]
  have htl:(os.take f).length=f:=by rw[G5];lia
  constructor
  ·rintro⟨h1,h2⟩
   obtain⟨k,hk,hkl⟩:=hO.get (i:=i - f) ⋯;refine⟨k,hkl,hk,(hB.get hk).2,?_⟩;rw[GG,GU (by rw[GY,htl,hcl];lia),G6 (by rw[htl];exact h1),htl,mZ hk (r:=((os.drop f).take (l - f))[k]'⋯) (GE _)];rw[<-segD k hkl,GG,GE ⋯]
  ·intro hn
   by_cases h1:i<f
   ·rw[GG,GU (by rw[GY,htl];lia),GU (by rw[htl];exact h1),Kr h1,GG]
   ·rw[GG,G6 (by rw[GY,htl,hcl];lia),GY,htl,hcl,IM,GG]
    congr 2;lia
 have hdis:∀s∈ws,s.2.1<=f\/l<=s.1:=λs hs=>by
  have:=(Hz.mp h.dis).2.2 s hs (f,l,c) (G0.mpr rfl);exact this
 have hlik:∀k1 k2,k1<l - f->k2<l - f->k1≠k2->(rss.getD (os.getD (f+k1) 0) []).take c=(rss.getD (os.getD (f+k2) 0) []).take c:=λk1 k2 h1 h2 hne=>by
  rcases ND hne with g|g
  ·exact(hold (f+k1) (f+k2) ⋯ ⋯ ⋯).1
  ·exact(hold (f+k2) (f+k1) ⋯ ⋯ ⋯).1.symm
 generalize hrow:((os.drop f).take (l - f)).map (λp=>(cT rss c).getD p 0)=row at *;have hrlt:∀k,k<l - f->row.getD k 0<b:=λk hk=>by
  rw[rowDk k hk];have:=h.at (i:=f+k) ⋯;have h':os.getD (f+k) 0<(cT rss c).length:=by simpa [cT]using this
  rw[GG,GE h'];exact hb _ (GV h')
 have rise:∀i j k1 k2,i<j->ob[i]? = some k1->ob[j]? = some k2->row.getD k1 0<row.getD k2 0\/row.getD k1 0=row.getD k2 0/\k1<k2:=λi j k1 k2 hij e1 e2=>by
  obtain⟨a1,a2⟩:=GM.mp e1;obtain⟨b1,b2⟩:=GM.mp e2;have:=G7.mp hrise i j a1 b1 hij;rw[a2,b2]at this;exact this
 generalize hos':os.take f++cmp ((os.drop f).take (l - f)) ob++os.drop l=os' at *;refine⟨?_,λs hs=>?_,?_,λs hs i j h1 h2 h3=>?_,λi j hij hj=>?_⟩
 ·rw[<-hos']
  refine OO ?_ h.perm;have e:os=os.take f++(os.drop f).take (l - f)++os.drop l:=by
   have e1:os.drop l=(os.drop f).drop (l - f):=by rw[Ky];congr 1;lia
   rw[e1,HV,II,II]
  conv=>rhs;rw[e]
  refine Qk _ (MS _ ?_);exact ky (by rw[hsl];exact hO.perm)
 ·rcases Hc.mp hs with g|g
  ·exact h.ok s (Hy _ g)
  ·obtain⟨z,hz,rfl⟩:=gF (Jz.mp g)
   have:=dC (os:=row) (f:=z) (g:=z+1) ⋯;have:=iD row (z+1);exact⟨by show f+_<=f+_;lia,by show f+_<=_;lia,hc⟩
 ·rw[Hz]
  refine⟨(Hz.mp h.dis).1,?_,λs hs t ht=>?_⟩
  ·rw[List.pairwise_reverse]
   exact partsF_dis.imp λ{s t} g=>g.symm
  ·obtain⟨z,hz,rfl⟩:=gF (Jz.mp ht)
   have:=iD row (z+1);rcases hdis s hs with g|g
   ·left;show s.2.1<=f+_;lia
   ·right;show f+_<=s.1;lia
 ·rcases Hc.mp hs with g|g
  ·have:=(h.ok s (Hy _ g)).2.1
   have hd:=hdis s g;rw[(hpi i ⋯).2 ⋯,(hpi j ⋯).2 ⋯];exact h.like s (Hy _ g) i j h1 h2 h3
  ·obtain⟨z,hz,rfl⟩:=gF (Jz.mp g)
   have h1:f+cK row z<=i:=h1;have h3:j<f+cK row (z+1):=h3;have hle:=iD row (z+1);obtain⟨k1,hk1,o1,p1,e1⟩:=(hpi i ⋯).1 ⟨by lia,by lia⟩;obtain⟨k2,hk2,o2,p2,e2⟩:=(hpi j ⋯).1 ⟨by lia,by lia⟩;have f1:=oF (os:=row) (k:=k1) (g:=z) ⋯ ⋯ ⋯;have f2:=oF (os:=row) (k:=k2) (g:=z) ⋯ ⋯ ⋯;have hk:k1<k2:=by
    rcases rise (i - f) (j - f) k1 k2 ⋯ o1 o2 with g|⟨_,g⟩
    ·lia
    ·exact g
   obtain⟨t1,t2⟩:=hold (f+k1) (f+k2) ⋯ ⋯ ⋯;rw[e1,e2];refine⟨?_,t2⟩;show(rss.getD (os.getD (f+k1) 0) []).take (c+1)=(rss.getD (os.getD (f+k2) 0) []).take (c+1)
   have l1:=gE hw (h.at (i:=f+k1) ⋯);have l2:=gE hw (h.at (i:=f+k2) ⋯);have g1:=hfig k1 hk1;have g2:=hfig k2 hk2;rw[<-rowDk k1 hk1,f1]at g1;rw[<-rowDk k2 hk2,f2]at g2;rw[G4,G4,t1,GE ⋯,GE ⋯];rw[GG,GE ⋯]at g1 g2;simp only[Om]at g1 g2;rw[g1,g2]
 ·by_cases hin:f<=i/\j<l
  ·obtain⟨k1,hk1,o1,p1,e1⟩:=(hpi i ⋯).1 ⟨by lia,by lia⟩
   obtain⟨k2,hk2,o2,p2,e2⟩:=(hpi j ⋯).1 ⟨by lia,by lia⟩;have hne:k1≠k2:=λz=>by subst z;lia
   rcases rise (i - f) (j - f) k1 k2 ⋯ o1 o2 with g|⟨g,gk⟩
   ·left;left
    rw[Ht,Ht,e1,e2];refine oE (c:=c) (hlik k1 k2 hk1 hk2 hne) (by rw[gE hw (h.at ⋯)];exact hc) (by rw[gE hw (h.at ⋯)];exact hc) ?_;rw[hfig k1 hk1,hfig k2 hk2,<-rowDk k1 hk1,<-rowDk k2 hk2];exact g
   ·right
    refine⟨_,GT _ (Jz.mpr (pM (g:=row.getD k1 0) (hrlt k1 hk1))),?_,?_⟩
    ·show f+cK row (row.getD k1 0)<=i
     have:cK row (row.getD k1 0)<=fw row k1:=by unfold fw;lia
     lia
    ·show j<f+cK row (row.getD k1 0+1)
     have:=f7 (os:=row) (k:=k2) ⋯;rw[<-g]at this;lia
  ·-- not both within
   have hout:∀i,i<rss.length->∃i',os'.getD i 0=os.getD i' 0/\((f<=i/\i<l/\f<=i'/\i'<l)\/(¬(f<=i/\i<l)/\i'=i)):=λi hi=>by
    by_cases g:f<=i/\i<l
    ·obtain⟨k1,hk1,o1,p1,e1⟩:=(hpi i hi).1 g
     exact⟨f+k1,e1,.inl ⟨g.1,g.2,by lia,by lia⟩⟩
    ·exact⟨i,(hpi i hi).2 g,.inr ⟨g,rfl⟩⟩
   obtain⟨i',ei,hi'⟩:=hout i ⋯;obtain⟨j',ej,hj'⟩:=hout j hj;rw[ei,ej];have hij':i'<j':=by lia
   have hjn:j'<rss.length:=by lia
   rcases h.rest i' j' hij' hjn with g|⟨s,hs,h1,h2⟩
   ·exact .inl g
   ·rcases Hc.mp hs with g|g
    ·have hd:=hdis s g
     have hok:=h.ok s hs;refine .inr ⟨s,Hy _ g,?_,?_⟩<;>lia
    ·rw[G0.mp g]at h1 h2
     have h1:f<=i':=h1;have h2:j'<l:=h2;lia
theorem rP(h:∀x∈row,∀y∈row,x=y):ByF row (GO row.length):=by
 refine⟨by simp,λk hk=>?_⟩;have e0:row.getD k 0=row[k]:=by rw[GG,GE hk];rfl
 have e1:cK row row[k]=0:=List.countP_eq_zero.mpr λx hx g=>by
  have:=h x hx row[k] (GV hk);have:=of_decide_eq_true g;lia
 have e2:(row.take k).count row[k]=k:=by
  have:(row.take k).count row[k]=(row.take k).length:=List.count_eq_length.mpr λx hx=>h row[k] (GV hk) x (Kc hx)
  rw[this,G5];lia
 have:fw row k=k:=by unfold fw;rw[e0,e1,e2];lia
 rw[this,Ir hk]
theorem rQ(seg:List Nat)(h:seg.length=n):cmp seg (GO n)=seg:=by
 subst h;unfold cmp;exact fx seg
noncomputable def kD(b C:Nat)(ws:List dJ):Nat:=(ws.map λs=>(b+1) ^ (C+1 - s.2.2)).sum
theorem jT(b C:Nat)(ws:List dJ)(s:dJ):kD b C (ws++[s])=kD b C ws+(b+1) ^ (C+1 - s.2.2):=by
 unfold kD;rw[GP,JH];simp
theorem oG(b C:Nat)(ws:List dJ)(s:dJ):kD b C ws<kD b C (ws++[s]):=by
 rw[jT];have:0<(b+1) ^ (C+1 - s.2.2):=ME ⋯;lia
theorem i6{α:Type}(k:Nat)(f:α->Nat):∀{xs:List α},(∀x∈xs,f x=k)->(xs.map f).sum=xs.length*k
 | [],_=>by simp
 | x::xs,h=>by
  rw[Ig,IP,h x (Hj ..),i6 k f (λy hy=>h y (Hd _ hy)),G8,PV];lia
theorem pN{C f l:Nat}{cs:List Nat}(ws:List dJ)(hc:c<C)(hl:cs.length=b):kD b C (ws++(bM f cs (c+1)).reverse)<kD b C (ws++[(f,l,c)]):=by
 rw[jT];unfold kD;rw[GP,JH,i6 ((b+1) ^ (C+1 - (c+1))) _ (xs:=(bM f cs (c+1)).reverse) (λs hs=>by
  unfold bM at hs;obtain⟨g,_,rfl⟩:=Hk.mp (Jz.mp hs);rfl),IF]
 have e1:(bM f cs (c+1)).length=b:=by unfold bM;simp[hl]
 have e2:C+1 - c=(C+1 - (c+1))+1:=by lia
 rw[e1];show _<_+(b+1) ^ (C+1 - c)
 rw[e2,Lb,PX ((b+1) ^ (C+1 - (c+1))) (b+1),Nat.add_mul,Ql];have:0<(b+1) ^ (C+1 - (c+1)):=ME ⋯;lia
noncomputable def f9(ws:List dJ):Nat:=(ws.map λs=>s.2.1 - s.1 - 1).sum
theorem m8(ws:List dJ)(s:dJ):f9 (ws++[s])=f9 ws+(s.2.1 - s.1 - 1):=by
 unfold f9;rw[GP,JH];simp
theorem kE:∀cs:List Nat,(cs.map λc=>c - 1).sum+(lL cs).length=cs.sum
 | []=>rfl
 | c::cs=>by
  have ih:=kE cs;unfold lL at ih ⊢;rw[Ig,IP,IP];by_cases h:0<c
  ·rw[List.filter_cons_of_pos (by simpa using h),G8];lia
  ·rw[List.filter_cons_of_neg (by simpa using h)];lia
theorem lQ(ws:List dJ)(f c:Nat)(cs:List Nat):f9 (ws++(bM f cs c).reverse)+(lL cs).length=f9 ws+cs.sum:=by
 unfold f9;rw[GP,JH,KR,List.sum_reverse];have e:(bM f cs c).map (λs=>s.2.1 - s.1 - 1)=cs.map λc=>c - 1:=by
  unfold bM;rw[IV];apply Jy (by simp);intro i h1 h2;have hi:i<cs.length:=by simpa using h2
  simp[GG,GE hi]
 rw[e];have:=kE cs;lia
def Low(b:Nat)(ws:List dJ):Prop:=∀(i:Nat) s,ws[i]? = some s->i<=b*s.2.2
theorem Low.left{ws vs:List dJ}(h:Low b (ws++vs)):Low b ws:=λi s e=>h i s (by rw[GU (bj e)];exact e)
theorem Low.step{f l:Nat}{ws:List dJ}{cs:List Nat}(h:Low b (ws++[(f,l,c)]))(hl:cs.length=b):Low b (ws++(bM f cs (c+1)).reverse):=λi s e=>by
 have h0:ws.length<=b*c:=h ws.length (f,l,c) (by simp);by_cases hi:i<ws.length
 ·exact h i s (by rw[GU hi]at e ⊢;exact e)
 ·rw[G6 ⋯]at e
  have hm:=G3 e;have hlt:=bj e;unfold bM at hm hlt;rw[IF,GF,Ic,hl]at hlt;obtain⟨g,_,rfl⟩:=Hk.mp (Jz.mp hm);show i<=b*(c+1)
  rw[Oc,Od];lia
theorem Low.len{C:Nat}{ws:List dJ}(h:Low b ws)(hc:∀s∈ws,s.2.2<=C):ws.length<=b*C+1:=by
 cases hw:ws.length with
 | zero=>lia
 | succ n=>
  have e:ws[n]? = some (ws[n]'⋯):=GE _;have h1:=h n _ e;have h2:=hc _ (GV (by lia:n<ws.length));have h3:b*(ws[n]'⋯).2.2<=b*C:=Lm b h2;lia
def TrAt(H:Hp)(qs:List Addr)(ws:List dJ):Prop:=qs.length=ws.length/\∀(i:Nat) q s,qs[i]? = some q->ws[i]? = some s->H q=some (.tup [.int (s.1:Nat),.int (s.2.1:Nat),.int (s.2.2:Nat)])
theorem TrAt.same{H:Hp}{ws:List dJ}(h:TrAt H qs ws)(s:Same H H1):TrAt H1 qs ws:=⟨h.1,λi q t a b=>s _ _ (h.2 i q t a b)⟩
theorem TrAt.own{H:Hp}{ws:List dJ}(h:TrAt H qs ws)(hl:H l=some (.lst xs)):TrAt (upd H l (.lst ys)) qs ws:=⟨h.1,λi q t a b=>by
 have e:=h.2 i q t a b;rw[ar (bw e hl (by intro c;cases c))];exact e⟩
theorem TrAt.snoc{H:Hp}{ws:List dJ}{s:dJ}(h:TrAt H qs ws)(e:H q=some (.tup [.int (s.1:Nat),.int (s.2.1:Nat),.int (s.2.2:Nat)])):TrAt H (qs++[q]) (ws++[s]):=by
 refine⟨by simp[h.1],λi p y a b=>?_⟩;rcases bO a with⟨l,a⟩|⟨l,a⟩
 ·rcases bO b with⟨_,b⟩|⟨l',b⟩
  ·exact h.2 i p y a b
  ·have:=h.1;lia
 ·rcases bO b with⟨l',b⟩|⟨_,b⟩
  ·have:=h.1;lia
  ·rw[a,b];exact e
theorem TrAt.app{H:Hp}{rs:List Addr}{ws vs:List dJ}(h:TrAt H qs ws)(g:TrAt H rs vs):TrAt H (qs++rs) (ws++vs):=by
 refine⟨by simp[h.1,g.1],λi p y a b=>?_⟩;have hl:=h.1;by_cases hi:i<qs.length
 ·rw[GU hi]at a
  rw[GU ⋯]at b;exact h.2 i p y a b
 ·rw[G6 ⋯]at a
  rw[G6 ⋯,<-hl]at b;exact g.2 _ p y a b
theorem TrAt.rev{H:Hp}{ws:List dJ}(h:TrAt H ps ws):TrAt H ps.reverse ws.reverse:=by
 refine⟨by simp[h.1],λi q y a b=>?_⟩;have hl:i<ps.length:=by have:=(GM.mp a).1;simpa using this
 rw[KW hl]at a;rw[KW (by rw[<-h.1];exact hl),<-h.1]at b;exact h.2 _ q y a b
theorem TrAt.last{H:Hp}{ws:List dJ}(h:TrAt H qs ws)(hq:qs≠[]):∃rs q vs s,qs=rs++[q]/\ws=vs++[s]/\TrAt H rs vs/\H q=some (.tup [.int (s.1:Nat),.int (s.2.1:Nat),.int (s.2.2:Nat)]):=by
 rcases JW qs with e|⟨rs,q,e⟩
 ·exact absurd e hq
 ·rcases JW ws with e2|⟨vs,s,e2⟩
  ·have:=h.1;rw[e,e2]at this;simp at this
  ·rw[KY]at e e2
   subst e e2;have hl:rs.length=vs.length:=by have:=h.1;simpa using this
   refine⟨rs,q,vs,s,rfl,rfl,⟨hl,λi p t a b=>?_⟩,?_⟩
   ·exact h.2 i p t (by rw[GU (bj a)];exact a) (by rw[GU (bj b)];exact b)
   ·exact h.2 rs.length q s (by simp) (by simp[hl])
theorem rR(os:List Nat){f l:Nat}(h1:f<=l)(h2:l<=os.length):jz (NV os) (some (f:Int)) (some (l:Int))=NV ((os.drop f).take (l - f)):=by
 unfold jz;rw[HT.dU,HT.dU,aB,Jn (by lia:f<=os.length),Jn h2];unfold NV;rw[Ki,Kj]
def Sc(v:V):Prop:=v=.non\/(∃b,v=.bl b)\/(∃i,v=.int i)\/∃x,v=.str x
def Th(H:Hp)(v:V):Prop:=Sc v\/∃t xs,v=.ref t/\H t=some (.tup xs)/\0<xs.length/\xs.length<=2/\∀x∈xs,Sc x
def ThE(H:Hp)(x y:V):Prop:=(Sc x/\y=x)\/∃t u xs,x=.ref t/\y=.ref u/\H t=some (.tup xs)/\H u=some (.tup xs)/\0<xs.length/\xs.length<=2/\∀z∈xs,Sc z
theorem Th.same{H:Hp}(h:Th H v)(s:Same H H1):Th H1 v:=h.elim .inl λ⟨t,xs,e,a,b⟩=>.inr ⟨t,xs,e,s _ _ a,b⟩
theorem ThE.same{H:Hp}{x:V}(h:ThE H x y)(s:Same H H1):ThE H1 x y:=h.elim .inl λ⟨t,u,xs,e,e',a,a',b⟩=>.inr ⟨t,u,xs,e,e',s _ _ a,s _ _ a',b⟩
section
variable{X:Cx}{e e2 o:Expr}{to te:TE}{t:TA}{pos apos cpos:Pos}
inductive TyC (H:Hp):V->Value->Prop where
 | non:TyC H .non (.type "NoneType")
 | bl (b:Bool):TyC H (.bl b) (.type "bool")
 | int (i:Int):TyC H (.int i) (.type "int")
 | str (x:Str):TyC H (.str x) (.type "str")
 | lst {a:Addr}{xs:List V}(e:H a=some (.lst xs)):TyC H (.ref a) (.type "list")
 | tup {a:Addr}{xs:List V}(e:H a=some (.tup xs)):TyC H (.ref a) (.type "tuple")
def vq (K:GH):RC:=λxs H Q=>∃x t tp b,xs=[x,.ref tp]/\H tp=some (.tup [.ty "list",.ty "tuple"])/\TyC H x t/\OY K t [.type "list",.type "tuple"]=some b/\Q (.bl b) H
theorem fH {K:GH}(hK:X.K=K:=by rfl):QC X (.builtin "isinstance") (vq K):=by
 subst hK;refine⟨λpins s σ H xs us Q I r h=>?_⟩;obtain⟨x,t,tp,b,rfl,htp,ty,e,q⟩:=h;cases r with
 | cons rx rr=>
  cases rr with
  | cons ry rr=>
   cases rr;cases ry;obtain⟨_,its,rv,⟨⟨c,dd,dt,sl⟩,g1,g2,n,g3⟩⟩:=(show ObjOk X.prog X.w H s.heap tp (.tup [.ty "list",.ty "tuple"])from I.hok tp _ htp);have g2':c=.type "tuple":=g2;have g3':dt=.seq its.toArray n:=g3;subst g2' g3';have ei:its=[.type "list",.type "tuple"]:=by
    cases rv with
    | cons r1 rr=>
     cases rr with
     | cons r2 rr=>
      cases rr;cases r1;cases r2;rfl
   subst ei;have fin:∀tk,EP X pins σ Q (.bool b) { s with toks:=tk }:=λtk=>⟨.bl b,H,I.tok _,rfl,q⟩
   cases ty with
   | non=>cases(show _=Hr from rx);exact IH LQ I.kIn GR g1 e (λz=>nomatch z) fin
   | bl i=>cases(show _=Kx i from rx);exact IH NT I.kIn GR g1 e (λz=>nomatch z) fin
   | int i=>obtain⟨tt,rfl⟩:=rx;exact IH L4 I.kIn GR g1 e (λz=>nomatch z) fin
   | str i=>obtain⟨tt,rfl⟩:=rx;exact IH Og I.kIn GR g1 e (λz=>nomatch z) fin
   | @lst a xs ea=>
    cases rx;obtain⟨_,_,n',_,h1⟩:=(show ObjOk X.prog X.w H s.heap a (.lst xs)from I.hok a _ ea);exact IH KD I.kIn ⟨_,h1,rfl⟩ g1 e (λz=>nomatch z) fin
   | @tup a xs ea=>
    cases rx;obtain⟨_,_,_,⟨o',h1,h2,_⟩⟩:=(show ObjOk X.prog X.w H s.heap a (.tup xs)from I.hok a _ ea);exact IH Ls I.kIn ⟨_,h1,h2⟩ g1 e (λz=>nomatch z) fin
theorem i7(l:Addr)(items:Array Value)(n:Nat)(b:Addr)(items2:Array Value)(n2:Nat)(dd2:Option Addr)(sl2:Array (Option Value))(hlong:¬(!items.isEmpty && IK (items.size+items2.size))=true)(hz:items.size<=Rj)(hz2:items.size+items2.size<=Rj+1):
  Meets (Builtin.«list.extend» ⟨[.ref l,.ref b],[]⟩)
   (λ_ R s=>s.heap.get? l=some { cls:=.type "list",data:=.seq items n }/\s.heap.get? b=some { cls:=.type "tuple",dict:=dd2,data:=.seq items2 n2,slots:=sl2 }/\
    R (.ok (.ret .none)) { s with heap:=s.heap.update l (Hn λx=>x++items2) }):=
 .of_wp λprog w A R s h=>by
  obtain⟨hp,g,d,tk,os⟩:=s;obtain⟨hl,hb,h⟩:=h;have f2:=Je
  wp_walk using Ld hl,Ld hb
  have e9:(Hn (λx=>x++items2) { cls:=Jl "list",data:=QZ items n }).data.pastItsLine=none:=by
   unfold Hn Data.pastItsLine;simp;lia
  rw[e9];exact Ri (Ri ⟨_,rfl,h⟩)
def kF:V->List V->Hp->VK->Prop:=λx vs H Q=>∃l b xs zs,x=.ref l/\vs=[.ref b]/\H l=some (.lst xs)/\H b=some (.tup zs)/\xs.length+zs.length<=Rj/\Q .non (upd H l (.lst (xs++zs)))
theorem pO:MtM X "list.extend" kF:=by
 intro pins s σ H x vs v us Q I rx rv h;obtain⟨l,b,xs,zs,rfl,rfl,hH,hB,hz,q⟩:=h;cases rx;obtain⟨u,rfl,ru⟩:=rv.one;cases ru;obtain⟨z,its,n,r,hl,e⟩:=I.lstM hH;obtain⟨its2,r2,⟨⟨c2,d2,t2,l2⟩,o4,o5,n2,o6⟩,hz2⟩:=I.tuple (Q7 hB);have hl2:=r2.length;have o5':c2=.type "tuple":=o5;have o6':t2=.seq its2.toArray n2:=o6;subst o5' o6';have hsz:its.toArray.size+its2.toArray.size<=Rj:=by rw[GQ,GQ];lia
 have hlong:¬(!its.toArray.isEmpty && IK (its.toArray.size+its2.toArray.size))=true:=by
  rw[fS hsz,OX];exact Ha
 refine RQ Nr ⟨_,e,rfl⟩ Ng (M3 _ _)
  (i7 l its.toArray n b its2.toArray n2 d2 l2 hlong (by rw[GQ];lia) ⋯) ⟨e,o4,?_⟩
 refine⟨.non,_,I.lset (its':=its++its2) hH e (by simp) (r.append r2) ?_,rfl,q⟩;rw[GY];lia
theorem pP {K:GH}(ho:QE X o to) (ha:QA X [e] t) (hbase:Rw o ("extend" : Str) X.env (eval o X.env)=eval o X.env:=by rfl) (hline:(apos.endLine == cpos.line)=true:=by rfl) (hn:bT e=true:=by rfl) (hK:X.K=K:=by rfl) :
  QE X (.Call (.Attribute o "extend" apos) [e] [] cpos) (tBM K "list" kF to t):=by subst hK;exact⟨lB IR Mc Md pO ho.out ha.out hbase hline hn⟩
end
section
variable{K:GH}{σ:St}{H:Hp}{Q:VK}
theorem gb {x:V}{tp:Addr}(e:H tp=some (.tup [.ty "list",.ty "tuple"])) (hx:Sc x) (h:Q (.bl false) H):vq K [x,.ref tp] H Q:=by
 rcases hx with rfl|⟨b,rfl⟩|⟨i,rfl⟩|⟨s,rfl⟩
 ·exact⟨_,_,tp,_,rfl,e,.non,rfl,h⟩
 ·exact⟨_,_,tp,_,rfl,e,.bl b,rfl,h⟩
 ·exact⟨_,_,tp,_,rfl,e,.int i,rfl,h⟩
 ·exact⟨_,_,tp,_,rfl,e,.str s,rfl,h⟩
theorem vt {tp:Addr}(s:H p=some (.lst xs)) (e:H tp=some (.tup [.ty "list",.ty "tuple"])) (h:Q (.bl true) H):vq K [.ref p,.ref tp] H Q:=⟨_,_,tp,_,rfl,e,.lst s,rfl,h⟩
theorem oH {tp:Addr}(s:H p=some (.tup xs)) (e:H tp=some (.tup [.ty "list",.ty "tuple"])) (h:Q (.bl true) H):vq K [.ref p,.ref tp] H Q:=⟨_,_,tp,_,rfl,e,.tup s,rfl,h⟩
theorem oI {x:V}(hx:Sc x) (h:Q (.bl false) H):nX K [x,.ty "list"] H Q:=by
 rcases hx with rfl|⟨b,rfl⟩|⟨i,rfl⟩|⟨s,rfl⟩
 ·exact⟨_,_,_,_,rfl,.non,rfl,h⟩
 ·exact⟨_,_,_,_,rfl,.bl b,rfl,h⟩
 ·exact⟨_,_,_,_,rfl,.int i,rfl,h⟩
 ·exact⟨_,_,_,_,rfl,.str s,rfl,h⟩
theorem oJ {x:V}(hx:Sc x) (h:Q (.bl false) H):nX K [x,.ty "tuple"] H Q:=by
 rcases hx with rfl|⟨b,rfl⟩|⟨i,rfl⟩|⟨s,rfl⟩
 ·exact⟨_,_,_,_,rfl,.non,rfl,h⟩
 ·exact⟨_,_,_,_,rfl,.bl b,rfl,h⟩
 ·exact⟨_,_,_,_,rfl,.int i,rfl,h⟩
 ·exact⟨_,_,_,_,rfl,.str s,rfl,h⟩
theorem C4 {b:Bool}(h:Q (.bl true) H):nX K [.bl b,.ty "bool"] H Q:=⟨_,_,_,_,rfl,.bl b,rfl,h⟩
theorem C5 (h:Q (.bl false) H):nX K [.str x,.ty "bool"] H Q:=⟨_,_,_,_,rfl,.str x,rfl,h⟩
theorem C6 (h:Q (.bl true) H):nX K [.str x,.ty "str"] H Q:=⟨_,_,_,_,rfl,.str x,rfl,h⟩
theorem FI{x y:Bool}(h:Q (.bl (decide (Q9 x=Q9 y))) H):rEq (.bl x) (.bl y) H Q:=⟨rfl,h⟩
theorem pQ{c:Addr}(h1:H l=some (.lst xs))(h2:H c=some (.tup ys))(hz:xs.length+ys.length<=Rj)(h:Q .non (upd H l (.lst (xs++ys)))):kF (.ref l) [.ref c] H Q:=⟨l,c,xs,ys,rfl,rfl,h1,h2,hz,h⟩
end
theorem BR(n:Nat):Im 0 (n:Int) 2=((n+1) / 2:Nat):=by
 unfold Im;rw[if_pos (by decide)];split
 ·lia
 ·lia
theorem dE{i:Int}(h1:-1000000<=i)(h2:i<=1000000):J6 i=true:=by
 unfold J6;rw[Ip];exact⟨decide_eq_true (Nu (by decide) h1),decide_eq_true (Int.lt_of_le_of_lt h2 (by decide))⟩
theorem BS(h:n<=1000):JD 0 (n:Int) 2=true:=by
 unfold JD;rw[BR,dE (i:=0) (by decide) (by decide),dE (i:=(n:Int)) ⋯ ⋯,dE (i:=2) (by decide) (by decide),dE (i:=(((n+1) / 2:Nat):Int)) ⋯ ⋯,if_pos (by decide),dE (i:=(n:Int)+(2 - 1)) ⋯ ⋯,Nv];rfl
def It2(n:Nat):It:=⟨λi _=>i<(n+1) / 2,λi H x H'=>H'=H/\x=.int ((2*i:Nat):Int),λi _=>(n+1) / 2<=i⟩
theorem m9{w:World}{K:GH}(it:Addr)(n:Nat):Turn P w K tg (It2 n) [it] it (λi h=>IsRangeIter h it ((0:Int)+(i:Nat)*2) ((((n+1) / 2:Nat):Int) - (i:Nat)) 2) where
 mem:=by simp
 obj:=λi h st b hb=>by
  have e:b=it:=by simpa using hb
  subst e;exact⟨_,st,λv z=>by
   have z':N8 _=O5 v:=z;cases z'⟩
 keep:=λi h h' st k=>k it (by simp) _ st
 item:=by
  intro X hP hw hK hc i pins s σ H E I hf st hg;subst hP hw hK;obtain⟨f0,f1,f2,f3,f4,f5⟩:=hf it (by simp);have hi:i<(n+1) / 2:=hg;have W:=N9 (prog:=X.prog) (w:=X.w) (I.ok.hd hc) it 0 2 ((n+1) / 2);refine W.item i s _ _ hg st λv h' tk hv st' kk=>?_
  obtain⟨t,rfl⟩:=hv;have I1:Inv X pins σ H { s with heap:=h',toks:=tk }:=I.turned (λb o hb e=>kk b o (by simpa using hb) e) f0 f1 f3 f4 f5;refine⟨_,rfl,o8 (s:={ s with heap:=h',toks:=tk }) (n:="range_iterator") st' rfl rfl (by decide) ⟨.int ((2*i:Nat):Int),H,I1,⟨t,?_⟩,⟨rfl,rfl⟩,st',λb hb=>(hf b hb).1⟩⟩;congr 1;lia
 done:=by
  intro X hP hw hK hc i pins s σ H E I hf st hg;subst hP hw hK;obtain⟨f0,f1,f2,f3,f4,f5⟩:=hf it (by simp);exact wpAny_pyNext_range_end (I.ok.hd hc) st (by have:(n+1) / 2<=i:=hg;lia) λh' eb=>⟨rfl,I.turned (t':=s.toks) (λb o hb e=>eb b o hb e) f0 f1 f3 f4 f5⟩
 self:=λ_ _ _ _ _ st h=>wpAny_pyIter_rangeiter st h
section
variable{X:Cx}{tg a b c:Expr}{t:TA}{p pos:Pos}
def BU(t:TA):TI:=λσ H R=>t σ H λvs H1=>∃n:Nat,vs=[.int 0,.int (n:Nat),.int 2]/\n<=1000/\R (It2 n) H1
theorem rS (hg:Gl X "range") (hm:X.mg "range" = none) (ha:QA X [a,b,c] t) (hn:bT a=true:=by rfl) (hn2:bT b=true:=by rfl) (hn3:bT c=true:=by rfl):QI X tg (.Call (.Name "range" p) [a,b,c] [] pos) (BU t):=by
 refine⟨λpins s σ H R I h=>?_⟩;have e3:Rl [c] X.env=[(false,eval c X.env)]:=aK hn3;have e2:Rl [b,c] X.env=[(false,eval b X.env),(false,eval c X.env)]:=by rw[aK hn2,e3]
 refine Call_ (dr I hg hm boot_range (HN (thn (ha.out pos pins s σ H _ I h) λus s1 ⟨vs,H1,I1,r1,q1⟩=>?_) (aK hn) (by rw[e2];rfl)));obtain⟨n,e,hn1,q⟩:=q1;subst e;cases r1 with
 | cons r rr=>
  cases rr with
  | cons r' rr=>
   cases rr with
   | cons r'' rr=>
    cases rr;obtain⟨t1,rfl⟩:=r;obtain⟨t2,rfl⟩:=r';obtain⟨t3,rfl⟩:=r'';refine call_range_3 (by decide) ?_ (.inl (Kt (by decide +kernel)));refine wpAny_pyIter_range (Mv ..) (BS hn1) ?_;have I2:Inv X pins σ H1 { s1 with heap:=s1.heap.push { cls:=.type "range",data:=.fields #[.int 0 t1,.int ((n:Nat):Int) t2,.int 2 t3] },toks:=s1.toks }:=I1.kept λb o e=>GI _ e
    refine⟨_,[(s1.heap.push { cls:=.type "range",data:=.fields #[.int 0 t1,.int ((n:Nat):Int) t2,.int 2 t3] }).objs.size],_,_,H1,rfl,I2.kept (t':=s1.toks) λb o e=>GI _ e,m9 _ n,?_,λb hb=>?_,q⟩
    ·show IsRangeIter _ _ ((0:Int)+((0:Nat):Int)*2) ((((n+1) / 2:Nat):Int) - ((0:Nat):Int)) 2
     have g1:(0:Int)+((0:Nat):Int)*2=0:=by simp
     have g2:(((n+1) / 2:Nat):Int) - ((0:Nat):Int)=Im 0 (n:Int) 2:=by rw[BR];simp
     rw[g1,g2];exact G1 _ rfl
    ·have e:b=(s1.heap.push { cls:=.type "range",data:=.fields #[.int 0 t1,.int ((n:Nat):Int) t2,.int 2 t3] }).objs.size:=by simpa using hb
     subst e;exact I2.fpOk (GJ _) (I2.hok.fresh (GJ _))
end
theorem EB{H:Hp}{R:It->Hp->Prop}(h:t σ H λvs H1=>∃n:Nat,vs=[.int 0,.int (n:Nat),.int 2]/\n<=1000/\R (It2 n) H1):BU t σ H R:=h
section
variable{X:Cx}{e o b:Expr}{to tb te:TE}{pos tpos:Pos}
def BV(K:GH):V->V->Hp->VK->Prop:=λo i H Q=>∃a xs v,o=.ref a/\i=.int (-1)/\SqL K H a xs/\xs.getLast? = some v/\Q v H
theorem rT:Dv X (BV X.K):=by
 intro pins s σ H o i ov iv Q I ro ri h;obtain⟨a,xs,v,rfl,rfl,hq,hv,q⟩:=h;cases ro;obtain⟨t,rfl⟩:=ri;obtain⟨its,r,pl,hz⟩:=I.list hq;have hl:=r.length;have hn:=fm;have hne:xs≠[]:=λz=>by rw[z]at hv;cases hv
 have hpos:0<xs.length:=Ij.mpr hne;rw[List.getLast?_eq_getElem?]at hv;obtain⟨w,ew,rw'⟩:=r.get hv;have hj:((-1:Int)+(its.toArray.size:Int)).toNat=xs.length - 1:=by rw[GQ];lia
 exact wpAny_getItem_list_neg pl.isList (by decide) (by rw[GQ]<;>lia) (by decide) (by rw[hj];simpa using ew) ⟨v,H,I,rw',q⟩
theorem vv{K:GH}(ho:QE X o to)(hi:QE X b tb)(he:QE X e te)(ha:∀ov iv new,augStore b ov iv new=(do RB [new,ov,iv] (setItem ov iv new);release [new,ov,iv] [];pure .next):=by intros;rfl)(hK:X.K=K:=by rfl):
  QS X (.AugAssign (.Subscript o b tpos) .Add e pos) (uy to tb te (BV K) (ipI λi j=>i+j) pC):=by subst hK;exact⟨qh ho.out hi.out rT he.out wK kb ha⟩
end
end L2
namespace HT
open PySem PyProof.Rows L2
section
variable{prog:Program}{w:World}{A:Around}{E:Value->Shared->Prop}{s:Shared}
theorem gG{t:Addr}{lo hi:Option Int}(ht:IsTup s.heap t items)(hs:s.heap.IsSliceOf sl vl vu .none)(pl:IsPart vl lo)(pu:IsPart vu hi)
  (hw:sIx items.size 0 lo=0/\sIx items.size items.size hi=items.size) (h:Q (.ref t) s):wpAny (model prog w) A (getItem (.ref t) (.ref sl)) Q E s:=by
 obtain⟨os,hos,hcs,hds⟩:=id hs;have hTs:s.TypeIs (.ref sl) "slice":=⟨os,hos,hcs⟩;unfold getItem
 try with_reducible refine Rq ?_
 first|refine Rh (Ri ?_)|skip
 refine Rh (wpAny_sequenceKey ht.typeIs (by decide) ?_);refine Rh (Rx (name:=He "__getitem__") ht.typeIs Il
  (RE Il ht.typeIs entry_tuple_getitem ?_ (args_tuple_getitem _ _)))
 show wpAny _ _ (LH (.ref t) >>= _) _ _ s
 refine Rh (tupleItemsOf_ ht ?_);refine Rh (wpAny_typeOf hTs ?_);rw[if_pos (by decide)];refine Rh (dO hs pl pu ?_);have hyes:(((sIx items.size 0 lo:Nat):Int) == 0 && (1:Int) == 1 && (sIx items.size items.size hi - sIx items.size 0 lo) == items.size)=true:=by
  rw[hw.1,hw.2];simp
 show wpAny _ _ (if(((sIx items.size 0 lo:Nat):Int) == 0 && (1:Int) == 1 && (sIx items.size items.size hi - sIx items.size 0 lo) == items.size)=true then _ else _) _ _ s
 rw[if_pos hyes];refine Rh (Rh (wpAny_typeOf ht.typeIs (Ri ?_)));rw[if_pos (by decide)];refine Rh (RZ ?_);exact Ri ⟨_,rfl,Ri h⟩
end
end HT
namespace L2
open PySem PySem.Spec PyProof.Rows
section
variable{X:Cx}{tg a b:Expr}{t:TA}{p pos:Pos}
def yK:V->Option Int->Option Int->Hp->VK->Prop:=λx lo hi H Q=>∃a xs,x=.ref a/\H a=some (.tup xs)/\∀p H',Same H H'->H' p=some (.tup (jz xs lo hi))->Q (.ref p) H'
theorem yL:SlR X yK:=by
 intro pins s σ H x v vl vu lo hi sl Q I rx hs pl pu h;obtain⟨a,xs,rfl,hx,q⟩:=h;by_cases hw:HT.sIx xs.length 0 lo=0/\HT.sIx xs.length xs.length hi=xs.length
 ·cases rx
  obtain⟨its,r,ht,hz⟩:=I.tuple (Q7 hx);have hlen:its.toArray.size=xs.length:=by rw[GQ];exact r.length.symm
  refine⟨"tuple",_,Il.lookup,ht.typeIs,?_⟩;refine HT.gG ht hs pl pu (by rw[hlen];exact hw) ⟨.ref a,H,I,rfl,q a H (Rc H) ?_⟩;rw[hx];unfold jz;rw[hw.1,hw.2,Ht,Le,GN (GJ _)]
 ·exact A1 pins s σ H _ v vl vu lo hi sl Q I rx hs pl pu ⟨a,xs,rfl,Q7 hx,hw,λp hp=>q p _ ((Rc H).new hp) af⟩
theorem BW:QSl X yK:=⟨yL⟩
end
section
variable{K:GH}{σ:St}{H:Hp}{Q:VK}
end
noncomputable def rnd:Nat->List Nat->List dJ×List Nat
 | f,a::b::r=>((f,f+a,f+a+b)::(rnd (f+a+b) r).1,(a+b)::(rnd (f+a+b) r).2)
 | _,[a]=>([],[a])
 | _,[]=>([],[])
theorem gH(f a b:Nat)(r:List Nat):rnd f (a::b::r)=((f,f+a,f+a+b)::(rnd (f+a+b) r).1,(a+b)::(rnd (f+a+b) r).2):=by rw[rnd]
theorem gI(f a:Nat):rnd f [a]=([],[a]):=by rw[rnd]
theorem d7(f:Nat):rnd f []=([],[]):=by rw[rnd]
theorem i8(f:Nat)(ls:List Nat):(rnd f ls).2.length=(ls.length+1) / 2/\(rnd f ls).1.length+(rnd f ls).2.length=ls.length:=by
 induction f,ls using rnd.induct with
 | case1 f a b r ih=>rw[gH];simp only[G8];lia
 | case2 f a=>rw[gI];simp
 | case3 f=>rw[d7];simp
theorem rV(f:Nat)(ls:List Nat):(rnd f ls).2.sum=ls.sum:=by
 induction f,ls using rnd.induct with
 | case1 f a b r ih=>rw[gH];simp only[IP];lia
 | case2 f a=>rw[gI]
 | case3 f=>rw[d7]
theorem BX(f:Nat)(ls:List Nat):∀s∈(rnd f ls).1,f<=s.1/\s.1<=s.2.1/\s.2.1<=s.2.2/\s.2.2<=f+ls.sum:=by
 induction f,ls using rnd.induct with
 | case1 f a b r ih=>
  rw[gH];intro s hs;rcases GZ.mp hs with e|e
  ·rw[e];simp only[IP];lia
  ·have:=ih s e
   simp only[IP];lia
 | case2 f a=>rw[gI];intro s hs;cases hs
 | case3 f=>rw[d7];intro s hs;cases hs
noncomputable def gJ(ls:List Nat):List dJ:=if h:1<ls.length then(rnd 0 ls).1++gJ (rnd 0 ls).2 else[]
termination_by ls.length
decreasing_by have:=(i8 0 ls).1;lia
theorem ja{ls:List Nat}(h:1<ls.length):gJ ls=(rnd 0 ls).1++gJ (rnd 0 ls).2:=by rw[gJ,dif_pos h]
theorem gc{ls:List Nat}(h:¬ 1<ls.length):gJ ls=[]:=by rw[gJ,dif_neg h]
theorem jU:∀(m:Nat) (ls:List Nat),ls.length<=m->(gJ ls).length<=ls.length/\∀s∈gJ ls,s.1<=s.2.1/\s.2.1<=s.2.2/\s.2.2<=ls.sum
 | 0,ls,h=>by rw[gc ⋯];exact⟨GW _,λs hs=>nomatch hs⟩
 | m+1,ls,h=>by
  by_cases g:1<ls.length
  ·obtain⟨l1,l2⟩:=i8 0 ls
   obtain⟨h1,h2⟩:=jU m (rnd 0 ls).2 ⋯;rw[ja g];refine⟨by rw[GY];lia,λs hs=>?_⟩;rcases Hc.mp hs with e|e
   ·have:=BX 0 ls s e;lia
   ·have:=h2 s e
    rw[rV]at this;exact this
  ·rw[gc g];exact⟨GW _,λs hs=>nomatch hs⟩
noncomputable def brk(rss:List (List Nat))(k:Nat):Bool:=lxt (rss.getD k []) (rss.getD (k - 1) [])
noncomputable def zY(xs:List Nat):List Nat:=xs.set (xs.length - 1) (xs.getLastD 0+1)
noncomputable def bP(rss:List (List Nat)):Nat->List Nat
 | 0=>[]
 | m+1=>if 0<m/\brk rss m=false then zY (bP rss m)else bP rss m++[1]
theorem gf(xs:List Nat)(a:Nat):zY (xs++[a])=xs++[a+1]:=by
 unfold zY;rw[GY,Ie,Kv,List.getLastD_concat];simp
theorem jb(rss:List (List Nat))(m:Nat):bP rss (m+1)≠[]:=by
 induction m with
 | zero=>rw[bP,if_neg ⋯];simp
 | succ m ih=>
  rw[bP];split
  ·unfold zY
   intro z;have:=congrArg HL z;rw[Kn]at this;exact ih (HZ.mp this)
  ·simp
theorem nc{xs:List Nat}(h:xs≠[]):∃ys a,xs=ys++[a]:=by
 rcases JW xs with e|⟨ys,a,e⟩
 ·exact absurd e h
 ·exact⟨ys,a,by rw[e,KY]⟩
theorem gg(rss:List (List Nat))(m:Nat):(bP rss m).sum=m:=by
 induction m with
 | zero=>rfl
 | succ m ih=>
  rw[bP];split
  ·rename_i h
   obtain⟨m',rfl⟩:∃m',m=m'+1:=⟨m - 1,by lia⟩
   obtain⟨ys,a,e⟩:=nc (jb rss m');rw[e,gf];rw[e]at ih;simp at ih ⊢;lia
  ·simp[ih]
theorem lR(rss:List (List Nat))(m:Nat):(bP rss m).length<=m:=by
 induction m with
 | zero=>exact GJ _
 | succ m ih=>
  rw[bP];split
  ·unfold zY;rw[Kn];lia
  ·rw[GY,Ie];lia
theorem yM(os:List Nat)(h:i<os.length):jz (NV os) (some ((i:Nat):Int)) (some ((i+2:Nat):Int))=NV ((os.drop i).take 2):=by
 unfold jz;rw[HT.dU,HT.dU,aB,Jn (by lia:i<=os.length)];unfold NV;rw[Ki,Kj];by_cases g:i+2<=os.length
 ·rw[Jn g];congr 1;lia
 ·rw[Nat.min_eq_right ⋯,GN (by rw[Hm,GF];lia),GN (by rw[Hm,GF];lia)]
end L2
namespace L2
open PySem PySem.Spec PyProof.Rows PySem.W
noncomputable def Sat(N:Nat)(lt:Nat->Nat->Bool){α:Type}:KasT α->(α->Prop)->Prop
 | .ret a,R=>R a
 | .ask i j k,R=>i<N/\j<N/\Sat N lt (k (lt i j)) R
theorem Sat.mono{N:Nat}{lt:Nat->Nat->Bool}{α:Type}{R R':α->Prop}(hR:∀a,R a->R' a):∀(t:KasT α),Sat N lt t R->Sat N lt t R'
 | .ret _,h=>hR _ h
 | .ask i j k,h=>⟨h.1,h.2.1,Sat.mono hR (k (lt i j)) h.2.2⟩
theorem Sat.bind{N:Nat}{lt:Nat->Nat->Bool}{α β:Type}{R:α->Prop}{R':β->Prop}{f:α->KasT β}(hf:∀a,R a->Sat N lt (f a) R'):∀(t:KasT α),Sat N lt t R->Sat N lt (t.bind f) R'
 | .ret a,h=>hf a h
 | .ask i j k,h=>⟨h.1,h.2.1,Sat.bind hf (k (lt i j)) h.2.2⟩
theorem Sat.wp{N:Nat}{lt:Nat->Nat->Bool}{α:Type}{R:α->Prop}{I:Shared->Prop}{cmp:Nat->Nat->(Bool->Shared->Prop)->Shared->Prop}
  (hc:∀i j (C:Bool->Shared->Prop) s,i<N->j<N->I s->(∀s',I s'->C (lt i j) s')->cmp i j C s){Q:α->Shared->Prop} :
  ∀(t:KasT α) (s:Shared),Sat N lt t R->I s->(∀a s',R a->I s'->Q a s')->t.kasWp cmp Q s
 | .ret a,s,h,hi,hq=>hq a s h hi
 | .ask i j k,s,h,hi,hq=>hc i j _ s h.1 h.2.1 hi λs' hi'=>Sat.wp hc (k (lt i j)) s' h.2.2 hi' hq
structure Lt (lt:Nat->Nat->Bool):Prop where
 asym:∀i j,lt i j=true->lt j i=false
 tr:∀i j k,lt i j=false->lt j k=false->lt i k=false
def Ah(lt:Nat->Nat->Bool)(i j:Nat):Prop:=lt j i=false/\(lt i j=false->i<j)
theorem Ah.of_lt{lt:Nat->Nat->Bool}(H:Lt lt)(h:lt i j=true):Ah lt i j:=⟨H.asym i j h,λh'=>by rw[h]at h';cases h'⟩
theorem Ah.trans{lt:Nat->Nat->Bool}(H:Lt lt)(a:Ah lt i j)(b:Ah lt j k):Ah lt i k:=by
 refine⟨H.tr k j i b.1 a.1,λh=>?_⟩;have h1:lt i j=false:=H.tr i k j h b.1;have h2:lt j k=false:=H.tr j i k a.1 h;exact Nat.lt_trans (a.2 h1) (b.2 h2)
theorem ng{lt:Nat->Nat->Bool}(H:Lt lt)(h:lt i j=true)(h':lt k j=false):lt i k=true:=by
 cases e:lt i k with
 | true=>rfl
 | false=>rw[H.tr i k j e h']at h;cases h
theorem vx{lt:Nat->Nat->Bool}(H:Lt lt)(h:lt i j=true)(h':lt i k=false):lt k j=true:=by
 cases e:lt k j with
 | true=>rfl
 | false=>rw[H.tr i k j h' e]at h;cases h
section
variable{N:Nat}{lt:Nat->Nat->Bool}
structure Pm (N:Nat) (p:Array Nat):Prop where
 sz:p.size=N
 bd:∀i,i<N->p.getD i 0<N
 inj:∀i j,i<N->j<N->p.getD i 0=p.getD j 0->i=j
theorem kG{p:Array Nat}(h:p.Perm (Hs (GO N))):Pm N p:=by
 have hp:p.toList.Perm (GO N):=by simpa using LN.mp h
 have hs:p.size=N:=by rw[<-IT,hp.length_eq,Ic]
 have hn:p.toList.Nodup:=hp.nodup_iff.mpr Ot;refine⟨hs,λi hi=>?_,λi j hi hj e=>?_⟩
 ·have hi':i<p.size:=by lia
  have:p[i]∈p.toList:=MZ.mpr (Array.getElem_mem hi');have h2:=hp.mem_iff.mp this;rw[show p.getD i 0=p[i]by simp[Lf,hi']];exact Hg.mp h2
 ·have hi':i<p.size:=by lia
  have hj':j<p.size:=by lia
  rw[show p.getD i 0=p[i]by simp[Lf,hi'],show p.getD j 0=p[j]by simp[Lf,hj']]at e;have e':p.toList[i]'(by simpa using hi')=p.toList[j]'(by simpa using hj'):=by simpa using e
  have hq:=G7.mp hn;rcases Iv i j with x|x|x
  ·exact absurd e' (hq i j _ _ x)
  ·exact x
  ·exact absurd e'.symm (hq j i _ _ x)
theorem c6{p:Array Nat}(hj:j<=p.size)(k:Nat):(kas_rev p i j).getD k 0=if i<=k/\k<j then p.getD (i+j - 1 - k) 0 else p.getD k 0:=by
 have h:=getElem?_mirror_all (i:=i) hj k;rw[Jm,Jm,Jm];show((mirror p i j ((j - i) / 2))[k]?).getD 0=_
 rw[h];split<;>rfl
theorem kH{p:Array Nat}{l:Nat}(hk:k<p.size)(hl:l<=k)(i:Nat):(bubble p k (k - l)).getD i 0=if i=l then p.getD k 0 else if l<i/\i<=k then p.getD (i - 1) 0 else p.getD i 0:=by
 have h:=getElem?_bubble hk (k - l) ⋯ i;have e:k - (k - l)=l:=by lia
 rw[e]at h;simp only[Jm];rw[h]
 repeat' split
 all_goals rfl
theorem iG{p:Array Nat}(i j:Nat)(h:p.Perm (Hs (GO N))):(kas_rev p i j).Perm (Hs (GO N)):=(mirror_perm _ _ _ _).trans h
theorem vy{p:Array Nat}(i j:Nat)(h:p.Perm (Hs (GO N))):(bubble p i j).Perm (Hs (GO N)):=(bubble_perm _ _ _).trans h
def Tl(N:Nat)(p:Array Nat)(m:Nat):Prop:=∀i,m<=i->i<N->p.getD i 0=i
theorem Pm.lo{p:Array Nat}(P:Pm N p)(T:Tl N p m)(hi:i<m)(hm:m<=N):p.getD i 0<m:=by
 rcases Jf (p.getD i 0) m with h|h
 ·exact h
 ·have h2:=T _ h (P.bd i ⋯)
  have:=P.inj _ _ (P.bd i ⋯) ⋯ h2;lia
def Up(lt:Nat->Nat->Bool)(p:Array Nat)(m:Nat):Prop:=∀i,0<i->i<m->Ah lt (p.getD (i - 1) 0) (p.getD i 0)
theorem Up.all(H:Lt lt){p:Array Nat}{m:Nat}(U:Up lt p m):∀d i,i+d+1<m->Ah lt (p.getD i 0) (p.getD (i+d+1) 0)
 | 0,i,h=>U (i+1) ⋯ h
 | d+1,i,h=>(Up.all H U d i ⋯).trans H (U (i+d+1+1) ⋯ h)
theorem Up.at(H:Lt lt){p:Array Nat}(U:Up lt p m)(h:i<j)(hj:j<m):Ah lt (p.getD i 0) (p.getD j 0):=by
 have:=U.all H (j - i - 1) i ⋯;rw[show i+(j - i - 1)+1=j by lia]at this;exact this
theorem nh{p:Array Nat}(hb:∀i,i<N->p.getD i 0<N):∀(f n:Nat),1<=n->n+f<=N->
  Sat N lt (kas_asc p f n) (λm=>n<=m/\m<=n+f/\(∀i,n<=i->i<m->lt (p.getD i 0) (p.getD (i - 1) 0)=false)/\(m<n+f->lt (p.getD m 0) (p.getD (m - 1) 0)=true))
 | 0,n,_,_=>⟨GJ _,GJ _,λi a b=>by lia,λh=>by lia⟩
 | f+1,n,h1,hN=>by
  refine⟨hb _ ⋯,hb _ ⋯,?_⟩;cases e:lt (p.getD n 0) (p.getD (n - 1) 0)with
  | true=>
   simp only[if_true];exact⟨GJ _,by lia,λi a b=>by lia,λ_=>e⟩
  | false=>
   simp only[HY,if_false];refine Sat.mono (λm hm=>?_) _ (nh hb f (n+1) ⋯ ⋯);obtain⟨a,b,c,d⟩:=hm;refine⟨by lia,by lia,λi hi him=>?_,λh=>d ⋯⟩;rcases NF hi with rfl|h
   ·exact e
   ·exact c i h him
structure Dn (N:Nat) (lt:Nat->Nat->Bool) (p:Array Nat) (n q:Nat):Prop where
 perm:p.Perm (Hs (GO N))
 tl:Tl N p n
 fall:∀i,0<i->i+(q+1)<n->Ah lt (p.getD i 0) (p.getD (i - 1) 0)
 like:∀i,n<=i+q->i<n->Ah lt (p.getD (i - 1) 0) (p.getD i 0)/\lt (p.getD (i - 1) 0) (p.getD i 0)=false
 join:∀i,0<i->i+(q+1)=n->lt (p.getD i 0) (p.getD (i - 1) 0)=true
 len:q+1<=n
 top:n<=N
theorem Dn.alike(H:Lt lt){p:Array Nat}{n q:Nat}(D:Dn N lt p n q):∀d i j,i+d=j->n<=i+q+1->j<n->lt (p.getD i 0) (p.getD j 0)=false/\lt (p.getD j 0) (p.getD i 0)=false
 | 0,i,j,e,h1,h2=>by
  have:i=j:=by lia
  subst this;cases e:lt (p.getD i 0) (p.getD i 0)with
  | false=>exact⟨rfl,rfl⟩
  | true=>have:=H.asym _ _ e;rw[e]at this;cases this
 | d+1,i,j,e,h1,h2=>by
  obtain⟨a,b⟩:=Dn.alike H D d i (j - 1) ⋯ h1 ⋯;obtain⟨⟨c,_⟩,c'⟩:=D.like j ⋯ h2;exact⟨H.tr _ _ _ a c',H.tr _ _ _ c b⟩
theorem Dn.turn(H:Lt lt){p:Array Nat}{q:Nat}(D:Dn N lt p n q):Tl N (kas_rev p (n - (q+1)) n) n/\(∀i,0<i->i<n->Ah lt ((kas_rev p (n - (q+1)) n).getD i 0) ((kas_rev p (n - (q+1)) n).getD (i - 1) 0))/\
  (∀x,lt x (p.getD (n - 1) 0)=true->lt x ((kas_rev p (n - (q+1)) n).getD (n - 1) 0)=true):=by
 have P:=kG D.perm;have hn:n<=p.size:=by rw[P.sz];exact D.top
 have hl:=D.len;refine⟨λi h1 h2=>?_,λi h1 h2=>?_,λx hx=>?_⟩
 ·rw[c6 hn,if_neg ⋯];exact D.tl i h1 h2
 ·rw[c6 hn,c6 hn]
  by_cases c1:n - (q+1)<=i
  ·rw[if_pos ⟨c1,h2⟩]
   by_cases c2:n - (q+1)<=i - 1
   ·rw[if_pos ⟨c2,by lia⟩]
    have:=(D.like (n - (q+1)+n - 1 - (i - 1)) ⋯ ⋯).1;rw[show n - (q+1)+n - 1 - (i - 1) - 1=n - (q+1)+n - 1 - i by lia]at this;exact this
   ·rw[if_neg ⋯]
    have ei:i=n - (q+1):=by lia
    rw[show n - (q+1)+n - 1 - i=n - 1 by lia];have j:=D.join i h1 ⋯;have k:=(D.alike H (n - 1 - i) i (n - 1) ⋯ ⋯ ⋯).1;exact Ah.of_lt H (vx H j k)
  ·rw[if_neg ⋯,if_neg ⋯]
   exact D.fall i h1 ⋯
 ·rw[c6 hn,if_pos ⋯,show n - (q+1)+n - 1 - (n - 1)=n - (q+1)by lia]
  have k:=(D.alike H (n - 1 - (n - (q+1))) (n - (q+1)) (n - 1) ⋯ ⋯ ⋯).1;exact ng H hx k
theorem iH(H:Lt lt):∀(f:Nat) (p:Array Nat) (n q:Nat),Dn N lt p n q->n+f<=N->
  Sat N lt (kas_desc f p n q) (λr=>Dn N lt r.1 r.2.1 r.2.2)
 | 0,p,n,q,D,_=>D
 | f+1,p,n,q,D,hN=>by
  have P:=kG D.perm;have hl:=D.len;have hn:n<=p.size:=by rw[P.sz];exact D.top
  refine⟨P.bd _ ⋯,P.bd _ ⋯,?_⟩;cases e:lt (p.getD n 0) (p.getD (n - 1) 0)with
  | true=>
   simp only[if_true];have step:∀p':Array Nat,p'.Perm (Hs (GO N))->Tl N p' n->(∀i,0<i->i<n->Ah lt (p'.getD i 0) (p'.getD (i - 1) 0))->lt (p'.getD n 0) (p'.getD (n - 1) 0)=true->Dn N lt p' (n+1) 0:=
    λp' a b c d=>⟨a,λi h1 h2=>b i ⋯ h2,λi h1 h2=>c i h1 ⋯,λi h1 h2=>by lia,
     λi h1 h2=>by(have:i=n:=⋯);subst this;exact d,by lia,by lia⟩
   by_cases hq:q > 0
   ·rw[if_pos hq]
    obtain⟨t1,t2,t3⟩:=D.turn H;refine iH H f _ (n+1) 0 (step _ (iG _ _ D.perm) t1 t2 ?_) ⋯;refine t3 _ ?_;rw[c6 hn,if_neg ⋯];exact e
   ·rw[if_neg hq]
    have hq0:q=0:=by lia
    subst hq0;refine iH H f _ (n+1) 0 (step _ D.perm D.tl (λi h1 h2=>?_) e) ⋯;rcases Jf (i+1) n with h|h
    ·exact D.fall i h1 h
    ·exact Ah.of_lt H (D.join i h1 ⋯)
  | false=>
   simp only[HY,if_false];refine⟨P.bd _ ⋯,P.bd _ ⋯,?_⟩;cases e2:lt (p.getD (n - 1) 0) (p.getD n 0)with
   | true=>
    simp only[if_true];exact D
   | false=>
    simp only[HY,if_false];refine iH H f p (n+1) (q+1) ⟨D.perm,λi h1 h2=>D.tl i ⋯ h2,λi h1 h2=>D.fall i h1 ⋯,λi h1 h2=>?_,λi h1 h2=>D.join i h1 ⋯,by lia,by lia⟩ ⋯;rcases Jf i n with h|h
    ·exact D.like i ⋯ h
    ·have:i=n:=by lia
     subst this;refine⟨⟨e,λ_=>?_⟩,e2⟩;rw[D.tl i (GJ _) ⋯];exact P.lo D.tl ⋯ D.top
structure Rn (N:Nat) (lt:Nat->Nat->Bool) (p:Array Nat) (m:Nat):Prop where
 perm:p.Perm (Hs (GO N))
 tl:Tl N p m
 up:Up lt p m
 top:m<=N
theorem Rn.longer(H:Lt lt){p:Array Nat}(R:Rn N lt p n)(h1:1<=n)(h:n<=m)(hm:m<=N)(ha:∀i,n<=i->i<m->lt (p.getD i 0) (p.getD (i - 1) 0)=false):Rn N lt p m:=by
 have P:=kG R.perm;refine⟨R.perm,λi a b=>R.tl i ⋯ b,λi a b=>?_,hm⟩;rcases Jf i n with c|c
 ·exact R.up i a c
 ·refine⟨ha i c b,λ_=>?_⟩
  rw[R.tl i c ⋯];exact P.lo (λj x y=>R.tl j ⋯ y) ⋯ ⋯
theorem pR(H:Lt lt){p:Array Nat}(hp:p.Perm (Hs (GO N)))(T:Tl N p n)(hn:n<=N)(F:∀i,0<i->i<n->Ah lt (p.getD i 0) (p.getD (i - 1) 0)):Rn N lt (kas_rev p 0 n) n:=by
 have P:=kG hp;have hs:n<=p.size:=by rw[P.sz];exact hn
 refine⟨iG _ _ hp,λi a b=>?_,λi a b=>?_,hn⟩
 ·rw[c6 hs,if_neg ⋯];exact T i a b
 ·rw[c6 hs,c6 hs,if_pos ⋯,if_pos ⋯]
  have:=F (0+n - 1 - (i - 1)) ⋯ ⋯;rw[show 0+n - 1 - (i - 1) - 1=0+n - 1 - i by lia]at this;exact this
theorem lS(H:Lt lt){p:Array Nat}(h1:1<=n)(hp:p.Perm (Hs (GO N)))(T:Tl N p n)(hn:n<=N)(F:∀i,0<i->i<n->Ah lt (p.getD i 0) (p.getD (i - 1) 0)):
  Sat N lt (kas_tail3 n N p) (λr=>1<=r.1/\Rn N lt r.2 r.1):=by
 have R:=pR H hp T hn F;refine Sat.bind (λm hm=>?_) _ (nh (kG R.perm).bd (N - n) n h1 ⋯);exact⟨by show 1<=m;lia,R.longer H h1 hm.1 ⋯ hm.2.2.1⟩
theorem gS(H:Lt lt){p:Array Nat}(D:Dn N lt p (n+1) 0):Sat N lt (kas_descPart n N p) (λr=>1<=r.1/\Rn N lt r.2 r.1):=by
 have:=D.top;refine Sat.bind (λr D'=>?_) _ (iH H (N - (n+1)) p (n+1) 0 D ⋯);have hl:=D'.len;by_cases hq:r.2.2 > 0
 ·rw[if_pos hq]
  obtain⟨t1,t2,_⟩:=D'.turn H;exact lS H ⋯ (iG _ _ D'.perm) t1 D'.top t2
 ·rw[if_neg hq]
  refine lS H ⋯ D'.perm D'.tl D'.top λi h1 h2=>?_
  rcases Jf (i+(r.2.2+1)) r.2.1 with h|h
  ·exact D'.fall i h1 h
  ·exact Ah.of_lt H (D'.join i h1 ⋯)
theorem bH(i:Nat)(h:i<N):(Hs (GO N)).getD i 0=i:=by
 simp[Lf,h]
theorem rW(H:Lt lt)(h1:1<=N):Sat N lt (kas_count N (Hs (GO N))) (λr=>1<=r.1/\Rn N lt r.2 r.1):=by
 have hp:(Hs (GO N)).Perm (Hs (GO N)):=Q1 _;have P:=kG hp;have R1:Rn N lt (Hs (GO N)) 1:=⟨hp,λi a b=>bH i b,λi a b=>by lia,h1⟩;refine Sat.bind (λn hn=>?_) _ (nh P.bd (N - 1) 1 (GJ _) ⋯);obtain⟨a,b,c,d⟩:=hn;have R:=R1.longer H (GJ _) a ⋯ c;by_cases e:n=N
 ·rw[if_pos (by simp[e])];exact⟨a,R⟩
 ·rw[if_neg (by simp[e])]
  have dd:=d ⋯;rw[bH _ ⋯,bH _ ⋯]at dd;by_cases h:n > 1
  ·rw[if_pos h]
   refine⟨P.bd _ ⋯,P.bd _ ⋯,?_⟩;rw[bH _ ⋯,bH _ ⋯];cases e2:lt 0 (n - 1)with
   | true=>
    simp only[if_true];exact⟨a,R⟩
   | false=>
    simp only[HY,if_false];have hs:n<=(Hs (GO N)).size:=by simp;lia
    have le:∀i j,i<j->j<n->lt j i=false:=λi j x y=>by
     have:=(R.up.at H x y).1
     rwa [bH _ ⋯,bH _ ⋯]at this
    have ge:∀i j,i<j->j<n->lt i j=false:=λi j x y=>by
     have p1:lt i 0=false:=by
      rcases JI i with rfl|q
      ·cases e5:lt 0 0 with
       | false=>rfl
       | true=>have:=H.asym _ _ e5;rw[e5]at this;cases this
      ·exact le 0 i q ⋯
     have p2:lt (n - 1) j=false:=by
      rcases Jf j (n - 1)with q|q
      ·exact le j (n - 1) q ⋯
      ·have:j=n - 1:=by lia
       subst this;cases e5:lt (n - 1) (n - 1)with
       | false=>rfl
       | true=>have:=H.asym _ _ e5;rw[e5]at this;cases this
     exact H.tr _ _ _ p1 (H.tr _ _ _ e2 p2)
    have g:∀i,i<N->(kas_rev (Hs (GO N)) 0 n).getD i 0=if i<n then n - 1 - i else i:=λi hi=>by
     rw[c6 hs];by_cases q:i<n
     ·rw[if_pos ⋯,if_pos q,bH _ ⋯];lia
     ·rw[if_neg ⋯,if_neg q,bH _ hi]
    refine gS H ⟨iG _ _ hp,λi x y=>?_,λi x y=>?_,λi x y=>by lia,λi x y=>?_,by lia,by lia⟩
    ·rw[g i y,if_neg ⋯]
    ·rw[g i ⋯,g (i - 1) ⋯,if_pos ⋯,if_pos ⋯]
     exact⟨le _ _ ⋯ ⋯,λ_=>by lia⟩
    ·have ei:i=n:=by lia
     subst ei;rw[g i ⋯,g (i - 1) ⋯,if_neg ⋯,if_pos ⋯,show i - 1 - (i - 1)=0 by lia];exact ng H dd e2
  ·rw[if_neg h]
   have:n=1:=by lia
   subst this;refine gS H ⟨hp,λi x y=>bH i y,λi x y=>by lia,λi x y=>by lia,λi x y=>?_,by lia,by lia⟩;have:i=1:=by lia
   subst this;rw[bH _ ⋯,bH _ ⋯];exact dd
theorem jc(H:Lt lt){p:Array Nat}{k:Nat}(R:Rn N lt p k)(hk:k<N):∀(f l r:Nat),l<=r->r<=k->r - l<=f->(∀i,i<l->lt k (p.getD i 0)=false)->(∀i,r<=i->i<k->lt k (p.getD i 0)=true)->
  Sat N lt (kas_place p k f l r) (λm=>m<=k/\(∀i,i<m->lt k (p.getD i 0)=false)/\(∀i,m<=i->i<k->lt k (p.getD i 0)=true))
 | 0,l,r,h1,h2,h3,a,b=>⟨by lia,a,λi x y=>b i ⋯ y⟩
 | f+1,l,r,h1,h2,h3,a,b=>by
  have P:=kG R.perm;unfold kas_place;by_cases h:l>=r
  ·rw[if_pos h]
   exact⟨by lia,a,λi x y=>b i ⋯ y⟩
  ·rw[if_neg h]
   refine⟨P.bd _ ⋯,P.bd _ ⋯,?_⟩;have ek:p.getD k 0=k:=R.tl k (GJ _) hk;rw[ek];cases e:lt k (p.getD ((l+r) / 2) 0)with
   | true=>
    simp only[if_true];refine jc H R hk f l ((l+r) / 2) ⋯ ⋯ ⋯ a λi x y=>?_
    rcases NF x with rfl|x
    ·exact e
    ·exact ng H e (R.up.at H x y).1
   | false=>
    simp only[HY,if_false];refine jc H R hk f ((l+r) / 2+1) r ⋯ h2 ⋯ (λi x=>?_) b;rcases Jf i ((l+r) / 2)with y|y
    ·exact H.tr _ _ _ e (R.up.at H y ⋯).1
    ·have:i=(l+r) / 2:=by lia
     subst this;exact e
theorem Rn.put(H:Lt lt){p:Array Nat}(R:Rn N lt p k)(hk:k<N)(hm:m<=k)(a:∀i,i<m->lt k (p.getD i 0)=false)(b:∀i,m<=i->i<k->lt k (p.getD i 0)=true):Rn N lt (bubble p k (k - m)) (k+1):=by
 have P:=kG R.perm;have hs:k<p.size:=by rw[P.sz];exact hk
 have ek:p.getD k 0=k:=R.tl k (GJ _) hk;refine⟨vy _ _ R.perm,λi x y=>?_,λi x y=>?_,hk⟩
 ·rw[kH hs hm,if_neg ⋯,if_neg ⋯];exact R.tl i ⋯ y
 ·rw[kH hs hm,kH hs hm,ek]
  rcases Jf i m with c|c
  ·rw[if_neg ⋯,if_neg ⋯,if_neg ⋯,if_neg ⋯]
   exact R.up i x ⋯
  ·by_cases c1:i=m
   ·rw[if_neg ⋯,if_neg ⋯,if_pos c1]
    exact⟨a _ ⋯,λ_=>P.lo R.tl ⋯ ⋯⟩
   ·by_cases c2:i=m+1
    ·rw[if_pos ⋯,if_neg ⋯,if_pos ⋯]
     exact Ah.of_lt H (b _ ⋯ ⋯)
    ·rw[if_neg ⋯,if_pos ⋯,if_neg ⋯,if_pos ⋯]
     exact R.up (i - 1) ⋯ ⋯
theorem rX(H:Lt lt):∀(f:Nat) (p:Array Nat) (k:Nat),Rn N lt p k->k+f=N->Sat N lt (kas_bin f p k) (λr=>Rn N lt r N)
 | 0,p,k,R,h=>by
  have:k=N:=by lia
  subst this;exact R
 | f+1,p,k,R,h=>by
  refine Sat.bind (λm hm=>?_) _ (jc H R ⋯ k 0 k (GW _) (GJ _) ⋯ (λi x=>by lia) λi x y=>by lia);exact rX H f _ (k+1) (R.put H ⋯ hm.1 hm.2.1 hm.2.2) ⋯
theorem vz(H:Lt lt)(h1:1<=N):Sat N lt (kas_sort N) (λr=>Rn N lt r N):=by
 refine Sat.bind (λr hr=>?_) _ (rW H h1);obtain⟨a,R⟩:=hr;have ht:=R.top;by_cases h:r.1<N
 ·rw[if_pos h,Nat.max_eq_left a]
  exact rX H _ _ _ R ⋯
 ·rw[if_neg h]
  have:r.1=N:=by lia
  rw[this]at R;exact R
theorem Rn.list(H:Lt lt){p:Array Nat}(R:Rn N lt p N):p.toList.Perm (GO N)/\p.toList.Pairwise (Ah lt):=by
 have P:=kG R.perm;refine⟨by simpa using LN.mp R.perm,?_⟩;rw[G7];intro i j hi hj hij;have hi':i<p.size:=by simpa using hi
 have hj':j<p.size:=by simpa using hj
 have:=R.up.at H hij (by rw[<-P.sz];exact hj');rw[show p.getD i 0=p[i]by simp[Lf,hi'],show p.getD j 0=p[j]by simp[Lf,hj']]at this;simpa using this
end
end L2
namespace HT
open PySem PyProof.Rows PySem.W L2
theorem rY{prog:Program}{w:World}{A:Around}{s:Shared}{κ:SortKind}{lt:Nat->Nat->Bool}{ks:List Value}{I:Shared->Prop}(hl:ks.length=vs.length)(h2:2<=vs.length)(H:Lt lt)(hI:I s)
  (hc:∀i j s',i<vs.length->j<vs.length->I s'->wpAny (model prog w) A (keyLt' κ (ks.getD i Hr) (ks.getD j Hr)) (λb s''=>b=lt i j/\I s'') (λ_ _=>False) s')
  (h64:vs.length<64:=by first|lia|(rw[IF];lia)) :
  wpAny (model prog w) A ((sortRuns').run (Lg κ (ks.toArray.zip vs.toArray) #[] 7 none))
   (λr s'=>∃p:Array Nat,arrOf r.2=p.map (kas_item (ks.toArray.zip vs.toArray))/\failedOf r.2=none/\p.size=vs.length/\I s'/\p.toList.Perm (GO vs.length)/\p.toList.Pairwise (Ah lt)) E s:=by
 have ask:=Sat.wp (I:=I) (cmp:=kas_ask prog w A κ ks) (N:=vs.length) (lt:=lt) (Q:=λp s'=>I s'/\p.toList.Perm (GO vs.length)/\p.toList.Pairwise (Ah lt))
  (λi j C s' hi hj es hC=>Ro (hc i j s' hi hj es) (λb s'' hb=>by obtain⟨rfl,hb2⟩:=hb;exact hC _ hb2) λ_ _ z=>z) _ _ (vz H ⋯) hI (λp s' R es=>⟨es,R.list H⟩)
 refine Ro (kat_run (ks:=ks) (vs:=vs) (Q:=λst' s'=>∃p:Array Nat,arrOf st'=p.map (kas_item (ks.toArray.zip vs.toArray))/\failedOf st'=none/\p.size=vs.length/\I s'/\p.toList.Perm (GO vs.length)/\p.toList.Pairwise (Ah lt)) hl ⋯ h64
   (λp st' s' a1 a2 a3 a4=>⟨p,a2,a3,a1,a4⟩) ask) (λr s' hr=>hr) λ_ _ e=>e
section
variable{prog:Program}{w:World}{A:Around}{E:Value->Shared->Prop}{s:Shared}
theorem oK{R:Nat->Nat->Prop}(n:Nat)(h:n<2):(GO n).Pairwise R:=by
 match n,h with
 | 0,_=>exact .nil
 | 1,_=>exact IS _ _
theorem kI {κ:SortKind}{lt:Nat->Nat->Bool}{P:QK->Shared->Prop}(ho:s.heap.get? a=some (seqObj "list" vs.toArray n)) (h64:vs.length<64) (H:Lt lt)
  (hk:∀h' (Q:SortKind->Shared->Prop),2<=vs.length->(∀b o,b≠a->s.heap.get? b=some o->h'.get? b=some o)->Q κ { s with heap:=h' }->wpAny (model prog w) A (keyKind' vs.toArray) Q (λ_ _=>False) { s with heap:=h' })
  (hc:∀h' i j (Q:Bool->Shared->Prop),i<vs.length->j<vs.length->(∀b o,b≠a->s.heap.get? b=some o->h'.get? b=some o)->Q (lt i j) { s with heap:=h' }->
   wpAny (model prog w) A (keyLt' κ (vs.getD i Hr) (vs.getD j Hr)) Q (λ_ _=>False) { s with heap:=h' })
  (h:∀p:List Nat,p.Perm (GO vs.length)->p.Pairwise (Ah lt)->P (.done (.ret .none)) { s with heap:=sortedHeap s.heap a vs (Hs (p.map λi=>vs.getD i Hr)) }) :
  wpAny (model prog w) A (Builtin.«list.sort» ⟨[.ref a],[]⟩) P E s:=by
 rw[list_sort_plain];have ha:a<s.heap.objs.size:=GX ho;refine Rh (listItems_at ho rfl ?_);refine Rh (RP ho rfl ?_ (by rw[GQ,Rt];lia) (GW _));obtain⟨e1,ho1⟩:∃e1,(s.heap.update a (Hn λ_=>(#[]:Array Value))).get? a=some (seqObj "list" #[] e1):=⟨_,RO ho (λ_=>#[])⟩
 refine Rh (seqEpoch_at ho1 rfl ?_);refine Rh (wpAny_newTuple ?_ (by show vs.length<=_;rw[Rt];lia));refine Rh (wpAny_newList ?_ (GW _));refine Rq ?_;have ho6:(((s.heap.update a (Hn λ_=>(#[]:Array Value))).push (seqObj "tuple" vs.toArray 0)).push (seqObj "list" #[] 0)).get? a=some (seqObj "list" #[] e1):=by
  rw[KG _ _ _ (by rw[size_push',Ke];exact Hf (JO ha)),KG _ _ _ (by rw[Ke];exact Hf ha)];exact ho1
 have kp:∀b o,b≠a->s.heap.get? b=some o->(((s.heap.update a (Hn λ_=>(#[]:Array Value))).push (seqObj "tuple" vs.toArray 0)).push (seqObj "list" #[] 0)).get? b=some o:=λb o hb e=>by
  have hlt:=GX e;rw[KG _ _ _ (by rw[size_push',Ke];exact Hf (JO hlt)),KG _ _ _ (by rw[Ke];exact Hf hlt),Heap.get?_update_ne _ _ _ _ hb];exact e
 show wpAny (model prog w) A _ P E { s with heap:=((s.heap.update a (Hn λ_=>(#[]:Array Value))).push (seqObj "tuple" vs.toArray 0)).push (seqObj "list" #[] 0) }
 dsimp only;have hsz:vs.toArray.size=vs.length:=by simp
 by_cases h2:vs.toArray.size<2
 ·rw[if_pos h2,if_pos h2]
  refine Rh (Ri ?_);rw[OQ];refine Rh (Ri ?_);dsimp only;refine Rh (seqEpoch_at ho6 rfl ?_);refine Rh (RP ho6 rfl ?_ (GW _) (by rw[Array.size_map];show(pairsOf vs).size<=_;rw[pairsOf_size,Rt];lia));simp only[bne_self_eq_false,HY,if_false];have:=h (GO vs.length) (IX _) (oK _ ⋯);have eo:(arrOf (Lg general' (vs.toArray.zip vs.toArray) #[] 7 none)).map (·.2)=Hs ((GO vs.length).map λi=>vs.getD i Hr):=by
   have e:=kas_range (vs.toArray.zip vs.toArray);rw[show(vs.toArray.zip vs.toArray).size=vs.length by simp]at e;have:=kat_snds (st:=Lg general' (vs.toArray.zip vs.toArray) #[] 7 none) (ks:=vs) (vs:=vs) rfl e.symm;simpa using this
  rw[<-eo]at this;exact Ri this
 ·rw[if_neg h2,if_neg h2]
  refine Rh (Ro (hk _ (λκ' s'=>κ'=κ/\s'={ s with heap:=((s.heap.update a (Hn λ_=>(#[]:Array Value))).push (seqObj "tuple" vs.toArray 0)).push (seqObj "list" #[] 0) }) ⋯ kp ⟨rfl,rfl⟩) (λκ' s' hh=>?_) λ_ _ x=>x.elim);obtain⟨rfl,rfl⟩:=hh;refine Rh (Ro (rY (ks:=vs) (I:=λs'=>s'={ s with heap:=((s.heap.update a (Hn λ_=>(#[]:Array Value))).push (seqObj "tuple" vs.toArray 0)).push (seqObj "list" #[] 0) }) rfl ⋯ H rfl (λi j s' hi hj es=>by subst es;exact hc _ i j _ hi hj kp ⟨rfl,rfl⟩)) ?_ λ_ _ e=>e);rintro⟨⟨⟩,st'⟩ s' ⟨p,har,hf,hp,rfl,q1,q2⟩;dsimp only;have hout:=kat_snds rfl har;rw[hout];refine Rh (seqEpoch_at ho6 rfl ?_);refine Rh (RP ho6 rfl ?_ (GW _) (by rw[GQ,GF,IT,hp,Rt];lia));rw[hf];simp only[bne_self_eq_false,HY,if_false];exact Ri (h p.toList q1 q2)
theorem oM{fin:Bool}{Q:Bool->Shared->Prop}:∀{xs ys:List Value}{ns ms:List Int},Rp xs ns->Rp ys ms->∀(i:Nat) (b:Bool),fin=decide (ns.length<ms.length)->Q (bC ns ms) s->
  KatLex prog w A b fin Q (xs.zip ys) i s
 | _,_,_,_,.nil,.nil,i,b,e,h=>by subst e;exact h
 | _,_,_,_,.nil,.cons m u r,i,b,e,h=>by
  subst e;rw[KE];refine kat_nil ?_;simpa using(show Q true s from h)
 | _,_,_,_,.cons n t r,.nil,i,b,e,h=>by
  subst e;rw[Ks];refine kat_nil ?_;simpa using(show Q false s from h)
 | _,_,_,_,.cons n t r,.cons m u r',i,b,e,h=>by
  rw[IJ];refine kat_cons (wpAny_eqBool_int ?_);rw[bt]at h;by_cases hn:n=m
  ·rw[if_pos hn]at h
   rw[show(n == m)=true by simp[hn]];exact kat_yes (oM r r' (i+1) b (by rw[e];simp) h)
  ·rw[if_neg hn]at h
   rw[show(n == m)=false by simp[hn]];refine kat_no ?_;cases(b && i == 0)with
   | true=>exact oneLt_int h
   | false=>exact kat_one _ _ (lt_int h)
theorem vA{x y:Addr}{its its2:Array Value}{ns ms:List Int}{b:Bool}{Q:Bool->Shared->Prop}(hx:IsTup s.heap x its)(hy:IsTup s.heap y its2)(hi:Rp its.toList ns)(hj:Rp its2.toList ms)(h:Q (bC ns ms) s):
  wpAny (model prog w) A (keyLt' (tuples' b) (.ref x) (.ref y)) Q E s:=by
 obtain⟨o,ho,hc,n,hd⟩:=id hx;obtain⟨o2,ho2,hc2,n2,hd2⟩:=id hy;refine kat_lt ho hd ho2 hd2 (oM hi hj 0 b ?_ h);rw[<-hi.length,<-hj.length];simp
theorem yN{x y:Addr}{its its2:Array Value}{ns ms:List Int}{Q:Bool->Shared->Prop}(hu:A.units<cLine)(hx:IsTup s.heap x its)(hy:IsTup s.heap y its2)(hi:Rp its.toList ns)(hj:Rp its2.toList ms)(h:Q (bC ns ms) s):
  wpAny (model prog w) A (keyLt' oneType' (.ref x) (.ref y)) Q E s:=by
 obtain⟨⟨cls,dd,data,sl⟩,ho,hc,n,hd⟩:=id hx;obtain⟨⟨cls2,dd2,data2,sl2⟩,ho2,hc2,n2,hd2⟩:=id hy;simp only at hc hd hc2 hd2;subst hc hd hc2 hd2;rw[keyLt'_oneType,oneLt'_eq];simp only[if_true];refine Rh (wpAny_cRoomFor hu ?_);refine Rh (wpAny_callSpecialIfBound?_slot (T:="tuple") ⟨_,ho,rfl⟩ MT (RQ MT ⟨_,ho,rfl⟩ PySem.F.entry_tuple_lt (PySem.F.args_tuple_lt_2 _ _) (ka x y its its2 n n2 dd dd2 sl sl2 ns ms hi hj) ⟨ho,ho2,?_⟩));exact RD h
theorem vB{Q:SortKind->Shared->Prop}(h2:2<=vs.length)(ht:∀v∈vs,∃a,v=.ref a/\IsTup s.heap a #[])(h:Q oneType' s):
  wpAny (model prog w) A (keyKind' vs.toArray) Q E s:=by
 obtain⟨v₁,rest,rfl⟩:∃v₁ rest,vs=v₁::rest:=by
  match vs,h2 with
  | v₁::rest,_=>exact⟨v₁,rest,rfl⟩
 rw[kat_kind_eq,N1,map_eq_pure_bind];refine Rh (Rh (kas_mapM (r:=none) _ (λv hv Q' hq=>?_) (Ri ?_)))
 ·obtain⟨a,rfl,o,ho,hc,n,hd⟩:=ht v hv
  rw[kas_first_eq];refine Rh (Looks.here (show Looks (model prog w) s.heap (typeOf (.ref a)) o.cls from(Looks.ld ho).andThen .now) ?_);rw[hc,if_neg (by first|decide|simp)];refine Rh (listItems_at ho hd (Ri ?_));exact hq
 ·rw[if_neg (by simp),if_neg (by simp)]
  rw[oneTypeOnly'_eq,N1,map_eq_pure_bind];refine Rh (Rh (Rh (kas_mapM (r:=Jl "tuple") _ (λv hv Q' hq=>?_) (Ri ?_))))
  ·obtain⟨a,rfl,o,ho,hc,n,hd⟩:=ht v hv
   refine Looks.here (show Looks (model prog w) s.heap (typeOf (.ref a)) (Jl "tuple")from ?_) hq;rw[<-hc];exact(Looks.ld ho).andThen .now
  ·have hall:((Ox (λ_=>Jl "tuple") (v₁::rest)).toArray.all λx=>x == Jl "tuple")=true:=by
    simp only[List.all_toArray,List.all_map,IC];intro _ _;rfl
   have h0:(Ox (λ_=>Jl "tuple") (v₁::rest)).toArray[0]? = some (Jl "tuple"):=by simp
   rw[h0];simp only[hall,if_true];exact Ri (Ri h)
theorem rZ:∀{vs:List Value}{rss:List (List Int)},vs.length=rss.length->(∀(i:Nat) v r,vs[i]? = some v->rss[i]? = some r->∃a its,v=.ref a/\IsTup s.heap a its/\Rp its.toList r)->(∀r∈rss,r≠[])->
  ∃fs,KatTups s.heap vs fs/\fs.length=vs.length/\∀f∈fs,∃n t,f=JZ n t
 | [],[],_,_,_=>⟨[],.nil,rfl,λ_ h=>nomatch h⟩
 | v::vs,r::rss,hl,h,hne=>by
  obtain⟨fs,k1,k2,k3⟩:=rZ (vs:=vs) (rss:=rss) (by simpa using hl) (λi v r e1 e2=>h (i+1) v r (by simpa using e1) (by simpa using e2)) λr hr=>hne r (.tail _ hr)
  obtain⟨a,its,rfl,⟨o,ho,hc,n,hd⟩,hi⟩:=h 0 v r rfl rfl;have hr:=hne r (.head _);obtain⟨its'⟩:=its;cases hi with
  | nil=>exact absurd rfl hr
  | cons m t hi'=>exact⟨_::fs,KatTups.cons (f:=.int m t) ho hc hd (by simp) k1,by simp[k2],λf hf=>(GZ.mp hf).elim (λe=>⟨m,t,e⟩) (k3 f)⟩
theorem r9{rss:List (List Int)}{Q:SortKind->Shared->Prop}(h2:2<=vs.length)(hl:vs.length=rss.length)(ht:∀(i:Nat) v r,vs[i]? = some v->rss[i]? = some r->∃a its,v=.ref a/\IsTup s.heap a its/\Rp its.toList r)(hne:∀r∈rss,r≠[])
  (h:Q (tuples' true) s):wpAny (model prog w) A (keyKind' vs.toArray) Q E s:=by
 obtain⟨fs,k1,k2,k3⟩:=rZ hl ht hne;refine kat_kind (T:=Jl "int") k1 ⋯ (λv hv=>?_) rfl h;obtain⟨n,t,rfl⟩:=k3 v hv;exact Looks.of_pure rfl
end
theorem gK(a:List Int):∀b,bC a b=true->bC b a=false:=by
 induction a with
 | nil=>intro b h;cases b<;>first|rfl|cases h
 | cons x xs ih=>
  intro b h;cases b with
  | nil=>cases h
  | cons y ys=>
   rw[bt]at h ⊢;by_cases e:x=y
   ·rw[if_pos e]at h;rw[if_pos e.symm];exact ih ys h
   ·rw[if_neg e]at h;rw[if_neg (Hl e)]
    have:=of_decide_eq_true h;exact decide_eq_false ⋯
theorem jd(a:List Int):∀b c,bC a b=false->bC b c=false->bC a c=false:=by
 induction a with
 | nil=>
  intro b c h1 h2;cases b with
  | nil=>exact h2
  | cons y ys=>cases h1
 | cons x xs ih=>
  intro b c h1 h2;cases c with
  | nil=>rfl
  | cons z zs=>
   cases b with
   | nil=>cases h2
   | cons y ys=>
    rw[bt]at h1 h2 ⊢;by_cases e:x=y
    ·subst e
     rw[if_pos rfl]at h1;by_cases e2:x=z
     ·subst e2;rw[if_pos rfl]at h2 ⊢;exact ih ys zs h1 h2
     ·rw[if_neg e2]at h2 ⊢;exact h2
    ·rw[if_neg e]at h1
     have h1:=of_decide_eq_false h1;by_cases e2:y=z
     ·subst e2;rw[if_neg e];exact decide_eq_false h1
     ·rw[if_neg e2]at h2
      have h2:=of_decide_eq_false h2;rw[if_neg ⋯];exact decide_eq_false ⋯
theorem BY(rss:List (List Int)):Lt (λi j=>bC (rss.getD i []) (rss.getD j [])):=⟨λi j h=>gK _ _ h,λi j k h1 h2=>jd _ _ _ h1 h2⟩
end HT
namespace L2
open PySem PySem.Spec PyProof.Rows PySem.W
section
variable{X:Cx}
theorem lT:∀{rs:List Addr}{us:List Value},Vals (rs.map Rb) us->us=rs.map Hq
 | [],_,.nil=>rfl
 | _::_,_,.cons r t=>by
  rw[Ig,<-lT t];cases r;rfl
theorem kJ{f:Nat->V}{g:Nat->Value}:∀{p:List Nat},(∀i∈p,RelV (f i) (g i))->Vals (p.map f) (p.map g)
 | [],_=>.nil
 | i::p,h=>.cons (h i (.head _)) (kJ λj hj=>h j (.tail _ hj))
end
section
variable{X:Cx}
end
end L2
namespace HT
open PySem PyProof.Rows PySem.W L2
section
variable{prog:Program}{w:World}{A:Around}{E:Value->Shared->Prop}{s:Shared}
theorem pS {T:String}{o:Obj}{κ:SortKind}{lt:Nat->Nat->Bool}(hT:T = "list"\/T = "tuple") (ho:s.heap.get? l=some o) (hcl:o.cls=.type T) (hd:o.data=.seq vs.toArray n) (h64:vs.length<64) (H:Lt lt)
  (hk:∀h' (Q:SortKind->Shared->Prop),2<=vs.length->(∀b o,s.heap.get? b=some o->h'.get? b=some o)->Q κ { s with heap:=h' }->wpAny (model prog w) A.in1.in1 (keyKind' vs.toArray) Q (λ_ _=>False) { s with heap:=h' })
  (hc:∀h' i j (Q:Bool->Shared->Prop),i<vs.length->j<vs.length->(∀b o,s.heap.get? b=some o->h'.get? b=some o)->Q (lt i j) { s with heap:=h' }->
   wpAny (model prog w) A.in1.in1 (keyLt' κ (vs.getD i Hr) (vs.getD j Hr)) Q (λ_ _=>False) { s with heap:=h' })
  (h:∀(h1:Heap) (p:List Nat),(∀b o,s.heap.get? b=some o->h1.get? b=some o)->p.Perm (GO vs.length)->p.Pairwise (Ah lt)->
   Q (.ref h1.objs.size) { s with heap:=sortedHeap (h1.push (seqObj "list" vs.toArray 0)) h1.objs.size vs (Hs (p.map λi=>vs.getD i Hr)) }) :
  wpAny (model prog w) A (call (.builtin "sorted") [.ref l]) Q E s:=by
 refine Calls.call_function_entry kind_sorted plain_sorted entry_sorted (args_sorted1 _) ?_;unfold Builtin.«sorted»;refine Rh (m:=checkCount "sorted" 1 1 _) (Ri ?_);refine Rh (wpAny_collect_seq l hT ho hcl hd (λh1 k1=>?_) (by rw[GQ,Rt];lia));show wpAny _ _ _ _ _ { s with heap:=h1 }
 refine Rh (wpAny_newList ?_ (by show vs.toArray.toList.length<=_;rw[Ni,Rt];lia));have hoL:(h1.push (seqObj "list" vs.toArray 0)).get? h1.objs.size=some (seqObj "list" vs.toArray 0):=G1 _ rfl;have ne:∀b o,s.heap.get? b=some o->b≠h1.objs.size:=λb o q=>Hf (GX (k1 b o q))
 have keep:∀b o,s.heap.get? b=some o->(h1.push (seqObj "list" vs.toArray 0)).get? b=some o:=λb o q=>GI _ (k1 b o q)
 show wpAny _ _ _ _ _ { s with heap:=h1.push (seqObj "list" vs.toArray 0) }
 refine Rh (Rq (RE slot_list_sort ⟨_,hoL,rfl⟩ entry_list_sort (kI (s:={ s with heap:=h1.push (seqObj "list" vs.toArray 0) }) hoL h64 H
  (λh' Q' h2 k q=>hk h' Q' h2 (λb o e=>k b o (ne b o e) (keep b o e)) q) (λh' i j Q' hi hj k q=>hc h' i j Q' hi hj (λb o e=>k b o (ne b o e) (keep b o e)) q) λp a1 a2=>⟨_,rfl,?_⟩) (args_list_sort _)))
 exact Ri ⟨_,rfl,h h1 p k1 a1 a2⟩
end
theorem sd(ns:List Int):Lt (λi j=>decide (ns.getD i 0<ns.getD j 0)):=⟨λi j h=>by
 have:=of_decide_eq_true h;exact decide_eq_false ⋯,λi j k h1 h2=>by
 have a:=of_decide_eq_false h1;have b:=of_decide_eq_false h2;exact decide_eq_false ⋯⟩
theorem gL{ns:List Int}(h:Rp vs ns):∀{i:Nat},i<vs.length->∃t,vs.getD i Hr=.int (ns.getD i 0) t:=by
 induction h with
 | nil=>intro i hi;cases hi
 | cons n t h ih=>
  intro i hi;cases i with
  | zero=>exact⟨t,rfl⟩
  | succ i=>
   obtain⟨t',e⟩:=ih (i:=i) (by simpa using hi);exact⟨t',by simpa using e⟩
end HT
namespace L2
open PySem PySem.Spec PyProof.Rows PySem.W
theorem vC{α:Type}(xs:List α)(d:α):(GO xs.length).map (λi=>xs.getD i d)=xs:=by
 apply Jy
 ·simp
 ·intro i h1 h2
  simp[h2]
section
variable{X:Cx}
def w6(K:GH):List V->Hp->VK->Prop:=λxs H Q=>∃(l:Addr) (ns:List Int),xs=[.ref l]/\(SqL K H l (ns.map Q8)\/SqT K H l (ns.map Q8))/\ns.length<64/\
 ∀(d:Addr) (ms:List Int),H d=none->ms.Perm ns->ms.Pairwise (·<=·)->Q (.ref d) (upd H d (.lst (ms.map Q8)))
theorem pT:cQ X (.builtin "sorted") (w6 X.K):=by
 intro pins s σ H xs us Q I r h;obtain⟨l,ns,rfl,hq,h64,q⟩:=h;obtain⟨u,rfl,rx⟩:=fg r;cases rx;have main:∀(T:String) (o:Obj) (its:List Value) (n:Nat),T = "list"\/T = "tuple"->s.heap.get? l=some o->o.cls=.type T->o.data=.seq its.toArray n->Vals (ns.map Q8) its->
   wpAny (model X.prog X.w) X.A (call (.builtin "sorted") [.ref l]) (EP X pins σ Q) X.xe s:=by
  intro T o its n hT ho hc hd rv;have hi:=bG rv;have hl:its.length=ns.length:=hi.length;refine HT.pS (κ:=oneType') hT ho hc hd ⋯ (HT.sd ns) (λh' Q' h2 k hQ=>?_) (λh' i j Q' hi1 hj1 k hQ=>?_) λh1 p k1 hp hs=>?_
  ·obtain⟨v₁,v₂,rest,rfl⟩:∃v₁ v₂ rest,its=v₁::v₂::rest:=by
    match its,h2 with
    | v₁::v₂::rest,_=>exact⟨v₁,v₂,rest,rfl⟩
   rw[keyKind_ints hi];exact Ri hQ
  ·obtain⟨t1,e1⟩:=HT.gL hi hi1
   obtain⟨t2,e2⟩:=HT.gL hi hj1;rw[e1,e2,keyLt'_oneType];exact oneLt_int hQ
  ·have I1:Inv X pins σ H { s with heap:=h1 }:=I.kept (t':=s.toks) k1
   have hoL:(h1.push (seqObj "list" its.toArray 0)).get? h1.objs.size=some (seqObj "list" its.toArray 0):=G1 _ rfl;obtain⟨c,hc⟩:=sortedHeap_at (out:=Hs (p.map λi=>its.getD i Hr)) hoL;have hpl:=hp.length_eq;rw[Ic,hl]at hpl;rw[hl]at hp;refine⟨.ref h1.objs.size,_,I1.laid (t':=s.toks) (λb o e=>?_) (GJ _) (show ObjOk X.prog X.w _ _ _ (.lst ((p.map λi=>ns.getD i 0).map Q8))from⟨?_,_,c,?_,hc⟩),rfl,q _ (p.map λi=>ns.getD i 0) (I1.hok.fresh (GJ _)) ?_ ?_⟩
   ·have hlt:=GX e
    rw[sortedHeap_old (Hf hlt) (by rw[size_push'];exact JO hlt)];exact GI _ e
   ·rw[GF,GF,hpl,Rt];lia
   ·rw[IV]
    refine kJ λi hi'=>?_
    have hi2:i<its.length:=by rw[hl];exact Hg.mp (hp.mem_iff.mp hi')
    obtain⟨t,e⟩:=HT.gL hi hi2;rw[e];exact⟨t,rfl⟩
   ·have:=hp.map (λi=>ns.getD i 0)
    rwa [vC]at this
   ·rw[Jr]
    refine hs.imp λ{a b} h=>?_
    have:=of_decide_eq_false h.1;lia
 rcases hq with hq|hq
 ·obtain⟨its,r',pl,hz⟩:=I.list hq
  obtain⟨o,ho,hc,n,hd⟩:=pl.isList;exact main "list" o its n (.inl rfl) ho hc hd r'
 ·obtain⟨its,r',⟨o,ho,hc,n,hd⟩,hz⟩:=I.tuple hq
  exact main "tuple" o its n (.inr rfl) ho hc hd r'
theorem vD {K:GH}(hK:X.K=K:=by rfl):QC X (.builtin "sorted") (w6 K):=by subst hK;exact⟨pT⟩
end
end L2
namespace L2
open PySem PySem.Spec PyProof.Rows
section
variable{X:Cx}{pins:List (Addr×Obj)}{σ:St}{H:Hp}{s:Shared}
end
section
variable{κ:Type}[DecidableEq κ]
end
section
variable{P:Program}{w:World}{H:Hp}{h:Heap}{a:Addr}
end
section
variable{X:Cx}{pins:List (Addr×Obj)}{σ:St}{H:Hp}{s:Shared}{a:Addr}{y v:V}{u r:Value}{o:Option V}{A:Around}{E:Value->Shared->Prop}
end
section
variable{X:Cx}{pins:List (Addr×Obj)}{σ:St}{H:Hp}{s:Shared}{a:Addr}{kvs:List (Key×V)}{k:Key}{u:Value}{A:Around}{E:Value->Shared->Prop}
end
section
variable{X:Cx}{o i e value:Expr}{pos pos' tpos:Pos}{td ty tv:TE}
end
section
variable{X:Cx}{pos:Pos}
end
section
variable{X:Cx}{pins:List (Addr×Obj)}{σ:St}{H:Hp}{s:Shared}{a:Addr}{y d:V}{u r:Value}{o:Option V}{A:Around}{E:Value->Shared->Prop}
end
section
variable{X:Cx}{o e f:Expr}{apos cpos:Pos}{td ty tx:TE}
end
section
variable{X:Cx}{pins:List (Addr×Obj)}{σ:St}{H:Hp}{s:Shared}{a:Addr}{kvs:List (Key×V)}{A:Around}{E:Value->Shared->Prop}
end
section
variable{X:Cx}{pins:List (Addr×Obj)}{σ:St}{H:Hp}{s:Shared}{a:Addr}{y:V}{u:Value}{A:Around}{E:Value->Shared->Prop}
end
section
variable{X:Cx}{o i value:Expr}{td ty tv:TE}{pos pos':Pos}
end
noncomputable def EC(at_ c:Nat):Nat:=if at_<=c then c+1 else c
noncomputable def tr3(at_:Nat)(s:dJ):dJ:=(s.1,s.2.1,EC at_ s.2.2)
end L2
namespace HT
open PySem PyProof.Rows PySem.W L2
section
variable{prog:Program}{w:World}{A:Around}{E:Value->Shared->Prop}{s:Shared}{a kS:Addr}{vs ks:List Value}{e e1:Nat}{P:QK->Shared->Prop}
noncomputable abbrev lU(h:Heap)(kS a:Addr)(out:Array Value):Heap:=(h.update kS (Hn λ_=>(#[]:Array Value))).update a (Hn λ_=>out)
theorem oN {st:SortSt}{out:Array Value}(hka:kS≠a) (hoA:s.heap.get? a=some (seqObj "list" #[] e1)) (hoK:s.heap.get? kS=some (seqObj "list" ks.toArray e)) (hkl:ks.length<64) (hol:out.size<64) (hout:(arrOf st).map (·.2)=out) (hfl:failedOf st=none)
  (h:P (.done (.ret .none)) { s with heap:=lU s.heap kS a out }):wpAny (model prog w) A (ksk_tail a false e1 (.ref kS) st) P E s:=by
 have s1:=Ji s.heap kS (Hn λ_=>(#[]:Array Value));have na1:(s.heap.update kS (Hn λ_=>(#[]:Array Value))).get? a=some (seqObj "list" #[] e1):=(s1.2 a hka.symm).trans hoA;unfold ksk_tail;rw[hout];simp only[HY,if_false];refine Rh (RP hoK rfl ?_ (by rw[GQ,Rt];lia) (GW _));refine Rh (RR ?_);refine Rh (seqEpoch_at na1 rfl ?_);refine Rh (RP na1 rfl ?_ (GW _) (by rw[Rt];lia));rw[hfl];simp only[bne_self_eq_false,HY,if_false];exact Ri h
theorem yO {κ:SortKind}{lt:Nat->Nat->Bool}(hka:kS≠a) (hoA:s.heap.get? a=some (seqObj "list" #[] e1)) (hoK:s.heap.get? kS=some (seqObj "list" ks.toArray e)) (hlen:ks.length=vs.length) (h64:vs.length<64) (H:Lt lt)
  (hk:∀(Q:SortKind->Shared->Prop),2<=vs.length->Q κ s->wpAny (model prog w) A (keyKind' ks.toArray) Q (λ_ _=>False) s)
  (hc:∀i j (Q:Bool->Shared->Prop),i<vs.length->j<vs.length->Q (lt i j) s->wpAny (model prog w) A (keyLt' κ (ks.getD i Hr) (ks.getD j Hr)) Q (λ_ _=>False) s)
  (h:∀p:List Nat,p.Perm (GO vs.length)->p.Pairwise (Ah lt)->P (.done (.ret .none)) { s with heap:=lU s.heap kS a (Hs (p.map λi=>vs.getD i Hr)) }) :
  wpAny (model prog w) A (ksk_end a false vs.toArray e1 (.ref kS) ks.toArray) P E s:=by
 unfold ksk_end;simp only[HY,if_false];have hsz:vs.toArray.size=vs.length:=by simp
 by_cases h2:vs.toArray.size<2
 ·rw[if_pos h2,if_pos h2]
  refine Rh (Ri ?_);rw[OQ];refine Rh (Ri ?_);dsimp only;have eo:(arrOf (Lg general' (ks.toArray.zip vs.toArray) #[] 7 none)).map (·.2)=Hs ((GO vs.length).map λi=>vs.getD i Hr):=by
   have e:=kas_range (ks.toArray.zip vs.toArray);rw[show(ks.toArray.zip vs.toArray).size=vs.length by simp[hlen]]at e;have:=kat_snds (st:=Lg general' (ks.toArray.zip vs.toArray) #[] 7 none) (ks:=ks) (vs:=vs) hlen e.symm;simpa using this
  exact oN (st:=Lg general' (ks.toArray.zip vs.toArray) #[] 7 none) hka hoA hoK ⋯ (by simp;lia) eo rfl (h (GO vs.length) (IX _) (oK _ ⋯))
 ·rw[if_neg h2,if_neg h2]
  refine Rh (Ro (hk (λκ' s'=>κ'=κ/\s'=s) ⋯ ⟨rfl,rfl⟩) (λκ' s' hh=>?_) λ_ _ x=>x.elim);obtain⟨rfl,rfl⟩:=hh;refine Rh (Ro (rY (ks:=ks) (vs:=vs) (I:=λs''=>s''=s') hlen ⋯ H rfl (λi j s'' hi hj es=>by subst es;exact hc i j _ hi hj ⟨rfl,rfl⟩)) ?_ λ_ _ e=>e);rintro⟨⟨⟩,st'⟩ s'' ⟨p,har,hf,hp,rfl,q1,q2⟩;dsimp only;exact oN hka hoA hoK ⋯ (by rw[GQ,GF,IT,hp];exact h64) (kat_snds hlen har) hf (h p.toList q1 q2)
theorem vE{f:Value}(J:Nat->List Value->Shared->Prop)(h0:J 0 [] s)(h64:vs.length<64)
  (step:∀i x ks s,vs[i]? = some x->J i ks s->ks.length=i/\wpAny (model prog w) A (call f [x]) (λk s'=>∃e,s'.heap.get? kS=some (seqObj "list" ks.toArray e)/\J (i+1) (ks++[k]) { s' with heap:=s'.heap.update kS (Hn (·.push k)) }) (λ_ _=>False) s)
  (done:∀ks s,J vs.length ks s->∃e,s.heap.get? kS=some (seqObj "list" ks.toArray e)/\wpAny (model prog w) A (ksk_end a false vs.toArray e1 (.ref kS) ks.toArray) P E s) :
  wpAny (model prog w) A (ksk_rest a f false vs.toArray e1 (.ref kS)) P E s:=by
 unfold ksk_rest;refine Rh (RZ ?_)
 first
  | rw[List.forIn_toArray]
  | (rw[<-NG];simp only[Ni])
  | rw[<-NG]
 refine Rh (ksk_fold (λi s'=>∃ks,J i ks s') vs 0 s ⟨[],h0⟩ ?step ?done);case step=>
  rintro j x s' hx ⟨ks,hJ⟩;rw[Lh]at hJ ⊢;obtain⟨hkl,hcall⟩:=step j x ks s' hx hJ;have hj:j<vs.length:=(GM.mp hx).1;refine Rh (wpAny_attempt (Ro hcall (λk s'' he=>?_) λ_ _ hF=>hF.elim));obtain⟨e,hk,hJ'⟩:=he
  try dsimp only
  refine Rh (RP hk rfl ?_ (by rw[GQ,Rt];lia) (HU (Ko (Array.size_push ..)) (by rw[GQ,Rt];lia)));exact Ri ⟨rfl,_,hJ'⟩
 case done=>
  rintro s' ⟨ks,hJ⟩;rw[Lh]at hJ;obtain⟨e,hk,hd⟩:=done ks s' hJ
  try dsimp only
  exact Rh (listItems_at hk rfl hd)
theorem vF {f:Value}(ho:s.heap.get? a=some (seqObj "list" vs.toArray n)) (h64:vs.length<64)
  (h:∀(h':Heap) (kS:Addr) (e1:Nat),(∀b o,b≠a->s.heap.get? b=some o->h'.get? b=some o)->s.heap.objs.size<=kS->h'.get? kS=some (seqObj "list" #[] 0)->h'.get? a=some (seqObj "list" #[] e1)->(∀b,s.heap.objs.size<=b->b<h'.objs.size->True)->
   wpAny (model prog w) A (ksk_rest a f false vs.toArray e1 (.ref kS)) P E { s with heap:=h' }) :
  wpAny (model prog w) A (ksk_tree a f false) P E s:=by
 have ha:a<s.heap.objs.size:=GX ho;have s1:=Ji s.heap a (Hn λ_=>(#[]:Array Value));obtain⟨e1,ho1⟩:∃e1,(s.heap.update a (Hn λ_=>(#[]:Array Value))).get? a=some (seqObj "list" #[] e1):=⟨_,RO ho λ_=>#[]⟩
 have hkS:((s.heap.update a (Hn λ_=>(#[]:Array Value))).push (seqObj "tuple" vs.toArray 0)).objs.size=s.heap.objs.size+1:=by rw[size_push',Ke]
 unfold ksk_tree;refine Rh (listItems_at ho rfl ?_);refine Rh (RP ho rfl ?_ (by rw[GQ,Rt];lia) (GW _));refine Rh (seqEpoch_at ho1 rfl ?_);refine Rh (wpAny_newTuple ?_ (by show vs.length<=_;rw[Rt];lia));refine Rh (wpAny_newList ?_ (GW _));refine Rq ?_;refine h (((s.heap.update a (Hn λ_=>(#[]:Array Value))).push (seqObj "tuple" vs.toArray 0)).push (seqObj "list" #[] 0)) _ e1 (λb o hb e=>?_) (by rw[hkS];lia) (G1 _ rfl) (GI _ (GI _ ho1)) (λ_ _ _=>trivial);exact GI _ (GI _ ((s1.2 b hb).trans e))
theorem pU{G:List Value->Prop}(h64:∀vs,G vs->vs.length<64)
  (hcol:∀(Q:List Value->Shared->Prop),(∀vs h1 tk,G vs->(∀b o,s.heap.get? b=some o->h1.get? b=some o)->Q vs { s with heap:=h1,toks:=tk })->wpAny (model prog w) A.in1 (collect (.ref l)) Q (λ_ _=>False) s)
  (h:∀(vs:List Value) (h1 h':Heap) (tk:Nat) (a kS:Addr) (e1:Nat),G vs->(∀b o,s.heap.get? b=some o->h1.get? b=some o)->(∀b o,h1.get? b=some o->h'.get? b=some o)->h1.objs.size<=a->a<kS->h'.get? kS=some (seqObj "list" #[] 0)->h'.get? a=some (seqObj "list" #[] e1)->
   wpAny (model prog w) A.in1.in1 (ksk_rest a (.ref q) false vs.toArray e1 (.ref kS)) (λr s'=>r=.done (.ret .none)/\Q (.ref a) s') (λ_ _=>False) { s with heap:=h',toks:=tk }) :
  wpAny (model prog w) A (call (.builtin "sorted") [.ref l] [(He "key",.ref q)]) Q E s:=by
 refine call_function_entry_kw kind_sorted plain_sorted entry_sorted (ksk_s1 _ _) ?_;unfold Builtin.«sorted»;refine Rh (m:=checkCount "sorted" 1 1 _) (Ri ?_);refine Rh (Ro (hcol _ λvs h1 tk g1 k1=>?_) (λ_ _ x=>x) λ_ _ x=>x.elim);have h64:=h64 vs g1;refine Rh (wpAny_newList ?_ (by rw[Rt];lia));have hoL:(h1.push (seqObj "list" vs.toArray 0)).get? h1.objs.size=some (seqObj "list" vs.toArray 0):=G1 _ rfl;show wpAny _ _ _ _ _ { s with heap:=h1.push (seqObj "list" vs.toArray 0),toks:=tk }
 refine Rh (Rq (wpAny_call_entry_kw slot_list_sort ⟨_,hoL,rfl⟩ entry_list_sort ?body (ksk_l1 _ _)));case body=>
  show wpAny (model prog w) A.in1.in1 (Builtin.«list.sort» ⟨[.ref h1.objs.size],[(He "key",.ref q)]⟩) _ _ _
  rw[ksk_t1];refine vF (s:={ s with heap:=h1.push (seqObj "list" vs.toArray 0),toks:=tk }) hoL h64 λh' kS e1 k2 hk1 hk2 hk3 _=>?_
  have hlt:h1.objs.size<kS:=by
   have:=hk1;rw[show({ s with heap:=h1.push (seqObj "list" vs.toArray 0),toks:=tk }:Shared).heap.objs.size=h1.objs.size+1 from size_push' ..]at this;lia
  refine Ro (h vs h1 h' tk h1.objs.size kS e1 g1 k1 (λb o e=>k2 b o (Hf (GX e)) (GI _ e)) (GJ _) hlt hk2 hk3) (λr s' hr=>?_) λ_ _ x=>x.elim
  obtain⟨rfl,hq⟩:=hr;exact⟨_,rfl,Ri ⟨_,rfl,hq⟩⟩
theorem kK{r:Addr}{x b c:Int}{t u v:Tok}{Q:List Value->Shared->Prop}(hh:A.handled=none)(hr:IsRange s.heap r x b c t u v)(hsmall:JD x b c=true)(hn:Im x b c=n)(hlen:n<=2 ^ 24)
  (hQ:∀h' tk (acc:Array Value),(∀b o,s.heap.get? b=some o->h'.get? b=some o)->ItemsOf (λi v=>∃t,v=.int (x+i*c) t) acc n->Q acc.toList { s with heap:=h',toks:=tk }) :
  wpAny (model prog w) A (collect (.ref r)) Q E s:=by
 unfold collect;refine Rh (wpAny_runValue (codeAny_builtin PySem.F.entry_proto_collect ?_));rw[Kg PySem.F.plain_proto_collect _];show wpAny _ A.in1 (newList [] >>= λl=>again (.builtin "list.__iadd__" ⟨[l,.ref r],[]⟩)) _ _ s
 refine Rh (Ry ?_);refine Ri ⟨plainId_quiet Mi _,codeAny_builtin PySem.F.entry_list_iadd ?_⟩;rw[Kg Mi _];show wpAny _ A.in1 (O7 (.ref s.heap.objs.size) (.ref r) (.ref s.heap.objs.size)) _ _ _
 have hS:(s.heap.push { cls:=.type "list",data:=.seq ([]:List Value).toArray }).get? s.heap.objs.size=some { cls:=.type "list",data:=.seq #[] 0 }:=G1 _ rfl;refine Ro (wpAny_extend_range (A:=A) (s:={ s with heap:=s.heap.push { cls:=.type "list",data:=.seq ([]:List Value).toArray } }) (R:=λr' s'=>r'=.ok (.ret (.ref s.heap.objs.size))/\∃h' tk acc c',s'={ s with heap:=h',toks:=tk }/\(∀b o,s.heap.get? b=some o->h'.get? b=some o)/\h'.get? s.heap.objs.size=some { cls:=.type "list",dict:=none,data:=.seq acc c',slots:=#[] }/\ItemsOf (λi v=>∃t,v=.int (x+i*c) t) acc n)
  hh (GI _ hr) hsmall hn hlen s.heap.objs.size _ 0 hS λh' tk acc c' k g i=>⟨rfl,h',tk,acc,c',rfl,λb o e=>k b o (Hf (GX e)) (GI _ e),g,i⟩) (λfin s' hf=>?_) (λe s' hf=>?_)
 ·have fin':∀s',(∃h' tk acc c',s'={ s with heap:=h',toks:=tk }/\(∀b o,s.heap.get? b=some o->h'.get? b=some o)/\h'.get? s.heap.objs.size=some { cls:=.type "list",dict:=none,data:=.seq acc c',slots:=#[] }/\ItemsOf (λi v=>∃t,v=.int (x+i*c) t) acc n)->
   wpAny (model prog w) A (match Hq s.heap.objs.size with
   | Hq a=>do
    match(<-load a).data with
     | QZ xs _=>pure xs.toList
     | _=>unsupported "internal:collect"
   | _=>unsupported "internal:collect") Q E s':=by
   rintro s' ⟨h',tk,acc,c',rfl,k,g,i⟩;show wpAny _ A (load s.heap.objs.size >>= _) _ _ _
   exact Rh (wpAny_load g (Ri (hQ h' tk acc k i)))
  cases fin with
  | done f=>
   obtain⟨e,hx⟩:=hf;cases e;exact fin' _ hx
  | again c'=>exact⟨hf.1,codeAny_mono hf.2 λr' s'' hr=>by obtain⟨rfl,hx⟩:=hr;exact fin' _ hx⟩
 ·exact absurd hf.1 (by simp)
end
end HT
namespace L2
open PySem PySem.Spec PyProof.Rows PySem.W
noncomputable def se(X:Cx)(N:List Str)(qual:Str)(scope:Scope)(f c':Addr)(cl:List (Str×Addr))(A:Around)(C:Addr)(s:Shared)(H:Hp):Cx:=
 { X with A:=A.deeper (envX qual scope C f (.ref c') cl),N:=N,s₀:=s,H₀:=H,env:=envX qual scope C f (.ref c') cl,outer:=X.stack,stack:=envX qual scope C f (.ref c') cl::X.stack,ex:=[],fn:=λ_=>false,calm:=true,pn:=[],xe:=λ_ _=>False }
noncomputable def FlOk(X:Cx)(scope:Scope)(cl:List (Str×Addr)):List Str->Prop
 | []=>True
 | x::r=>(X.env.kindOf x=some .cell/\scope.names.lookup x=some .free/\∃c,cl.lookup x=some c/\X.env.cells.lookup x=some c)/\FlOk X scope cl r
theorem FlOk.mem{X:Cx}{scope:Scope}{cl:List (Str×Addr)}:∀{l:List Str},FlOk X scope cl l->∀x∈l,
  X.env.kindOf x=some .cell/\scope.names.lookup x=some .free/\∃c,cl.lookup x=some c/\X.env.cells.lookup x=some c
 | [],_,_,h=>nomatch h
 | y::r,⟨h1,h2⟩,x,h=>by
  rcases GZ.mp h with e|e
  ·subst e;exact h1
  ·exact FlOk.mem h2 x e
structure LamOk (X:Cx) (N:List Str) (x:Str) (frs:List Str) (ix:List Nat) (scope:Scope) (cl:List (Str×Addr)):Prop where
 clos:closureFor scope X.env=pure cl
 cell:∀y∈scope.names,y.2≠.cell
 kind:scope.kind=.function
 par:scope.names.lookup x=some .local
 nm:N=x::frs
 ixs:ix.map (X.N[·]?)=frs.map some
 fr:FlOk X scope cl frs
 cls:ClOk X cl
 has:scope.names.all (λp=>!(p.2 == .cell || p.2 == .free) || (cl.lookup p.1).isSome)=true
 co:scope.isCoroutine=false
 gen:scope.isGenerator=false
noncomputable def sf(ix:List Nat)(σ:St)(v:V):St:=some v::ix.map λj=>(σ[j]?).getD none
section
variable{X:Cx}{N frs:List Str}{x qual:Str}{ix:List Nat}{scope:Scope}{cl:List (Str×Addr)}{A:Around}{f c' C:Addr}
theorem LamOk.hasOf(c:LamOk X N x frs ix scope cl){y:Str}(h:scope.names.lookup y=some .cell\/scope.names.lookup y=some .free):∃a,cl.lookup y=some a:=by
 have all:=IC.mp c.has;rcases h with h|h
 ·have q:=all _ (eU h)
  exact Jc.mp (by simpa only[beq_self_eq_true,Nt,LI,LJ]using q)
 ·have q:=all _ (eU h)
  exact Jc.mp (by simpa only[beq_self_eq_true,Nv,LI,LJ]using q)
theorem yP{H:Hp}{s:Shared}{h1:Heap}{m:Str->Option Value}(c:LamOk X N x frs ix scope cl)(I:Inv X pins σ H s)(hA:A.frames=some X.stack)(hh:A.handled=none)
  (hC:s.heap.objs.size<=C) (hns:h1.Ns C m) (hm:m x=some u) (r:RelV v u) (hk:∀b o,s.heap.get? b=some o->h1.get? b=some o) :
  Inv (se X N qual scope f c' cl A C s H) [] (sf ix σ v) H { s with heap:=h1,toks:=tk }:=by
 have hcn:∀x a,cl.lookup x=some a->X.env.cells.lookup x=some a:=c.cls.get
 refine⟨⟨I.ok.mod,c.kind,rfl,rfl,hC,λx y a h1 h2=>I.ok.inj x y a (hcn _ _ h1) (hcn _ _ h2),λx hx=>c.hasOf hx,(λx a z _=>Bool.noConfusion z),λ_=>hh,?_,.inr ⟨rfl,rfl⟩,λb hb=>(by cases hb),I.bs,HU I.ok.bsz I.sz,λb o e hb=>(by cases hb),λb hb z=>(by cases hb),I.stack,I.stkFree⟩,
  rfl,I.bare,Un.kept hk,⟨m,hns,λi y w e1 e2 e3=>?_⟩,λx a e=>?_,I.hok.fresh hC,λx a e=>I.freeC x a (hcn x a e),λp hp=>(by cases hp),I.hok.kept hk,?_⟩
 ·show(A.deeper _).frames=some _
  simp only[Around.deeper,hA];rfl
 ·rw[show(se X N qual scope f c' cl A C s H).N=x::frs from c.nm]at e1
  match i,e1,e2 with
  | 0,e1,e2=>
   cases e1;cases e2;exact⟨u,r,.inl ⟨c.par,hm⟩⟩
  | i+1,e1,e2=>
   have e1:frs[i]? = some y:=by simpa using e1
   have e2:(ix.map λj=>(σ[j]?).getD none)[i]? = some (some w):=e2;have hy:y∈frs:=G3 e1;obtain⟨k1,k2,a,l1,l2⟩:=c.fr.mem y hy;have e:=congrArg (·[i]?) c.ixs;simp only[GK,e1]at e;rw[GK]at e2;cases q:ix[i]? with
   | none=>rw[q]at e;cases e
   | some j=>
    rw[q]at e e2;simp only[Mp,NZ]at e e2;have n2:σ[j]? = some (some w):=by
     cases z:σ[j]? with
     | none=>rw[z]at e2;cases e2
     | some o=>rw[z]at e2;simp at e2;rw[e2]
    obtain⟨m',_,hl⟩:=I.loc;obtain⟨u',r',l⟩:=hl j y w e n2 (.inr (.inl k1));refine⟨u',r',.inr ⟨.inr k2,a,l1,?_⟩⟩;rcases l with⟨l,_⟩|⟨_,a',l3,o,l4,l5⟩
    ·rw[k1]at l;cases l
    ·rw[l2]at l3;cases l3
     exact⟨o,hk _ _ l4,l5⟩
 ·obtain⟨v,o,q1,q2⟩:=I.cell x a (hcn x a e)
  exact⟨v,o,hk _ _ q1,q2⟩
 ·show(sf ix σ v).length=N.length
  unfold sf;have e:=congrArg HL c.ixs;simp only[GF]at e;rw[c.nm];simp[e]
theorem vG{H:Hp}{s:Shared}{name:Str}{params:Arguments}{body:Expr}{ctv:Value}{te:TE}{Q:VK}(c:LamOk X N x frs ix scope cl)(I:Inv X pins σ H s)(hA:A.frames=some X.stack)(hh:A.handled=none)(hroom:A.depth<recursionLimit)
  (hf:s.heap.get? f=some (kla_obj name qual params body scope cl pm c' ctv)) (hcd:s.heap.CodeRec (.ref c') qual) (hbind:bindArgs (kla_fn name qual params body scope cl pm (.ref c') ctv) ⟨[u],[]⟩=pure [(x,u)]) (r:RelV v u)
  (he:∀C s H,PE (se X N qual scope f c' cl A C s H) body te) (q:te (sf ix σ v) H Q):wpAny (model X.prog X.w) A (call (.ref f) [u]) (EP X pins σ Q) (λ_ _=>False) s:=by
 refine wpAny_call (codeAny_mono (R:=λr s'=>match r with
  | .ok (.ret u)=>CE X.stack X.prog X.w H s Q u s'
  | _=>False) (kla_callFunE hroom hf rfl c.co c.gen rfl hcd ?_) λr s' hr=>?_)
 ·rw[hbind]
  refine Ri (wpAny_newFunctionEnv c.cell (λy hy=>by rw[G0.mp hy];exact c.par) (λh₁ hns hsb=>⟨(I.nolimit).fresh _ hsb,?_⟩) c.kind);have hk₁:∀b o,s.heap.get? b=some o->h₁.get? b=some o:=λb o e=>hsb.extBut b o (Hf (GX e)) (GI _ e)
  show codeAny _ _ (.expr body (envX qual scope s.heap.objs.size f (.ref c') cl)) _ _
  have I1:=yP (qual:=qual) (f:=f) (c':=c') (tk:=s.toks+[(x,u)].length) c I hA hh (GJ _) hns (by show([(x,u)].reverse).lookup x=some u;simp) r hk₁;refine kla_codeExpr (Ro (he _ _ _ [] _ _ H Q I1 q) (λw s' hs=>?_) λ_ _ z=>(by exact z.elim));obtain⟨y,H',J,rv,hq⟩:=hs;exact⟨y,H',J.os,J.bare,J.base,J.hok,rv,hq⟩
 ·match r,hr with
  | .ok (.ret u'),hr=>exact I.after hr
end
noncomputable def ni(c':Addr)(qual:Str):HO:=.ext λh=>h.CodeRec (.ref c') qual
def TabOk(P:Addr)(lpos:Pos)(qual:Str)(H:Hp):Prop:=H P=some (.tbl #[])\/∃c',H P=some (.tbl #[RJ lpos.line,RJ lpos.col,.ref c'])/\H c'=some (ni c' qual)
def SameX(P:Addr)(H H':Hp):Prop:=∀b o,b≠P->H b=some o->H' b=some o
theorem SameX.refl(P:Addr)(H:Hp):SameX P H H:=λ_ _ _ h=>h
theorem TabOk.ne{P:Addr}{H:Hp}(t:TabOk P lpos qual H){b:Addr}(h:H b=some (.lst xs)):b≠P:=λe=>by
 subst e;rcases t with t|⟨c,t,_⟩<;>rw[h]at t<;>cases t
theorem TabOk.neT{P:Addr}{H:Hp}(t:TabOk P lpos qual H){b:Addr}(h:H b=some (.tup xs)):b≠P:=λe=>by
 subst e;rcases t with t|⟨c,t,_⟩<;>rw[h]at t<;>cases t
theorem TabOk.same{P:Addr}{H:Hp}(t:TabOk P lpos qual H)(s:Same H H1):TabOk P lpos qual H1:=by
 rcases t with t|⟨c,t,u⟩
 ·exact .inl (s _ _ t)
 ·exact .inr ⟨c,s _ _ t,s _ _ u⟩
section
variable{X:Cx}{N frs:List Str}{x:Str}{ix:List Nat}{scope:Scope}{cl:List (Str×Addr)}{A:Around}{cc P:Addr}{pins:List (Addr×Obj)}{σ:St}{H:Hp}{s:Shared}{params:Arguments}{body:Expr}{lpos:Pos}
theorem pV{P:Program}{w:World}{H:Hp}{c':Addr}(e:h.CodeRec (.ref c') qual):ObjOk P w H h c' (ni c' qual):=by
 obtain⟨c,o,vs,t,e1,e2,e3,e4⟩:=id e;cases e1;refine⟨e,⟨o,e2⟩,λh1 h2 hφ k=>?_⟩;obtain⟨c2,o2,vs2,t2,f1,f2,f3,f4⟩:=hφ;cases f1;exact⟨_,o2,vs2,t2,rfl,k _ f2,f3,f4⟩
theorem vH {M:Model}(hcl:closureFor scope X.env=pure cl) (I:Inv X pins σ H s) (hcode:X.env.code=.ref cc) (hcd:codeHdIn X.K cc P=true) (hb:X.base.BuiltinsAt X.mg P) (hdef:defaultsOf params X.env=([],[])) (T:TabOk P lpos (X.env.qual++"<lambda>") H)
  (h:∀f c' pm ctv H' s',Inv X ((f,kla_obj "<lambda>" (X.env.qual++"<lambda>") params body scope cl pm c' ctv)::pins) σ H' s'->TabOk P lpos (X.env.qual++"<lambda>") H'->SameX P H H'->H' c'=some (ni c' (X.env.qual++"<lambda>"))->Q (.ref f) s') :
  wpAny M A (eval (.Lambda params body scope lpos) X.env) Q E s:=by
 refine kla_eval hdef ?_;have hg:s.heap.Ns mainGlobals X.mg:=I.mod.glob.keeps I.bk;have C:CodeHd s.heap cc P:=codeHd_of_K I.kIn hcd;have hbs:s.heap.BuiltinsAt X.mg P:=by
  obtain⟨bm,o,b1,b2,b3,b4,b5,b6⟩:=hb;exact⟨bm,o,b1,b2,b3,b4,I.bk _ _ b5,b6⟩
 have hPL:∀ps,H P=some (.tbl ps)->P≠X.env.locals:=λps e z=>by rw[z,I.free]at e;cases e
 have hPc:∀ps,H P=some (.tbl ps)->∀x c,X.env.cells.lookup x=some c->c≠P:=λps e x c h1 z=>by rw[<-z,I.freeC x c h1]at e;cases e
 have hgP:∀ps,H P=some (.tbl ps)->mainGlobals≠P:=λps e z=>by
  obtain⟨o,es,ep,ho,_⟩:=I.mod.glob;rw[<-z,(I.bs _ _ ho).2]at e;cases e
 rcases T with T|⟨c',T,Tc⟩
 ·have hP:s.heap.get? P=some (tabObj #[]):=I.hok P _ T
  refine kla_makeFunction (mg:=X.mg) hcl I.ok.glob hg hcode C hP trivial rfl (hgP _ T) hbs λc' ctv h' tk hx hge hlt hrec htb=>?_
  have htb':h'.get? P=some (tabObj #[RJ lpos.line,RJ lpos.col,.ref c']):=htb;have nP:∀(b:Addr) (u:Obj),H b=none->b≠P:=λb u n z=>by rw[z,T]at n;cases n
  have hcP:c'≠P:=Jb (Hi (I.hok.lt T) hge);have I1:Inv X pins σ (upd H P (.tbl #[RJ lpos.line,RJ lpos.col,.ref c'])) { s with heap:=h',toks:=tk }:=by
   refine I.step (g':=s.gens) (d':=s.drawn) (ch:=[]) (λ_ z=>nomatch z) (λb o _ _ _ e n=>hx b o (nP b o n) e) (λb o _ _ _ e n=>⟨o.slots,hx b o (nP b o n) e⟩) (λb o _ e n=>by rw[ar (nP b o n)];exact n) (λb o _ e=>?_)
    (λb xs e=>?_) (λb o u e=>?_) (λb ps e=>?_) (λm hm=>?_) (λb u e=>?_) I.bare
   ·by_cases hb:b=P
    ·exact⟨_,hb▸htb'⟩
    ·exact⟨o,hx b o hb e⟩
   ·rw[ar (bw e T (by intro z;cases z))];exact e
   ·rw[ar (bw e T (by intro z;cases z))];exact e
   ·by_cases hb:b=P
    ·subst hb
     rw[T]at e;cases e;exact⟨#[RJ lpos.line,RJ lpos.col,.ref c'],by rw[af];rfl⟩
    ·exact⟨#[],by rw[ar hb,e];simp⟩
   ·obtain⟨o,es,ep,ho,r⟩:=hm
    exact⟨o,es,ep,hx _ o (Hl (hPL _ T)) ho,r⟩
   ·by_cases hb:b=P
    ·subst hb
     rw[af]at e;cases e;exact htb'
    ·rw[ar hb]at e
     refine(I.hok b u e).stay (λc v hc q=>hx c v ?_ q) (λc q=>by rw[ar (bw q T (by intro z;cases z))];exact q) λc xs q=>by rw[ar (bw q T (by intro z;cases z))];exact q
     rcases hc with z|z
     ·rw[z];exact hb
     ·exact bw z T (by intro z;cases z)
  have hcn:(upd H P (.tbl #[RJ lpos.line,RJ lpos.col,.ref c'])) c'=none:=by rw[ar hcP];exact I.hok.fresh hge
  obtain⟨q0,q1,q2,q3,q4,q5⟩:=I.fpOk (b:=c') (H':=λ_=>none) hge rfl;have I2:=I1.adopt (D:=c') (o:=ni c' (X.env.qual++"<lambda>")) hcn q1 q3 q4 q5 (pV hrec);have I3:Inv X pins σ _ { s with heap:=h'.push (kla_obj "<lambda>" (X.env.qual++"<lambda>") params body scope cl ((X.mg "__name__").getD .none) c' ctv),toks:=tk }:=I2.kept (t':=tk) λb o e=>GI _ e
  have hfn:(upd (upd H P (.tbl #[RJ lpos.line,RJ lpos.col,.ref c'])) c' (ni c' (X.env.qual++"<lambda>"))) h'.objs.size=none:=I2.hok.fresh (GJ _);obtain⟨r0,r1,r2,r3,r4,r5⟩:=I2.fpOk (b:=h'.objs.size) (H':=λ_=>none) (GJ _) rfl;have I4:=I3.pins_of (pins':=(h'.objs.size,kla_obj "<lambda>" (X.env.qual++"<lambda>") params body scope cl ((X.mg "__name__").getD .none) c' ctv)::pins) λp hp=>by
   rcases GZ.mp hp with rfl|hp
   ·exact⟨G1 _ rfl,hfn,r1,r2,λv z=>by cases z⟩
   ·exact I3.pin p (GT _ hp)
  refine h _ c' _ ctv _ _ I4 (.inr ⟨c',by rw[ar (Hl hcP),af],af⟩) (λb o hb e=>?_) af;rw[ar (λz=>by rw[z,I.hok.fresh hge]at e;cases e),ar hb];exact e
 ·have hP:s.heap.get? P=some (tabObj #[RJ lpos.line,RJ lpos.col,.ref c']):=I.hok P _ T
  refine kla_makeFunctionHit (mg:=X.mg) (cv:=.ref c') hcl I.ok.glob hg hcode C hP (show TriplesOk [_,_,_]from trivial) (codeAmong_snoc [] trivial rfl) hbs λctv h' tk hk hsz=>?_
  have I1:Inv X pins σ H { s with heap:=h',toks:=tk }:=I.kept (t':=tk) hk;have I3:Inv X pins σ H { s with heap:=h'.push (kla_obj "<lambda>" (X.env.qual++"<lambda>") params body scope cl ((X.mg "__name__").getD .none) c' ctv),toks:=tk }:=I1.kept (t':=tk) λb o e=>GI _ e
  obtain⟨r0,r1,r2,r3,r4,r5⟩:=I1.fpOk (b:=h'.objs.size) (H':=λ_=>none) (GJ _) rfl;have I4:=I3.pins_of (pins':=(h'.objs.size,kla_obj "<lambda>" (X.env.qual++"<lambda>") params body scope cl ((X.mg "__name__").getD .none) c' ctv)::pins) λp hp=>by
   rcases GZ.mp hp with rfl|hp
   ·exact⟨G1 _ rfl,I1.hok.fresh (GJ _),r1,r2,λv z=>by cases z⟩
   ·exact I3.pin p (GT _ hp)
  exact h _ c' _ ctv _ _ I4 (.inr ⟨c',T,Tc⟩) (SameX.refl _ _) Tc
def KeyR(H:Hp)(ys:List V)(lt:Nat->Nat->Bool):Prop:=
 (∃ns:List Int,ys=ns.map Q8/\lt=λi j=>decide (ns.getD i 0<ns.getD j 0))\/
 (∃(rs:List Addr) (rss:List (List Int)),ys=rs.map Rb/\rs.length=rss.length/\(∀(i:Nat) a r,rs[i]? = some a->rss[i]? = some r->H a=some (.tup (r.map Q8)))/\((∀r∈rss,r=[])\/(∀r∈rss,r≠[]))/\lt=λi j=>HT.bC (rss.getD i []) (rss.getD j []))
theorem KeyR.lt{H:Hp}{lt:Nat->Nat->Bool}(k:KeyR H ys lt):Lt lt:=by
 rcases k with⟨ns,_,rfl⟩|⟨rs,rss,_,_,_,_,rfl⟩
 ·exact HT.sd ns
 ·exact HT.BY rss
theorem KeyR.ask{lt:Nat->Nat->Bool}{ks:List Value}(k:KeyR H ys lt)(I:Inv X pins σ H s)(hu:A.units<cLine)(rv:Vals ys ks):∃κ:SortKind,
  (∀(Q:SortKind->Shared->Prop),2<=ks.length->Q κ s->wpAny (model X.prog X.w) A (keyKind' ks.toArray) Q (λ_ _=>False) s)/\
  (∀i j (Q:Bool->Shared->Prop),i<ks.length->j<ks.length->Q (lt i j) s->wpAny (model X.prog X.w) A (keyLt' κ (ks.getD i Hr) (ks.getD j Hr)) Q (λ_ _=>False) s):=by
 rcases k with⟨ns,rfl,rfl⟩|⟨rs,rss,rfl,hlen,ht,hw,rfl⟩
 ·have hi:=bG rv
  refine⟨oneType',λQ h2 hQ=>?_,λi j Q hi1 hj1 hQ=>?_⟩
  ·obtain⟨v₁,v₂,rest,rfl⟩:∃v₁ v₂ rest,ks=v₁::v₂::rest:=by
    match ks,h2 with
    | v₁::v₂::rest,_=>exact⟨v₁,v₂,rest,rfl⟩
   rw[keyKind_ints hi];exact Ri hQ
  ·obtain⟨t1,e1⟩:=HT.gL hi hi1
   obtain⟨t2,e2⟩:=HT.gL hi hj1;rw[e1,e2,keyLt'_oneType];exact oneLt_int hQ
 ·obtain rfl:=lT rv
  have hl:(rs.map Hq).length=rs.length:=GF _;have tup:∀(i:Nat) v r,(rs.map Hq)[i]? = some v->rss[i]? = some r->∃a its,v=.ref a/\IsTup s.heap a its/\Rp its.toList r:=λi v r e1 e2=>by
   rw[GK]at e1;obtain⟨a,ea,rfl⟩:=Io.mp e1;obtain⟨its,r1,hT,_⟩:=I.tuple (Q7 (ht i a r ea e2));exact⟨a,its.toArray,rfl,hT,bG r1⟩
  have get:∀i,i<(rs.map Hq).length->(rs.map Hq)[i]? = some ((rs.map Hq).getD i Hr)/\rss[i]? = some (rss.getD i []):=λi hi=>by
   have h2:i<rss.length:=by lia
   constructor
   ·rw[GG,GE hi];rfl
   ·rw[GG,GE h2];rfl
  rcases hw with hw|hw
  ·refine⟨oneType',λQ h2 hQ=>HT.vB h2 (λv hv=>?_) hQ,λi j Q hi hj hQ=>?_⟩
   ·obtain⟨i,hi,ei⟩:=Hv hv
    obtain⟨g1,g2⟩:=get i hi;obtain⟨a,its,rfl,t,ti⟩:=tup i v _ (by rw[GE hi,ei]) g2;rw[hw _ (G3 g2)]at ti;obtain⟨its'⟩:=its;cases ti;exact⟨a,rfl,t⟩
   ·obtain⟨g1,g2⟩:=get i hi
    obtain⟨k1,k2⟩:=get j hj;obtain⟨a,its,e,t,ti⟩:=tup i _ _ g1 g2;obtain⟨a',its',e',t',ti'⟩:=tup j _ _ k1 k2;rw[e,e'];exact HT.yN hu t t' ti ti' hQ
  ·refine⟨tuples' true,λQ h2 hQ=>HT.r9 h2 ⋯ tup hw hQ,λi j Q hi hj hQ=>?_⟩
   obtain⟨g1,g2⟩:=get i hi;obtain⟨k1,k2⟩:=get j hj;obtain⟨a,its,e,t,ti⟩:=tup i _ _ g1 g2;obtain⟨a',its',e',t',ti'⟩:=tup j _ _ k1 k2;rw[e,e'];exact HT.vA t t' ti ti' hQ
def yQ(te:TE)(ix:List Nat)(xs:List V)(σ:St)(H:Hp)(Q:VK):Prop:=xs.length<64/\
 ∃W:Nat->List V->Hp->Prop,W 0 [] H/\(∀i ys H x,xs[i]? = some x->W i ys H->te (sf ix σ x) H λy H'=>Same H H'/\W (i+1) (ys++[y]) H')/\
  ∀ys H,ys.length=xs.length->W xs.length ys H->∃lt,KeyR H ys lt/\∀(d:Addr) (p:List Nat),H d=none->p.Perm (GO xs.length)->p.Pairwise (Ah lt)->Q (.ref d) (upd H d (.lst (p.map λi=>xs.getD i .non)))
theorem kL:∀{xs:List V}{us:List Value},Vals xs us->∀{i:Nat}{u:Value},us[i]? = some u->∃y,xs[i]? = some y/\RelV y u
 | _,_,.nil,_,_,h=>by simp at h
 | _,_,.cons r t,0,u,h=>by cases h;exact⟨_,rfl,r⟩
 | _,_,.cons r t,i+1,u,h=>by
  obtain⟨y,e,q⟩:=kL t (i:=i) (by simpa using h);exact⟨y,by simpa using e,q⟩
theorem sh(r:Vals xs us){p:List Nat}(h:∀i∈p,i<us.length):Vals (p.map λi=>xs.getD i .non) (p.map λi=>us.getD i Hr):=by
 refine kJ λi hi=>?_
 have h1:=h i hi;obtain⟨y,e,q⟩:=kL r (GE h1);rw[GG,GG,e,GE h1];exact q
theorem si{name:Str}{ctv:Value}{te:TE}{Q:VK}{f c':Addr}(c:LamOk X N x frs ix scope cl)(hc:X.calm=true)(hroom:X.A.in1.in1.depth<recursionLimit)(hu:X.A.in1.in1.units<cLine)
  (I:Inv X ((f,kla_obj name qual params body scope cl pm c' ctv)::pins) σ H s) (hH:H c'=some (ni c' qual)) (hbind:∀u,bindArgs (kla_fn name qual params body scope cl pm (.ref c') ctv) ⟨[u],[]⟩=pure [(x,u)])
  (he:∀C s H,PE (se X N qual scope f c' cl X.A.in1.in1 C s H) body te)
  (hcol:∀(Q:List Value->Shared->Prop),(∀vs h1 tk,Vals xs vs->(∀b o,s.heap.get? b=some o->h1.get? b=some o)->Q vs { s with heap:=h1,toks:=tk })->wpAny (model X.prog X.w) X.A.in1 (collect (.ref l)) Q (λ_ _=>False) s)
  (h:yQ te ix xs σ H Q):wpAny (model X.prog X.w) X.A (call (.builtin "sorted") [.ref l] [(He "key",.ref f)]) (EP X pins σ Q) X.xe s:=by
 obtain⟨h64,W,w0,wst,wfin⟩:=h;refine HT.pU (G:=Vals xs) (λvs g=>by rw[<-g.length];exact h64) hcol λvs h1 h' tk a kS e1 g k1 k2 ha hak hkS hoA=>?_
 have hvl:vs.length=xs.length:=g.length.symm;generalize hfo:kla_obj name qual params body scope cl pm c' ctv=fo at I;have I1:Inv X ((f,fo)::pins) σ H { s with heap:=h1,toks:=tk }:=I.kept (t':=tk) k1;have I2:Inv X ((f,fo)::pins) σ H { s with heap:=h',toks:=tk }:=I1.kept (t':=tk) k2;obtain⟨_,a1,a2,a3,a4,a5⟩:=I1.fpOk (b:=a) (H':=λ_=>none) ha rfl;have hak':@LT.lt Nat _ a kS:=hak;have hk:h1.objs.size<=kS:=IU (HR ha hak');obtain⟨_,b1,b2,b3,b4,b5⟩:=I1.fpOk (b:=kS) (H':=λ_=>none) hk rfl;have hka:kS≠a:=Jb hak';have I3:Inv X ((a,seqObj "list" #[] e1)::(kS,seqObj "list" ([]:List Value).toArray 0)::(f,fo)::pins) σ H { s with heap:=h',toks:=tk }:=I2.pins_of λp hp=>by
  rcases GZ.mp hp with rfl|hp
  ·exact⟨hoA,I1.hok.fresh ha,a1,a2,λv z=>by cases z⟩
  ·rcases GZ.mp hp with rfl|hp
   ·exact⟨hkS,I1.hok.fresh hk,b1,b2,λv z=>by cases z⟩
   ·exact I2.pin p (GT _ hp)
 have old:∀{pn:List (Addr×Obj)}{H':Hp}{s':Shared}{u:Obj}{it:Addr},Inv X pn σ H' s'->H' it=none->it≠X.env.locals->(it∈X.ex\/X.s₀.heap.objs.size<=it)->(∀x c,X.env.cells.lookup x=some c->c≠it)->(∀p∈X.pn++pn,p.1≠it)->∀g:Obj->Obj,Inv X pn σ H' { s' with heap:=s'.heap.update it g }:=
  λ{pn H' s' u it} J n1 n2 n3 n4 n5 g=>J.turned (t':=s'.toks) (it:=it) (λb o hb e=>((Ji s'.heap it g).2 b hb).trans e) n1 n2 n3 n4 n5
 have pinF:∀p∈X.pn++((f,fo)::pins),p.1≠a/\p.1≠kS:=λp hp=>⟨a5 p hp,b5 p hp⟩
 refine HT.vE (λi ks s'=>∃ys H' e,Inv X ((a,seqObj "list" #[] e1)::(kS,seqObj "list" ks.toArray e)::(f,fo)::pins) σ H' s'/\Vals ys ks/\W i ys H'/\H' c'=some (ni c' qual)/\ks.length=i) ⟨[],H,0,I3,.nil,w0,hH,rfl⟩ ⋯ ?_ ?_
 ·rintro i u ks s' hu' ⟨ys,H',e,J,rv,hw,hHc,hkl⟩
  refine⟨hkl,?_⟩;obtain⟨xv,ex,rx⟩:=kL g hu';have q:=wst i ys H' xv ex hw;have hfp:=(J.pin (f,fo) (GT _ (.tail _ (.tail _ (.head _))))).1;rw[<-hfo]at hfp;have hrec:s'.heap.CodeRec (.ref c') qual:=(J.hok c' _ hHc).1;refine Ro (vG c J (show X.A.in1.in1.frames=some X.stack from J.ok.frames) (J.ok.hd hc) hroom hfp hrec (hbind u) rx he q) (λk s2 hk2=>?_) λ_ _ z=>z
  obtain⟨y,H2,J2,ry,sm,hw2⟩:=hk2;obtain⟨p1,p2,p3,p4,p5⟩:=J2.pin (kS,seqObj "list" ks.toArray e) (GT _ (.tail _ (.head _)));refine⟨e,p1,ys++[y],H2,?_⟩;have J3:Inv X ((a,seqObj "list" #[] e1)::(f,fo)::pins) σ H2 s2:=J2.pins_of λp hp=>by
   rcases GZ.mp hp with rfl|hp
   ·exact J2.pin _ (GT _ (.head _))
   ·exact J2.pin p (GT _ (.tail _ (.tail _ hp)))
  have J4:=old (u:=fo) J3 p2 b1 b3 b4 (λp hp=>by
   rcases Hc.mp hp with hp|hp
   ·exact(pinF p (Hy _ hp)).2
   ·rcases GZ.mp hp with rfl|hp
    ·exact Hl hka
    ·exact(pinF p (GT _ hp)).2) (Hn (·.push k))
  obtain⟨c2,hc2⟩:∃c2,(s2.heap.update kS (Hn (·.push k))).get? kS=some (seqObj "list" (ks.toArray.push k) c2):=⟨_,RO p1 (·.push k)⟩
  have eu:ks.toArray.push k=(ks++[k]).toArray:=by simp
  rw[eu]at hc2;refine⟨c2,J4.pins_of λp hp=>?_,rv.append (.cons ry .nil),hw2,sm _ _ hHc,by simp[hkl]⟩;rcases GZ.mp hp with rfl|hp
  ·exact J4.pin _ (GT _ (.head _))
  ·rcases GZ.mp hp with rfl|hp
   ·exact⟨hc2,p2,p3,p4,λv z=>by cases z⟩
   ·exact J4.pin p (GT _ (.tail _ hp))
 ·rintro ks s' ⟨ys,H',e,J,rv,hw,hHc,hkl⟩
  have hyl:ys.length=xs.length:=by rw[rv.length,hkl,hvl]
  rw[hvl]at hw;obtain⟨lt,hK,fin⟩:=wfin ys H' hyl hw;obtain⟨κ,ask1,ask2⟩:=hK.ask (A:=X.A.in1.in1) J hu rv;obtain⟨p1,p2,p3,p4,p5⟩:=J.pin (kS,seqObj "list" ks.toArray e) (GT _ (.tail _ (.head _)));obtain⟨r1,r2,r3,r4,r5⟩:=J.pin (a,seqObj "list" #[] e1) (GT _ (.head _));refine⟨e,p1,HT.yO hka r1 p1 hkl ⋯ hK.lt (λQ' h2 hQ=>ask1 Q' ⋯ hQ) (λi j Q' hi hj hQ=>ask2 i j Q' ⋯ ⋯ hQ) λp hp hs=>⟨rfl,?_⟩⟩;rw[hvl]at hp;have J0:Inv X pins σ H' s':=J.pins_of λp hp=>J.pin p (GT _ (.tail _ (.tail _ (.tail _ hp))))
  have hpins:∀it,(∀p∈X.pn++((f,fo)::pins),p.1≠it)->∀p∈X.pn++pins,p.1≠it:=λit hh p hp=>hh p (by
   rcases Hc.mp hp with hp|hp
   ·exact Hy _ hp
   ·exact GT _ (.tail _ hp))
  have J1:=old (u:=fo) J0 p2 b1 b3 b4 (hpins kS b5) (Hn λ_=>(#[]:Array Value));have J2:=old (u:=fo) J1 r2 a1 a3 a4 (hpins a a5) (Hn λ_=>Hs (p.map λi=>vs.getD i Hr));have oa:(s'.heap.update kS (Hn λ_=>(#[]:Array Value))).get? a=some (seqObj "list" #[] e1):=((Ji s'.heap kS _).2 a (Hl hka)).trans r1;obtain⟨c2,hc2⟩:∃c2,((s'.heap.update kS (Hn λ_=>(#[]:Array Value))).update a (Hn λ_=>Hs (p.map λi=>vs.getD i Hr))).get? a=some (seqObj "list" (Hs (p.map λi=>vs.getD i Hr)) c2):=⟨_,RO oa _⟩
  have hpl:=hp.length_eq;rw[Ic]at hpl;have J3:=J2.adopt (D:=a) (o:=.lst (p.map λi=>xs.getD i .non)) r2 a1 a3 a4 (hpins a a5) ⟨by rw[GF,hpl,Rt];lia,_,c2,sh g λi hi=>by rw[hvl];exact Hg.mp (hp.mem_iff.mp hi),hc2⟩;exact⟨.ref a,_,J3,rfl,fin a p r2 hp hs⟩
def sj(P:Addr)(lpos:Pos)(qual:Str)(ix:List Nat)(te:TE)(t:TA):TE:=λσ H Q=>t σ H λvs H1=>∃n:Nat,vs=[.int n]/\n<64/\TabOk P lpos qual H1/\∀H2,SameX P H1 H2->TabOk P lpos qual H2->yQ te ix (cJ 0 n) σ H2 Q
section
variable{te:TE}{t:TA}{p p2 pos pos2 kpos:Pos}{e a:Expr}{k:Nat}{qual:Str}
theorem BZ{Q:List Value->Shared->Prop}{lam:Expr}(h:wpAny (model X.prog X.w) X.A (eval lam X.env) (λv s'=>Q [v] s') E s):
  wpAny (model X.prog X.w) X.A (evalAll ((backToKw pos (R4 [⟨some "key",lam,kpos⟩] X.env)).map (·.2))) Q E s:=by
 show wpAny _ _ (evalAll ((do let v <-eval lam X.env;RS pos;pure v)::[])) _ _ s
 exact wpAny_evalAll_cons (Rh (Ro h (λv s' hq=>Rh (RI (Ri (wpAny_evalAll_nil hq)))) λ_ _ z=>z))
theorem sk(hr:Room k X.A):X.A.in1.in1.depth<recursionLimit/\X.A.in1.in1.units<cLine:=⟨hr.depth,by have:=hr.units;show X.A.units+1+1<_;lia⟩
theorem sq (c:LamOk X N x frs ix scope cl) (hc:X.calm=true) (hr:Room k X.A) (hg:Gl X "sorted") (hm:X.mg "sorted" = none) (hgr:Gl X "range") (hmr:X.mg "range" = none) (hcode:X.env.code=.ref cc) (hcd:codeHdIn X.K cc P=true) (hb:X.base.BuiltinsAt X.mg P) (ha:QA X [a] t)
  (he:∀A f c' C s H,QE (se X N (X.env.qual++"<lambda>") scope f c' cl A C s H) body te) (hbind:∀u pm c' ctv,bindArgs (kla_fn "<lambda>" (X.env.qual++"<lambda>") params body scope cl pm (.ref c') ctv) ⟨[u],[]⟩=pure [(x,u)])
  (hdef:defaultsOf params X.env=([],[]):=by rfl) (hn:bT a=true:=by rfl):QE X (.Call (.Name "sorted" p) [.Call (.Name "range" p2) [a] [] pos2] [⟨some "key",.Lambda params body scope lpos,kpos⟩] pos) (sj P lpos (X.env.qual++"<lambda>") ix te t):=by
 refine⟨λpins s σ H Q I h=>?_⟩;refine RA (dr I hg hm (by decide +kernel:bootBuiltins "sorted" = some (.builtin "sorted")) ?_);refine callWith_kw ?_ (by rfl) (by rfl);refine Lu (Call_ (dr I hgr hmr boot_range (HN (thn (ha.out pos2 pins s σ H _ I h) λus s1 hu=>?_) (aK hn) rfl)));obtain⟨vs,H1,I1,r1,n,rfl,hn64,T1,q⟩:=hu;obtain⟨u,rfl,ru⟩:=fg r1;obtain⟨tt,rfl⟩:=ru;refine call_range_1 (LR ?_);obtain⟨w0,w1,w2,w3,w4,w5⟩:=I1.fpOk (b:=s1.heap.objs.size) (H':=λ_=>none) (GJ _) rfl;have I1':Inv X ((s1.heap.objs.size,{ cls:=.type "range",data:=.fields #[.int 0 s1.toks,.int n tt,.int 1 (s1.toks+1)] })::pins) σ H1 { s1 with heap:=s1.heap.push { cls:=.type "range",data:=.fields #[.int 0 s1.toks,.int n tt,.int 1 (s1.toks+1)] },toks:=s1.toks+1+1 }:=by
  have K:=I1.kept (h':=s1.heap.push { cls:=.type "range",data:=.fields #[.int 0 s1.toks,.int n tt,.int 1 (s1.toks+1)] }) (t':=s1.toks+1+1) λb o e=>GI _ e
  refine K.pins_of λp hp=>?_
  rcases GZ.mp hp with rfl|hp
  ·exact⟨G1 _ rfl,I1.hok.fresh (GJ _),w1,w2,λv z=>by cases z⟩
  ·exact K.pin p (GT _ hp)
 refine BZ (vH c.clos I1' hcode hcd hb hdef T1 λf c' pm ctv H2 s2 I2 T2 sx hc2=>?_);obtain⟨g1,g2⟩:=sk hr;refine thn (si (l:=s1.heap.objs.size) (xs:=cJ 0 n) c hc g1 g2 I2 hc2 (λu=>hbind u pm c' ctv) (λC s H=>(he _ _ _ C s H).out) (λQ' hQ=>?_) (q H2 sx T2)) λv s3 hv=>?_
 ·have hrg:=(I2.pin (s1.heap.objs.size,{ cls:=.type "range",data:=.fields #[.int 0 s1.toks,.int n tt,.int 1 (s1.toks+1)] }) (GT _ (.tail _ (.head _)))).1
  refine HT.kK (n:=n) (I2.ok.hd hc) hrg (small_one ⋯ ⋯ ⋯ ⋯) (by rw[rangeSize_one];split<;>lia) ⋯ λh' tk acc k hit=>hQ _ h' tk ?_ k
  obtain⟨hz,hit⟩:=hit;refine mY (by simp[cJ,hz]) λk x w a b=>?_
  have hk':k<n:=by have:=(GM.mp a).1;simpa [cJ]using this
  unfold cJ at a;rw[GK,Ir hk']at a;obtain rfl:=G9 a;obtain⟨t2,rfl⟩:=hit k w (by simpa using b);refine⟨t2,?_⟩;rw[Oa,OM];rfl
 ·obtain⟨y,H',J,ry,hq⟩:=hv
  exact⟨y,H',J.pins_of λp hp=>J.pin p (GT _ (.tail _ hp)),ry,hq⟩
end
end
theorem sr{w:World}{K:GH}{mg mb:Str->Option Value}{CX:CXT}{fa c Pt:Addr}{fd:FuncData}{sp:Sp}{s₁:Shared}{ns:List Int}
  (KX:K.In s₁.heap) (hns:s₁.heap.Ns mainGlobals mg) (hb:s₁.heap.Ns builtinsNs mb) (hbb:∀x:Str,x≠"__name__"->mb x=bootBuiltins x) (hlim:s₁.heap.NoLimit) (hg:s₁.gens=#[])
  (hbm:∃bm ob,mg "__builtins__" = some (.ref bm)/\bm≠builtinsNs/\s₁.heap.get? bm=some ob/\ob.cls=.type "module"/\ob.dict=some builtinsNs/\ob.data=.plain)
  (hcd:CodeHd s₁.heap c Pt) (hT:s₁.heap.get? Pt=some (tabObj #[])) (hKP:K.lookup Pt=none)
  (ha:s₁.heap.get? a=some { cls:=.type "list",data:=.seq vs.toArray }) (hi:Rp vs ns) (hl:ns.length<=Rj) (hr:Room k callerA)
  (F:∀base:Heap,K.In base->base.Ns mainGlobals mg->base.BuiltinsAt mg Pt->FnOk P w K mg base CX k fa fd [x] sp) (hbind:∀(s:Shared) (u:Value),BindsTo s fd ⟨[u],[]⟩ [(x,u)])
  (hsp:∀H:Hp,H Pt=some (.tbl #[])->SqL K H a (ns.map Q8)->sp [.ref a] H (λv _=>v=.bl true) λ_ _ _=>False)
  (hCX:∀H e s',CX [] H s₁ (λ_ _ _=>False) e s'->False) :
  codeAny (model P w) callerA (.call (.ref fa) ⟨[.ref a],[]⟩) (λr s'=>r=.ok (.ret (.bool true))/\OldK s₁.heap s'.heap/\s'.os=s₁.os/\AllBare s'.gens) s₁:=by
 have rv:=ly hi;have lenV:=hi.length;have haP:a≠Pt:=λz=>by rw[z,hT]at ha;cases ha
 have core:∀H:Hp,H Pt=some (.tbl #[])->(∀b,H b=none\/b=Pt\/∃o xs,H b=some (.frz o (.lst xs)))->SqL K H a (ns.map Q8)->HOk P w H s₁.heap->(∀b,H b≠none->b=a\/b=Pt)->(H a≠none->K.lookup a=none)->
   codeAny (model P w) callerA (.call (.ref fa) ⟨[.ref a],[]⟩) (λr s'=>r=.ok (.ret (.bool true))/\OldK s₁.heap s'.heap/\s'.os=s₁.os/\AllBare s'.gens) s₁:=by
  intro H hP hO hS hok hA hK;have base_of:∀{b:Addr}{o:Obj},s₁.heap.get? b=some o->H b=none->(uo s₁.heap H).get? b=some o:=λe n=>uu e n
  have noA:∀{b:Addr}{o:Obj},s₁.heap.get? b=some o->(∀its n,o.data≠.seq its n)->(∀fs,o.data≠.fields fs)->H b=none:=λ{b o} e d1 d2=>by
   cases q:H b with
   | none=>rfl
   | some u=>
    rcases hA b (by rw[q];simp)with e'|e'
    ·subst e'
     rw[ha]at e;cases e;exact absurd rfl (d1 _ _)
    ·subst e'
     rw[hT]at e;cases e;exact absurd rfl (d2 _)
  have nsK:∀{b:Addr}{m:Str->Option Value},s₁.heap.Ns b m->(uo s₁.heap H).Ns b m:=λ{b m} ⟨o,es,ep,e,d,r⟩=>⟨o,es,ep,base_of e (noA e (λ_ _ z=>by rw[d]at z;cases z) (λ_ z=>by rw[d]at z;cases z)),d,r⟩
  have hKb:K.In (uo s₁.heap H):=λb o e=>base_of (KX b o e) (by
   cases q:H b with
   | none=>rfl
   | some u=>
    rcases hA b (by rw[q];simp)with e'|e'
    ·subst e'
     rw[hK (by rw[q];simp)]at e;cases e
    ·subst e'
     rw[hKP]at e;cases e)
  have hM:Mod K mg (uo s₁.heap H):=⟨hKb,nsK hns,⟨mb,nsK hb,hbb⟩,let⟨mc,h1,h2⟩:=hlim;⟨mc,nsK h1,h2⟩⟩;have hBA:(uo s₁.heap H).BuiltinsAt mg Pt:=by
   obtain⟨bm,ob,b1,b2,b3,b4,b5,b6⟩:=hbm;refine⟨bm,ob,b1,b2,λz=>?_,λz=>?_,base_of b3 (noA b3 (λ_ _ z=>by rw[b6]at z;cases z) (λ_ z=>by rw[b6]at z;cases z)),b4,b5,b6⟩
   ·obtain⟨o,es,ep,e,d,_⟩:=hns
    rw[z,e]at b3;cases b3;rw[d]at b6;cases b6
   ·rw[z,hT]at b3;cases b3;cases b6
  have e0:Env0 P w K mg (uo s₁.heap H) callerA [] s₁ H:=⟨rfl,hM,λb o e=>xA e,Ko (qd _ _),trivial,λb hb=>absurd (show b∈([]:List Addr)from hb) (by simp),hok,.of_eq hg⟩;refine codeAny_mono ((F _ hKb (nsK hns) hBA).run callerA [] s₁ H ⟨[.ref a],[]⟩ [.ref a] [.ref a] _ _ hr e0 (hbind s₁ (.ref a)) (.cons rfl .nil) (hsp H hP hS)) λr s' h=>?_
  cases r with
  | error e=>exact(hCX H e s' h).elim
  | ok fl=>
   cases fl with
   | next=>exact IG h
   | brk=>exact IG h
   | cont=>exact IG h
   | ret u=>
    obtain⟨v,H',os,bare,un,hok',r',q⟩:=h;have q':v=.bl true:=q;subst q';obtain rfl:u=Kx true:=r';refine⟨rfl,⟨λb o e=>?_,λb o e=>un.there b o e (by simp)⟩,os,bare⟩;cases q:H b with
    | none=>exact .inl (un.keep b o e q (by intro z;exact absurd (show b∈([]:List Addr)from z) (by simp)) (by simp))
    | some u=>
     rcases hO b with z|z|⟨ob,xs,z⟩
     ·rw[q]at z;cases z
     ·subst z
      rw[hT]at e;cases e;obtain⟨more,em⟩:=un.tbls b #[] hP;exact .inr (.inl ⟨(hcd.tab hT).isCodeTable,rfl,#[],more,rfl,hok' b _ em⟩)
     ·have z2:=un.frzs b ob _ z
      obtain⟨e1,_⟩:=hok b _ z;obtain⟨e2,_⟩:=hok' b _ z2;rw[e]at e1;cases e1;exact .inl e2
 cases hk:K.lookup a with
 | some o=>
  have e:=KX a o hk;rw[ha]at e;cases e;refine core (λb=>if b=Pt then some (.tbl #[])else none) (if_pos rfl) (λb=>?_) (.inr ⟨_,vs.toArray,_,hk,rfl,rfl,rfl,by rw[GQ,lenV];exact hl,by simpa using rv⟩) (λb u z=>?_) (λb z=>?_) (λz=>absurd (if_neg haP) z)
  ·by_cases hb:b=Pt
   ·exact .inr (.inl hb)
   ·exact .inl (if_neg hb)
  ·by_cases hb:b=Pt
   ·have z':=(if_pos hb).symm.trans z
    cases z';subst hb;exact hT
   ·have z':=(if_neg hb).symm.trans z
    cases z'
  ·by_cases hb:b=Pt
   ·exact .inr hb
   ·exact absurd (if_neg hb) z
 | none=>
  have e1:∀b,(if b=Pt then some (.tbl #[])else if b=a then some (.frz { cls:=.type "list",data:=.seq vs.toArray } (.lst (ns.map Q8)))else none:Option HO)=if b=Pt then some (.tbl #[])else if b=a then some (.frz { cls:=.type "list",data:=.seq vs.toArray } (.lst (ns.map Q8)))else none:=λb=>rfl
  have ea:(if a=Pt then some (.tbl #[])else if a=a then some (.frz { cls:=.type "list",data:=.seq vs.toArray } (.lst (ns.map Q8)))else none:Option HO)=some (.frz { cls:=.type "list",data:=.seq vs.toArray } (.lst (ns.map Q8))):=by rw[if_neg haP,if_pos rfl]
  refine core (λb=>if b=Pt then some (.tbl #[])else if b=a then some (.frz { cls:=.type "list",data:=.seq vs.toArray } (.lst (ns.map Q8)))else none) (if_pos rfl) (λb=>?_) (.inl (.inr ⟨{ cls:=.type "list",data:=.seq vs.toArray },ea⟩)) (λb u z=>?_) (λb z=>?_) (λ_=>hk)
  ·by_cases hb:b=Pt
   ·exact .inr (.inl hb)
   ·by_cases hb2:b=a
    ·exact .inr (.inr ⟨_,_,by rw[hb2];exact ea⟩)
    ·exact .inl (by show(if b=Pt then _ else _)=_;rw[if_neg hb,if_neg hb2])
  ·by_cases hb:b=Pt
   ·have z':=(if_pos hb).symm.trans z
    cases z';subst hb;exact hT
   ·by_cases hb2:b=a
    ·subst hb2
     have z':=ea.symm.trans z;cases z';exact⟨ha,by rw[GF];exact hl,vs,_,rv,ha⟩
    ·have z':(if b=Pt then some (.tbl #[])else if b=a then some (.frz { cls:=.type "list",data:=.seq vs.toArray } (.lst (ns.map Q8)))else none:Option HO)=some u:=z
     rw[if_neg hb,if_neg hb2]at z';cases z'
  ·by_cases hb:b=Pt
   ·exact .inr hb
   ·by_cases hb2:b=a
    ·exact .inl hb2
    ·exact absurd (show(if b=Pt then some (.tbl #[])else if b=a then some (.frz { cls:=.type "list",data:=.seq vs.toArray } (.lst (ns.map Q8)))else none:Option HO)=none by rw[if_neg hb,if_neg hb2]) z
theorem vI{K:GH}{Pt:Addr}(X:K.In h)(hT:h.get? Pt=some (tabObj #[]))(hK:noTabs K=true):K.lookup Pt=none:=by
 cases e:K.lookup Pt with
 | none=>rfl
 | some o=>
  have e2:=X _ _ e;rw[hT]at e2;cases e2;exact absurd (IC.mp hK _ (mem_of_lookupK e)) Ha
theorem vJ{l:Mu}{q:Program}{loose:List Str}{XP:(Str->Option Value)->Heap->Prop}{YP:World->Heap->Prop}{d:DefRec}{K:Params->GH}{CX:World->CXT}{sp:World->Addr->Sp}{Pt:Addr}
  (hn:l.most=some n) (hn2:n<=Rj) (hdf:d.params.defaults=[]) (hr:Room k callerA)
  (hY:∀(w:World) (h:Heap),YP w h->(K w.params).In h)
  (hYT:∀(w:World) (h:Heap),YP w h->h.get? Pt=some (tabObj #[])) (hnt:∀w:World,noTabs (K w.params)=true)
  (F:∀(w:World) (mg:Str->Option Value) (fa:Addr) (h:Heap),(K w.params).In h->h.Ns mainGlobals mg->mg d.name=some (.ref fa)->
   ∃fd:FuncData,(∃c,codeHdIn (K w.params) c Pt=true)/\(∀(s:Shared) (u:Value),BindsTo s fd ⟨[u],[]⟩ [(x,u)])/\
    ∀base:Heap,(K w.params).In base->base.Ns mainGlobals mg->base.BuiltinsAt mg Pt->FnOk l.prog w (K w.params) mg base (CX w) k fa fd [x] (sp w Pt))
  (hsp:∀(w:World) (H:Hp) (a:Addr) (ns:List Int),ns.length<=n->H Pt=some (.tbl #[])->SqL (K w.params) H a (ns.map Q8)->sp w Pt [.ref a] H (λv _=>v=.bl true) λ_ _ _=>False)
  (hCX:∀(w:World) (H:Hp) (s:Shared) (e:Value) (s':Shared),CX w [] H s (λ_ _ _=>False) e s'->False) :
  Pc q loose XP YP l.row.toRowW d [] (λf vs=>OI f vs):=by
 refine Att.mU hn hdf λw s₀ s₁ mg mb fa o pm cd doc a vs ns G Y ho hd hcd hmg hobj hints hlen hg=>?_
 have KX:=hY w _ Y;obtain⟨fd,⟨c,hchd⟩,hb,hF⟩:=F w mg fa _ KX G.T.g hmg;have hT:=hYT w _ Y;have hC:=codeHd_of_K KX hchd;exact sr KX G.T.g G.T.b G.T.builtins G.T.nolimit hg G.T.bmain hC hT (vI KX hT (hnt w)) hobj hints (HU hlen hn2) hr hF hb (λH hP hS=>hsp w H a ns hlen hP hS) λH e s'=>hCX w H s₁ e s'
section
variable{P:Program}{w:World}{K:GH}{mg:Str->Option Value}{base:Heap}
theorem Fun.okC{st:Stmt}{f cc:Addr}{fd:FuncData}{N ps:List Str}{sp:Sp}(F:Fun K x qual st f fd)(hcc:fd.code=.ref cc)(S:FnScope N ps (aM st))(len:∀vs H Q E,sp vs H Q E->vs.length=ps.length)
  (hbody:∀(A:Around) (outer:List Env) (s:Shared) (H:Hp) (vs:List V) (Q:VK) (E:XK),Room k (A.deeper (envOfC qual (aM st) s.heap.objs.size f (.ref cc)))->sp vs H Q E->
   ∃t,QB (uJ CX0 P w K mg base N qual (aM st) f (.ref cc) A outer s H E).nox (cU st) t/\t { nx:=λ_ H'=>Q .non H',rt:=Q } (start N vs) H):FnOk P w K mg base CX0 (k+1) f fd ps sp:=by
 obtain⟨oc,od,kV,doc,pm,an,cdv,ct,osl,rfl,lk,hcd⟩:=F.ex;have e:cdv=.ref cc:=hcc;subst e;refine AZ lk hcd S len λA outer s H vs Q E hr hsp=>?_
 obtain⟨t,h,q⟩:=hbody A outer s H vs Q E hr hsp;exact⟨t,h.out.nox,q⟩
end
section
variable{X:Cx}{o:Expr}{to:TE}{pos apos cpos:Pos}
end
end L2
namespace L2
open PySem PySem.Spec PyProof.Rows
section
variable{X:Cx}
end
section
variable{K:GH}{H:Hp}{Q:VK}
end
section
variable{H:Hp}{n w:Nat}
end
section
variable{H H1 H2:Hp}
end
section
variable{H H1:Hp}{p a:Addr}{o:HO}
end
section
variable{H H1:Hp}{x:V}{os:List Nat}{a:Addr}{xs:List V}
end
theorem Rk.tr0(h1:Rk rss c i j)(h2:Rk rss c j k):Rk rss c i k:=by
 unfold Rk at *;rcases h1 with h1|⟨e1,l1⟩
 ·rcases h2 with h2|⟨e2,l2⟩
  ·exact .inl (i0 h1 h2)
  ·rw[e2]at h1;exact .inl h1
 ·rcases h2 with h2|⟨e2,l2⟩
  ·rw[<-e1]at h2;exact .inl h2
  ·exact .inr ⟨e1.trans e2,by lia⟩
structure Seg (rss:List (List Nat)) (f l:Nat) (x:List Nat):Prop where
 perm:x.Perm (HS f (l - f))
 sort:x.Pairwise (Rk rss 0)
section
variable{rss:List (List Nat)}{f m l:Nat}{x y:List Nat}
theorem Seg.len(h:Seg rss f l x):x.length=l - f:=by have:=h.perm.length_eq;simpa using this
theorem Seg.mem(h:Seg rss f l x)(hi:i∈x):f<=i/\i<l:=by
 have:=h.perm.mem_iff.mp hi;rw[JQ]at this;lia
theorem Seg.both(hx:Seg rss f m x)(hy:Seg rss m l y)(h1:f<=m)(h2:m<=l):(x++y).Perm (HS f (l - f)):=by
 have e:HS f (l - f)=HS f (m - f)++HS m (l - m):=by
  rw[show l - f=(m - f)+(l - m)by lia,<-Nb,show f+(m - f)=m by lia]
 rw[e];exact hx.perm.append hy.perm
end
noncomputable def Part(rss:List (List Nat)):Nat->List Nat->List Nat->Prop
 | _,[],o=>o=[]
 | f,a::r,o=>∃x y,o=x++y/\x.length=a/\Seg rss f (f+a) x/\Part rss (f+a) r y
section
variable{rss:List (List Nat)}
theorem Part.len:∀{ls:List Nat}{f:Nat}{o:List Nat},Part rss f ls o->o.length=ls.sum
 | [],_,_,h=>by rw[show _=[]from h];rfl
 | a::r,f,o,⟨x,y,e,hx,_,hy⟩=>by rw[e,GY,hx,Part.len hy,IP]
theorem Part.snoc:∀{ls:List Nat}{f a:Nat}{o x:List Nat},Part rss f ls o->Seg rss (f+ls.sum) (f+ls.sum+a) x->Part rss f (ls++[a]) (o++x)
 | [],f,a,o,x,h,g=>by
  rw[show o=[]from h];exact⟨x,[],by simp,by have:=g.len;lia,by simpa using g,rfl⟩
 | b::r,f,a,o,x,⟨u,v,e,hu,hs,hv⟩,g=>by
  refine⟨u,v++x,by rw[e,HV],hu,hs,Part.snoc hv ?_⟩;rw[IP,<-Kh]at g;exact g
noncomputable def RnS(rss:List (List Nat))(n:Nat):List dJ->List Nat->Prop
 | [],o=>Seg rss 0 n o
 | s::r,o=>s.1<=s.2.1/\s.2.1<=s.2.2/\s.2.2<=o.length/\Seg rss s.1 s.2.1 ((o.drop s.1).take (s.2.1 - s.1))/\Seg rss s.2.1 s.2.2 ((o.drop s.2.1).take (s.2.2 - s.2.1))/\
  ∀x,Seg rss s.1 s.2.2 x->RnS rss n r (o.take s.1++x++o.drop s.2.2)
theorem RnS.round{rest:List dJ}(f:Nat)(ls:List Nat):∀{don pre o:List Nat},Part rss 0 don pre->don.sum=f->Part rss f ls o->(∀o',Part rss 0 (don++(rnd f ls).2) o'->RnS rss n rest o')->RnS rss n ((rnd f ls).1++rest) (pre++o):=by
 induction f,ls using rnd.induct with
 | case1 f a b r ih=>
  rintro don pre o hd hf ⟨x,o1,rfl,hx,sx,y,z,rfl,hy,sy,hz⟩ k;have hpl:pre.length=f:=by rw[hd.len,hf]
  rw[gH];have d1:(pre++(x++(y++z))).drop f=x++(y++z):=by rw[<-hpl,MU]
  have d2:(pre++(x++(y++z))).drop (f+a)=y++z:=by
   rw[<-Ky,d1,<-hx,MU]
  have d3:(pre++(x++(y++z))).drop (f+a+b)=z:=by
   rw[<-Ky,d2,<-hy,MU]
  refine⟨Ii _ _,Ii _ _,?_,?_,?_,λw sw=>?_⟩
  ·show f+a+b<=_
   simp only[GY];lia
  ·show Seg rss f (f+a) (((pre++(x++(y++z))).drop f).take (f+a - f))
   rw[d1,show f+a - f=x.length by lia,MV];exact sx
  ·show Seg rss (f+a) (f+a+b) (((pre++(x++(y++z))).drop (f+a)).take (f+a+b - (f+a)))
   rw[d2,show f+a+b - (f+a)=y.length by lia,MV];exact sy
  ·show RnS rss n _ ((pre++(x++(y++z))).take f++w++(pre++(x++(y++z))).drop (f+a+b))
   rw[d3];have t1:(pre++(x++(y++z))).take f=pre:=by rw[<-hpl,MV]
   rw[t1];refine ih (don:=don++[a+b]) (hd.snoc ?_) (by simp;lia) hz λo' ho'=>?_
   ·rw[hf,Lh,show f+(a+b)=f+a+b by lia];exact sw
   ·refine k o' ?_
    rw[gH];rw[HV]at ho';exact ho'
 | case2 f a=>
  rintro don pre o hd hf ⟨x,o1,rfl,hx,sx,rfl⟩ k;rw[gI,La,IB];refine k _ ?_;rw[gI];refine hd.snoc ?_;rw[hf,Lh];exact sx
 | case3 f=>
  rintro don pre o hd hf ho k;rw[show o=[]from ho,d7,La,IB];refine k _ ?_;rw[d7,IB];exact hd
theorem RnS.all:∀(m:Nat) (ls:List Nat){o:List Nat},ls.length<=m->Part rss 0 ls o->RnS rss ls.sum (gJ ls) o
 | 0,ls,o,h,p=>by
  have:ls=[]:=HZ.mp ⋯;subst this;rw[gc (by simp),show o=[]from p];exact⟨IX _,Jq⟩
 | m+1,ls,o,h,p=>by
  by_cases g:1<ls.length
  ·obtain⟨l1,l2⟩:=i8 0 ls
   rw[ja g];have:=RnS.round (rss:=rss) (n:=ls.sum) (rest:=gJ (rnd 0 ls).2) 0 ls (don:=[]) (pre:=[]) (o:=o) rfl rfl p λo' ho'=>by
    have:=RnS.all m (rnd 0 ls).2 ⋯ ho';rw[rV]at this;exact this
   simpa using this
  ·rw[gc g]
   match ls,p with
   | [],p=>rw[show o=[]from p];exact⟨IX _,Jq⟩
   | [a],⟨x,y,e,hx,sx,hy⟩=>
    rw[show y=[]from hy,IB]at e;subst e;show Seg rss 0 _ _
    simpa using sx
   | a::b::r,_=>exact absurd (by simp) g
def Rise(rss:List (List Nat))(f a:Nat):Prop:=∀i,f<=i->i+1<f+a->brk rss (i+1)=false
theorem Rise.seg{f a:Nat}(h:Rise rss f a):Seg rss f (f+a) (HS f a):=by
 refine⟨by rw[show f+a - f=a by lia],?_⟩;have step:∀i,f<=i->i+1<f+a->Rk rss 0 i (i+1):=λi h1 h2=>by
  have:=h i h1 h2;unfold brk at this;rw[Kv]at this;unfold Rk;rw[Ht,Ht];rcases gC (rss.getD i []) (rss.getD (i+1) [])with q|q|q
  ·exact .inl q
  ·exact .inr ⟨q,by lia⟩
  ·rw[q]at this;cases this
 have far:∀d i,f<=i->i+d+1<f+a->Rk rss 0 i (i+d+1):=λd=>by
  induction d with
  | zero=>exact λi h1 h2=>step i h1 h2
  | succ d ih=>exact λi h1 h2=>(ih i h1 ⋯).tr0 (step (i+d+1) ⋯ ⋯)
 rw[G7];intro i j hi hj hij;simp only[NH]at hi hj;simp only[Nj,Ql];have:=far (j - i - 1) (f+i) ⋯ ⋯;rw[show f+i+(j - i - 1)+1=f+j by lia]at this;exact this
noncomputable def Rises(rss:List (List Nat)):Nat->List Nat->Prop
 | _,[]=>True
 | f,a::r=>Rise rss f a/\Rises rss (f+a) r
theorem Rises.snoc:∀{ls:List Nat}{f a:Nat},Rises rss f (ls++[a])↔Rises rss f ls/\Rise rss (f+ls.sum) a
 | [],f,a=>by simp[Rises]
 | b::r,f,a=>by
  rw[Me];show(Rise rss f b/\Rises rss (f+b) (r++[a]))↔(Rise rss f b/\Rises rss (f+b) r)/\Rise rss (f+(b::r).sum) a
  rw[Rises.snoc,IP,<-Kh,and_assoc]
theorem lV(rss:List (List Nat)):∀m,Rises rss 0 (bP rss m)
 | 0=>GR
 | m+1=>by
  have ih:=lV rss m;rw[bP];split
  ·rename_i h
   obtain⟨m',rfl⟩:∃m',m=m'+1:=⟨m - 1,by lia⟩
   obtain⟨ys,a,e⟩:=nc (jb rss m');have hs:=gg rss (m'+1);rw[e]at ih hs;rw[e,gf];rw[Rises.snoc]at ih ⊢;refine⟨ih.1,λi h1 h2=>?_⟩;simp at hs;by_cases g:i+1<0+ys.sum+a
   ·exact ih.2 i h1 g
   ·rw[show i+1=m'+1 by lia];exact h.2
  ·rw[Rises.snoc]
   exact⟨ih,λi h1 h2=>by lia⟩
theorem Rises.part:∀{ls:List Nat}{f:Nat},Rises rss f ls->Part rss f ls (HS f ls.sum)
 | [],_,_=>rfl
 | a::r,f,⟨h1,h2⟩=>⟨HS f a,HS (f+a) r.sum,by rw[IP,<-Nb],by simp,h1.seg,Rises.part h2⟩
theorem pW(rss:List (List Nat))(n:Nat):Part rss 0 (bP rss n) (GO n):=by
 have:=(lV rss n).part;rw[gg,<-Ju]at this;exact this
theorem vK(rss:List (List Nat))(n:Nat):RnS rss n (gJ (bP rss n)) (GO n):=by
 have:=RnS.all _ (bP rss n) (GJ _) (pW rss n);rw[gg]at this;exact this
end
inductive Mgd (r1 r2:List (List Nat)):Nat->Nat->List (Nat×Nat)->Prop where
 | nil:Mgd r1 r2 0 0 []
 | one {i j:Nat}{ws:List (Nat×Nat)}(h:Mgd r1 r2 i j ws) (hi:i<r1.length) (c:j=r2.length\/lxt (r2.getD j []) (r1.getD i [])=false):Mgd r1 r2 (i+1) j (ws++[(0,i)])
 | two {i j:Nat}{ws:List (Nat×Nat)}(h:Mgd r1 r2 i j ws) (hj:j<r2.length) (c:i=r1.length\/lxt (r2.getD j []) (r1.getD i [])=true):Mgd r1 r2 i (j+1) (ws++[(1,j)])
noncomputable def kZ(xs ys:List Nat)(w:Nat×Nat):Nat:=if w.1=0 then xs.getD w.2 0 else ys.getD w.2 0
theorem kM{xs:List Nat}(h:xs.Pairwise (Rk rss 0))(hik:i<k)(hk:k<xs.length):Rk rss 0 (xs.getD i 0) (xs.getD k 0):=by
 rw[G7]at h;have:=h i k ⋯ hk hik;rw[GG,GG,GE (by lia:i<xs.length),GE hk];exact this
theorem gh{xs:List Nat}(h:i<xs.length):(xs.map λx=>rss.getD x []).getD i []=rss.getD (xs.getD i 0) []:=by
 rw[GG,GK,GG (l:=xs),GE h];rfl
theorem lW{xs:List Nat}(h:i<xs.length):xs.getD i 0∈xs:=by
 rw[GG,GE h];exact GV h
theorem jV{xs:List Nat}(h:i<xs.length):xs.take (i+1)=xs.take i++[xs.getD i 0]:=by
 rw[G4,GG,GE h];rfl
theorem Mgd.inv{xs ys:List Nat}{f l:Nat}{ws:List (Nat×Nat)}(hx:Seg rss f m xs)(hy:Seg rss m l ys)
  (h:Mgd (xs.map λx=>rss.getD x []) (ys.map λx=>rss.getD x []) i j ws):i<=xs.length/\j<=ys.length/\(ws.map (kZ xs ys)).Perm (xs.take i++ys.take j)/\(ws.map (kZ xs ys)).Pairwise (Rk rss 0)/\
   ∀z∈ws.map (kZ xs ys),(∀k,i<=k->k<xs.length->Rk rss 0 z (xs.getD k 0))/\(∀k,j<=k->k<ys.length->Rk rss 0 z (ys.getD k 0)):=by
 induction h with
 | nil=>exact⟨GW _,GW _,by simp,Jq,λz hz=>nomatch hz⟩
 | @one i j ws h hi c ih=>
  obtain⟨h1,h2,h3,h4,h5⟩:=ih;rw[GF]at hi c;have ez:(ws++[(0,i)]).map (kZ xs ys)=ws.map (kZ xs ys)++[xs.getD i 0]:=by rw[GP];rfl
  have ryj:j<ys.length->Rk rss 0 (xs.getD i 0) (ys.getD j 0):=λhj=>by
   rcases c with c|c
   ·lia
   ·rw[gh hj,gh hi]at c
    unfold Rk;rw[Ht,Ht];rcases gC (rss.getD (xs.getD i 0) []) (rss.getD (ys.getD j 0) [])with q|q|q
    ·exact .inl q
    ·exact .inr ⟨q,by have a:=hx.mem (lW hi);have b:=hy.mem (lW hj);lia⟩
    ·rw[q]at c;cases c
  rw[ez];refine⟨hi,h2,?_,?_,λz hz=>?_⟩
  ·rw[jV hi]
   refine(h3.append_right [xs.getD i 0]).trans ?_;rw[HV,HV];exact MS _ JX
  ·rw[Hz]
   exact⟨h4,IS _ _,λa ha b hb=>by rw[G0.mp hb];exact(h5 a ha).1 i (GJ _) hi⟩
  ·rcases Hc.mp hz with hz|hz
   ·exact⟨λk a b=>(h5 z hz).1 k ⋯ b,(h5 z hz).2⟩
   ·rw[G0.mp hz]
    refine⟨λk a b=>kM hx.sort ⋯ b,λk a b=>?_⟩;have:=ryj ⋯;rcases Jf j k with g|g
    ·exact this.tr0 (kM hy.sort g b)
    ·rw[show k=j by lia];exact this
 | @two i j ws h hj c ih=>
  obtain⟨h1,h2,h3,h4,h5⟩:=ih;rw[GF]at hj c;have ez:(ws++[(1,j)]).map (kZ xs ys)=ws.map (kZ xs ys)++[ys.getD j 0]:=by rw[GP];rfl
  have rxi:i<xs.length->Rk rss 0 (ys.getD j 0) (xs.getD i 0):=λhi=>by
   rcases c with c|c
   ·lia
   ·rw[gh hj,gh hi]at c
    exact .inl (by rw[Ht,Ht];exact c)
  rw[ez];refine⟨h1,hj,?_,?_,λz hz=>?_⟩
  ·rw[jV hj,<-HV]
   exact h3.append_right _
  ·rw[Hz]
   exact⟨h4,IS _ _,λa ha b hb=>by rw[G0.mp hb];exact(h5 a ha).2 j (GJ _) hj⟩
  ·rcases Hc.mp hz with hz|hz
   ·exact⟨(h5 z hz).1,λk a b=>(h5 z hz).2 k ⋯ b⟩
   ·rw[G0.mp hz]
    refine⟨λk a b=>?_,λk a b=>kM hy.sort ⋯ b⟩;have:=rxi ⋯;rcases Jf i k with g|g
    ·exact this.tr0 (kM hx.sort g b)
    ·rw[show k=i by lia];exact this
theorem Mgd.seg{xs ys:List Nat}{f l:Nat}{ws:List (Nat×Nat)}(hx:Seg rss f m xs)(hy:Seg rss m l ys)(h1:f<=m)(h2:m<=l)
  (h:Mgd (xs.map λx=>rss.getD x []) (ys.map λx=>rss.getD x []) xs.length ys.length ws):Seg rss f l (ws.map (kZ xs ys)):=by
 obtain⟨_,_,p,s,_⟩:=h.inv hx hy;rw[Oy,Oy]at p;exact⟨p.trans (hx.both hy h1 h2),s⟩
section
variable{X:Cx}{pos:Pos}
end
section
variable{X:Cx}{tg a b c:Expr}{t:TA}{p pos:Pos}
end
end L2
namespace HT
open PySem PyProof.Rows PySem.W L2
section
variable{α β:Type}
end
end HT
namespace L2
open PySem PySem.Spec PyProof.Rows
section
variable{X:Cx}{pins:List (Addr×Obj)}{σ:St}{H:Hp}{s:Shared}{h':Heap}
end
noncomputable abbrev TEX:=St->Hp->VK->(Addr->Option Addr->Hp->Prop)->Prop
section
variable{X:Cx}{st:Stmt}{sts s1 s2:List Stmt}{T1 T2:TX}{c e:Expr}{es:List Expr}{tA:TT}{te:TE}{t:TA}{pos p:Pos}{x:Str}{i:Nat}
variable{tx:TEX}
end
section
variable{X:Cx}{pins:List (Addr×Obj)}{σ:St}{H:Hp}{s:Shared}{h':Heap}
end
section
variable{P:Program}{w:World}{K:GH}{mg:Str->Option Value}{base:Heap}
end
end L2
namespace L2
open PySem PySem.Spec PyProof.Rows PySem.W
section
variable{prog:Program}{w:World}{A:Around}{E:Value->Shared->Prop}{h:Heap}{g:Array GenState}{d:Drawn}{t:Nat}{os:OsState}{K:Frag}{a C:Addr}{o:Obj}{vs:Array Value}
end
section
variable{X:Cx}
end
section
variable{X:Cx}{e:Expr}{es:List Expr}{t:TA}{np cpos pos p:Pos}{x:Str}{C:Addr}
end
section
variable{X:Cx}{pins:List (Addr×Obj)}{σ:St}{H:Hp}{s:Shared}
end
section
variable{X:Cx}{body suite:List Stmt}{b0:Stmt}{tb:TX}{ts:TS}{n x:Str}{i:Nat}{C:Addr}{np hpos pos:Pos}
end
end L2
namespace L2
open PySem PySem.Spec PyProof.Rows
section
variable{X:Cx}{v:Expr}{te:TE}{a b:Str}{p1 p2 p3 pos:Pos}{j1 j3:Nat}
end
section
variable{D:Ends}{Ex:XW}{σ:St}{H:Hp}{Q:VK}{K:GH}{i:Nat}{C:Addr}
end
section
variable{X:Cx}
end
section
variable{H H1:Hp}{x:V}{n:Nat}
end
end L2
namespace HT
open PySem PyProof.Rows PySem.W L2
noncomputable def lt2(k m:List Int×List Int):Bool:=if k.1=m.1 then bC k.2 m.2 else bC k.1 m.1
theorem gi:∀(a b:List Int),bC a b=false->bC b a=false->a=b
 | [],[],_,_=>rfl
 | [],y::b,h,_=>by cases h
 | x::a,[],_,h=>by cases h
 | x::a,y::b,h1,h2=>by
  rw[bt]at h1 h2;by_cases g:x=y
  ·subst g
   rw[if_pos rfl]at h1 h2;rw[gi a b h1 h2]
  ·rw[if_neg g]at h1
   rw[if_neg (Hl g)]at h2;have:=of_decide_eq_false h1;have:=of_decide_eq_false h2;lia
theorem vL(a b:List Int×List Int)(h:lt2 a b=true):lt2 b a=false:=by
 unfold lt2 at *;by_cases g:a.1=b.1
 ·rw[if_pos g]at h
  rw[if_pos g.symm];exact gK _ _ h
 ·rw[if_neg g]at h
  rw[if_neg (Hl g)];exact gK _ _ h
theorem yR(a b c:List Int×List Int)(h1:lt2 a b=false)(h2:lt2 b c=false):lt2 a c=false:=by
 obtain⟨a1,a2⟩:=a;obtain⟨b1,b2⟩:=b;obtain⟨c1,c2⟩:=c;unfold lt2 at *;dsimp only at *;by_cases g:a1=b1
 ·subst g
  rw[if_pos rfl]at h1;by_cases g':a1=c1
  ·rw[if_pos g']at h2 ⊢
   exact jd _ _ _ h1 h2
  ·rw[if_neg g']at h2 ⊢
   exact h2
 ·rw[if_neg g]at h1
  by_cases g':b1=c1
  ·subst g'
   rw[if_neg g];exact h1
  ·rw[if_neg g']at h2
   have h3:=jd _ _ _ h1 h2;by_cases g2:a1=c1
   ·subst g2
    exact absurd (gi _ _ h1 h2) g
   ·rw[if_neg g2];exact h3
theorem kN(prog:Program)(w:World):∀{xs:List Value}{ns:List Int},Rp xs ns->ItemsAre (intKind prog w) ns xs
 | _,_,.nil=>.nil
 | _,_,.cons n t r=>.cons (by simp[intKind,Qc]) (kN prog w r)
section
variable{prog:Program}{w:World}{A:Around}{E:Value->Shared->Prop}{s:Shared}
end
end HT
namespace L2
open PySem PySem.Spec PyProof.Rows
section
variable{X:Cx}
end
section
variable{X:Cx}{o e value:Expr}{es:List Expr}{f m x:Str}{pos pos' tpos apos p:Pos}{ta tv:TE}{t:TA}{C g:Addr}{CX:CXT}{k:Nat}{fd:FuncData}{ps:List Str}{sp:Sp}{E:XK}
theorem cL{K:GH}(he:QE X e ta)(hb:Rw e f X.env (eval e X.env)=eval e X.env:=by rfl)(hK:X.K=K:=by rfl):QE X (.Attribute e f pos) (DO K ta f):=by
 subst hK;exact⟨AU he.out hb⟩
theorem jW{K:GH}(ha:QE X o ta)(hv:QE X value tv)(hs:RT value (some (.Attribute o f pos')) pos.line X.env=pure false:=by rfl)(hK:X.K=K:=by rfl):QS X (.Assign [.Attribute o f pos'] value pos) (DP K ta tv f):=by
 subst hK;exact⟨AV ha.out hv.out hs⟩
theorem su{K:GH}{op:Operator}{rd:R2}(ha:QE X o ta)(hv:QE X value tv)(ho:QOp X (R0 op) rd)(hK:X.K=K:=by rfl):QS X (.AugAssign (.Attribute o f tpos) op value pos) (mO K ta tv rd f):=by
 subst hK;exact⟨qy ha.out hv.out ho.out⟩
theorem nj{pl:Sem Bool}(he:QE X o ta)(c:Cls X.K C)(hm:Meth X.K C m g)(F:FnOk X.prog X.w X.K X.mg X.base CX k g fd ps sp)(hr:Room k X.A)(hb:Binds X.K fd ps [])(hx:dc CX X E)(ha:QA X (e::es) t)
  (hst:Rl (e::es) X.env=(false,eval e X.env)::Rl es X.env:=by rfl) (hpl:(RU pos (Rl es X.env)).any (·.1)=false:=by rfl)
  (ht:eval (.Call (.Attribute o m apos) (e::es) [] pos) X.env=(do
   let ov <-eval o X.env
   RS apos.atName
   let(q,first) <-RB [ov] (getMethod ov m pl)
   callWith pos q first (RU pos (Rl (e::es) X.env)) (backToKw pos (R4 [] X.env))):=by rfl) :
  QE X (.Call (.Attribute o m apos) (e::es) [] pos) (qB C m sp [] E ta t):=⟨yf (pl:=pl) he.out c hm F hr hb .nil hx ha.out hst hpl ht⟩
theorem gj{pl:Sem Bool}(he:QE X o ta)(c:Cls X.K C)(hm:Meth X.K C m g)(F:FnOk X.prog X.w X.K X.mg X.base CX k g fd ps sp)(hr:Room k X.A)(hb:Binds X.K fd ps [])(hx:dc CX X E)
  (ht:eval (.Call (.Attribute o m apos) [] [] pos) X.env=(do
   let ov <-eval o X.env
   RS apos.atName
   let(q,first) <-RB [ov] (getMethod ov m pl)
   callWith pos q first (RU pos (Rl [] X.env)) (backToKw pos (R4 [] X.env))):=by rfl) :
  QE X (.Call (.Attribute o m apos) [] [] pos) (qB C m sp [] E ta wO):=⟨uH (pl:=pl) he.out c hm F hr hb .nil hx ht⟩
theorem yS(M:Mk X.K C g)(F:FnOk X.prog X.w X.K X.mg X.base CX k g fd ps sp)(hr:Room (k+1) X.A)(hg:Gl X x)(hm:X.mg x=some (.ref C))(hb:Binds X.K fd ps [])(hx:dc CX X E)
  (ha:QA X (e::es) t) (hdb:(x == ("__debug__" : Str))=false:=by decide) (he:Rl (e::es) X.env=(false,eval e X.env)::Rl es X.env:=by rfl) (hpl:(RU pos (Rl es X.env)).any (·.1)=false:=by rfl) :
  QE X (.Call (.Name x p) (e::es) [] pos) (qC C sp [] E t):=⟨yg M F hr hg hm hb .nil hx ha.out hdb he hpl⟩
theorem vM(M:Mk X.K C g)(F:FnOk X.prog X.w X.K X.mg X.base CX k g fd ps sp)(hr:Room (k+1) X.A)(hg:Gl X x)(hm:X.mg x=some (.ref C))(hb:Binds X.K fd ps [])(hx:dc CX X E)
  (hdb:(x == ("__debug__" : Str))=false:=by decide):QE X (.Call (.Name x p) [] [] pos) (qC C sp [] E wO):=⟨uI M F hr hg hm hb .nil hx hdb⟩
end
section
variable{K:GH}{σ:St}{H:Hp}{Q:VK}{D:Ends}{ta tv:TE}{t:TA}{f m:Str}{C:Addr}{sp:Sp}{E:XK}{a dx:Addr}{fs:List (Str×V)}{v:V}
theorem FJ(h:ta σ H λx H1=>∃a C dx fs v,x=.ref a/\H1 a=some (.ins C dx fs)/\Cls K C/\NoAttr K C f/\fs.lookup f=some v/\Q v H1):DO K ta f σ H Q:=h
theorem ED(h:tv σ H λy H1=>ta σ H1 λx H2=>∃a C dx fs,x=.ref a/\H2 a=some (.ins C dx fs)/\Cls K C/\NoAttr K C f/\fs.length<1000/\D.nx σ (upd H2 a (.ins C dx (dA f y fs)))):DP K ta tv f D σ H:=h
theorem zZ {rd:R2}(h:ta σ H λx H1=>∃a C dx fs v,x=.ref a/\H1 a=some (.ins C dx fs)/\Cls K C/\NoAttr K C f/\fs.lookup f=some v/\
 tv σ H1 λy H2=>rd v y H2 λz H3=>∃dx' fs',H3 a=some (.ins C dx' fs')/\fs'.length<1000/\D.nx σ (upd H3 a (.ins C dx' (dA f z fs')))):mO K ta tv rd f D σ H:=h
theorem EE(h:ta σ H λx H1=>∃a dx fs,x=.ref a/\H1 a=some (.ins C dx fs)/\fs.lookup m=none/\t σ H1 λvs H2=>sp (x::(vs++[])) H2 Q E):qB C m sp [] E ta t σ H Q:=h
theorem EF(h:t σ H λvs H1=>∀x dx,H1 x=none->H1 dx=none->dx≠x->sp (.ref x::(vs++[])) (upd (upd H1 dx (.own x)) x (.ins C dx [])) (λv H2=>v=.non/\Q (.ref x) H2) E):qC C sp [] E t σ H Q:=h
end
def sv(x:V)(d:PyData):Prop:=(x=.non/\d=.none)\/(∃b,x=.bl b/\d=.bool b)\/(∃i:Int,x=.int i/\d=.int i)\/(∃y,x=.str y/\d=.str y/\Mf y=true)
noncomputable def DatE:Nat->Hp->V->PyData->Prop
 | 0,_,x,d=>sv x d
 | n+1,H,x,d=>sv x d\/(∃a xs ds,x=.ref a/\d=.list ds/\H a=some (.lst xs)/\xs.length=ds.length/\∀(i:Nat) u e,xs[i]? = some u->ds[i]? = some e->DatE n H u e)\/
  (∃a xs ds,x=.ref a/\d=.tuple ds/\H a=some (.tup xs)/\xs.length=ds.length/\∀(i:Nat) u e,xs[i]? = some u->ds[i]? = some e->DatE n H u e)
theorem DatE.leaf{H:Hp}{x:V}{d:PyData}(h:sv x d):∀{n:Nat},DatE n H x d
 | 0=>h
 | n+1=>.inl h
theorem DatE.int{H:Hp}{n:Nat}(i:Int):DatE n H (.int i) (.int i):=DatE.leaf (.inr (.inr (.inl ⟨i,rfl,rfl⟩)))
theorem DatE.str{H:Hp}{n:Nat}{y:Str}(h:Mf y=true):DatE n H (.str y) (.str y):=DatE.leaf (.inr (.inr (.inr ⟨y,rfl,rfl,h⟩)))
theorem DatE.tup{H:Hp}{n:Nat}{a:Addr}{xs:List V}{ds:List PyData}(e:H a=some (.tup xs))(hl:xs.length=ds.length)(h:∀(i:Nat) u e,xs[i]? = some u->ds[i]? = some e->DatE n H u e):DatE (n+1) H (.ref a) (.tuple ds):=
 .inr (.inr ⟨a,xs,ds,rfl,rfl,e,hl,h⟩)
theorem DatE.facts{H:Hp}:∀{n:Nat}{x:V}{d:PyData},DatE n H x d->d.canLay0=true/\d.depth<=n
 | n,x,d,h=>by
  have hint:sv x d->d.canLay0=true/\d.depth<=n:=by
   rintro(⟨rfl,rfl⟩|⟨b,rfl,rfl⟩|⟨i,rfl,rfl⟩|⟨y,rfl,rfl,hy⟩)
   ·exact⟨rfl,GW _⟩
   ·exact⟨rfl,GW _⟩
   ·exact⟨rfl,GW _⟩
   ·exact⟨hy,GW _⟩
  match n,h with
  | 0,h=>exact hint h
  | n+1,h=>
   rcases h with h|⟨a,xs,ds,rfl,rfl,ha,hl,hi⟩|⟨a,xs,ds,rfl,rfl,ha,hl,hi⟩
   ·exact hint h
   ·have hd:∀d∈ds,d.canLay0=true/\d.depth<=n:=λd hd=>by
     obtain⟨i,e⟩:=Ka hd;have hlt:=bj e;exact DatE.facts (hi i (xs[i]'⋯) d (GE _) e)
    exact⟨rN (P:=OZ) (PA:=N2) rfl (λ_ _=>rfl) λd h=>(hd d h).1,J8 (fF λd h=>(hd d h).2)⟩
   ·have hd:∀d∈ds,d.canLay0=true/\d.depth<=n:=λd hd=>by
     obtain⟨i,e⟩:=Ka hd;have hlt:=bj e;exact DatE.facts (hi i (xs[i]'⋯) d (GE _) e)
    exact⟨rN (P:=OZ) (PA:=N2) rfl (λ_ _=>rfl) λd h=>(hd d h).1,J8 (fF λd h=>(hd d h).2)⟩
section
variable{X:Cx}{pins:List (Addr×Obj)}{σ:St}{H:Hp}{s:Shared}
theorem DatE.reads(I:Inv X pins σ H s):∀{n:Nat}{x:V}{d:PyData}{v:Value},DatE n H x d->RelV x v->∃as,Reads s.heap v d as
 | n,x,d,v,h,r=>by
  have hint:sv x d->∃as,Reads s.heap v d as:=by
   rintro(⟨rfl,rfl⟩|⟨b,rfl,rfl⟩|⟨i,rfl,rfl⟩|⟨y,rfl,rfl,_⟩)
   ·cases r;exact⟨_,.none⟩
   ·cases r;exact⟨_,.bool b⟩
   ·obtain⟨t,rfl⟩:=r;exact⟨_,.int i t⟩
   ·obtain⟨t,rfl⟩:=r;exact⟨_,.str y t⟩
  match n,h with
  | 0,h=>exact hint h
  | n+1,h=>
   rcases h with h|⟨a,xs,ds,rfl,rfl,ha,hl,hi⟩|⟨a,xs,ds,rfl,rfl,ha,hl,hi⟩
   ·exact hint h
   ·cases r
    obtain⟨its,m,rv,ho,hz⟩:=I.lst ha;obtain⟨as,h1⟩:=fG (R:=DatE n H) (λx v d h r=>DatE.reads I h r) rv hl hi;exact⟨_,.list ho rfl rfl (by simpa using h1)⟩
   ·cases r
    obtain⟨its,rv,⟨ob,ho,hc,m,hd⟩,hz⟩:=I.tuple (Q7 ha);obtain⟨as,h1⟩:=fG (R:=DatE n H) (λx v d h r=>DatE.reads I h r) rv hl hi;exact⟨_,.tuple ho hc hd (by simpa using h1)⟩
def Gm:R2:=λx y H Q=>∃(n:Nat) (d e:PyData),DatE n H x d/\DatE n H y e/\n<=32/\Q (.bl (OR d e)) H
theorem EG(hu:X.A.units+64<cLine):QOp X (Rm .Eq) Gm:=by
 refine⟨λpins s σ H x y v u Q I rx ry h=>?_⟩;obtain⟨n,d,e,hd,he,hn,q⟩:=h;obtain⟨as,r1⟩:=hd.reads I rx;obtain⟨bs,r2⟩:=he.reads I ry;have f1:=hd.facts;have f2:=he.facts;exact O8 r1 r2 f1.1 f2.1 (by have:=Nat.min_le_left d.depth e.depth;have:=f1.2;lia) ⟨.bl _,H,I,rfl,q⟩
end
section
variable{H:Hp}{Q:VK}{x y:V}{n:Nat}{d e:PyData}
end
end L2
namespace HT
open PySem PyProof.Rows PySem.W L2
section
variable{prog:Program}{w:World}{A:Around}{E:Value->Shared->Prop}{s:Shared}
end
end HT
namespace L2
open PySem PySem.Spec PyProof.Rows PySem.W
section
variable{X:Cx}{e:Expr}{t:TA}{p pos kpos cp:Pos}{k:Nat}{j:Nat}
theorem B0{s:Shared}{Q:List Value->Shared->Prop}{a:Expr}(h:wpAny (model X.prog X.w) X.A (eval a X.env) (λv s'=>Q [v] s') E s):
  wpAny (model X.prog X.w) X.A (evalAll ((backToKw pos (R4 [⟨some x,a,kpos⟩] X.env)).map (·.2))) Q E s:=by
 show wpAny _ _ (evalAll ((do let v <-eval a X.env;RS pos;pure v)::[])) _ _ s
 exact wpAny_evalAll_cons (Rh (Ro h (λv s' hq=>Rh (RI (Ri (wpAny_evalAll_nil hq)))) λ_ _ z=>z))
end
end L2
namespace L2
open PySem PySem.Spec PyProof.Rows
theorem kO{α:Type}{xs:List α}{x d:α}(h:i<xs.length):(xs.set i x).getD i d=x:=by
 rw[GG,KJ h];rfl
theorem fI{α:Type}{xs:List α}{x d:α}(h:i≠j):(xs.set i x).getD j d=xs.getD j d:=by
 rw[GG,K1 h,GG]
section
variable{qs:List (Nat×Nat)}{b:Nat}{st:HW}
end
section
variable{qs:List (Nat×Nat)}{b:Nat}{st:HW}
end
def B3:R2:=λx y H Q=>y=.non/\Q (.bl (!decide (x=.non))) H
theorem B4:QOp X (Rm .IsNot) B3:=⟨xW⟩
theorem C7{H:Hp}{Q:VK}{x:V}(h:Q (.bl (!decide (x=.non))) H):B3 x .non H Q:=⟨rfl,h⟩
theorem je{f g:Str}(v x:V)(r:List (Str×V))(h:¬g=f):dA f v ((g,x)::r)=(g,x)::dA f v r:=by rw[dA,if_neg h]
theorem nk{f:Str}{r:List (Str×V)}:Ik f ((f,v)::r)=some v:=by simp[Ik]
theorem eZ{f g:Str}{r:List (Str×V)}(h:¬f=g):Ik f ((g,v)::r)=Ik f r:=by
 have:(f == g)=false:=by simpa using h
 simp[Ik,this]
section
variable(pa:Addr)(hv v:V)(ma ea:Addr)(n m:Int)
end
section
variable{C:Addr}{H H1:Hp}{w pa ma ea:Addr}{vs:List V}{hv:V}{st:HW}
end
theorem kP(f:Str)(v:V):∀fs:List (Str×V),(dA f v fs).length<=fs.length+1
 | []=>GJ _
 | (g,x)::r=>by
  rw[dA];have:=kP f v r;split<;>simp<;>lia
end L2
namespace HT
open PySem PyProof.Rows PySem.W L2
theorem oO(A:Around)(s:Shared)(a:Int)(t:Tok)(c:Int)(u:Tok)(prog:Program)(w:World)(E:Value->Shared->Prop)(Q:Value->Shared->Prop)(h:Q (.bool (decide (c<a))) s):
  wpAny (model prog w) A (R7 .Gt (.int a t) (.int c u)) Q E s:=
 (Qx h:wpAny (model prog w) A (Rm .Gt (.int a t) (.int c u)) Q E s)
section
open PySem.SeqAt
open PySem.AutoSeq1 (wpAny_loadPart')
open PySem.MeetsSeq PySem.MeetsSeq2 PySem.MeetsSeq3
theorem nr(x y:Int)(xs ys:List Int):bC (x::xs) (y::ys)=if y=x then bC xs ys else decide (x<y):=by
 rw[bt];by_cases g:x=y
 ·rw[if_pos g,if_pos g.symm]
 ·rw[if_neg g,if_neg (Hl g)]
theorem kQ(l b:Addr)(items items2:Array Value)(n n2:Nat)(dd dd2:Option Addr)(sl sl2:Array (Option Value))(ns ms:List Int)(hi:Rp items.toList ns)(hj:Rp items2.toList ms):
  Meets (Builtin.«tuple.__gt__» ⟨[.ref l,.ref b],[]⟩)
   (λ_ R s=>s.heap.get? l=some { cls:=.type "tuple",dict:=dd,data:=.seq items n,slots:=sl }/\s.heap.get? b=some { cls:=.type "tuple",dict:=dd2,data:=.seq items2 n2,slots:=sl2 }/\
    R (.ok (.ret (.bool (bC ms ns)))) s):=
 .of_wp λprog w A R s h=>by
  obtain⟨hp,g,d,tk,os⟩:=s;obtain⟨hl,hb,h⟩:=h;have f2:=Je;have z1:items.size=ns.length:=by rw[<-hi.length];simp
  have z2:items2.size=ms.length:=by rw[<-hj.length];simp
  wp_walk using Rv hl,Rv hb,wpAny_forIn_list _ (λrest b s'=>b.1=none/\s'=⟨hp,g,d,tk,os⟩/\∃(vs ws:List Value) (ns' ms':List Int),rest=vs.zip ws/\
   Rp vs ns'/\Rp ws ms'/\ns'.length+items2.size=ms'.length+items.size/\R (.ok (.ret (.bool (bC ms' ns')))) ⟨hp,g,d,tk,os⟩) _
  case turn=>
   rintro⟨y,x⟩ rest b s' ⟨hb',rfl,vs,ws,ns',ms',hz,hvi,hwi,hlen,hR⟩;cases hvi with
   | nil=>rw[KE]at hz;cases hz
   | cons a t hvi'=>
    cases hwi with
    | nil=>rw[Ks]at hz;cases hz
    | cons c u hwi'=>
     rw[IJ]at hz;injection hz with hyx hrest
     injection hyx with hy hx
     subst hy hx;rw[nr]at hR;simp only[G8]at hlen;obtain⟨e,he,hiff⟩:=j9 A.in1 ⟨hp,g,d,tk,os⟩ a t c u;refine Rh (he prog w _ _ ?_);cases e with
     | true=>
      rw[if_pos (hiff.mp rfl)]at hR
      wp_walk
      exact⟨rfl,rfl,_,_,_,_,hrest,hvi',hwi',by lia,hR⟩
     | false=>
      rw[if_neg (λq=>absurd (hiff.mpr q) Ha)]at hR;have hri:=oO A.in1 ⟨hp,g,d,tk,os⟩ a t c u prog w
      wp_walk using hri
      exact⟨_,rfl,by simpa using hR⟩
  case fin=>
   rintro⟨b1,b2⟩ s' ⟨hb',rfl,vs,ws,ns',ms',hz,hvi,hwi,hlen,hR⟩;simp only at hb';subst hb';have hv:bC ms' ns'=decide (items.size > items2.size):=by
    cases hvi with
    | nil=>
     cases hwi with
     | nil=>
      simp only[Ib]at hlen;exact(decide_eq_false ⋯).symm
     | cons c u hw=>
      simp only[Ib,G8]at hlen;exact(decide_eq_false ⋯).symm
    | cons a t hv=>
     cases hwi with
     | nil=>
      simp only[Ib,G8]at hlen;exact(decide_eq_true ⋯).symm
     | cons c u hw=>
      rw[IJ]at hz;cases hz
   rw[hv]at hR
   wp_walk
   exact⟨_,rfl,by simpa [I0]using hR⟩
  case h=>
   exact⟨rfl,rfl,items.toList,items2.toList,ns,ms,rfl,hi,hj,by lia,h⟩
theorem lX(l b:Addr)(a1 a2 c1 c2:Value)(n n2:Nat)(dd dd2:Option Addr)(sl sl2:Array (Option Value))(e1 e2 g1 g2:Bool):
  Meets (Builtin.«tuple.__gt__» ⟨[.ref l,.ref b],[]⟩)
   (λA R s=>s.heap.get? l=some { cls:=.type "tuple",dict:=dd,data:=.seq #[a1,a2] n,slots:=sl }/\s.heap.get? b=some { cls:=.type "tuple",dict:=dd2,data:=.seq #[c1,c2] n2,slots:=sl2 }/\
    EqAt A.in1 s a1 c1 e1/\EqAt A.in1 s a2 c2 e2/\(∀prog w E Q,Q (.bool g1) s->wpAny (model prog w) A.in1 (R7 .Gt a1 c1) Q E s)/\(∀prog w E Q,Q (.bool g2) s->wpAny (model prog w) A.in1 (R7 .Gt a2 c2) Q E s)/\
    R (.ok (.ret (.bool (if e1=true then(if e2=true then false else g2)else g1)))) s):=
 .of_wp λprog w A R s h=>by
  obtain⟨hp,g,d,tk,os⟩:=s;obtain⟨hl,hb,h1,h2,r1,r2,h⟩:=h;have f2:=Je
  wp_walk using Rv hl,Rv hb,wpAny_forIn_list _ (λrest b s'=>b.1=none/\s'=⟨hp,g,d,tk,os⟩/\(rest=[(a1,c1),(a2,c2)]\/(rest=[(a2,c2)]/\e1=true)\/(rest=[]/\e1=true/\e2=true))) _
  case turn=>
   rintro⟨y,x⟩ rest b s' ⟨hb',rfl,hz⟩;rcases hz with hz|⟨hz,he1⟩|⟨hz,_⟩
   ·injection hz with hyx hrest
    injection hyx with hy hx
    subst hy hx;refine Rh (h1 prog w _ _ ?_);cases e1 with
    | true=>
     wp_walk
     exact⟨rfl,rfl,.inr (.inl ⟨hrest,rfl⟩)⟩
    | false=>
     have hri:=r1 prog w
     wp_walk using hri
     exact⟨_,rfl,by simpa using h⟩
   ·injection hz with hyx hrest
    injection hyx with hy hx
    subst hy hx he1;refine Rh (h2 prog w _ _ ?_);cases e2 with
    | true=>
     wp_walk
     exact⟨rfl,rfl,.inr (.inr ⟨hrest,rfl,rfl⟩)⟩
    | false=>
     have hri:=r2 prog w
     wp_walk using hri
     exact⟨_,rfl,by simpa using h⟩
   ·cases hz
  case fin=>
   rintro⟨b1,b2⟩ s' ⟨hb',rfl,hz⟩;simp only at hb';subst hb';rcases hz with hz|⟨hz,he1⟩|⟨_,he1,he2⟩
   ·cases hz
   ·cases hz
   ·subst he1 he2
    wp_walk
    exact⟨_,rfl,by simpa [I0]using h⟩
  case h=>
   exact⟨rfl,rfl,.inl rfl⟩
end
section
variable{prog:Program}{w:World}{A:Around}{E:Value->Shared->Prop}{s:Shared}
theorem jX{b:Addr}{items2:Array Value}{ns ms:List Int}(hl:IsTup s.heap l items)(hb:IsTup s.heap b items2)(hi:Rp items.toList ns)(hj:Rp items2.toList ms)
  (hu:A.units<cLine) (h:Q (.bool (bC ms ns)) s):wpAny (model prog w) A (R7 .Gt (.ref l) (.ref b)) Q E s:=by
 obtain⟨⟨cls,dd,data,sl⟩,ho,hc,n,hd⟩:=id hl;obtain⟨⟨cls2,dd2,data2,sl2⟩,ho2,hc2,n2,hd2⟩:=id hb;simp only at hc hd hc2 hd2;subst hc hd hc2 hd2;exact richCompare_meets_room (op:=.Gt) ⟨_,ho,rfl⟩ ⟨_,ho2,rfl⟩ MW MG (Mj _ _) (kQ l b items items2 n n2 dd dd2 sl sl2 ns ms hi hj)
  ⟨ho,ho2,show Kx (bC ms ns)≠Na/\Q (.bool (bC ms ns)) s from⟨(λx=>nomatch x),h⟩⟩ hu
theorem sL{b q':Addr}{nx ny:Int}{tx ty:Tok}{jts jts2:Array Value}{k m:List Int}(hu:A.units+64<cLine)(hl:IsTup s.heap l #[.ref q,.int nx tx])(hb:IsTup s.heap b #[.ref q',.int ny ty])
  (hq:IsTup s.heap q jts) (hq':IsTup s.heap q' jts2) (iq:Rp jts.toList k) (iq':Rp jts2.toList m) (h:Q (.bool (lt2 (m,[ny]) (k,[nx]))) s):wpAny (model prog w) A (Rm .Gt (.ref l) (.ref b)) Q E s:=by
 obtain⟨⟨cls,dd,data,sl⟩,ho,hc,n,hd⟩:=id hl;obtain⟨⟨cls2,dd2,data2,sl2⟩,ho2,hc2,n2,hd2⟩:=id hb;simp only at hc hd hc2 hd2;subst hc hd hc2 hd2;obtain⟨ov,hov,hcv,nv,hdv⟩:=id hq;obtain⟨ov2,hov2,hcv2,nv2,hdv2⟩:=id hq';have hu1:A.in1.units<cLine:=by show A.units+1<_;lia
 have e1:Oz A.in1 s (.ref q) (.ref q') (decide (k=m)):=λprog w E Q hQ=>wpAny_eqBool_tuple (knd:=intKind prog w) hu1 ⟨ov,jts,nv,hov,hcv,hdv,kN prog w iq⟩ ⟨ov2,jts2,nv2,hov2,hcv2,hdv2,kN prog w iq'⟩ hQ
 have e2:Oz A.in1 s (.int nx tx) (.int ny ty) (nx == ny):=P1 nx tx ny ty;have hval:(if decide (k=m)=true then(if(nx == ny)=true then false else decide (ny<nx))else bC m k)=lt2 (m,[ny]) (k,[nx]):=by
  unfold lt2;dsimp only;by_cases g:k=m
  ·rw[if_pos (decide_eq_true g),if_pos g.symm,bt]
   by_cases g2:nx=ny
   ·rw[if_pos (by simp[g2]),if_pos g2.symm];rfl
   ·rw[if_neg (by simp[g2]),if_neg (Hl g2)]
  ·rw[if_neg (by simp[g]),if_neg (Hl g)]
 refine richCompare_meets_room (op:=.Gt) ⟨_,ho,rfl⟩ ⟨_,ho2,rfl⟩ MW MG (Mj _ _) (lX l b (.ref q) (.int nx tx) (.ref q') (.int ny ty) n n2 dd dd2 sl sl2 (decide (k=m)) (nx == ny) (bC m k) (decide (ny<nx)))
  ⟨ho,ho2,e1,e2,λprog w E Q hQ=>jX hq hq' iq iq' hu1 hQ,λprog w E Q hQ=>oO _ _ _ _ _ _ prog w E Q hQ,?_⟩ ⋯
 rw[hval];exact⟨(λx=>nomatch x),h⟩
end
end HT
namespace L2
open PySem PySem.Spec PyProof.Rows
section
variable{X:Cx}
def FK(K:GH):R2:=λx y H Q=>∃(a b q q':Addr) (k m:List Int) (nx ny:Int),x=.ref a/\y=.ref b/\SqT K H a [.ref q,.int nx]/\SqT K H b [.ref q',.int ny]/\SqT K H q (k.map Q8)/\SqT K H q' (m.map Q8)/\Q (.bl (HT.lt2 (m,[ny]) (k,[nx]))) H
theorem EH{K:GH}(hu:X.A.units+64<cLine)(hK:X.K=K:=by rfl):QOp X (Rm .Gt) (FK K):=by
 subst hK;refine⟨λpins s σ H x y v u Q I rx ry h=>?_⟩;obtain⟨a,b,q,q',k,m,nx,ny,rfl,rfl,ha,hb,hq,hq',hQ⟩:=h;cases rx;cases ry;obtain⟨its,r1,p1,_⟩:=I.tuple ha;obtain⟨its2,r2,p2,_⟩:=I.tuple hb;obtain⟨jts,r3,p3,_⟩:=I.tuple hq;obtain⟨jts2,r4,p4,_⟩:=I.tuple hq';cases r1 with
 | cons a1 r1=>
  cases r1 with
  | cons a2 r1=>
   cases r1;cases a1;obtain⟨t1,rfl⟩:=a2;cases r2 with
   | cons b1 r2=>
    cases r2 with
    | cons b2 r2=>
     cases r2;cases b1;obtain⟨t2,rfl⟩:=b2;exact HT.sL hu p1 p2 p3 p4 (bG r3) (bG r4) ⟨.bl _,H,I,rfl,hQ⟩
end
theorem B6{K:GH}{H:Hp}{Q:VK}{b q':Addr}{k m:List Nat}{nx ny:Nat}(h1:H a=some (.tup [.ref q,.int (nx:Nat)]))(h2:H b=some (.tup [.ref q',.int (ny:Nat)]))(h3:H q=some (.tup (NV k)))(h4:H q'=some (.tup (NV m)))
  (h:Q (.bl (HT.lt2 (bo m,[(ny:Int)]) (bo k,[(nx:Int)]))) H):FK K (.ref a) (.ref b) H Q:=
 ⟨a,b,q,q',bo k,bo m,_,_,rfl,rfl,Q7 h1,Q7 h2,Q7 (by rw[h3];rw[lI];rfl),Q7 (by rw[h4];rw[lI];rfl),h⟩
noncomputable abbrev HP:=List Nat×Nat
noncomputable def hlt(x y:HP):Bool:=HT.lt2 (bo x.1,[(x.2:Int)]) (bo y.1,[(y.2:Int)])
theorem lY{a b:List Nat}(h:bo a=bo b):a=b:=by
 have e:∀r:List Nat,(bo r).map QL=r:=λr=>by
  show(r.map λx:Nat=>(x:Int)).map QL=r
  rw[IV];exact(Iu (λx _=>by simp)).trans (List.map_id' r)
 rw[<-e a,<-e b,h]
theorem nz{a b c:HP}(h1:hlt a b=false)(h2:hlt b c=false):hlt a c=false:=HT.yR _ _ _ h1 h2
theorem oP{a b:HP}(h:hlt a b=true):hlt b a=false:=HT.vL _ _ h
theorem sM(a:HP):hlt a a=false:=by
 cases h:hlt a a with
 | false=>rfl
 | true=>rw[oP h]at h;cases h
theorem vN{a b:HP}(h1:hlt a b=false)(h2:hlt b a=false):a=b:=by
 obtain⟨a1,a2⟩:=a;obtain⟨b1,b2⟩:=b;unfold hlt HT.lt2 at h1 h2;dsimp only at h1 h2;by_cases g:bo a1=bo b1
 ·rw[if_pos g]at h1
  rw[if_pos g.symm]at h2;have:=HT.gi _ _ h1 h2;have e1:=lY g;have e2:a2=b2:=by
   have:=(Q4 this).1;lia
  rw[e1,e2]
 ·rw[if_neg g]at h1
  rw[if_neg (Hl g)]at h2;exact absurd (HT.gi _ _ h1 h2) g
def Fall(hs:List HP):Prop:=hs.Pairwise λa b=>hlt a b=false
def sO(ds:List HP):Prop:=ds.Pairwise λa b=>hlt b a=false
theorem Fall.ins{hs:List HP}{h:HP}{k:Nat}(f:Fall hs)(h1:∀x∈hs.take k,hlt h x=true)(h2:∀x∈hs.drop k,hlt h x=false):Fall (hs.take k++h::hs.drop k):=by
 have f':(hs.take k++hs.drop k).Pairwise λa b=>hlt a b=false:=by rw[II];exact f
 rw[Hz]at f';refine Hz.mpr ⟨f'.1,IY.mpr ⟨h2,f'.2.1⟩,λa ha b hb=>?_⟩;rcases GZ.mp hb with rfl|hb
 ·exact oP (h1 a ha)
 ·exact f'.2.2 a ha b hb
theorem vO(hs:List HP)(h:HP)(k:Nat):(hs.take k++h::hs.drop k).Perm (h::hs):=by
 have e:hs=hs.take k++hs.drop k:=(II k hs).symm;conv=>rhs;rw[e]
 exact OA
theorem Fall.get{hs:List HP}(f:Fall hs)(hij:i<j)(hj:j<hs.length):hlt (hs.getD i ([],0)) (hs.getD j ([],0))=false:=by
 have:=G7.mp f i j ⋯ hj hij;rw[GG,GE ⋯,GG,GE hj];exact this
noncomputable def hd(L:List (List (List Nat)))(ms:List Nat)(i:Nat):Option HP:=((L.getD i [])[ms.getD i 0]?).map λr=>(r,i)
noncomputable def qc(L:List (List (List Nat)))(ms:List Nat)(i:Nat):List HP:=((L.getD i []).drop (ms.getD i 0)).map λr=>(r,i)
noncomputable def ju(L:List (List (List Nat)))(ms:List Nat)(n:Nat):List HP:=((GO n).map (qc L ms)).flatten
noncomputable def dF(L:List (List (List Nat)))(ms:List Nat)(n:Nat):List HP:=(GO n).filterMap (hd L ms)
noncomputable def dj(L:List (List (List Nat)))(ms:List Nat)(n k:Nat):List HP:=(GO n).filterMap λi=>if i=k then none else hd L ms i
def RisL(r:List (List Nat)):Prop:=r.Pairwise λa b=>lxt b a=false
theorem jY(L:List (List (List Nat)))(ms:List Nat)(n:Nat):dF L ms (n+1)=dF L ms n++(hd L ms n).toList:=by
 unfold dF;rw[Li,MX];congr 1
theorem sP{L:List (List (List Nat))}(h:∀i,i≠k->ms'.getD i 0=ms.getD i 0)(n:Nat):dj L ms' n k=dj L ms n k:=by
  unfold dj;have:(λi=>if i=k then none else hd L ms' i)=λi=>if i=k then none else hd L ms i:=by
   funext i
   by_cases e:i=k
   · rw[if_pos e,if_pos e]
   · rw[if_neg e,if_neg e]
     unfold hd;rw[h i e]
  rw[this]
theorem fJ(L:List (List (List Nat)))(ms:List Nat)(k:Nat):∀n,k<n->(dF L ms n).Perm ((hd L ms k).toList++dj L ms n k)
 | 0,h=>absurd h (JJ _)
 | n+1,h=>by
  rw[jY];have eo:dj L ms (n+1) k=dj L ms n k++(if n=k then none else hd L ms n).toList:=by
   unfold dj;rw[Li,MX];congr 1
  rw[eo];by_cases e:n=k
  ·subst e
   rw[if_pos rfl];have e2:dF L ms n=dj L ms n n:=by
    unfold dF dj;have:∀i∈GO n,hd L ms i=(if i=n then none else hd L ms i):=λi hi=>by rw[if_neg (by have:=Hg.mp hi;lia)]
    have fc:∀l:List Nat,(∀i∈l,hd L ms i=(if i=n then none else hd L ms i))->l.filterMap (hd L ms)=l.filterMap λi=>if i=n then none else hd L ms i:=λl=>by
     induction l with
     | nil=>intro _;rfl
     | cons a l ih=>
      intro hh;rw[JC,JC,<-hh a (Hj ..),ih λi hi=>hh i (Hd _ hi)]
    exact fc _ this
   rw[e2];simp only[Option.toList_none,IB];exact JX
  ·rw[if_neg e]
   have ih:=fJ L ms k n ⋯;exact(ih.append_right _).trans (by rw[HV])
theorem jf{L:List (List (List Nat))}{x:HP}(h:x∈dF L ms n):x.2<n/\hd L ms x.2=some x:=by
 unfold dF at h;obtain⟨i,hi,e⟩:=JF.mp h;have hx:x.2=i:=by
  unfold hd at e;obtain⟨r,_,rfl⟩:=Io.mp e;rfl
 subst hx;exact⟨Hg.mp hi,e⟩
theorem sQ{L:List (List (List Nat))}{x:HP}(h:hd L ms x.2=some x):(L.getD x.2 [])[ms.getD x.2 0]? = some x.1:=by
 unfold hd at h;obtain⟨r,hr,e⟩:=Io.mp h;rw[hr,<-e]
theorem sR{L:List (List (List Nat))}{x:HP}(h:hd L ms x.2=some x):qc L ms x.2=x::((L.getD x.2 []).drop (ms.getD x.2 0+1)).map λr=>(r,x.2):=by
 have e:=sQ h;unfold qc;rw[Jt (GM.mp e).1,(GM.mp e).2];rfl
theorem gm(L:List (List (List Nat)))(ms:List Nat)(n:Nat):ju L ms (n+1)=ju L ms n++qc L ms n:=by
 unfold ju;rw[Li,GP,List.flatten_append];simp
theorem sS{L:List (List (List Nat))}{ms ms':List Nat}:∀n,(∀i,i<n->ms'.getD i 0=ms.getD i 0)->ju L ms' n=ju L ms n
 | 0,_=>rfl
 | n+1,h=>by
  rw[gm,gm,sS n λi hi=>h i ⋯];congr 1;unfold qc;rw[h n ⋯]
theorem jg{L:List (List (List Nat))}{ms:List Nat}{x:HP}(h:hd L ms x.2=some x)(hm:x.2<ms.length):∀n,x.2<n->(ju L ms n).Perm (x::ju L (ms.set x.2 (ms.getD x.2 0+1)) n)
 | 0,z=>absurd z (JJ _)
 | n+1,z=>by
  rw[gm,gm];by_cases e:n=x.2
  ·have e1:ju L (ms.set x.2 (ms.getD x.2 0+1)) n=ju L ms n:=sS n λi hi=>fI ⋯
   rw[e1,e,sR h];have e2:qc L (ms.set x.2 (ms.getD x.2 0+1)) x.2=((L.getD x.2 []).drop (ms.getD x.2 0+1)).map λr=>(r,x.2):=by
    unfold qc;rw[kO hm]
   rw[e2];exact OA
  ·have ih:=jg h hm n ⋯
   have e1:qc L (ms.set x.2 (ms.getD x.2 0+1)) n=qc L ms n:=by
    unfold qc;rw[fI (Hl e)]
   rw[e1];exact ih.append_right _
theorem sU{L:List (List (List Nat))}{y:HP}(h:y∈ju L ms n):y.2<n/\∃j,ms.getD y.2 0<=j/\(L.getD y.2 [])[j]? = some y.1:=by
 unfold ju at h;obtain⟨l,hl,hy⟩:=List.mem_flatten.mp h;obtain⟨i,hi,rfl⟩:=Hk.mp hl;unfold qc at hy;obtain⟨r,hr,rfl⟩:=Hk.mp hy;obtain⟨j,hj,rfl⟩:=Hv hr;rw[Hm]at hj;refine⟨Hg.mp hi,ms.getD i 0+j,Ii _ _,?_⟩;rw[JR];exact GE _
structure MgOk (L:List (List (List Nat))) (ms:List Nat) (hs:List HP):Prop where
 ml:ms.length=L.length
 fa:Fall hs
 pe:hs.Perm (dF L ms L.length)
theorem MgOk.least{L:List (List (List Nat))}{hs:List HP}{x:HP}(h:MgOk L ms (hs++[x]))(hr:∀r∈L,RisL r):hd L ms x.2=some x/\x.2<L.length/\∀y∈ju L ms L.length,hlt y x=false:=by
 have hx:=jf (h.pe.mem_iff.mp (GT _ (G0.mpr rfl)));refine⟨hx.2,hx.1,λy hy=>?_⟩;obtain⟨hy1,j,hj1,hj2⟩:=sU hy;have hlt0:ms.getD y.2 0<(L.getD y.2 []).length:=HR hj1 (GM.mp hj2).1;have e0:(L.getD y.2 [])[ms.getD y.2 0]? = some ((L.getD y.2 [])[ms.getD y.2 0]):=GE hlt0;have eh:hd L ms y.2=some ((L.getD y.2 [])[ms.getD y.2 0],y.2):=by unfold hd;rw[e0];rfl
 have hm:((L.getD y.2 [])[ms.getD y.2 0],y.2)∈hs++[x]:=by
  refine h.pe.mem_iff.mpr ?_;unfold dF;exact JF.mpr ⟨y.2,Hg.mpr hy1,eh⟩
 have h1:hlt ((L.getD y.2 [])[ms.getD y.2 0],y.2) x=false:=by
  rcases Hc.mp hm with g|g
  ·have f:=h.fa
   unfold Fall at f;rw[Hz]at f;exact f.2.2 _ g x (G0.mpr rfl)
  ·rw[G0.mp g];exact sM x
 have hrl:RisL (L.getD y.2 []):=by
  rw[GG,GE hy1];exact hr _ (GV hy1)
 have h2:hlt y ((L.getD y.2 [])[ms.getD y.2 0],y.2)=false:=by
  unfold hlt HT.lt2;dsimp only;by_cases g:bo y.1=bo ((L.getD y.2 [])[ms.getD y.2 0])
  ·rw[if_pos g]
   rw[HT.bt,if_pos rfl];rfl
  ·rw[if_neg g]
   have hne:ms.getD y.2 0≠j:=λz=>g (by
    have:(L.getD y.2 [])[ms.getD y.2 0]? = some y.1:=by rw[z];exact hj2
    rw[e0]at this;rw[G9 this])
   have:=G7.mp hrl (ms.getD y.2 0) j hlt0 (GM.mp hj2).1 ⋯;rw[(GM.mp hj2).2]at this;exact this
 exact nz h2 h1
def NextOk(L:List (List (List Nat)))(ms:List Nat)(hs:List HP)(o:Option HP)(ms':List Nat)(hs':List HP):Prop:=
 (hs=[]/\o=none/\ms'=ms/\hs'=hs)\/∃hs0 x,hs=hs0++[x]/\o=some x/\ms'=ms.set x.2 (ms.getD x.2 0+1)/\Fall hs'/\hs'.Perm ((hd L (ms.set x.2 (ms.getD x.2 0+1)) x.2).toList++hs0)
theorem NextOk.ok{L:List (List (List Nat))}{hs hs':List HP}{o:Option HP}(h:MgOk L ms hs)(n:NextOk L ms hs o ms' hs'):MgOk L ms' hs':=by
 rcases n with⟨_,_,rfl,rfl⟩|⟨hs0,x,rfl,_,rfl,f,p⟩
 ·exact h
 ·have hx:=jf (h.pe.mem_iff.mp (GT _ (G0.mpr rfl)))
  refine⟨by rw[Kn];exact h.ml,f,p.trans ?_⟩;have s1:=fJ L ms x.2 L.length hx.1;have s2:=fJ L (ms.set x.2 (ms.getD x.2 0+1)) x.2 L.length hx.1;rw[sP (λi hi=>fI (Hl hi))]at s2;have p1:(hs0++[x]).Perm ([x]++dj L ms L.length x.2):=by
   have:=h.pe.trans s1;rw[hx.2]at this;exact this
  have p2:hs0.Perm (dj L ms L.length x.2):=MR x |>.mp (JX.trans p1)
  exact(p2.append_left _).trans s2.symm
theorem vP{L:List (List (List Nat))}(h:MgOk L ms []):ju L ms L.length=[]:=by
 apply List.eq_nil_iff_forall_not_mem.mpr;intro y hy;obtain⟨hy1,j,hj1,hj2⟩:=sU hy;have hlt0:ms.getD y.2 0<(L.getD y.2 []).length:=HR hj1 (GM.mp hj2).1;have eh:hd L ms y.2=some ((L.getD y.2 [])[ms.getD y.2 0],y.2):=by unfold hd;rw[GE hlt0];rfl
 have:((L.getD y.2 [])[ms.getD y.2 0],y.2)∈([]:List HP):=h.pe.mem_iff.mpr (JF.mpr ⟨y.2,Hg.mpr hy1,eh⟩);cases this
theorem vQ{L:List (List (List Nat))}{hs hs':List HP}{o:Option HP}{x0:HP}{ds:List HP}(h:MgOk L ms hs)(hr:∀r∈L,RisL r)(n:NextOk L ms hs o ms' hs')(p:(ju L ms L.length).Perm (x0::ds))(r:sO (x0::ds)):
  o=some x0/\(ju L ms' L.length).Perm ds/\x0.2<L.length/\ms'=ms.set x0.2 (ms.getD x0.2 0+1)/\ms.getD x0.2 0<(L.getD x0.2 []).length:=by
 rcases n with⟨rfl,_⟩|⟨hs0,x,rfl,rfl,rfl,f,q⟩
 ·rw[vP h]at p
  have:=p.length_eq;simp at this
 ·obtain⟨l1,l2,l3⟩:=h.least hr
  have st:=jg l1 (by rw[h.ml];exact l2) L.length l2;have hx:x=x0:=by
   have m1:x∈x0::ds:=p.mem_iff.mp (st.mem_iff.mpr (Hj ..));refine vN ?_ (l3 x0 (p.mem_iff.mpr (Hj ..)));rcases GZ.mp m1 with e|e
   ·rw[e];exact sM _
   ·exact(IY.mp r).1 x e
  subst hx;exact⟨rfl,MR x |>.mp (st.symm.trans p),l2,rfl,(GM.mp (sQ l1)).1⟩
theorem vR{L:List (List (List Nat))}{hs hs':List HP}{o:Option HP}(h:MgOk L ms hs)(hr:∀r∈L,RisL r)(n:NextOk L ms hs o ms' hs')(p:(ju L ms L.length).Perm []):o=none/\ms'=ms/\hs'=hs:=by
 rcases n with⟨_,a,b,c⟩|⟨hs0,x,rfl,rfl,rfl,f,q⟩
 ·exact⟨a,b,c⟩
 ·obtain⟨l1,l2,l3⟩:=h.least hr
  have st:=jg l1 (by rw[h.ml];exact l2) L.length l2;have:=(st.symm.trans p).length_eq;simp at this
section
variable{prog:Program}{w:World}{A:Around}{R:Result->Shared->Prop}{s:Shared}{scope:Scope}
end
section
variable{X:Cx}{N tgs frs:List Str}{ix:List Nat}{scope:Scope}{cl:List (Str×Addr)}
end
section
variable{K:GH}{g g2:TG}{wi2:TI}{te:TE}{σ0:St}{H:Hp}{R:List V->Hp->Prop}
end
inductive RMv where
 | take (p:Nat)
 | move (p q:Nat)
 | lay (p:Nat)
section
variable{H H1:Hp}{v y:V}{d:PyData}
variable{vs us rs:List V}{ds:List PyData}
end
section
variable(ta:Addr)(hv v:V)(pa:Addr)(n m:Int)
end
section
variable{C:Addr}{H H1:Hp}{w ta pa:Addr}{ps:List Addr}{us:List V}{hv:V}{ms:List RMv}{d:Nat}
end
section
variable{X:Cx}{e:Expr}{es:List Expr}{t:TA}{pos p:Pos}{x:Str}{C f:Addr}
end
end L2
namespace HT
open PySem PySem.Spec PyProof.Rows PySem.W L2
section
variable{prog:Program}{w:World}{A:Around}{E:Value->Shared->Prop}{s:Shared}
end
end HT
namespace L2
open PySem PySem.Spec PyProof.Rows
theorem jZ:∀{ys:List Str}{us:List Value},Vals (ys.map Ra) us->StrsAre us ys
 | [],_,h=>by cases h;exact .nil
 | y::ys,_,h=>by
  cases h with
  | cons rv r=>obtain⟨t,rfl⟩:=rv;exact .cons y t (jZ r)
section
variable{X:Cx}
end
noncomputable def turn(r:List Nat):List Nat:=r.take 1++(r.drop 1).reverse
section
variable{H H1:Hp}{v y z:V}{d e:Option (List Nat×Nat)}
variable{vs us rs:List V}
end
section
variable{C:Addr}{H H1:Hp}{w ta pa:Addr}{ps:List Addr}{us:List V}{hv:V}{ms:List RMv}{d:Nat}
end
section
variable{H H1:Hp}{vs us:List V}{ds:List (List Nat×Nat)}{v:V}{d:List Nat×Nat}
end
section
variable{X:Cx}{e:Expr}{te:TE}{pos p1 p2 p3 p4 p5:Pos}{j j':Nat}
end
end L2
namespace HT
open PySem PyProof.Rows PySem.W L2
section
variable{prog:Program}{w:World}{A:Around}{E:Value->Shared->Prop}
def FL(f:Nat->Int)(d v:Value)(n:Nat):Prop:=n=0/\v=d\/∃(i:Nat) (t:Tok),i<n/\v=.int (f i) t/\∀m,m<n->f m<=f i
theorem sV{I S:Addr}{wr:List Addr}{P:Nat->Value->Prop}{St:Nat->Heap->Prop}{d:Value}{R:Result->Shared->Prop}(f:Nat->Int)(W:Walks prog w A.in1 I fp wr n P St)(hf:∀i v,P i v->∃t,v=.int (f i) t)(hSf:S∉fp):
  ∀(k j:Nat) (s:Shared) (vb:List Value) (c:Nat),n - j=k->j<=n->St j s.heap->s.heap.get? S=some (seqObj "list" vb.toArray c)->
   (vb=[]/\j=0\/∃(i:Nat) (t:Tok),i<j/\vb=[.int (f i) t,.int (f i) t]/\∀m,m<j->f m<=f i)->
   (∀v h' tk,FL f d v n->(∀b o,b∉wr->b≠S->s.heap.get? b=some o->h'.get? b=some o)->R (.ok (.ret v)) { s with heap:=h',toks:=tk })->
   codeAny (model prog w) A (.builtin "max.loop" ⟨[.ref I,.none,.ref S],[(He "default",d)]⟩) R s:=by
 have hSw:S∉wr:=λz=>hSf (W.sub _ z)
 have nm:(toString "max"++toString ".loop" : String) = "max.loop":=by decide
 intro k
 induction k with
 | zero=>
  intro j s vb c hk hj hst hS hb hR;have hin:j=n:=by lia
  refine codeAny_builtin MI ?_;rw[Kg IW _];show wpAny _ A.in1 (seqItems? (.ref S) >>= _) _ _ s
  refine Rh (Rz hS rfl ?_);show wpAny _ A.in1 (tryCatch (pyNext (.ref I)) _ >>= _) _ _ s
  refine Rh (wpAny_tryCatch (W.done s _ _ (hin▸hst) λh' tk kp=>?_));have hS1:=kp S _ hSw hS;rcases hb with⟨rfl,h0⟩|⟨i,t,hi,rfl,hm⟩
  ·refine Rh (RZ (Ri ?_))
   exact hR d _ tk (.inl ⟨by lia,rfl⟩) λb o q1 q2 e=>kp b o q1 e
  ·show wpAny _ A.in1 (updateSeq S (λ_=>#[]) >>= _) _ _ _
   refine Rh ?_;refine wpAny_updateSeq hS1 rfl (Rh (RR (Ri ?_)));exact hR _ _ tk (.inr ⟨i,t,by lia,rfl,λm q=>hm m ⋯⟩) λb o q1 q2 e=>(JL _ _ (Hl q2)).trans (kp b o q1 e)
 | succ k ih=>
  intro j s vb c hk hj hst hS hb hR;have hlt:j<n:=by lia
  refine codeAny_builtin MI ?_;rw[Kg IW _];show wpAny _ A.in1 (seqItems? (.ref S) >>= _) _ _ s
  refine Rh (Rz hS rfl ?_);show wpAny _ A.in1 (tryCatch (pyNext (.ref I)) _ >>= _) _ _ s
  refine Rh (wpAny_tryCatch (W.item j s _ _ hlt hst λv h' tk hP st1 kp=>?_));obtain⟨tv,rfl⟩:=hf j v hP;have hS1:=kp S _ hSw hS;have upd1:∀(g:Array Value->Array Value) b (o:Obj),b≠S->h'.get? b=some o->(h'.update S (Hn g)).get? b=some o:=λg b o q e=>(JL _ _ (Hl q)).trans e
  rcases hb with⟨rfl,h0⟩|⟨i,t,hi,rfl,hm⟩
  ·show wpAny _ A.in1 (updateSeq S (λ_=>#[.int (f j) tv,.int (f j) tv]) >>= _) _ _ _
   refine Rh ?_;refine wpAny_updateSeq hS1 rfl ?_;rw[nm];obtain⟨c1,hc1⟩:∃c1,(h'.update S (Hn λ_=>#[.int (f j) tv,.int (f j) tv])).get? S=some (seqObj "list" [JZ (f j) tv,JZ (f j) tv].toArray c1):=⟨_,RO hS1 λ_=>#[.int (f j) tv,.int (f j) tv]⟩
   refine Ri ⟨plainId_quiet IW _,ih (j+1) _ _ c1 ⋯ hlt (W.frame _ _ _ st1 λb q o e=>upd1 _ b o (λz=>hSf (z▸q)) e) hc1 (.inr ⟨j,tv,by lia,rfl,λm q=>?_⟩) λv2 h2 tk2 q2 k2=>?_⟩
   ·have:m=j:=by lia
    rw[this];exact Qm _
   ·exact hR v2 h2 tk2 q2 λb o q3 q4 e=>k2 b o q3 q4 (upd1 _ b o q4 (kp b o q3 e))
  ·show wpAny _ A.in1 (tryCatch (RB [.int (f j) tv,.int (f j) tv] (R7 .Gt (.int (f j) tv) (.int (f i) t) >>= _)) _ >>= _) _ _ _
   refine Rh (wpAny_tryCatch (Rq (Rh (Pb (prog:=prog) (w:=w) (A:=A.in1) (P:=λi v=>∃t,v=.int (f i) t) f (λi v z=>z) j i _ _ _ _ _ ⟨tv,rfl⟩ ⟨t,rfl⟩ ?_))));refine Rh (Rq (RD ?_));refine Rh (RR (Ri ?_));by_cases hg:f j > f i
   ·simp only[hg,decide_true,if_true]
    refine Rh ?_;refine wpAny_updateSeq hS1 rfl (Rh (RR ?_));rw[nm];obtain⟨c1,hc1⟩:∃c1,(h'.update S (Hn λ_=>#[.int (f j) tv,.int (f j) tv])).get? S=some (seqObj "list" [JZ (f j) tv,JZ (f j) tv].toArray c1):=⟨_,RO hS1 λ_=>#[.int (f j) tv,.int (f j) tv]⟩
    refine Ri ⟨plainId_quiet IW _,ih (j+1) _ _ c1 ⋯ hlt (W.frame _ _ _ st1 λb q o e=>upd1 _ b o (λz=>hSf (z▸q)) e) hc1 (.inr ⟨j,tv,by lia,rfl,λm q=>?_⟩) λv2 h2 tk2 q2 k2=>?_⟩
    ·by_cases e:m=j
     ·rw[e];exact Qm _
     ·have:=hm m ⋯;lia
    ·exact hR v2 h2 tk2 q2 λb o q3 q4 e=>k2 b o q3 q4 (upd1 _ b o q4 (kp b o q3 e))
   ·simp only[hg,decide_false,HY,if_false]
    refine Rh (RR ?_);rw[nm];refine Ri ⟨plainId_quiet IW _,ih (j+1) _ _ c ⋯ hlt st1 hS1 (.inr ⟨i,t,by lia,rfl,λm q=>?_⟩) λv2 h2 tk2 q2 k2=>?_⟩
    ·by_cases e:m=j
     ·rw[e];lia
     ·exact hm m ⋯
    ·exact hR v2 h2 tk2 q2 λb o q3 q4 e=>k2 b o q3 q4 (kp b o q3 e)
theorem lZ (a v:Value):argsOk "max" ⟨[a],[(He "default",v)]⟩:=by unfold argsOk;kernel_rfl
theorem yT{s:Shared}{d:Value}(f:Nat->Int)(hh:A.handled=none)(hl:s.heap.IsList l its.toArray)(hf:∀(i:Nat) (v:Value),its[i]? = some v->∃t,v=.int (f i) t)
  (h:∀v h' tk,FL f d v its.length->(∀b o,s.heap.get? b=some o->h'.get? b=some o)->Q v { s with heap:=h',toks:=tk }) :
  wpAny (model prog w) A (call (.builtin "max") [.ref l] [(He "default",d)]) Q E s:=by
 have nm:(toString "max"++toString ".loop" : String) = "max.loop":=by decide
 have hll:l<s.heap.objs.size:=by obtain⟨_,e,_⟩:=id hl;exact GX e
 refine kmk_tree PySem.F.kind_max PySem.F.plain_max PySem.F.entry_max (lZ _ _) ?_;show wpAny _ A.in1 (Lz "max" ["key","default"] 0 ⟨[],[(He "default",d)]⟩ >>= _) _ _ s
 refine Rh (wpAny_of_eq (show Lz "max" ["key","default"] 0 ⟨[],[(He "default",d)]⟩=pure [none,some d]from rfl) ?_);refine Rh (Ri ?_);refine Rh (wpAny_pyIter_list hl ?_);refine Rh (wpAny_newList ?_ (GW _));rw[nm];have hS:(s.heap.push { cls:=.type "list_iterator",data:=.fields #[.ref l,.int 0 0] }).objs.size=s.heap.objs.size+1:=size_push' ..;have W:=Qs (prog:=prog) (w:=w) (A:=A.in1) hh s.heap.objs.size l (Hf hll) its.toArray;have ez:its.toArray.size=its.length:=GQ ..;rw[ez]at W;have hll1:((s.heap.push { cls:=.type "list_iterator",data:=.fields #[.ref l,.int 0 0] }).push (seqObj "list" #[] 0)).IsList l its.toArray:=by
  obtain⟨o,e,r⟩:=hl;exact⟨o,GI _ (GI _ e),r⟩
 have hf1:∀(i:Nat) (v:Value),its.toArray[i]? = some v->∃t,v=.int (f i) t:=λi v hv=>hf i v (by simpa using hv)
 refine Ri ⟨plainId_quiet IW _,sV f W hf1 (S:=(s.heap.push { cls:=.type "list_iterator",data:=.fields #[.ref l,.int 0 0] }).objs.size) ?_ its.length 0 _ [] 0 ⋯ (GW _) ⟨⟨_,GI _ (G1 _ rfl),rfl,rfl⟩,hll1⟩ (G1 _ rfl) (.inl ⟨rfl,rfl⟩) λv h' tk q kp=>?_⟩
 ·rw[hS]
  intro z;simp only[GZ,Ho,or_false]at z;rcases z with z|z
  ·exact absurd z (Oq _)
  ·rw[<-z]at hll;exact absurd hll (Nat.not_lt_of_le (Mw _))
 ·refine h v h' tk q λb o e=>kp b o ?_ ?_ (GI _ (GI _ e))
  ·intro z
   have e2:b=s.heap.objs.size:=by simpa using z
   exact absurd (e2▸GX e) (Iw _)
  ·rw[hS]
   have:=GX e;exact Hf (JO this)
end
end HT
namespace L2
open PySem PySem.Spec PyProof.Rows PySem.W
section
variable{X:Cx}
theorem yU:QIx X DT:=⟨wQ⟩
theorem xa:QC X (.builtin "ord") (λxs H Q=>∃x,xs=[.str x]/\x.length=1/\Q (.int (x.cps.getD 0 0:Nat)) H):=⟨uE⟩
theorem fb:QC X (.builtin "len") (λxs H Q=>∃z,xs=[.str z]/\z.length<=Rj/\Q (.int z.length) H):=⟨lp⟩
theorem sW (hg:Gl X x) (hm:X.mg x=some u) (r:RelV v u) (hd:(x == ("__debug__" : Str))=false:=by decide):QE X (.Name x pos) (tC v):=⟨xC hg hm r hd⟩
def Its(z:Str):It:=⟨λi _=>i<z.cps.size,λi H x H'=>H'=H/\∃c,z.cps[i]? = some c/\x=.str ⟨#[c]⟩,λi _=>i=z.cps.size⟩
theorem oQ {w:World}{K:GH}{T:String}(hT:["enumerate","zip","dict_itemiterator","dict_reverseitemiterator","odict_iterator","itertools.zip_longest","itertools.pairwise"].contains T=false) (it:Addr) (z:Str) (t:Tok)
  (W:∀A:Around,A.handled=none->Walks P w A it [it] [it] z.cps.size (SignAt z) (λi h=>h.IsStrIter it T z t i))
  (hself:∀(A:Around) (i:Nat) (s:Shared) (Q:Value->Shared->Prop) (E:Value->Shared->Prop),s.heap.IsStrIter it T z t i->Q (.ref it) s->wpAny (model P w) A (pyIter (.ref it)) Q E s) :
  Turn P w K tg (Its z) [it] it (λi h=>h.IsStrIter it T z t i) where
 mem:=by simp
 obj:=λi h st b hb=>by
  have e:b=it:=by simpa using hb
  subst e;obtain⟨o,e,c,d⟩:=st;exact⟨o,e,λv q=>by rw[d]at q;cases q⟩
 keep:=λi h h' st k=>by
  obtain⟨o,e,r⟩:=st;exact⟨o,k it (by simp) o e,r⟩
 item:=by
  intro X hP hw hK hc i pins s σ H E I hf st hg;subst hP hw hK;obtain⟨f0,f1,f2,f3,f4,f5⟩:=hf it (by simp);refine(W X.A (I.ok.hd hc)).item i s _ _ hg st λv h' tk hv st' kk=>?_
  obtain⟨c,u,hcc,rfl⟩:=hv;have I1:Inv X pins σ H { s with heap:=h',toks:=tk }:=I.turned (λb o hb e=>kk b o (by simpa using hb) e) f0 f1 f3 f4 f5;obtain⟨o,e,cl,d⟩:=id st';exact⟨_,rfl,o8 (s:={ s with heap:=h',toks:=tk }) e cl d hT ⟨.str ⟨#[c]⟩,H,I1,⟨u,rfl⟩,⟨rfl,c,hcc,rfl⟩,st',λb hb=>(hf b hb).1⟩⟩
 done:=by
  intro X hP hw hK hc i pins s σ H E I hf st hg;subst hP hw hK;obtain⟨f0,f1,f2,f3,f4,f5⟩:=hf it (by simp);have e:i=z.cps.size:=hg;subst e;exact(W X.A (I.ok.hd hc)).done s _ _ st λh' tk kk=>⟨rfl,I.turned (λb o hb e=>kk b o (by simpa using hb) e) f0 f1 f3 f4 f5⟩
 self:=λA i s Q E st h=>hself A i s Q E st h
def FM(te:TE):TI:=λσ H R=>te σ H λx H1=>∃z,x=.str z/\R (Its z) H1
theorem B7{te:TE}(hl:QE X e te):QI X tg e (FM te):=by
 refine⟨λpins s σ H R I h=>?_⟩;refine thn (hl.out pins s σ H _ I h) λv s1 ⟨x,H1,I1,r1,q1⟩=>?_
 obtain⟨z,rfl,q⟩:=q1;obtain⟨t,rfl⟩:=r1;have fin:∀(T:String) (o:Obj),(s1.heap.push o).IsStrIter s1.heap.objs.size T z t 0->Turn X.prog X.w X.K tg (Its z) [s1.heap.objs.size] s1.heap.objs.size (λi h=>h.IsStrIter s1.heap.objs.size T z t i)->
   PIE X pins σ tg R (.ref s1.heap.objs.size) { s1 with heap:=s1.heap.push o }:=by
  intro T o h0 hT;refine⟨s1.heap.objs.size,[s1.heap.objs.size],_,_,H1,rfl,I1.kept (t':=s1.toks) λb ob e=>GI _ e,hT,h0,λb hb=>?_,q⟩;have e:b=s1.heap.objs.size:=by simpa using hb
  subst e;exact I1.fpOk (GJ _) (I1.hok.fresh (GJ _))
 cases ha:z.cps.all (· < 128)
 ·exact wpAny_pyIter_wide ha (fin "str_iterator" _ ⟨_,G1 _ rfl,rfl,rfl⟩ (oQ (by decide) _ z t (λA hh=>Walks.strWide hh _ z t) λA i s Q E st h=>wpAny_pyIter_striter_wide st h))
 ·exact wpAny_pyIter_ascii ha (fin "str_ascii_iterator" _ ⟨_,G1 _ rfl,rfl,rfl⟩ (oQ (by decide) _ z t (λA hh=>Walks.strAscii hh _ z t) λA i s Q E st h=>wpAny_pyIter_striter_ascii st h))
theorem EI{H:Hp}{te:TE}{R:It->Hp->Prop}(h:te σ H λx H1=>∃z,x=.str z/\R (Its z) H1):FM te σ H R:=h
variable{o e:Expr}{to:TE}{t:TA}{apos cpos:Pos}
def B8(K:GH)(d:Int)(t:TA):TE:=λσ H Q=>t σ H λvs H1=>∃(l:Addr) (ns:List Int),vs=[.ref l]/\SqL K H1 l (ns.map Q8)/\∀m:Int,(ns=[]/\m=d\/m∈ns/\∀a∈ns,a<=m)->Q (.int m) H1
theorem sX {K:GH}{p kpos cp:Pos}{d:Int}(hc:X.calm=true) (hg:Gl X "max") (hm:X.mg "max" = none) (ha:QA X [e] t) (hn:bT e=true:=by rfl) (hK:X.K=K:=by rfl):QE X (.Call (.Name "max" p) [e] [⟨some "default",.Constant (.int d) j cp,kpos⟩] pos) (B8 K d t):=by
 subst hK;refine⟨λpins s σ H Q I h=>?_⟩;refine RA (dr I hg hm (by decide +kernel:bootBuiltins "max" = some (.builtin "max")) ?_);have he1:Rl [e] X.env=[(false,eval e X.env)]:=aK hn;refine callWith_kw (thn (ha.out pos pins s σ H _ I h) λus s1 hu=>?_) (by rw[he1];rfl) (by rw[he1];rfl);obtain⟨vs,H1,I1,r1,l,ns,rfl,hq,q⟩:=hu;obtain⟨u,rfl,ru⟩:=fg r1;cases ru;refine B0 (wpAny_Constant_int ?_);obtain⟨its,rv,pl,hz⟩:=I1.list hq;have hi:=bG rv;have hl:its.length=ns.length:=hi.length;refine HT.yT (λi=>ns.getD i 0) (I.ok.hd hc) (s:={ s1 with toks:=s1.toks+1 }) pl.isList (λi v hv=>?_) λv h' tk hmx kp=>?_
 ·obtain⟨t1,e1⟩:=HT.gL hi (i:=i) (GM.mp hv).1
  rw[GG,hv]at e1;exact⟨t1,e1⟩
 ·have I2:Inv X pins σ H1 { s1 with heap:=h',toks:=tk }:=I1.kept (t':=tk) kp
  rcases hmx with⟨h0,rfl⟩|⟨i,t1,hi1,rfl,hm1⟩
  ·exact⟨.int d,H1,I2,⟨_,rfl⟩,q d (.inl ⟨List.eq_nil_of_length_eq_zero ⋯,rfl⟩)⟩
  ·refine⟨.int (ns.getD i 0),H1,I2,⟨t1,rfl⟩,q _ (.inr ⟨?_,λa ha=>?_⟩)⟩
   ·rw[GG,GE ⋯]
    exact GV _
   ·obtain⟨m,hm2,rfl⟩:=J9.mp ha
    have:=hm1 m ⋯;dsimp only at this;rw[GG (l:=ns) (i:=m),GE hm2]at this;exact this
theorem EJ{K:GH}{d:Int}{H:Hp}{Q:VK}(h:t σ H λvs H1=>∃(l:Addr) (ns:List Int),vs=[.ref l]/\SqL K H1 l (ns.map Q8)/\∀m:Int,(ns=[]/\m=d\/m∈ns/\∀a∈ns,a<=m)->Q (.int m) H1):B8 K d t σ H Q:=h
end
section
variable{X:Cx}
def FN:R2:=λx y H Q=>∃i j,x=.str i/\y=.str j/\Q (.bl (decide (i.cps.toList<j.cps.toList))) H
theorem yV:QOp X (Rm .Lt) FN:=⟨qq⟩
def Gn(K:GH):R2:=λx y H Q=>∃a b ns ms,x=.ref a/\y=.ref b/\SqT K H a (ns.map Q8)/\SqT K H b (ms.map Q8)/\Q (.bl (HT.bC ms ns)) H
theorem EK{K:GH}(hu:X.A.units<cLine)(hK:X.K=K:=by rfl):QOp X (Rm .Gt) (Gn K):=by
 subst hK;refine⟨λpins s σ H x y v u Q I rx ry h=>?_⟩;obtain⟨a,b,ns,ms,rfl,rfl,ha,hb,q⟩:=h;cases rx;cases ry;obtain⟨its,r1,p1,_⟩:=I.tuple ha;obtain⟨its2,r2,p2,_⟩:=I.tuple hb;have i1:Rp its.toArray.toList ns:=bG r1;have i2:Rp its2.toArray.toList ms:=bG r2;exact HT.jX p1 p2 i1 i2 hu ⟨.bl (HT.bC ms ns),H,I,rfl,q⟩
end
theorem FO{i j:Str}{H:Hp}{Q:VK}(h:Q (.bl (decide (i.cps.toList<j.cps.toList))) H):FN (.str i) (.str j) H Q:=⟨i,j,rfl,rfl,h⟩
theorem sY(z b m:Nat):dg z b (m+1)=((z / b ^ m % b:Nat):Int)::dg z b m:=by
 unfold dg;rw[ML,Ig,IV];congr 1;apply Iu;intro j hj;have:=Hg.mp hj;show((z / b ^ (m+1 - 1 - (j+1)) % b:Nat):Int)=_
 rw[show m+1 - 1 - (j+1)=m - 1 - j by lia]
theorem xb{b:Nat}(hb:2<=b)(z y:Nat):∀m,HT.bC (dg z b m) (dg y b m)=decide (z % b ^ m<y % b ^ m)
 | 0=>by simp[dg,HT.fR,Nat.mod_one]
 | m+1=>by
  rw[sY,sY,HT.bt,xb hb z y m];have hp:0<b ^ m:=ME ⋯;have ez:z % b ^ (m+1)=z % b ^ m+b ^ m*(z / b ^ m % b):=by rw[Lb,Qn]
  have ey:y % b ^ (m+1)=y % b ^ m+b ^ m*(y / b ^ m % b):=by rw[Lb,Qn]
  rw[ez,ey];have h1:z % b ^ m<b ^ m:=LW _ hp;have h2:y % b ^ m<b ^ m:=LW _ hp;generalize z / b ^ m % b=q at *;generalize y / b ^ m % b=r at *;generalize z % b ^ m=u at *;generalize y % b ^ m=v at *;generalize b ^ m=p at *;by_cases e:q=r
  ·subst e
   rw[if_pos rfl];congr 1;apply propext;constructor<;>intro h<;>lia
  ·rw[if_neg ⋯]
   congr 1;apply propext;constructor
   ·intro h
    have h3:q+1<=r:=by lia
    have h4:p*(q+1)<=p*r:=Lm p h3;rw[Oc,Od]at h4;lia
   ·intro h
    apply LX;intro g;have h3:r+1<=q:=by lia
    have h4:p*(r+1)<=p*q:=Lm p h3;rw[Oc,Od]at h4;lia
theorem Spelt.lex{ns:List Int}(h:Spelt ns b zs m)(hb:2<=b){x y:Int}{z w:Nat}(hx:ns[i]? = some x)(hy:ns[j]? = some y)(hz:zs[i]? = some z)(hw:zs[j]? = some w):
  HT.bC (dg z b m) (dg w b m)=decide (x<y):=by
 obtain⟨h1,h2⟩:=h.at hb hx hz;obtain⟨h3,h4⟩:=h.at hb hy hw;rw[xb hb,OB h1,OB h3];obtain⟨lo,l1,l2⟩:∃lo,lo∈ns/\∀y∈ns,lo<=y:=by
  rcases h with⟨rfl,_,_⟩|⟨lo,hi,q1,_,q3,_⟩
  ·simp at hx
  ·exact⟨lo,q1,λy hy=>(q3 y hy).1⟩
 have e1:=h2 lo l1 l2;have e2:=h4 lo l1 l2;congr 1;apply propext;constructor<;>intro h<;>lia
theorem sZ{tb:List (Int×Nat)}(hb:∀z∈tb,1<=z.2/\z.2<=60){z w:Int×Nat}{x y:Int}(hz:tb[i]? = some z)(hw:tb[j]? = some w)(hx:(bY tb)[i]? = some x)(hy:(bY tb)[j]? = some y):
  x<y↔z.1*(w.2:Int)<w.1*(z.2:Int):=by
 unfold bY at hx hy;rw[GK,hz]at hx;rw[GK,hw]at hy;have ex:z.1*((fD (tb.map (·.2)) / z.2:Nat):Int)=x:=G9 hx;have ey:w.1*((fD (tb.map (·.2)) / w.2:Nat):Int)=y:=G9 hy;clear hx hy;have hzm:=G3 hz;have hwm:=G3 hw;have d1:z.2∣fD (tb.map (·.2)):=oo (Hk.mpr ⟨z,hzm,rfl⟩);have d2:w.2∣fD (tb.map (·.2)):=oo (Hk.mpr ⟨w,hwm,rfl⟩);have hL:0<fD (tb.map (·.2)):=oq λb h=>by
  obtain⟨z,hz,rfl⟩:=Hk.mp h;exact hb z hz
 have p1:=(hb z hzm).1;have p2:=(hb w hwm).1;generalize fD (tb.map (·.2))=L at *;obtain⟨k,rfl⟩:=d1;obtain⟨l,hl⟩:=d2;rw[Ml _ ⋯]at ex;rw[hl,Ml _ ⋯]at ey;subst ex ey;have hk:0<k:=Mm hL;have hl0:0<l:=Mm (hl▸hL);have hc:(z.2:Int)*(k:Int)=(w.2:Int)*(l:Int):=by rw[<-Lj,<-Lj,hl]
 have zp:(0:Int)<z.2:=by lia
 have wp:(0:Int)<w.2:=by lia
 have kp:(0:Int)<k:=by lia
 have hzk:(0:Int)<(z.2:Int)*(k:Int):=Oe zp kp
 -- both sides times z.2*w.2
 have e1:z.1*(k:Int)*((z.2:Int)*(w.2:Int))=z.1*(w.2:Int)*((z.2:Int)*(k:Int)):=by
  simp only[Pd,Qa,N4]
 have e2:w.1*(l:Int)*((z.2:Int)*(w.2:Int))=w.1*(z.2:Int)*((z.2:Int)*(k:Int)):=by
  rw[hc];simp only[Pd,Qa,N4]
 constructor
 ·intro h
  have:=LA h (Oe zp wp);rw[e1,e2]at this;exact LO this (Nw hzk)
 ·intro h
  have:=LA h hzk;rw[<-e1,<-e2]at this;exact LO this (Nw (Oe zp wp))
theorem xf:∀(a b:List Nat) (m:Nat),(∀c∈a,97<=c)->(∀c∈b,97<=c)->a.length<=m->b.length<=m->
  HT.bC (a.map (λc=>((c:Nat):Int) - 96)++GS (m - a.length) 0) (b.map (λc=>((c:Nat):Int) - 96)++GS (m - b.length) 0)=decide (a<b)
 | [],[],m,_,_,_,_=>by
  have e:∀n,HT.bC (GS n (0:Int)) (GS n 0)=false:=λn=>by
   induction n with
   | zero=>rfl
   | succ n ih=>rw[Ia,HT.bt,if_pos rfl];exact ih
  simp only[L7,La];rw[e];exact(decide_eq_false (O0 _)).symm
 | [],c::b,m,_,hb,_,hm=>by
  obtain⟨k,rfl⟩:∃k,m=k+1:=⟨m - 1,by simp at hm;lia⟩
  have:=hb c (Hj ..);show HT.bC (GS (k+1) 0) (((c:Int) - 96)::_)=_
  rw[Ia,HT.bt,if_neg ⋯,decide_eq_true ⋯];exact(decide_eq_true (List.nil_lt_cons c b)).symm
 | c::a,[],m,ha,_,hm,_=>by
  obtain⟨k,rfl⟩:∃k,m=k+1:=⟨m - 1,by simp at hm;lia⟩
  have:=ha c (Hj ..);show HT.bC (((c:Int) - 96)::_) (GS (k+1) 0)=_
  rw[Ia,HT.bt,if_neg ⋯,decide_eq_false ⋯];exact(decide_eq_false (λh=>nomatch h)).symm
 | c::a,d::b,m,ha,hb,h1,h2=>by
  obtain⟨k,rfl⟩:∃k,m=k+1:=⟨m - 1,by simp at h1;lia⟩
  have ih:=xf a b k (λx h=>ha x (Hd _ h)) (λx h=>hb x (Hd _ h)) (by simpa using h1) (by simpa using h2);have e1:k+1 - (c::a).length=k - a.length:=by simp
  have e2:k+1 - (d::b).length=k - b.length:=by simp
  rw[e1,e2,Ig,Ig,Me,Me,HT.bt];by_cases e:c=d
  ·subst e
   rw[if_pos rfl,ih];congr 1;apply propext;rw[MY];constructor
   ·exact λh=>.inr ⟨rfl,h⟩
   ·rintro(h|⟨_,h⟩)
    ·exact absurd h (Iw _)
    ·exact h
  ·rw[if_neg ⋯]
   congr 1;apply propext;rw[MY];constructor
   ·intro h;exact .inl ⋯
   ·rintro(h|⟨h,_⟩)
    ·lia
    ·exact absurd h e
end L2
namespace HT
open PySem PyProof.Rows PySem.W L2
section
variable{prog:Program}{w:World}{A:Around}{E:Value->Shared->Prop}{s:Shared}
end
section
variable{prog:Program}{w:World}{A:Around}{E:Value->Shared->Prop}{s:Shared}
end
end HT
namespace L2
open PySem PySem.Spec PyProof.Rows PySem.W
section
variable{X:Cx}{pins:List (Addr×Obj)}{σ:St}{H:Hp}{s:Shared}{h':Heap}
end
section
variable{X:Cx}{o e f:Expr}{td ty tx:TE}{pos apos cpos p:Pos}
end
end L2
namespace HT
open PySem PyProof.Rows PySem.W L2
section
variable{prog:Program}{w:World}{A:Around}{E:Value->Shared->Prop}{s:Shared}
end
section
variable{prog:Program}{w:World}{A:Around}{E:Value->Shared->Prop}{s:Shared}
end
section
variable{prog:Program}{w:World}{A:Around}{E:Value->Shared->Prop}{s:Shared}
end
section
variable{prog:Program}{w:World}{A:Around}{E:Value->Shared->Prop}{s:Shared}
end
end HT
namespace L2
open PySem PySem.Spec PyProof.Rows PySem.W
section
variable{X:Cx}{e:Expr}{t:TA}{p p2 pos pos2:Pos}{pins:List (Addr×Obj)}{σ:St}{H:Hp}{s:Shared}
end
section
variable{X:Cx}
end
def FP(K:Frag)(P:Params)(d:Addr)(kfs:List (Str×Addr)):Prop:=
 ∃(ts:List Tok) (ep:Nat),ts.length=kfs.length/\K.lookup d=some ⟨.type "dict",none,.dict ((kfs.zip ts).map λp=>(⟨JY P p.1.1,.str p.1.1 p.2,.ref p.1.2⟩:DictEntry)).toArray ep,#[]⟩
def Gp(d:Addr)(kfs:List (Str×Addr)):R2:=λx y H Q=>∃z f,x=.ref d/\y=.str z/\kfs.lookup z=some f/\Q (.ref f) H
theorem oR{P:Params}{z:Str}{f:Addr}:∀(kfs:List (Str×Addr)) (ts:List Tok),ts.length=kfs.length->kfs.lookup z=some f->
  (((kfs.zip ts).map λp=>(⟨JY P p.1.1,.str p.1.1 p.2,.ref p.1.2⟩:DictEntry)).find? λe=>Jo z e.key).map (·.val)=some (.ref f)
 | [],_,_,h=>by cases h
 | (y,g)::kfs,[],hl,_=>by cases hl
 | (y,g)::kfs,t::ts,hl,h=>by
  rw[IJ,Ig,List.find?_cons];rw[Ma]at h;by_cases e:z=y
  ·subst e
   rw[beq_self_eq_true]at h;cases h;have:Jo z (Lr z t)=true:=by simp[Jo]
   simp only[this];rfl
  ·rw[beq_false_of_ne e]at h
   have:Jo z (Lr y t)=false:=by
    simp only[Jo]
    first
     | exact beq_false_of_ne e
     | exact beq_false_of_ne (Hl e)
     | simpa using e
     | simpa using Hl e
   simp only[this];exact oR kfs ts (by simpa using hl) h
section
variable{X:Cx}
theorem EL{d:Addr}{kfs:List (Str×Addr)}(hd:FP X.K X.w.params d kfs):QIx X (Gp d kfs):=by
 refine⟨λvalue slice pins s σ H x y v u Q I rx ry h hs=>?_⟩;obtain⟨z,f,rfl,rfl,hl,q⟩:=h;cases rx;obtain⟨t,rfl⟩:=ry;obtain⟨ts,ep,hts,hK⟩:=hd;have ho:=I.kIn _ _ hK;have hm:s.heap.MapOf (KN X.prog X.w) d (λk=>findBy (KN X.prog X.w).is ((kfs.zip ts).map λp=>(⟨JY X.w.params p.1.1,.str p.1.1 p.2,.ref p.1.2⟩:DictEntry)).toArray k):=by
  refine⟨_,_,ep,ho,⟨rfl,rfl,rfl⟩,rfl,λe he=>?_,λ_=>rfl⟩;obtain⟨p,hp,rfl⟩:=Hk.mp (List.mem_toArray.mp he);exact⟨p.1.1,by simp[KN,Jo],rfl⟩
 refine subscriptTail_builtinR (x:=.ref f) hm.typeIs slot_dict_getitem.lookup (wpAny_getItem_of (Q:=λr s'=>r=.ref f/\EP X pins σ Q r s') (knd:=KN X.prog X.w) (k:=z) (by simp[KN,Jo]) hm (v:=.ref f) ?_ ⟨rfl,.ref f,H,I.tok _,rfl,q⟩) hs;show findBy _ _ _=_
 unfold findBy;rw[List.find?_toArray];exact oR kfs ts hts hl
def xg(R:V->Sp->Prop)(E:XK)(tf:TE)(t:TA):TE:=λσ H Q=>tf σ H λv H1=>∃sp,R v sp/\t σ H1 λvs H2=>sp vs H2 Q E
theorem vS{R:V->Sp->Prop}{E:XK}{tf:TE}{p:Pos}{es:List Expr}(hf:QE X (.Name x p) tf)
  (hR:∀v sp,R v sp->∃f fd ps CX k,v=.ref f/\FnOk X.prog X.w X.K X.mg X.base CX k f fd ps sp/\Room k X.A/\ID X.K (.ref f)=true/\Binds X.K fd ps []/\dc CX X E)
  (ha:QA X (e::es) t) (hn:(e::es).all bT=true:=by rfl):QE X (.Call (.Name x p) (e::es) [] pos) (xg R E tf t):=by
 rw[KM,Ip]at hn;refine⟨λpins s σ H Q I h=>?_⟩;refine RA (thn (hf.out pins s σ H _ I h) λu s1 hu=>?_);obtain⟨v,H1,I1,ru,sp,hr,q⟩:=hu;obtain⟨f,fd,ps,CX,k,rfl,F,hro,hk,hb,hx⟩:=hR v sp hr;cases ru;refine Kp (h₀:=X.base) I1.ok.mod.kin hk (thn (ha.out pos pins s1 σ H1 _ I1 q) λus s2 hu=>?_) (aK hn.1) (fT hn.2);obtain⟨vs,H2,I2,r,q⟩:=hu;exact⟨I2.kIn,nS (dvs:=[]) (ds:=[]) F hro hb .nil hx I2 r (by rw[IB];exact q)⟩
theorem C8{R:V->Sp->Prop}{E:XK}{tf:TE}{H:Hp}{Q:VK}(h:tf σ H λv H1=>∃sp,R v sp/\t σ H1 λvs H2=>sp vs H2 Q E):xg R E tf t σ H Q:=h
def yW(K:Frag):V->List V->Hp->VK->Prop:=λx xs H Q=>∃z l ys,x=.str z/\xs=[.ref l]/\SqL K H l (ys.map Ra)/\(ys.map (·.length)).sum+ys.length*z.length<=16777216/\Q (.str (OC z ys)) H
theorem yX:MtR X "str.join" (yW X.K):=by
 intro pins s σ H x xs v us Q I rx rs h;obtain⟨z,l,ys,rfl,rfl,hq,hs,q⟩:=h;obtain⟨t,rfl⟩:=rx;obtain⟨u,rfl,ru⟩:=fg rs;cases ru;obtain⟨its,rv,pl,hz⟩:=I.list hq;exact join_list pl.isList (jZ (by simpa using rv)) hs λt' k=>⟨.str (OC z ys),H,I.tok k,⟨_,rfl⟩,q⟩
variable{o e:Expr}{to:TE}{t:TA}{apos cpos:Pos}
theorem yY {K:GH}(ho:QE X o to) (ha:QA X [e] t) (hbase:Rw o ("join" : Str) X.env (eval o X.env)=eval o X.env:=by rfl) (hline:(apos.endLine == cpos.line)=true:=by rfl) (hn:bT e=true:=by rfl) (hK:X.K=K:=by rfl) :
  QE X (.Call (.Attribute o "join" apos) [e] [] cpos) (tBM K "str" (yW K) to t):=by subst hK;exact⟨lB PySem.F.plainAttrs_str PySem.F.slot_str_join PySem.F.type_str_join yX ho.out ha.out hbase hline hn⟩
end
section
variable{X:Cx}{pins:List (Addr×Obj)}{σ:St}{H:Hp}{s:Shared}
variable{N frs:List Str}{x qual:Str}{ix:List Nat}{scope:Scope}{cl:List (Str×Addr)}{params:Arguments}{body:Expr}
section
variable{te:TE}{t:TA}{p pos kpos lpos:Pos}{e:Expr}{k:Nat}{cc P:Addr}
end
end
end L2
namespace L2
open PySem PySem.Spec PyProof.Rows
section
variable{qs:List (Nat×Nat)}{b:Nat}{st:HW}
end
section
variable{X:Cx}{o e f:Expr}{td ty tx:TE}{pos apos cpos p:Pos}
end
section
variable{X:Cx}{o tg:Expr}{td:TE}{pos apos cpos p:Pos}
end
end L2
namespace HT
open PySem PyProof.Rows PySem.W L2
section
variable{prog:Program}{w:World}{A:Around}{E:Value->Shared->Prop}{s:Shared}
end
end HT
namespace L2
open PySem PySem.Spec PyProof.Rows
section
variable{X:Cx}
end
section
variable{X:Cx}{N tgs frs:List Str}{ix:List Nat}{scope:Scope}{cl:List (Str×Addr)}{xc:Str}
end
end L2
namespace HT
open PySem PyProof.Rows PySem.W L2
section
variable{prog:Program}{w:World}{A:Around}{E:Value->Shared->Prop}{h:Heap}{g:Array GenState}{d:Drawn}{t:Nat}{os:OsState}
variable{nm q:Str}{C N f:Addr}{bs bm bmB:List Value}{hdct:Bool}{sn:List Str}{sub:List Value}{ab:Bool}{col:Option Bool}{dd:Option Addr}{k0 k1 k2 k3 k5:Option Value}{B Bn newId nid initId inN:String}{bmN:List Value}
end
section
variable{M:Model}{A:Around}{E:Value->Shared->Prop}{env:Env}
variable{nm q:Str}{C N:Addr}{bs bm:List Value}{hdct:Bool}{sn:List Str}{sub:List Value}{ab:Bool}{col:Option Bool}{dd:Option Addr}{k0 k1 k2 k3 k5:Option Value}{newId:String}
end
end HT
namespace L2
open PySem PySem.Spec PyProof.Rows
section
variable{P:Program}{w:World}{K:GH}{mg:Str->Option Value}{base:Heap}{N:List Str}{qual:Str}{scope:Scope}{f:Addr}{cd:Value}{A:Around}{outer:List Env}{s0:Shared}{H0:Hp}{E:XK}
end
end L2
namespace HT
open PySem PyProof.Rows PySem.W L2
section
variable{prog:Program}{w:World}{A:Around}{E:Value->Shared->Prop}{h:Heap}{g:Array GenState}{d:Drawn}{t:Nat}{os:OsState}
variable{C f e t0:Addr}{K:Frag}{dx:Option Addr}{u:Value}
end
end HT
namespace L2
open PySem PySem.Spec PyProof.Rows PySem.W
section
variable{X:Cx}{o value e:Expr}{es:List Expr}{f x:Str}{pos pos' apos np:Pos}{ta tv:TE}{t:TA}{S:Addr}
end
section
variable{X:Cx}{pins:List (Addr×Obj)}{σ:St}{H:Hp}{s:Shared}
end
section
variable{X:Cx}{e:Expr}{es:List Expr}{t:TA}{np cpos pos p:Pos}{x:Str}{C f:Addr}
end
end L2
namespace HT
open PySem PyProof.Rows PySem.W L2
end HT
namespace L2
open PySem PySem.Spec PyProof.Rows PySem.W
section
variable{D:Ends}{Ex:XW}{σ:St}{H:Hp}{Q:VK}{K:Frag}{C:Addr}{t:TA}{ta tv:TE}{f:Str}{sp:Sp}{E:XK}
end
end L2
namespace L2
open PySem PySem.Spec PyProof.Rows
section
variable{X:Cx}
end
end L2
namespace L2
open PySem PySem.Spec PyProof.Rows PySem.Builtin PySem.Builtin.Str
section
variable{X:Cx}
variable{o e a b:Expr}{rest:List Expr}{to ta tb:TE}{t:TA}{apos cpos pos:Pos}
end
section
variable{P:Program}{w:World}{K:GH}{mg:Str->Option Value}{base:Heap}
end
end L2
namespace HT
open PySem PyProof.Rows PySem.W L2
noncomputable def adv(m:Nat)(p:Kz):Kz:=
 if p.more > 0 then{ j:=p.j+1,more:=p.more - 1,i:=p.i,perturb:=p.perturb,dummy:=p.dummy }
 else{ j:=(KO m p.i p.perturb).1,more:=OS m (KO m p.i p.perturb).1 - (KO m p.i p.perturb).1,i:=(KO m p.i p.perturb).1,perturb:=(KO m p.i p.perturb).2,dummy:=p.dummy }
noncomputable def trl(m:Nat)(p:Kz):Nat->Kz
 | 0=>p
 | k+1=>trl m (adv m p) k
noncomputable def start(m:Nat)(h:Int):Kz:={ j:=KP h % (m+1),more:=OS m (KP h % (m+1)) - KP h % (m+1),i:=KP h % (m+1),perturb:=KP h,dummy:=none }
section
variable{prog:Program}{w:World}{A:Around}{E:Value->Shared->Prop}{s:Shared}
end
section
variable{prog:Program}{w:World}{A:Around}{E:Value->Shared->Prop}{s:Shared}
end
section
variable{prog:Program}{w:World}{A:Around}{E:Value->Shared->Prop}{s:Shared}
end
section
variable{prog:Program}{w:World}{A:Around}{E:Value->Shared->Prop}{s:Shared}
end
end HT
namespace L2
open PySem PySem.Spec PyProof.Rows PySem.W
section
variable{X:Cx}{e:Expr}{t:TA}{p p2 pos pos2:Pos}{pins:List (Addr×Obj)}{σ:St}{H:Hp}{s:Shared}
end
end L2
namespace L2
open PySem PySem.Spec PyProof.Rows
end L2
namespace L2
open PySem PySem.Spec PyProof.Rows PySem.W
section
variable{X:Cx}{e o:Expr}{to te:TE}{t:TA}{pos apos cpos:Pos}
end
end L2
namespace L2
open PySem PySem.Spec PyProof.Rows
noncomputable def st0:List Str->List V->St
 | [],_=>[]
 | _::N,v::vs=>some v::st0 N vs
 | _::N,[]=>none::st0 N []
theorem tj:∀(N:List Str) (vs:List V),vs.length<=N.length->start N vs=st0 N vs
 | [],[],_=>rfl
 | x::N,[],h=>by
  have:=tj N [] (GW _);unfold st0;rw[<-this];rfl
 | x::N,v::vs,h=>by
  have:=tj N vs (Nat.le_of_succ_le_succ h);unfold st0;rw[<-this];unfold start;simp
theorem nwD{H:Hp}(s:Same H0 H)(h:H p=none)(o:HO):∃H1,upd H p o=H1/\Same H0 H1/\Same H H1/\H1 p=some o:=⟨_,rfl,s.new h,(Rc H).new h,af⟩
theorem nwS{H:Hp}(s:Same H0 H)(h:H p=none)(o:HO):∃H1,upd H p o=H1/\Same H0 H1/\H1 p=some o:=⟨_,rfl,s.new h,af⟩
theorem nwR{H:Hp}(h:H p=none)(o:HO):∃H1,upd H p o=H1/\Same H H1/\H1 p=some o:=⟨_,rfl,(Rc H).new h,af⟩
theorem nwT{H:Hp}(s:St2 a H0 H)(h:H p=none)(o:HO):∃H1,upd H p o=H1/\St2 a H0 H1/\H1 p=some o:=⟨_,rfl,s.new h,af⟩
theorem nwV{H:Hp}(s:St2 a H0 H)(h:H p=none)(o:HO):∃H1,upd H p o=H1/\St2 a H0 H1/\Same H H1/\H1 p=some o:=⟨_,rfl,s.new h,(Rc H).new h,af⟩
theorem owS{H:Hp}(s:Same H0 H)(h:H0 p=none)(o:HO):∃H1,upd H p o=H1/\Same H0 H1/\H1 p=some o/\∀q u,q≠p->H q=some u->H1 q=some u:=⟨_,rfl,s.own h,af,λq u n e=>by rw[ar n];exact e⟩
noncomputable abbrev Ent:=Str×Stmt×List Str
noncomputable abbrev en(x:Str)(s:Stmt)(p:List Str):Ent:=(x,s,p)
def BP(e:Ent):Prop:=∀(kV doc pm:Value) (an:Option Addr) (cdv ct:Value) (us:List Value),us.length=e.2.2.length->bindArgs (Jd e.1 e.1 (dW e.2.1) (cU e.2.1) (aM e.2.1) .none kV doc pm an cdv ct) ⟨us,[]⟩=pure (e.2.2.zip us)
noncomputable def AB:List Ent->Prop
 | []=>True
 | e::r=>BP e/\AB r
theorem AB.get:∀{l:List Ent}{i:Nat}{e:Ent},AB l->l[i]? = some e->BP e
 | [],i,e,_,h=>by simp at h
 | a::l,0,e,⟨b,_⟩,h=>by cases h;exact b
 | a::l,i+1,e,⟨_,b⟩,h=>AB.get (l:=l) b h
def FT(K:GH)(mg:Str->Option Value)(f:Addr)(d:FuncData)(x:Str)(s:Stmt)(p:List Str):Prop:=mg x=some (.ref f)/\Fun K x x s f d/\Binds K d p []
noncomputable def Al(K:GH):List Ent->List Addr->List FuncData->Prop
 | [],_,_=>True
 | (x,s,_)::r,f::fs,d::ds=>(Hw K mainGlobals x=some (some (.ref f))/\Fun K x x s f d)/\Al K r fs ds
 | _,_,_=>False
theorem Al.nil{K:GH}:Al K [] [] []:=trivial
theorem Al.cons{K:GH}{s:Stmt}{p:List Str}{f:Addr}{d:FuncData}{r:List Ent}{fs:List Addr}{ds:List FuncData}(h:Hw K mainGlobals x=some (some (.ref f)))(g:Fun K x x s f d)(k:Al K r fs ds):Al K ((x,s,p)::r) (f::fs) (d::ds):=⟨⟨h,g⟩,k⟩
theorem Al.get{K:GH}{f0:Addr}{d0:FuncData}{x:Str}{s:Stmt}{p:List Str}:∀{l:List Ent}{fs:List Addr}{ds:List FuncData}{i:Nat},Al K l fs ds->l[i]? = some (x,s,p)->Hw K mainGlobals x=some (some (.ref (fs.getD i f0)))/\Fun K x x s (fs.getD i f0) (ds.getD i d0)
 | [],_,_,_,_,h=>by simp at h
 | (_,_,_)::l,f::fs,d::ds,0,⟨a,_⟩,h=>by cases h;exact a
 | (_,_,_)::l,f::fs,d::ds,i+1,⟨_,a⟩,h=>Al.get (l:=l) (fs:=fs) (ds:=ds) (i:=i) a h
theorem Al.ft{K:GH}{mg:Str->Option Value}{l:List Ent}{fs:List Addr}{ds:List FuncData}(X:K.In h)(G:h.Ns mainGlobals mg)(al:Al K l fs ds)(ab:AB l)(f0:Addr)(d0:FuncData)(i:Nat){s:Stmt}{p:List Str}(e:l[i]? = some (x,s,p)):
  FT K mg (fs.getD i f0) (ds.getD i d0) x s p:=
 let g:=al.get (f0:=f0) (d0:=d0) e
 ⟨Kk X G g.1,g.2,g.2.binds (AB.get ab e)⟩
section
variable{P:Program}{w:World}{K:GH}{mg:Str->Option Value}{base:Heap}
theorem okT{st:Stmt}{f:Addr}{fd:FuncData}{N ps:List Str}{sp:Sp}(F:FT K mg f fd x st ps)
  (hbody:∀{cdv:Value}{A:Around}{outer:List Env}{s:Shared}{vs:List V}{E:XK}(H:Hp) (Q:VK),Room k (A.deeper (envOfC x (aM st) s.heap.objs.size f cdv))->N.Nodup->sp vs H Q E->
   ∃t,QB (uJ CX0 P w K mg base N x (aM st) f cdv A outer s H E).nox (cU st) t/\t { nx:=λ_ H'=>Q .non H',rt:=Q } (st0 N vs) H)
  (S:FnScope N ps (aM st):=by exact⟨rfl,rfl,rfl,by decide +kernel,rfl,by decide +kernel,by decide +kernel⟩)
  (len:∀{vs H Q E},sp vs H Q E->vs.length=ps.length:=by intro _ _ _ _ h;repeat (first|(obtain⟨rfl,_⟩:=h;rfl)|obtain⟨_,h⟩:=h)):FnOk P w K mg base CX0 (k+1) f fd ps sp:=
 F.2.1.okQ S (λ_ _ _ _ h=>len h) λcdv A outer s H vs Q E hr h=>by
  rw[tj N vs (by rw[len h,<-S.pre,G5];exact Oh ..)];exact hbody H Q hr S.nd h
end
section
variable{X:Cx}{e:Expr}{es:List Expr}{te:TE}{t:TA}{x:Str}{p pos:Pos}{i:Nat}{j k:Nat}{f:Addr}{fd:FuncData}{ps:List Str}{sp:Sp}{st:Stmt}
theorem aC (F:FnOk X.prog X.w X.K X.mg X.base CX0 j f fd ps sp) (hr:Room k X.A) (h:FT X.K X.mg f fd x st ps) (ha:QA X (e::es) t) (hd:j<=k:=by decide) (hg:Gl X x:=by rfl) (hn:(e::es).all bT=true:=by rfl) (hdb:(x == ("__debug__" : Str))=false:=by decide) :
  QE X (.Call (.Name x p) (e::es) [] pos) (qA sp [] E0 t):=mW F (hr.mono hd) hg h.1 h.2.1.kp h.2.2 fh ha hn hdb
noncomputable def ndB:List Str->Bool
 | []=>true
 | x::r=>!r.elem x && ndB r
theorem xh:∀{l:List Str},ndB l=true->l.Nodup
 | [],_=>.nil
 | x::r,h=>by
  unfold ndB at h;rw[Ip]at h;refine HQ.mpr ⟨λz=>?_,xh h.2⟩;rw[List.elem_eq_true_of_mem z]at h;exact absurd h.1 (by decide)
theorem aH(he:QE X e te)(hN:X.N.Nodup:=by assumption)(hi:X.N[i]? = some x:=by rfl)(hx:Loc X.env.scope x:=by first|exact .inl rfl|exact .inr rfl)(hs:RT e (some (.Name x pos')) pos.line X.env=pure false:=by rfl)(hf:X.fn x=true\/X.env.scope.names.lookup x=some .local:=by first|exact .inl rfl|exact .inr rfl|assumption):
  QS X (.Assign [.Name x pos'] e pos) (qf te (fz i)):=Bs hN hi hx he hs hf
theorem aD(hN:X.N.Nodup:=by first|assumption|exact xh (by kernel_rfl))(hi:X.N[i]? = some x:=by rfl)(hx:Loc X.env.scope x:=by first|exact .inl rfl|exact .inr rfl)(hf:X.fn x=true\/X.env.scope.names.lookup x=some .local:=by first|exact .inl rfl|exact .inr rfl|assumption):QG X (.Name x pos) (fz i):=yw hN hi hx hf
end
end L2
set_option maxHeartbeats 0
namespace Fs
open PySem PySem.Spec PyProof.Rows L2
local macro_rules
 | `(tactic| walk_at "s")=>`(tactic| exact ⟨rfl,rfl,rfl,by decide +kernel,rfl,by decide +kernel,by decide +kernel⟩)
local macro_rules
 | `(tactic| nofun)=>do
  let q ←("Ff Fg DW Fh DX DY F0 DZ GB Fi F5 Fj D0 D1 GC F8 Ga Gb CS Fp Ee Fq CT CU GD Fk Fl Ft Ef CV Eg Gc D3 Fm D4 Fn Fo F1 ki Gf Gg Eh Ek Fx C3 FH Ep C1 C4 C5 C6 FI FG Eo C7 C0 FD FE Gi En BD CW FJ ED zZ EE EF FC Et Er Ez EB EA Gh cR EI EJ FO C8".splitOn " ").foldrM (fun n (a:Lean.TSyntax `tactic)=>`(tactic| first | (with_reducible refine $(Lean.mkIdent (QM n)) ?_) | $a:tactic)) (←`(tactic| fail))
  `(tactic| (repeat (first | $q:tactic|(with_reducible refine in_xset ?_;dsimp only[HM])|(with_reducible refine uV ?_;dsimp only[HM])|((with_reducible show Dh _ _ _ _);refine⟨_,rfl,?_⟩)|(with_reducible refine D2 ?c ?_;(case c=>first|(show(0:Int)<_;omega)|exact D5 (by omega) (by omega)|exact Gd (by omega) (by omega)|exact cdivP (by omega) (by omega) (by omega)|exact D6 (by omega) (by omega)|exact Ea (by omega) (by omega)|exact Ge (by decide) (by decide) (by decide)))|(with_reducible refine Bi (by first|assumption|exact af) ?_;refine⟨_,rfl,?_⟩)|(with_reducible refine yp (by first|assumption|exact af) ?_;refine⟨_,rfl,?_⟩)|(with_reducible refine yq (by first|assumption|exact af) ?_;refine⟨_,rfl,?_⟩;dsimp only[Int.reduceToNat,HM])|(with_reducible refine yy ?_;dsimp only[HM])|((with_reducible show Du _ _ _ _ _ _);refine⟨_,rfl,?_⟩))))
def top(i:Nat):Stmt:=GL.main.body.getD i (.Pass ⟨0,0,0,0⟩)
noncomputable abbrev cW:Stmt:=de (top 51) 0
noncomputable abbrev cN:Stmt:=de (top 51) 1
noncomputable abbrev d8:Stmt:=de (top 51) 2
noncomputable abbrev gT:Stmt:=de (top 51) 3
noncomputable abbrev dk:Stmt:=de (top 55) 0
noncomputable abbrev fK:Stmt:=de (top 55) 1
noncomputable abbrev bZ:Stmt:=de (top 55) 2
noncomputable abbrev ee:Stmt:=de (top 55) 3
noncomputable abbrev ef:Stmt:=de (top 55) 4
noncomputable abbrev jh:Stmt:=de (top 55) 5
noncomputable abbrev gU:Stmt:=de (top 55) 6
noncomputable abbrev ij:Stmt:=top 74
set_option genSizeOfSpec false in
set_option genInjectivity false in
structure Ad where
 f:Nat->Addr
 d:Nat->FuncData
 cZ:Addr
 cY:FuncData
 cP:Addr
 cO:FuncData
 eP:Addr
 eK:FuncData
 ib:Addr
 g9:FuncData
 dq:Addr
 dm:FuncData
 fM:Addr
 fL:FuncData
 cj:Addr
 cg:FuncData
 eQ:Addr
 eN:FuncData
 eR:Addr
 eO:FuncData
 jt:Addr
 js:FuncData
 ic:Addr
 ia:FuncData
 CK:Addr
 CJ:FuncData
 cc:Addr
 pt:Addr
 bs:Heap
 wd:World
 j5:Addr
 aA:Addr
 aL:Addr
 fN:Tok
noncomputable def tab:List Ent:=[en "counts" (top 1) ["row","base"],en "begins" (top 2) ["counts"],en "many_columns" (top 3) ["rows"],en "is_parted" (top 4) ["often"],en "order_by_figure" (top 5) ["row","base"],en "parts_of" (top 7) ["first","often","column"],en "from_first" (top 8) ["rows","base"],en "from_last" (top 10) ["rows","base"],en "is_order" (top 17) ["thing"],en "check_order" (top 18) ["thing","many"],en "own_copy" (top 19) ["thing"],en "put" (top 20) ["things","order"],en "told_order" (top 21) ["rows"],en "shows_order" (top 22) ["rows","order"],en "runs" (top 24) ["rows"],en "merged" (top 25) ["one","other"],en "merged_places" (top 26) ["rows","one","other"],en "merging_round" (top 27) ["lengths"],en "ahead_of_runs" (top 28) ["lengths"],en "by_runs" (top 29) ["rows"],en "many_figures" (top 31) ["n","base"],en "figures" (top 32) ["n","base","many"],en "common_measure" (top 35) ["one","other"],en "least_bottom" (top 36) ["parts"],en "whole_numbers" (top 37) ["parts"],en "number_rows" (top 38) ["numbers","base"],en "text_row" (top 39) ["text","columns"],en "text_rows" (top 40) ["texts"],en "spelled" (top 41) ["kind","keys","base"],en "last_done" (top 43) ["rows","base"],en "first_done" (top 44) ["rows","base"],en "runs_done" (top 45) ["rows","base"],en "ordered" (top 47) ["way","kind","keys","base"],en "check_rising" (top 49) ["lists"],en "place_among" (top 50) ["heads","head"],en "many_merged" (top 52) ["lists"],en "is_due" (top 54) ["lengths"],en "_law_tape" (top 57) ["_law_script","_law_k"],en "_law_draw" (top 58) ["_law_tape_here","_law_many_here"],en "_law_many" (top 59) ["_law_tape_here","_law_k"],en "_law_base" (top 60) ["_law_tape_here"],en "_law_number" (top 61) ["_law_tape_here"],en "_law_lowest" (top 62) ["_law_top","_law_bottom"],en "_law_fraction" (top 63) ["_law_tape_here"],en "_law_text" (top 64) ["_law_tape_here"],en "_law_key" (top 65) ["_law_tape_here","_law_kind"],en "_law_keys" (top 66) ["_law_tape_here","_law_kind","_law_many_here"],en "_law_same" (top 67) ["_law_found","_law_due"],en "_law_case" (top 68) ["_law_tape_here","_law_k"],en "_law_ahead" (top 69) ["_law_kind","_law_one","_law_other"],en "_law_rises" (top 70) ["_law_kind","_law_keys_here","_law_order"],en "_law_cuts" (top 71) ["_law_tape_here","_law_many_here"],en "_law_poured" (top 72) ["_law_tape_here","_law_rows"],en "_law_merged" (top 73) ["_law_tape_here","_law_rows"]]
structure Tx (K:GH) (mg:Str->Option Value) (t:Ad):Prop where
 fn:∀(i:Nat){x:Str}{s:Stmt}{p:List Str},tab[i]? = some (x,s,p)->FT K mg (t.f i) (t.d i) x s p
 iz:Mk K t.aA t.cZ
 iw:Fun K "__init__" "Merge.__init__" cW t.cZ t.cY
 iA:Binds K t.cY ["self","lists"] []
 dH:Meth K t.aA "show_head" t.cP
 gQ:Fun K "show_head" "Merge.show_head" cN t.cP t.cO
 dI:Binds K t.cO ["self","number"] []
 gY:Meth K t.aA "next" t.eP
 mC:Fun K "next" "Merge.next" d8 t.eP t.eK
 gZ:Binds K t.eK ["self"] []
 xr:Meth K t.aA "left" t.ib
 xp:Fun K "left" "Merge.left" gT t.ib t.g9
 xu:Binds K t.g9 ["self"] []
 jq:Mk K t.aL t.dq
 jo:Fun K "__init__" "Pour.__init__" dk t.dq t.dm
 jr:Binds K t.dm ["self"] []
 nK:Meth K t.aL "pour" t.fM
 nJ:Fun K "pour" "Pour.pour" fK t.fM t.fL
 nL:Binds K t.fL ["self","rows"] []
 eH:Meth K t.aL "merge_last_two" t.cj
 eG:Fun K "merge_last_two" "Pour.merge_last_two" bZ t.cj t.cg
 eJ:Binds K t.cg ["self"] []
 mF:Meth K t.aL "heaps" t.eQ
 mD:Fun K "heaps" "Pour.heaps" ee t.eQ t.eN
 mH:Binds K t.eN ["self"] []
 mG:Meth K t.aL "order" t.eR
 mE:Fun K "order" "Pour.order" ef t.eR t.eO
 mI:Binds K t.eO ["self"] []
 zT:Meth K t.aL "rows" t.jt
 zS:Fun K "rows" "Pour.rows" jh t.jt t.js
 zU:Binds K t.js ["self"] []
 xt:Meth K t.aL "moves" t.ic
 xq:Fun K "moves" "Pour.moves" gU t.ic t.ia
 xw:Binds K t.ia ["self"] []
 Fb:Fun K "law" "law" ij t.CK t.CJ
 p9:mg "abs" = none
 qa:mg "all" = none
 cw:mg "bool" = none
 cC:mg "enumerate" = none
 gw:mg "int" = none
 ao:mg "isinstance" = none
 bz:mg "len" = none
 cq:mg "list" = none
 nN:mg "max" = none
 mJ:mg "min" = none
 uk:mg "ord" = none
 cz:mg "range" = none
 gx:mg "sorted" = none
 fO:mg "str" = none
 mK:mg "sum" = none
 bu:mg "tuple" = none
 nO:mg "zip" = none
 Gz:(t.d 12).code=.ref t.cc
 GA:KS K t.cc t.pt=true
 Gy:t.bs.BuiltinsAt mg t.pt
 CL:mg "DONE" = some (.ref t.j5)
 wG:FP K t.wd.params t.j5 [("last",(t.f 29)),("first",(t.f 30)),("runs",(t.f 31))]
 wF:mg "Merge" = some (.ref t.aA)
 zV:mg "Pour" = some (.ref t.aL)
 bR:Cls K t.aL
 ck:NoAttr K t.aL "came"
 bg:NoAttr K t.aL "heaped"
 cS:NoAttr K t.aL "moved"
 bW:Cls K t.aA
 cI:NoAttr K t.aA "lists"
 cu:NoAttr K t.aA "marks"
 bJ:NoAttr K t.aA "heads"
 nM:mg "TEXT_BASE" = some (.int 27 t.fN)
theorem tw:bootBuiltins "abs" = some (.builtin "abs"):=by decide +kernel
theorem tD:bootBuiltins "all" = some (.builtin "all"):=by decide +kernel
theorem bQ:bootBuiltins "bool" = some (.type "bool"):=by decide +kernel
theorem eC:bootBuiltins "int" = some (.type "int"):=by decide +kernel
theorem ai:bootBuiltins "isinstance" = some (.builtin "isinstance"):=by decide +kernel
theorem aP:bootBuiltins "len" = some (.builtin "len"):=by decide +kernel
theorem cy:bootBuiltins "list" = some (.type "list"):=by decide +kernel
theorem xi:bootBuiltins "max" = some (.builtin "max"):=by decide +kernel
theorem l6:bootBuiltins "min" = some (.builtin "min"):=by decide +kernel
theorem xj:bootBuiltins "ord" = some (.builtin "ord"):=by decide +kernel
theorem tE:bootBuiltins "sorted" = some (.builtin "sorted"):=by decide +kernel
theorem dQ:bootBuiltins "str" = some (.type "str"):=by decide +kernel
theorem l7:bootBuiltins "sum" = some (.builtin "sum"):=by decide +kernel
theorem aZ:bootBuiltins "tuple" = some (.type "tuple"):=by decide +kernel
theorem sc_told_order:FnScope ["rows"] ["rows"] (aM (top 21)):=by walk_at "s"
theorem sc_Merge___init__:FnScope ["self","lists","number"] ["self","lists"] (aM cW):=by walk_at "s"
theorem sc_Merge_show_head:FnScope ["self","number","rows","mark","head"] ["self","number"] (aM cN):=by walk_at "s"
theorem sc_Merge_next:FnScope ["self","row","number"] ["self"] (aM d8):=by walk_at "s"
theorem sc_Pour___init__:FnScope ["self"] ["self"] (aM dk):=by walk_at "s"
theorem sc_Pour_pour:FnScope ["self","rows","ahead","moves"] ["self","rows"] (aM fK):=by walk_at "s"
theorem sc_Pour_merge_last_two:FnScope ["self","last"] ["self"] (aM bZ):=by walk_at "s"
theorem sc_Pour_heaps:FnScope ["self"] ["self"] (aM ee):=by walk_at "s"
theorem sc_Pour_order:FnScope ["self","places","heap"] ["self"] (aM ef):=by walk_at "s"
theorem tF:FnScope ["_law_found","_law_due"] ["_law_found","_law_due"] (aM (top 67)):=by walk_at "s"
theorem sc_law:FnScope ["_law_script","_law_k","_law_tape_here","_law_kind","_law_keys_here","_law_base_here","_law_own","_law_rows","_law_due","_law_orders","_law_way"] ["_law_script"] (aM ij):=by walk_at "s"
section
variable{P:Program}{w:World}{K:GH}{mg:Str->Option Value}{base:Heap}{t:Ad}
theorem cH(r:List Nat):NV r=(bo r).map Q8:=lI r
section
variable{K:GH}{H:Hp}{Q:VK}
theorem kR{lo hi:Option Int}(h1:H a=some (.lst xs))(h:∀p H',H p=none->Same H H'->H' p=some (.lst (jz xs lo hi))->Q (.ref p) H'):CQ K (.ref a) lo hi H Q:=⟨a,xs,rfl,Q6 h1,λp hp=>h p _ hp ((Rc H).new hp) af⟩
theorem yZ{lo hi:Option Int}(h1:H a=some (.lst xs))(h:∀p H',Same H H'->H' p=some (.lst (jz xs lo hi))->Q (.ref p) H'):CQ K (.ref a) lo hi H Q:=⟨a,xs,rfl,Q6 h1,λp hp=>h p _ ((Rc H).new hp) af⟩
theorem y0{lo hi:Option Int}(h1:H a=some (.tup xs))(h:∀p H',Same H H'->H' p=some (.tup (jz xs lo hi))->Q (.ref p) H'):yK (.ref a) lo hi H Q:=⟨a,xs,rfl,h1,h⟩
end
theorem bp (T:Tx K mg t):FnOk P t.wd K mg t.bs CX0 1 (t.f 38) (t.d 38) ["_law_tape_here","_law_many_here"] yC:=by
 refine okT (N:=["_law_tape_here","_law_many_here","_law_found","_law_once"]) (T.fn 38 rfl) (λH Q hr nd h=>?_)
 ·obtain⟨p,m,rfl,⟨a,b,hp,ha,hb⟩,hm,hm2,k⟩:=h
  have fin:∀(x:Int) H',St2 p H H'->Q (.int (x % m)) H':=λx H' S=>by
   have:=k (x % m).toNat H' (by rw[Nk (JK _ ⋯)];exact NI _ hm) S;rw[Nk (JK _ ⋯)]at this;exact this
  refine⟨_,(ae (aT (az qb (aO (bc (K:=K)) (qv 0) aj) aj (ax _)) (ae (aH (i:=2) (aI gA (aO (bc (K:=K)) (qv 0) aj) (qv 1)))
   (ae (iR (aI dZ (aO (bc (K:=K)) (qv 0) aj) (qv 1)) (qv 0) aj)
   (ak (aw (qv 2))))) aG)
   (ae (iR (aI gA (aI cV (aI fC (aO (bc (K:=K)) (qv 0) aj) aj) aj) aj) (qv 0) aj)
   (ae (aH (i:=3) (aI gA (aI fC (aO (bc (K:=K)) (qv 0) aj) (aI cV (aI gA (aO (bc (K:=K)) (qv 0) aj) aj) aj)) aj))
   (ak (aw (aI gA (aI gA (aI fC (qv 3) (aI cV (aI gA (qv 3) aj) aj)) aj) (qv 1))))))),?_⟩
  dsimp only[st0];nofun;refine aV (λh0=>?_) (λh0=>?_)
  ·nofun
   exact fin _ _ (Tp2.mk (OT ha ⋯) hb)
  ·nofun
   exact fin _ _ (Tp2.mk ha (JK _ ⋯))
theorem y2 (T:Tx K mg t):FnOk P t.wd K mg t.bs CX0 1 (t.f 37) (t.d 37) ["_law_script","_law_k"] (yB K):=by
 refine okT (N:=["_law_script","_law_k","_law_cell","_law_digits"]) (T.fn 37 rfl) (λH Q hr nd h=>?_)
 ·obtain⟨a,ns,k,rfl,hS,hk,q⟩:=h
  refine⟨_,(ae (aH (i:=2) aj)
   (ae (aT (az n8 (qv 1) (ag (aU (K:=K)) (by rfl) T.bz aP (ah (qv 0) aa)) (ax _)) (ak (aH (i:=2) (aO (bc (K:=K)) (qv 0) (qv 1)))) aG)
   (ae (aH (i:=3) (aI fC (ag qZ (by rfl) T.p9 tw (ah (qv 2) aa)) (bq og (by rfl) T.gw eC (ah (aN Ei (ag qZ (by rfl) T.p9 tw (ah (qv 2) aa)) (aI pI aj aj) (ax _)) aa))))
   (ak (aw (aQ (ah (qv 3) (ah (aI gA (aI fC (aI gA (aI cV (aI cV (qv 2) (aI fC aj (qv 1))) aj) aj) aj) aj) aa)))))))),?_⟩
  dsimp only[st0];nofun;refine aJ hS ?_;nofun;refine aV (λh0=>?_) (λh0=>?_)
  ·nofun
   have hlt:k.toNat<ns.length:=by rw[GF]at h0;lia
   have hget:atI (ns.map Q8) k=some (Q8 ns[k.toNat]):=by
    have e:k=(k.toNat:Int):=by lia
    have:=ba (xs:=ns.map Q8) (j:=k.toNat) (v:=Q8 ns[k.toNat]) (by simp[hlt]);rw[<-e]at this;exact this
   refine bx hS hget ?_;generalize ns[k.toNat]=cell;nofun;exact⟨aE (by simp),λp hp=>q p _ hp ((Rc H).new hp) ⟨_,_,af,O1 (by split<;>lia) (by(repeat' split)<;>lia),JK _ ⋯⟩⟩
  ·nofun
   exact⟨aE (by simp),λp hp=>q p _ hp ((Rc H).new hp) ⟨_,_,af,O1 (by split<;>lia) (by(repeat' split)<;>lia),JK _ ⋯⟩⟩
def y3:Sp:=λvs H Q _=>∃(p:Addr) (k:Int),vs=[.ref p,.int k]/\Tp2 H p/\∀(r:Nat) H',r<=60->St2 p H H'->Q (.int r) H'
theorem y4 (T:Tx K mg t):FnOk P t.wd K mg t.bs CX0 2 (t.f 39) (t.d 39) ["_law_tape_here","_law_k"] y3:=by
 refine okT (N:=["_law_tape_here","_law_k","_law_more"]) (T.fn 39 rfl) (λH Q hr nd h=>?_)
 ·obtain⟨p,kk,rfl,hT,k⟩:=h
  refine⟨_,(ae (aH (i:=2) (aO (bc (K:=K)) (aQ (ah (aI cV aj (aC (bp T) hr (T.fn 38 rfl) (ah (qv 0) (ah aj aa)))) (ah aj aa))) (bq og (by rfl) T.gw eC (ah (bI (aN eV (qv 1) aj (ax _)) (bX (aN eV (aC (bp T) hr (T.fn 38 rfl) (ah (qv 0) (ah aj aa))) aj (ax _)))) aa))))
   (ak (aw (aO (bc (K:=K)) (aQ (ah aj (ah aj (ah aj (ah aj (ah aj (ah aj (ah aj (ah (qv 2) aa))))))))) (aC (bp T) hr (T.fn 38 rfl) (ah (qv 0) (ah aj aa))))))),?_⟩
  dsimp only[st0];nofun;refine⟨p,6,rfl,hT,by decide,by decide,λr1 H1 a1 S1=>?_⟩;nofun;refine⟨aE (by simp),λq hq=>?_⟩;have nq:=S1.tape.ne hq;obtain⟨H2,e9,S2,tq⟩:=nwT S1 hq (.lst [Q8 (7+(r1:Int)),Q8 60]);rw[e9];nofun;apply CZ (α:=Nat) (S:=λm H3=>St2 p H H3/\m<=60);case hA=>
   intro key;have kZ:∀(r:Int) H3,0<=r->r<2->St2 p H2 H3->∃(n:Nat),atI [Q8 (7+(r1:Int)),Q8 60] r=some (Q8 n)/\n<=60:=λr H3 h0 h1 _=>by
    obtain⟨v,e,hv⟩:=dz (xs:=[Q8 (7+(r1:Int)),Q8 60]) h0 h1;simp only[GZ,Ho,or_false]at hv;rcases hv with rfl|rfl
    ·exact⟨7+r1,by rw[e];rfl,by lia⟩
    ·exact⟨60,e,by lia⟩
   refine aV (λh1=>?_) (λh1=>?_)
   ·nofun
    refine⟨p,3,rfl,S2.tape,by decide,by decide,λr2 H3 a2 S3=>?_⟩;nofun;obtain⟨n,e,hn⟩:=kZ (if decide (Q8 (r2:Int)=Q8 0)=true then 1 else 0) H3 (by split<;>lia) (by split<;>lia) S3;refine bx (Q6 (S3.keep q _ tq nq)) e ?_;nofun;exact key n H3 ⟨S2.trans S3,hn⟩
   ·nofun
    obtain⟨n,hn⟩:∃n:Nat,(7+(r1:Int))=n:=⟨7+r1,by lia⟩
    rw[hn];exact key n H2 ⟨S2,by lia⟩
  case hB=>
   rintro n H3 ⟨S3,hn⟩;nofun;refine⟨aE (by simp),λq2 hq2=>?_⟩;have nq2:=S3.tape.ne hq2;nofun;refine⟨p,8,rfl,(S3.new hq2).tape,by decide,by decide,λr3 H4 a3 S4=>?_⟩;obtain⟨v,e,hv⟩:=dz (xs:=[Q8 0,Q8 1,Q8 2,Q8 3,Q8 4,Q8 5,Q8 6,Q8 (n:Int)]) (r:=(r3:Int)) ⋯ (by simp only[G8,Ib];lia);refine bx (Q6 (S4.keep q2 _ af nq2)) e ?_;simp only[GZ,Ho,or_false]at hv;have S:=(S3.new (o:=.lst [Q8 0,Q8 1,Q8 2,Q8 3,Q8 4,Q8 5,Q8 6,Q8 (n:Int)]) hq2).trans S4;rcases hv with rfl|rfl|rfl|rfl|rfl|rfl|rfl|rfl
   ·exact k 0 H4 ⋯ S
   ·exact k 1 H4 ⋯ S
   ·exact k 2 H4 ⋯ S
   ·exact k 3 H4 ⋯ S
   ·exact k 4 H4 ⋯ S
   ·exact k 5 H4 ⋯ S
   ·exact k 6 H4 ⋯ S
   ·exact k n H4 hn S
def y7:Sp:=λvs H Q _=>∃(p:Addr),vs=[.ref p]/\Tp2 H p/\∀(b:Nat) H',2<=b->b<=64->St2 p H H'->Q (.int b) H'
theorem tG (T:Tx K mg t):FnOk P t.wd K mg t.bs CX0 2 (t.f 40) (t.d 40) ["_law_tape_here"] y7:=by
 refine okT (N:=["_law_tape_here"]) (T.fn 40 rfl) (λH Q hr nd h=>?_)
 ·obtain⟨p,rfl,hT,k⟩:=h
  refine⟨_,(ak (aw (aO (bc (K:=K)) (aQ (ah aj (ah aj (ah aj (ah aj (ah aj (ah (aI cV aj (aC (bp T) hr (T.fn 38 rfl) (ah (qv 0) (ah aj aa)))) aa))))))) (aC (bp T) hr (T.fn 38 rfl) (ah (qv 0) (ah aj aa)))))),?_⟩;dsimp only[st0];nofun;refine⟨p,63,rfl,hT,by decide,by decide,λr1 H1 a1 S1=>?_⟩;nofun;refine⟨aE (by simp),λq hq=>?_⟩;nofun;refine⟨p,6,rfl,(S1.new hq).tape,by decide,by decide,λr3 H4 a3 S4=>?_⟩;obtain⟨v,e,hv⟩:=dz (xs:=[Q8 2,Q8 3,Q8 10,Q8 16,Q8 64,Q8 (2+(r1:Int))]) (r:=(r3:Int)) ⋯ (by simp only[G8,Ib];lia);refine bx (Q6 (S4.keep q _ af (S1.tape.ne hq))) e ?_;have S:=(S1.new (o:=.lst [Q8 2,Q8 3,Q8 10,Q8 16,Q8 64,Q8 (2+(r1:Int))]) hq).trans S4;simp only[GZ,Ho,or_false]at hv;rcases hv with rfl|rfl|rfl|rfl|rfl|rfl
  ·exact k 2 H4 ⋯ ⋯ S
  ·exact k 3 H4 ⋯ ⋯ S
  ·exact k 10 H4 ⋯ ⋯ S
  ·exact k 16 H4 ⋯ ⋯ S
  ·exact k 64 H4 ⋯ ⋯ S
  ·exact k (2+r1) H4 ⋯ ⋯ S
noncomputable def SmAt:Nat->Hp->V->V->Prop
 | 0,_,x,y=>Sc x/\y=x
 | n+1,H,x,y=>(Sc x/\y=x)\/(∃a c xs ys,x=.ref a/\y=.ref c/\H a=some (.lst xs)/\H c=some (.lst ys)/\xs.length=ys.length/\xs.length<=200/\∀(i:Nat) u v,xs[i]? = some u->ys[i]? = some v->SmAt n H u v)\/
  (∃a c xs ys,x=.ref a/\y=.ref c/\H a=some (.tup xs)/\H c=some (.tup ys)/\xs.length=ys.length/\xs.length<=200/\∀(i:Nat) u v,xs[i]? = some u->ys[i]? = some v->SmAt n H u v)
theorem SmAt.same{H H1:Hp}(s:Same H H1):∀{n:Nat}{x y:V},SmAt n H x y->SmAt n H1 x y
 | 0,_,_,h=>h
 | n+1,_,_,h=>by
  rcases h with h|⟨a,c,xs,ys,rfl,rfl,ha,hc,hl,hz,hi⟩|⟨a,c,xs,ys,rfl,rfl,ha,hc,hl,hz,hi⟩
  ·exact .inl h
  ·exact .inr (.inl ⟨a,c,xs,ys,rfl,rfl,s _ _ ha,s _ _ hc,hl,hz,λi u v e1 e2=>SmAt.same s (hi i u v e1 e2)⟩)
  ·exact .inr (.inr ⟨a,c,xs,ys,rfl,rfl,s _ _ ha,s _ _ hc,hl,hz,λi u v e1 e2=>SmAt.same s (hi i u v e1 e2)⟩)
theorem SmAt.int{H:Hp}(n:Nat)(i:Int):SmAt n H (.int i) (.int i):=by
 cases n with
 | zero=>exact⟨.inr (.inr (.inl ⟨i,rfl⟩)),rfl⟩
 | succ n=>exact .inl ⟨.inr (.inr (.inl ⟨i,rfl⟩)),rfl⟩
theorem SmAt.sc{H:Hp}(n:Nat){x:V}(h:Sc x):SmAt n H x x:=by
 cases n with
 | zero=>exact⟨h,rfl⟩
 | succ n=>exact .inl ⟨h,rfl⟩
theorem y8{H:Hp}(n:Nat){ns:List Nat}{u:V}(e1:(NV ns)[i]? = some u)(e2:(NV ns)[i]? = some v):SmAt n H u v:=by
 rw[e1]at e2;cases e2;obtain⟨o,rfl,_⟩:=aF e1;exact SmAt.int n _
theorem SmAt.ints{H:Hp}{c:Addr}{ns:List Nat}(n:Nat)(h1:H l=some (.lst (NV ns)))(h2:H c=some (.lst (NV ns)))(hl:ns.length<=200):SmAt (n+1) H (.ref l) (.ref c):=
 .inr (.inl ⟨l,c,_,_,rfl,rfl,h1,h2,rfl,by rw[aB];exact hl,λi u v e1 e2=>y8 n e1 e2⟩)
theorem SmAt.th{H:Hp}{x:V}(n:Nat)(h:ThE H x y):SmAt (n+1) H y x:=by
 rcases h with⟨h,rfl⟩|⟨t,u,xs,rfl,rfl,a,a',h0,h2,hs⟩
 ·exact .inl ⟨h,rfl⟩
 ·refine .inr (.inr ⟨u,t,xs,xs,rfl,rfl,a',a,rfl,by lia,λi p q e1 e2=>?_⟩)
  rw[e1]at e2;cases e2;exact SmAt.sc n (hs p (G3 e1))
theorem SmAt.things{H:Hp}{c:Addr}(h1:H l=some (.lst ys))(h2:H c=some (.lst xs))(hl:ys.length=xs.length)(hz:ys.length<=200)(h:∀(i:Nat) u v,ys[i]? = some u->xs[i]? = some v->ThE H v u):SmAt 2 H (.ref l) (.ref c):=
 .inr (.inl ⟨l,c,_,_,rfl,rfl,h1,h2,hl,hz,λi u v e1 e2=>SmAt.th 0 (h i u v e1 e2)⟩)
theorem ji {K:GH}{H:Hp}{Q:VK}(s:H p=some (.tup xs)) (h:Q (.bl false) H):nX K [.ref p,.ty "list"] H Q:=⟨_,_,_,_,rfl,.tup s,rfl,h⟩
def EM(n:Nat):Sp:=λvs H Q _=>∃x y,vs=[x,y]/\SmAt n H x y/\∀H',Same H H'->Q (.bl true) H'
def EN:Sp:=λvs H Q _=>∃x,vs=[x,x]/\Sc x/\∀H',Same H H'->Q (.bl true) H'
def EO(n:Nat):Sp:=λvs H Q _=>∃x y,vs=[x,y]/\((∃a c xs ys,x=.ref a/\y=.ref c/\H a=some (.lst xs)/\H c=some (.lst ys)/\xs.length=ys.length/\xs.length<=200/\∀(i:Nat) u v,xs[i]? = some u->ys[i]? = some v->SmAt n H u v)\/
  (∃a c xs ys,x=.ref a/\y=.ref c/\H a=some (.tup xs)/\H c=some (.tup ys)/\xs.length=ys.length/\xs.length<=200/\∀(i:Nat) u v,xs[i]? = some u->ys[i]? = some v->SmAt n H u v))/\∀H',Same H H'->Q (.bl true) H'
theorem oS (T:Tx K mg t) (n:Nat):FnOk P t.wd K mg t.bs CX0 (n+1) (t.f 47) (t.d 47) ["_law_found","_law_due"] EN:=by
  refine(T.fn 47 rfl).2.1.okQ tF (λvs H Q E h=>?_) (λcdv A outer s H vs Q E hr h=>?_)
  ·obtain⟨x,rfl,_⟩:=h
   rfl
  ·obtain⟨x,rfl,hsc,k⟩:=h
   rcases hsc with rfl|⟨b9,rfl⟩|⟨i9,rfl⟩|⟨x9,rfl⟩
   ·refine⟨_,(ae (aT (az ig (qv 1) dv (ax _)) (ak (aw (aN ig (qv 0) dv (ax _)))) aG)
   (ae (aT (bE (ag (fH (K:=K)) (by rfl) T.ao ai (ah (qv 1) (ah (bB (ah (ay rfl T.cq cy (v:=.ty "list") rfl) (ah (ay rfl T.bu aZ (v:=.ty "tuple") rfl) aa))) aa)))) (ae bV
   (ak bV)) aG)
   (ae (aT (bE (ag (aR (K:=K)) (by rfl) T.ao ai (ah (qv 1) (ah (ay rfl T.cw bQ (v:=.ty "bool") rfl) aa)))) (ak (aw (bI (ag (aR (K:=K)) (by rfl) T.ao ai (ah (qv 0) (ah (ay rfl T.cw bQ (v:=.ty "bool") rfl) aa))) (bX (aN eV (qv 0) (qv 1) (ax _)))))) aG)
   (ae (aT (bE (ag (aR (K:=K)) (by rfl) T.ao ai (ah (qv 1) (ah (ay rfl T.fO dQ (v:=.ty "str") rfl) aa)))) (ak (aw (bI (ag (aR (K:=K)) (by rfl) T.ao ai (ah (qv 0) (ah (ay rfl T.fO dQ (v:=.ty "str") rfl) aa))) (bX (aN eV (qv 0) (qv 1) (ax _)))))) aG)
   (ak (aw (bI (ag (aR (K:=K)) (by rfl) T.ao ai (ah (qv 0) (ah (ay rfl T.gw eC (v:=.ty "int") rfl) aa))) (bI (jN (ag (aR (K:=K)) (by rfl) T.ao ai (ah (qv 0) (ah (ay rfl T.cw bQ (v:=.ty "bool") rfl) aa)))) (bX (aN eV (qv 0) (qv 1) (ax _))))))))))),?_⟩
    rw[show L2.start ["_law_found","_law_due"] [V.non,V.non]=[some (V.non),some (V.non)]from rfl];nofun;refine dP rfl ?_;nofun;rw[decide_eq_true rfl];exact k _ (Rc H)
   ·refine⟨_,(ae (aT (az ig (qv 1) dv (ax _)) (ak (aw (aN ig (qv 0) dv (ax _)))) aG)
   (ae (aT (bE (ag (fH (K:=K)) (by rfl) T.ao ai (ah (qv 1) (ah (bB (ah (ay rfl T.cq cy (v:=.ty "list") rfl) (ah (ay rfl T.bu aZ (v:=.ty "tuple") rfl) aa))) aa)))) (ae bV
   (ak bV)) aG)
   (ae (aT (bE (ag (aR (K:=K)) (by rfl) T.ao ai (ah (qv 1) (ah (ay rfl T.cw bQ (v:=.ty "bool") rfl) aa)))) (ak (aw (bI (ag (aR (K:=K)) (by rfl) T.ao ai (ah (qv 0) (ah (ay rfl T.cw bQ (v:=.ty "bool") rfl) aa))) (bX (aN eV (qv 0) (qv 1) (ax _)))))) aG)
   (ae (aT (bE (ag (aR (K:=K)) (by rfl) T.ao ai (ah (qv 1) (ah (ay rfl T.fO dQ (v:=.ty "str") rfl) aa)))) (ak (aw (bI (ag (aR (K:=K)) (by rfl) T.ao ai (ah (qv 0) (ah (ay rfl T.fO dQ (v:=.ty "str") rfl) aa))) (bX (aN eV (qv 0) (qv 1) (ax _)))))) aG)
   (ak (aw (bI (ag (aR (K:=K)) (by rfl) T.ao ai (ah (qv 0) (ah (ay rfl T.gw eC (v:=.ty "int") rfl) aa))) (bI (jN (ag (aR (K:=K)) (by rfl) T.ao ai (ah (qv 0) (ah (ay rfl T.cw bQ (v:=.ty "bool") rfl) aa)))) (bX (aN eV (qv 0) (qv 1) (ax _))))))))))),?_⟩
    rw[show L2.start ["_law_found","_law_due"] [Q9 b9,Q9 b9]=[some (Q9 b9),some (Q9 b9)]from rfl];nofun;refine cD (λh=>by cases h) ?_;nofun;refine⟨aE (by simp),λtp htp=>?_⟩;nofun;refine gb af (.inr (.inl ⟨_,rfl⟩)) ?_;nofun;rw[decide_eq_true rfl];exact k _ ((Rc H).new htp)
   ·refine⟨_,(ae (aT (az ig (qv 1) dv (ax _)) (ak (aw (aN ig (qv 0) dv (ax _)))) aG)
   (ae (aT (bE (ag (fH (K:=K)) (by rfl) T.ao ai (ah (qv 1) (ah (bB (ah (ay rfl T.cq cy (v:=.ty "list") rfl) (ah (ay rfl T.bu aZ (v:=.ty "tuple") rfl) aa))) aa)))) (ae bV
   (ak bV)) aG)
   (ae (aT (bE (ag (aR (K:=K)) (by rfl) T.ao ai (ah (qv 1) (ah (ay rfl T.cw bQ (v:=.ty "bool") rfl) aa)))) (ak (aw (bI (ag (aR (K:=K)) (by rfl) T.ao ai (ah (qv 0) (ah (ay rfl T.cw bQ (v:=.ty "bool") rfl) aa))) (bX (aN eV (qv 0) (qv 1) (ax _)))))) aG)
   (ae (aT (bE (ag (aR (K:=K)) (by rfl) T.ao ai (ah (qv 1) (ah (ay rfl T.fO dQ (v:=.ty "str") rfl) aa)))) (ak (aw (bI (ag (aR (K:=K)) (by rfl) T.ao ai (ah (qv 0) (ah (ay rfl T.fO dQ (v:=.ty "str") rfl) aa))) (bX (aN eV (qv 0) (qv 1) (ax _)))))) aG)
   (ak (aw (bI (ag (aR (K:=K)) (by rfl) T.ao ai (ah (qv 0) (ah (ay rfl T.gw eC (v:=.ty "int") rfl) aa))) (bI (jN (ag (aR (K:=K)) (by rfl) T.ao ai (ah (qv 0) (ah (ay rfl T.cw bQ (v:=.ty "bool") rfl) aa)))) (bX (aN eV (qv 0) (qv 1) (ax _))))))))))),?_⟩
    rw[show L2.start ["_law_found","_law_due"] [Q8 i9,Q8 i9]=[some (Q8 i9),some (Q8 i9)]from rfl];nofun;refine cD (λh=>by cases h) ?_;nofun;refine⟨aE (by simp),λtp htp=>?_⟩;nofun;refine gb af (.inr (.inr (.inl ⟨_,rfl⟩))) ?_;nofun;rw[decide_eq_true rfl];exact k _ ((Rc H).new htp)
   ·refine⟨_,(ae (aT (az ig (qv 1) dv (ax _)) (ak (aw (aN ig (qv 0) dv (ax _)))) aG)
   (ae (aT (bE (ag (fH (K:=K)) (by rfl) T.ao ai (ah (qv 1) (ah (bB (ah (ay rfl T.cq cy (v:=.ty "list") rfl) (ah (ay rfl T.bu aZ (v:=.ty "tuple") rfl) aa))) aa)))) (ae bV
   (ak bV)) aG)
   (ae (aT (bE (ag (aR (K:=K)) (by rfl) T.ao ai (ah (qv 1) (ah (ay rfl T.cw bQ (v:=.ty "bool") rfl) aa)))) (ak (aw (bI (ag (aR (K:=K)) (by rfl) T.ao ai (ah (qv 0) (ah (ay rfl T.cw bQ (v:=.ty "bool") rfl) aa))) (bX (aN eV (qv 0) (qv 1) (ax _)))))) aG)
   (ae (aT (bE (ag (aR (K:=K)) (by rfl) T.ao ai (ah (qv 1) (ah (ay rfl T.fO dQ (v:=.ty "str") rfl) aa)))) (ak (aw (bI (ag (aR (K:=K)) (by rfl) T.ao ai (ah (qv 0) (ah (ay rfl T.fO dQ (v:=.ty "str") rfl) aa))) (bX (aN eV (qv 0) (qv 1) (ax _)))))) aG)
   (ak (aw (bI (ag (aR (K:=K)) (by rfl) T.ao ai (ah (qv 0) (ah (ay rfl T.gw eC (v:=.ty "int") rfl) aa))) (bI (jN (ag (aR (K:=K)) (by rfl) T.ao ai (ah (qv 0) (ah (ay rfl T.cw bQ (v:=.ty "bool") rfl) aa)))) (bX (aN eV (qv 0) (qv 1) (ax _))))))))))),?_⟩
    rw[show L2.start ["_law_found","_law_due"] [Ra x9,Ra x9]=[some (Ra x9),some (Ra x9)]from rfl];nofun;refine cD (λh=>by cases h) ?_;nofun;refine⟨aE (by simp),λtp htp=>?_⟩;nofun;refine gb af (.inr (.inr (.inr ⟨_,rfl⟩))) ?_;nofun;rw[decide_eq_true rfl];exact k _ ((Rc H).new htp)
theorem vT (T:Tx K mg t) (n:Nat) (recN:Tx K mg t->FnOk P t.wd K mg t.bs CX0 (n+1) (t.f 47) (t.d 47) ["_law_found","_law_due"] (EM n)):FnOk P t.wd K mg t.bs CX0 (n+1+1) (t.f 47) (t.d 47) ["_law_found","_law_due"] (EO n):=by
  refine(T.fn 47 rfl).2.1.okQ tF (λvs H Q E h=>?_) (λcdv A outer s H vs Q E hr h=>?_)
  ·obtain⟨x,y,rfl,_⟩:=h
   rfl
  ·obtain⟨x,y,rfl,h,k⟩:=h
   rcases h with⟨a,c,xs,ys,rfl,rfl,ta,tc,hl,hz,hi⟩|⟨a,c,xs,ys,rfl,rfl,ta,tc,hl,hz,hi⟩
   ·refine⟨_,(ae (aT (az ig (qv 1) dv (ax _)) (ak (aw (aN ig (qv 0) dv (ax _)))) aG)
   (ae (aT (bE (ag (fH (K:=K)) (by rfl) T.ao ai (ah (qv 1) (ah (bB (ah (ay rfl T.cq cy (v:=.ty "list") rfl) (ah (ay rfl T.bu aZ (v:=.ty "tuple") rfl) aa))) aa)))) (ae (aT (Re (gz (az Bu (ag (aR (K:=K)) (by rfl) T.ao ai (ah (qv 0) (ah (ay rfl T.cq cy (v:=.ty "list") rfl) aa))) (ag (aR (K:=K)) (by rfl) T.ao ai (ah (qv 1) (ah (ay rfl T.cq cy (v:=.ty "list") rfl) aa))) (ax _)) (dX (az Bu (ag (aR (K:=K)) (by rfl) T.ao ai (ah (qv 0) (ah (ay rfl T.bu aZ (v:=.ty "tuple") rfl) aa))) (ag (aR (K:=K)) (by rfl) T.ao ai (ah (qv 1) (ah (ay rfl T.bu aZ (v:=.ty "tuple") rfl) aa))) (ax _))))) (ak (aw fi)) aG)
   (ak (aw (bI (aN eV (ag (aU (K:=K)) (by rfl) T.bz aP (ah (qv 0) aa)) (ag (aU (K:=K)) (by rfl) T.bz aP (ah (qv 1) aa)) (ax _)) (bX (ag (rf (K:=K) rfl) (by rfl) T.qa tD (ah (a0 (N:=["_law_one","_law_other"]) (tgs:=["_law_one","_law_other"]) (frs:=[]) (ix:=[]) ⟨rfl,by decide +kernel,rfl,by decide +kernel,rfl,rfl,GR,GR,rfl⟩ rfl (rq (K:=K) rfl T.nO (ah (qv 0) (ah (qv 1) aa))) (λ_ _ _ _=>(bF (K:=K) (n:=2) rfl (av (aD (i:=0)) (av (aD (i:=1)) aY)))) (λ_ _ _ _=>(mW (recN T) (hr.mono (by first | decide | lia)) rfl (T.fn 47 rfl).1 (T.fn 47 rfl).2.1.kp (T.fn 47 rfl).2.2 fh (ah (qv 0) (ah (qv 1) aa))))) aa))))))) aG)
   (ae (aT (bE (ag (aR (K:=K)) (by rfl) T.ao ai (ah (qv 1) (ah (ay rfl T.cw bQ (v:=.ty "bool") rfl) aa)))) (ak (aw (bI (ag (aR (K:=K)) (by rfl) T.ao ai (ah (qv 0) (ah (ay rfl T.cw bQ (v:=.ty "bool") rfl) aa))) (bX (aN (u4 (K:=K) hr.units0) (qv 0) (qv 1) (ax _)))))) aG)
   (ae (aT (bE (ag (aR (K:=K)) (by rfl) T.ao ai (ah (qv 1) (ah (ay rfl T.fO dQ (v:=.ty "str") rfl) aa)))) (ak (aw (bI (ag (aR (K:=K)) (by rfl) T.ao ai (ah (qv 0) (ah (ay rfl T.fO dQ (v:=.ty "str") rfl) aa))) (bX (aN (u4 (K:=K) hr.units0) (qv 0) (qv 1) (ax _)))))) aG)
   (ak (aw (bI (ag (aR (K:=K)) (by rfl) T.ao ai (ah (qv 0) (ah (ay rfl T.gw eC (v:=.ty "int") rfl) aa))) (bI (jN (ag (aR (K:=K)) (by rfl) T.ao ai (ah (qv 0) (ah (ay rfl T.cw bQ (v:=.ty "bool") rfl) aa)))) (bX (aN (u4 (K:=K) hr.units0) (qv 0) (qv 1) (ax _))))))))))),?_⟩
    rw[show L2.start ["_law_found","_law_due"] [Rb a,Rb c]=[some (Rb a),some (Rb c)]from rfl];nofun;refine cD (λh=>by cases h) ?_;nofun;refine⟨aE (by simp),λtp htp=>?_⟩;obtain⟨H1,e9,s1,ttp⟩:=nwR htp (.tup [V.ty "list",V.ty "tuple"]);rw[e9];have ta1:=s1 _ _ ta;have tc1:=s1 _ _ tc;nofun;refine vt tc1 ttp ?_;nofun;refine nY ta1 ?_;nofun;refine nY tc1 ?_;nofun;refine iP rfl ?_;nofun;refine oz ta1 ?_;nofun;refine oz tc1 ?_;nofun;refine iP rfl ?_;nofun;refine aJ (Q6 ta1) ?_;nofun;refine aJ (Q6 tc1) ?_;nofun;refine dP (by rw[hl]) ?_;nofun;refine⟨a,c,rfl,⟨_,Q6 ta1⟩,⟨_,Q6 tc1⟩,iB (n:=xs.length) (λi ys σ H2=>Same H1 H2/\ys=GS i (Q9 true)/\∃v w,σ=[v,w]) (au ⋯) (λi ys σ H2 h=>by rw[h.2.1,Iz]) ⟨Rc _,rfl,none,none,rfl⟩ ?_ ?_ ?_ ?_⟩
    ·rintro i zs σ H2 hi ⟨s2,_⟩
     exact⟨_,_,xs[i],ys[i]'⋯,Q6 (s2 _ _ ta1),Q6 (s2 _ _ tc1),by simp[hi],GE _⟩
    ·rintro zs σ H2 ⟨s2,_⟩
     exact⟨_,_,Q6 (s2 _ _ ta1),Q6 (s2 _ _ tc1),.inl (GJ _)⟩
    ·rintro i x zs σ H2 H3 hi' ⟨s2,rfl,v,w,rfl⟩ ⟨p,x1,y1,rfl,hp,rfl,hx1,hy1⟩
     have hx2:=hx1 _ (Q6 (s2 _ _ ta1));have hy2:=hy1 _ (Q6 (s2 _ _ tc1));refine bf af ?_;dsimp only[HM];nofun;refine⟨_,_,rfl,(hi i x1 y1 hx2 hy2).same ((s1.trans s2).new hp),λH4 s4=>?_⟩;exact Rf hi' ⟨(s2.new hp).trans s4,by rw[Lk],_,_,rfl⟩
    ·rintro zs σ H2 ⟨s2,rfl,v,w,rfl⟩ l hl
     nofun;rw[<-IZ];refine qU (Q6 af) ?_;have ea:(GS xs.length true).all id=true:=by rw[IC];intro x hx;rw[Kw hx];rfl
     rw[ea];exact k _ ((s1.trans s2).new hl)
   ·refine⟨_,(ae (aT (az ig (qv 1) dv (ax _)) (ak (aw (aN ig (qv 0) dv (ax _)))) aG)
   (ae (aT (bE (ag (fH (K:=K)) (by rfl) T.ao ai (ah (qv 1) (ah (bB (ah (ay rfl T.cq cy (v:=.ty "list") rfl) (ah (ay rfl T.bu aZ (v:=.ty "tuple") rfl) aa))) aa)))) (ae (aT (Re (gz (az Bu (ag (aR (K:=K)) (by rfl) T.ao ai (ah (qv 0) (ah (ay rfl T.cq cy (v:=.ty "list") rfl) aa))) (ag (aR (K:=K)) (by rfl) T.ao ai (ah (qv 1) (ah (ay rfl T.cq cy (v:=.ty "list") rfl) aa))) (ax _)) (dX (az Bu (ag (aR (K:=K)) (by rfl) T.ao ai (ah (qv 0) (ah (ay rfl T.bu aZ (v:=.ty "tuple") rfl) aa))) (ag (aR (K:=K)) (by rfl) T.ao ai (ah (qv 1) (ah (ay rfl T.bu aZ (v:=.ty "tuple") rfl) aa))) (ax _))))) (ak (aw fi)) aG)
   (ak (aw (bI (aN eV (ag (aU (K:=K)) (by rfl) T.bz aP (ah (qv 0) aa)) (ag (aU (K:=K)) (by rfl) T.bz aP (ah (qv 1) aa)) (ax _)) (bX (ag (rf (K:=K) rfl) (by rfl) T.qa tD (ah (a0 (N:=["_law_one","_law_other"]) (tgs:=["_law_one","_law_other"]) (frs:=[]) (ix:=[]) ⟨rfl,by decide +kernel,rfl,by decide +kernel,rfl,rfl,GR,GR,rfl⟩ rfl (yF (K:=K) rfl T.nO (ah (qv 0) (ah (qv 1) aa))) (λ_ _ _ _=>(bF (K:=K) (n:=2) rfl (av (aD (i:=0)) (av (aD (i:=1)) aY)))) (λ_ _ _ _=>(mW (recN T) (hr.mono (by first | decide | lia)) rfl (T.fn 47 rfl).1 (T.fn 47 rfl).2.1.kp (T.fn 47 rfl).2.2 fh (ah (qv 0) (ah (qv 1) aa))))) aa))))))) aG)
   (ae (aT (bE (ag (aR (K:=K)) (by rfl) T.ao ai (ah (qv 1) (ah (ay rfl T.cw bQ (v:=.ty "bool") rfl) aa)))) (ak (aw (bI (ag (aR (K:=K)) (by rfl) T.ao ai (ah (qv 0) (ah (ay rfl T.cw bQ (v:=.ty "bool") rfl) aa))) (bX (aN (yx (K:=K) hr.units0) (qv 0) (qv 1) (ax _)))))) aG)
   (ae (aT (bE (ag (aR (K:=K)) (by rfl) T.ao ai (ah (qv 1) (ah (ay rfl T.fO dQ (v:=.ty "str") rfl) aa)))) (ak (aw (bI (ag (aR (K:=K)) (by rfl) T.ao ai (ah (qv 0) (ah (ay rfl T.fO dQ (v:=.ty "str") rfl) aa))) (bX (aN (yx (K:=K) hr.units0) (qv 0) (qv 1) (ax _)))))) aG)
   (ak (aw (bI (ag (aR (K:=K)) (by rfl) T.ao ai (ah (qv 0) (ah (ay rfl T.gw eC (v:=.ty "int") rfl) aa))) (bI (jN (ag (aR (K:=K)) (by rfl) T.ao ai (ah (qv 0) (ah (ay rfl T.cw bQ (v:=.ty "bool") rfl) aa)))) (bX (aN (yx (K:=K) hr.units0) (qv 0) (qv 1) (ax _))))))))))),?_⟩
    rw[show L2.start ["_law_found","_law_due"] [Rb a,Rb c]=[some (Rb a),some (Rb c)]from rfl];nofun;refine cD (λh=>by cases h) ?_;nofun;refine⟨aE (by simp),λtp htp=>?_⟩;obtain⟨H1,e9,s1,ttp⟩:=nwR htp (.tup [V.ty "list",V.ty "tuple"]);rw[e9];have ta1:=s1 _ _ ta;have tc1:=s1 _ _ tc;nofun;refine oH tc1 ttp ?_;nofun;refine ji ta1 ?_;nofun;refine ji tc1 ?_;nofun;refine iP rfl ?_;nofun;refine km ta1 ?_;nofun;refine km tc1 ?_;nofun;refine iP rfl ?_;nofun;refine kj (Q7 ta1) ?_;nofun;refine kj (Q7 tc1) ?_;nofun;refine dP (by rw[hl]) ?_;nofun;refine⟨a,c,rfl,⟨_,Q7 ta1⟩,⟨_,Q7 tc1⟩,iB (n:=xs.length) (λi ys σ H2=>Same H1 H2/\ys=GS i (Q9 true)/\∃v w,σ=[v,w]) (au ⋯) (λi ys σ H2 h=>by rw[h.2.1,Iz]) ⟨Rc _,rfl,none,none,rfl⟩ ?_ ?_ ?_ ?_⟩
    ·rintro i zs σ H2 hi ⟨s2,_⟩
     exact⟨_,_,xs[i],ys[i]'⋯,Q7 (s2 _ _ ta1),Q7 (s2 _ _ tc1),by simp[hi],GE _⟩
    ·rintro zs σ H2 ⟨s2,_⟩
     exact⟨_,Q7 (s2 _ _ ta1),GJ _⟩
    ·rintro i x zs σ H2 H3 hi' ⟨s2,rfl,v,w,rfl⟩ ⟨p,x1,y1,rfl,hp,rfl,hx1,hy1⟩
     have hx2:=hx1 _ (Q7 (s2 _ _ ta1));have hy2:=hy1 _ (Q7 (s2 _ _ tc1));refine bf af ?_;dsimp only[HM];nofun;refine⟨_,_,rfl,(hi i x1 y1 hx2 hy2).same ((s1.trans s2).new hp),λH4 s4=>?_⟩;exact Rf hi' ⟨(s2.new hp).trans s4,by rw[Lk],_,_,rfl⟩
    ·rintro zs σ H2 ⟨s2,rfl,v,w,rfl⟩ l hl
     nofun;rw[<-IZ];refine qU (Q6 af) ?_;have ea:(GS xs.length true).all id=true:=by rw[IC];intro x hx;rw[Kw hx];rfl
     rw[ea];exact k _ ((s1.trans s2).new hl)
theorem ER{f:Addr}{fd:FuncData}{ps:List Str}{sp sp':Sp}(F:FnOk P t.wd K mg t.bs CX0 k f fd ps sp)(G:FnOk P t.wd K mg t.bs CX0 k f fd ps sp'):FnOk P t.wd K mg t.bs CX0 k f fd ps (λvs H Q E=>sp vs H Q E\/sp' vs H Q E):=
 ⟨λvs H Q E h=>h.elim (F.len vs H Q E) (G.len vs H Q E),λA outer s H args us vs Q E hr he hb hv h=>h.elim (F.run A outer s H args us vs Q E hr he hb hv) (G.run A outer s H args us vs Q E hr he hb hv)⟩
theorem oT (T:Tx K mg t):∀n:Nat,FnOk P t.wd K mg t.bs CX0 (n+1) (t.f 47) (t.d 47) ["_law_found","_law_due"] (EM n)
 | 0=>(oS T 0).imp λvs H Q E ⟨x,y,e,⟨h,h'⟩,k⟩=>⟨x,by rw[e,h'],h,k⟩
 | n+1=>(ER (oS T (n+1)) (vT T n λT=>oT T n)).imp λvs H Q E ⟨x,y,e,h,k⟩=>by
  rcases h with⟨h,h'⟩|h|h
  ·exact .inl ⟨x,by rw[e,h'],h,k⟩
  ·exact .inr ⟨x,y,e,.inl h,k⟩
  ·exact .inr ⟨x,y,e,.inr h,k⟩
theorem tH (T:Tx K mg t):FnOk P t.wd K mg t.bs CX0 4 (t.f 47) (t.d 47) ["_law_found","_law_due"] (EM 3):=oT T 3
def y9:Sp:=λvs H Q _=>∃(a:Addr) (os:List Nat) (n:Nat),vs=[.ref a]/\(H a=some (.lst (NV os))\/False)/\Ord os n/\n<=60/\∀H',Same H H'->Q (.bl true) H'
theorem jj (T:Tx K mg t):FnOk P t.wd K mg t.bs CX0 1 (t.f 8) (t.d 8) ["thing"] y9:=by
 refine okT (N:=["thing","met","place"]) (T.fn 8 rfl) (λH Q hr nd h=>?_)
 ·obtain⟨a,os,n,rfl,hs,hO,hn,k⟩:=h
  have hlen:=hO.len;rcases hs with ta|ta
  ·refine⟨_,(ae (aT (fv (bE (ag (yA (K:=K)) (by rfl) T.ao ai (ah (qv 0) (ah (bB (ah (ay rfl T.cq cy (v:=.ty "list") rfl) (ah (ay rfl T.bu aZ (v:=.ty "tuple") rfl) aa))) aa))))) (ak (aw fi)) aG)
   (ae (aH (i:=1) (aI qX (aQ (ah fi aa)) (ag (aU (K:=K)) (by rfl) T.bz aP (ah (qv 0) aa))))
   (ae (cA Hb rfl (aS (K:=K) (qv 0)) (aD (i:=2)) (ae (aT (Re (gz (bE (ag (aR (K:=K)) (by rfl) T.ao ai (ah (qv 2) (ah (ay rfl T.cw bQ (v:=.ty "bool") rfl) aa)))) (dX (fv (bE (ag (aR (K:=K)) (by rfl) T.ao ai (ah (qv 2) (ah (ay rfl T.gw eC (v:=.ty "int") rfl) aa)))))))) (ak (aw fi)) aG)
   (ae (aT (Re (gz (az n8 (qv 2) aj (ax _)) (gz (az Ei (qv 2) (ag (aU (K:=K)) (by rfl) T.bz aP (ah (qv 0) aa)) (ax _)) (dX (bE (aO (bc (K:=K)) (qv 1) (qv 2))))))) (ak (aw fi)) aG)
   (ak (iR fi (qv 1) (qv 2))))))
   (ak (aw fi))))),?_⟩
   dsimp only[st0];nofun;refine⟨aE (by simp),λtp htp=>?_⟩;obtain⟨H0,e9,s0,ttp⟩:=nwR htp (.tup [V.ty "list",V.ty "tuple"]);rw[e9];nofun;refine u7 (s0 _ _ ta) ttp ?_;nofun;refine⟨aE (by simp),λq0 hq0=>?_⟩;obtain⟨H1,e9,s1,t0⟩:=nwS s0 hq0 (.lst [Q9 false]);rw[e9];nofun;refine aJ (Q6 (s1 _ _ ta)) ?_;rw[aB];refine⟨q0,_,_,rfl,rfl,t0,by lia,by lia,aE (by simp;lia),λm hm=>?_⟩;have efl:(GS ((os.length:Nat):Int).toNat [Q9 false]).flatten=(GS os.length false).map Q9:=by
    show(GS os.length [Q9 false]).flatten=_
    rw[IZ,JA]
   rw[efl];obtain⟨H2,e9,s2,tm⟩:=nwS s1 hm (.lst ((GS os.length false).map Q9));rw[e9];have hmn:H m=none:=s1.free hm;nofun;refine⟨a,rfl,⟨_,Q6 (s2 _ _ ta)⟩,du (a:=a) (xs:=NV os) (λi σ H'=>Same H H'/\(∃met:List Bool,H' m=some (.lst (met.map Q9))/\met.length=n/\∀(j x:Nat),os[j]? = some x->met[x]? = some (decide (j<i)))/\∃v,σ=[some (Rb a),some (Rb m),v]) ⟨s2,⟨_,tm,by simp[hlen],λj x e=>?_⟩,none,rfl⟩ (λi σ H' _ h=>Q6 (h.1 _ _ ta)) ?_ ?_⟩
   ·have:=hO.lt x (G3 e)
    rw[JE,if_pos ⋯];simp
   ·rintro i x σ H3 hx ⟨s3,⟨met,tm3,hml,hmt⟩,v,rfl⟩
    obtain⟨r,rfl,hr,hrm,hi⟩:=aF hx;have hrn:=hO.lt r hrm;have hmr:=hmt i r hr;rw[decide_eq_false (Iw i)]at hmr;nofun;refine cD ⋯ ?_;nofun;refine aJ (Q6 (s3 _ _ ta)) ?_;rw[aB];nofun;refine cD ⋯ ?_;nofun;refine bx (Q6 tm3) (ba (by rw[GK,hmr];rfl)) ?_;nofun;refine gR tm3 (iW rfl (by rw[GF];lia)) ?_;rw[<-PZ];refine⟨s3.own hmn,⟨met.set r true,af,by simpa using hml,λj x e=>?_⟩,_,rfl⟩;rw[KF];by_cases hrx:r=x
    ·subst hrx
     have:=hO.inj i j r hr e;subst this;rw[if_pos rfl,if_pos ⋯,decide_eq_true ⋯]
    ·rw[if_neg hrx,hmt j x e]
     have:j≠i:=λz=>hrx (by subst z;rw[hr]at e;exact G9 e)
     congr 1;exact decide_eq_decide.mpr ⋯
   ·rintro σ H3 ⟨s3,_,v,rfl⟩
    nofun;exact k H3 s3
  ·exact ta.elim
def ES(K:GH):Sp:=λvs H Q _=>∃(a:Addr) (os:List Nat) (n:Nat),vs=[.ref a,.int n]/\(H a=some (.lst (NV os))\/False)/\Ord os n/\n<=60/\∀H',Same H H'->Q .non H'
theorem jC (T:Tx K mg t):FnOk P t.wd K mg t.bs CX0 2 (t.f 9) (t.d 9) ["thing","many"] (ES K):=by
 refine okT (N:=["thing","many"]) (T.fn 9 rfl) (λH Q hr nd h=>?_)
 ·obtain⟨a,os,n,rfl,hs,hO,hn,k⟩:=h
  refine⟨_,(ak (aT (Re (gz (fv (bE (aC (jj T) hr (T.fn 8 rfl) (ah (qv 0) aa)))) (dX (az Bu (ag (aU (K:=K)) (by rfl) T.bz aP (ah (qv 0) aa)) (qv 1) (ax _))))) (ak bV) aG)),?_⟩;dsimp only[st0];nofun;refine⟨a,os,n,rfl,hs,hO,hn,λH1 s1=>?_⟩;nofun;refine⟨a,NV os,rfl,hs.elim (λh=>.inl (Q6 (s1 _ _ h))) (λh=>h.elim),?_⟩;rw[aB,hO.len];nofun;refine iP rfl ?_;nofun;exact k H1 s1
def B9:Sp:=λvs H Q _=>∃x,vs=[x]/\Th H x/\∀y H',Same H H'->ThE H' x y->Q y H'
theorem nA (T:Tx K mg t):FnOk P t.wd K mg t.bs CX0 1 (t.f 10) (t.d 10) ["thing"] B9:=by
 refine okT (N:=["thing","parts","firsts","part","at"]) (T.fn 10 rfl) (λH Q hr nd h=>?_)
 ·obtain⟨x,rfl,hx,k⟩:=h
  obtain⟨xs,hxl,hxs,hxc⟩:∃xs:List V,xs.length<=2/\(∀z∈xs,Sc z)/\((Sc x/\xs=[])\/∃t,x=.ref t/\H t=some (.tup xs)/\0<xs.length):=by
   rcases hx with h|⟨t,xs,rfl,ht,h0,h2,hs⟩
   ·exact⟨[],GW _,(λz hz=>nomatch hz),.inl ⟨h,rfl⟩⟩
   ·exact⟨xs,h2,hs,.inr ⟨t,rfl,ht,h0⟩⟩
  refine⟨_,(ae (aH (i:=1) (aQ (ah (qv 0) aa)))
   (ae (aH (i:=2) (aQ aa))
   (ae (cF Hb (az n8 (ag (aU (K:=K)) (by rfl) T.bz aP (ah (qv 2) aa)) (ag (aU (K:=K)) (by rfl) T.bz aP (ah (qv 1) aa)) (ax _)) (ae (aH (i:=3) (aO (bc (K:=K)) (qv 1) (ag (aU (K:=K)) (by rfl) T.bz aP (ah (qv 2) aa))))
   (ae (bb (br (K:=K) (qv 2) (ah (ag (aU (K:=K)) (by rfl) T.bz aP (ah (qv 1) aa)) aa)))
   (ak (aT (bE (ag (fH (K:=K)) (by rfl) T.ao ai (ah (qv 3) (ah (bB (ah (ay rfl T.cq cy (v:=.ty "list") rfl) (ah (ay rfl T.bu aZ (v:=.ty "tuple") rfl) aa))) aa)))) (ak (bb (pP (K:=K) (qv 1) (ah (qv 3) aa)))) aG)))))
   (ae (cA Hb rfl (lK rfl T.cz (ah (aI dM (ag (aU (K:=K)) (by rfl) T.bz aP (ah (qv 1) aa)) aj) (ah (fj fk aj) (ah (fj fk aj) aa)))) (aD (i:=4)) (ae (aH (i:=3) (aO (bc (K:=K)) (qv 1) (qv 4)))
   (ak (aT (bE (ag (aR (K:=K)) (by rfl) T.ao ai (ah (qv 3) (ah (ay rfl T.cq cy (v:=.ty "list") rfl) aa)))) (ak (iR (c0 (lE (K:=K)) (qv 1) (cx (aO (bc (K:=K)) (qv 2) (qv 4))) (cx (aI cV (aO (bc (K:=K)) (qv 2) (qv 4)) (ag (aU (K:=K)) (by rfl) T.bz aP (ah (qv 3) aa))))) (qv 1) (qv 4))) (ak (aT (bE (ag (aR (K:=K)) (by rfl) T.ao ai (ah (qv 3) (ah (ay rfl T.bu aZ (v:=.ty "tuple") rfl) aa)))) (ak (iR (bq (cG (K:=K)) (by rfl) T.bu aZ (ah (c0 (lE (K:=K)) (qv 1) (cx (aO (bc (K:=K)) (qv 2) (qv 4))) (cx (aI cV (aO (bc (K:=K)) (qv 2) (qv 4)) (ag (aU (K:=K)) (by rfl) T.bz aP (ah (qv 3) aa))))) aa)) (qv 1) (qv 4))) aG))))))
   (ak (aw (aO (bc (K:=K)) (qv 1) aj))))))),?_⟩
  dsimp only[st0];nofun;refine⟨aE (by simp),λpl hpl=>?_⟩;obtain⟨H1,e9,s1,tp1⟩:=nwR hpl (.lst [x]);rw[e9];nofun;refine⟨aE (by simp),λfl hfl=>?_⟩;have hfn:H fl=none:=s1.free hfl;have hpf:pl≠fl:=aq tp1 hfl;obtain⟨H2,e9,s2,e8,(tf2:H2 fl=some (.lst (NV [])))⟩:=nwD s1 hfl (.lst []);rw[e9];have tp2:=e8 _ _ tp1;nofun;refine⟨λc σ H'=>∃(fs:List Nat),c=1+xs.length - fs.length/\fs.length<=1+xs.length/\Same H H'/\H' fl=some (.lst (NV fs))/\((fs=[]/\H' pl=some (.lst [x]))\/(fs[0]? = some 1/\H' pl=some (.lst (x::xs))))/\∃v3 v4,σ=[some x,some (Rb pl),some (Rb fl),v3,v4],⟨_,[],rfl,by simp,s2,tf2,.inl ⟨rfl,tp2⟩,_,_,rfl⟩,?_⟩;rintro c σ H3 ⟨fs,rfl,hfs,s3,tf3,hcase,v3,v4,rfl⟩;rcases hcase with⟨rfl,tp3⟩|⟨hf0,tp3⟩
  ·nofun
   refine aJ (Q6 tf3) ?_;nofun;refine aJ (Q6 tp3) ?_;nofun;refine dP (by show((0:Nat):Int)<((1:Nat):Int);decide) ?_;refine⟨_,λ_ _ z=>z,?_⟩;nofun;refine aJ (Q6 tf3) ?_;nofun;refine⟨a9 tf3,?_⟩;nofun;refine aJ (Q6 tp3) ?_;nofun;refine aW tf3 (au (by simp[aB])) ?_;have s4:=s3.own (o:=.lst (NV [1])) hfn;have tf4:(upd H3 fl (.lst (NV [1]))) fl=some (.lst (NV [1])):=af;have tp4:(upd H3 fl (.lst (NV [1]))) pl=some (.lst [x]):=by rw[ar hpf];exact tp3
   have eap:NV []++[Q8 (([x]:List V).length:Nat)]=NV [1]:=rfl;rw[eap];generalize upd H3 fl (.lst (NV [1]))=H4 at s4 tf4 tp4;nofun;refine⟨aE (by simp),λtp htp=>?_⟩;obtain⟨H5,e9,s5,e8,ttp⟩:=nwD s4 htp (.tup [V.ty "list",V.ty "tuple"]);rw[e9];have tf5:=e8 _ _ tf4;have tp5:=e8 _ _ tp4;nofun;rcases hxc with⟨hsc,rfl⟩|⟨t,rfl,ht,h0⟩
   ·refine gb ttp hsc ?_
    nofun;exact⟨_,by simp,[1],rfl,by simp,s5,tf5,.inr ⟨rfl,tp5⟩,_,_,rfl⟩
   ·refine oH (s5 _ _ ht) ttp ?_
    nofun;refine⟨a9 tp5,?_⟩;nofun;refine pQ tp5 (s5 _ _ ht) (aE (by simp;lia)) ?_;exact⟨_,by simp,[1],rfl,by simp,s5.own hpl,by rw[ar (Hl hpf)];exact tf5,.inr ⟨rfl,af⟩,_,_,rfl⟩
  ·have hf1:0<fs.length:=bj hf0
   nofun;refine aJ (Q6 tf3) ?_;rw[aB];nofun;refine aJ (Q6 tp3) ?_;rw[G8];nofun;refine aV (λg=>?_) (λg=>?_)
   ·refine⟨_,λ_ _ z=>z,?_⟩
    have hlt:fs.length<1+xs.length:=by lia
    obtain⟨i,hi⟩:∃i,fs.length=i+1:=⟨fs.length - 1,by lia⟩
    have hix:i<xs.length:=by lia
    have hget:(x::xs)[fs.length]? = some xs[i]:=by rw[hi,Mn,GE hix]
    nofun;refine aJ (Q6 tf3) ?_;rw[aB];refine bx (Q6 tp3) (v:=xs[i]) (ba hget) ?_;have hsc:=hxs _ (GV hix);generalize xs[i]=part at hsc;nofun;refine⟨a9 tf3,?_⟩;nofun;refine aJ (Q6 tp3) ?_;rw[G8];nofun;refine aW tf3 (by rw[aB];exact au ⋯) ?_;rw[cB];obtain⟨H4,e9,s4,tf4,e8⟩:=owS s3 hfn (.lst (NV (fs++[xs.length+1])));rw[e9];have tp4:=e8 _ _ hpf tp3;nofun;refine⟨aE (by simp),λtp htp=>?_⟩;obtain⟨H5,e9,s5,e8,ttp⟩:=nwD s4 htp (.tup [V.ty "list",V.ty "tuple"]);rw[e9];have tf5:=e8 _ _ tf4;have tp5:=e8 _ _ tp4;nofun;refine gb ttp hsc ?_;nofun;exact⟨_,by rw[GY,Ie];lia,fs++[xs.length+1],rfl,by rw[GY,Ie];lia,s5,tf5,.inr ⟨by rw[GU hf1];exact hf0,tp5⟩,_,_,rfl⟩
   ·have hfl2:fs.length=1+xs.length:=by lia
    nofun;refine aJ (Q6 tp3) ?_;rw[G8];nofun;refine⟨xs.length+1,rfl,by lia,d6 (n:=xs.length+1) (λj σ H'=>Same H H'/\H' fl=some (.lst (NV fs))/\(∃y,H' pl=some (.lst (y::xs))/\(j<xs.length+1->y=x)/\(j=xs.length+1->ThE H' x y))/\∃v3 v4,σ=[some x,some (Rb pl),some (Rb fl),v3,v4]) ⟨s3,tf3,⟨x,tp3,λ_=>rfl,λh=>by lia⟩,_,_,rfl⟩ (λi σ H' hi _=>hi) (λσ H' _=>GJ _) ?_ ?_⟩
    ·rintro j x0 σ H4o H4 hj ⟨s4,tf4,⟨y,tp4,hy1,hy2⟩,v3,v4,rfl⟩ ⟨rfl,rfl⟩
     have hyx:=hy1 hj;subst hyx;by_cases hjm:j=xs.length
     ·have e0:xs.length+1 - 1 - j=0:=by lia
      rw[e0];nofun;refine bx (Q6 tp4) (v:=y) (ba (j:=0) rfl) ?_;nofun;rcases hxc with⟨hsc,hxn⟩|⟨t,hyt,ht,h0⟩
      ·refine oI hsc ?_
       nofun;refine oJ hsc ?_;nofun;exact⟨s4,tf4,⟨y,tp4,λ_=>rfl,λ_=>.inl ⟨hsc,rfl⟩⟩,_,_,rfl⟩
      ·rw[hyt]
       have ht4:=s4 _ _ ht;refine ji ht4 ?_;nofun;refine km ht4 ?_;nofun;refine bx (Q6 tf4) (kr (i:=0) rfl hf0) ?_;nofun;refine⟨_,rfl,?_⟩;nofun;refine bx (Q6 tf4) (kr (i:=0) rfl hf0) ?_;nofun;refine kj (Q7 ht4) ?_;nofun;refine⟨_,rfl,?_⟩;refine⟨pl,_,rfl,Q6 tp4,λz hz=>?_⟩;have ecut:jz (y::xs) (some ((1:Nat):Int)) (some (((1:Nat):Int)+(xs.length:Nat)))=xs:=by
        have e1:((1:Nat):Int)+(xs.length:Nat)=((1+xs.length:Nat):Int):=by lia
        unfold jz;rw[e1,HT.dU,HT.dU,G8];have m1:min 1 (xs.length+1)=1:=by lia
        have m2:min (1+xs.length) (xs.length+1)=xs.length+1:=by lia
        rw[m1,m2,List.drop_succ_cons,Ht,GN ⋯]
       rw[ecut];obtain⟨H5,e9,s5,e8,tz⟩:=nwD s4 hz (.lst xs);rw[e9];have tf5:=e8 _ _ tf4;have tp5:=e8 _ _ tp4;nofun;refine fV (Q6 tz) λu hu=>?_
       obtain⟨H6,e9,s6,e8,tu⟩:=nwD s5 hu (.tup xs);rw[e9];have tf6:=e8 _ _ tf5;have tp6:=e8 _ _ tp5;have hup:u≠pl:=λe=>by rw[e,tp5]at hu;cases hu
       nofun;refine gR tp6 (iW (i:=0) rfl (by simp)) ?_;have s7:=s6.own (o:=.lst ((y::xs).set 0 (Rb u))) hpl;refine⟨s7,by rw[ar (Hl hpf)];exact tf6,⟨Rb u,by rw[af];rfl,λh=>by lia,λ_=>.inr ⟨t,u,xs,rfl,rfl,s7 _ _ ht,by rw[ar hup];exact tu,h0,hxl,hxs⟩⟩,_,_,rfl⟩
     ·obtain⟨i,hi,hil⟩:∃i,xs.length+1 - 1 - j=i+1/\i<xs.length:=⟨xs.length - j - 1,by lia,by lia⟩
      rw[hi];have hsc:=hxs _ (GV hil);nofun;refine bx (Q6 tp4) (v:=xs[i]) (ba (by rw[Mn,GE hil])) ?_;generalize xs[i]=part at hsc;nofun;refine oI hsc ?_;nofun;refine oJ hsc ?_;nofun;exact⟨s4,tf4,⟨y,tp4,λ_=>rfl,λh=>by lia⟩,_,_,rfl⟩
    ·rintro σ H4 ⟨s4,tf4,⟨y,tp4,hy1,hy2⟩,v3,v4,rfl⟩
     nofun;refine bx (Q6 tp4) (v:=y) (ba (j:=0) rfl) ?_;exact k y H4 s4 (hy2 rfl)
def ET:Sp:=λvs H Q _=>∃(a c:Addr) (zs:List V) (os:List Nat) (n:Nat),vs=[.ref a,.ref c]/\(H a=some (.lst zs)\/H a=some (.tup zs))/\(∀z∈zs,Th H z)/\zs.length=n/\(H c=some (.lst (NV os))\/False)/\Ord os n/\n<=60/\
 ∀(l:Addr) (ys:List V) H',H l=none->Same H H'->H' l=some (.lst ys)->ys.length=n->(∀(k o:Nat) z,os[k]? = some o->zs[o]? = some z->∃y,ys[k]? = some y/\ThE H' z y)->Q (.ref l) H'
theorem tI{K:GH}{H:Hp}{Q:VK}(s:H p=some (.lst xs)\/H p=some (.tup xs))(h:Q (.int xs.length) H):Bj K [.ref p] H Q:=s.elim (λs=>aJ (Q6 s) h) (λs=>kj (Q7 s) h)
theorem nB{H:Hp}(s:H p=some (.lst xs)\/H p=some (.tup xs))(e:Same H H1):H1 p=some (.lst xs)\/H1 p=some (.tup xs):=s.elim (λh=>.inl (e _ _ h)) (λh=>.inr (e _ _ h))
theorem Ca (T:Tx K mg t):FnOk P t.wd K mg t.bs CX0 3 (t.f 11) (t.d 11) ["things","order"] ET:=by
 refine okT (N:=["things","order"]) (T.fn 11 rfl) (λH Q hr nd h=>?_)
 ·obtain⟨a,c,zs,os,n,rfl,ha,hT,hzn,hc,hO,hn,k⟩:=h
  have hlen:=hO.len;rcases hc with tc|tc
  ·refine⟨_,(ae (bb (aC (jC T) hr (T.fn 9 rfl) (ah (qv 1) (ah (ag (aU (K:=K)) (by rfl) T.bz aP (ah (qv 0) aa)) aa))))
   (ak (aw (a0 (N:=["place","things"]) (tgs:=["place"]) (frs:=["things"]) (ix:=[0]) ⟨rfl,by decide +kernel,rfl,by decide +kernel,rfl,rfl,⟨⟨rfl,rfl,_,rfl,rfl⟩,GR⟩,⟨rfl,GR⟩,rfl⟩ rfl (aS (K:=K) (qv 1)) (λ_ _ _ _=>(aD (i:=0))) (λ_ _ _ _=>(aC (nA T) hr (T.fn 10 rfl) (ah (aO (Ew (K:=K)) (qv 1) (qv 0)) aa))))))),?_⟩
   dsimp only[st0];nofun;refine tI ha ?_;rw[hzn];nofun;refine⟨c,os,n,rfl,.inl tc,hO,hn,λH1 s1=>?_⟩;have tc1:=s1 _ _ tc;nofun;refine⟨c,rfl,⟨_,Q6 tc1⟩,aX (a:=c) (vs:=NV os) (λi ys σ H'=>Same H1 H'/\ys.length=i/\(∀(k o:Nat) z,k<i->os[k]? = some o->zs[o]? = some z->∃y,ys[k]? = some y/\ThE H' z y)/\∃v,σ=[v,some (Rb a)]) (by rw[aB];exact au ⋯) (λi ys σ H' h=>h.2.1) (λi ys σ H' h=>Q6 (h.1 _ _ tc1)) ⟨Rc _,rfl,λk o z h=>absurd h (JJ _),none,rfl⟩ ?_ ?_⟩
   ·rintro i ys σ H2 x hx ⟨s2,hyl,hys,v,rfl⟩
    have hil:=bj hx;obtain⟨o,rfl,ho,hom,hi⟩:=aF hx;have hon:o<zs.length:=by rw[hzn];exact hO.lt o hom
    have hz:=(hT _ (GV hon)).same (s1.trans s2);nofun;refine BO (nB ha (s1.trans s2)) (v:=zs[o]) (ba (by simp[hon])) ?_;refine⟨zs[o],rfl,hz,λy H3 s3 hy=>?_⟩;refine Rf hil ⟨s2.trans s3,by simp[hyl],λk' o' z' hk' e1 e2=>?_,_,rfl⟩;by_cases e:k'=i
    ·subst e
     rw[ho]at e1;cases e1;rw[GE hon]at e2;cases e2;exact⟨y,by rw[G6 ⋯,hyl,JB];rfl,hy⟩
    ·obtain⟨y',g1,g2⟩:=hys k' o' z' ⋯ e1 e2
     exact⟨y',by rw[GU (bj g1)];exact g1,g2.same s3⟩
   ·rintro ys σ H2 ⟨s2,hyl,hys,v,rfl⟩ l hl
    rw[aB]at hyl hys;refine k l ys _ (s1.free (s2.free hl)) ((s1.trans s2).new hl) af ⋯ λk' o z e1 e2=>?_
    obtain⟨y,g1,g2⟩:=hys k' o z (bj e1) e1 e2;exact⟨y,g1,g2.same ((Rc H2).new hl)⟩
  ·exact tc.elim
def RowsT(H:Hp)(ps:List Addr)(rss:List (List Nat)):Prop:=ps.length=rss.length/\∀(i:Nat) p r,ps[i]? = some p->rss[i]? = some r->H p=some (.tup (NV r))
theorem RowsT.same{H:Hp}(h:RowsT H ps rss)(e:Same H H1):RowsT H1 ps rss:=⟨h.1,λi p z a c=>e _ _ (h.2 i p z a c)⟩
theorem RowsT.snoc{H:Hp}(h:RowsT H ps rss)(e:H p=some (.tup (NV r))):RowsT H (ps++[p]) (rss++[r]):=by
 refine⟨by simp[h.1],λi q y a c=>?_⟩;rcases bO a with⟨l,a⟩|⟨l,a⟩
 ·rcases bO c with⟨_,c⟩|⟨l',c⟩
  ·exact h.2 i q y a c
  ·have:=h.1;lia
 ·rcases bO c with⟨l',c⟩|⟨_,c⟩
  ·have:=h.1;lia
  ·rw[a,c];exact e
theorem RowsT.st2{H:Hp}(h:RowsT H ps rss)(t:Tp2 H q)(e:St2 q H H1):RowsT H1 ps rss:=⟨h.1,λi p z a b=>by
 have hp:=h.2 i p z a b;obtain⟨x,y,ht,_⟩:=t;exact e.keep _ _ hp (bw hp ht (by intro c;cases c))⟩
theorem pX{H:Hp}{x:Addr}{zs:List V}(t:Tp2 H p)(hx:H x=some (.tup zs)):x≠p:=by
 obtain⟨a1,a2,h9,_⟩:=t;exact bw hx h9 (by intro c;cases c)
theorem RowsT.own{H:Hp}(h:RowsT H ps rss)(hl:H l=some (.lst xs)):RowsT (upd H l (.lst ys)) ps rss:=⟨h.1,λi p z a b=>by
 have:=h.2 i p z a b;rw[ar (bw this hl (by intro c;cases c))];exact this⟩
def Cb(rss:List (List Nat))(w b:Nat):Prop:=∀r∈rss,r.length=w/\∀x∈r,x<b
theorem tJ{w:Nat}(h:Cb rss w b)(hr:rss[i]? = some r)(hc:c<w):r[c]? = some (r.getD c 0)/\(cT rss c)[i]? = some (r.getD c 0):=by
 have hl:=(h r (G3 hr)).1;constructor
 ·have:c<r.length:=by lia
  simp[this]
 ·unfold cT
  rw[GK,hr];rfl
theorem oU{w:Nat}(h:Cb rss w b)(hc:c<w):∀o∈cT rss c,o<b:=λo ho=>by
 obtain⟨r,hr,rfl⟩:=Hk.mp ho;obtain⟨h1,h2⟩:=h r hr;have:c<r.length:=by lia
 apply h2;rw[GG,GE this];exact GV this
theorem tK(rss:List (List Nat))(c:Nat):(cT rss c).length=rss.length:=by simp[cT]
def vU:Sp:=λvs H Q _=>∃(a:Addr) (os:List Nat) (b:Nat),vs=[.ref a,.int b]/\(H a=some (.lst (NV os))/\True)/\(∀o∈os,o<b)/\os.length<=200/\b<=64/\∀(l:Addr) H',H l=none->Same H H'->H' l=some (.lst (NV (cnt os b)))->Q (.ref l) H'
theorem jk (T:Tx K mg t):FnOk P t.wd K mg t.bs CX0 1 (t.f 0) (t.d 0) ["row","base"] vU:=by
 refine okT (N:=["row","base","often","figure"]) (T.fn 0 rfl) (λH Q hr nd h=>?_)
 ·obtain⟨a,os,b,rfl,ta,hob,hol,hb,k⟩:=h
  obtain⟨ta,_⟩:=ta
  ·refine⟨_,(ae (aH (i:=2) (aI qX (aQ (ah aj aa)) (qv 1)))
   (ae (cA Hb rfl (aS (K:=K) (qv 0)) (aD (i:=3)) (ak (kx (K:=K) (qv 2) (qv 3) aj)))
   (ak (aw (qv 2))))),?_⟩
   dsimp only[st0];nofun;refine⟨aE (by simp),λq0 hq0=>?_⟩;obtain⟨H2,e9,s2,t0⟩:=nwR hq0 (.lst [Q8 0]);rw[e9];nofun;refine⟨q0,_,_,rfl,rfl,t0,by lia,by lia,aE (by simp;lia),λm hm=>?_⟩;have efl:(GS ((b:Nat):Int).toNat [Q8 0]).flatten=NV (cnt [] b):=by
    show(GS b [Q8 0]).flatten=_
    rw[JA,NV,L2.cnt,IV];apply Jy (by simp);intro i h1 h2;simp
   rw[efl];have hmn:H m=none:=s2.free hm;obtain⟨H3,e9,s3,tm⟩:=nwS s2 hm (.lst (NV (cnt [] b)));rw[e9];nofun;refine⟨a,rfl,⟨_,Q6 (s3 _ _ ta)⟩,du (a:=a) (xs:=NV os) (λi σ H'=>Same H H'/\H' m=some (.lst (NV (cnt (os.take i) b)))/\∃v,σ=[some (Rb a),some (Q8 b),some (Rb m),v]) ⟨s3,tm,none,rfl⟩ (λi σ H' _ h=>Q6 (h.1 _ _ ta)) ?_ ?_⟩
   ·rintro i x σ H4 hx ⟨s4,tm4,v,rfl⟩
    obtain⟨o,rfl,ho,hom,hi⟩:=aF hx;have hlt:=hob o hom;nofun;refine⟨m,_,_,_,rfl,rfl,Q6 tm4,by lia,dh (fE hlt),?_⟩;nofun;refine⟨_,_,rfl,rfl,?_⟩;refine gR tm4 (iW rfl (by rw[aB,bU];exact hlt)) ?_;refine⟨s4.own hmn,?_,_,rfl⟩;rw[af,G4,ho];show some (HO.lst ((NV (cnt (os.take i) b)).set o (Q8 ((((os.take i).count o+1:Nat)):Int))))=some (HO.lst (NV (cnt (os.take i++[o]) b)))
    rw[lJ,vg hlt]
   ·rintro σ H4 ⟨s4,tm4,v,rfl⟩
    rw[GN (by rw[aB];exact GJ _)]at tm4;nofun;exact k m H4 hmn s4 tm4
def vV:Sp:=λvs H Q _=>∃(a:Addr) (os:List Nat),vs=[.ref a]/\(H a=some (.lst (NV os))\/False)/\os.length<=64/\∀H',Same H H'->Q (.bl (fZ os)) H'
theorem l9{os:List Nat}{o:Nat}(h:os[i]? = some o):lL (os.take (i+1))=lL (os.take i)++(if 0<o then[o]else[]):=by
 unfold lL;rw[G4,h,List.filter_append];congr 1;simp only[Pe];split<;>simp_all
theorem vW(os:List Nat)(i:Nat):(lL (os.take i)).length<=i:=by
 refine HU (List.length_filter_le _ _) ?_;rw[G5];lia
theorem gW (T:Tx K mg t):FnOk P t.wd K mg t.bs CX0 1 (t.f 3) (t.d 3) ["often"] vV:=by
 refine okT (N:=["often"]) (T.fn 3 rfl) (λH Q hr nd h=>?_)
 ·obtain⟨a,os,rfl,ha,hol,k⟩:=h
  have e9:decide (((lL os).length:Int) > 1)=fZ os:=by
   unfold fZ;exact decide_eq_decide.mpr ⋯
  rcases ha with ta|ta
  ·refine⟨_,(ak (aw (aN qb (ag (aU (K:=K)) (by rfl) T.bz aP (ah (ve (N:=["many"]) (tgs:=["many"]) (frs:=[]) (ix:=[]) ⟨rfl,by decide +kernel,rfl,by decide +kernel,rfl,rfl,GR,GR,rfl⟩ rfl (aS (K:=K) (qv 0)) (λ_ _ _ _=>(aD (i:=0))) (λ_ _ _ _=>(qv 0)) (λ_ _ _ _=>(az qb (qv 0) aj (ax _)))) aa)) aj (ax _)))),?_⟩
   dsimp only[st0];nofun;refine⟨a,rfl,⟨_,Q6 ta⟩,rF (a:=a) (vs:=NV os) (λi ys σ H'=>H'=H/\ys=NV (lL (os.take i))/\∃v,σ=[v]) (by rw[aB];exact au ⋯) (λi ys σ H' h=>by rw[h.2.1,aB];exact vW os i) (λi ys σ H' h=>by rw[h.1];exact Q6 ta) ⟨rfl,rfl,none,rfl⟩ ?_ ?_⟩
   ·rintro i ys σ H' x hx ⟨rfl,rfl,v,rfl⟩
    have hil:=bj hx;obtain⟨o,rfl,ho,_,_⟩:=aF hx;nofun;refine aV (λg=>?_) (λg=>?_)
    ·nofun
     refine Rf hil ⟨rfl,?_,_,rfl⟩;rw[cB,l9 ho,if_pos ⋯]
    ·refine Rf hil ⟨rfl,?_,_,rfl⟩
     rw[l9 ho,if_neg ⋯,IB]
   ·rintro ys σ H' ⟨rfl,rfl,v,rfl⟩ l hl
    rw[GN (by rw[aB];exact GJ _)];nofun;refine aJ (Q6 af) ?_;rw[aB];nofun;rw[e9];exact k _ ((Rc H').new hl)
  ·exact ta.elim
def Cc(K:GH):Sp:=λvs H Q _=>∃(a:Addr) (ps:List Addr) (rss:List (List Nat)) (w:Nat),vs=[.ref a]/\H a=some (.lst (ps.map Rb))/\ps.length=rss.length/\(∀p,ps[0]? = some p->∃zs,(H p=some (.lst zs)\/H p=some (.tup zs))/\zs.length=w)/\Q (.int ((if rss=[]then 0 else w:Nat):Int)) H
theorem eD (T:Tx K mg t):FnOk P t.wd K mg t.bs CX0 1 (t.f 2) (t.d 2) ["rows"] (Cc K):=by
 refine okT (N:=["rows"]) (T.fn 2 rfl) (λH Q hr nd h=>?_)
 ·obtain⟨a,ps,rss,w,rfl,ta,hl,hw,k⟩:=h
  refine⟨_,(ae (aT (fv (fW (K:=K) (qv 0))) (ak (aw aj)) aG)
   (ak (aw (ag (aU (K:=K)) (by rfl) T.bz aP (ah (aO (bc (K:=K)) (qv 0) aj) aa))))),?_⟩
  dsimp only[st0];nofun;refine⟨_,CY (Q6 ta),?_⟩;cases ps with
  | nil=>
   have:rss=[]:=HZ.mp hl.symm;rw[if_pos this]at k;nofun;exact k
  | cons p r=>
   have:rss≠[]:=λz=>by rw[z]at hl;simp at hl
   rw[if_neg this]at k;obtain⟨zs,hz,hzl⟩:=hw p rfl;refine cR ?_;nofun;refine bx (Q6 ta) (v:=Rb p) (ba (j:=0) rfl) ?_;nofun;refine⟨p,zs,rfl,hz.elim (λh=>.inl (Q6 h)) (λh=>.inr (Q7 h)),?_⟩;rw[hzl];nofun;exact k
def PrAt(H:Hp)(qs:List Addr)(ws:List (Nat×Nat)):Prop:=qs.length=ws.length/\∀(i:Nat) q s,qs[i]? = some q->ws[i]? = some s->H q=some (.tup [.int (s.1:Nat),.int (s.2:Nat)])
theorem PrAt.same{H:Hp}{ws:List (Nat×Nat)}(h:PrAt H qs ws)(s:Same H H1):PrAt H1 qs ws:=⟨h.1,λi q t a b=>s _ _ (h.2 i q t a b)⟩
theorem PrAt.own{H:Hp}{ws:List (Nat×Nat)}(h:PrAt H qs ws)(hl:H l=some (.lst xs)):PrAt (upd H l (.lst ys)) qs ws:=⟨h.1,λi q t a b=>by
 have e:=h.2 i q t a b;rw[ar (bw e hl (by intro c;cases c))];exact e⟩
theorem PrAt.snoc{H:Hp}{ws:List (Nat×Nat)}{s:Nat×Nat}(h:PrAt H qs ws)(e:H q=some (.tup [.int (s.1:Nat),.int (s.2:Nat)])):PrAt H (qs++[q]) (ws++[s]):=by
 refine⟨by simp[h.1],λi p y a b=>?_⟩;rcases bO a with⟨l,a⟩|⟨l,a⟩
 ·rcases bO b with⟨_,b⟩|⟨l',b⟩
  ·exact h.2 i p y a b
  ·have:=h.1;lia
 ·rcases bO b with⟨l',b⟩|⟨_,b⟩
  ·have:=h.1;lia
  ·rw[a,b];exact e
theorem PrAt.nil{H:Hp}:PrAt H [] []:=⟨rfl,λi q s h=>by simp at h⟩
theorem TrAt.nil{H:Hp}:TrAt H [] []:=⟨rfl,λi q s h=>by simp at h⟩
theorem iI(h:rss[i]? = some r):rss.getD i []=r:=by rw[GG,h];rfl
def Cd:Sp:=λvs H Q _=>∃(a:Addr) (ps:List Addr) (rss:List (List Nat)),vs=[.ref a]/\H a=some (.lst (ps.map Rb))/\RowsT H ps rss/\rss.length<=60/\∀(l:Addr) H',H l=none->Same H H'->H' l=some (.lst (NV (bP rss rss.length)))->Q (.ref l) H'
theorem tL (T:Tx K mg t):FnOk P t.wd K mg t.bs CX0 1 (t.f 14) (t.d 14) ["rows"] Cd:=by
 refine okT (N:=["rows","lengths","place","row"]) (T.fn 14 rfl) (λH Q hr nd h=>?_)
 ·obtain⟨a,ps,rss,rfl,ta,hR,hn,k⟩:=h
  have hpl:ps.length=rss.length:=hR.1;refine⟨_,(ae (aH (i:=1) (aQ aa))
   (ae (cA Hb rfl (fY (K:=K) rfl T.cC (ah (qv 0) aa)) (bF (K:=K) (n:=2) rfl (av (aD (i:=2)) (av (aD (i:=3)) aY))) (ak (aT (Re (nZ (az qb (qv 2) aj (ax _)) (kn (az (BN (K:=K) hr.units0) (bq (cG (K:=K)) (by rfl) T.bu aZ (ah (aO (bc (K:=K)) (qv 0) (aI dM (qv 2) aj)) aa)) (bq (cG (K:=K)) (by rfl) T.bu aZ (ah (qv 3) aa)) (ax _))))) (ak (vv (K:=K) (qv 1) (fj fk aj) aj)) (ak (bb (br (K:=K) (qv 1) (ah aj aa)))))))
   (ak (aw (qv 1))))),?_⟩
  dsimp only[st0];nofun;refine⟨aE (by simp),λl hl=>?_⟩;obtain⟨H1,e9,s1,(tl:H1 l=some (.lst (NV (bP rss 0))))⟩:=nwR hl (.lst []);rw[e9];nofun;refine⟨a,rfl,⟨_,Q6 (s1 _ _ ta)⟩,d6 (n:=rss.length) (λi σ H'=>Same H H'/\H' l=some (.lst (NV (bP rss i)))/\∃v w,σ=[some (Rb a),some (Rb l),v,w]) ⟨s1,tl,none,none,rfl⟩ ?_ ?_ ?_ ?_⟩
  ·rintro i σ H2 hi ⟨s2,_⟩
   have hip:i<ps.length:=by lia
   exact⟨_,_,Q6 (s2 _ _ ta),by rw[GK,GE hip];rfl⟩
  ·rintro σ H2 ⟨s2,_⟩
   exact⟨_,Q6 (s2 _ _ ta),by rw[GF];exact hpl⟩
  ·rintro i x σ H2 H3 hi ⟨s2,t2,v,w,rfl⟩ ⟨q,x1,rfl,hq,rfl,hx1⟩
   have hx2:=hx1 _ (Q6 (s2 _ _ ta));obtain⟨p,rfl,hp,hpm,hip⟩:=aF hx2;refine bf af ?_;dsimp only[HM];obtain⟨H3,e9,s3,e8,_⟩:=nwD s2 hq (.tup [Q8 (i:Nat),Rb p]);rw[e9];have t3:=e8 _ _ t2;have hlr:=lR rss i;nofun;refine aV (λg=>?_) (λg=>?_)
   ·have hi0:0<i:=by lia
    have e1:(i:Int) - 1=((i - 1:Nat):Int):=by lia
    have hip1:i - 1<ps.length:=by lia
    have ei:rss[i]? = some rss[i]:=by simp[hi]
    have ei1:rss[i - 1]? = some (rss[i - 1]'⋯):=GE _;have tp:=s3 _ _ (hR.2 i p rss[i] hp ei);have tp1:=s3 _ _ (hR.2 (i - 1) ps[i - 1] _ (by simp[hip1]) ei1);nofun;rw[e1];refine bx (Q6 (s3 _ _ ta)) (v:=Rb ps[i - 1]) (ba (by rw[GK,GE hip1];rfl)) ?_;nofun;refine⟨_,_,rfl,.inr ⟨Q7 tp1,?_⟩⟩;nofun;refine⟨p,_,rfl,.inr ⟨Q7 tp,?_⟩⟩;refine wY (ns:=bo _) (ms:=bo _) (Q7 (by rw[<-cH];exact tp1)) (Q7 (by rw[<-cH];exact tp)) ?_;have ev:HT.dR (bo (rss[i - 1]'⋯)) (bo rss[i])=!brk rss i:=by
     rw[HT.lO];unfold brk lxt;rw[iI ei,iI ei1]
    rw[ev];nofun;cases hb:brk rss i with
    | false=>
     nofun;obtain⟨i',rfl⟩:∃i',i=i'+1:=⟨i - 1,by lia⟩
     obtain⟨ys,z,ez⟩:=nc (jb rss i');have er:bP rss (i'+1+1)=ys++[z+1]:=by rw[bP,if_pos ⟨hi0,hb⟩,ez,gf]
     rw[ez]at t3;refine⟨l,_,Q8 (z:Nat),rfl,rfl,Q6 t3,by rw[<-cB,List.getLast?_concat],?_⟩;nofun;refine⟨_,_,rfl,rfl,?_⟩;refine gR t3 (j:=ys.length) (by rw[aB,GY,Ie];unfold ixN;rw[if_neg (by decide),if_pos ⋯];congr 1;lia) ?_;refine⟨s3.own hl,?_,_,_,rfl⟩;rw[af,er];show some (HO.lst ((NV (ys++[z])).set ys.length (Q8 ((z+1:Nat):Int))))=_
     rw[lJ];simp
    | true=>
     refine cR ?_;nofun;refine⟨a9 t3,?_⟩;nofun;refine aW t3 (by rw[aB];exact au ⋯) ?_;refine⟨s3.own hl,?_,_,_,rfl⟩;rw[af,bP,if_neg (λz=>by rw[hb]at z;exact Bool.noConfusion z.2)];exact congrArg (λz=>some (HO.lst z)) (cB (bP rss i) 1)
   ·have hi0:i=0:=by lia
    subst hi0;nofun;refine⟨a9 t3,?_⟩;nofun;refine aW t3 (by rw[aB];exact au ⋯) ?_;refine⟨s3.own hl,?_,_,_,rfl⟩;rw[af];have e1:bP rss (0+1)=[1]:=by show(if 0<0/\brk rss 0=false then zY (bP rss 0)else bP rss 0++[1])=[1];rw[if_neg ⋯];rfl
    rw[e1];rfl
  ·rintro σ H2 ⟨s2,t2,v,w,rfl⟩
   nofun;exact k l H2 hl s2 t2
def za:Sp:=λvs H Q _=>∃(a:Addr) (ls:List Nat),vs=[.ref a]/\(H a=some (.lst (NV ls))\/False)/\ls.length<=200/\
 ∀(t st bh:Addr) (qs:List Addr) H',H st=none->H bh=none->Same H H'->H' t=some (.tup [.ref st,.ref bh])->H' st=some (.lst (qs.map Rb))->TrAt H' qs (rnd 0 ls).1->H' bh=some (.lst (NV (rnd 0 ls).2))->Q (.ref t) H'
theorem tM{ls:List Nat}(h:2*i<ls.length):(∃a b r,ls.drop (2*i)=a::b::r/\ls.drop (2*(i+1))=r)\/∃a,ls.drop (2*i)=[a]/\ls.drop (2*(i+1))=[]:=by
 have hd:ls.drop (2*(i+1))=(ls.drop (2*i)).drop 2:=by rw[Ky];congr 1
 have hl:(ls.drop (2*i)).length=ls.length - 2*i:=Hm ..;rw[hd];generalize ls.drop (2*i)=rem at hl
 match rem,hl with
 | [],hl=>simp at hl;lia
 | [a],_=>exact .inr ⟨a,rfl,rfl⟩
 | a::b::r,_=>exact .inl ⟨a,b,r,rfl,rfl⟩
theorem ik (T:Tx K mg t):FnOk P t.wd K mg t.bs CX0 1 (t.f 17) (t.d 17) ["lengths"] za:=by
 refine okT (N:=["lengths","steps","behind","first","at","both","last"]) (T.fn 17 rfl) (λH Q hr nd h=>?_)
 ·obtain⟨a,ls,rfl,hta,hn,k⟩:=h
  rcases hta with ta|ta
  ·refine⟨_,(ae (aH (i:=1) (aQ aa))
   (ae (aH (i:=2) (aQ aa))
   (ae (aH (i:=3) aj)
   (ae (cA Hb rfl (rS rfl T.cz (ah aj (ah (ag (aU (K:=K)) (by rfl) T.bz aP (ah (qv 0) aa)) (ah aj aa)))) (aD (i:=4)) (ae (aH (i:=5) (c0 (lE (K:=K)) (qv 0) (cx (qv 4)) (cx (aI cV (qv 4) aj))))
   (ae (aH (i:=6) (aI cV (qv 3) (ag (lF (K:=K) rfl) (by rfl) T.mK l7 (ah (qv 5) aa))))
   (ae (aT (az eV (ag (aU (K:=K)) (by rfl) T.bz aP (ah (qv 5) aa)) aj (ax _)) (ak (bb (br (K:=K) (qv 1) (ah (bB (ah (qv 3) (ah (aI cV (qv 3) (aO (bc (K:=K)) (qv 5) aj)) (ah (qv 6) aa)))) aa)))) aG)
   (ae (bb (br (K:=K) (qv 2) (ah (aI dM (qv 6) (qv 3)) aa)))
   (ak (aH (i:=3) (qv 6))))))))
   (ak (aw (bB (ah (qv 1) (ah (qv 2) aa))))))))),?_⟩
   dsimp only[st0];nofun;refine⟨aE (by simp),λst hst=>?_⟩;obtain⟨H1,e9,s1,(ts1:H1 st=some (.lst (([]:List Addr).map Rb)))⟩:=nwR hst (.lst []);rw[e9];nofun;refine⟨aE (by simp),λbh hbh=>?_⟩;have hbn:H bh=none:=s1.free hbh;have hsb:st≠bh:=aq ts1 hbh;obtain⟨H2,e9,s2,e8,(tb2:H2 bh=some (.lst (NV [])))⟩:=nwD s1 hbh (.lst []);rw[e9];have ts2:=e8 _ _ ts1;nofun;refine aJ (Q6 (s2 _ _ ta)) ?_;rw[aB];nofun;refine⟨ls.length,rfl,by lia,d6 (n:=(ls.length+1) / 2) (λi σ H'=>Same H H'/\(∃(ss:List dJ) (qs:List Addr) (bs:List Nat) (f:Nat),H' st=some (.lst (qs.map Rb))/\TrAt H' qs ss/\H' bh=some (.lst (NV bs))/\(rnd 0 ls).1=ss++(rnd f (ls.drop (2*i))).1/\(rnd 0 ls).2=bs++(rnd f (ls.drop (2*i))).2/\∃v4 v5 v6,σ=[some (Rb a),some (Rb st),some (Rb bh),some (Q8 (f:Nat)),v4,v5,v6])) ⟨s2,[],[],[],0,ts2,TrAt.nil,tb2,rfl,rfl,_,_,_,rfl⟩ (λi σ H' hi _=>hi) (λσ H' _=>GJ _) ?_ ?_⟩
   ·rintro i x σ H3o H3 hi ⟨s3,ss,qs,bs,f,ts3,T3,tb3,e1,e2,v4,v5,v6,rfl⟩ ⟨rfl,rfl⟩
    have h2i:2*i<ls.length:=by lia
    have hlen:=i8 0 ls;have hsl:ss.length<=ls.length:=by have:=congrArg HL e1;rw[GY]at this;lia
    have hbl:bs.length<=ls.length:=by have:=congrArg HL e2;rw[GY]at this;lia
    have hql:qs.length=ss.length:=T3.1;have ek:((2*i:Nat):Int)+2=((2*i+2:Nat):Int):=by lia
    nofun;refine⟨_,rfl,?_⟩;nofun;rw[ek];refine⟨_,rfl,?_⟩;refine yZ (s3 _ _ ta) λz H4 s4 tz=>?_
    rw[yM ls h2i]at tz;have ts4:=s4 _ _ ts3;have T4:=T3.same s4;have tb4:=s4 _ _ tb3;rcases tM h2i with⟨p,q,r,er,er'⟩|⟨p,er,er'⟩
    ·rw[er,gH]at e1 e2
     rw[er]at tz;have etk:(p::q::r).take 2=[p,q]:=rfl;rw[etk]at tz;nofun;refine jM (ns:=[p,q].map λx:Nat=>(x:Int)) (Q6 (by rw[<-lI];exact tz)) ?_;rw[lN];have es:(f:Int)+(([p,q].sum:Nat):Int)=((f+p+q:Nat):Int):=by simp;lia
     nofun;rw[es];nofun;refine aJ (Q6 tz) ?_;nofun;refine dP rfl ?_;nofun;refine⟨a9 ts4,?_⟩;nofun;have ep:(f:Int)+((p:Nat):Int)=((f+p:Nat):Int):=by lia
     rw[ep];refine⟨aE (by simp),λu hu=>?_⟩;obtain⟨H5,e9,s5,tu⟩:=nwR hu (.tup [Q8 (f:Nat),Q8 ((f+p:Nat):Int),Q8 ((f+p+q:Nat):Int)]);rw[e9];nofun;refine aW (s5 _ _ ts4) (by rw[GF,hql];exact au ⋯) ?_;have s6:=(s3.trans (s4.trans s5)).own (o:=.lst (qs.map Rb++[Rb u])) hst;have ts6:(upd H5 st (.lst (qs.map Rb++[Rb u]))) st=some (.lst ((qs++[u]).map Rb)):=by rw[af,GP];rfl
     have tb6:(upd H5 st (.lst (qs.map Rb++[Rb u]))) bh=some (.lst (NV bs)):=by rw[ar (Hl hsb)];exact s5 _ _ tb4
     have T6:TrAt (upd H5 st (.lst (qs.map Rb++[Rb u]))) (qs++[u]) (ss++[(f,f+p,f+p+q)]):=((T4.same s5).snoc tu).own (s5 _ _ ts4);generalize upd H5 st (.lst (qs.map Rb++[Rb u]))=H6 at s6 ts6 tb6 T6;nofun;refine⟨a9 tb6,?_⟩;have ed:((f+p+q:Nat):Int) - ((f:Nat):Int)=((p+q:Nat):Int):=by lia
     nofun;rw[ed];refine aW tb6 (by rw[aB];exact au ⋯) ?_;rw[cB];nofun;refine⟨s6.own hbn,ss++[(f,f+p,f+p+q)],qs++[u],bs++[p+q],f+p+q,by rw[ar hsb];exact ts6,T6.own tb6,af,?_,?_,_,_,_,rfl⟩
     ·rw[er',HV];exact e1
     ·rw[er',HV];exact e2
    ·rw[er,gI]at e1 e2
     rw[er]at tz;have etk:[p].take 2=[p]:=rfl;rw[etk]at tz;nofun;refine jM (ns:=[p].map λx:Nat=>(x:Int)) (Q6 (by rw[<-lI];exact tz)) ?_;rw[lN];have es:(f:Int)+(([p].sum:Nat):Int)=((f+p:Nat):Int):=by simp
     nofun;rw[es];nofun;refine aJ (Q6 tz) ?_;nofun;refine cD (λz=>absurd (Q8.inj z) (by show ¬(((1:Nat):Int)=2);decide)) ?_;nofun;refine⟨a9 tb4,?_⟩;have ed:((f+p:Nat):Int) - ((f:Nat):Int)=((p:Nat):Int):=by lia
     nofun;rw[ed];refine aW tb4 (by rw[aB];exact au ⋯) ?_;rw[cB];nofun;refine⟨(s3.trans s4).own hbn,ss,qs,bs++[p],f+p,by rw[ar hsb];exact ts4,T4.own tb4,af,?_,?_,_,_,_,rfl⟩
     ·rw[er',d7];exact e1
     ·rw[er',d7,IB];exact e2
   ·rintro σ H3 ⟨s3,ss,qs,bs,f,ts3,T3,tb3,e1,e2,v4,v5,v6,rfl⟩
    have ed:ls.drop (2*((ls.length+1) / 2))=[]:=Mz ⋯;rw[ed,d7,IB]at e1 e2;rw[<-e1]at T3;rw[<-e2]at tb3;nofun;refine⟨aE (by simp),λt ht=>?_⟩;exact k t st bh qs _ hst hbn (s3.new ht) af (by rw[ar (aq ts3 ht)];exact ts3) (T3.same ((Rc H3).new ht)) (by rw[ar (aq tb3 ht)];exact tb3)
  ·exact ta.elim
noncomputable def Ce(ss:List dJ):Int:=(ss.map λs=>((s.2.2:Nat):Int) - ((s.1:Nat):Int)).sum
def vX:Sp:=λvs H Q _=>∃(a:Addr) (ls:List Nat),vs=[.ref a]/\(H a=some (.lst (NV ls))\/False)/\ls.length<=200/\
 ∀(t st:Addr) (qs:List Addr) H',H st=none->Same H H'->H' t=some (.tup [.ref st,.int (Ce (gJ ls))])->H' st=some (.lst (qs.map Rb))->TrAt H' qs (gJ ls)->Q (.ref t) H'
theorem il (T:Tx K mg t):FnOk P t.wd K mg t.bs CX0 2 (t.f 18) (t.d 18) ["lengths"] vX:=by
 refine okT (N:=["lengths","steps","stretches","done"]) (T.fn 18 rfl) (λH Q hr nd h=>?_)
 ·obtain⟨a,ls,rfl,hta,hn,k⟩:=h
  refine⟨_,(ae (aH (i:=1) (aQ aa))
   (ae (aH (i:=2) (qv 0))
   (ae (cF Hb (az qb (ag (aU (K:=K)) (by rfl) T.bz aP (ah (qv 2) aa)) aj (ax _)) (ae (df (aC (ik T) hr (T.fn 17 rfl) (ah (qv 2) aa)) (bF (K:=K) (n:=2) rfl (av (aD (i:=3)) (av (aD (i:=2)) aY))))
   (ak (bb (iZ (K:=K) (qv 1) (ah (qv 3) aa))))))
   (ak (aw (bB (ah (qv 1) (ah (ag (lF (K:=K) rfl) (by rfl) T.mK l7 (ah (a0 (N:=["first","middle","last"]) (tgs:=["first","middle","last"]) (frs:=[]) (ix:=[]) ⟨rfl,by decide +kernel,rfl,by decide +kernel,rfl,rfl,GR,GR,rfl⟩ rfl (aS (K:=K) (qv 1)) (λ_ _ _ _=>(bF (K:=K) (n:=3) rfl (av (aD (i:=0)) (av (aD (i:=1)) (av (aD (i:=2)) aY))))) (λ_ _ _ _=>(aI dM (qv 2) (qv 0)))) aa)) aa)))))))),?_⟩
  dsimp only[st0];nofun;refine⟨aE (by simp),λst hst=>?_⟩;obtain⟨H1,e9,s1,(ts1:H1 st=some (.lst (([]:List Addr).map Rb)))⟩:=nwR hst (.lst []);rw[e9];nofun;refine⟨λm σ H'=>∃(xs:List Nat) (sp:Addr) (ss:List dJ) (qs:List Addr),m=xs.length/\Same H H'/\(H' sp=some (.lst (NV xs))\/False)/\sp≠st/\H' st=some (.lst (qs.map Rb))/\TrAt H' qs ss/\gJ ls=ss++gJ xs/\ss.length+xs.length<=200/\∃v3,σ=[some (Rb a),some (Rb st),some (Rb sp),v3],⟨_,ls,a,[],[],rfl,s1,.inl (s1 _ _ (hta.elim id IG)),hta.elim (λh=>aq h hst) (λh=>h.elim),ts1,TrAt.nil,rfl,by simpa using hn,_,rfl⟩,?_⟩;rintro m σ H2 ⟨xs,sp,ss,qs,rfl,s2,hsp,hne,ts2,T2,eA,hl,v3,rfl⟩;nofun;refine tI (hsp.imp id IG) ?_;rw[aB];nofun;refine aV (λg=>?_) (λg=>?_)
  ·refine⟨_,λ_ _ z=>z,?_⟩
   have hg:1<xs.length:=by lia
   obtain⟨r1,r2⟩:=i8 0 xs;nofun;refine⟨sp,xs,rfl,hsp,by lia,λt d bh us H3 hd hbh s3 tt td T3 tb=>?_⟩;refine bf tt ?_;dsimp only[HM];have ts3:=s3 _ _ ts2;have hul:us.length=(rnd 0 xs).1.length:=T3.1;have hql:qs.length=ss.length:=T2.1;nofun;refine⟨a9 ts3,?_⟩;nofun;refine i4 ts3 td (aE (by rw[GF,GF];lia)) ?_;rw[<-GP];have hbs:bh≠st:=λe=>by rw[e,ts2]at hbh;cases hbh
   rw[ja hg]at eA;refine⟨(rnd 0 xs).2.length,by lia,(rnd 0 xs).2,bh,ss++(rnd 0 xs).1,qs++us,rfl,(s2.trans s3).own hst,.inl (by rw[ar hbs];exact tb),hbs,af,((T2.same s3).app T3).own ts3,by rw[HV];exact eA,by rw[GY];lia,_,rfl⟩
  ·have hg:¬ 1<xs.length:=by lia
   rw[gc hg,IB]at eA;rw[<-eA]at T2;have hql:qs.length=(gJ ls).length:=T2.1;have hal:(gJ ls).length<=200:=by rw[eA];lia
   nofun;refine⟨st,rfl,⟨_,Q6 ts2⟩,aX (a:=st) (vs:=qs.map Rb) (λi ys σ H'=>H'=H2/\i<=qs.length/\ys=(((gJ ls).map λs=>((s.2.2:Nat):Int) - ((s.1:Nat):Int)).take i).map Q8/\∃v w u,σ=[v,w,u]) (by rw[GF];exact au ⋯) (λi ys σ H' h=>by rw[h.2.2.1,GF,G5,GF];lia) (λi ys σ H' h=>by rw[h.1];exact Q6 ts2) ⟨rfl,GW _,rfl,none,none,none,rfl⟩ ?_ ?_⟩
   ·rintro i ys σ H' x hx ⟨rfl,_,rfl,v,w,u,rfl⟩
    have hil:=bj hx;obtain⟨q,rfl,hq,_,hi⟩:=aF hx;have hia:i<(gJ ls).length:=by lia
    have tq:=T2.2 i q _ hq (GE hia);refine eY tq ?_;dsimp only[HM];nofun;refine Rf hil ⟨rfl,hi,?_,_,_,_,rfl⟩;rw[G4,GK,GE hia,GP];rfl
   rintro ys σ H' ⟨e',_,rfl,v,w,u,rfl⟩ z hz;subst e';rw[GN (by rw[GF,GF];lia)];obtain⟨H3,e9,s3,s23,tz⟩:=nwD s2 hz (.lst (((gJ ls).map λs=>((s.2.2:Nat):Int) - ((s.1:Nat):Int)).map Q8));rw[e9];nofun;refine jM (Q6 tz) ?_;nofun;refine⟨aE (by simp),λt ht=>?_⟩;have ts3:=s23 _ _ ts2;exact k t st qs _ hst (s3.new ht) af (by rw[ar (aq ts3 ht)];exact ts3) ((T2.same s23).same ((Rc H3).new ht))
theorem tN{P:Addr}{te:TE}{t:TA}{σ:L2.St}{H:Hp}{Q:VK}(h:t σ H λvs H1=>∃n:Nat,vs=[.int n]/\n<64/\TabOk P lpos qual H1/\∀H2,SameX P H1 H2->TabOk P lpos qual H2->yQ te ix (cJ 0 n) σ H2 Q):sj P lpos qual ix te t σ H Q:=h
def RowsU(H:Hp)(ps:List Addr)(rss:List (List Nat)):Prop:=ps.length=rss.length/\∀(i:Nat) p r,ps[i]? = some p->rss[i]? = some r->H p=some (.lst (NV r))\/H p=some (.tup (NV r))
theorem RowsU.same{H:Hp}(h:RowsU H ps rss)(e:Same H H1):RowsU H1 ps rss:=⟨h.1,λi p z a c=>(h.2 i p z a c).elim (λh=>.inl (e _ _ h)) (λh=>.inr (e _ _ h))⟩
theorem RowsT.toU{H:Hp}(h:RowsT H ps rss):RowsU H ps rss:=⟨h.1,λi p z a c=>.inr (h.2 i p z a c)⟩
abbrev fe (pt:Addr) (H:Hp):Prop:=TabOk pt ⟨103,40,103,72⟩ ((("told_order" : Str)++".<locals>.")++"<lambda>") H
theorem RowsU.sx{pt:Addr}{H:Hp}(h:RowsU H ps rss)(T:fe pt H)(e:SameX pt H H1):RowsU H1 ps rss:=⟨h.1,λi p z a c=>(h.2 i p z a c).elim (λh=>.inl (e _ _ (T.ne h) h)) (λh=>.inr (e _ _ (T.neT h) h))⟩
theorem RowsT.sx{pt:Addr}{H:Hp}(h:RowsT H ps rss)(T:fe pt H)(e:SameX pt H H1):RowsT H1 ps rss:=⟨h.1,λi p z a c=>e _ _ (T.neT (h.2 i p z a c)) (h.2 i p z a c)⟩
theorem EU{p:List Nat}(h:p.Pairwise (Ah λi j=>HT.bC ((rss.map bo).getD i []) ((rss.map bo).getD j []))):p.Pairwise (Rk rss 0):=by
 refine h.imp λ{i j} hij=>?_
 have e:∀i,(rss.map bo).getD i []=bo (rss.getD i []):=λi=>by
  rw[GG,GG,GK];cases rss[i]?<;>rfl
 obtain⟨h1,h2⟩:=hij;dsimp only at h1 h2;rw[e,e]at h1 h2;unfold Rk;rw[Ht,Ht];rcases gC (rss.getD i []) (rss.getD j [])with q|q|q
 ·exact .inl q
 ·exact .inr ⟨q,h2 (by rw[q];exact cM _)⟩
 ·have q':HT.bC (bo (rss.getD j [])) (bo (rss.getD i []))=true:=q
  rw[q']at h1;cases h1
theorem pY{p:List Nat}(h:p.Perm (GO n)):(p.map λi=>(cJ 0 n).getD i .non)=NV p:=by
 unfold NV;apply Iu;intro i hi;have:i<n:=Hg.mp (h.mem_iff.mp hi);unfold cJ;rw[GG,GK,Ir this];simp
def Cf(K:GH)(pt:Addr):Sp:=λvs H Q _=>∃(a:Addr) (ps:List Addr) (rss:List (List Nat)) (w:Nat),vs=[.ref a]/\(H a=some (.lst (ps.map Rb))/\True)/\RowsU H ps rss/\(∀r∈rss,r.length=w)/\rss.length<64/\fe pt H/\
 ∀(l:Addr) (os:List Nat) H',H l=none->SameX pt H H'->fe pt H'->H' l=some (.lst (NV os))->os.Perm (GO rss.length)->os.Pairwise (Rk rss 0)->Q (.ref l) H'
theorem c9 (T:Tx K mg t):FnOk P t.wd K mg t.bs CX0 1 (t.f 12) (t.d 12) ["rows"] (Cf K t.pt):=by
 have nd:=sc_told_order.nd;refine(T.fn 12 rfl).2.1.okC T.Gz sc_told_order (λvs H Q E h=>?_) (λA outer s H vs Q E hr h=>?_)
 ·obtain⟨a,ps,rss,w,rfl,_⟩:=h
  rfl
 ·obtain⟨a,ps,rss,w,rfl,hta,hR,hw,hn,hT,k⟩:=h
  have hpl:ps.length=rss.length:=hR.1;obtain⟨ta,_⟩:=hta
  ·refine⟨_,(ak (aw (sq (N:=["place","rows"]) (x:="place") (frs:=["rows"]) (ix:=[0]) ⟨rfl,by decide +kernel,rfl,rfl,rfl,rfl,⟨⟨rfl,rfl,_,rfl,rfl⟩,GR⟩,⟨rfl,GR⟩,rfl,rfl,rfl⟩ rfl hr rfl T.gx rfl T.cz rfl T.GA T.Gy (ah (ag (aU (K:=K)) (by rfl) T.bz aP (ah (qv 0) aa)) aa) (λ_ _ _ _ _ _=>(bq (cG (K:=K)) (by rfl) T.bu aZ (ah (aO (bc (K:=K)) (qv 1) (qv 0)) aa))) (λ_ _ _ _=>rfl)))),?_⟩
   rw[show L2.start ["rows"] [Rb a]=[some (Rb a)]from rfl];nofun;refine tN ?_;nofun;refine aJ (Q6 ta) ?_;rw[GF,hpl];refine⟨rss.length,rfl,hn,hT,λH2 sx T2=>⟨by simp[cJ];exact hn,λi ys H'=>Same H2 H'/\∃rs:List Addr,ys=rs.map Rb/\rs.length=i/\i<=rss.length/\RowsT H' rs (rss.take i),⟨Rc _,[],rfl,rfl,GW _,rfl,λi p r h=>by simp at h⟩,?_,?_⟩⟩
   ·rintro i ys H3 x hx ⟨s3,rs,rfl,hrl,_,hRs⟩
    have hi:i<rss.length:=by have:=bj hx;simpa [cJ]using this
    have hx':x=Q8 (i:Nat):=by
     unfold cJ at hx;rw[GK,Ir hi]at hx;have:=(G9 hx).symm;rw[this];simp
    subst hx';have hip:i<ps.length:=by lia
    have ta3:H3 a=some (.lst (ps.map Rb)):=s3 _ _ (sx _ _ (hT.ne ta) ta);have er:=((hR.sx hT sx).same s3).2 i ps[i] rss[i] (by simp[hip]) (by simp[hi]);have et:rss.take (i+1)=rss.take i++[rss[i]]:=by rw[G4];simp[hi]
    show tCB _ _ [some (Q8 (i:Nat)),some (Rb a)] H3 _
    nofun;refine bx (Q6 ta3) (v:=Rb ps[i]) (ba (by rw[GK];simp[hip])) ?_;nofun;generalize ps[i]=q at er;generalize rss[i]=row at er et;rcases er with er|er
    ·refine fV (Q6 er) λl2 hl2=>?_
     refine⟨(Rc H3).new hl2,s3.new hl2,rs++[l2],by rw[GP];rfl,by simp[hrl],hi,?_⟩;rw[et];exact(hRs.same ((Rc H3).new hl2)).snoc af
    ·refine qV (Q7 er) ?_
     refine⟨Rc H3,s3,rs++[q],by rw[GP];rfl,by simp[hrl],hi,?_⟩;rw[et];exact hRs.snoc er
   ·rintro ys H3 hyl ⟨s3,rs,rfl,hrl,_,hRs⟩
    have hnl:(cJ 0 rss.length).length=rss.length:=by simp[cJ]
    rw[hnl]at hrl hRs;rw[GN (GJ _)]at hRs;refine⟨_,.inr ⟨rs,rss.map bo,rfl,by rw[GF];exact hrl,λi q r e1 e2=>?_,?_,rfl⟩,λd p hd hp hs=>?_⟩
    ·rw[GK]at e2
     obtain⟨r0,e3,rfl⟩:=Io.mp e2;have:=hRs.2 i q r0 e1 e3;rw[cH]at this;exact this
    ·rcases JI w with h0|h0
     ·refine .inl λr hr=>?_
      obtain⟨r0,hr0,rfl⟩:=Hk.mp hr;have:=hw r0 hr0;rw[h0]at this;rw[HZ.mp this];rfl
     ·refine .inr λr hr z=>?_
      obtain⟨r0,hr0,rfl⟩:=Hk.mp hr;have:=hw r0 hr0;have h2:=congrArg HL z;unfold bo at h2;rw[GF]at h2;simp at h2;rw[h2]at this;simp at this;lia
    ·rw[hnl]at hp
     rw[pY hp];have sx3:SameX t.pt H (upd H3 d (.lst (NV p))):=λb o hb e=>by
      have e3:=s3 _ _ (sx b o hb e);rw[ar (aq e3 hd)];exact e3
     refine k d p _ ?_ sx3 ((T2.same s3).same ((Rc H3).new hd)) af hp (EU hs);cases q:H d with
     | none=>rfl
     | some o=>
      by_cases hdp:d=t.pt
      ·rcases T2.same s3 with z|⟨c,z,_⟩<;>rw[<-hdp,hd]at z<;>cases z
      ·rw[s3 _ _ (sx d o hdp q)]at hd;cases hd
def tO:Sp:=λvs H Q _=>∃(n b m:Nat),vs=[.int n,.int b,.int m]/\2<=b/\b<=64/\m<=900/\n<b ^ m/\∀p H',H p=none->Same H H'->H' p=some (.tup ((dg n b m).map Q8))->Q (.ref p) H'
theorem j0 (T:Tx K mg t):FnOk P t.wd K mg t.bs CX0 1 (t.f 21) (t.d 21) ["n","base","many"] tO:=by
 refine okT (N:=["n","base","many","lowest_first","rest","turn"]) (T.fn 21 rfl) (λH Q hr nd h=>?_)
 ·obtain⟨n,b,m,rfl,hb,hb2,hm,hn,q⟩:=h
  refine⟨_,(ae (aH (i:=3) (aQ aa))
   (ae (aH (i:=4) (qv 0))
   (ae (cA Hb rfl (dY rfl T.cz (ah (qv 2) aa)) (aD (i:=5)) (ae (bb (br (K:=K) (qv 3) (ah (aI gA (qv 4) (qv 1)) aa)))
   (ak (iS (i:=4) nd rfl (JU rfl) (qv 1) qY))))
   (ae (aT (az qb (qv 4) aj (ax _)) (ak bV) aG)
   (ak (aw (bq (cG (K:=K)) (by rfl) T.bu aZ (ah (rg (K:=K) (qv 3)) aa)))))))),?_⟩
  dsimp only[st0];nofun;refine⟨aE (by simp),λl hl=>?_⟩;nofun;refine⟨m,rfl,by lia,by lia,fQ (λi σ H'=>Same H H'/\H' l=some (.lst ((GO i).map λj=>Q8 ((n / b ^ j % b:Nat):Int)))/\∃v,σ=[some (Q8 n),some (Q8 b),some (Q8 m),some (Rb l),some (Q8 ((n / b ^ i:Nat):Int)),v]) ⟨(Rc H).new hl,af,none,by simp⟩ ?_ ?_⟩
  ·rintro i σ H' hi ⟨sm,hL,v,rfl⟩
   nofun;refine⟨a9 hL,?_⟩;nofun;refine aW hL (by rw[GF,Ic];exact au ⋯) ?_;nofun;have e1:((n / b ^ i:Nat):Int) / (b:Int)=((n / b ^ (i+1):Nat):Int):=by rw[<-dvp,Jk (n / b ^ i)]
   rw[e1];refine⟨sm.own hl,?_,_,rfl⟩;rw[af,Li,GP,Ig,L7,Mg (n / b ^ i)]
  ·rintro σ H' ⟨sm,hL,v,rfl⟩
   have hz:n / b ^ (m:Int).toNat=0:=Nat.div_eq_of_lt hn;nofun;refine cD (by rw[hz];decide) ?_;nofun;refine⟨l,_,rfl,Q6 hL,λr hr0=>?_⟩;nofun;refine fV (Q6 af) λp hp=>?_
   refine q p _ ((sm.new hr0).free hp) ((sm.new hr0).new hp) ?_;rw[af];have:=Bx n b m;rw[<-this];rfl
def EV:Sp:=λvs H Q _=>∃(m n:Nat),vs=[.int m,.int n]/\Q (.int ((Jv m n:Nat):Int)) H
theorem dG (T:Tx K mg t):FnOk P t.wd K mg t.bs CX0 1 (t.f 22) (t.d 22) ["one","other"] EV:=by
 refine okT (N:=["one","other","greater","less"]) (T.fn 22 rfl) (λH Q hr nd h=>?_)
 ·obtain⟨m,n,rfl,q⟩:=h
  refine⟨_,(ae (lD rfl nd (i:=2) (j:=3) rfl rfl (by decide) rfl rfl (ah (qv 0) (ah (qv 1) aa)))
   (ae (cF Hb (az qb (qv 3) aj (ax _)) (ak (lD rfl nd (i:=2) (j:=3) rfl rfl (by decide) rfl rfl (ah (qv 3) (ah (aI gA (qv 2) (qv 3)) aa)))))
   (ak (aw (qv 2))))),?_⟩
  dsimp only[st0];nofun;refine⟨λc σ H'=>H'=H/\∃(g l:Nat),σ=[some (Q8 m),some (Q8 n),some (Q8 g),some (Q8 l)]/\Jv g l=Jv m n/\l=c,⟨n,rfl,m,n,rfl,rfl,rfl⟩,?_⟩;rintro c σ H' ⟨rfl,g,l,rfl,e,rfl⟩;nofun;refine aV (λh1=>?_) (λh1=>?_)
  ·refine⟨_,λ_ _ z=>z,?_⟩
   nofun;have hl:0<l:=by lia
   rw[<-Mg];exact⟨g % l,LW _ hl,rfl,l,g % l,rfl,by rw[ot hl,e],rfl⟩
  ·have hl:l=0:=by lia
   subst hl;rw[NJ]at e;nofun;rw[e];exact q
def zb:Sp:=λvs H Q _=>∃(n b:Nat),vs=[.int n,.int b]/\2<=b/\b<=64/\n<2 ^ 199/\∀m:Nat,n<b ^ m->(0<m->b ^ (m - 1)<=n)->m<201->Q (.int m) H
theorem eE (T:Tx K mg t):FnOk P t.wd K mg t.bs CX0 1 (t.f 20) (t.d 20) ["n","base"] zb:=by
 refine okT (N:=["n","base","many","rest"]) (T.fn 20 rfl) (λH Q hr nd h=>?_)
 ·obtain⟨n,b,rfl,hb,hb2,hn,q⟩:=h
  refine⟨_,(ae (aH (i:=2) aj)
   (ae (aH (i:=3) (qv 0))
   (ae (cF Hb (az qb (qv 3) aj (ax _)) (ae (iS (i:=3) nd rfl (JU rfl) (qv 1) qY)
   (ak (iS (i:=2) nd rfl (JU rfl) aj jO))))
   (ak (aw (qv 2)))))),?_⟩
  dsimp only[st0];nofun;refine⟨λm σ H'=>H'=H/\∃(pl:Nat),σ=[some (Q8 n),some (Q8 b),some (Q8 pl),some (Q8 ((n / b ^ pl:Nat):Int))]/\(0<pl->b ^ (pl - 1)<=n)/\2 ^ pl<=2*n+1/\n / b ^ pl=m,⟨n,rfl,0,by simp,by lia,by lia,by simp⟩,?_⟩;rintro m σ H' ⟨rfl,pl,rfl,h1,h2,rfl⟩;nofun;refine aV (λh3=>?_) (λh3=>?_)
  ·refine⟨_,λ_ _ z=>z,?_⟩
   nofun;have hpos:0<n / b ^ pl:=OU.mp h3;have e1:((n / b ^ pl:Nat):Int) / (b:Int)=((n / b ^ (pl+1):Nat):Int):=by rw[<-dvp,Jk (n / b ^ pl)]
   have e2:(pl:Int)+1=((pl+1:Nat):Int):=by lia
   rw[e1,e2];have hlt:n / b ^ (pl+1)<n / b ^ pl:=by
    rw[<-dvp];exact Nat.div_lt_self hpos ⋯
   exact⟨n / b ^ (pl+1),hlt,rfl,pl+1,rfl,λ_=>by rw[Kv];exact(OJ.mp hpos).2,uX hb hpos,rfl⟩
  ·have hz:n / b ^ pl=0:=Nat.eq_zero_of_not_pos λh=>h3 (OU.mpr h)
   nofun;refine q pl ?_ h1 ?_
   ·rcases Nat.div_eq_zero_iff.mp hz with h|h
    ·exact absurd h (Jb (ME ⋯))
    ·exact h
   ·have h4:2 ^ pl<2 ^ 201:=HR h2 ⋯
    exact(Nat.pow_lt_pow_iff_right (by decide)).mp h4
def Few(ns:List Int):Prop:=ns.length<=200/\∀x∈ns,-(2 ^ 190)<x/\x<2 ^ 190
def Cg(K:GH):Sp:=λvs H Q _=>∃(a:Addr) (ns:List Int) (b:Nat),vs=[.ref a,.int b]/\(SqL K H a (ns.map Q8)\/SqT K H a (ns.map Q8))/\2<=b/\b<=64/\Few ns/\
 ∀(l:Addr) (ps:List Addr) (zs:List Nat) (m:Nat) H',H l=none->Same H H'->H' l=some (.lst (ps.map Rb))->RowsAt H' ps b m zs->Spelt ns b zs m->Q (.ref l) H'
theorem fy (T:Tx K mg t):FnOk P t.wd K mg t.bs CX0 2 (t.f 25) (t.d 25) ["numbers","base"] (Cg K):=by
 refine okT (N:=["numbers","base","least","columns"]) (T.fn 25 rfl) (λH Q hr nd h=>?_)
 ·obtain⟨a,ns,b,rfl,hs,hb,hb2,⟨hlen,hbd⟩,q⟩:=h
  rcases hs with hs|hs
  ·refine⟨_,(ae (aT (fv (fW (K:=K) (qv 0))) (ak (aw (aQ aa))) aG)
   (ae (aH (i:=2) (ag (rj (K:=K) rfl) (by rfl) T.mJ l6 (ah (qv 0) aa)))
   (ae (aH (i:=3) (aC (eE T) hr (T.fn 20 rfl) (ah (aI dM (ag (rk (K:=K) rfl) (by rfl) T.nN xi (ah (qv 0) aa)) (qv 2)) (ah (qv 1) aa))))
   (ak (aw (a0 (N:=["number","base","least","columns"]) (tgs:=["number"]) (frs:=["base","least","columns"]) (ix:=[1,2,3]) ⟨rfl,by decide +kernel,rfl,by decide +kernel,rfl,rfl,⟨⟨rfl,rfl,_,rfl,rfl⟩,⟨rfl,rfl,_,rfl,rfl⟩,⟨rfl,rfl,_,rfl,rfl⟩,GR⟩,⟨rfl,rfl,rfl,GR⟩,rfl⟩ rfl (aS (K:=K) (qv 0)) (λ_ _ _ _=>(aD (i:=0))) (λ_ _ _ _=>(aC (j0 T) hr (T.fn 21 rfl) (ah (aI dM (qv 0) (qv 2)) (ah (qv 1) (ah (qv 3) aa))))))))))),?_⟩
   dsimp only[st0];nofun;refine⟨_,CY hs,?_⟩;by_cases h0:ns=[]
   ·subst h0
    nofun;exact⟨aE (by simp),λl hl=>q l [] [] 0 _ hl ((Rc H).new hl) (by rw[af];rfl) ⟨rfl,λi p z e=>by simp at e⟩ (.inl ⟨rfl,rfl,rfl⟩)⟩
   ·have he:(ns.map Q8).isEmpty=false:=by cases ns with|nil=>exact absurd rfl h0|cons x r=>rfl
    rw[he];refine cR ?_;nofun;refine rm (.inl hs) h0 λlo lo1 lo2=>?_
    nofun;refine rn (.inl hs) h0 λhi hi1 hi2=>?_
    nofun;have hd:hi - lo=(((hi - lo).toNat:Nat):Int):=by have:=lo2 hi hi1;lia
    rw[hd];refine⟨(hi - lo).toNat,b,rfl,hb,hb2,by have:=hbd hi hi1;have:=hbd lo lo1;lia,λm m1 m2 m3=>?_⟩;nofun;refine⟨a,rfl,⟨_,hs⟩,aX (a:=a) (vs:=ns.map Q8) (λi ys σ H'=>Same H H'/\(∃ps:List Addr,ys=ps.map Rb/\ps.length=i/\i<=ns.length/\RowsAt H' ps b m ((ns.map λx=>(x - lo).toNat).take i))/\∃v,σ=[v,some (Q8 b),some (Q8 lo),some (Q8 m)]) (by rw[GF];exact au ⋯) (λi ys σ H' h=>by obtain⟨_,⟨ps,rfl,e,_⟩,_⟩:=h;rw[GF,e]) (λi ys σ H' h=>h.1.seq hs) ⟨Rc _,⟨[],rfl,rfl,GW _,rfl,λi p z h=>by simp at h⟩,none,rfl⟩ ?_ ?_⟩
    ·rintro i ys σ H' x hx ⟨sm,⟨ps,rfl,hpl,_,hR⟩,v,rfl⟩
     obtain⟨z,rfl,hz,hzm,hi'⟩:=aF hx;nofun;have h1:=lo2 z hzm;have h2:=hi2 z hzm;have ez:z - lo=(((z - lo).toNat:Nat):Int):=by lia
     rw[ez];refine⟨(z - lo).toNat,b,m,rfl,hb,hb2,by lia,by lia,λp H2 hp sm2 t2=>?_⟩;refine Rf (by rw[GF];exact hi') ⟨sm.trans sm2,⟨ps++[p],by rw[GP];rfl,by simp[hpl],hi',?_⟩,_,rfl⟩;have et:(ns.map λx=>(x - lo).toNat).take (i+1)=(ns.map λx=>(x - lo).toNat).take i++[(z - lo).toNat]:=by rw[G4,GK,hz];rfl
     rw[et];exact(hR.same sm2).snoc t2
    ·rintro ys σ H' ⟨sm,⟨ps,rfl,hpl,_,hR⟩,v,rfl⟩ l hl
     rw[GN (by simp)]at hR;exact q l ps _ m _ (sm.free hl) (sm.new hl) af (hR.same ((Rc _).new hl)) (.inr ⟨lo,hi,lo1,hi1,λx hx=>⟨lo2 x hx,hi2 x hx⟩,rfl,m1,m2,m3⟩)
  ·refine⟨_,(ae (aT (fv (fW (K:=K) (qv 0))) (ak (aw (aQ aa))) aG)
   (ae (aH (i:=2) (ag (rj (K:=K) rfl) (by rfl) T.mJ l6 (ah (qv 0) aa)))
   (ae (aH (i:=3) (aC (eE T) hr (T.fn 20 rfl) (ah (aI dM (ag (rk (K:=K) rfl) (by rfl) T.nN xi (ah (qv 0) aa)) (qv 2)) (ah (qv 1) aa))))
   (ak (aw (a0 (N:=["number","base","least","columns"]) (tgs:=["number"]) (frs:=["base","least","columns"]) (ix:=[1,2,3]) ⟨rfl,by decide +kernel,rfl,by decide +kernel,rfl,rfl,⟨⟨rfl,rfl,_,rfl,rfl⟩,⟨rfl,rfl,_,rfl,rfl⟩,⟨rfl,rfl,_,rfl,rfl⟩,GR⟩,⟨rfl,rfl,rfl,GR⟩,rfl⟩ rfl (lC (K:=K) (qv 0)) (λ_ _ _ _=>(aD (i:=0))) (λ_ _ _ _=>(aC (j0 T) hr (T.fn 21 rfl) (ah (aI dM (qv 0) (qv 2)) (ah (qv 1) (ah (qv 3) aa))))))))))),?_⟩
   dsimp only[st0];nofun;refine⟨_,Gj hs,?_⟩;by_cases h0:ns=[]
   ·subst h0
    nofun;exact⟨aE (by simp),λl hl=>q l [] [] 0 _ hl ((Rc H).new hl) (by rw[af];rfl) ⟨rfl,λi p z e=>by simp at e⟩ (.inl ⟨rfl,rfl,rfl⟩)⟩
   ·have he:(ns.map Q8).isEmpty=false:=by cases ns with|nil=>exact absurd rfl h0|cons x r=>rfl
    rw[he];refine cR ?_;nofun;refine rm (.inr hs) h0 λlo lo1 lo2=>?_
    nofun;refine rn (.inr hs) h0 λhi hi1 hi2=>?_
    nofun;have hd:hi - lo=(((hi - lo).toNat:Nat):Int):=by have:=lo2 hi hi1;lia
    rw[hd];refine⟨(hi - lo).toNat,b,rfl,hb,hb2,by have:=hbd hi hi1;have:=hbd lo lo1;lia,λm m1 m2 m3=>?_⟩;nofun;refine⟨a,rfl,⟨_,hs⟩,fX (a:=a) (vs:=ns.map Q8) (λi ys σ H'=>Same H H'/\(∃ps:List Addr,ys=ps.map Rb/\ps.length=i/\i<=ns.length/\RowsAt H' ps b m ((ns.map λx=>(x - lo).toNat).take i))/\∃v,σ=[v,some (Q8 b),some (Q8 lo),some (Q8 m)]) (by rw[GF];exact au ⋯) (λi ys σ H' h=>by obtain⟨_,⟨ps,rfl,e,_⟩,_⟩:=h;rw[GF,e]) (λi ys σ H' h=>h.1.tup hs) ⟨Rc _,⟨[],rfl,rfl,GW _,rfl,λi p z h=>by simp at h⟩,none,rfl⟩ ?_ ?_⟩
    ·rintro i ys σ H' x hx ⟨sm,⟨ps,rfl,hpl,_,hR⟩,v,rfl⟩
     obtain⟨z,rfl,hz,hzm,hi'⟩:=aF hx;nofun;have h1:=lo2 z hzm;have h2:=hi2 z hzm;have ez:z - lo=(((z - lo).toNat:Nat):Int):=by lia
     rw[ez];refine⟨(z - lo).toNat,b,m,rfl,hb,hb2,by lia,by lia,λp H2 hp sm2 t2=>?_⟩;refine Rf (by rw[GF];exact hi') ⟨sm.trans sm2,⟨ps++[p],by rw[GP];rfl,by simp[hpl],hi',?_⟩,_,rfl⟩;have et:(ns.map λx=>(x - lo).toNat).take (i+1)=(ns.map λx=>(x - lo).toNat).take i++[(z - lo).toNat]:=by rw[G4,GK,hz];rfl
     rw[et];exact(hR.same sm2).snoc t2
    ·rintro ys σ H' ⟨sm,⟨ps,rfl,hpl,_,hR⟩,v,rfl⟩ l hl
     rw[GN (by simp)]at hR;exact q l ps _ m _ (sm.free hl) (sm.new hl) af (hR.same ((Rc _).new hl)) (.inr ⟨lo,hi,lo1,hi1,λx hx=>⟨lo2 x hx,hi2 x hx⟩,rfl,m1,m2,m3⟩)
def zc(K:GH):Sp:=λvs H Q _=>∃(a:Addr) (ps:List Addr) (tb:List (Int×Nat)),vs=[.ref a]/\(∀z∈tb,1<=z.2/\z.2<=60)/\
 ((SqL K H a (ps.map Rb)/\PartsT H ps tb)\/(SqT K H a (ps.map Rb)/\PartsT H ps tb))/\Q (.int ((fD (tb.map (·.2)):Nat):Int)) H
theorem eF (T:Tx K mg t):FnOk P t.wd K mg t.bs CX0 2 (t.f 23) (t.d 23) ["parts"] (zc K):=by
 refine okT (N:=["parts","least","top","bottom"]) (T.fn 23 rfl) (λH Q hr nd h=>?_)
 ·obtain⟨a,ps,tb,rfl,hb,hs,q⟩:=h
  have hbs:∀b∈tb.map (·.2),1<=b/\b<=60:=λb h=>by
   obtain⟨z,hz,rfl⟩:=Hk.mp h;exact hb z hz
  have hpos:∀i,0<fD ((tb.map (·.2)).take i):=λi=>oq λb h=>hbs b (Kc h)
  rcases hs with⟨hs,hP⟩|⟨hs,hP⟩
  ·refine⟨_,(ae (aH (i:=1) aj)
   (ae (cA Hb rfl (aS (K:=K) (qv 0)) (bF (K:=K) (n:=2) rfl (av (aD (i:=2)) (av (aD (i:=3)) aY))) (ak (aH (i:=1) (aI fC (aI dZ (qv 1) (aC (dG T) hr (T.fn 22 rfl) (ah (qv 1) (ah (qv 3) aa)))) (qv 3)))))
   (ak (aw (qv 1))))),?_⟩
   dsimp only[st0];nofun;refine⟨a,rfl,⟨_,hs⟩,du (a:=a) (xs:=ps.map Rb) (λi σ H'=>H'=H/\∃v w,σ=[some (Rb a),some (Q8 ((fD ((tb.map (·.2)).take i):Nat):Int)),v,w]) ⟨rfl,none,none,rfl⟩ (λi σ H' _ ⟨e,_⟩=>by rw[e];exact hs) ?_ ?_⟩
   ·rintro i x σ H' hx ⟨rfl,v,w,rfl⟩
    rw[GK]at hx;cases e:ps[i]? with
    | none=>rw[e]at hx;cases hx
    | some p=>
     rw[e]at hx;obtain rfl:Rb p=x:=G9 hx;have hi:i<tb.length:=by rw[<-hP.1];exact(GM.mp e).1
     have hz:=hP.2 i p tb[i] e (by simp[hi]);have hb2:=hb tb[i] (GV hi);have hget:(tb.map (·.2))[i]? = some tb[i].2:=by simp[hi]
     have hl:=lG _ i _ hget;have hp0:=hpos i;generalize fD ((tb.map (·.2)).take i)=L at hl hp0 ⊢;rw[hl];generalize tb[i].2=c at hb2 hz ⊢;refine⟨p,_,rfl,Q7 hz,rfl,_,_,rfl,?_⟩;nofun;refine⟨_,_,rfl,?_⟩;nofun;refine⟨rfl,?_⟩;have hg1:0<Jv L c:=Mo _ hp0;have hg2:Jv L c<=c:=LL ⋯ (LS L c);have hst:=oh L c;nofun;refine⟨L,c,rfl,?_⟩;generalize Jv L c=g at hg1 hg2 hst ⊢;have e:(L:Int) / (g:Int)*(c:Int)=((Kl L c:Nat):Int):=by rw[<-hst,Lj,Jk]
     nofun;rw[e];exact⟨rfl,_,_,rfl⟩
   ·rintro σ H' ⟨rfl,v,w,rfl⟩
    nofun;have el:(tb.map (·.2)).take (ps.map Rb).length=tb.map (·.2):=GN (by simp[hP.1]);rw[el];exact q
  ·refine⟨_,(ae (aH (i:=1) aj)
   (ae (cA Hb rfl (lC (K:=K) (qv 0)) (bF (K:=K) (n:=2) rfl (av (aD (i:=2)) (av (aD (i:=3)) aY))) (ak (aH (i:=1) (aI fC (aI dZ (qv 1) (aC (dG T) hr (T.fn 22 rfl) (ah (qv 1) (ah (qv 3) aa)))) (qv 3)))))
   (ak (aw (qv 1))))),?_⟩
   dsimp only[st0];nofun;refine⟨a,rfl,⟨_,hs⟩,xU (a:=a) (xs:=ps.map Rb) (λi σ H'=>H'=H/\∃v w,σ=[some (Rb a),some (Q8 ((fD ((tb.map (·.2)).take i):Nat):Int)),v,w]) ⟨rfl,none,none,rfl⟩ (λi σ H' _ ⟨e,_⟩=>by rw[e];exact hs) ?_ ?_⟩
   ·rintro i x σ H' hx ⟨rfl,v,w,rfl⟩
    rw[GK]at hx;cases e:ps[i]? with
    | none=>rw[e]at hx;cases hx
    | some p=>
     rw[e]at hx;obtain rfl:Rb p=x:=G9 hx;have hi:i<tb.length:=by rw[<-hP.1];exact(GM.mp e).1
     have hz:=hP.2 i p tb[i] e (by simp[hi]);have hb2:=hb tb[i] (GV hi);have hget:(tb.map (·.2))[i]? = some tb[i].2:=by simp[hi]
     have hl:=lG _ i _ hget;have hp0:=hpos i;generalize fD ((tb.map (·.2)).take i)=L at hl hp0 ⊢;rw[hl];generalize tb[i].2=c at hb2 hz ⊢;refine⟨p,_,rfl,Q7 hz,rfl,_,_,rfl,?_⟩;nofun;refine⟨_,_,rfl,?_⟩;nofun;refine⟨rfl,?_⟩;have hg1:0<Jv L c:=Mo _ hp0;have hg2:Jv L c<=c:=LL ⋯ (LS L c);have hst:=oh L c;nofun;refine⟨L,c,rfl,?_⟩;generalize Jv L c=g at hg1 hg2 hst ⊢;have e:(L:Int) / (g:Int)*(c:Int)=((Kl L c:Nat):Int):=by rw[<-hst,Lj,Jk]
     nofun;rw[e];exact⟨rfl,_,_,rfl⟩
   ·rintro σ H' ⟨rfl,v,w,rfl⟩
    nofun;have el:(tb.map (·.2)).take (ps.map Rb).length=tb.map (·.2):=GN (by simp[hP.1]);rw[el];exact q
def vY(K:GH):Sp:=λvs H Q _=>∃(a:Addr) (ps:List Addr) (tb:List (Int×Nat)),vs=[.ref a]/\tb.length<=200/\(∀z∈tb,1<=z.2/\z.2<=60)/\(∀z∈tb,-(10 ^ 18)<z.1/\z.1<10 ^ 18)/\
 ((SqL K H a (ps.map Rb)/\PartsT H ps tb)\/(SqT K H a (ps.map Rb)/\PartsT H ps tb))/\∀l,H l=none->Q (.ref l) (upd H l (.lst ((bY tb).map Q8)))
theorem ip (T:Tx K mg t):FnOk P t.wd K mg t.bs CX0 3 (t.f 24) (t.d 24) ["parts"] (vY K):=by
 refine okT (N:=["parts","least"]) (T.fn 24 rfl) (λH Q hr nd h=>?_)
 ·obtain⟨a,ps,tb,rfl,hlen,hb,ht,hs,q⟩:=h
  rcases hs with⟨hs,hP⟩|⟨hs,hP⟩
  ·refine⟨_,(ae (aH (i:=1) (aC (eF T) hr (T.fn 23 rfl) (ah (qv 0) aa)))
   (ak (aw (a0 (N:=["top","bottom","least"]) (tgs:=["top","bottom"]) (frs:=["least"]) (ix:=[1]) ⟨rfl,by decide +kernel,rfl,by decide +kernel,rfl,rfl,⟨⟨rfl,rfl,_,rfl,rfl⟩,GR⟩,⟨rfl,GR⟩,rfl⟩ rfl (aS (K:=K) (qv 0)) (λ_ _ _ _=>(bF (K:=K) (n:=2) rfl (av (aD (i:=0)) (av (aD (i:=1)) aY)))) (λ_ _ _ _=>(aI fC (qv 0) (aI dZ (qv 2) (qv 1)))))))),?_⟩
   dsimp only[st0];nofun;refine⟨a,ps,tb,rfl,hb,.inl ⟨hs,hP⟩,?_⟩;nofun;refine⟨a,rfl,⟨_,hs⟩,aX (a:=a) (vs:=ps.map Rb) (λi ys σ H'=>H'=H/\i<=tb.length/\ys=((bY tb).take i).map Q8/\∃v w,σ=[v,w,some (Q8 ((fD (tb.map (·.2)):Nat):Int))]) (by rw[GF,hP.1];exact au ⋯) (λi ys σ H' h=>by rw[h.2.2.1,GF,G5,bS];lia) (λi ys σ H' h=>by rw[h.1];exact hs) ⟨rfl,GW _,rfl,none,none,rfl⟩ ?_ ?_⟩
   ·rintro i ys σ H' x hx ⟨rfl,_,rfl,v,w,rfl⟩
    have hil:=(GM.mp hx).1;obtain⟨p,rfl,hp,_,hi⟩:=aF hx;have hit:i<tb.length:=by rw[<-hP.1];exact hi
    have hz:=hP.2 i p tb[i] hp (by simp[hit]);have hb1:=hb tb[i] (GV hit);have ht1:=ht tb[i] (GV hit);have et:(bY tb).take (i+1)=(bY tb).take i++[tb[i].1*((fD (tb.map (·.2)) / tb[i].2:Nat):Int)]:=by
     rw[G4];unfold bY;rw[GK];simp[hit]
    rw[et];generalize fD (tb.map (·.2))=L;generalize tb[i]=z at hz hb1 ht1;refine bf hz ?_;dsimp only[HM];nofun;refine Rf hil ⟨rfl,hit,?_,_,_,rfl⟩;rw[GP,Jk];rfl
   ·rintro ys σ H' ⟨rfl,_,rfl,v,w,rfl⟩ l hl
    rw[GN (by rw[bS,GF,hP.1];exact GJ _)];exact q l hl
  ·refine⟨_,(ae (aH (i:=1) (aC (eF T) hr (T.fn 23 rfl) (ah (qv 0) aa)))
   (ak (aw (a0 (N:=["top","bottom","least"]) (tgs:=["top","bottom"]) (frs:=["least"]) (ix:=[1]) ⟨rfl,by decide +kernel,rfl,by decide +kernel,rfl,rfl,⟨⟨rfl,rfl,_,rfl,rfl⟩,GR⟩,⟨rfl,GR⟩,rfl⟩ rfl (lC (K:=K) (qv 0)) (λ_ _ _ _=>(bF (K:=K) (n:=2) rfl (av (aD (i:=0)) (av (aD (i:=1)) aY)))) (λ_ _ _ _=>(aI fC (qv 0) (aI dZ (qv 2) (qv 1)))))))),?_⟩
   dsimp only[st0];nofun;refine⟨a,ps,tb,rfl,hb,.inr ⟨hs,hP⟩,?_⟩;nofun;refine⟨a,rfl,⟨_,hs⟩,fX (a:=a) (vs:=ps.map Rb) (λi ys σ H'=>H'=H/\i<=tb.length/\ys=((bY tb).take i).map Q8/\∃v w,σ=[v,w,some (Q8 ((fD (tb.map (·.2)):Nat):Int))]) (by rw[GF,hP.1];exact au ⋯) (λi ys σ H' h=>by rw[h.2.2.1,GF,G5,bS];lia) (λi ys σ H' h=>by rw[h.1];exact hs) ⟨rfl,GW _,rfl,none,none,rfl⟩ ?_ ?_⟩
   ·rintro i ys σ H' x hx ⟨rfl,_,rfl,v,w,rfl⟩
    have hil:=(GM.mp hx).1;obtain⟨p,rfl,hp,_,hi⟩:=aF hx;have hit:i<tb.length:=by rw[<-hP.1];exact hi
    have hz:=hP.2 i p tb[i] hp (by simp[hit]);have hb1:=hb tb[i] (GV hit);have ht1:=ht tb[i] (GV hit);have et:(bY tb).take (i+1)=(bY tb).take i++[tb[i].1*((fD (tb.map (·.2)) / tb[i].2:Nat):Int)]:=by
     rw[G4];unfold bY;rw[GK];simp[hit]
    rw[et];generalize fD (tb.map (·.2))=L;generalize tb[i]=z at hz hb1 ht1;refine bf hz ?_;dsimp only[HM];nofun;refine Rf hil ⟨rfl,hit,?_,_,_,rfl⟩;rw[GP,Jk];rfl
   ·rintro ys σ H' ⟨rfl,_,rfl,v,w,rfl⟩ l hl
    rw[GN (by rw[bS,GF,hP.1];exact GJ _)];exact q l hl
theorem Ci{α:Type}{xs:List α}{r:Int}(h0:0<=r)(h1:r<xs.length):∃v,atI xs r=some v/\v∈xs:=by
 have hl:r.toNat<xs.length:=by lia
 have e:r=(r.toNat:Int):=by lia
 refine⟨xs[r.toNat],?_,GV _⟩;have q:=ba (xs:=xs) (j:=r.toNat) (v:=xs[r.toNat]) (by simp[hl]);rw[<-e]at q;exact q
def Ltr(n:Nat)(z:Str):Prop:=z.length<=n/\∀c∈z.cps.toList,97<=c/\c<=122
theorem Ltr.cat{y:Str}(h:Ltr n x)(g:Ltr m y):Ltr (n+m) (x++y):=by
 have e:(x++y).cps=x.cps++y.cps:=rfl;refine⟨?_,λc hc=>?_⟩
 ·show(x++y).cps.size<=_
  rw[e,NY];exact Nat.add_le_add h.1 g.1
 ·rw[e,Array.toList_append]at hc
  rcases Hc.mp hc with q|q
  ·exact h.2 c q
  ·exact g.2 c q
theorem Ltr.mono(h:Ltr n z)(g:n<=m):Ltr m z:=⟨HU h.1 g,h.2⟩
instance {n:Nat}{z:Str}:Decidable (Ltr n z):=by unfold Ltr;exact inferInstance
theorem Gq:(GS ((n:Nat):Int).toNat [Q8 0]).flatten=(GS n (0:Int)).map Q8:=by
 rw[Ih,IZ]
 induction n with
 | zero=>rfl
 | succ n ih=>rw[Ia,Jg,ih,Ia];rfl
noncomputable def vZ(m:Nat)(z:Str):List Int:=z.cps.toList.map (λc=>((c:Nat):Int) - 96)++GS (m - z.length) 0
def TRows(H:Hp)(ps:List Addr)(zs:List Str)(m:Nat):Prop:=ps.length=zs.length/\∀(i:Nat) (p:Addr) (z:Str),ps[i]? = some p->zs[i]? = some z->H p=some (.tup ((vZ m z).map Q8))
theorem TRows.same{H:Hp}{zs:List Str}(h:TRows H ps zs m)(s:Same H H'):TRows H' ps zs m:=⟨h.1,λi p z e1 e2=>s _ _ (h.2 i p z e1 e2)⟩
theorem TRows.snoc{H:Hp}{zs:List Str}(h:TRows H ps zs m)(hp:H p=some (.tup ((vZ m z).map Q8))):TRows H (ps++[p]) (zs++[z]) m:=by
 refine⟨by simp[h.1],λi p' z' e1 e2=>?_⟩;by_cases hi:i<ps.length
 ·rw[GU hi]at e1
  rw[GU (by rw[<-h.1];exact hi)]at e2;exact h.2 i p' z' e1 e2
 ·have hl:=(GM.mp e1).1
  have e:i=ps.length:=by simp at hl;lia
  subst e;rw[G6 (GJ _)]at e1;rw[h.1,G6 (GJ _)]at e2;simp at e1 e2;rw[<-e1,<-e2];exact hp
def Cj:Sp:=λvs H Q _=>∃(z:Str) (m:Nat),vs=[.str z,.int m]/\Ltr 30 z/\z.length<=m/\m<=30/\∀p H',H p=none->Same H H'->H' p=some (.tup ((vZ m z).map Q8))->Q (.ref p) H'
theorem jl (T:Tx K mg t):FnOk P t.wd K mg t.bs CX0 1 (t.f 26) (t.d 26) ["text","columns"] Cj:=by
 refine okT (N:=["text","columns","before_first","letters"]) (T.fn 26 rfl) (λH Q hr nd h=>?_)
 ·obtain⟨z,m,rfl,hz,hzm,hm,k⟩:=h
  have hzs:z.cps.size=z.length:=rfl;refine⟨_,(ae (aH (i:=2) (aI dM (ag xa (by rfl) T.uk xj (ah bK aa)) aj))
   (ae (ko (i:=3) (N:=["letter","before_first"]) (tgs:=["letter"]) (frs:=["before_first"]) (ix:=[2])  nd rfl (JU rfl) ⟨rfl,by decide +kernel,rfl,by decide +kernel,rfl,rfl,⟨⟨rfl,rfl,_,rfl,rfl⟩,GR⟩,⟨rfl,GR⟩,rfl⟩ rfl (B7 (qv 0)) (λ_ _ _ _=>(aD (i:=0))) (λ_ _ _ _=>(aI dM (ag xa (by rfl) T.uk xj (ah (qv 0) aa)) (qv 1))))
   (ak (aw (bq (cG (K:=K)) (by rfl) T.bu aZ (ah (aI Bt (qv 3) (aI qX (aQ (ah aj aa)) (aI dM (qv 1) (ag fb (by rfl) T.bz aP (ah (qv 0) aa))))) aa)))))),?_⟩
  dsimp only[st0];nofun;refine⟨_,rfl,by decide +kernel,?_⟩;nofun;have e97:(((He "a").cps.getD 0 0:Nat):Int) - 1=96:=by decide +kernel
  rw[e97];refine⟨z,rfl,iB (n:=z.cps.size) (λi ys σ H'=>H'=H/\ys=((z.cps.toList.take i).map (λc=>((c:Nat):Int) - 96)).map Q8/\i<=z.cps.size/\∃v,σ=[v,some (Q8 96)]) (au (by have:=hz.1;lia)) (λi ys σ H' h=>by obtain⟨_,rfl,hi,_⟩:=h;simp;lia) ⟨rfl,rfl,GW _,none,rfl⟩ (λi ys σ H' hi h=>hi) (λys σ H' h=>rfl) ?_ ?_⟩
  ·rintro i x ys σ H1 H2 hi ⟨rfl,rfl,_,v,rfl⟩ ⟨rfl,c,hc,rfl⟩
   nofun;refine⟨_,rfl,rfl,?_⟩;nofun;refine Rf hi ⟨rfl,?_,hi,_,rfl⟩;have ec:z.cps.toList[i]? = some c:=by rw[JT];exact hc
   rw[G4,ec,GP,GP];rfl
  ·rintro ys σ H1 ⟨rfl,rfl,_,v,rfl⟩ a ha
   rw[GN (by simp)];obtain⟨H2,e9,s1,t1⟩:=nwR ha (.lst ((z.cps.toList.map (λc=>((c:Nat):Int) - 96)).map Q8));rw[e9];nofun;refine⟨aE (by simp),λb hb=>?_⟩;obtain⟨H3,e9,s2,e8,tb⟩:=nwD s1 hb (.lst [Q8 0]);rw[e9];have t2:=e8 _ _ t1;nofun;refine⟨z,rfl,aE ⋯,?_⟩;nofun;have em:(m:Int) - (z.length:Int)=((m - z.length:Nat):Int):=by lia
   rw[em];refine⟨b,_,_,rfl,rfl,tb,by lia,by lia,aE (by simp only[G8,Ib,Ih];lia),λd hd=>?_⟩;rw[Gq];obtain⟨H4,e9,s3,e8,td⟩:=nwD s2 hd (.lst ((GS (m - z.length) (0:Int)).map Q8));rw[e9];have t3:=e8 _ _ t2;refine⟨a,d,_,_,rfl,rfl,t3,td,aE (by rw[GF,GF,GF,Iz,IT];lia),λe he=>?_⟩;have eq1:(z.cps.toList.map (λc=>((c:Nat):Int) - 96)).map Q8++(GS (m - z.length) (0:Int)).map Q8=(vZ m z).map Q8:=by unfold vZ;rw[<-GP]
   rw[eq1];obtain⟨H5,e9,s4,te⟩:=nwS s3 he (.lst ((vZ m z).map Q8));rw[e9];refine fV (Q6 te) λf hf=>?_
   nofun;exact k f _ (s4.free hf) (s4.new hf) af
def Ck(zs:List Str)(m:Nat):Prop:=(∀z∈zs,z.length<=m)/\(zs=[]/\m=0\/∃z∈zs,z.length=m)
def zd(K:GH):Sp:=λvs H Q _=>∃(a:Addr) (zs:List Str),vs=[.ref a]/\(SqL K H a (zs.map Ra)\/SqT K H a (zs.map Ra))/\zs.length<=200/\(∀z∈zs,Ltr 30 z)/\∀(l:Addr) (ps:List Addr) (m:Nat) H',H l=none->Same H H'->H' l=some (.lst (ps.map Rb))->TRows H' ps zs m->Ck zs m->m<=30->Q (.ref l) H'
theorem md (T:Tx K mg t):FnOk P t.wd K mg t.bs CX0 2 (t.f 27) (t.d 27) ["texts"] (zd K):=by
 refine okT (N:=["texts","columns"]) (T.fn 27 rfl) (λH Q hr nd h=>?_)
 ·obtain⟨a,zs,rfl,hs,hlen,hL,q⟩:=h
  rcases hs with hs|hs
  ·refine⟨_,(ae (aH (i:=1) (sX (K:=K) rfl rfl T.nN (ah (a0 (N:=["text"]) (tgs:=["text"]) (frs:=[]) (ix:=[]) ⟨rfl,by decide +kernel,rfl,by decide +kernel,rfl,rfl,GR,GR,rfl⟩ rfl (aS (K:=K) (qv 0)) (λ_ _ _ _=>(aD (i:=0))) (λ_ _ _ _=>(ag fb (by rfl) T.bz aP (ah (qv 0) aa)))) aa)))
   (ak (aw (a0 (N:=["text","columns"]) (tgs:=["text"]) (frs:=["columns"]) (ix:=[1]) ⟨rfl,by decide +kernel,rfl,by decide +kernel,rfl,rfl,⟨⟨rfl,rfl,_,rfl,rfl⟩,GR⟩,⟨rfl,GR⟩,rfl⟩ rfl (aS (K:=K) (qv 0)) (λ_ _ _ _=>(aD (i:=0))) (λ_ _ _ _=>(aC (jl T) hr (T.fn 26 rfl) (ah (qv 0) (ah (qv 1) aa)))))))),?_⟩
   dsimp only[st0];nofun;refine⟨a,rfl,⟨_,hs⟩,aX (a:=a) (vs:=zs.map Ra) (λi ys σ H'=>H'=H/\ys=((zs.take i).map λz=>((z.length:Nat):Int)).map Q8/\i<=zs.length/\∃v,σ=[v]) (by rw[GF];exact au ⋯) (λi ys σ H' h=>by obtain⟨_,rfl,hi,_⟩:=h;simp;lia) (λi ys σ H' h=>by rw[h.1];exact hs) ⟨rfl,rfl,GW _,none,rfl⟩ ?_ ?_⟩
   ·rintro i ys σ H' x hx ⟨rfl,rfl,_,v,rfl⟩
    obtain⟨z,rfl,hz,hzm,hi'⟩:=aF hx;nofun;refine⟨z,rfl,aE (by have:=(hL z hzm).1;lia),?_⟩;refine Rf (by rw[GF];exact hi') ⟨rfl,?_,hi',_,rfl⟩;rw[G4,hz,GP,GP];rfl
   ·rintro ys σ H' ⟨rfl,rfl,_,v,rfl⟩ l0 hl0
    rw[GN (by simp)];obtain⟨H1,e9,s0,t0⟩:=nwR hl0 (.lst ((zs.map λz=>((z.length:Nat):Int)).map Q8));rw[e9];nofun;refine⟨l0,_,rfl,Q6 t0,λmm hmm=>?_⟩;obtain⟨m,rfl,hM⟩:∃m:Nat,mm=m/\Ck zs m:=by
     rcases hmm with⟨h0,rfl⟩|⟨h1,h2⟩
     ·have e0:zs=[]:=Nl.mp h0
      exact⟨0,rfl,by rw[e0];exact λz h=>(nomatch h),.inl ⟨e0,rfl⟩⟩
     ·obtain⟨z,hz,rfl⟩:=Hk.mp h1
      refine⟨z.length,rfl,λy hy=>?_,.inr ⟨z,hz,rfl⟩⟩;have:=h2 _ (Hk.mpr ⟨y,hy,rfl⟩);lia
    have hm:m<=30:=by
     rcases hM.2 with⟨_,rfl⟩|⟨z,hz,rfl⟩
     ·lia
     ·exact(hL z hz).1
    nofun;refine⟨a,rfl,⟨_,s0.seq hs⟩,aX (a:=a) (vs:=zs.map Ra) (λi ys σ H2=>Same H' H2/\(∃ps:List Addr,ys=ps.map Rb/\ps.length=i/\i<=zs.length/\TRows H2 ps (zs.take i) m)/\∃v,σ=[v,some (Q8 m)]) (by rw[GF];exact au ⋯) (λi ys σ H2 h=>by obtain⟨_,⟨ps,rfl,e,_⟩,_⟩:=h;rw[GF,e]) (λi ys σ H2 h=>h.1.seq hs) ⟨s0,⟨[],rfl,rfl,GW _,rfl,λi p z h=>by simp at h⟩,none,rfl⟩ ?_ ?_⟩
    ·rintro i ys σ H2 x hx ⟨sm,⟨ps,rfl,hpl,_,hR⟩,v,rfl⟩
     obtain⟨z,rfl,hz,hzm,hi'⟩:=aF hx;nofun;refine⟨z,m,rfl,hL z hzm,hM.1 z hzm,hm,λp H3 hp sm2 t2=>?_⟩;refine Rf (by rw[GF];exact hi') ⟨sm.trans sm2,⟨ps++[p],by rw[GP];rfl,by simp[hpl],hi',?_⟩,_,rfl⟩;have et:zs.take (i+1)=zs.take i++[z]:=by rw[G4,hz];rfl
     rw[et];exact(hR.same sm2).snoc t2
    ·rintro ys σ H2 ⟨sm,⟨ps,rfl,hpl,_,hR⟩,v,rfl⟩ l hl
     rw[GN (by simp)]at hR;exact q l ps m _ (sm.free hl) (sm.new hl) af (hR.same ((Rc _).new hl)) hM hm
  ·refine⟨_,(ae (aH (i:=1) (sX (K:=K) rfl rfl T.nN (ah (a0 (N:=["text"]) (tgs:=["text"]) (frs:=[]) (ix:=[]) ⟨rfl,by decide +kernel,rfl,by decide +kernel,rfl,rfl,GR,GR,rfl⟩ rfl (lC (K:=K) (qv 0)) (λ_ _ _ _=>(aD (i:=0))) (λ_ _ _ _=>(ag fb (by rfl) T.bz aP (ah (qv 0) aa)))) aa)))
   (ak (aw (a0 (N:=["text","columns"]) (tgs:=["text"]) (frs:=["columns"]) (ix:=[1]) ⟨rfl,by decide +kernel,rfl,by decide +kernel,rfl,rfl,⟨⟨rfl,rfl,_,rfl,rfl⟩,GR⟩,⟨rfl,GR⟩,rfl⟩ rfl (lC (K:=K) (qv 0)) (λ_ _ _ _=>(aD (i:=0))) (λ_ _ _ _=>(aC (jl T) hr (T.fn 26 rfl) (ah (qv 0) (ah (qv 1) aa)))))))),?_⟩
   dsimp only[st0];nofun;refine⟨a,rfl,⟨_,hs⟩,fX (a:=a) (vs:=zs.map Ra) (λi ys σ H'=>H'=H/\ys=((zs.take i).map λz=>((z.length:Nat):Int)).map Q8/\i<=zs.length/\∃v,σ=[v]) (by rw[GF];exact au ⋯) (λi ys σ H' h=>by obtain⟨_,rfl,hi,_⟩:=h;simp;lia) (λi ys σ H' h=>by rw[h.1];exact hs) ⟨rfl,rfl,GW _,none,rfl⟩ ?_ ?_⟩
   ·rintro i ys σ H' x hx ⟨rfl,rfl,_,v,rfl⟩
    obtain⟨z,rfl,hz,hzm,hi'⟩:=aF hx;nofun;refine⟨z,rfl,aE (by have:=(hL z hzm).1;lia),?_⟩;refine Rf (by rw[GF];exact hi') ⟨rfl,?_,hi',_,rfl⟩;rw[G4,hz,GP,GP];rfl
   ·rintro ys σ H' ⟨rfl,rfl,_,v,rfl⟩ l0 hl0
    rw[GN (by simp)];obtain⟨H1,e9,s0,t0⟩:=nwR hl0 (.lst ((zs.map λz=>((z.length:Nat):Int)).map Q8));rw[e9];nofun;refine⟨l0,_,rfl,Q6 t0,λmm hmm=>?_⟩;obtain⟨m,rfl,hM⟩:∃m:Nat,mm=m/\Ck zs m:=by
     rcases hmm with⟨h0,rfl⟩|⟨h1,h2⟩
     ·have e0:zs=[]:=Nl.mp h0
      exact⟨0,rfl,by rw[e0];exact λz h=>(nomatch h),.inl ⟨e0,rfl⟩⟩
     ·obtain⟨z,hz,rfl⟩:=Hk.mp h1
      refine⟨z.length,rfl,λy hy=>?_,.inr ⟨z,hz,rfl⟩⟩;have:=h2 _ (Hk.mpr ⟨y,hy,rfl⟩);lia
    have hm:m<=30:=by
     rcases hM.2 with⟨_,rfl⟩|⟨z,hz,rfl⟩
     ·lia
     ·exact(hL z hz).1
    nofun;refine⟨a,rfl,⟨_,s0.tup hs⟩,fX (a:=a) (vs:=zs.map Ra) (λi ys σ H2=>Same H' H2/\(∃ps:List Addr,ys=ps.map Rb/\ps.length=i/\i<=zs.length/\TRows H2 ps (zs.take i) m)/\∃v,σ=[v,some (Q8 m)]) (by rw[GF];exact au ⋯) (λi ys σ H2 h=>by obtain⟨_,⟨ps,rfl,e,_⟩,_⟩:=h;rw[GF,e]) (λi ys σ H2 h=>h.1.tup hs) ⟨s0,⟨[],rfl,rfl,GW _,rfl,λi p z h=>by simp at h⟩,none,rfl⟩ ?_ ?_⟩
    ·rintro i ys σ H2 x hx ⟨sm,⟨ps,rfl,hpl,_,hR⟩,v,rfl⟩
     obtain⟨z,rfl,hz,hzm,hi'⟩:=aF hx;nofun;refine⟨z,m,rfl,hL z hzm,hM.1 z hzm,hm,λp H3 hp sm2 t2=>?_⟩;refine Rf (by rw[GF];exact hi') ⟨sm.trans sm2,⟨ps++[p],by rw[GP];rfl,by simp[hpl],hi',?_⟩,_,rfl⟩;have et:zs.take (i+1)=zs.take i++[z]:=by rw[G4,hz];rfl
     rw[et];exact(hR.same sm2).snoc t2
    ·rintro ys σ H2 ⟨sm,⟨ps,rfl,hpl,_,hR⟩,v,rfl⟩ l hl
     rw[GN (by simp)]at hR;exact q l ps m _ (sm.free hl) (sm.new hl) af (hR.same ((Rc _).new hl)) hM hm
def Rises(rss:List (List Int))(lt:Nat->Nat->Bool):Prop:=∀(i j:Nat) (r r':List Int),rss[i]? = some r->rss[j]? = some r'->HT.bC r r'=lt i j
noncomputable def ltN(ns:List Int)(i j:Nat):Bool:=decide (ns.getD i 0<ns.getD j 0)
noncomputable def ltP(tb:List (Int×Nat))(i j:Nat):Bool:=decide ((tb.getD i (0,1)).1*((tb.getD j (0,1)).2:Int)<(tb.getD j (0,1)).1*((tb.getD i (0,1)).2:Int))
noncomputable def ltT(zs:List Str)(i j:Nat):Bool:=decide ((zs.getD i ⟨#[]⟩).cps.toList<(zs.getD j ⟨#[]⟩).cps.toList)
theorem bL{α:Type}{xs:List α}{x d:α}(h:xs[i]? = some x):xs.getD i d=x:=by rw[GG,h];rfl
theorem map_some{α β:Type}{f:α->β}{xs:List α}{y:β}(h:(xs.map f)[i]? = some y):∃x,xs[i]? = some x/\y=f x:=by
 rw[GK]at h;cases e:xs[i]? with
 | none=>rw[e]at h;cases h
 | some x=>rw[e]at h;exact⟨x,rfl,(G9 h).symm⟩
theorem gM{α:Type}{xs:List α}(h:i<xs.length):∃x,xs[i]? = some x:=⟨xs[i],by simp[h]⟩
theorem tP{ns:List Int}(h:Spelt ns b zs m)(hb:2<=b):Rises (zs.map λz=>dg z b m) (ltN ns):=by
 intro i j r r' e1 e2;obtain⟨z,hz,rfl⟩:=map_some e1;obtain⟨w,hw,rfl⟩:=map_some e2;obtain⟨x,hx⟩:=gM (xs:=ns) (i:=i) (by rw[<-h.len];exact(GM.mp hz).1);obtain⟨y,hy⟩:=gM (xs:=ns) (i:=j) (by rw[<-h.len];exact(GM.mp hw).1);unfold ltN;rw[bL hx,bL hy];exact h.lex hb hx hy hz hw
theorem ze{tb:List (Int×Nat)}(h:Spelt (bY tb) b zs m)(hb:2<=b)(hb1:∀z∈tb,1<=z.2/\z.2<=60):Rises (zs.map λz=>dg z b m) (ltP tb):=by
 intro i j r r' e1 e2;have q:=tP h hb i j r r' e1 e2;obtain⟨z0,hz0,rfl⟩:=map_some e1;obtain⟨w0,hw0,rfl⟩:=map_some e2;have l1:i<tb.length:=by rw[<-bS,<-h.len];exact(GM.mp hz0).1
 have l2:j<tb.length:=by rw[<-bS,<-h.len];exact(GM.mp hw0).1
 obtain⟨z,hz⟩:=gM l1;obtain⟨w,hw⟩:=gM l2;obtain⟨x,hx⟩:=gM (xs:=bY tb) (i:=i) (by rw[bS];exact l1);obtain⟨y,hy⟩:=gM (xs:=bY tb) (i:=j) (by rw[bS];exact l2);rw[q];unfold ltN ltP;rw[bL hx,bL hy,bL hz,bL hw];congr 1;exact propext (sZ hb1 hz hw hx hy)
theorem zf{zs:List Str}(hL:∀z∈zs,Ltr 30 z)(hM:Ck zs m):Rises (zs.map λz=>vZ m z) (ltT zs):=by
 intro i j r r' e1 e2;obtain⟨z,hz,rfl⟩:=map_some e1;obtain⟨w,hw,rfl⟩:=map_some e2;unfold ltT;rw[bL hz,bL hw];have hzm:=G3 hz;have hwm:=G3 hw;have e3:z.cps.toList.length=z.length:=by simp[LU]
 have e4:w.cps.toList.length=w.length:=by simp[LU]
 have:=xf z.cps.toList w.cps.toList m (λc hc=>((hL z hzm).2 c hc).1) (λc hc=>((hL w hwm).2 c hc).1) (by rw[e3];exact hM.1 z hzm) (by rw[e4];exact hM.1 w hwm);rw[e3,e4]at this;exact this
def Rws(H:Hp)(l:Addr)(rss:List (List Nat))(w b:Nat):Prop:=(∃ps:List Addr,H l=some (.lst (ps.map Rb))/\RowsT H ps rss)/\Cb rss w b/\rss.length<=60/\w<=200/\b<=64
inductive Kd
 | nu (ns:List Int)
 | pa (tb:List (Int×Nat))
 | te (zs:List Str)
noncomputable def Kd.name:Kd->Str
 | .nu _=>"number"
 | .pa _=>"part"
 | .te _=>"text"
noncomputable def Kd.len:Kd->Nat
 | .nu ns=>ns.length
 | .pa tb=>tb.length
 | .te zs=>zs.length
noncomputable def Kd.lt:Kd->Nat->Nat->Bool
 | .nu ns=>ltN ns
 | .pa tb=>ltP tb
 | .te zs=>ltT zs
noncomputable def Kd.ok:Kd->Prop
 | .nu ns=>ns.length<=60/\∀x∈ns,-(10 ^ 18)<x/\x<10 ^ 18
 | .pa tb=>tb.length<=60/\(∀z∈tb,1<=z.2/\z.2<=60)/\∀z∈tb,-(10 ^ 18)<z.1/\z.1<10 ^ 18
 | .te zs=>zs.length<=60/\∀z∈zs,Ltr 30 z
noncomputable def KAt(H:Hp):Kd->List V->Prop
 | .nu ns,vs=>vs=ns.map Q8
 | .pa tb,vs=>∃qs:List Addr,vs=qs.map Rb/\PartsT H qs tb
 | .te zs,vs=>vs=zs.map Ra
theorem KAt.same{H H':Hp}{k:Kd}{vs:List V}(h:KAt H k vs)(s:Same H H'):KAt H' k vs:=by
 cases k with
 | nu ns=>exact h
 | pa tb=>obtain⟨qs,e,p⟩:=h;exact⟨qs,e,p.same s⟩
 | te zs=>exact h
theorem KAt.len{H:Hp}{k:Kd}{vs:List V}(h:KAt H k vs):vs.length=k.len:=by
 cases k with
 | nu ns=>cases h;exact GF ..
 | pa tb=>obtain⟨qs,rfl,p⟩:=h;rw[GF];exact p.1
 | te zs=>cases h;exact GF ..
theorem Kd.ok.le{k:Kd}(h:k.ok):k.len<=60:=by cases k<;>exact h.1
noncomputable def dgN(n b m:Nat):List Nat:=(GO m).map λj=>n / b ^ (m - 1 - j) % b
theorem zg(n b m:Nat):(dgN n b m).length=m:=by simp[dgN]
theorem tQ(n b m:Nat):bo (dgN n b m)=dg n b m:=by
 unfold bo dgN dg;rw[IV];rfl
theorem Cm(hb:2<=b):∀x∈dgN n b m,x<b:=λx hx=>by
 unfold dgN at hx;obtain⟨j,_,rfl⟩:=Hk.mp hx;exact LW _ ⋯
noncomputable def trN(m:Nat)(z:Str):List Nat:=z.cps.toList.map (λc=>c - 96)++GS (m - z.length) 0
theorem xk(h:Ltr 30 z):bo (trN m z)=vZ m z:=by
 unfold bo trN vZ;rw[GP,IV,IZ];congr 1;apply Iu;intro c hc;have:=h.2 c hc;show((c - 96:Nat):Int)=(c:Int) - 96
 lia
theorem zh(h:z.length<=m):(trN m z).length=m:=by
 unfold trN;rw[GY,GF,Iz];have e:z.cps.toList.length=z.length:=by simp[LU]
 lia
theorem Cn(h:Ltr 30 z):∀x∈trN m z,x<27:=λx hx=>by
 unfold trN at hx;rcases Hc.mp hx with hx|hx
 ·obtain⟨c,hc,rfl⟩:=Hk.mp hx
  have:=h.2 c hc;lia
 ·have:=Kw hx
  lia
def EW(ns:List Int)(b:Nat)(rss:List (List Nat))(w:Nat):Prop:=∃zs,Spelt ns b zs w/\rss=zs.map λz=>dgN z b w
noncomputable def Kd.rows(b:Nat)(rss:List (List Nat))(w by':Nat):Kd->Prop
 | .nu ns=>EW ns b rss w/\by'=b
 | .pa tb=>EW (bY tb) b rss w/\by'=b
 | .te zs=>(Ck zs w/\w<=30/\rss=zs.map (trN w))/\by'=27
theorem oV{H:Hp}(h:RowsAt H ps b m zs):RowsT H ps (zs.map λz=>dgN z b m):=by
 refine⟨by rw[GF];exact h.1,λi p r e1 e2=>?_⟩;obtain⟨z,hz,rfl⟩:=map_some e2;rw[cH,tQ];exact h.2 i p z e1 hz
theorem tR{H:Hp}{zs:List Str}(h:TRows H ps zs m)(hL:∀z∈zs,Ltr 30 z):RowsT H ps (zs.map (trN m)):=by
 refine⟨by rw[GF];exact h.1,λi p r e1 e2=>?_⟩;obtain⟨z,hz,rfl⟩:=map_some e2;rw[cH,xk (hL z (G3 hz))];exact h.2 i p z e1 hz
theorem me{ns:List Int}{w:Nat}(h:EW ns b rss w)(hb:2<=b):Cb rss w b/\rss.length=ns.length/\w<=200:=by
 obtain⟨zs,hS,rfl⟩:=h;refine⟨λr hr=>?_,by rw[GF];exact hS.len,by have:=hS.few;lia⟩;obtain⟨z,_,rfl⟩:=Hk.mp hr;exact⟨zg ..,Cm hb⟩
theorem Kd.rows.good{k:Kd}{w by':Nat}(h:k.rows b rss w by')(hk:k.ok)(hb:2<=b)(hb2:b<=64):Cb rss w by'/\rss.length=k.len/\w<=200/\by'<=64:=by
 cases k with
 | nu ns=>obtain⟨h,rfl⟩:=h;obtain⟨a,c,d⟩:=me h hb;exact⟨a,c,d,hb2⟩
 | pa tb=>obtain⟨h,rfl⟩:=h;obtain⟨a,c,d⟩:=me h hb;exact⟨a,c.trans (bS tb),d,hb2⟩
 | te zs=>
  obtain⟨⟨hM,hm,rfl⟩,rfl⟩:=h;refine⟨λr hr=>?_,GF ..,by lia,by decide⟩;obtain⟨z,hz,rfl⟩:=Hk.mp hr;exact⟨zh (hM.1 z hz),Cn (hk.2 z hz)⟩
def Co(K:GH):Sp:=λvs H Q _=>∃(k:Kd) (us:List V) (a:Addr) (b:Nat),vs=[.str k.name,.ref a,.int b]/\(H a=some (.lst us)\/H a=some (.tup us))/\KAt H k us/\k.ok/\2<=b/\b<=64/\
 ∀(t l:Addr) (ps:List Addr) (rss:List (List Nat)) (w by':Nat) H',Same H H'->H' t=some (.tup [.int by',.ref l])->H' l=some (.lst (ps.map Rb))->RowsT H' ps rss->k.rows b rss w by'->Q (.ref t) H'
theorem mf{K:GH}{H:Hp}{us:List V}(h:H a=some (.lst us)\/H a=some (.tup us)):SqL K H a us\/SqT K H a us:=h.elim (λh=>.inl (Q6 h)) λh=>.inr (Q7 h)
theorem gN (T:Tx K mg t):FnOk P t.wd K mg t.bs CX0 4 (t.f 28) (t.d 28) ["kind","keys","base"] (Co K):=by
 refine okT (N:=["kind","keys","base"]) (T.fn 28 rfl) (λH Q hr nd h=>?_)
 ·obtain⟨k,us,a,b,rfl,ta,hA,hk,hb,hb2,q⟩:=h
  refine⟨_,(ae (aT (az eV (qv 0) bK (ax _)) (ak (aw (bB (ah (sW (v:=.int 27) rfl T.nM ⟨_,rfl⟩) (ah (aC (md T) hr (T.fn 27 rfl) (ah (qv 1) aa)) aa))))) aG)
   (ae (aT (az eV (qv 0) bK (ax _)) (ak (aw (bB (ah (qv 2) (ah (aC (fy T) hr (T.fn 25 rfl) (ah (aC (ip T) hr (T.fn 24 rfl) (ah (qv 1) aa)) (ah (qv 2) aa))) aa))))) aG)
   (ak (aw (bB (ah (qv 2) (ah (aC (fy T) hr (T.fn 25 rfl) (ah (qv 1) (ah (qv 2) aa))) aa))))))),?_⟩
  dsimp only[st0];cases k with
  | nu ns=>
   obtain rfl:us=ns.map Q8:=hA;nofun;refine cD (show ¬Ra (He "number")=Ra (He "text")by decide) ?_;nofun;refine cD (show ¬Ra (He "number")=Ra (He "part")by decide) ?_;nofun;refine⟨a,ns,b,rfl,mf ta,hb,hb2,⟨by have:=hk.1;lia,λx hx=>by have:=hk.2 x hx;lia⟩,λl ps zs m H' hl sm tl hR hS=>?_⟩;nofun;exact⟨aE (by simp),λt ht=>q t l ps _ m b _ (sm.new ht) af (by rw[ar (aq tl ht)];exact tl) (oV (hR.same ((Rc _).new ht))) ⟨⟨zs,hS,rfl⟩,rfl⟩⟩
  | pa tb=>
   obtain⟨qs,rfl,hP⟩:=hA;nofun;refine cD (show ¬Ra (He "part")=Ra (He "text")by decide) ?_;nofun;refine dP rfl ?_;nofun;refine⟨a,qs,tb,rfl,by have:=hk.1;lia,hk.2.1,hk.2.2,ta.elim (λh=>.inl ⟨Q6 h,hP⟩) (λh=>.inr ⟨Q7 h,hP⟩),λl0 hl0=>?_⟩;obtain⟨H0,e9,sm0,t0⟩:=nwR hl0 (.lst ((bY tb).map Q8));rw[e9];nofun;refine⟨l0,bY tb,b,rfl,.inl (Q6 t0),hb,hb2,⟨by rw[bS];have:=hk.1;lia,rA hk.2.1 hk.2.2⟩,λl ps zs m H' hl sm tl hR hS=>?_⟩;nofun;exact⟨aE (by simp),λt ht=>q t l ps _ m b _ ((sm0.trans sm).new ht) af (by rw[ar (aq tl ht)];exact tl) (oV (hR.same ((Rc _).new ht))) ⟨⟨zs,hS,rfl⟩,rfl⟩⟩
  | te zs=>
   obtain rfl:us=zs.map Ra:=hA;nofun;refine dP rfl ?_;nofun;refine⟨a,zs,rfl,mf ta,by have:=hk.1;lia,hk.2,λl ps m H' hl sm tl hR hM hm=>?_⟩;nofun;exact⟨aE (by simp),λt ht=>q t l ps _ m 27 _ (sm.new ht) af (by rw[ar (aq tl ht)];exact tl) (tR (hR.same ((Rc _).new ht)) hk.2) ⟨⟨hM,hm,rfl⟩,rfl⟩⟩
def wa:Sp:=λvs H Q _=>∃(a:Addr) (cs:List Nat),vs=[.ref a]/\(H a=some (.lst (NV cs))/\True)/\cs.length<=64/\∀(l:Addr) H',H l=none->Same H H'->H' l=some (.lst (NV (vj cs)))->Q (.ref l) H'
theorem mh (T:Tx K mg t):FnOk P t.wd K mg t.bs CX0 1 (t.f 1) (t.d 1) ["counts"] wa:=by
 refine okT (N:=["counts","lesser","so_far","many"]) (T.fn 1 rfl) (λH Q hr nd h=>?_)
 ·obtain⟨a,cs,rfl,ta,hcl,k⟩:=h
  obtain⟨ta,_⟩:=ta
  ·refine⟨_,(ae (aH (i:=1) (aQ aa))
   (ae (aH (i:=2) aj)
   (ae (cA Hb rfl (aS (K:=K) (qv 0)) (aD (i:=3)) (ae (bb (br (K:=K) (qv 1) (ah (qv 2) aa)))
   (ak (iS (i:=2) nd rfl (JU rfl) (qv 3) jO))))
   (ak (aw (qv 1)))))),?_⟩
   dsimp only[st0];nofun;refine⟨aE (by simp),λl hl=>?_⟩;obtain⟨H1,e9,s1,(t1:H1 l=some (.lst (NV ((vj cs).take 0))))⟩:=nwR hl (.lst []);rw[e9];nofun;refine⟨a,rfl,⟨_,Q6 (s1 _ _ ta)⟩,du (a:=a) (xs:=NV cs) (λi σ H'=>Same H H'/\H' l=some (.lst (NV ((vj cs).take i)))/\∃v,σ=[some (Rb a),some (Rb l),some (Q8 ((cs.take i).sum:Nat)),v]) ⟨s1,t1,none,rfl⟩ (λi σ H' _ h=>Q6 (h.1 _ _ ta)) ?_ ?_⟩
   ·rintro i x σ H2 hx ⟨s2,t2,v,rfl⟩
    obtain⟨o,rfl,ho,hom,hi⟩:=aF hx;nofun;refine⟨a9 t2,?_⟩;nofun;refine aW t2 (by rw[aB,G5,iE];exact au ⋯) ?_;rw[cB,<-rK hi];have e:(((cs.take i).sum:Nat):Int)+(o:Int)=((cs.take (i+1)).sum:Nat):=by rw[G4,ho,JH];simp
    nofun;exact⟨s2.own hl,af,some (Q8 (o:Nat)),by rw[<-e];rfl⟩
   ·rintro σ H2 ⟨s2,t2,v,rfl⟩
    rw[GN (by rw[aB,iE];exact GJ _)]at t2;nofun;exact k l H2 hl s2 t2
def EX:Sp:=λvs H Q _=>∃(a:Addr) (os:List Nat) (b:Nat),vs=[.ref a,.int b]/\H a=some (.lst (NV os))/\(∀o∈os,o<b)/\os.length<=60/\b<=64/\∀(l:Addr) (ob:List Nat) H',H l=none->Same H H'->H' l=some (.lst (NV ob))->ByF os ob->Q (.ref l) H'
theorem getD_some{os:List Nat}{o:Nat}(h:os[i]? = some o):os.getD i 0=o:=by rw[GG,h];rfl
theorem dw (T:Tx K mg t):FnOk P t.wd K mg t.bs CX0 2 (t.f 4) (t.d 4) ["row","base"] EX:=by
 refine okT (N:=["row","base","marks","order","place","figure"]) (T.fn 4 rfl) (λH Q hr nd h=>?_)
 ·obtain⟨a,os,b,rfl,ta,hob,hol,hb,k⟩:=h
  refine⟨_,(ae (aH (i:=2) (aC (mh T) hr (T.fn 1 rfl) (ah (aC (jk T) hr (T.fn 0 rfl) (ah (qv 0) (ah (qv 1) aa))) aa)))
   (ae (aH (i:=3) (aI qX (aQ (ah aj aa)) (ag (aU (K:=K)) (by rfl) T.bz aP (ah (qv 0) aa))))
   (ae (cA Hb rfl (fY (K:=K) rfl T.cC (ah (qv 0) aa)) (bF (K:=K) (n:=2) rfl (av (aD (i:=4)) (av (aD (i:=5)) aY))) (ae (iR (qv 4) (qv 3) (aO (bc (K:=K)) (qv 2) (qv 5)))
   (ak (kx (K:=K) (qv 2) (qv 5) aj))))
   (ak (aw (qv 3)))))),?_⟩
  dsimp only[st0];nofun;refine⟨a,os,b,rfl,⟨ta,trivial⟩,hob,by lia,hb,λc H1 hc0 s1 tc=>?_⟩;nofun;refine⟨c,cnt os b,rfl,⟨tc,trivial⟩,by rw[bU];exact hb,λm H2 hm0 s2 tm=>?_⟩;have hmn:H m=none:=s1.free hm0;have s12:=s1.trans s2;nofun;refine⟨aE (by simp),λq0 hq0=>?_⟩;obtain⟨H3,e9,s3,e8,t0⟩:=nwD s12 hq0 (.lst [Q8 0]);rw[e9];have tm3:=e8 _ _ tm;nofun;refine aJ (Q6 (s3 _ _ ta)) ?_;rw[aB];refine⟨q0,_,_,rfl,rfl,t0,by lia,by lia,aE (by simp;lia),λd hd=>?_⟩;have efl:(GS ((os.length:Nat):Int).toNat [Q8 0]).flatten=NV (GS os.length 0):=by
   show(GS os.length [Q8 0]).flatten=_
   rw[JA,NV,IZ];rfl
  rw[efl];have hdn:H d=none:=s3.free hd;have hmd:m≠d:=aq tm3 hd;obtain⟨H4,e9,s4,e8,td⟩:=nwD s3 hd (.lst (NV (GS os.length 0)));rw[e9];have tm4:=e8 _ _ tm3;nofun;refine⟨a,rfl,⟨_,Q6 (s4 _ _ ta)⟩,d6 (n:=os.length) (λi σ H'=>Same H H'/\(∃ms ds:List Nat,H' m=some (.lst (NV ms))/\H' d=some (.lst (NV ds))/\ms.length=b/\ds.length=os.length/\(∀f,f<b->ms[f]? = some (cK os f+(os.take i).count f))/\∀j,j<i->ds[fw os j]? = some j)/\∃v w,σ=[some (Rb a),some (Q8 b),some (Rb m),some (Rb d),v,w]) ⟨s4,⟨_,_,tm4,td,by rw[iE,bU],by simp,λf hf=>?_,λj h=>absurd h (JJ _)⟩,none,none,rfl⟩ ?_ ?_ ?_ ?_⟩
  ·rw[iF (by rw[bU];exact hf),cE os b f ⋯];rfl
  ·rintro i σ H5 hi ⟨s5,_⟩
   exact⟨_,_,Q6 (s5 _ _ ta),dh (o:=os[i]) (by simp[hi])⟩
  ·rintro σ H5 ⟨s5,_⟩
   exact⟨_,Q6 (s5 _ _ ta),by rw[aB]⟩
  ·rintro i x σ H5 H6 hi ⟨s5,⟨ms,ds,tm5,td5,hml,hdl,hms,hds⟩,v,w,rfl⟩ ⟨q,x1,rfl,hq,rfl,hx1⟩
   have ei:os[i]? = some os[i]:=by simp[hi]
   have hx2:=hx1 _ (Q6 (s5 _ _ ta));rw[dh ei]at hx2;obtain rfl:=G9 hx2;have hfb:=hob os[i] (GV hi);have eg:=getD_some ei;have esp:fw os i=cK os os[i]+(os.take i).count os[i]:=by unfold fw;rw[eg]
   have hsl:=m6 hi;have hcs:=di hi;rw[eg]at hcs;generalize os[i]=f at *;refine bf af ?_;dsimp only[HM];obtain⟨H6,e9,s6,e8,_⟩:=nwD s5 hq (.tup [Q8 (i:Nat),Q8 (f:Nat)]);rw[e9];have tm6:=e8 _ _ tm5;have td6:=e8 _ _ td5;nofun;refine bx (Q6 tm6) (kr rfl (hms f hfb)) ?_;rw[<-esp];nofun;refine gR td6 (iW rfl (by rw[aB,hdl];exact hsl)) ?_;rw[lJ];obtain⟨H7,e9,s7,td7,e8⟩:=owS s6 hdn (.lst (NV (ds.set (fw os i) i)));rw[e9];have tm7:=e8 _ _ hmd tm6;nofun;refine⟨m,_,_,_,rfl,rfl,Q6 tm7,by lia,dh (hms f hfb),?_⟩;nofun;refine⟨_,_,rfl,rfl,?_⟩;refine gR tm7 (iW rfl (by rw[aB,hml];exact hfb)) ?_;refine⟨s7.own hmn,⟨ms.set f (cK os f+(os.take i).count f+1),ds.set (fw os i) i,?_,by rw[ar (Hl hmd)];exact td7,by simpa using hml,by simpa using hdl,λg hg=>?_,λj hj=>?_⟩,_,_,rfl⟩
   ·rw[af]
    show some (HO.lst ((NV ms).set f (Q8 ((cK os f+(os.take i).count f+1:Nat):Int))))=_
    rw[lJ]
   ·rw[KF]
    by_cases e:f=g
    ·subst e
     rw[if_pos rfl,if_pos ⋯,hcs];rfl
    ·rw[if_neg e,hms g hg,G4,ei,JP]
     have:Qu g [f]=0:=NA.mpr (by simp;exact λz=>e z.symm);simp only[Pe,this,NB]
   ·rw[KF]
    by_cases e:fw os i=fw os j
    ·have hij:=oA hi ⋯ e
     rw[if_pos e,if_pos ⋯,hij]
    ·rw[if_neg e]
     have:j≠i:=λz=>e (by rw[z])
     exact hds j ⋯
  ·rintro σ H5 ⟨s5,⟨ms,ds,tm5,td5,hml,hdl,hms,hds⟩,v,w,rfl⟩
   nofun;exact k d ds H5 hdn s5 td5 ⟨hdl,hds⟩
def OrdR(rss:List (List Nat))(os:List Nat):Prop:=os.Perm (GO rss.length)/\os.Pairwise (Rk rss 0)
def StepsL(H:Hp)(st:Addr)(qs:List Addr):Prop:=∀q∈qs,∃(c:Int) (l:Addr) (ns:List Nat),H q=some (.tup [.int c,.ref l])/\H l=some (.lst (NV ns))/\l≠st
theorem StepsL.same{H:Hp}{st:Addr}(h:StepsL H st qs)(s:Same H H1):StepsL H1 st qs:=λq hq=>by
 obtain⟨c,l,ns,e1,e2,e3⟩:=h q hq;exact⟨c,l,ns,s _ _ e1,s _ _ e2,e3⟩
theorem StepsL.own{H:Hp}{st:Addr}(h:StepsL H st qs)(hx:H st=some (.lst xs)):StepsL (upd H st (.lst ys)) st qs:=λq hq=>by
 obtain⟨c,l,ns,e1,e2,e3⟩:=h q hq;exact⟨c,l,ns,by rw[ar (bw e1 hx (by intro c;cases c))];exact e1,by rw[ar e3];exact e2,e3⟩
theorem StepsL.snoc{H:Hp}{st:Addr}{c:Int}{ns:List Nat}(h:StepsL H st qs)(e1:H q=some (.tup [.int c,.ref l]))(e2:H l=some (.lst (NV ns)))(e3:l≠st):StepsL H st (qs++[q]):=λp hp=>by
 rcases Hc.mp hp with g|g
 ·exact h p g
 ·rw[G0.mp g];exact⟨c,l,ns,e1,e2,e3⟩
def zi:Sp:=λvs H Q _=>∃(a:Addr) (rss:List (List Nat)) (w b:Nat),vs=[.ref a,.int b]/\Rws H a rss w b/\
 ∀(t o st:Addr) (qs:List Addr) (os:List Nat) H',H' t=some (.tup [.ref o,.ref st])->H' o=some (.lst (NV os))->OrdR rss os->H' st=some (.lst (qs.map Rb))->StepsL H' st qs->qs.length<=200->H t=none->H o=none->Same H H'->Q (.ref t) H'
theorem gX (T:Tx K mg t):FnOk P t.wd K mg t.bs CX0 3 (t.f 7) (t.d 7) ["rows","base"] zi:=by
 refine okT (N:=["rows","base","order","steps","column","row"]) (T.fn 7 rfl) (λH Q hr nd h=>?_)
 ·obtain⟨a,rss,w,b,rfl,⟨⟨ps,ta,hR⟩,hG,hn,hw,hb⟩,k⟩:=h
  have hwl:∀r∈rss,r.length=w:=λr hr=>(hG r hr).1
  have hpl:ps.length=rss.length:=hR.1;have hcols:∀p,ps[0]? = some p->∃zs,(H p=some (.lst zs)\/H p=some (.tup zs))/\zs.length=w:=λp hp=>by
   have h0:0<rss.length:=by rw[<-hpl];exact bj hp
   have hl:=(hG rss[0] (GV h0)).1;exact⟨_,.inr (hR.2 0 p _ hp (GE h0)),by rw[aB];exact hl⟩
  have eM:=rG rss w b;have hM:(dB rss w b).length<=w:=by rw[eM];split<;>lia
  have hMr:∀r∈rss,r.length<=(dB rss w b).length:=λr hr=>by rw[eM,if_neg (λz=>by rw[z]at hr;cases hr),hwl r hr];exact GJ _
  refine⟨_,(ae (aH (i:=2) (iC rfl rfl T.cq rfl T.cz (ah (ag (aU (K:=K)) (by rfl) T.bz aP (ah (qv 0) aa)) aa)))
   (ae (aH (i:=3) (aQ aa))
   (ae (cA Hb rfl (lK rfl T.cz (ah (aI dM (aC (eD T) hr (T.fn 2 rfl) (ah (qv 0) aa)) aj) (ah (fj fk aj) (ah (fj fk aj) aa)))) (aD (i:=4)) (ae (ko (i:=5) (N:=["place","rows","column"]) (tgs:=["place"]) (frs:=["rows","column"]) (ix:=[0,4])  nd rfl (JU rfl) ⟨rfl,by decide +kernel,rfl,by decide +kernel,rfl,rfl,⟨⟨rfl,rfl,_,rfl,rfl⟩,⟨rfl,rfl,_,rfl,rfl⟩,GR⟩,⟨rfl,rfl,GR⟩,rfl⟩ rfl (aS (K:=K) (qv 2)) (λ_ _ _ _=>(aD (i:=0))) (λ_ _ _ _=>(aO (ie (K:=K)) (aO (bc (K:=K)) (qv 1) (qv 0)) (qv 2))))
   (ak (aT (bE (aC (gW T) hr (T.fn 3 rfl) (ah (aC (jk T) hr (T.fn 0 rfl) (ah (qv 5) (ah (qv 1) aa))) aa))) (ae (aH (i:=2) (a0 (N:=["at","order"]) (tgs:=["at"]) (frs:=["order"]) (ix:=[2]) ⟨rfl,by decide +kernel,rfl,by decide +kernel,rfl,rfl,⟨⟨rfl,rfl,_,rfl,rfl⟩,GR⟩,⟨rfl,GR⟩,rfl⟩ rfl (aS (K:=K) (aC (dw T) hr (T.fn 4 rfl) (ah (qv 5) (ah (qv 1) aa)))) (λ_ _ _ _=>(aD (i:=0))) (λ_ _ _ _=>(aO (bc (K:=K)) (qv 1) (qv 0)))))
   (ak (bb (br (K:=K) (qv 3) (ah (bB (ah (qv 4) (ah (bq (mX (K:=K)) (by rfl) T.cq cy (ah (qv 2) aa)) aa))) aa))))) aG))))
   (ak (aw (bB (ah (qv 2) (ah (qv 3) aa)))))))),?_⟩
  dsimp only[st0];nofun;refine aJ (Q6 ta) ?_;rw[GF,hpl];nofun;refine⟨rss.length,rfl,by lia,λo0 ho0=>?_⟩;rw[kv];have er:((GO rss.length).map λi=>0+i)=GO rss.length:=by simp
  rw[er];obtain⟨H1,e9,s1,to0⟩:=nwR ho0 (.lst (NV (GO rss.length)));rw[e9];nofun;refine⟨aE (by simp),λst hst=>?_⟩;have hstn:H st=none:=s1.free hst;have h0s:o0≠st:=aq to0 hst;obtain⟨H2,e9,s2,e8,(tst:H2 st=some (.lst (([]:List Addr).map Rb)))⟩:=nwD s1 hst (.lst []);rw[e9];have to2:=e8 _ _ to0;nofun;refine⟨a,ps,rss,w,rfl,s2 _ _ ta,hpl,(λp hp=>by obtain⟨zs,h,e⟩:=hcols p hp;exact⟨zs,h.elim (λh=>.inl (s2 _ _ h)) (λh=>.inr (s2 _ _ h)),e⟩),?_⟩;rw[<-eM];nofun;refine⟨_,rfl,by lia,d6 (n:=(dB rss w b).length) (λi σ H'=>Same H H'/\(∃(o:Addr) (os:List Nat) (qs:List Addr),H' o=some (.lst (NV os))/\os.Perm (GO rss.length)/\os.Pairwise (Rk rss ((dB rss w b).length - i))/\H o=none/\o≠st/\H' st=some (.lst (qs.map Rb))/\qs.length<=i/\StepsL H' st qs/\∃v w,σ=[some (Rb a),some (Q8 b),some (Rb o),some (Rb st),v,w])) ⟨s2,o0,_,[],to2,IX _,lP hMr,ho0,h0s,tst,GJ _,(λq h=>nomatch h),_,_,rfl⟩ (λi σ H' hi _=>hi) (λσ H' _=>GJ _) ?_ ?_⟩
  ·rintro i x σ H3o H3 hi ⟨s3,o,os,qs,to3,hP,hW,hon,hos,ts3,hsl,hS,v,w',rfl⟩ ⟨rfl,rfl⟩
   have hosl:os.length=rss.length:=by have:=hP.length_eq;simpa using this
   have hcm:(dB rss w b).length - 1 - i<(dB rss w b).length:=by lia
   have ec1:(dB rss w b).length - i=(dB rss w b).length - 1 - i+1:=by lia
   have ec2:(dB rss w b).length - (i+1)=(dB rss w b).length - 1 - i:=by lia
   rw[ec1]at hW;rw[ec2];generalize (dB rss w b).length - 1 - i=c at hcm hW;have hcw:c<w:=by lia
   have hrow:=ky (os:=os) (xs:=cT rss c) (by rw[tK];exact hP);nofun;refine⟨o,rfl,⟨_,Q6 to3⟩,aX (a:=o) (vs:=NV os) (λi ys σ H'=>H'=H3/\i<=os.length/\ys=NV ((os.map λp=>(cT rss c).getD p 0).take i)/\∃v,σ=[v,some (Rb a),some (Q8 c)]) (by rw[aB];exact au ⋯) (λi ys σ H' h=>by rw[h.2.2.1,aB,G5,GF];lia) (λi ys σ H' h=>by rw[h.1];exact Q6 to3) ⟨rfl,GW _,rfl,none,rfl⟩ ?_ ?_⟩
   ·rintro j ys σ H' x hx ⟨rfl,_,rfl,v,rfl⟩
    have hil:=bj hx;obtain⟨q,rfl,hq,hqm,hj⟩:=aF hx;have hqn:q<rss.length:=by simpa using hP.mem_iff.mp hqm
    have hqp:q<ps.length:=by lia
    have er:rss[q]? = some rss[q]:=by simp[hqn]
    obtain⟨g1,g2⟩:=tJ hG er hcw;nofun;refine bx (Q6 (s3 _ _ ta)) (v:=Rb ps[q]) (ba (by rw[GK];simp[hqp])) ?_;nofun;refine qT (Q7 (s3 _ _ (hR.2 q ps[q] _ (by simp[hqp]) er))) (kr rfl g1) ?_;refine Rf hil ⟨rfl,hj,?_,_,rfl⟩;rw[cB,G4,GK,hq];show _=NV (_++[(cT rss c).getD q 0])
    rw[getD_some g2]
   rintro ys σ H' ⟨rfl,_,rfl,v,rfl⟩ z hz;rw[GN (by rw[aB,GF];exact GJ _)];have hrl:(os.map λp=>(cT rss c).getD p 0).length=rss.length:=by rw[GF];exact hosl
   have hrb:∀x∈os.map λp=>(cT rss c).getD p 0,x<b:=λx hx=>oU hG hcw x (hrow.mem_iff.mp hx)
   have ecn:cnt (os.map λp=>(cT rss c).getD p 0) b=cnt (cT rss c) b:=vm hrow;have hstep:∀ob,ByF (os.map λp=>(cT rss c).getD p 0) ob->(cmp os ob).Pairwise (Rk rss c):=λob hB=>vo hwl hcw hP hW hB
   generalize (os.map λp=>(cT rss c).getD p 0)=row at hrl hrb ecn hstep;obtain⟨H4,e9,s34,tz⟩:=nwR hz (.lst (NV row));rw[e9];nofun;refine⟨z,row,b,rfl,⟨tz,trivial⟩,hrb,by lia,hb,λcc H5 hcc s5 tcc=>?_⟩;nofun;refine⟨cc,cnt row b,rfl,.inl tcc,by rw[bU];exact hb,λH6 s6=>?_⟩;have s36:=s34.trans (s5.trans s6);have tz6:=s6 _ _ (s5 _ _ tz);rw[ecn];nofun;by_cases hp:fZ (cnt (cT rss c) b)=true
   ·rw[if_pos hp]
    nofun;refine⟨z,row,b,rfl,tz6,hrb,by lia,hb,λd ob H7 hd0 s7 td hB=>?_⟩;have hO:=hB.ord;rw[hrl]at hO;have s37:=s36.trans s7;have to7:=s37 _ _ to3;nofun;refine⟨d,rfl,⟨_,Q6 td⟩,aX (a:=d) (vs:=NV ob) (λi ys σ H'=>H'=H7/\i<=ob.length/\ys=NV ((cmp os ob).take i)/\∃v,σ=[v,some (Rb o)]) (by rw[aB,hO.len];exact au ⋯) (λi ys σ H' h=>by rw[h.2.2.1,aB,G5,gB];lia) (λi ys σ H' h=>by rw[h.1];exact Q6 td) ⟨rfl,GW _,rfl,none,rfl⟩ ?_ ?_⟩
    ·rintro j ys σ H9 x hx ⟨rfl,_,rfl,v,rfl⟩
     have hil:=bj hx;obtain⟨q,rfl,hq,hqm,hj⟩:=aF hx;have hqn:=hO.lt q hqm;have hqo:q<os.length:=by lia
     nofun;refine bx (Q6 to7) (kr rfl (o:=os[q]) (by simp[hqo])) ?_;refine Rf hil ⟨rfl,hj,?_,_,rfl⟩;rw[cB,G4,mZ hq (r:=os[q]) (by simp[hqo])];rfl
    rintro ys σ H9 ⟨rfl,_,rfl,v,rfl⟩ y hy;rw[GN (by rw[aB,gB];exact GJ _)];have hP2:(cmp os ob).Perm (GO rss.length):=by
     have h1:=ky (os:=ob) (xs:=os) (by rw[hosl];exact hO.perm);exact h1.trans hP
    have hyn:H y=none:=s3.free (s37.free hy);have hys:y≠st:=λe=>by have:=s37 _ _ ts3;rw[<-e,hy]at this;cases this
    obtain⟨H8,e9,s8,ty⟩:=nwR hy (.lst (NV (cmp os ob)));rw[e9];have s38:=s37.trans s8;have ts8:=s38 _ _ ts3;nofun;refine⟨a9 ts8,?_⟩;nofun;refine iQ (.inl (Q6 ty)) λl2 hl2=>?_
    obtain⟨HA,e9,sA,tl2⟩:=nwR hl2 (.lst (NV (cmp os ob)));rw[e9];have hl2s:l2≠st:=λe=>by rw[e,ts8]at hl2;cases hl2
    nofun;refine⟨aE (by simp),λtq htq=>?_⟩;obtain⟨HB,e9,sB,ttq⟩:=nwR htq (.tup [Q8 (c:Nat),Rb l2]);rw[e9];have s3B:=s38.trans (sA.trans sB);have tsB:=s3B _ _ ts3;nofun;refine aW tsB (by rw[GF];exact au ⋯) ?_;refine⟨(s3.trans s3B).own hstn,y,cmp os ob,qs++[tq],by rw[ar hys];exact sB _ _ (sA _ _ ty),hP2,hstep ob hB,hyn,hys,by rw[af,GP];rfl,by rw[GY];exact J8 hsl,((hS.same s3B).snoc ttq (sB _ _ tl2) hl2s).own tsB,_,_,rfl⟩
   ·rw[if_neg hp]
    nofun;exact⟨s3.trans s36,o,os,qs,s36 _ _ to3,hP,vp hwl (oU hG hcw) hcw hP hW hp,hon,hos,s36 _ _ ts3,by lia,hS.same s36,_,_,rfl⟩
  ·rintro σ H3 ⟨s3,o,os,qs,to3,hP,hW,hon,hos,ts3,hsl,hS,v,w',rfl⟩
   rw[JB]at hW;nofun;refine⟨aE (by simp),λt ht=>?_⟩;exact k t o st qs os _ af (by rw[ar (aq to3 ht)];exact to3) ⟨hP,hW⟩ (by rw[ar (aq ts3 ht)];exact ts3) (hS.same ((Rc H3).new ht)) ⋯ (s3.free ht) hon (s3.new ht)
def zj:Sp:=λvs H Q _=>∃(f c:Nat) (a:Addr) (cs:List Nat),vs=[.int f,.ref a,.int c]/\H a=some (.lst (NV cs))/\cs.length<=64/\∀(l:Addr) (qs:List Addr) H',H l=none->Same H H'->H' l=some (.lst (qs.map Rb))->TrAt H' qs (bM f cs c)->Q (.ref l) H'
theorem nC{f:Nat}{cs:List Nat}(h:i<cs.length):(bM f cs c).take (i+1)=(bM f cs c).take i++[(f+(cs.take i).sum,f+(cs.take i).sum+cs.getD i 0,c)]:=by
 unfold bM;rw[G4,GK,Ir h];rfl
theorem j2(f c:Nat)(cs:List Nat):(bM f cs c).length=cs.length:=by unfold bM;simp
theorem nD (T:Tx K mg t):FnOk P t.wd K mg t.bs CX0 2 (t.f 5) (t.d 5) ["first","often","column"] zj:=by
 refine okT (N:=["first","often","column"]) (T.fn 5 rfl) (λH Q hr nd h=>?_)
 ·obtain⟨f,c,a,cs,rfl,ta,hcl,k⟩:=h
  refine⟨_,(ak (aw (a0 (N:=["begin","many","first","column"]) (tgs:=["begin","many"]) (frs:=["first","column"]) (ix:=[0,2]) ⟨rfl,by decide +kernel,rfl,by decide +kernel,rfl,rfl,⟨⟨rfl,rfl,_,rfl,rfl⟩,⟨rfl,rfl,_,rfl,rfl⟩,GR⟩,⟨rfl,rfl,GR⟩,rfl⟩ rfl (rq (K:=K) rfl T.nO (ah (aC (mh T) hr (T.fn 1 rfl) (ah (qv 1) aa)) (ah (qv 1) aa))) (λ_ _ _ _=>(bF (K:=K) (n:=2) rfl (av (aD (i:=0)) (av (aD (i:=1)) aY)))) (λ_ _ _ _=>(bB (ah (aI cV (qv 2) (qv 0)) (ah (aI cV (aI cV (qv 2) (qv 0)) (qv 1)) (ah (qv 3) aa)))))))),?_⟩;dsimp only[st0];nofun;refine⟨a,cs,rfl,⟨ta,trivial⟩,hcl,λd H1 hd s1 td=>?_⟩;have ta1:=s1 _ _ ta;nofun;refine⟨d,a,rfl,⟨_,Q6 td⟩,⟨_,Q6 ta1⟩,iB (n:=cs.length) (λi ys σ H'=>Same H1 H'/\(∃qs:List Addr,ys=qs.map Rb/\qs.length=i/\TrAt H' qs ((bM f cs c).take i))/\∃v w,σ=[v,w,some (Q8 f),some (Q8 c)]) (au ⋯) (λi ys σ H' h=>by obtain⟨_,⟨qs,rfl,e,_⟩,_⟩:=h;rw[GF,e]) ⟨Rc _,⟨[],rfl,rfl,rfl,λi q s h=>by simp at h⟩,none,none,rfl⟩ ?_ ?_ ?_ ?_⟩
  ·rintro i ys σ H2 hi ⟨s2,_⟩
   exact⟨_,_,Q8 ((cs.take i).sum:Nat),Q8 (cs[i]:Nat),Q6 (s2 _ _ td),Q6 (s2 _ _ ta1),dh (iF hi),dh (by simp[hi])⟩
  ·rintro ys σ H2 ⟨s2,_⟩
   exact⟨_,_,Q6 (s2 _ _ td),Q6 (s2 _ _ ta1),.inl (by rw[aB,iE];exact GJ _)⟩
  ·rintro i x ys σ H2 H3 hi ⟨s2,⟨qs,rfl,hql,hQ⟩,v,w,rfl⟩ ⟨p,x1,y1,rfl,hp,rfl,hx1,hy1⟩
   have hx2:=hx1 _ (Q6 (s2 _ _ td));have hy2:=hy1 _ (Q6 (s2 _ _ ta1));rw[dh (iF hi)]at hx2;rw[dh (o:=cs[i]) (by simp[hi])]at hy2;obtain rfl:=G9 hx2;obtain rfl:=G9 hy2;refine bf af ?_;dsimp only[HM];have s3:=s2.new (o:=.tup [Q8 ((cs.take i).sum:Nat),Q8 (cs[i]:Nat)]) hp;have Q3:=hQ.same ((Rc H2).new (o:=.tup [Q8 ((cs.take i).sum:Nat),Q8 (cs[i]:Nat)]) hp);generalize upd H2 p (.tup [Q8 ((cs.take i).sum:Nat),Q8 (cs[i]:Nat)])=H3 at s3 Q3;have e1:(f:Int)+((cs.take i).sum:Nat)=((f+(cs.take i).sum:Nat):Int):=by lia
   have eg:cs.getD i 0=cs[i]:=by rw[GG,GE hi];rfl
   have e2:((f+(cs.take i).sum:Nat):Int)+(cs[i]:Nat)=((f+(cs.take i).sum+cs[i]:Nat):Int):=by lia
   nofun;rw[e1,e2];refine⟨aE (by simp),λt ht=>?_⟩;refine Rf hi ⟨s3.new ht,⟨qs++[t],by rw[GP];rfl,by simp[hql],?_⟩,_,_,rfl⟩;rw[nC hi,eg];exact(Q3.same ((Rc _).new ht)).snoc af
  ·rintro ys σ H2 ⟨s2,⟨qs,rfl,hql,hQ⟩,v,w,rfl⟩ l hl
   rw[GN (by rw[j2];exact GJ _)]at hQ;exact k l qs _ (s1.free (s2.free hl)) ((s1.trans s2).new hl) af (hQ.same ((Rc H2).new hl))
def wb:Sp:=λvs H Q _=>∃(a:Addr) (rss:List (List Nat)) (w b:Nat),vs=[.ref a,.int b]/\Rws H a rss w b/\
 ∀(t o st:Addr) (zs:List Addr) (os:List Nat) (sts:List dJ) H',sts.length<=60->H' t=some (.tup [.ref o,.ref st])->H' o=some (.lst (NV os))->OrdR rss os->H' st=some (.lst (zs.map Rb))->TrAt H' zs sts->H t=none->H o=none->Same H H'->Q (.ref t) H'
theorem gn (T:Tx K mg t):FnOk P t.wd K mg t.bs CX0 3 (t.f 6) (t.d 6) ["rows","base"] wb:=by
 refine okT (N:=["rows","base","order","steps","columns","waiting","first","last","column","stretch","row","often"]) (T.fn 6 rfl) (λH Q hr nd h=>?_)
 ·obtain⟨a,rss,w,b,rfl,⟨⟨ps,hta,hR⟩,hG,hn,hw,hb⟩,k⟩:=h
  have hpl:ps.length=rss.length:=hR.1;have hwl:∀r∈rss,r.length=w:=λr hr=>(hG r hr).1
  have ta:=hta
  ·refine⟨_,(ae (aH (i:=2) (iC rfl rfl T.cq rfl T.cz (ah (ag (aU (K:=K)) (by rfl) T.bz aP (ah (qv 0) aa)) aa)))
   (ae (aH (i:=3) (aQ aa))
   (ae (aH (i:=4) (aC (eD T) hr (T.fn 2 rfl) (ah (qv 0) aa)))
   (ae (aH (i:=5) (aQ (ah (bB (ah aj (ah (ag (aU (K:=K)) (by rfl) T.bz aP (ah (qv 0) aa)) (ah aj aa)))) aa)))
   (ae (cF Hb (fW (K:=K) (qv 5)) (ae (df (iY (K:=K) (qv 5)) (bF (K:=K) (n:=3) rfl (av (aD (i:=6)) (av (aD (i:=7)) (av (aD (i:=8)) aY)))))
   (ae (aT (Re (gz (az n8 (aI dM (qv 7) (qv 6)) aj (ax _)) (dX (az eV (qv 8) (qv 4) (ax _))))) (ak yJ) aG)
   (ae (aH (i:=9) (c0 (lE (K:=K)) (qv 2) (cx (qv 6)) (cx (qv 7))))
   (ae (ko (i:=10) (N:=["place","rows","column"]) (tgs:=["place"]) (frs:=["rows","column"]) (ix:=[0,8])  nd rfl (JU rfl) ⟨rfl,by decide +kernel,rfl,by decide +kernel,rfl,rfl,⟨⟨rfl,rfl,_,rfl,rfl⟩,⟨rfl,rfl,_,rfl,rfl⟩,GR⟩,⟨rfl,rfl,GR⟩,rfl⟩ rfl (aS (K:=K) (qv 9)) (λ_ _ _ _=>(aD (i:=0))) (λ_ _ _ _=>(aO (ie (K:=K)) (aO (bc (K:=K)) (qv 1) (qv 0)) (qv 2))))
   (ae (aH (i:=11) (aC (jk T) hr (T.fn 0 rfl) (ah (qv 10) (ah (qv 1) aa))))
   (ae (aT (bE (aC (gW T) hr (T.fn 3 rfl) (ah (qv 11) aa))) (ae (wZ (a0 (N:=["at","stretch"]) (tgs:=["at"]) (frs:=["stretch"]) (ix:=[9]) ⟨rfl,by decide +kernel,rfl,by decide +kernel,rfl,rfl,⟨⟨rfl,rfl,_,rfl,rfl⟩,GR⟩,⟨rfl,GR⟩,rfl⟩ rfl (aS (K:=K) (aC (dw T) hr (T.fn 4 rfl) (ah (qv 10) (ah (qv 1) aa)))) (λ_ _ _ _=>(aD (i:=0))) (λ_ _ _ _=>(aO (bc (K:=K)) (qv 1) (qv 0)))) (qv 2) (qv 6) (qv 7))
   (ak (bb (br (K:=K) (qv 3) (ah (bB (ah (qv 6) (ah (qv 7) (ah (qv 8) aa)))) aa))))) aG)
   (ak (bb (iZ (K:=K) (qv 5) (ah (rg (K:=K) (aC (nD T) hr (T.fn 5 rfl) (ah (qv 6) (ah (qv 11) (ah (aI cV (qv 8) aj) aa))))) aa)))))))))))
   (ak (aw (bB (ah (qv 2) (ah (qv 3) aa)))))))))),?_⟩
   dsimp only[st0];nofun;refine aJ (Q6 ta) ?_;rw[GF,hpl];nofun;refine⟨rss.length,rfl,by lia,λo ho=>?_⟩;rw[kv];have er:((GO rss.length).map λi=>0+i)=GO rss.length:=by simp
   rw[er];obtain⟨H1,e9,s1,to0⟩:=nwR ho (.lst (NV (GO rss.length)));rw[e9];nofun;refine⟨aE (by simp),λst hst=>?_⟩;have hstn:H st=none:=s1.free hst;have h0s:o≠st:=aq to0 hst;obtain⟨H2,e9,s2,e8,tst⟩:=nwD s1 hst (.lst []);rw[e9];have to2:=e8 _ _ to0;nofun;refine⟨a,ps,rss,w,rfl,s2 _ _ ta,hpl,(λp hp=>by
    have h0:0<rss.length:=by rw[<-hpl];exact bj hp
    exact⟨_,.inr (s2 _ _ (hR.2 0 p _ hp (GE h0))),by rw[aB];exact(hG rss[0] (GV h0)).1⟩),?_⟩
   have hC:∀r∈rss,r.length=(if rss=[]then 0 else w):=λr hr=>by rw[if_neg (λz=>by rw[z]at hr;cases hr)];exact hwl r hr
   have hCw:(if rss=[]then 0 else w)<=w:=by split<;>lia
   generalize (if rss=[]then 0 else w)=C at hC hCw k;nofun;refine aJ (Q6 (s2 _ _ ta)) ?_;rw[GF,hpl];nofun;refine⟨aE (by simp),λt0 ht0=>?_⟩;obtain⟨H3,e9,s3,e8,(tt0:H3 t0=some (.tup [Q8 ((0:Nat):Int),Q8 (rss.length:Nat),Q8 ((0:Nat):Int)]))⟩:=nwD s2 ht0 (.tup [Q8 0,Q8 (rss.length:Nat),Q8 0]);rw[e9];have to3:=e8 _ _ to2;have ts3:=e8 _ _ tst;nofun;refine⟨aE (by simp),λwl hwl0=>?_⟩;have hwn:H wl=none:=s3.free hwl0;have how:o≠wl:=aq to3 hwl0;have hsw:st≠wl:=aq ts3 hwl0;have s4:=s3.new (o:=.lst [Rb t0]) hwl0;have to4:(upd H3 wl (.lst [Rb t0])) o=some (.lst (NV (GO rss.length))):=by rw[ar how];exact to3
   have ts4:(upd H3 wl (.lst [Rb t0])) st=some (.lst []):=by rw[ar hsw];exact ts3
   have tw4:(upd H3 wl (.lst [Rb t0])) wl=some (.lst ([t0].map Rb)):=af;have T4:TrAt (upd H3 wl (.lst [Rb t0])) [t0] [(0,rss.length,0)]:=by
    refine⟨rfl,λi q s a b=>?_⟩
    match i,a,b with
    | 0,a,b=>cases a;cases b;rw[ar (aq tt0 hwl0)];exact tt0
    | i+1,a,_=>simp at a
   generalize upd H3 wl (.lst [Rb t0])=H4 at s4 to4 ts4 tw4 T4;nofun;refine⟨λm σ H'=>∃(ws:List dJ) (qs:List Addr) (os:List Nat) (zs:List Addr),m=kD b C ws/\Same H H'/\H' o=some (.lst (NV os))/\H' st=some (.lst (zs.map Rb))/\H' wl=some (.lst (qs.map Rb))/\TrAt H' qs ws/\Msd rss C os ws/\Low b ws/\zs.length+f9 ws<=60/\(∃sts,TrAt H' zs sts)/\∃v6 v7 v8 v9 va vb,σ=[some (Rb a),some (Q8 b),some (Rb o),some (Rb st),some (Q8 C),some (Rb wl),v6,v7,v8,v9,va,vb],⟨_,_,_,_,[],rfl,s4,to4,ts4,tw4,T4,Msd.start rss C,(λi s e=>?_),?_,⟨[],rfl,λi q s h=>by simp at h⟩,_,_,_,_,_,_,rfl⟩,?_⟩
   ·match i,e with
    | 0,_=>exact GW _
    | i+1,e=>simp at e
   ·show 0+(rss.length - 0 - 1+0)<=60
    lia
   rintro m σ H5 ⟨ws,qs,os,zs,rfl,s5,to5,ts5,tw5,T5,M5,L5,ph5,⟨sts,TZ5⟩,v6,v7,v8,v9,va,vb,rfl⟩;nofun;refine⟨_,CY (Q6 tw5),?_⟩;by_cases hq0:qs=[]
   ·have hw0:ws=[]:=HZ.mp (by rw[<-T5.1,hq0];rfl)
    subst hq0 hw0;rw[if_neg (by simp)];nofun;refine⟨aE (by simp),λt ht=>?_⟩;exact k t o st zs os sts _ (by rw[<-TZ5.1];lia) af (by rw[ar (aq to5 ht)];exact to5) ⟨M5.perm,M5.done⟩ (by rw[ar (aq ts5 ht)];exact ts5) (TZ5.same ((Rc H5).new ht)) (s5.free ht) ho (s5.new ht)
   obtain⟨rs,q,vs,⟨f,l,c⟩,rfl,rfl,Tr,tq⟩:=T5.last hq0;have tq:H5 q=some (.tup [.int (f:Nat),.int (l:Nat),.int (c:Nat)]):=tq;have hne:(!((rs++[q]).map Rb).isEmpty)=true:=by simp
   rw[if_pos hne];refine⟨_,λ_ _ z=>z,?_⟩;nofun;refine⟨a9 tw5,?_⟩;rw[GP]at tw5;refine i5 tw5 ?_;have s6:=s5.own (o:=.lst (rs.map Rb)) hwn;have to6:(upd H5 wl (.lst (rs.map Rb))) o=some (.lst (NV os)):=by rw[ar how];exact to5
   have ts6:(upd H5 wl (.lst (rs.map Rb))) st=some (.lst (zs.map Rb)):=by rw[ar hsw];exact ts5
   have TZ6:TrAt (upd H5 wl (.lst (rs.map Rb))) zs sts:=TZ5.own tw5;have tw6:(upd H5 wl (.lst (rs.map Rb))) wl=some (.lst (rs.map Rb)):=af;have T6:TrAt (upd H5 wl (.lst (rs.map Rb))) rs vs:=Tr.own tw5;have tq6:(upd H5 wl (.lst (rs.map Rb))) q=some (.tup [.int (f:Nat),.int (l:Nat),.int (c:Nat)]):=by rw[ar (bw tq tw5 (by intro c;cases c))];exact tq
   generalize upd H5 wl (.lst (rs.map Rb))=H6 at s6 to6 ts6 tw6 T6 tq6 TZ6;refine eY tq6 ?_;dsimp only[HM];have hok:f<=l/\l<=rss.length/\c<=C:=M5.ok (f,l,c) (GT _ (G0.mpr rfl));obtain⟨hfl,hln,hcC⟩:=hok;have hosl:os.length=rss.length:=by have:=M5.perm.length_eq;simpa using this
   rw[m8]at ph5;have ph5:zs.length+(f9 vs+(l - f - 1))<=60:=ph5;nofun;refine aV (λg1=>?_) (λg1=>?_)
   ·nofun
    exact⟨_,oG b C vs (f,l,c),vs,rs,os,zs,rfl,s6,to6,ts6,tw6,T6,M5.skip hC (.inl ⋯),L5.left,by lia,⟨sts,TZ6⟩,_,_,_,_,_,_,rfl⟩
   nofun;refine aV (λg2=>?_) (λg2=>?_)
   ·have ecC:c=C:=Pf (Q8.inj g2)
    nofun;exact⟨_,oG b C vs (f,l,c),vs,rs,os,zs,rfl,s6,to6,ts6,tw6,T6,M5.skip hC (.inr ecC),L5.left,by lia,⟨sts,TZ6⟩,_,_,_,_,_,_,rfl⟩
   have hcC':c<C:=by
    have:c≠C:=λz=>g2 (by rw[z])
    lia
   have hcw:c<w:=by lia
   nofun;refine⟨_,rfl,?_⟩;nofun;refine⟨_,rfl,?_⟩;refine⟨o,_,rfl,Q6 to6,λz hz=>?_⟩;rw[rR os hfl ⋯];have hsl:((os.drop f).take (l - f)).length=l - f:=by rw[G5,Hm];lia
   have hsm:∀x∈(os.drop f).take (l - f),x<rss.length:=λx hx=>by simpa using M5.perm.mem_iff.mp (Nc (Kc hx))
   have hstep:=λob hB=>M5.step (ob:=ob) hC hcC' (oU hG hcw) hB
   have hback:os.take f++(os.drop f).take (l - f)++os.drop l=os:=by
    have e1:os.drop l=(os.drop f).drop (l - f):=by rw[Ky];congr 1;lia
    rw[e1,HV,II,II]
   generalize (os.drop f).take (l - f)=seg at hsl hsm hstep hback;obtain⟨H7,e9,s67,tz⟩:=nwR hz (.lst (NV seg));rw[e9];nofun;refine⟨z,rfl,⟨_,Q6 tz⟩,aX (a:=z) (vs:=NV seg) (λi ys σ H'=>H'=H7/\i<=seg.length/\ys=NV ((seg.map λp=>(cT rss c).getD p 0).take i)/\∃v,σ=[v,some (Rb a),some (Q8 c)]) (by rw[aB];exact au ⋯) (λi ys σ H' h=>by rw[h.2.2.1,aB,G5,GF];lia) (λi ys σ H' h=>by rw[h.1];exact Q6 tz) ⟨rfl,GW _,rfl,none,rfl⟩ ?_ ?_⟩
   ·rintro j ys σ H' x hx ⟨rfl,_,rfl,v,rfl⟩
    have hil:=bj hx;obtain⟨q,rfl,hq,hqm,hj⟩:=aF hx;have hqn:=hsm q hqm;have hqp:q<ps.length:=by lia
    have er:rss[q]? = some rss[q]:=by simp[hqn]
    obtain⟨g3,g4⟩:=tJ hG er hcw;nofun;refine bx (Q6 (s67 _ _ (s6 _ _ ta))) (v:=Rb ps[q]) (ba (by rw[GK];simp[hqp])) ?_;nofun;refine qT (Q7 ((hR.same (s6.trans s67)).2 q ps[q] _ (by simp[hqp]) er)) (kr rfl g3) ?_;refine Rf hil ⟨rfl,hj,?_,_,rfl⟩;rw[cB,G4,GK,hq];show _=NV (_++[(cT rss c).getD q 0])
    rw[getD_some g4]
   rintro ys σ H' ⟨rfl,_,rfl,v,rfl⟩ y hy;rw[GN (by rw[aB,GF];exact GJ _)];have hrl:(seg.map λp=>(cT rss c).getD p 0).length=l - f:=by rw[GF];exact hsl
   have hrb:∀x∈seg.map λp=>(cT rss c).getD p 0,x<b:=λx hx=>by
    obtain⟨p,hp,rfl⟩:=Hk.mp hx;have hp':p<(cT rss c).length:=by rw[tK];exact hsm p hp
    rw[GG,GE hp'];exact oU hG hcw _ (GV hp')
   generalize (seg.map λp=>(cT rss c).getD p 0)=row at hrl hrb hstep;obtain⟨H8,e9,s78,ty⟩:=nwR hy (.lst (NV row));rw[e9];nofun;refine⟨y,row,b,rfl,⟨ty,trivial⟩,hrb,by lia,hb,λcc H9 hcc s9 tcc=>?_⟩;nofun;refine⟨cc,cnt row b,rfl,.inl tcc,by rw[bU];exact hb,λHA sA=>?_⟩;have s6A:=s67.trans (s78.trans (s9.trans sA));have toA:=s6A _ _ to6;have tsA:=s6A _ _ ts6;have twA:=s6A _ _ tw6;have TA:=T6.same s6A;have TZA:=TZ6.same s6A;have tyA:=sA _ _ (s9 _ _ ty);have tccA:=sA _ _ tcc;have tzA:=(s78.trans (s9.trans sA)) _ _ tz;have s0A:=s6.trans s6A;have hcco:cc≠o:=λz=>by rw[z]at hcc;rw[(s67.trans s78) _ _ to6]at hcc;cases hcc
   have hccs:cc≠st:=λz=>by rw[z]at hcc;rw[(s67.trans s78) _ _ ts6]at hcc;cases hcc
   have hcsum:(cnt row b).sum=l - f:=by rw[yH hrb];exact hrl
   have hpar:=lQ vs f (c+1) (cnt row b);have hpp0:0<(lL (cnt row b)).length:=by
    rcases JI (lL (cnt row b)).length with g|g
    ·have:=kE (cnt row b)
     have h0:((cnt row b).map λc=>c - 1).sum=0:=by
      have:∀c∈cnt row b,c - 1=0:=λc hc=>by
       have hn0:c∉lL (cnt row b):=λz=>by rw[HZ.mp g]at z;cases z
       unfold lL at hn0;rw[K0]at hn0;have:¬ 0<c:=λz=>hn0 ⟨hc,decide_eq_true z⟩
       lia
      rw[i6 0 _ this];lia
     lia
    ·exact g
   nofun;apply CZ (α:=List Nat) (S:=λob HD=>ByF row ob/\Same H HD/\HD o=some (.lst (NV (os.take f++cmp seg ob++os.drop l)))/\(∃zs':List Addr,HD st=some (.lst (zs'.map Rb))/\zs'.length+f9 (vs++(bM f (cnt row b) (c+1)).reverse)<=60/\∃sts',TrAt HD zs' sts')/\HD wl=some (.lst (rs.map Rb))/\TrAt HD rs vs/\HD cc=some (.lst (NV (cnt row b))));case hA=>
    intro key;by_cases hp:fZ (cnt row b)=true
    ·rw[if_pos hp]
     nofun;refine⟨y,row,b,rfl,tyA,hrb,by lia,hb,λd ob HB hd0 sB td hB=>?_⟩;have hO:=hB.ord;rw[hrl]at hO;have tzB:=sB _ _ tzA;nofun;refine⟨d,rfl,⟨_,Q6 td⟩,aX (a:=d) (vs:=NV ob) (λi ys σ H'=>H'=HB/\i<=ob.length/\ys=NV ((cmp seg ob).take i)/\∃v,σ=[v,some (Rb z)]) (by rw[aB,hO.len];exact au ⋯) (λi ys σ H' h=>by rw[h.2.2.1,aB,G5,gB];lia) (λi ys σ H' h=>by rw[h.1];exact Q6 td) ⟨rfl,GW _,rfl,none,rfl⟩ ?_ ?_⟩
     ·rintro j ys σ H9' x hx ⟨rfl,_,rfl,v,rfl⟩
      have hil:=bj hx;obtain⟨q,rfl,hq,hqm,hj⟩:=aF hx;have hqn:=hO.lt q hqm;have hqo:q<seg.length:=by lia
      nofun;refine bx (Q6 tzB) (kr rfl (o:=seg[q]) (by simp[hqo])) ?_;refine Rf hil ⟨rfl,hj,?_,_,rfl⟩;rw[cB,G4,mZ hq (r:=seg[q]) (by simp[hqo])];rfl
     rintro ys σ HB' ⟨eB,_,rfl,v,rfl⟩ e he;subst eB;rw[GN (by rw[aB,gB];exact GJ _)];have hcl:(cmp seg ob).length=l - f:=by rw[gB,hO.len]
     obtain⟨HC,e9,sC,te⟩:=nwR he (.lst (NV (cmp seg ob)));rw[e9];have hoe:o≠e:=aq (sB _ _ toA) he;have sAC:=sB.trans sC;nofun;refine⟨o,e,_,_,_,_,rfl,rfl,rfl,rfl,sAC _ _ toA,te,hoe,by lia,by lia,by rw[aB];lia,aE (by rw[aB,aB];lia),?_⟩;have espl:(NV os).take ((f:Nat):Int).toNat++NV (cmp seg ob)++(NV os).drop ((l:Nat):Int).toNat=NV (os.take f++cmp seg ob++os.drop l):=by
      rw[Ih,Ih];unfold NV;rw[GP,GP,Ki,Kj]
     rw[espl];have sD:=(s0A.trans sAC).own (o:=.lst (NV (os.take f++cmp seg ob++os.drop l))) ho;have toD:(upd HC o (.lst (NV (os.take f++cmp seg ob++os.drop l)))) o=some (.lst (NV (os.take f++cmp seg ob++os.drop l))):=af;have tsD:(upd HC o (.lst (NV (os.take f++cmp seg ob++os.drop l)))) st=some (.lst (zs.map Rb)):=by rw[ar (Hl h0s)];exact sAC _ _ tsA
     have TZD:TrAt (upd HC o (.lst (NV (os.take f++cmp seg ob++os.drop l)))) zs sts:=(TZA.same sAC).own (sAC _ _ toA);have twD:(upd HC o (.lst (NV (os.take f++cmp seg ob++os.drop l)))) wl=some (.lst (rs.map Rb)):=by rw[ar (Hl how)];exact sAC _ _ twA
     have TD:TrAt (upd HC o (.lst (NV (os.take f++cmp seg ob++os.drop l)))) rs vs:=(TA.same sAC).own (sAC _ _ toA);have tcD:(upd HC o (.lst (NV (os.take f++cmp seg ob++os.drop l)))) cc=some (.lst (NV (cnt row b))):=by rw[ar hcco];exact sAC _ _ tccA
     generalize upd HC o (.lst (NV (os.take f++cmp seg ob++os.drop l)))=HD at sD toD tsD twD TD tcD TZD;nofun;refine⟨a9 tsD,?_⟩;nofun;refine⟨aE (by simp),λtq2 htq2=>?_⟩;obtain⟨HE,e9,sE,ttq2⟩:=nwR htq2 (.tup [Q8 (f:Nat),Q8 (l:Nat),Q8 (c:Nat)]);rw[e9];nofun;refine aW (sE _ _ tsD) (au (by rw[GF];lia)) ?_;rw[show zs.map Rb++[Rb tq2]=(zs++[tq2]).map Rb by rw[GP];rfl];have hpp:1<(lL (cnt row b)).length:=by unfold fZ at hp;exact of_decide_eq_true hp
     have q1:=(sD.trans sE).own (o:=.lst ((zs++[tq2]).map Rb)) hstn;have q2:(upd HE st (.lst ((zs++[tq2]).map Rb))) o=some (.lst (NV (os.take f++cmp seg ob++os.drop l))):=by rw[ar h0s];exact sE _ _ toD
     have q3:(upd HE st (.lst ((zs++[tq2]).map Rb))) st=some (.lst ((zs++[tq2]).map Rb)):=af;have q4:(upd HE st (.lst ((zs++[tq2]).map Rb))) wl=some (.lst (rs.map Rb)):=by rw[ar (Hl hsw)];exact sE _ _ twD
     have q5:TrAt (upd HE st (.lst ((zs++[tq2]).map Rb))) rs vs:=(TD.same sE).own (sE _ _ tsD);have q6:(upd HE st (.lst ((zs++[tq2]).map Rb))) cc=some (.lst (NV (cnt row b))):=by rw[ar hccs];exact sE _ _ tcD
     have q7:TrAt (upd HE st (.lst ((zs++[tq2]).map Rb))) (zs++[tq2]) (sts++[(f,l,c)]):=((TZD.same sE).snoc (s:=(f,l,c)) ttq2).own (sE _ _ tsD);generalize upd HE st (.lst ((zs++[tq2]).map Rb))=HF at q1 q2 q3 q4 q5 q6 q7;nofun;exact key ob HF ⟨hB,q1,q2,⟨_,q3,by rw[GY,Ie];lia,_,q7⟩,q4,q5,q6⟩
    ·rw[if_neg hp]
     obtain⟨ob,hob,hcb⟩:∃ob,ByF row ob/\cmp seg ob=seg:=⟨_,rP λx hx y hy=>jR hrb hp hx hy,rQ seg (by rw[hrl];exact hsl)⟩
     nofun;exact key ob HA ⟨hob,s0A,by rw[hcb,hback];exact toA,⟨zs,tsA,by lia,sts,TZA⟩,twA,TA,tccA⟩
   case hB=>
    rintro ob HD ⟨hob,sD,toD,⟨zs',tsD,phD,sts',TZD⟩,twD,TD,tcD⟩;refine⟨a9 twD,?_⟩;have ec1:(c:Int)+1=((c+1:Nat):Int):=by lia
    nofun;rw[ec1];refine⟨f,c+1,cc,cnt row b,rfl,tcD,by rw[bU];exact hb,λpl us HE hpl0 sE tpl TE=>?_⟩;nofun;refine⟨pl,_,rfl,Q6 tpl,λrv hrv=>?_⟩;have erv:(us.map Rb).reverse=us.reverse.map Rb:=(KR ..).symm;rw[erv];have sF:=sE.new (o:=.lst (us.reverse.map Rb)) hrv;have TF:=TE.same ((Rc HE).new (o:=.lst (us.reverse.map Rb)) hrv);have trv:(upd HE rv (.lst (us.reverse.map Rb))) rv=some (.lst (us.reverse.map Rb)):=af;generalize upd HE rv (.lst (us.reverse.map Rb))=HF at sF TF trv;have hlow:=L5.step (cs:=cnt row b) (bU row b);have hlen:=hlow.len (C:=C) (hstep ob hob).ok';have hul:us.length=b:=by rw[TF.1,j2,bU]
    have hrsl:rs.length+us.length<=12801:=by
     have e1:(vs++(bM f (cnt row b) (c+1)).reverse).length=rs.length+us.length:=by rw[GY,IF,<-TD.1,TF.1]
     have e2:b*C<=64*200:=Nat.mul_le_mul hb ⋯;lia
    nofun;refine i4 (sF _ _ twD) trv (IU (HR (by rw[GF,GF,IF];exact hrsl) (by decide))) ?_;rw[<-GP];refine⟨_,pN vs hcC' (bU row b),_,rs++us.reverse,_,zs',rfl,(sD.trans sF).own hwn,?_,?_,af,?_,hstep ob hob,hlow,phD,⟨sts',(TZD.same sF).own (sF _ _ twD)⟩,_,_,_,_,_,_,rfl⟩
    ·rw[ar how];exact sF _ _ toD
    ·rw[ar hsw];exact sF _ _ tsD
    ·exact((TD.same sF).app TF.rev).own (sF _ _ twD)
theorem EY{G:Prop}{S B:Hp->Prop}(hA:(∀H,S H->B H)->G)(hB:∀H,S H->B H):G:=hA hB
theorem Gr{G:Prop}{S1 B1 S2 B2:Hp->Prop}(hA:(∀H,S1 H->B1 H)->(∀H,S2 H->B2 H)->G)(h1:∀H,S1 H->B1 H)(h2:∀H,S2 H->B2 H):G:=hA h1 h2
def tS:Sp:=λvs H Q _=>∃(a c:Addr) (ps qs:List Addr) (r1 r2:List (List Nat)),vs=[.ref a,.ref c]/\H a=some (.lst (ps.map Rb))/\H c=some (.lst (qs.map Rb))/\RowsT H ps r1/\RowsT H qs r2/\ps.length+qs.length<=60/\
 ∀(l:Addr) (us:List Addr) (ws:List (Nat×Nat)) H',H l=none->Same H H'->H' l=some (.lst (us.map Rb))->PrAt H' us ws->ws.length=ps.length+qs.length->Mgd r1 r2 r1.length r2.length ws->Q (.ref l) H'
theorem _root_.L2.Mgd.le{r1 r2:List (List Nat)}{ws:List (Nat×Nat)}(h:Mgd r1 r2 i j ws):i<=r1.length/\j<=r2.length/\∀w∈ws,(w.1=0/\w.2<r1.length)\/(w.1=1/\w.2<r2.length):=by
 induction h with
 | nil=>exact⟨GW _,GW _,λw h=>nomatch h⟩
 | one h hi c ih=>exact⟨hi,ih.2.1,λw hw=>(Hc.mp hw).elim (ih.2.2 w) λg=>by rw[G0.mp g];exact .inl ⟨rfl,hi⟩⟩
 | two h hj c ih=>exact⟨ih.1,hj,λw hw=>(Hc.mp hw).elim (ih.2.2 w) λg=>by rw[G0.mp g];exact .inr ⟨rfl,hj⟩⟩
theorem tT (T:Tx K mg t):FnOk P t.wd K mg t.bs CX0 1 (t.f 15) (t.d 15) ["one","other"] tS:=by
 refine okT (N:=["one","other","both","at","beside"]) (T.fn 15 rfl) (λH Q hr nd h=>?_)
 ·obtain⟨a,c,ps,qs,r1,r2,rfl,ta,tc,hR1,hR2,hn,k⟩:=h
  have hl1:ps.length=r1.length:=hR1.1;have hl2:qs.length=r2.length:=hR2.1;refine⟨_,(ae (aH (i:=2) (aQ aa))
   (ae (df (bB (ah aj (ah aj aa))) (bF (K:=K) (n:=2) rfl (av (aD (i:=3)) (av (aD (i:=4)) aY))))
   (ae (cF Hb (Re (gz (az n8 (qv 3) (ag (aU (K:=K)) (by rfl) T.bz aP (ah (qv 0) aa)) (ax _)) (dX (az n8 (qv 4) (ag (aU (K:=K)) (by rfl) T.bz aP (ah (qv 1) aa)) (ax _))))) (ak (aT (Re (gz (az eV (qv 4) (ag (aU (K:=K)) (by rfl) T.bz aP (ah (qv 1) aa)) (ax _)) (dX (Re (nZ (az n8 (qv 3) (ag (aU (K:=K)) (by rfl) T.bz aP (ah (qv 0) aa)) (ax _)) (kn (az (BN (K:=K) hr.units0) (bq (cG (K:=K)) (by rfl) T.bu aZ (ah (aO (bc (K:=K)) (qv 0) (qv 3)) aa)) (bq (cG (K:=K)) (by rfl) T.bu aZ (ah (aO (bc (K:=K)) (qv 1) (qv 4)) aa)) (ax _)))))))) (ae (bb (br (K:=K) (qv 2) (ah (bB (ah aj (ah (qv 3) aa))) aa)))
   (ak (iS (i:=3) nd rfl (JU rfl) aj jO))) (ae (bb (br (K:=K) (qv 2) (ah (bB (ah aj (ah (qv 4) aa))) aa)))
   (ak (iS (i:=4) nd rfl (JU rfl) aj jO))))))
   (ak (aw (qv 2)))))),?_⟩
  dsimp only[st0];nofun;refine⟨aE (by simp),λl hbn=>?_⟩;obtain⟨H1,e9,s1,(tl:H1 l=some (.lst (([]:List Addr).map Rb)))⟩:=nwR hbn (.lst []);rw[e9];nofun;refine⟨aE (by simp),λz0 hz0=>?_⟩;obtain⟨H1,e9,s1,e8,tz0⟩:=nwD s1 hz0 (.tup [Q8 0,Q8 0]);rw[e9];have tl:=e8 _ _ tl;refine bf tz0 ?_;dsimp only[HM];nofun;refine⟨λm σ H'=>∃(us:List Addr) (ws:List (Nat×Nat)) (i j:Nat),m=(ps.length - i)+(qs.length - j)/\Same H H'/\H' l=some (.lst (us.map Rb))/\PrAt H' us ws/\ws.length=i+j/\Mgd r1 r2 i j ws/\σ=[some (Rb a),some (Rb c),some (Rb l),some (Q8 (i:Nat)),some (Q8 (j:Nat))],⟨_,[],[],0,0,rfl,s1,tl,PrAt.nil,rfl,Mgd.nil,rfl⟩,?_⟩;rintro m σ H3 ⟨us,ws,i,j,rfl,s3,tb3,hU,hwl,hM,rfl⟩;have hil:=hM.le.1;have hjl:=hM.le.2.1;have eI:∀z:Nat,(z:Int)+1=((z+1:Nat):Int):=λz=>by lia
  nofun;apply EY (S:=λHD=>HD=H3/\(i<ps.length\/j<qs.length));case hA=>
   intro key;refine aJ (Q6 (s3 _ _ ta)) ?_;rw[GF];nofun;refine aV (λg1=>?_) (λg1=>?_)
   ·skip
    nofun;refine⟨_,λ_ _ z=>z,?_⟩;generalize h9:H3=H9;exact key H9 ⟨h9.symm,.inl ⋯⟩
   nofun;refine aJ (Q6 (s3 _ _ tc)) ?_;rw[GF];nofun;refine aV (λg1'=>?_) (λg1'=>?_)
   ·skip
    nofun;refine⟨_,λ_ _ z=>z,?_⟩;generalize h9:H3=H9;exact key H9 ⟨h9.symm,.inr ⋯⟩
   nofun;have ei:i=r1.length:=by lia
   have ej:j=r2.length:=by lia
   rw[ei,ej]at hM;exact k l us ws H3 hbn s3 tb3 hU ⋯ hM
  case hB=>
   rintro HD ⟨rfl,hor⟩;nofun;apply Gr (S1:=λHE=>HE=HD/\i<r1.length/\(j=r2.length\/lxt (r2.getD j []) (r1.getD i [])=false)) (S2:=λHE=>HE=HD/\j<r2.length/\(i=r1.length\/lxt (r2.getD j []) (r1.getD i [])=true));case hA=>
    intro key1 key2;refine aJ (Q6 (s3 _ _ tc)) ?_;rw[GF];nofun;refine aV (λg2=>?_) (λg2=>?_)
    ·have e2:j=qs.length:=Pf (Q8.inj g2)
     nofun;generalize h9:HD=H9;exact key1 H9 ⟨h9.symm,by lia,.inl ⋯⟩
    nofun;refine aJ (Q6 (s3 _ _ ta)) ?_;rw[GF];nofun;have g2':j<qs.length:=by have:j≠qs.length:=λz=>g2 (by rw[z]);lia
    refine aV (λg3=>?_) (λg3=>?_)
    ·have hip:i<ps.length:=by lia
     have ei:r1[i]? = some (r1[i]'(by rw[<-hR1.1];exact hip)):=GE _;have ej:r2[j]? = some (r2[j]'(by rw[<-hR2.1];exact g2')):=GE _;have t1:=s3 _ _ (hR1.2 i ps[i] _ (by simp[hip]) ei);have t2:=s3 _ _ (hR2.2 j qs[j] _ (by simp[g2']) ej);nofun;refine bx (Q6 (s3 _ _ ta)) (v:=Rb ps[i]) (ba (by rw[GK];simp[hip])) ?_;nofun;refine⟨ps[i],_,rfl,.inr ⟨Q7 t1,?_⟩⟩;nofun;refine bx (Q6 (s3 _ _ tc)) (v:=Rb qs[j]) (ba (by rw[GK];simp[g2'])) ?_;nofun;refine⟨qs[j],_,rfl,.inr ⟨Q7 t2,?_⟩⟩;refine wY (ns:=bo _) (ms:=bo _) (Q7 (by rw[<-cH];exact t1)) (Q7 (by rw[<-cH];exact t2)) ?_;have ev:HT.dR (bo (r1[i]'(by rw[<-hR1.1];exact hip))) (bo (r2[j]'(by rw[<-hR2.1];exact g2')))=!lxt (r2.getD j []) (r1.getD i []):=by
      rw[HT.lO,iI ei,iI ej];rfl
     rw[ev];nofun;cases hle:lxt (r2.getD j []) (r1.getD i [])with
     | false=>
      nofun;generalize h9:HD=H9;exact key1 H9 ⟨h9.symm,by lia,.inr hle⟩
     | true=>
      nofun;generalize h9:HD=H9;exact key2 H9 ⟨h9.symm,by lia,.inr hle⟩
    ·skip
     nofun;generalize h9:HD=H9;exact key2 H9 ⟨h9.symm,by lia,.inl ⋯⟩
   case h1=>
    rintro HE ⟨rfl,hi,hc⟩;refine⟨a9 tb3,?_⟩;nofun;refine⟨aE (by simp),λu hu=>?_⟩;obtain⟨H4,e9,s4,(tu:H4 u=some (.tup [Q8 ((0:Nat):Int),Q8 (i:Nat)]))⟩:=nwR hu (.tup [Q8 0,Q8 (i:Nat)]);rw[e9];nofun;refine aW (s4 _ _ tb3) (by rw[GF,hU.1];exact au ⋯) ?_;nofun;exact⟨(ps.length - (i+1))+(qs.length - j),by lia,us++[u],ws++[(0,i)],i+1,j,rfl,(s3.trans s4).own hbn,by rw[af,GP];rfl,((hU.same s4).snoc tu).own (s4 _ _ tb3),by rw[GY,Ie];lia,hM.one hi hc,by rw[<-eI];rfl⟩
   case h2=>
    rintro HE ⟨rfl,hj,hc⟩;refine⟨a9 tb3,?_⟩;nofun;refine⟨aE (by simp),λu hu=>?_⟩;obtain⟨H4,e9,s4,(tu:H4 u=some (.tup [Q8 ((1:Nat):Int),Q8 (j:Nat)]))⟩:=nwR hu (.tup [Q8 1,Q8 (j:Nat)]);rw[e9];nofun;refine aW (s4 _ _ tb3) (by rw[GF,hU.1];exact au ⋯) ?_;nofun;exact⟨(ps.length - i)+(qs.length - (j+1)),by lia,us++[u],ws++[(1,j)],i,j+1,rfl,(s3.trans s4).own hbn,by rw[af,GP];rfl,((hU.same s4).snoc tu).own (s4 _ _ tb3),by rw[GY,Ie];lia,hM.two hj hc,by rw[<-eI];rfl⟩
def EZ:Sp:=λvs H Q _=>∃(r a c:Addr) (ps:List Addr) (rss:List (List Nat)) (xs ys:List Nat) (f m e:Nat),vs=[.ref r,.ref a,.ref c]/\H r=some (.lst (ps.map Rb))/\RowsT H ps rss/\H a=some (.lst (NV xs))/\H c=some (.lst (NV ys))/\Seg rss f m xs/\Seg rss m e ys/\f<=m/\m<=e/\e<=rss.length/\rss.length<=60/\
 ∀(l:Addr) (zs:List Nat) H',H l=none->Same H H'->H' l=some (.lst (NV zs))->Seg rss f e zs->Q (.ref l) H'
theorem cX (T:Tx K mg t):FnOk P t.wd K mg t.bs CX0 2 (t.f 16) (t.d 16) ["rows","one","other"] EZ:=by
 refine okT (N:=["rows","one","other","pairs","places"]) (T.fn 16 rfl) (λH Q hr nd h=>?_)
 ·obtain⟨r,a,c,ps,rss,xs,ys,f,m,e,rfl,tr,hR,ta,tc,hsx,hsy,hfm,hme,hel,hrn,k⟩:=h
  have hpl:ps.length=rss.length:=hR.1;have hx:∀x∈xs,x<rss.length:=λx hx=>by have:=hsx.mem hx;lia
  have hy:∀x∈ys,x<rss.length:=λx hx=>by have:=hsy.mem hx;lia
  have hn:xs.length+ys.length<=60:=by have:=hsx.len;have:=hsy.len;lia
  ·refine⟨_,(ae (aH (i:=3) (aC (tT T) hr (T.fn 15 rfl) (ah (a0 (N:=["place","rows"]) (tgs:=["place"]) (frs:=["rows"]) (ix:=[0]) ⟨rfl,by decide +kernel,rfl,by decide +kernel,rfl,rfl,⟨⟨rfl,rfl,_,rfl,rfl⟩,GR⟩,⟨rfl,GR⟩,rfl⟩ rfl (aS (K:=K) (qv 1)) (λ_ _ _ _=>(aD (i:=0))) (λ_ _ _ _=>(aO (bc (K:=K)) (qv 1) (qv 0)))) (ah (a0 (N:=["place","rows"]) (tgs:=["place"]) (frs:=["rows"]) (ix:=[0]) ⟨rfl,by decide +kernel,rfl,by decide +kernel,rfl,rfl,⟨⟨rfl,rfl,_,rfl,rfl⟩,GR⟩,⟨rfl,GR⟩,rfl⟩ rfl (aS (K:=K) (qv 2)) (λ_ _ _ _=>(aD (i:=0))) (λ_ _ _ _=>(aO (bc (K:=K)) (qv 1) (qv 0)))) aa))))
   (ae (aH (i:=4) (bB (ah (qv 1) (ah (qv 2) aa))))
   (ak (aw (a0 (N:=["which","at","places"]) (tgs:=["which","at"]) (frs:=["places"]) (ix:=[4]) ⟨rfl,by decide +kernel,rfl,by decide +kernel,rfl,rfl,⟨⟨rfl,rfl,_,rfl,rfl⟩,GR⟩,⟨rfl,GR⟩,rfl⟩ rfl (aS (K:=K) (qv 3)) (λ_ _ _ _=>(bF (K:=K) (n:=2) rfl (av (aD (i:=0)) (av (aD (i:=1)) aY)))) (λ_ _ _ _=>(aO (bc (K:=K)) (aO (ie (K:=K)) (qv 2) (qv 0)) (qv 1)))))))),?_⟩
   dsimp only[st0];nofun;refine⟨a,rfl,⟨_,Q6 ta⟩,aX (a:=a) (vs:=NV xs) (λi zs σ H'=>H'=H/\i<=xs.length/\(∃us:List Addr,zs=us.map Rb/\us.length=i/\RowsT H us ((xs.take i).map λx=>rss.getD x []))/\∃v,σ=[v,some (Rb r)]) (by rw[aB];exact au ⋯) (λi zs σ H' h=>by obtain⟨_,_,⟨us,rfl,e,_⟩,_⟩:=h;rw[GF,e]) (λi zs σ H' h=>by rw[h.1];exact Q6 ta) ⟨rfl,GW _,⟨[],rfl,rfl,rfl,λi p z h=>by simp at h⟩,none,rfl⟩ ?_ ?_⟩
   ·rintro i zs σ H' x hx' ⟨rfl,_,⟨us,rfl,hul,hU⟩,v,rfl⟩
    have hil:=bj hx';obtain⟨q,rfl,hq,hqm,hi⟩:=aF hx';have hqn:=hx q hqm;have hqp:q<ps.length:=by lia
    have eq':rss[q]? = some rss[q]:=by simp[hqn]
    have eg:rss.getD q []=rss[q]:=by rw[GG,eq'];rfl
    nofun;refine bx (Q6 tr) (v:=Rb ps[q]) (ba (by rw[GK];simp[hqp])) ?_;refine Rf hil ⟨rfl,hi,⟨us++[ps[q]],by rw[GP];rfl,by simp[hul],?_⟩,_,rfl⟩;rw[G4,hq,GP];show RowsT _ _ (_++[rss.getD q []])
    rw[eg];exact hU.snoc (hR.2 q ps[q] _ (by simp[hqp]) eq')
   rintro zs σ H1 ⟨e1,_,⟨us,rfl,hul,hU⟩,v,rfl⟩ l1 hl1;subst e1;rw[aB]at hul hU;rw[GN (GJ _)]at hU;obtain⟨H2,e9,s2,tl1⟩:=nwR hl1 (.lst (us.map Rb));rw[e9];have tc2:=s2 _ _ tc;nofun;refine⟨c,rfl,⟨_,Q6 tc2⟩,aX (a:=c) (vs:=NV ys) (λi zs σ H'=>H'=H2/\i<=ys.length/\(∃vs:List Addr,zs=vs.map Rb/\vs.length=i/\RowsT H2 vs ((ys.take i).map λx=>rss.getD x []))/\∃v,σ=[v,some (Rb r)]) (by rw[aB];exact au ⋯) (λi zs σ H' h=>by obtain⟨_,_,⟨us,rfl,e,_⟩,_⟩:=h;rw[GF,e]) (λi zs σ H' h=>by rw[h.1];exact Q6 tc2) ⟨rfl,GW _,⟨[],rfl,rfl,rfl,λi p z h=>by simp at h⟩,none,rfl⟩ ?_ ?_⟩
   ·rintro i zs σ H' x hx' ⟨rfl,_,⟨vs,rfl,hvl,hV⟩,v,rfl⟩
    have hil:=bj hx';obtain⟨q,rfl,hq,hqm,hi⟩:=aF hx';have hqn:=hy q hqm;have hqp:q<ps.length:=by lia
    have eq':rss[q]? = some rss[q]:=by simp[hqn]
    have eg:rss.getD q []=rss[q]:=by rw[GG,eq'];rfl
    nofun;refine bx (Q6 (s2 _ _ tr)) (v:=Rb ps[q]) (ba (by rw[GK];simp[hqp])) ?_;refine Rf hil ⟨rfl,hi,⟨vs++[ps[q]],by rw[GP];rfl,by simp[hvl],?_⟩,_,rfl⟩;rw[G4,hq,GP];show RowsT _ _ (_++[rss.getD q []])
    rw[eg];exact hV.snoc ((hR.same s2).2 q ps[q] _ (by simp[hqp]) eq')
   rintro zs σ H3 ⟨e3,_,⟨vs,rfl,hvl,hV⟩,v,rfl⟩ l2 hl2;subst e3;rw[aB]at hvl hV;rw[GN (GJ _)]at hV;obtain⟨H4,e9,s34,tl2⟩:=nwR hl2 (.lst (vs.map Rb));rw[e9];have s4:=s2.trans s34;nofun;refine⟨l1,l2,us,vs,_,_,rfl,s34 _ _ tl1,tl2,hU.same s4,hV.same s34,by lia,λpl qs ws H5 hpl0 s5 tpl hP hwl hM=>?_⟩;rw[GF,GF]at hM;have hok:=hM.le.2.2;have hul':us.length=xs.length:=hul;have hvl':vs.length=ys.length:=hvl;have s05:=s4.trans s5;nofun;refine⟨aE (by simp),λtt htt=>?_⟩;obtain⟨H6,e9,s56,ttt⟩:=nwR htt (.tup [Rb a,Rb c]);rw[e9];have s06:=s05.trans s56;have tpl6:=s56 _ _ tpl;have P6:=hP.same s56;have hqw:qs.length=ws.length:=hP.1;nofun;refine⟨pl,rfl,⟨_,Q6 tpl6⟩,aX (a:=pl) (vs:=qs.map Rb) (λi zs σ H'=>H'=H6/\(zs=NV ((ws.take i).map (kZ xs ys))/\i<=ws.length)/\∃v w,σ=[v,w,some (Rb tt)]) (by rw[GF];exact au ⋯) (λi zs σ H' h=>by rw[h.2.1.1,aB,GF,G5];have:=h.2.1.2;lia) (λi zs σ H' h=>by rw[h.1];exact Q6 tpl6) ⟨rfl,⟨rfl,GW _⟩,none,none,rfl⟩ ?_ ?_⟩
   ·rintro i zs σ H' x hx' ⟨rfl,⟨rfl,hnl⟩,v,w,rfl⟩
    have hil:=bj hx';obtain⟨q,rfl,hq,_,hi⟩:=aF hx';have hiw:i<ws.length:=by lia
    have tq:=P6.2 i q ws[i] hq (by simp[hiw]);have hw:=hok ws[i] (GV hiw);have etk:(ws.take (i+1)).map (kZ xs ys)=(ws.take i).map (kZ xs ys)++[kZ xs ys ws[i]]:=by rw[G4,GE hiw,GP];rfl
    generalize ws[i]=w9 at tq hw etk;obtain⟨w1,w2⟩:=w9;refine bf tq ?_;dsimp only[HM];rcases hw with⟨h1,h2⟩|⟨h1,h2⟩
    ·have h1:w1=0:=h1
     have h2:w2<xs.length:=by have:=h2;rw[GF]at this;exact this
     subst h1;have hw2:w2<xs.length:=by lia
     nofun;refine bx (Q6 (s06 _ _ ta)) (kr rfl (o:=xs[w2]) (by simp[hw2])) ?_;refine Rf hil ⟨rfl,⟨?_,hiw⟩,_,_,rfl⟩;rw[etk,<-cB];have ep:kZ xs ys (0,w2)=xs[w2]:=by unfold kZ;simp[hw2]
     rw[ep]
    ·have h1:w1=1:=h1
     have h2:w2<ys.length:=by have:=h2;rw[GF]at this;exact this
     subst h1;have hw2:w2<ys.length:=by lia
     nofun;refine bx (Q6 (s06 _ _ tc)) (kr rfl (o:=ys[w2]) (by simp[hw2])) ?_;refine Rf hil ⟨rfl,⟨?_,hiw⟩,_,_,rfl⟩;rw[etk,<-cB];have ep:kZ xs ys (1,w2)=ys[w2]:=by unfold kZ;simp[hw2]
     rw[ep]
   ·rintro zs σ H7 ⟨e7,⟨rfl,hnl⟩,v,w,rfl⟩ l hl
    subst e7;rw[GF,GN ⋯];exact k l _ _ (s06.free hl) (s06.new hl) af (Mgd.seg hsx hsy hfm hme hM)
def E1:Sp:=λvs H Q _=>∃(a:Addr) (rss:List (List Nat)) (w b:Nat),vs=[.ref a]/\Rws H a rss w b/\∀(t o st:Addr) (os:List Nat) (qs:List Addr) H',H t=none->H o=none->Same H H'->H' t=some (.tup [.ref o,.ref st])->H' o=some (.lst (NV os))->OrdR rss os->H' st=some (.lst (qs.map Rb))->TrAt H' qs (gJ (bP rss rss.length))->(gJ (bP rss rss.length)).length<=60->Q (.ref t) H'
theorem j4 (T:Tx K mg t):FnOk P t.wd K mg t.bs CX0 3 (t.f 19) (t.d 19) ["rows"] E1:=by
 refine okT (N:=["rows","order","steps","first","middle","last"]) (T.fn 19 rfl) (λH Q hr nd h=>?_)
 ·obtain⟨a,rss,w,b,rfl,⟨⟨ps,ta,hR⟩,hG,hn,hw,hb⟩,k⟩:=h
  have hpl:ps.length=rss.length:=hR.1
  ·refine⟨_,(ae (aH (i:=1) (iC rfl rfl T.cq rfl T.cz (ah (ag (aU (K:=K)) (by rfl) T.bz aP (ah (qv 0) aa)) aa)))
   (ae (aH (i:=2) (aO (ie (K:=K)) (aC (il T) hr (T.fn 18 rfl) (ah (aC (tL T) hr (T.fn 14 rfl) (ah (qv 0) aa)) aa)) aj))
   (ae (cA Hb rfl (aS (K:=K) (qv 2)) (bF (K:=K) (n:=3) rfl (av (aD (i:=3)) (av (aD (i:=4)) (av (aD (i:=5)) aY)))) (ak (wZ (aC (cX T) hr (T.fn 16 rfl) (ah (qv 0) (ah (c0 (lE (K:=K)) (qv 1) (cx (qv 3)) (cx (qv 4))) (ah (c0 (lE (K:=K)) (qv 1) (cx (qv 4)) (cx (qv 5))) aa)))) (qv 1) (qv 3) (qv 5))))
   (ak (aw (bB (ah (qv 1) (ah (qv 2) aa)))))))),?_⟩
   dsimp only[st0];nofun;refine aJ (Q6 ta) ?_;rw[GF,hpl];nofun;refine⟨rss.length,rfl,by lia,λo ho=>?_⟩;rw[kv];have er:((GO rss.length).map λi=>0+i)=GO rss.length:=by simp
   rw[er];obtain⟨H1,e9,s1,to1⟩:=nwR ho (.lst (NV (GO rss.length)));rw[e9];nofun;refine⟨a,ps,rss,rfl,s1 _ _ ta,hR.same s1,hn,λl H2 hl s2 tl=>?_⟩;have hrl:=lR rss rss.length;have hrs:=gg rss rss.length;obtain⟨al,aok⟩:=jU _ (bP rss rss.length) (GJ _);nofun;refine⟨l,bP rss rss.length,rfl,.inl tl,by lia,λt st qs H3 hst s3 tt ts T3=>?_⟩;have s13:=s2.trans s3;have to3:=s13 _ _ to1;have s03:=s1.trans s13;have hso:st≠o:=λe=>by rw[e,s2 _ _ to1]at hst;cases hst
   have hql:=T3.1;nofun;refine⟨st,rfl,⟨_,Q6 ts⟩,du (a:=st) (xs:=qs.map Rb) (λi σ H'=>Same H H'/\H' st=some (.lst (qs.map Rb))/\TrAt H' qs (gJ (bP rss rss.length))/\(∃os:List Nat,H' o=some (.lst (NV os))/\os.length=rss.length/\RnS rss rss.length ((gJ (bP rss rss.length)).drop i) os)/\∃v3 v4 v5,σ=[some (Rb a),some (Rb o),some (Rb st),v3,v4,v5]) ⟨s03,ts,T3,⟨_,to3,by simp,vK rss rss.length⟩,_,_,_,rfl⟩ (λi σ H' _ h=>Q6 h.2.1) ?_ ?_⟩
   ·rintro i x σ H4 hx ⟨s4,ts4,T4,⟨os,to4,hol,hrn⟩,v3,v4,v5,rfl⟩
    obtain⟨q,rfl,hq,_,hi⟩:=aF hx;have hia:i<(gJ (bP rss rss.length)).length:=by lia
    have tq:=T4.2 i q _ hq (GE hia);have hok:=aok _ (GV hia);rw[Jt hia]at hrn;generalize (gJ (bP rss rss.length))[i]=s9 at tq hok hrn;obtain⟨f,m,e⟩:=s9;have tq:H4 q=some (.tup [.int (f:Nat),.int (m:Nat),.int (e:Nat)]):=tq;have hok:f<=m/\m<=e/\e<=(bP rss rss.length).sum:=hok;obtain⟨_,_,_,g1,g2,hnx⟩:=hrn;have g1:Seg rss f m ((os.drop f).take (m - f)):=g1;have g2:Seg rss m e ((os.drop m).take (e - m)):=g2;have hnx:∀x,Seg rss f e x->RnS rss rss.length ((gJ (bP rss rss.length)).drop (i+1)) (os.take f++x++os.drop e):=hnx
    rw[hrs]at hok;refine eY tq ?_;dsimp only[HM];nofun;refine⟨_,rfl,?_⟩;nofun;refine⟨_,rfl,?_⟩;refine kR to4 λl1 H5 hl1 s5 tl1=>?_
    rw[rR os ⋯ ⋯]at tl1;nofun;refine⟨_,rfl,?_⟩;nofun;refine⟨_,rfl,?_⟩;refine kR (s5 _ _ to4) λl2 H6 hl2 s6 tl2=>?_
    rw[rR os ⋯ ⋯]at tl2;have c1:((os.drop f).take (m - f)).length=m - f:=by rw[G5,Hm];lia
    have c2:((os.drop m).take (e - m)).length=e - m:=by rw[G5,Hm];lia
    have s46:=s5.trans s6;nofun;refine⟨a,l1,l2,ps,rss,_,_,f,m,e,rfl,s46 _ _ (s4 _ _ ta),(hR.same s4).same s46,s6 _ _ tl1,tl2,g1,g2,hok.1,hok.2.1,hok.2.2,hn,λz zs H7 hz s7 tz hzs=>?_⟩;have hzl:=hzs.len;have s47:=s46.trans s7;have to7:=s47 _ _ to4;have hzo:o≠z:=λe=>by rw[<-e,s46 _ _ to4]at hz;cases hz
    nofun;refine⟨o,z,_,_,_,_,rfl,rfl,rfl,rfl,to7,tz,hzo,by lia,by lia,by rw[aB];lia,aE (by rw[aB,aB];lia),?_⟩;have espl:(NV os).take ((f:Nat):Int).toNat++NV zs++(NV os).drop ((e:Nat):Int).toNat=NV (os.take f++zs++os.drop e):=by
     rw[Ih,Ih];unfold NV;rw[GP,GP,Ki,Kj]
    rw[espl];exact⟨(s4.trans s47).own ho,by rw[ar hso];exact s47 _ _ ts4,(T4.same s47).own to7,⟨_,af,by rw[GY,GY,G5,Hm];lia,hnx zs hzs⟩,_,_,_,rfl⟩
   ·rintro σ H4 ⟨s4,ts4,T4,⟨os,to4,hol,hrn⟩,v3,v4,v5,rfl⟩
    nofun;refine⟨aE (by simp),λt2 ht2=>?_⟩;rw[GF,List.drop_eq_nil_of_le ⋯]at hrn;exact k t2 o st os qs _ (s4.free ht2) ho (s4.new ht2) af (by rw[ar (aq to4 ht2)];exact to4) ⟨by have:=hrn.perm;rwa [Le,<-Ju]at this,hrn.sort⟩ (by rw[ar (aq ts4 ht2)];exact ts4) (T4.same ((Rc H4).new ht2)) ⋯
def gp:Sp:=λvs H Q _=>∃(a:Addr) (rss:List (List Nat)) (w b:Nat),vs=[.ref a,.int b]/\Rws H a rss w b/\
 ∀(t o:Addr) (os:List Nat) (m:Int) H',H t=none->H o=none->Same H H'->H' t=some (.tup [.ref o,.int m])->H' o=some (.lst (NV os))->OrdR rss os->Q (.ref t) H'
theorem mi (T:Tx K mg t):FnOk P t.wd K mg t.bs CX0 4 (t.f 29) (t.d 29) ["rows","base"] gp:=by
 refine okT (N:=["rows","base","order","steps"]) (T.fn 29 rfl) (λH Q hr nd h=>?_)
 ·obtain⟨a,rss,w,b,rfl,hW,k⟩:=h
  refine⟨_,(ae (df (aC (gX T) hr (T.fn 7 rfl) (ah (qv 0) (ah (qv 1) aa))) (bF (K:=K) (n:=2) rfl (av (aD (i:=2)) (av (aD (i:=3)) aY))))
   (ak (aw (bB (ah (qv 2) (ah (ag (lF (K:=K) rfl) (by rfl) T.mK l7 (ah (a0 (N:=["column","behind"]) (tgs:=["column","behind"]) (frs:=[]) (ix:=[]) ⟨rfl,by decide +kernel,rfl,by decide +kernel,rfl,rfl,GR,GR,rfl⟩ rfl (aS (K:=K) (qv 3)) (λ_ _ _ _=>(bF (K:=K) (n:=2) rfl (av (aD (i:=0)) (av (aD (i:=1)) aY)))) (λ_ _ _ _=>(ag (aU (K:=K)) (by rfl) T.bz aP (ah (qv 1) aa)))) aa)) aa)))))),?_⟩
  dsimp only[st0];nofun;refine⟨a,rss,w,b,rfl,hW,λt o st qs os H1 tt to hO ts hS hq _ hon s1=>?_⟩;refine bf tt ?_;dsimp only[HM];nofun;refine⟨st,rfl,⟨_,Q6 ts⟩,aX (a:=st) (vs:=qs.map Rb) (λi ys σ H'=>H'=H1/\(∃ns:List Int,ys=ns.map Q8/\ns.length=i)/\∃v w,σ=[v,w]) (by rw[GF];exact au ⋯) (λi ys σ H' h=>by obtain⟨_,⟨ns,rfl,e⟩,_⟩:=h;rw[GF,e]) (λi ys σ H' h=>by rw[h.1];exact Q6 ts) ⟨rfl,⟨[],rfl,rfl⟩,none,none,rfl⟩ ?_ ?_⟩
  ·rintro i ys σ H' x hx ⟨rfl,⟨ns,rfl,hnl⟩,v,w,rfl⟩
   have hil:=bj hx;obtain⟨q,rfl,_,hq,_⟩:=aF hx;obtain⟨c,l,ms,tq,tl,_⟩:=hS q hq;refine bf tq ?_;dsimp only[HM];nofun;refine aJ (Q6 tl) ?_;exact Rf hil ⟨rfl,⟨ns++[_],by rw[GP];rfl,by simp[hnl]⟩,_,_,rfl⟩
  rintro ys σ H2 ⟨rfl,⟨ns,rfl,hnl⟩,v,w,rfl⟩ z hz;obtain⟨H3,e9,s2,tz⟩:=nwR hz (.lst (ns.map Q8));rw[e9];nofun;refine jM (Q6 tz) ?_;nofun;refine⟨aE (by simp),λt2 ht2=>?_⟩;have to3:=s2 _ _ to;exact k t2 o os _ _ ((s1.trans s2).free ht2) hon ((s1.trans s2).new ht2) af (by rw[ar (aq to3 ht2)];exact to3) hO
theorem kT (T:Tx K mg t):FnOk P t.wd K mg t.bs CX0 4 (t.f 30) (t.d 30) ["rows","base"] gp:=by
 refine okT (N:=["rows","base","order","steps"]) (T.fn 30 rfl) (λH Q hr nd h=>?_)
 ·obtain⟨a,rss,w,b,rfl,hW,k⟩:=h
  refine⟨_,(ae (df (aC (gn T) hr (T.fn 6 rfl) (ah (qv 0) (ah (qv 1) aa))) (bF (K:=K) (n:=2) rfl (av (aD (i:=2)) (av (aD (i:=3)) aY))))
   (ak (aw (bB (ah (qv 2) (ah (ag (lF (K:=K) rfl) (by rfl) T.mK l7 (ah (a0 (N:=["first","last","column"]) (tgs:=["first","last","column"]) (frs:=[]) (ix:=[]) ⟨rfl,by decide +kernel,rfl,by decide +kernel,rfl,rfl,GR,GR,rfl⟩ rfl (aS (K:=K) (qv 3)) (λ_ _ _ _=>(bF (K:=K) (n:=3) rfl (av (aD (i:=0)) (av (aD (i:=1)) (av (aD (i:=2)) aY))))) (λ_ _ _ _=>(aI dM (qv 1) (qv 0)))) aa)) aa)))))),?_⟩
  dsimp only[st0];nofun;refine⟨a,rss,w,b,rfl,hW,λt o st qs os sts H1 hsl tt to hO ts hT _ hon s1=>?_⟩;have hql:qs.length<=60:=by rw[hT.1];exact hsl
  refine bf tt ?_;dsimp only[HM];nofun;refine⟨st,rfl,⟨_,Q6 ts⟩,aX (a:=st) (vs:=qs.map Rb) (λi ys σ H'=>H'=H1/\(∃ns:List Int,ys=ns.map Q8/\ns.length=i)/\∃v w u,σ=[v,w,u]) (by rw[GF];exact au ⋯) (λi ys σ H' h=>by obtain⟨_,⟨ns,rfl,e⟩,_⟩:=h;rw[GF,e]) (λi ys σ H' h=>by rw[h.1];exact Q6 ts) ⟨rfl,⟨[],rfl,rfl⟩,none,none,none,rfl⟩ ?_ ?_⟩
  ·rintro i ys σ H' x hx ⟨rfl,⟨ns,rfl,hnl⟩,v,w,u,rfl⟩
   have hil:=bj hx;obtain⟨q,rfl,hq,_,hi⟩:=aF hx;have tq:=hT.2 i q _ hq (GE (by rw[<-hT.1];exact hi));refine eY tq ?_;dsimp only[HM];nofun;exact Rf hil ⟨rfl,⟨ns++[_],by rw[GP];rfl,by simp[hnl]⟩,_,_,_,rfl⟩
  rintro ys σ H2 ⟨rfl,⟨ns,rfl,hnl⟩,v,w,u,rfl⟩ z hz;obtain⟨H3,e9,s2,tz⟩:=nwR hz (.lst (ns.map Q8));rw[e9];nofun;refine jM (Q6 tz) ?_;nofun;refine⟨aE (by simp),λt2 ht2=>?_⟩;have to3:=s2 _ _ to;exact k t2 o os _ _ ((s1.trans s2).free ht2) hon ((s1.trans s2).new ht2) af (by rw[ar (aq to3 ht2)];exact to3) hO
theorem mj (T:Tx K mg t):FnOk P t.wd K mg t.bs CX0 4 (t.f 31) (t.d 31) ["rows","base"] gp:=by
 refine okT (N:=["rows","base","order","steps"]) (T.fn 31 rfl) (λH Q hr nd h=>?_)
 ·obtain⟨a,rss,w,b,rfl,hW,k⟩:=h
  refine⟨_,(ae (df (aC (j4 T) hr (T.fn 19 rfl) (ah (qv 0) aa)) (bF (K:=K) (n:=2) rfl (av (aD (i:=2)) (av (aD (i:=3)) aY))))
   (ak (aw (bB (ah (qv 2) (ah (ag (lF (K:=K) rfl) (by rfl) T.mK l7 (ah (a0 (N:=["first","middle","last"]) (tgs:=["first","middle","last"]) (frs:=[]) (ix:=[]) ⟨rfl,by decide +kernel,rfl,by decide +kernel,rfl,rfl,GR,GR,rfl⟩ rfl (aS (K:=K) (qv 3)) (λ_ _ _ _=>(bF (K:=K) (n:=3) rfl (av (aD (i:=0)) (av (aD (i:=1)) (av (aD (i:=2)) aY))))) (λ_ _ _ _=>(aI dM (qv 2) (qv 0)))) aa)) aa)))))),?_⟩
  dsimp only[st0];nofun;refine⟨a,rss,w,b,rfl,hW,λt o st os qs H1 _ hon s1 tt to hO ts hT hsl=>?_⟩;have hql:qs.length<=60:=by rw[hT.1];exact hsl
  refine bf tt ?_;dsimp only[HM];nofun;refine⟨st,rfl,⟨_,Q6 ts⟩,aX (a:=st) (vs:=qs.map Rb) (λi ys σ H'=>H'=H1/\(∃ns:List Int,ys=ns.map Q8/\ns.length=i)/\∃v w u,σ=[v,w,u]) (by rw[GF];exact au ⋯) (λi ys σ H' h=>by obtain⟨_,⟨ns,rfl,e⟩,_⟩:=h;rw[GF,e]) (λi ys σ H' h=>by rw[h.1];exact Q6 ts) ⟨rfl,⟨[],rfl,rfl⟩,none,none,none,rfl⟩ ?_ ?_⟩
  ·rintro i ys σ H' x hx ⟨rfl,⟨ns,rfl,hnl⟩,v,w,u,rfl⟩
   have hil:=bj hx;obtain⟨q,rfl,hq,_,hi⟩:=aF hx;have tq:=hT.2 i q _ hq (GE (by rw[<-hT.1];exact hi));refine eY tq ?_;dsimp only[HM];nofun;exact Rf hil ⟨rfl,⟨ns++[_],by rw[GP];rfl,by simp[hnl]⟩,_,_,_,rfl⟩
  rintro ys σ H2 ⟨rfl,⟨ns,rfl,hnl⟩,v,w,u,rfl⟩ z hz;obtain⟨H3,e9,s2,tz⟩:=nwR hz (.lst (ns.map Q8));rw[e9];nofun;refine jM (Q6 tz) ?_;nofun;refine⟨aE (by simp),λt2 ht2=>?_⟩;have to3:=s2 _ _ to;exact k t2 o os _ _ ((s1.trans s2).free ht2) hon ((s1.trans s2).new ht2) af (by rw[ar (aq to3 ht2)];exact to3) hO
def E2(K:GH)(t:Ad):V->Sp->Prop:=λv sp=>(v=.ref (t.f 29)/\sp=gp)\/(v=.ref (t.f 30)/\sp=gp)\/(v=.ref (t.f 31)/\sp=gp)
theorem Gs{α β γ δ ε ζ:Type}{G:Prop}{S B:α->β->γ->δ->ε->ζ->Hp->Prop}(hA:(∀a b c d e f H,S a b c d e f H->B a b c d e f H)->G)(hB:∀a b c d e f H,S a b c d e f H->B a b c d e f H):G:=hA hB
def PutAt(H:Hp)(us ys:List V)(os:List Nat):Prop:=ys.length=us.length/\∀(k o:Nat) z,os[k]? = some o->us[o]? = some z->∃y,ys[k]? = some y/\ThE H z y
theorem PutAt.same{H H':Hp}{us ys:List V}{os:List Nat}(h:PutAt H us ys os)(s:Same H H'):PutAt H' us ys os:=⟨h.1,λk o z a b=>by obtain⟨y,e,t⟩:=h.2 k o z a b;exact⟨y,e,t.same s⟩⟩
theorem KAt.th{H:Hp}{k:Kd}{us:List V}(h:KAt H k us):∀z∈us,Th H z:=λz hz=>by
 cases k with
 | nu ns=>
  obtain rfl:us=ns.map Q8:=h;obtain⟨x,_,rfl⟩:=Hk.mp hz;exact .inl (.inr (.inr (.inl ⟨x,rfl⟩)))
 | te zs=>
  obtain rfl:us=zs.map Ra:=h;obtain⟨x,_,rfl⟩:=Hk.mp hz;exact .inl (.inr (.inr (.inr ⟨x,rfl⟩)))
 | pa tb=>
  obtain⟨qs,rfl,hP⟩:=h;obtain⟨q,hq,rfl⟩:=Hk.mp hz;obtain⟨i,hi,rfl⟩:=Hv hq;have e:=hP.2 i qs[i] (tb[i]'(by rw[<-hP.1];exact hi)) (GE hi) (GE (by rw[<-hP.1];exact hi));exact .inr ⟨qs[i],_,rfl,e,by simp,by simp,λx hx=>by
   simp only[GZ,Ho,or_false]at hx;rcases hx with rfl|rfl<;>exact .inr (.inr (.inl ⟨_,rfl⟩))⟩
def E3 (K:GH):Sp:=λvs H Q _=>∃(way:Str) (k:Kd) (us:List V) (a:Addr) (b:Nat),vs=[.str way,.str k.name,.ref a,.int b]/\(way = "last"\/way = "first"\/way = "runs")/\H a=some (.lst us)/\KAt H k us/\k.ok/\2<=b/\b<=64/\
 ∀(t l o:Addr) (os:List Nat) (ys:List V) (m:Int) (rss:List (List Nat)) (w by':Nat) H',Same H H'->H' t=some (.tup [.ref l,.ref o,.int m])->H' o=some (.lst (NV os))->H' l=some (.lst ys)->PutAt H' us ys os->k.rows b rss w by'->OrdR rss os->Q (.ref t) H'
theorem pZ (T:Tx K mg t):FnOk P t.wd K mg t.bs CX0 5 (t.f 32) (t.d 32) ["way","kind","keys","base"] (E3 K):=by
 refine okT (N:=["way","kind","keys","base","by","rows","done","order","moves","told"]) (T.fn 32 rfl) (λH Q hr nd h=>?_)
 ·obtain⟨way,k,us,a,b,rfl,hway,ta,hA,hk,hb,hb2,q⟩:=h
  refine⟨_,(ae (df (aC (gN T) hr (T.fn 28 rfl) (ah (qv 1) (ah (qv 2) (ah (qv 3) aa)))) (bF (K:=K) (n:=2) rfl (av (aD (i:=4)) (av (aD (i:=5)) aY))))
   (ae (aH (i:=6) (aO (EL T.wG) (sW (v:=.ref t.j5) rfl T.CL rfl) (qv 0)))
   (ae (df (vS (R:=E2 K t) (qv 6) (λv sp h=>by
     rcases h with⟨rfl,rfl⟩|⟨rfl,rfl⟩|⟨rfl,rfl⟩
     ·exact⟨_,_,_,_,_,rfl,mi T,hr.mono (by decide),(T.fn 29 rfl).2.1.kp,(T.fn 29 rfl).2.2,fh⟩
     ·exact⟨_,_,_,_,_,rfl,kT T,hr.mono (by decide),(T.fn 30 rfl).2.1.kp,(T.fn 30 rfl).2.2,fh⟩
     ·exact⟨_,_,_,_,_,rfl,mj T,hr.mono (by decide),(T.fn 31 rfl).2.1.kp,(T.fn 31 rfl).2.2,fh⟩) (ah (qv 5) (ah (qv 4) aa))) (bF (K:=K) (n:=2) rfl (av (aD (i:=7)) (av (aD (i:=8)) aY))))
   (ae (aH (i:=9) (aC (Ca T) hr (T.fn 11 rfl) (ah (qv 2) (ah (qv 7) aa))))
   (ae (aT (az eV (qv 1) bK (ax _)) (ak (ko (i:=9) (N:=["key"]) (tgs:=["key"]) (frs:=[]) (ix:=[])  nd rfl (JU rfl) ⟨rfl,by decide +kernel,rfl,by decide +kernel,rfl,rfl,GR,GR,rfl⟩ rfl (aS (K:=K) (qv 9)) (λ_ _ _ _=>(aD (i:=0))) (λ_ _ _ _=>(bq (cG (K:=K)) (by rfl) T.bu aZ (ah (qv 0) aa))))) aG)
   (ak (aw (bB (ah (qv 9) (ah (qv 7) (ah (qv 8) aa))))))))))),?_⟩
  dsimp only[st0];nofun;refine⟨k,us,a,b,rfl,.inl ta,hA,hk,hb,hb2,λp0 l ps rss w by' H1 s1 tt tl hR hr=>?_⟩;obtain⟨hG,hrl,hw,hby⟩:=hr.good hk hb hb2;have hrn:rss.length<=60:=by rw[hrl];exact hk.le
  have hul:us.length=rss.length:=hA.len.trans hrl.symm;refine bf tt ?_;have hW:Rws H1 l rss w by':=⟨⟨ps,tl,hR⟩,hG,hrn,hw,hby⟩;nofun;apply Gs (S:=λ(z o:Addr) (os:List Nat) (m:Int) (_ _:V) H2=>Same H1 H2/\H2 z=some (.tup [.ref o,.int m])/\H2 o=some (.lst (NV os))/\OrdR rss os);case hA=>
   intro key;obtain⟨w2,e2⟩:∃w2,w2=way:=⟨_,rfl⟩
   rw[<-e2];have h2:w2 = "last"\/w2 = "first"\/w2 = "runs":=e2▸hway;clear e2;rcases h2 with rfl|rfl|rfl
   ·refine⟨_,_,rfl,rfl,rfl,?_⟩
    nofun;refine⟨gp,.inl ⟨rfl,rfl⟩,?_⟩;nofun;refine⟨l,rss,w,by',rfl,hW,λz o os m H2 _ _ s2 tz to hO=>?_⟩;generalize Rb (t.f 29)=vd;generalize Ra (He "last")=vw;exact key z o os m vd vw H2 ⟨s2,tz,to,hO⟩
   ·refine⟨_,_,rfl,rfl,rfl,?_⟩
    nofun;refine⟨gp,.inr (.inl ⟨rfl,rfl⟩),?_⟩;nofun;refine⟨l,rss,w,by',rfl,hW,λz o os m H2 _ _ s2 tz to hO=>?_⟩;generalize Rb (t.f 30)=vd;generalize Ra (He "first")=vw;exact key z o os m vd vw H2 ⟨s2,tz,to,hO⟩
   ·refine⟨_,_,rfl,rfl,rfl,?_⟩
    nofun;refine⟨gp,.inr (.inr ⟨rfl,rfl⟩),?_⟩;nofun;refine⟨l,rss,w,by',rfl,hW,λz o os m H2 _ _ s2 tz to hO=>?_⟩;generalize Rb (t.f 31)=vd;generalize Ra (He "runs")=vw;exact key z o os m vd vw H2 ⟨s2,tz,to,hO⟩
  case hB=>
   rintro z o os m vd vw H2 ⟨s2,tz,to,hO⟩;refine bf tz ?_;dsimp only[HM];have s12:=s1.trans s2;have hos:Ord os us.length:=by rw[hul];exact Ord.of_perm hO.1
   nofun;refine⟨a,o,us,os,us.length,rfl,.inl (s12 _ _ ta),λz hz=>(hA.th z hz).same s12,rfl,.inl to,hos,by lia,λd ys H3 hd s3 td hyl hys=>?_⟩;have hPA:PutAt H3 us ys os:=⟨hyl,hys⟩;have s13:=s12.trans s3;have to3:=s3 _ _ to;nofun;have hyt:∀tb,k=.pa tb->∀y∈ys,∃u xs,y=.ref u/\H3 u=some (.tup xs):=λtb ek y hy=>by
    subst ek;obtain⟨i,hi,rfl⟩:=Hv hy;have hio:i<os.length:=by rw[hos.len,<-hyl];exact hi
    have hoi:=hos.lt os[i] (GV hio);obtain⟨y',e1,e2⟩:=hys i os[i] us[os[i]] (GE hio) (GE hoi);rw[GE hi]at e1;cases e1;obtain⟨qs,rfl,_⟩:=hA;rcases e2 with⟨e3,_⟩|⟨_,u,xs,_,e4,_,e5,_⟩
    ·have e6:(qs.map Rb)[os[i]]=Rb (qs[os[i]]'(by simpa using hoi)):=Kb ..
     rw[e6]at e3;rcases e3 with e3|⟨_,e3⟩|⟨_,e3⟩|⟨_,e3⟩<;>cases e3
    ·exact⟨u,xs,e4,e5⟩
   apply CZ (α:=Addr) (S:=λc H4=>Same H3 H4/\H4 c=some (.lst ys));case hA=>
    intro key;obtain⟨k2,e2⟩:∃k2,k2=k:=⟨_,rfl⟩
    rw[<-e2];cases k2 with
    | nu ns=>
     refine cD (show ¬Ra (He "number")=Ra (He "part")by decide) ?_;nofun;generalize h8:d=d9;generalize h9:H3=H9;exact key d9 H9 ⟨h9▸Rc _,h8▸h9▸td⟩
    | te zs=>
     refine cD (show ¬Ra (He "text")=Ra (He "part")by decide) ?_;nofun;generalize h8:d=d9;generalize h9:H3=H9;exact key d9 H9 ⟨h9▸Rc _,h8▸h9▸td⟩
    | pa tb=>
     refine dP rfl ?_;nofun;refine⟨d,rfl,⟨_,Q6 td⟩,aX (a:=d) (vs:=ys) (λi zs σ H'=>H3=H'/\i<=ys.length/\zs=ys.take i/\∃v,σ=[v]) (by rw[hyl];exact au ⋯) (λi zs σ H' h=>by rw[h.2.2.1,G5];lia) (λi zs σ H' h=>by rw[<-h.1];exact Q6 td) ⟨rfl,GW _,rfl,none,rfl⟩ ?_ ?_⟩
     ·rintro i zs σ H' x hx ⟨rfl,_,rfl,v,rfl⟩
      have hil:=bj hx;obtain⟨u,xs,rfl,tu⟩:=hyt tb e2.symm x (G3 hx);nofun;refine⟨u,_,rfl,.inr ⟨Q7 tu,?_⟩⟩;exact Rf hil ⟨rfl,hil,by rw[G4,hx];rfl,_,rfl⟩
     rintro zs σ H4 ⟨rfl,_,rfl,v,rfl⟩ c hc;rw[GN (GJ _)];obtain⟨H5,e9,sc,tc⟩:=nwR hc (.lst ys);rw[e9];nofun;exact key c H5 ⟨sc,tc⟩
   case hB=>
    rintro c H4 ⟨s4,tc⟩;nofun;refine⟨aE (by simp),λe he=>?_⟩;exact q e c o os ys m rss w by' _ ((s13.trans s4).new he) af (by rw[ar (aq (s4 _ _ to3) he)];exact s4 _ _ to3) (by rw[ar (aq tc he)];exact tc) ((hPA.same s4).same ((Rc _).new he)) hr hO
theorem zk{pt:Addr}{H:Hp}(e:SameX pt H H')(T:fe pt H')(h:H' l=none):H l=none:=by
 cases q:H l with
 | none=>rfl
 | some o=>
  by_cases hd:l=pt
  ·rcases T with z|⟨c,z,_⟩<;>rw[<-hd,h]at z<;>cases z
  ·rw[e l o hd q]at h;cases h
theorem tU{pt:Addr}{H:Hp}(T:fe pt H)(hl:H l=some (.lst xs)):fe pt (upd H l (.lst ys)):=by
 rcases T with z|⟨c,z,u⟩
 ·exact .inl (by rw[ar (bw z hl (by intro c;cases c))];exact z)
 ·exact .inr ⟨c,by rw[ar (bw z hl (by intro c;cases c))];exact z,by rw[ar (bw u hl (by intro c;cases c))];exact u⟩
theorem tV{pt:Addr}{H:Hp}(T:fe pt H)(t:Tp2 H p)(S:St2 p H H1):fe pt H1:=by
 obtain⟨a1,a2,h9,_⟩:=t;rcases T with z|⟨c,z,u⟩
 ·exact .inl (S.keep _ _ z (bw z h9 (by intro c;cases c)))
 ·exact .inr ⟨c,S.keep _ _ z (bw z h9 (by intro c;cases c)),S.keep _ _ u (bw u h9 (by intro c;cases c))⟩
theorem Cp{pt:Addr}{K:GH}{H:Hp}(T:fe pt H)(e:SameX pt H H')(h:SqL K H a xs):SqL K H' a xs:=by
 rcases h with(h|⟨o,h⟩)|h
 ·exact .inl (.inl (e _ _ (T.ne h) h))
 ·refine .inl (.inr ⟨o,e _ _ (λz=>?_) h⟩)
  subst z;rcases T with z|⟨c,z,_⟩<;>rw[h]at z<;>cases z
 ·exact .inr h
theorem zm:¬(("came" : Str) = "heaped"):=by decide +kernel
theorem zo:¬(("came" : Str) = "moved"):=by decide +kernel
theorem zq:¬(("heaped" : Str) = "moved"):=by decide +kernel
noncomputable def ir (c h:Addr) (m:Int):List (Str×V):=[("came",Rb c),("heaped",Rb h),("moved",Q8 m)]
theorem tW (c h:Addr):dA "moved" (.int 0) (dA "heaped" (.ref h) (dA "came" (.ref c) []))=ir c h 0:=by
 show dA "moved" (.int 0) (if("came" : Str) = "heaped" then[(("came" : Str),Rb h)]else(("came" : Str),Rb c)::[(("heaped" : Str),Rb h)])=_
 rw[if_neg zm];show(if("came" : Str) = "moved" then[(("came" : Str),Q8 0),(("heaped" : Str),Rb h)]else(("came" : Str),Rb c)::(if("heaped" : Str) = "moved" then[(("heaped" : Str),Q8 0)]else(("heaped" : Str),Rb h)::[(("moved" : Str),Q8 0)]))=_
 rw[if_neg zo,if_neg zq];rfl
theorem tY (c h:Addr) (m y:Int):dA "moved" (.int y) (ir c h m)=ir c h y:=by
 show(if("came" : Str) = "moved" then _ else(("came" : Str),Rb c)::(if("heaped" : Str) = "moved" then _ else(("heaped" : Str),Rb h)::(if("moved" : Str) = "moved" then[(("moved" : Str),Q8 y)]else _)))=_
 rw[if_neg zo,if_neg zq,if_pos rfl];rfl
theorem nE{f:Str}{r:List (Str×V)}:Ik f ((f,v)::r)=some v:=by simp[Ik]
theorem gO{f g:Str}{r:List (Str×V)}(h:¬f=g):Ik f ((g,v)::r)=Ik f r:=by
 have:(f == g)=false:=by simpa using h
 simp[Ik,this]
theorem ff (c h:Addr) (m:Int):(ir c h m).lookup ("came" : Str)=some (.ref c):=nE
theorem cb (c h:Addr) (m:Int):(ir c h m).lookup ("heaped" : Str)=some (.ref h):=by
 unfold ir;rw[gO (λe=>zm e.symm),nE]
theorem nF (c h:Addr) (m:Int):(ir c h m).lookup ("moved" : Str)=some (.int m):=by
 unfold ir;rw[gO (λe=>zo e.symm),gO (λe=>zq e.symm),nE]
theorem iJ (c h:Addr) (m:Int){f:Str}(h1:¬f = "came") (h2:¬f = "heaped") (h3:¬f = "moved"):(ir c h m).lookup f=none:=by
 unfold ir;rw[gO h1,gO h2,gO h3];rfl
inductive Hps (rss:List (List Nat)):List (List Nat)->Nat->Prop
 | nil:Hps rss [] 0
 | snoc {oss:List (List Nat)}{o:List Nat}{f l:Nat}(h:Hps rss oss f) (s:Seg rss f l o) (hl:f<=l):Hps rss (oss++[o]) l
theorem Hps.last{o:List Nat}{l:Nat}(h:Hps rss (oss++[o]) l):∃f,Hps rss oss f/\Seg rss f l o/\f<=l:=by
 generalize e:oss++[o]=q at h;cases h with
 | nil=>simp at e
 | snoc h s hl=>
  obtain⟨rfl,e2⟩:=List.append_inj' e rfl;cases e2;exact⟨_,h,s,hl⟩
theorem wc{f l:Nat}{o:List Nat}(h:Seg rss f l o)(hl:l<=rss.length):Seg (rss++qss) f l o:=by
 refine⟨h.perm,h.sort.imp_of_mem λ{i j} hi hj r=>?_⟩;have h1:i<rss.length:=by have:=h.mem hi;lia
 have h2:j<rss.length:=by have:=h.mem hj;lia
 unfold Rk at r ⊢;have e1:(rss++qss).getD i []=rss.getD i []:=by rw[GG,GG,GU h1]
 have e2:(rss++qss).getD j []=rss.getD j []:=by rw[GG,GG,GU h2]
 rw[e1,e2];exact r
theorem Hps.more{l:Nat}(h:Hps rss oss l)(hl:l<=rss.length):Hps (rss++qss) oss l:=by
 induction h with
 | nil=>exact .nil
 | snoc h s hl2 ih=>exact .snoc (ih ⋯) (wc s hl) hl2
structure PoAt (C:Addr) (H:Hp) (p c h:Addr) (cs hs:List Addr) (rss oss:List (List Nat)) (m:Nat):Prop where
 ob:∃dx,H p=some (.ins C dx (ir c h (m:Nat)))
 cm:H c=some (.lst (cs.map Rb))
 rw:RowsT H cs rss
 hp:H h=some (.lst (hs.map Rb))
 ls:LsAt H hs oss
 sg:Hps rss oss rss.length
 ch:c≠h
 cn:c∉hs
 hn:h∉hs
theorem PoAt.pc{H:Hp}{c h:Addr}(P:PoAt C H p c h cs hs rss oss m):p≠c:=by
 obtain⟨dx,e⟩:=P.ob;exact bw e P.cm (by intro z;cases z)
theorem PoAt.ph{H:Hp}{c h:Addr}(P:PoAt C H p c h cs hs rss oss m):p≠h:=by
 obtain⟨dx,e⟩:=P.ob;exact bw e P.hp (by intro z;cases z)
theorem PoAt.same{C:Addr}{H H1:Hp}{p c h:Addr}{cs hs:List Addr}{rss oss:List (List Nat)}{m:Nat}(P:PoAt C H p c h cs hs rss oss m)(s:Same H H1):PoAt C H1 p c h cs hs rss oss m:=by
 obtain⟨dx,e⟩:=P.ob;exact⟨⟨dx,s _ _ e⟩,s _ _ P.cm,P.rw.same s,s _ _ P.hp,P.ls.same s,P.sg,P.ch,P.cn,P.hn⟩
def zr(C:Addr):Sp:=λvs H Q _=>∃(p dx:Addr),vs=[.ref p]/\H p=some (.ins C dx [])/\∀(c h:Addr) (H':Hp),H c=none->H h=none->PoAt C H' p c h [] [] [] [] 0->(∀b o,H b=some o->b≠p->H' b=some o)->Q .non H'
theorem iu (T:Tx K mg t):FnOk P t.wd K mg t.bs CX0 1 t.dq t.dm ["self"] (zr t.aL):=by
 have nd:=sc_Pour___init__.nd;refine T.jo.okQ sc_Pour___init__ (λvs H Q E h=>?_) (λcdv A outer s H vs Q E hr h=>?_)
 ·obtain⟨p,dx,rfl,_⟩:=h
  rfl
 ·obtain⟨p,dx,rfl,hp,k⟩:=h
  refine⟨_,(ae (jW (K:=K) (qv 0) (aQ aa))
   (ae (jW (K:=K) (qv 0) (aQ aa))
   (ak (jW (K:=K) (qv 0) aj)))),?_⟩
  rw[show L2.start ["self"] [Rb p]=[some (Rb p)]from rfl];nofun;refine⟨aE (by simp),λc hc=>?_⟩;have hpc:p≠c:=aq hp hc;nofun;refine⟨p,t.aL,dx,[],rfl,by rw[ar hpc];exact hp,T.bR,T.ck,by show 0<1000;decide,?_⟩;nofun;refine⟨aE (by simp),λh hh=>?_⟩;have hhp:h≠p:=λz=>by rw[z,af]at hh;cases hh
  have hhc:h≠c:=λz=>by rw[z,ar (λz=>hpc z.symm),af]at hh;cases hh
  have hhn:H h=none:=by rw[ar hhp,ar hhc]at hh;exact hh
  nofun;refine⟨p,t.aL,dx,_,rfl,by rw[ar (λz=>hhp z.symm),af],T.bR,T.bg,by show 1<1000;decide,?_⟩;nofun;refine⟨p,t.aL,dx,_,rfl,af,T.bR,T.cS,?_,?_⟩
  ·show(if("came" : Str) = "heaped" then[(("came" : Str),Rb h)]else(("came" : Str),Rb c)::[(("heaped" : Str),Rb h)]).length<1000
   rw[if_neg zm];show 2<1000;decide
  have hcp:c≠p:=λz=>hpc z.symm
  refine k c h _ hc hhn ⟨⟨dx,by rw[af,tW];rfl⟩,by rw[ar hcp,ar hcp,ar (λz=>hhc z.symm),ar hcp,af];rfl,⟨rfl,λi p r a=>by simp at a⟩,by rw[ar hhp,ar hhp,af];rfl,LsAt.nil,.nil,λz=>hhc z.symm,(λz=>nomatch z),(λz=>nomatch z)⟩ λb o e hb=>?_
  rw[ar hb,ar hb,ar (aq e hhn),ar hb,ar (aq e hc)];exact e
def zt(C:Addr):Sp:=λvs H Q _=>∃(p c h:Addr) (cs hs:List Addr) (rss oss:List (List Nat)) (m:Nat),vs=[.ref p]/\PoAt C H p c h cs hs rss oss m/\oss.length<=200/\∀(l:Addr) H',H l=none->Same H H'->H' l=some (.lst (NV (oss.map HL)))->Q (.ref l) H'
theorem kU (T:Tx K mg t):FnOk P t.wd K mg t.bs CX0 1 t.eQ t.eN ["self"] (zt t.aL):=by
 have nd:=sc_Pour_heaps.nd;refine T.mD.okQ sc_Pour_heaps (λvs H Q E h=>?_) (λcdv A outer s H vs Q E hr h=>?_)
 ·obtain⟨p,c,h,cs,hs,rss,oss,m,rfl,_⟩:=h
  rfl
 ·obtain⟨p,c,h,cs,hs,rss,oss,m,rfl,P,hn,k⟩:=h
  obtain⟨dx,ob⟩:=P.ob;have hl:hs.length=oss.length:=P.ls.1;refine⟨_,(ak (aw (a0 (N:=["places"]) (tgs:=["places"]) (frs:=[]) (ix:=[]) ⟨rfl,by decide +kernel,rfl,by decide +kernel,rfl,rfl,GR,GR,rfl⟩ rfl (aS (K:=K) (cL (K:=K) (qv 0))) (λ_ _ _ _=>(aD (i:=0))) (λ_ _ _ _=>(ag (aU (K:=K)) (by rfl) T.bz aP (ah (qv 0) aa)))))),?_⟩;rw[show L2.start ["self"] [Rb p]=[some (Rb p)]from rfl];nofun;refine⟨p,t.aL,dx,_,_,rfl,ob,T.bR,T.bg,cb _ _ _,?_⟩;nofun;refine⟨h,rfl,⟨_,Q6 P.hp⟩,aX (a:=h) (vs:=hs.map Rb) (λi ys σ H'=>H'=H/\i<=hs.length/\ys=NV ((oss.map HL).take i)/\∃v,σ=[v]) (by rw[GF];exact au ⋯) (λi ys σ H' h=>by rw[h.2.2.1,aB,G5,GF];lia) (λi ys σ H' h=>by rw[h.1];exact Q6 P.hp) ⟨rfl,GW _,rfl,none,rfl⟩ ?_ ?_⟩
  ·rintro i ys σ H' x hx ⟨rfl,_,rfl,v,rfl⟩
   obtain⟨q,rfl,hq,_,hil⟩:=aF hx;have hio:i<oss.length:=by lia
   have eo:oss[i]? = some oss[i]:=by simp[hio]
   nofun;refine aJ (Q6 (P.ls.2 i q _ hq eo)) ?_;rw[aB];refine Rf (by rw[GF];exact hil) ⟨rfl,hil,?_,_,rfl⟩;rw[cB,G4,GK,eo];rfl
  ·rintro ys σ H' ⟨rfl,_,rfl,v,rfl⟩ l hl
   rw[GN (by rw[GF,GF];lia)];exact k l _ hl ((Rc H').new hl) af
theorem kW{α:Type}{xs:List α}(h:xs.length=n+2):∃gs a b,xs=gs++[a,b]/\gs.length=n:=by
 have e:=(II n xs).symm;have hd:(xs.drop n).length=2:=by rw[Hm];lia
 match hx:xs.drop n,hd with
 | [a,b],_=>exact⟨xs.take n,a,b,by rw[<-hx];exact e,by rw[G5];lia⟩
theorem we(n:Nat):ixN (n+1) (-1)=some n:=by
 unfold ixN;rw[if_neg (by decide),if_pos ⋯];congr 1;lia
theorem zu{α:Type}(xs:List α)(x y:α):atI (xs++[x,y]) (-2)=some x:=by
 have e:ixN (xs++[x,y]).length (-2)=some xs.length:=by
  unfold ixN;rw[if_neg (by decide),if_pos (by simp;lia)];congr 1;simp;lia
 unfold atI;rw[e];simp
theorem wg{α:Type}(xs:List α)(x y:α):(xs++[x]).set xs.length y=xs++[y]:=by
 simp
def E4(C:Addr):Sp:=λvs H Q _=>∃(p c h:Addr) (cs hs:List Addr) (rss oss:List (List Nat)) (x y:List Nat) (m:Nat),vs=[.ref p]/\PoAt C H p c h cs hs rss (oss++[x,y]) m/\rss.length<=60/\
 ∀(hs':List Addr) (z:List Nat) H',z.length=x.length+y.length->(∀q∈hs',q∈hs\/H q=none)->PoAt C H' p c h cs hs' rss (oss++[z]) m->(∀b o,H b=some o->b≠h->H' b=some o)->Q .non H'
theorem dS (T:Tx K mg t):FnOk P t.wd K mg t.bs CX0 3 t.cj t.cg ["self"] (E4 t.aL):=by
 have nd:=sc_Pour_merge_last_two.nd;refine T.eG.okQ sc_Pour_merge_last_two (λvs H Q E h=>?_) (λcdv A outer s H vs Q E hr h=>?_)
 ·obtain⟨p,c,h,cs,hs,rss,oss,x,y,m,rfl,_⟩:=h
  rfl
 ·obtain⟨p,c,h,cs,hs,rss,oss,x,y,m,rfl,P,hn,k⟩:=h
  obtain⟨dx,ob⟩:=P.ob;have hl:hs.length=oss.length+2:=by have:=P.ls.1;simpa using this
  obtain⟨gs,a,b,rfl,hgl⟩:=kW hl;have txa:H a=some (.lst (NV x)):=P.ls.2 oss.length a x (by rw[<-hgl];simp) (by simp);have tyb:H b=some (.lst (NV y)):=P.ls.2 (oss.length+1) b y (by rw[<-hgl];simp) (by simp);have hG:LsAt H gs oss:=⟨hgl,λi q ns e1 e2=>P.ls.2 i q ns (by rw[GU (bj e1)];exact e1) (by rw[GU (bj e2)];exact e2)⟩;have hsp:oss++[x,y]=(oss++[x])++[y]:=by simp
  have hsg:=P.sg;rw[hsp]at hsg;obtain⟨f1,g1,sy,l1⟩:=hsg.last;obtain⟨f0,g0,sx,l0⟩:=g1.last;have hna:h≠a:=λe=>P.hn (by rw[e];simp)
  have hnb:h≠b:=λe=>P.hn (by rw[e];simp)
  have hph:=P.ph;have hch:=P.ch;refine⟨_,(ae (aH (i:=1) (iY (K:=K) (cL (K:=K) (qv 0))))
   (ak (iR (aC (cX T) hr (T.fn 16 rfl) (ah (cL (K:=K) (qv 0)) (ah (aO (bc (K:=K)) (cL (K:=K) (qv 0)) (fj fk aj)) (ah (qv 1) aa)))) (cL (K:=K) (qv 0)) (fj fk aj)))),?_⟩
  rw[show L2.start ["self","last"] [Rb p]=[some (Rb p),none]from rfl];nofun;refine⟨p,t.aL,dx,_,_,rfl,ob,T.bR,T.bg,cb _ _ _,?_⟩;have thp:H h=some (.lst ((gs++[a]).map Rb++[Rb b])):=by rw[P.hp];simp
  refine⟨a9 thp,?_⟩;nofun;refine i5 thp ?_;have kp1:∀d o,H d=some o->d≠h->(upd H h (.lst ((gs++[a]).map Rb))) d=some o:=λd o e hd=>by rw[ar hd];exact e
  have th1:(upd H h (.lst ((gs++[a]).map Rb))) h=some (.lst ((gs++[a]).map Rb)):=af;generalize upd H h (.lst ((gs++[a]).map Rb))=H1 at kp1 th1;nofun;refine⟨p,t.aL,dx,_,_,rfl,kp1 _ _ ob hph,T.bR,T.ck,ff _ _ _,?_⟩;nofun;refine⟨p,t.aL,dx,_,_,rfl,kp1 _ _ ob hph,T.bR,T.bg,cb _ _ _,?_⟩;nofun;refine bx (Q6 th1) (v:=Rb a) (by rw[GP];exact nV _ _) ?_;have R1:RowsT H1 cs rss:=⟨P.rw.1,λi q r e1 e2=>kp1 _ _ (P.rw.2 i q r e1 e2) (bw (P.rw.2 i q r e1 e2) P.hp (by intro z;cases z))⟩;nofun;refine⟨c,a,b,cs,rss,x,y,f0,f1,rss.length,rfl,kp1 _ _ P.cm hch,R1,kp1 _ _ txa (λe=>hna e.symm),kp1 _ _ tyb (λe=>hnb e.symm),sx,sy,l0,l1,GJ _,hn,λl z H2 hl2 s2 tl hz=>?_⟩;have kp2:∀d o,H d=some o->d≠h->H2 d=some o:=λd o e hd=>s2 _ _ (kp1 d o e hd)
  have th2:=s2 _ _ th1;have hlh:l≠h:=λe=>by rw[e,th1]at hl2;cases hl2
  have hlc:l≠c:=λe=>by rw[e,kp1 _ _ P.cm hch]at hl2;cases hl2
  nofun;refine⟨p,t.aL,dx,_,_,rfl,kp2 _ _ ob hph,T.bR,T.bg,cb _ _ _,?_⟩;nofun;refine gR th2 (by rw[GP,GY];exact we _) ?_;rw[GP,LB,GF];have es:(gs.map Rb++[Rb a]).set gs.length (Rb l)=(gs++[l]).map Rb:=by
   rw[GP,<-GF (f:=Rb) (as:=gs),wg];rfl
  rw[es];have hzl:z.length=x.length+y.length:=by have:=sx.len;have:=sy.len;have:=hz.len;lia
  have kp3:∀d o,H d=some o->d≠h->(upd H2 h (.lst ((gs++[l]).map Rb))) d=some o:=λd o e hd=>by rw[ar hd];exact kp2 d o e hd
  have hln:H l=none:=by
   cases q:H l with
   | none=>rfl
   | some o=>rw[kp1 _ _ q hlh]at hl2;cases hl2
  refine k (gs++[l]) z _ hzl (λq hq=>by
   rcases Hc.mp hq with g|g
   ·exact .inl (Hy _ g)
   ·rw[G0.mp g];exact .inr hln) ⟨⟨dx,kp3 _ _ ob hph⟩,kp3 _ _ P.cm hch,⟨P.rw.1,λi q r e1 e2=>kp3 _ _ (P.rw.2 i q r e1 e2) (bw (P.rw.2 i q r e1 e2) P.hp (by intro z;cases z))⟩,af,?_,.snoc g0 hz ⋯,hch,?_,?_⟩ kp3
  ·refine LsAt.snoc ⟨hgl,λi q ns e1 e2=>kp3 _ _ (hG.2 i q ns e1 e2) (λe=>P.hn (by rw[<-e];exact Hy _ (G3 e1)))⟩ ?_
   rw[ar hlh];exact tl
  ·intro hm
   rcases Hc.mp hm with g|g
   ·exact P.cn (Hy _ g)
   ·exact hlc (G0.mp g).symm
  ·intro hm
   rcases Hc.mp hm with g|g
   ·exact P.hn (Hy _ g)
   ·exact hlh (G0.mp g).symm
theorem tZ{K:GH}{H:Hp}{Q:VK}(h:H p=some (.lst xs)\/H p=some (.tup xs))(k:∀(q:Addr) H',Same H H'->H' q=some (.tup xs)->Q (.ref q) H'):fU K [.ref p] H Q:=by
 rcases h with h|h
 ·exact⟨p,xs,rfl,.inl ⟨Q6 h,λl hl=>k l _ ((Rc H).new hl) af⟩⟩
 ·exact⟨p,xs,rfl,.inr ⟨Q7 h,k p H (Rc H) h⟩⟩
noncomputable def kX:List Nat->Nat->List Nat×Nat
 | y::x::r,t=>if x<=y then kX ((x+y)::r) (t+(x+y))else(y::x::r,t)
 | [y],t=>([y],t)
 | [],t=>([],t)
termination_by l=>l.length
theorem zw{x y t:Nat}(h:x<=y):kX (y::x::r) t=kX ((x+y)::r) (t+(x+y)):=by rw[kX,if_pos h]
noncomputable def Cq:List Nat->Bool
 | y::x::_=>decide (x<=y)
 | _=>false
theorem t5{l:List Nat}{t:Nat}(h:Cq l=false):kX l t=(l,t):=by
 match l,h with
 | [],_=>rw[kX]
 | [y],_=>rw[kX]
 | y::x::r,h=>rw[kX,if_neg (of_decide_eq_false h)]
theorem zx{l:List Nat}(h:1<l.length):∃(r:List Nat) (x y:Nat),l=r++[x,y]:=by
 obtain⟨r,x,y,e,_⟩:=kW (xs:=l) (n:=l.length - 2) ⋯;exact⟨r,x,y,e⟩
theorem t6(r:List Nat)(x y:Nat):Cq (r++[x,y]).reverse=decide (x<=y):=by
 rw[Ln];rfl
theorem mn{l:List Nat}(h:¬ 1<l.length):Cq l.reverse=false:=by
 match l,h with
 | [],_=>rfl
 | [_],_=>rfl
 | _::_::_,h=>simp at h
def Cr:Sp:=λvs H Q _=>∃(a:Addr) (ls:List Nat),vs=[.ref a]/\H a=some (.lst (NV ls))/\Q (.bl (Cq ls.reverse)) H
theorem t7 (T:Tx K mg t):FnOk P t.wd K mg t.bs CX0 1 (t.f 36) (t.d 36) ["lengths"] Cr:=by
 refine okT (N:=["lengths"]) (T.fn 36 rfl) (λH Q hr nd h=>?_)
 ·obtain⟨a,ls,rfl,ta,k⟩:=h
  refine⟨_,(ak (aw (bI (aN qb (ag (aU (K:=K)) (by rfl) T.bz aP (ah (qv 0) aa)) aj (ax _)) (bX (aN Ei (aO (bc (K:=K)) (qv 0) (fj fk aj)) (aO (bc (K:=K)) (qv 0) (fj fk aj)) (ax _)))))),?_⟩;dsimp only[st0];nofun;refine aJ (Q6 ta) ?_;rw[aB];nofun;refine aV (λg=>?_) (λg=>?_)
  ·obtain⟨r,x,y,rfl⟩:=zx (l:=ls) ⋯
   rw[t6]at k;have e1:NV (r++[x,y])=(NV r++[Q8 (x:Nat)])++[Q8 (y:Nat)]:=by simp[NV]
   have e2:NV (r++[x,y])=NV r++[Q8 (x:Nat),Q8 (y:Nat)]:=by simp[NV]
   nofun;refine bx (Q6 ta) (v:=Q8 (y:Nat)) (by rw[e1];exact nV _ _) ?_;nofun;refine bx (Q6 ta) (v:=Q8 (x:Nat)) (by rw[e2];exact zu _ _ _) ?_;nofun;have e3:decide ((y:Int)>=(x:Int))=decide (x<=y):=decide_eq_decide.mpr ⋯;rw[e3];exact k
  ·rw[mn ⋯]at k
   nofun;exact k
theorem zy{pt:Addr}{H:Hp}{dx:Addr}{fs gs:List (Str×V)}(T:fe pt H)(hl:H p=some (.ins C dx fs)):fe pt (upd H p (.ins C dx gs)):=by
 rcases T with z|⟨c,z,u⟩
 ·exact .inl (by rw[ar (bw z hl (by intro c;cases c))];exact z)
 ·exact .inr ⟨c,by rw[ar (bw z hl (by intro c;cases c))];exact z,by rw[ar (bw u hl (by intro c;cases c))];exact u⟩
theorem Cs{pt:Addr}{H:Hp}{h:Addr}(T:fe pt H)(hl:H h=some (.lst xs))(kp:∀b o,H b=some o->b≠h->H' b=some o):fe pt H':=by
 rcases T with z|⟨c,z,u⟩
 ·exact .inl (kp _ _ z (bw z hl (by intro c;cases c)))
 ·exact .inr ⟨c,kp _ _ z (bw z hl (by intro c;cases c)),kp _ _ u (bw u hl (by intro c;cases c))⟩
theorem ua{os:List Nat}(hp:os.Perm (GO qss.length))(hs:os.Pairwise (Rk qss 0)):Seg (rss++qss) rss.length (rss++qss).length (os.map λi=>rss.length+i):=by
 refine⟨?_,?_⟩
 ·rw[GY,show rss.length+qss.length - rss.length=qss.length by lia]
  have:=hp.map λi=>rss.length+i
  refine this.trans ?_;rw[Ju,List.map_add_range',NB]
 ·rw[Jr]
  refine hs.imp λ{i j} r=>?_
  unfold Rk at r ⊢;have e:∀i,(rss++qss).getD (rss.length+i) []=qss.getD i []:=λi=>by
   rw[GG,GG,G6 ⋯,show rss.length+i - rss.length=i by lia]
  rw[e,e];rcases r with r|⟨r1,r2⟩
  ·exact .inl r
  ·exact .inr ⟨r1,by lia⟩
def Kpp(p c h pt:Addr)(H H':Hp):Prop:=∀b o,H b=some o->b≠p->b≠c->b≠h->b≠pt->H' b=some o
theorem Kpp.same{c h pt:Addr}{H H2:Hp}(a:Kpp p c h pt H H1)(s:Same H1 H2):Kpp p c h pt H H2:=λb o e x1 x2 x3 x4=>s _ _ (a b o e x1 x2 x3 x4)
theorem Kpp.free{c h pt:Addr}{H:Hp}(K:Kpp p c h pt H H1)(P:PoAt C H1 p c h cs hs rss oss m)(T:fe pt H1)(e:H1 q=none):H q=none:=by
 cases z:H q with
 | none=>rfl
 | some o=>
  obtain⟨dx,ob⟩:=P.ob;have:=K q o z (λy=>by rw[y,ob]at e;cases e) (λy=>by rw[y,P.cm]at e;cases e) (λy=>by rw[y,P.hp]at e;cases e) (λy=>by rcases T with t|⟨_,t,_⟩<;>rw[<-y,e]at t<;>cases t);rw[this]at e;cases e
def zz(C pt:Addr):Sp:=λvs H Q _=>∃(p a c h:Addr) (cs hs ps:List Addr) (rss oss qss:List (List Nat)) (m w:Nat),vs=[.ref p,.ref a]/\PoAt C H p c h cs hs rss oss m/\(H a=some (.lst (ps.map Rb))/\True)/\RowsU H ps qss/\(∀r∈qss,r.length=w)/\
 rss.length+qss.length<=60/\oss.length<=100/\a≠c/\a≠h/\(∀q∈ps,q≠c/\q≠h)/\fe pt H/\
 ∀(cs' hs':List Addr) (oss':List (List Nat)) (H':Hp),PoAt C H' p c h cs' hs' (rss++qss) oss' (m+(kX (oss.map HL++[qss.length]).reverse 0).2)->(oss'.map HL).reverse=(kX (oss.map HL++[qss.length]).reverse 0).1->(∀q∈hs',q∈hs\/H q=none)->Kpp p c h pt H H'->fe pt H'->Q (.int ((kX (oss.map HL++[qss.length]).reverse 0).2:Nat)) H'
theorem RowsU.kp{c:Addr}{H:Hp}(h:RowsU H ps rss)(hc:∀q∈ps,q≠c)(kp:∀b o,H b=some o->b≠c->H1 b=some o):RowsU H1 ps rss:=⟨h.1,λi p z a b=>(h.2 i p z a b).elim (λe=>.inl (kp _ _ e (hc p (G3 a)))) (λe=>.inr (kp _ _ e (hc p (G3 a))))⟩
theorem Ct{H:Hp}(h:RowsT H ps rss)(g:RowsT H qs qss):RowsT H (ps++qs) (rss++qss):=by
 refine⟨by rw[GY,GY,h.1,g.1],λi p r a b=>?_⟩;by_cases l:i<ps.length
 ·rw[GU l]at a
  rw[GU (by rw[<-h.1];exact l)]at b;exact h.2 i p r a b
 ·rw[G6 ⋯]at a
  rw[G6 (by rw[<-h.1];lia),<-h.1]at b;exact g.2 _ p r a b
theorem mq (T:Tx K mg t):FnOk P t.wd K mg t.bs CX0 4 t.fM t.fL ["self","rows"] (zz t.aL t.pt):=by
 have nd:=sc_Pour_pour.nd;refine T.nJ.okQ sc_Pour_pour (λvs H Q E h=>?_) (λcdv A outer s H vs Q E hr h=>?_)
 ·obtain⟨p,a,c,h,cs,hs,ps,rss,oss,qss,m,w,rfl,_⟩:=h
  rfl
 ·obtain⟨p,a,c,h,cs,hs,ps,rss,oss,qss,m,w,rfl,P,hta,hR,hw,hn,hon,hac,hah,hps,hTab,k⟩:=h
  obtain⟨dx,ob⟩:=P.ob;have hpl:ps.length=qss.length:=hR.1;have hcl:cs.length=rss.length:=P.rw.1;have hhl:hs.length=oss.length:=P.ls.1;have hpc:=P.pc;have hph:=P.ph;have hch:=P.ch;obtain⟨ta,_⟩:=hta
  ·refine⟨_,(ae (aH (i:=2) (ag (aU (K:=K)) (by rfl) T.bz aP (ah (cL (K:=K) (qv 0)) aa)))
   (ae (bb (iZ (K:=K) (cL (K:=K) (qv 0)) (ah (a0 (N:=["row"]) (tgs:=["row"]) (frs:=[]) (ix:=[]) ⟨rfl,by decide +kernel,rfl,by decide +kernel,rfl,rfl,GR,GR,rfl⟩ rfl (aS (K:=K) (qv 1)) (λ_ _ _ _=>(aD (i:=0))) (λ_ _ _ _=>(bq (cG (K:=K)) (by rfl) T.bu aZ (ah (qv 0) aa)))) aa)))
   (ae (bb (br (K:=K) (cL (K:=K) (qv 0)) (ah (a0 (N:=["place","ahead"]) (tgs:=["place"]) (frs:=["ahead"]) (ix:=[2]) ⟨rfl,by decide +kernel,rfl,by decide +kernel,rfl,rfl,⟨⟨rfl,rfl,_,rfl,rfl⟩,GR⟩,⟨rfl,GR⟩,rfl⟩ rfl (aS (K:=K) (aC (c9 T) hr (T.fn 12 rfl) (ah (qv 1) aa))) (λ_ _ _ _=>(aD (i:=0))) (λ_ _ _ _=>(aI cV (qv 1) (qv 0)))) aa)))
   (ae (aH (i:=3) aj)
   (ae (cF Hb (bE (aC (t7 T) hr (T.fn 36 rfl) (ah (gj (qv 0) T.bR T.mF (kU T) (hr.mono (by decide)) T.mH fh ) aa))) (ae (bb (gj (qv 0) T.bR T.eH (dS T) (hr.mono (by decide)) T.eJ fh ))
   (ak (iS (i:=3) nd rfl (JU rfl) (ag (aU (K:=K)) (by rfl) T.bz aP (ah (aO (bc (K:=K)) (cL (K:=K) (qv 0)) (fj fk aj)) aa)) jO))))
   (ae (su (K:=K) (qv 0) (qv 3) jO)
   (ak (aw (qv 3))))))))),?_⟩
   rw[show L2.start ["self","rows","ahead","moves"] [Rb p,Rb a]=[some (Rb p),some (Rb a),none,none]from rfl];nofun;refine⟨p,t.aL,dx,_,_,rfl,ob,T.bR,T.ck,ff _ _ _,?_⟩;nofun;refine aJ (Q6 P.cm) ?_;rw[GF,hcl];nofun;refine⟨p,t.aL,dx,_,_,rfl,ob,T.bR,T.ck,ff _ _ _,?_⟩;refine⟨a9 P.cm,?_⟩;nofun;refine⟨a,rfl,⟨_,Q6 ta⟩,aX (a:=a) (vs:=ps.map Rb) (λi ys σ H'=>Same H H'/\(∃us:List Addr,ys=us.map Rb/\us.length=i/\i<=ps.length/\RowsT H' us (qss.take i))/\∃v,σ=[v]) (by rw[GF];exact au ⋯) (λi ys σ H' h=>by obtain⟨_,⟨us,rfl,e,_⟩,_⟩:=h;rw[GF,e]) (λi ys σ H' h=>Q6 (h.1 _ _ ta)) ⟨Rc _,⟨[],rfl,rfl,GW _,rfl,λi p r h=>by simp at h⟩,none,rfl⟩ ?_ ?_⟩
   ·rintro i ys σ H1 x hx ⟨s1,⟨us,rfl,hul,_,hU⟩,v,rfl⟩
    obtain⟨q,rfl,hq,_,hil⟩:=aF hx;have hiq:i<qss.length:=by lia
    have eq':qss[i]? = some qss[i]:=by simp[hiq]
    nofun;refine tZ ((hR.same s1).2 i q _ hq eq') λq2 H2 s2 t2=>?_
    refine Rf (by rw[GF];exact hil) ⟨s1.trans s2,⟨us++[q2],by rw[GP];rfl,by simp[hul],hil,?_⟩,_,rfl⟩;rw[G4,eq'];exact(hU.same s2).snoc t2
   rintro ys σ H1 ⟨s1,⟨us,rfl,hul,_,hU⟩,v,rfl⟩ z hz;rw[GF]at hul hU;rw[GN ⋯]at hU;have s2:=s1.new (o:=.lst (us.map Rb)) hz;have U2:=hU.same ((Rc H1).new (o:=.lst (us.map Rb)) hz);have tz:(upd H1 z (.lst (us.map Rb))) z=some (.lst (us.map Rb)):=af;generalize upd H1 z (.lst (us.map Rb))=H2 at s2 U2 tz;have P2:=P.same s2;nofun;refine i4 P2.cm tz (IU (HR (by rw[GF,GF];lia) (by decide:200<Rj))) ?_;rw[<-GP];have kp3:∀b o,H2 b=some o->b≠c->(upd H2 c (.lst ((cs++us).map Rb))) b=some o:=λb o e hb=>by rw[ar hb];exact e
   have tc3:(upd H2 c (.lst ((cs++us).map Rb))) c=some (.lst ((cs++us).map Rb)):=af;have T3:=tU (ys:=(cs++us).map Rb) (hTab.same s2) P2.cm;have R3:RowsT (upd H2 c (.lst ((cs++us).map Rb))) (cs++us) (rss++qss):=(Ct P2.rw U2).own P2.cm;generalize upd H2 c (.lst ((cs++us).map Rb))=H3 at kp3 tc3 T3 R3;have ob3:=kp3 _ _ (s2 _ _ ob) hpc;have ta3:=kp3 _ _ (s2 _ _ ta) hac;have th3:=kp3 _ _ P2.hp (λe=>hch e.symm);have L3:LsAt H3 hs oss:=⟨P2.ls.1,λi q ns e1 e2=>kp3 _ _ (P2.ls.2 i q ns e1 e2) (λe=>P.cn (by rw[<-e];exact G3 e1))⟩;have U3:RowsU H3 ps qss:=(hR.same s2).kp (λq hq=>(hps q hq).1) kp3;have K3:Kpp p c h t.pt H H3:=λb o e x1 x2 x3 x4=>kp3 _ _ (s2 _ _ e) x2
   nofun;refine⟨p,t.aL,dx,_,_,rfl,ob3,T.bR,T.bg,cb _ _ _,?_⟩;refine⟨a9 th3,?_⟩;nofun;refine⟨a,ps,qss,w,rfl,⟨ta3,trivial⟩,U3,hw,by lia,T3,λl os H4 hl sx4 T4 tl hperm hsort=>?_⟩;have hol:os.length=qss.length:=by have:=hperm.length_eq;rwa [Ic]at this
   nofun;refine⟨l,rfl,⟨_,Q6 tl⟩,aX (a:=l) (vs:=NV os) (λi ys σ H'=>H'=H4/\ys=NV ((os.map λi=>rss.length+i).take i)/\i<=os.length/\∃v,σ=[v,some (Q8 (rss.length:Nat))]) (by rw[aB];exact au ⋯) (λi ys σ H' h=>by rw[h.2.1,aB,G5,GF];lia) (λi ys σ H' h=>by rw[h.1];exact Q6 tl) ⟨rfl,rfl,GW _,none,rfl⟩ ?_ ?_⟩
   ·rintro i ys σ H' x hx ⟨rfl,rfl,_,v,rfl⟩
    have hil:=bj hx;obtain⟨o,rfl,ho,_,hi⟩:=aF hx;have e1:(rss.length:Int)+(o:Int)=((rss.length+o:Nat):Int):=by lia
    nofun;rw[e1];refine Rf hil ⟨rfl,?_,hi,_,rfl⟩;rw[cB,G4,GK,ho];rfl
   rintro ys σ H4' ⟨e4,rfl,_,v,rfl⟩ g hg;subst e4;rw[GN (by rw[GF,aB];exact GJ _)];have SG:=ua (rss:=rss) hperm hsort;have homl:(os.map λi=>rss.length+i).length=qss.length:=by rw[GF,hol]
   generalize (os.map λi=>rss.length+i)=om at SG homl;obtain⟨H5,e9,s5,tg⟩:=nwR hg (.lst (NV om));rw[e9];have th4:=sx4 _ _ (T3.ne th3) th3;have tc4:=sx4 _ _ (T3.ne tc3) tc3;have hgh:g≠h:=λe=>by rw[e,th4]at hg;cases hg
   have hgc:g≠c:=λe=>by rw[e,tc4]at hg;cases hg
   have hpt:p≠t.pt:=λz=>by
    rw[z]at ob3;rcases T3 with q|⟨c,q,_⟩<;>rw[ob3]at q<;>cases q
   have ob5:=s5 _ _ (sx4 _ _ hpt ob3);have th5:=s5 _ _ th4;nofun;refine aW th5 (by rw[GF];exact au ⋯) ?_;have P6:PoAt t.aL (upd H5 h (.lst (hs.map Rb++[Rb g]))) p c h (cs++us) (hs++[g]) (rss++qss) (oss++[om]) m:=by
    refine⟨⟨dx,by rw[ar hph];exact ob5⟩,by rw[ar hch];exact s5 _ _ tc4,((R3.sx T3 sx4).same s5).own th5,by rw[af,GP];rfl,?_,.snoc (P.sg.more (GJ _)) SG (by rw[GY];lia),hch,?_,?_⟩
    ·refine LsAt.snoc ⟨hhl,λi q ns e1 e2=>?_⟩ (by rw[ar hgh];exact tg)
     rw[ar (λe=>P.hn (by rw[<-e];exact G3 e1))];exact s5 _ _ (sx4 _ _ (T3.ne (L3.2 i q ns e1 e2)) (L3.2 i q ns e1 e2))
    ·intro hm
     rcases Hc.mp hm with g'|g'
     ·exact P.cn g'
     ·exact hgc (G0.mp g').symm
    ·intro hm
     rcases Hc.mp hm with g'|g'
     ·exact P.hn g'
     ·exact hgh (G0.mp g').symm
   have K6:Kpp p c h t.pt H (upd H5 h (.lst (hs.map Rb++[Rb g]))):=λb o e x1 x2 x3 x4=>by
    rw[ar x3];exact s5 _ _ (sx4 _ _ x4 (K3 b o e x1 x2 x3 x4))
   have T6:=tU (ys:=hs.map Rb++[Rb g]) (T4.same s5) th5;generalize upd H5 h (.lst (hs.map Rb++[Rb g]))=H6 at P6 K6 T6;have hgn:H g=none:=by
    cases z9:H g with
    | none=>rfl
    | some o9=>
     have k9:=sx4 _ _ (λy=>by rcases T4 with t9|⟨_,t9,_⟩<;>rw[<-y,hg]at t9<;>cases t9) (K3 g o9 z9 (λy=>by rw[y,sx4 _ _ hpt ob3]at hg;cases hg) hgc hgh (λy=>by rcases T4 with t9|⟨_,t9,_⟩<;>rw[<-y,hg]at t9<;>cases t9));rw[k9]at hg;cases hg
   have F6:∀q∈hs++[g],q∈hs\/H q=none:=λq hq=>by
    rcases Hc.mp hq with g'|g'
    ·exact .inl g'
    ·rw[G0.mp g'];exact .inr hgn
   have e0:kX ((oss++[om]).map HL).reverse 0=kX (oss.map HL++[qss.length]).reverse 0:=by rw[GP,LB,homl]
   nofun;refine⟨λmm σ H'=>∃(gs:List Addr) (pss:List (List Nat)) (mv:Nat),mm=pss.length/\pss.length<=101/\PoAt t.aL H' p c h (cs++us) gs (rss++qss) pss m/\(∀q∈gs,q∈hs\/H q=none)/\Kpp p c h t.pt H H'/\fe t.pt H'/\kX (pss.map HL).reverse mv=kX (oss.map HL++[qss.length]).reverse 0/\σ=[some (Rb p),some (Rb a),some (Q8 (rss.length:Nat)),some (Q8 (mv:Nat))],⟨_,hs++[g],oss++[om],0,rfl,by rw[GY,Ie];lia,P6,F6,K6,T6,e0,rfl⟩,?_⟩;rintro mm σ H7 ⟨gs,pss,mv,rfl,hpn,P7,F7,K7,T7,e7,rfl⟩;obtain⟨dx7,ob7⟩:=P7.ob;nofun;refine⟨p,dx7,_,rfl,ob7,iJ _ _ _ (by decide +kernel) (by decide +kernel) (by decide +kernel),?_⟩;refine⟨p,c,h,_,gs,_,pss,m,rfl,P7,by lia,λl1 H8 hl1 s8 tl1=>?_⟩;nofun;refine⟨l1,_,rfl,tl1,?_⟩;have P8:=P7.same s8;have K8:=K7.same s8;have T8:=T7.same s8;clear P7 K7 T7 s8 tl1 hl1 ob7;cases hd:Cq (pss.map HL).reverse with
   | true=>
    have h1:1<pss.length:=by
     apply LX;intro z;rw[mn (by rw[GF];exact z)]at hd;cases hd
    obtain⟨as,x,y,rfl,_⟩:=kW (xs:=pss) (n:=pss.length - 2) ⋯;have em:(as++[x,y]).map HL=as.map HL++[x.length,y.length]:=by simp
    rw[em,t6]at hd;have hxy:=of_decide_eq_true hd;rw[em,Ln,show([x.length,y.length]:List Nat).reverse++(as.map HL).reverse=y.length::x.length::(as.map HL).reverse from rfl,zw hxy]at e7;obtain⟨dx8,ob8⟩:=P8.ob;nofun;refine⟨_,λ_ _ z=>z,?_⟩;nofun;refine⟨p,dx8,_,rfl,ob8,iJ _ _ _ (by decide +kernel) (by decide +kernel) (by decide +kernel),?_⟩;refine⟨p,c,h,_,gs,_,as,x,y,m,rfl,P8,by rw[GY];lia,λgs' z H9 hzl F9 P9 kp9=>?_⟩;have K9:Kpp p c h t.pt H H9:=λb o e x1 x2 x3 x4=>kp9 _ _ (K8 b o e x1 x2 x3 x4) x3
    have T9:=Cs T8 P8.hp kp9;obtain⟨dx9,ob9⟩:=P9.ob;have hgl9:gs'.length=as.length+1:=by have:=P9.ls.1;simpa using this
    nofun;refine⟨p,t.aL,dx9,_,_,rfl,ob9,T.bR,T.bg,cb _ _ _,?_⟩;obtain⟨q9,hq9⟩:∃q,gs'[as.length]? = some q:=⟨gs'[as.length]'⋯,by simp[hgl9]⟩
    nofun;refine bx (Q6 P9.hp) (v:=Rb q9) (iX (by rw[GF,GK,hgl9,Kv,hq9];rfl)) ?_;have tq9:=P9.ls.2 as.length q9 z hq9 (by simp);nofun;refine aJ (Q6 tq9) ?_;rw[aB];nofun;have ez:(mv:Int)+(z.length:Int)=((mv+(x.length+y.length):Nat):Int):=by rw[hzl];lia
    refine⟨(as++[z]).length,by simp,gs',as++[z],mv+(x.length+y.length),rfl,by have:=hpn;simp at this ⊢;lia,P9,λq hq=>by
     rcases F9 q hq with g'|g'
     ·exact F7 q g'
     ·exact .inr (K8.free P8 T8 g'),K9,T9,?_,by rw[<-ez];rfl⟩
    rw[<-e7,GP,LB,Ln,hzl];rfl
   | false=>
    rw[t5 hd]at e7;rw[<-e7]at k;obtain⟨dx8,ob8⟩:=P8.ob;nofun;refine⟨p,t.aL,dx8,_,_,rfl,ob8,T.bR,T.cS,nF _ _ _,?_⟩;nofun;refine⟨dx8,_,ob8,by show 3<1000;decide,?_⟩;have em:(m:Int)+(mv:Int)=((m+mv:Nat):Int):=by lia
    rw[em,tY];nofun;have hpq:∀b o,H8 b=some o->b≠p->(upd H8 p (.ins t.aL dx8 (ir c h ((m+mv:Nat):Int)))) b=some o:=λb o e hb=>by rw[ar hb];exact e
    refine k _ gs pss _ ⟨⟨dx8,af⟩,hpq _ _ P8.cm (λe=>hpc e.symm),⟨P8.rw.1,λi q r e1 e2=>hpq _ _ (P8.rw.2 i q r e1 e2) (bw (P8.rw.2 i q r e1 e2) ob8 (by intro z;cases z))⟩,hpq _ _ P8.hp (λe=>hph e.symm),⟨P8.ls.1,λi q r e1 e2=>hpq _ _ (P8.ls.2 i q r e1 e2) (bw (P8.ls.2 i q r e1 e2) ob8 (by intro z;cases z))⟩,P8.sg,P8.ch,P8.cn,P8.hn⟩ rfl F7 (λb o e x1 x2 x3 x4=>hpq _ _ (K8 b o e x1 x2 x3 x4) x1) (zy T8 ob8)
def wj(C:Addr):Sp:=λvs H Q _=>∃(p c h:Addr) (cs hs:List Addr) (rss oss:List (List Nat)) (m:Nat),vs=[.ref p]/\PoAt C H p c h cs hs rss oss m/\rss.length<=60/\oss.length<=200/\∀(l:Addr) (os:List Nat) H',H l=none->Same H H'->H' l=some (.lst (NV os))->os.Perm (GO rss.length)->os.Pairwise (Rk rss 0)->Q (.ref l) H'
theorem Hps.zero{l:Nat}(h:Hps rss [] l):l=0:=by
 generalize e:([]:List (List Nat))=q at h;cases h with
 | nil=>rfl
 | snoc h s hl=>simp at e
theorem kY (T:Tx K mg t):FnOk P t.wd K mg t.bs CX0 3 t.eR t.eO ["self"] (wj t.aL):=by
 have nd:=sc_Pour_order.nd;refine T.mE.okQ sc_Pour_order (λvs H Q E h=>?_) (λcdv A outer s H vs Q E hr h=>?_)
 ·obtain⟨p,c,h,cs,hs,rss,oss,m,rfl,_⟩:=h
  rfl
 ·obtain⟨p,c,h,cs,hs,rss,oss,m,rfl,P,hn,hon,k⟩:=h
  obtain⟨dx,ob⟩:=P.ob;have hhl:hs.length=oss.length:=P.ls.1;refine⟨_,(ae (aH (i:=1) (aQ aa))
   (ae (cA Hb rfl (aS (K:=K) (rg (K:=K) (cL (K:=K) (qv 0)))) (aD (i:=2)) (ak (aH (i:=1) (aC (cX T) hr (T.fn 16 rfl) (ah (cL (K:=K) (qv 0)) (ah (qv 2) (ah (qv 1) aa)))))))
   (ak (aw (qv 1))))),?_⟩
  rw[show L2.start ["self","places","heap"] [Rb p]=[some (Rb p),none,none]from rfl];nofun;refine⟨aE (by simp),λl0 hl0=>?_⟩;obtain⟨H1,e9,s1,(tl0:H1 l0=some (.lst (NV [])))⟩:=nwR hl0 (.lst []);rw[e9];nofun;refine⟨p,t.aL,dx,_,_,rfl,s1 _ _ ob,T.bR,T.bg,cb _ _ _,?_⟩;nofun;refine⟨h,_,rfl,Q6 (s1 _ _ P.hp),λr hr=>?_⟩;rw[<-KR];obtain⟨H2,e9,s2,s12,tr⟩:=nwD s1 hr (.lst (hs.reverse.map Rb));rw[e9];nofun;refine⟨r,rfl,⟨_,Q6 tr⟩,du (a:=r) (xs:=hs.reverse.map Rb) (λi σ H'=>Same H H'/\H' r=some (.lst (hs.reverse.map Rb))/\(∃(l:Addr) (os:List Nat) (f:Nat),H l=none/\H' l=some (.lst (NV os))/\Hps rss (oss.take (oss.length - i)) f/\Seg rss f rss.length os/\f<=rss.length/\∃v2,σ=[some (Rb p),some (Rb l),v2])) ⟨s2,tr,l0,[],rss.length,hl0,s12 _ _ tl0,by rw[Le,GN (GJ _)];exact P.sg,⟨by simp,Jq⟩,GJ _,_,rfl⟩ (λi σ H' _ h=>Q6 h.2.1) ?_ ?_⟩
  ·rintro i x σ H3 hx ⟨s3,tr3,l,os,f,hl,tl,hH,hS,hf,v2,rfl⟩
   obtain⟨q,rfl,hq,_,hi⟩:=aF hx;rw[IF]at hi;rw[KW hi]at hq;have hio:oss.length - 1 - i<oss.length:=by lia
   have eo:oss[oss.length - 1 - i]? = some oss[oss.length - 1 - i]:=by simp[hio]
   rw[hhl]at hq;have tq:=P.ls.2 _ q _ hq eo;have et:oss.take (oss.length - i)=oss.take (oss.length - (i+1))++[oss[oss.length - 1 - i]]:=by
    rw[show oss.length - i=(oss.length - 1 - i)+1 by lia,show oss.length - (i+1)=oss.length - 1 - i by lia,G4,eo];rfl
   rw[et]at hH;obtain⟨f0,h0,so,l0f⟩:=hH.last;nofun;refine⟨p,t.aL,dx,_,_,rfl,s3 _ _ ob,T.bR,T.ck,ff _ _ _,?_⟩;nofun;refine⟨c,q,l,cs,rss,_,os,f0,f,rss.length,rfl,s3 _ _ P.cm,P.rw.same s3,s3 _ _ tq,tl,so,hS,l0f,hf,GJ _,hn,λl' z H4 hl' s4 tl' hz=>?_⟩;nofun;exact⟨s3.trans s4,s4 _ _ tr3,l',z,f0,s3.free hl',tl',h0,hz,by lia,_,rfl⟩
  ·rintro σ H3 ⟨s3,tr3,l,os,f,hl,tl,hH,hS,hf,v2,rfl⟩
   rw[GF,IF,hhl,JB,List.take_zero]at hH;have:=hH.zero;subst this;nofun;exact k l os H3 hl s3 tl (by have:=hS.perm;rwa [Le,<-Ju]at this) hS.sort
theorem xl:¬(("lists" : Str) = "marks"):=by decide +kernel
theorem xm:¬(("lists" : Str) = "heads"):=by decide +kernel
theorem xn:¬(("marks" : Str) = "heads"):=by decide +kernel
noncomputable def mgF (la ma ha:Addr):List (Str×V):=[("lists",Rb la),("marks",Rb ma),("heads",Rb ha)]
theorem zA (la ma ha:Addr):dA "heads" (.ref ha) (dA "marks" (.ref ma) (dA "lists" (.ref la) []))=mgF la ma ha:=by
 show dA "heads" (.ref ha) (dA "marks" (.ref ma) [(("lists" : Str),Rb la)])=_
 rw[je _ _ _ xl];show dA "heads" (.ref ha) [(("lists" : Str),Rb la),(("marks" : Str),Rb ma)]=_
 rw[je _ _ _ xm,je _ _ _ xn];rfl
theorem ub (la ma ha:Addr):(mgF la ma ha).lookup ("lists" : Str)=some (.ref la):=nk
theorem mr (la ma ha:Addr):(mgF la ma ha).lookup ("marks" : Str)=some (.ref ma):=by unfold mgF;rw[eZ (Hl xl),nk]
theorem gq (la ma ha:Addr):(mgF la ma ha).lookup ("heads" : Str)=some (.ref ha):=by unfold mgF;rw[eZ (Hl xm),eZ (Hl xn),nk]
theorem oW (la ma ha:Addr){f:Str}(h1:¬f = "lists") (h2:¬f = "marks") (h3:¬f = "heads"):(mgF la ma ha).lookup f=none:=by
 unfold mgF;rw[eZ h1,eZ h2,eZ h3];rfl
def HdsAt(H:Hp)(hts:List Addr)(hs:List HP):Prop:=hts.length=hs.length/\∀(i:Nat) t x,hts[i]? = some t->hs[i]? = some x->∃q,H t=some (.tup [.ref q,.int (x.2:Nat)])/\H q=some (.tup (NV x.1))
theorem HdsAt.same{H:Hp}{hs:List HP}(h:HdsAt H hts hs)(s:Same H H1):HdsAt H1 hts hs:=⟨h.1,λi t x a b=>by obtain⟨q,e1,e2⟩:=h.2 i t x a b;exact⟨q,s _ _ e1,s _ _ e2⟩⟩
theorem HdsAt.kp{H:Hp}{hs:List HP}{ha:Addr}(h:HdsAt H hts hs)(t:H ha=some (.lst xs))(k:∀b o,H b=some o->b≠ha->H1 b=some o):HdsAt H1 hts hs:=⟨h.1,λi u x a b=>by
 obtain⟨q,e1,e2⟩:=h.2 i u x a b;exact⟨q,k _ _ e1 (bw e1 t (by intro z;cases z)),k _ _ e2 (bw e2 t (by intro z;cases z))⟩⟩
theorem HdsAt.take{H:Hp}{hts:List Addr}{hs:List HP}(h:HdsAt H hts hs)(k:Nat):HdsAt H (hts.take k) (hs.take k):=⟨by rw[G5,G5,h.1],λi t x a b=>by
 rw[LC]at a b;split at a
 ·rename_i g;rw[if_pos g]at b;exact h.2 i t x a b
 ·cases a⟩
theorem HdsAt.drop{H:Hp}{hts:List Addr}{hs:List HP}(h:HdsAt H hts hs)(k:Nat):HdsAt H (hts.drop k) (hs.drop k):=⟨by rw[Hm,Hm,h.1],λi t x a b=>by
 rw[IM]at a b;exact h.2 _ t x a b⟩
theorem HdsAt.app{H:Hp}{gts:List Addr}{hs gs:List HP}(h:HdsAt H hts hs)(g:HdsAt H gts gs):HdsAt H (hts++gts) (hs++gs):=by
 refine⟨by rw[GY,GY,h.1,g.1],λi t x a b=>?_⟩;by_cases l:i<hts.length
 ·rw[GU l]at a
  rw[GU (by rw[<-h.1];exact l)]at b;exact h.2 i t x a b
 ·rw[G6 ⋯]at a
  rw[G6 (by rw[<-h.1];lia),<-h.1]at b;exact g.2 _ t x a b
theorem HdsAt.one{H:Hp}{t q:Addr}{x:HP}(e1:H t=some (.tup [.ref q,.int (x.2:Nat)]))(e2:H q=some (.tup (NV x.1))):HdsAt H [t] [x]:=⟨rfl,λi u y a b=>by
 match i,a,b with
 | 0,a,b=>cases a;cases b;exact⟨q,e1,e2⟩⟩
structure MgAt (C:Addr) (H:Hp) (m la ma ha:Addr) (ls:List Addr) (pss:List (List Addr)) (hts:List Addr) (L:List (List (List Nat))) (ms:List Nat) (hs:List HP):Prop where
 ob:∃dx,H m=some (.ins C dx (mgF la ma ha))
 tl:H la=some (.lst (ls.map Rb))
 ln:ls.length=L.length
 pn:pss.length=L.length
 lr:∀(i:Nat) l ps rss,ls[i]? = some l->pss[i]? = some ps->L[i]? = some rss->H l=some (.lst (ps.map Rb))/\RowsT H ps rss
 tm:H ma=some (.lst (NV ms))
 th:H ha=some (.lst (hts.map Rb))
 hh:HdsAt H hts hs
 n1:ma≠ha
 n2:la≠ma
 n3:la≠ha
 n4:∀l∈ls,l≠ma/\l≠ha
def KpM(ma ha:Addr)(H H':Hp):Prop:=∀b o,H b=some o->b≠ma->b≠ha->H' b=some o
section
variable{C:Addr}{H H1:Hp}{m la ma ha:Addr}{ls:List Addr}{pss:List (List Addr)}{hts gts:List Addr}{L:List (List (List Nat))}{ms ns:List Nat}{hs gs:List HP}
theorem MgAt.wm(h:MgAt C H m la ma ha ls pss hts L ms hs):m≠ma:=by obtain⟨dx,e⟩:=h.ob;exact bw e h.tm (by intro z;cases z)
theorem MgAt.wh(h:MgAt C H m la ma ha ls pss hts L ms hs):m≠ha:=by obtain⟨dx,e⟩:=h.ob;exact bw e h.th (by intro z;cases z)
theorem MgAt.keep(h:MgAt C H m la ma ha ls pss hts L ms hs)(k:KpM ma ha H H1)(tm:H1 ma=some (.lst (NV ns)))(th:H1 ha=some (.lst (gts.map Rb)))(hh:HdsAt H1 gts gs):MgAt C H1 m la ma ha ls pss gts L ns gs:=by
 obtain⟨dx,e⟩:=h.ob;refine⟨⟨dx,k _ _ e h.wm h.wh⟩,k _ _ h.tl h.n2 h.n3,h.ln,h.pn,λi l ps rss a b c=>?_,tm,th,hh,h.n1,h.n2,h.n3,h.n4⟩;obtain⟨x,y⟩:=h.lr i l ps rss a b c;have n:=h.n4 l (G3 a);refine⟨k _ _ x n.1 n.2,y.1,λj p r d e=>?_⟩;have z:=y.2 j p r d e;exact k _ _ z (bw z h.tm (by intro z;cases z)) (bw z h.th (by intro z;cases z))
theorem MgAt.same(h:MgAt C H m la ma ha ls pss hts L ms hs)(s:Same H H1):MgAt C H1 m la ma ha ls pss hts L ms hs:=h.keep (λb o e _ _=>s _ _ e) (s _ _ h.tm) (s _ _ h.th) (h.hh.same s)
theorem MgAt.list(h:MgAt C H m la ma ha ls pss hts L ms hs)(hn:n<L.length):∃l ps,ls[n]? = some l/\H l=some (.lst (ps.map Rb))/\RowsT H ps (L.getD n []):=by
 have h1:n<ls.length:=by rw[h.ln];exact hn
 have h2:n<pss.length:=by rw[h.pn];exact hn
 have e:L[n]? = some (L.getD n []):=by rw[GG,GE hn];rfl
 obtain⟨x,y⟩:=h.lr n ls[n] pss[n] _ (GE h1) (GE h2) e;exact⟨_,_,GE h1,x,y⟩
end
def zB:Sp:=λvs H Q _=>∃(a t q:Addr) (hts:List Addr) (hs:List HP) (x:HP),vs=[.ref a,.ref t]/\H a=some (.lst (hts.map Rb))/\HdsAt H hts hs/\H t=some (.tup [.ref q,.int (x.2:Nat)])/\H q=some (.tup (NV x.1))/\Fall hs/\hs.length<=200/\
 ∀k:Nat,k<=hs.length->(∀y∈hs.take k,hlt x y=true)->(∀y∈hs.drop k,hlt x y=false)->Q (.int (k:Nat)) H
theorem jD (T:Tx K mg t):FnOk P t.wd K mg t.bs CX0 1 (t.f 34) (t.d 34) ["heads","head"] zB:=by
 refine okT (N:=["heads","head","low","high","middle"]) (T.fn 34 rfl) (λH Q hr nd h=>?_)
 ·obtain⟨a,t',q,hts,hs,x,rfl,ta,hh,tt,tq,hf,hn,k⟩:=h
  have hl:hts.length=hs.length:=hh.1;refine⟨_,(ae (lD rfl nd (i:=2) (j:=3) rfl rfl (by decide) rfl rfl (ah aj (ah (ag (aU (K:=K)) (by rfl) T.bz aP (ah (qv 0) aa)) aa)))
   (ae (cF Hb (az n8 (qv 2) (qv 3) (ax _)) (ae (aH (i:=4) (aI dZ (aI cV (qv 2) (qv 3)) aj))
   (ak (aT (az (EH (K:=K) hr.units) (aO (bc (K:=K)) (qv 0) (qv 4)) (qv 1) (ax _)) (ak (aH (i:=2) (aI cV (qv 4) aj))) (ak (aH (i:=3) (qv 4)))))))
   (ak (aw (qv 2))))),?_⟩
  dsimp only[st0];nofun;refine aJ (Q6 ta) ?_;rw[GF];refine⟨_,_,rfl,?_⟩;dsimp only[HM];nofun;refine⟨λmm σ H'=>∃lo hi:Nat,mm=hi - lo/\H=H'/\lo<=hi/\hi<=hs.length/\(∀i,i<lo->hlt x (hs.getD i ([],0))=true)/\(∀i,hi<=i->i<hs.length->hlt x (hs.getD i ([],0))=false)/\∃v4,σ=[some (Rb a),some (Rb t'),some (Q8 (lo:Nat)),some (Q8 (hi:Nat)),v4],⟨_,0,hts.length,rfl,rfl,GW _,by lia,(λi h=>absurd h (JJ _)),(λi h1 h2=>by lia),_,rfl⟩,?_⟩;rintro mm σ H' ⟨lo,hi,rfl,rfl,h1,h2,h3,h4,v4,rfl⟩;nofun;refine aV (λg=>?_) (λg=>?_)
  ·refine⟨_,λ_ _ z=>z,?_⟩
   have em:((lo:Int)+(hi:Int)) / 2=(((lo+hi) / 2:Nat):Int):=by lia
   nofun;rw[em];have hmid:(lo+hi) / 2<hs.length:=by lia
   have hm1:lo<=(lo+hi) / 2:=by lia
   have hm2:(lo+hi) / 2<hi:=by lia
   generalize (lo+hi) / 2=mid at hmid hm1 hm2;have ets:hts[mid]? = some (hts[mid]'⋯):=GE _;have exs:hs[mid]? = some hs[mid]:=GE hmid;have egd:hs.getD mid ([],0)=hs[mid]:=by rw[GG,exs];rfl
   obtain⟨qm,e1,e2⟩:=hh.2 mid _ _ ets exs;refine bx (Q6 ta) (v:=Rb (hts[mid]'⋯)) (ba (by rw[GK,ets];rfl)) ?_;nofun;refine B6 e1 tt e2 tq ?_;have ev:HT.lt2 (bo x.1,[((x.2:Nat):Int)]) (bo hs[mid].1,[((hs[mid].2:Nat):Int)])=hlt x (hs.getD mid ([],0)):=by rw[egd];rfl
   rw[ev];cases hv:hlt x (hs.getD mid ([],0))with
   | true=>
    nofun;refine⟨hi - (mid+1),by lia,mid+1,hi,rfl,rfl,by lia,h2,λi hi'=>?_,h4,_,rfl⟩;by_cases e:i=mid
    ·rw[e];exact hv
    ·cases z:hlt x (hs.getD i ([],0))with
     | true=>rfl
     | false=>
      rw[nz z (hf.get (by lia:i<mid) hmid)]at hv;cases hv
   | false=>
    nofun;refine⟨mid - lo,by lia,lo,mid,rfl,rfl,hm1,by lia,h3,λi hi1 hi2=>?_,_,rfl⟩;by_cases e:i=mid
    ·rw[e];exact hv
    ·exact nz hv (hf.get (by lia:mid<i) hi2)
  ·have elh:lo=hi:=by lia
   subst elh;nofun;refine k lo h2 (λy hy=>?_) (λy hy=>?_)
   ·obtain⟨i,hi,rfl⟩:=Hv hy
    rw[G5]at hi;have:=h3 i ⋯;rw[GG,GE ⋯]at this;rw[KH];exact this
   ·obtain⟨i,hi,rfl⟩:=Hv hy
    rw[Hm]at hi;have:=h4 (lo+i) ⋯ ⋯;rw[GG,GE ⋯]at this;rw[JR];exact this
def Cu(C:Addr):Sp:=λvs H Q _=>∃(m la ma ha:Addr) (ls:List Addr) (pss:List (List Addr)) (hts:List Addr) (L:List (List (List Nat))) (ms:List Nat) (hs:List HP) (n:Nat),vs=[.ref m,.int (n:Nat)]/\MgAt C H m la ma ha ls pss hts L ms hs/\Fall hs/\hs.length<=100/\n<L.length/\ms.length=L.length/\L.length<=100/\
 ∀(hts':List Addr) (hs':List HP) H',MgAt C H' m la ma ha ls pss hts' L ms hs'->Fall hs'->hs'.Perm ((hd L ms n).toList++hs)->(∀b o,H b=some o->b≠ha->H' b=some o)->Q .non H'
theorem dy (T:Tx K mg t):FnOk P t.wd K mg t.bs CX0 2 t.cP t.cO ["self","number"] (Cu t.aA):=by
 have nd:=sc_Merge_show_head.nd;refine T.gQ.okQ sc_Merge_show_head (λvs H Q E h=>?_) (λcdv A outer s H vs Q E hr h=>?_)
 ·obtain⟨m,la,ma,ha,ls,pss,hts,L,ms,hs,n,rfl,_⟩:=h
  rfl
 ·obtain⟨m,la,ma,ha,ls,pss,hts,L,ms,hs,n,rfl,W,hf,hhl,hn,hml,hLl,k⟩:=h
  obtain⟨dx,ob⟩:=W.ob;obtain⟨l,ps,el,tl,R⟩:=W.list hn;have hpl:ps.length=(L.getD n []).length:=R.1;have hnm:n<ms.length:=by lia
  have emn:ms[n]? = some (ms.getD n 0):=by rw[GG,GE hnm];rfl
  refine⟨_,(ae (aH (i:=2) (aO (bc (K:=K)) (cL (K:=K) (qv 0)) (qv 1)))
   (ae (aH (i:=3) (aO (bc (K:=K)) (cL (K:=K) (qv 0)) (qv 1)))
   (ak (aT (az n8 (qv 3) (ag (aU (K:=K)) (by rfl) T.bz aP (ah (qv 2) aa)) (ax _)) (ae (aH (i:=4) (bB (ah (aO (bc (K:=K)) (qv 2) (qv 3)) (ah (qv 1) aa))))
   (ak (bb (rM (K:=K) (cL (K:=K) (qv 0)) (ah (aC (jD T) hr (T.fn 34 rfl) (ah (cL (K:=K) (qv 0)) (ah (qv 4) aa))) (ah (qv 4) aa)))))) aG)))),?_⟩
  rw[show L2.start ["self","number","rows","mark","head"] [Rb m,Q8 (n:Nat)]=[some (Rb m),some (Q8 (n:Nat)),none,none,none]from rfl];nofun;refine⟨m,t.aA,dx,_,_,rfl,ob,T.bW,T.cI,ub _ _ _,?_⟩;nofun;refine bx (Q6 W.tl) (v:=Rb l) (ba (by rw[GK,el];rfl)) ?_;nofun;refine⟨m,t.aA,dx,_,_,rfl,ob,T.bW,T.cu,mr _ _ _,?_⟩;nofun;refine bx (Q6 W.tm) (v:=Q8 (ms.getD n 0:Nat)) (ba (dh emn)) ?_;nofun;refine aJ (Q6 tl) ?_;rw[GF];nofun;refine aV (λg=>?_) (λg=>?_)
  ·have hlt0:ms.getD n 0<(L.getD n []).length:=by lia
   have er:(L.getD n [])[ms.getD n 0]? = some ((L.getD n [])[ms.getD n 0]):=GE hlt0;have ep:ps[ms.getD n 0]? = some (ps[ms.getD n 0]'⋯):=GE _;have tr:=R.2 _ _ _ ep er;have ehd:hd L ms n=some ((L.getD n [])[ms.getD n 0],n):=by unfold hd;rw[er];rfl
   generalize (L.getD n [])[ms.getD n 0]=row at er tr ehd;generalize ps[ms.getD n 0]'⋯=q at ep tr;nofun;refine bx (Q6 tl) (v:=Rb q) (ba (by rw[GK,ep];rfl)) ?_;nofun;refine⟨aE (by simp),λt' ht'=>?_⟩;have s1:=(Rc H).new (o:=.tup [Rb q,Q8 (n:Nat)]) ht';have tt':(upd H t' (.tup [Rb q,Q8 (n:Nat)])) t'=some (.tup [Rb q,Q8 (n:Nat)]):=af;generalize upd H t' (.tup [Rb q,Q8 (n:Nat)])=H1 at s1 tt';have W1:=W.same s1;nofun;refine⟨m,t.aA,dx,_,_,rfl,s1 _ _ ob,T.bW,T.bJ,gq _ _ _,?_⟩;refine⟨a9 W1.th,?_⟩;nofun;refine⟨m,t.aA,dx,_,_,rfl,s1 _ _ ob,T.bW,T.bJ,gq _ _ _,?_⟩;nofun;refine⟨ha,t',q,hts,hs,(row,n),rfl,W1.th,W1.hh,tt',s1 _ _ tr,hf,by lia,λkk hk h1 h2=>?_⟩;have hhl1:hts.length=hs.length:=W1.hh.1;nofun;refine rO W1.th (by rw[GF];lia) (au (by rw[GF];lia)) ?_;rw[<-Ki,<-Kj,show(hts.take kk).map Rb++Rb t'::(hts.drop kk).map Rb=(hts.take kk++t'::hts.drop kk).map Rb by simp];have kp:∀b o,H1 b=some o->b≠ha->(upd H1 ha (.lst ((hts.take kk++t'::hts.drop kk).map Rb))) b=some o:=λb o e n=>by rw[ar n];exact e
   nofun;refine k (hts.take kk++t'::hts.drop kk) (hs.take kk++(row,n)::hs.drop kk) _ (W1.keep (λb o e _ n=>kp b o e n) (kp _ _ W1.tm W1.n1) af ?_) (hf.ins h1 h2) ?_ (λb o e n=>kp _ _ (s1 _ _ e) n)
   ·have hA:HdsAt H1 (hts.take kk++[t']++hts.drop kk) (hs.take kk++[(row,n)]++hs.drop kk):=((W1.hh.take kk).app (HdsAt.one tt' (s1 _ _ tr))).app (W1.hh.drop kk)
    rw[HV,HV]at hA;exact hA.kp W1.th kp
   ·rw[ehd]
    exact vO hs (row,n) kk
  ·have ehd:hd L ms n=none:=by unfold hd;rw[JV ⋯];rfl
   nofun;exact k hts hs H W hf (by rw[ehd];exact IX _) (λb o e _=>e)
theorem jm{α:Type}(xs:List α):xs=[]\/∃ys y,xs=ys++[y]:=by
 rcases JW xs with h|⟨ys,y,h⟩
 ·exact .inl h
 ·exact .inr ⟨ys,y,by rw[h,KY]⟩
noncomputable def HpV(H:Hp)(v:V):Option HP->Prop
 | none=>v=.non
 | some x=>∃q r,v=.ref q/\H q=some (.tup [.int (x.2:Nat),.ref r])/\H r=some (.tup (NV x.1))
theorem oX(L:List (List (List Nat)))(ms:List Nat)(n:Nat):(dF L ms n).length<=n:=by
 unfold dF;exact HU (List.length_filterMap_le ..) (by rw[Ic];exact GJ _)
def zC(C:Addr):Sp:=λvs H Q _=>∃(m la ma ha:Addr) (ls:List Addr) (pss:List (List Addr)) (hts:List Addr) (L:List (List (List Nat))) (ms:List Nat) (hs:List HP),vs=[.ref m]/\MgAt C H m la ma ha ls pss hts L ms hs/\MgOk L ms hs/\L.length<=100/\
 ∀(v:V) (o:Option HP) (ms':List Nat) (hs':List HP) (hts':List Addr) H',NextOk L ms hs o ms' hs'->MgAt C H' m la ma ha ls pss hts' L ms' hs'->KpM ma ha H H'->HpV H' v o->Q v H'
theorem gr (T:Tx K mg t):FnOk P t.wd K mg t.bs CX0 3 t.eP t.eK ["self"] (zC t.aA):=by
 have nd:=sc_Merge_next.nd;refine T.mC.okQ sc_Merge_next (λvs H Q E h=>?_) (λcdv A outer s H vs Q E hr h=>?_)
 ·obtain⟨m,la,ma,ha,ls,pss,hts,L,ms,hs,rfl,_⟩:=h
  rfl
 ·obtain⟨m,la,ma,ha,ls,pss,hts,L,ms,hs,rfl,W,O,hL,k⟩:=h
  obtain⟨dx,ob⟩:=W.ob;have hhl:hts.length=hs.length:=W.hh.1;have hsl:hs.length<=100:=by rw[O.pe.length_eq];exact HU (oX _ _ _) hL
  refine⟨_,(ae (aT (fv (fW (K:=K) (cL (K:=K) (qv 0)))) (ak (aw dv)) aG)
   (ae (df (iY (K:=K) (cL (K:=K) (qv 0))) (bF (K:=K) (n:=2) rfl (av (aD (i:=1)) (av (aD (i:=2)) aY))))
   (ae (kx (K:=K) (cL (K:=K) (qv 0)) (qv 2) aj)
   (ae (bb (nj (qv 0) T.bW T.dH (dy T) (hr.mono (by decide)) T.dI fh (ah (qv 2) aa)))
   (ak (aw (bB (ah (qv 2) (ah (qv 1) aa))))))))),?_⟩
  rw[show L2.start ["self","row","number"] [Rb m]=[some (Rb m),none,none]from rfl];nofun;refine⟨m,t.aA,dx,_,_,rfl,ob,T.bW,T.bJ,gq _ _ _,?_⟩;refine⟨_,CY (Q6 W.th),?_⟩;rcases jm hs with rfl|⟨hs0,x,rfl⟩
  ·have:hts=[]:=HZ.mp hhl
   subst this;rw[show(!(Ox Rb []).isEmpty)=false from rfl];nofun;exact k .non none ms [] [] H (.inl ⟨rfl,rfl,rfl,rfl⟩) W (λb o e _ _=>e) rfl
  ·rcases jm hts with rfl|⟨hts0,t',rfl⟩
   ·simp at hhl
   have hl0:hts0.length=hs0.length:=by simpa using hhl
   have e0:(!((hts0++[t']).map Rb).isEmpty)=true:=by simp
   rw[e0];obtain⟨q,tt,tq⟩:=W.hh.2 hts0.length t' x (by simp) (by rw[hl0];simp);have h0:HdsAt H hts0 hs0:=by
    have:=W.hh.take hts0.length;rw[OV rfl,hl0,OV rfl]at this;exact this
   have hx:=jf (O.pe.mem_iff.mp (GT _ (G0.mpr rfl)));have hxm:x.2<ms.length:=by rw[O.ml];exact hx.1
   have emx:ms[x.2]? = some (ms.getD x.2 0):=by rw[GG,GE hxm];rfl
   have f0:Fall hs0:=(Hz.mp O.fa).1;nofun;refine⟨m,t.aA,dx,_,_,rfl,ob,T.bW,T.bJ,gq _ _ _,?_⟩;have th:H ha=some (.lst (hts0.map Rb++[Rb t'])):=by rw[W.th,GP];rfl
   refine⟨a9 th,?_⟩;nofun;refine i5 th ?_;have kp1:∀b o,H b=some o->b≠ha->(upd H ha (.lst (hts0.map Rb))) b=some o:=λb o e n=>by rw[ar n];exact e
   have W1:MgAt t.aA (upd H ha (.lst (hts0.map Rb))) m la ma ha ls pss hts0 L ms hs0:=W.keep (λb o e _ n=>kp1 b o e n) (kp1 _ _ W.tm W.n1) af (h0.kp W.th kp1);have tt1:=kp1 _ _ tt (bw tt W.th (by intro z;cases z));have tq1:=kp1 _ _ tq (bw tq W.th (by intro z;cases z));generalize upd H ha (.lst (hts0.map Rb))=H1 at kp1 W1 tt1 tq1;refine bf tt1 ?_;dsimp only[HM];obtain⟨dx1,ob1⟩:=W1.ob;nofun;refine⟨m,t.aA,dx1,_,_,rfl,ob1,T.bW,T.cu,mr _ _ _,?_⟩;nofun;refine⟨ma,_,_,_,rfl,rfl,Q6 W1.tm,by lia,dh (o:=ms.getD x.2 0) emx,?_⟩;nofun;refine⟨_,_,rfl,rfl,?_⟩;refine gR W1.tm (iW rfl (by rw[aB];exact hxm)) ?_;dsimp only;have eM:(NV ms).set x.2 (Q8 (((ms.getD x.2 0:Nat):Int)+1))=NV (ms.set x.2 (ms.getD x.2 0+1)):=by
    rw[show(((ms.getD x.2 0:Nat):Int)+1)=((ms.getD x.2 0+1:Nat):Int)by lia,lJ]
   rw[eM];have kp2:∀b o,H1 b=some o->b≠ma->(upd H1 ma (.lst (NV (ms.set x.2 (ms.getD x.2 0+1))))) b=some o:=λb o e n=>by rw[ar n];exact e
   have W2:MgAt t.aA (upd H1 ma (.lst (NV (ms.set x.2 (ms.getD x.2 0+1))))) m la ma ha ls pss hts0 L (ms.set x.2 (ms.getD x.2 0+1)) hs0:=W1.keep (λb o e n _=>kp2 b o e n) af (kp2 _ _ W1.th (Hl W1.n1)) (W1.hh.kp W1.tm kp2);have tq2:=kp2 _ _ tq1 (bw tq1 W1.tm (by intro z;cases z));generalize upd H1 ma (.lst (NV (ms.set x.2 (ms.getD x.2 0+1))))=H2 at kp2 W2 tq2;obtain⟨dx2,ob2⟩:=W2.ob;nofun;refine⟨m,dx2,_,rfl,ob2,oW _ _ _ (by decide +kernel) (by decide +kernel) (by decide +kernel),?_⟩;nofun;refine⟨m,la,ma,ha,ls,pss,hts0,L,_,hs0,x.2,rfl,W2,f0,by simp at hsl;lia,hx.1,by rw[Kn];exact O.ml,hL,λhts' hs' H3 W3 F3 P3 kp3=>?_⟩;have tq3:=kp3 _ _ tq2 (bw tq2 W2.th (by intro z;cases z));nofun;refine⟨aE (by simp),λq2 hq2=>?_⟩;have s4:=(Rc H3).new (o:=.tup [Q8 (x.2:Nat),Rb q]) hq2;exact k (.ref q2) (some x) _ hs' hts' _ (.inr ⟨hs0,x,rfl,rfl,rfl,F3,P3⟩) (W3.same s4) (λb o e n1 n2=>s4 _ _ (kp3 _ _ (kp2 _ _ (kp1 _ _ e n2) n1) n2)) ⟨q2,q,rfl,af,s4 _ _ tq3⟩
def LsL(H:Hp)(a:Addr)(ls:List Addr)(pss:List (List Addr))(L:List (List (List Nat))):Prop:=
 H a=some (.lst (ls.map Rb))/\ls.length=L.length/\pss.length=L.length/\∀(i:Nat) l ps rss,ls[i]? = some l->pss[i]? = some ps->L[i]? = some rss->H l=some (.lst (ps.map Rb))/\RowsT H ps rss
theorem LsL.same{H H1:Hp}{a:Addr}{ls:List Addr}{pss:List (List Addr)}{L:List (List (List Nat))}(h:LsL H a ls pss L)(s:Same H H1):LsL H1 a ls pss L:=⟨s _ _ h.1,h.2.1,h.2.2.1,λi l ps rss x y z=>by obtain⟨u,v⟩:=h.2.2.2 i l ps rss x y z;exact⟨s _ _ u,v.same s⟩⟩
theorem oY{rss:List (List Nat)}(h:RisL rss):∀m,m<=rss.length->0<m->∃z,bP rss m=[z]
 | 0,_,h0=>absurd h0 (Iw _)
 | 1,_,_=>⟨1,by rw[bP,if_neg ⋯];rfl⟩
 | m+2,hm,_=>by
  obtain⟨z,e⟩:=oY h (m+1) ⋯ ⋯;refine⟨z+1,?_⟩;have hb:brk rss (m+1)=false:=by
   unfold brk;have:=G7.mp h m (m+1) ⋯ ⋯ ⋯;rw[GG,GE ⋯,show m+1 - 1=m by lia,GG,GE ⋯];exact this
  rw[bP,if_pos ⟨by lia,hb⟩,e];exact gf [] z
theorem wk(h:RisL rss):(bP rss rss.length).length<=1:=by
 rcases JI rss.length with z|z
 ·rw[z];exact GW _
 ·obtain⟨y,e⟩:=oY h rss.length (GJ _) z
  rw[e];exact GJ _
def zD:Sp:=λvs H Q _=>∃(a:Addr) (ls:List Addr) (pss:List (List Addr)) (L:List (List (List Nat))),vs=[.ref a]/\LsL H a ls pss L/\L.length<=100/\(∀r∈L,RisL r/\r.length<=60)/\∀H',Same H H'->Q .non H'
theorem jn (T:Tx K mg t):FnOk P t.wd K mg t.bs CX0 2 (t.f 33) (t.d 33) ["lists"] zD:=by
 refine okT (N:=["lists","place","rows"]) (T.fn 33 rfl) (λH Q hr nd h=>?_)
 ·obtain⟨a,ls,pss,L,rfl,F,hL,hR,k⟩:=h
  obtain⟨ta,hll,hpl,F4⟩:=F;refine⟨_,(ak (cA Hb rfl (fY (K:=K) rfl T.cC (ah (qv 0) aa)) (bF (K:=K) (n:=2) rfl (av (aD (i:=1)) (av (aD (i:=2)) aY))) (ak (aT (az qb (ag (aU (K:=K)) (by rfl) T.bz aP (ah (aC (tL T) hr (T.fn 14 rfl) (ah (qv 2) aa)) aa)) aj (ax _)) (ak bV) aG)))),?_⟩;dsimp only[st0];nofun;refine⟨a,rfl,⟨_,Q6 ta⟩,d6 (n:=L.length) (λi σ H'=>Same H H'/\∃v w,σ=[some (Rb a),v,w]) ⟨Rc _,none,none,rfl⟩ ?_ ?_ ?_ ?_⟩
  ·rintro i σ H2 hi ⟨s2,_⟩
   exact⟨_,Rb (ls[i]'⋯),Q6 (s2 _ _ ta),by rw[GK,GE ⋯];rfl⟩
  ·rintro σ H2 ⟨s2,_⟩
   exact⟨_,Q6 (s2 _ _ ta),by rw[GF];exact hll⟩
  ·rintro i x σ H2 H3 hi ⟨s2,v,w,rfl⟩ ⟨q,x1,rfl,hq,rfl,hx1⟩
   have hx2:=hx1 _ (Q6 (s2 _ _ ta));rw[GK,GE (show i<ls.length by lia)]at hx2;cases hx2;obtain⟨u,v'⟩:=F4 i _ (pss[i]'⋯) L[i] (GE ⋯) (GE _) (GE hi);obtain⟨hr1,hr2⟩:=hR _ (GV hi);refine bf af ?_;dsimp only[HM];have s3:=s2.new (o:=.tup [Q8 (i:Nat),Rb (ls[i]'⋯)]) hq;generalize upd H2 q (.tup [Q8 (i:Nat),Rb (ls[i]'⋯)])=H3 at s3;nofun;refine⟨_,_,L[i],rfl,s3 _ _ u,v'.same s3,hr2,λl H4 hl s4 tl=>?_⟩;nofun;refine aJ (Q6 tl) ?_;rw[aB];have hf:=wk hr1;nofun;rw[decide_eq_false (show ¬(((bP L[i] L[i].length).length:Nat):Int) > 1 by lia)];nofun;exact⟨s3.trans s4,_,_,rfl⟩
  ·rintro σ H2 ⟨s2,v,w,rfl⟩
   nofun;exact k _ s2
def LsN(H:Hp)(xs:List Addr)(xss:List (List Addr))(L:List (List (List Nat))):Prop:=∀(j:Nat) l ps rss,xs[j]? = some l->xss[j]? = some ps->L[j]? = some rss->H l=some (.lst (ps.map Rb))/\RowsT H ps rss
theorem oZ{H:Hp}{xs:List Addr}{xss:List (List Addr)}{L:List (List (List Nat))}(h:LsN H xs xss L)(s:Same H H1):LsN H1 xs xss L:=λj l ps rss a b c=>by obtain⟨u,v⟩:=h j l ps rss a b c;exact⟨s _ _ u,v.same s⟩
theorem wo{H:Hp}{xs:List Addr}{xss:List (List Addr)}{L:List (List (List Nat))}(h:LsN H xs xss L)(hl:xs.length=xss.length)(e:L[xs.length]? = some rss)(t:H l=some (.lst (ps.map Rb)))(R:RowsT H ps rss):LsN H (xs++[l]) (xss++[ps]) L:=by
 intro j l' ps' rss' a b c;by_cases g:j<xs.length
 ·rw[GU g]at a
  rw[GU ⋯]at b;exact h j l' ps' rss' a b c
 ·rw[G6 ⋯]at a
  rw[G6 ⋯,<-hl]at b;have hj:j - xs.length=0:=by have:=bj a;simp at this;lia
  rw[hj]at a b;cases a;cases b;have:j=xs.length:=by lia
  rw[this,e]at c;cases c;exact⟨t,R⟩
def zE(C:Addr):Sp:=λvs H Q _=>∃(m dx a:Addr) (ls:List Addr) (pss:List (List Addr)) (L:List (List (List Nat))),vs=[.ref m,.ref a]/\H m=some (.ins C dx [])/\LsL H a ls pss L/\L.length<=100/\(∀r∈L,RisL r/\r.length<=60)/\
 ∀(la ma ha:Addr) (ls':List Addr) (pss':List (List Addr)) (hts:List Addr) (hs:List HP) H',H la=none->H ma=none->H ha=none->(∀l∈ls',H l=none)->MgAt C H' m la ma ha ls' pss' hts L (GS L.length 0) hs->MgOk L (GS L.length 0) hs->(∀b o,H b=some o->b≠m->H' b=some o)->Q .non H'
theorem RowsT.snocS{H:Hp}(h:RowsT H ps rss)(e:H p=some (.tup (NV r))):RowsT H (ps++[p]) (rss++[r]):=RowsT.snoc h e
theorem wq(k:Nat):(GS k [Q8 0]).flatten=NV (GS k 0):=by
 unfold NV;rw[IZ]
 induction k with
 | zero=>rfl
 | succ k ih=>rw[Ia,Jg,ih,Ia];rfl
theorem gP (T:Tx K mg t):FnOk P t.wd K mg t.bs CX0 3 t.cZ t.cY ["self","lists"] (zE t.aA):=by
 have nd:=sc_Merge___init__.nd;refine T.iw.okQ sc_Merge___init__ (λvs H Q E h=>?_) (λcdv A outer s H vs Q E hr h=>?_)
 ·obtain⟨m,dx,a,ls,pss,L,rfl,_⟩:=h
  rfl
 ·obtain⟨m,dx,a,ls,pss,L,rfl,hm,F,hL,hR,k⟩:=h
  have hll:ls.length=L.length:=F.2.1;have hpl:pss.length=L.length:=F.2.2.1;have ta:=F.1;have hi0:=F.2.2.2
  ·refine⟨_,(ae (bb (aC (jn T) hr (T.fn 33 rfl) (ah (qv 1) aa)))
   (ae (jW (K:=K) (qv 0) (a0 (N:=["rows"]) (tgs:=["rows"]) (frs:=[]) (ix:=[]) ⟨rfl,by decide +kernel,rfl,by decide +kernel,rfl,rfl,GR,GR,rfl⟩ rfl (aS (K:=K) (qv 1)) (λ_ _ _ _=>(aD (i:=0))) (λ_ _ _ _=>(a0 (N:=["row"]) (tgs:=["row"]) (frs:=[]) (ix:=[]) ⟨rfl,by decide +kernel,rfl,by decide +kernel,rfl,rfl,GR,GR,rfl⟩ rfl (aS (K:=K) (qv 0)) (λ_ _ _ _=>(aD (i:=0))) (λ_ _ _ _=>(bq (cG (K:=K)) (by rfl) T.bu aZ (ah (qv 0) aa)))))))
   (ae (jW (K:=K) (qv 0) (aI qX (aQ (ah aj aa)) (ag (aU (K:=K)) (by rfl) T.bz aP (ah (qv 1) aa))))
   (ae (jW (K:=K) (qv 0) (aQ aa))
   (ak (cA Hb rfl (dY rfl T.cz (ah (ag (aU (K:=K)) (by rfl) T.bz aP (ah (qv 1) aa)) aa)) (aD (i:=2)) (ak (bb (nj (qv 0) T.bW T.dH (dy T) (hr.mono (by decide)) T.dI fh (ah (qv 2) aa)))))))))),?_⟩
   rw[show L2.start ["self","lists","number"] [Rb m,Rb a]=[some (Rb m),some (Rb a),none]from rfl];nofun;refine⟨a,ls,pss,L,rfl,F,hL,hR,λH1 s1=>?_⟩;have ta1:=s1 _ _ ta;nofun;refine⟨a,rfl,⟨_,Q6 ta1⟩,aX (a:=a) (vs:=ls.map Rb) (λi ys σ H'=>Same H1 H'/\(∃(xs:List Addr) (xss:List (List Addr)),ys=xs.map Rb/\xs.length=i/\xss.length=i/\(∀x∈xs,H1 x=none)/\LsN H' xs xss L)/\i<=ls.length/\∃v,σ=[v]) (by rw[GF];exact au ⋯) (λi ys σ H' h=>by obtain⟨_,⟨xs,xss,rfl,e,_⟩,_⟩:=h;rw[GF,e]) (λi ys σ H' h=>Q6 (h.1 _ _ ta1)) ⟨Rc _,⟨[],[],rfl,rfl,rfl,(λx h=>nomatch h),λj l ps rss h=>by simp at h⟩,GW _,none,rfl⟩ ?_ ?_⟩
   ·rintro i ys σ H2 x hx ⟨s2,⟨xs,xss,rfl,hxl,hxs,hxn,hX⟩,hi,v,rfl⟩
    have hil:=bj hx;obtain⟨l,rfl,el,_,hi'⟩:=aF hx;have hiL:i<L.length:=by lia
    have eL:L[i]? = some L[i]:=GE hiL;obtain⟨tl,R⟩:=hi0 i l (pss[i]'⋯) L[i] el (GE _) eL;generalize pss[i]'⋯=ps at tl R;have hrl:=(hR _ (GV hiL)).2;generalize L[i]=rss at eL R hrl;have hpl':ps.length=rss.length:=R.1;have s12:=s1.trans s2;have tl2:=s12 _ _ tl;nofun;refine⟨l,rfl,⟨_,Q6 tl2⟩,aX (a:=l) (vs:=ps.map Rb) (λj ys σ H'=>Same H2 H'/\(∃zs:List Addr,ys=zs.map Rb/\zs.length=j/\RowsT H' zs (rss.take j))/\j<=ps.length/\∃v,σ=[v]) (by rw[GF];exact au ⋯) (λj ys σ H' h=>by obtain⟨_,⟨zs,rfl,e,_⟩,_⟩:=h;rw[GF,e]) (λj ys σ H' h=>Q6 (h.1 _ _ tl2)) ⟨Rc _,⟨[],rfl,rfl,rfl,λi p r h=>by simp at h⟩,GW _,none,rfl⟩ ?_ ?_⟩
    ·rintro j ys σ H3 x hx ⟨s3,⟨zs,rfl,hzl,hZ⟩,hj,v,rfl⟩
     have hjl:=bj hx;obtain⟨p,rfl,ep,_,hj'⟩:=aF hx;have hjr:j<rss.length:=by lia
     have er:rss[j]? = some rss[j]:=GE hjr;have tp:=R.2 j p _ ep er;have s13:=s12.trans s3;nofun;refine⟨p,_,rfl,.inr ⟨Q7 (s13 _ _ tp),?_⟩⟩;refine Rf hjl ⟨s3,⟨zs++[p],by rw[GP];rfl,by simp[hzl],?_⟩,by lia,_,rfl⟩;rw[G4,er];exact RowsT.snocS hZ (s13 _ _ tp)
    ·rintro ys σ H3 ⟨s3,⟨zs,rfl,hzl,hZ⟩,hj,v,rfl⟩ c hc
     rw[GN (by rw[GF];lia)]at hZ;have s4:=s3.new (o:=.lst (zs.map Rb)) hc;have s34:=(Rc H3).new (o:=.lst (zs.map Rb)) hc;refine Rf hil ⟨s2.trans s4,⟨xs++[c],xss++[zs],by rw[GP];rfl,by simp[hxl],by simp[hxs],λx hx=>?_,?_⟩,by lia,_,rfl⟩
     ·rcases Hc.mp hx with g|g
      ·exact hxn x g
      ·rw[G0.mp g];exact(s2.trans s3).free hc
     ·exact wo (oZ hX s4) ⋯ (by rw[hxl];exact eL) af (hZ.same s34)
   rintro ys σ H2 ⟨s2,⟨xs,xss,rfl,hxl,hxs,hxn,hX⟩,hi,v,rfl⟩ la hla;rw[GF]at hxl hxs;have s3:=s2.new (o:=.lst (xs.map Rb)) hla;have tla:(upd H2 la (.lst (xs.map Rb))) la=some (.lst (xs.map Rb)):=af;have X3:=oZ hX ((Rc H2).new (o:=.lst (xs.map Rb)) hla);have s03:=s1.trans s3;have hla0:H la=none:=(s1.trans s2).free hla;have hxla:∀x∈xs,x≠la:=λx hx e=>by
    obtain⟨j,hj,rfl⟩:=Hv hx;have hjL:j<L.length:=by lia
    obtain⟨u,_⟩:=hX j _ (xss[j]'⋯) _ (GE hj) (GE _) (GE hjL);rw[e,hla]at u;cases u
   generalize upd H2 la (.lst (xs.map Rb))=H3 at s3 tla X3 s03;have hm3:=s03 _ _ hm;have hmla:m≠la:=bw hm3 tla (by intro z;cases z);nofun;refine⟨m,t.aA,dx,_,rfl,hm3,T.bW,T.cI,by show 0<1000;decide,?_⟩;have kp4:∀c o,H3 c=some o->c≠m->(upd H3 m (.ins t.aA dx (dA "lists" (.ref la) []))) c=some o:=λc o e hc=>by rw[ar hc];exact e
   have ob4:(upd H3 m (.ins t.aA dx (dA "lists" (.ref la) []))) m=some (.ins t.aA dx (dA "lists" (.ref la) [])):=af;generalize upd H3 m (.ins t.aA dx (dA "lists" (.ref la) []))=H4 at kp4 ob4;have ham:a≠m:=λe=>by rw[e,hm]at ta;cases ta
   have ta4:=kp4 _ _ (s03 _ _ ta) ham;nofun;refine⟨aE (by simp),λz0 hz0=>?_⟩;obtain⟨H5,e9,s5,tz0⟩:=nwR hz0 (.lst [Q8 0]);rw[e9];nofun;refine aJ (Q6 (s5 _ _ ta4)) ?_;rw[GF,hll];nofun;refine⟨z0,_,_,rfl,rfl,tz0,by lia,by lia,aE (by simp;lia),λma hma=>?_⟩;have erep:(GS (((L.length:Nat):Int).toNat) [Q8 0]).flatten=NV (GS L.length 0):=by rw[Ih];exact wq _
   rw[erep];obtain⟨H6,e9,s6,tma⟩:=nwS s5 hma (.lst (NV (GS L.length 0)));rw[e9];have ob6:=s6 _ _ ob4;have hF1:=kP "lists" (Rb la) [];have hmam:ma≠m:=bw tma ob6 (by intro z;cases z);nofun;refine⟨m,t.aA,dx,_,rfl,ob6,T.bW,T.cu,by simp at hF1;lia,?_⟩;have hF2:=kP "marks" (Rb ma) (dA "lists" (Rb la) []);generalize eF2:dA "marks" (Rb ma) (dA "lists" (Rb la) [])=F2 at hF2;have kp7:∀c o,H6 c=some o->c≠m->(upd H6 m (.ins t.aA dx F2)) c=some o:=λc o e hc=>by rw[ar hc];exact e
   have ob7:(upd H6 m (.ins t.aA dx F2)) m=some (.ins t.aA dx F2):=af;generalize upd H6 m (.ins t.aA dx F2)=H7 at kp7 ob7;nofun;refine⟨aE (by simp),λha hha=>?_⟩;obtain⟨H8,e9,s8,(tha:H8 ha=some (.lst (([]:List Addr).map Rb)))⟩:=nwR hha (.lst []);rw[e9];have ob8:=s8 _ _ ob7;have hham:ha≠m:=bw tha ob8 (by intro z;cases z);nofun;refine⟨m,t.aA,dx,_,rfl,ob8,T.bW,T.bJ,by simp at hF1;lia,?_⟩;rw[<-eF2,zA];have k39:∀c o,H3 c=some o->c≠m->(upd H8 m (.ins t.aA dx (mgF la ma ha))) c=some o:=λc o e hc=>by rw[ar hc];exact s8 _ _ (kp7 _ _ (s6 _ _ (kp4 c o e hc)) hc)
   have tma9:(upd H8 m (.ins t.aA dx (mgF la ma ha))) ma=some (.lst (NV (GS L.length 0))):=by rw[ar hmam];exact s8 _ _ (kp7 _ _ tma hmam)
   have tha9:(upd H8 m (.ins t.aA dx (mgF la ma ha))) ha=some (.lst (([]:List Addr).map Rb)):=by rw[ar hham];exact tha
   have ob9:(upd H8 m (.ins t.aA dx (mgF la ma ha))) m=some (.ins t.aA dx (mgF la ma ha)):=af;have mah:ma≠ha:=λe=>by rw[<-e,kp7 _ _ tma hmam]at hha;cases hha
   have lama:la≠ma:=λe=>by rw[<-e,s5 _ _ (kp4 _ _ tla (Hl hmla))]at hma;cases hma
   have laha:la≠ha:=λe=>by rw[<-e,kp7 _ _ (s6 _ _ (kp4 _ _ tla (Hl hmla))) (Hl hmla)]at hha;cases hha
   generalize upd H8 m (.ins t.aA dx (mgF la ma ha))=H9 at k39 tma9 tha9 ob9;have tX:∀(j:Nat) l ps rss,xs[j]? = some l->xss[j]? = some ps->L[j]? = some rss->H3 l=some (.lst (ps.map Rb))/\RowsT H3 ps rss:=X3
   have W9:MgAt t.aA H9 m la ma ha xs xss [] L (GS L.length 0) []:=by
    refine⟨⟨dx,ob9⟩,k39 _ _ tla (Hl hmla),by lia,by lia,λj l ps rss x y z=>?_,tma9,tha9,⟨rfl,λi t x h=>by simp at h⟩,mah,lama,laha,λl hl=>?_⟩
    ·obtain⟨u,v⟩:=X3 j l ps rss x y z
     refine⟨k39 _ _ u (bw u hm3 (by intro z;cases z)),v.1,λi p r x y=>?_⟩;have z:=v.2 i p r x y;exact k39 _ _ z (bw z hm3 (by intro z;cases z))
    ·obtain⟨j,hj,rfl⟩:=Hv hl
     obtain⟨u,_⟩:=X3 j _ (xss[j]'⋯) _ (GE hj) (GE _) (GE ⋯);have um:xs[j]≠m:=bw u hm3 (by intro z;cases z);exact⟨(λe=>by rw[<-e,s5 _ _ (kp4 _ _ u um)]at hma;cases hma),(λe=>by rw[<-e,kp7 _ _ (s6 _ _ (kp4 _ _ u um)) um]at hha;cases hha)⟩
   have n03:∀c,c≠m->H9 c=none->H c=none:=λc hc e=>by
    cases z:H c with
    | none=>rfl
    | some o=>rw[k39 _ _ (s03 _ _ z) hc]at e;cases e
   have hma0:H ma=none:=by
    cases z:H ma with
    | none=>rfl
    | some o=>rw[s5 _ _ (kp4 _ _ (s03 _ _ z) hmam)]at hma;cases hma
   have hha0:H ha=none:=by
    cases z:H ha with
    | none=>rfl
    | some o=>rw[kp7 _ _ (s6 _ _ (kp4 _ _ (s03 _ _ z) hham)) hham]at hha;cases hha
   have ta9:=k39 _ _ (s03 _ _ ta) ham;nofun;refine aJ (Q6 ta9) ?_;rw[GF,hll];nofun;refine⟨L.length,rfl,by lia,by lia,fQ (n:=L.length) (λi σ H'=>(∀c o,H9 c=some o->c≠ha->H' c=some o)/\(∃(hts:List Addr) (hs:List HP),MgAt t.aA H' m la ma ha xs xss hts L (GS L.length 0) hs/\Fall hs/\hs.Perm (dF L (GS L.length 0) i))/\∃v2,σ=[some (Rb m),some (Rb a),v2]) ⟨λc o e _=>e,⟨[],[],W9,Jq,IX _⟩,_,rfl⟩ ?_ ?_⟩
   ·rintro i σ HA hi ⟨kA,⟨hts,hs,WA,fA,pA⟩,v2,rfl⟩
    obtain⟨dxA,obA⟩:=WA.ob;have ei:(0:Int)+(i:Int)=((i:Nat):Int):=by lia
    nofun;refine⟨m,dxA,_,rfl,obA,oW _ _ _ (by decide +kernel) (by decide +kernel) (by decide +kernel),?_⟩;nofun;refine⟨m,la,ma,ha,xs,xss,hts,L,_,hs,i,by rw[ei];rfl,WA,fA,by rw[pA.length_eq];exact HU (oX _ _ _) ⋯,hi,by rw[Iz],hL,λhts' hs' HB WB fB pB kB=>?_⟩;nofun;refine⟨λc o e n=>kB _ _ (kA c o e n) n,⟨hts',hs',WB,fB,?_⟩,_,rfl⟩;rw[jY];exact pB.trans ((pA.append_left _).trans JX)
   ·rintro σ HA ⟨kA,⟨hts,hs,WA,fA,pA⟩,v2,rfl⟩
    nofun;exact k la ma ha xs xss hts hs HA hla0 hma0 hha0 (λl hl=>s1.free (hxn l hl)) WA ⟨by rw[Iz],fA,pA⟩ λc o e hc=>kA _ _ (k39 _ _ (s03 _ _ e) hc) (aq e hha0)
theorem MgAt.spare{H:Hp}{m la ma ha:Addr}{ls:List Addr}{pss:List (List Addr)}{L:List (List (List Nat))}{hs:List HP}{Z:Addr->Prop}(h:MgAt C H m la ma ha ls pss hts L ms hs)(k:∀b o,H b=some o->(∀xs,o=.lst xs->¬Z b)->H1 b=some o)(z1:¬Z la)(z2:¬Z ma)(z3:¬Z ha)(z4:∀l∈ls,¬Z l):MgAt C H1 m la ma ha ls pss hts L ms hs:=by
 obtain⟨dx,e⟩:=h.ob;refine⟨⟨dx,k _ _ e λxs z=>nomatch z⟩,k _ _ h.tl λ_ _=>z1,h.ln,h.pn,λi l ps rss a b c=>?_,k _ _ h.tm λ_ _=>z2,k _ _ h.th λ_ _=>z3,⟨h.hh.1,λi t x a b=>?_⟩,h.n1,h.n2,h.n3,h.n4⟩
 ·obtain⟨x,y⟩:=h.lr i l ps rss a b c
  exact⟨k _ _ x λ_ _=>z4 l (G3 a),y.1,λj p r d e=>k _ _ (y.2 j p r d e) λxs z=>nomatch z⟩
 ·obtain⟨q,e1,e2⟩:=h.hh.2 i t x a b
  exact⟨q,k _ _ e1 (λxs z=>nomatch z),k _ _ e2 (λxs z=>nomatch z)⟩
def Sep(la ma ha:Addr)(ls:List Addr)(x y:Addr):Prop:=(la≠x/\la≠y)/\(ma≠x/\ma≠y)/\(ha≠x/\ha≠y)/\∀l∈ls,l≠x/\l≠y
theorem MgAt.fresh{H:Hp}{m la ma ha:Addr}{ls:List Addr}{pss:List (List Addr)}{L:List (List (List Nat))}{hs:List HP}{x:Addr}(h:MgAt C H m la ma ha ls pss hts L ms hs)(hx:H x=none):Sep la ma ha ls x x:=by
 have a:=aq h.tl hx;have b:=aq h.tm hx;have c:=aq h.th hx;refine⟨⟨a,a⟩,⟨b,b⟩,⟨c,c⟩,λl hl=>?_⟩;obtain⟨j,hj,rfl⟩:=Hv hl;have h1:=h.ln;have h2:=h.pn;obtain⟨u,_⟩:=h.lr j _ (pss[j]'⋯) (L[j]'⋯) (GE hj) (GE _) (GE _);have d:=aq u hx;exact⟨d,d⟩
def PrV(H:Hp)(ts:List Addr)(ds:List HP):Prop:=ts.length=ds.length/\∀(i:Nat) t x,ts[i]? = some t->ds[i]? = some x->∃r,H t=some (.tup [.int (x.2:Nat),.ref r])/\H r=some (.tup (NV x.1))
theorem PrV.tups{H:Hp}{ts:List Addr}{ds:List HP}(h:PrV H ts ds)(k:∀b xs,H b=some (.tup xs)->H1 b=some (.tup xs)):PrV H1 ts ds:=
 ⟨h.1,λi t x a b=>by obtain⟨r,e1,e2⟩:=h.2 i t x a b;exact⟨r,k _ _ e1,k _ _ e2⟩⟩
theorem PrV.snoc{H:Hp}{ts:List Addr}{ds:List HP}{t r:Addr}{x:HP}(h:PrV H ts ds)(e1:H t=some (.tup [.int (x.2:Nat),.ref r]))(e2:H r=some (.tup (NV x.1))):PrV H (ts++[t]) (ds++[x]):=by
 refine⟨by simp[h.1],λi t' x' a b=>?_⟩;by_cases hi:i<ts.length
 ·rw[GU hi]at a
  rw[GU (by rw[<-h.1];exact hi)]at b;exact h.2 i t' x' a b
 ·have e:i=ts.length:=by
   have:=(GM.mp a).1;simp at this;lia
  subst e;rw[G6 (GJ _),JB]at a;rw[G6 (by rw[h.1];exact GJ _),show ts.length - ds.length=0 by have:=h.1;lia]at b;cases a;cases b;exact⟨r,e1,e2⟩
structure Mid (C:Addr) (H H':Hp) (m la ma ha r:Addr) (ls:List Addr) (pss:List (List Addr)) (L:List (List (List Nat))) (ds:List HP) (ts:List Addr) (dn:List HP) (o:Option HP) (rest:List HP) (v:V) (ms:List Nat) (hs:List HP) (hts:List Addr):Prop where
 sm:Same H H'
 tr:H' r=some (.lst (ts.map Rb))
 pr:PrV H' ts dn
 al:ds=dn++(o.toList++rest)
 en:o=none->rest=[]
 pe:(ju L ms L.length).Perm rest
 mg:MgAt C H' m la ma ha ls pss hts L ms hs
 ok:MgOk L ms hs
 hv:HpV H' v o
 sp:Sep la ma ha ls r r
def zF:Sp:=λvs H Q _=>∃(a:Addr) (ls:List Addr) (pss:List (List Addr)) (L:List (List (List Nat))) (ds:List HP),vs=[.ref a]/\LsL H a ls pss L/\L.length<=100/\(∀r∈L,RisL r/\r.length<=60)/\(ju L (GS L.length 0) L.length).Perm ds/\sO ds/\ds.length<=900/\
 ∀(r:Addr) (ts:List Addr) H',Same H H'->H r=none->H' r=some (.lst (ts.map Rb))->PrV H' ts ds->Q (.ref r) H'
theorem xo{L:List (List (List Nat))}{hs hs':List HP}{o:Option HP}{rest:List HP}(hr:∀r∈L,RisL r)(ok:MgOk L ms hs)(n:NextOk L ms hs o ms' hs')(p:(ju L ms L.length).Perm rest)(ri:sO rest):
  ∃rest',rest=o.toList++rest'/\(o=none->rest'=[])/\(ju L ms' L.length).Perm rest':=by
 cases rest with
 | nil=>
  obtain⟨rfl,rfl,rfl⟩:=vR ok hr n p;exact⟨[],rfl,λ_=>rfl,p⟩
 | cons x0 rest=>
  obtain⟨rfl,p',_⟩:=vQ ok hr n p ri;exact⟨rest,rfl,λz=>(nomatch z),p'⟩
theorem jE (T:Tx K mg t):FnOk P t.wd K mg t.bs CX0 5 (t.f 35) (t.d 35) ["lists"] zF:=by
 refine okT (N:=["lists","merge","told","pair"]) (T.fn 35 rfl) (λH Q hr nd h=>?_)
 ·obtain⟨a,ls,pss,L,ds,rfl,F,hL,hR,hpe,hri,hds,k⟩:=h
  have hRis:∀r∈L,RisL r:=λr hr=>(hR r hr).1
  refine⟨_,(ae (aH (i:=1) (yS T.iz (gP T) (hr.mono (by decide)) rfl T.wF T.iA fh (ah (qv 0) aa)))
   (ae (aH (i:=2) (aQ aa))
   (ae (aH (i:=3) (gj (qv 1) T.bW T.gY (gr T) (hr.mono (by decide)) T.gZ fh ))
   (ae (cF Hb (az B4 (qv 3) dv (ax _)) (ae (bb (br (K:=K) (qv 2) (ah (qv 3) aa)))
   (ak (aH (i:=3) (gj (qv 1) T.bW T.gY (gr T) (hr.mono (by decide)) T.gZ fh )))))
   (ak (aw (qv 2))))))),?_⟩
  dsimp only[st0];nofun;intro m dx hm hdx hne;have sN:Same H (upd (upd H dx (.own m)) m (.ins t.aA dx [])):=λb u e=>by
   rw[ar (aq e hm),ar (aq e hdx)];exact e
  refine⟨m,dx,a,ls,pss,L,rfl,af,F.same sN,hL,hR,λla ma ha ls' pss' hts hs H1 n1 n2 n3 n4 W O kp=>⟨rfl,?_⟩⟩;have s1:Same H H1:=λb o e=>kp b o (sN _ _ e) (aq e hm)
  have f1:H ma=none:=by cases z:H ma with|none=>rfl|some o=>rw[sN _ _ z]at n2;cases n2
  have f2:H ha=none:=by cases z:H ha with|none=>rfl|some o=>rw[sN _ _ z]at n3;cases n3
  nofun;refine⟨by simp,λr hr=>?_⟩;dsimp only[HM];have s2:=s1.new (o:=.lst []) hr;have W2:=W.same ((Rc H1).new (o:=.lst []) hr);have sp:Sep la ma ha ls' r r:=W.fresh hr;have tr:(upd H1 r (.lst [])) r=some (.lst []):=af;generalize upd H1 r (.lst [])=H2 at s2 W2 tr;obtain⟨dx2,ob2⟩:=W2.ob;nofun;refine⟨m,dx2,_,rfl,ob2,oW _ _ _ (by decide +kernel) (by decide +kernel) (by decide +kernel),?_⟩;nofun;refine⟨m,la,ma,ha,ls',pss',hts,L,_,hs,rfl,W2,O,by lia,λv o ms' hs' hts' H3 N3 W3 k3 hv=>?_⟩;obtain⟨rest,er,en,p3⟩:=xo hRis O N3 hpe hri;have M0:Mid t.aA H H3 m la ma ha r ls' pss' L ds [] [] o rest v ms' hs' hts':=
   ⟨λb o e=>k3 b o (s2 _ _ e) (aq e f1) (aq e f2),k3 _ _ tr (Hl sp.2.1.1) (Hl sp.2.2.1.1),⟨rfl,λi t x a _=>(nomatch a)⟩,er,en,p3,W3,N3.ok O,hv,sp⟩
  clear hv W3 k3 N3 p3 en er;nofun;refine⟨λn σ H'=>∃ts dn o rest v ms hs hts,n=(o.toList++rest).length/\Mid t.aA H H' m la ma ha r ls' pss' L ds ts dn o rest v ms hs hts/\σ=[some (Rb a),some (Rb m),some (Rb r),some v],⟨_,[],[],o,rest,v,ms',hs',hts',rfl,M0,rfl⟩,?_⟩;clear M0;rintro n σ H' ⟨ts,dn,o,rest,v,ms,hs,hts,rfl,M,rfl⟩;nofun;cases o with
  | none=>
   have hv:v=.non:=M.hv;subst hv;rw[decide_eq_true (rfl:V.non=V.non)];nofun;have e:=M.al;rw[M.en rfl]at e;have e:ds=dn:=by rw[e];simp
   refine k r ts H' M.sm ?_ M.tr (by rw[e];exact M.pr);cases z:H r with|none=>rfl|some o=>rw[s1 _ _ z]at hr;cases hr
  | some x=>
   obtain⟨q,r',rfl,g1,g2⟩:=M.hv;rw[decide_eq_false (show ¬(Rb q=V.non)from λz=>nomatch z)];nofun;refine⟨_,λ_ _ z=>z,?_⟩;nofun;have hlen:ts.length<900:=by
    have e:=congrArg HL M.al;have e1:=M.pr.1;simp at e;lia
   refine⟨a9 M.tr,?_⟩;nofun;refine aW M.tr (by rw[GF];exact au ⋯) ?_;have W4:MgAt t.aA (upd H' r (.lst (ts.map Rb++[Rb q]))) m la ma ha ls' pss' hts L ms hs:=M.mg.spare (Z:=λb=>b=r) (λb o e hz=>by
    by_cases z:b=r
    ·rw[z,M.tr]at e;cases e;exact absurd z (hz _ rfl)
    ·rw[ar z];exact e) sp.1.1 sp.2.1.1 sp.2.2.1.1 λl hl=>(sp.2.2.2 l hl).1
   have tr4:(upd H' r (.lst (ts.map Rb++[Rb q]))) r=some (.lst ((ts++[q]).map Rb)):=by rw[af,GP];rfl
   have kt:∀b xs,H' b=some (.tup xs)->(upd H' r (.lst (ts.map Rb++[Rb q]))) b=some (.tup xs):=λb xs e=>by
    rw[ar (λz=>by rw[z,M.tr]at e;cases e)];exact e
   have s4:Same H (upd H' r (.lst (ts.map Rb++[Rb q]))):=λb o e=>by
    rw[ar (λz=>by rw[z]at e;rw[s1 _ _ e]at hr;cases hr)];exact M.sm _ _ e
   have pr4:=(M.pr.snoc g1 g2).tups kt;generalize upd H' r (.lst (ts.map Rb++[Rb q]))=H4 at W4 tr4 kt s4 pr4;obtain⟨dx4,ob4⟩:=W4.ob;nofun;refine⟨m,dx4,_,rfl,ob4,oW _ _ _ (by decide +kernel) (by decide +kernel) (by decide +kernel),?_⟩;nofun;refine⟨m,la,ma,ha,ls',pss',hts,L,_,hs,rfl,W4,M.ok,by lia,λv o ms5 hs5 hts5 H5 N5 W5 k5 hv=>?_⟩;have ri5:sO rest:=by
    have z:=hri;rw[M.al]at z;exact(Hz.mp (Hz.mp z).2.1).2.1
   obtain⟨rest5,er,en,p5⟩:=xo hRis M.ok N5 M.pe ri5;nofun;refine⟨_,?_,ts++[q],dn++[x],o,rest5,v,ms5,hs5,hts5,rfl,⟨λb o e=>k5 b o (s4 _ _ e) (aq e f1) (aq e f2),k5 _ _ tr4 (Hl sp.2.1.1) (Hl sp.2.2.1.1),pr4.tups (λb xs e=>k5 _ _ e (λz=>?_) (λz=>?_)),?_,en,p5,W5,N5.ok M.ok,hv,sp⟩,rfl⟩
   ·rw[er];simp
   ·rw[z,W4.tm]at e;cases e
   ·rw[z,W4.th]at e;cases e
   ·rw[M.al,er];simp
def E5:Sp:=λvs H Q _=>∃(p:Addr),vs=[.ref p]/\Tp2 H p/\∀(n:Int) H',-(10 ^ 18)<n->n<10 ^ 18->St2 p H H'->Q (.int n) H'
theorem mw (T:Tx K mg t):FnOk P t.wd K mg t.bs CX0 2 (t.f 41) (t.d 41) ["_law_tape_here"] E5:=by
 refine okT (N:=["_law_tape_here","_law_kind"]) (T.fn 41 rfl) (λH Q hr nd h=>?_)
 ·obtain⟨p,rfl,hT,k⟩:=h
  refine⟨_,(ae (aH (i:=1) (aC (bp T) hr (T.fn 38 rfl) (ah (qv 0) (ah aj aa))))
   (ae (aT (az n8 (qv 1) aj (ax _)) (ak (aw (aI dM (aC (bp T) hr (T.fn 38 rfl) (ah (qv 0) (ah aj aa))) aj))) aG)
   (ae (aT (az eV (qv 1) aj (ax _)) (ak (aw (aI fC (aI dM (aI dM (aI pI aj aj) aj) (aC (bp T) hr (T.fn 38 rfl) (ah (qv 0) (ah aj aa)))) (aO (bc (K:=K)) (aQ (ah aj (ah (fj fk aj) aa))) (aC (bp T) hr (T.fn 38 rfl) (ah (qv 0) (ah aj aa))))))) aG)
   (ae (aT (az eV (qv 1) aj (ax _)) (ak (aw (aI cV (aI pI aj aj) (aC (bp T) hr (T.fn 38 rfl) (ah (qv 0) (ah aj aa)))))) aG)
   (ak (aw (aI fC (aI cV (aI fC (aC (bp T) hr (T.fn 38 rfl) (ah (qv 0) (ah (aI pI aj aj) aa))) (aI pI aj aj)) (aC (bp T) hr (T.fn 38 rfl) (ah (qv 0) (ah (aI pI aj aj) aa)))) (aO (bc (K:=K)) (aQ (ah aj (ah (fj fk aj) aa))) (aC (bp T) hr (T.fn 38 rfl) (ah (qv 0) (ah aj aa))))))))))),?_⟩
  dsimp only[st0];nofun;refine⟨p,8,rfl,hT,by decide,by decide,λr H1 a S1=>?_⟩;have turn:∀(x:Int) (H2 H3:Hp) (q:Addr) (r2:Nat) (Q':VK),0<=x->x<10 ^ 18->(∀v H',Q v H'->Q' v H')->St2 p H H2->H2 q=none->(r2:Int)<2->St2 p (upd H2 q (.lst [.int 1,.int (-1)])) H3->(∃v,atI [Q8 1,Q8 (-1)] r2=some v/\∃z:Int,v=.int z/\Q' (.int (x*z)) H3):=λx H2 H3 q r2 Q' h0 h1 hQ S2 hq hr S3=>by
   have S:=(S2.new (o:=.lst [.int 1,.int (-1)]) hq).trans S3;have hr2:r2<2:=by lia
   match r2,hr2 with
   | 0,_=>exact⟨_,rfl,1,rfl,hQ _ _ (k _ _ ⋯ ⋯ S)⟩
   | 1,_=>exact⟨_,rfl,-1,rfl,hQ _ _ (k _ _ ⋯ ⋯ S)⟩
  nofun;refine aV (λg=>?_) (λg=>?_)
  ·nofun
   refine⟨p,12,rfl,S1.tape,by decide,by decide,λr2 H2 a2 S2=>?_⟩;nofun;exact k _ _ ⋯ ⋯ (S1.trans S2)
  nofun;refine aV (λg2=>?_) (λg2=>?_)
  ·nofun
   refine⟨p,3,rfl,S1.tape,by decide,by decide,λr2 H2 a2 S2=>?_⟩;nofun;refine⟨aE (by simp),λq hq=>?_⟩;have nq:=(S1.trans S2).tape.ne hq;nofun;refine⟨p,2,rfl,((S1.trans S2).new hq).tape,by decide,by decide,λr4 H4 a4 S4=>?_⟩;obtain⟨v,e,z,rfl,hz⟩:=turn (10 ^ 18 - 1 - (r2:Int)) H2 H4 q r4 _ ⋯ ⋯ (λ_ _ z=>z) (S1.trans S2) hq a4 S4;refine bx (Q6 (S4.keep q _ af nq)) e ?_;nofun;exact hz
  nofun;refine aV (λg3=>?_) (λg3=>?_)
  ·nofun
   refine⟨p,3,rfl,S1.tape,by decide,by decide,λr2 H2 a2 S2=>?_⟩;nofun;exact k (10 ^ 17+(r2:Int)) _ ⋯ ⋯ (S1.trans S2)
  ·nofun
   refine⟨p,_,rfl,S1.tape,by decide,by decide,λr2 H2 a2 S2=>?_⟩;have a2:(r2:Int)<10 ^ 9:=a2;nofun;refine⟨p,_,rfl,(S1.trans S2).tape,by decide,by decide,λr3 H3 a3 S3=>?_⟩;have a3:(r3:Int)<10 ^ 9:=a3;nofun;refine⟨aE (by simp),λq hq=>?_⟩;have nq:=((S1.trans S2).trans S3).tape.ne hq;nofun;refine⟨p,2,rfl,(((S1.trans S2).trans S3).new hq).tape,by decide,by decide,λr4 H4 a4 S4=>?_⟩;obtain⟨v,e,z,rfl,hz⟩:=turn ((r2:Int)*10 ^ 9+(r3:Int)) H3 H4 q r4 _ ⋯ ⋯ (λ_ _ z=>z) ((S1.trans S2).trans S3) hq a4 S4;refine bx (Q6 (S4.keep q _ af nq)) e ?_;nofun;exact D2 (show CMul ((r2:Int)*10 ^ 9+(r3:Int)) z from JU ⟨by lia,by lia⟩) hz
def E6:Sp:=λvs H Q _=>∃(t:Int) (c:Nat),vs=[.int t,.int c]/\1<=c/\c<=60/\-(10 ^ 18)<t/\t<10 ^ 18/\∀(q:Addr) (t':Int) (c':Nat),-(10 ^ 18)<t'->t'<10 ^ 18->1<=c'->c'<=60->H q=none->Q (.ref q) (upd H q (.tup [.int t',.int c']))
theorem uc (T:Tx K mg t):FnOk P t.wd K mg t.bs CX0 1 (t.f 42) (t.d 42) ["_law_top","_law_bottom"] E6:=by
 refine okT (N:=["_law_top","_law_bottom","_law_one","_law_other"]) (T.fn 42 rfl) (λH Q hr nd h=>?_)
 ·obtain⟨x,c,rfl,h1,h60,hx1,hx2,q⟩:=h
  refine⟨_,(ae (lD rfl nd (i:=2) (j:=3) rfl rfl (by decide) rfl rfl (ah (ag qZ (by rfl) T.p9 tw (ah (qv 0) aa)) (ah (qv 1) aa)))
   (ae (cF Hb (az qb (qv 3) aj (ax _)) (ak (lD rfl nd (i:=2) (j:=3) rfl rfl (by decide) rfl rfl (ah (qv 3) (ah (aI gA (qv 2) (qv 3)) aa)))))
   (ak (aw (bB (ah (aI dZ (qv 0) (qv 2)) (ah (aI dZ (qv 1) (qv 2)) aa))))))),?_⟩
  dsimp only[st0];nofun;have ea:(if x<0 then -x else x)=((x.natAbs:Nat):Int):=by split<;>lia
  try rw[ea]
  refine⟨λm σ H'=>H'=H/\∃(g l:Nat),σ=[some (Q8 x),some (Q8 c),some (Q8 g),some (Q8 l)]/\Jv g l=Jv x.natAbs c/\l=m,⟨c,rfl,x.natAbs,c,rfl,rfl,rfl⟩,?_⟩;rintro m σ H' ⟨rfl,g,l,rfl,e,rfl⟩;nofun;refine aV (λh1=>?_) (λh1=>?_)
  ·refine⟨_,λ_ _ z=>z,?_⟩
   nofun;have hl:0<l:=by lia
   rw[<-Mg];exact⟨g % l,LW _ hl,rfl,l,g % l,rfl,by rw[ot hl,e],rfl⟩
  ·have hl:l=0:=by lia
   subst hl;rw[NJ]at e;have hd1:g∣x.natAbs:=by rw[e];exact On ..
   have hd2:g∣c:=by rw[e];exact LS ..
   have hg:0<g:=Nat.pos_of_dvd_of_pos hd2 ⋯;nofun;have hgc:g<=c:=LL ⋯ hd2;have hlog:qQ x (g:Int):=⟨by lia,HR (OD _) ⋯⟩;have hlog2:qQ (c:Int) (g:Int):=⟨by lia,HR (OD _) ⋯⟩;refine D2 hlog ?_;nofun;refine⟨aE (by simp),λp hp=>?_⟩;rw[<-Jk];refine q p _ _ ?_ ?_ (Nat.div_pos hgc hg) (HU (OL ..) h60) hp
   ·have:x<=x / (g:Int)\/0<=x / (g:Int):=by
     rcases Qb x 0 with h|h
     ·left
      rw[Int.le_ediv_iff_mul_le ⋯];have:x*(g:Int)<=x*1:=Int.mul_le_mul_of_nonpos_left ⋯ ⋯;lia
     ·right;exact OT h ⋯
    lia
   ·have:x / (g:Int)<=x\/x / (g:Int)<0:=by
     rcases Qb x 0 with h|h
     ·right;exact Int.ediv_neg_of_neg_of_pos h ⋯
     ·left;exact Int.ediv_le_self _ h
    lia
def Cv:Sp:=λvs H Q _=>∃(p:Addr),vs=[.ref p]/\Tp2 H p/\∀(q:Addr) (t':Int) (c':Nat) H',-(10 ^ 18)<t'->t'<10 ^ 18->1<=c'->c'<=60->St2 p H H'->H q=none->H' q=some (.tup [.int t',.int c'])->Q (.ref q) H'
theorem nG (T:Tx K mg t):FnOk P t.wd K mg t.bs CX0 3 (t.f 43) (t.d 43) ["_law_tape_here"] Cv:=by
 refine okT (N:=["_law_tape_here","_law_top"]) (T.fn 43 rfl) (λH Q hr nd h=>?_)
 ·obtain⟨p,rfl,hT,k⟩:=h
  refine⟨_,(ae (aH (i:=1) (aO (bc (K:=K)) (aQ (ah (aI dM (aC (bp T) hr (T.fn 38 rfl) (ah (qv 0) (ah aj aa))) aj) (ah (aC (mw T) hr (T.fn 41 rfl) (ah (qv 0) aa)) aa))) (bq og (by rfl) T.gw eC (ah (aN eV (aC (bp T) hr (T.fn 38 rfl) (ah (qv 0) (ah aj aa))) aj (ax _)) aa))))
   (ak (aw (aC (uc T) hr (T.fn 42 rfl) (ah (qv 1) (ah (aO (bc (K:=K)) (aQ (ah aj (ah aj (ah aj (ah aj (ah (aI cV aj (aC (bp T) hr (T.fn 38 rfl) (ah (qv 0) (ah aj aa)))) aa)))))) (aC (bp T) hr (T.fn 38 rfl) (ah (qv 0) (ah aj aa)))) aa)))))),?_⟩
  dsimp only[st0];nofun;refine⟨p,40,rfl,hT,by decide,by decide,λr1 H1 a1 S1=>?_⟩;nofun;refine⟨p,rfl,S1.tape,λn H2 n1 n2 S2=>?_⟩;nofun;refine⟨aE (by simp),λq hq=>?_⟩;have nq:=(S1.trans S2).tape.ne hq;have S3:=(S1.trans S2).new (o:=.lst [Q8 ((r1:Int) - 12),Q8 n]) hq;have tq:(upd H2 q (.lst [Q8 ((r1:Int) - 12),Q8 n])) q=some (.lst [Q8 ((r1:Int) - 12),Q8 n]):=af;generalize upd H2 q (.lst [Q8 ((r1:Int) - 12),Q8 n])=H3 at S3 tq;nofun;refine⟨p,6,rfl,S3.tape,by decide,by decide,λr2 H4 a2 S4=>?_⟩;nofun;obtain⟨v,e,hv⟩:=dz (xs:=[Q8 ((r1:Int) - 12),Q8 n]) (r:=if decide (Q8 (r2:Int)=Q8 0)=true then 1 else 0) (by split<;>lia) (by simp only[G8,Ib];split<;>lia);refine bx (Q6 (S4.keep q _ tq nq)) e ?_;obtain⟨top,rfl,ht1,ht2⟩:∃z:Int,v=.int z/\-(10 ^ 18)<z/\z<10 ^ 18:=by
   simp only[GZ,Ho,or_false]at hv;rcases hv with rfl|rfl
   ·exact⟨_,rfl,by lia,by lia⟩
   ·exact⟨_,rfl,n1,n2⟩
  nofun;refine⟨p,60,rfl,(S3.trans S4).tape,by decide,by decide,λr3 H5 a3 S5=>?_⟩;nofun;refine⟨aE (by simp),λq2 hq2=>?_⟩;have S35:=(S3.trans S4).trans S5;have nq2:=S35.tape.ne hq2;obtain⟨H6,e9,S6,tq2⟩:=nwT S35 hq2 (.lst [Q8 1,Q8 2,Q8 3,Q8 4,Q8 (1+(r3:Int))]);rw[e9];nofun;refine⟨p,5,rfl,S6.tape,by decide,by decide,λr4 H7 a4 S7=>?_⟩;nofun;obtain⟨v,e,hv⟩:=dz (xs:=[Q8 1,Q8 2,Q8 3,Q8 4,Q8 (1+(r3:Int))]) (r:=(r4:Int)) ⋯ (by simp only[G8,Ib];lia);refine bx (Q6 (S7.keep q2 _ tq2 nq2)) e ?_;obtain⟨c,rfl,hc1,hc2⟩:∃c:Nat,v=.int c/\1<=c/\c<=60:=by
   simp only[GZ,Ho,or_false]at hv;rcases hv with rfl|rfl|rfl|rfl|rfl
   ·exact⟨1,rfl,by lia,by lia⟩
   ·exact⟨2,rfl,by lia,by lia⟩
   ·exact⟨3,rfl,by lia,by lia⟩
   ·exact⟨4,rfl,by lia,by lia⟩
   ·exact⟨1+r3,by simp,by lia,by lia⟩
  refine⟨top,c,rfl,hc1,hc2,ht1,ht2,λz x c' h1 h2 h3 h4 hz=>?_⟩;have S:=S6.trans S7;exact k z x c' _ h1 h2 h3 h4 (S.new hz) (S.free hz) af
theorem FQ:∀{zs:List Str},(∀y∈zs,Ltr 1 y)->(zs.map (·.length)).sum<=zs.length
 | [],_=>GJ _
 | y::zs,h=>by
  have h1:=(h y (Hj ..)).1;have ih:=FQ (zs:=zs) λx hx=>h x (Hd _ hx)
  rw[Ig,IP,G8];lia
theorem wt {zs:List Str}(h:∀y∈zs,Ltr 1 y):Ltr zs.length (OC "" zs):=by
 show Ltr _ (QV "" zs)
 rw[StrLaws.glued_eq_join]
 induction zs with
 | nil=>exact⟨GJ _,λc hc=>by cases hc⟩
 | cons y zs ih=>
  have hy:=h y (Hj ..);have ih:=ih λx hx=>h x (Hd _ hx)
  match zs,ih with
  | [],_=>exact hy
  | x::zs,ih=>
   have e:Q0 "" (y::x::zs)=y++He ""++Q0 "" (x::zs):=rfl;rw[e];have h0:Ltr 0 (He ""):=by decide +kernel
   have:=(hy.cat h0).cat ih;exact this.mono (by simp only[G8];lia)
def E7:Sp:=λvs H Q _=>∃(p:Addr),vs=[.ref p]/\Tp2 H p/\∀z H',Ltr 30 z->St2 p H H'->Q (.str z) H'
theorem Cw{K:GH}{H:Hp}{Q:VK}{ys:List Str}(h:SqL K H l (ys.map Ra))(hs:(ys.map (·.length)).sum+ys.length*z.length<=16777216)(q:Q (.str (OC z ys)) H):yW K (.str z) [.ref l] H Q:=⟨z,l,ys,rfl,rfl,h,hs,q⟩
theorem zG (T:Tx K mg t):FnOk P t.wd K mg t.bs CX0 2 (t.f 44) (t.d 44) ["_law_tape_here"] E7:=by
 refine okT (N:=["_law_tape_here","_law_kind","_law_letters","_law_size"]) (T.fn 44 rfl) (λH Q hr nd h=>?_)
 ·obtain⟨p,rfl,hT,k⟩:=h
  refine⟨_,(ae (aH (i:=1) (aC (bp T) hr (T.fn 38 rfl) (ah (qv 0) (ah aj aa))))
   (ae (aT (az n8 (qv 1) aj (ax _)) (ak (aw (aO (bc (K:=K)) (aQ (ah bK (ah bK (ah bK (ah bK (ah bK (ah bK (ah bK (ah bK (ah bK aa)))))))))) (aC (bp T) hr (T.fn 38 rfl) (ah (qv 0) (ah aj aa)))))) aG)
   (ae (aH (i:=2) (aO (bc (K:=K)) (aQ (ah bK (ah bK aa))) (aI gA (qv 1) aj)))
   (ae (aH (i:=3) (aO (bc (K:=K)) (aQ (ah (aC (bp T) hr (T.fn 38 rfl) (ah (qv 0) (ah aj aa))) (ah (aC (bp T) hr (T.fn 38 rfl) (ah (qv 0) (ah aj aa))) aa))) (bq og (by rfl) T.gw eC (ah (aN eV (aC (bp T) hr (T.fn 38 rfl) (ah (qv 0) (ah aj aa))) aj (ax _)) aa))))
   (ak (aw (yY (K:=K) bK (ah (a0 (N:=["_law_turn","_law_tape_here","_law_letters"]) (tgs:=["_law_turn"]) (frs:=["_law_tape_here","_law_letters"]) (ix:=[0,2]) ⟨rfl,by decide +kernel,rfl,by decide +kernel,rfl,rfl,⟨⟨rfl,rfl,_,rfl,rfl⟩,⟨rfl,rfl,_,rfl,rfl⟩,GR⟩,⟨rfl,rfl,GR⟩,rfl⟩ rfl (dY rfl T.cz (ah (qv 3) aa)) (λ_ _ _ _=>(aD (i:=0))) (λ_ _ _ _=>(aO yU (qv 2) (aC (bp T) hr (T.fn 38 rfl) (ah (qv 1) (ah (ag fb (by rfl) T.bz aP (ah (qv 2) aa)) aa)))))) aa)))))))),?_⟩
  dsimp only[st0];nofun;refine⟨p,6,rfl,hT,by decide,by decide,λr H1 a1 S1=>?_⟩;nofun;refine aV (λg=>?_) (λg=>?_)
  ·nofun
   refine⟨aE (by simp),λq hq=>?_⟩;nofun;have nq:=S1.tape.ne hq;refine⟨p,9,rfl,(S1.new hq).tape,by decide,by decide,λr2 H2 a2 S2=>?_⟩;obtain⟨v,e,hv⟩:=dz (xs:=[Ra "",Ra "a",Ra "ab",Ra "aa",Ra "b",Ra "z",Ra "abc",Ra "aab",Ra "az"]) (r:=(r2:Int)) ⋯ a2;refine bx (Q6 (S2.keep q _ af nq)) e ?_;obtain⟨z,rfl,hz⟩:∃z,v=Ra z/\Ltr 30 z:=by
    simp only[GZ,Ho,or_false]at hv;rcases hv with rfl|rfl|rfl|rfl|rfl|rfl|rfl|rfl|rfl<;>exact⟨_,rfl,by decide +kernel⟩
   nofun;exact k z H2 hz ((S1.new hq).trans S2)
  nofun;refine⟨aE (by simp),λq hq=>?_⟩;nofun;obtain⟨v,e,hv⟩:=dz (xs:=[Ra "ab",Ra "abcdefghijklmnopqrstuvwxyz"]) (r:=(r:Int) % 2) (JK _ (by decide)) (NI _ (by decide));refine bx (Q6 af) e ?_;obtain⟨z,rfl,hz0,hz1,hzc⟩:∃z,v=Ra z/\0<z.length/\z.length<=26/\∀c∈z.cps.toList,97<=c/\c<=122:=by
   simp only[GZ,Ho,or_false]at hv;rcases hv with rfl|rfl<;>exact⟨_,rfl,by decide +kernel,by decide +kernel,by decide +kernel⟩
  have S2:=S1.new (o:=.lst [Ra "ab",Ra "abcdefghijklmnopqrstuvwxyz"]) hq;generalize upd H1 q (.lst [Ra "ab",Ra "abcdefghijklmnopqrstuvwxyz"])=H2 at S2;clear e hv;nofun;refine⟨p,5,rfl,S2.tape,by decide,by decide,λr3 H3 a3 S3=>?_⟩;nofun;refine⟨p,21,rfl,S3.tape,by decide,by decide,λr4 H4 a4 S4=>?_⟩;have S24:=(S2.trans S3).trans S4;nofun;refine⟨aE (by simp),λq2 hq2=>?_⟩;have nq2:=S24.tape.ne hq2;obtain⟨H5,e9,S5,tq2⟩:=nwT S24 hq2 (.lst [Q8 (r3:Int),Q8 (r4:Int)]);rw[e9];nofun;refine⟨p,4,rfl,S5.tape,by decide,by decide,λr5 H6 a5 S6=>?_⟩;nofun;obtain⟨v,e,hv⟩:=dz (xs:=[Q8 (r3:Int),Q8 (r4:Int)]) (r:=if decide (Q8 (r5:Int)=Q8 0)=true then 1 else 0) (by split<;>lia) (by simp only[G8,Ib];split<;>lia);refine bx (Q6 (S6.keep q2 _ tq2 nq2)) e ?_;obtain⟨n,rfl,hn⟩:∃n:Nat,v=Q8 n/\n<=20:=by
   simp only[GZ,Ho,or_false]at hv;rcases hv with rfl|rfl
   ·exact⟨_,rfl,by lia⟩
   ·exact⟨_,rfl,by lia⟩
  have S7:=S5.trans S6;clear e hv;nofun;refine⟨rfl,?_⟩;nofun;refine⟨_,rfl,by lia,by lia,uZ (n:=n) (λi ys σ H'=>St2 p H H'/\(∃zs:List Str,ys=zs.map Ra/\zs.length=i/\∀y∈zs,Ltr 1 y)/\∃v,σ=[v,some (Rb p),some (Ra z)]) (au ⋯) (λi ys σ H' h=>by obtain⟨_,⟨zs,rfl,e,_⟩,_⟩:=h;rw[GF,e]) ⟨S7,⟨[],rfl,rfl,λy h=>nomatch h⟩,none,rfl⟩ ?_ ?_⟩
  ·rintro i ys σ H' hi ⟨S8,⟨zs,rfl,hzl,hzs⟩,v,rfl⟩
   nofun;refine⟨z,rfl,aE ⋯,?_⟩;nofun;refine⟨p,_,rfl,S8.tape,by lia,by lia,λr6 H7 a6 S9=>?_⟩;obtain⟨cc,ec,hm⟩:=Ci (xs:=z.cps.toList) (r:=(r6:Int)) ⋯ (by rw[show z.cps.toList.length=z.length by simp[LU]];exact a6);refine⟨_,_,cc,rfl,rfl,aE ⋯,ec,?_⟩;refine Rf hi ⟨S8.trans S9,⟨zs++[⟨#[cc]⟩],by rw[GP];rfl,by simp[hzl],λy hy=>?_⟩,_,rfl⟩;rcases Hc.mp hy with h|h
   ·exact hzs y h
   ·rw[G0.mp h]
    refine⟨GJ _,λc hc=>?_⟩;have e2:c=cc:=by simpa using hc
    rw[e2];exact hzc _ hm
  ·rintro ys σ H' ⟨S8,⟨zs,rfl,hzl,hzs⟩,v,rfl⟩ l hl
   nofun;refine Cw (Q6 af) ?_ ?_
   ·have:=FQ hzs
    have e0:(He "").length=0:=by decide +kernel
    rw[e0];lia
   nofun;exact k _ _ ((wt hzs).mono ⋯) (S8.new hl)
def KeyV (kind:Str) (H:Hp) (v:V):Prop:=(kind = "number"/\∃n:Int,v=.int n/\-(10 ^ 18)<n/\n<10 ^ 18)\/(kind = "part"/\∃(q:Addr) (z:Int×Nat),v=.ref q/\H q=some (.tup [.int z.1,.int z.2])/\(1<=z.2/\z.2<=60)/\-(10 ^ 18)<z.1/\z.1<10 ^ 18)\/(kind = "text"/\∃z:Str,v=.str z/\Ltr 30 z)
theorem KeyV.keep{kind:Str}{H:Hp}(h:KeyV kind H v)(s:∀b xs,H b=some (.tup xs)->H' b=some (.tup xs)):KeyV kind H' v:=by
 rcases h with h|⟨e,q,z,e2,e3,r⟩|h
 ·exact .inl h
 ·exact .inr (.inl ⟨e,q,z,e2,s _ _ e3,r⟩)
 ·exact .inr (.inr h)
theorem gu{H:Hp}(S:St2 p H H')(T:Tp2 H p):∀b xs,H b=some (.tup xs)->H' b=some (.tup xs):=λb xs e=>S.keep b _ e (λz=>by
 obtain⟨x,y,e2,_⟩:=T;rw[z,e2]at e;cases e)
theorem zH {kind:Str}{H:Hp}(hk:kind = "number"\/kind = "part"\/kind = "text") (h:∀v∈xs,KeyV kind H v) (hl:xs.length<=60):∃k:Kd,k.name=kind/\KAt H k xs/\k.ok:=by
 rcases hk with rfl|rfl|rfl
 ·have:∃ns:List Int,xs=ns.map Q8/\∀x∈ns,-(10 ^ 18)<x/\x<10 ^ 18:=by
   clear hl
   induction xs with
   | nil=>exact⟨[],rfl,λx h=>nomatch h⟩
   | cons v r ih=>
    obtain⟨ns,rfl,hn⟩:=ih λu hu=>h u (Hd _ hu)
    rcases h v (Hj ..)with⟨_,n,rfl,b⟩|⟨e,_⟩|⟨e,_⟩
    ·exact⟨n::ns,rfl,λx hx=>by
      rcases GZ.mp hx with rfl|hx
      ·exact b
      ·exact hn x hx⟩
    ·exact absurd e (by decide)
    ·exact absurd e (by decide)
  obtain⟨ns,rfl,hn⟩:=this;exact⟨.nu ns,rfl,rfl,by rw[GF]at hl;exact hl,hn⟩
 ·have:∃(qs:List Addr) (tb:List (Int×Nat)),xs=qs.map Rb/\PartsT H qs tb/\(∀z∈tb,1<=z.2/\z.2<=60)/\∀z∈tb,-(10 ^ 18)<z.1/\z.1<10 ^ 18:=by
   clear hl
   induction xs with
   | nil=>exact⟨[],[],rfl,⟨rfl,λi p z h=>by simp at h⟩,λx h=>(nomatch h),λx h=>(nomatch h)⟩
   | cons v r ih=>
    obtain⟨qs,tb,rfl,hP,h1,h2⟩:=ih λu hu=>h u (Hd _ hu)
    rcases h v (Hj ..)with⟨e,_⟩|⟨_,q,z,rfl,e3,b1,b2⟩|⟨e,_⟩
    ·exact absurd e (by decide)
    ·refine⟨q::qs,z::tb,rfl,⟨by simp[hP.1],λi p y e1 e2=>?_⟩,λx hx=>?_,λx hx=>?_⟩
     ·cases i with
      | zero=>simp at e1 e2;rw[<-e1,<-e2];exact e3
      | succ i=>exact hP.2 i p y (by simpa using e1) (by simpa using e2)
     ·rcases GZ.mp hx with rfl|hx
      ·exact b1
      ·exact h1 x hx
     ·rcases GZ.mp hx with rfl|hx
      ·exact b2
      ·exact h2 x hx
    ·exact absurd e (by decide)
  obtain⟨qs,tb,rfl,hP,h1,h2⟩:=this;exact⟨.pa tb,rfl,⟨qs,rfl,hP⟩,by rw[GF,hP.1]at hl;exact hl,h1,h2⟩
 ·have:∃zs:List Str,xs=zs.map Ra/\∀x∈zs,Ltr 30 x:=by
   clear hl
   induction xs with
   | nil=>exact⟨[],rfl,λx h=>nomatch h⟩
   | cons v r ih=>
    obtain⟨ns,rfl,hn⟩:=ih λu hu=>h u (Hd _ hu)
    rcases h v (Hj ..)with⟨e,_⟩|⟨e,_⟩|⟨_,n,rfl,b⟩
    ·exact absurd e (by decide)
    ·exact absurd e (by decide)
    ·exact⟨n::ns,rfl,λx hx=>by
      rcases GZ.mp hx with rfl|hx
      ·exact b
      ·exact hn x hx⟩
  obtain⟨ns,rfl,hn⟩:=this;exact⟨.te ns,rfl,rfl,by rw[GF]at hl;exact hl,hn⟩
def zI:Sp:=λvs H Q _=>∃(p:Addr) (kind:Str),vs=[.ref p,.str kind]/\Tp2 H p/\(kind = "number"\/kind = "part"\/kind = "text")/\∀v H',KeyV kind H' v->St2 p H H'->Q v H'
theorem Cy (T:Tx K mg t):FnOk P t.wd K mg t.bs CX0 4 (t.f 45) (t.d 45) ["_law_tape_here","_law_kind"] zI:=by
 refine okT (N:=["_law_tape_here","_law_kind"]) (T.fn 45 rfl) (λH Q hr nd h=>?_)
 ·obtain⟨p,kind,rfl,hT,hkind,k⟩:=h
  refine⟨_,(ae (aT (az eV (qv 1) bK (ax _)) (ak (aw (aC (mw T) hr (T.fn 41 rfl) (ah (qv 0) aa)))) aG)
   (ae (aT (az eV (qv 1) bK (ax _)) (ak (aw (aC (nG T) hr (T.fn 43 rfl) (ah (qv 0) aa)))) aG)
   (ak (aw (aC (zG T) hr (T.fn 44 rfl) (ah (qv 0) aa)))))),?_⟩
  dsimp only[st0];nofun;rcases hkind with hk|hk|hk
  ·refine dP (by rw[hk]) ?_
   nofun;refine⟨p,rfl,hT,λn H1 n1 n2 S1=>?_⟩;exact k _ _ (.inl ⟨hk,n,rfl,n1,n2⟩) S1
  ·refine cD (by rw[hk];decide) ?_
   nofun;refine dP (by rw[hk]) ?_;nofun;refine⟨p,rfl,hT,λq t c H1 h1 h2 h3 h4 S1 hq tq=>?_⟩;exact k _ _ (.inr (.inl ⟨hk,q,(t,c),rfl,tq,⟨h3,h4⟩,h1,h2⟩)) S1
  ·refine cD (by rw[hk];decide) ?_
   nofun;refine cD (by rw[hk];decide) ?_;nofun;refine⟨p,rfl,hT,λz H1 hz S1=>?_⟩;exact k _ _ (.inr (.inr ⟨hk,z,rfl,hz⟩)) S1
def wu:Sp:=λvs H Q _=>∃(p:Addr) (kind:Str) (n:Nat),vs=[.ref p,.str kind,.int n]/\Tp2 H p/\(kind = "number"\/kind = "part"\/kind = "text")/\n<=60/\
 ∀(l:Addr) (xs:List V) H',xs.length=n->(∀v∈xs,KeyV kind H' v)->St2 p H H'->H l=none->l≠p->H' l=some (.lst xs)->Q (.ref l) H'
theorem zJ (T:Tx K mg t):FnOk P t.wd K mg t.bs CX0 5 (t.f 46) (t.d 46) ["_law_tape_here","_law_kind","_law_many_here"] wu:=by
 refine okT (N:=["_law_tape_here","_law_kind","_law_many_here","_law_keys_here","_law_turn","_law_key_here"]) (T.fn 46 rfl) (λH Q hr nd h=>?_)
 ·obtain⟨p,kind,n,rfl,hT,hkind,hn,k⟩:=h
  refine⟨_,(ae (aH (i:=3) (aQ aa))
   (ae (cA Hb rfl (dY rfl T.cz (ah (qv 2) aa)) (aD (i:=4)) (ae (aH (i:=5) (aC (Cy T) hr (T.fn 45 rfl) (ah (qv 0) (ah (qv 1) aa))))
   (ae (aT (Re (nZ (az (yD (K:=K) hr.units0) (qv 3) (aQ aa) (ax _)) (kn (az eV (aC (bp T) hr (T.fn 38 rfl) (ah (qv 0) (ah aj aa))) aj (ax _))))) (ak (aH (i:=5) (aO (bc (K:=K)) (qv 3) (aC (bp T) hr (T.fn 38 rfl) (ah (qv 0) (ah (ag (aU (K:=K)) (by rfl) T.bz aP (ah (qv 3) aa)) aa)))))) aG)
   (ak (bb (br (K:=K) (qv 3) (ah (qv 5) aa)))))))
   (ak (aw (qv 3))))),?_⟩
  dsimp only[st0];nofun;refine⟨aE (by simp),λl hl=>?_⟩;have S1:=(Rg hT).new (o:=.lst []) hl;have tl1:(upd H l (.lst [])) l=some (.lst []):=af;have hlp:l≠p:=hT.ne hl;generalize upd H l (.lst [])=H1 at S1 tl1;nofun;refine⟨_,rfl,by lia,by lia,fQ (n:=n) (λi σ H3=>St2 p H H3/\(∃xs:List V,H3 l=some (.lst xs)/\xs.length=i/\∀v∈xs,KeyV kind H3 v)/\∃v w,σ=[some (Rb p),some (Ra kind),some (Q8 n),some (Rb l),v,w]) ⟨S1,⟨[],tl1,rfl,λv h=>nomatch h⟩,_,_,rfl⟩ ?_ ?_⟩
  ·rintro i σ H3 hi ⟨S3,⟨xs,tl3,hxl,hK⟩,v0,w0,rfl⟩
   nofun;refine⟨p,kind,rfl,S3.tape,hkind,λv1 H7 kv1 S4=>?_⟩;have S7:=S3.trans S4;have tl7:=S4.keep _ _ tl3 hlp;have K7:∀v∈xs,KeyV kind H7 v:=λv hv=>(hK v hv).keep (gu S4 S3.tape)
   clear S4 tl3 hK S3;nofun;apply CZ (α:=V) (S:=λv H7=>St2 p H H7/\H7 l=some (.lst xs)/\(∀u∈xs,KeyV kind H7 u)/\KeyV kind H7 v);case hA=>
    intro key;refine⟨aE (by simp),λd hd=>?_⟩;have S8:=(Rg S7.tape).new (o:=.lst []) hd;have sm8:=(Rc H7).new (o:=.lst []) hd;have td:(upd H7 d (.lst [])) d=some (.lst []):=af;generalize upd H7 d (.lst [])=H8 at S8 sm8 td;have tl8:=sm8 _ _ tl7;have K8:∀u∈xs,KeyV kind H8 u:=λu hu=>(K7 u hu).keep λb ys e=>sm8 _ _ e
    have kv8:KeyV kind H8 v1:=kv1.keep λb ys e=>sm8 _ _ e
    have S78:=S7.trans S8;refine⟨l,d,xs,rfl,rfl,Q6 tl8,Q6 td,?_⟩;by_cases hx0:xs=[]
    rotate_left 1
    ·rw[decide_eq_false hx0]
     have hxp:0<xs.length:=Ij.mpr hx0;nofun;refine⟨p,3,rfl,S78.tape,by decide,by decide,λr2 H9 a1 S9=>?_⟩;have tl9:=S9.keep _ _ tl8 hlp;have K9:∀u∈xs,KeyV kind H9 u:=λu hu=>(K8 u hu).keep (gu S9 S78.tape)
     have kv9:KeyV kind H9 v1:=kv8.keep (gu S9 S78.tape);nofun;refine aV (λg=>?_) (λg=>?_)
     ·nofun
      refine aJ (Q6 tl9) ?_;nofun;refine⟨p,_,rfl,S9.tape,by lia,by lia,λr3 HA c1 SA=>?_⟩;obtain⟨u,e1,hu⟩:=dz (xs:=xs) (r:=(r3:Int)) ⋯ c1;have tlA:=SA.keep _ _ tl9 hlp;have KA:∀u∈xs,KeyV kind HA u:=λu hu=>(K9 u hu).keep (gu SA S9.tape)
      refine bx (Q6 tlA) e1 ?_;have ku:=KA u hu;nofun;exact key u HA ⟨S78.trans (S9.trans SA),tlA,KA,ku⟩
     ·nofun
      exact key v1 H9 ⟨S78.trans S9,tl9,K9,kv9⟩
    ·rw[decide_eq_true hx0]
     nofun;exact key v1 H8 ⟨S78,tl8,K8,kv8⟩
   case hB=>
    clear S7 tl7 K7 kv1;rintro v2 H8 ⟨S8,tl8,K8,kv8⟩;refine⟨a9 tl8,?_⟩;nofun;refine aW tl8 (au ⋯) ?_;have tt:∀b ys,H8 b=some (.tup ys)->(upd H8 l (.lst (xs++[v2]))) b=some (.tup ys):=λb ys e=>by
     rw[ar (λz=>by rw[z,tl8]at e;cases e)];exact e
    refine⟨S8.own hl hlp,⟨xs++[v2],af,by simp[hxl],λu hu=>?_⟩,_,_,rfl⟩;rcases Hc.mp hu with h|h
    ·exact(K8 u h).keep tt
    ·rw[G0.mp h];exact kv8.keep tt
  ·rintro σ H3 ⟨S3,⟨xs,tl3,hxl,hK⟩,v0,w0,rfl⟩
   nofun;exact k l xs H3 hxl hK S3 hl hlp tl3
def wx:Sp:=λvs H Q _=>∃(p:Addr) (k:Int),vs=[.ref p,.int k]/\Tp2 H p/\
 ∀(q l:Addr) (kind:Str) (xs:List V) (b:Nat) H',(kind = "number"\/kind = "part"\/kind = "text")->H' q=some (.tup [.str kind,.ref l,.int b])->H' l=some (.lst xs)->xs.length<=60->(∀v∈xs,KeyV kind H' v)->2<=b->b<=64->l≠p->H l=none->St2 p H H'->Q (.ref q) H'
theorem zK (T:Tx K mg t):FnOk P t.wd K mg t.bs CX0 6 (t.f 48) (t.d 48) ["_law_tape_here","_law_k"] wx:=by
 refine okT (N:=["_law_tape_here","_law_k","_law_kind","_law_many_here"]) (T.fn 48 rfl) (λH Q hr nd h=>?_)
 ·obtain⟨p,kk,rfl,hT,k⟩:=h
  refine⟨_,(ae (aH (i:=2) (aO (bc (K:=K)) (aQ (ah bK (ah bK (ah bK aa)))) (aC (bp T) hr (T.fn 38 rfl) (ah (qv 0) (ah aj aa)))))
   (ae (aH (i:=3) (aC (y4 T) hr (T.fn 39 rfl) (ah (qv 0) (ah (qv 1) aa))))
   (ae (aT (az eV (qv 2) bK (ax _)) (ak (aH (i:=3) (ag (rb rfl) (by rfl) T.mJ l6 (ah (qv 3) (ah aj aa))))) aG)
   (ak (aw (bB (ah (qv 2) (ah (aC (zJ T) hr (T.fn 46 rfl) (ah (qv 0) (ah (qv 2) (ah (qv 3) aa)))) (ah (aC (tG T) hr (T.fn 40 rfl) (ah (qv 0) aa)) aa))))))))),?_⟩
  dsimp only[st0];nofun;refine⟨aE (by simp),λq hq=>?_⟩;have S1:=(Rg hT).new (o:=.lst [Ra "number",Ra "part",Ra "text"]) hq;have tq:(upd H q (.lst [Ra "number",Ra "part",Ra "text"])) q=some (.lst [Ra "number",Ra "part",Ra "text"]):=af;have nq:=hT.ne hq;generalize upd H q (.lst [Ra "number",Ra "part",Ra "text"])=H1 at S1 tq;nofun;refine⟨p,3,rfl,S1.tape,by decide,by decide,λr H2 a2 S2=>?_⟩;obtain⟨v,e,hv⟩:=dz (xs:=[Ra "number",Ra "part",Ra "text"]) (r:=(r:Int)) ⋯ a2;refine bx (Q6 (S2.keep q _ tq nq)) e ?_;obtain⟨kind,rfl,hk⟩:∃kind,v=Ra kind/\(kind = "number"\/kind = "part"\/kind = "text"):=by
   simp only[GZ,Ho,or_false]at hv;rcases hv with rfl|rfl|rfl
   ·exact⟨_,rfl,.inl rfl⟩
   ·exact⟨_,rfl,.inr (.inl rfl)⟩
   ·exact⟨_,rfl,.inr (.inr rfl)⟩
  clear e hv;have S12:=S1.trans S2;nofun;refine⟨p,kk,rfl,S12.tape,λm H3 hm S3=>?_⟩;have S13:=S12.trans S3;have fin:∀(l:Addr) (xs:List V) (b:Nat) (H4 H5:Hp) (z:Addr),xs.length<=60->(∀v∈xs,KeyV kind H4 v)->St2 p H3 H4->H3 l=none->l≠p->H4 l=some (.lst xs)->2<=b->b<=64->St2 p H4 H5->H5 z=none->Q (.ref z) (upd H5 z (.tup [.str kind,.ref l,.int b])):=λl xs b H4 H5 z hxl hK S4 hl hlp tl hb hb2 S5 hz=>by
   have tl5:=S5.keep _ _ tl hlp;have hK5:∀v∈xs,KeyV kind H5 v:=λv hv=>(hK v hv).keep (gu S5 S4.tape)
   have S15:=S13.trans (S4.trans S5);have sm:=(Rc H5).new (o:=.tup [.str kind,.ref l,.int b]) hz;exact k z l kind xs b _ hk af (sm _ _ tl5) hxl (λv hv=>(hK5 v hv).keep λb ys e=>sm _ _ e) hb hb2 hlp (S13.free hl) (S15.new hz)
  nofun;by_cases hpt:kind = "part"
  ·refine dP (by rw[hpt]) ?_
   nofun;obtain⟨n,en,hn⟩:∃n:Nat,(if(20:Int)<(m:Int)then 20 else(m:Int))=(n:Int)/\n<=60:=by
    split
    ·exact⟨20,rfl,by decide⟩
    ·exact⟨m,rfl,hm⟩
   rw[en];refine⟨p,kind,n,rfl,S13.tape,hk,hn,λl xs H4 hxl hK S4 hl hlp tl=>?_⟩;nofun;refine⟨p,rfl,S4.tape,λb H5 hb hb2 S5=>?_⟩;nofun;exact⟨aE (by simp),λz hz=>fin l xs b H4 H5 z ⋯ hK S4 hl hlp tl hb hb2 S5 hz⟩
  ·refine cD (λz=>hpt (Ra.inj z)) ?_
   nofun;refine⟨p,kind,m,rfl,S13.tape,hk,hm,λl xs H4 hxl hK S4 hl hlp tl=>?_⟩;nofun;refine⟨p,rfl,S4.tape,λb H5 hb hb2 S5=>?_⟩;nofun;exact⟨aE (by simp),λz hz=>fin l xs b H4 H5 z ⋯ hK S4 hl hlp tl hb hb2 S5 hz⟩
theorem ud{H:Hp}{is:List Int}(h:H a=some (.tup (is.map Q8))):DatE 1 H (.ref a) (.tuple (is.map PyData.int)):=DatE.tup h (by simp) λi u e a b=>by
 rw[GK]at a b;cases q:is[i]? with
 | none=>rw[q]at a;cases a
 | some z=>rw[q]at a b;cases a;cases b;exact DatE.int _
def zL(K:GH)(pt:Addr):Sp:=λvs H Q _=>∃(a o:Addr) (ps:List Addr) (rss:List (List Nat)) (w:Nat) (os:List Nat),vs=[.ref a,.ref o]/\H a=some (.lst (ps.map Rb))/\RowsT H ps rss/\(∀r∈rss,r.length=w)/\rss.length<=60/\fe pt H/\H o=some (.lst (NV os))/\OrdR rss os/\
 ∀H',SameX pt H H'->fe pt H'->Q (.bl true) H'
theorem jF (T:Tx K mg t):FnOk P t.wd K mg t.bs CX0 2 (t.f 13) (t.d 13) ["rows","order"] (zL K t.pt):=by
 refine okT (N:=["rows","order"]) (T.fn 13 rfl) (λH Q hr nd h=>?_)
 ·obtain⟨a,o,ps,rss,w,os,rfl,ta,hR,hw,hn,hT,to,hO,k⟩:=h
  refine⟨_,(ak (aw (bI (aC (jj T) hr (T.fn 8 rfl) (ah (qv 1) aa)) (bX (aN (u4 (K:=K) hr.units0) (bq (mX (K:=K)) (by rfl) T.cq cy (ah (qv 1) aa)) (aC (c9 T) hr (T.fn 12 rfl) (ah (qv 0) aa)) (ax _)))))),?_⟩;dsimp only[st0];nofun;refine⟨o,os,rss.length,rfl,.inl to,Ord.of_perm hO.1,hn,λH1 s1=>?_⟩;nofun;refine iQ (.inl (Q6 (s1 _ _ to))) λc hc=>?_
  obtain⟨H2,e9,s2,tc⟩:=nwS s1 hc (.lst (NV os));rw[e9];nofun;refine⟨a,ps,rss,w,rfl,⟨s2 _ _ ta,trivial⟩,(hR.same s2).toU,hw,by lia,hT.same s2,λd os' H3 hd s3 T3 td hP' hS'=>?_⟩;have eo:os'=os:=gD (λi j a b=>Rk.asymm a b) (hP'.trans hO.1.symm) hS' hO.2;subst eo;have tc3:=s3 _ _ ((hT.same s2).ne tc) tc;rw[cH]at tc3 td;refine BC (Q6 tc3) (Q6 td) ?_;rw[decide_eq_true rfl];nofun;exact k H3 (λb o n e=>s3 b o n (s2 b o e)) T3
def Gu:Sp:=λvs H Q _=>∃(k:Kd) (us:List V) (i j:Nat) (x y:V),vs=[.str k.name,x,y]/\KAt H k us/\k.ok/\us[i]? = some x/\us[j]? = some y/\Q (.bl (k.lt i j)) H
theorem wy (T:Tx K mg t):FnOk P t.wd K mg t.bs CX0 1 (t.f 49) (t.d 49) ["_law_kind","_law_one","_law_other"] Gu:=by
 refine okT (N:=["_law_kind","_law_one","_law_other"]) (T.fn 49 rfl) (λH Q hr nd h=>?_)
 ·obtain⟨k,us,i,j,x,y,rfl,hA,hk,ex,ey,q⟩:=h
  cases k with
  | nu ns=>
   obtain rfl:us=ns.map Q8:=hA;obtain⟨a,rfl,ea,_,_⟩:=aF ex;obtain⟨b,rfl,eb,_,_⟩:=aF ey;have e:(Kd.nu ns).lt i j=decide (a<b):=by show ltN ns i j=_;unfold ltN;rw[bL ea,bL eb]
   rw[e]at q;refine⟨_,(ae (aT (az eV (qv 0) bK (ax _)) (ak bV) aG)
   (ak (aw (aN n8 (qv 1) (qv 2) (ax _))))),?_⟩
   dsimp only[st0];nofun;refine cD (show ¬Ra (He "number")=Ra (He "part")by decide) ?_;nofun;exact q
  | te zs=>
   obtain rfl:us=zs.map Ra:=hA;obtain⟨a,rfl,ea,ha,_⟩:=aF ex;obtain⟨b,rfl,eb,hb,_⟩:=aF ey;have e:(Kd.te zs).lt i j=decide (a.cps.toList<b.cps.toList):=by show ltT zs i j=_;unfold ltT;rw[bL ea,bL eb]
   rw[e]at q;refine⟨_,(ae (aT (az eV (qv 0) bK (ax _)) (ak bV) aG)
   (ak (aw (aN yV (qv 1) (qv 2) (ax _))))),?_⟩
   dsimp only[st0];nofun;refine cD (show ¬Ra (He "text")=Ra (He "part")by decide) ?_;nofun;exact q
  | pa tb=>
   obtain⟨qs,rfl,hP⟩:=hA;obtain⟨p1,rfl,e1,_,hi⟩:=aF ex;obtain⟨p2,rfl,e2,_,hj⟩:=aF ey;have hi2:i<tb.length:=by rw[<-hP.1];exact hi
   have hj2:j<tb.length:=by rw[<-hP.1];exact hj
   have t1:=hP.2 i p1 tb[i] e1 (GE hi2);have t2:=hP.2 j p2 tb[j] e2 (GE hj2);have b1:=hk.2.1 _ (GV hi2);have b2:=hk.2.1 _ (GV hj2);have c1:=hk.2.2 _ (GV hi2);have c2:=hk.2.2 _ (GV hj2);have e:(Kd.pa tb).lt i j=decide (tb[i].1*(tb[j].2:Int)<tb[j].1*(tb[i].2:Int)):=by show ltP tb i j=_;unfold ltP;rw[bL (GE hi2),bL (GE hj2)]
   rw[e]at q;generalize tb[i]=z1 at *;generalize tb[j]=z2 at *;refine⟨_,(ae (aT (az eV (qv 0) bK (ax _)) (ak (aw (aN n8 (aI fC (aO (ie (K:=K)) (qv 1) aj) (aO (ie (K:=K)) (qv 2) aj)) (aI fC (aO (ie (K:=K)) (qv 2) aj) (aO (ie (K:=K)) (qv 1) aj)) (ax _)))) aG)
   (ak bV)),?_⟩
   dsimp only[st0];nofun;refine dP rfl ?_;nofun;exact q
theorem zM{H:Hp}{k:Kd}{us:List V}{x:V}(h:KAt H k us)(hk:k.ok)(ex:us[i]? = some x)(ey:us[j]? = some y):∃d e,DatE 1 H x d/\DatE 1 H y e/\(OR d e=true->k.lt i j=false/\k.lt j i=false):=by
 cases k with
 | nu ns=>
  obtain rfl:us=ns.map Q8:=h;obtain⟨a,rfl,ea,_,_⟩:=aF ex;obtain⟨b,rfl,eb,_,_⟩:=aF ey;refine⟨_,_,DatE.int _,DatE.int _,λz=>?_⟩;have z:a=b:=of_decide_eq_true z;show ltN ns i j=false/\ltN ns j i=false
  unfold ltN;rw[bL ea,bL eb,z];simp
 | te zs=>
  obtain rfl:us=zs.map Ra:=h;obtain⟨a,rfl,ea,ha,_⟩:=aF ex;obtain⟨b,rfl,eb,hb,_⟩:=aF ey;have ok:∀x∈zs,Mf x=true:=λx hx=>by
   unfold Mf;rw[<-Array.all_toList,IC];intro c hc;have:=(hk.2 x hx).2 c hc;exact decide_eq_true ⋯
  refine⟨_,_,DatE.str (ok a ha),DatE.str (ok b hb),λz=>?_⟩;have z:a=b:=eq_of_beq z;show ltT zs i j=false/\ltT zs j i=false
  unfold ltT;rw[bL ea,bL eb,z];have:=O0 b.cps.toList;simp[this]
 | pa tb=>
  obtain⟨qs,rfl,hP⟩:=h;obtain⟨p1,rfl,e1,_,hi⟩:=aF ex;obtain⟨p2,rfl,e2,_,hj⟩:=aF ey;have hi2:i<tb.length:=by rw[<-hP.1];exact hi
  have hj2:j<tb.length:=by rw[<-hP.1];exact hj
  have t1:=hP.2 i p1 tb[i] e1 (GE hi2);have t2:=hP.2 j p2 tb[j] e2 (GE hj2);refine⟨_,_,ud (is:=[_,_]) t1,ud (is:=[_,_]) t2,λz=>?_⟩;have z:(tb[i].1 == tb[j].1 && (((tb[i].2:Nat):Int) == ((tb[j].2:Nat):Int) && true))=true:=z;simp at z;show ltP tb i j=false/\ltP tb j i=false
  unfold ltP;rw[bL (GE hi2),bL (GE hj2),z.1,z.2];simp
def Gv(K:GH):Sp:=λvs H Q _=>∃(k:Kd) (us:List V) (a o:Addr) (os:List Nat),vs=[.str k.name,.ref a,.ref o]/\H a=some (.lst us)/\KAt H k us/\k.ok/\H o=some (.lst (NV os))/\os.Perm (GO us.length)/\os.Pairwise (λi j=>k.lt i j=true/\k.lt j i=false\/(k.lt i j=false/\k.lt j i=false/\i<j))/\∀H',Same H H'->Q (.bl true) H'
theorem wz (T:Tx K mg t):FnOk P t.wd K mg t.bs CX0 2 (t.f 50) (t.d 50) ["_law_kind","_law_keys_here","_law_order"] (Gv K):=by
 refine okT (N:=["_law_kind","_law_keys_here","_law_order","_law_one","_law_other"]) (T.fn 50 rfl) (λH Q hr nd h=>?_)
 ·obtain⟨k,us,a,o,os,rfl,ta,hA,hk,to,hp,hs,q⟩:=h
  have hul:us.length<=60:=by rw[hA.len];exact hk.le
  have hol:os.length=us.length:=by have:=hp.length_eq;simpa using this
  refine⟨_,(ae (aT (az (El (K:=K) hr.units0) (ag (vD (K:=K)) (by rfl) T.gx tE (ah (qv 2) aa)) (iC rfl rfl T.cq rfl T.cz (ah (ag (aU (K:=K)) (by rfl) T.bz aP (ah (qv 1) aa)) aa)) (ax _)) (ak (aw fi)) aG)
   (ae (cA Hb rfl (rq (K:=K) rfl T.nO (ah (qv 2) (ah (c0 (lE (K:=K)) (qv 2) (cx aj) qW) aa))) (bF (K:=K) (n:=2) rfl (av (aD (i:=3)) (av (aD (i:=4)) aY))) (ak (aT (Re (gz (bE (aC (wy T) hr (T.fn 49 rfl) (ah (qv 0) (ah (aO (bc (K:=K)) (qv 1) (qv 4)) (ah (aO (bc (K:=K)) (qv 1) (qv 3)) aa))))) (dX (Re (nZ (az (EG hr.units) (aO (bc (K:=K)) (qv 1) (qv 3)) (aO (bc (K:=K)) (qv 1) (qv 4)) (ax _)) (kn (az qb (qv 3) (qv 4) (ax _)))))))) (ak (aw fi)) aG)))
   (ak (aw fi)))),?_⟩
  dsimp only[st0];nofun;refine⟨o,bo os,rfl,.inl (Q6 (by rw[<-cH];exact to)),by unfold bo;rw[GF];lia,λd ms hd hpm hsm=>?_⟩;have em:ms=bo (GO us.length):=by
   have h2:ms.Perm (bo (GO us.length)):=hpm.trans (hp.map _);refine h2.eq_of_pairwise (le:=(·<=·)) (λa b _ _ h1 h2=>Int.le_antisymm h1 h2) hsm ?_;unfold bo;rw[Jr];exact KL.imp λh=>by lia
  subst em;obtain⟨H1,e9,s1,td⟩:=nwR hd (.lst ((bo (GO us.length)).map Q8));rw[e9];nofun;refine aJ (Q6 (s1 _ _ ta)) ?_;nofun;refine⟨us.length,rfl,by lia,λe he=>?_⟩;have s2:=s1.new (o:=.lst (cJ 0 us.length)) he;have te:(upd H1 e (.lst (cJ 0 us.length))) e=some (.lst ((bo (GO us.length)).map Q8)):=by rw[af];simp[cJ,bo]
  have td2:(upd H1 e (.lst (cJ 0 us.length))) d=some (.lst ((bo (GO us.length)).map Q8)):=by rw[ar (aq td he)];exact td
  generalize upd H1 e (.lst (cJ 0 us.length))=H2 at s2 td2 te;refine BB (Q6 td2) (Q6 te) ?_;rw[decide_eq_true rfl];nofun;refine⟨1,rfl,?_⟩;nofun;refine kR (s2 _ _ to) λc H3 hc s3 tc=>?_
  have tc:H3 c=some (.lst (NV (os.drop 1))):=by
   rw[tc];congr 2;rcases JI os.length with z|z
   ·rw[HZ.mp z];rfl
   ·exact rD os z
  have s3':=s2.trans s3;have to3:=s3' _ _ to;refine⟨o,c,rfl,⟨_,Q6 to3⟩,⟨_,Q6 tc⟩,d6 (n:=os.length - 1) (λi σ H'=>Same H3 H'/\∃v w,σ=[some (Ra k.name),some (Rb a),some (Rb o),v,w]) ⟨Rc _,none,none,rfl⟩ ?_ ?_ ?_ ?_⟩
  ·rintro i σ H4 hi ⟨s4,_⟩
   exact⟨_,_,Q8 (os[i]'⋯:Nat),Q8 (os[i+1]'⋯:Nat),Q6 (s4 _ _ to3),Q6 (s4 _ _ tc),dh (GE _),dh (by rw[IM,K4];exact GE _)⟩
  ·rintro σ H4 ⟨s4,_⟩
   exact⟨_,_,Q6 (s4 _ _ to3),Q6 (s4 _ _ tc),.inr (by rw[aB,Hm];exact GJ _)⟩
  ·rintro i x σ H4 H5 hi ⟨s4,v,w,rfl⟩ ⟨p,x1,y1,rfl,hp1,rfl,hx1,hy1⟩
   have hx2:=hx1 _ (Q6 (s4 _ _ to3));have hy2:=hy1 _ (Q6 (s4 _ _ tc));have hi1:i<os.length:=by lia
   have hi2:i+1<os.length:=by lia
   rw[dh (GE hi1)]at hx2;rw[dh (o:=os[i+1]) (by rw[IM,K4];exact GE _)]at hy2;cases hx2;cases hy2;have hrel:=G7.mp hs i (i+1) hi1 hi2 (KQ _);have m1:os[i]<us.length:=Hg.mp (hp.mem_iff.mp (GV hi1));have m2:os[i+1]<us.length:=Hg.mp (hp.mem_iff.mp (GV hi2));generalize os[i]=u at *;generalize os[i+1]=v' at *;refine bf af ?_;dsimp only[HM];have s5:=s4.new (o:=.tup [Q8 (u:Nat),Q8 (v':Nat)]) hp1;generalize upd H4 p (.tup [Q8 (u:Nat),Q8 (v':Nat)])=H5 at s5;have s35:=s3'.trans s5;nofun;refine bx (Q6 (s35 _ _ ta)) (v:=us[v']) (ba (by simp[m2])) ?_;nofun;refine bx (Q6 (s35 _ _ ta)) (v:=us[u]) (ba (by simp[m1])) ?_;nofun;refine⟨k,us,v',u,us[v'],us[u],rfl,hA.same s35,hk,GE _,GE _,?_⟩;have hl:k.lt v' u=false:=hrel.elim (λh=>h.2) λh=>h.2.1
   rw[hl];nofun;refine bx (Q6 (s35 _ _ ta)) (v:=us[u]) (ba (by simp[m1])) ?_;nofun;refine bx (Q6 (s35 _ _ ta)) (v:=us[v']) (ba (by simp[m2])) ?_;obtain⟨d1,d2,e1,e2,he⟩:=zM (hA.same s35) hk (GE m1) (GE m2);refine⟨1,d1,d2,e1,e2,by decide,?_⟩;cases hb:OR d1 d2 with
   | false=>
    nofun;exact⟨s5,_,_,rfl⟩
   | true=>
    have huv:u<v':=by
     obtain⟨g1,_⟩:=he hb;rcases hrel with⟨h,_⟩|⟨_,_,h⟩
     ·rw[g1]at h;cases h
     ·exact h
    nofun;rw[decide_eq_false (show ¬((v':Nat):Int)<((u:Nat):Int)by lia)];nofun;exact⟨s5,_,_,rfl⟩
  ·rintro σ H4 ⟨s4,v,w,rfl⟩
   nofun;exact q _ (s3'.trans s4)
noncomputable def Cut:List (Nat×Nat)->Nat->Nat->Prop
 | [],a,b=>a=b
 | z::r,a,b=>z.1=a/\a<z.2/\Cut r z.2 b
theorem Cut.snoc:∀{cs:List (Nat×Nat)}{a b e:Nat},Cut cs a b->b<e->Cut (cs++[(b,e)]) a e
 | [],_,_,_,h,he=>by cases h;exact⟨rfl,he,rfl⟩
 | z::r,a,b,e,h,he=>⟨h.1,h.2.1,Cut.snoc h.2.2 he⟩
theorem Cut.le:∀{cs:List (Nat×Nat)}{a b:Nat},Cut cs a b->a+cs.length<=b
 | [],_,_,h=>by cases h;exact GJ _
 | z::r,a,b,h=>by have:=Cut.le h.2.2;have:=h.2.1;rw[G8];lia
def Cz:Sp:=λvs H Q _=>∃(p:Addr) (n:Nat),vs=[.ref p,.int n]/\Tp2 H p/\n<=60/\∀(l:Addr) (qs:List Addr) (cs:List (Nat×Nat)) H',St2 p H H'->H l=none->H' l=some (.lst (qs.map Rb))->PrAt H' qs cs->Cut cs 0 n->Q (.ref l) H'
theorem PrAt.st2{H:Hp}{ws:List (Nat×Nat)}(h:PrAt H qs ws)(t:Tp2 H p)(s:St2 p H H1):PrAt H1 qs ws:=⟨h.1,λi q w a b=>s.keep _ _ (h.2 i q w a b) (pX t (h.2 i q w a b))⟩
theorem zN (T:Tx K mg t):FnOk P t.wd K mg t.bs CX0 2 (t.f 51) (t.d 51) ["_law_tape_here","_law_many_here"] Cz:=by
 refine okT (N:=["_law_tape_here","_law_many_here","_law_found","_law_at","_law_end"]) (T.fn 51 rfl) (λH Q hr nd h=>?_)
 ·obtain⟨p,n,rfl,hT,hn,k⟩:=h
  refine⟨_,(ae (aH (i:=2) (aQ aa))
   (ae (aH (i:=3) aj)
   (ae (cF Hb (az n8 (qv 3) (qv 1) (ax _)) (ae (aH (i:=4) (ag (rb rfl) (by rfl) T.mJ l6 (ah (qv 1) (ah (aI cV (aI cV (qv 3) aj) (aC (bp T) hr (T.fn 38 rfl) (ah (qv 0) (ah aj aa)))) aa))))
   (ae (bb (br (K:=K) (qv 2) (ah (bB (ah (qv 3) (ah (qv 4) aa))) aa)))
   (ak (aH (i:=3) (qv 4))))))
   (ak (aw (qv 2)))))),?_⟩
  dsimp only[st0];nofun;refine⟨aE (by simp),λl hl=>?_⟩;have hlp:=hT.ne hl;have S1:=(Rg hT).new (o:=.lst []) hl;have t1:(upd H l (.lst [])) l=some (.lst (([]:List Addr).map Rb)):=af;generalize upd H l (.lst [])=H1 at S1 t1;nofun;refine⟨λm σ H'=>∃(at':Nat) (qs:List Addr) (cs:List (Nat×Nat)),m=n - at'/\St2 p H H'/\H' l=some (.lst (qs.map Rb))/\PrAt H' qs cs/\Cut cs 0 at'/\at'<=n/\∃v,σ=[some (Rb p),some (Q8 n),some (Rb l),some (Q8 (at':Nat)),v],⟨_,0,[],[],rfl,S1,t1,PrAt.nil,rfl,GW _,_,rfl⟩,?_⟩;rintro m σ H2 ⟨at',qs,cs,rfl,S2,t2,hP,hC,ha,v,rfl⟩;nofun;refine aV (λg=>?_) (λg=>?_)
  ·refine⟨_,λ_ _ z=>z,?_⟩
   nofun;refine⟨p,4,rfl,S2.tape,by decide,by decide,λr H3 r0 S3=>?_⟩;have P3:=hP.st2 S2.tape S3;have t3:=S3.keep _ _ t2 hlp;nofun;obtain⟨e,he,h1,h2⟩:∃e:Nat,(if((at':Nat):Int)+1+(r:Int)<(n:Int)then((at':Nat):Int)+1+(r:Int)else(n:Int))=(e:Int)/\at'<e/\e<=n:=⟨min n (at'+1+r),by split<;>lia,by lia,by lia⟩
   rw[he];refine⟨a9 t3,?_⟩;nofun;refine⟨aE (by simp),λq hq=>?_⟩;have s4:=(Rc H3).new (o:=.tup [Q8 (at':Nat),Q8 (e:Nat)]) hq;have tq:(upd H3 q (.tup [Q8 (at':Nat),Q8 (e:Nat)])) q=some (.tup [Q8 (at':Nat),Q8 (e:Nat)]):=af;have S4:=(S2.trans S3).new (o:=.tup [Q8 (at':Nat),Q8 (e:Nat)]) hq;generalize upd H3 q (.tup [Q8 (at':Nat),Q8 (e:Nat)])=H4 at s4 tq S4;nofun;have hql:qs.length=cs.length:=hP.1;have hcl:=hC.le;refine aW (s4 _ _ t3) (by rw[GF];exact au ⋯) ?_;nofun;exact⟨n - e,by lia,e,qs++[q],cs++[(at',e)],rfl,S4.own hl hlp,by rw[af,GP];rfl,((P3.same s4).snoc tq).own (s4 _ _ t3),hC.snoc h1,h2,_,rfl⟩
  ·have e:at'=n:=by lia
   subst e;nofun;exact k l qs cs H2 S2 hl t2 hP hC
theorem ue{H:Hp}(h:RowsT H ps rss)(n:Nat):RowsT H (ps.take n) (rss.take n):=⟨by rw[G5,G5,h.1],λi p r a b=>by
 rw[LC]at a b;split at a
 ·rename_i g;rw[if_pos g]at b;exact h.2 i p r a b
 ·cases a⟩
theorem uf{H:Hp}(h:RowsT H ps rss)(n:Nat):RowsT H (ps.drop n) (rss.drop n):=⟨by rw[Hm,Hm,h.1],λi p r a b=>by
 rw[IM]at a b;exact h.2 _ p r a b⟩
theorem Kpp.lst{C p c h pt:Addr}{H H1:Hp}{cs hs:List Addr}{rss oss:List (List Nat)}{m:Nat}(K:Kpp p c h pt H H1)(P:PoAt C H p c h cs hs rss oss m)(T:fe pt H){a:Addr}{xs:List V}(e:H a=some (.lst xs))(x2:a≠c)(x3:a≠h):H1 a=some (.lst xs):=by
 obtain⟨dx,ob⟩:=P.ob;exact K a _ e (bw e ob (by intro z;cases z)) x2 x3 (T.ne e)
theorem o7:∀(n:Nat) (l:List Nat) (t:Nat),l.length=n->(kX l t).1.length<=n
 | 0,l,t,h=>by rw[HZ.mp h,kX];simp
 | 1,l,t,h=>by
  match l,h with
  | [y],_=>rw[kX];simp
 | n+2,l,t,h=>by
  match l,h with
  | y::x::r,h=>
   rw[kX];split
   ·have:=o7 (n+1) ((x+y)::r) (t+(x+y)) (by simp at h ⊢;lia)
    lia
   ·simp at h ⊢;lia
theorem zO(xs:List V){f l:Nat}(h1:f<=l)(h2:l<=xs.length):jz xs (some (f:Int)) (some (l:Int))=(xs.drop f).take (l - f):=by
 unfold jz;rw[HT.dU,HT.dU,Jn (by lia:f<=xs.length),Jn h2]
def Kq(o c h pt p:Addr)(H H':Hp):Prop:=∀b u,H b=some u->b≠o->b≠c->b≠h->b≠pt->b≠p->H' b=some u
theorem PoAt.st2{C:Addr}{H H1:Hp}{p c h tp:Addr}{cs hs:List Addr}{rss oss:List (List Nat)}{m:Nat}(P:PoAt C H p c h cs hs rss oss m)(t:Tp2 H tp)(S:St2 tp H H1)(hc:c≠tp)(hh:h≠tp)(hq:∀q∈hs,q≠tp):PoAt C H1 p c h cs hs rss oss m:=by
 obtain⟨dx,e⟩:=P.ob;have hp:p≠tp:=by
  obtain⟨a,b,z,_⟩:=t;exact bw e z (by intro y;cases y)
 exact⟨⟨dx,S.keep _ _ e hp⟩,S.keep _ _ P.cm hc,P.rw.st2 t S,S.keep _ _ P.hp hh,⟨P.ls.1,λi q ns a b=>S.keep _ _ (P.ls.2 i q ns a b) (hq q (G3 a))⟩,P.sg,P.ch,P.cn,P.hn⟩
def CA(K:GH)(pt:Addr):Sp:=λvs H Q _=>∃(p a:Addr) (ps:List Addr) (rss:List (List Nat)) (w:Nat),vs=[.ref p,.ref a]/\Tp2 H p/\H a=some (.lst (ps.map Rb))/\a≠p/\RowsT H ps rss/\(∀r∈rss,r.length=w)/\rss.length<=60/\fe pt H/\
 ∀(l:Addr) (os:List Nat) H',(∀b u,b≠pt->b≠p->H b=some u->H' b=some u)->Tp2 H' p->fe pt H'->H l=none->H' l=some (.lst (NV os))->OrdR rss os->Q (.ref l) H'
theorem ug (T:Tx K mg t):FnOk P t.wd K mg t.bs CX0 5 (t.f 52) (t.d 52) ["_law_tape_here","_law_rows"] (CA K t.pt):=by
 refine okT (N:=["_law_tape_here","_law_rows","_law_told","_law_begin","_law_end"]) (T.fn 52 rfl) (λH Q hr nd h=>?_)
 ·obtain⟨p,a,ps,rss,w,rfl,Tp,ta,hap,hR,hw,hn,hT,k⟩:=h
  have hpl:ps.length=rss.length:=hR.1;refine⟨_,(ae (aH (i:=2) (vM T.jq (iu T) (hr.mono (by decide)) rfl T.zV T.jr fh ))
   (ae (cA Hb rfl (aS (K:=K) (aC (zN T) hr (T.fn 51 rfl) (ah (qv 0) (ah (ag (aU (K:=K)) (by rfl) T.bz aP (ah (qv 1) aa)) aa)))) (bF (K:=K) (n:=2) rfl (av (aD (i:=3)) (av (aD (i:=4)) aY))) (ak (bb (nj (qv 2) T.bR T.nK (mq T) (hr.mono (by decide)) T.nL fh (ah (c0 (lE (K:=K)) (qv 1) (cx (qv 3)) (cx (qv 4))) aa)))))
   (ak (aw (gj (qv 2) T.bR T.mG (kY T) (hr.mono (by decide)) T.mI fh ))))),?_⟩
  dsimp only[st0];nofun;intro o dx ho hdx hne;have sN:Same H (upd (upd H dx (.own o)) o (.ins t.aL dx [])):=λb u e=>by
   rw[ar (aq e ho),ar (aq e hdx)];exact e
  refine⟨o,dx,rfl,af,λc h H4 hc hh P4 kp4=>⟨rfl,?_⟩⟩;have s04:Same H H4:=λb u e=>kp4 _ _ (sN _ _ e) (aq e ho)
  have hc0:H c=none:=sN.free hc;have hh0:H h=none:=sN.free hh;have hcp:c≠p:=Tp.ne hc0;have hhp:h≠p:=Tp.ne hh0;nofun;refine aJ (Q6 (s04 _ _ ta)) ?_;rw[GF,hpl];nofun;refine⟨p,rss.length,rfl,Tp.same s04,hn,λl qs cs H5 S5 hl tl hP hC=>?_⟩;have hlp:l≠p:=(Tp.same s04).ne hl;have hlo:l≠o:=λe=>by
   obtain⟨dx4,ob4⟩:=P4.ob;rw[e,ob4]at hl;cases hl
  have hlc:l≠c:=λe=>by rw[e,P4.cm]at hl;cases hl
  have hlh:l≠h:=λe=>by rw[e,P4.hp]at hl;cases hl
  have P5:=P4.st2 (Tp.same s04) S5 hcp hhp (λq h=>nomatch h);have T5:=tV (hT.same s04) (Tp.same s04) S5;have ta5:=S5.keep _ _ (s04 _ _ ta) hap;have R5:=(hR.same s04).st2 (Tp.same s04) S5;have hlt:=T5.ne tl;have hat:=T5.ne ta5;have hao:a≠o:=aq ta ho;have hac:a≠c:=aq ta hc0;have hah:a≠h:=aq ta hh0;have kt:∀{HX:Hp},Kq o c h t.pt p H5 HX->∀q xs,H5 q=some (.tup xs)->HX q=some (.tup xs):=λ{HX} kq q xs z=>by
   obtain⟨dx5,ob5⟩:=P5.ob;exact kq _ _ z (bw z ob5 (by intro y;cases y)) (bw z P5.cm (by intro y;cases y)) (bw z P5.hp (by intro y;cases y)) (T5.neT z) (pX S5.tape z)
  have hqc:qs.length=cs.length:=hP.1;have hcl:=hC.le;nofun;refine⟨l,rfl,⟨_,Q6 tl⟩,du (a:=l) (xs:=qs.map Rb) (λj σ H'=>Kq o c h t.pt p H5 H'/\fe t.pt H'/\Tp2 H' p/\(∃(zs hs:List Addr) (oss:List (List Nat)) (mv s:Nat),PoAt t.aL H' o c h zs hs (rss.take s) oss mv/\(∀q∈hs,q≠p)/\Cut (cs.drop j) s rss.length/\s<=rss.length/\oss.length<=j/\j<=cs.length/\
    ∃v4 v5,σ=[some (Rb p),some (Rb a),some (Rb o),v4,v5])) ⟨λb u e _ _ _ _ _=>e,T5,S5.tape,[],[],[],0,0,P5,(λq h=>nomatch h),hC,GW _,GJ _,GW _,_,_,rfl⟩ (λj σ H' _ h=>Q6 (h.1 _ _ tl hlo hlc hlh hlt hlp)) ?_ ?_⟩
  ·rintro j x σ H6 hx ⟨K6,T6,Tp6,zs,hs,oss,mv,s,P6,hhs,hC6,hsn,hoj,_,v4,v5,rfl⟩
   obtain⟨q,rfl,hq,_,hj⟩:=aF hx;have hjc:j<cs.length:=by lia
   have tq:=kt K6 _ _ (hP.2 j q cs[j] hq (GE hjc));rw[Jt hjc]at hC6;generalize cs[j]=z at tq hC6;obtain⟨z1,z2⟩:=z;obtain⟨h1,h2,h3⟩:=hC6;have h1:z1=s:=h1;have h2:s<z2:=h2;subst h1;have hz2:z2<=rss.length:=by have:=h3.le;lia
   refine bf tq ?_;dsimp only[HM];obtain⟨dx6,ob6⟩:=P6.ob;have ta6:=K6 _ _ ta5 hao hac hah hat hap;have R6:RowsT H6 ps rss:=⟨R5.1,λj q r e1 e2=>kt K6 _ _ (R5.2 j q r e1 e2)⟩;nofun;refine⟨o,dx6,_,rfl,ob6,iJ _ _ _ (by decide +kernel) (by decide +kernel) (by decide +kernel),?_⟩;nofun;refine⟨_,rfl,?_⟩;nofun;refine⟨_,rfl,?_⟩;refine kR ta6 λx1 H8 hx1 s8 tx1=>?_
   rw[zO _ ⋯ (by rw[GF];lia),<-Kj,<-Ki]at tx1;have P8:=P6.same s8;have hx1c:x1≠c:=λe=>by rw[e,P6.cm]at hx1;cases hx1
   have hx1h:x1≠h:=λe=>by rw[e,P6.hp]at hx1;cases hx1
   have R8:=ue (uf (R6.same s8) z1) (z2 - z1);have hqr:((rss.drop z1).take (z2 - z1)).length=z2 - z1:=by rw[G5,Hm];lia
   have T8:=T6.same s8;nofun;refine⟨o,x1,c,h,zs,hs,_,rss.take z1,oss,(rss.drop z1).take (z2 - z1),mv,w,rfl,P8,⟨tx1,trivial⟩,R8.toU,λr hr=>hw r (Nc (Kc hr)),by rw[hqr,G5];lia,by lia,hx1c,hx1h,λq hq=>?_,T8,λcs' hs' oss' HB PB eB FB KB TB=>?_⟩
   ·obtain⟨j',hj',rfl⟩:=Hv hq
    have hjr:j'<((rss.drop z1).take (z2 - z1)).length:=by rw[<-R8.1];exact hj'
    have hz:=R8.2 j' _ _ (GE hj') (GE hjr);exact⟨bw hz P8.cm (by intro z;cases z),bw hz P8.hp (by intro z;cases z)⟩
   have erss:rss.take z1++(rss.drop z1).take (z2 - z1)=rss.take z2:=by rw[<-List.take_add,show z1+(z2 - z1)=z2 by lia]
   rw[erss]at PB;have hlB:oss'.length<=oss.length+1:=by
    have h1:(oss'.map HL).reverse.length<=(oss.map HL++[((rss.drop z1).take (z2 - z1)).length]).reverse.length:=by rw[eB];exact o7 _ _ _ rfl
    simpa using h1
   obtain⟨tx,tyy,tpe,tpp⟩:=Tp6.same s8;have tpB:Tp2 HB p:=⟨tx,tyy,KB.lst P8 T8 tpe (λe=>hcp e.symm) (λe=>hhp e.symm),tpp⟩;refine⟨λb u e x1' x2 x3 x4 x5=>KB b u (s8 _ _ (K6 b u e x1' x2 x3 x4 x5)) x1' x2 x3 x4,TB,tpB,cs',hs',oss',_,z2,PB,λq hq=>?_,h3,hz2,by lia,by lia,_,_,rfl⟩;rcases FB q hq with g|g
   ·exact hhs q g
   ·exact λe=>by rw[e,tpe]at g;cases g
  ·rintro σ H6 ⟨K6,T6,Tp6,zs,hs,oss,mv,s,P6,hhs,hC6,hsn,hoj,_,v4,v5,rfl⟩
   rw[GF,hqc,List.drop_length]at hC6;have hC6:s=rss.length:=hC6;subst hC6;rw[GN (GJ _)]at P6;obtain⟨dx6,ob6⟩:=P6.ob;nofun;refine⟨o,dx6,_,rfl,ob6,iJ _ _ _ (by decide +kernel) (by decide +kernel) (by decide +kernel),?_⟩;nofun;refine⟨o,c,h,zs,hs,rss,oss,mv,rfl,P6,hn,by rw[GF]at hoj;lia,λl2 os H7 hl2 s7 tl2 hp hs'=>?_⟩;refine k l2 os H7 (λb u n1 n2 e=>?_) (Tp6.same s7) (T6.same s7) ?_ tl2 ⟨hp,hs'⟩
   ·exact s7 _ _ (K6 b u (S5.keep _ _ (s04 _ _ e) n2) (aq e ho) (aq e hc0) (aq e hh0) n1 n2)
   ·cases z:H l2 with
    | none=>rfl
    | some u=>
     by_cases e1:l2=t.pt
     ·rcases T6 with y|⟨_,y,_⟩<;>rw[<-e1,hl2]at y<;>cases y
     ·by_cases e2:l2=p
      ·obtain⟨_,_,y,_⟩:=Tp6
       rw[<-e2,hl2]at y;cases y
      ·have:=K6 l2 u (S5.keep _ _ (s04 _ _ z) e2) (aq z ho) (aq z hc0) (aq z hh0) e1 e2
       rw[this]at hl2;cases hl2
noncomputable def fP:List (Nat×Nat)->Nat->Nat
 | [],_=>0
 | z::r,o=>if o<z.2 then 0 else fP r o+1
theorem mx:∀{cs:List (Nat×Nat)}{o o':Nat},o<=o'->fP cs o<=fP cs o'
 | [],_,_,_=>GJ _
 | z::r,o,o',h=>by
  unfold fP;by_cases h1:o<z.2
  ·rw[if_pos h1];exact GW _
  ·rw[if_neg h1,if_neg ⋯];exact J8 (mx h)
theorem uh:∀{cs:List (Nat×Nat)}{a b o:Nat},Cut cs a b->a<=o->o<b->∃z,cs[fP cs o]? = some z/\z.1<=o/\o<z.2
 | [],_,_,_,h,h1,h2=>by cases h;lia
 | z::r,a,b,o,h,h1,h2=>by
  unfold fP;by_cases h3:o<z.2
  ·rw[if_pos h3];exact⟨z,rfl,by have:=h.1;lia,h3⟩
  ·rw[if_neg h3]
   obtain⟨y,e,g⟩:=uh h.2.2 (by lia:z.2<=o) h2;exact⟨y,e,g⟩
theorem Cut.ge:∀{cs:List (Nat×Nat)}{a b j:Nat}{z:Nat×Nat},Cut cs a b->cs[j]? = some z->a<=z.1/\z.1<z.2/\z.2<=b
 | y::r,a,b,j,z,h,e=>by
  have hl:=h.2.2.le;have h1:=h.1;have h2:=h.2.1;cases j with
  | zero=>cases e;lia
  | succ j=>have:=h.2.2.ge (by simpa using e);lia
theorem ui:∀{cs:List (Nat×Nat)}{a b o j:Nat}{z:Nat×Nat},Cut cs a b->cs[j]? = some z->z.1<=o->o<z.2->fP cs o=j
 | y::r,a,b,o,j,z,h,e,h1,h2=>by
  unfold fP;cases j with
  | zero=>cases e;rw[if_pos h2]
  | succ j=>
   have e:r[j]? = some z:=by simpa using e
   have:=h.2.2.ge e;rw[if_neg ⋯,ui h.2.2 e h1 h2]
noncomputable def my(cs:List (Nat×Nat))(rss:List (List Nat)):List (List (List Nat)):=cs.map λz=>(rss.drop z.1).take (z.2 - z.1)
theorem uj{rss:List (List Nat)}:∀{cs:List (Nat×Nat)}{a b:Nat}(j:Nat),Cut cs a b->b<=rss.length->
  ((GO cs.length).map λi=>((my cs rss).getD i []).map λr=>(r,j+i)).flatten=(HS a (b - a)).map λo=>(rss.getD o [],j+fP cs o)
 | [],a,b,j,h,_=>by cases h;simp
 | z::r,a,b,j,h,hb=>by
  have hl:=h.2.2.le;have h1:=h.1;have h2:=h.2.1;have ih:=uj (j+1) h.2.2 hb;rw[G8,ML,Ig,IV,Jg];have e1:((GO r.length).map ((λi=>((my (z::r) rss).getD i []).map λr=>(r,j+i))∘Nat.succ))=(GO r.length).map λi=>((my r rss).getD i []).map λr=>(r,j+1+i):=by
   refine Iu λi _=>?_
   show((my (z::r) rss).getD (i+1) []).map (λr=>(r,j+(i+1)))=_
   have:(my (z::r) rss).getD (i+1) []=(my r rss).getD i []:=by simp[my]
   rw[this];refine Iu λx _=>?_
   rw[Kh,K4 1 i]
  rw[e1,ih];have e2:HS a (b - a)=HS a (z.2 - a)++HS z.2 (b - z.2):=by
   have:=@List.range'_append_1 a (z.2 - a) (b - z.2);rw[show a+(z.2 - a)=z.2 by lia,show z.2 - a+(b - z.2)=b - a by lia]at this;exact this.symm
  rw[e2,GP];congr 1
  ·show((my (z::r) rss).getD 0 []).map (λr=>(r,j+0))=_
   have e3:(my (z::r) rss).getD 0 []=(rss.drop z.1).take (z.2 - z.1):=by simp[my]
   rw[e3,h1];refine Jy (by simp;lia) λi g1 g2=>?_
   have g3:i<z.2 - a:=by simpa using g2
   rw[Kb,Kb,KH,JR,Nj];have e4:fP (z::r) (a+1*i)=0:=by unfold fP;rw[if_pos ⋯]
   rw[e4,GG,GE ⋯];simp
  ·refine Iu λo ho=>?_
   have:=JQ.mp ho;have e4:fP (z::r) o=fP r o+1:=by show(if o<z.2 then 0 else fP r o+1)=_;rw[if_neg ⋯]
   rw[e4,Kh,K4 1]
theorem wA{cs:List (Nat×Nat)}(h:Cut cs 0 rss.length):ju (my cs rss) (GS (my cs rss).length 0) (my cs rss).length=(GO rss.length).map λo=>(rss.getD o [],fP cs o):=by
 have e:=uj 0 h (GJ _);rw[Le,<-Ju]at e;simp only[Lh]at e;rw[<-e];unfold ju;have hl:(my cs rss).length=cs.length:=GF ..;rw[hl];congr 1;refine Iu λi hi=>?_
 unfold qc;rw[GG (l:=GS _ _),JE,if_pos (Hg.mp hi)];rfl
theorem mz:∀{xs T:List Nat}{x:Nat},xs.Pairwise (· < ·)->x∈xs->x∉T->(∀y∈xs,y<x->y∈T)->xs.filter (λy=>decide (y∉T))=x::xs.filter (λy=>decide (y∉T++[x]))
 | [],_,_,_,h,_,_=>nomatch h
 | y::xs,T,x,hp,hx,hT,hy=>by
  rw[IY]at hp;rcases GZ.mp hx with e|e
  ·subst e
   rw[KU,KU,if_pos (by simpa using hT),if_neg (by simp)];congr 1;refine N6 λz hz=>?_
   have:=hp.1 z hz;have:z≠x:=by lia
   simp[this]
  ·have hyT:y∈T:=hy y (Hj ..) (hp.1 x e)
   rw[KU,KU,if_neg (by simpa using hyT),if_neg (by simp[hyT])];exact mz hp.2 e hT λz hz=>hy z (Hd _ hz)
theorem CB{e o o':Nat}(h:RisL ((rss.drop b).take (e - b)))(he:e<=rss.length)(h1:b<=o)(h2:o<o')(h3:o'<e):Rk rss 0 o o':=by
 have g:=G7.mp h (o - b) (o' - b) (by simp;lia) (by simp;lia) ⋯;rw[KH,KH,JR,JR]at g;have i1:b+(o - b)=o:=by lia
 have i2:b+(o' - b)=o':=by lia
 simp only[i1,i2]at g;unfold Rk;rw[Ht,Ht,GG,GG,GE (by lia:o<rss.length),GE (by lia:o'<rss.length)];show lxt rss[o] rss[o']=true\/(rss[o]=rss[o']/\o<o')
 rcases gC rss[o] rss[o']with q|q|q
 ·exact .inl q
 ·exact .inr ⟨q,h2⟩
 ·rw[g]at q;cases q
theorem p6{os:List Nat}(hO:OrdR rss os){o:Nat}(hk:k<os.length)(ho:o<rss.length)(h:Rk rss 0 o os[k]):o∈os.take k:=by
 have hm:o∈os:=hO.1.mem_iff.mpr (Hg.mpr ho);obtain⟨m,hm1,rfl⟩:=Hv hm;rcases Iv m k with z|z|z
 ·rw[LY]
  exact⟨m,by lia,rfl⟩
 ·subst z;exact(Rk.asymm h h).elim
 ·exact(Rk.asymm h (G7.mp hO.2 k m hk hm1 z)).elim
theorem RisL.snoc{xs:List (List Nat)}{x y:List Nat}(h:RisL (xs++[x]))(g:lxt y x=false):RisL (xs++[x]++[y]):=by
 have h':=Hz.mp h;refine Hz.mpr ⟨h,IS ..,λa ha b hb=>?_⟩;rw[G0.mp hb];rcases Hc.mp ha with q|q
 ·have e:=h'.2.2 a q x (List.mem_singleton_self _)
  cases z:lxt y a with
  | false=>rfl
  | true=>
   rcases gC x y with w|w|w
   ·rw[i0 w z]at e;cases e
   ·rw[w,z]at e;cases e
   ·rw[w]at g;cases g
 ·rw[G0.mp q];exact g
theorem wB{os:List Nat}(hO:OrdR rss os)(cs:List (Nat×Nat)):sO (os.map λo=>(rss.getD o [],fP cs o)):=by
 refine Jr.mpr (hO.2.imp λ{o o'} h=>?_);unfold hlt HT.lt2;dsimp only;rcases h with h|⟨e,h⟩
 ·rw[Ht,Ht]at h
  rw[if_neg λz=>?_]
  ·cases q:HT.bC (bo (rss.getD o' [])) (bo (rss.getD o []))with
   | false=>rfl
   | true=>exact(i3 h q).elim
  ·rw[lY z,cM]at h;cases h
 ·rw[Ht,Ht]at e
  rw[if_pos (by rw[e])];have:=mx (cs:=cs) (IU h);rw[HT.bC];by_cases z:((fP cs o':Nat):Int)=(fP cs o:Nat)
  ·rw[if_pos z];rfl
  ·rw[if_neg z];exact decide_eq_false ⋯
theorem gv{α:Type}{xs:List α}{s:Nat}(h1:s<=i)(h2:i<xs.length):(xs.drop s).take (i+1 - s)=(xs.drop s).take (i - s)++[xs[i]]:=by
 have e:i+1 - s=i - s+1:=by lia
 rw[e,O2,IM,show s+(i - s)=i by lia,GE h2];rfl
structure Cls (H H':Hp) (p la pa:Addr) (ps:List Addr) (rss:List (List Nat)) (ls bs:List Addr) (cs:List (Nat×Nat)) (i:Nat):Prop where
 st:St2 p H H'
 tl:H' la=some (.lst (ls.map Rb))
 tp:H' pa=some (.lst (bs.map Rb))
 ll:ls.length=cs.length
 bl:bs.length=cs.length
 ct:Cut cs 0 i
 cl:∀(j:Nat) z x y,cs[j]? = some z->ls[j]? = some x->bs[j]? = some y->H' x=some (.lst (((ps.drop z.1).take (z.2 - z.1)).map Rb))/\H' y=some (.lst (NV (HS z.1 (z.2 - z.1))))/\RisL ((rss.drop z.1).take (z.2 - z.1))
 fr:∀x∈la::pa::(ls++bs),H x=none
 nd:(la::pa::(ls++bs)).Nodup
structure Opn (H H':Hp) (p la pa:Addr) (ps:List Addr) (rss:List (List Nat)) (ls bs:List Addr) (cs:List (Nat×Nat)) (l b:Addr) (s i:Nat):Prop where
 st:St2 p H H'
 tl:H' la=some (.lst ((ls++[l]).map Rb))
 tp:H' pa=some (.lst ((bs++[b]).map Rb))
 ll:ls.length=cs.length
 bl:bs.length=cs.length
 ct:Cut cs 0 s
 le:s<=i
 hl:H' l=some (.lst (((ps.drop s).take (i - s)).map Rb))
 hb:H' b=some (.lst (NV (HS s (i - s))))
 cl:∀(j:Nat) z x y,cs[j]? = some z->ls[j]? = some x->bs[j]? = some y->H' x=some (.lst (((ps.drop z.1).take (z.2 - z.1)).map Rb))/\H' y=some (.lst (NV (HS z.1 (z.2 - z.1))))/\RisL ((rss.drop z.1).take (z.2 - z.1))
 fr:∀x∈la::pa::(ls++[l]++(bs++[b])),H x=none
 nd:(la::pa::(ls++[l]++(bs++[b]))).Nodup
section
variable{H H' H1:Hp}{p la pa l b:Addr}{ps ls bs:List Addr}{rss:List (List Nat)}{cs:List (Nat×Nat)}{s i:Nat}
theorem Cls.keep(h:Cls H H' p la pa ps rss ls bs cs i)(S:St2 p H H1)(k:∀x∈la::pa::(ls++bs),∀u,H' x=some u->H1 x=some u):Cls H H1 p la pa ps rss ls bs cs i:=
 ⟨S,k _ (by simp) _ h.tl,k _ (by simp) _ h.tp,h.ll,h.bl,h.ct,λj z x y a b c=>by
  obtain⟨e1,e2,e3⟩:=h.cl j z x y a b c;have m1:=G3 b;have m2:=G3 c;exact⟨k _ (by simp[m1]) _ e1,k _ (by simp[m2]) _ e2,e3⟩,h.fr,h.nd⟩
theorem Opn.keep(h:Opn H H' p la pa ps rss ls bs cs l b s i)(S:St2 p H H1)(k:∀x∈la::pa::(ls++[l]++(bs++[b])),∀u,H' x=some u->H1 x=some u):Opn H H1 p la pa ps rss ls bs cs l b s i:=
 ⟨S,k _ (by simp) _ h.tl,k _ (by simp) _ h.tp,h.ll,h.bl,h.ct,h.le,k _ (by simp) _ h.hl,k _ (by simp) _ h.hb,λj z x y a b c=>by
  obtain⟨e1,e2,e3⟩:=h.cl j z x y a b c;have m1:=G3 b;have m2:=G3 c;exact⟨k _ (by simp[m1]) _ e1,k _ (by simp[m2]) _ e2,e3⟩,h.fr,h.nd⟩
theorem Cls.st2(h:Cls H H' p la pa ps rss ls bs cs i)(Tp:Tp2 H p)(S:St2 p H' H1):Cls H H1 p la pa ps rss ls bs cs i:=h.keep (h.st.trans S) λx hx u e=>S.keep _ _ e (Tp.ne (h.fr x hx))
theorem Opn.st2(h:Opn H H' p la pa ps rss ls bs cs l b s i)(Tp:Tp2 H p)(S:St2 p H' H1):Opn H H1 p la pa ps rss ls bs cs l b s i:=h.keep (h.st.trans S) λx hx u e=>S.keep _ _ e (Tp.ne (h.fr x hx))
theorem Opn.close(h:Opn H H' p la pa ps rss ls bs cs l b s i)(hs:s<i)(hr:RisL ((rss.drop s).take (i - s))):Cls H H' p la pa ps rss (ls++[l]) (bs++[b]) (cs++[(s,i)]) i:=
 ⟨h.st,h.tl,h.tp,by simp[h.ll],by simp[h.bl],h.ct.snoc hs,λj z x y a b c=>by
  by_cases g:j<cs.length
  ·rw[GU g]at a
   rw[GU (by rw[h.ll];exact g)]at b;rw[GU (by rw[h.bl];exact g)]at c;exact h.cl j z x y a b c
  ·have e:j=cs.length:=by have:=(GM.mp a).1;simp at this;lia
   subst e;rw[J7]at a;have e1:=h.ll;have e2:=h.bl;rw[<-e1,J7]at b;rw[<-e2,J7]at c;cases a;cases b;cases c;exact⟨h.hl,h.hb,hr⟩,h.fr,h.nd⟩
theorem Cls.openN(h:Cls H H' p la pa ps rss ls bs cs i)(Tp:Tp2 H p)(hl:H' l=none)(hb:H' b=none)(hlb:l≠b)(S:St2 p H H1)(t1:H1 la=some (.lst ((ls++[l]).map Rb)))(t2:H1 pa=some (.lst ((bs++[b]).map Rb)))(t3:H1 l=some (.lst []))(t4:H1 b=some (.lst []))
  (k:∀x∈ls++bs,∀u,H' x=some u->H1 x=some u):Opn H H1 p la pa ps rss ls bs cs l b i i:=
 ⟨S,t1,t2,h.ll,h.bl,h.ct,GJ _,by rw[t3,JB];rfl,by rw[t4,JB];rfl,λj z x y a b c=>by
  obtain⟨e1,e2,e3⟩:=h.cl j z x y a b c;have m1:=G3 b;have m2:=G3 c;exact⟨k _ (by simp[m1]) _ e1,k _ (by simp[m2]) _ e2,e3⟩,λx hx=>by
  have:x∈la::pa::(ls++bs)\/x=l\/x=b:=by simp at hx ⊢;grind
  rcases this with z|rfl|rfl
  ·exact h.fr x z
  ·exact h.st.free hl
  ·exact h.st.free hb,by
  have f:∀x∈la::pa::(ls++bs),∃u,H' x=some u:=λx hx=>by
   rcases GZ.mp hx with rfl|hx
   ·exact⟨_,h.tl⟩
   rcases GZ.mp hx with rfl|hx
   ·exact⟨_,h.tp⟩
   rcases Hc.mp hx with hx|hx
   ·obtain⟨j,hj,rfl⟩:=Hv hx
    have e1:=h.ll;have e2:=h.bl;exact⟨_,(h.cl j _ _ _ (GE ⋯) (GE hj) (GE ⋯)).1⟩
   ·obtain⟨j,hj,rfl⟩:=Hv hx
    have e1:=h.ll;have e2:=h.bl;exact⟨_,(h.cl j _ _ _ (GE ⋯) (GE ⋯) (GE hj)).2.1⟩
  have n1:l∉la::pa::(ls++bs):=λz=>by obtain⟨u,e⟩:=f l z;rw[hl]at e;cases e
  have n2:b∉la::pa::(ls++bs):=λz=>by obtain⟨u,e⟩:=f b z;rw[hb]at e;cases e
  have P:(la::pa::(ls++[l]++(bs++[b]))).Perm (l::b::(la::pa::(ls++bs))):=by
   rw[Nm];intro a;simp only[Mt,JP,O3];lia
  rw[P.nodup_iff,HQ,HQ];exact⟨λz=>(GZ.mp z).elim hlb n1,n2,h.nd⟩⟩
theorem Opn.grow(h:Opn H H' p la pa ps rss ls bs cs l b s i)(hi:i<ps.length)(S:St2 p H H1)(t1:H1 l=some (.lst (((ps.drop s).take (i - s)).map Rb++[Rb ps[i]])))(t2:H1 b=some (.lst (NV (HS s (i - s))++[Q8 (i:Nat)])))
  (k:∀x∈la::pa::(ls++bs),∀u,H' x=some u->H1 x=some u):Opn H H1 p la pa ps rss ls bs cs l b s (i+1):=
 ⟨S,k _ (by simp) _ h.tl,k _ (by simp) _ h.tp,h.ll,h.bl,h.ct,Nat.le_succ_of_le h.le,by rw[t1,gv h.le hi,GP];rfl,by
  have e:i+1 - s=i - s+1:=by have:=h.le;lia
  have:=h.le;rw[t2,e,List.range'_concat,show s+1*(i - s)=i by lia];show _=some (HO.lst ((HS s (i - s)++[i]).map _))
  rw[GP];rfl,λj z x y a b c=>by
  obtain⟨e1,e2,e3⟩:=h.cl j z x y a b c;have m1:=G3 b;have m2:=G3 c;exact⟨k _ (by simp[m1]) _ e1,k _ (by simp[m2]) _ e2,e3⟩,h.fr,h.nd⟩
def MSt(H H':Hp)(p la pa:Addr)(ps:List Addr)(rss:List (List Nat))(i:Nat):Prop:=(i=0/\Cls H H' p la pa ps rss [] [] [] 0)\/∃ls bs cs l b s,Opn H H' p la pa ps rss ls bs cs l b s i/\s<i/\RisL ((rss.drop s).take (i - s))
theorem MSt.st(h:MSt H H' p la pa ps rss i):St2 p H H':=by
 rcases h with⟨_,h⟩|⟨_,_,_,_,_,_,h,_⟩<;>exact h.st
theorem MSt.st2(h:MSt H H' p la pa ps rss i)(Tp:Tp2 H p)(S:St2 p H' H1):MSt H H1 p la pa ps rss i:=by
 rcases h with⟨e,h⟩|⟨ls,bs,cs,l,b,s,h,g⟩
 ·exact .inl ⟨e,h.st2 Tp S⟩
 ·exact .inr ⟨ls,bs,cs,l,b,s,h.st2 Tp S,g⟩
theorem MSt.cls(h:MSt H H' p la pa ps rss i):∃ls bs cs,Cls H H' p la pa ps rss ls bs cs i:=by
 rcases h with⟨rfl,h⟩|⟨ls,bs,cs,l,b,s,h,g1,g2⟩
 ·exact⟨_,_,_,h⟩
 ·exact⟨_,_,_,h.close g1 g2⟩
end
theorem zP{s:Nat}(hs:s<i)(hi:i<rss.length)(hr:RisL ((rss.drop s).take (i - s)))(g:lxt rss[i] rss[i - 1]=false):RisL ((rss.drop s).take (i+1 - s)):=by
 rw[gv ⋯ hi];have e:(rss.drop s).take (i - s)=(rss.drop s).take (i - 1 - s)++[rss[i - 1]]:=by
  have:=gv (xs:=rss) (s:=s) (i:=i - 1) ⋯ ⋯;rw[show i - 1+1 - s=i - s by lia]at this;exact this
 rw[e]at hr ⊢;exact RisL.snoc hr g
theorem zQ{os:List Nat}(hO:OrdR rss os)(hk:k<os.length):os[k]∉os.take k:=λz=>by
 obtain⟨m,h1,e⟩:=LY.mp z;have:=G7.mp hO.2 m k ⋯ hk ⋯;rw[e]at this;exact Rk.asymm this this
def CC:Sp:=λvs H Q _=>∃(p a:Addr) (ps:List Addr) (rss:List (List Nat)) (os:List Nat),vs=[.ref p,.ref a]/\Tp2 H p/\H a=some (.lst (ps.map Rb))/\a≠p/\RowsT H ps rss/\rss.length<=60/\OrdR rss os/\
 ∀(l:Addr) H',St2 p H H'->H l=none->H' l=some (.lst (NV os))->Q (.ref l) H'
theorem nH (T:Tx K mg t):FnOk P t.wd K mg t.bs CX0 6 (t.f 53) (t.d 53) ["_law_tape_here","_law_rows"] CC:=by
 refine okT (N:=["_law_tape_here","_law_rows","_law_lists","_law_places","_law_k","_law_row"]) (T.fn 53 rfl) (λH Q hr nd h=>?_)
 ·obtain⟨p,a,ps,rss,os,rfl,Tp,ta,hap,hR,hn,hO,k⟩:=h
  have hpl:ps.length=rss.length:=hR.1;refine⟨_,(ae (aH (i:=2) (aQ aa))
   (ae (aH (i:=3) (aQ aa))
   (ae (cA Hb rfl (fY (K:=K) rfl T.cC (ah (qv 1) aa)) (bF (K:=K) (n:=2) rfl (av (aD (i:=4)) (av (aD (i:=5)) aY))) (ae (aT (Re (gz (az (yG (K:=K) hr.units0) (qv 2) (aQ aa) (ax _)) (gz (az (EK (K:=K) hr.units0) (aO (bc (K:=K)) (aO (bc (K:=K)) (qv 2) (fj fk aj)) (fj fk aj)) (qv 5) (ax _)) (dX (az eV (aC (bp T) hr (T.fn 38 rfl) (ah (qv 0) (ah aj aa))) aj (ax _)))))) (ae (bb (br (K:=K) (qv 2) (ah (aQ aa) aa)))
   (ak (bb (br (K:=K) (qv 3) (ah (aQ aa) aa))))) aG)
   (ae (bb (br (K:=K) (aO (bc (K:=K)) (qv 2) (fj fk aj)) (ah (qv 5) aa)))
   (ak (bb (br (K:=K) (aO (bc (K:=K)) (qv 3) (fj fk aj)) (ah (qv 4) aa)))))))
   (ak (aw (a0 (N:=["_law_number_here","_law_row","_law_places"]) (tgs:=["_law_number_here","_law_row"]) (frs:=["_law_places"]) (ix:=[3]) ⟨rfl,by decide +kernel,rfl,by decide +kernel,rfl,rfl,⟨⟨rfl,rfl,_,rfl,rfl⟩,GR⟩,⟨rfl,GR⟩,rfl⟩ rfl (aS (K:=K) (aC (jE T) hr (T.fn 35 rfl) (ah (qv 2) aa))) (λ_ _ _ _=>(bF (K:=K) (n:=2) rfl (av (aD (i:=0)) (av (aD (i:=1)) aY)))) (λ_ _ _ _=>(u6 (K:=K) (aO (bc (K:=K)) (qv 2) (qv 0)) (ah aj aa))))))))),?_⟩
  dsimp only[st0];nofun;refine⟨aE (by simp),λla hla=>?_⟩;have hlp:=Tp.ne hla;have S1:=(Rg Tp).new (o:=.lst []) hla;have ta1:(upd H la (.lst [])) la=some (.lst []):=af;generalize upd H la (.lst [])=H1 at S1 ta1;nofun;refine⟨aE (by simp),λpa hpa=>?_⟩;have hpp:=S1.tape.ne hpa;obtain⟨H2,e9,S2,e8,tp⟩:=nwV S1 hpa (.lst []);rw[e9];have tl:=e8 _ _ ta1;have hne:la≠pa:=aq ta1 hpa;have hpa0:=S1.free hpa;have M0:MSt H H2 p la pa ps rss 0:=.inl ⟨rfl,S2,tl,tp,rfl,rfl,rfl,λj z x y h=>(by simp at h),λx hx=>by
   simp at hx;rcases hx with rfl|rfl
   ·exact hla
   ·exact hpa0,by simp[hne]⟩
  have ta2:=S2.keep _ _ ta hap;nofun;refine⟨a,rfl,⟨_,Q6 ta2⟩,d6 (n:=rss.length) (λi σ H'=>MSt H H' p la pa ps rss i/\∃v w,σ=[some (Rb p),some (Rb a),some (Rb la),some (Rb pa),v,w]) ⟨M0,_,_,rfl⟩ ?_ ?_ ?_ ?_⟩
  ·rintro i σ H3 hi ⟨M,_⟩
   exact⟨_,Rb (ps[i]'⋯),Q6 (M.st.keep _ _ ta hap),by rw[GK,GE ⋯];rfl⟩
  ·rintro σ H3 ⟨M,_⟩
   exact⟨_,Q6 (M.st.keep _ _ ta hap),by rw[GF];exact hpl⟩
  ·rintro i x σ H3 H4 hi ⟨M,v,w,rfl⟩ ⟨q,x1,rfl,hq,rfl,hx1⟩
   have hip:i<ps.length:=by lia
   have hx2:=hx1 _ (Q6 (M.st.keep _ _ ta hap));rw[GK,GE hip]at hx2;obtain rfl:=G9 hx2;refine bf af ?_;dsimp only[HM];have M4:=M.st2 Tp ((Rg M.st.tape).new (o:=.tup [Q8 (i:Nat),Rb ps[i]]) hq);generalize upd H3 q (.tup [Q8 (i:Nat),Rb ps[i]])=H4 at M4;have er:rss[i]? = some rss[i]:=GE hi;have tr:∀{HX},St2 p H HX->HX ps[i]=some (.tup (NV rss[i])):=λ{HX} S=>S.keep _ _ (hR.2 i _ _ (GE hip) er) (pX Tp (hR.2 i _ _ (GE hip) er))
   generalize hy:ps[i]=y at tr;nofun;apply EY (S:=λHE=>∃ls bs cs l b s,Opn H HE p la pa ps rss ls bs cs l b s i/\RisL ((rss.drop s).take (i+1 - s)));case hA=>
    intro key;apply EY (S:=λHD=>∃ls bs cs,Cls H HD p la pa ps rss ls bs cs i);case hA=>
     intro key1;refine⟨aE (by simp),λz hz=>?_⟩;have M5:=M4.st2 Tp ((Rg M4.st.tape).new (o:=.lst []) hz);have tz:(upd H4 z (.lst [])) z=some (.lst []):=af;generalize upd H4 z (.lst [])=H5 at M5 tz;rcases M5 with⟨e0,M5⟩|⟨ls,bs,cs,l,b,s,M5,hs,hr⟩
     ·refine⟨la,z,_,rfl,rfl,Q6 M5.tl,Q6 tz,?_⟩
      rw[decide_eq_true (by rfl)];nofun;exact key1 H5 ⟨[],[],[],by rw[e0];exact M5⟩
     ·refine⟨la,z,_,rfl,rfl,Q6 M5.tl,Q6 tz,?_⟩
      rw[decide_eq_false (by simp)];nofun;refine bx (Q6 M5.tl) (v:=Rb l) (iX (by simp)) ?_;nofun;have e1:rss[i - 1]? = some (rss[i - 1]'⋯):=GE _;have t1:=hR.2 (i - 1) (ps[i - 1]'⋯) _ (GE _) e1;have t1:=M5.st.keep _ _ t1 (pX Tp t1);refine bx (Q6 M5.hl) (v:=Rb (ps[i - 1]'⋯)) (iX (by
       rw[GF,G5,Hm,GK,LC,if_pos ⋯,IM,show s+(min (i - s) (ps.length - s) - 1)=i - 1 by lia,GE ⋯];rfl)) ?_
      nofun;refine⟨_,y,bo (rss[i - 1]'⋯),bo rss[i],rfl,rfl,Q7 (by rw[<-cH];exact t1),Q7 (by rw[<-cH];exact tr M5.st),?_⟩;have ev:HT.bC (bo rss[i]) (bo (rss[i - 1]'⋯))=lxt rss[i] (rss[i - 1]'⋯):=rfl;rw[ev];cases hle:lxt rss[i] (rss[i - 1]'⋯)with
      | true=>
       nofun;exact key1 H5 ⟨_,_,_,M5.close hs hr⟩
      | false=>
       nofun;refine⟨p,5,rfl,M5.st.tape,by decide,by decide,λr H6 r0 S6=>?_⟩;have M6:=M5.st2 Tp S6;nofun;refine aV (λg=>?_) (λg=>?_)
       ·skip
        nofun;exact key1 H6 ⟨_,_,_,M6.close hs hr⟩
       ·skip
        nofun;exact key H6 ⟨_,_,_,_,_,_,M6,zP hs hi hr hle⟩
    case hB=>
     rintro HD ⟨ls,bs,cs,M6⟩;have hcl:=M6.ct.le;have hlc:=M6.ll;have hbc:=M6.bl;refine⟨a9 M6.tl,?_⟩;nofun;refine⟨aE (by simp),λl hl=>?_⟩;have M7:=M6.st2 Tp ((Rg M6.st.tape).new (o:=.lst []) hl);have t1:(upd HD l (.lst [])) l=some (.lst []):=af;have hll:l≠la:=Hl (aq M6.tl hl);have hlq:l≠pa:=Hl (aq M6.tp hl);have k1:=(Rc HD).new (o:=.lst []) hl;generalize upd HD l (.lst [])=HF at M7 t1 k1;nofun;refine aW M7.tl (by rw[GF];exact au ⋯) ?_;have S8:St2 p H (upd HF la (.lst (ls.map Rb++[Rb l]))):=M7.st.own hla hlp;have t8:(upd HF la (.lst (ls.map Rb++[Rb l]))) la=some (.lst ((ls++[l]).map Rb)):=by rw[af,GP];rfl
     have p8:(upd HF la (.lst (ls.map Rb++[Rb l]))) pa=some (.lst (bs.map Rb)):=by rw[ar (Hl hne)];exact M7.tp
     have t18:(upd HF la (.lst (ls.map Rb++[Rb l]))) l=some (.lst []):=by rw[ar hll];exact t1
     have k8:∀x,x≠la->∀u,HD x=some u->(upd HF la (.lst (ls.map Rb++[Rb l]))) x=some u:=λx hx u e=>by
      rw[ar hx];exact k1 x u e
     generalize upd HF la (.lst (ls.map Rb++[Rb l]))=HG at S8 t8 p8 t18 k8;nofun;refine⟨a9 p8,?_⟩;nofun;refine⟨aE (by simp),λb hb=>?_⟩;have S9:=S8.new (o:=.lst []) hb;have n9:=((Rc HG).new (o:=.lst []) hb);have b9:(upd HG b (.lst [])) b=some (.lst []):=af;have hbp:b≠pa:=Hl (aq p8 hb);have hlb:l≠b:=aq t18 hb;generalize upd HG b (.lst [])=HI at S9 n9 b9;nofun;refine aW (n9 _ _ p8) (by rw[GF];exact au ⋯) ?_;have hbD:HD b=none:=by
      cases z:HD b with
      | none=>rfl
      | some u=>
       exfalso;by_cases q:b=la
       ·rw[q,t8]at hb;cases hb
       ·rw[k8 b q u z]at hb;cases hb
     have M9:Opn H (upd HI pa (.lst (bs.map Rb++[Rb b]))) p la pa ps rss ls bs cs l b i i:=M6.openN Tp hl hbD hlb (S9.own hpa0 hpp) (by rw[ar hne];exact n9 _ _ t8) (by rw[af,GP];rfl) (by rw[ar hlq];exact n9 _ _ t18) (by rw[ar hbp];exact b9) λx hx u e=>by
      rw[ar (λz=>by subst z;exact(HQ.mp (HQ.mp M7.nd).2).1 hx)];exact n9 _ _ (k8 x (λz=>by subst z;exact(HQ.mp M7.nd).1 (Hd _ hx)) u e)
     generalize upd HI pa (.lst (bs.map Rb++[Rb b]))=HJ at M9;nofun;exact key HJ ⟨_,_,_,_,_,_,M9,by rw[gv (GJ _) hi,JB];exact IS ..⟩
   case hB=>
    rintro HE ⟨ls,bs,cs,l,b,s,M7,hr⟩;have hnd:=M7.nd;have hll:l∉la::pa::(ls++bs)/\l≠b/\b∉la::pa::(ls++bs):=by
     have P:(la::pa::(ls++[l]++(bs++[b]))).Perm (l::b::(la::pa::(ls++bs))):=by
      rw[Nm];intro a;simp only[Mt,JP,O3];lia
     rw[P.nodup_iff,HQ,HQ]at hnd;exact⟨λz=>hnd.1 (Hd _ z),λz=>hnd.1 (by rw[z];exact Hj ..),hnd.2.1⟩
    refine bx (Q6 M7.tl) (v:=Rb l) (iX (by simp)) ?_;nofun;refine⟨a9 M7.hl,?_⟩;nofun;refine aW M7.hl (by rw[GF,G5];exact au ⋯) ?_;have hl0:=M7.fr l (by simp);have hb0:=M7.fr b (by simp);have S8:St2 p H (upd HE l (.lst (((ps.drop s).take (i - s)).map Rb++[Rb y]))):=M7.st.own hl0 (Tp.ne hl0);have l8:(upd HE l (.lst (((ps.drop s).take (i - s)).map Rb++[Rb y]))) l=some (.lst (((ps.drop s).take (i - s)).map Rb++[Rb ps[i]])):=by rw[hy];exact af
    have k8:∀x,x≠l->∀u,HE x=some u->(upd HE l (.lst (((ps.drop s).take (i - s)).map Rb++[Rb y]))) x=some u:=λx hx u e=>by rw[ar hx];exact e
    generalize upd HE l (.lst (((ps.drop s).take (i - s)).map Rb++[Rb y]))=HF at S8 l8 k8;have p8:=k8 pa (λz=>hll.1 (by simp[z])) _ M7.tp;have b8:=k8 b (Hl hll.2.1) _ M7.hb;nofun;refine bx (Q6 p8) (v:=Rb b) (iX (by simp)) ?_;nofun;refine⟨a9 b8,?_⟩;nofun;refine aW b8 (by rw[aB,NH];exact au ⋯) ?_;have M9:Opn H (upd HF b (.lst (NV (HS s (i - s))++[Q8 (i:Nat)]))) p la pa ps rss ls bs cs l b s (i+1):=M7.grow hip (S8.own hb0 (Tp.ne hb0)) (by rw[ar hll.2.1];exact l8) af λx hx u e=>by
     rw[ar (λz=>by subst z;exact hll.2.2 hx)];exact k8 x (λz=>by subst z;exact hll.1 hx) u e
    generalize upd HF b (.lst (NV (HS s (i - s))++[Q8 (i:Nat)]))=HG at M9;nofun;exact⟨.inr ⟨ls,bs,cs,l,b,s,M9,by have:=M9.le;have:=M7.le;lia,hr⟩,_,_,rfl⟩
  ·rintro σ H3 ⟨M,v,w,rfl⟩
   obtain⟨ls,bs,cs,C⟩:=M.cls;have R3:=hR.st2 Tp C.st;have hcl:=C.ct.le;have hlc:=C.ll;have hbc:=C.bl;have hol:os.length=rss.length:=by have:=hO.1.length_eq;simpa using this
   nofun;refine⟨la,ls,cs.map λz=>(ps.drop z.1).take (z.2 - z.1),my cs rss,os.map λo=>(rss.getD o [],fP cs o),rfl,⟨C.tl,by rw[hlc];exact(GF ..).symm,by rw[GF];exact(GF ..).symm,λj l qs r e1 e2 e3=>?_⟩,by rw[show(my cs rss).length=cs.length from GF ..];lia,λr hr=>?_,by rw[wA C.ct];exact hO.1.symm.map _,wB hO cs,by rw[GF];lia,λr ts H4 s4 hr0 tr4 hP=>?_⟩
   ·rw[GK]at e2
    unfold my at e3;rw[GK]at e3;cases e4:cs[j]? with
    | none=>rw[e4]at e2;cases e2
    | some z=>
     rw[e4]at e2 e3;cases e2;cases e3;have hj:j<bs.length:=by rw[hbc];exact(GM.mp e4).1
     exact⟨(C.cl j z l _ e4 e1 (GE hj)).1,ue (uf R3 _) _⟩
   ·obtain⟨z,hz,rfl⟩:=Hk.mp hr
    obtain⟨j,hj,rfl⟩:=Hv hz;exact⟨(C.cl j _ _ _ (GE hj) (GE ⋯) (GE ⋯)).2.2,by rw[G5,Hm];lia⟩
   have hP4:=C.tp;have hbl:∀y∈bs,∃xs,H4 y=some (.lst xs):=λy hy=>by
    obtain⟨j,hj,rfl⟩:=Hv hy;exact⟨_,s4 _ _ (C.cl j _ _ _ (GE ⋯) (GE ⋯) (GE hj)).2.1⟩
   have hrb:r∉bs:=λz=>by
    obtain⟨j,hj,rfl⟩:=Hv z;have:=(C.cl j _ _ _ (GE ⋯) (GE ⋯) (GE hj)).2.1;rw[hr0]at this;cases this
   have htl:ts.length=os.length:=by have:=hP.1;rw[this,GF]
   have hpb:pa∉bs:=λz=>(HQ.mp (HQ.mp C.nd).2).1 (GT _ z)
   have hbn:bs.Nodup:=(List.nodup_append.mp (HQ.mp (HQ.mp C.nd).2).2).2.1;nofun;refine⟨r,rfl,⟨_,Q6 tr4⟩,aX (a:=r) (vs:=ts.map Rb) (λk ys σ H'=>(∀b u,H4 b=some u->b∉bs->H' b=some u)/\(∀(j:Nat) z y,cs[j]? = some z->bs[j]? = some y->H' y=some (.lst (NV ((HS z.1 (z.2 - z.1)).filter λx=>decide (x∉os.take k)))))/\ys=NV (os.take k)/\k<=os.length/\∃v w,σ=[v,w,some (Rb pa)])
    (by rw[GF];exact au ⋯) (λk ys σ H' h=>by rw[h.2.2.1,aB,G5];lia) (λk ys σ H' h=>Q6 (h.1 _ _ tr4 hrb)) ⟨λ_ _ e _=>e,λj z y e1 e2=>?_,rfl,GW _,_,_,rfl⟩ ?_ ?_⟩
   ·have hj:=(GM.mp e1).1
    rw[List.filter_eq_self.mpr (by simp)];exact s4 _ _ (C.cl j z _ y e1 (GE ⋯) e2).2.1
   ·rintro k' ys σ H5 x hx ⟨K5,B5,rfl,hk,v,w,rfl⟩
    obtain⟨t',rfl,et,_,hkt⟩:=aF hx;have hko:k'<os.length:=by lia
    have ed:(os.map λo=>(rss.getD o [],fP cs o))[k']? = some (rss.getD os[k'] [],fP cs os[k']):=by rw[GK,GE hko];rfl
    obtain⟨r',g1,_⟩:=hP.2 k' t' _ et ed;have hor:os[k']<rss.length:=Hg.mp (hO.1.mem_iff.mp (GV hko));obtain⟨z,ez,z1,z2⟩:=uh C.ct (GW _) hor;have hzj:=(GM.mp ez).1;have hge:=C.ct.ge ez;have ey:bs[fP cs os[k']]? = some (bs[fP cs os[k']]'⋯):=GE _;have hyb:=GV (by lia:fP cs os[k']<bs.length);have hris:=(C.cl _ z _ _ ez (GE ⋯) ey).2.2;have hB:=B5 _ z _ ez ey;have hfh:=mz (xs:=HS z.1 (z.2 - z.1)) (T:=os.take k') (x:=os[k']) List.pairwise_lt_range' (JQ.mpr ⟨z1,by lia⟩) (zQ hO hko) λq hq hlt=>by
     have:=JQ.mp hq;exact p6 hO hko ⋯ (CB hris hge.2.2 this.1 hlt z2)
    have htk:os.take (k'+1)=os.take k'++[os[k']]:=by rw[O2,GE hko];rfl
    have hoth:∀(j:Nat) z' y',cs[j]? = some z'->bs[j]? = some y'->y'≠bs[fP cs os[k']]'⋯->(HS z'.1 (z'.2 - z'.1)).filter (λx=>decide (x∉os.take (k'+1)))=(HS z'.1 (z'.2 - z'.1)).filter λx=>decide (x∉os.take k'):=λj z' y' e1 e2 hne'=>by
     refine N6 λq hq=>?_
     have hq:=JQ.mp hq;have hzz:=(C.ct.ge e1).2.1;have:q≠os[k']:=λe=>by
      have e3:=ui C.ct e1 hq.1 ⋯;rw[e]at e3;refine hne' ?_;exact(G9 (ey.symm.trans (by rw[e3];exact e2))).symm
     refine decide_eq_decide.mpr (not_congr ?_);rw[htk,Hc,G0];exact⟨λh=>h.resolve_right this,.inl⟩
    rw[<-htk]at hfh;rw[hfh]at hB;have g5:=K5 _ _ g1 (λz=>by obtain⟨xs,e⟩:=hbl _ z;rw[g1]at e;cases e);have p5:=K5 _ _ (s4 _ _ C.tp) hpb;have epb:(bs.map Rb)[fP cs os[k']]? = some (Rb (bs[fP cs os[k']]'⋯)):=by rw[GK,ey];rfl
    generalize bs[fP cs os[k']]'⋯=yb at ey hyb hB hoth epb;generalize hoe:os[k']=o at *;refine bf g5 ?_;dsimp only[HM];nofun;refine bx (Q6 p5) (v:=Rb yb) (ba epb) ?_;nofun;refine⟨a9 hB,?_⟩;nofun;refine u9 hB rfl (by decide) rfl ?_;refine Rf (by rw[GF];exact hkt) ⟨λb u e n=>?_,λj z' y' e1 e2=>?_,?_,hko,_,_,rfl⟩
    ·rw[ar (λq=>n (by rw[q];exact hyb))]
     exact K5 b u e n
    ·by_cases hyy:y'=yb
     ·subst hyy
      rw[af];have hjj:j=fP cs o:=by
       obtain⟨q1,q2⟩:=GM.mp e2;obtain⟨q3,q4⟩:=GM.mp ey;rcases Iv j (fP cs o)with g|g|g
       ·exact absurd (q2.trans q4.symm) (G7.mp hbn _ _ q1 q3 g)
       ·exact g
       ·exact absurd (q4.trans q2.symm) (G7.mp hbn _ _ q3 q1 g)
      subst hjj;rw[ez]at e1;cases e1;rfl
     ·rw[ar hyy,hoth j z' y' e1 e2 hyy]
      exact B5 j z' y' e1 e2
    ·rw[htk]
     unfold NV;rw[GP];rfl
   ·rintro ys σ H5 ⟨K5,B5,rfl,hk,v,w,rfl⟩
    rw[GF,htl,GN (GJ _)];intro l hl;show Q (Rb l) _
    have hbH:∀y∈bs,H y=none:=λy hy=>C.fr y (Hd _ (Hd _ (GT _ hy)))
    have kp:∀b u,H b=some u->b≠p->H5 b=some u:=λb u e n=>K5 b u (s4 _ _ (C.st.keep _ _ e n)) λz=>by rw[hbH b z]at e;cases e
    have T5:Tp2 H5 p:=by
     obtain⟨x,y,e,g⟩:=C.st.tape;exact⟨x,y,K5 p _ (s4 _ _ e) λz=>Tp.ne (hbH p z) rfl,g⟩
    exact k l _ ((⟨kp,T5⟩:St2 p H H5).new hl) ((⟨kp,T5⟩:St2 p H H5).free hl) af
def LtK(rss:List (List Nat))(k:Kd):Prop:=rss.length=k.len/\∀i j,i<k.len->j<k.len->lxt (rss.getD i []) (rss.getD j [])=k.lt i j
theorem nI{α:Type}{zs:List α}{f:α->List Nat}{g:α->List Int}{L:Nat->Nat->Bool}(hf:∀z∈zs,bo (f z)=g z)(h:Rises (zs.map g) L)(hi:i<zs.length)(hj:j<zs.length):lxt ((zs.map f).getD i []) ((zs.map f).getD j [])=L i j:=by
 have e1:(zs.map f).getD i []=f zs[i]:=by rw[GG,GK,GE hi];rfl
 have e2:(zs.map f).getD j []=f zs[j]:=by rw[GG,GK,GE hj];rfl
 rw[e1,e2];show HT.bC (bo (f zs[i])) (bo (f zs[j]))=L i j
 rw[hf _ (GV hi),hf _ (GV hj)];exact h i j _ _ (by rw[GK,GE hi];rfl) (by rw[GK,GE hj];rfl)
theorem Kd.rows.lt{k:Kd}{w by':Nat}(h:k.rows b rss w by')(hk:k.ok)(hb:2<=b)(hb2:b<=64):LtK rss k:=by
 refine⟨(h.good hk hb hb2).2.1,λi j hi hj=>?_⟩;cases k with
 | nu ns=>
  obtain⟨⟨zs,h,rfl⟩,_⟩:=h;have hl:=h.len;exact nI (λz _=>tQ z b w) (tP h hb) (by have:i<ns.length:=hi;lia) (by have:j<ns.length:=hj;lia)
 | pa tb=>
  obtain⟨⟨zs,h,rfl⟩,_⟩:=h;have hl:=h.len;have hw:(bY tb).length=tb.length:=by unfold bY;simp
  exact nI (λz _=>tQ z b w) (ze h hb hk.2.1) (by have:i<tb.length:=hi;lia) (by have:j<tb.length:=hj;lia)
 | te zs=>
  obtain⟨⟨hM,_,rfl⟩,_⟩:=h;exact nI (λz hz=>xk (hk.2 z hz)) (zf hk.2 hM) hi hj
theorem zR{r1 r2:List (List Nat)}{k:Kd}(h1:LtK r1 k)(h2:LtK r2 k)(hi:i<k.len)(hj:j<k.len)(h:Rk r1 0 i j):Rk r2 0 i j:=by
 unfold Rk at h ⊢;simp only[Ht]at h ⊢;have a:=h1.2 i j hi hj;have b:=h1.2 j i hj hi;have c:=h2.2 i j hi hj;have d:=h2.2 j i hj hi;rcases h with h|⟨e,h⟩
 ·exact .inl (by rw[c,<-a];exact h)
 ·rw[e,cM]at a b
  rw[<-a]at c;rw[<-b]at d;rcases gC (r2.getD i []) (r2.getD j [])with q|q|q
  ·rw[c]at q;cases q
  ·exact .inr ⟨q,h⟩
  ·rw[d]at q;cases q
theorem OrdR.conv{r1 r2:List (List Nat)}{k:Kd}{os:List Nat}(h:OrdR r1 os)(h1:LtK r1 k)(h2:LtK r2 k):OrdR r2 os:=by
 have m:∀o∈os,o<k.len:=λo ho=>by rw[<-h1.1];exact Hg.mp (h.1.mem_iff.mp ho)
 exact⟨by rw[h2.1,<-h1.1];exact h.1,IL (λha hb g=>zR h1 h2 (m _ ha) (m _ hb) g) h.2⟩
theorem OrdR.one{rss:List (List Nat)}{os os':List Nat}(h:OrdR rss os)(h':OrdR rss os'):os=os':=
 gD (λi j a b=>(Rk.asymm a b).elim) (h.1.trans h'.1.symm) h.2 h'.2
theorem OrdR.ris{k:Kd}{os:List Nat}(h:OrdR rss os)(h1:LtK rss k):os.Pairwise λi j=>k.lt i j=true/\k.lt j i=false\/(k.lt i j=false/\k.lt j i=false/\i<j):=by
 have m:∀o∈os,o<k.len:=λo ho=>by rw[<-h1.1];exact Hg.mp (h.1.mem_iff.mp ho)
 refine IL (λ{i j} ha hb g=>?_) h.2;have a:=h1.2 i j (m _ ha) (m _ hb);have b:=h1.2 j i (m _ hb) (m _ ha);unfold Rk at g;simp only[Ht]at g;rw[<-a,<-b];rcases g with g|⟨e,g⟩
 ·refine .inl ⟨g,?_⟩
  cases q:lxt (rss.getD j []) (rss.getD i [])with
  | false=>rfl
  | true=>exact(i3 g q).elim
 ·rw[e,cM]
  exact .inr ⟨rfl,rfl,g⟩
def E8:R2:=λx y H Q=>∃a b:Bool,x=.bl a/\y=.bl b/\Q (.bl (!(a == b))) H
theorem CD:QOp X (Rm .IsNot) E8:=⟨λpins s σ H x y v u Q I rx ry h=>by
 obtain⟨a,b,rfl,rfl,q⟩:=h;cases rx;cases ry;exact Ri (bA I q (by cases a<;>cases b<;>rfl))⟩
def K6(t:Ad)(p:Addr)(H H1:Hp):Prop:=∀b u,b≠t.pt->b≠p->H b=some u->H1 b=some u
section
variable{t:Ad}{p:Addr}{H H1 H2:Hp}
theorem K6.trans(a:K6 t p H H1)(b:K6 t p H1 H2):K6 t p H H2:=λc u n1 n2 e=>b c u n1 n2 (a c u n1 n2 e)
theorem cf(a:Same H H1):K6 t p H H1:=λc u _ _ e=>a c u e
theorem p7(a:SameX t.pt H H1):K6 t p H H1:=λc u n _ e=>a c u n e
theorem mB(a:St2 p H H1):K6 t p H H1:=λc u _ n e=>a.keep c u e n
theorem CF(T:Tp2 H p)(h:fe t.pt H)(s:SameX t.pt H H1):Tp2 H1 p:=by
 obtain⟨x,y,e,g⟩:=T;exact⟨x,y,s _ _ (h.ne e) e,g⟩
end
structure At60 (t:Ad) (p:Addr) (H:Hp) (kl rl ol:Addr) (k:Kd) (us:List V) (ps:List Addr) (rss:List (List Nat)) (os:List Nat):Prop where
 tape:Tp2 H p
 tab:fe t.pt H
 key:H kl=some (.lst us)
 klp:kl≠p
 kat:KAt H k us
 rr:H rl=some (.lst (ps.map Rb))
 rlp:rl≠p
 rows:RowsT H ps rss
 ord:H ol=some (.lst (NV os))
 olp:ol≠p
section
variable{t:Ad}{p:Addr}{H H1 H2:Hp}{kl rl ol:Addr}{k:Kd}{us:List V}{ps:List Addr}{rss:List (List Nat)}{os:List Nat}
theorem K6.kat(s:K6 t p H H1)(T:Tp2 H p)(h:fe t.pt H)(a:KAt H k us):KAt H1 k us:=by
 cases k with
 | nu ns=>exact a
 | pa tb=>obtain⟨qs,e,g⟩:=a;exact⟨qs,e,g.1,λi q z a b=>s _ _ (h.neT (g.2 i q z a b)) (pX T (g.2 i q z a b)) (g.2 i q z a b)⟩
 | te zs=>exact a
theorem K6.rows(s:K6 t p H H1)(T:Tp2 H p)(h:fe t.pt H)(g:RowsT H ps rss):RowsT H1 ps rss:=⟨g.1,λi q z a b=>s _ _ (h.neT (g.2 i q z a b)) (pX T (g.2 i q z a b)) (g.2 i q z a b)⟩
theorem K6.lst(s:K6 t p H H1)(h:fe t.pt H){a:Addr}{xs:List V}(e:H a=some (.lst xs))(n:a≠p):H1 a=some (.lst xs):=s _ _ (h.ne e) n e
theorem At60.keep(a:At60 t p H kl rl ol k us ps rss os)(s:K6 t p H H1)(T:Tp2 H1 p)(h:fe t.pt H1):At60 t p H1 kl rl ol k us ps rss os:=
 ⟨T,h,s.lst a.tab a.key a.klp,a.klp,s.kat a.tape a.tab a.kat,s.lst a.tab a.rr a.rlp,a.rlp,s.rows a.tape a.tab a.rows,s.lst a.tab a.ord a.olp,a.olp⟩
theorem At60.same(a:At60 t p H kl rl ol k us ps rss os)(s:Same H H1):At60 t p H1 kl rl ol k us ps rss os:=a.keep (cf s) (a.tape.same s) (a.tab.same s)
theorem At60.sx(a:At60 t p H kl rl ol k us ps rss os)(s:SameX t.pt H H1)(h:fe t.pt H1):At60 t p H1 kl rl ol k us ps rss os:=a.keep (p7 s) (CF a.tape a.tab s) h
theorem At60.st(a:At60 t p H kl rl ol k us ps rss os)(s:St2 p H H1):At60 t p H1 kl rl ol k us ps rss os:=a.keep (mB s) s.tape (tV a.tab a.tape s)
theorem CG{x:Addr}(T:Tp2 H p)(h:H x=some (.lst (qs.map Rb))):x≠p:=λz=>by
 obtain⟨a,b,e,_⟩:=T;rw[z,e]at h;cases qs with
 | nil=>cases h
 | cons q r=>cases h
end
def Os(p:Addr)(H:Hp)(os:List Nat)(cs:List Addr):Prop:=∀o∈cs,H o=some (.lst (NV os))/\o≠p
theorem Os.keep{t:Ad}{H:Hp}{os:List Nat}(h:Os p H os cs)(s:K6 t p H H1)(T:fe t.pt H):Os p H1 os cs:=λo ho=>⟨s.lst T (h o ho).1 (h o ho).2,(h o ho).2⟩
theorem Os.snoc{H:Hp}{os:List Nat}{o:Addr}(h:Os p H os cs)(e:H o=some (.lst (NV os)))(n:o≠p):Os p H os (cs++[o]):=λx hx=>(Hc.mp hx).elim (h x) λg=>by rw[G0.mp g];exact⟨e,n⟩
def wC(K:GH)(pt:Addr):Sp:=λvs H Q _=>∃(a:Addr) (ns:List Int),vs=[.ref a]/\SqL K H a (ns.map Q8)/\ns.length<=63/\fe pt H/\∀H',Q (.bl true) H'
theorem CH (T:Tx K mg t):FnOk P t.wd K mg t.bs CX0 7 t.CK t.CJ ["_law_script"] (wC K t.pt):=by
 have nd:=sc_law.nd;refine T.Fb.okQ sc_law (λvs H Q E h=>?_) (λcdv A outer s H vs Q E hr h=>?_)
 ·obtain⟨a,ns,rfl,_⟩:=h
  rfl
 ·obtain⟨a,ns,rfl,hS,hlen,hT,k⟩:=h
  refine⟨_,(ae (cA Hb rfl (dY rfl T.cz (ah (aI cV aj (ag (rb rfl) (by rfl) T.mJ l6 (ah aj (ah (ag (aU (K:=K)) (by rfl) T.bz aP (ah (qv 0) aa)) aa)))) aa)) (aD (i:=1)) (ae (aH (i:=2) (aC (y2 T) hr (T.fn 37 rfl) (ah (qv 0) (ah (qv 1) aa))))
   (ae (df (aC (zK T) hr (T.fn 48 rfl) (ah (qv 2) (ah (qv 1) aa))) (bF (K:=K) (n:=3) rfl (av (aD (i:=3)) (av (aD (i:=4)) (av (aD (i:=5)) aY)))))
   (ae (df (aC (gN T) hr (T.fn 28 rfl) (ah (qv 3) (ah (qv 4) (ah (qv 5) aa)))) (bF (K:=K) (n:=2) rfl (av (aD (i:=6)) (av (aD (i:=7)) aY))))
   (ae (aH (i:=8) (aC (c9 T) hr (T.fn 12 rfl) (ah (qv 7) aa)))
   (ae (aT (Re (gz (fv (bE (aC (wz T) hr (T.fn 50 rfl) (ah (qv 3) (ah (qv 4) (ah (qv 8) aa)))))) (dX (az CD (aC (jF T) hr (T.fn 13 rfl) (ah (qv 7) (ah (qv 8) aa))) fi (ax _))))) (ak (aw fi)) aG)
   (ae (aH (i:=9) (aQ (ah (aO (ie (K:=K)) (aC (gX T) hr (T.fn 7 rfl) (ah (qv 7) (ah (qv 6) aa))) aj) (ah (aO (ie (K:=K)) (aC (gn T) hr (T.fn 6 rfl) (ah (qv 7) (ah (qv 6) aa))) aj) (ah (aO (ie (K:=K)) (aC (j4 T) hr (T.fn 19 rfl) (ah (qv 7) aa)) aj) (ah (aC (ug T) hr (T.fn 52 rfl) (ah (qv 2) (ah (qv 7) aa))) aa))))))
   (ae (aH (i:=9) (aI Bt (qv 9) (aQ (ah (aC (nH T) hr (T.fn 53 rfl) (ah (qv 2) (ah (qv 7) aa))) (ah (aC (c9 T) hr (T.fn 12 rfl) (ah (aO (ie (K:=K)) (aC (gN T) hr (T.fn 28 rfl) (ah (qv 3) (ah (qv 4) (ah (aC (tG T) hr (T.fn 40 rfl) (ah (qv 2) aa)) aa)))) aj) aa)) aa)))))
   (ae (aT (fv (bE (ag (rf (K:=K) rfl) (by rfl) T.qa tD (ah (a0 (N:=["_law_order","_law_due"]) (tgs:=["_law_order"]) (frs:=["_law_due"]) (ix:=[8]) ⟨rfl,by decide +kernel,rfl,by decide +kernel,rfl,rfl,⟨⟨rfl,rfl,_,rfl,rfl⟩,GR⟩,⟨rfl,GR⟩,rfl⟩ rfl (aS (K:=K) (qv 9)) (λ_ _ _ _=>(aD (i:=0))) (λ_ _ _ _=>(aC (tH T) hr (T.fn 47 rfl) (ah (qv 0) (ah (qv 1) aa))))) aa)))) (ak (aw fi)) aG)
   (ak (cA Hb rfl (aS (K:=K) (aQ (ah bK (ah bK (ah bK aa))))) (aD (i:=10)) (ak (aT (fv (bE (aC (tH T) hr (T.fn 47 rfl) (ah (bq (mX (K:=K)) (by rfl) T.cq cy (ah (c0 BW (aC (pZ T) hr (T.fn 32 rfl) (ah (qv 10) (ah (qv 3) (ah (qv 4) (ah (qv 5) aa))))) qW (cx aj)) aa)) (ah (aQ (ah (a0 (N:=["_law_place","_law_keys_here"]) (tgs:=["_law_place"]) (frs:=["_law_keys_here"]) (ix:=[4]) ⟨rfl,by decide +kernel,rfl,by decide +kernel,rfl,rfl,⟨⟨rfl,rfl,_,rfl,rfl⟩,GR⟩,⟨rfl,GR⟩,rfl⟩ rfl (aS (K:=K) (qv 8)) (λ_ _ _ _=>(aD (i:=0))) (λ_ _ _ _=>(aO (bc (K:=K)) (qv 1) (qv 0)))) (ah (qv 8) aa))) aa))))) (ak (aw fi)) aG)))))))))))))
   (ak (aw fi))),?_⟩
  rw[show L2.start ["_law_script","_law_k","_law_tape_here","_law_kind","_law_keys_here","_law_base_here","_law_own","_law_rows","_law_due","_law_orders","_law_way"] [Rb a]=[some (Rb a),none,none,none,none,none,none,none,none,none,none]from rfl];nofun;refine aJ hS ?_;nofun;have hml:(Ox Q8 ns).length=ns.length:=GF ..;refine⟨_,rfl,by(repeat' split)<;>lia,by(repeat' split)<;>lia,fQ (λi σ H'=>SameX t.pt H H'/\fe t.pt H'/\∃v1 v2 v3 v4 v5 v6 v7 v8 v9 v10,σ=[some (Rb a),v1,v2,v3,v4,v5,v6,v7,v8,v9,v10]) ⟨SameX.refl _ _,hT,_,_,_,_,_,_,_,_,_,_,rfl⟩ ?_ ?_⟩
  ·rintro i σ H' hi ⟨sm,T0,v1,v2,v3,v4,v5,v6,v7,v8,v9,v10,rfl⟩
   nofun;refine⟨a,ns,_,rfl,Cp hT sm hS,by lia,λp H1 hp0 same T1=>?_⟩;have hpn:H p=none:=zk sm T0 hp0;have TT1:=T0.same same;have M1:K6 t p H H1:=(p7 sm).trans (cf same);nofun;refine⟨p,_,rfl,T1,λq l kind xs b H2 hkind tq tl hxl hK hb hb2 hlp hl0 S2=>?_⟩;have TT2:=tV TT1 T1 S2;have M2:=M1.trans (mB S2);refine eY tq ?_;obtain⟨kd,hkd,hA,hok⟩:=zH hkind hK hxl;subst hkd;dsimp only[HM];nofun;refine⟨kd,xs,l,b,rfl,.inl tl,hA,hok,hb,hb2,λp3 rl ps rss w by' H3 s3 t3 trl hR hr=>?_⟩;have TT3:=TT2.same s3;have tp3:=S2.tape.same s3;obtain⟨hG,hrl,hw2,hby⟩:=hr.good hok hb hb2;have hLK:=hr.lt hok hb hb2;have hkl60:=hok.le;refine bf t3 ?_;dsimp only[HM];nofun;refine⟨rl,ps,rss,w,rfl,⟨trl,trivial⟩,hR.toU,λr hr=>(hG r hr).1,by lia,TT3,λol os H4 hol s4 T4 tol hP hPw=>?_⟩;have hO:OrdR rss os:=⟨hP,hPw⟩;have A4:At60 t p H4 l rl ol kd xs ps rss os:=by
    have tp4:=CF tp3 TT3 s4;refine⟨tp4,T4,s4 _ _ (TT3.ne (s3 _ _ tl)) (s3 _ _ tl),hlp,(p7 (p:=p) s4).kat tp3 TT3 (hA.same s3),s4 _ _ (TT3.ne trl) trl,CG tp3 trl,hR.sx TT3 s4,tol,tp3.ne hol⟩
   have M4:=M2.trans ((cf s3).trans (p7 s4));clear sm T0 same T1 TT1 M1 S2 TT2 M2 tq tl hK hA s3 t3 trl hR TT3 tp3 s4 T4 tol hP hPw hol;have hol60:os.length<=60:=by rw[hO.1.length_eq,Ic];lia
   have hrow:∀r∈rss,r.length=w:=λr hr=>(hG r hr).1
   have hr60:rss.length<=60:=by lia
   nofun;refine⟨kd,xs,l,ol,os,rfl,A4.key,A4.kat,hok,A4.ord,by rw[A4.kat.len,<-hrl];exact hO.1,hO.ris hLK,λH5 s5=>?_⟩;have A5:=A4.same s5;have M5:=M4.trans (cf s5);nofun;refine⟨rl,ol,ps,rss,w,os,rfl,A5.rr,A5.rows,hrow,hr60,A5.tab,A5.ord,hO,λH6 s6 T6=>?_⟩;have A6:=A5.sx s6 T6;have M6:=M5.trans (p7 s6);clear A4 A5 M4 M5 s5 s6 T6;nofun;have hRw:∀{HX},At60 t p HX l rl ol kd xs ps rss os->Rws HX rl rss w by':=λ{HX} A=>⟨⟨ps,A.rr,A.rows⟩,hG,hr60,hw2,hby⟩
   refine⟨true,true,rfl,rfl,?_⟩;rw[show(!(true == true))=false from rfl];nofun;refine⟨rl,rss,w,by',rfl,hRw A6,λt1 o1 st1 qs1 os1 H7 e1 e2 hO1 _ _ _ _ n1 s7=>?_⟩;rw[hO1.one hO]at e2;have D7:Os p H7 os ([]++[o1]):=Os.snoc (λo h=>nomatch h) e2 (A6.tape.ne n1);have A7:=A6.same s7;have M7:=M6.trans (cf s7);nofun;clear A6 M6 e1 e2 n1 s7;refine⟨rl,rss,w,by',rfl,hRw A7,λt2 o2 st2 zs2 os2 sts2 H8 _ e1 e2 hO2 _ _ _ n2 s8=>?_⟩;rw[hO2.one hO]at e2;have D8:=(D7.keep (cf s8) A7.tab).snoc e2 (A7.tape.ne n2);have A8:=A7.same s8;have M8:=M7.trans (cf s8);nofun;clear A7 M7 D7 e1 e2 n2 s8;refine⟨rl,rss,w,by',rfl,hRw A8,λt3 o3 st3 os3 qs3 H9 _ n3 s9 e1 e2 hO3 _ _ _=>?_⟩;rw[hO3.one hO]at e2;have D9:=(D8.keep (cf s9) A8.tab).snoc e2 (A8.tape.ne n3);have A9:=A8.same s9;have M9:=M8.trans (cf s9);nofun;clear A8 M8 D8 e1 e2 n3 s9;refine⟨p,rl,ps,rss,w,rfl,A9.tape,A9.rr,A9.rlp,A9.rows,hrow,hr60,A9.tab,λo4 os4 HA kA tA TA n4 e4 hO4=>?_⟩;rw[hO4.one hO]at e4;have DA:=(D9.keep kA A9.tab).snoc e4 (A9.tape.ne n4);have AA:=A9.keep kA tA TA;have MA:=M9.trans kA;clear A9 M9 D9 kA tA TA n4 e4;nofun;refine⟨aE (by simp),λc hc=>?_⟩;obtain⟨HB,e9,sB,tc⟩:=nwR hc (.lst [Rb o1,Rb o2,Rb o3,Rb o4]);rw[e9];have hcp:=AA.tape.ne hc;have DB:=DA.keep (cf sB) AA.tab;have AB:=AA.same sB;have MB:=MA.trans (cf sB);clear AA MA DA sB hc;nofun;refine⟨p,rl,ps,rss,os,rfl,AB.tape,AB.rr,AB.rlp,AB.rows,hr60,hO,λo5 HC SC n5 e5=>?_⟩;have DC:=(DB.keep (mB SC) AB.tab).snoc e5 (AB.tape.ne n5);have tc:=(mB (t:=t) SC).lst AB.tab tc hcp;have AC:=AB.st SC;have MC:=MB.trans (mB SC);clear AB MB DB SC n5 e5;nofun;refine⟨p,rfl,AC.tape,λb2 HD hb3 hb4 SD=>?_⟩;have DD:=DC.keep (mB SD) AC.tab;have tc:=(mB (t:=t) SD).lst AC.tab tc hcp;have AD:=AC.st SD;have MD:=MC.trans (mB SD);clear AC MC DC SD;nofun;refine⟨kd,xs,l,b2,rfl,.inl AD.key,AD.kat,hok,hb3,hb4,λp4 rl2 ps2 rss2 w2 by2 HE sE t4 trl2 hR2 hr2=>?_⟩;obtain⟨hG2,hrl2,_,_⟩:=hr2.good hok hb3 hb4;have hc2:=hO.conv hLK (hr2.lt hok hb3 hb4);have AE:=AD.same sE;nofun;refine⟨rl2,ps2,rss2,w2,rfl,⟨trl2,trivial⟩,hR2.toU,λr hr=>(hG2 r hr).1,by lia,AE.tab,λo6 os6 HF n6 sF TF e6 hP6 hPw6=>?_⟩;rw[OrdR.one ⟨hP6,hPw6⟩ hc2]at e6;have kDF:K6 t p HD HF:=(cf sE).trans (p7 sF);have DF:=(DD.keep kDF AD.tab).snoc e6 (AE.tape.ne n6);have tc:=kDF.lst AD.tab tc hcp;have AF:=AE.sx sF TF;have MF:=MD.trans kDF;clear AD AE MD DD kDF sE sF TF e6 n6 hP6 hPw6 hc2 hR2 hr2 hG2 t4 trl2;nofun;refine⟨aE (by simp),λd hd=>?_⟩;obtain⟨HG,e9,sG,td⟩:=nwR hd (.lst [Rb o5,Rb o6]);rw[e9];nofun;refine⟨c,d,_,_,rfl,rfl,sG _ _ tc,td,aE (by simp),λe he=>?_⟩;have sH:=sG.trans ((Rc HG).new (o:=.lst ([Rb o1,Rb o2,Rb o3,Rb o4]++[Rb o5,Rb o6])) he);have te:(upd HG e (.lst ([Rb o1,Rb o2,Rb o3,Rb o4]++[Rb o5,Rb o6]))) e=some (.lst (([]++[o1]++[o2]++[o3]++[o4]++[o5]++[o6]).map Rb)):=af;generalize upd HG e (.lst ([Rb o1,Rb o2,Rb o3,Rb o4]++[Rb o5,Rb o6]))=HH at sH te;have DH:=DF.keep (cf sH) AF.tab;have AH:=AF.same sH;have MH:=MF.trans (cf sH);have hcl:([]++[o1]++[o2]++[o3]++[o4]++[o5]++[o6]).length=6:=rfl;generalize []++[o1]++[o2]++[o3]++[o4]++[o5]++[o6]=cs at te DH hcl
   clear AF MF DF sH tc hd he sG td hcp;nofun;refine⟨e,rfl,⟨_,Q6 te⟩,aX (a:=e) (vs:=cs.map Rb) (λi ys σ H'=>Same HH H'/\ys=(GS i true).map Q9/\∃v,σ=[v,some (Rb ol)]) (by rw[GF,hcl];exact au ⋯) (λi ys σ H' h=>by rw[h.2.1];simp) (λi ys σ H' h=>Q6 (h.1 _ _ te)) ⟨Rc _,rfl,none,rfl⟩ ?_ ?_⟩
   ·rintro i ys σ H' x hx ⟨sI,rfl,v,rfl⟩
    have hil:=bj hx;obtain⟨o,rfl,_,hom,_⟩:=aF hx;nofun;exact⟨_,_,rfl,SmAt.ints 2 (sI _ _ (DH o hom).1) (sI _ _ AH.ord) ⋯,λH'' s=>Rf hil ⟨sI.trans s,by rw[Lk,GP];rfl,_,rfl⟩⟩
   rintro ys σ HI ⟨sI,rfl,v,rfl⟩ u hu;have sJ:=sI.trans ((Rc HI).new (o:=.lst ((GS (cs.map Rb).length true).map Q9)) hu);have tu:(upd HI u (.lst ((GS (cs.map Rb).length true).map Q9))) u=some (.lst ((GS (cs.map Rb).length true).map Q9)):=af;generalize upd HI u (.lst ((GS (cs.map Rb).length true).map Q9))=HJ at sJ tu;nofun;refine qU (Q6 tu) ?_;rw[show(GS (cs.map Rb).length true).all id=true by simp];have AJ:=AH.same sJ;have MJ:=MH.trans (cf sJ);clear AH MH DH te sI sJ hu tu;nofun;refine⟨aE (by simp),λz hz=>?_⟩;obtain⟨HK,e9,sK,tz⟩:=nwR hz (.lst [Ra "last",Ra "first",Ra "runs"]);rw[e9];have AK:=AJ.same sK;have MK:=MJ.trans (cf sK);clear AJ MJ sK hz;nofun;refine⟨z,rfl,⟨_,Q6 tz⟩,du (a:=z) (xs:=[.str "last",.str "first",.str "runs"]) (λj σ H'=>Same HK H'/\∃v10,σ=[some (Rb a),some (Q8 (0+(i:Nat))),some (Rb p),some (Ra kd.name),some (Rb l),some (Q8 b),some (Q8 by'),some (Rb rl),some (Rb ol),some (Rb e),v10]) ⟨Rc _,_,rfl⟩ (λj σ H' _ h=>Q6 (h.1 _ _ tz)) ?_ ?_⟩
   ·rintro j x σ H8 hx ⟨s8,v10,rfl⟩
    obtain⟨way,rfl,hway⟩:∃way:Str,x=.str way/\(way = "last"\/way = "first"\/way = "runs"):=by
     match j,hx with
     | 0,e=>cases e;exact⟨_,rfl,.inl rfl⟩
     | 1,e=>cases e;exact⟨_,rfl,.inr (.inl rfl)⟩
     | 2,e=>cases e;exact⟨_,rfl,.inr (.inr rfl)⟩
     | j+3,e=>simp at e
    have A8:=AK.same s8;nofun;refine⟨way,kd,xs,l,b,rfl,hway,A8.key,A8.kat,hok,hb,hb2,λtd ld od os2 ys m2 r2 w2 c2 H9 s9 ttd tod tld hPA hr2 hO2=>?_⟩;rw[hO2.one (hO.conv hLK (hr2.lt hok hb hb2))]at tod hPA;have A9:=A8.same s9;have s89:=s8.trans s9;nofun;refine⟨2,rfl,?_⟩;nofun;refine y0 ttd λq' HA sA tq'=>?_
    have tq':HA q'=some (.tup [.ref ld,.ref od]):=tq';nofun;refine iQ (.inr (Q7 tq')) λu hu=>?_
    have sB:=sA.trans ((Rc HA).new (o:=.lst [Rb ld,Rb od]) hu);have tu:(upd HA u (.lst [Rb ld,Rb od])) u=some (.lst [Rb ld,Rb od]):=af;generalize upd HA u (.lst [Rb ld,Rb od])=HB at sB tu;have A10:=A9.same sB;have tod:=sB _ _ tod;have tld:=sB _ _ tld;have hPA:=hPA.same sB;have s8B:=s89.trans sB;clear A8 A9 s8 s9 s89 sA hu ttd tq' sB;have hxl':xs.length=rss.length:=by rw[A10.kat.len,hrl]
    have hoi:∀o∈os,o<xs.length:=λo ho=>by rw[hxl'];exact Hg.mp (hO.1.mem_iff.mp ho)
    have holn:os.length=xs.length:=by rw[hxl',hO.1.length_eq,Ic]
    nofun;refine⟨ol,rfl,⟨_,Q6 A10.ord⟩,aX (a:=ol) (vs:=NV os) (λi ys3 σ H'=>HB=H'/\ys3.length=i/\(∀(k o:Nat),k<i->os[k]? = some o->ys3[k]? = xs[o]?)/\∃v,σ=[v,some (Rb l)]) (by rw[aB];exact au ⋯) (λi ys σ H' h=>h.2.1) (λi ys σ H' h=>by rw[<-h.1];exact Q6 A10.ord) ⟨rfl,rfl,λk o h=>absurd h (JJ _),none,rfl⟩ ?_ ?_⟩
    ·rintro i' ys3 σ H' x hx ⟨rfl,hyl3,hys3,v,rfl⟩
     have hil:=bj hx;obtain⟨o,rfl,ho,hom,hi'⟩:=aF hx;have hou:=hoi o hom;nofun;refine bx (Q6 A10.key) (v:=xs[o]) (ba (by simp[hou])) ?_;refine Rf hil ⟨rfl,by simp[hyl3],λk' o' hk' e=>?_,_,rfl⟩;by_cases ek:k'=i'
     ·subst ek
      rw[ho]at e;cases e;rw[G6 ⋯,hyl3,JB,GE hou];rfl
     ·rw[GU ⋯];exact hys3 k' o' ⋯ e
    rintro ys3 σ H' ⟨rfl,hyl3,hys3,v,rfl⟩ u2 hu2;rw[aB]at hyl3 hys3;obtain⟨HC,e9,sC,tu2⟩:=nwR hu2 (.lst ys3);rw[e9];nofun;refine⟨aE (by simp),λy hy=>?_⟩;obtain⟨HD',e9,sD,ty⟩:=nwR hy (.lst [Rb u2,Rb ol]);rw[e9];have sCD:=sC.trans sD;have AD:=A10.same sCD;have hsm:SmAt 2 HD' (.ref ld) (.ref u2):=SmAt.things (sCD _ _ tld) (sD _ _ tu2) (by rw[hPA.1,hyl3];lia) (by rw[hPA.1];lia) λk' y v' f1 f2=>by
     have hk:k'<os.length:=by rw[holn,<-hPA.1];exact bj f1
     have hou:=hoi os[k'] (GV hk);have fo:=GE hk;obtain⟨y',g1,g2⟩:=(hPA.same sCD).2 k' _ _ fo (GE hou);rw[f1]at g1;cases g1;have g3:=hys3 k' _ hk fo;rw[f2,GE hou]at g3;cases g3;exact g2
    nofun;refine⟨_,_,rfl,.inr (.inl ⟨u,y,_,_,rfl,rfl,sCD _ _ tu,ty,rfl,by simp,λk' f g e1 e2=>?_⟩),λHE sE=>?_⟩
    ·match k',e1,e2 with
     | 0,e1,e2=>cases e1;cases e2;exact hsm
     | 1,e1,e2=>cases e1;cases e2;exact SmAt.ints 1 (sCD _ _ tod) AD.ord ⋯
     | k'+2,e1,e2=>simp at e1
    nofun;exact⟨s8B.trans (sCD.trans sE),_,rfl⟩
   ·rintro σ H8 ⟨s8,v10,rfl⟩
    have A8:=AK.same s8;have M8:=MK.trans (cf s8);nofun;exact⟨λb u n e=>M8 b u n (aq e hpn) e,A8.tab,_,_,_,_,_,_,_,_,_,_,rfl⟩
  ·rintro σ H' ⟨sm,T0,v1,v2,v3,v4,v5,v6,v7,v8,v9,v10,rfl⟩
   nofun;exact k _
end
theorem wD{α:Type}{P:List α->Prop}(h:∀x0:α,P [x0]):∀us:List α,us.length=1->P us
 | [x0],_=>h x0
theorem C9{α:Type}{P:List α->Prop}(h:∀x0 x1:α,P [x0,x1]):∀us:List α,us.length=2->P us
 | [x0,x1],_=>h x0 x1
theorem Gw{α:Type}{P:List α->Prop}(h:∀x0 x1 x2:α,P [x0,x1,x2]):∀us:List α,us.length=3->P us
 | [x0,x1,x2],_=>h x0 x1 x2
theorem Gx{α:Type}{P:List α->Prop}(h:∀x0 x1 x2 x3:α,P [x0,x1,x2,x3]):∀us:List α,us.length=4->P us
 | [x0,x1,x2,x3],_=>h x0 x1 x2 x3
theorem E9:AB tab:=by
 unfold tab
 repeat refine And.intro (by first|exact λ_ _ _ _ _ _=>wD (λ_=>rfl)|exact λ_ _ _ _ _ _=>C9 (λ_ _=>rfl)|exact λ_ _ _ _ _ _=>Gw (λ_ _ _=>rfl)|exact λ_ _ _ _ _ _=>Gx (λ_ _ _ _=>rfl)) ?_
 exact trivial
theorem CI {l:Mu}{w:World}{K:GH}{mg:Str->Option Value}{fa f35 f36 f37 f38 f41 f42 f43 f44 f45 f46 f47 f65 aA aL:Addr}{d35 d36 d37 d38 d41 d42 d43 d44 d45 d46 d47:FuncData}{fs:List Addr}{ds:List FuncData}(X:K.In h) (G:h.Ns mainGlobals mg) (hfa:mg "law" = some (.ref fa))
  (al:Al K tab fs ds)
  (a35:Hh K (.ref aA) "__init__" = some (some (.ref f35))) (i35:Iy K (.ref f35)=true) (F35:Fun K "__init__" "Merge.__init__" cW f35 d35)
  (a36:Hh K (.ref aA) "show_head" = some (some (.ref f36))) (i36:Iy K (.ref f36)=true) (F36:Fun K "show_head" "Merge.show_head" cN f36 d36)
  (a37:Hh K (.ref aA) "next" = some (some (.ref f37))) (i37:Iy K (.ref f37)=true) (F37:Fun K "next" "Merge.next" d8 f37 d37)
  (a38:Hh K (.ref aA) "left" = some (some (.ref f38))) (i38:Iy K (.ref f38)=true) (F38:Fun K "left" "Merge.left" gT f38 d38)
  (a41:Hh K (.ref aL) "__init__" = some (some (.ref f41))) (i41:Iy K (.ref f41)=true) (F41:Fun K "__init__" "Pour.__init__" dk f41 d41)
  (a42:Hh K (.ref aL) "pour" = some (some (.ref f42))) (i42:Iy K (.ref f42)=true) (F42:Fun K "pour" "Pour.pour" fK f42 d42)
  (a43:Hh K (.ref aL) "merge_last_two" = some (some (.ref f43))) (i43:Iy K (.ref f43)=true) (F43:Fun K "merge_last_two" "Pour.merge_last_two" bZ f43 d43)
  (a44:Hh K (.ref aL) "heaps" = some (some (.ref f44))) (i44:Iy K (.ref f44)=true) (F44:Fun K "heaps" "Pour.heaps" ee f44 d44)
  (a45:Hh K (.ref aL) "order" = some (some (.ref f45))) (i45:Iy K (.ref f45)=true) (F45:Fun K "order" "Pour.order" ef f45 d45)
  (a46:Hh K (.ref aL) "rows" = some (some (.ref f46))) (i46:Iy K (.ref f46)=true) (F46:Fun K "rows" "Pour.rows" jh f46 d46)
  (a47:Hh K (.ref aL) "moves" = some (some (.ref f47))) (i47:Iy K (.ref f47)=true) (F47:Fun K "moves" "Pour.moves" gU f47 d47)
  (a65:Hw K mainGlobals "law" = some (some (.ref f65)))
  {oc65 kV65 dc65 pm65 cd65 ct65:Value}{od65 an65:Option Addr}{sl65:Array (Option Value)}
  (l65:K.lookup f65=some ⟨oc65,od65,.func (Jd "law" "law" (dW ij) (cU ij) (aM ij) .none kV65 dc65 pm65 an65 cd65 ct65),sl65⟩) (c65:Lp K cd65 "law" = true) (k65:ID K (.ref f65)=true)
  (p9:Hw K mainGlobals "abs" = some none)
  (qa:Hw K mainGlobals "all" = some none)
  (cw:Hw K mainGlobals "bool" = some none)
  (cC:Hw K mainGlobals "enumerate" = some none)
  (gw:Hw K mainGlobals "int" = some none)
  (ao:Hw K mainGlobals "isinstance" = some none)
  (bz:Hw K mainGlobals "len" = some none)
  (cq:Hw K mainGlobals "list" = some none)
  (nN:Hw K mainGlobals "max" = some none)
  (mJ:Hw K mainGlobals "min" = some none)
  (uk:Hw K mainGlobals "ord" = some none)
  (cz:Hw K mainGlobals "range" = some none)
  (gx:Hw K mainGlobals "sorted" = some none)
  (fO:Hw K mainGlobals "str" = some none)
  (mK:Hw K mainGlobals "sum" = some none)
  (bu:Hw K mainGlobals "tuple" = some none)
  (nO:Hw K mainGlobals "zip" = some none)
  {cc pt:Addr}(hcc:(ds.getD 12 (Jd "law" "law" (dW ij) (cU ij) (aM ij) .none kV65 dc65 pm65 an65 cd65 ct65)).code=.ref cc) (hchd:KS K cc pt=true)
  {j5:Addr}{q0_DONE q1_DONE q2_DONE:Tok}{ep_DONE:Nat}(ag_DONE:Hw K mainGlobals "DONE" = some (some (.ref j5))) (at_DONE:K.lookup j5=some ⟨.type "dict",none,.dict #[⟨JY w.params "last",.str "last" q0_DONE,.ref (fs.getD 29 fa)⟩,⟨JY w.params "first",.str "first" q1_DONE,.ref (fs.getD 30 fa)⟩,⟨JY w.params "runs",.str "runs" q2_DONE,.ref (fs.getD 31 fa)⟩] ep_DONE,#[]⟩)
  (ac_Merge:Hw K mainGlobals "Merge" = some (some (.ref aA))) (ac_Pour:Hw K mainGlobals "Pour" = some (some (.ref aL)))
  (pg_Pour:Jw K aL O6=true)
  (hd_Pour:JN K aL=true)
  (po_Pour:KC K aL=true)
  (sa_Pour:Hh K (.ref aL) "__setattr__" = some (some (.builtin "object.__setattr__")))
  (mk_Pour:K2 K aL=true)
  (kc_Pour:ID K (.ref aL)=true)
  (ck:Hh K (.ref aL) "came" = some none)
  (bg:Hh K (.ref aL) "heaped" = some none)
  (cS:Hh K (.ref aL) "moved" = some none)
  (pg_Merge:Jw K aA O6=true)
  (hd_Merge:JN K aA=true)
  (po_Merge:KC K aA=true)
  (sa_Merge:Hh K (.ref aA) "__setattr__" = some (some (.builtin "object.__setattr__")))
  (mk_Merge:K2 K aA=true)
  (kc_Merge:ID K (.ref aA)=true)
  (cI:Hh K (.ref aA) "lists" = some none)
  (cu:Hh K (.ref aA) "marks" = some none)
  (bJ:Hh K (.ref aA) "heads" = some none)
  {fN:Tok}(ag_TEXT_BASE:Hw K mainGlobals "TEXT_BASE" = some (some (.int 27 fN))) :
  ∃fd:FuncData,(∃c,KS K c pt=true)/\(∀(s:Shared) (v:Value),BindsTo s fd ⟨[v],[]⟩ [("_law_script",v)])/\∀base:Heap,K.In base->base.Ns mainGlobals mg->base.BuiltinsAt mg pt->FnOk l.prog w K mg base CX0 7 fa fd ["_law_script"] (wC K pt):=by
 have e:=hfa.symm.trans (Kk X G a65);cases e;have b35:=F35.binds (ps:=["self","lists"]) λ_ _ _ _ _ _=>C9 (λ_ _=>rfl)
 have b36:=F36.binds (ps:=["self","number"]) λ_ _ _ _ _ _=>C9 (λ_ _=>rfl)
 have b37:=F37.binds (ps:=["self"]) λ_ _ _ _ _ _=>wD (λ_=>rfl)
 have b38:=F38.binds (ps:=["self"]) λ_ _ _ _ _ _=>wD (λ_=>rfl)
 have b41:=F41.binds (ps:=["self"]) λ_ _ _ _ _ _=>wD (λ_=>rfl)
 have b42:=F42.binds (ps:=["self","rows"]) λ_ _ _ _ _ _=>C9 (λ_ _=>rfl)
 have b43:=F43.binds (ps:=["self"]) λ_ _ _ _ _ _=>wD (λ_=>rfl)
 have b44:=F44.binds (ps:=["self"]) λ_ _ _ _ _ _=>wD (λ_=>rfl)
 have b45:=F45.binds (ps:=["self"]) λ_ _ _ _ _ _=>wD (λ_=>rfl)
 have b46:=F46.binds (ps:=["self"]) λ_ _ _ _ _ _=>wD (λ_=>rfl)
 have b47:=F47.binds (ps:=["self"]) λ_ _ _ _ _ _=>wD (λ_=>rfl)
 have F65:=wU (st:=ij) l65 c65 k65;have TT:∀base:Heap,base.BuiltinsAt mg pt->Tx K mg ⟨λi=>fs.getD i fa,λi=>ds.getD i (Jd "law" "law" (dW ij) (cU ij) (aM ij) .none kV65 dc65 pm65 an65 cd65 ct65),_,_,_,_,_,_,_,_,_,_,_,_,_,_,_,_,_,_,_,_,_,_,_,_,cc,pt,base,w,_,_,_,_⟩:=λbase hba=>⟨λi {x s p} e=>Al.ft X G al E9 _ _ i e,⟨mk_Merge,a35,i35,kc_Merge⟩,F35,b35,⟨a36,i36,F36.kp⟩,F36,b36,⟨a37,i37,F37.kp⟩,F37,b37,⟨a38,i38,F38.kp⟩,F38,b38,⟨mk_Pour,a41,i41,kc_Pour⟩,F41,b41,⟨a42,i42,F42.kp⟩,F42,b42,⟨a43,i43,F43.kp⟩,F43,b43,⟨a44,i44,F44.kp⟩,F44,b44,⟨a45,i45,F45.kp⟩,F45,b45,⟨a46,i46,F46.kp⟩,F46,b46,⟨a47,i47,F47.kp⟩,F47,b47,F65,Hu X G p9,Hu X G qa,Hu X G cw,Hu X G cC,Hu X G gw,Hu X G ao,Hu X G bz,Hu X G cq,Hu X G nN,Hu X G mJ,Hu X G uk,Hu X G cz,Hu X G gx,Hu X G fO,Hu X G mK,Hu X G bu,Hu X G nO,hcc,hchd,hba,Kk X G ag_DONE,⟨[q0_DONE,q1_DONE,q2_DONE],ep_DONE,rfl,at_DONE⟩,Kk X G ac_Merge,Kk X G ac_Pour,⟨pg_Pour,hd_Pour,po_Pour,sa_Pour⟩,ck,bg,cS,⟨pg_Merge,hd_Merge,po_Merge,sa_Merge⟩,cI,cu,bJ,Kk X G ag_TEXT_BASE⟩
 exact⟨_,⟨_,hchd⟩,λs v=>.of_eq rfl,λbase _ _ hba=>CH (TT base hba)⟩
theorem C2{l:Mu}{q:Program}{loose:List Str}{XP:(Str->Option Value)->Heap->Prop}{YP:World->Heap->Prop}{d:DefRec}{K:Params->GH}{pt:Addr}(hn:l.most=some 63)(hdf:d.params.defaults=[])
  (hY:∀(w:World) (h:Heap),YP w h->(K w.params).In h)
  (hYT:∀(w:World) (h:Heap),YP w h->h.get? pt=some (PySem.W.tabObj #[])) (hnt:∀w:World,PySem.W.noTabs (K w.params)=true)
  (F:∀(w:World) (mg:Str->Option Value) (fa:Addr) (h:Heap),(K w.params).In h->h.Ns mainGlobals mg->mg d.name=some (.ref fa)->
   ∃fd:FuncData,(∃c,KS (K w.params) c pt=true)/\(∀(s:Shared) (u:Value),BindsTo s fd ⟨[u],[]⟩ [("_law_script",u)])/\∀base:Heap,(K w.params).In base->base.Ns mainGlobals mg->base.BuiltinsAt mg pt->FnOk l.prog w (K w.params) mg base CX0 7 fa fd ["_law_script"] (wC (K w.params) pt)) :
  Pc q loose XP YP l.row.toRowW d [] (λf vs=>OI f vs):=
 L2.vJ (n:=63) (k:=7) (x:="_law_script") (CX:=λ_=>CX0) (sp:=λw pt=>wC (K w.params) pt) hn (by decide) hdf ⟨rfl,by decide,by decide,rfl⟩ hY hYT hnt F (λ_ _ a ns hl hP hS=>⟨a,ns,rfl,hS,hl,.inl hP,λ_=>rfl⟩) λ_ _ _ _ _ z=>z
end Fs
open PySem PySem.W PyProof.Rows
set_option maxRecDepth 100000 in
set_option maxHeartbeats 0 in
theorem PySem.Challenge.cw_figuresort_k60_whole_one_order_by_every_holds : PySem.Challenge.rw_figuresort_k60_whole_one_order_by_every.Holds := by
 w_on;refine holds_law Fs.Dg λsaid=>?_
 refine holds_open (q:=Fs.vwF) (loose:=Fs.loF) (Xt:=Fs.xtF) (XP:=XL Fs.vwF []) (YP:=Hook.says Fs.jw) Fs.Df (Hook.of Fs.jw) (Hook.keeps Fs.jw) (λs e=>xl_of s (Nd.mp e).1) XL.keeps (by rfl) (by rfl) (by rfl) (λs e=>recFacts_of (Nd.mp e).2) (by rfl) said (by decide +kernel) ⟨rfl,rfl,rfl,rfl,rfl,by decide +kernel⟩ ?hw ?hc
 (case hw=>w_witness2)
 delta Fs.jw
 k_fill
 refine' Fs.C2 (l:=Hx) (pt:=?pt) rfl rfl (λw h Y=>PySem.W.km_in_of Y) (λw h Y=>PySem.W.km_tabs_of Y _ (Q5 _)) ?nt ?F;case F=>
  intro w mg fa h KX G hmg;refine' Fs.CI KX G hmg ?al ?a35 ?i35 ?F35 ?a36 ?i36 ?F36 ?a37 ?i37 ?F37 ?a38 ?i38 ?F38 ?a41 ?i41 ?F41 ?a42 ?i42 ?F42 ?a43 ?i43 ?F43 ?a44 ?i44 ?F44 ?a45 ?i45 ?F45 ?a46 ?i46 ?F46 ?a47 ?i47 ?F47 ?a65 ?l65 ?c65 ?k65 ?p9 ?qa ?cw ?cC ?gw ?ao ?bz ?cq ?nN ?mJ ?uk ?cz ?gx ?fO ?mK ?bu ?nO ?hcc ?hchd ?ag_DONE ?at_DONE ?ac_Merge ?ac_Pour ?pg_Pour ?hd_Pour ?po_Pour ?sa_Pour ?mk_Pour ?kc_Pour ?ck ?bg ?cS ?pg_Merge ?hd_Merge ?po_Merge ?sa_Merge ?mk_Merge ?kc_Merge ?cI ?cu ?bJ ?ag_TEXT_BASE;case' al=>unfold Fs.tab;repeat' (first|exact L2.Al.nil|refine' L2.Al.cons ?_ ?_ ?_)
  iterate 2 all_goals (first|k_is|exact L2.wU (by k_is) (by k_is) (by k_is)|skip)
  (case hcc=>exact rfl)
  all_goals kernel_rfl
 case nt=>
  intro w
  kernel_rfl
