import PyProof.Rows.All
import Wide.All
import OpenK.AllK
import Wide.FinOn
import Lean
import PyProof.EqAt
import PyProof.EqKinds
import PyProof.TupleCall
import PySem.Challenge.RW_figuresort_k25_moves_from_the_first
set_option compiler.extract_closed false
local macro_rules
 | `(tactic|lia)=>`(tactic|first | lia (config:={}) | omega)
open List renaming getElem?_eq_getElem→Bx,length_map→By,getD_eq_getElem?_getD→Bz,range→BC,take_of_length_le→BF,mem_singleton→BH,getElem?_map→BI,mem_map→BK,mem_append_right→BL,getElem_mem→BM,length_append→BO,size_toArray→BQ,pairwise_append→BR,mem_cons→BS,length_take→BV,getElem?_append_left→BX,mem_append→BY,getElem?_eq_some_iff→BZ,replicate→B1,getElem?_append_right→B2,take_add_one→B3,map_append→B4,toArray→B8,mem_cons_self→Cb,mem_cons_of_mem→Cd,mem_range→Cg,mem_of_getElem?→Ch,length_cons→Ci,getElem_of_mem→Cj,take_append_drop→Ck,range'→Co,map_congr_left→Cq,length_drop→Cr,map_cons→Cs,pairwise_iff_getElem→Ct,append_assoc→Cu,mem_filter→Cv,sum_append→CA,getElem?_eq_none→CB,not_mem_nil→CD,map_map→CF,mem_append_left→CN,length_range→CU,nodup_cons→CW,Nodup→CZ,drop_zero→C2,mem_of_mem_take→C5,extract_eq_drop_take→C6,sum_cons→C7,append_nil→C9,mem_of_mem_drop→Da,drop_eq_getElem_cons→Dc,getElem?_range→De,length_nil→Dh,count_eq_zero→Di,pairwise_cons→Dk,mem_reverse→Dm,flatten_cons→Dq,getElem_map→Dx,all_eq_true→DL,take_succ_eq_append_getElem→DM,take_zero→DO,filter_append→DP,length_filter_le→DQ,nil_append→DS,filter_map→DU,count_append→DV,pairwise_map→DW,take_append_of_le_length→DX,eq_nil_of_length_eq_zero→DY,pairwise_singleton→DZ,length_eq_zero_iff→D0,filterMap_cons→D1,replicate_succ→D3,nodup_range→D4,mem_range'_1→Eb,perm_cons_erase→Ee,mem_erase_of_ne→Ef,ext_getElem→Em,filter_cons→Ep,length_reverse→Er,take_succ_cons→Es,find?_cons→EA,drop_append_of_le_length→EH,take_sublist→EI,ext_getElem?→EJ,map_dropLast→EN,length_replicate→ES,count_eq_length_filter→EU,countP_cons→EX,perm_middle→EY,length_pos_iff→E2,forIn_cons→E4,getElem?_take_of_lt→Fa,getElem_append_left→Fd,eq_of_mem_replicate→Fe,forIn_nil→Fg,nodup_nil→Fi,getElem?_replicate→Fj,filter_congr→Fo,nodup_append→Fp,pairwise_lt_range→Fu,filter_eq_nil_iff→Fv,map_take→Fw,map_drop→Fx,drop_append→Fz,set→FB,flatten_replicate_singleton→FC,length_singleton→FE,eraseIdx_eq_take_drop_succ→FG,foldl→FI,getElem?_of_mem→FL,range_eq_range'→FO,exists_mem_of_length_pos→FR,countP_eq_zero→FS,drop_drop→FX,mem_filterMap→Ga,zip_cons_cons→Gb,getElem?_drop→Gi,map_inj_right→Gj,map_replicate→Gn,all_cons→Gs,nodup_iff_pairwise_ne→Gu,reverse_cons→GA,getElem?_set→GB,getElem_drop→GE,getElem_take→GF,drop_sublist→GG,flatMap_cons→GH,count_singleton_self→GK,zipIdx_cons→GP,length_erase_of_mem→GQ,map_reverse→GR,mem_flatMap→GU,find?_range_eq_none→GV,append_cancel_left→G0,of_mem_zip→G6,foldl_cons→G7,count_cons→G9,getElem?_set_self→Hc,drop_eq_nil_of_le→Hh,drop_of_length_le→Hj,pairwise_reverse→Hm,getElem?_reverse→Hn,eq_nil_or_concat→Ho,perm_append_comm→Hq,filterMap_append→Hv,dropLast_eq_take→Hx,getElem?_set_ne→Hy,range'_append_1→Hz,map→HL,length_eraseIdx→HM,reverse_reverse→HN,replicate_succ'→HQ,any_cons→HV,drop_succ_cons→Ic,zip_nil_right→Ik,filterMap_map→Il,map_nil→Im,getElem_range→Iu,count_pos_iff→Iv,filter_filter→IA,zip_nil_left→II,mapM_toArray→IN,length→IR,filter→IU,map_id→IV,lookup_cons→I0,sum_reverse→Jd,any_eq_true→Jg,count→Jr,zipIdx_nil→Js,filter_nil→Jv,append_inj→Jx,take_take→JC,getD→JK,find?→KZ
open PySem.W renaming Frag→BA,nsIn→Cc,mg_none_of→Cz,mg_of→CH,kia_one→Dg,kitOne→EQ,keepIn→ER,fnOf→ET,kia_tup→FJ,codeIn→FV,methodObj→Gy,kitx_list→Gz,instObj→G5,OpenLaw→G8,cellsFrom_some→Hd,lookIn→Hk,kitx_tuple→Ii,kitx_none→IG,kitx_dict→IH,plainGet→IW,kitx_int→IX,findIn→JA,WalkO→JN
open PySem.Heap renaming get?_push_of_some→BB,lt_size→BJ,get?_push_size→BU,get?_update_self→D8,size_push→Eh,get?_update_other→EE,SameBut→EO,get?_push_ne→Fn,size_update→FA,ExtBut→FZ,IsTuple→Kw
open Nat renaming le_refl→BD,ne_of_lt→B0,lt_of_lt_of_le→B5,zero_le→Ca,le_trans→CM,lt_or_ge→CO,lt_irrefl→C3,lt_trichotomy→C4,ne_of_gt→Df,eq_or_lt_of_le→Dj,le_add_right→Dv,lt_of_le_of_lt→Dw,le_of_lt→DH,zero_add→DI,le_of_eq→DT,add_zero→En,lt_trans→Eo,add_assoc→Eu,eq_zero_or_pos→Ez,lt_succ_of_lt→EM,le_of_not_lt→EW,lt_succ_self→E1,min_eq_left→E5,le_succ→Ft,not_lt_zero→FM,sub_self→FN,mod_lt→FP,mul_le_mul_left→FT,sub_zero→GO,not_le_of_lt→GW,log2_lt→He,add_comm→Io,mul_comm→Ip,succ_add→ID,pow_pos→IT,succ_ne_self→Jb,succ_le_succ→Jf,div_eq_of_lt→Jh,not_lt_of_le→Jj,mul_le_mul→JG,succ_mul→Ku,pow_succ→Ky,mul_add→KO
open Bool renaming false_eq_true→BG,false_ne_true→BW,and_eq_true→CI,not_true→DJ,eq_iff_iff→Ew,eq_false_iff→EK,not_eq_true'→GC,and_false→Hl,and_eq_true_iff→HR,false_or→HU,true_or→Iq,not_false→JE,or_false→JM,and_self→JS
open Or renaming inl→BN,inr→Gg
open Array renaming length_toList→BP,getElem?_toList→B9,getD→Ce,toList_append→CL,getD_eq_getD_getElem?→C1,getElem?_eq_some_iff→Do,getElem?_eq_getElem→Dt,toList_inj→Du,toList_extract→DE,getElem?_eq_none→D5,toList_push→EL,mem_toList_iff→EV,toList_map→EZ,size_map→Fh,perm_iff_toList_perm→Gv,toList_setIfInBounds→Gx,map_extract→GD,size_setIfInBounds→GS,toList_modify→Ib,ext_getElem?→Iw,forIn_toList→IF,map_append→Je,replicate→Jy,map_push→JF,toList→Kg
open True renaming intro→Cf
open PySem.SetTable renaming runEnd→Cm,bits→Cy,below→CP,Probe→CQ,leap→CV,insertAt→Dr,turns→DF,sizeAbove→D6,grown→FY,layClean→IQ,tooFull→Ji,fits→JQ,fill→JT,has→KC,sameMemory→K3,advance→Lm,gaveWay→Ln,relaid→Lo,probe→Lr,fresh→Ls,slot→Lu,laid→Lv
open PySem.Value renaming ref→Cp,none→CC,type→Ds,int→G4,isInt→Hb,str→Ig,bool→Jl,isStrOf→JL,float→KG
open PySem.PassesOwn renaming never→Cw
open Option.some renaming inj→CG,injEq→Lc
open PySem.Challenge renaming rw_figuresort_k25_moves_from_the_first→CJ,pw_figuresort_k25_moves_from_the_first→CK
open Option renaming map_eq_some_iff→CS,isSome_iff_exists→E7,getD_none→GN,getD_some→Ja,map_some→Jp,map→Jz,toList→JU,none→KM
open Int renaming toNat_natCast→CT,add_zero→Dz,add_assoc→DK,emod_nonneg→EB,toNat→EC,zero_add→FQ,eq_ofNat_of_zero_le→GX,toNat_of_nonneg→Ie,emod_lt_of_pos→IE,mul_nonneg→JJ,mul_one→KH
open Classical renaming byContradiction→CY
open PyProof.Rows renaming callWith_type1→C0,slot_tuple_getitem→C8,callWith_builtin1→Jm,lt_int→K0
open PySem.Builtin.SmallTypes renaming nextOf→Dd,ownedTupleIsFree→DB,ownedTupleHandOut→Fc
open PySem.PyData renaming leavesShort→Dl,weightAll→GT,showable→Ha,leavesShortAll→Hs,weight→HY,showableAll→Iz,hasDictAll→IM,depthAll→Jt
open PySem.SetTable.layClean renaming free→Dp
open PySem.F renaming called_set→Dy,slot_tuple_iterator_next→Ea,plainAttrs_list→Et,args_tuple_add_2→Fb,entry_tuple_add→Fk,slot_tuple_add→Fq,slot_dict_get→FF,slot_zip_next→FK,args_tuple_iterator_next_1→FW,entry_tuple_iterator_next→Gh,plain_extend_loop→GL,args_dict_get_3→GY,plain_list_iadd→G1,slot_list_count→G3,entry_dict_get→Hi,slot_tuple_lt→Hr,plain_set_new→Ht,slot_set_iter→Hu,args_zip_next_1→IL,entry_zip_next→Jc,slot_int_rmul→Jn
open PySem.Obj renaming mapSeq→DA,data_mapFields→Ir,putSet→Jw
open List.Perm renaming refl→DC,append_left→D9,trans→E6,append_right→Hf,cons→Lp
open PyProof.Rows.SortSt renaming mk'→DD
open PySem.Heap.SameBut renaming update→DG,trans→IC,refl→IK,extBut→K1
open Ne renaming symm→DN
open PySem.Str renaming ofString→DR
open PySem renaming mem_of_lookup→D2,field→EG,Builtin→Gw,Fin→Iy,call→Jo,seqItems?→Jq,Within→Ke,Slot→KY
open PyProof.Rows.F renaming plain_set_update_loop→D7,entry_set_update_loop→Ff
open False renaming elim→Ec
open PySem.Builtin.Slice renaming slicePlaces→Ed,sliceAdjust→E3,sliceApplied→Gq,slicePartIndex→JB,sliceFields→Kc
open PySem.Around renaming under_plainId→Eg
open PySem.Builtin.Tuple renaming tupleExact→Ei,tupleItemsOf→Gr,tupleCompareSizes→Jk
open PySem.Builtin.List renaming listTooLong→Ej,listSameRef→Ek,listSubscript?→Ge,listLengthHint→Gk,listExtendWith→Gm,listAllItems→GJ,listItems→KL
open PySem.Calls renaming spliced_cons→Ey,callWith_builtin→EF,spliced_nil→Fl,evalArgs_plain→FH,Name_function_global→Gp
open PySem.Shared renaming TypeIs→Fy,heap→KN
open Sum renaming inl→FU,inr→GM
open PySem.Heap.IsSliceOf renaming new→Gc
open PySem.W.KFB renaming if_not→Gf,if_so→Lb
open PySem.Paired renaming length→Go,snoc→KP
open PySem.SetTable.probe renaming go→GI
open PySem.Builtin.Frozenset renaming slot0→GZ,updateFrom→JI,newClass→JP,sizeOf→Kz
open ForIn renaming forIn→Hg
open List.Pairwise renaming filter→HP,nil→IJ,imp_of_mem→Kx
open Int.ofNat renaming inj→HX
open List.cons renaming inj→Ia
open PyProof.Rows.IsTup renaming new→Ih
open PySem.SeqAt.EqAt renaming int_int→Ij,int_str→K4,str_int→K5
open PySem.pickOrder renaming go→IB
open PySem.SetTable.below renaming go→IP
open PySem.AutoListH renaming list___mul___list_int_3→IS
open PySem.AutoSeq1 renaming list_extend_list_list_0→IY,sub_tuple_tuple→Kt
open PySem.IsL renaming isList→IZ,update→Li
open Array.Perm renaming refl→Ju
open MonadState renaming get→JD
open PySem.SetFound renaming there→JH
open PySem.SeqAt.RcNeAt renaming lists_lengths→JO,lists→K7
open Function renaming comp→JR
open PySem.EqNone renaming eq_none_none→JV,eq_none_bool→JW,eq_bool_none→JX,ne_none_none→J0,ne_none_bool→J8,ne_bool_none→J9,eq_none_int→Kh,eq_none_str→Ki,eq_int_none→Kj,eq_str_none→Kl,ne_none_int→Kn,ne_none_str→Ko,ne_int_none→Kp,ne_str_none→Kr
open PySem.EqMixed renaming eq_bool_str→JY,eq_str_bool→JZ,ne_bool_str→Ka,ne_str_bool→Kb,eq_int_str→Kk,eq_str_int→Km,ne_int_str→Kq,ne_str_int→Ks
open PySem.W.OpenLaw renaming wellSaid→Kd
open PySem.SeqAt.RcAt renaming lists_lengths→Kv,tuples→Ld,lists→Lk
open PySem.SeqAt renaming list_countAt→KD,EqAt→KS
open PySem.Builtin.Range renaming rangeSize→KE
open Sum.inl renaming inj→KF
open PySem.IsRange renaming new→KI
open PySem.MeetsSeq renaming list_pop_last→KJ
open List.Sublist renaming count_le→KQ
open PySem.W.RowW renaming records→KR
open PySem.Walks renaming list→KU
open PySem.Draws renaming list→KW
open PySem.SetTable.Slot renaming empty→K2,live→K9
open PySem.Flow renaming next→K6
open Pure renaming pure→K8
open Lean.Name renaming mkSimple→La
open PySem.Heap.IsTuple renaming push→Le
open PySem.Heap.ExtBut renaming trans→Lf
open PySem.hashByValue renaming eq_12→Lg
open PySem.DictEntry renaming refKey→Lh
open PySem.Data renaming seq→Lj
open MonadStateOf renaming set→Ll
open Iff renaming rfl→Lq
set_option Elab.async false
set_option maxRecDepth 100000
set_option maxHeartbeats 0
namespace Fs
open PySem PySem.Spec PyProof.Rows
local macro_rules
 | `(tactic| o_head $_)=>`(tactic| assumption)
open PySem PySem.W PyProof.Rows in
theorem Kf (h:CJ.row.Holds):CJ.row.Holds:=by
 w_on; k_head
open PySem PySem.W PyProof.Rows in
def asF:List Addr:=[2,3,15,17,18,20,21,22,24,25,27,28,29,31,32,34,35,36,39,40,41,43,44,46,47,48,51,52,53,56,57,58,60,61,63,64,65,67,68,70,71,72,74,75,77,78,79,81,82,84,85,86,88,89,91,92,93,95,96,98,99,100,103,104,105,107,108,110,111,112,115,116,117,120,121,122,125,126,127,130,131,132,134,135,137,138]
open PySem PySem.W PyProof.Rows in
@[reducible] noncomputable def mz:Hook:=kHook Kf.heap_1 asF (λ _=>by kernel_rfl)
def AV (i:Nat):Stmt:=CK.main.body.getD i (.Pass ⟨0,0,0,0⟩)
def vwF:Program:={ CK with main:={ CK.main with body:=[1,2,3,4,5,7,8,9,10,12,13,14,15,16,17,18,19,20,21,22].map AV } }
def loF:List PySem.Str:=[]
def xtF (s:Shared):Bool:=PySem.W.xlAt vwF [] s && PySem.W.recOk (KR CJ.row.toRowW) s
open PySem.W in
theorem yM:LeftO CK vwF loF xtF (Hook.obs mz) (Hook.val mz) 1354:=by intro w; kernel_rfl
theorem yN:Kd CJ=true:=by kernel_rfl
end Fs
set_option compiler.extract_closed false
set_option Elab.async false
set_option linter.all false
set_option maxRecDepth 100000
namespace L2
open PySem PySem.Spec PyProof.Rows
noncomputable abbrev Key:=Sum Int Str
noncomputable def mB:Key->Value->Bool
 | .inl k,v=>Hb k v
 | .inr x,v=>JL x v
noncomputable def AW (w:World):Key->Int
 | .inl k=>hashInt k
 | .inr x=>hashStr w x
theorem aY:∀ {k:Key} {v:Value},mB k v=true->(∃ i t,k=FU i/\v=G4 i t)\/(∃ x t,k=GM x/\v=Ig x t)
 | .inl i,v,h=>by
  obtain ⟨t,e⟩:=Value.isInt_shape (k:=i) (v:=v) h
  exact .inl ⟨i,t,rfl,e⟩
 | .inr x,v,h=>by
  obtain ⟨t,e⟩:=Value.isStrOf_shape (x:=x) (v:=v) h
  exact .inr ⟨x,t,rfl,e⟩
theorem ng (i:Int) (t:Tok):mB (.inl i) (.int i t)=true:=by simp [mB,Hb]
theorem nh (x:Str) (t:Tok):mB (.inr x) (.str x t)=true:=by simp [mB,JL]
theorem wg (a b:Int):decide ((FU a:Key)=FU b)=(a == b):=by
 by_cases e:a=b
 ·subst e; simp
 ·have h:¬ (FU a:Key)=FU b:=λ q=>e (KF q)
  rw [decide_eq_false h]
  exact (beq_eq_false_iff_ne.mpr e).symm
theorem wj (a b:Str):decide ((GM a:Key)=GM b)=decide (a=b):=by
 by_cases e:a=b
 ·subst e; simp
 ·have h:¬ (GM a:Key)=GM b:=λ q=>e (Sum.inr.inj q)
  rw [decide_eq_false h,decide_eq_false e]
theorem wk (a:Int) (b:Str):decide ((FU a:Key)=GM b)=false:=decide_eq_false (λ q=>nomatch q)
theorem wm (a:Str) (b:Int):decide ((GM a:Key)=FU b)=false:=decide_eq_false (λ q=>nomatch q)
noncomputable def bq (prog:Program) (w:World):PySem.KeyKind prog w Key where
 is:=mB
 hash:=AW w
 inj:=λ v a b ha hb=>by
  rcases aY ha with ⟨i,t,rfl,rfl⟩ | ⟨x,t,rfl,rfl⟩
  ·rcases aY hb with ⟨j,u,rfl,e⟩ | ⟨y,u,rfl,e⟩
   ·injection e with e1 _; rw [e1]
   ·exact nomatch e
  ·rcases aY hb with ⟨j,u,rfl,e⟩ | ⟨y,u,rfl,e⟩
   ·exact nomatch e
   ·injection e with e1 _; rw [e1]
 byValue:=λ k v h=>by
  rcases aY h with ⟨i,t,rfl,rfl⟩ | ⟨x,t,rfl,rfl⟩<;>rfl
 pyHash:=λ hv h=>by
  rcases aY hv with ⟨i,t,rfl,rfl⟩ | ⟨x,t,rfl,rfl⟩
  ·exact wpAny_pyHash_int h
  ·exact wpAny_pyHash_str h
 eqBool:=λ hu hv h=>by
  rcases aY hu with ⟨i,t,rfl,rfl⟩ | ⟨x,t,rfl,rfl⟩
  ·rcases aY hv with ⟨j,u,rfl,rfl⟩ | ⟨y,u,rfl,rfl⟩
   ·rw [wg] at h; exact wpAny_eqBool_int h
   ·rw [wk] at h; exact K4 i t y u _ _ _ _ h
  ·rcases aY hv with ⟨j,u,rfl,rfl⟩ | ⟨y,u,rfl,rfl⟩
   ·rw [wm] at h; exact K5 x t j u _ _ _ _ h
   ·rw [wj] at h; exact wpAny_eqBool_str h
 «strs»:=λ k x t v h=>by
  rcases aY h with ⟨i,u,rfl,e⟩ | ⟨y,u,rfl,e⟩
  ·exact nomatch e
  ·injection e with e1 _
   subst e1
   cases v<;>rfl
theorem km (prog:Program) (w:World) (i:Int) (t:Tok):(bq prog w).is (.inl i) (.int i t)=true:=ng i t
theorem kn (prog:Program) (w:World) (x:Str) (t:Tok):(bq prog w).is (.inr x) (.str x t)=true:=nh x t
inductive V where
 | non | bl (b:Bool) | int (i:Int) | str (x:Str) | byt (b:Array UInt8) | flt (b:UInt64) | ref (a:Addr) | ty (n:String)
 deriving DecidableEq
noncomputable def RelV:V->Value->Prop
 | .non,u=>u=CC
 | .bl b,u=>u=Jl b
 | .int i,u=>∃ t,u=G4 i t
 | .str x,u=>∃ t,u=Ig x t
 | .byt b,u=>∃ t,u=Value.bytes b t
 | .flt b,u=>∃ t,u=KG b t
 | .ref a,u=>u=Cp a
 | .ty n,u=>u=Ds n
noncomputable abbrev Vals:List V->List Value->Prop:=Paired RelV
theorem Vals.length {xs:List V} {us:List Value} (r:Vals xs us):xs.length=us.length:=Go r
theorem Vals.get:∀ {xs:List V} {us:List Value} {i:Nat} {x:V},Vals xs us->xs[i]? = some x->∃ u,us[i]? = some u/\RelV x u
 | _,_,_,_,.nil,e=>by simp at e
 | _,_,0,_,.cons r _,e=>by simp at e; subst e; exact ⟨_,rfl,r⟩
 | _,_,i+1,x,.cons _ t,e=>by
  obtain ⟨u,h1,h2⟩:=Vals.get (i:=i) (x:=x) t (by simpa using e)
  exact ⟨u,by simpa using h1,h2⟩
theorem Vals.set {x:V} {u:Value} (r:RelV x u):∀ {xs:List V} {us:List Value} (i:Nat),Vals xs us->Vals (xs.set i x) (us.set i u)
 | _,_,_,.nil=>.nil
 | _,_,0,.cons _ t=>.cons r t
 | _,_,i+1,.cons q t=>.cons q (Vals.set r i t)
theorem Vals.append:∀ {xs ys:List V} {us ws:List Value},Vals xs us->Vals ys ws->Vals (xs++ys) (us++ws)
 | _,_,_,_,.nil,s=>s
 | _,_,_,_,.cons r t,s=>.cons r (Vals.append t s)
theorem Vals.take:∀ {xs:List V} {us:List Value} (n:Nat),Vals xs us->Vals (xs.take n) (us.take n)
 | _,_,0,_=>.nil
 | _,_,_+1,.nil=>.nil
 | _,_,n+1,.cons r t=>.cons r (Vals.take n t)
theorem Vals.drop:∀ {xs:List V} {us:List Value} (n:Nat),Vals xs us->Vals (xs.drop n) (us.drop n)
 | _,_,0,r=>r
 | _,_,_+1,.nil=>.nil
 | _,_,n+1,.cons _ t=>Vals.drop n t
noncomputable def RelO:Option V->Option Value->Prop
 | some v,some u=>RelV v u
 | none,none=>True
 | _,_=>False
noncomputable def KV {κ:Type}:List (κ×V)->List (κ×Value)->Prop:=Paired λ (p:κ×V) (q:κ×Value)=>p.1=q.1/\RelV p.2 q.2
noncomputable def kV:Key->V
 | .inl i=>.int i
 | .inr x=>.str x
inductive HO where
 /-- a list -/
 | lst (xs:List V)
 /-- a tuple (never changes) -/
 | tup (xs:List V)
 /-- a dict whose keys are ints and texts; one whose keys are tuples of ints and texts (the empty one is both) -/
 | dK (kvs:List (Key×V)) | dT (kvs:List (List Key×V))
 /-- a set of ints: its members,its size -/
 | set (S:Int->Bool) (n:Nat)
 /-- an instance of the class at C,its dict at dx,its attributes -/
 | ins (C dx:Addr) (fs:List (Str×V))
 /-- the dict of the instance at x -/
 | own (x:Addr)
 /-- the dict of an exception -/
 | xd (fs:List (Str×V))
 /-- a bound method,f of x -/
 | met (f x:Addr)
 /-- a range object lo,lo+1,.. below hi -/
 | rng (lo hi:Int)
 /-- a thing that is known to the object (the script; a dict while a loop walks it): read,never written while it is so -/
 | frz (o:Obj) (u:HO)
 /-- a code object's table -/
 | tbl (ps:Array Value)
 /-- any other thing,by what is true of its one object (a def of one's own: SetO a S n:=HO.ext λ h=>..) -/
 | ext (φ:Heap->Prop)
noncomputable abbrev Hp:=Addr->Option HO
noncomputable def upd (H:Hp) (a:Addr) (o:HO):Hp:=λ b=>if b=a then some o else H b
theorem ac {H:Hp} {a:Addr} {o:HO}:upd H a o a=some o:=by unfold upd; rw [if_pos rfl]
theorem aq {H:Hp} {a b:Addr} {o:HO} (h:b≠a):upd H a o b=H b:=by unfold upd; rw [if_neg h]
theorem mC {H:Hp} {a b:Addr} {o u:HO} (h:H a=some o) (h':H b=some u) (d:o≠u):a≠b:=by
 intro e; subst e; rw [h] at h'; exact d (CG h')
theorem ap {H:Hp} {a b:Addr} {o:HO} (h:H a=some o) (h':H b=none):a≠b:=by
 intro e; subst e; rw [h] at h'; cases h'
section
variable (P:Program) (w:World)
noncomputable def ObjOk (H:Hp) (h:Heap) (a:Addr):HO->Prop
 | .lst xs=>xs.length<=sizeLine/\∃ (its:List Value) (n:Nat),Vals xs its/\h.get? a=some { cls:=.type "list",data:=.seq its.toArray n }
 | .tup xs=>xs.length<=sizeLine/\∃ its:List Value,Vals xs its/\IsTup h a its.toArray
 | .dK kvs=>kvs.length<=sizeLine/\(a == sysModules)=false/\∃ vs,KV kvs vs/\h.DictOf (bq P w) a vs
 | .dT kvs=>kvs.length<=sizeLine/\(a == sysModules)=false/\∃ xs:List (List Key×Addr×Value),
   Paired (λ (p:List Key×V) (q:List Key×Addr×Value)=>p.1=q.1/\H q.2.1=some (.tup (p.1.map kV))/\RelV p.2 q.2.2) kvs xs/\
   ∃ o es ep,h.get? a=some o/\o.ExactDict/\o.data=.dict es ep/\es.toList=xs.map (entryOfKey (tupleKind (bq P w)))/\(xs.map (·.1)).Nodup
 | .set S n=>h.SetOf (intKind P w) a S n
 | .ins C dx fs=>H dx=some (.own a)/\fs.length<=1000/\dx≠a/\h.get? a=some (G5 C dx)/\
   ∃ mA,h.Ns1 dx mA/\(∀ f,RelO (fs.lookup f) (mA f))/\Ke mA (fs.map (·.1))
 | .own _=>∃ o,h.get? a=some o
 | .xd fs=>∃ mA,h.Ns1 a mA/\∀ f,RelO (fs.lookup f) (mA f)
 | .rng lo hi=>∃ t u v,h.get? a=some { cls:=.type "range",data:=.fields #[.int lo t,.int hi u,.int 1 v] }
 | .frz o u=>h.get? a=some o/\ObjOk H h a u
 | .tbl ps=>h.get? a=some { cls:=.none,data:=.fields ps }
 | .met f x=>h.get? a=some (Gy (.ref f) (.ref x))
 | .ext φ=>φ h/\(∃ o,h.get? a=some o)/\∀ h1 h2:Heap,φ h1->(∀ o,h1.get? a=some o->h2.get? a=some o)->φ h2
noncomputable def HOk (H:Hp) (h:Heap):Prop:=∀ a o,H a=some o->ObjOk P w H h a o
end
section
variable {P:Program} {w:World} {H H':Hp} {h h':Heap} {a:Addr} {o:HO}
theorem ObjOk.lt (x:ObjOk P w H h a o):a<h.objs.size:=by
 cases o with
 | lst xs=>obtain ⟨_,_,_,_,e⟩:=x; exact BJ e
 | tup xs=>obtain ⟨_,_,_,p⟩:=x; exact p.lt
 | dK kvs=>obtain ⟨_,_,_,_,o,_,_,e,_⟩:=x; exact BJ e
 | dT kvs=>obtain ⟨_,_,_,_,o,_,_,e,_⟩:=x; exact BJ e
 | set S n=>obtain ⟨o,_,_,_,e,_⟩:=x; exact BJ e
 | ins C dx fs=>obtain ⟨_,_,_,e,_⟩:=x; exact BJ e
 | own y=>obtain ⟨_,e⟩:=x; exact BJ e
 | xd fs=>obtain ⟨_,⟨_,_,_,e,_⟩,_⟩:=x; exact BJ e
 | rng lo hi=>obtain ⟨_,_,_,e⟩:=x; exact BJ e
 | frz ob u=>obtain ⟨e,_⟩:=x; exact BJ e
 | tbl ps=>exact BJ (show h.get? a=some _ from x)
 | met f y=>exact BJ (show h.get? a=some _ from x)
 | ext φ=>obtain ⟨_,⟨_,e⟩,_⟩:=x; exact BJ e
theorem Paired.mapP {α β:Type} {F G:α->β->Prop}:∀ {l₁:List α} {l₂:List β},Paired F l₁ l₂->(∀ a b,F a b->G a b)->Paired G l₁ l₂
 | _,_,.nil,_=>.nil
 | _,_,.cons r t,f=>.cons (f _ _ r) (Paired.mapP t f)
theorem ObjOk.stay (x:ObjOk P w H h a o) (k:∀ b u,(b=a\/H b=some (.own a))->h.get? b=some u->h'.get? b=some u)
  (ho:∀ b,H b=some (.own a)->H' b=some (.own a)) (ht:∀ b xs,H b=some (.tup xs)->H' b=some (.tup xs)):ObjOk P w H' h' a o:=by
 induction o with
 | lst xs=>obtain ⟨z,its,n,r,e⟩:=x; exact ⟨z,its,n,r,k _ _ (.inl rfl) e⟩
 | tup xs=>obtain ⟨z,its,r,ob,e,c⟩:=x; exact ⟨z,its,r,ob,k _ _ (.inl rfl) e,c⟩
 | dK kvs=>obtain ⟨z,y,vs,r,ob,es,ep,e,c⟩:=x; exact ⟨z,y,vs,r,ob,es,ep,k _ _ (.inl rfl) e,c⟩
 | dT kvs=>
  obtain ⟨z,y,xs,r,ob,es,ep,e,c⟩:=x
  exact ⟨z,y,xs,Paired.mapP r λ p q z=>⟨z.1,ht _ _ z.2.1,z.2.2⟩,ob,es,ep,k _ _ (.inl rfl) e,c⟩
 | set S n=>obtain ⟨ob,es,ep,t,e,c⟩:=x; exact ⟨ob,es,ep,t,k _ _ (.inl rfl) e,c⟩
 | ins C dx fs=>
  obtain ⟨d,z,ne,e,mA,⟨od,es,ep,e2,c⟩,r⟩:=x
  exact ⟨ho _ d,z,ne,k _ _ (.inl rfl) e,mA,⟨od,es,ep,k _ _ (.inr d) e2,c⟩,r⟩
 | own y=>obtain ⟨ob,e⟩:=x; exact ⟨ob,k _ _ (.inl rfl) e⟩
 | xd fs=>obtain ⟨mA,⟨od,es,ep,e,c⟩,r⟩:=x; exact ⟨mA,⟨od,es,ep,k _ _ (.inl rfl) e,c⟩,r⟩
 | rng lo hi=>obtain ⟨t,u,v,e⟩:=x; exact ⟨t,u,v,k _ _ (.inl rfl) e⟩
 | frz ob u ih=>obtain ⟨e,q⟩:=x; exact ⟨k _ _ (.inl rfl) e,ih q⟩
 | tbl ps=>
  have e:h.get? a=some { cls:=.none,data:=.fields ps }:=x
  show h'.get? a=some { cls:=.none,data:=.fields ps }
  exact k a _ (.inl rfl) e
 | met f y=>
  have e:h.get? a=some (Gy (.ref f) (.ref y)):=x
  show h'.get? a=some (Gy (.ref f) (.ref y))
  exact k a _ (.inl rfl) e
 | ext φ=>obtain ⟨p,⟨o,e⟩,st⟩:=x; exact ⟨st _ _ p λ o q=>k _ _ (.inl rfl) q,⟨o,k _ _ (.inl rfl) e⟩,st⟩
theorem HOk.lt (x:HOk P w H h) (e:H a=some o):a<h.objs.size:=(x a o e).lt
theorem HOk.fresh (x:HOk P w H h) (e:h.objs.size<=a):H a=none:=by
 cases q:H a with
 | none=>rfl
 | some u=>exact absurd (B5 (x.lt q) e) (C3 _)
theorem HOk.kept (x:HOk P w H h) (k:∀ b u,h.get? b=some u->h'.get? b=some u):HOk P w H h':=λ a o e=>
 (x a o e).stay (λ b u _ q=>k b u q) (λ _ q=>q) λ _ _ q=>q
theorem HOk.laid (x:HOk P w H h) (k:∀ b u,h.get? b=some u->h'.get? b=some u) (hp:h.objs.size<=a) (new:ObjOk P w (upd H a o) h' a o):HOk P w (upd H a o) h':=λ b u e=>by
 have hn:=x.fresh hp
 by_cases hb:b=a
 ·subst hb; rw [ac] at e; cases e; exact new
 ·rw [aq hb] at e
  exact (x b u e).stay (λ c v _ q=>k c v q) (λ c q=>by rw [aq (ap q hn)]; exact q) λ c xs q=>by rw [aq (ap q hn)]; exact q
end
noncomputable def Rd (H:Hp) (a:Addr) (u:HO):Prop:=H a=some u\/∃ o,H a=some (.frz o u)
theorem Rd.ok {P:Program} {w:World} {H:Hp} {h:Heap} {a:Addr} {u:HO} (r:Rd H a u) (x:HOk P w H h):ObjOk P w H h a u:=by
 rcases r with r | ⟨o,r⟩
 ·exact x a u r
 ·obtain ⟨_,q⟩:=x a _ r
  exact q
noncomputable def Mut:Option HO->Prop
 | some (.lst _)=>True
 | some (.dK _)=>True
 | some (.dT _)=>True
 | some (.set _ _)=>True
 | some (.ins _ _ _)=>True
 | some (.ext _)=>True
 | _=>False
section
variable {P:Program} {w:World} {H:Hp} {h h':Heap} {x e:Addr} {o':HO}
theorem HOk.write (ok:HOk P w H h) (mu:Mut (H x)) (he:e=x\/H e=some (.own x)) (k:∀ b u,b≠e->h.get? b=some u->h'.get? b=some u) (heo:∃ u,h'.get? e=some u)
  (new:ObjOk P w (upd H x o') h' x o'):HOk P w (upd H x o') h':=λ b u q=>by
 have nown:∀ c y,H c=some (.own y)->c≠x:=λ c y r z=>by subst z; rw [r] at mu; exact mu
 have ntup:∀ c xs,H c=some (.tup xs)->c≠x:=λ c xs r z=>by subst z; rw [r] at mu; exact mu
 by_cases hb:b=x
 ·subst hb; rw [ac] at q; cases q; exact new
 ·rw [aq hb] at q
  by_cases hbe:b=e
  ·have q':H b=some (.own x):=by
    rcases he with z | z
    ·exact absurd (hbe.trans z) hb
    ·rw [hbe]; exact z
   rw [q] at q'; cases q'
   obtain ⟨v,hv⟩:=heo
   exact ⟨v,by rw [hbe]; exact hv⟩
  ·refine (ok b u q).stay (λ c v hc r=>k c v ?_ r) (λ c r=>by rw [aq (nown c b r)]; exact r) λ c xs r=>by rw [aq (ntup c xs r)]; exact r
   rcases hc with rfl | hc
   ·exact hbe
   ·rintro rfl
    rcases he with z | z
    ·exact nown c b hc z
    ·rw [hc] at z; cases z; exact hb rfl
end
structure Un (fs ex:List Addr) (H H':Hp) (h h':Heap):Prop where
 keep:∀ b o,h.get? b=some o->H b=none->b∉fs->b∉ex->h'.get? b=some o
 slot:∀ b o,h.get? b=some o->H b=none->b∈fs->b∉ex->∃ sl,h'.get? b=some { o with slots:=sl }
 free:∀ b o,h.get? b=some o->H b=none->b∉ex->H' b=none
 there:∀ b o,h.get? b=some o->b∉ex->∃ o',h'.get? b=some o'
 tups:∀ b xs,H b=some (.tup xs)->H' b=some (.tup xs)
 frzs:∀ b o u,H b=some (.frz o u)->H' b=some (.frz o u)
 tbls:∀ b ps,H b=some (.tbl ps)->∃ more,H' b=some (.tbl (ps++more))
section
variable {fs fs' ex ex':List Addr} {H H1 H2:Hp} {h h1 h2 h':Heap} {a x e:Addr} {o:HO}
theorem Un.any (u:Un fs ex H H1 h h1) {b:Addr} {ob:Obj} (q:h.get? b=some ob) (n:H b=none) (hx:b∉ex):∃ sl,h1.get? b=some { ob with slots:=sl }:=by
 by_cases hb:b∈fs
 ·exact u.slot b ob q n hb hx
 ·exact ⟨ob.slots,u.keep b ob q n hb hx⟩
theorem Un.kept (k:∀ b u,h.get? b=some u->h'.get? b=some u):Un fs ex H H h h':=
 ⟨λ b ob q _ _ _=>k b ob q,λ b ob q _ _ _=>⟨ob.slots,k b ob q⟩,λ _ _ _ n _=>n,λ b ob q _=>⟨ob,k b ob q⟩,λ _ _ q=>q,λ _ _ _ q=>q,λ _ ps q=>⟨#[],by rw [q]; simp⟩⟩
theorem Un.refl:Un fs ex H H h h:=Un.kept λ _ _ q=>q
theorem Un.laid (k:∀ b u,h.get? b=some u->h'.get? b=some u) (hp:h.objs.size<=a) (hn:H a=none):Un fs ex H (upd H a o) h h' where
 keep:=λ b u q _ _ _=>k b u q
 slot:=λ b u q _ _ _=>⟨u.slots,k b u q⟩
 free:=λ b u q n _=>by rw [aq (B0 (B5 (BJ q) hp))]; exact n
 there:=λ b u q _=>⟨u,k b u q⟩
 tups:=λ b xs q=>by rw [aq (ap q hn)]; exact q
 frzs:=λ b u xs q=>by rw [aq (ap q hn)]; exact q
 tbls:=λ b ps q=>⟨#[],by rw [aq (ap q hn),q]; simp⟩
theorem Un.write (mu:Mut (H x)) (he:e=x\/H e=some (.own x)) (k:∀ b u,b≠e->h.get? b=some u->h'.get? b=some u) (heo:∃ u,h'.get? e=some u):Un fs ex H (upd H x o) h h':=by
 have hx:∀ b,H b=none->b≠x:=λ b n z=>by subst z; rw [n] at mu; exact mu
 have hb:∀ b,H b=none->b≠e:=λ b n z=>by
  subst z
  rcases he with r | r
  ·exact hx b n r
  ·rw [n] at r; cases r
 have hm:∀ b u,H b=some u->¬ Mut (some u)->b≠x:=λ b u q nm z=>by subst z; rw [q] at mu; exact nm mu
 refine ⟨λ b u q n _ _=>k b u (hb b n) q,λ b u q n _ _=>⟨u.slots,k b u (hb b n) q⟩,λ b u q n _=>by rw [aq (hx b n)]; exact n,λ b u q _=>?_,
  λ b xs q=>by rw [aq (hm b _ q λ z=>z)]; exact q,λ b u xs q=>by rw [aq (hm b _ q λ z=>z)]; exact q,λ b ps q=>⟨#[],by rw [aq (hm b _ q λ z=>z),q]; simp⟩⟩
 by_cases hbe:b=e
 ·subst hbe; exact heo
 ·exact ⟨u,k b u hbe q⟩
end
noncomputable def trk (h:Heap) (H:Hp):List Addr:=(BC h.objs.size).filter λ a=>(H a).isSome
noncomputable def qo (h:Heap) (H:Hp):Heap:=PySem.W.hideAll h (trk h H)
theorem ni (h:Heap) (H:Hp):(qo h H).objs.size=h.objs.size:=PySem.W.hideAll_size _ _
theorem qp {h:Heap} {H:Hp} {b:Addr} {o:Obj} (e:h.get? b=some o) (n:H b=none):(qo h H).get? b=some o:=
 PySem.W.hideAll_get _ e λ hm=>by
  have q:(H b).isSome=true:=(Cv.mp hm).2
  rw [n] at q; simp at q
theorem tO {h:Heap} {H:Hp} {b:Addr} {o:Obj} (e:(qo h H).get? b=some o):h.get? b=some o/\H b=none:=by
 have e':h.get? b=some o:=PySem.W.of_hideAll (trk h H) e
 refine ⟨e',?_⟩
 cases q:H b with
 | none=>rfl
 | some x=>
  have hm:b∈trk h H:=Cv.mpr ⟨Cg.mpr (BJ e'),by simp [q]⟩
  have z:(qo h H).get? b=none:=PySem.W.hideAll_none (trk h H) hm
  rw [z] at e; cases e
noncomputable def tP (g h:Heap) (L:Addr):List (Addr×Obj):=(BC h.objs.size).filterMap λ a=>if a=L\/(g.get? a).isSome=true then none else (h.get? a).map λ o=>(a,o)
noncomputable def rest (g h:Heap) (L d:Addr):List (Addr×Obj):=(tP g h L).filter λ p=>decide (p.1≠d)
structure Mod (K:BA) (mg:Str->Option Value) (base:Heap):Prop where
 kin:K.In base
 glob:base.Ns mainGlobals mg
 blt:∃ mb,base.Ns builtinsNs mb/\∀ x:Str,x≠"__name__"->mb x=bootBuiltins x
 nolimit:base.NoLimit
/-- the context: a def's body (or a comprehension's block) running. base: fixed through the whole law; s₀,H₀: the entry; outer: the frames whose slots others may change (a def's callers); stack: all frames that run;
   ex: iterators that were made ahead of the entry and are walked here (a comprehension's); fn: the names whose cells were made at the entry (a def: all; a comprehension's block: its own); calm: not within an except suite; pn: pins that every state bears; xe: what is wanted of an exception that leaves the code -/
structure Cx where
 prog:Program
 w:World
 K:BA
 mg:Str->Option Value
 base:Heap
 A:Around
 N:List Str
 s₀:Shared
 H₀:Hp
 env:Env
 outer:List Env
 stack:List Env
 ex:List Addr
 fn:Str->Bool
 calm:Bool
 pn:List (Addr×Obj)
 xe:Value->Shared->Prop
noncomputable def frs (l:List Env):List Addr:=l.filterMap (·.frame)
noncomputable abbrev Cx.fs (X:Cx):List Addr:=frs X.outer
noncomputable def Vis (sc:Scope) (x:Str):Prop:=sc.names.lookup x=some .local\/sc.names.lookup x=some .cell\/sc.names.lookup x=some .free
noncomputable def Loc (sc:Scope) (x:Str):Prop:=sc.names.lookup x=some .local\/sc.names.lookup x=some .cell
noncomputable def AX (env:Env) (h:Heap) (m:Str->Option Value) (x:Str) (u:Value):Prop:=
 (env.kindOf x=some .local/\m x=some u)\/((env.kindOf x=some .cell\/env.kindOf x=some .free)/\∃ c,env.cells.lookup x=some c/\h.IsCell c (some u))
structure Cx.Ok (X:Cx):Prop where
 mod:Mod X.K X.mg X.base
 kind:X.env.scope.kind=.function
 glob:X.env.globals=mainGlobals
 blt:X.env.builtins=builtinsNs
 above:X.s₀.heap.objs.size<=X.env.locals
 inj:∀ x y c,X.env.cells.lookup x=some c->X.env.cells.lookup y=some c->x=y
 has:∀ x,(X.env.kindOf x=some .cell\/X.env.kindOf x=some .free)->∃ c,X.env.cells.lookup x=some c
 cab:∀ x c,X.fn x=true->X.env.cells.lookup x=some c->X.s₀.heap.objs.size<=c
 hd:X.calm=true->X.A.handled=none
 frames:X.A.frames=some X.stack
 stk:X.stack=X.outer\/(X.stack=X.env::X.outer/\X.env.frame=some X.env.locals)
 exf:∀ b∈X.ex,b≠X.env.locals/\∀ x c,X.env.cells.lookup x=some c->c≠b
 bs:∀ b o,X.base.get? b=some o->X.s₀.heap.get? b=some o/\X.H₀ b=none
 bsz:X.base.objs.size<=X.s₀.heap.objs.size
 noex:∀ b o,X.base.get? b=some o->b∉X.ex
 exfs:∀ b∈X.ex,b∉X.fs
 funs:X.s₀.heap.FunFrames X.base X.outer
 frf:∀ b∈X.fs,X.H₀ b=none
structure Inv (X:Cx) (pins:List (Addr×Obj)) (σ:List (Option V)) (H:Hp) (s:Shared):Prop where
 ok:X.Ok
 os:s.os=X.s₀.os
 bare:AllBare s.gens
 base:Un X.fs X.ex X.H₀ H X.s₀.heap s.heap
 loc:∃ m,s.heap.Ns X.env.locals m/\∀ (i:Nat) (x:Str) (v:V),X.N[i]? = some x->σ[i]? = some (some v)->Vis X.env.scope x->∃ u,RelV v u/\AX X.env s.heap m x u
 cell:∀ x c,X.env.cells.lookup x=some c->∃ v,s.heap.IsCell c v
 free:H X.env.locals=none
 freeC:∀ x c,X.env.cells.lookup x=some c->H c=none
 pin:∀ p∈X.pn++pins,s.heap.get? p.1=some p.2/\H p.1=none/\p.1≠X.env.locals/\p.1∉X.fs/\∀ v,p.2.data≠.cell v
 hok:HOk X.prog X.w H s.heap
 len:σ.length=X.N.length
section
variable {X:Cx} {pins:List (Addr×Obj)} {σ:List (Option V)} {H H':Hp} {s:Shared} {h':Heap}
theorem Cx.Ok.nofr (ok:X.Ok) {b:Addr} {o:Obj} (e:X.base.get? b=some o):b∉X.fs:=λ hb=>by
 have:=(ok.funs.mem hb).1
 rw [e] at this; cases this
theorem Inv.bs (I:Inv X pins σ H s):∀ b o,X.base.get? b=some o->s.heap.get? b=some o/\H b=none:=λ b o e=>
 ⟨I.base.keep b o (I.ok.bs b o e).1 (I.ok.bs b o e).2 (I.ok.nofr e) (I.ok.noex b o e),I.base.free b o (I.ok.bs b o e).1 (I.ok.bs b o e).2 (I.ok.noex b o e)⟩
theorem Inv.bk (I:Inv X pins σ H s):∀ b o,X.base.get? b=some o->s.heap.get? b=some o:=λ b o e=>(I.bs b o e).1
theorem Inv.mod (I:Inv X pins σ H s):Mod X.K X.mg X.base:=I.ok.mod
theorem Inv.kIn (I:Inv X pins σ H s):X.K.In s.heap:=I.ok.mod.kin.keeps I.bk
theorem Inv.lt (I:Inv X pins σ H s):X.env.locals<s.heap.objs.size:=let ⟨_,hn,_⟩:=I.loc; hn.lt
theorem Inv.sz (I:Inv X pins σ H s):X.s₀.heap.objs.size<=s.heap.objs.size:=CM I.ok.above (DH I.lt)
theorem Inv.nofs (I:Inv X pins σ H s) {a:Addr} (h:s.heap.objs.size<=a):a∉X.fs:=λ hb=>by
 obtain ⟨_,o,ho,_⟩:=I.ok.funs.mem hb
 exact absurd (B5 (BJ ho) (CM I.sz h)) (C3 _)
theorem Inv.cne (I:Inv X pins σ H s):∀ x c,X.env.cells.lookup x=some c->c≠X.env.locals:=λ x c e z=>by
 obtain ⟨v,o,ho,hd⟩:=I.cell x c e
 obtain ⟨m,⟨o',es,ep,ho',hd',_⟩,_⟩:=I.loc
 rw [z,ho'] at ho; cases ho; rw [hd'] at hd; cases hd
theorem Inv.funs (I:Inv X pins σ H s):s.heap.FunFrames X.base X.outer:=by
 have all:∀ (l:List Env),(∀ b∈frs l,b∈X.fs)->X.s₀.heap.FunFrames X.base l->s.heap.FunFrames X.base l:=by
  intro l
  induction l with
  | nil=>intro _ _; trivial
  | cons env r ih=>
   intro hs hl
   obtain ⟨hk,⟨L,o,hf,hn,ho,hd⟩,hr⟩:=hl
   have hL:L∈X.fs:=hs L (by unfold frs; rw [D1,hf]; exact Cb)
   obtain ⟨sl,e⟩:=I.base.slot L o ho (I.ok.frf L hL) hL λ z=>I.ok.exfs L z hL
   exact ⟨hk,⟨L,_,hf,hn,e,hd⟩,ih (λ b hb=>hs b (by unfold frs; rw [D1,hf]; exact Cd _ hb)) hr⟩
 exact all X.outer (λ _ hb=>hb) I.ok.funs
theorem Inv.stack (I:Inv X pins σ H s):s.heap.FunFrames X.base X.stack:=by
 rcases I.ok.stk with e | ⟨e,hf⟩
 ·rw [e]; exact I.funs
 ·rw [e]
  obtain ⟨m,hn,_⟩:=I.loc
  refine .cons (by rw [I.ok.kind]; decide) hf hn ?_ I.funs
  exact Heap.get?_none_of_le (CM I.ok.bsz I.ok.above)
theorem Inv.stkSub (I:Inv X pins σ H s):∀ b∈frs X.stack,b∈X.env.locals::X.fs:=λ b hb=>by
 rcases I.ok.stk with e | ⟨e,hf⟩
 ·rw [e] at hb; exact Cd _ hb
 ·rw [e] at hb
  unfold frs at hb
  rw [D1,hf] at hb
  exact hb
theorem Inv.stkFree (I:Inv X pins σ H s):∀ b∈frs X.stack,H b=none:=λ b hb=>by
 rcases BS.mp (I.stkSub b hb) with e | hb
 ·rw [e]; exact I.free
 ·obtain ⟨_,o,ho,_⟩:=I.ok.funs.mem hb
  exact I.base.free b o ho (I.ok.frf b hb) λ z=>I.ok.exfs b z hb
theorem Inv.step {g':Array GenState} {t':Nat} {d':Drawn} {ch:List Addr} (I:Inv X pins σ H s)
  (hch:∀ b∈ch,(b∈X.ex\/X.s₀.heap.objs.size<=b)/\b≠X.env.locals/\(∀ x c,X.env.cells.lookup x=some c->c≠b)/\∀ p∈X.pn++pins,p.1≠b)
  (keep:∀ b o,b≠X.env.locals->b∉X.fs->b∉ch->s.heap.get? b=some o->H b=none->h'.get? b=some o)
  (slot:∀ b o,b≠X.env.locals->b∈X.fs->b∉ch->s.heap.get? b=some o->H b=none->∃ sl,h'.get? b=some { o with slots:=sl }) (free:∀ b o,b∉ch->s.heap.get? b=some o->H b=none->H' b=none)
  (there:∀ b o,b∉ch->s.heap.get? b=some o->∃ o',h'.get? b=some o')
  (tups:∀ b xs,H b=some (.tup xs)->H' b=some (.tup xs)) (frzs:∀ b o u,H b=some (.frz o u)->H' b=some (.frz o u)) (tbls:∀ b ps,H b=some (.tbl ps)->∃ more,H' b=some (.tbl (ps++more)))
  (ns:∀ m,s.heap.Ns X.env.locals m->h'.Ns X.env.locals m) (hok:HOk X.prog X.w H' h') (hg:AllBare g') :
  Inv X pins σ H' { s with heap:=h',gens:=g',drawn:=d',toks:=t' }:=by
 have neL:∀ b o,X.s₀.heap.get? b=some o->b≠X.env.locals:=λ b o e=>B0 (B5 (BJ e) I.ok.above)
 have neC:∀ b o,X.s₀.heap.get? b=some o->b∉X.ex->b∉ch:=λ b o e hx hb=>by
  rcases (hch b hb).1 with z | z
  ·exact hx z
  ·exact absurd (B5 (BJ e) z) (C3 _)
 have cellK:∀ x c,X.env.cells.lookup x=some c->∀ v,s.heap.IsCell c v->h'.IsCell c v:=λ x c e v ⟨o,ho,hd⟩=>by
  have nch:c∉ch:=λ z=>(hch c z).2.2.1 x c e rfl
  by_cases hc:c∈X.fs
  ·obtain ⟨sl,q⟩:=slot c o (I.cne x c e) hc nch ho (I.freeC x c e)
   exact ⟨_,q,hd⟩
  ·exact ⟨o,keep c o (I.cne x c e) hc nch ho (I.freeC x c e),hd⟩
 refine ⟨I.ok,I.os,hg,⟨λ b o e n hb hx=>?_,λ b o e n hb hx=>?_,λ b o e n hx=>?_,λ b o e hx=>?_,λ b xs e=>tups b xs (I.base.tups b xs e),λ b o xs e=>frzs b o xs (I.base.frzs b o xs e),λ b ps e=>?_⟩,?_,λ x c e=>?_,?_,λ x c e=>?_,λ p hp=>?_,hok,I.len⟩
 ·exact keep b o (neL b o e) hb (neC b o e hx) (I.base.keep b o e n hb hx) (I.base.free b o e n hx)
 ·obtain ⟨sl,e1⟩:=I.base.slot b o e n hb hx
  obtain ⟨sl',e2⟩:=slot b _ (neL b o e) hb (neC b o e hx) e1 (I.base.free b o e n hx)
  exact ⟨sl',e2⟩
 ·obtain ⟨o',e1⟩:=I.base.there b o e hx
  exact free b o' (neC b o e hx) e1 (I.base.free b o e n hx)
 ·obtain ⟨o',e1⟩:=I.base.there b o e hx
  exact there b o' (neC b o e hx) e1
 ·obtain ⟨m1,e1⟩:=I.base.tbls b ps e
  obtain ⟨m2,e2⟩:=tbls b _ e1
  exact ⟨m1++m2,by rw [e2,Array.append_assoc]⟩
 ·obtain ⟨m,hn,hl⟩:=I.loc
  refine ⟨m,ns m hn,λ i x v e1 e2 e3=>?_⟩
  obtain ⟨u,r,l⟩:=hl i x v e1 e2 e3
  refine ⟨u,r,?_⟩
  rcases l with l | ⟨k,c,e,z⟩
  ·exact .inl l
  ·exact .inr ⟨k,c,e,cellK x c e _ z⟩
 ·obtain ⟨v,z⟩:=I.cell x c e
  exact ⟨v,cellK x c e v z⟩
 ·obtain ⟨m,⟨o,_,_,ho,_⟩,_⟩:=I.loc
  exact free _ o (λ z=>(hch _ z).2.1 rfl) ho I.free
 ·obtain ⟨v,o,ho,hd⟩:=I.cell x c e
  exact free c o (λ z=>(hch c z).2.2.1 x c e rfl) ho (I.freeC x c e)
 ·obtain ⟨e,n,ne,nf,d⟩:=I.pin p hp
  have nch:p.1∉ch:=λ z=>(hch p.1 z).2.2.2 p hp rfl
  exact ⟨keep p.1 p.2 ne nf nch e n,free p.1 p.2 nch e n,ne,nf,d⟩
theorem Inv.un {t':Nat} (I:Inv X pins σ H s) (u:Un X.fs [] H H' s.heap h') (hok:HOk X.prog X.w H' h'):Inv X pins σ H' { s with heap:=h',toks:=t' }:=by
 obtain ⟨m,⟨o,es,ep,ho,r⟩,_⟩:=id I.loc
 obtain ⟨sl,hL⟩:=u.any ho I.free (by simp)
 exact I.step (g':=s.gens) (d':=s.drawn) (ch:=[]) (λ _ z=>nomatch z) (λ b o _ hb _ e n=>u.keep b o e n hb (by simp)) (λ b o _ hb _ e n=>u.slot b o e n hb (by simp)) (λ b o _ e n=>u.free b o e n (by simp)) (λ b o _ e=>u.there b o e (by simp)) u.tups u.frzs u.tbls (λ m' hm=>by
  obtain ⟨o',es',ep',ho',r'⟩:=hm
  rw [ho] at ho'; cases ho'
  exact ⟨_,es',ep',hL,r'⟩) hok I.bare
theorem Inv.call {g':Array GenState} {t':Nat} {d':Drawn} {ch:List Addr} (I:Inv X pins σ H s) (u:Un (frs X.stack) ch H H' s.heap h') (hok:HOk X.prog X.w H' h') (hg:AllBare g')
  (hch:∀ b∈ch,(b∈X.ex\/X.s₀.heap.objs.size<=b)/\b≠X.env.locals/\(∀ x c,X.env.cells.lookup x=some c->c≠b)/\∀ p∈X.pn++pins,p.1≠b) :
  Inv X pins σ H' { s with heap:=h',gens:=g',drawn:=d',toks:=t' }:=by
 obtain ⟨m,⟨o,es,ep,ho,r⟩,_⟩:=id I.loc
 obtain ⟨sl,hL⟩:=u.any ho I.free λ z=>(hch _ z).2.1 rfl
 exact I.step (ch:=ch) hch (λ b o hL hb hc e n=>u.keep b o e n (λ z=>(BS.mp (I.stkSub b z)).elim hL hb) hc) (λ b o _ _ hc e n=>u.any e n hc) (λ b o hc e n=>u.free b o e n hc) (λ b o hc e=>u.there b o e hc) u.tups u.frzs u.tbls (λ m' hm=>by
  obtain ⟨o',es',ep',ho',r'⟩:=hm
  rw [ho] at ho'; cases ho'
  exact ⟨_,es',ep',hL,r'⟩) hok hg
theorem Inv.turned {t':Nat} {it:Addr} (I:Inv X pins σ H s) (k:∀ b o,b≠it->s.heap.get? b=some o->h'.get? b=some o) (hn:H it=none) (hL:it≠X.env.locals)
  (h1:it∈X.ex\/X.s₀.heap.objs.size<=it) (h2:∀ x c,X.env.cells.lookup x=some c->c≠it) (h3:∀ p∈X.pn++pins,p.1≠it):Inv X pins σ H { s with heap:=h',toks:=t' }:=by
 have nit:∀ b u,H b=some u->b≠it:=λ b u e z=>by rw [z,hn] at e; cases e
 refine I.step (g':=s.gens) (d':=s.drawn) (ch:=[it]) (λ b hb=>?_) (λ b o _ _ hc e _=>k b o (λ z=>hc (by simp [z])) e) (λ b o _ _ hc e _=>⟨o.slots,k b o (λ z=>hc (by simp [z])) e⟩) (λ _ _ _ _ n=>n)
  (λ b o hc e=>⟨o,k b o (λ z=>hc (by simp [z])) e⟩) (λ _ _ e=>e) (λ _ _ _ e=>e) (λ b ps e=>⟨#[],by rw [e]; simp⟩) (λ m hm=>?_) (λ b u e=>?_) I.bare
 ·have e:b=it:=by simpa using hb
  subst e
  exact ⟨h1,hL,h2,h3⟩
 ·obtain ⟨o,es,ep,ho,r⟩:=hm
  exact ⟨o,es,ep,k _ o (DN hL) ho,r⟩
 ·refine (I.hok b u e).stay (λ c v hc q=>k c v ?_ q) (λ _ q=>q) λ _ _ q=>q
  rcases hc with z | z
  ·rw [z]; exact nit b u e
  ·exact nit c _ z
theorem Inv.tok (I:Inv X pins σ H s) (t:Nat):Inv X pins σ H { s with toks:=t }:=I.un (h':=s.heap) (t':=t) Un.refl I.hok
theorem Inv.kept {t':Nat} (I:Inv X pins σ H s) (k:∀ b u,s.heap.get? b=some u->h'.get? b=some u):Inv X pins σ H { s with heap:=h',toks:=t' }:=I.un (Un.kept k) (I.hok.kept k)
theorem Inv.laid {a:Addr} {o:HO} {t':Nat} (I:Inv X pins σ H s) (k:∀ b u,s.heap.get? b=some u->h'.get? b=some u) (hp:s.heap.objs.size<=a) (new:ObjOk X.prog X.w (upd H a o) h' a o) :
  Inv X pins σ (upd H a o) { s with heap:=h',toks:=t' }:=I.un (Un.laid k hp (I.hok.fresh hp)) (I.hok.laid k hp new)
theorem Inv.write {x e:Addr} {o:HO} {t':Nat} (I:Inv X pins σ H s) (mu:Mut (H x)) (he:e=x\/H e=some (.own x)) (k:∀ b u,b≠e->s.heap.get? b=some u->h'.get? b=some u) (heo:∃ u,h'.get? e=some u)
  (new:ObjOk X.prog X.w (upd H x o) h' x o):Inv X pins σ (upd H x o) { s with heap:=h',toks:=t' }:=I.un (Un.write mu he k heo) (I.hok.write mu he k heo new)
theorem Inv.pins_of {pins':List (Addr×Obj)} (I:Inv X pins σ H s) (h:∀ p∈pins',s.heap.get? p.1=some p.2/\H p.1=none/\p.1≠X.env.locals/\p.1∉X.fs/\∀ v,p.2.data≠.cell v):Inv X pins' σ H s:=
 ⟨I.ok,I.os,I.bare,I.base,I.loc,I.cell,I.free,I.freeC,λ p hp=>(BY.mp hp).elim (λ z=>I.pin p (CN _ z)) (h p),I.hok,I.len⟩
theorem lj {N:List Str} (hN:N.Nodup) {i j:Nat} {x:Str} (a:N[i]? = some x) (b:N[j]? = some x):i=j:=by
 obtain ⟨h1,e1⟩:=BZ.mp a
 obtain ⟨h2,e2⟩:=BZ.mp b
 exact (List.getElem_inj hN).mp (e1.trans e2.symm)
theorem nj {M:Model} {A:Around} {E:Value->Shared->Prop} {i:Nat} {x:Str} {v:V} {u:Value} {Q:Unit->Shared->Prop} (I:Inv X pins σ H s) (hN:X.N.Nodup) (hi:X.N[i]? = some x) (hx:Loc X.env.scope x) (r:RelV v u)
  (h:∀ s',Inv X pins (σ.set i (some v)) H s'->(∃ a,EO a s.heap s'.heap/\(a=X.env.locals\/X.env.cells.lookup x=some a))->Q () s') (hf:X.fn x=true\/X.env.scope.names.lookup x=some .local:=by first | exact .inl rfl | exact .inr rfl | assumption):wpAny M A (storeName X.env x u) Q E s:=by
 obtain ⟨m,hn,hl⟩:=id I.loc
 have hcls:(X.env.scope.kind == .class || (X.env.scope.kind == .module && X.env.locals != X.env.globals))=false:=by rw [I.ok.kind]; rfl
 have hiσ:i<σ.length:=by rw [I.len]; exact (BZ.mp hi).1
 have cne:=I.cne
 have tracked:∀ {a:Addr} {h':Heap},(∃ o,s.heap.get? a=some o/\H a=none)->EO a s.heap h'->HOk X.prog X.w H h':=λ {a h'} ha hs b ob e=>by
  obtain ⟨_,_,hfree⟩:=ha
  refine (I.hok b ob e).stay (λ c w' hc q=>(hs.2 c ?_).trans q) (λ _ q=>q) λ _ _ q=>q
  rintro rfl
  rcases hc with rfl | hc
  ·rw [hfree] at e; cases e
  ·rw [hfree] at hc; cases hc
 rcases hx with hk | hk
 ·refine wpAny_storeName_local hk hn (λ h' hn' hs=>?_) hcls
  obtain ⟨oL,_,_,hoL,_⟩:=id hn
  refine h _ ⟨I.ok,I.os,I.bare,⟨λ b o e n hb hx=>?_,λ b o e n hb hx=>?_,I.base.free,λ b o e hx=>?_,I.base.tups,I.base.frzs,I.base.tbls⟩,⟨_,hn',λ j y v' e1 e2 e3=>?_⟩,λ y c e=>?_,I.free,I.freeC,λ p hp=>?_,tracked ⟨oL,hoL,I.free⟩ hs,by simpa using I.len⟩ ⟨_,hs,.inl rfl⟩
  ·exact (hs.2 b (B0 (B5 (BJ e) I.ok.above))).trans (I.base.keep b o e n hb hx)
  ·obtain ⟨sl,e1⟩:=I.base.slot b o e n hb hx
   exact ⟨sl,(hs.2 b (B0 (B5 (BJ e) I.ok.above))).trans e1⟩
  ·obtain ⟨o',e1⟩:=I.base.there b o e hx
   exact ⟨o',(hs.2 b (B0 (B5 (BJ e) I.ok.above))).trans e1⟩
  ·by_cases hj:j=i
   ·subst hj
    rw [hi] at e1; cases e1
    rw [Hc hiσ] at e2
    cases e2
    exact ⟨u,r,.inl ⟨hk,by simp⟩⟩
   ·rw [Hy (DN hj)] at e2
    obtain ⟨u',r',q⟩:=hl j y v' e1 e2 e3
    refine ⟨u',r',?_⟩
    rcases q with ⟨k,e⟩ | ⟨k,c,e,z⟩
    ·refine .inl ⟨k,?_⟩
     have:y≠x:=λ e=>hj (lj hN e1 (e▸hi))
     simp [this,e]
    ·exact .inr ⟨k,c,e,z.sameBut hs (cne y c e)⟩
  ·obtain ⟨w',z⟩:=I.cell y c e
   exact ⟨w',z.sameBut hs (cne y c e)⟩
  ·obtain ⟨e,n,ne,nf,d⟩:=I.pin p hp
   exact ⟨(hs.2 p.1 ne).trans e,n,ne,nf,d⟩
 ·have hfn:X.fn x=true:=by
   rcases hf with z | z
   ·exact z
   ·rw [z] at hk; cases hk
  obtain ⟨c,hc⟩:=I.ok.has x (.inl hk)
  obtain ⟨w',z⟩:=I.cell x c hc
  refine wpAny_storeName_cell I.ok.kind hk hc z (λ h' hc' hs=>?_)
  obtain ⟨oc,hoc,hocd⟩:=id z
  refine h { s with heap:=h' } ⟨I.ok,I.os,I.bare,⟨λ b o e n hb hx=>?_,λ b o e n hb hx=>?_,I.base.free,λ b o e hx=>?_,I.base.tups,I.base.frzs,I.base.tbls⟩,⟨m,hn.sameBut hs (DN (cne x c hc)),λ j y v' e1 e2 e3=>?_⟩,λ y c' e=>?_,I.free,I.freeC,λ p hp=>?_,tracked ⟨oc,hoc,I.freeC x c hc⟩ hs,by simpa using I.len⟩ ⟨c,hs,.inr hc⟩
  ·exact (hs.2 b (B0 (B5 (BJ e) (I.ok.cab x c hfn hc)))).trans (I.base.keep b o e n hb hx)
  ·obtain ⟨sl,e1⟩:=I.base.slot b o e n hb hx
   exact ⟨sl,(hs.2 b (B0 (B5 (BJ e) (I.ok.cab x c hfn hc)))).trans e1⟩
  ·obtain ⟨o',e1⟩:=I.base.there b o e hx
   exact ⟨o',(hs.2 b (B0 (B5 (BJ e) (I.ok.cab x c hfn hc)))).trans e1⟩
  ·by_cases hj:j=i
   ·subst hj
    rw [hi] at e1; cases e1
    rw [Hc hiσ] at e2
    cases e2
    exact ⟨u,r,.inr ⟨.inl hk,c,hc,hc'⟩⟩
   ·rw [Hy (DN hj)] at e2
    obtain ⟨u',r',q⟩:=hl j y v' e1 e2 e3
    refine ⟨u',r',?_⟩
    rcases q with q | ⟨k,c',e,z'⟩
    ·exact .inl q
    ·refine .inr ⟨k,c',e,z'.sameBut hs ?_⟩
     rintro rfl
     exact hj (lj hN e1 (I.ok.inj _ _ _ e hc▸hi))
  ·by_cases hcc:c'=c
   ·subst hcc; exact ⟨_,hc'⟩
   ·obtain ⟨w2,z2⟩:=I.cell y c' e
    exact ⟨w2,z2.sameBut hs hcc⟩
  ·obtain ⟨e,n,ne,nf,d⟩:=I.pin p hp
   refine ⟨(hs.2 p.1 ?_).trans e,n,ne,nf,d⟩
   intro q
   rw [q,hoc] at e
   have q':oc=p.2:=CG e
   exact d w' (by rw [<-q']; exact hocd)
theorem dH {M:Model} {A:Around} {E:Value->Shared->Prop} {i:Nat} {x:Str} {v:V} {u:Value} {Q:Unit->Shared->Prop} (I:Inv X pins σ H s) (hN:X.N.Nodup) (hi:X.N[i]? = some x) (hx:Loc X.env.scope x) (r:RelV v u)
  (h:∀ s',Inv X pins (σ.set i (some v)) H s'->Q () s') (hf:X.fn x=true\/X.env.scope.names.lookup x=some .local:=by first | exact .inl rfl | exact .inr rfl | assumption):wpAny M A (storeName X.env x u) Q E s:=
 nj I hN hi hx r (λ s' I' _=>h s' I') hf
theorem Inv.call' {s':Shared} {ch:List Addr} (I:Inv X pins σ H s) (ho:s'.os=s.os) (u:Un (frs X.stack) ch H H' s.heap s'.heap) (hok:HOk X.prog X.w H' s'.heap) (hg:AllBare s'.gens)
  (hch:∀ b∈ch,(b∈X.ex\/X.s₀.heap.objs.size<=b)/\b≠X.env.locals/\(∀ x c,X.env.cells.lookup x=some c->c≠b)/\∀ p∈X.pn++pins,p.1≠b):Inv X pins σ H' s':=by
 obtain ⟨h',g',d',t',o'⟩:=s'
 have e:o'=s.os:=ho
 subst e
 exact I.call (g':=g') (t':=t') (d':=d') u hok hg hch
end
noncomputable abbrev XK:=Value->Option Addr->Hp->Prop
noncomputable abbrev St:=List (Option V)
noncomputable abbrev VK:=V->Hp->Prop
noncomputable abbrev TE:=St->Hp->VK->Prop
noncomputable abbrev TT:=St->Hp->(Bool->Hp->Prop)->Prop
noncomputable abbrev TA:=St->Hp->(List V->Hp->Prop)->Prop
structure Ends where
 nx:St->Hp->Prop
 rt:VK
 bk:St->Hp->Prop:=λ _ _=>False
 ct:St->Hp->Prop:=λ _ _=>False
noncomputable abbrev TS:=Ends->St->Hp->Prop
noncomputable def EP (X:Cx) (pins:List (Addr×Obj)) (σ:St) (Q:VK) (u:Value) (s':Shared):Prop:=∃ v H',Inv X pins σ H' s'/\RelV v u/\Q v H'
noncomputable def TP (X:Cx) (pins:List (Addr×Obj)) (σ:St) (Q:Bool->Hp->Prop) (b:Bool) (s':Shared):Prop:=∃ H',Inv X pins σ H' s'/\Q b H'
noncomputable def AP (X:Cx) (pins:List (Addr×Obj)) (σ:St) (Q:List V->Hp->Prop) (us:List Value) (s':Shared):Prop:=∃ vs H',Inv X pins σ H' s'/\Vals vs us/\Q vs H'
noncomputable def SP (X:Cx) (pins:List (Addr×Obj)) (D:Ends) (f:Flow) (s':Shared):Prop:=
 match f with
 | .next=>∃ σ' H',Inv X pins σ' H' s'/\D.nx σ' H'
 | .brk=>∃ σ' H',Inv X pins σ' H' s'/\D.bk σ' H'
 | .cont=>∃ σ' H',Inv X pins σ' H' s'/\D.ct σ' H'
 | .ret u=>∃ v σ' H',Inv X pins σ' H' s'/\RelV v u/\D.rt v H'
noncomputable def PE (X:Cx) (e:Expr) (t:TE):Prop:=
 ∀ (pins:List (Addr×Obj)) (s:Shared) (σ:St) (H:Hp) (Q:VK),Inv X pins σ H s->t σ H Q->wpAny (model X.prog X.w) X.A (eval e X.env) (EP X pins σ Q) X.xe s
noncomputable def PT (X:Cx) (e:Expr) (t:TT):Prop:=
 ∀ (pins:List (Addr×Obj)) (s:Shared) (σ:St) (H:Hp) (Q:Bool->Hp->Prop),Inv X pins σ H s->t σ H Q->wpAny (model X.prog X.w) X.A (isTrue e X.env (eval e X.env)) (TP X pins σ Q) X.xe s
noncomputable def PW (X:Cx) (e:Expr) (t:TT):Prop:=
 ∀ (whole:Sem Value) (pins:List (Addr×Obj)) (s:Shared) (σ:St) (H:Hp) (Q:Bool->Hp->Prop),Inv X pins σ H s->t σ H Q->wpAny (model X.prog X.w) X.A (isTrue e X.env whole) (TP X pins σ Q) X.xe s
theorem PW.pt {X:Cx} {e:Expr} {t:TT} (h:PW X e t):PT X e t:=h _
noncomputable def PA (X:Cx) (es:List Expr) (t:TA):Prop:=
 ∀ (pos:Pos) (pins:List (Addr×Obj)) (s:Shared) (σ:St) (H:Hp) (Q:List V->Hp->Prop),Inv X pins σ H s->t σ H Q->wpAny (model X.prog X.w) X.A (spliced (backTo pos (starEach es X.env))) (AP X pins σ Q) X.xe s
noncomputable def PS (X:Cx) (st:Stmt) (t:TS):Prop:=
 ∀ (pins:List (Addr×Obj)) (s:Shared) (σ:St) (H:Hp) (D:Ends),Inv X pins σ H s->t D σ H->wpAny (model X.prog X.w) X.A (exec st X.env) (SP X pins D) X.xe s
noncomputable def PSs (X:Cx) (st:List Stmt) (t:TS):Prop:=
 ∀ (pins:List (Addr×Obj)) (s:Shared) (σ:St) (H:Hp) (D:Ends),Inv X pins σ H s->t D σ H->wpAny (model X.prog X.w) X.A (execs st X.env) (SP X pins D) X.xe s
theorem thn {α:Type} {t:Sem α} {Q Q':α->Shared->Prop} {M:Model} {A:Around} {E:Value->Shared->Prop} {s:Shared} (h:wpAny M A t Q E s) (hQ:∀ a s,Q a s->Q' a s):wpAny M A t Q' E s:=wpAny_mono h hQ λ _ _ x=>x
section
variable {X:Cx}
theorem bin {a b:Expr} {ta tb:TE} (ha:PE X a ta) (hb:PE X b tb) {pins:List (Addr×Obj)} {s:Shared} {σ:St} {H:Hp} {R:V->V->Hp->Prop} (I:Inv X pins σ H s) (h:ta σ H λ x H1=>tb σ H1 λ y H2=>R x y H2)
  {α:Type} {Q:α->Shared->Prop} {f:Value->Value->Sem α}
  (hf:∀ v u s2 x y H2,Inv X pins σ H2 s2->RelV x v->RelV y u->R x y H2->wpAny (model X.prog X.w) X.A (f v u) Q X.xe s2) :
  wpAny (model X.prog X.w) X.A (eval a X.env) (λ v s₁=>wpAny (model X.prog X.w) X.A (eval b X.env) (λ u s₂=>wpAny (model X.prog X.w) X.A (f v u) Q X.xe s₂) X.xe s₁) X.xe s:=by
 refine thn (ha pins s σ H _ I h) λ v s1 ⟨x,H1,I1,r1,q1⟩=>?_
 refine thn (hb pins s1 σ H1 _ I1 q1) λ u s2 ⟨y,H2,I2,r2,q2⟩=>?_
 exact hf v u s2 x y H2 I2 r1 r2 q2
noncomputable def yO (i:Nat):TE:=λ σ H Q=>∃ v,σ[i]? = some (some v)/\Q v H
noncomputable def tC (v:V):TE:=λ _ H Q=>Q v H
theorem wn {i:Nat} {x:Str} {pos:Pos} (hN:X.N[i]? = some x) (hv:Vis X.env.scope x) (hd:(x == ("__debug__" : Str))=false:=by decide) (hcd:(x == ("__classdict__" : Str))=false:=by decide):PE X (.Name x pos) (yO i):=by
 intro pins s σ H Q I h
 obtain ⟨v,e,h⟩:=h
 obtain ⟨m,hn,hl⟩:=I.loc
 obtain ⟨u,r,l⟩:=hl i x v hN e hv
 have fin:EP X pins σ Q u s:=⟨v,H,I,r,h⟩
 rcases l with ⟨hk,hm⟩ | ⟨hk,c,hc,hcell⟩
 ·exact wpAny_Name (wpAny_loadName_local I.ok.kind hk hn hm fin) hd
 ·rcases hk with hk | hk
  ·exact wpAny_Name (wpAny_loadName_cell I.ok.kind hk hc hcell fin) hd
  ·exact wpAny_Name (wpAny_loadName_free I.ok.kind hk hc hcell fin hcd) hd
theorem sj {i j pos}:PE X (.Constant (.int i) j pos) (tC (.int i)):=λ _ _ _ H _ I h=>wpAny_Constant_int ⟨.int i,H,I.tok _,⟨_,rfl⟩,h⟩
theorem yP {b j pos}:PE X (.Constant (.bool b) j pos) (tC (.bl b)):=λ _ _ _ H _ I h=>Constant_bool ⟨.bl b,H,I,rfl,h⟩
theorem wo {j pos}:PE X (.Constant .none j pos) (tC .non):=λ _ _ _ H _ I h=>Constant_none ⟨.non,H,I,rfl,h⟩
noncomputable def Gl (X:Cx) (x:Str):Prop:=X.env.kindOf x=some .globalImplicit
theorem tQ {E:Value->Shared->Prop} {pins:List (Addr×Obj)} {s:Shared} {σ:St} {H:Hp} {x:Str} {u:Value} {pos:Pos} {Q:Value->Shared->Prop} (I:Inv X pins σ H s) (hg:Gl X x) (hm:X.mg x=some u) (h:Q u s)
  (hd:(x == ("__debug__" : Str))=false:=by decide):wpAny (model X.prog X.w) X.A (eval (.Name x pos) X.env) Q E s:=
 Gp I.ok.kind hg (Calls.loadGlobal_global (by rw [I.ok.glob]; exact I.mod.glob.keeps I.bk) hm h) hd
theorem dv {E:Value->Shared->Prop} {pins:List (Addr×Obj)} {s:Shared} {σ:St} {H:Hp} {x:Str} {u:Value} {pos:Pos} {Q:Value->Shared->Prop} (I:Inv X pins σ H s) (hg:Gl X x) (hm:X.mg x=none) (hv:bootBuiltins x=some u) (h:Q u s)
  (hn:x≠"__name__":=by decide) (hd:(x == ("__debug__" : Str))=false:=by decide):wpAny (model X.prog X.w) X.A (eval (.Name x pos) X.env) Q E s:=by
 obtain ⟨mb,h1,h2⟩:=I.mod.blt
 exact Gp I.ok.kind hg (Calls.loadGlobal_builtin (by rw [I.ok.glob]; exact I.mod.glob.keeps I.bk) hm (by rw [I.ok.blt]; exact h1.keeps I.bk) ((h2 x hn).trans hv) h) hd
theorem tR {x:Str} {v:V} {u:Value} {pos:Pos} (hg:Gl X x) (hm:X.mg x=none) (hv:bootBuiltins x=some u) (r:RelV v u) (hn:x≠"__name__":=by decide) (hd:(x == ("__debug__" : Str))=false:=by decide):PE X (.Name x pos) (tC v):=
 λ _ _ _ H _ I h=>dv I hg hm hv ⟨v,H,I,r,h⟩ hn hd
variable {a b:Expr} {ta tb:TE} {pos:Pos}
noncomputable def tB (t:TE):TT:=λ σ H Q=>t σ H λ x H1=>∃ c,x=.bl c/\Q c H1
theorem wp {e:Expr} {t:TE} (h:PE X e t) (he:∀ whole,isTrue e X.env whole=(do let v <-whole; standAt e.pos; holding [v] (truthy v)):=by intro _; rfl):PT X e (tB t):=by
 intro pins s σ H Q I hw
 refine isTrue_plain (thn (h pins s σ H _ I hw) λ v s1 ⟨x,H1,I1,r1,q1⟩=>?_) (he _)
 obtain ⟨d,rfl,q⟩:=q1
 cases r1
 exact wpAny_truthy_bool ⟨H1,I1,q⟩
variable {tA tB':TT} {rest:List Expr}
noncomputable def yQ (t u:TT):TT:=λ σ H Q=>t σ H λ c H1=>if c=true then u σ H1 Q else Q false H1
noncomputable def tOr (t u:TT):TT:=λ σ H Q=>t σ H λ c H1=>if c=true then Q true H1 else u σ H1 Q
noncomputable def yR (t:TT):TT:=λ σ H Q=>t σ H λ c H1=>Q (!c) H1
theorem tT (ha:PT X a tA):PW X (.BoolOp .And [a] pos) tA:=by
 intro wh pins s σ H Q I h
 refine isTrue_and (thn (ha pins s σ H Q I h) λ c s1 e=>?_)
 cases c with
 | true=>exact isTrue_and_nil e
 | false=>exact e
theorem wq (ha:PT X a tA):PW X (.BoolOp .Or [a] pos) tA:=by
 intro wh pins s σ H Q I h
 refine isTrue_or (thn (ha pins s σ H Q I h) λ c s1 e=>?_)
 cases c with
 | false=>exact isTrue_or_nil e
 | true=>exact e
theorem wt (ha:PT X a tA) (hb:PW X (.BoolOp .And (b::rest) pos) tB'):PW X (.BoolOp .And (a::b::rest) pos) (yQ tA tB'):=by
 intro wh pins s σ H Q I h
 refine isTrue_and (thn (ha pins s σ H _ I h) λ c s1 ⟨H1,I1,q1⟩=>?_)
 cases c with
 | true=>exact hb wh pins s1 σ H1 Q I1 q1
 | false=>exact ⟨H1,I1,q1⟩
theorem yS (ha:PT X a tA) (hb:PW X (.BoolOp .Or (b::rest) pos) tB'):PW X (.BoolOp .Or (a::b::rest) pos) (tOr tA tB'):=by
 intro wh pins s σ H Q I h
 refine isTrue_or (thn (ha pins s σ H _ I h) λ c s1 ⟨H1,I1,q1⟩=>?_)
 cases c with
 | true=>exact ⟨H1,I1,q1⟩
 | false=>exact hb wh pins s1 σ H1 Q I1 q1
theorem wu (ha:PT X a tA):PT X (.UnaryOp .Not a pos) (yR tA):=by
 intro pins s σ H Q I h
 exact isTrue_not (ha pins s σ H (λ c H1=>Q (!c) H1) I h)
noncomputable def tU (ta tb:TE):TE:=λ σ H Q=>ta σ H λ x H1=>∃ c,x=.bl c/\if c=true then tb σ H1 Q else Q (.bl false) H1
noncomputable def tV (ta:TE):TE:=λ σ H Q=>ta σ H λ x H1=>∃ c,x=.bl c/\Q (.bl (!c)) H1
theorem wv {op} {t:TE} (h:PE X a t):PE X (.BoolOp op [a] pos) t:=λ pins s σ H Q I hw=>BoolOp_one (h pins s σ H Q I hw)
theorem ww (ha:PE X a ta) (hb:PE X (.BoolOp .And (b::rest) pos) tb):PE X (.BoolOp .And (a::b::rest) pos) (tU ta tb):=by
 intro pins s σ H Q I h
 refine BoolOp_and (thn (ha pins s σ H _ I h) λ v s1 ⟨x,H1,I1,r1,q1⟩=>?_)
 obtain ⟨c,rfl,q1⟩:=q1
 cases r1
 refine wpAny_truthy_bool ?_
 cases c with
 | true=>exact hb pins s1 σ H1 Q I1 q1
 | false=>exact ⟨.bl false,H1,I1,rfl,q1⟩
theorem wx (ha:PE X a ta):PE X (.UnaryOp .Not a pos) (tV ta):=by
 intro pins s σ H Q I h
 refine UnaryOp_ (thn (ha pins s σ H _ I h) λ v s1 ⟨x,H1,I1,r1,q1⟩=>?_)
 obtain ⟨c,rfl,q1⟩:=q1
 cases r1
 exact not_of (wpAny_truthy_bool ⟨.bl (!c),H1,I1,rfl,q1⟩)
end
noncomputable def SqL (K:BA) (H:Hp) (a:Addr) (xs:List V):Prop:=
 Rd H a (.lst xs)\/
  ∃ (o:Obj) (its:Array Value) (n:Nat),K.lookup a=some o/\o.cls=.type "list"/\o.dict=none/\o.data=.seq its n/\its.size<=sizeLine/\Vals xs its.toList
noncomputable def SqT (K:BA) (H:Hp) (a:Addr) (xs:List V):Prop:=
 Rd H a (.tup xs)\/
  ∃ (o:Obj) (its:Array Value) (n:Nat),K.lookup a=some o/\o.cls=.type "tuple"/\o.data=.seq its n/\its.size<=sizeLine/\Vals xs its.toList
noncomputable def AY:Value->Option V
 | .none=>some .non
 | .bool b=>some (.bl b)
 | .int i _=>some (.int i)
 | .str x _=>some (.str x)
 | .bytes b _=>some (.byt b)
 | .float b _=>some (.flt b)
 | .ref a=>some (.ref a)
 | .type n=>some (.ty n)
 | _=>none
theorem RelV.abs {x:V} {u:Value} (r:RelV x u):AY u=some x:=by
 cases x with
 | non=>cases r; rfl
 | bl _=>cases r; rfl
 | int _=>obtain ⟨t,rfl⟩:=r; rfl
 | str _=>obtain ⟨t,rfl⟩:=r; rfl
 | byt _=>obtain ⟨t,rfl⟩:=r; rfl
 | flt _=>obtain ⟨t,rfl⟩:=r; rfl
 | ref _=>cases r; rfl
 | ty _=>cases r; rfl
theorem RelV.inj {x y:V} {u:Value} (r:RelV x u) (q:RelV y u):x=y:=CG (r.abs.symm.trans q.abs)
theorem Vals.inj:∀ {xs ys:List V} {us:List Value},Vals xs us->Vals ys us->xs=ys
 | _,_,_,.nil,.nil=>rfl
 | _,_,_,.cons r t,.cons r' t'=>by rw [r.inj r',Vals.inj t t']
section
variable {X:Cx} {pins:List (Addr×Obj)} {σ:St} {H:Hp} {s:Shared} {a:Addr} {xs ys:List V}
theorem SqL.of {K:BA} (h:H a=some (.lst xs)):SqL K H a xs:=.inl (.inl h)
theorem SqT.of {K:BA} (h:H a=some (.tup xs)):SqT K H a xs:=.inl (.inl h)
theorem Inv.list (I:Inv X pins σ H s) (h:SqL X.K H a xs):∃ its:List Value,Vals xs its/\PlainL s.heap a its.toArray/\xs.length<=sizeLine:=by
 rcases h with h | ⟨o,its,n,hk,hc,hd,hs,hz,r⟩
 ·obtain ⟨z,its,n,r,e⟩:=h.ok I.hok
  exact ⟨its,r,⟨_,n,e,rfl,rfl,rfl⟩,z⟩
 ·refine ⟨its.toList,r,⟨o,n,I.kIn a o hk,hc,hd,by simpa using hs⟩,?_⟩
  have e:=r.length
  simp only [BP] at e
  lia
theorem Inv.tuple (I:Inv X pins σ H s) (h:SqT X.K H a xs):∃ its:List Value,Vals xs its/\IsTup s.heap a its.toArray/\xs.length<=sizeLine:=by
 rcases h with h | ⟨o,its,n,hk,hc,hs,hz,r⟩
 ·obtain ⟨z,its,r,p⟩:=h.ok I.hok
  exact ⟨its,r,p,z⟩
 ·refine ⟨its.toList,r,⟨o,I.kIn a o hk,hc,n,by simpa using hs⟩,?_⟩
  have e:=r.length
  simp only [BP] at e
  lia
theorem Inv.list_inj (I:Inv X pins σ H s) (h:SqL X.K H a xs) (h':SqL X.K H a ys):xs=ys:=by
 obtain ⟨its,r,⟨o,n,e,_,_,d⟩,_⟩:=I.list h
 obtain ⟨its',r',⟨o',n',e',_,_,d'⟩,_⟩:=I.list h'
 rw [e] at e'; cases e'
 rw [d] at d'
 injection d' with d1 _
 have:its=its':=by simpa using congrArg Kg d1
 subst this
 exact r.inj r'
theorem Inv.tuple_inj (I:Inv X pins σ H s) (h:SqT X.K H a xs) (h':SqT X.K H a ys):xs=ys:=by
 obtain ⟨its,r,⟨o,e,_,n,d⟩,_⟩:=I.tuple h
 obtain ⟨its',r',⟨o',e',_,n',d'⟩,_⟩:=I.tuple h'
 rw [e] at e'; cases e'
 rw [d] at d'
 injection d' with d1 _
 have:its=its':=by simpa using congrArg Kg d1
 subst this
 exact r.inj r'
end
noncomputable abbrev Cx.wish (X:Cx) (E:Value->Shared->Prop):Cx:={ X with xe:=E }
noncomputable abbrev Cx.nox (X:Cx):Cx:=X.wish λ _ _=>False
theorem Cx.Ok.wish {X:Cx} (ok:X.Ok) (E:Value->Shared->Prop):(X.wish E).Ok:=
 ⟨ok.mod,ok.kind,ok.glob,ok.blt,ok.above,ok.inj,ok.has,ok.cab,ok.hd,ok.frames,ok.stk,ok.exf,ok.bs,ok.bsz,ok.noex,ok.exfs,ok.funs,ok.frf⟩
theorem Cx.Ok.unwish {X:Cx} {E:Value->Shared->Prop} (ok:(X.wish E).Ok):X.Ok:=
 ⟨ok.mod,ok.kind,ok.glob,ok.blt,ok.above,ok.inj,ok.has,ok.cab,ok.hd,ok.frames,ok.stk,ok.exf,ok.bs,ok.bsz,ok.noex,ok.exfs,ok.funs,ok.frf⟩
section
variable {X:Cx} {pins:List (Addr×Obj)} {σ:St} {H:Hp} {s:Shared} {E:Value->Shared->Prop}
theorem Inv.wish (I:Inv X pins σ H s) (E:Value->Shared->Prop):Inv (X.wish E) pins σ H s:=⟨I.ok.wish E,I.os,I.bare,I.base,I.loc,I.cell,I.free,I.freeC,I.pin,I.hok,I.len⟩
theorem Inv.unwish (I:Inv (X.wish E) pins σ H s):Inv X pins σ H s:=⟨I.ok.unwish,I.os,I.bare,I.base,I.loc,I.cell,I.free,I.freeC,I.pin,I.hok,I.len⟩
theorem SP.unwish {D:Ends} {f:Flow} {s':Shared} (h:SP (X.wish E) pins D f s'):SP X pins D f s':=by
 cases f with
 | next=>obtain ⟨σ',H',I,q⟩:=h; exact ⟨σ',H',I.unwish,q⟩
 | brk=>obtain ⟨σ',H',I,q⟩:=h; exact ⟨σ',H',I.unwish,q⟩
 | cont=>obtain ⟨σ',H',I,q⟩:=h; exact ⟨σ',H',I.unwish,q⟩
 | ret u=>obtain ⟨v,σ',H',I,r,q⟩:=h; exact ⟨v,σ',H',I.unwish,r,q⟩
theorem PSs.nox {st:List Stmt} {t:TS} (h:PSs X.nox st t):PSs X st t:=λ pins s σ H D I hw=>
 wpAny_mono (h pins s σ H D (I.wish _) hw) (λ _ _ q=>q.unwish) λ _ _ z=>Ec z
end
section
variable {X:Cx} {st:Stmt} {rest:List Stmt} {t u:TS} {e:Expr} {te:TE} {pos:Pos}
noncomputable def tW:TS:=λ D σ H=>D.nx σ H
noncomputable def yT (t u:TS):TS:=λ D σ H=>t { D with nx:=u D } σ H
theorem tX:PSs X [] tW:=λ _ _ σ H _ I h=>wpAny_execs_nil ⟨σ,H,I,h⟩
theorem qq (h1:PS X st t) (h2:PSs X rest u):PSs X (st::rest) (yT t u):=by
 intro pins s σ H D I h
 refine wpAny_execs_cons (thn (h1 pins s σ H { D with nx:=u D } I h) λ f s1 q=>?_)
 cases f with
 | next=>
  obtain ⟨σ',H',I',q⟩:=q
  exact h2 pins s1 σ' H' D I' q
 | ret v=>exact q
 | brk=>exact q
 | cont=>exact q
theorem tY (h1:PS X st t):PSs X [st] t:=by
 intro pins s σ H D I h
 refine wpAny_execs_cons (thn (h1 pins s σ H D I h) λ f s1 q=>?_)
 cases f with
 | next=>exact wpAny_execs_nil q
 | ret v=>exact q
 | brk=>exact q
 | cont=>exact q
noncomputable def t4:TS:=λ D σ H=>D.ct σ H
theorem ko:PS X (.Continue pos) t4:=λ _ _ σ H _ I h=>wpAny_Continue ⟨σ,H,I,h⟩
theorem Inv.quiet {pins:List (Addr×Obj)} {σ:St} {H:Hp} {s:Shared} (I:Inv X pins σ H s):interactive X.env=false:=by simp [interactive,I.ok.kind]
noncomputable def t5 (te:TE):TS:=λ D σ H=>te σ H λ _ H1=>D.nx σ H1
theorem t6 (he:PE X e te) (hs:swapsWith e none pos.line X.env=pure false:=by rfl):PS X (.Expr e pos) (t5 te):=by
 intro pins s σ H D I h
 exact wpAny_Expr_any (thn (he pins s σ H _ I h) λ v s1 ⟨x,H1,I1,r1,q1⟩=>⟨σ,H1,I1,q1⟩) I.quiet hs
noncomputable def yU (te:TE):TS:=λ D σ H=>te σ H D.rt
theorem wy (he:PE X e te):PS X (.Return (some e) pos) (yU te):=by
 intro pins s σ H D I h
 exact wpAny_Return_some (thn (he pins s σ H _ I h) λ v s1 ⟨x,H1,I1,r1,q1⟩=>⟨x,σ,H1,I1,r1,q1⟩)
noncomputable def yV (c:TT) (t u:TS):TS:=λ D σ H=>c σ H λ b H1=>if b=true then t D σ H1 else u D σ H1
theorem yW {c:Expr} {a b:List Stmt} {tc:TT} (hc:PT X c tc) (ha:PSs X a t) (hb:PSs X b u):PS X (.If c a b pos) (yV tc t u):=by
 intro pins s σ H D I h
 refine wpAny_If (thn (hc pins s σ H _ I h) λ d s1 ⟨H1,I1,q1⟩=>?_)
 cases d with
 | true=>exact ha pins s1 σ H1 D I1 q1
 | false=>exact hb pins s1 σ H1 D I1 q1
noncomputable def sk:TS:=λ _ _ _=>False
theorem qr:PS X st sk:=λ _ _ _ _ _ _ h=>h.elim
end
noncomputable abbrev TG:=V->St->Hp->(St->Hp->Prop)->Prop
noncomputable abbrev TGs:=List V->St->Hp->(St->Hp->Prop)->Prop
noncomputable def PG (X:Cx) (target:Expr) (t:TG):Prop:=
 ∀ (pins:List (Addr×Obj)) (s:Shared) (σ:St) (H:Hp) (v:V) (u:Value) (Q:St->Hp->Prop),Inv X pins σ H s->RelV v u->t v σ H Q->
  wpAny (model X.prog X.w) X.A (assign target X.env u) (λ _ s'=>∃ σ' H',Inv X pins σ' H' s'/\Q σ' H') X.xe s
noncomputable def PGs (X:Cx) (ts:List Expr) (t:TGs):Prop:=
 ∀ (pins:List (Addr×Obj)) (s:Shared) (σ:St) (H:Hp) (vs:List V) (us:List Value) (Q:St->Hp->Prop),Inv X pins σ H s->Vals vs us->t vs σ H Q->
  wpAny (model X.prog X.w) X.A (assignInOrder ((assignEach ts X.env).map (·.2)) us) (λ _ s'=>∃ σ' H',Inv X pins σ' H' s'/\Q σ' H') X.xe s
noncomputable abbrev t7:=V->V->V->Hp->(Hp->Prop)->Prop
noncomputable def yX (X:Cx) (t:t7):Prop:=
 ∀ (pins:List (Addr×Obj)) (s:Shared) (σ:St) (H:Hp) (o i v:V) (ov iv u:Value) (Q:Hp->Prop),Inv X pins σ H s->RelV o ov->RelV i iv->RelV v u->t o i v H Q->
  wpAny (model X.prog X.w) X.A (setItem ov iv u) (λ _ s'=>∃ H',Inv X pins σ H' s'/\Q H') X.xe s
noncomputable abbrev TIp:=V->V->Hp->VK->Prop
noncomputable def PIp (X:Cx) (op:Operator) (t:TIp):Prop:=
 ∀ (pins:List (Addr×Obj)) (s:Shared) (σ:St) (H:Hp) (x y:V) (v u:Value) (Q:VK),Inv X pins σ H s->RelV x v->RelV y u->t x y H Q->
  wpAny (model X.prog X.w) X.A (inplaceOp op v u) (EP X pins σ Q) X.xe s
section
variable {X:Cx} {pos:Pos}
noncomputable def eC (i:Nat):TG:=λ v σ H Q=>Q (σ.set i (some v)) H
theorem ua {i:Nat} {x:Str} (hN:X.N.Nodup) (hi:X.N[i]? = some x) (hx:Loc X.env.scope x) (hf:X.fn x=true\/X.env.scope.names.lookup x=some .local:=by first | exact .inl rfl | exact .inr rfl | assumption):PG X (.Name x pos) (eC i):=by
 intro pins s σ H v u Q I r h
 exact wpAny_assign_Name (dH I hN hi hx r (λ s' I'=>⟨_,H,I',h⟩) hf)
noncomputable def wz:TGs:=λ vs σ H Q=>vs=[]/\Q σ H
noncomputable def iF (t:TG) (u:TGs):TGs:=λ vs σ H Q=>∃ v r,vs=v::r/\t v σ H λ σ' H'=>u r σ' H' Q
theorem ub:PGs X [] wz:=by
 intro pins s σ H vs us Q I r h
 obtain ⟨e,h⟩:=h
 subst e
 cases r
 exact assignInOrder_nil ⟨σ,H,I,h⟩
theorem qu {e:Expr} {es:List Expr} {t:TG} {u:TGs} (h1:PG X e t) (h2:PGs X es u)
  (hs:(assignEach (e::es) X.env).map (·.2)=assign e X.env::(assignEach es X.env).map (·.2):=by rfl):PGs X (e::es) (iF t u):=by
 intro pins s σ H vs us Q I r h
 obtain ⟨v,vr,e1,h⟩:=h
 subst e1
 cases r with
 | cons r rr=>
  rw [hs]
  refine assignInOrder_cons (thn (h1 pins s σ H _ _ _ I r h) λ _ s1 ⟨σ1,H1,I1,q1⟩=>?_)
  exact h2 pins s1 σ1 H1 _ _ Q I1 rr q1
noncomputable def yx (K:BA) (n:Nat) (t:TGs):TG:=λ v σ H Q=>∃ a xs,v=.ref a/\SqT K H a xs/\xs.length=n/\t xs σ H Q
theorem wA {es:List Expr} {k:Nat} {t:TGs} {n:Nat} (hc:X.calm=true) (h:PGs X es t)
  (hn:(assignEach es X.env).length=n:=by rfl) (hst:(assignEach es X.env).findIdx? (·.1)=none:=by rfl):PG X (.Tuple es k pos) (yx X.K n t):=by
 intro pins s σ H v u Q I r hw
 obtain ⟨a,xs,e1,hq,hl,hw⟩:=hw
 subst e1
 cases r
 obtain ⟨its,rv,ht,hz⟩:=I.tuple hq
 refine assign_Tuple_tuple (I.ok.hd hc) ht (by simp [hn,<-hl,rv.length]) hst λ h' hx=>?_
 have I1:Inv X pins σ H { s with heap:=h' }:=I.kept (t':=s.toks) λ b o e=>hx b o (B0 (BJ e)) e
 exact h pins _ σ H xs _ Q I1 (by simpa using rv) hw
noncomputable def yY (to ti:TE) (t:t7):TG:=λ v σ H Q=>to σ H λ o H1=>ti σ H1 λ i H2=>t o i v H2 λ H3=>Q σ H3
theorem wB {o i:Expr} {to ti:TE} {t:t7} (ho:PE X o to) (hi:PE X i ti) (hs:yX X t)
  (ha:∀ v,assign (.Subscript o i pos) X.env v=(do
   let ov <-holding [v] (eval o X.env)
   let iv <-holding [v,ov] (eval i X.env)
   standAt pos
   holding [v,ov,iv] (setItem ov iv v)
   release [v,ov,iv] []):=by intro _; rfl):PG X (.Subscript o i pos) (yY to ti t):=by
 intro pins s σ H v u Q I r h
 rw [ha]
 refine wpAny_bind (wpAny_holding (thn (ho pins s σ H _ I h) λ ov s1 ⟨x,H1,I1,r1,q1⟩=>?_))
 refine wpAny_bind (wpAny_holding (thn (hi pins s1 σ H1 _ I1 q1) λ iv s2 ⟨y,H2,I2,r2,q2⟩=>?_))
 refine wpAny_bind (wpAny_standAt (wpAny_bind (wpAny_holding (thn (hs pins s2 σ H2 x y v ov iv u _ I2 r1 r2 r q2) λ _ s3 ⟨H3,I3,q3⟩=>?_))))
 exact wpAny_release ⟨σ,H3,I3,q3⟩
noncomputable def qw (te:TE) (g:TG):TS:=λ D σ H=>te σ H λ x H1=>g x σ H1 D.nx
theorem nk {tg e:Expr} {te:TE} {g:TG} (he:PE X e te) (hg:PG X tg g) (hs:swapsWithSole [tg] e pos.line X.env=pure false:=by rfl) (hw:swappedStores [tg] e X.env=pure none:=by rfl)
  (h1:(assignEach [tg] X.env).map (·.2)=[assign tg X.env]:=by rfl):PS X (.Assign [tg] e pos) (qw te g):=by
 intro pins s σ H D I h
 refine wpAny_Assign_stores (thn (he pins s σ H _ I h) λ v s1 ⟨x,H1,I1,r1,q1⟩=>?_) hs hw
 rw [h1]
 exact thn (hg pins s1 σ H1 x v _ I1 r1 q1) λ _ s2 q=>q
theorem wC {i:Nat} {x:Str} {e:Expr} {te:TE} {pos':Pos} (hN:X.N.Nodup) (hi:X.N[i]? = some x) (hx:Loc X.env.scope x) (he:PE X e te) (hs:swapsWith e (some (.Name x pos')) pos.line X.env=pure false:=by rfl) (hf:X.fn x=true\/X.env.scope.names.lookup x=some .local:=by first | exact .inl rfl | exact .inr rfl | assumption) :
  PS X (.Assign [.Name x pos'] e pos) (qw te (eC i)):=by
 intro pins s σ H D I h
 refine wpAny_Assign_Name (thn (he pins s σ H _ I h) λ v s1 ⟨y,H1,I1,r1,q1⟩=>?_) hs
 exact dH I1 hN hi hx r1 (λ s2 I2=>⟨_,H1,I2,q1⟩) hf
noncomputable def yZ (i j:Nat) (ta:TA):TS:=λ D σ H=>ta σ H λ vs H1=>∃ v w,vs=[v,w]/\D.nx ((σ.set i (some v)).set j (some w)) H1
theorem wD {i j:Nat} {x y:Str} {a b:Expr} {ta:TA} {px py pt:Pos} {kt k2 pt2} (hc:X.calm=true) (hN:X.N.Nodup) (hi:X.N[i]? = some x) (hj:X.N[j]? = some y) (hij:i≠j)
  (hx:X.env.scope.names.lookup x=some .local) (hy:X.env.scope.names.lookup y=some .local) (ha:PA X [a,b] ta)
  (hw:swappedStores [.Tuple [.Name x px,.Name y py] kt pt] (.Tuple [a,b] k2 pt2) X.env=pure (some [x,y]))
  (hs:swapsWithSole [.Tuple [.Name x px,.Name y py] kt pt] (.Tuple [a,b] k2 pt2) pos.line X.env=pure false:=by rfl) :
  PS X (.Assign [.Tuple [.Name x px,.Name y py] kt pt] (.Tuple [a,b] k2 pt2) pos) (yZ i j ta):=by
 intro pins s σ H D I h
 rw [exec_Assign_arm]
 refine wpAny_bind (wpAny_standAt ?_)
 rw [hs]
 refine wpAny_bind (wpAny_pure ?_)
 rw [if_neg (by decide)]
 refine wpAny_bind (Tuple_ (thn (ha _ pins s σ H _ I h) λ us s1 ⟨vs,H1,I1,r1,q1⟩=>?_))
 obtain ⟨v,w,e1,q1⟩:=q1
 subst e1
 obtain ⟨u1,u2,rfl,rv,rw'⟩:∃ u1 u2,us=[u1,u2]/\RelV v u1/\RelV w u2:=by
  cases r1 with
  | cons p q=>
   cases q with
   | cons p' q'=>
    cases q'
    exact ⟨_,_,rfl,p,p'⟩
 refine wpAny_newObj_type ?_ (by show 2<=sizeLine; decide)
 have I2:Inv X pins σ H1 { s1 with heap:=s1.heap.push { cls:=.type "tuple",data:=.seq [u1,u2].toArray } }:=I1.kept (t':=s1.toks) λ b o e=>BB _ e
 rw [hw]
 refine wpAny_bind (wpAny_pure ?_)
 show wpAny (model X.prog X.w) X.A (do rule "assign.swapped-stores"; let items <-unpackItems (.ref s1.heap.objs.size) 2 none; assignInOrder [λ v=>bindName X.env y v,λ v=>bindName X.env x v] items.reverse; pure K6) _ _ _
 refine wpAny_bind (wpAny_rule (wpAny_bind (unpackItems_tuple (items:=#[u1,u2]) (I.ok.hd hc) (Ih s1.heap _) λ h' hx'=>?_)))
 have I3:=I2.kept (h':=h') (t':=s1.toks) λ b o e=>hx' b o (B0 (BJ e)) e
 show wpAny _ _ (assignInOrder [λ v=>bindName X.env y v,λ v=>bindName X.env x v] [u2,u1] >>= λ _=>pure K6) _ _ _
 refine wpAny_bind (assignInOrder_cons (wpAny_bindName (dH I3 hN hj (.inl hy) rw' (λ s2 I4=>?_) (.inr hy))))
 refine assignInOrder_cons (wpAny_bindName (dH I4 hN hi (.inl hx) rv (λ s3 I5=>assignInOrder_nil (wpAny_pure ?_)) (.inr hx)))
 rw [List.set_comm _ _ (DN hij)] at I5
 exact ⟨_,H1,I5,q1⟩
noncomputable def y7 (i:Nat) (te:TE) (ti:TIp):TS:=λ D σ H=>∃ x,σ[i]? = some (some x)/\te σ H λ y H1=>ti x y H1 λ z H2=>D.nx (σ.set i (some z)) H2
theorem wE {i:Nat} {x:Str} {e:Expr} {te:TE} {op:Operator} {ti:TIp} {pos':Pos} (hN:X.N.Nodup) (hi:X.N[i]? = some x) (hx:Loc X.env.scope x) (he:PE X e te) (ho:PIp X op ti) (hf:X.fn x=true\/X.env.scope.names.lookup x=some .local:=by first | exact .inl rfl | exact .inr rfl | assumption) :
  PS X (.AugAssign (.Name x pos') op e pos) (y7 i te ti):=by
 intro pins s σ H D I h
 obtain ⟨v,e1,h⟩:=h
 obtain ⟨m,hn,hl⟩:=I.loc
 have vis:Vis X.env.scope x:=by rcases hx with k | k; exact .inl k; exact .inr (.inl k)
 obtain ⟨u,r,l⟩:=hl i x v hi e1 vis
 refine wpAny_AugAssign_Name ?_
 have go:wpAny (model X.prog X.w) X.A (eval e X.env) (λ w s₂=>wpAny (model X.prog X.w) X.A (inplaceOp op u w) (λ r s₃=>wpAny (model X.prog X.w) X.A (storeName X.env x r) (λ _=>SP X pins D .next) X.xe s₃) X.xe s₂) X.xe s:=by
  refine thn (he pins s σ H _ I h) λ w s1 ⟨y,H1,I1,r1,q1⟩=>?_
  refine thn (ho pins s1 σ H1 v y u w _ I1 r r1 q1) λ z s2 ⟨zv,H2,I2,r2,q2⟩=>?_
  exact dH I2 hN hi hx r2 (λ s3 I3=>⟨_,H2,I3,q2⟩) hf
 rcases l with ⟨hk,hm⟩ | ⟨hk,c,hc,hcell⟩
 ·exact wpAny_loadName_local I.ok.kind hk hn hm go
 ·rcases hk with hk | hk
  ·exact wpAny_loadName_cell I.ok.kind hk hc hcell go
  ·rcases hx with k | k
   ·have:X.env.scope.names.lookup x=some .free:=hk
    rw [k] at this; cases this
   ·have:X.env.scope.names.lookup x=some .free:=hk
    rw [k] at this; cases this
noncomputable def uc (to ti te:TE) (tget:V->V->Hp->VK->Prop) (tip:TIp) (tset:t7):TS:=λ D σ H=>to σ H λ o H1=>ti σ H1 λ i H2=>tget o i H2 λ x H3=>te σ H3 λ y H4=>tip x y H4 λ z H5=>tset o i z H5 λ H6=>D.nx σ H6
noncomputable def Ap (X:Cx) (t:V->V->Hp->VK->Prop):Prop:=
 ∀ (pins:List (Addr×Obj)) (s:Shared) (σ:St) (H:Hp) (o i:V) (ov iv:Value) (Q:VK),Inv X pins σ H s->RelV o ov->RelV i iv->t o i H Q->
  wpAny (model X.prog X.w) X.A (getItem ov iv) (EP X pins σ Q) X.xe s
theorem ud {o i e:Expr} {to ti te:TE} {tget:V->V->Hp->VK->Prop} {tip:TIp} {tset:t7} {op:Operator} {tpos:Pos} (ho:PE X o to) (hi:PE X i ti) (hg:Ap X tget) (he:PE X e te) (hp:PIp X op tip) (hs:yX X tset)
  (ha:∀ ov iv new,augStore i ov iv new=(do holding [new,ov,iv] (setItem ov iv new); release [new,ov,iv] []; pure .next):=by intros; rfl):PS X (.AugAssign (.Subscript o i tpos) op e pos) (uc to ti te tget tip tset):=by
 intro pins s σ H D I h
 refine wpAny_AugAssign_SubscriptAny (thn (ho pins s σ H _ I h) λ ov s1 ⟨x1,H1,I1,r1,q1⟩=>?_) ha
 refine thn (hi pins s1 σ H1 _ I1 q1) λ iv s2 ⟨x2,H2,I2,r2,q2⟩=>?_
 refine thn (hg pins s2 σ H2 x1 x2 ov iv _ I2 r1 r2 q2) λ old s3 ⟨x3,H3,I3,r3,q3⟩=>?_
 refine thn (he pins s3 σ H3 _ I3 q3) λ v s4 ⟨x4,H4,I4,r4,q4⟩=>?_
 refine thn (hp pins s4 σ H4 x3 x4 old v _ I4 r3 r4 q4) λ new s5 ⟨x5,H5,I5,r5,q5⟩=>?_
 exact thn (hs pins s5 σ H5 x1 x2 x5 ov iv new _ I5 r1 r2 r5 q5) λ _ s6 ⟨H6,I6,q6⟩=>⟨σ,H6,I6,q6⟩
noncomputable def ipI (f:Int->Int->Int):TIp:=λ x y H Q=>∃ i j,x=.int i/\y=.int j/\Q (.int (f i j)) H
theorem wF:PIp X .Add (ipI λ i j=>i+j):=by
 intro pins s σ H x y v u Q I r1 r2 h
 obtain ⟨i,j,e1,e2,q⟩:=h
 subst e1; subst e2
 obtain ⟨t,rfl⟩:=r1
 obtain ⟨t',rfl⟩:=r2
 exact iadd_int ⟨.int _,H,I.tok _,⟨_,rfl⟩,q⟩
end
section
variable {X:Cx} {pos:Pos}
noncomputable def sq (c:TT) (tb:TS):TS:=λ D σ H=>∃ W:Nat->St->Hp->Prop,(∃ m,W m σ H)/\∀ m σ H,W m σ H->
 c σ H λ b H1=>if b=true then ∃ N:St->Hp->Prop,(∀ σ' H',N σ' H'->∃ m',m'<m/\W m' σ' H')/\tb { D with nx:=N,ct:=N,bk:=D.nx } σ H1 else D.nx σ H1
theorem qx {c:Expr} {body:List Stmt} {tc:TT} {tb:TS} (hp:PassesOwn (model X.prog X.w) X.A X.env X.xe) (hc:PT X c tc) (hb:PSs X body tb):PS X (.While c body [] pos) (sq tc tb):=by
 intro pins s σ H D I h
 obtain ⟨W,⟨m0,w0⟩,turn⟩:=h
 refine wpAny_While (codeAny_whileLoop (λ n s'=>∃ σ' H',Inv X pins σ' H' s'/\W n σ' H') ?_ m0 ⟨σ,H,I,w0⟩)
 rintro n s1 ⟨σ1,H1,I1,w1⟩
 refine wpAny_passesOwn hp (thn (hc pins s1 σ1 H1 _ I1 (turn n σ1 H1 w1)) λ b s2 ⟨H2,I2,q2⟩=>?_)
 cases b with
 | true=>
  obtain ⟨N,hN,q2⟩:=q2
  rw [if_pos rfl]
  refine wpAny_passesOwn hp (thn (hb pins s2 σ1 H2 _ I2 q2) λ f s3 q3=>?_)
  cases f with
  | next=>
   obtain ⟨σ3,H3,I3,n3⟩:=q3
   obtain ⟨m',hm,w3⟩:=hN σ3 H3 n3
   exact ⟨m',hm,σ3,H3,I3,w3⟩
  | cont=>
   obtain ⟨σ3,H3,I3,n3⟩:=q3
   obtain ⟨m',hm,w3⟩:=hN σ3 H3 n3
   exact ⟨m',hm,σ3,H3,I3,w3⟩
  | brk=>exact q3
  | ret v=>exact q3
 | false=>
  rw [if_neg BW]
  exact wpAny_execs_nil ⟨σ1,H2,I2,q2⟩
end
structure It where
 go:Nat->Hp->Prop
 yld:Nat->Hp->V->Hp->Prop
 stop:Nat->Hp->Prop
noncomputable def nc (X:Cx) (pins:List (Addr×Obj)) (H:Hp) (b:Addr):Prop:=
 H b=none/\b≠X.env.locals/\b∉X.fs/\(b∈X.ex\/X.s₀.heap.objs.size<=b)/\(∀ x c,X.env.cells.lookup x=some c->c≠b)/\∀ p∈X.pn++pins,p.1≠b
theorem Inv.fpOk {X:Cx} {pins:List (Addr×Obj)} {σ:St} {H H':Hp} {s:Shared} {b:Addr} (I:Inv X pins σ H s) (hb:s.heap.objs.size<=b) (hn:H' b=none):nc X pins H' b:=by
 refine ⟨hn,Df (B5 I.lt hb),I.nofs hb,.inr (CM I.sz hb),λ x c e z=>?_,λ p hp z=>?_⟩
 ·obtain ⟨v,q⟩:=I.cell x c e
  exact absurd (B5 q.lt (by rw [z]; exact hb)) (C3 _)
 ·exact absurd (B5 (BJ (I.pin p hp).1) (by rw [z]; exact hb)) (C3 _)
structure Turn (P:Program) (w:World) (K:BA) (tg:Expr) (J:It) (fp:List Addr) (it:Addr) (tn:Nat->Heap->Prop):Prop where
 mem:it∈fp
 obj:∀ i h,tn i h->∀ b∈fp,∃ o,h.get? b=some o/\∀ v,o.data≠.cell v
 keep:∀ i h h',tn i h->(∀ b∈fp,∀ o,h.get? b=some o->h'.get? b=some o)->tn i h'
 item:∀ (X:Cx),X.prog=P->X.w=w->X.K=K->X.calm=true->∀ (i:Nat) (pins:List (Addr×Obj)) (s:Shared) (σ:St) (H:Hp) (E:Value->Shared->Prop),Inv X pins σ H s->(∀ b∈fp,nc X pins H b)->tn i s.heap->J.go i H->
  wpAny (model P w) X.A (pyNext (.ref it)) (λ r s1=>∃ u,r=some u/\
   wpAny (model P w) X.A (letOwnedTupleGo tg (.ref it) u) (λ _ s2=>∃ x H',Inv X pins σ H' s2/\RelV x u/\J.yld i H x H'/\tn (i+1) s2.heap/\∀ b∈fp,H' b=none) E s1) E s
 done:∀ (X:Cx),X.prog=P->X.w=w->X.K=K->X.calm=true->∀ (i:Nat) (pins:List (Addr×Obj)) (s:Shared) (σ:St) (H:Hp) (E:Value->Shared->Prop),Inv X pins σ H s->(∀ b∈fp,nc X pins H b)->tn i s.heap->J.stop i H->
  wpAny (model P w) X.A (pyNext (.ref it)) (λ r s1=>r=none/\Inv X pins σ H s1) E s
 self:∀ (A:Around) (i:Nat) (s:Shared) (Q:Value->Shared->Prop) (E:Value->Shared->Prop),tn i s.heap->Q (.ref it) s->wpAny (model P w) A (pyIter (.ref it)) Q E s
noncomputable abbrev TI:=St->Hp->(It->Hp->Prop)->Prop
noncomputable def PIE (X:Cx) (pins:List (Addr×Obj)) (σ:St) (tg:Expr) (R:It->Hp->Prop) (itv:Value) (s2:Shared):Prop:=
 ∃ (it:Addr) (fp:List Addr) (tn:Nat->Heap->Prop) (J:It) (H':Hp),itv=.ref it/\Inv X pins σ H' s2/\Turn X.prog X.w X.K tg J fp it tn/\tn 0 s2.heap/\(∀ b∈fp,nc X pins H' b)/\R J H'
noncomputable def PI (X:Cx) (tg iter:Expr) (wi:TI):Prop:=
 ∀ (pins:List (Addr×Obj)) (s:Shared) (σ:St) (H:Hp) (R:It->Hp->Prop),Inv X pins σ H s->wi σ H R->
  wpAny (model X.prog X.w) X.A (eval iter X.env) (λ v s1=>wpAny (model X.prog X.w) X.A (pyIter v) (PIE X pins σ tg R) X.xe s1) X.xe s
theorem ue {M:Model} {A:Around} {E:Value->Shared->Prop} {s:Shared} {tg:Expr} {it:Addr} {u:Value} {o:Obj} {n:String} {vs:Array Value} {Q:Unit->Shared->Prop} (ho:s.heap.get? it=some o) (hc:o.cls=.type n) (hd:o.data=.fields vs)
    (hn:["enumerate","zip","dict_itemiterator","dict_reverseitemiterator","odict_iterator","itertools.zip_longest","itertools.pairwise"].contains n=false) (hQ:Q () s):wpAny M A (letOwnedTupleGo tg (.ref it) u) Q E s:=by
  unfold letOwnedTupleGo
  cases tg<;>first
    | exact wpAny_pure hQ
    | (cases u<;>first
        | exact wpAny_pure hQ
        | (refine wpAny_bind (wpAny_load ho ?_)
           rw [hc,hd]
           show wpAny M A (if (["enumerate","zip","dict_itemiterator","dict_reverseitemiterator","odict_iterator","itertools.zip_longest","itertools.pairwise"].contains n && vs[0]? == some (rawInt _))=true then _ else _) Q E s
           rw [if_neg (by intro h; rw [hn,Bool.false_and] at h; cases h)]
           exact wpAny_pure hQ))
noncomputable def Itl (K:BA) (a:Addr):It:=
 ⟨λ i H=>∃ xs x,SqL K H a xs/\xs[i]? = some x,λ i H x H'=>H'=H/\∀ xs,SqL K H a xs->xs[i]? = some x,λ i H=>∃ xs,SqL K H a xs/\xs.length<=i⟩
noncomputable def Itt (K:BA) (a:Addr):It:=
 ⟨λ i H=>∃ xs x,SqT K H a xs/\xs[i]? = some x,λ i H x H'=>H'=H/\∀ xs,SqT K H a xs->xs[i]? = some x,λ i H=>∃ xs,SqT K H a xs/\xs.length<=i⟩
noncomputable def Itr (lo:Int) (n:Nat):It:=⟨λ i _=>i<n,λ i H x H'=>H'=H/\x=.int (lo+i),λ i _=>n<=i⟩
theorem nr {P:Program} {w:World} {K:BA} {tg:Expr} (a it:Addr):Turn P w K tg (Itl K a) [it] it (λ i h=>h.IsListIter it a i) where
 mem:=by simp
 obj:=λ i h st b hb=>by
  have e:b=it:=by simpa using hb
  subst e
  obtain ⟨o,e,c,d⟩:=st
  exact ⟨o,e,λ v z=>by rw [d] at z; cases z⟩
 keep:=λ i h h' st k=>st.at λ o e=>k it (by simp) o e
 item:=by
  intro X hP hw hK hc i pins s σ H E I hf st hg
  subst hP hw hK
  obtain ⟨xs,x,hq,hx⟩:=hg
  obtain ⟨its,rv,p,hz⟩:=I.list hq
  obtain ⟨u,hu,ru⟩:=rv.get hx
  obtain ⟨f0,f1,f2,f3,f4,f5⟩:=hf it (by simp)
  refine wpAny_pyNext_list_item st p.isList (x:=u) (by simpa using hu) λ h' st' sb=>?_
  have I1:Inv X pins σ H { s with heap:=h' }:=I.turned (t':=s.toks) (λ b o hb e=>(sb.2 b hb).trans e) f0 f1 f3 f4 f5
  obtain ⟨o,e,c,d⟩:=id st'
  exact ⟨u,rfl,ue (s:={ s with heap:=h' }) e c d (by decide) ⟨x,H,I1,ru,⟨rfl,λ ys hy=>by rw [I.list_inj hy hq]; exact hx⟩,st',λ b hb=>(hf b hb).1⟩⟩
 done:=by
  intro X hP hw hK hc i pins s σ H E I hf st hg
  subst hP hw hK
  obtain ⟨xs,hq,hx⟩:=hg
  obtain ⟨its,rv,p,hz⟩:=I.list hq
  obtain ⟨f0,f1,f2,f3,f4,f5⟩:=hf it (by simp)
  have hl:=rv.length
  exact wpAny_pyNext_list_end (I.ok.hd hc) st p.isList (by simp; lia) λ h' eb=>⟨rfl,I.turned (t':=s.toks) (λ b o hb e=>eb b o hb e) f0 f1 f3 f4 f5⟩
 self:=λ _ _ _ _ _ st h=>wpAny_pyIter_listiter st h
theorem mD {P:Program} {w:World} {K:BA} {tg:Expr} (a it:Addr):Turn P w K tg (Itt K a) [it] it (λ i h=>h.IsTupleIter it a i) where
 mem:=by simp
 obj:=λ i h st b hb=>by
  have e:b=it:=by simpa using hb
  subst e
  obtain ⟨o,e,c,d⟩:=st
  exact ⟨o,e,λ v z=>by rw [d] at z; cases z⟩
 keep:=λ i h h' st k=>st.at λ o e=>k it (by simp) o e
 item:=by
  intro X hP hw hK hc i pins s σ H E I hf st hg
  subst hP hw hK
  obtain ⟨xs,x,hq,hx⟩:=hg
  obtain ⟨its,rv,p,hz⟩:=I.tuple hq
  obtain ⟨u,hu,ru⟩:=rv.get hx
  obtain ⟨f0,f1,f2,f3,f4,f5⟩:=hf it (by simp)
  refine wpAny_pyNext_tuple_item st (show s.heap.IsTuple a its.toArray from p) (x:=u) (by simpa using hu) λ h' st' sb=>?_
  have I1:Inv X pins σ H { s with heap:=h' }:=I.turned (t':=s.toks) (λ b o hb e=>(sb.2 b hb).trans e) f0 f1 f3 f4 f5
  obtain ⟨o,e,c,d⟩:=id st'
  exact ⟨u,rfl,ue (s:={ s with heap:=h' }) e c d (by decide) ⟨x,H,I1,ru,⟨rfl,λ ys hy=>by rw [I.tuple_inj hy hq]; exact hx⟩,st',λ b hb=>(hf b hb).1⟩⟩
 done:=by
  intro X hP hw hK hc i pins s σ H E I hf st hg
  subst hP hw hK
  obtain ⟨xs,hq,hx⟩:=hg
  obtain ⟨its,rv,p,hz⟩:=I.tuple hq
  obtain ⟨f0,f1,f2,f3,f4,f5⟩:=hf it (by simp)
  have hl:=rv.length
  exact wpAny_pyNext_tuple_end (I.ok.hd hc) st (show s.heap.IsTuple a its.toArray from p) (by simp; lia) λ h' eb=>⟨rfl,I.turned (t':=s.toks) (λ b o hb e=>eb b o hb e) f0 f1 f3 f4 f5⟩
 self:=λ _ _ _ _ _ st h=>wpAny_pyIter_tupleiter st h
theorem mE {P:Program} {w:World} {K:BA} {tg:Expr} (it:Addr) (lo:Int) (n:Nat):Turn P w K tg (Itr lo n) [it] it (λ i h=>IsRangeIter h it (lo+(i:Nat)*1) ((n:Int) - (i:Nat)) 1) where
 mem:=by simp
 obj:=λ i h st b hb=>by
  have e:b=it:=by simpa using hb
  subst e
  exact ⟨_,st,λ v z=>by
   have z':Data.fields _=Data.cell v:=z
   cases z'⟩
 keep:=λ i h h' st k=>k it (by simp) _ st
 item:=by
  intro X hP hw hK hc i pins s σ H E I hf st hg
  subst hP hw hK
  obtain ⟨f0,f1,f2,f3,f4,f5⟩:=hf it (by simp)
  have W:=Walks.range (prog:=X.prog) (w:=X.w) (I.ok.hd hc) it lo 1 n
  refine W.item i s _ _ hg st λ v h' tk hv st' kk=>?_
  obtain ⟨t,rfl⟩:=hv
  have I1:Inv X pins σ H { s with heap:=h',toks:=tk }:=I.turned (λ b o hb e=>kk b o (by simpa using hb) e) f0 f1 f3 f4 f5
  refine ⟨_,rfl,ue (s:={ s with heap:=h',toks:=tk }) (n:="range_iterator") st' rfl rfl (by decide) ⟨.int (lo+i),H,I1,⟨t,?_⟩,⟨rfl,rfl⟩,st',λ b hb=>(hf b hb).1⟩⟩
  rw [KH]
 done:=by
  intro X hP hw hK hc i pins s σ H E I hf st hg
  subst hP hw hK
  obtain ⟨f0,f1,f2,f3,f4,f5⟩:=hf it (by simp)
  exact wpAny_pyNext_range_end (I.ok.hd hc) st (by have:n<=i:=hg; lia) λ h' eb=>⟨rfl,I.turned (t':=s.toks) (λ b o hb e=>eb b o hb e) f0 f1 f3 f4 f5⟩
 self:=λ _ _ _ _ _ st h=>wpAny_pyIter_rangeiter st h
section
variable {X:Cx} {tg:Expr}
noncomputable def uf (K:BA) (tl:TE):TI:=λ σ H R=>tl σ H λ x H1=>∃ a,x=.ref a/\(∃ xs,SqL K H1 a xs)/\R (Itl K a) H1
noncomputable def y8 (K:BA) (tl:TE):TI:=λ σ H R=>tl σ H λ x H1=>∃ a,x=.ref a/\(∃ xs,SqT K H1 a xs)/\R (Itt K a) H1
theorem ug {l:Expr} {tl:TE} (hl:PE X l tl):PI X tg l (uf X.K tl):=by
 intro pins s σ H R I h
 refine thn (hl pins s σ H _ I h) λ v s1 ⟨x,H1,I1,r1,q1⟩=>?_
 obtain ⟨a,e,⟨xs,hq⟩,q⟩:=q1
 subst e
 cases r1
 obtain ⟨its,rv,p,hz⟩:=I1.list hq
 refine wpAny_pyIter_list p.isList ?_
 refine ⟨s1.heap.objs.size,[s1.heap.objs.size],_,_,H1,rfl,I1.kept (t':=s1.toks) λ b o e=>BB _ e,nr a _,⟨_,BU _ rfl,rfl,rfl⟩,λ b hb=>?_,q⟩
 have e:b=s1.heap.objs.size:=by simpa using hb
 subst e
 exact I1.fpOk (BD _) (I1.hok.fresh (BD _))
theorem wG {l:Expr} {tl:TE} (hl:PE X l tl):PI X tg l (y8 X.K tl):=by
 intro pins s σ H R I h
 refine thn (hl pins s σ H _ I h) λ v s1 ⟨x,H1,I1,r1,q1⟩=>?_
 obtain ⟨a,e,⟨xs,hq⟩,q⟩:=q1
 subst e
 cases r1
 obtain ⟨its,rv,p,hz⟩:=I1.tuple hq
 refine wpAny_pyIter_tuple (show s1.heap.IsTuple a its.toArray from p) ?_
 refine ⟨s1.heap.objs.size,[s1.heap.objs.size],_,_,H1,rfl,I1.kept (t':=s1.toks) λ b o e=>BB _ e,mD a _,⟨_,BU _ rfl,rfl,rfl⟩,λ b hb=>?_,q⟩
 have e:b=s1.heap.objs.size:=by simpa using hb
 subst e
 exact I1.fpOk (BD _) (I1.hok.fresh (BD _))
theorem qy {pins:List (Addr×Obj)} {σ:St} {H:Hp} {s:Shared} {R:It->Hp->Prop} {E:Value->Shared->Prop} {lo hi:Int} {t u v:Tok} {tk:Nat} (I:Inv X pins σ H s) (h1:-(2 ^ 62)<=lo) (h2:lo<2 ^ 62) (h3:-(2 ^ 62)<=hi) (h4:hi<2 ^ 62)
  (q:R (Itr lo (hi - lo).toNat) H):wpAny (model X.prog X.w) X.A (pyIter (.ref s.heap.objs.size)) (PIE X pins σ tg R) E { s with heap:=s.heap.push { cls:=.type "range",data:=.fields #[.int lo t,.int hi u,.int 1 v] },toks:=tk }:=by
 refine wpAny_pyIter_range (KI ..) (small_one h1 h2 h3 h4) ?_
 have I1:Inv X pins σ H { s with heap:=s.heap.push { cls:=.type "range",data:=.fields #[.int lo t,.int hi u,.int 1 v] },toks:=tk }:=I.kept λ b o e=>BB _ e
 refine ⟨(s.heap.push { cls:=.type "range",data:=.fields #[.int lo t,.int hi u,.int 1 v] }).objs.size,[(s.heap.push { cls:=.type "range",data:=.fields #[.int lo t,.int hi u,.int 1 v] }).objs.size],_,_,H,rfl,
  I1.kept (t':=tk) λ b o e=>BB _ e,mE _ lo (hi - lo).toNat,?_,λ b hb=>?_,q⟩
 ·have e1:lo+((0:Nat):Int)*1=lo:=by simp
  have e2:(((hi - lo).toNat:Nat):Int) - ((0:Nat):Int)=KE lo hi 1:=by rw [rangeSize_one]; split<;>lia
  show IsRangeIter _ _ (lo+((0:Nat):Int)*1) ((((hi - lo).toNat:Nat):Int) - ((0:Nat):Int)) 1
  rw [e1,e2]
  exact BU _ rfl
 ·have e:b=(s.heap.push { cls:=.type "range",data:=.fields #[.int lo t,.int hi u,.int 1 v] }).objs.size:=by simpa using hb
  subst e
  exact I1.fpOk (BD _) (I1.hok.fresh (BD _))
noncomputable def uh (ta:TA):TI:=λ σ H R=>ta σ H λ vs H1=>∃ j:Int,vs=[.int j]/\-(2 ^ 62)<=j/\j<2 ^ 62/\R (Itr 0 j.toNat) H1
theorem nz {a:Expr} {ta:TA} {p pos:Pos} (hg:Gl X "range") (hm:X.mg "range" = none) (ha:PA X [a] ta) (hs:starEach [a] X.env=[(false,eval a X.env)]:=by rfl):PI X tg (.Call (.Name "range" p) [a] [] pos) (uh ta):=by
 intro pins s σ H R I h
 refine Call_ (dv I hg hm boot_range (C0 (thn (ha pos pins s σ H _ I h) λ us s1 ⟨vs,H1,I1,r1,q1⟩=>?_) hs rfl))
 obtain ⟨j,e,q1,q2,q⟩:=q1
 subst e
 cases r1 with
 | cons r rr=>
  cases rr
  obtain ⟨t,rfl⟩:=r
  exact call_range_1 (qy I1 (by lia) (by lia) q1 q2 (by simpa using q))
noncomputable def y9 (wi:TI) (g:TG) (tb:TS):TS:=λ D σ H=>wi σ H λ J H1=>∃ W:Nat->Nat->St->Hp->Prop,(∃ m,W 0 m σ H1)/\∀ i m σ H,W i m σ H->
 (J.stop i H/\D.nx σ H)\/(J.go i H/\∃ N:St->Hp->Prop,(∀ σ' H',N σ' H'->∃ m',m'<m/\W (i+1) m' σ' H')/\∀ x H',J.yld i H x H'->g x σ H' λ σ2 H2=>tb { D with nx:=N,ct:=N,bk:=D.nx } σ2 H2)
noncomputable def ll (fp:List Addr) (h:Heap):List (Addr×Obj):=fp.filterMap λ b=>(h.get? b).map λ o=>(b,o)
theorem bc {fp:List Addr} {h:Heap} {b:Addr} {o:Obj} (hb:b∈fp) (e:h.get? b=some o):(b,o)∈ll fp h:=Ga.mpr ⟨b,hb,by rw [e]; rfl⟩
theorem nA {fp:List Addr} {h:Heap} {p:Addr×Obj} (hp:p∈ll fp h):p.1∈fp/\h.get? p.1=some p.2:=by
 obtain ⟨b,hb,e⟩:=Ga.mp hp
 cases q:h.get? b with
 | none=>rw [q] at e; cases e
 | some o=>
  rw [q] at e
  have e':(b,o)=p:=CG e
  subst e'
  exact ⟨hb,q⟩
theorem Inv.pinned {pins:List (Addr×Obj)} {σ:St} {H:Hp} {s:Shared} {fp:List Addr} (I:Inv X pins σ H s) (hf:∀ b∈fp,nc X pins H b) (ho:∀ b∈fp,∃ o,s.heap.get? b=some o/\∀ v,o.data≠.cell v):Inv X (pins++ll fp s.heap) σ H s:=
 I.pins_of λ p hp=>(BY.mp hp).elim (λ z=>I.pin p (BL _ z)) λ z=>by
  obtain ⟨hb,e⟩:=nA z
  obtain ⟨f0,f1,f2,_⟩:=hf p.1 hb
  obtain ⟨o,e',d⟩:=ho p.1 hb
  rw [e] at e'; cases e'
  exact ⟨e,f0,f1,f2,d⟩
theorem Inv.unpinned {pins pl:List (Addr×Obj)} {σ:St} {H:Hp} {s:Shared} (I:Inv X (pins++pl) σ H s):Inv X pins σ H s:=I.pins_of λ p hp=>I.pin p (BL _ (CN _ hp))
theorem wH {iter:Expr} {body:List Stmt} {wi:TI} {g:TG} {tb:TS} {pos:Pos} (hp:PassesOwn (model X.prog X.w) X.A X.env X.xe) (hc:X.calm=true) (hi:PI X tg iter wi) (hg:PG X tg g) (hb:PSs X body tb)
  (hs:∀ x,foldedSetIterable iter X.env x=pure x:=by intro _; rfl):PS X (.For tg iter body [] pos) (y9 wi g tb):=by
 intro pins s σ H D I h
 refine wpAny_For (thn (hi pins s σ H _ I h) λ v s1 h1=>thn h1 λ itv s2 h2=>?_) hs
 obtain ⟨it,fp,tn,J,H2,e,I2,T,st2,f2,W,⟨m0,w0⟩,turn⟩:=h2
 subst e
 -- what stays true of the iterator's objects through the loop
 have stat:∀ {H':Hp},(∀ b∈fp,H' b=none)->∀ b∈fp,nc X pins H' b:=λ hn b hb=>⟨hn b hb,(f2 b hb).2⟩
 refine codeAny_forLoop_any (λ n s'=>∃ i σ' H',Inv X pins σ' H' s'/\tn i s'.heap/\(∀ b∈fp,H' b=none)/\W i n σ' H') ?_ m0 ⟨0,σ,H2,I2,st2,λ b hb=>(f2 b hb).1,w0⟩
 rintro n s3 ⟨i,σ3,H3,I3,st3,fr3,w3⟩
 rcases turn i n σ3 H3 w3 with ⟨stop,qn⟩ | ⟨go,N,hN,step⟩
 ·refine wpAny_passesOwn hp (thn (T.done X rfl rfl rfl hc i pins s3 σ3 H3 X.xe I3 (stat fr3) st3 stop) λ r s4 ⟨hr,I4⟩=>?_)
  subst hr
  exact wpAny_execs_nil ⟨σ3,H3,I4,qn⟩
 ·refine wpAny_passesOwn hp (thn (T.item X rfl rfl rfl hc i pins s3 σ3 H3 X.xe I3 (stat fr3) st3 go) λ r s4 ⟨u,hr,h4⟩=>?_)
  subst hr
  refine wpAny_passesOwn hp (thn h4 λ _ s5 ⟨x,H5,I5,r5,y5,st5,fr5⟩=>?_)
  have I5':=I5.pinned (stat fr5) (T.obj _ _ st5)
  refine wpAny_passesOwn hp (thn (hg _ s5 σ3 H5 x u _ I5' r5 (step x H5 y5)) λ _ s6 ⟨σ6,H6,I6,q6⟩=>?_)
  refine wpAny_passesOwn hp (thn (hb _ s6 σ6 H6 _ I6 q6) λ f s7 q7=>?_)
  have again:∀ {σ7:St} {H7:Hp},Inv X (pins++ll fp s5.heap) σ7 H7 s7->N σ7 H7->∃ m,m<n/\∃ i σ' H',Inv X pins σ' H' s7/\tn i s7.heap/\(∀ b∈fp,H' b=none)/\W i m σ' H':=λ {σ7 H7} I7 n7=>by
   obtain ⟨m',hm,w7⟩:=hN σ7 H7 n7
   refine ⟨m',hm,i+1,σ7,H7,I7.unpinned,T.keep _ _ _ st5 λ b hb o e=>(I7.pin (b,o) (BL _ (BL _ (bc hb e)))).1,λ b hb=>?_,w7⟩
   obtain ⟨o,e,d⟩:=T.obj _ _ st5 b hb
   exact (I7.pin (b,o) (BL _ (BL _ (bc hb e)))).2.1
  cases f with
  | next=>obtain ⟨σ7,H7,I7,n7⟩:=q7; exact again I7 n7
  | cont=>obtain ⟨σ7,H7,I7,n7⟩:=q7; exact again I7 n7
  | brk=>obtain ⟨σ7,H7,I7,q7⟩:=q7; exact ⟨σ7,H7,I7.unpinned,q7⟩
  | ret v=>obtain ⟨x7,σ7,H7,I7,r7,q7⟩:=q7; exact ⟨x7,σ7,H7,I7.unpinned,r7,q7⟩
end
theorem c6 {K:BA} {a:Addr} {xs:List V} {g:TG} {tb:TS} {D:Ends} {σ:St} {H:Hp} (Pv:Nat->St->Hp->Prop) (h0:Pv 0 σ H) (hl:∀ i σ H,i<=xs.length->Pv i σ H->SqL K H a xs)
  (hs:∀ i x σ H,xs[i]? = some x->Pv i σ H->g x σ H λ σ2 H2=>tb { D with nx:=Pv (i+1),ct:=Pv (i+1),bk:=D.nx } σ2 H2) (hd:∀ σ H,Pv xs.length σ H->D.nx σ H) :
  ∃ W:Nat->Nat->St->Hp->Prop,(∃ m,W 0 m σ H)/\∀ i m σ H,W i m σ H->
   ((Itl K a).stop i H/\D.nx σ H)\/((Itl K a).go i H/\∃ N:St->Hp->Prop,(∀ σ' H',N σ' H'->∃ m',m'<m/\W (i+1) m' σ' H')/\∀ x H',(Itl K a).yld i H x H'->g x σ H' λ σ2 H2=>tb { D with nx:=N,ct:=N,bk:=D.nx } σ2 H2):=by
 refine ⟨λ i m σ H=>m=xs.length - i/\i<=xs.length/\Pv i σ H,⟨xs.length,by simp,Ca _,h0⟩,?_⟩
 rintro i m σ H ⟨rfl,hi,p⟩
 have q:=hl i σ H hi p
 by_cases hlt:i<xs.length
 ·refine .inr ⟨⟨xs,xs[i],q,by simp [hlt]⟩,Pv (i+1),λ σ' H' p'=>⟨xs.length - (i+1),by lia,rfl,hlt,p'⟩,λ x H' y=>?_⟩
  obtain ⟨e,y⟩:=y
  subst e
  exact hs i x σ _ (y xs q) p
 ·have e:i=xs.length:=by lia
  subst e
  exact .inl ⟨⟨xs,q,BD _⟩,hd σ H p⟩
theorem gs {K:BA} {a:Addr} {xs:List V} {g:TG} {tb:TS} {D:Ends} {σ:St} {H:Hp} (Pv:Nat->St->Hp->Prop) (h0:Pv 0 σ H) (hl:∀ i σ H,i<=xs.length->Pv i σ H->SqT K H a xs)
  (hs:∀ i x σ H,xs[i]? = some x->Pv i σ H->g x σ H λ σ2 H2=>tb { D with nx:=Pv (i+1),ct:=Pv (i+1),bk:=D.nx } σ2 H2) (hd:∀ σ H,Pv xs.length σ H->D.nx σ H) :
  ∃ W:Nat->Nat->St->Hp->Prop,(∃ m,W 0 m σ H)/\∀ i m σ H,W i m σ H->
   ((Itt K a).stop i H/\D.nx σ H)\/((Itt K a).go i H/\∃ N:St->Hp->Prop,(∀ σ' H',N σ' H'->∃ m',m'<m/\W (i+1) m' σ' H')/\∀ x H',(Itt K a).yld i H x H'->g x σ H' λ σ2 H2=>tb { D with nx:=N,ct:=N,bk:=D.nx } σ2 H2):=by
 refine ⟨λ i m σ H=>m=xs.length - i/\i<=xs.length/\Pv i σ H,⟨xs.length,by simp,Ca _,h0⟩,?_⟩
 rintro i m σ H ⟨rfl,hi,p⟩
 have q:=hl i σ H hi p
 by_cases hlt:i<xs.length
 ·refine .inr ⟨⟨xs,xs[i],q,by simp [hlt]⟩,Pv (i+1),λ σ' H' p'=>⟨xs.length - (i+1),by lia,rfl,hlt,p'⟩,λ x H' y=>?_⟩
  obtain ⟨e,y⟩:=y
  subst e
  exact hs i x σ _ (y xs q) p
 ·have e:i=xs.length:=by lia
  subst e
  exact .inl ⟨⟨xs,q,BD _⟩,hd σ H p⟩
theorem cw {lo:Int} {n:Nat} {g:TG} {tb:TS} {D:Ends} {σ:St} {H:Hp} (Pv:Nat->St->Hp->Prop) (h0:Pv 0 σ H)
  (hs:∀ i σ H,i<n->Pv i σ H->g (.int (lo+i)) σ H λ σ2 H2=>tb { D with nx:=Pv (i+1),ct:=Pv (i+1),bk:=D.nx } σ2 H2) (hd:∀ σ H,Pv n σ H->D.nx σ H) :
  ∃ W:Nat->Nat->St->Hp->Prop,(∃ m,W 0 m σ H)/\∀ i m σ H,W i m σ H->
   ((Itr lo n).stop i H/\D.nx σ H)\/((Itr lo n).go i H/\∃ N:St->Hp->Prop,(∀ σ' H',N σ' H'->∃ m',m'<m/\W (i+1) m' σ' H')/\∀ x H',(Itr lo n).yld i H x H'->g x σ H' λ σ2 H2=>tb { D with nx:=N,ct:=N,bk:=D.nx } σ2 H2):=by
 refine ⟨λ i m σ H=>m=n - i/\i<=n/\Pv i σ H,⟨n,by simp,Ca _,h0⟩,?_⟩
 rintro i m σ H ⟨rfl,hi,p⟩
 by_cases hlt:i<n
 ·refine .inr ⟨hlt,Pv (i+1),λ σ' H' p'=>⟨n - (i+1),by lia,rfl,hlt,p'⟩,λ x H' y=>?_⟩
  obtain ⟨e,y⟩:=y
  subst e y
  exact hs i σ _ hlt p
 ·have e:i=n:=by lia
  subst e
  exact .inl ⟨BD _,hd σ H p⟩
noncomputable abbrev R2:=V->V->Hp->VK->Prop
noncomputable def OpR (X:Cx) (f:Value->Value->Sem Value) (r:R2):Prop:=
 ∀ (pins:List (Addr×Obj)) (s:Shared) (σ:St) (H:Hp) (x y:V) (v u:Value) (Q:VK),Inv X pins σ H s->RelV x v->RelV y u->r x y H Q->
  wpAny (model X.prog X.w) X.A (f v u) (EP X pins σ Q) X.xe s
noncomputable def UnR (X:Cx) (f:Value->Sem Value) (r:V->Hp->VK->Prop):Prop:=
 ∀ (pins:List (Addr×Obj)) (s:Shared) (σ:St) (H:Hp) (x:V) (v:Value) (Q:VK),Inv X pins σ H s->RelV x v->r x H Q->
  wpAny (model X.prog X.w) X.A (f v) (EP X pins σ Q) X.xe s
noncomputable def bU (X:Cx) (f:Value) (r:List V->Hp->VK->Prop):Prop:=
 ∀ (pins:List (Addr×Obj)) (s:Shared) (σ:St) (H:Hp) (xs:List V) (us:List Value) (Q:VK),Inv X pins σ H s->Vals xs us->r xs H Q->
  wpAny (model X.prog X.w) X.A (call f us) (EP X pins σ Q) X.xe s
noncomputable def AZ (X:Cx) (r:V->Hp->(Bool->Hp->Prop)->Prop):Prop:=
 ∀ (pins:List (Addr×Obj)) (s:Shared) (σ:St) (H:Hp) (x:V) (v:Value) (Q:Bool->Hp->Prop),Inv X pins σ H s->RelV x v->r x H Q->
  wpAny (model X.prog X.w) X.A (truthy v) (TP X pins σ Q) X.xe s
noncomputable def tOp (r:R2) (ta tb:TE):TE:=λ σ H Q=>ta σ H λ x H1=>tb σ H1 λ y H2=>r x y H2 Q
noncomputable def tUn (r:V->Hp->VK->Prop) (ta:TE):TE:=λ σ H Q=>ta σ H λ x H1=>r x H1 Q
noncomputable def rI (C:Int->Int->Prop) (g:Int->Int->V):R2:=λ x y H Q=>∃ i j,x=.int i/\y=.int j/\C i j/\Q (g i j) H
noncomputable def rI0 (g:Int->Int->V):R2:=λ x y H Q=>∃ i j,x=.int i/\y=.int j/\Q (g i j) H
noncomputable def rU (g:Int->V):V->Hp->VK->Prop:=λ x H Q=>∃ i,x=.int i/\Q (g i) H
section
variable {X:Cx} {a b c:Expr} {ta tb tc:TE} {pos:Pos}
theorem za (ha:PE X a ta) (hb:PE X b tb) {pins:List (Addr×Obj)} {s:Shared} {σ:St} {H:Hp} {R:V->V->Hp->Prop} (I:Inv X pins σ H s)
  (h:ta σ H λ x H1=>tb σ H1 λ y H2=>R x y H2) {Q:Value->Shared->Prop} {f:Value->Value->Sem Value}
  (hf:∀ v u s2 x y H2,Inv X pins σ H2 s2->RelV x v->RelV y u->R x y H2->wpAny (model X.prog X.w) X.A (f v u) Q X.xe s2) :
  wpAny (model X.prog X.w) X.A (eval a X.env) (λ v s₁=>wpAny (model X.prog X.w) X.A (eval b X.env) (λ u s₂=>wpAny (model X.prog X.w) X.A (f v u) Q X.xe s₂) X.xe s₁) X.xe s:=by
 refine thn (ha pins s σ H _ I h) λ v s1 ⟨x,H1,I1,r1,q1⟩=>?_
 refine thn (hb pins s1 σ H1 _ I1 q1) λ u s2 ⟨y,H2,I2,r2,q2⟩=>?_
 exact hf v u s2 x y H2 I2 r1 r2 q2
theorem zb {op:Operator} {r:R2} (ho:OpR X (binaryOp op) r) (ha:PE X a ta) (hb:PE X b tb):PE X (.BinOp a op b pos) (tOp r ta tb):=by
 intro pins s σ H Q I h
 exact wpAny_BinOp (za ha hb I h λ v u s2 x y H2 I2 rx ry q=>ho pins s2 σ H2 x y v u Q I2 rx ry q)
theorem wI {op:UnaryOp} {r:V->Hp->VK->Prop} (ho:UnR X (unaryOp op) r) (ha:PE X a ta):PE X (.UnaryOp op a pos) (tUn r ta):=by
 intro pins s σ H Q I h
 exact UnaryOp_ (thn (ha pins s σ H _ I h) λ v s1 ⟨x,H1,I1,r1,q1⟩=>ho pins s1 σ H1 x v Q I1 r1 q1)
theorem opI {f:Value->Value->Sem Value} {C:Int->Int->Prop} {g:Int->Int->Int}
  (rule:∀ (i j:Int) (t u:Tok) (s:Shared) (Q:Value->Shared->Prop) (E:Value->Shared->Prop),C i j->Q (.int (g i j) s.toks) { s with toks:=s.toks+1 }->wpAny (model X.prog X.w) X.A (f (.int i t) (.int j u)) Q E s) :
  OpR X f (rI C λ i j=>.int (g i j)):=by
 intro pins s σ H x y v u Q I rx ry h
 obtain ⟨i,j,rfl,rfl,hc,q⟩:=h
 obtain ⟨t,rfl⟩:=rx
 obtain ⟨t',rfl⟩:=ry
 exact rule i j t t' s _ _ hc ⟨.int (g i j),H,I.tok _,⟨_,rfl⟩,q⟩
theorem zc {f:Value->Value->Sem Value} {g:Int->Int->Int}
  (rule:∀ (i j:Int) (t u:Tok) (s:Shared) (Q:Value->Shared->Prop) (E:Value->Shared->Prop),Q (.int (g i j) s.toks) { s with toks:=s.toks+1 }->wpAny (model X.prog X.w) X.A (f (.int i t) (.int j u)) Q E s) :
  OpR X f (rI0 λ i j=>.int (g i j)):=by
 intro pins s σ H x y v u Q I rx ry h
 obtain ⟨i,j,rfl,rfl,q⟩:=h
 obtain ⟨t,rfl⟩:=rx
 obtain ⟨t',rfl⟩:=ry
 exact rule i j t t' s _ _ ⟨.int (g i j),H,I.tok _,⟨_,rfl⟩,q⟩
theorem zd {f:Value->Value->Sem Value} {g:Int->Int->Bool}
  (rule:∀ (i j:Int) (t u:Tok) (s:Shared) (Q:Value->Shared->Prop) (E:Value->Shared->Prop),Q (.bool (g i j)) s->wpAny (model X.prog X.w) X.A (f (.int i t) (.int j u)) Q E s) :
  OpR X f (rI0 λ i j=>.bl (g i j)):=by
 intro pins s σ H x y v u Q I rx ry h
 obtain ⟨i,j,rfl,rfl,q⟩:=h
 obtain ⟨t,rfl⟩:=rx
 obtain ⟨t',rfl⟩:=ry
 exact rule i j t t' s _ _ ⟨.bl (g i j),H,I,rfl,q⟩
noncomputable def A0 (i j:Int):Prop:=0<j/\j<1073741824
noncomputable def yy (i j:Int):Prop:=0<=j/\j<=1000000/\i.natAbs<2 ^ 64
noncomputable def CMul (i j:Int):Prop:=(-(2 ^ 64)<i/\i<2 ^ 64)\/(-(2 ^ 64)<j/\j<2 ^ 64)
theorem CMul.ok {i j:Int} (h:CMul i j):IntMulOk i j:=by
 rcases h with ⟨h1,h2⟩ | ⟨h1,h2⟩
 ·exact .of_left (intBits_le_64 h1 h2)
 ·exact .of_right (intBits_le_64 h1 h2)
theorem wJ:OpR X (binaryOp .Add) (rI0 λ i j=>.int (i+j)):=zc λ _ _ _ _ _ _ _ q=>add_int q
theorem wK:OpR X (binaryOp .Sub) (rI0 λ i j=>.int (i - j)):=zc λ _ _ _ _ _ _ _ q=>sub_int q
theorem wL:OpR X (binaryOp .Mult) (rI CMul λ i j=>.int (i*j)):=opI λ _ _ _ _ _ _ _ hc q=>mul_int q hc.ok
theorem wM:OpR X (binaryOp .Mod) (rI (λ _ j=>0<j) λ i j=>.int (i % j)):=opI λ i j _ _ _ _ _ hc q=>by
 have h1:(0:Int)<j:=hc
 exact mod_int' (by lia) (by rw [Int.fmod_eq_emod_of_nonneg i (by lia)]; exact q)
theorem wN:OpR X (binaryOp .Pow) (rI yy λ i j=>.int (i ^ j.toNat)):=opI λ _ _ _ _ _ _ _ hc q=>pow_int_small hc.1 hc.2.1 hc.2.2 q
theorem ui:OpR X (inplaceOp .Add) (rI0 λ i j=>.int (i+j)):=zc λ _ _ _ _ _ _ _ q=>iadd_int q
theorem unI {f:Value->Sem Value} {g:Int->Int}
  (rule:∀ (i:Int) (t:Tok) (s:Shared) (Q:Value->Shared->Prop) (E:Value->Shared->Prop),Q (.int (g i) s.toks) { s with toks:=s.toks+1 }->wpAny (model X.prog X.w) X.A (f (.int i t)) Q E s) :
  UnR X f (rU λ i=>.int (g i)):=by
 intro pins s σ H x v Q I rx h
 obtain ⟨i,rfl,q⟩:=h
 obtain ⟨t,rfl⟩:=rx
 exact rule i t s _ _ ⟨.int (g i),H,I.tok _,⟨_,rfl⟩,q⟩
theorem sr:UnR X (unaryOp .USub) (rU λ i=>.int (-i)):=unI λ _ _ _ _ _ q=>neg_int q
end
noncomputable def Aq:V->V->Bool
 | .non,.non=>true | .non,.int _=>true | .int _,.non=>true | .non,.bl _=>true | .bl _,.non=>true | .non,.str _=>true | .str _,.non=>true
 | .int _,.int _=>true | .bl _,.bl _=>true | .str _,.str _=>true | .byt _,.byt _=>true
 | .int _,.str _=>true | .str _,.int _=>true | .bl _,.str _=>true | .str _,.bl _=>true
 | _,_=>false
noncomputable def rEq:R2:=λ x y H Q=>Aq x y=true/\Q (.bl (decide (x=y))) H
noncomputable def rNe:R2:=λ x y H Q=>Aq x y=true/\Q (.bl (!decide (x=y))) H
theorem nB {i j:Int}:decide (V.int i=V.int j)=(i == j):=by
 rw [Ew]
 simp
theorem ss {i j:Bool}:decide (V.bl i=V.bl j)=(i == j):=by
 rw [Ew]
 simp
theorem nC {i j:Str}:decide (V.str i=V.str j)=(i == j):=by
 rw [Ew]
 simp
theorem nD {i j:Array UInt8}:decide (V.byt i=V.byt j)=(i.toList == j.toList):=by
 rw [Ew]
 cases i
 cases j
 simp
section
variable {X:Cx} {a b c:Expr} {ta tb tc:TE} {pos:Pos}
theorem aP {pins:List (Addr×Obj)} {σ:St} {H:Hp} {s:Shared} {Q:VK} {k k':Bool} (I:Inv X pins σ H s) (q:Q (.bl k) H) (e:k=k'):EP X pins σ Q (.bool k') s:=by
 subst e
 exact ⟨.bl k,H,I,rfl,q⟩
theorem ze:OpR X (compareOp .Eq) rEq:=by
 intro pins s σ H x y v u Q I rx ry h
 obtain ⟨hs,q⟩:=h
 cases x with
 | non=>
  cases rx
  cases y with
  | non=>cases ry; exact JV (aP I q (by simp))
  | bl j=>cases ry; exact JW (aP I q (by simp))
  | int j=>obtain ⟨t',rfl⟩:=ry; exact Kh (aP I q (by simp))
  | str j=>obtain ⟨t',rfl⟩:=ry; exact Ki (aP I q (by simp))
  | _=>exact absurd (show false=true from hs) BW
 | bl i=>
  cases rx
  cases y with
  | non=>cases ry; exact JX (aP I q (by simp))
  | bl j=>cases ry; exact eq_bool (aP I q ss)
  | str j=>obtain ⟨t',rfl⟩:=ry; exact JY (aP I q (by simp))
  | _=>exact absurd (show false=true from hs) BW
 | int i=>
  obtain ⟨t,rfl⟩:=rx
  cases y with
  | non=>cases ry; exact Kj (aP I q (by simp))
  | int j=>obtain ⟨t',rfl⟩:=ry; exact eq_int (aP I q nB)
  | str j=>obtain ⟨t',rfl⟩:=ry; exact Kk (aP I q (by simp))
  | _=>exact absurd (show false=true from hs) BW
 | str i=>
  obtain ⟨t,rfl⟩:=rx
  cases y with
  | non=>cases ry; exact Kl (aP I q (by simp))
  | bl j=>cases ry; exact JZ (aP I q (by simp))
  | int j=>obtain ⟨t',rfl⟩:=ry; exact Km (aP I q (by simp))
  | str j=>obtain ⟨t',rfl⟩:=ry; exact eq_str (aP I q nC)
  | _=>exact absurd (show false=true from hs) BW
 | byt i=>
  obtain ⟨t,rfl⟩:=rx
  cases y with
  | byt j=>obtain ⟨t',rfl⟩:=ry; exact PySem.W.eq_bytes (aP I q nD)
  | _=>exact absurd (show false=true from hs) BW
 | _=>cases y<;>exact absurd (show false=true from hs) BW
theorem zf:OpR X (compareOp .NotEq) rNe:=by
 intro pins s σ H x y v u Q I rx ry h
 obtain ⟨hs,q⟩:=h
 cases x with
 | non=>
  cases rx
  cases y with
  | non=>cases ry; exact J0 (aP I q (by simp))
  | bl j=>cases ry; exact J8 (aP I q (by simp))
  | int j=>obtain ⟨t',rfl⟩:=ry; exact Kn (aP I q (by simp))
  | str j=>obtain ⟨t',rfl⟩:=ry; exact Ko (aP I q (by simp))
  | _=>exact absurd (show false=true from hs) BW
 | bl i=>
  cases rx
  cases y with
  | non=>cases ry; exact J9 (aP I q (by simp))
  | bl j=>cases ry; exact ne_bool (aP I q (congrArg not ss))
  | str j=>obtain ⟨t',rfl⟩:=ry; exact Ka (aP I q (by simp))
  | _=>exact absurd (show false=true from hs) BW
 | int i=>
  obtain ⟨t,rfl⟩:=rx
  cases y with
  | non=>cases ry; exact Kp (aP I q (by simp))
  | int j=>obtain ⟨t',rfl⟩:=ry; exact ne_int (aP I q (congrArg not nB))
  | str j=>obtain ⟨t',rfl⟩:=ry; exact Kq (aP I q (by simp))
  | _=>exact absurd (show false=true from hs) BW
 | str i=>
  obtain ⟨t,rfl⟩:=rx
  cases y with
  | non=>cases ry; exact Kr (aP I q (by simp))
  | bl j=>cases ry; exact Kb (aP I q (by simp))
  | int j=>obtain ⟨t',rfl⟩:=ry; exact Ks (aP I q (by simp))
  | str j=>obtain ⟨t',rfl⟩:=ry; exact ne_str (aP I q (congrArg not nC))
  | _=>exact absurd (show false=true from hs) BW
 | byt i=>
  obtain ⟨t,rfl⟩:=rx
  cases y with
  | byt j=>obtain ⟨t',rfl⟩:=ry; exact PySem.W.ne_bytes (aP I q (congrArg not nD))
  | _=>exact absurd (show false=true from hs) BW
 | _=>cases y<;>exact absurd (show false=true from hs) BW
theorem zg:OpR X (compareOp .Lt) (rI0 λ i j=>.bl (decide (i<j))):=zd λ _ _ _ _ _ _ _ q=>lt_int q
theorem zh:OpR X (compareOp .Gt) (rI0 λ i j=>.bl (decide (j<i))):=zd λ _ _ _ _ _ _ _ q=>gt_int q
theorem zi:OpR X (compareOp .GtE) (rI0 λ i j=>.bl (decide (j<=i))):=zd λ _ _ _ _ _ _ _ q=>ge_int q
theorem wO:OpR X (compareOp .Is) (λ x y H Q=>y=.non/\Q (.bl (decide (x=.non))) H):=by
 intro pins s σ H x y v u Q I rx ry h
 obtain ⟨rfl,q⟩:=h
 cases ry
 refine is_none_gen (aP I q ?_)
 cases x<;>first
  | (cases rx; rfl)
  | (obtain ⟨t,rfl⟩:=rx; rfl)
theorem az (b:Expr) {op:CmpOp} (h:op≠.In:=by decide) (h2:op≠.NotIn:=by decide):behindInMarks op b=false:=by
 have e1:(op == CmpOp.In)=false:=by cases op<;>first | rfl | exact absurd rfl h
 have e2:(op == CmpOp.NotIn)=false:=by cases op<;>first | rfl | exact absurd rfl h2
 cases b<;>simp [behindInMarks,e1,e2]
theorem uj {op:CmpOp} {r:R2} (ho:OpR X (compareOp op) r) (ha:PE X a ta) (hb:PE X b tb) (hm:behindInMarks op b=false):PE X (.Compare a [op] [b] pos) (tOp r ta tb):=by
 intro pins s σ H Q I h
 exact wpAny_Compare1 (za ha hb I h λ v u s2 x y H2 I2 rx ry q=>ho pins s2 σ H2 x y v u Q I2 rx ry q) hm
noncomputable def uk (t:TE):TT:=λ σ H Q=>t σ H λ x H'=>∃ k,x=.bl k/\Q k H'
theorem ul {op:CmpOp} {r:R2} (ho:OpR X (compareOp op) r) (ha:PE X a ta) (hb:PE X b tb) (hm:behindInMarks op b=false):PT X (.Compare a [op] [b] pos) (uk (tOp r ta tb)):=by
 intro pins s σ H Q I h
 refine wpAny_isTrue_Compare1 (thn (ha pins s σ H _ I h) λ v s1 ⟨x,H1,I1,r1,q1⟩=>thn (hb pins s1 σ H1 _ I1 q1) λ u s2 ⟨y,H2,I2,r2,q2⟩=>
  thn (ho pins s2 σ H2 x y v u _ I2 r1 r2 q2) λ c s3 ⟨z,H3,I3,r3,k,e,q3⟩=>?_) hm
 subst e
 cases r3
 exact wpAny_truthy_bool ⟨H3,I3,q3⟩
noncomputable def wc (K:BA) (x:V) (H:Hp) (k:Bool):Prop:=
 match x with
 | .non=>k=false
 | .bl b=>k=b
 | .int i=>k=(i != 0)
 | .str y=>y.length<=sizeLine/\k=((y.length:Int) != 0)
 | .byt y=>y.size<=sizeLine/\k=((y.size:Int) != 0)
 | .ref p=>(∃ xs,SqL K H p xs/\k=!xs.isEmpty)\/(∃ xs,SqT K H p xs/\k=!xs.isEmpty)\/∃ kvs,H p=some (.dK kvs)/\k=!kvs.isEmpty
 | _=>False
theorem mF {κ:Type} {kvs:List (κ×V)} {vs:List (κ×Value)} (r:KV kvs vs):(!vs.isEmpty)=!kvs.isEmpty:=by
 cases r<;>rfl
theorem ig {xs:List V} {its:List Value} (r:Vals xs its):(!its.toArray.isEmpty)=!xs.isEmpty:=by
 cases r<;>simp
theorem gu:(sizeLine:Nat)<2 ^ 63:=by rw [sizeLine_eq]; decide
theorem wP:AZ X (λ x H Q=>∃ k,wc X.K x H k/\Q k H):=by
 intro pins s σ H x v Q I rx h
 obtain ⟨k,e,q⟩:=h
 have hl:=gu
 have hs:sizeLine=16777216:=sizeLine_eq
 cases x with
 | non=>
  cases rx
  have e':k=false:=e
  subst e'
  exact truthy_none ⟨H,I,q⟩
 | bl b=>
  cases rx
  have e':k=b:=e
  subst e'
  exact wpAny_truthy_bool ⟨H,I,q⟩
 | int i=>
  obtain ⟨t,rfl⟩:=rx
  have e':k=(i != 0):=e
  subst e'
  exact PySem.P.truthy_int ⟨H,I,q⟩
 | str y=>
  obtain ⟨t,rfl⟩:=rx
  obtain ⟨hy,e'⟩:y.length<=sizeLine/\k=((y.length:Int) != 0):=e
  subst e'
  exact PySem.P.truthy_str (by lia) ⟨H,I.tok _,q⟩
 | byt y=>
  obtain ⟨t,rfl⟩:=rx
  obtain ⟨hy,e'⟩:y.size<=sizeLine/\k=((y.size:Int) != 0):=e
  subst e'
  exact PySem.W.truthy_bytes (by lia) ⟨H,I.tok _,q⟩
 | ref p=>
  cases rx
  have e':(∃ xs,SqL X.K H p xs/\k=!xs.isEmpty)\/(∃ xs,SqT X.K H p xs/\k=!xs.isEmpty)\/∃ kvs,H p=some (.dK kvs)/\k=!kvs.isEmpty:=e
  rcases e' with ⟨xs,hx,e'⟩ | ⟨xs,hx,e'⟩ | ⟨kvs,hx,e'⟩
  ·subst e'
   obtain ⟨its,r,pl,hz⟩:=I.list hx
   have hlen:=r.length
   exact wpAny_truthy_list pl.isList (by simp only [BQ]; lia) ⟨H,I.tok _,by rw [ig r]; exact q⟩
  ·subst e'
   obtain ⟨its,r,pl,hz⟩:=I.tuple hx
   have hlen:=r.length
   exact truthy_tuple pl (by simp only [BQ]; lia) ⟨H,I.tok _,by rw [ig r]; exact q⟩
  ·subst e'
   obtain ⟨hz,hS,vs,r,m⟩:kvs.length<=sizeLine/\(p == sysModules)=false/\∃ vs,KV kvs vs/\s.heap.DictOf (bq X.prog X.w) p vs:=I.hok p _ hx
   have hlen:kvs.length=vs.length:=Go r
   exact wpAny_truthy_dict hS m (by lia) ⟨H,I.tok _,by rw [mF r]; exact q⟩
 | _=>exact (show False from e).elim
theorem qz (ha:PE X a ta) (he:∀ whole,isTrue a X.env whole=(do let v <-whole; standAt a.pos; holding [v] (truthy v))) :
  PT X a (λ σ H Q=>ta σ H λ x H'=>∃ k,wc X.K x H' k/\Q k H'):=by
 intro pins s σ H Q I h
 exact isTrue_plain (thn (ha pins s σ H _ I h) λ v s1 ⟨x,H1,I1,r1,q1⟩=>wP pins s1 σ H1 x v Q I1 r1 q1) (he _)
theorem fN {x:V} {us:List Value} (r:Vals [x] us):∃ u,us=[u]/\RelV x u:=by
 cases r with
 | cons r1 r2=>cases r2; exact ⟨_,rfl,r1⟩
theorem um {x y:V} {us:List Value} (r:Vals [x,y] us):∃ u w',us=[u,w']/\RelV x u/\RelV y w':=by
 cases r with
 | cons r1 r2=>
  cases r2 with
  | cons r3 r4=>cases r4; exact ⟨_,_,rfl,r1,r3⟩
theorem qA:bU X (.builtin "abs") (λ xs H Q=>∃ i,xs=[.int i]/\Q (.int (if i<0 then -i else i)) H):=by
 intro pins s σ H xs us Q I r h
 obtain ⟨i,rfl,q⟩:=h
 obtain ⟨u,rfl,t,rfl⟩:=fN r
 exact call_abs_int λ u tk=>⟨.int (if i<0 then -i else i),H,I.tok _,⟨_,rfl⟩,q⟩
theorem nE (hc:X.calm=true):bU X (.builtin "max") (λ xs H Q=>∃ i j,xs=[.int i,.int j]/\Q (.int (if j > i then j else i)) H):=by
 intro pins s σ H xs us Q I r h
 obtain ⟨i,j,rfl,q⟩:=h
 obtain ⟨u,w',rfl,⟨t,rfl⟩,⟨t',rfl⟩⟩:=um r
 refine max_two_ints (I.ok.hd hc) λ h' tk k=>⟨_,H,I.kept k,?_,q⟩
 by_cases hj:j > i
 ·rw [if_pos hj,if_pos hj]; exact ⟨_,rfl⟩
 ·rw [if_neg hj,if_neg hj]; exact ⟨_,rfl⟩
theorem nF (hc:X.calm=true):bU X (.builtin "min") (λ xs H Q=>∃ i j,xs=[.int i,.int j]/\Q (.int (if j<i then j else i)) H):=by
 intro pins s σ H xs us Q I r h
 obtain ⟨i,j,rfl,q⟩:=h
 obtain ⟨u,w',rfl,⟨t,rfl⟩,⟨t',rfl⟩⟩:=um r
 refine min_two_ints (I.ok.hd hc) λ h' tk k=>⟨_,H,I.kept k,?_,q⟩
 by_cases hj:j<i
 ·rw [if_pos hj,if_pos hj]; exact ⟨_,rfl⟩
 ·rw [if_neg hj,if_neg hj]; exact ⟨_,rfl⟩
theorem nG:bU X (.type "int") (λ xs H Q=>(∃ i,xs=[.int i]/\Q (.int i) H)\/∃ k,xs=[.bl k]/\Q (.int (if k then 1 else 0)) H):=by
 intro pins s σ H xs us Q I r h
 rcases h with ⟨i,rfl,q⟩ | ⟨k,rfl,q⟩
 ·obtain ⟨u,rfl,t,rfl⟩:=fN r
  exact call_int_int ⟨.int i,H,I,⟨_,rfl⟩,q⟩
 ·obtain ⟨u,rfl,r1⟩:=fN r
  cases r1
  exact call_int_bool ⟨.int (if k then 1 else 0),H,I.tok _,⟨_,rfl⟩,q⟩
end
structure ObjM (h:Heap) (x dx C:Addr) (mA:Str->Option Value):Prop where
 obj:h.get? x=some (G5 C dx)
 ns:h.Ns1 dx mA
 ne:dx≠x
theorem nH {h:Heap} {dx:Addr} {mA:Str->Option Value} (n:h.Ns1 dx mA):∃ od,h.get? dx=some od/\∀ name,Hk name od=some (mA name):=by
 obtain ⟨o,es,ep,ho,hd,hk,_,hm⟩:=n
 refine ⟨o,ho,λ name=>?_⟩
 have e:=hm name
 unfold nsFind findBy at e
 rw [<-Array.find?_toList] at e
 unfold Hk
 rw [hd]
 dsimp only
 split
 ·rename_i y q
  rw [q] at e
  exact congrArg some e
 ·rename_i q
  rw [q] at e
  have a:es.toList.any (·.refKey)=false:=by
   rw [List.any_eq_false]
   intro y hy
   obtain ⟨z,t,hkey⟩:=hk y (EV.mp hy)
   simp [Lh,hkey]
  have a':¬ es.toList.any (·.refKey)=true:=by rw [a]; exact BW
  rw [if_neg a']
  exact congrArg some e
theorem ObjM.look {h:Heap} {x dx C:Addr} {mA:Str->Option Value} (I:ObjM h x dx C mA):∃ od,PySem.W.InstAt h x (G5 C dx) C (some od)/\∀ name,Hk name od=some (mA name):=
 let ⟨od,ho,hl⟩:=nH I.ns
 ⟨od,⟨I.obj,rfl,rfl,ho⟩,hl⟩
section
variable {prog:Program} {w:World} {A:Around} {E:Value->Shared->Prop} {s:Shared} {K:BA} {x dx C f:Addr} {mA:Str->Option Value} {name:Str} {v:Value}
end
section
variable {P:Program} {w:World} {H H':Hp} {h h':Heap} {a C dx:Addr} {fs fs':List (Str×V)}
theorem uo (hok:HOk P w H h) (e:H a=some (.ins C dx fs)):∃ mA,ObjM h a dx C mA/\(∀ f,RelO (fs.lookup f) (mA f))/\Ke mA (fs.map (·.1))/\fs.length<=1000/\H dx=some (.own a):=by
 obtain ⟨d,z,ne,ob,mA,n,r,q⟩:=(show ObjOk P w H h a (.ins C dx fs) from hok a _ e)
 exact ⟨mA,⟨ob,n,ne⟩,r,q,z,d⟩
end
structure Cls (K:BA) (C:Addr):Prop where
 pg:IW K C Str.empty=true
 hd:PySem.W.hasDictIn K C=true
 po:PySem.W.plainOver K C=true
 sa:JA K (.ref C) "__setattr__" = some (some (.builtin "object.__setattr__"))
theorem Cls.get {K:BA} {C:Addr} (c:Cls K C) (f:Str):IW K C f=true:=c.pg
section
variable {X:Cx} {pins:List (Addr×Obj)} {σ:St} {H:Hp} {s:Shared} {a C dx:Addr} {fs:List (Str×V)} {f:Str} {v:V} {A:Around} {E:Value->Shared->Prop}
end
section
variable {X:Cx} {o e value:Expr} {f:Str} {pos pos' tpos:Pos} {ta tv:TE}
end
section
variable {X:Cx} {pins:List (Addr×Obj)} {σ:St} {H:Hp} {s:Shared} {A:Around} {E:Value->Shared->Prop} {Q:Value->Shared->Prop} {c:Value} {b:Bool}
inductive TyOf (K:BA) (H:Hp):V->Value->Prop where
 | non:TyOf K H .non (.type "NoneType")
 | bl (x:Bool):TyOf K H (.bl x) (.type "bool")
 | int (i:Int):TyOf K H (.int i) (.type "int")
 | str (x:Str):TyOf K H (.str x) (.type "str")
 | flt (x:UInt64):TyOf K H (.flt x) (.type "float")
 | lst {a:Addr} {xs:List V} (e:H a=some (.lst xs)):TyOf K H (.ref a) (.type "list")
 | frz {a:Addr} {o:Obj} {xs:List V} (e:H a=some (.frz o (.lst xs))):TyOf K H (.ref a) (.type "list")
 | tup {a:Addr} {xs:List V} (e:H a=some (.tup xs)):TyOf K H (.ref a) (.type "tuple")
 | dK {a:Addr} {kvs:List (Key×V)} (e:H a=some (.dK kvs)):TyOf K H (.ref a) (.type "dict")
 | dT {a:Addr} {kvs:List (List Key×V)} (e:H a=some (.dT kvs)):TyOf K H (.ref a) (.type "dict")
 | ins {a C dx:Addr} {fs:List (Str×V)} (e:H a=some (.ins C dx fs)) (cl:Cls K C) (ha:JA K (.ref C) "__class__" = some (some (.builtin "object.__class__")))
   (hn:PySem.W.specialIn K (.builtin "object.__class__") "__get__" = some (some (.builtin "getset_descriptor.__get__"))) (htk:PySem.W.takesIn K (.builtin "object.__class__")=some true)
   (hm:PySem.W.mroIn K C (.type "object")=some true):TyOf K H (.ref a) (.ref C)
theorem nI {x:V} {u t:Value} (I:Inv X pins σ H s) (rx:RelV x u) (ty:TyOf X.K H x t) (e:EQ X.K t c=some b) (h:∀ tk,Q (.bool b) { s with toks:=tk }) :
  wpAny (model X.prog X.w) A (call (.builtin "isinstance") [u,c]) Q E s:=by
 cases ty with
 | non=>cases (show u=CC from rx); exact Dg IG I.kIn Cf e (λ z=>nomatch z) h
 | bl y=>cases (show u=Jl y from rx); exact Dg PySem.W.kitx_bool I.kIn Cf e (λ z=>nomatch z) h
 | int i=>obtain ⟨t,q⟩:=(show ∃ t,u=G4 i t from rx); cases q; exact Dg IX I.kIn Cf e (λ z=>nomatch z) h
 | str y=>obtain ⟨t,q⟩:=(show ∃ t,u=Ig y t from rx); cases q; exact Dg PySem.W.kitx_str I.kIn Cf e (λ z=>nomatch z) h
 | flt y=>obtain ⟨t,q⟩:=(show ∃ t,u=KG y t from rx); cases q; exact Dg PySem.W.kitx_float I.kIn Cf e (λ z=>nomatch z) h
 | @lst a xs ea=>
  cases (show u=Cp a from rx)
  obtain ⟨_,_,n,_,h1⟩:=(show ObjOk X.prog X.w H s.heap a (.lst xs) from I.hok a _ ea)
  exact Dg Gz I.kIn ⟨_,h1,rfl⟩ e (λ z=>nomatch z) h
 | @frz a ob xs ea=>
  cases (show u=Cp a from rx)
  obtain ⟨_,_,_,n,_,h1⟩:=(show ObjOk X.prog X.w H s.heap a (.frz ob (.lst xs)) from I.hok a _ ea)
  exact Dg Gz I.kIn ⟨_,h1,rfl⟩ e (λ z=>nomatch z) h
 | @tup a xs ea=>
  cases (show u=Cp a from rx)
  obtain ⟨_,_,_,p⟩:=(show ObjOk X.prog X.w H s.heap a (.tup xs) from I.hok a _ ea)
  obtain ⟨o,h1,h2,_⟩:=p
  exact Dg Ii I.kIn ⟨o,h1,h2⟩ e (λ z=>nomatch z) h
 | @dK a kvs ea=>
  cases (show u=Cp a from rx)
  obtain ⟨_,_,vs,_,p⟩:=(show ObjOk X.prog X.w H s.heap a (.dK kvs) from I.hok a _ ea)
  obtain ⟨o,es,ep,h1,h2,_⟩:=p
  exact Dg IH I.kIn ⟨o,h1,h2.1⟩ e (λ z=>nomatch z) h
 | @dT a kvs ea=>
  cases (show u=Cp a from rx)
  obtain ⟨_,_,xs,_,o,es,ep,h1,h2,_⟩:=(show ObjOk X.prog X.w H s.heap a (.dT kvs) from I.hok a _ ea)
  exact Dg IH I.kIn ⟨o,h1,h2.1⟩ e (λ z=>nomatch z) h
 | @ins a C dx fs ea cl ha hn htk hm=>
  cases (show u=Cp a from rx)
  obtain ⟨mA,O,_⟩:=uo I.hok ea
  obtain ⟨od,J,_⟩:=O.look
  exact Dg (PySem.W.kitx_own (cl.get _) cl.hd ha hn htk hm) I.kIn J e (λ z=>nomatch z) h
end
structure Room (k:Nat) (A:Around):Prop where
 hd:A.handled=none
 dp:A.depth+3*k+5<recursionLimit
 un:A.units+16*k+200<cLine
 gd:A.guards=some []
theorem Room.mono {j k:Nat} {A:Around} (r:Room k A) (h:j<=k):Room j A:=⟨r.hd,by have:=r.dp; lia,by have:=r.un; lia,r.gd⟩
theorem Room.deeper {k:Nat} {A:Around} (r:Room (k+1) A) (env:Env):Room k (A.deeper env):=
 ⟨r.hd,by have:=r.dp; show A.depth+1+3*k+5<_; lia,by have:=r.un; show A.units+3+16*k+200<_; lia,r.gd⟩
theorem Room.depth {k:Nat} {A:Around} (r:Room k A):A.depth<recursionLimit:=by have:=r.dp; lia
theorem Room.units {k:Nat} {A:Around} (r:Room k A):A.units+64<cLine:=by have:=r.un; lia
theorem Room.units0 {k:Nat} {A:Around} (r:Room k A):A.units<cLine:=by have:=r.un; lia
noncomputable def yz:TA:=λ _ H Q=>Q [] H
noncomputable def mG (ta:TE) (tr:TA):TA:=λ σ H Q=>ta σ H λ x H1=>tr σ H1 λ xs H2=>Q (x::xs) H2
section
variable {X:Cx} {e:Expr} {es:List Expr} {te:TE} {t:TA} {pos:Pos}
theorem wQ:PA X [] yz:=λ _ _ _ _ H Q I h=>Fl ⟨[],H,I,.nil,h⟩
theorem uq (ha:PE X e te) (hr:PA X es t) (hs:starEach (e::es) X.env=(false,eval e X.env)::starEach es X.env:=by rfl):PA X (e::es) (mG te t):=by
 intro pos pins s σ H Q I h
 rw [hs]
 show wpAny _ _ (spliced ((false,eval e X.env)::backTo pos (starEach es X.env))) _ _ s
 refine Ey (thn (ha pins s σ H _ I h) λ u s1 ⟨x,H1,I1,r1,q1⟩=>?_)
 exact thn (hr pos pins s1 σ H1 _ I1 q1) λ us s2 ⟨xs,H2,I2,r2,q2⟩=>⟨x::xs,H2,I2,.cons r1 r2,q2⟩
noncomputable def zj (t:TA):TE:=λ σ H Q=>t σ H λ xs H1=>xs.length<=sizeLine/\∀ p,H1 p=none->Q (.ref p) (upd H1 p (.tup xs))
noncomputable def zk (t:TA):TE:=λ σ H Q=>t σ H λ xs H1=>xs.length<=sizeLine/\∀ p,H1 p=none->Q (.ref p) (upd H1 p (.lst xs))
theorem wR {x1} (h:PA X es t):PE X (.Tuple es x1 pos) (zj t):=by
 intro pins s σ H Q I hq
 refine wpAny_Tuple_spliced (thn (h pos pins s σ H _ I hq) λ us s1 ⟨xs,H1,I1,r,z,q⟩=>⟨by rw [<-r.length]; exact z,?_⟩)
 have hf:H1 s1.heap.objs.size=none:=I1.hok.fresh (BD _)
 refine ⟨.ref s1.heap.objs.size,upd H1 s1.heap.objs.size (.tup xs),I1.laid (t':=s1.toks) (λ b u e=>BB _ e) (BD _) ?_,rfl,q _ hf⟩
 exact ⟨z,us,r,⟨_,BU _ rfl,rfl,_,rfl⟩⟩
theorem wS (h:PA X es t):PE X (.List es pos) (zk t):=by
 intro pins s σ H Q I hq
 refine wpAny_List_spliced (thn (h pos pins s σ H _ I hq) λ us s1 ⟨xs,H1,I1,r,z,q⟩=>⟨by rw [<-r.length]; exact z,?_⟩)
 have hf:H1 s1.heap.objs.size=none:=I1.hok.fresh (BD _)
 refine ⟨.ref s1.heap.objs.size,upd H1 s1.heap.objs.size (.lst xs),I1.laid (t':=s1.toks) (λ b u e=>BB _ e) (BD _) ?_,rfl,q _ hf⟩
 exact ⟨z,us,0,r,BU _ rfl⟩
end
noncomputable abbrev Sp:=List V->Hp->VK->XK->Prop
noncomputable abbrev CXT:=List Env->Hp->Shared->XK->Value->Shared->Prop
structure Env0 (P:Program) (w:World) (K:BA) (mg:Str->Option Value) (base:Heap) (A:Around) (outer:List Env) (s:Shared) (H:Hp):Prop where
 frames:A.frames=some outer
 mod:Mod K mg base
 bs:∀ b o,base.get? b=some o->s.heap.get? b=some o/\H b=none
 bsz:base.objs.size<=s.heap.objs.size
 funs:s.heap.FunFrames base outer
 frf:∀ b∈frs outer,H b=none
 hok:HOk P w H s.heap
 bare:AllBare s.gens
noncomputable def CE (outer:List Env) (P:Program) (w:World) (H:Hp) (s:Shared) (Q:VK) (u:Value) (s':Shared):Prop:=
 ∃ v H',s'.os=s.os/\AllBare s'.gens/\Un (frs outer) [] H H' s.heap s'.heap/\HOk P w H' s'.heap/\RelV v u/\Q v H'
noncomputable def CR (CX:CXT) (outer:List Env) (P:Program) (w:World) (H:Hp) (s:Shared) (Q:VK) (E:XK) (r:Result) (s':Shared):Prop:=
 match r with
 | .ok (.ret u)=>CE outer P w H s Q u s'
 | .ok _=>False
 | .error e=>CX outer H s E e s'
structure FnOk (P:Program) (w:World) (K:BA) (mg:Str->Option Value) (base:Heap) (CX:CXT) (k:Nat) (f:Addr) (fd:FuncData) (ps:List Str) (sp:Sp):Prop where
 len:∀ vs H Q E,sp vs H Q E->vs.length=ps.length
 run:∀ (A:Around) (outer:List Env) (s:Shared) (H:Hp) (args:Args) (us:List Value) (vs:List V) (Q:VK) (E:XK),Room k A->Env0 P w K mg base A outer s H->BindsTo s fd args (ps.zip us)->Vals vs us->sp vs H Q E->
  codeAny (model P w) A (.call (.ref f) args) (CR CX outer P w H s Q E) s
section
variable {X:Cx} {pins:List (Addr×Obj)} {σ:St} {H:Hp} {s s':Shared}
theorem Inv.env0 (I:Inv X pins σ H s):Env0 X.prog X.w X.K X.mg X.base X.A X.stack s H:=
 ⟨I.ok.frames,I.ok.mod,I.bs,CM I.ok.bsz I.sz,I.stack,I.stkFree,I.hok,I.bare⟩
theorem Inv.after {Q:VK} {u:Value} (I:Inv X pins σ H s) (h:CE X.stack X.prog X.w H s Q u s'):EP X pins σ Q u s':=by
 obtain ⟨v,H',os,bare,un,hok,r,q⟩:=h
 obtain ⟨hh,g,d,t,os'⟩:=s'
 obtain rfl:os'=s.os:=os
 exact ⟨v,H',I.call (h':=hh) (g':=g) (d':=d) (t':=t) (ch:=[]) un hok bare (λ b z=>absurd z (by simp)),r,q⟩
end
noncomputable def qB (sp:Sp) (dvs:List V) (E:XK) (t:TA):TE:=λ σ H Q=>t σ H λ vs H1=>sp (vs++dvs) H1 Q E
noncomputable def Binds (K:BA) (fd:FuncData) (ps:List Str) (ds:List Value):Prop:=
 ∀ (s:Shared) (us:List Value),K.In s.heap->(us++ds).length=ps.length->BindsTo s fd ⟨us,[]⟩ (ps.zip (us++ds))
theorem Binds.all {K:BA} {fd:FuncData} {ps:List Str} (h:∀ us:List Value,us.length=ps.length->bindArgs fd ⟨us,[]⟩=pure (ps.zip us)):Binds K fd ps []:=λ s us _ hl=>by
 rw [C9] at hl ⊢
 exact .of_eq (h us hl)
noncomputable def jt (CX:CXT) (X:Cx) (E:XK):Prop:=∀ (pins:List (Addr×Obj)) (σ:St) (H:Hp) (s:Shared) (e:Value) (s':Shared),Inv X pins σ H s->CX X.stack H s E e s'->X.xe e s'
section
variable {X:Cx} {CX:CXT} {k:Nat} {f C:Addr} {fd:FuncData} {ps:List Str} {sp:Sp} {dvs:List V} {ds:List Value} {E:XK} {x m:Str} {p pos apos:Pos} {e o:Expr} {es:List Expr} {ta:TE} {t:TA}
theorem wT {pins:List (Addr×Obj)} {σ:St} {H:Hp} {s:Shared} {Q:VK} {us:List Value} {vs:List V} (F:FnOk X.prog X.w X.K X.mg X.base CX k f fd ps sp) (hr:Room k X.A) (hb:Binds X.K fd ps ds) (hd:Vals dvs ds) (hx:jt CX X E)
  (I:Inv X pins σ H s) (r:Vals vs us) (h:sp (vs++dvs) H Q E):wpAny (model X.prog X.w) X.A (call (.ref f) us) (EP X pins σ Q) X.xe s:=by
 have r2:Vals (vs++dvs) (us++ds):=r.append hd
 have hl:(us++ds).length=ps.length:=by rw [<-r2.length]; exact F.len _ _ _ _ h
 refine wpAny_call (codeAny_mono (F.run X.A X.stack s H ⟨us,[]⟩ (us++ds) (vs++dvs) Q E hr I.env0 (hb s us I.kIn hl) r2 h) λ r s' hq=>?_)
 cases r with
 | error e=>exact hx pins σ H s e s' I hq
 | ok fl=>
  cases fl with
  | ret u=>exact I.after hq
  | next=>exact Ec hq
  | brk=>exact Ec hq
  | cont=>exact Ec hq
theorem ur (F:FnOk X.prog X.w X.K X.mg X.base CX k f fd ps sp) (hr:Room k X.A) (hg:Gl X x) (hm:X.mg x=some (.ref f)) (hk:ER X.K (.ref f)=true) (hb:Binds X.K fd ps ds) (hd:Vals dvs ds) (hx:jt CX X E)
  (ha:PA X (e::es) t) (hdb:(x == ("__debug__" : Str))=false:=by decide) (he:starEach (e::es) X.env=(false,eval e X.env)::starEach es X.env:=by rfl) (hpl:(backTo pos (starEach es X.env)).any (·.1)=false:=by rfl) :
  PE X (.Call (.Name x p) (e::es) [] pos) (qB sp dvs E t):=by
 intro pins s σ H Q I h
 refine wpAny_Call_Name_kw (tQ I hg hm ?_ hdb)
 refine PySem.W.callWith_K (h₀:=X.base) I.ok.mod.kin hk (thn (ha pos pins s σ H _ I h) λ us s1 ⟨vs,H1,I1,r,q⟩=>⟨I1.kIn,?_⟩) he hpl
 exact wT F hr hb hd hx I1 r q
end
section
variable {X:Cx} {CX:CXT} {k:Nat} {f C:Addr} {fd:FuncData} {ps ks:List Str} {sp:Sp} {E:XK} {x m:Str} {p pos apos kpos:Pos} {e o:Expr} {es:List Expr} {kws:List Keyword} {te ta:TE} {t tk:TA} {nm:Option Str}
variable {g:List Value->List Value->List Value} {gV:List V->List V->List V}
end
structure FnScope (N P:List Str) (sc:Scope):Prop where
 kind:sc.kind=.function
 co:sc.isCoroutine=false
 gen:sc.isGenerator=false
 nd:N.Nodup
 pre:N.take P.length=P
 par:∀ x∈P,sc.names.lookup x=some .local\/sc.names.lookup x=some .cell
 nofree:∀ y∈sc.names,y.2≠.free
theorem ju {kindOf:Str->Option NameKind} {x:Str}:∀ {binds:List (Str×Value)} {m:Str->Option Value},(∀ v,(x,v)∉binds)->bindL kindOf binds m x=m x
 | [],_,_=>rfl
 | (n,v)::r,m,h=>by
  unfold bindL
  rw [ju λ w hw=>h w (Cd _ hw)]
  split
  ·have:x≠n:=by rintro rfl; exact h v Cb
   simp [this]
  ·rfl
theorem jw {kindOf:Str->Option NameKind} {x:Str}:∀ {binds:List (Str×Value)} {m:Str->Option Value},(∀ v,(x,v)∉binds)->bindC kindOf binds m x=m x
 | [],_,_=>rfl
 | (n,v)::r,m,h=>by
  unfold bindC
  rw [jw λ w hw=>h w (Cd _ hw)]
  split
  ·rfl
  ·have:x≠n:=by rintro rfl; exact h v Cb
   simp [this]
theorem jx {kindOf:Str->Option NameKind} {x:Str} {v:Value}:∀ {P:List Str} {vs:List Value} {i:Nat} {m:Str->Option Value},P.Nodup->P[i]? = some x->vs[i]? = some v->kindOf x=some .local->
  bindL kindOf (P.zip vs) m x=some v
 | [],_,_,_,_,h,_,_=>by simp at h
 | _::_,[],_,_,_,_,h,_=>by simp at h
 | p::P,w::vs,0,m,nd,h1,h2,hk=>by
  simp at h1 h2; subst h1; subst h2
  show bindL kindOf ((p,w)::P.zip vs) m p=_
  unfold bindL
  rw [ju λ v hv=>(CW.mp nd).1 (G6 hv).1,if_pos hk]
  simp
 | p::P,w::vs,i+1,m,nd,h1,h2,hk=>by
  show bindL kindOf ((p,w)::P.zip vs) m x=_
  unfold bindL
  exact jx (i:=i) (CW.mp nd).2 (by simpa using h1) (by simpa using h2) hk
theorem jy {kindOf:Str->Option NameKind} {x:Str} {v:Value}:∀ {P:List Str} {vs:List Value} {i:Nat} {m:Str->Option Value},P.Nodup->P[i]? = some x->vs[i]? = some v->kindOf x≠some .local->
  bindC kindOf (P.zip vs) m x=some v
 | [],_,_,_,_,h,_,_=>by simp at h
 | _::_,[],_,_,_,_,h,_=>by simp at h
 | p::P,w::vs,0,m,nd,h1,h2,hk=>by
  simp at h1 h2; subst h1; subst h2
  show bindC kindOf ((p,w)::P.zip vs) m p=_
  unfold bindC
  rw [jw λ v hv=>(CW.mp nd).1 (G6 hv).1,if_neg hk]
  simp
 | p::P,w::vs,i+1,m,nd,h1,h2,hk=>by
  show bindC kindOf ((p,w)::P.zip vs) m x=_
  unfold bindC
  exact jy (i:=i) (CW.mp nd).2 (by simpa using h1) (by simpa using h2) hk
noncomputable def start (N:List Str) (vs:List V):St:=vs.map some++B1 (N.length - vs.length) none
noncomputable def ut (CX:CXT) (P:Program) (w:World) (K:BA) (mg:Str->Option Value) (base:Heap) (N:List Str) (qual:Str) (scope:Scope) (f:Addr) (cd:Value) (A:Around) (outer:List Env) (s:Shared) (H:Hp) (E:XK):Cx where
 prog:=P
 w:=w
 K:=K
 mg:=mg
 base:=base
 A:=A.deeper (envOfC qual scope s.heap.objs.size f cd)
 N:=N
 s₀:=s
 H₀:=H
 env:=envOfC qual scope s.heap.objs.size f cd
 outer:=outer
 stack:=envOfC qual scope s.heap.objs.size f cd::outer
 ex:=[]
 calm:=true
 fn:=λ _=>true
 pn:=[]
 xe:=λ e s'=>wpAny (model P w) (A.deeper (envOfC qual scope s.heap.objs.size f cd)) (leaving (envOfC qual scope s.heap.objs.size f cd) e) (λ _ s''=>CX outer H s E e s'') (λ e' s''=>CX outer H s E e' s'') s'
theorem lm {sc:Scope} {n:Nat} {x:Str} (h:sc.names.lookup x=some .cell):∃ c,(cellsFrom n sc.names []).lookup x=some c:=by
 have q:=Hd sc.names n [] (.inl h)
 exact E7.mp q
theorem nJ {CX:CXT} {P:Program} {w:World} {K:BA} {mg:Str->Option Value} {base:Heap} {N ps:List Str} {qual:Str} {scope:Scope} {f:Addr} {cd:Value} {A:Around} {outer:List Env} {s s1:Shared} {H:Hp} {E:XK} {us:List Value} {vs:List V}
  (S:FnScope N ps scope) (hd:A.handled=none) (e0:Env0 P w K mg base A outer s H) (hl:vs.length=ps.length) (r:Vals vs us)
  (x:InCallC s s.heap.objs.size (bindL (envOfC qual scope s.heap.objs.size f cd).kindOf (ps.zip us) λ _=>none) (cellsFrom (s.heap.objs.size+1) scope.names []) (bindC (envOfC qual scope s.heap.objs.size f cd).kindOf (ps.zip us) λ _=>none) s1) :
  Inv (ut CX P w K mg base N qual scope f cd A outer s H E) [] (start N vs) H s1:=by
 have hpl:ps.length<=N.length:=by have:=congrArg IR S.pre; rw [BV] at this; lia
 obtain ⟨h1,tk,rfl,hk⟩:=x.done
 have noA:∀ b:Addr,b∉(ut CX P w K mg base N qual scope f cd A outer s H E).ex:=λ b z=>absurd (show b∈([]:List Addr) from z) (by simp)
 refine ⟨⟨e0.mod,S.kind,rfl,rfl,BD _,λ y z c h1 h2=>?_,λ y hy=>?_,λ y c _ h=>?_,λ _=>hd,Around.frames_deeper e0.frames,.inr ⟨rfl,rfl⟩,λ b z=>absurd z (noA b),e0.bs,e0.bsz,λ b _ _=>noA b,λ b z=>absurd z (noA b),e0.funs,e0.frf⟩,
  rfl,e0.bare,Un.kept hk,⟨_,x.toInCall.ns,λ i y v h1 h2 h3=>?_⟩,λ y c h=>⟨_,x.cell y c h⟩,e0.hok.fresh (BD _),λ y c h=>?_,λ p hp=>absurd (show p∈([]:List (Addr×Obj)) from hp) (by simp),e0.hok.kept hk,?_⟩
 ·exact name_of_addr x.apart (D2 h1) (D2 h2)
 ·have hy:scope.names.lookup y=some .cell\/scope.names.lookup y=some .free:=hy
  rcases hy with hy | hy
  ·exact lm hy
  ·exact absurd rfl (S.nofree _ (D2 hy))
 ·exact DH (x.above y c (D2 h))
 ·have hi:i<vs.length:=by
   unfold start at h2
   by_cases hi:i<vs.length
   ·exact hi
   ·rw [B2 (by simpa using hi)] at h2
    rw [Fj] at h2
    split at h2<;>cases h2
  have ha:vs[i]? = some v:=by
   unfold start at h2
   rw [BX (by simpa using hi),BI] at h2
   cases e:vs[i]? with
   | none=>rw [e] at h2; cases h2
   | some a=>rw [e] at h2; cases h2; rfl
  obtain ⟨u,hu,rv⟩:=r.get ha
  have hp:ps[i]? = some y:=by
   rw [<-S.pre,Fa (by lia)]; exact h1
  have ndP:ps.Nodup:=by rw [<-S.pre]; exact S.nd.sublist (EI _ _)
  refine ⟨u,rv,?_⟩
  rcases S.par y (Ch hp) with k | k
  ·exact .inl ⟨k,jx ndP hp hu k⟩
  ·obtain ⟨c,e⟩:=lm (n:=s.heap.objs.size+1) k
   refine .inr ⟨.inl k,c,e,?_⟩
   have q:=x.cell y c e
   rw [jy ndP hp hu (by show scope.names.lookup y≠_; rw [k]; decide)] at q
   exact q
 ·exact e0.hok.fresh (DH (x.above y c (D2 h)))
 ·unfold start
  show _=N.length
  rw [BO,By,ES]
  lia
theorem zm {CX:CXT} {P:Program} {w:World} {K:BA} {mg:Str->Option Value} {base:Heap} {k:Nat} {f:Addr} {name qual:Str} {params:Arguments} {body:List Stmt} {scope:Scope} {dV kV doc pm cdv ct oc:Value} {an od:Option Addr}
  {osl:Array (Option Value)} {N ps:List Str} {sp:Sp} (lk:K.lookup f=some ⟨oc,od,.func (ET name qual params body scope dV kV doc pm an cdv ct),osl⟩) (hcd:FV K cdv qual=true) (S:FnScope N ps scope)
  (len:∀ vs H Q E,sp vs H Q E->vs.length=ps.length)
  (hbody:∀ (A:Around) (outer:List Env) (s:Shared) (H:Hp) (vs:List V) (Q:VK) (E:XK),Room k (A.deeper (envOfC qual scope s.heap.objs.size f cdv))->sp vs H Q E->
   ∃ t,PSs (ut CX P w K mg base N qual scope f cdv A outer s H E) body t/\t { nx:=λ _ H'=>Q .non H',rt:=Q } (start N vs) H) :
  FnOk P w K mg base CX (k+1) f (ET name qual params body scope dV kV doc pm an cdv ct) ps sp:=by
 refine ⟨len,λ A outer s H args us vs Q E hr e0 hb r hsp=>?_⟩
 have hl:=len _ _ _ _ hsp
 have KX:K.In s.heap:=e0.mod.kin.keeps λ b o e=>(e0.bs b o e).1
 have lim:s.heap.NoLimit:=e0.mod.nolimit.keeps λ b o e=>(e0.bs b o e).1
 have hkind:∀ y∈ps.zip us,scope.names.lookup y.1=some .local\/(scope.names.lookup y.1=some .cell/\((cellsFrom (s.heap.objs.size+1) scope.names []).lookup y.1).isSome=true):=λ⟨n,v⟩ hy=>by
  rcases S.par n (G6 hy).1 with q | q
  ·exact .inl q
  ·exact .inr ⟨q,Hd _ _ _ (.inl q)⟩
 refine codeAny_call_function hr.depth (KX _ _ lk) rfl S.co S.gen rfl (PySem.W.codeRec_of KX hcd) (hb _ _ _ _ ?_)
 refine wpAny_newFunctionEnv_cells S.kind hkind λ env he s1 x=>?_
 subst he
 refine ⟨lim.keeps x.toInCall.keep,codeAny_func ?_⟩
 obtain ⟨t,ht,hq⟩:=hbody A outer s H vs Q E (hr.deeper _) hsp
 have I:Inv (ut CX P w K mg base N qual scope f cdv A outer s H E) [] (start N vs) H s1:=nJ S hr.hd e0 hl r x
 refine wpAny_mono (ht [] s1 (start N vs) H _ I hq) (λ fl s' hs=>?_) λ e s' hs=>hs
 have fin:∀ {σ':St} {H':Hp} {v:V} {u:Value},Inv (ut CX P w K mg base N qual scope f cdv A outer s H E) [] σ' H' s'->RelV v u->Q v H'->CE outer P w H s Q u s':=
  λ {σ' H' v u} J rv q=>⟨v,H',J.os,J.bare,J.base,J.hok,rv,q⟩
 cases fl with
 | ret u=>
  obtain ⟨v,σ',H',J,rv,q⟩:=hs
  exact fin J rv q
 | next=>
  obtain ⟨σ',H',J,q⟩:=hs
  exact fin (v:=V.non) (u:=CC) J rfl q
 | brk=>
  obtain ⟨_,_,_,q⟩:=hs
  exact Ec q
 | cont=>
  obtain ⟨_,_,_,q⟩:=hs
  exact Ec q
section
variable {X:Cx} {x:Str} {p pos:Pos} {e:Expr} {es:List Expr} {t:TA} {id T:String} {r:List V->Hp->VK->Prop}
noncomputable def tCB (r:List V->Hp->VK->Prop) (t:TA):TE:=λ σ H Q=>t σ H λ vs H1=>r vs H1 Q
theorem qC (hc:bU X (.builtin id) r) (hg:Gl X x) (hm:X.mg x=none) (hv:bootBuiltins x=some (.builtin id)) (ha:PA X (e::es) t) (hn:x≠"__name__":=by decide) (hdb:(x == ("__debug__" : Str))=false:=by decide)
  (he:starEach (e::es) X.env=(false,eval e X.env)::starEach es X.env:=by rfl) (hpl:(backTo pos (starEach es X.env)).any (·.1)=false:=by rfl):PE X (.Call (.Name x p) (e::es) [] pos) (tCB r t):=by
 intro pins s σ H Q I h
 refine wpAny_Call_Name_kw (dv I hg hm hv ?_ hn hdb)
 exact Jm (thn (ha pos pins s σ H _ I h) λ us s1 ⟨vs,H1,I1,r1,q1⟩=>hc pins s1 σ H1 vs us Q I1 r1 q1) he hpl
theorem nK (hc:bU X (.type T) r) (hg:Gl X x) (hm:X.mg x=none) (hv:bootBuiltins x=some (.type T)) (ha:PA X (e::es) t) (hn:x≠"__name__":=by decide) (hdb:(x == ("__debug__" : Str))=false:=by decide)
  (he:starEach (e::es) X.env=(false,eval e X.env)::starEach es X.env:=by rfl) (hpl:(backTo pos (starEach es X.env)).any (·.1)=false:=by rfl):PE X (.Call (.Name x p) (e::es) [] pos) (tCB r t):=by
 intro pins s σ H Q I h
 refine wpAny_Call_Name_kw (dv I hg hm hv ?_ hn hdb)
 exact C0 (thn (ha pos pins s σ H _ I h) λ us s1 ⟨vs,H1,I1,r1,q1⟩=>hc pins s1 σ H1 vs us Q I1 r1 q1) he hpl
end
end L2
open L2.SqL renaming of→Lx
open L2.SqT renaming of→Ly
open L2.V renaming int→Lz,ref→LD
open PySem PySem.Spec PyProof.Rows L2
variable {Q:Value->Shared->Prop} {vs us its:List Value} {n j t' c k i tk b f m B ep:Nat} {vl vu u:Value} {sl l a z i1 i2:Addr} {items:Array Value} {xs ys:List V} {σ:L2.St} {pins:List (Addr×Obj)} {h h0:Heap} {x qual:Str} {P:Program} {X:Cx} {H1 H':Hp} {o:HO} {v y:V} {fp ch qs ps ds:List Addr} {te to ta:TE} {g:TG} {wi:TI} {pos pos' py:Pos} {elt iter:Expr} {tb:TS} {scope:Scope} {ms ks:List Int} {tc:TT} {cs row r:List Nat} {D:Ends} {lk:Bool}
namespace HT
open PySem PyProof.Rows
noncomputable def bD:List Int->List Int->Bool
 | [],[]=>false
 | [],_::_=>true
 | _::_,[]=>false
 | x::xs,y::ys=>if x=y then bD xs ys else decide (x<y)
theorem cr (x y:Int) (xs ys:List Int):bD (x::xs) (y::ys)=if x=y then bD xs ys else decide (x<y):=rfl
theorem iG:bD [] []=false:=rfl
theorem hJ (y:Int) (ys:List Int):bD [] (y::ys)=true:=rfl
theorem hV (x:Int) (xs:List Int):bD (x::xs) []=false:=rfl
theorem qD (A:Around) (s:Shared) (a:Int) (t:Tok) (c:Int) (u:Tok):∃ e,KS A s (.int a t) (.int c u) e/\(e=true↔a=c):=
 ⟨(a == c),Ij a t c u,by simp⟩
theorem qE (A:Around) (s:Shared) (a:Int) (t:Tok) (c:Int) (u:Tok) (prog:Program) (w:World) (E:Value->Shared->Prop) (Q:Value->Shared->Prop) (h:Q (.bool (decide (a<c))) s) :
  wpAny (model prog w) A (richCompare .Lt (.int a t) (.int c u)) Q E s:=
 (K0 h:wpAny (model prog w) A (compareOp .Lt (.int a t) (.int c u)) Q E s)
section
open PySem.SeqAt
open PySem.AutoSeq1 (wpAny_loadPart')
open PySem.MeetsSeq PySem.MeetsSeq2 PySem.MeetsSeq3
theorem iH (l b:Addr) (items items2:Array Value) (n n2:Nat) (dd dd2:Option Addr) (sl sl2:Array (Option Value)) (ns ms:List Int) (hi:IntsAre items.toList ns) (hj:IntsAre items2.toList ms) :
  Meets (Builtin.«tuple.__lt__» ⟨[.ref l,.ref b],[]⟩)
   (λ _ R s=>s.heap.get? l=some { cls:=.type "tuple",dict:=dd,data:=.seq items n,slots:=sl }/\s.heap.get? b=some { cls:=.type "tuple",dict:=dd2,data:=.seq items2 n2,slots:=sl2 }/\
    R (.ok (.ret (.bool (bD ns ms)))) s):=
 .of_wp λ prog w A R s h=>by
  obtain ⟨hp,g,d,tk,os⟩:=s; obtain ⟨hl,hb,h⟩:=h
  have f2:=Kt
  have z1:items.size=ns.length:=by rw [<-hi.length]; simp
  have z2:items2.size=ms.length:=by rw [<-hj.length]; simp
  wp_walk using wpAny_loadPart' hl,wpAny_loadPart' hb,wpAny_forIn_list _ (λ rest b s'=>b.1=none/\s'=⟨hp,g,d,tk,os⟩/\∃ (vs ws:List Value) (ns' ms':List Int),rest=vs.zip ws/\
   IntsAre vs ns'/\IntsAre ws ms'/\ns'.length+items2.size=ms'.length+items.size/\R (.ok (.ret (.bool (bD ns' ms')))) ⟨hp,g,d,tk,os⟩) _
  case turn=>
   rintro ⟨y,x⟩ rest b s' ⟨hb',rfl,vs,ws,ns',ms',hz,hvi,hwi,hlen,hR⟩
   cases hvi with
   | nil=>rw [II] at hz; cases hz
   | cons a t hvi'=>
    cases hwi with
    | nil=>rw [Ik] at hz; cases hz
    | cons c u hwi'=>
     rw [Gb] at hz
     injection hz with hyx hrest
     injection hyx with hy hx
     subst hy hx
     rw [cr] at hR
     simp only [Ci] at hlen
     obtain ⟨e,he,hiff⟩:=qD A.in1 ⟨hp,g,d,tk,os⟩ a t c u
     refine wpAny_bind (he prog w _ _ ?_)
     cases e with
     | true=>
      rw [if_pos (hiff.mp rfl)] at hR
      wp_walk
      exact ⟨rfl,rfl,_,_,_,_,hrest,hvi',hwi',by lia,hR⟩
     | false=>
      rw [if_neg (λ q=>absurd (hiff.mpr q) BW)] at hR
      have hri:=qE A.in1 ⟨hp,g,d,tk,os⟩ a t c u prog w
      wp_walk using hri
      exact ⟨_,rfl,by simpa using hR⟩
  case fin=>
   rintro ⟨b1,b2⟩ s' ⟨hb',rfl,vs,ws,ns',ms',hz,hvi,hwi,hlen,hR⟩
   simp only at hb'
   subst hb'
   have hv:bD ns' ms'=decide (items.size<items2.size):=by
    cases hvi with
    | nil=>
     cases hwi with
     | nil=>
      simp only [Dh] at hlen
      rw [iG]
      exact (decide_eq_false (by lia)).symm
     | cons c u hw=>
      simp only [Dh,Ci] at hlen
      rw [hJ]
      exact (decide_eq_true (by lia)).symm
    | cons a t hv=>
     cases hwi with
     | nil=>
      simp only [Dh,Ci] at hlen
      rw [hV]
      exact (decide_eq_false (by lia)).symm
     | cons c u hw=>
      rw [Gb] at hz
      cases hz
   rw [hv] at hR
   wp_walk
   exact ⟨_,rfl,by simpa [Jk] using hR⟩
  case h=>
   exact ⟨rfl,rfl,items.toList,items2.toList,ns,ms,rfl,hi,hj,by lia,h⟩
end
section
variable {prog:Program} {w:World} {A:Around} {E:Value->Shared->Prop} {s:Shared}
theorem uu {t b:Addr} {ws:List Value} (ht:IsTup s.heap t vs.toArray) (hb:IsTup s.heap b ws.toArray) (hv:vs≠[])
  (h1:ws=[]->Q (.ref t) s) (h2:ws≠[]->Q (.ref s.heap.objs.size) { s with heap:=s.heap.push { cls:=.type "tuple",data:=.seq (vs++ws).toArray } })
  (hsz:vs.length+ws.length<=sizeLine):wpAny (model prog w) A (binaryOp .Add (.ref t) (.ref b)) Q E s:=by
 obtain ⟨⟨cls,dd,data,sl⟩,ho,hc,n,hd⟩:=id ht
 obtain ⟨⟨cls2,dd2,data2,sl2⟩,ho2,hc2,n2,hd2⟩:=id hb
 simp only at hc hd hc2 hd2
 subst hc hd hc2 hd2
 have e:vs.toArray++ws.toArray=(vs++ws).toArray:=by simp
 by_cases hw:ws=[]
 ·exact concat_meets ⟨_,ho,rfl⟩ ⟨_,ho2,rfl⟩ noFill_tuple_add seq_tuple_add Fq Fk (Fb _ _)
   (tuple_addW1 t b vs.toArray ws.toArray n n2 dd dd2 sl sl2 (by simpa using hv) (by simp [hw])) ⟨ho,ho2,h1 hw⟩
 ·refine concat_meets ⟨_,ho,rfl⟩ ⟨_,ho2,rfl⟩ noFill_tuple_add seq_tuple_add Fq Fk (Fb _ _)
   (tuple_addW2 t b vs.toArray ws.toArray n n2 dd dd2 sl sl2 (by simpa using hv) (by simpa using hw) (by rw [BQ,BQ]; exact hsz)) ⟨ho,ho2,?_⟩
  rw [e]
  exact h2 hw
noncomputable def sIx (n d:Nat):Option Int->Nat
 | none=>d
 | some v=>if v<0 then (v+(n:Int)).toNat else min v.toNat n
theorem eD (n d:Nat):sIx n d none=d:=rfl
theorem fh (n d k:Nat):sIx n d (some (k:Int))=min k n:=by
 show (if (k:Int)<0 then ((k:Int)+(n:Int)).toNat else min (k:Int).toNat n)=min k n
 rw [if_neg (by lia),CT]
theorem wU (n d:Nat) (hd:d<=n) (o:Option Int):sIx n d o<=n:=by
 cases o with
 | none=>exact hd
 | some v=>
  show (if v<0 then (v+(n:Int)).toNat else min v.toNat n)<=n
  by_cases hv:v<0
  ·rw [if_pos hv]; lia
  ·rw [if_neg hv]; exact Nat.min_le_right _ _
theorem nL (v:Int) (n d:Nat):(if v<0 then max (v+(n:Int)) 0 else min v (n:Int))=((sIx n d (some v):Nat):Int):=by
 show (if v<0 then max (v+(n:Int)) 0 else min v (n:Int))=(((if v<0 then (v+(n:Int)).toNat else min v.toNat n):Nat):Int)
 by_cases hv:v<0
 ·simp only [if_pos hv]; lia
 ·simp only [if_neg hv]; lia
theorem mH (lo hi:Option Int) (n:Nat):E3 lo hi 1 (n:Int)=(((sIx n 0 lo:Nat):Int),((sIx n n hi:Nat):Int)):=by
 have h1:¬ ((1:Int)<0):=by lia
 unfold E3
 simp only [h1,if_false]
 refine Prod.ext ?_ ?_
 ·cases lo with
  | none=>rfl
  | some v=>exact nL v n 0
 ·cases hi with
  | none=>rfl
  | some v=>exact nL v n n
theorem mI (i j:Nat):Ed (i:Int) (j:Int) 1=j - i:=by
 unfold Ed
 have h1:(1:Int) > 0:=by lia
 simp only [h1,if_true,Int.ediv_one]
 split<;>lia
theorem ii {v:Value} {o:Option Int} {Q:Option Int->Shared->Prop} (p:IsPart v o) (h:Q o s):wpAny (model prog w) A (JB v) Q E s:=by
 cases p with
 | none=>exact slicePart_none h
 | int i t=>exact slicePart_int h
theorem dj {lo hi:Option Int} {Q:Int×Int×Nat->Shared->Prop} (hs:s.heap.IsSliceOf sl vl vu .none) (pl:IsPart vl lo) (pu:IsPart vu hi)
  (h:Q (((sIx n 0 lo:Nat):Int),1,sIx n n hi - sIx n 0 lo) s):wpAny (model prog w) A (Gq (.ref sl) (pure (n:Int))) Q E s:=by
 obtain ⟨os,hos,hcs,hds⟩:=id hs
 unfold Gq Kc
 refine wpAny_bind (wpAny_bind (wpAny_field hos hds (x:=vl) rfl (wpAny_bind (wpAny_field hos hds (x:=vu) rfl (wpAny_bind (wpAny_field hos hds (x:=.none) rfl (wpAny_pure ?_)))))))
 refine wpAny_bind (slicePart_none ?_)
 show wpAny _ _ (if ((1:Int) == 0)=true then _ else _) _ _ s
 rw [if_neg (by decide)]
 refine wpAny_bind (ii pl (wpAny_bind (ii pu (wpAny_bind (wpAny_pure ?_)))))
 show wpAny _ _ (match E3 lo hi 1 (n:Int) with | (lo,hi)=>pure (lo,(1:Int),Ed lo hi 1)) _ _ s
 rw [mH lo hi n]
 show wpAny _ _ (pure (((sIx n 0 lo:Nat):Int),(1:Int),Ed ((sIx n 0 lo:Nat):Int) ((sIx n n hi:Nat):Int) 1)) _ _ s
 rw [mI]
 exact wpAny_pure h
theorem qF (xs:Array Value) (i k:Nat):((BC k).filterMap λ (m:Nat)=>xs[((i:Int)+(m:Int)*1).toNat]?).toArray=((xs.toList.drop i).take k).toArray:=by
 have e:(λ (m:Nat)=>xs[((i:Int)+(m:Int)*1).toNat]?)=λ m=>xs[i+m]?:=by
  funext m
  have:((i:Int)+(m:Int)*1).toNat=i+m:=by lia
  rw [this]
 rw [e]
 have:=pick_run xs i k
 rw [Il] at this
 have e2:((λ x=>xs[x]?)∘λ x=>i+x)=λ m=>xs[i+m]?:=rfl
 rw [e2] at this
 rw [this]
theorem fi {t:Addr} {lo hi:Option Int} (ht:IsTup s.heap t items) (hs:s.heap.IsSliceOf sl vl vu .none) (pl:IsPart vl lo) (pu:IsPart vu hi)
  (hw:¬ (sIx items.size 0 lo=0/\sIx items.size items.size hi=items.size))
  (h:Q (.ref s.heap.objs.size) { s with heap:=s.heap.push { cls:=.type "tuple",data:=.seq ((items.toList.drop (sIx items.size 0 lo)).take (sIx items.size items.size hi - sIx items.size 0 lo)).toArray } })
  (hsz:items.size<=sizeLine):wpAny (model prog w) A (getItem (.ref t) (.ref sl)) Q E s:=by
 have htake:sizeOk (.seq ((items.toList.drop (sIx items.size 0 lo)).take (sIx items.size items.size hi - sIx items.size 0 lo)).toArray):=by
  show ((items.toList.drop (sIx items.size 0 lo)).take (sIx items.size items.size hi - sIx items.size 0 lo)).toArray.size<=sizeLine
  rw [BQ,BV,Cr,BP]
  lia
 have hj:sIx items.size items.size hi<=items.size:=wU _ _ (BD _) hi
 obtain ⟨os,hos,hcs,hds⟩:=id hs
 have hTs:s.TypeIs (.ref sl) "slice":=⟨os,hos,hcs⟩
 unfold getItem
 try with_reducible refine wpAny_holding ?_
 first | refine wpAny_bind (wpAny_pure ?_) | skip
 refine wpAny_bind (wpAny_sequenceKey ht.typeIs (by decide) ?_)
 refine wpAny_bind (wpAny_callSpecial?_slot (name:=DR "__getitem__") ht.typeIs C8
  (wpAny_call_entry C8 ht.typeIs entry_tuple_getitem ?_ (args_tuple_getitem _ _)))
 show wpAny _ _ (Gr (.ref t) >>= _) _ _ s
 refine wpAny_bind (tupleItemsOf_ ht ?_)
 refine wpAny_bind (wpAny_typeOf hTs ?_)
 rw [if_pos (by decide)]
 refine wpAny_bind (dj hs pl pu ?_)
 have hno:¬ ((((sIx items.size 0 lo:Nat):Int) == 0 && (1:Int) == 1 && (sIx items.size items.size hi - sIx items.size 0 lo) == items.size)=true):=by
  intro q
  rw [CI,CI] at q
  have q1:((sIx items.size 0 lo:Nat):Int)=0:=eq_of_beq q.1.1
  have q2:sIx items.size items.size hi - sIx items.size 0 lo=items.size:=eq_of_beq q.2
  exact hw ⟨by lia,by lia⟩
 show wpAny _ _ (if (((sIx items.size 0 lo:Nat):Int) == 0 && (1:Int) == 1 && (sIx items.size items.size hi - sIx items.size 0 lo) == items.size)=true then _ else _) _ _ s
 rw [if_neg hno,qF]
 first
  | exact wpAny_bind (m:=Ei _) (wpAny_newObj_type (wpAny_pure ⟨_,rfl,wpAny_pure h⟩) htake)
  | exact wpAny_bind (m:=Ei _) (wpAny_newObj_type (wpAny_bind (wpAny_pure (wpAny_pure ⟨_,rfl,wpAny_pure h⟩))) htake)
  | exact wpAny_bind (wpAny_bind (m:=Ei _) (wpAny_newObj_type (wpAny_pure (wpAny_pure ⟨_,rfl,wpAny_pure h⟩)) htake))
  | exact wpAny_bind (wpAny_bind (m:=Ei _) (wpAny_newObj_type (wpAny_pure ⟨_,rfl,wpAny_pure h⟩) htake))
end
end HT
namespace L2
open PySem PySem.Spec PyProof.Rows
noncomputable abbrev TO:=St->Hp->(Option Int->Hp->Prop)->Prop
noncomputable def PO (X:Cx) (e:Option Expr) (t:TO):Prop:=
 ∀ (pins:List (Addr×Obj)) (s:Shared) (σ:St) (H:Hp) (Q:Option Int->Hp->Prop),Inv X pins σ H s->t σ H Q->
  wpAny (model X.prog X.w) X.A (evalPart e X.env) (λ u s'=>∃ o H',Inv X pins σ H' s'/\IsPart u o/\Q o H') X.xe s
noncomputable def kq:TO:=λ _ H Q=>Q none H
noncomputable def uv (t:TE):TO:=λ σ H Q=>t σ H λ x H1=>∃ i,x=.int i/\Q (some i) H1
theorem cu {ns:List Int}:∀ {us:List Value},Vals (ns.map Lz) us->IntsAre us ns:=by
 induction ns with
 | nil=>intro us r; rw [Im] at r; cases r; exact .nil
 | cons n ns ih=>
  intro us r
  rw [Cs] at r
  cases r with
  | cons r1 r2=>
   obtain ⟨t,e⟩:=r1
   subst e
   exact .cons n t (ih r2)
section
variable {X:Cx} {e:Expr} {te:TE} {lo hi:Option Expr} {tl th:TO} {pos p2:Pos}
theorem uw:PO X none kq:=by
 intro pins s σ H Q I h
 rw [evalPart_none]
 exact wpAny_pure ⟨none,H,I,.none,h⟩
theorem ux (h:PE X e te):PO X (some e) (uv te):=by
 intro pins s σ H Q I hw
 rw [evalPart_some]
 refine thn (h pins s σ H _ I hw) λ u s1 ⟨x,H1,I1,r1,q1⟩=>?_
 obtain ⟨i,rfl,q⟩:=q1
 obtain ⟨t,rfl⟩:=r1
 exact ⟨some i,H1,I1,.int i t,q⟩
noncomputable def SlR (X:Cx) (r:V->Option Int->Option Int->Hp->VK->Prop):Prop:=
 ∀ (pins:List (Addr×Obj)) (s:Shared) (σ:St) (H:Hp) (x:V) (v vl vu:Value) (lo hi:Option Int) (sl:Addr) (Q:VK),Inv X pins σ H s->RelV x v->s.heap.IsSliceOf sl vl vu .none->IsPart vl lo->IsPart vu hi->r x lo hi H Q->
  ∃ T id,typeLookup (.type T) "__getitem__" = pure (some (.builtin id))/\s.TypeIs v T/\wpAny (model X.prog X.w) X.A (getItem v (.ref sl)) (EP X pins σ Q) X.xe s
noncomputable def tSl (r:V->Option Int->Option Int->Hp->VK->Prop) (te:TE) (tl th:TO):TE:=λ σ H Q=>te σ H λ x H1=>tl σ H1 λ l H2=>th σ H2 λ u H3=>r x l u H3 Q
theorem qG {r:V->Option Int->Option Int->Hp->VK->Prop} (hr:SlR X r) (he:PE X e te) (hl:PO X lo tl) (hu:PO X hi th):PE X (.Subscript e (.Slice lo hi none p2) pos) (tSl r te tl th):=by
 intro pins s σ H Q I h
 refine Subscript_ (thn (he pins s σ H _ I h) λ v s1 ⟨x,H1,I1,r1,q1⟩=>?_)
 refine wpAny_Slice (thn (hl pins s1 σ H1 _ I1 q1) λ vl s2 ⟨l,H2,I2,pl,q2⟩=>thn (hu pins s2 σ H2 _ I2 q2) λ vu s3 ⟨u,H3,I3,pu,q3⟩=>?_)
 rw [evalPart_none]
 refine wpAny_pure ?_
 have I4:Inv X pins σ H3 { s3 with heap:=s3.heap.push { cls:=.type "slice",data:=.fields #[vl,vu,.none] } }:=I3.kept (t':=s3.toks) λ b ob q=>BB _ q
 obtain ⟨T,id,hT,ht,hg⟩:=hr pins { s3 with heap:=s3.heap.push { cls:=.type "slice",data:=.fields #[vl,vu,.none] } } σ H3 x v vl vu l u s3.heap.objs.size Q I4 r1 (Gc ..) pl pu q3
 show wpAny (model X.prog X.w) X.A (subscriptTail e (.Slice lo hi none p2) v (.ref s3.heap.objs.size)) (EP X pins σ Q) X.xe { s3 with heap:=s3.heap.push { cls:=.type "slice",data:=.fields #[vl,vu,.none] } }
 exact tail_any (ops:=[.ref s3.heap.objs.size,v]) ht hT hg (by with_unfolding_all rfl)
noncomputable def ki (xs:List V) (lo hi:Option Int):List V:=(xs.drop (HT.sIx xs.length 0 lo)).take (HT.sIx xs.length xs.length hi - HT.sIx xs.length 0 lo)
theorem gv (xs:List V) (lo hi:Option Int):(ki xs lo hi).length<=xs.length:=by
 unfold ki
 rw [BV,Cr]
 lia
noncomputable def Ar (K:BA):V->Option Int->Option Int->Hp->VK->Prop:=λ x lo hi H Q=>∃ a xs,x=.ref a/\SqT K H a xs/\
 ¬ (HT.sIx xs.length 0 lo=0/\HT.sIx xs.length xs.length hi=xs.length)/\∀ p,H p=none->Q (.ref p) (upd H p (.tup (ki xs lo hi)))
theorem su:SlR X (Ar X.K):=by
 intro pins s σ H x v vl vu lo hi sl Q I rx hs pl pu h
 obtain ⟨a,xs,rfl,hx,hw,q⟩:=h
 cases rx
 obtain ⟨its,r,ht,hz⟩:=I.tuple hx
 have hlen:its.toArray.size=xs.length:=by rw [BQ]; exact r.length.symm
 refine ⟨"tuple",_,C8.lookup,ht.typeIs,?_⟩
 refine HT.fi ht hs pl pu (by rw [hlen]; exact hw) ?_ (by rw [hlen]; exact hz)
 rw [hlen]
 refine ⟨.ref s.heap.objs.size,_,I.laid (t':=s.toks) (o:=.tup (ki xs lo hi)) (λ b ob q=>BB _ q) (BD _) ?_,rfl,q _ (I.hok.fresh (BD _))⟩
 exact ⟨CM (gv xs lo hi) hz,_,(r.drop (HT.sIx xs.length 0 lo)).take (HT.sIx xs.length xs.length hi - HT.sIx xs.length 0 lo),Ih _ _⟩
noncomputable def zn (K:BA):R2:=λ x y H Q=>∃ a b xs ys,x=.ref a/\y=.ref b/\SqT K H a xs/\SqT K H b ys/\xs≠[]/\xs.length+ys.length<=sizeLine/\
 (ys=[]->Q (.ref a) H)/\(ys≠[]->∀ p,H p=none->Q (.ref p) (upd H p (.tup (xs++ys))))
theorem Vals.nil_iff (r:Vals xs us):us=[]↔xs=[]:=by
 cases r with
 | nil=>simp
 | cons _ _=>simp
theorem uy:OpR X (binaryOp .Add) (zn X.K):=by
 intro pins s σ H x y v u Q I rx ry h
 obtain ⟨a,b,xs,ys,rfl,rfl,ha,hb,hx,hz,q1,q2⟩:=h
 cases rx
 cases ry
 obtain ⟨its,r1,p1,_⟩:=I.tuple ha
 obtain ⟨its2,r2,p2,_⟩:=I.tuple hb
 refine HT.uu p1 p2 (λ z=>hx (r1.nil_iff.mp z)) (λ z=>⟨.ref a,H,I,rfl,q1 (r2.nil_iff.mp z)⟩) (λ z=>?_) (by rw [<-r1.length,<-r2.length]; exact hz)
 refine ⟨.ref s.heap.objs.size,_,I.laid (t':=s.toks) (o:=.tup (xs++ys)) (λ b ob q=>BB _ q) (BD _) ?_,rfl,q2 (λ w=>z (r2.nil_iff.mpr w)) _ (I.hok.fresh (BD _))⟩
 exact ⟨by rw [BO]; exact hz,_,r1.append r2,Ih _ _⟩
end
noncomputable def ixN (n:Nat) (i:Int):Option Nat:=if 0<=i then (if i<n then some i.toNat else none) else if -(n:Int)<=i then some (i+n).toNat else none
noncomputable def atI {α:Type} (xs:List α) (i:Int):Option α:=(ixN xs.length i).bind λ j=>xs[j]?
theorem nM {i:Int} (h:ixN n i=some j):seqIndex? i n=some j/\j<n/\-(n:Int)<=i/\i<n:=by
 unfold ixN at h
 by_cases h0:0<=i
 ·rw [if_pos h0] at h
  by_cases h1:i<n
  ·rw [if_pos h1] at h
   have e:i.toNat=j:=CG h
   exact ⟨by rw [seqIndex_of h0 h1,e],by lia,by lia,h1⟩
  ·rw [if_neg h1] at h; cases h
 ·rw [if_neg h0] at h
  by_cases h1:-(n:Int)<=i
  ·rw [if_pos h1] at h
   have e:(i+n).toNat=j:=CG h
   exact ⟨by rw [seqIndex_neg (by lia) h1,e],by lia,h1,by lia⟩
  ·rw [if_neg h1] at h; cases h
theorem kr {α:Type} {xs:List α} {i:Int} {v:α} (h:atI xs i=some v):∃ j,seqIndex? i xs.length=some j/\xs[j]? = some v/\j<xs.length/\-(xs.length:Int)<=i/\i<xs.length:=by
 unfold atI at h
 cases e:ixN xs.length i with
 | none=>rw [e] at h; cases h
 | some j=>
  rw [e] at h
  obtain ⟨h1,h2,h3,h4⟩:=nM e
  exact ⟨j,h1,h,h2,h3,h4⟩
theorem bv {α:Type} {xs:List α} {v:α} (h:xs[j]? = some v):atI xs (j:Int)=some v:=by
 have hj:j<xs.length:=(BZ.mp h).1
 have e:ixN xs.length (j:Int)=some j:=by
  unfold ixN
  rw [if_pos (by lia),if_pos (by lia)]; simp
 unfold atI; rw [e]; exact h
noncomputable def nN (b:Expr):Prop:=∀ o i,subscripted b false o i=operate [o,i] (getItem o i)
noncomputable def IxR (X:Cx) (r:R2):Prop:=
 ∀ (value slice:Expr) (pins:List (Addr×Obj)) (s:Shared) (σ:St) (H:Hp) (x y:V) (v u:Value) (Q:VK),Inv X pins σ H s->RelV x v->RelV y u->r x y H Q->
  subscripted slice false v u=operate [v,u] (getItem v u)->wpAny (model X.prog X.w) X.A (subscriptTail value slice v u) (EP X pins σ Q) X.xe s
noncomputable def MtR (X:Cx) (id:String) (r:V->List V->Hp->VK->Prop):Prop:=
 ∀ (pins:List (Addr×Obj)) (s:Shared) (σ:St) (H:Hp) (x:V) (xs:List V) (v:Value) (us:List Value) (Q:VK),Inv X pins σ H s->RelV x v->Vals xs us->r x xs H Q->
  wpAny (model X.prog X.w) X.A (call (.builtin id) (v::us)) (EP X pins σ Q) X.xe s
section
variable {X:Cx} {a b:Expr} {ta tb:TE} {pos:Pos}
theorem IxR.or {r r':R2} (h:IxR X r) (h':IxR X r'):IxR X (λ x y H Q=>r x y H Q\/r' x y H Q):=by
 intro value slice pins s σ H x y v u Q I rx ry q hs
 rcases q with q | q
 ·exact h value slice pins s σ H x y v u Q I rx ry q hs
 ·exact h' value slice pins s σ H x y v u Q I rx ry q hs
theorem zo {r:R2} (hr:IxR X r) (ha:PE X a ta) (hb:PE X b tb) (hs:nN b):PE X (.Subscript a b pos) (tOp r ta tb):=by
 intro pins s σ H Q I h
 exact Subscript_ (za ha hb I h λ v u s2 x y H2 I2 rx ry q=>hr a b pins s2 σ H2 x y v u Q I2 rx ry q (hs _ _))
noncomputable def wV (K:BA):R2:=λ x y H Q=>∃ p xs i v,x=.ref p/\y=.int i/\SqL K H p xs/\atI xs i=some v/\Q v H
noncomputable def wW (K:BA):R2:=λ x y H Q=>∃ p xs i v,x=.ref p/\y=.int i/\SqT K H p xs/\atI xs i=some v/\Q v H
noncomputable def As:R2:=λ x y H Q=>∃ z i c,x=.str z/\y=.int i/\z.length<=sizeLine/\atI z.cps.toList i=some c/\Q (.str ⟨#[c]⟩) H
theorem ix_list:IxR X (wV X.K):=by
 intro value slice pins s σ H x y v u Q I rx ry h hs
 obtain ⟨p,xs,i,z,rfl,rfl,hq,he,q⟩:=h
 cases rx
 obtain ⟨t,rfl⟩:=ry
 obtain ⟨its,r,pl,hz⟩:=I.list hq
 obtain ⟨j,h1,h2,h3,h4,h5⟩:=kr he
 obtain ⟨w,ew,rw'⟩:=r.get h2
 have hl:=r.length
 have hn:=gu
 have fin:EP X pins σ Q w s:=⟨z,H,I,rw',q⟩
 by_cases h0:0<=i
 ·have hj:i.toNat=j:=by
   rw [seqIndex_of h0 h5] at h1
   exact CG h1
  exact item_listR pl.isList h0 (by lia) (by rw [hj]; simpa using ew) fin hs
 ·have hj:(i+(its.toArray.size:Int)).toNat=j:=by
   rw [seqIndex_neg (by lia) h4] at h1
   rw [BQ,<-hl]
   exact CG h1
  exact subscriptTail_builtinR (x:=w) pl.isList.typeIs slot_list_getitem.lookup
   (wpAny_getItem_list_neg (Q:=λ r s'=>r=w/\EP X pins σ Q r s') pl.isList (by lia) (by rw [BQ]<;>lia) (by lia) (by rw [hj]; simpa using ew) ⟨rfl,fin⟩) hs
theorem ix_tup:IxR X (wW X.K):=by
 intro value slice pins s σ H x y v u Q I rx ry h hs
 obtain ⟨p,xs,i,z,rfl,rfl,hq,he,q⟩:=h
 cases rx
 obtain ⟨t,rfl⟩:=ry
 obtain ⟨its,r,pl,hz⟩:=I.tuple hq
 obtain ⟨j,h1,h2,h3,h4,h5⟩:=kr he
 obtain ⟨w,ew,rw'⟩:=r.get h2
 have hl:=r.length
 have hn:=gu
 have fin:EP X pins σ Q w s:=⟨z,H,I,rw',q⟩
 exact subscriptTail_builtinR (x:=w) pl.typeIs slot_tuple_getitem.lookup
  (getItem_tuple (j:=j) (Q:=λ r s'=>r=w/\EP X pins σ Q r s') pl (by lia) (by lia) (by rw [BQ,<-hl]; exact h1) (by simpa using ew) ⟨rfl,fin⟩) hs
theorem wX:IxR X As:=by
 intro value slice pins s σ H x y v u Q I rx ry h hs
 obtain ⟨z,i,c,rfl,rfl,hz,he,q⟩:=h
 obtain ⟨t,rfl⟩:=rx
 obtain ⟨t',rfl⟩:=ry
 obtain ⟨j,h1,h2,h3,h4,h5⟩:=kr he
 have hl:z.cps.toList.length=z.length:=by simp [Str.length]
 rw [hl] at h1 h4 h5
 have hn:=gu
 exact tail_any (typeIs_str s z t) slot_str_getitem.lookup (getItem_str (c:=c) (by
  have e1:decide (i < -(2 ^ 63:Int))=false:=decide_eq_false (by lia)
  have e2:decide (i>=2 ^ 63)=false:=decide_eq_false (by lia)
  rw [e1,e2,JM]) (by rw [h1]; simpa using h2) ⟨.str ⟨#[c]⟩,H,I.tok _,⟨_,rfl⟩,q⟩) hs
noncomputable def rIx (K:BA):R2:=λ x y H Q=>wV K x y H Q\/wW K x y H Q\/As x y H Q
theorem wY:IxR X (rIx X.K):=ix_list.or (ix_tup.or wX)
theorem mJ (its:List Value) (n j:Nat) (u:Value):DA (·.setIfInBounds j u) { cls:=.type "list",data:=.seq its.toArray n }={ cls:=.type "list",data:=.seq (its.set j u).toArray n }:=by
 simp [DA]
theorem Inv.lst {pins:List (Addr×Obj)} {σ:St} {H:Hp} {s:Shared} {p:Addr} {xs:List V} (I:Inv X pins σ H s) (h:H p=some (.lst xs)) :
  ∃ (its:List Value) (n:Nat),Vals xs its/\s.heap.get? p=some { cls:=.type "list",data:=.seq its.toArray n }/\xs.length<=sizeLine:=by
 obtain ⟨z,its,n,r,e⟩:=I.hok p _ h
 exact ⟨its,n,r,e,z⟩
theorem Inv.lstUpd {H:Hp} {s:Shared} {p:Addr} {its':List Value} {n':Nat} {f:Obj->Obj} (I:Inv X pins σ H s) (h:H p=some (.lst xs))
  (ho:s.heap.get? p=some { cls:=.type "list",data:=.seq its.toArray n }) (hf:f { cls:=.type "list",data:=.seq its.toArray n }={ cls:=.type "list",data:=.seq its'.toArray n' }) (r:Vals ys its') (hz:ys.length<=sizeLine) (t:Nat) :
  Inv X pins σ (upd H p (.lst ys)) { s with heap:=s.heap.update p f,toks:=t }:=by
 have e:(s.heap.update p f).get? p=some { cls:=.type "list",data:=.seq its'.toArray n' }:=by
  rw [D8 f ho (by rw [hf]<;>rfl),hf]
 refine I.write (x:=p) (e:=p) (by rw [h]; trivial) (.inl rfl) (λ b u hb q=>(EE _ _ (DN hb)).trans q) ⟨_,e⟩ ?_
 exact ⟨hz,its',n',r,e⟩
noncomputable def nO:V->V->V->Hp->(Hp->Prop)->Prop:=λ o i v H Q=>∃ p xs k j,o=.ref p/\i=.int k/\H p=some (.lst xs)/\ixN xs.length k=some j/\Q (upd H p (.lst (xs.set j v)))
theorem ln:yX X nO:=by
 intro pins s σ H o i v ov iv u Q I ro ri rv h
 obtain ⟨p,xs,k,j,rfl,rfl,hp,hj,q⟩:=h
 cases ro
 obtain ⟨t,rfl⟩:=ri
 obtain ⟨its,n,r,ho,hz⟩:=I.lst hp
 obtain ⟨h1,h2,h3,h4⟩:=nM hj
 have hl:=r.length
 have hn:=gu
 have I':Inv X pins σ (upd H p (.lst (xs.set j v))) { s with heap:=s.heap.update p (DA (·.setIfInBounds j u)) }:=
  I.lstUpd hp ho (mJ its n j u) (r.set rv j) (by rw [List.length_set]; exact hz) s.toks
 by_cases h0:0<=k
 ·have hk:k.toNat=j:=by
   rw [seqIndex_of h0 h4] at h1
   exact CG h1
  exact PySem.W.ki_setAt ho h0 (by lia) (by rw [BQ,<-hl]; exact h4) (by rw [hk]; exact ⟨_,I',q⟩)
 ·have hk:(k+(its.toArray.size:Int)).toNat=j:=by
   rw [seqIndex_neg (by lia) h3] at h1
   rw [BQ,<-hl]
   exact CG h1
  exact PySem.W.ki_setBack ho (by lia) (by rw [BQ,<-hl]; exact h3) (by lia) (by rw [hk]; exact ⟨_,I',q⟩)
theorem jz (lo hi:Option Int) (n:Nat):(sliceBounds lo hi none n).1=((HT.sIx n 0 lo:Nat):Int)/\(sliceBounds lo hi none n).2.1=((HT.sIx n n hi:Nat):Int)/\(sliceBounds lo hi none n).2.2=1:=by
 refine ⟨?_,?_,rfl⟩
 ·cases lo with
  | none=>simp [sliceBounds,HT.sIx]
  | some i=>
   simp only [sliceBounds,HT.sIx,GN,show (1:Int) > 0 by decide,if_true]
   by_cases h:i<0
   ·simp only [h,if_true]<;>lia
   ·simp only [h,if_false]<;>lia
 ·cases hi with
  | none=>simp [sliceBounds,HT.sIx]
  | some i=>
   simp only [sliceBounds,HT.sIx,GN,show (1:Int) > 0 by decide,if_true]
   by_cases h:i<0
   ·simp only [h,if_true]<;>lia
   ·simp only [h,if_false]<;>lia
theorem iI (its:List Value) (lo hi:Option Int):slicePick its.toArray lo hi none=((its.drop (HT.sIx its.length 0 lo)).take (HT.sIx its.length its.length hi - HT.sIx its.length 0 lo)).toArray:=by
 obtain ⟨h1,h2,h3⟩:=jz lo hi its.toArray.size
 unfold slicePick
 rw [h1,h2,h3]
 simp only [sliceRange_one,pick_run,BQ]<;>rfl
noncomputable def At (K:BA):V->Option Int->Option Int->Hp->VK->Prop:=λ x lo hi H Q=>∃ a xs,x=.ref a/\SqL K H a xs/\∀ p,H p=none->Q (.ref p) (upd H p (.lst (ki xs lo hi)))
theorem uz:SlR X (At X.K):=by
 intro pins s σ H x v vl vu lo hi sl Q I rx hs pl pu h
 obtain ⟨a,xs,rfl,hx,q⟩:=h
 cases rx
 obtain ⟨its,r,ht,hz⟩:=I.list hx
 have hlen:=r.length
 refine ⟨"list",_,slot_list_getitem.lookup,ht.isList.typeIs,?_⟩
 refine wpAny_getItem_list_slice ht.isList hs pl pu .none (by simp) ?_ (by rw [BQ]<;>lia)
 rw [iI,<-hlen]
 refine ⟨.ref s.heap.objs.size,_,I.laid (t':=s.toks) (o:=.lst (ki xs lo hi)) (λ b ob q=>BB _ q) (BD _) ?_,rfl,q _ (I.hok.fresh (BD _))⟩
 exact ⟨CM (gv xs lo hi) hz,_,0,(r.drop (HT.sIx xs.length 0 lo)).take (HT.sIx xs.length xs.length hi - HT.sIx xs.length 0 lo),BU _ rfl⟩
theorem jA:bU X (.builtin "len") (λ xs H Q=>∃ p ys,xs=[.ref p]/\(SqL X.K H p ys\/SqT X.K H p ys)/\Q (.int ys.length) H):=by
 intro pins s σ H xs us Q I r h
 obtain ⟨p,ys,rfl,hq,q⟩:=h
 obtain ⟨u,rfl,rx⟩:=fN r
 cases rx
 have hn:=gu
 rcases hq with hq | hq
 ·obtain ⟨its,r',pl,hz⟩:=I.list hq
  have hlen:=r'.length
  exact Calls.call_len_list pl.isList (by simp only [BQ]<;>lia) ⟨.int ys.length,H,I.tok _,⟨s.toks+1,by rw [BQ,hlen]⟩,q⟩
 ·obtain ⟨its,r',pl,hz⟩:=I.tuple hq
  have hlen:=r'.length
  exact len_tuple pl (by simp only [BQ]<;>lia) ⟨.int ys.length,H,I.tok _,⟨s.toks+1,by rw [BQ,hlen]⟩,q⟩
theorem jB:bU X (.type "list") (λ xs H Q=>∃ p ys,xs=[.ref p]/\(SqL X.K H p ys\/SqT X.K H p ys)/\∀ l,H l=none->Q (.ref l) (upd H l (.lst ys))):=by
 intro pins s σ H xs us Q I r h
 obtain ⟨p,ys,rfl,hq,q⟩:=h
 obtain ⟨u,rfl,rx⟩:=fN r
 cases rx
 have fin:∀ (its:List Value),Vals ys its->ys.length<=sizeLine->∀ (h':Heap) (c':Nat),(∀ b o',s.heap.get? b=some o'->h'.get? b=some o')->
   h'.get? s.heap.objs.size=some { cls:=.type "list",dict:=none,data:=.seq its.toArray c',slots:=#[] }->EP X pins σ Q (.ref s.heap.objs.size) { s with heap:=h' }:=λ its r' hz h' c' kp e=>
  ⟨.ref s.heap.objs.size,_,I.laid (t':=s.toks) kp (BD _) (show ObjOk X.prog X.w _ h' _ (.lst ys) from ⟨hz,its,c',r',e⟩),rfl,q _ (I.hok.fresh (BD _))⟩
 rcases hq with hq | hq
 ·obtain ⟨its,r',pl,hz⟩:=I.list hq
  have hlen:=r'.length
  obtain ⟨o,ho,hc,n,hd⟩:=pl.isList
  exact call_list_seq p (.inl rfl) ho hc hd (λ h' c' kp e=>fin its r' hz h' c' kp e) (by simp only [BQ]<;>lia)
 ·obtain ⟨its,r',pl,hz⟩:=I.tuple hq
  have hlen:=r'.length
  obtain ⟨o,ho,hc,n,hd⟩:=pl
  exact call_list_seq p (.inr rfl) ho hc hd (λ h' c' kp e=>fin its r' hz h' c' kp e) (by simp only [BQ]<;>lia)
theorem iJ:bU X (.type "tuple") (λ xs H Q=>∃ p ys,xs=[.ref p]/\((SqL X.K H p ys/\∀ l,H l=none->Q (.ref l) (upd H l (.tup ys)))\/(SqT X.K H p ys/\Q (.ref p) H))):=by
 intro pins s σ H xs us Q I r h
 obtain ⟨p,ys,rfl,h⟩:=h
 obtain ⟨u,rfl,rx⟩:=fN r
 cases rx
 rcases h with ⟨hq,q⟩ | ⟨hq,q⟩
 ·obtain ⟨its,r',pl,hz⟩:=I.list hq
  have hlen:=r'.length
  refine call_tuple_list pl.isList (λ h' kp=>?_) (by simp only [BQ]<;>lia)
  have I1:Inv X pins σ H { s with heap:=h' }:=I.kept (t':=s.toks) kp
  have I2:Inv X pins σ (upd H h'.objs.size (.tup ys)) { s with heap:=h'.push { cls:=.type "tuple",data:=.seq its.toArray } }:=
   I1.laid (t':=s.toks) (λ b o e=>BB _ e) (BD _) (show ObjOk X.prog X.w _ _ _ (.tup ys) from ⟨hz,its,r',Ih _ _⟩)
  exact ⟨.ref h'.objs.size,_,I2,rfl,q _ (I1.hok.fresh (BD _))⟩
 ·obtain ⟨its,r',pl,hz⟩:=I.tuple hq
  exact call_tuple_same pl ⟨.ref p,H,I,rfl,q⟩
noncomputable def tyV (K:BA) (T:String) (x:V) (H:Hp):Prop:=match x with
 | .str _=>T = "str"
 | .int _=>T = "int"
 | .ref p=>(T = "list"/\∃ xs,SqL K H p xs)\/(T = "tuple"/\∃ o,K.lookup p=some o/\o.cls=.type "tuple"/\o.dict=none)\/
   (T = "dict"/\((∃ kvs,H p=some (.dK kvs))\/∃ kvs,H p=some (.dT kvs)))\/(T = "set"/\∃ S n,H p=some (.set S n))
 | _=>False
theorem sv {H:Hp} {s:Shared} {T:String} {x:V} {v:Value} (I:Inv X pins σ H s) (r:RelV x v) (ty:tyV X.K T x H) :
  s.TypeIs v T/\∀ a,v=.ref a->∃ ob,s.heap.get? a=some ob/\ob.dict=none:=by
 cases x with
 | str z=>
  obtain ⟨t,rfl⟩:=r
  cases (show T = "str" from ty)
  exact ⟨typeIs_str s z t,λ _ e=>nomatch e⟩
 | int i=>
  obtain ⟨t,rfl⟩:=r
  cases (show T = "int" from ty)
  exact ⟨typeIs_int s i t,λ _ e=>nomatch e⟩
 | ref p=>
  cases r
  rcases ty with ⟨rfl,xs,hq⟩ | ⟨rfl,o,hk,hc,hd⟩ | ⟨rfl,hk⟩ | ⟨rfl,S,n,hk⟩
  ·obtain ⟨its,_,pl,_⟩:=I.list hq
   refine ⟨pl.isList.typeIs,λ a e=>?_⟩
   cases e
   obtain ⟨o,n,e,c,hd,_⟩:=pl
   exact ⟨o,e,hd⟩
  ·refine ⟨⟨o,I.kIn p o hk,hc⟩,λ a e=>?_⟩
   cases e
   exact ⟨o,I.kIn _ o hk,hd⟩
  ·have z:∃ o,s.heap.get? p=some o/\o.ExactDict:=by
    rcases hk with ⟨kvs,hk⟩ | ⟨kvs,hk⟩
    ·obtain ⟨_,_,_,_,o,_,_,e,ex,_⟩:=I.hok p _ hk
     exact ⟨o,e,ex⟩
    ·obtain ⟨_,_,_,_,o,_,_,e,ex,_⟩:=I.hok p _ hk
     exact ⟨o,e,ex⟩
   obtain ⟨o,e,ex⟩:=z
   refine ⟨⟨o,e,ex.1⟩,λ a e2=>?_⟩
   cases e2
   exact ⟨o,e,ex.2.1⟩
  ·obtain ⟨o,_,_,_,e,ex,_⟩:=I.hok p _ hk
   refine ⟨⟨o,e,ex.1⟩,λ a e2=>?_⟩
   cases e2
   exact ⟨o,e,ex.2.1⟩
 | _=>exact Ec ty
noncomputable def zp (K:BA) (T:String) (r:V->List V->Hp->VK->Prop) (to:TE):TE:=λ σ H Q=>to σ H λ x H1=>tyV K T x H1/\r x [] H1 Q
noncomputable def tBM (K:BA) (T:String) (r:V->List V->Hp->VK->Prop) (to:TE) (t:TA):TE:=λ σ H Q=>to σ H λ x H1=>tyV K T x H1/\t σ H1 λ xs H2=>r x xs H2 Q
variable {o e:Expr} {es:List Expr} {to:TE} {t:TA} {name:Str} {apos cpos:Pos} {T id:String} {r:V->List V->Hp->VK->Prop}
theorem wZ (pa:PlainAttrs T) (slot:Slot T name id) (hty:typeOf (.builtin id)=pure (.type "method_descriptor")) (hm:MtR X id r) (ho:PE X o to)
  (hbase:attributeBase o name X.env (eval o X.env)=eval o X.env:=by rfl) (hline:(apos.endLine == cpos.line)=true:=by rfl):PE X (.Call (.Attribute o name apos) [] [] cpos) (zp X.K T r to):=by
 intro pins s σ H Q I h
 refine wpAny_Call_method0_late hbase hline (thn (ho pins s σ H _ I h) λ v s1 ⟨x,H1,I1,r1,ty,q1⟩=>?_)
 obtain ⟨h1,h2⟩:=sv I1 r1 ty
 exact ⟨T,id,pa,slot,hty,h1,h2,EF rfl (PySem.evalArgs_none (hm pins s1 σ H1 x [] v [] Q I1 r1 .nil q1))⟩
theorem zq (pa:PlainAttrs T) (slot:Slot T name id) (hty:typeOf (.builtin id)=pure (.type "method_descriptor")) (hm:MtR X id r) (ho:PE X o to) (ha:PA X (e::es) t)
  (hbase:attributeBase o name X.env (eval o X.env)=eval o X.env:=by rfl)
  (hfew:((backTo cpos (starEach (e::es) X.env)).all (λ x=>!x.1) && (backToKw cpos (keywordEach [] X.env)).all (λ x=>x.1.isSome)
   && decide ((e::es).length+([]:List Keyword).length+(if ([]:List Keyword).isEmpty then 0 else 1)<30))=true:=by rfl)
  (hline:(apos.endLine == cpos.line)=true:=by rfl) (hs:starEach (e::es) X.env=(false,eval e X.env)::starEach es X.env:=by rfl) (hplain:(backTo cpos (starEach es X.env)).any (·.1)=false:=by rfl) :
  PE X (.Call (.Attribute o name apos) (e::es) [] cpos) (tBM X.K T r to t):=by
 intro pins s σ H Q I h
 refine wpAny_Call_method_late hbase hfew hline rfl (thn (ho pins s σ H _ I h) λ v s1 ⟨x,H1,I1,r1,ty,q1⟩=>?_)
 obtain ⟨h1,h2⟩:=sv I1 r1 ty
 refine ⟨T,id,pa,slot,hty,h1,h2,?_⟩
 have hA:=ha cpos pins s1 σ H1 _ I1 q1
 rw [hs] at hA ⊢
 refine EF (by show (false || (backTo cpos (starEach es X.env)).any (·.1))=false; rw [hplain]<;>rfl) (FH ?_)
 exact thn hA λ us s2 ⟨vs,H2,I2,r2,q2⟩=>hm pins s2 σ H2 x vs v us Q I2 r1 r2 q2
end
noncomputable def MtM (X:Cx) (id:String) (r:V->List V->Hp->VK->Prop):Prop:=
 ∀ (pins:List (Addr×Obj)) (s:Shared) (σ:St) (H:Hp) (x:V) (xs:List V) (v:Value) (us:List Value) (Q:VK),Inv X pins σ H s->RelV x v->Vals xs us->r x xs H Q->
  wpAny (model X.prog X.w) X.A (call (.builtin id) (v::us)) (EP X pins σ Q) X.xe s
theorem Vals.one:∀ {x:V} {us:List Value},Vals [x] us->∃ u,us=[u]/\RelV x u
 | _,_,.cons r .nil=>⟨_,rfl,r⟩
theorem Vals.zero:∀ {us:List Value},Vals [] us->us=[]
 | _,.nil=>rfl
theorem Vals.dropLast {xs:List V} {us:List Value} (h:Vals xs us):Vals xs.dropLast us.dropLast:=by
 induction h with
 | nil=>exact .nil
 | cons r t ih=>
  cases t with
  | nil=>exact .nil
  | cons q t'=>exact .cons r ih
theorem Vals.reverse {xs:List V} {us:List Value} (h:Vals xs us):Vals xs.reverse us.reverse:=by
 induction h with
 | nil=>exact .nil
 | cons r t ih=>rw [GA,GA]; exact Vals.append ih (.cons r .nil)
theorem Vals.rep {xs:List V} {us:List Value} (h:Vals xs us):∀ k:Nat,Vals (B1 k xs).flatten (B1 k us).flatten
 | 0=>.nil
 | k+1=>by
  rw [D3,D3,Dq,Dq]
  exact Vals.append h (Vals.rep h k)
theorem mK {α:Type} (l:List α):l.eraseIdx (l.length - 1)=l.dropLast:=by
 induction l with
 | nil=>rfl
 | cons a r ih=>
  cases r with
  | nil=>rfl
  | cons b r=>
   have e:(a::b::r).length - 1=((b::r).length - 1)+1:=by
    have h1:(a::b::r).length=r.length+2:=rfl
    have h2:(b::r).length=r.length+1:=rfl
    lia
   rw [e,List.eraseIdx_cons_succ,ih]
   all_goals rfl
theorem jC (its:List Value):∀ (k:Nat) (acc:List Value),
  FI (λ x1 x2=>x1++x2) acc.toArray (B1 k its.toArray)=(acc++(B1 k its).flatten).toArray
 | 0,acc=>by simp
 | k+1,acc=>by
  have e:acc.toArray++its.toArray=(acc++its).toArray:=by simp
  have e2:(acc++its)++(B1 k its).flatten=acc++(B1 (k+1) its).flatten:=by
   rw [D3,Dq,Cu]
  rw [<-e2,<-jC its k (acc++its),<-e,D3,G7]
section
variable {X:Cx} {pins:List (Addr×Obj)} {σ:St} {H:Hp} {s:Shared} {l b:Addr} {xs ys zs:List V}
theorem Inv.lset {its':List Value} {f:Array Value->Array Value} (I:Inv X pins σ H s) (hH:H l=some (.lst xs))
  (e:s.heap.get? l=some { cls:=.type "list",data:=.seq its.toArray n }) (hf:f its.toArray=its'.toArray) (hv:Vals ys its') (hz:ys.length<=sizeLine) :
  Inv X pins σ (upd H l (.lst ys)) { s with heap:=s.heap.update l (DA f),toks:=t' }:=by
 have q:=Li e f
 rw [hf] at q
 refine I.write (x:=l) (e:=l) (by rw [hH]; exact trivial) (.inl rfl) (λ b' u hb hu=>(EE s.heap (DA f) (DN hb)).trans hu) ⟨_,q⟩ ?_
 exact ⟨hz,its',_,hv,q⟩
theorem Inv.lnew (I:Inv X pins σ H s) (hv:Vals ys its) (hz:ys.length<=sizeLine) :
  Inv X pins σ (upd H s.heap.objs.size (.lst ys)) { s with heap:=s.heap.push { cls:=.type "list",data:=.seq its.toArray },toks:=t' }:=
 I.laid (λ _ _ q=>BB _ q) (BD _) ⟨hz,its,0,hv,BU _ rfl⟩
theorem Inv.fresh (I:Inv X pins σ H s):H s.heap.objs.size=none:=I.hok.fresh (BD _)
theorem Inv.lstM (I:Inv X pins σ H s) (hH:H l=some (.lst xs)):xs.length<=sizeLine/\∃ (its:List Value) (n:Nat),Vals xs its/\xs.length=its.length/\s.heap.get? l=some { cls:=.type "list",data:=.seq its.toArray n }:=by
 obtain ⟨z,its,n,r,e⟩:=I.hok l _ hH
 exact ⟨z,its,n,r,r.length,e⟩
theorem fS (h:n<=sizeLine):Ej n=false:=by
 unfold Ej
 exact decide_eq_false (by lia)
end
section
variable {X:Cx}
noncomputable def ku:V->List V->Hp->VK->Prop:=λ x vs H Q=>∃ l xs y,x=.ref l/\vs=[y]/\H l=some (.lst xs)/\xs.length<sizeLine/\Q .non (upd H l (.lst (xs++[y])))
theorem nP:MtM X "list.append" ku:=by
 intro pins s σ H x vs v us Q I rx rv h
 obtain ⟨l,xs,y,rfl,rfl,hH,hz,q⟩:=h
 cases rx
 obtain ⟨u,rfl,ru⟩:=rv.one
 obtain ⟨z,its,n,r,hl,e⟩:=I.lstM hH
 refine call_meets F.slot_list_append ⟨_,e,rfl⟩ F.entry_list_append (F.args_list_append_2 _ _) (PySem.list_append l its.toArray n u (by rw [BQ]; lia)) ⟨e,?_⟩
 refine ⟨.non,_,I.lset (its':=its++[u]) hH e (by simp) (r.append (.cons ru .nil)) ?_,rfl,q⟩
 rw [BO,FE]
 lia
noncomputable def kw:V->List V->Hp->VK->Prop:=λ x vs H Q=>∃ l b xs zs,x=.ref l/\vs=[.ref b]/\H l=some (.lst xs)/\H b=some (.lst zs)/\xs.length+zs.length<=sizeLine/\Q .non (upd H l (.lst (xs++zs)))
theorem nQ:MtM X "list.extend" kw:=by
 intro pins s σ H x vs v us Q I rx rv h
 obtain ⟨l,b,xs,zs,rfl,rfl,hH,hB,hz,q⟩:=h
 cases rx
 obtain ⟨u,rfl,ru⟩:=rv.one
 cases ru
 obtain ⟨z,its,n,r,hl,e⟩:=I.lstM hH
 obtain ⟨z2,its2,n2,r2,hl2,e2⟩:=I.lstM hB
 have hsz:its.toArray.size+its2.toArray.size<=sizeLine:=by rw [BQ,BQ]; lia
 have hlong:¬ (!its.toArray.isEmpty && Ej (its.toArray.size+its2.toArray.size))=true:=by
  rw [fS hsz,Hl]
  exact BW
 refine call_meets F.slot_list_extend ⟨_,e,rfl⟩ F.entry_list_extend (F.args_list_extend_2 _ _)
  (IY l its.toArray n b its2.toArray n2 hlong (by rw [BQ]; lia) (by lia)) ⟨e,e2,?_⟩
 refine ⟨.non,_,I.lset (its':=its++its2) hH e (by simp) (r.append r2) ?_,rfl,q⟩
 rw [BO]
 lia
noncomputable def zr:V->List V->Hp->VK->Prop:=λ x vs H Q=>∃ l xs y,x=.ref l/\vs=[]/\H l=some (.lst xs)/\xs[xs.length - 1]? = some y/\Q y (upd H l (.lst xs.dropLast))
theorem w5:MtM X "list.pop" zr:=by
 intro pins s σ H x vs v us Q I rx rv h
 obtain ⟨l,xs,y,rfl,rfl,hH,hy,q⟩:=h
 cases rx
 have hus:=rv.zero
 subst hus
 obtain ⟨z,its,n,r,hl,e⟩:=I.lstM hH
 obtain ⟨u,hu,ru⟩:=r.get hy
 have hy':its.toArray[its.toArray.size - 1]? = some u:=by
  show its.toArray[its.length - 1]? = some u
  rw [<-B9,<-hl]
  exact hu
 refine call_meets F.slot_list_pop ⟨_,e,rfl⟩ F.entry_list_pop (F.args_list_pop_1 _) (KJ l its.toArray n u hy' (by rw [BQ]; lia)) ⟨e,?_⟩
 refine ⟨y,_,I.lset (its':=its.dropLast) hH e ?_ r.dropLast ?_,ru,q⟩
 ·show its.toArray.eraseIdxIfInBounds (its.toArray.size - 1)=its.dropLast.toArray
  rw [BQ,List.eraseIdxIfInBounds_toArray,mK]
 ·rw [List.length_dropLast]
  lia
noncomputable def Au:R2:=λ x y H Q=>∃ l k xs,x=.ref l/\y=.int k/\H l=some (.lst xs)/\-(2 ^ 63)<=k/\k<2 ^ 63/\xs.length*k.toNat<=sizeLine/\
 ∀ p,H p=none->Q (.ref p) (upd H p (.lst (B1 k.toNat xs).flatten))
theorem uA {α:Type} (xs:List α) (k:Nat):(B1 k xs).flatten.length=k*xs.length:=by
 induction k with
 | zero=>simp
 | succ k ih=>rw [D3,Dq,BO,ih,Ku,Io]
theorem w6:OpR X (binaryOp .Mult) Au:=by
 intro pins s σ H x y v u Q I rx ry h
 obtain ⟨l,k,xs,rfl,rfl,hH,h1,h2,hz,q⟩:=h
 cases rx
 obtain ⟨t,rfl⟩:=ry
 obtain ⟨z,its,n,r,hl,e⟩:=I.lstM hH
 have hlen:its.toArray.size*k.toNat<=sizeLine:=by rw [BQ,<-hl]; exact hz
 have hcap:¬ its.toArray.size*k.toNat > (2 ^ 63 - 1) / 8:=by
  have:(sizeLine:Nat)<=(2 ^ 63 - 1) / 8:=by decide
  lia
 have hfit:¬ (!Builtin.List.listFitsIndex k)=true:=by
  rw [fitsIndex_both h1 h2]
  exact BW
 have hlong:¬ Ej (its.toArray.size*k.toNat)=true:=by
  rw [fS hlen]
  exact BW
 have hnew:FI (λ x1 x2=>x1++x2) #[] (B1 (if its.toArray.isEmpty=true then 0 else k.toNat) its.toArray)=(B1 k.toNat its).flatten.toArray:=by
  have f0:∀ m:Nat,FI (λ x1 x2=>x1++x2) #[] (B1 m its.toArray)=(B1 m its).flatten.toArray:=λ m=>by
   have:=jC its m []
   rw [DS] at this
   exact this
  rw [f0]
  cases its with
  | nil=>simp
  | cons a r'=>rw [if_neg (by simp)]
 refine wpAny_binaryOp_repeat_ref (T:="list") (U:="int") (by decide) ⟨_,e,rfl⟩ (λ s'=>typeIs_int s' k t) noFill_list_mul F.fills_int_mul Jn repeat_list F.slot_int_index.lookup
  (call_meets Jn (typeIs_int s k t) F.entry_int_rmul (F.args_int_rmul_2 _ _) (int___rmul___int_list k t l its.toArray n)
   ⟨e,rfl,⟨_,e,rfl⟩,call_meets F.slot_list_mul ⟨_,e,rfl⟩ F.entry_list_mul (F.args_list_mul_2 _ _) (IS l its.toArray n k t hfit hcap hlong) ⟨e,?_⟩⟩)
 rw [hnew]
 exact ⟨.ref _,_,I.lnew (t':=s.toks) (r.rep k.toNat) (by rw [uA,Ip]; exact hz),rfl,q _ I.fresh⟩
end
section
variable {prog:Program} {w:World} {A:Around} {E:Value->Shared->Prop} {s:Shared}
theorem nR (its its2:List Value) (a c:Nat):its.toArray.extract 0 a++its2.toArray++its.toArray.extract c its.toArray.size=(its.take a++its2++its.drop c).toArray:=by
  apply Du.mp
  first
    | (simp
       exact BF (by simp))
    | simp [BF]
    | simp
theorem mL {a:Nat} (hac:a<=c) (hc:c<=n):sliceBounds (some (a:Int)) (some (c:Int)) none n=((a:Int),(c:Int),1):=by
 simp only [sliceBounds,GN]
 have h1:¬ ((a:Int)<0):=by lia
 have h2:¬ ((c:Int)<0):=by lia
 simp only [h1,h2,if_false,show (1:Int) > 0 by decide,if_true]
 congr 1
 ·lia
 ·congr 1; lia
set_option maxRecDepth 100000 in
theorem iK {b:Addr} {new:Array Value} {n2:Nat} {a:Nat} {Q:Unit->Shared->Prop}
    (e:s.heap.get? l=some { cls:=.type "list",data:=.seq items n }) (e2:s.heap.get? b=some { cls:=.type "list",data:=.seq new n2 }) (hne:l≠b)
    (hs:s.heap.IsSliceOf sl vl vu .none) (pl:IsPart vl (some (a:Int))) (pu:IsPart vu (some (c:Int))) (hac:a<=c) (hc:c<=items.size)
    (hsz:items.size+new.size<=sizeLine) (h:Q () { s with heap:=s.heap.update l (DA λ xs=>xs.extract 0 a++new++xs.extract c xs.size) }) :
    wpAny (model prog w) A (setItem (.ref l) (.ref sl) (.ref b)) Q E s:=by
  have hl:s.heap.IsList l items:=IZ e
  have hb:s.heap.IsList b new:=IZ e2
  obtain ⟨os,hos,hcs,hds⟩:=id hs
  have hTs:s.TypeIs (.ref sl) "slice":=⟨os,hos,hcs⟩
  have hstep:¬ ((rawPart none == rawInt 0)=true):=BW
  have hsame:Ek (.ref l) (.ref b)=false:=by
    unfold Ek
    exact beq_eq_false_iff_ne.mpr hne
  have hmax:(max (a:Int) (c:Int)).toNat=c:=by lia
  have hz':((λ xs:Array Value=>xs.extract 0 a++new++xs.extract c xs.size) items).size<=sizeLine+1:=by
    simp only [Array.size_append,Array.size_extract]
    lia
  unfold setItem
  try with_reducible refine wpAny_holding ?_
  first | refine wpAny_bind (wpAny_pure ?_) | skip
  refine wpAny_bind (wpAny_sequenceKey hl.typeIs (by decide) ?_)
  refine wpAny_bind (wpAny_callSpecial?_slot (name:=DR "__setitem__") hl.typeIs slot_list_setitem
    (wpAny_call_entry slot_list_setitem hl.typeIs entry_list_setitem ?_ (args_list_setitem _ _ _)))
  show wpAny _ _ (Ge (.ref sl) >>= _) _ _ s
  refine wpAny_bind ?_
  unfold Ge
  refine wpAny_bind (wpAny_specialOf hTs slice_no_index ?_)
  simp only [Option.isNone_none,if_true]
  refine wpAny_pure ?_
  show wpAny _ _ (typeOf (.ref sl) >>= _) _ _ s
  refine wpAny_bind (wpAny_typeOf hTs ?_)
  first
    | rw [if_neg (by decide)]
    | refine Gf (by decide) ?_
  rw [listSliceParts_eq]
  refine wpAny_bind (wpAny_bind (wpAny_field hos hds (x:=.none) rfl (wpAny_bind (wpAny_listPart .none ?_))))
  rw [if_neg hstep]
  refine wpAny_bind (wpAny_field hos hds (x:=vl) rfl (wpAny_bind (wpAny_listPart pl ?_)))
  refine wpAny_bind (wpAny_field hos hds (x:=vu) rfl (wpAny_bind (wpAny_listPart pu (wpAny_pure ?_))))
  first
    | simp only [hsame,BG,if_false]
    | refine Gf hsame ?_
    | (dsimp only
       rw [if_neg (by rw [hsame]; exact BW)])
  refine wpAny_bind (m:=GJ (.ref b) "must assign iterable to extended slice") ?_
  unfold GJ
  refine wpAny_bind (wpAny_typeOf hb.typeIs ?_)
  first
    | refine Lb (by decide) ?_
    | rw [if_pos (by decide)]
    | simp only [beq_self_eq_true,Iq,if_true]
  unfold KL
  refine wpAny_bind (wpAny_seqItems e2 rfl (wpAny_pure ?_))
  refine wpAny_bind (wpAny_bind (wpAny_seqItems e rfl (wpAny_pure ?_)))
  refine wpAny_bind (wpAny_of_eq ((sliceIndices_raw (some (a:Int)) (some (c:Int)) none items.size (by simp)).trans (congrArg (pure:Int×Int×Int->Sem (Int×Int×Int)) (mL hac hc))) ?_)
  show wpAny _ _ (if ((1:Int) == 1)=true then _ else _) _ _ s
  rw [if_pos (by decide)]
  refine wpAny_bind (wpAny_rule ?_)
  first
    | simp only [fS hsz,BG,if_false]
    | refine Gf (fS hsz) ?_
  first | refine wpAny_bind (wpAny_pure ?_) | skip
  show wpAny _ _ (updateSeq l (λ xs=>xs.extract 0 ((a:Int)).toNat++new++xs.extract (max (a:Int) (c:Int)).toNat xs.size) >>= _) _ _ s
  rw [hmax,CT]
  refine wpAny_bind (wpAny_updateSeq (hz:=CM (Dv _ _) hsz) (_hz':=hz') e rfl ?_)
  refine wpAny_bind (wpAny_letGo ?_)
  first
    | exact wpAny_bind (wpAny_pure (wpAny_pure ⟨.none,rfl,wpAny_pure h⟩))
    | exact wpAny_pure ⟨.none,rfl,wpAny_pure h⟩
end
section
variable {X:Cx}
theorem nS {s:Shared} {H:Hp} {b:Addr} {a c:Int} {Q:Unit->Shared->Prop} (I:Inv X pins σ H s)
  (hH:H l=some (.lst xs)) (hB:H b=some (.lst ys)) (hne:l≠b) (hs:s.heap.IsSliceOf sl vl vu .none) (ra:RelV (.int a) vl) (rc:RelV (.int c) vu) (h0:0<=a) (hac:a<=c) (hc:c<=xs.length)
  (hz:xs.length+ys.length<=sizeLine) (h:∀ s',Inv X pins σ (upd H l (.lst (xs.take a.toNat++ys++xs.drop c.toNat))) s'->Q () s') :
  wpAny (model X.prog X.w) X.A (setItem (.ref l) (.ref sl) (.ref b)) Q X.xe s:=by
 obtain ⟨ta,rfl⟩:=ra
 obtain ⟨tc,rfl⟩:=rc
 obtain ⟨z,its,n,r,hl,e⟩:=I.lstM hH
 obtain ⟨z2,its2,n2,r2,hl2,e2⟩:=I.lstM hB
 obtain ⟨a',rfl⟩:=GX h0
 obtain ⟨c',rfl⟩:=GX (Int.le_trans h0 hac)
 simp only [CT] at h
 refine iK (a:=a') (c:=c') e e2 hne hs (.int _ _) (.int _ _) (by lia) (by rw [BQ]; lia) (by rw [BQ,BQ]; lia) (h _ ?_)
 refine I.lset (its':=its.take a'++its2++its.drop c') (t':=s.toks) hH e ?_ (Vals.append (Vals.append (r.take _) r2) (r.drop _)) ?_
 ·exact nR its its2 a' c'
 ·rw [BO,BO,BV,Cr]
  lia
end
end L2
namespace Att
open PySem PySem.W PySem.Calls PyProof.Rows
theorem gw {P:Params} :∀ (ns:List Int) (vs:List Value),WellAll P h vs (ns.map WData.int)->IntsAre vs ns:=by
 intro ns
 induction ns with
 | nil=>
  intro vs w
  rw [Im] at w
  cases w
  exact .nil
 | cons n ns ih=>
  intro vs w
  rw [Cs] at w
  cases w with
  | cons a b=>
   cases a
   exact .cons _ _ (ih _ b)
theorem nU {l:OpenLaw} (hn:l.most=some n) {P:Params} {args:List WData} {vals:List Value}
  (hpre:l.row.toRowW.claim.pre args=true) (hwl:WellAll P h vals args) :
  ∃ a vs ns,vals=[Cp a]/\args=[WData.list (ns.map WData.int)]/\h.get? a=some { cls:=.type "list",data:=.seq vs.toArray }/\IntsAre vs ns/\ns.length<=n:=by
 have hsh:WShape.hasAll [] args [.list .int]=true:=(pre_splitW hpre).1
 have hc:l.pre.holds [] { args:=args }=true:=(pre_splitW hpre).2
 obtain ⟨d,r,rfl,h1,h2⟩:=hasAllW_cons hsh
 obtain rfl:=hasAllW_nil h2
 obtain ⟨xs,rfl,h3⟩:=hasW_list h1
 obtain ⟨ns,rfl⟩:=items_int h3
 have hlen:ns.length<=n:=by
  unfold OpenLaw.pre at hc
  have h4:(WTm.not (.lt (.lit (.int (n:Int))) (.len (.arg 0)))).holds [] { args:=[.list (ns.map .int)] }=true:=by
   have h4:=(holds_andW hc).1
   rw [hn] at h4
   exact h4
  have h5:=condW_of h4 (w_not (w_lt w_lit (w_len_list (w_arg rfl))))
  rw [By] at h5
  refine EW λ q=>?_
  have q':(n:Int)<((ns.length:Nat):Int):=by lia
  first
   | (rw [decide_eq_true q'] at h5; exact absurd h5 (by decide))
   | (simp at h5; lia)
 cases hwl with
 | cons w1 w2=>
  cases w2
  cases w1 with
  | list ho hall=>exact ⟨_,_,ns,rfl,rfl,ho,gw ns _ hall,hlen⟩
theorem nV (l:OpenLaw) (args:List WData):l.row.toRowW.claim.post args (.bool true) args=true:=
 postW_of (r:=l.row.toRowW) (X:=(true == true))
  (show WShape.has [] (.bool true) .bool=true by first | rfl | decide | simp [WShape.has,WShape.arms,WShape.armsAll])
  (show (WTm.eq .res (.lit (.bool true))).value [] { args:=args,res:=some (.bool true),after:=args }=some (.bool (true == true)) from w_eq_bool (w_res rfl) w_lit) rfl
theorem kz {l:OpenLaw} {q:Program} {loose:List Str} {XP:(Str->Option Value)->Heap->Prop} {YP:World->Heap->Prop} {d:DefRec}
  (hn:l.most=some n) (hdf:d.params.defaults=[])
  (call:∀ (w:World) (s₀ s₁:Shared) (mg mb:Str->Option Value) (fa:Addr) (o:Obj) (pm cd doc:Value) (a:Addr) (vs:List Value) (ns:List Int),
   Ground q loose [] XP w s₀ mg mb s₁.heap->YP w s₁.heap->
   s₁.heap.get? fa=some o->o.data=.func (docDef d.name d.params d.body d.scope pm cd doc)->s₁.heap.CodeRec cd d.name->mg d.name=some (.ref fa)->
   s₁.heap.get? a=some { cls:=.type "list",data:=.seq vs.toArray }->IntsAre vs ns->ns.length<=n->s₁.gens=#[]->
   codeAny (model l.prog w) callerA (.call (.ref fa) ⟨[.ref a],[]⟩) (λ r s'=>r=.ok (.ret (.bool true))/\OldK s₁.heap s'.heap/\s'.os=s₁.os/\AllBare s'.gens) s₁) :
  WalkO q loose XP YP l.row.toRowW d [] (λ f vs=>Jo f vs):=by
 intro w s₀ s₁ mg mb G Y fa o pm cd doc dV kV ho hd hcd hD hmg hg args vals as hpre hlay hrd hwl hlo
 obtain rfl:dV=.none:=Dflts.none hD hdf
 obtain rfl:kV=.none:=Dflts.noKw hD
 obtain ⟨a,vs,ns,rfl,rfl,hobj,hints,hlen⟩:=nU hn hpre hwl
 refine enter_call (codeAny_mono (call w s₀ s₁ mg mb fa o pm cd doc a vs ns G Y ho (fd_plain hd) hcd hmg hobj hints hlen hg) λ r s' hq=>?_)
 obtain ⟨rfl,h2,h3,h4⟩:=hq
 exact ⟨.inl ⟨.bool true,.bool true,[],rfl,λ _=>rfl,.bool true,nV l _,λ _=>⟨IJ,λ _ hm=>(nomatch hm)⟩⟩,h2,h3,h4⟩
section
variable {prog:Program} {w:World} {A:Around} {E:Value->Shared->Prop} {s:Shared} {K:Frag}
end
end Att
namespace L2
open PySem PySem.Spec PyProof.Rows
theorem jD:∀ {vs:List Value} {ns:List Int},IntsAre vs ns->Vals (ns.map Lz) vs
 | _,_,.nil=>.nil
 | _,_,.cons n t h=>.cons ⟨t,rfl⟩ (jD h)
noncomputable def zt (H:Hp):Prop:=∀ b,H b=none\/∃ o xs,H b=some (.frz o (.lst xs))
theorem qH {w:World} {K:BA} {mg mb:Str->Option Value} {CX:CXT} {fa:Addr} {fd:FuncData} {sp:Sp} {s₁:Shared} {ns:List Int}
  (KX:K.In s₁.heap) (hns:s₁.heap.Ns mainGlobals mg) (hb:s₁.heap.Ns builtinsNs mb) (hbb:∀ x:Str,x≠"__name__"->mb x=bootBuiltins x) (hlim:s₁.heap.NoLimit) (hg:s₁.gens=#[])
  (ha:s₁.heap.get? a=some { cls:=.type "list",data:=.seq vs.toArray }) (hi:IntsAre vs ns) (hl:ns.length<=sizeLine) (hr:Room k callerA)
  (F:∀ base:Heap,K.In base->base.Ns mainGlobals mg->FnOk P w K mg base CX k fa fd [x] sp) (hbind:∀ (s:Shared) (u:Value),BindsTo s fd ⟨[u],[]⟩ [(x,u)])
  (hsp:∀ H:Hp,zt H->SqL K H a (ns.map Lz)->sp [.ref a] H (λ v _=>v=.bl true) λ _ _ _=>False)
  (hCX:∀ H e s',CX [] H s₁ (λ _ _ _=>False) e s'->False) :
  codeAny (model P w) callerA (.call (.ref fa) ⟨[.ref a],[]⟩) (λ r s'=>r=.ok (.ret (.bool true))/\OldK s₁.heap s'.heap/\s'.os=s₁.os/\AllBare s'.gens) s₁:=by
 have rv:=jD hi
 have lenV:=hi.length
 -- from an abstract heap in which nothing but the script may be tracked
 have core:∀ H:Hp,zt H->SqL K H a (ns.map Lz)->HOk P w H s₁.heap->(∀ b,H b≠none->b=a)->(H a≠none->K.lookup a=none)->
   codeAny (model P w) callerA (.call (.ref fa) ⟨[.ref a],[]⟩) (λ r s'=>r=.ok (.ret (.bool true))/\OldK s₁.heap s'.heap/\s'.os=s₁.os/\AllBare s'.gens) s₁:=by
  intro H hO hS hok hA hK
  have base_of:∀ {b:Addr} {o:Obj},s₁.heap.get? b=some o->H b=none->(qo s₁.heap H).get? b=some o:=λ e n=>qp e n
  have noA:∀ {b:Addr} {o:Obj} {es:Array DictEntry} {ep:Nat},s₁.heap.get? b=some o->o.data=.dict es ep->H b=none:=λ {b o es ep} e d=>by
   cases q:H b with
   | none=>rfl
   | some u=>
    have e':b=a:=hA b (by rw [q]; simp)
    subst e'
    rw [ha] at e; cases e
    have d':Lj vs.toArray _=Data.dict es ep:=d
    cases d'
  have nsK:∀ {b:Addr} {m:Str->Option Value},s₁.heap.Ns b m->(qo s₁.heap H).Ns b m:=λ {b m} ⟨o,es,ep,e,d,r⟩=>⟨o,es,ep,base_of e (noA e d),d,r⟩
  have hKb:K.In (qo s₁.heap H):=λ b o e=>base_of (KX b o e) (by
   cases q:H b with
   | none=>rfl
   | some u=>
    have e':b=a:=hA b (by rw [q]; simp)
    subst e'
    rw [hK (by rw [q]; simp)] at e; cases e)
  have hM:Mod K mg (qo s₁.heap H):=⟨hKb,nsK hns,⟨mb,nsK hb,hbb⟩,let ⟨mc,h1,h2⟩:=hlim; ⟨mc,nsK h1,h2⟩⟩
  have e0:Env0 P w K mg (qo s₁.heap H) callerA [] s₁ H:=⟨rfl,hM,λ b o e=>tO e,DT (ni _ _),trivial,λ b hb=>absurd (show b∈([]:List Addr) from hb) (by simp),hok,.of_eq hg⟩
  refine codeAny_mono ((F _ hKb (nsK hns)).run callerA [] s₁ H ⟨[.ref a],[]⟩ [.ref a] [.ref a] _ _ hr e0 (hbind s₁ (.ref a)) (.cons rfl .nil) (hsp H hO hS)) λ r s' h=>?_
  cases r with
  | error e=>exact (hCX H e s' h).elim
  | ok fl=>
   cases fl with
   | next=>exact Ec h
   | brk=>exact Ec h
   | cont=>exact Ec h
   | ret u=>
    obtain ⟨v,H',os,bare,un,hok',r',q⟩:=h
    have q':v=.bl true:=q
    subst q'
    obtain rfl:u=Jl true:=r'
    refine ⟨rfl,OldK.of_keep λ b o e=>?_,os,bare⟩
    cases q:H b with
    | none=>exact un.keep b o e q (by intro z; exact absurd (show b∈([]:List Addr) from z) (by simp)) (by simp)
    | some u=>
     rcases hO b with z | ⟨ob,xs,z⟩
     ·rw [q] at z; cases z
     ·have z2:=un.frzs b ob _ z
      obtain ⟨e1,_⟩:=hok b _ z
      obtain ⟨e2,_⟩:=hok' b _ z2
      rw [e] at e1; cases e1
      exact e2
 cases hk:K.lookup a with
 | some o=>
  -- the script is one of the module's own objects
  have e:=KX a o hk
  rw [ha] at e
  cases e
  refine core (λ _=>none) (λ _=>.inl rfl) (.inr ⟨_,vs.toArray,_,hk,rfl,rfl,rfl,by rw [BQ,lenV]; exact hl,by simpa using rv⟩) (λ b u z=>by have z':(none:Option HO)=some u:=z; cases z') (λ b z=>absurd rfl z) λ z=>absurd rfl z
 | none=>
  refine core (λ b=>if b=a then some (.frz { cls:=.type "list",data:=.seq vs.toArray } (.lst (ns.map Lz))) else none) (λ b=>?_) (.inl (.inr ⟨{ cls:=.type "list",data:=.seq vs.toArray },if_pos rfl⟩)) (λ b u z=>?_) (λ b z=>?_) λ _=>hk
  ·by_cases hb:b=a
   ·exact .inr ⟨_,_,if_pos hb⟩
   ·exact .inl (if_neg hb)
  ·by_cases hb:b=a
   ·have z':=(if_pos hb).symm.trans z
    cases z'
    subst hb
    exact ⟨ha,by rw [By]; exact hl,vs,_,rv,ha⟩
   ·have z':=(if_neg hb).symm.trans z
    cases z'
  ·by_cases hb:b=a
   ·exact hb
   ·exact absurd (if_neg hb) z
theorem uB {l:G8} {q:Program} {loose:List Str} {XP:(Str->Option Value)->Heap->Prop} {YP:World->Heap->Prop} {d:DefRec} {K:Params->BA} {CX:World->CXT} {sp:World->Sp} 
  (hn:l.most=some n) (hn2:n<=sizeLine) (hdf:d.params.defaults=[]) (hr:Room k callerA)
  (hY:∀ (w:World) (h:Heap),YP w h->(K w.params).In h)
  (F:∀ (w:World) (mg:Str->Option Value) (fa:Addr) (h:Heap),(K w.params).In h->h.Ns mainGlobals mg->mg d.name=some (.ref fa)->
   ∃ fd:FuncData,(∀ (s:Shared) (u:Value),BindsTo s fd ⟨[u],[]⟩ [(x,u)])/\
    ∀ base:Heap,(K w.params).In base->base.Ns mainGlobals mg->FnOk l.prog w (K w.params) mg base (CX w) k fa fd [x] (sp w))
  (hsp:∀ (w:World) (H:Hp) (a:Addr) (ns:List Int),ns.length<=n->zt H->SqL (K w.params) H a (ns.map Lz)->sp w [.ref a] H (λ v _=>v=.bl true) λ _ _ _=>False)
  (hCX:∀ (w:World) (H:Hp) (s:Shared) (e:Value) (s':Shared),CX w [] H s (λ _ _ _=>False) e s'->False) :
  JN q loose XP YP l.row.toRowW d [] (λ f vs=>Jo f vs):=by
 refine Att.kz hn hdf λ w s₀ s₁ mg mb fa o pm cd doc a vs ns G Y ho hd hcd hmg hobj hints hlen hg=>?_
 have KX:=hY w _ Y
 obtain ⟨fd,hb,hF⟩:=F w mg fa _ KX G.T.g hmg
 exact qH KX G.T.g G.T.b G.T.builtins G.T.nolimit hg hobj hints (CM hlen hn2) hr hF hb (λ H hO hS=>hsp w H a ns hlen hO hS) λ H e s'=>hCX w H s₁ e s'
noncomputable def gA (s:Stmt):Arguments:=match s with
 | .FunctionDef _ a _ _ _ _ _ _ _ _=>a
 | _=>{ posonlyargs:=[],args:=[],vararg:=none,kwonlyargs:=[],kw_defaults:=[],kwarg:=none,defaults:=[] }
noncomputable def dS (s:Stmt):List Stmt:=match s with
 | .FunctionDef _ _ b _ _ _ _ _ _ _=>b
 | _=>[]
noncomputable def ay (s:Stmt):Scope:=match s with
 | .FunctionDef _ _ _ _ _ _ sc _ _ _=>sc
 | _=>{ kind:=.function,names:=[],isGenerator:=false,isCoroutine:=false }
noncomputable abbrev CX0:CXT:=λ _ _ _ _ _ _=>False
noncomputable abbrev E0:XK:=λ _ _ _=>False
theorem aX:jt CX0 X E0:=λ _ _ _ _ _ _ _ h=>h.elim
structure Fun (K:BA) (x qual:Str) (st:Stmt) (f:Addr) (fd:FuncData):Prop where
 ex:∃ (oc:Value) (od:Option Addr) (kV doc pm:Value) (an:Option Addr) (cdv ct:Value) (osl:Array (Option Value)),
  fd=ET x qual (gA st) (dS st) (ay st) .none kV doc pm an cdv ct/\K.lookup f=some ⟨oc,od,.func fd,osl⟩/\FV K cdv qual=true
 kp:ER K (.ref f)=true
section
variable {P:Program} {w:World} {K:BA} {mg:Str->Option Value} {base:Heap}
theorem Fun.ok {st:Stmt} {f:Addr} {fd:FuncData} {N ps:List Str} {sp:Sp} (F:Fun K x qual st f fd) (S:FnScope N ps (ay st)) (len:∀ vs H Q E,sp vs H Q E->vs.length=ps.length)
  (hbody:∀ (cdv:Value) (A:Around) (outer:List Env) (s:Shared) (H:Hp) (vs:List V) (Q:VK) (E:XK),Room k (A.deeper (envOfC qual (ay st) s.heap.objs.size f cdv))->sp vs H Q E->
   ∃ t,PSs (ut CX0 P w K mg base N qual (ay st) f cdv A outer s H E).nox (dS st) t/\t { nx:=λ _ H'=>Q .non H',rt:=Q } (start N vs) H):FnOk P w K mg base CX0 (k+1) f fd ps sp:=by
 obtain ⟨oc,od,kV,doc,pm,an,cdv,ct,osl,rfl,lk,hcd⟩:=F.ex
 refine zm lk hcd S len λ A outer s H vs Q E hr hsp=>?_
 obtain ⟨t,h,q⟩:=hbody cdv A outer s H vs Q E hr hsp
 exact ⟨t,h.nox,q⟩
theorem Fun.binds {st:Stmt} {f:Addr} {fd:FuncData} {ps:List Str} (F:Fun K x qual st f fd)
  (h:∀ (kV doc pm:Value) (an:Option Addr) (cdv ct:Value) (us:List Value),us.length=ps.length->bindArgs (ET x qual (gA st) (dS st) (ay st) .none kV doc pm an cdv ct) ⟨us,[]⟩=pure (ps.zip us)):Binds K fd ps []:=by
 obtain ⟨oc,od,kV,doc,pm,an,cdv,ct,osl,rfl,lk,hcd⟩:=F.ex
 exact .all (h kV doc pm an cdv ct)
theorem sw {st:Stmt} {f:Addr} {oc:Value} {od an:Option Addr} {osl:Array (Option Value)} {kV doc pm cdv ct:Value} (l:K.lookup f=some ⟨oc,od,.func (ET x qual (gA st) (dS st) (ay st) .none kV doc pm an cdv ct),osl⟩)
  (c:FV K cdv qual=true) (k:ER K (.ref f)=true):Fun K x qual st f (ET x qual (gA st) (dS st) (ay st) .none kV doc pm an cdv ct):=⟨⟨oc,od,kV,doc,pm,an,cdv,ct,osl,rfl,l,c⟩,k⟩
end
theorem fO {A:Around} (hr:Room k A):A.units+1<cLine:=Dw (Nat.add_le_add_left (by decide:1<=64) _) hr.units
theorem aB (h:n<=1000):n<sizeLine:=Dw h (by decide)
section
variable {X:Cx}
end
noncomputable def Same (H H':Hp):Prop:=∀ b o,H b=some o->H' b=some o
theorem Same.refl (H:Hp):Same H H:=λ _ _ h=>h
theorem Same.trans {H H2:Hp} (a:Same H H1) (b:Same H1 H2):Same H H2:=λ c o h=>b c o (a c o h)
theorem Same.free {H:Hp} (e:Same H H') (h:H' l=KM):H l=KM:=by
 cases q:H l with
 | none=>rfl
 | some o=>
  rw [e l o q] at h
  cases h
theorem Same.seq {K:BA} {H:Hp} (e:Same H H') (h:SqL K H a xs):SqL K H' a xs:=by
 rcases h with (h | ⟨o,h⟩) | h
 ·exact .inl (.inl (e _ _ h))
 ·exact .inl (.inr ⟨o,e _ _ h⟩)
 ·exact .inr h
section
variable {X:Cx} {pins:List (Addr×Obj)} {σ:St} {H:Hp} {s:Shared}
theorem Inv.adopt {D:Addr} (I:Inv X pins σ H s) (hn:H D=none) (hL:D≠X.env.locals)
  (h1:D∈X.ex\/X.s₀.heap.objs.size<=D) (h2:∀ x c,X.env.cells.lookup x=some c->c≠D) (h3:∀ p∈X.pn++pins,p.1≠D)
  (new:ObjOk X.prog X.w (upd H D o) s.heap D o):Inv X pins σ (upd H D o) s:=by
 have nit:∀ b u,H b=some u->b≠D:=λ b u e z=>by rw [z,hn] at e; cases e
 have keep:∀ b u,H b=some u->upd H D o b=some u:=λ b u e=>by rw [aq (nit b u e)]; exact e
 refine I.step (h':=s.heap) (g':=s.gens) (d':=s.drawn) (t':=s.toks) (ch:=[D]) (λ b hb=>?_) (λ b o _ _ _ e _=>e) (λ b o _ _ _ e _=>⟨o.slots,e⟩) (λ b u hc e n=>?_)
  (λ b o _ e=>⟨o,e⟩) (λ b xs e=>keep b _ e) (λ b o u e=>keep b _ e) (λ b ps e=>⟨#[],by rw [keep b _ e]; simp⟩) (λ m hm=>hm) (λ b u e=>?_) I.bare
 ·have e:b=D:=by simpa using hb
  subst e
  exact ⟨h1,hL,h2,h3⟩
 ·rw [aq (λ z=>hc (by simp [z]))]; exact n
 ·by_cases hb:b=D
  ·subst hb; rw [ac] at e; cases e; exact new
  ·rw [aq hb] at e
   exact (I.hok b u e).stay (λ c v _ q=>q) (λ c q=>keep c _ q) λ c xs q=>keep c _ q
end
noncomputable def aC (X:Cx) (N:List Str) (scope:Scope) (cl:List (Str×Addr)) (fp:List Addr) (C:Addr) (s:Shared) (H:Hp):Cx:=
 { X with N:=N,s₀:=s,H₀:=H,env:=compEnvC scope cl C X.env,outer:=X.stack,ex:=fp,fn:=λ _=>false,pn:=[],xe:=λ _ _=>False }
noncomputable def FrOk (X:Cx) (scope:Scope) (cl:List (Str×Addr)):List Str->Prop
 | []=>True
 | x::r=>(X.env.kindOf x=some .cell/\(relabel scope X.env).names.lookup x=some .cell/\∃ c,cl.lookup x=some c/\X.env.cells.lookup x=some c)/\FrOk X scope cl r
theorem FrOk.mem {X:Cx} {scope:Scope} {cl:List (Str×Addr)}:∀ {l:List Str},FrOk X scope cl l->∀ x∈l,
  X.env.kindOf x=some .cell/\(relabel scope X.env).names.lookup x=some .cell/\∃ c,cl.lookup x=some c/\X.env.cells.lookup x=some c
 | [],_,_,h=>nomatch h
 | y::r,⟨h1,h2⟩,x,h=>by
  rcases BS.mp h with e | e
  ·subst e; exact h1
  ·exact FrOk.mem h2 x e
noncomputable def ClOk (X:Cx):List (Str×Addr)->Prop
 | []=>True
 | p::r=>X.env.cells.lookup p.1=some p.2/\ClOk X r
theorem ClOk.get {X:Cx}:∀ {l:List (Str×Addr)},ClOk X l->∀ x c,l.lookup x=some c->X.env.cells.lookup x=some c
 | [],_,_,_,h=>by simp at h
 | p::r,⟨h1,h2⟩,x,c,h=>by
  obtain ⟨n,a⟩:=p
  cases e:x == n with
  | true=>
   have e':x=n:=by simpa using e
   subst e'
   simp only [I0,e] at h
   cases h
   exact h1
  | false=>
   simp only [I0,e] at h
   exact ClOk.get h2 x c h
structure CompOk (X:Cx) (N tgs frs:List Str) (ix:List Nat) (scope:Scope) (cl:List (Str×Addr)):Prop where
 clos:closureFor scope X.env=pure cl
 cell:∀ y∈scope.names,y.2≠.cell
 kind:scope.kind=.function
 names:∀ y∈scope.names,y.2=.local->scope.names.lookup y.1=some .local
 nm:N=tgs++frs
 ixs:ix.map (X.N[·]?)=frs.map some
 fr:FrOk X scope cl frs
 cls:ClOk X cl
 has:(relabel scope X.env).names.all (λ p=>!(p.2 == .cell || p.2 == .free) || (cl.lookup p.1).isSome)=true
noncomputable def eE (tgs:List Str) (ix:List Nat) (σ:St):St:=B1 tgs.length none++ix.map λ j=>(σ[j]?).getD none
section
variable {X:Cx} {N tgs frs:List Str} {ix:List Nat} {scope:Scope} {cl:List (Str×Addr)}
theorem mM (c:CompOk X N tgs frs ix scope cl) (h1:N[i]? = some x) (h2:(eE tgs ix σ)[i]? = some (some v)):x∈frs/\∃ j:Nat,X.N[j]? = some x/\σ[j]? = some (some v):=by
 unfold eE at h2
 by_cases hi:i<tgs.length
 ·rw [BX (by simpa using hi),Fj,if_pos hi] at h2
  cases h2
 ·rw [B2 (by simpa using hi),ES,BI] at h2
  rw [c.nm,B2 (by lia)] at h1
  have e:=congrArg (·[i - tgs.length]?) c.ixs
  simp only [BI,h1] at e
  cases q:ix[i - tgs.length]? with
  | none=>rw [q] at e; cases e
  | some j=>
   rw [q] at e h2
   simp only [Jp,Lc] at e h2
   refine ⟨Ch h1,j,e,?_⟩
   cases z:σ[j]? with
   | none=>rw [z] at h2; cases h2
   | some o=>rw [z] at h2; simp at h2; rw [h2]
theorem ij {l:List (Str×NameKind)} {k:NameKind} (h:l.lookup x=some k):(x,k)∈l:=D2 h
theorem CompOk.hasOf (c:CompOk X N tgs frs ix scope cl) (h:(relabel scope X.env).names.lookup x=some .cell\/(relabel scope X.env).names.lookup x=some .free):∃ a,cl.lookup x=some a:=by
 have all:=DL.mp c.has
 rcases h with h | h
 ·have q:=all _ (ij h)
  exact E7.mp (by simpa only [beq_self_eq_true,Iq,DJ,HU] using q)
 ·have q:=all _ (ij h)
  exact E7.mp (by simpa only [beq_self_eq_true,Bool.or_true,DJ,HU] using q)
theorem iL {H:Hp} {s2:Shared} {h1:Heap} {C:Addr} {m:Str->Option Value} (c:CompOk X N tgs frs ix scope cl) (I:Inv X pins σ H s2) (hf:∀ b∈fp,nc X pins H b) (hfl:∀ b∈fp,b<s2.heap.objs.size)
  (hC:s2.heap.objs.size<=C) (hns:h1.Ns C m) (hk:∀ b o,s2.heap.get? b=some o->h1.get? b=some o) {pins':List (Addr×Obj)}
  (hpin:∀ p∈pins',h1.get? p.1=some p.2/\s2.heap.objs.size<=p.1/\p.1≠C/\∀ v,p.2.data≠.cell v) :
  Inv (aC X N scope cl fp C s2 H) pins' (eE tgs ix σ) H { s2 with heap:=h1,toks:=tk }:=by
 have hcn:∀ x a,cl.lookup x=some a->X.env.cells.lookup x=some a:=c.cls.get
 have clt:∀ x a,cl.lookup x=some a->a<s2.heap.objs.size:=λ x a e=>by
  obtain ⟨v,q⟩:=I.cell x a (hcn x a e)
  exact q.lt
 refine ⟨⟨I.ok.mod,c.kind,I.ok.glob,I.ok.blt,hC,λ x y a h1 h2=>I.ok.inj x y a (hcn _ _ h1) (hcn _ _ h2),λ x hx=>c.hasOf hx,(λ x a z _=>Bool.noConfusion z),I.ok.hd,I.ok.frames,.inl rfl,λ b hb=>⟨?_,λ x a e=>?_⟩,I.bs,CM I.ok.bsz I.sz,λ b o e hb=>?_,λ b hb z=>?_,I.stack,I.stkFree⟩,
  rfl,I.bare,Un.kept hk,⟨m,hns,λ i x v e1 e2 e3=>?_⟩,λ x a e=>?_,I.hok.fresh hC,λ x a e=>I.freeC x a (hcn x a e),λ p hp=>?_,I.hok.kept hk,?_⟩
 ·exact B0 (B5 (hfl b hb) hC)
 ·exact (hf b hb).2.2.2.2.1 x a (hcn x a e)
 ·rcases (hf b hb).2.2.2.1 with z | z
  ·exact I.ok.noex b o e z
  ·exact absurd (B5 (BJ (I.ok.bs b o e).1) z) (C3 _)
 ·rcases BS.mp (I.stkSub b z) with e | e
  ·exact (hf b hb).2.1 e
  ·exact (hf b hb).2.2.1 e
 ·obtain ⟨hx,j,n1,n2⟩:=mM c e1 e2
  obtain ⟨k1,k2,a,l1,l2⟩:=c.fr.mem x hx
  obtain ⟨m',_,hl⟩:=I.loc
  obtain ⟨u,r,l⟩:=hl j x v n1 n2 (.inr (.inl k1))
  refine ⟨u,r,.inr ⟨.inl k2,a,l1,?_⟩⟩
  rcases l with ⟨l,_⟩ | ⟨_,a',l3,o,l4,l5⟩
  ·rw [k1] at l; cases l
  ·rw [l2] at l3; cases l3
   exact ⟨o,hk _ _ l4,l5⟩
 ·obtain ⟨v,o,q1,q2⟩:=I.cell x a (hcn x a e)
  exact ⟨v,o,hk _ _ q1,q2⟩
 ·have hp':p∈pins':=by simpa [aC] using hp
  obtain ⟨q1,q2,q3,q4⟩:=hpin p hp'
  exact ⟨q1,I.hok.fresh q2,q3,λ z=>by
   rcases BS.mp (I.stkSub p.1 z) with e | e
   ·exact absurd (B5 I.lt q2) (by rw [e]; exact C3 _)
   ·exact I.nofs q2 e,q4⟩
 ·show (eE tgs ix σ).length=N.length
  unfold eE
  have e:=congrArg IR c.ixs
  simp only [By] at e
  rw [c.nm]; simp [e]
theorem fE {prog:Program} {w:World} {A:Around} {R:Result->Shared->Prop} {s:Shared} {elt target iter:Expr} {pos:Pos} {it acc:Value} {env:Env} (I:Nat->Shared->Prop)
  (turn:∀ n s,I n s->wpAny (model prog w) A (pyNext it) (λ r s1=>match r with
   | none=>R (.ok .next) s1
   | some v=>wpAny (model prog w) A (letOwnedTupleGo target it v) (λ _ s1'=>wpAny (model prog w) A (assign target env v) (λ _ s2=>wpAny (model prog w) A (eval elt env) (λ x s3=>
     wpAny (model prog w) A (call (.builtin "list.append") [acc,x]) (λ _ s4=>∃ m,m<n/\I m s4) (λ _ _=>False) s3)
     (λ _ _=>False) s2) (λ _ _=>False) s1') (λ _ _=>False) s1) (λ _ _=>False) s)
  (n:Nat) (h:I n s) :
  codeAny (model prog w) A (.compLoop (.ListComp elt [⟨target,iter,[],0⟩] scope pos) 0 it acc env) R s:=by
 have up:∀ {α:Type} {t:Sem α} {Q Q':α->Shared->Prop} {E:Value->Shared->Prop} {s:Shared},wpAny (model prog w) A t Q (λ _ _=>False) s->(∀ a s,Q a s->Q' a s)->wpAny (model prog w) A t Q' E s:=λ h hq=>wpAny_mono h hq λ _ _ f=>f.elim
 refine codeAny_loop rfl I (λ n s hI=>?_) n h
 show wpAny _ _ ((compTurn (.ListComp elt [⟨target,iter,[],0⟩] scope pos) 0 it acc env).onRaise (λ x=>do noteFrame x env; theTreesLotGoes x)) _ _ s
 refine wpAny_noted ?_
 rw [compTurn_list1]
 refine wpAny_bind (wpAny_standAt (wpAny_bind (up (turn n s hI) (λ r s1 h1=>?_))))
 cases r with
 | none=>exact wpAny_pure h1
 | some v=>
  refine wpAny_bind (up h1 λ _ s1' h1'=>?_)
  exact wpAny_bind (up h1' (λ _ s2 h2=>wpAny_bind (wpAny_bind (up h2 (λ x s3 h3=>wpAny_bind (up h3
   (λ _ s4 h4=>wpAny_pure (wpAny_pure ⟨rfl,h4⟩))))))))
noncomputable def nW (wi:TI) (g:TG) (te:TE) (tgs:List Str) (ix:List Nat):TE:=λ σ H Q=>wi σ H λ J H1=>
 ∃ W:Nat->Nat->List V->St->Hp->Prop,(∃ m,W 0 m [] (eE tgs ix σ) H1)/\∀ i m xs σc H,W i m xs σc H->xs.length<sizeLine/\
  ((J.stop i H/\∀ p,H p=none->Q (.ref p) (upd H p (.lst xs)))\/(J.go i H/\∀ x H',J.yld i H x H'->g x σc H' λ σ2 H2=>te σ2 H2 λ y H3=>∃ m',m'<m/\W (i+1) m' (xs++[y]) σ2 H3))
noncomputable abbrev aQ (us:List Value) (k:Nat):Obj:={ cls:=.type "list",data:=.seq us.toArray k }
theorem uC {tg:Expr} (c:CompOk X N tgs frs ix scope cl) (hc:X.calm=true) (hi:PI X tg iter wi)
  (hg:∀ fp C s H,PG (aC X N scope cl fp C s H) tg g) (he:∀ fp C s H,PE (aC X N scope cl fp C s H) elt te)
  (hs:∀ x,foldedSetIterable iter X.env x=pure x:=by intro _; rfl) :
  PE X (.ListComp elt [⟨tg,iter,[],0⟩] scope pos) (nW wi g te tgs ix):=by
 intro pins s σ H Q I h
 rw [eval_ListComp]
 refine wpAny_comprehension_free (use:=none) rfl hs c.clos c.kind c.names (thn (hi pins s σ H _ I h) λ xv s1 h1=>thn h1 λ itv s2 h2=>?_)
 obtain ⟨it,fp,tn,J,H2,rfl,I2,T,st2,f2,W,⟨m0,w0⟩,turn⟩:=h2
 have hfl:∀ b∈fp,b<s2.heap.objs.size:=λ b hb=>by
  obtain ⟨o,e,_⟩:=T.obj _ _ st2 b hb
  exact BJ e
 have hcn:∀ x a,cl.lookup x=some a->X.env.cells.lookup x=some a:=c.cls.get
 refine wpAny_newObj_type (wpAny_newFunctionEnv c.cell (by intro y hy; simp at hy) (λ h1 hns1 hsb1=>?_) c.kind)
 dsimp only at hns1 hsb1 ⊢
 generalize hH2:s2.heap.push { cls:=.type "list",dict:=none,data:=.seq ([]:List Value).toArray }=G2 at hns1 hsb1 ⊢
 have hC:G2.objs.size=s2.heap.objs.size+1:=by rw [<-hH2,Eh]
 generalize hCC:G2.objs.size=C at *
 generalize hDD:s2.heap.objs.size=D at *
 have hDC:D≠C:=by lia
 have hCle:D<=C:=by lia
 have old:∀ b o,s2.heap.get? b=some o->h1.get? b=some o:=λ b o e=>by
  have lt:b<s2.heap.objs.size:=BJ e
  exact hsb1.extBut b o (B0 (B5 (hDD▸lt) hCle)) (BB _ (hH2▸BB _ e))
 have hacc:h1.get? D=some (aQ [] 0):=hsb1.extBut _ _ hDC (BB _ (hH2▸(hDD▸BU _ rfl)))
 have cellD:∀ x a,X.env.cells.lookup x=some a->a<D:=λ x a e=>by
  obtain ⟨v,q⟩:=I2.cell x a e
  exact hDD▸q.lt
 have fpc:∀ {H':Hp} {us:List Value} {k:Nat},(∀ b∈fp,H' b=none)->∀ b∈fp,nc (aC X N scope cl fp C s2 H2) [(D,aQ us k)] H' b:=λ {H' us k} hn b hb=>by
  have lb:=hfl b hb
  refine ⟨hn b hb,?_,λ z=>?_,.inl hb,λ x a e z=>?_,λ p hp=>?_⟩
  ·exact B0 (B5 lb hCle)
  ·rcases BS.mp (I2.stkSub b z) with e | e
   ·exact (f2 b hb).2.1 e
   ·exact (f2 b hb).2.2.1 e
  ·exact (f2 b hb).2.2.2.2.1 x a (hcn x a e) z
  ·have:p=(D,aQ us k):=by simpa [aC] using hp
   rw [this]; exact Df lb
 have D_fs:D∉(aC X N scope cl fp C s2 H2).fs:=λ z=>by
  rcases BS.mp (I2.stkSub D z) with e | e
  ·exact absurd I2.lt (by rw [<-e,hDD]; exact C3 _)
  ·exact I2.nofs (DT hDD) e
 have I3:=iL (tk:=s2.toks+([]:List (Str×Value)).length) (pins':=[(D,aQ [] 0)]) c I2 f2 (λ b hb=>hDD▸hfl b hb) (hDD▸hCle:s2.heap.objs.size<=C) hns1 old (λ p hp=>by
  have e:p=(D,aQ [] 0):=by simpa using hp
  subst e
  exact ⟨hacc,DT hDD,hDC,λ v z=>by cases z⟩)
 have tn3:tn 0 h1:=T.keep _ _ _ st2 λ b _ o e=>old b o e
 have loop:codeAny (model X.prog X.w) X.A (.compLoop (.ListComp elt [⟨tg,iter,[],0⟩] scope pos) 0 (.ref it) (.ref D) (compEnvC scope cl C X.env))
   (compPost (model X.prog X.w) X.A X.xe none (EP X pins σ Q) (.ref D) C) { s2 with heap:=h1,toks:=s2.toks+([]:List (Str×Value)).length }:=by
  refine fE (λ n s'=>∃ i xs us k σc H',Inv (aC X N scope cl fp C s2 H2) [(D,aQ us k)] σc H' s'/\tn i s'.heap/\(∀ b∈fp,H' b=none)/\Vals xs us/\W i n xs σc H') ?_ m0
   ⟨0,[],[],0,_,H2,I3,tn3,λ b hb=>(f2 b hb).1,.nil,w0⟩
  rintro n s4 ⟨i,xs,us,k,σ4,H4,I4,tn4,fr4,rv,w4⟩
  obtain ⟨hsz,tt⟩:=turn i n xs σ4 H4 w4
  rcases tt with ⟨stop,fin⟩ | ⟨go,step⟩
  ·refine thn (T.done (aC X N scope cl fp C s2 H2) rfl rfl rfl hc i _ s4 σ4 H4 _ I4 (fpc fr4) tn4 stop) λ r s5 ⟨hr,I5⟩=>?_
   subst hr
   obtain ⟨m,ns,_⟩:=I5.loc
   refine ⟨m,ns,λ h' sb=>?_⟩
   have J1:Inv X pins σ H4 s5:=I2.call' I5.os I5.base I5.hok I5.bare λ b hb=>⟨(f2 b hb).2.2.2.1,(f2 b hb).2.1,(f2 b hb).2.2.2.2.1,(f2 b hb).2.2.2.2.2⟩
   have big:∀ a,D<=a->a≠X.env.locals/\(a∈X.ex\/X.s₀.heap.objs.size<=a)/\(∀ x y,X.env.cells.lookup x=some y->y≠a)/\∀ p∈X.pn++pins,p.1≠a:=λ a ha=>by
    obtain ⟨q0,q1,q2,q3,q4,q5⟩:=I2.fpOk (b:=a) (H':=λ _=>none) (hDD▸ha) rfl
    exact ⟨q1,q3,q4,q5⟩
   obtain ⟨b1,b2,b3,b4⟩:=big C hCle
   have J2:Inv X pins σ H4 { s5 with heap:=h' }:=J1.turned (t':=s5.toks) (λ b o hb e=>sb.extBut b o hb e) I5.free b1 b2 b3 b4
   obtain ⟨p1,p2,p3,p4,p5⟩:=I5.pin (D,aQ us k) (by simp)
   obtain ⟨d1,d2,d3,d4⟩:=big D (BD _)
   have J3:Inv X pins σ (upd H4 D (.lst xs)) { s5 with heap:=h' }:=J2.adopt p2 d1 d2 d3 d4 ⟨DH hsz,us,k,rv,sb.extBut _ _ hDC p1⟩
   exact ⟨.ref D,_,J3,rfl,fin D p2⟩
  ·refine thn (T.item (aC X N scope cl fp C s2 H2) rfl rfl rfl hc i _ s4 σ4 H4 _ I4 (fpc fr4) tn4 go) λ r s5 ⟨u,hr,h5⟩=>?_
   subst hr
   refine thn h5 λ _ s6 ⟨x,H6,I6,r6,y6,tn6,fr6⟩=>?_
   have I6':=I6.pinned (fpc fr6) (T.obj _ _ tn6)
   refine thn (hg fp C s2 H2 _ s6 σ4 H6 x u _ I6' r6 (step x H6 y6)) λ _ s7 ⟨σ7,H7,I7,q7⟩=>?_
   refine thn (he fp C s2 H2 _ s7 σ7 H7 _ I7 q7) λ yv s8 ⟨y,H8,I8,r8,m',hm,w8⟩=>?_
   obtain ⟨p1,p2,p3,p4,p5⟩:=I8.pin (D,aQ us k) (by simp [aC])
   have hsz':us.toArray.size<=sizeLine:=by simp; rw [<-rv.length]; exact DH hsz
   refine wpAny_list_append_plain (hsz:=hsz') ⟨k,p1⟩ λ h' pl sb=>?_
   have tn8:tn (i+1) s8.heap:=T.keep _ _ _ tn6 λ b hb o e=>(I8.pin (b,o) (BL _ (BL _ (bc hb e)))).1
   have fr8:∀ b∈fp,H8 b=none:=λ b hb=>by
    obtain ⟨o,e,d⟩:=T.obj _ _ tn6 b hb
    exact (I8.pin (b,o) (BL _ (BL _ (bc hb e)))).2.1
   have I9:Inv (aC X N scope cl fp C s2 H2) [] σ7 H8 s8:=I8.pins_of λ p hp=>nomatch hp
   have I10:Inv (aC X N scope cl fp C s2 H2) [] σ7 H8 { s8 with heap:=h' }:=I9.turned (t':=s8.toks) (it:=D) (λ b o hb e=>sb.extBut b o hb e) p2 p3 (.inr (DT hDD))
    (λ x a e=>B0 (cellD x a (hcn x a e))) (λ p hp=>by simp [aC] at hp)
   obtain ⟨k',pl⟩:=pl
   have eu:us.toArray.push yv=(us++[yv]).toArray:=by simp
   rw [eu] at pl
   have I11:Inv (aC X N scope cl fp C s2 H2) [(D,aQ (us++[yv]) k')] σ7 H8 { s8 with heap:=h' }:=I10.pins_of λ p hp=>by
    have e:p=(D,aQ (us++[yv]) k'):=by simpa using hp
    subst e
    exact ⟨pl,p2,p3,p4,λ v z=>by cases z⟩
   exact ⟨m',hm,i+1,xs++[y],us++[yv],k',σ7,H8,I11,T.keep _ _ _ tn8 λ b hb o e=>sb.extBut b o (B0 (hfl b hb)) e,fr8,rv.append (.cons r8 .nil),w8⟩
 exact codeAny_compStart_list loop (T.self _ 0 _ _ _ tn3 loop)
end
section
variable {X:Cx}
noncomputable def qI (i j:Int):Prop:=0<j/\j.natAbs.log2<9000
theorem mO {j:Int} (h0:0<j) (h:j<2 ^ 64):j.natAbs.log2<9000:=by
 have:j.natAbs<2 ^ 64:=by lia
 have h2:=(He (by lia:j.natAbs≠0)).mpr this
 lia
theorem qJ:OpR X (binaryOp .FloorDiv) (rI qI λ i j=>.int (i / j)):=opI λ i j _ _ _ _ _ hc q=>by
 have e:i.fdiv j=i / j:=Int.fdiv_eq_ediv_of_nonneg _ (Int.le_of_lt hc.1)
 exact floordiv_int (Int.ne_of_gt hc.1) (by rw [e]; exact q) (.inl (PyProof.noPylong_of_log2 hc.2))
theorem qK (hc:X.calm=true):bU X (.builtin "sum") (λ xs H Q=>∃ (p:Addr) (ns:List Int),xs=[.ref p]/\SqL X.K H p (ns.map Lz)/\Q (.int ns.sum) H):=by
 intro pins s σ H xs us Q I r h
 obtain ⟨p,ns,rfl,hq,q⟩:=h
 obtain ⟨u,rfl,ru⟩:=fN r
 cases ru
 obtain ⟨its,rv,hp,hz⟩:=I.list hq
 have hi:IntsAre its ns:=cu rv
 have hl:=hp.isList
 obtain ⟨zs,hx⟩:=hi.allInts.items
 have hn:numsOf its.toArray.toList=ns:=by rw [show its.toArray.toList=its from rfl,hi.numsOf]
 rw [hx] at hl hn
 rw [nums_intItems] at hn
 refine sum_intListG (I.ok.hd hc) hl λ h' tk t' hk=>?_
 refine ⟨.int ns.sum,H,I.kept hk,⟨t',?_⟩,q⟩
 rw [preSum_eq,BF (by simp),hn]
theorem nX {bs:List Bool} (h:bs.length=n):(BC n).all (λ i=>bs.getD i true)=bs.all id:=by
 subst h
 rw [Ew,DL,DL]
 constructor
 ·intro h b hb
  obtain ⟨i,hi,rfl⟩:=List.mem_iff_getElem.mp hb
  have:=h i (by simpa using hi)
  simpa [hi] using this
 ·intro h i hi
  have hi:i<bs.length:=by simpa using hi
  simp only [Bz,Bx hi,Ja]
  exact h _ (BM hi)
theorem uD {bs:List Bool} (rv:Vals (bs.map V.bl) its) {v:Value} (h:its.toArray[i]? = some v) {d:Bool}:v=.bool (bs.getD i d):=by
 have h':its[i]? = some v:=by simpa using h
 have hl:=rv.length
 have hi:i<its.length:=(BZ.mp h').1
 have hi':i<bs.length:=by simpa using (by lia:i<(bs.map V.bl).length)
 obtain ⟨u,e,ru⟩:=rv.get (i:=i) (x:=V.bl bs[i]) (by simp [hi'])
 rw [h'] at e; cases e
 have:v=.bool bs[i]:=ru
 rw [this]; simp [hi']
theorem qL (hc:X.calm=true):bU X (.builtin "all") (λ xs H Q=>∃ (p:Addr) (bs:List Bool),xs=[.ref p]/\SqL X.K H p (bs.map V.bl)/\Q (.bl (bs.all id)) H):=by
 intro pins s σ H xs us Q I r h
 obtain ⟨p,bs,rfl,hq,q⟩:=h
 obtain ⟨u,rfl,ru⟩:=fN r
 cases ru
 obtain ⟨its,rv,hp,hz⟩:=I.list hq
 have hlt:p<s.heap.objs.size:=by obtain ⟨o,e,_⟩:=hp.isList; exact BJ e
 refine call_all_walk (wpAny_pyIter_list hp.isList ?_)
 refine ⟨s.heap.objs.size,_,_,_,_,_,λ i=>bs.getD i true,rfl,KU (A:=X.A.in1) (I.ok.hd hc) _ p (B0 hlt) its.toArray,⟨⟨_,BU _ rfl,rfl,rfl⟩,hp.isList.at λ o e=>BB _ e⟩,?_,λ h' tk hk=>?_⟩
 ·intro i v s Q E hv hQ
  rw [uD rv hv (d:=true)]
  exact wpAny_truthy_bool hQ
 ·have e:(BC its.toArray.size).all (λ i=>bs.getD i true)=bs.all id:=nX (by have:=rv.length; simpa using this)
  rw [e]
  exact ⟨.bl (bs.all id),H,I.kept λ b o e=>hk b o (by simp; exact B0 (BJ e)) (BB _ e),rfl,q⟩
theorem qM:bU X (.builtin "isinstance") (λ xs H Q=>∃ x t T b,xs=[x,.ty T]/\TyOf X.K H x t/\EQ X.K t (.type T)=some b/\Q (.bl b) H):=by
 intro pins s σ H xs us Q I r h
 obtain ⟨x,t,T,b,rfl,ty,e,q⟩:=h
 obtain ⟨u,w',rfl,ru,rw'⟩:=um r
 cases (show w'=Ds T from rw')
 exact nI I ru ty e λ tk=>⟨.bl b,H,I.tok _,rfl,q⟩
example (K:BA):EQ K (.type "int") (.type "int")=some true:=rfl
example (K:BA):EQ K (.type "int") (.type "bool")=some false:=rfl
example (K:BA):EQ K (.type "tuple") (.type "tuple")=some true:=rfl
end
noncomputable def cn:Expr->Bool
 | .Starred ..=>false
 | _=>true
theorem aH {e:Expr} {es:List Expr} {env:Env} (h:cn e=true):starEach (e::es) env=(false,eval e env)::starEach es env:=by
 cases e<;>first | rfl | cases h
theorem fT {pos:Pos} {env:Env}:∀ {es:List Expr},es.all cn=true->(backTo pos (starEach es env)).any (·.1)=false
 | [],_=>rfl
 | e::es,h=>by
  rw [Gs,CI] at h
  rw [aH h.1]
  exact fT (es:=es) h.2
section
variable {X:Cx} {CX:CXT} {k:Nat} {f:Addr} {fd:FuncData} {ps:List Str} {sp:Sp} {E:XK} {x:Str} {p pos apos cpos:Pos} {e o:Expr} {es:List Expr} {te to:TE} {t:TA} {id T:String} {name:Str}
theorem A1 (ha:PE X e te) (hr:PA X es t) (hn:cn e=true:=by rfl):PA X (e::es) (mG te t):=uq ha hr (aH hn)
theorem qN (F:FnOk X.prog X.w X.K X.mg X.base CX k f fd ps sp) (hr:Room k X.A) (hg:Gl X x) (hm:X.mg x=some (.ref f)) (hk:ER X.K (.ref f)=true) (hb:Binds X.K fd ps []) (hx:jt CX X E)
  (ha:PA X (e::es) t) (hn:(e::es).all cn=true:=by rfl) (hdb:(x == ("__debug__" : Str))=false:=by decide):PE X (.Call (.Name x p) (e::es) [] pos) (qB sp [] E t):=by
 rw [Gs,CI] at hn
 exact ur F hr hg hm hk hb .nil hx ha hdb (aH hn.1) (fT hn.2)
theorem nY {r:List V->Hp->VK->Prop} (hc:bU X (.builtin id) r) (hg:Gl X x) (hm:X.mg x=none) (hv:bootBuiltins x=some (.builtin id)) (ha:PA X (e::es) t) (hn:(e::es).all cn=true:=by rfl) (hn2:x≠"__name__":=by decide) (hdb:(x == ("__debug__" : Str))=false:=by decide) :
  PE X (.Call (.Name x p) (e::es) [] pos) (tCB r t):=by
 rw [Gs,CI] at hn
 exact qC hc hg hm hv ha hn2 hdb (aH hn.1) (fT hn.2)
theorem mP {r:List V->Hp->VK->Prop} (hc:bU X (.type T) r) (hg:Gl X x) (hm:X.mg x=none) (hv:bootBuiltins x=some (.type T)) (ha:PA X (e::es) t) (hn:(e::es).all cn=true:=by rfl) (hn2:x≠"__name__":=by decide) (hdb:(x == ("__debug__" : Str))=false:=by decide) :
  PE X (.Call (.Name x p) (e::es) [] pos) (tCB r t):=by
 rw [Gs,CI] at hn
 exact nK hc hg hm hv ha hn2 hdb (aH hn.1) (fT hn.2)
theorem nZ {r:V->List V->Hp->VK->Prop} (pa:PlainAttrs T) (slot:Slot T name id) (hty:typeOf (.builtin id)=pure (.type "method_descriptor")) (hm:MtR X id r) (ho:PE X o to) (ha:PA X [e] t)
  (hbase:attributeBase o name X.env (eval o X.env)=eval o X.env:=by rfl) (hline:(apos.endLine == cpos.line)=true:=by rfl) (hn:cn e=true:=by rfl) :
  PE X (.Call (.Attribute o name apos) [e] [] cpos) (tBM X.K T r to t):=by
 refine zq pa slot hty hm ho ha hbase ?_ hline (aH hn) rfl
 rw [aH hn]; rfl
end
section
variable {K:BA} {σ:St} {H:Hp} {Q:VK} {D:Ends} {E:XK}
theorem Av {t u:TS} (h:t { D with nx:=u D } σ H):yT t u D σ H:=h
theorem Aw (h:te σ H λ x H1=>g x σ H1 D.nx):qw te g D σ H:=h
theorem qO {R:St->Hp->Prop} (h:R (σ.set i (some v)) H):eC i v σ H R:=h
theorem zu {ti:TE} {t:t7} {R:St->Hp->Prop} (h:to σ H λ o H1=>ti σ H1 λ i H2=>t o i v H2 λ H3=>R σ H3):yY to ti t v σ H R:=h
theorem Ax (h:te σ H D.rt):yU te D σ H:=h
theorem zw (h:te σ H λ _ H1=>D.nx σ H1):t5 te D σ H:=h
theorem zx (h:D.nx σ H):tW D σ H:=h
theorem A2 {c:TT} {t u:TS} (h:c σ H λ b H1=>if b=true then t D σ H1 else u D σ H1):yV c t u D σ H:=h
theorem zy {t:TE} {R:Bool->Hp->Prop} (h:t σ H λ x H'=>∃ k,x=.bl k/\R k H'):uk t σ H R:=h
theorem Bt {t:TE} {R:Bool->Hp->Prop} (h:t σ H λ x H'=>∃ k,x=.bl k/\R k H'):tB t σ H R:=h
theorem A3 {b:Bool} {R:Bool->Prop} (h:R b):∃ k,V.bl b=.bl k/\R k:=⟨b,rfl,h⟩
theorem Ay {t:TT} {R:Bool->Hp->Prop} (h:t σ H λ c H1=>R (!c) H1):yR t σ H R:=h
theorem A4 {t u:TT} {R:Bool->Hp->Prop} (h:t σ H λ c H1=>if c=true then R true H1 else u σ H1 R):tOr t u σ H R:=h
theorem Az {t u:TT} {R:Bool->Hp->Prop} (h:t σ H λ c H1=>if c=true then u σ H1 R else R false H1):yQ t u σ H R:=h
theorem zz {tb:TE} (h:ta σ H λ x H1=>∃ c,x=.bl c/\if c=true then tb σ H1 Q else Q (.bl false) H1):tU ta tb σ H Q:=h
theorem zA (h:ta σ H λ x H1=>∃ c,x=.bl c/\Q (.bl (!c)) H1):tV ta σ H Q:=h
theorem Bu (h:Q v H):tC v σ H Q:=h
theorem A5 {r:R2} {tb:TE} (h:ta σ H λ x H1=>tb σ H1 λ y H2=>r x y H2 Q):tOp r ta tb σ H Q:=h
theorem A6 {r:V->Hp->VK->Prop} (h:ta σ H λ x H1=>r x H1 Q):tUn r ta σ H Q:=h
theorem A7 {g:Int->Int->V} {i j:Int} (h:Q (g i j) H):rI0 g (.int i) (.int j) H Q:=⟨i,j,rfl,rfl,h⟩
theorem A8 {C:Int->Int->Prop} {g:Int->Int->V} {i j:Int} (c:C i j) (h:Q (g i j) H):rI C g (.int i) (.int j) H Q:=⟨i,j,rfl,rfl,c,h⟩
theorem Bv {g:Int->V} {i:Int} (h:Q (g i) H):rU g (.int i) H Q:=⟨i,rfl,h⟩
theorem AA {i j:Int} (h:Q (.bl (decide (Lz i=Lz j))) H):rEq (.int i) (.int j) H Q:=⟨rfl,h⟩
theorem dU {p:Addr} {i:Int} (s:SqL K H p xs) (a:atI xs i=some v) (h:Q v H):wV K (.ref p) (.int i) H Q:=⟨p,xs,i,v,rfl,rfl,s,a,h⟩
theorem fF {p:Addr} {i:Int} (s:SqT K H p xs) (a:atI xs i=some v) (h:Q v H):wW K (.ref p) (.int i) H Q:=⟨p,xs,i,v,rfl,rfl,s,a,h⟩
theorem n5 {p:Addr} {k:Int} {R:Hp->Prop} (s:H p=some (.lst xs)) (a:ixN xs.length k=some j) (h:R (upd H p (.lst (xs.set j v)))):nO (.ref p) (.int k) v H R:=⟨p,xs,k,j,rfl,rfl,s,a,h⟩
theorem xa {p:Addr} {i:Int} (s:H p=some (.lst xs)) (h:∃ v,atI xs i=some v/\Q v H):wV K (.ref p) (.int i) H Q:=let ⟨v,a,q⟩:=h; ⟨p,xs,i,v,rfl,rfl,Lx s,a,q⟩
theorem uE {p:Addr} {i:Int} (s:H p=some (.tup xs)) (h:∃ v,atI xs i=some v/\Q v H):wW K (.ref p) (.int i) H Q:=let ⟨v,a,q⟩:=h; ⟨p,xs,i,v,rfl,rfl,Ly s,a,q⟩
theorem uF {p:Addr} {k:Int} {R:Hp->Prop} (s:H p=some (.lst xs)) (h:∃ j,ixN xs.length k=some j/\R (upd H p (.lst (xs.set j v)))):nO (.ref p) (.int k) v H R:=let ⟨j,a,q⟩:=h; ⟨p,xs,k,j,rfl,rfl,s,a,q⟩
theorem A9 {r:List V->Hp->VK->Prop} {t:TA} (h:t σ H λ vs H1=>r vs H1 Q):tCB r t σ H Q:=h
theorem zB {tr:TA} {R:List V->Hp->Prop} (h:ta σ H λ x H1=>tr σ H1 λ xs H2=>R (x::xs) H2):mG ta tr σ H R:=h
theorem AB {R:List V->Hp->Prop} (h:R [] H):yz σ H R:=h
theorem zC {sp:Sp} {t:TA} (h:t σ H λ vs H1=>sp (vs++[]) H1 Q E):qB sp [] E t σ H Q:=h
theorem AC {t:TA} (h:t σ H λ xs H1=>xs.length<=sizeLine/\∀ p,H1 p=none->Q (.ref p) (upd H1 p (.lst xs))):zk t σ H Q:=h
theorem AD {t:TA} (h:t σ H λ xs H1=>xs.length<=sizeLine/\∀ p,H1 p=none->Q (.ref p) (upd H1 p (.tup xs))):zj t σ H Q:=h
theorem iM {A B:Prop} (h:A):if true=true then A else B:=by rw [if_pos rfl]; exact h
theorem cS {A B:Prop} (h:B):if false=true then A else B:=by rw [if_neg BW]; exact h
theorem aJ {c A B:Prop} [Decidable c] (h1:c->A) (h2:¬ c->B):if decide c=true then A else B:=by
 by_cases h:c
 ·rw [decide_eq_true h]; exact iM (h1 h)
 ·rw [decide_eq_false h]; exact cS (h2 h)
theorem sL {c A B:Prop} [Decidable c] (hc:c) (h:A):if decide c=true then A else B:=by rw [decide_eq_true hc]; exact iM h
theorem lp {c A B:Prop} [Decidable c] (hc:¬ c) (h:B):if decide c=true then A else B:=by rw [decide_eq_false hc]; exact cS h
theorem iN {c A B:Prop} [Decidable c] (hc:c) (h:B):if (!decide c)=true then A else B:=by rw [decide_eq_true hc]; exact cS h
theorem ba (h:n<=1000):n<=sizeLine:=DH (aB h)
theorem zD {i j:Int} (h1:0<j) (h2:j<2 ^ 64):qI i j:=⟨h1,mO h1 h2⟩
theorem zE {i:Int} {e:Nat} (h1:0<b) (h2:b<=64) (h3:e<=1000):qI i ((b ^ e:Nat):Int):=by
 have hp:0<b ^ e:=IT h1
 refine ⟨Int.natCast_pos.mpr hp,?_⟩
 rw [Int.natAbs_natCast,He (Df hp)]
 have h4:b ^ e<=64 ^ e:=Nat.pow_le_pow_left h2 e
 have h5:(64:Nat) ^ e=2 ^ (6*e):=by rw [Nat.pow_mul]
 have h6:2 ^ (6*e)<2 ^ 9000:=Nat.pow_lt_pow_right (by decide) (by lia)
 lia
theorem Ba {i j:Int} (h1:0<j) (h2:j<1073741824):A0 i j:=⟨h1,h2⟩
theorem zF {i j:Int} (h1:-(2 ^ 64)<i) (h2:i<2 ^ 64):CMul i j:=.inl ⟨h1,h2⟩
theorem zG {i j:Int} (h1:-(2 ^ 64)<j) (h2:j<2 ^ 64):CMul i j:=.inr ⟨h1,h2⟩
theorem Bb {i j:Int} (h1:0<=j) (h2:j<=1000000) (h3:i.natAbs<2 ^ 64):yy i j:=⟨h1,h2,h3⟩
theorem yA (h:Q (.int 1000000000000000000) H):rI yy (λ i j=>.int (i ^ j.toNat)) (.int 10) (.int 18) H Q:=⟨10,18,rfl,rfl,⟨by decide,by decide,by decide⟩,by
 have e:(10:Int) ^ (18:Int).toNat=1000000000000000000:=by decide
 show Q (.int ((10:Int) ^ (18:Int).toNat)) H
 rw [e]; exact h⟩
noncomputable abbrev RC:=List V->Hp->VK->Prop
noncomputable def zH:RC:=λ xs H Q=>∃ i,xs=[.int i]/\Q (.int (if i<0 then -i else i)) H
noncomputable def uG:RC:=λ xs H Q=>∃ k,xs=[.bl k]/\Q (.int (if k then 1 else 0)) H
noncomputable def uH:RC:=λ xs H Q=>∃ i j,xs=[.int i,.int j]/\Q (.int (if j<i then j else i)) H
noncomputable def uI:RC:=λ xs H Q=>∃ i j,xs=[.int i,.int j]/\Q (.int (if j > i then j else i)) H
noncomputable def yB (K:BA):RC:=λ xs H Q=>∃ p ys,xs=[.ref p]/\(SqL K H p ys\/SqT K H p ys)/\Q (.int ys.length) H
noncomputable def zI (K:BA):RC:=λ xs H Q=>∃ (p:Addr) (ns:List Int),xs=[.ref p]/\SqL K H p (ns.map Lz)/\Q (.int ns.sum) H
noncomputable def zJ (K:BA):RC:=λ xs H Q=>∃ (p:Addr) (bs:List Bool),xs=[.ref p]/\SqL K H p (bs.map V.bl)/\Q (.bl (bs.all id)) H
noncomputable def qP (K:BA):RC:=λ xs H Q=>∃ x t T b,xs=[x,.ty T]/\TyOf K H x t/\EQ K t (.type T)=some b/\Q (.bl b) H
noncomputable def kA (K:BA):RC:=λ xs H Q=>∃ p ys,xs=[.ref p]/\(SqL K H p ys\/SqT K H p ys)/\∀ l,H l=none->Q (.ref l) (upd H l (.lst ys))
noncomputable def iO (K:BA):RC:=λ xs H Q=>∃ p ys,xs=[.ref p]/\((SqL K H p ys/\∀ l,H l=none->Q (.ref l) (upd H l (.tup ys)))\/(SqT K H p ys/\Q (.ref p) H))
section
variable {X:Cx}
theorem xb:bU X (.builtin "abs") zH:=qA
theorem xf:bU X (.type "int") uG:=λ pins s σ H xs us Q I r h=>nG pins s σ H xs us Q I r (.inr h)
theorem xg (hc:X.calm=true):bU X (.builtin "min") uH:=nF hc
theorem xh (hc:X.calm=true):bU X (.builtin "max") uI:=nE hc
theorem xi:bU X (.builtin "len") (yB X.K):=jA
theorem xj (hc:X.calm=true):bU X (.builtin "sum") (zI X.K):=qK hc
theorem xk (hc:X.calm=true):bU X (.builtin "all") (zJ X.K):=qL hc
theorem xl:bU X (.builtin "isinstance") (qP X.K):=qM
theorem uJ:bU X (.type "list") (kA X.K):=jB
theorem qQ:bU X (.type "tuple") (iO X.K):=iJ
end
theorem AE {i:Int} (h:Q (.int (if i<0 then -i else i)) H):zH [.int i] H Q:=⟨i,rfl,h⟩
theorem zK {k:Bool} (h:Q (.int (if k then 1 else 0)) H):uG [.bl k] H Q:=⟨k,rfl,h⟩
theorem AF {i j:Int} (h:Q (.int (if j<i then j else i)) H):uH [.int i,.int j] H Q:=⟨i,j,rfl,h⟩
theorem AG {i j:Int} (h:Q (.int (if j > i then j else i)) H):uI [.int i,.int j] H Q:=⟨i,j,rfl,h⟩
theorem bL {p:Addr} (s:SqL K H p ys) (h:Q (.int ys.length) H):yB K [.ref p] H Q:=⟨p,ys,rfl,.inl s,h⟩
theorem iP {p:Addr} (s:SqT K H p ys) (h:Q (.int ys.length) H):yB K [.ref p] H Q:=⟨p,ys,rfl,.inr s,h⟩
theorem xm {p:Addr} {ns:List Int} (s:SqL K H p (ns.map Lz)) (h:Q (.int ns.sum) H):zI K [.ref p] H Q:=⟨p,ns,rfl,s,h⟩
theorem sM {p:Addr} {bs:List Bool} (s:SqL K H p (bs.map V.bl)) (h:Q (.bl (bs.all id)) H):zJ K [.ref p] H Q:=⟨p,bs,rfl,s,h⟩
theorem yC {i:Int} (h:Q (.bl true) H):qP K [.int i,.ty "int"] H Q:=⟨_,_,_,_,rfl,.int i,rfl,h⟩
theorem yD {i:Int} (h:Q (.bl false) H):qP K [.int i,.ty "bool"] H Q:=⟨_,_,_,_,rfl,.int i,rfl,h⟩
theorem lq {p:Addr} (s:H p=some (.tup xs)) (h:Q (.bl true) H):qP K [.ref p,.ty "tuple"] H Q:=⟨_,_,_,_,rfl,.tup s,rfl,h⟩
theorem lv {p:Addr} (s:H p=some (.lst xs)) (h:Q (.bl true) H):qP K [.ref p,.ty "list"] H Q:=⟨_,_,_,_,rfl,.lst s,rfl,h⟩
theorem n6 {p:Addr} (s:SqL K H p ys\/SqT K H p ys) (h:∀ l,H l=none->Q (.ref l) (upd H l (.lst ys))):kA K [.ref p] H Q:=⟨p,ys,rfl,s,h⟩
theorem cx {p:Addr} (s:SqL K H p ys) (h:∀ l,H l=none->Q (.ref l) (upd H l (.tup ys))):iO K [.ref p] H Q:=⟨p,ys,rfl,.inl ⟨s,h⟩⟩
theorem iQ {r:Int} (h0:0<=r) (h1:r<xs.length):∃ v,atI xs r=some v/\v∈xs:=by
 have hl:r.toNat<xs.length:=by lia
 have e:r=(r.toNat:Int):=by lia
 refine ⟨xs[r.toNat],?_,BM hl⟩
 have:=bv (xs:=xs) (j:=r.toNat) (v:=xs[r.toNat]) (by simp [hl])
 rw [<-e] at this; exact this
theorem AH (h:wi σ H λ J H1=>∃ W:Nat->Nat->St->Hp->Prop,(∃ m,W 0 m σ H1)/\∀ i m σ H,W i m σ H->
 (J.stop i H/\D.nx σ H)\/(J.go i H/\∃ N:St->Hp->Prop,(∀ σ' H',N σ' H'->∃ m',m'<m/\W (i+1) m' σ' H')/\∀ x H',J.yld i H x H'->g x σ H' λ σ2 H2=>tb { D with nx:=N,ct:=N,bk:=D.nx } σ2 H2)):y9 wi g tb D σ H:=h
theorem zL {ta:TA} {R:It->Hp->Prop} (h:ta σ H λ vs H1=>∃ j:Int,vs=[.int j]/\-(2 ^ 62)<=j/\j<2 ^ 62/\R (Itr 0 j.toNat) H1):uh ta σ H R:=h
theorem yE {tl:TE} {R:It->Hp->Prop} (h:tl σ H λ x H1=>∃ a,x=.ref a/\(∃ xs,SqL K H1 a xs)/\R (Itl K a) H1):uf K tl σ H R:=h
theorem zM {tl:TE} {R:It->Hp->Prop} (h:tl σ H λ x H1=>∃ a,x=.ref a/\(∃ xs,SqT K H1 a xs)/\R (Itt K a) H1):y8 K tl σ H R:=h
theorem Bc {A B:Prop} (h:B):if (!true)=true then A else B:=cS h
theorem Bd {A B:Prop} (h:A):if (!false)=true then A else B:=iM h
theorem zN {tgs:List Str} {ix:List Nat} (h:wi σ H λ J H1=>
 ∃ W:Nat->Nat->List V->St->Hp->Prop,(∃ m,W 0 m [] (eE tgs ix σ) H1)/\∀ i m xs σc H,W i m xs σc H->xs.length<sizeLine/\
  ((J.stop i H/\∀ p,H p=none->Q (.ref p) (upd H p (.lst xs)))\/(J.go i H/\∀ x H',J.yld i H x H'->g x σc H' λ σ2 H2=>te σ2 H2 λ y H3=>∃ m',m'<m/\W (i+1) m' (xs++[y]) σ2 H3))):nW wi g te tgs ix σ H Q:=h
end
structure QE (X:Cx) (e:Expr) (t:TE):Prop where
 out:PE X e t
structure QT (X:Cx) (e:Expr) (t:TT):Prop where
 out:PT X e t
structure QW (X:Cx) (e:Expr) (t:TT):Prop where
 out:PW X e t
structure QA (X:Cx) (es:List Expr) (t:TA):Prop where
 out:PA X es t
structure QO (X:Cx) (e:Option Expr) (t:TO):Prop where
 out:PO X e t
structure QI (X:Cx) (tg iter:Expr) (t:TI):Prop where
 out:PI X tg iter t
structure QG (X:Cx) (tg:Expr) (t:TG):Prop where
 out:PG X tg t
structure QGs (X:Cx) (ts:List Expr) (t:TGs):Prop where
 out:PGs X ts t
structure QS (X:Cx) (st:Stmt) (t:TS):Prop where
 out:PS X st t
structure QB (X:Cx) (sts:List Stmt) (t:TS):Prop where
 out:PSs X sts t
structure QOp (X:Cx) (f:Value->Value->Sem Value) (r:R2):Prop where
 out:OpR X f r
structure QUn (X:Cx) (f:Value->Sem Value) (r:V->Hp->VK->Prop):Prop where
 out:UnR X f r
structure QC (X:Cx) (f:Value) (r:List V->Hp->VK->Prop):Prop where
 out:bU X f r
structure QIx (X:Cx) (r:R2):Prop where
 out:IxR X r
structure QSl (X:Cx) (r:V->Option Int->Option Int->Hp->VK->Prop):Prop where
 out:SlR X r
noncomputable def AI:Expr->Bool
 | .Slice ..=>false
 | _=>true
theorem qR {b:Expr} (h:AI b=true):nN b:=by
 cases b<;>first | (intro _ _; rfl) | cases h
noncomputable def AJ (K:BA) (ta:TE):TT:=λ σ H Q=>ta σ H λ x H'=>∃ k,wc K x H' k/\Q k H'
section
variable {X:Cx} {a b c e o:Expr} {es rest:List Expr} {ta tb tc te to ti:TE} {tA tB':TT} {t:TA} {pos p p2 apos cpos:Pos} {r r':R2} {x:Str}
theorem qv (i:Nat) {x:Str} {pos:Pos} (hN:X.N[i]? = some x:=by rfl) (hv:Vis X.env.scope x:=by first | exact BN rfl | exact Gg (BN rfl) | exact Gg (Gg rfl)) (hd:(x == ("__debug__" : Str))=false:=by decide)
  (hcd:(x == ("__classdict__" : Str))=false:=by decide):QE X (.Name x pos) (yO i):=⟨wn hN hv hd hcd⟩
theorem ae {i j pos}:QE X (.Constant (.int i) j pos) (tC (.int i)):=⟨sj⟩
theorem n8 {b j pos}:QE X (.Constant (.bool b) j pos) (tC (.bl b)):=⟨yP⟩
theorem fG {j pos}:QE X (.Constant .none j pos) (tC .non):=⟨wo⟩
theorem ax (hg:Gl X x) (hm:X.mg x=none) (hv:bootBuiltins x=some u) (r:RelV v u) (hn:x≠"__name__":=by decide) (hd:(x == ("__debug__" : Str))=false:=by decide):QE X (.Name x pos) (tC v):=⟨tR hg hm hv r hn hd⟩
theorem aK {op:Operator} (ho:QOp X (binaryOp op) r) (ha:QE X a ta) (hb:QE X b tb):QE X (.BinOp a op b pos) (tOp r ta tb):=⟨zb ho.out ha.out hb.out⟩
theorem qS {op:UnaryOp} {r:V->Hp->VK->Prop} (ho:QUn X (unaryOp op) r) (ha:QE X a ta):QE X (.UnaryOp op a pos) (tUn r ta):=⟨wI ho.out ha.out⟩
theorem aR {op:CmpOp} (ho:QOp X (compareOp op) r) (ha:QE X a ta) (hb:QE X b tb) (hm:behindInMarks op b=false):QE X (.Compare a [op] [b] pos) (tOp r ta tb):=⟨uj ho.out ha.out hb.out hm⟩
theorem aE {op:CmpOp} (ho:QOp X (compareOp op) r) (ha:QE X a ta) (hb:QE X b tb) (hm:behindInMarks op b=false):QT X (.Compare a [op] [b] pos) (uk (tOp r ta tb)):=⟨ul ho.out ha.out hb.out hm⟩
theorem cH {op} (h:QE X a ta):QE X (.BoolOp op [a] pos) ta:=⟨wv h.out⟩
theorem bJ (ha:QE X a ta) (hb:QE X (.BoolOp .And (b::rest) pos) tb):QE X (.BoolOp .And (a::b::rest) pos) (tU ta tb):=⟨ww ha.out hb.out⟩
theorem lw (ha:QE X a ta):QE X (.UnaryOp .Not a pos) (tV ta):=⟨wx ha.out⟩
theorem lx (ha:QT X a tA):QT X (.UnaryOp .Not a pos) (yR tA):=⟨wu ha.out⟩
theorem cy (h:QE X a ta) (he:∀ whole,isTrue a X.env whole=(do let v <-whole; standAt a.pos; holding [v] (truthy v)):=by intro _; rfl):QT X a (tB ta):=⟨wp h.out he⟩
theorem iR {K:BA} (h:QE X a ta) (he:∀ whole,isTrue a X.env whole=(do let v <-whole; standAt a.pos; holding [v] (truthy v)):=by intro _; rfl) (hK:X.K=K:=by rfl):QT X a (AJ K ta):=by subst hK; exact ⟨qz h.out he⟩
theorem iS (ha:QT X a tA):QW X (.BoolOp .And [a] pos) tA:=⟨tT ha.out⟩
theorem ly (ha:QT X a tA):QW X (.BoolOp .Or [a] pos) tA:=⟨wq ha.out⟩
theorem lA (ha:QT X a tA) (hb:QW X (.BoolOp .And (b::rest) pos) tB'):QW X (.BoolOp .And (a::b::rest) pos) (yQ tA tB'):=⟨wt ha.out hb.out⟩
theorem qT (ha:QT X a tA) (hb:QW X (.BoolOp .Or (b::rest) pos) tB'):QW X (.BoolOp .Or (a::b::rest) pos) (tOr tA tB'):=⟨yS ha.out hb.out⟩
theorem QW.qt (h:QW X e tA):QT X e tA:=⟨h.out.pt⟩
theorem aa:QA X [] yz:=⟨wQ⟩
theorem aj (ha:QE X e te) (hr:QA X es t) (hn:cn e=true:=by rfl):QA X (e::es) (mG te t):=⟨A1 ha.out hr.out hn⟩
theorem cT (h:QA X es t):QE X (.List es pos) (zk t):=⟨wS h.out⟩
theorem bK {x1} (h:QA X es t):QE X (.Tuple es x1 pos) (zj t):=⟨wR h.out⟩
theorem bI (hr:QIx X r) (ha:QE X a ta) (hb:QE X b tb) (hs:AI b=true:=by rfl):QE X (.Subscript a b pos) (tOp r ta tb):=⟨zo hr.out ha.out hb.out (qR hs)⟩
theorem dw:QO X none kq:=⟨uw⟩
theorem cL (h:QE X e te):QO X (some e) (uv te):=⟨ux h.out⟩
theorem cq {r:V->Option Int->Option Int->Hp->VK->Prop} {lo hi:Option Expr} {tl th:TO} (hr:QSl X r) (he:QE X e te) (hl:QO X lo tl) (hu:QO X hi th):QE X (.Subscript e (.Slice lo hi none p2) pos) (tSl r te tl th):=⟨qG hr.out he.out hl.out hu.out⟩
theorem ai {id:String} {r:RC} (hc:QC X (.builtin id) r) (hg:Gl X x) (hm:X.mg x=none) (hv:bootBuiltins x=some (.builtin id)) (ha:QA X (e::es) t) (hn:(e::es).all cn=true:=by rfl) (hn2:x≠"__name__":=by decide) (hdb:(x == ("__debug__" : Str))=false:=by decide) :
  QE X (.Call (.Name x p) (e::es) [] pos) (tCB r t):=⟨nY hc.out hg hm hv ha.out hn hn2 hdb⟩
theorem aM {T:String} {r:RC} (hc:QC X (.type T) r) (hg:Gl X x) (hm:X.mg x=none) (hv:bootBuiltins x=some (.type T)) (ha:QA X (e::es) t) (hn:(e::es).all cn=true:=by rfl) (hn2:x≠"__name__":=by decide) (hdb:(x == ("__debug__" : Str))=false:=by decide) :
  QE X (.Call (.Name x p) (e::es) [] pos) (tCB r t):=⟨mP hc.out hg hm hv ha.out hn hn2 hdb⟩
theorem au {CX:CXT} {f:Addr} {fd:FuncData} {ps:List Str} {sp:Sp} {E:XK} (F:FnOk X.prog X.w X.K X.mg X.base CX k f fd ps sp) (hr:Room k X.A) (hg:Gl X x) (hm:X.mg x=some (.ref f)) (hk:ER X.K (.ref f)=true) (hb:Binds X.K fd ps []) (hx:jt CX X E)
  (ha:QA X (e::es) t) (hn:(e::es).all cn=true:=by rfl) (hdb:(x == ("__debug__" : Str))=false:=by decide):QE X (.Call (.Name x p) (e::es) [] pos) (qB sp [] E t):=⟨qN F hr hg hm hk hb hx ha.out hn hdb⟩
theorem gB {K:BA} (ho:QE X o to) (ha:QA X [e] t) (hbase:attributeBase o ("append" : Str) X.env (eval o X.env)=eval o X.env:=by rfl) (hline:(apos.endLine == cpos.line)=true:=by rfl) (hn:cn e=true:=by rfl) (hK:X.K=K:=by rfl) :
  QE X (.Call (.Attribute o "append" apos) [e] [] cpos) (tBM K "list" ku to t):=by subst hK; exact ⟨nZ Et PySem.F.slot_list_append PySem.F.type_list_append nP ho.out ha.out hbase hline hn⟩
variable {tg iter:Expr} {wi:TI} {g:TG} {i:Nat} {u:TGs}
theorem bE {p pos:Pos} (hg:Gl X "range") (hm:X.mg "range" = none) (ha:QA X [a] t) (hn:cn a=true:=by rfl):QI X tg (.Call (.Name "range" p) [a] [] pos) (uh t):=⟨nz hg hm ha.out (aH hn)⟩
theorem bh {K:BA} (hl:QE X e te) (hK:X.K=K:=by rfl):QI X tg e (uf K te):=by subst hK; exact ⟨ug hl.out⟩
theorem ik {K:BA} (hl:QE X e te) (hK:X.K=K:=by rfl):QI X tg e (y8 K te):=by subst hK; exact ⟨wG hl.out⟩
theorem al (hN:X.N.Nodup) (hi:X.N[i]? = some x) (hx:Loc X.env.scope x) (hf:X.fn x=true\/X.env.scope.names.lookup x=some .local:=by first | exact .inl rfl | exact .inr rfl | assumption):QG X (.Name x pos) (eC i):=⟨ua hN hi hx hf⟩
theorem bi:QGs X [] wz:=⟨ub⟩
theorem ao {ts:List Expr} (h1:QG X e g) (h2:QGs X ts u) (hs:(assignEach (e::ts) X.env).map (·.2)=assign e X.env::(assignEach ts X.env).map (·.2):=by rfl):QGs X (e::ts) (iF g u):=⟨qu h1.out h2.out hs⟩
theorem cU {K:BA} {ts:List Expr} (hc:X.calm=true) (h:QGs X ts u) (hn:(assignEach ts X.env).length=n:=by rfl) (hst:(assignEach ts X.env).findIdx? (·.1)=none:=by rfl) (hK:X.K=K:=by rfl):QG X (.Tuple ts k pos) (yx K n u):=by subst hK; exact ⟨wA hc h.out hn hst⟩
variable {st:Stmt} {sts s1 s2:List Stmt} {T1 T2:TS}
theorem aI:QB X [] tW:=⟨tX⟩
theorem ad (h1:QS X st T1) (h2:QB X sts T2):QB X (st::sts) (yT T1 T2):=⟨qq h1.out h2.out⟩
theorem ak (h1:QS X st T1):QB X [st] T1:=⟨tY h1.out⟩
theorem av (he:QE X e te):QS X (.Return (some e) pos) (yU te):=⟨wy he.out⟩
theorem fU:QS X st sk:=⟨qr⟩
theorem iT (he:QE X e te) (hs:swapsWith e none pos.line X.env=pure false:=by rfl):QS X (.Expr e pos) (t5 te):=⟨t6 he.out hs⟩
theorem bg (hc:QT X c tA) (ha:QB X s1 T1) (hb:QB X s2 T2):QS X (.If c s1 s2 pos) (yV tA T1 T2):=⟨yW hc.out ha.out hb.out⟩
theorem aA (hN:X.N.Nodup) (hi:X.N[i]? = some x) (hx:Loc X.env.scope x) (he:QE X e te) (hs:swapsWith e (some (.Name x pos')) pos.line X.env=pure false:=by rfl) (hf:X.fn x=true\/X.env.scope.names.lookup x=some .local:=by first | exact .inl rfl | exact .inr rfl | assumption) :
  QS X (.Assign [.Name x pos'] e pos) (qw te (eC i)):=⟨wC hN hi hx he.out hs hf⟩
theorem n9 {tpos:Pos} (he:QE X e te) (ho:QE X o to) (hi:QE X b tb)
  (ha:∀ v,assign (.Subscript o b tpos) X.env v=(do
   let ov <-holding [v] (eval o X.env)
   let iv <-holding [v,ov] (eval b X.env)
   standAt tpos
   holding [v,ov,iv] (setItem ov iv v)
   release [v,ov,iv] []):=by intro _; rfl)
  (hs:swapsWithSole [.Subscript o b tpos] e pos.line X.env=pure false:=by rfl) (hw:swappedStores [.Subscript o b tpos] e X.env=pure none:=by rfl)
  (h1:(assignEach [.Subscript o b tpos] X.env).map (·.2)=[assign (.Subscript o b tpos) X.env]:=by rfl):QS X (.Assign [.Subscript o b tpos] e pos) (qw te (yY to tb nO)):=⟨nk he.out (wB ho.out hi.out ln ha) hs hw h1⟩
theorem eF {op:Operator} {ti:R2} (hN:X.N.Nodup) (hi:X.N[i]? = some x) (hx:Loc X.env.scope x) (he:QE X e te) (ho:QOp X (inplaceOp op) ti) (hf:X.fn x=true\/X.env.scope.names.lookup x=some .local:=by first | exact .inl rfl | exact .inr rfl | assumption) :
  QS X (.AugAssign (.Name x pos') op e pos) (y7 i te ti):=⟨wE hN hi hx he.out ho.out hf⟩
theorem xn {i:Nat} {x y:Str} {a b:Expr} {ta:TA} {px pt:Pos} {kt k2 pt2} (hc:X.calm=true) (hN:X.N.Nodup) (hi:X.N[i]? = some x) (hj:X.N[j]? = some y) (hij:i≠j)
  (hx:X.env.scope.names.lookup x=some .local) (hy:X.env.scope.names.lookup y=some .local) (ha:QA X [a,b] ta)
  (hw:swappedStores [.Tuple [.Name x px,.Name y py] kt pt] (.Tuple [a,b] k2 pt2) X.env=pure (some [x,y]):=by rfl)
  (hs:swapsWithSole [.Tuple [.Name x px,.Name y py] kt pt] (.Tuple [a,b] k2 pt2) pos.line X.env=pure false:=by rfl) :
  QS X (.Assign [.Tuple [.Name x px,.Name y py] kt pt] (.Tuple [a,b] k2 pt2) pos) (yZ i j ta):=⟨wD hc hN hi hj hij hx hy ha.out hw hs⟩
theorem qU (hp:PassesOwn (model X.prog X.w) X.A X.env X.xe) (hc:QT X c tA) (hb:QB X sts T1):QS X (.While c sts [] pos) (sq tA T1):=⟨qx hp hc.out hb.out⟩
theorem bA (hp:PassesOwn (model X.prog X.w) X.A X.env X.xe) (hc:X.calm=true) (hi:QI X tg iter wi) (hg:QG X tg g) (hb:QB X sts T1) (hs:∀ x,foldedSetIterable iter X.env x=pure x:=by intro _; rfl):QS X (.For tg iter sts [] pos) (y9 wi g T1):=⟨wH hp hc hi.out hg.out hb.out hs⟩
theorem cM {N tgs frs:List Str} {ix:List Nat} {cl:List (Str×Addr)} (c:CompOk X N tgs frs ix scope cl) (hc:X.calm=true) (hi:QI X tg iter wi)
  (hg:∀ fp C s H,QG (aC X N scope cl fp C s H) tg g) (he:∀ fp C s H,QE (aC X N scope cl fp C s H) elt te)
  (hs:∀ x,foldedSetIterable iter X.env x=pure x:=by intro _; rfl) :
  QE X (.ListComp elt [⟨tg,iter,[],0⟩] scope pos) (nW wi g te tgs ix):=⟨uC c hc hi.out (λ fp C s H=>(hg fp C s H).out) (λ fp C s H=>(he fp C s H).out) hs⟩
theorem cz:QOp X (binaryOp .Add) (rI0 λ i j=>.int (i+j)):=⟨wJ⟩
theorem kB:QOp X (binaryOp .Sub) (rI0 λ i j=>.int (i - j)):=⟨wK⟩
theorem mQ:QOp X (binaryOp .Mult) (rI CMul λ i j=>.int (i*j)):=⟨wL⟩
theorem uK:QOp X (binaryOp .FloorDiv) (rI qI λ i j=>.int (i / j)):=⟨qJ⟩
theorem iU:QOp X (binaryOp .Mod) (rI (λ _ j=>0<j) λ i j=>.int (i % j)):=⟨wM⟩
theorem zO:QOp X (binaryOp .Pow) (rI yy λ i j=>.int (i ^ j.toNat)):=⟨wN⟩
theorem xo:QOp X (binaryOp .Mult) Au:=⟨w6⟩
theorem kj:QOp X (compareOp .Eq) rEq:=⟨ze⟩
theorem xp:QOp X (compareOp .NotEq) rNe:=⟨zf⟩
theorem AK:QOp X (compareOp .Lt) (rI0 λ i j=>.bl (decide (i<j))):=⟨zg⟩
theorem oa:QOp X (compareOp .Gt) (rI0 λ i j=>.bl (decide (j<i))):=⟨zh⟩
theorem Be:QOp X (compareOp .GtE) (rI0 λ i j=>.bl (decide (j<=i))):=⟨zi⟩
theorem eG:QOp X (inplaceOp .Add) (rI0 λ i j=>.int (i+j)):=⟨ui⟩
theorem qV:QUn X (unaryOp .USub) (rU λ i=>.int (-i)):=⟨sr⟩
theorem cV {K:BA} (hK:X.K=K:=by rfl):QIx X (wV K):=by subst hK; exact ⟨ix_list⟩
theorem kC {K:BA} (hK:X.K=K:=by rfl):QIx X (wW K):=by subst hK; exact ⟨ix_tup⟩
theorem uL {K:BA} (hK:X.K=K:=by rfl):QSl X (At K):=by subst hK; exact ⟨uz⟩
theorem xq {K:BA} (hK:X.K=K:=by rfl):QSl X (Ar K):=by subst hK; exact ⟨su⟩
theorem sN:QC X (.builtin "abs") zH:=⟨xb⟩
theorem xr:QC X (.type "int") uG:=⟨xf⟩
theorem og (hc:X.calm=true):QC X (.builtin "min") uH:=⟨xg hc⟩
theorem xt (hc:X.calm=true):QC X (.builtin "max") uI:=⟨xh hc⟩
theorem bF {K:BA} (hK:X.K=K:=by rfl):QC X (.builtin "len") (yB K):=by subst hK; exact ⟨xi⟩
theorem xu {K:BA} (hc:X.calm=true) (hK:X.K=K:=by rfl):QC X (.builtin "sum") (zI K):=by subst hK; exact ⟨xj hc⟩
theorem sO {K:BA} (hc:X.calm=true) (hK:X.K=K:=by rfl):QC X (.builtin "all") (zJ K):=by subst hK; exact ⟨xk hc⟩
theorem aO {K:BA} (hK:X.K=K:=by rfl):QC X (.builtin "isinstance") (qP K):=by subst hK; exact ⟨xl⟩
theorem uM {K:BA} (hK:X.K=K:=by rfl):QC X (.type "list") (kA K):=by subst hK; exact ⟨uJ⟩
theorem bG {K:BA} (hK:X.K=K:=by rfl):QC X (.type "tuple") (iO K):=by subst hK; exact ⟨qQ⟩
end
section
variable {P:Program} {w:World} {K:BA} {mg:Str->Option Value} {base:Heap}
theorem Fun.okQ {st:Stmt} {f:Addr} {fd:FuncData} {N ps:List Str} {sp:Sp} (F:Fun K x qual st f fd) (S:FnScope N ps (ay st)) (len:∀ vs H Q E,sp vs H Q E->vs.length=ps.length)
  (hbody:∀ (cdv:Value) (A:Around) (outer:List Env) (s:Shared) (H:Hp) (vs:List V) (Q:VK) (E:XK),Room k (A.deeper (envOfC qual (ay st) s.heap.objs.size f cdv))->sp vs H Q E->
   ∃ t,QB (ut CX0 P w K mg base N qual (ay st) f cdv A outer s H E).nox (dS st) t/\t { nx:=λ _ H'=>Q .non H',rt:=Q } (start N vs) H):FnOk P w K mg base CX0 (k+1) f fd ps sp:=
 F.ok S len λ cdv A outer s H vs Q E hr hsp=>by
  obtain ⟨t,h,q⟩:=hbody cdv A outer s H vs Q E hr hsp
  exact ⟨t,h.out,q⟩
end
noncomputable def zP (K:BA) (te:TE):TE:=λ σ H Q=>te σ H λ x H1=>∃ a xs,x=.ref a/\SqL K H1 a xs/\∀ p,H1 p=none->Q (.ref p) (upd H1 p (.lst xs.reverse))
section
variable {X:Cx} {e:Expr} {te:TE} {pos p1 p2 p3:Pos} {j:Nat}
theorem xw (he:PE X e te):PE X (.Subscript e (.Slice none none (some (.UnaryOp .USub (.Constant (.int 1) j p1) p2)) p3) pos) (zP X.K te):=by
 intro pins s σ H Q I h
 refine Subscript_ (thn (he pins s σ H _ I h) λ v s1 ⟨x,H1,I1,r1,q1⟩=>?_)
 obtain ⟨a,xs,rfl,hx,q⟩:=q1
 cases r1
 refine wpAny_Slice (evalPart_none_step (evalPart_none_step (evalPart_some_step ?_)))
 refine thn (wI (X:=X) sr sj pins s1 σ H1 (λ x H'=>x=.int (-1)/\H'=H1) I1 ⟨1,rfl,rfl,rfl⟩) λ vk s2 ⟨y,H2,I2,r2,e2,e3⟩=>?_
 subst e2 e3
 obtain ⟨t,rfl⟩:=r2
 have I4:Inv X pins σ H2 { s2 with heap:=s2.heap.push { cls:=.type "slice",data:=.fields #[.none,.none,.int (-1) t] } }:=I2.kept (t':=s2.toks) λ b ob q=>BB _ q
 obtain ⟨its,r,ht,hz⟩:=I4.list hx
 have hlen:=r.length
 show wpAny (model X.prog X.w) X.A (subscriptTail e (.Slice none none (some (.UnaryOp .USub (.Constant (.int 1) j p1) p2)) p3) (.ref a) (.ref s2.heap.objs.size)) (EP X pins σ Q) X.xe { s2 with heap:=s2.heap.push { cls:=.type "slice",data:=.fields #[.none,.none,.int (-1) t] } }
 refine tail_any (ops:=[.ref a,.ref s2.heap.objs.size]) ht.isList.typeIs slot_list_getitem.lookup ?_ (by with_unfolding_all rfl)
 refine wpAny_getItem_list_slice ht.isList (Gc ..) .none .none (.int (-1) t) (by decide) ?_ (by rw [BQ]; lia)
 rw [PySem.W.krv_pick]
 refine ⟨.ref _,_,I4.laid (t':=s2.toks) (o:=.lst xs.reverse) (λ b ob q=>BB _ q) (BD _) ?_,rfl,q _ (I4.hok.fresh (BD _))⟩
 exact ⟨by rw [Er]; exact hz,its.reverse,0,r.reverse,BU _ rfl⟩
theorem xx {K:BA} (he:QE X e te) (hK:X.K=K:=by rfl):QE X (.Subscript e (.Slice none none (some (.UnaryOp .USub (.Constant (.int 1) j p1) p2)) p3) pos) (zP K te):=by subst hK; exact ⟨xw he.out⟩
end
theorem gC (ns ms:List Int):((BC (min ns.length ms.length)).all (λ i=>ns.getD i 0 == ms.getD i 0) && ns.length == ms.length)=decide (ns=ms):=by
 rw [Ew,CI,DL,decide_eq_true_iff,beq_iff_eq]
 constructor
 ·rintro ⟨h,hl⟩
  apply Em hl
  intro i h1 h2
  have:=h i (by simp; lia)
  simpa [h1,h2] using this
 ·rintro rfl
  exact ⟨λ i _=>by simp,rfl⟩
section
variable {X:Cx}
theorem sP {ns:List Int} (rv:Vals (ns.map Lz) its) (h:i<its.toArray.size):∃ t,its.toArray[i]=.int (ns.getD i 0) t:=by
 have hl:=rv.length
 have h':i<ns.length:=by simp at hl h; lia
 obtain ⟨u,e,ru⟩:=rv.get (i:=i) (x:=Lz ns[i]) (by simp [h'])
 obtain ⟨t,rfl⟩:=ru
 refine ⟨t,?_⟩
 have e2:its.toArray[i]? = some (.int ns[i] t):=by simpa using e
 have e3:its.toArray[i]=.int ns[i] t:=by
  have:=(Do.mp e2).2
  exact this
 rw [e3]; simp [h']
theorem jE {A:Around} {s:Shared} {ns:List Int} {its2:List Value} (r1:Vals (ns.map Lz) its) (r2:Vals (ms.map Lz) its2) (j:Nat) (h1:j<its.toArray.size) (h2:j<its2.toArray.size) :
  KS A s its.toArray[j] its2.toArray[j] (ns.getD j 0 == ms.getD j 0):=by
 obtain ⟨t,e⟩:=sP r1 h1
 obtain ⟨u,e'⟩:=sP r2 h2
 rw [e,e']
 exact Ij _ _ _ _
noncomputable def zQ (K:BA):R2:=λ x y H Q=>∃ (a b:Addr) (ns ms:List Int),x=.ref a/\y=.ref b/\SqT K H a (ns.map Lz)/\SqT K H b (ms.map Lz)/\Q (.bl (decide (ns=ms))) H
theorem xz (hu:X.A.units<cLine):OpR X (compareOp .Eq) (zQ X.K):=by
 intro pins s σ H x y v u Q I rx ry h
 obtain ⟨a,b,ns,ms,rfl,rfl,ha,hb,q⟩:=h
 cases rx; cases ry
 obtain ⟨its,r1,p1,z1⟩:=I.tuple ha
 obtain ⟨its2,r2,p2,z2⟩:=I.tuple hb
 refine Ld (e:=λ i=>ns.getD i 0 == ms.getD i 0) p1 p2 hu (λ j h1 h2=>jE r1 r2 j h1 h2) X.prog X.w X.xe _ ?_
 have l1:its.toArray.size=ns.length:=by have:=r1.length; simp at this; simp [this]
 have l2:its2.toArray.size=ms.length:=by have:=r2.length; simp at this; simp [this]
 rw [l1,l2,gC]
 exact ⟨.bl _,H,I,rfl,q⟩
theorem oh {K:BA} (hu:X.A.units<cLine) (hK:X.K=K:=by rfl):QOp X (compareOp .Eq) (zQ K):=by subst hK; exact ⟨xz hu⟩
end
section
variable {K:BA} {σ:St} {H:Hp} {Q:VK} {D:Ends}
theorem AL (h:te σ H λ x H1=>∃ a xs,x=.ref a/\SqL K H1 a xs/\∀ p,H1 p=none->Q (.ref p) (upd H1 p (.lst xs.reverse))):zP K te σ H Q:=h
theorem sQ {b:Addr} {ns:List Int} (ha:SqT K H a (ns.map Lz)) (hb:SqT K H b (ms.map Lz)) (h:Q (.bl (decide (ns=ms))) H):zQ K (.ref a) (.ref b) H Q:=⟨a,b,ns,ms,rfl,rfl,ha,hb,h⟩
theorem zR {tb:TE} (h:ta σ H λ x H1=>tb σ H1 λ y H2=>(λ x y=>∃ v w,[x,y]=[v,w]/\D.nx ((σ.set i (some v)).set j (some w)) H2) x y):yZ i j (mG ta (mG tb yz)) D σ H:=h
theorem uN {x:V} {R:V->V->Prop} (h:R x y):∃ v w,[x,y]=[v,w]/\R v w:=⟨x,y,rfl,h⟩
theorem Bf {r:V->List V->Hp->VK->Prop} {t:TA} {T:String} (h:to σ H λ x H1=>tyV K T x H1/\t σ H1 λ xs H2=>r x xs H2 Q):tBM K T r to t σ H Q:=h
theorem gD (s:H l=some (.lst xs)) (z:xs.length<sizeLine) (h:Q .non (upd H l (.lst (xs++[y])))):ku (.ref l) [y] H Q:=⟨l,xs,y,rfl,rfl,s,z,h⟩
theorem fj (h:H l=some (.lst xs)):tyV K "list" (.ref l) H:=.inl ⟨rfl,_,Lx h⟩
theorem Same.new {p:Addr} (e:Same H H1) (h:H1 p=none):Same H (upd H1 p o):=λ b u q=>by rw [aq (ap (e b u q) h)]; exact e b u q
theorem Same.own {p:Addr} (e:Same H H1) (h:H p=none):Same H (upd H1 p o):=λ b u q=>by rw [aq (ap q h)]; exact e b u q
end
noncomputable def Nx (n i:Nat) (P:Prop):Prop:=∃ m',m'<n - i/\m'=n - (i+1)/\i+1<=n/\P
theorem Nx.mk {P:Prop} (h:i<n) (p:P):Nx n i P:=⟨n - (i+1),by lia,rfl,h,p⟩
section
variable {K:BA} {H:Hp} {g:TG} {te:TE} {σ0:St} {R:List V->Hp->Prop}
theorem lB (Pv:Nat->List V->St->Hp->Prop) (hz:n<sizeLine) (hl:∀ i ys σ H,Pv i ys σ H->ys.length=i) (h0:Pv 0 [] σ0 H)
  (hs:∀ i ys σ H,i<n->Pv i ys σ H->g (.int (0+i)) σ H λ σ2 H2=>te σ2 H2 λ y H3=>Nx n i (Pv (i+1) (ys++[y]) σ2 H3)) (hd:∀ ys σ H,Pv n ys σ H->R ys H) :
  ∃ W:Nat->Nat->List V->St->Hp->Prop,(∃ m,W 0 m [] σ0 H)/\∀ i m xs σc H,W i m xs σc H->xs.length<sizeLine/\
  (((Itr 0 n).stop i H/\R xs H)\/((Itr 0 n).go i H/\∀ x H',(Itr 0 n).yld i H x H'->g x σc H' λ σ2 H2=>te σ2 H2 λ y H3=>∃ m',m'<m/\W (i+1) m' (xs++[y]) σ2 H3)):=by
 refine ⟨λ i m xs σ H=>m=n - i/\i<=n/\Pv i xs σ H,⟨n,by simp,Ca _,h0⟩,?_⟩
 rintro i m xs σ H ⟨rfl,hi,p⟩
 refine ⟨by rw [hl i xs σ H p]; exact Dw hi hz,?_⟩
 by_cases hlt:i<n
 ·refine .inr ⟨hlt,λ x H' y=>?_⟩
  obtain ⟨e,y⟩:=y
  subst e y
  exact hs i xs σ _ hlt p
 ·have e:i=n:=by lia
  subst e
  exact .inl ⟨BD _,hd xs σ H p⟩
theorem cI {vs:List V} (Pv:Nat->List V->St->Hp->Prop) (hz:vs.length<sizeLine) (hl:∀ i ys σ H,Pv i ys σ H->ys.length=i) (ht:∀ i ys σ H,Pv i ys σ H->SqL K H a vs) (h0:Pv 0 [] σ0 H)
  (hs:∀ i ys σ H x,vs[i]? = some x->Pv i ys σ H->g x σ H λ σ2 H2=>te σ2 H2 λ y H3=>Nx vs.length i (Pv (i+1) (ys++[y]) σ2 H3)) (hd:∀ ys σ H,Pv vs.length ys σ H->R ys H) :
  ∃ W:Nat->Nat->List V->St->Hp->Prop,(∃ m,W 0 m [] σ0 H)/\∀ i m xs σc H,W i m xs σc H->xs.length<sizeLine/\
  (((Itl K a).stop i H/\R xs H)\/((Itl K a).go i H/\∀ x H',(Itl K a).yld i H x H'->g x σc H' λ σ2 H2=>te σ2 H2 λ y H3=>∃ m',m'<m/\W (i+1) m' (xs++[y]) σ2 H3)):=by
 refine ⟨λ i m xs σ H=>m=vs.length - i/\i<=vs.length/\Pv i xs σ H,⟨vs.length,by simp,Ca _,h0⟩,?_⟩
 rintro i m xs σ H ⟨rfl,hi,p⟩
 have q:=ht i xs σ H p
 refine ⟨by rw [hl i xs σ H p]; exact Dw hi hz,?_⟩
 by_cases hlt:i<vs.length
 ·refine .inr ⟨⟨vs,vs[i],q,by simp [hlt]⟩,λ x H' y=>?_⟩
  obtain ⟨e,y⟩:=y
  subst e
  exact hs i xs σ _ x (y vs q) p
 ·have e:i=vs.length:=by lia
  subst e
  exact .inl ⟨⟨vs,q,BD _⟩,hd xs σ H p⟩
end
section
variable {X:Cx} {N tgs frs:List Str} {ix:List Nat} {scope:Scope} {cl:List (Str×Addr)}
theorem uO {tg:Expr} {spos:Pos} {y:Str} {iy:Nat} (hN:X.N.Nodup) (hy:X.N[iy]? = some y) (hx:Loc X.env.scope y) (c:CompOk X N tgs frs ix scope cl) (hc:X.calm=true) (hi:PI X tg iter wi)
  (hg:∀ fp C s H,PG (aC X N scope cl fp C s H) tg g) (he:∀ fp C s H,PE (aC X N scope cl fp C s H) elt te)
  (hs:∀ x,foldedSetIterable iter X.env x=pure x:=by intro _; rfl)
  (hsw:swapsWith (.ListComp elt [⟨tg,iter,[],0⟩] scope pos) (some (.Name y py)) spos.line X.env=pure true:=by rfl)
  (hf:X.fn y=true\/X.env.scope.names.lookup y=some .local:=by first | exact .inl rfl | exact .inr rfl | assumption) :
  PS X (.Assign [.Name y py] (.ListComp elt [⟨tg,iter,[],0⟩] scope pos) spos) (qw (nW wi g te tgs ix) (eC iy)):=by
 intro pins s σ H Dn I h
 rw [exec_Assign_Name_used _ _ _ _ hsw]
 refine wpAny_bind (wpAny_standAt (wpAny_bind ?_))
 show wpAny _ X.A (do let _ <-comprehension (.ListComp elt [⟨tg,iter,[],0⟩] scope pos) scope X.env _ (newList []) false (eval iter X.env) (some (assign (.Name y py) X.env))) _ _ s
 refine wpAny_bind (wpAny_mono (wpAny_comprehension_free (use:=some (assign (.Name y py) X.env)) (Q:=λ _ s'=>SP X pins Dn .next s') rfl hs c.clos c.kind c.names (thn (hi pins s σ H _ I h) λ xv s1 h1=>thn h1 λ itv s2 h2=>?_)) (λ _ s' hq=>wpAny_pure (wpAny_pure hq)) λ _ _ e=>e)
 obtain ⟨it,fp,tn,J,H2,rfl,I2,T,st2,f2,W,⟨m0,w0⟩,turn⟩:=h2
 have hfl:∀ b∈fp,b<s2.heap.objs.size:=λ b hb=>by
  obtain ⟨o,e,_⟩:=T.obj _ _ st2 b hb
  exact BJ e
 have hcn:∀ x a,cl.lookup x=some a->X.env.cells.lookup x=some a:=c.cls.get
 refine wpAny_newObj_type (wpAny_newFunctionEnv c.cell (by intro y hy; simp at hy) (λ h1 hns1 hsb1=>?_) c.kind)
 dsimp only at hns1 hsb1 ⊢
 generalize hH2:s2.heap.push { cls:=.type "list",dict:=none,data:=.seq ([]:List Value).toArray }=G2 at hns1 hsb1 ⊢
 have hC:G2.objs.size=s2.heap.objs.size+1:=by rw [<-hH2,Eh]
 generalize hCC:G2.objs.size=C at *
 generalize hDD:s2.heap.objs.size=D at *
 have hDC:D≠C:=by lia
 have hCle:D<=C:=by lia
 have old:∀ b o,s2.heap.get? b=some o->h1.get? b=some o:=λ b o e=>by
  have lt:b<s2.heap.objs.size:=BJ e
  exact hsb1.extBut b o (B0 (B5 (hDD▸lt) hCle)) (BB _ (hH2▸BB _ e))
 have hacc:h1.get? D=some (aQ [] 0):=hsb1.extBut _ _ hDC (BB _ (hH2▸(hDD▸BU _ rfl)))
 have cellD:∀ x a,X.env.cells.lookup x=some a->a<D:=λ x a e=>by
  obtain ⟨v,q⟩:=I2.cell x a e
  exact hDD▸q.lt
 have fpc:∀ {H':Hp} {us:List Value} {k:Nat},(∀ b∈fp,H' b=none)->∀ b∈fp,nc (aC X N scope cl fp C s2 H2) [(D,aQ us k)] H' b:=λ {H' us k} hn b hb=>by
  have lb:=hfl b hb
  refine ⟨hn b hb,?_,λ z=>?_,.inl hb,λ x a e z=>?_,λ p hp=>?_⟩
  ·exact B0 (B5 lb hCle)
  ·rcases BS.mp (I2.stkSub b z) with e | e
   ·exact (f2 b hb).2.1 e
   ·exact (f2 b hb).2.2.1 e
  ·exact (f2 b hb).2.2.2.2.1 x a (hcn x a e) z
  ·have:p=(D,aQ us k):=by simpa [aC] using hp
   rw [this]; exact Df lb
 have D_fs:D∉(aC X N scope cl fp C s2 H2).fs:=λ z=>by
  rcases BS.mp (I2.stkSub D z) with e | e
  ·exact absurd I2.lt (by rw [<-e,hDD]; exact C3 _)
  ·exact I2.nofs (DT hDD) e
 have I3:=iL (tk:=s2.toks+([]:List (Str×Value)).length) (pins':=[(D,aQ [] 0)]) c I2 f2 (λ b hb=>hDD▸hfl b hb) (hDD▸hCle:s2.heap.objs.size<=C) hns1 old (λ p hp=>by
  have e:p=(D,aQ [] 0):=by simpa using hp
  subst e
  exact ⟨hacc,DT hDD,hDC,λ v z=>by cases z⟩)
 have tn3:tn 0 h1:=T.keep _ _ _ st2 λ b _ o e=>old b o e
 have loop:codeAny (model X.prog X.w) X.A (.compLoop (.ListComp elt [⟨tg,iter,[],0⟩] scope pos) 0 (.ref it) (.ref D) (compEnvC scope cl C X.env))
   (compPost (model X.prog X.w) X.A X.xe (some (assign (.Name y py) X.env)) (λ _ s'=>SP X pins Dn .next s') (.ref D) C) { s2 with heap:=h1,toks:=s2.toks+([]:List (Str×Value)).length }:=by
  refine fE (λ n s'=>∃ i xs us k σc H',Inv (aC X N scope cl fp C s2 H2) [(D,aQ us k)] σc H' s'/\tn i s'.heap/\(∀ b∈fp,H' b=none)/\Vals xs us/\W i n xs σc H') ?_ m0
   ⟨0,[],[],0,_,H2,I3,tn3,λ b hb=>(f2 b hb).1,.nil,w0⟩
  rintro n s4 ⟨i,xs,us,k,σ4,H4,I4,tn4,fr4,rv,w4⟩
  obtain ⟨hsz,tt⟩:=turn i n xs σ4 H4 w4
  rcases tt with ⟨stop,fin⟩ | ⟨go,step⟩
  ·refine thn (T.done (aC X N scope cl fp C s2 H2) rfl rfl rfl hc i _ s4 σ4 H4 _ I4 (fpc fr4) tn4 stop) λ r s5 ⟨hr,I5⟩=>?_
   subst hr
   obtain ⟨m,ns,_⟩:=I5.loc
   have J1:Inv X pins σ H4 s5:=I2.call' I5.os I5.base I5.hok I5.bare λ b hb=>⟨(f2 b hb).2.2.2.1,(f2 b hb).2.1,(f2 b hb).2.2.2.2.1,(f2 b hb).2.2.2.2.2⟩
   have big:∀ a,D<=a->a≠X.env.locals/\(a∈X.ex\/X.s₀.heap.objs.size<=a)/\(∀ x y,X.env.cells.lookup x=some y->y≠a)/\∀ p∈X.pn++pins,p.1≠a:=λ a ha=>by
    obtain ⟨q0,q1,q2,q3,q4,q5⟩:=I2.fpOk (b:=a) (H':=λ _=>none) (hDD▸ha) rfl
    exact ⟨q1,q3,q4,q5⟩
   have nfs:∀ a,D<=a->a∉X.fs:=λ a ha=>I2.nofs (hDD▸ha)
   obtain ⟨b1,b2,b3,b4⟩:=big C hCle
   obtain ⟨p1,p2,p3,p4,p5⟩:=I5.pin (D,aQ us k) (by simp)
   obtain ⟨d1,d2,d3,d4⟩:=big D (BD _)
   have J3:Inv X pins σ (upd H4 D (.lst xs)) s5:=J1.adopt p2 d1 d2 d3 d4 ⟨DH hsz,us,k,rv,p1⟩
   obtain ⟨oC,esC,epC,hoC,hdC,rC⟩:=id ns
   have hHC:(upd H4 D (.lst xs)) C=none:=by rw [aq (DN hDC)]; exact I5.free
   have J4:Inv X (pins++[(C,oC)]) σ (upd H4 D (.lst xs)) s5:=J3.pins_of λ p hp=>by
    rcases BY.mp hp with z | z
    ·exact J3.pin p (BL _ z)
    ·have e:p=(C,oC):=by simpa using z
     subst e
     exact ⟨hoC,hHC,b1,nfs C hCle,λ v z=>by rw [hdC] at z; cases z⟩
   show wpAny _ X.A (assign (.Name y py) X.env (.ref D)) _ _ s5
   refine wpAny_assign_Name (dH J4 hN hy hx (v:=.ref D) rfl (λ s6 J5=>?_) hf)
   have hC6:=(J5.pin (C,oC) (BL _ (BL _ (by simp)))).1
   refine ⟨m,⟨oC,esC,epC,hC6,hdC,rC⟩,λ h' sb=>?_⟩
   have J6:Inv X pins (σ.set iy (some (.ref D))) (upd H4 D (.lst xs)) s6:=J5.unpinned
   have J7:Inv X pins (σ.set iy (some (.ref D))) (upd H4 D (.lst xs)) { s6 with heap:=h' }:=J6.turned (t':=s6.toks) (λ b o hb e=>sb.extBut b o hb e) hHC b1 b2 b3 b4
   exact ⟨_,_,J7,fin D p2⟩
  ·refine thn (T.item (aC X N scope cl fp C s2 H2) rfl rfl rfl hc i _ s4 σ4 H4 _ I4 (fpc fr4) tn4 go) λ r s5 ⟨u,hr,h5⟩=>?_
   subst hr
   refine thn h5 λ _ s6 ⟨x,H6,I6,r6,y6,tn6,fr6⟩=>?_
   have I6':=I6.pinned (fpc fr6) (T.obj _ _ tn6)
   refine thn (hg fp C s2 H2 _ s6 σ4 H6 x u _ I6' r6 (step x H6 y6)) λ _ s7 ⟨σ7,H7,I7,q7⟩=>?_
   refine thn (he fp C s2 H2 _ s7 σ7 H7 _ I7 q7) λ yv s8 ⟨y,H8,I8,r8,m',hm,w8⟩=>?_
   obtain ⟨p1,p2,p3,p4,p5⟩:=I8.pin (D,aQ us k) (by simp [aC])
   have hsz':us.toArray.size<=sizeLine:=by simp; rw [<-rv.length]; exact DH hsz
   refine wpAny_list_append_plain (hsz:=hsz') ⟨k,p1⟩ λ h' pl sb=>?_
   have tn8:tn (i+1) s8.heap:=T.keep _ _ _ tn6 λ b hb o e=>(I8.pin (b,o) (BL _ (BL _ (bc hb e)))).1
   have fr8:∀ b∈fp,H8 b=none:=λ b hb=>by
    obtain ⟨o,e,d⟩:=T.obj _ _ tn6 b hb
    exact (I8.pin (b,o) (BL _ (BL _ (bc hb e)))).2.1
   have I9:Inv (aC X N scope cl fp C s2 H2) [] σ7 H8 s8:=I8.pins_of λ p hp=>nomatch hp
   have I10:Inv (aC X N scope cl fp C s2 H2) [] σ7 H8 { s8 with heap:=h' }:=I9.turned (t':=s8.toks) (it:=D) (λ b o hb e=>sb.extBut b o hb e) p2 p3 (.inr (DT hDD))
    (λ x a e=>B0 (cellD x a (hcn x a e))) (λ p hp=>by simp [aC] at hp)
   obtain ⟨k',pl⟩:=pl
   have eu:us.toArray.push yv=(us++[yv]).toArray:=by simp
   rw [eu] at pl
   have I11:Inv (aC X N scope cl fp C s2 H2) [(D,aQ (us++[yv]) k')] σ7 H8 { s8 with heap:=h' }:=I10.pins_of λ p hp=>by
    have e:p=(D,aQ (us++[yv]) k'):=by simpa using hp
    subst e
    exact ⟨pl,p2,p3,p4,λ v z=>by cases z⟩
   exact ⟨m',hm,i+1,xs++[y],us++[yv],k',σ7,H8,I11,T.keep _ _ _ tn8 λ b hb o e=>sb.extBut b o (B0 (hfl b hb)) e,fr8,rv.append (.cons r8 .nil),w8⟩
 exact codeAny_compStart_list loop (T.self _ 0 _ _ _ tn3 loop)
end
section
variable {X:Cx} {N tgs frs:List Str} {ix:List Nat} {scope:Scope} {cl:List (Str×Addr)}
theorem kD {tg:Expr} {spos:Pos} {y:Str} (hN:X.N.Nodup) (hy:X.N[i]? = some y) (hx:Loc X.env.scope y) (c:CompOk X N tgs frs ix scope cl) (hc:X.calm=true) (hi:QI X tg iter wi)
  (hg:∀ fp C s H,QG (aC X N scope cl fp C s H) tg g) (he:∀ fp C s H,QE (aC X N scope cl fp C s H) elt te)
  (hs:∀ x,foldedSetIterable iter X.env x=pure x:=by intro _; rfl)
  (hsw:swapsWith (.ListComp elt [⟨tg,iter,[],0⟩] scope pos) (some (.Name y py)) spos.line X.env=pure true:=by rfl)
  (hf:X.fn y=true\/X.env.scope.names.lookup y=some .local:=by first | exact .inl rfl | exact .inr rfl | assumption) :
  QS X (.Assign [.Name y py] (.ListComp elt [⟨tg,iter,[],0⟩] scope pos) spos) (qw (nW wi g te tgs ix) (eC i)):=
 ⟨uO hN hy hx c hc hi.out (λ fp C s H=>(hg fp C s H).out) (λ fp C s H=>(he fp C s H).out) hs hsw hf⟩
end
section
variable {prog:Program} {w:World} {A:Around} {E:Value->Shared->Prop} {s:Shared}
theorem lC {it l:Addr} {items:Array Value} (hne:l≠it):∀ (n i:Nat) (s:Shared) (Q:List Value->Shared->Prop),s.heap.IsListIter it l i->s.heap.IsList l items->i+n<=items.size->
  (∀ h',h'.IsListIter it l (i+n)->EO it s.heap h'->Q ((items.toList.drop i).take n) { s with heap:=h' })->wpAny (model prog w) A (draw (.ref it) n) Q E s
 | 0,i,s,Q,hit,_,_,hQ=>by
  show wpAny _ _ (pure []) Q E s
  exact wpAny_pure (by simpa using hQ s.heap hit (IK ..))
 | n+1,i,s,Q,hit,ht,hle,hQ=>by
  have hlt:i<items.size:=by lia
  show wpAny _ _ (pyNext (.ref it) >>= _) Q E s
  refine wpAny_bind (wpAny_pyNext_list_item hit ht (x:=items[i]) (by simp [hlt]) λ h1 hit1 hs1=>?_)
  refine wpAny_bind (wpAny_holding (lC hne n (i+1) _ _ hit1 (ht.extBut hs1.extBut hne) (by lia) λ h2 hit2 hs2=>wpAny_pure ?_))
  have hd:items.toList.drop i=items[i]::items.toList.drop (i+1):=by simp [Dc,hlt]
  have:=hQ h2 (by rw [show i+(n+1)=i+1+n by lia]; exact hit2) (hs1.trans hs2)
  rw [hd,Es] at this
  exact this
theorem gE {Q:List Value->Shared->Prop} (hh:A.handled=none) (ht:s.heap.IsList l items)
  (hQ:∀ h',FZ s.heap.objs.size s.heap h'->Q items.toList { s with heap:=h' }):wpAny (model prog w) A (unpackItems (.ref l) items.size none) Q E s:=by
 have hlt:l≠s.heap.objs.size:=by obtain ⟨o,ho,_⟩:=ht; exact B0 (BJ ho)
 unfold unpackItems
 refine wpAny_bind ?_
 ·unfold notIterableAtAll
  refine wpAny_bind (wpAny_specialOf ht.typeIs slot_list_iter.lookup ?_)
  refine wpAny_pure ?_
  simp only [BG,if_false]
  refine wpAny_bind (wpAny_holding (wpAny_pyIter_list ht ?_))
  refine wpAny_bind (wpAny_holding (lC hlt items.size 0 _ _ ⟨_,BU _ rfl,rfl,rfl⟩ (ht.at λ o e=>BB _ e) (by lia) λ h1 hit1 hs1=>?_))
  have hall:List.take items.size (List.drop 0 items.toList)=items.toList:=by
   rw [C2]; exact BF (by simp)
  rw [hall]
  rw [if_neg (by simp)]
  have ht1:h1.IsList l items:=(ht.at λ o e=>BB _ e).extBut hs1.extBut hlt
  refine wpAny_bind (wpAny_holding (wpAny_pyNext_list_end hh hit1 ht1 (by simp) λ h2 he2=>?_))
  simp only [Option.isSome_none,BG,if_false]
  refine wpAny_pure (hQ h2 λ b o hb e=>he2 b o hb (hs1.extBut b o hb (BB _ e)))
theorem fP {env:Env} {elts:List Expr} {x1} {t:Addr} {Q:Unit->Shared->Prop} (hh:A.handled=none) (ht:s.heap.IsList t items)
  (hn:(assignEach elts env).length=items.size) (hstar:(assignEach elts env).findIdx? (·.1)=none)
  (h:∀ h',FZ s.heap.objs.size s.heap h'->wpAny (model prog w) A (assignInOrder ((assignEach elts env).map (·.2)) items.toList) Q E { s with heap:=h' }) :
  wpAny (model prog w) A (assign (.Tuple elts x1 pos) env (.ref t)) Q E s:=by
 rw [assign_Tuple]
 refine wpAny_bind (wpAny_standAt ?_)
 unfold unpack
 rw [hn,hstar]
 exact wpAny_bind (wpAny_holding (gE hh ht h))
end
section
variable {X:Cx} {pos:Pos} {u:TGs}
noncomputable def xA (K:BA) (n:Nat) (t:TGs):TG:=λ v σ H Q=>∃ a xs,v=.ref a/\SqL K H a xs/\xs.length=n/\t xs σ H Q
theorem iV {K:BA} {ts:List Expr} (hc:X.calm=true) (h:QGs X ts u) (hn:(assignEach ts X.env).length=n:=by rfl) (hst:(assignEach ts X.env).findIdx? (·.1)=none:=by rfl) (hK:X.K=K:=by rfl):QG X (.Tuple ts k pos) (xA K n u):=by
 subst hK
 refine ⟨λ pins s σ H v u' Q I r hw=>?_⟩
 obtain ⟨a,xs,e1,hq,hl,hw⟩:=hw
 subst e1
 cases r
 obtain ⟨its,rv,ht,hz⟩:=I.list hq
 refine fP (I.ok.hd hc) ht.isList (by simp [hn,<-hl,rv.length]) hst λ h' hx=>?_
 have I1:Inv X pins σ H { s with heap:=h' }:=I.kept (t':=s.toks) λ b o e=>hx b o (B0 (BJ e)) e
 exact h.out pins _ σ H xs _ Q I1 (by simpa using rv) hw
end
theorem bR {α:Type} {xs:List α} {x:α} {y:α} (h:(xs++[x])[i]? = some y):(i<xs.length/\xs[i]? = some y)\/(i=xs.length/\y=x):=by
 rcases C4 i xs.length with l | l | l
 ·rw [BX l] at h; exact .inl ⟨l,h⟩
 ·subst l; simp at h; exact .inr ⟨rfl,h.symm⟩
 ·rw [CB (by simp; lia)] at h; cases h
section
variable {X:Cx} {pins:List (Addr×Obj)} {σ:St} {H:Hp} {s:Shared} {h':Heap}
theorem Inv.turnedAll (I:Inv X pins σ H s) (k:∀ b o,b∉ch->s.heap.get? b=some o->h'.get? b=some o) (hf:∀ b∈ch,nc X pins H b):Inv X pins σ H { s with heap:=h',toks:=t' }:=by
 have nit:∀ b u,H b=some u->b∉ch:=λ b u e z=>by rw [(hf b z).1] at e; cases e
 refine I.step (g':=s.gens) (d':=s.drawn) (ch:=ch) (λ b hb=>?_) (λ b o _ _ hc e _=>k b o hc e) (λ b o _ _ hc e _=>⟨o.slots,k b o hc e⟩) (λ _ _ _ _ n=>n)
  (λ b o hc e=>⟨o,k b o hc e⟩) (λ _ _ e=>e) (λ _ _ _ e=>e) (λ b ps e=>⟨#[],by rw [e]; simp⟩) (λ m hm=>?_) (λ b u e=>?_) I.bare
 ·obtain ⟨_,f1,_,f3,f4,f5⟩:=hf b hb
  exact ⟨f3,f1,f4,f5⟩
 ·obtain ⟨o,es,ep,q,r⟩:=hm
  exact ⟨o,es,ep,k _ o (λ z=>(hf _ z).2.1 rfl) q,r⟩
 ·refine (I.hok b u e).stay (λ c v hc q=>k c v ?_ q) (λ _ q=>q) λ _ _ q=>q
  rcases hc with z | z
  ·rw [z]; exact nit b u e
  ·exact nit c _ z
end
section
variable {X:Cx}
noncomputable def Bg (K:BA):R2:=λ x y H Q=>∃ (a b:Addr) (ns ms:List Int),x=.ref a/\y=.ref b/\SqL K H a (ns.map Lz)/\SqL K H b (ms.map Lz)/\Q (.bl (decide (ns=ms))) H
theorem qW {ns:List Int} (hl:ns.length=ms.length):(BC ns.length).all (λ i=>ns.getD i 0 == ms.getD i 0)=decide (ns=ms):=by
 have:=gC ns ms
 rw [hl,Nat.min_self,beq_self_eq_true,Bool.and_true] at this
 rw [hl]; exact this
theorem uP {K:BA} (hu:X.A.units<cLine) (hK:X.K=K:=by rfl):QOp X (compareOp .Eq) (Bg K):=by
 subst hK
 refine ⟨λ pins s σ H x y v u Q I rx ry h=>?_⟩
 obtain ⟨a,b,ns,ms,rfl,rfl,ha,hb,q⟩:=h
 cases rx; cases ry
 obtain ⟨its,r1,p1,z1⟩:=I.list ha
 obtain ⟨its2,r2,p2,z2⟩:=I.list hb
 have l1:its.toArray.size=ns.length:=by have:=r1.length; simp at this; simp [this]
 have l2:its2.toArray.size=ms.length:=by have:=r2.length; simp at this; simp [this]
 by_cases hl:ns.length=ms.length
 ·refine Lk (e:=λ i=>ns.getD i 0 == ms.getD i 0) p1.isList p2.isList (by lia) hu (λ j h1 h2=>jE r1 r2 j h1 h2) X.prog X.w X.xe _ ?_
  rw [l1,qW hl]
  exact ⟨.bl _,H,I,rfl,q⟩
 ·refine Kv p1.isList p2.isList (by rw [l1,l2]; simpa using hl) hu X.prog X.w X.xe _ ?_
  have e:decide (ns=ms)=false:=decide_eq_false λ z=>hl (by rw [z])
  rw [e] at q
  exact ⟨.bl false,H,I,rfl,q⟩
end
section
variable {K:BA} {H:Hp} {Q:VK}
end
section
variable {prog:Program} {w:World} {A:Around} {E:Value->Shared->Prop} {s:Shared}
theorem il {it t:Addr} {vs:Array Value} {x:Value} (a1:s.heap.IsTupleIter it t i) (a2:s.heap.IsTuple t vs) (a3:vs[i]? = some x)
  (a4:∀ g,g.IsTupleIter it t (i+1)->EO it s.heap g->Q x { s with heap:=g }):wpAny (model prog w) A (Dd (.ref it)) Q E s:=by
 have ty:=a1.typeIs
 obtain ⟨u,e1,e2,e3⟩:=a1
 obtain ⟨v,f1,_,m,f3⟩:=a2
 unfold Dd
 refine wpAny_bind (wpAny_callSpecial?_slot (name:=DR "__next__") ty Ea (wpAny_call_entry Ea ty Gh ?_ (FW _)))
 show wpAny _ _ (EG (.ref it) 0 >>= _) _ _ s
 refine wpAny_bind (wpAny_field e1 e3 (x:=.ref t) rfl ?_)
 show wpAny _ _ (ite ((Cp t == CC)=true) _ _) _ _ s
 rw [if_neg (λ z:(Cp t == CC)=true=>BW z)]
 show wpAny _ _ (EG (.ref it) 1 >>= _) _ _ s
 refine wpAny_bind (wpAny_field e1 e3 (x:=.int i 0) rfl ?_)
 show wpAny _ _ (Jq (.ref t) >>= _) _ _ s
 refine wpAny_bind (wpAny_seqItems f1 f3 ?_)
 simp only [a3,CT]
 refine wpAny_bind (wpAny_setField e1 e3 (by simp) (wpAny_pure ⟨x,rfl,wpAny_pure (a4 _ ?_ (DG ..))⟩))
 refine ⟨_,D8 _ e1 (Obj.isFreed_of_fields (Ir e3 _)),(Obj.cls_mapFields ..).trans e2,?_⟩
 rw [Ir e3]
 simp [rawInt]
theorem oi {it t:Addr} {vs:Array Value} (hh:A.handled=none) (a1:s.heap.IsTupleIter it t i) (a2:s.heap.IsTuple t vs) (a3:vs[i]? = none)
  (a4:∀ g e,FZ it s.heap g->(∃ o,g.get? e=some o/\o.cls=.type "StopIteration")->E (.ref e) { s with heap:=g }):wpAny (model prog w) A (Dd (.ref it)) Q E s:=by
 have ty:=a1.typeIs
 obtain ⟨u,e1,e2,e3⟩:=a1
 obtain ⟨v,f1,_,m,f3⟩:=a2
 unfold Dd
 refine wpAny_bind (wpAny_callSpecial?_slot (name:=DR "__next__") ty Ea (wpAny_call_entry Ea ty Gh ?_ (FW _)))
 show wpAny _ _ (EG (.ref it) 0 >>= _) _ _ s
 refine wpAny_bind (wpAny_field e1 e3 (x:=.ref t) rfl ?_)
 show wpAny _ _ (ite ((Cp t == CC)=true) _ _) _ _ s
 rw [if_neg (λ z:(Cp t == CC)=true=>BW z)]
 show wpAny _ _ (EG (.ref it) 1 >>= _) _ _ s
 refine wpAny_bind (wpAny_field e1 e3 (x:=.int i 0) rfl ?_)
 show wpAny _ _ (Jq (.ref t) >>= _) _ _ s
 refine wpAny_bind (wpAny_seqItems f1 f3 ?_)
 simp only [a3,CT]
 refine wpAny_bind (wpAny_rule (wpAny_bind (wpAny_setField e1 e3 (by simp) ?_)))
 show wpAny _ _ (PySem.newExc (.type "StopIteration") [] >>= _) _ _ _
 refine wpAny_bind ?_
 simp only [newTuple,newExc]
 refine wpAny_bind (wpAny_newObj_type ?_ (by size_fits))
 refine wpAny_bind (m:=PySem.firstArgMember _ _) (wpAny_of_eq (a:=CC) (by first | rfl | (simp only [firstArgMember]; rfl)) ?_)
 refine wpAny_newObj_type ?_ (by size_fits)
 simp only [raiseNew]
 refine wpAny_bind (wpAny_handled ?_)
 first
  | rw [show A.in1.handled=none from hh]
  | rw [hh]
 refine wpAny_bind (wpAny_pure (wpAny_throw ?_))
 exact a4 _ _ (((DG ..).extBut.push _).push _) ⟨_,BU _ rfl,rfl⟩
end
noncomputable def zS (K:BA) (a:Addr):It:=
 ⟨λ i H=>∃ xs x,SqL K H a xs/\xs[i]? = some x,λ i H v H'=>∃ p x,v=.ref p/\H p=none/\H'=upd H p (.tup [.int i,x])/\∀ xs,SqL K H a xs->xs[i]? = some x,λ i H=>∃ xs,SqL K H a xs/\xs.length=i⟩
theorem gF {b:Addr} {o u:Obj} {x y:String} (e1:h.get? a=some o) (c1:o.cls=.type x) (e2:h.get? b=some u) (c2:u.cls=.type y) (hn:x≠y):a≠b:=λ z=>by
 subst z
 rw [e1] at e2
 cases e2
 rw [c1] at c2
 exact hn (by injection c2)
theorem Inv.pair {H:Hp} {s:Shared} {g:Heap} {v:Value} {x:V} (I:Inv X pins σ H s) (k:∀ b o,b∉ch->s.heap.get? b=some o->g.get? b=some o) (hf:∀ b∈ch,nc X pins H b)
  (hg:g.get? s.heap.objs.size=some { cls:=.type "tuple",data:=.seq #[u,v] }) (rx:RelV x u) (ry:RelV y v):Inv X pins σ (upd H s.heap.objs.size (.tup [x,y])) { s with heap:=g,toks:=tk }/\H s.heap.objs.size=none:=by
 have I1:Inv X pins σ H { s with heap:=g,toks:=tk }:=I.turnedAll k hf
 have hn:H s.heap.objs.size=none:=I.hok.fresh (BD _)
 obtain ⟨_,f1,f2,f3,f4,f5⟩:=I.fpOk (BD _) hn
 refine ⟨I1.adopt hn f1 f3 f4 f5 ?_,hn⟩
 exact ⟨by show 2<=sizeLine; decide,[u,v],.cons rx (.cons ry .nil),⟨_,hg,rfl,_,rfl⟩⟩
theorem mR {w:World} {K:BA} {elts:List Expr} (a e it:Addr) (hei:e≠it):Turn P w K (.Tuple elts k pos) (zS K a) [e,it] e (λ i h=>(∃ old,IsEnum h e it i old)/\h.IsListIter it a i) where
 mem:=by simp
 obj:=λ i h st b hb=>by
  obtain ⟨⟨old,q⟩,o,q1,q2,q3⟩:=st
  simp only [BS,CD,or_false] at hb
  rcases hb with rfl | rfl
  ·exact ⟨_,q,λ v z=>by cases z⟩
  ·exact ⟨o,q1,λ v z=>by rw [q3] at z; cases z⟩
 keep:=λ i h h' st kk=>by
  obtain ⟨⟨old,q⟩,o,q1,q2⟩:=st
  exact ⟨⟨old,kk e (by simp) _ q⟩,o,kk it (by simp) o q1,q2⟩
 item:=by
  intro X hP hw hK hc i pins s σ H E I hf st hg
  subst hP hw hK
  obtain ⟨xs,x,hq,hx⟩:=hg
  obtain ⟨its,rv,p,hz⟩:=I.list hq
  obtain ⟨u,hu,ru⟩:=rv.get hx
  have hl:=rv.length
  have hil:i<its.toArray.size:=by have:=(BZ.mp hu).1; simpa using this
  obtain ⟨⟨old,q⟩,q2⟩:=st
  have hne:a≠it:=by
   obtain ⟨o1,g1,g2,_⟩:=p.isList
   obtain ⟨o2,g3,g4,_⟩:=q2
   exact gF g1 g2 g3 g4 (by decide)
  have hea:e≠a:=by
   obtain ⟨o1,g1,g2,_⟩:=p.isList
   exact gF q rfl g1 g2 (by decide)
  refine wpAny_pyNext_enum_itemD (KW (A:=X.A.in1) (I.ok.hd hc) it a hne its.toArray) q ⟨q2,p.isList⟩ hil hei (by simp [hei,hea]) λ y h' tk hP ho hs' hT hsz hk=>⟨_,rfl,wpAny_letOwnedTupleGo_enum ho λ g he' sb=>?_⟩
  have ey:y=u:=by
   have h1:its.toArray[i]? = some u:=by simpa using hu
   exact CG (hP.symm.trans h1)
  subst ey
  have hTe:s.heap.objs.size≠e:=Df (BJ q)
  have lt2:it<s.heap.objs.size:=by obtain ⟨o2,g3,_⟩:=q2; exact BJ g3
  obtain ⟨I2,hn⟩:=I.pair (g:=g) (tk:=tk+1) (ch:=[e,it]) (x:=.int i) (y:=x) (λ b o hb r=>(sb.2 b (λ z=>hb (by simp [z]))).trans (hk b o (λ z=>hb (by simp [z])) (λ z=>hb (by simp [z])) r)) hf ((sb.2 _ hTe).trans hT) ⟨tk,rfl⟩ ru
  refine ⟨.ref s.heap.objs.size,_,I2,rfl,⟨_,x,rfl,hn,rfl,λ ys hy=>by rw [I.list_inj hy hq]; exact hx⟩,⟨⟨_,by simpa using he'⟩,hs'.1.at λ o r=>(sb.2 it hei.symm).trans r⟩,λ b hb=>?_⟩
  simp only [BS,CD,or_false] at hb
  rcases hb with rfl | rfl
  ·rw [aq hTe.symm]; exact (hf _ (by simp)).1
  ·rw [aq (B0 lt2)]; exact (hf _ (by simp)).1
 done:=by
  intro X hP hw hK hc i pins s σ H E I hf st hg
  subst hP hw hK
  obtain ⟨xs,hq,hx⟩:=hg
  obtain ⟨its,rv,p,hz⟩:=I.list hq
  obtain ⟨⟨old,q⟩,q2⟩:=st
  have hl:=rv.length
  have hne:a≠it:=by
   obtain ⟨o1,g1,g2,_⟩:=p.isList
   obtain ⟨o2,g3,g4,_⟩:=q2
   exact gF g1 g2 g3 g4 (by decide)
  have hi:its.toArray.size=i:=by simp; lia
  subst hi
  refine wpAny_pyNext_enum_endD (KW (A:=X.A.in1) (I.ok.hd hc) it a hne its.toArray) q ⟨q2,p.isList⟩ λ h' eb=>⟨rfl,I.turnedAll (t':=s.toks) (ch:=[it]) (λ b o hb r=>eb b o (λ z=>hb (by simp [z])) r) λ b hb=>hf b (by simp at hb; simp [hb])⟩
 self:=λ _ _ _ _ _ st h=>by
  obtain ⟨⟨old,q⟩,_⟩:=st
  exact wpAny_pyIter_enum q h
noncomputable def Itz (K:BA) (a b:Addr):It:=
 ⟨λ i H=>∃ xs ys x y,SqL K H a xs/\SqL K H b ys/\xs[i]? = some x/\ys[i]? = some y,λ i H v H'=>∃ p x y,v=.ref p/\H p=none/\H'=upd H p (.tup [x,y])/\(∀ xs,SqL K H a xs->xs[i]? = some x)/\∀ ys,SqL K H b ys->ys[i]? = some y,λ i H=>∃ xs ys,SqL K H a xs/\SqL K H b ys/\(xs.length<=i\/ys.length<=i)⟩
theorem qX {w:World} {K:BA} {elts:List Expr} (a b z TI TO i1 i2:Addr) (D:ZipApart z TI TO i1 i2 a b) :
  Turn P w K (.Tuple elts k pos) (Itz K a b) [z,TI,TO,i1,i2] z (λ i h=>IsZip h z TI TO .none/\IsPair h TI (.ref i1) (.ref i2)/\(∃ u v,IsPair h TO u v)/\h.IsListIter i1 a i/\h.IsListIter i2 b i) where
 mem:=by simp
 obj:=λ i h st c hb=>by
  obtain ⟨q1,q2,⟨u,v,q3⟩,⟨o4,q4,_,d4⟩,⟨o5,q5,_,d5⟩⟩:=st
  simp only [BS,CD,or_false] at hb
  rcases hb with rfl | rfl | rfl | rfl | rfl
  ·exact ⟨_,q1,λ v z=>by cases z⟩
  ·exact ⟨_,q2,λ v z=>by cases z⟩
  ·exact ⟨_,q3,λ v z=>by cases z⟩
  ·exact ⟨o4,q4,λ v z=>by rw [d4] at z; cases z⟩
  ·exact ⟨o5,q5,λ v z=>by rw [d5] at z; cases z⟩
 keep:=λ i h h' st kk=>by
  obtain ⟨q1,q2,⟨u,v,q3⟩,⟨o4,q4,r4⟩,⟨o5,q5,r5⟩⟩:=st
  exact ⟨kk z (by simp) _ q1,kk TI (by simp) _ q2,⟨u,v,kk TO (by simp) _ q3⟩,⟨o4,kk i1 (by simp) _ q4,r4⟩,⟨o5,kk i2 (by simp) _ q5,r5⟩⟩
 item:=by
  intro X hP hw hK hc i pins s σ H E I hf st hg
  subst hP hw hK
  obtain ⟨xs,ys,x,y,hqx,hqy,hx,hy⟩:=hg
  obtain ⟨its,rv,p,hz⟩:=I.list hqx
  obtain ⟨jts,rw',p',hz'⟩:=I.list hqy
  obtain ⟨u,hu,ru⟩:=rv.get hx
  obtain ⟨v,hv,rv'⟩:=rw'.get hy
  obtain ⟨q1,q2,⟨u3,v3,q3⟩,q4,q5⟩:=st
  have l1:=BJ q1
  have l2:=BJ q2
  have l3:=BJ q3
  have l4:i1<s.heap.objs.size:=by obtain ⟨o,g,_⟩:=q4; exact BJ g
  have l5:i2<s.heap.objs.size:=by obtain ⟨o,g,_⟩:=q5; exact BJ g
  refine wpAny_pyNext_zip_item D q1 q2 q3 q4 q5 p.isList p'.isList (x:=u) (y:=v) (by simpa using hu) (by simpa using hv) λ h' a1 a2 a3 a4 a5 a6 a7=>⟨_,rfl,wpAny_letOwnedTupleGo_zip a1 λ g hz2 sb=>?_⟩
  obtain ⟨I2,hn⟩:=I.pair (g:=g) (tk:=s.toks) (ch:=[z,TO,i1,i2]) (x:=x) (y:=y) (λ c o hb r=>(sb.2 c (λ e=>hb (by simp [e]))).trans (a7 c o (λ e=>hb (by simp [e])) (λ e=>hb (by simp [e])) (λ e=>hb (by simp [e])) (λ e=>hb (by simp [e])) r)) (λ c hb=>hf c (by simp at hb; rcases hb with e | e | e | e<;>simp [e])) ((sb.2 _ (Df l1)).trans a5) ru rv'
  refine ⟨.ref s.heap.objs.size,_,I2,rfl,⟨_,x,y,rfl,hn,rfl,λ zs h=>by rw [I.list_inj h hqx]; exact hx,λ zs h=>by rw [I.list_inj h hqy]; exact hy⟩,⟨hz2,?_,⟨_,_,(sb.2 _ D.TOz).trans a2⟩,a3.at λ o r=>(sb.2 i1 D.i1z).trans r,a4.at λ o r=>(sb.2 i2 D.i2z).trans r⟩,λ c hb=>?_⟩
  ·exact (sb.2 _ D.TIz).trans (a7 TI _ D.TIz D.TITO D.TIi1 D.TIi2 q2)
  ·have hc0:=(hf c hb).1
   simp only [BS,CD,or_false] at hb
   have:c<s.heap.objs.size:=by rcases hb with rfl | rfl | rfl | rfl | rfl<;>assumption
   rw [aq (B0 this)]; exact hc0
 done:=by
  intro X hP hw hK hc i pins s σ H E I hf st hg
  subst hP hw hK
  obtain ⟨xs,ys,hqx,hqy,hx⟩:=hg
  obtain ⟨its,rv,p,hz⟩:=I.list hqx
  obtain ⟨jts,rw',p',hz'⟩:=I.list hqy
  have m1:=rv.length
  have m2:=rw'.length
  obtain ⟨q1,q2,⟨u3,v3,q3⟩,q4,q5⟩:=st
  refine wpAny_pyNext_zip_end (I.ok.hd hc) D q1 q2 q3 q4 q5 p.isList p'.isList ?_ λ h' kk=>⟨rfl,I.turnedAll (t':=s.toks) (ch:=[z,TO,i1,i2]) (λ c o hb r=>kk c o (λ e=>hb (by simp [e])) (λ e=>hb (by simp [e])) (λ e=>hb (by simp [e])) (λ e=>hb (by simp [e])) r) (λ c hb=>hf c (by simp at hb; rcases hb with e | e | e | e<;>simp [e]))⟩
  rcases hx with h | h
  ·exact .inl (by simp; lia)
  ·exact .inr (by simp; lia)
 self:=λ _ _ _ _ _ st h=>wpAny_pyIter_zip st.1 h
section
variable {X:Cx} {a b:Expr} {t:TA} {p pos tpos:Pos} {ts:List Expr} {k:Nat}
noncomputable def sR (K:BA) (t:TA):TI:=λ σ H R=>t σ H λ vs H1=>∃ a,vs=[.ref a]/\(∃ xs,SqL K H1 a xs)/\R (zS K a) H1
noncomputable def AM (K:BA) (t:TA):TI:=λ σ H R=>t σ H λ vs H1=>∃ a b,vs=[.ref a,.ref b]/\(∃ xs,SqL K H1 a xs)/\(∃ ys,SqL K H1 b ys)/\R (Itz K a b) H1
theorem oj {K:BA} (hg:Gl X "enumerate") (hm:X.mg "enumerate" = none) (ha:QA X [a] t) (hn:cn a=true:=by rfl) (hK:X.K=K:=by rfl):QI X (.Tuple ts k tpos) (.Call (.Name "enumerate" p) [a] [] pos) (sR K t):=by
 subst hK
 refine ⟨λ pins s σ H R I h=>?_⟩
 refine Call_ (dv I hg hm (by decide +kernel:bootBuiltins "enumerate" = some (.type "enumerate")) (C0 (thn (ha.out pos pins s σ H _ I h) λ us s1 ⟨vs,H1,I1,r1,q1⟩=>?_) (aH hn) rfl))
 obtain ⟨l,e,⟨xs,hq⟩,q⟩:=q1
 subst e
 cases r1 with
 | cons r rr=>
  cases rr
  cases r
  obtain ⟨its,rv,pl,hz⟩:=I1.list hq
  refine call_enumerate_list pl.isList λ g h1 h2 h3 h4=>wpAny_pyIter_enum h1 ?_
  have I2:Inv X pins σ H1 { s1 with heap:=g }:=I1.kept (t':=s1.toks) h4
  refine ⟨s1.heap.objs.size+1,[s1.heap.objs.size+1,s1.heap.objs.size],_,_,H1,rfl,I2,mR l _ _ (Jb _),⟨⟨_,h1⟩,h2⟩,λ c hc=>?_,q⟩
  have hle:s1.heap.objs.size<=c:=by
   simp only [BS,CD,or_false] at hc
   rcases hc with rfl | rfl
   ·exact Ft _
   ·exact BD _
  exact I1.fpOk hle (I1.hok.fresh hle)
theorem sS {K:BA} (hg:Gl X "zip") (hm:X.mg "zip" = none) (ha:QA X [a,b] t) (hn:cn a=true:=by rfl) (hn2:cn b=true:=by rfl) (hK:X.K=K:=by rfl):QI X (.Tuple ts k tpos) (.Call (.Name "zip" p) [a,b] [] pos) (AM K t):=by
 subst hK
 refine ⟨λ pins s σ H R I h=>?_⟩
 have e2:starEach [b] X.env=[(false,eval b X.env)]:=aH hn2
 refine Call_ (dv I hg hm (by decide +kernel:bootBuiltins "zip" = some (.type "zip")) (C0 (thn (ha.out pos pins s σ H _ I h) λ us s1 ⟨vs,H1,I1,r1,q1⟩=>?_) (aH hn) (by rw [e2]; rfl)))
 obtain ⟨l,m,e,⟨xs,hq⟩,⟨ys,hq'⟩,q⟩:=q1
 subst e
 cases r1 with
 | cons r rr=>
  cases rr with
  | cons r' rr=>
   cases rr
   cases r; cases r'
   obtain ⟨its,rv,pl,hz⟩:=I1.list hq
   obtain ⟨jts,rw',pl',hz'⟩:=I1.list hq'
   have a1:l<s1.heap.objs.size:=by obtain ⟨o,g,_⟩:=pl.isList; exact BJ g
   have a2:m<s1.heap.objs.size:=by obtain ⟨o,g,_⟩:=pl'.isList; exact BJ g
   refine call_zip_2 pl.isList pl'.isList λ g h1 h2 h3 h4 h5 h6 h7=>wpAny_pyIter_zip h1 ?_
   have I2:Inv X pins σ H1 { s1 with heap:=g }:=I1.kept (t':=s1.toks) h7
   refine ⟨_,_,_,_,H1,rfl,I2,qX l m _ _ _ _ _ (zipApart_new a1 a2),⟨h1,h2,⟨_,_,h3⟩,h4,h5⟩,λ c hc=>?_,q⟩
   have hle:s1.heap.objs.size<=c:=by
    simp only [BS,CD,or_false] at hc
    rcases hc with rfl | rfl | rfl | rfl | rfl
    ·exact Dv _ _
    ·exact Dv _ _
    ·exact Dv _ _
    ·exact BD _
    ·exact Dv _ _
   exact I1.fpOk hle (I1.hok.fresh hle)
end
section
variable {K:BA} {σ:St} {H:Hp} {Q:VK} {D:Ends} {g:TG} {te:TE} {tb:TS}
theorem yF {t:TA} {R:It->Hp->Prop} (h:t σ H λ vs H1=>∃ a,vs=[.ref a]/\(∃ xs,SqL K H1 a xs)/\R (zS K a) H1):sR K t σ H R:=h
theorem AN {t:TA} {R:It->Hp->Prop} (h:t σ H λ vs H1=>∃ a b,vs=[.ref a,.ref b]/\(∃ xs,SqL K H1 a xs)/\(∃ ys,SqL K H1 b ys)/\R (Itz K a b) H1):AM K t σ H R:=h
theorem uQ {J:It} (Pv:Nat->St->Hp->Prop) (h0:Pv 0 σ H) (hgo:∀ i σ H,i<n->Pv i σ H->J.go i H) (hst:∀ σ H,Pv n σ H->J.stop n H)
  (hs:∀ i x σ H H',i<n->Pv i σ H->J.yld i H x H'->g x σ H' λ σ2 H2=>tb { D with nx:=Pv (i+1),ct:=Pv (i+1),bk:=D.nx } σ2 H2) (hd:∀ σ H,Pv n σ H->D.nx σ H) :
  ∃ W:Nat->Nat->St->Hp->Prop,(∃ m,W 0 m σ H)/\∀ i m σ H,W i m σ H->
   (J.stop i H/\D.nx σ H)\/(J.go i H/\∃ N:St->Hp->Prop,(∀ σ' H',N σ' H'->∃ m',m'<m/\W (i+1) m' σ' H')/\∀ x H',J.yld i H x H'->g x σ H' λ σ2 H2=>tb { D with nx:=N,ct:=N,bk:=D.nx } σ2 H2):=by
 refine ⟨λ i m σ H=>m=n - i/\i<=n/\Pv i σ H,⟨n,by simp,Ca _,h0⟩,?_⟩
 rintro i m σ H ⟨rfl,hi,p⟩
 by_cases hlt:i<n
 ·exact .inr ⟨hgo i σ H hlt p,Pv (i+1),λ σ' H' p'=>⟨n - (i+1),by lia,rfl,hlt,p'⟩,λ x H' y=>hs i x σ H H' hlt p y⟩
 ·have e:i=n:=by lia
  subst e
  exact .inl ⟨hst σ H p,hd σ H p⟩
theorem iW {J:It} {σ0:St} {R:List V->Hp->Prop} (Pv:Nat->List V->St->Hp->Prop) (hz:n<sizeLine) (hl:∀ i ys σ H,Pv i ys σ H->ys.length=i) (h0:Pv 0 [] σ0 H) (hgo:∀ i ys σ H,i<n->Pv i ys σ H->J.go i H) (hst:∀ ys σ H,Pv n ys σ H->J.stop n H)
  (hs:∀ i x ys σ H H',i<n->Pv i ys σ H->J.yld i H x H'->g x σ H' λ σ2 H2=>te σ2 H2 λ y H3=>Nx n i (Pv (i+1) (ys++[y]) σ2 H3)) (hd:∀ ys σ H,Pv n ys σ H->R ys H) :
  ∃ W:Nat->Nat->List V->St->Hp->Prop,(∃ m,W 0 m [] σ0 H)/\∀ i m xs σc H,W i m xs σc H->xs.length<sizeLine/\
  ((J.stop i H/\R xs H)\/(J.go i H/\∀ x H',J.yld i H x H'->g x σc H' λ σ2 H2=>te σ2 H2 λ y H3=>∃ m',m'<m/\W (i+1) m' (xs++[y]) σ2 H3)):=by
 refine ⟨λ i m xs σ H=>m=n - i/\i<=n/\Pv i xs σ H,⟨n,by simp,Ca _,h0⟩,?_⟩
 rintro i m xs σ H ⟨rfl,hi,p⟩
 refine ⟨by rw [hl i xs σ H p]; exact Dw hi hz,?_⟩
 by_cases hlt:i<n
 ·exact .inr ⟨hgo i xs σ H hlt p,λ x H' y=>hs i x xs σ H H' hlt p y⟩
 ·have e:i=n:=by lia
  subst e
  exact .inl ⟨hst xs σ H p,hd xs σ H p⟩
end
section
variable {K:BA} {σ:St} {H:Hp} {Q:VK} {D:Ends}
theorem AO {R:Bool->Hp->Prop} (h:ta σ H λ x H'=>∃ k,wc K x H' k/\R k H'):AJ K ta σ H R:=h
theorem Bh {r:V->Option Int->Option Int->Hp->VK->Prop} {tl th:TO} (h:te σ H λ x H1=>tl σ H1 λ l H2=>th σ H2 λ u H3=>r x l u H3 Q):tSl r te tl th σ H Q:=h
theorem zT {t:TE} {R:Option Int->Hp->Prop} (h:t σ H λ x H1=>∃ i,x=.int i/\R (some i) H1):uv t σ H R:=h
theorem xB {R:Option Int->Hp->Prop} (h:R none H):kq σ H R:=h
theorem bH {p:Addr} {x:V} {R:St->Hp->Prop} (e:H p=some (.tup [x,y])) (h:R ((σ.set i (some x)).set j (some y)) H):yx K 2 (iF (eC i) (iF (eC j) wz)) (.ref p) σ H R:=
 ⟨p,_,rfl,Ly e,rfl,_,_,rfl,_,_,rfl,rfl,h⟩
theorem AQ {p:Addr} (h:SqL K H p xs):wc K (.ref p) H (!xs.isEmpty):=.inl ⟨xs,h,rfl⟩
theorem Bi {p:Addr} (h:SqT K H p xs):wc K (.ref p) H (!xs.isEmpty):=.inr (.inl ⟨xs,h,rfl⟩)
theorem AR {α:Type} {G:Prop} {S B:α->Hp->Prop} (hA:(∀ a H,S a H->B a H)->G) (hB:∀ a H,S a H->B a H):G:=hA hB
theorem aS {α:Type} {f:α->V} {xs:List α} {x:V} (h:(xs.map f)[i]? = some x):∃ z,x=f z/\xs[i]? = some z/\z∈xs/\i<xs.length:=by
 rw [BI] at h
 cases e:xs[i]? with
 | none=>rw [e] at h; cases h
 | some z=>rw [e] at h; exact ⟨z,(CG h).symm,rfl,Ch e,(BZ.mp e).1⟩
end
section
variable {X:Cx} {e:Expr} {te:TE} {g:TG} {pos tpos:Pos} {ts:List Expr} {k:Nat}
theorem om (he:QE X e te) (hg:QG X (.Tuple ts k tpos) g) (hs:swapsWithSole [.Tuple ts k tpos] e pos.line X.env=pure false:=by rfl) (hw:swappedStores [.Tuple ts k tpos] e X.env=pure none:=by rfl)
  (h1:(assignEach [.Tuple ts k tpos] X.env).map (·.2)=[assign (.Tuple ts k tpos) X.env]:=by rfl):QS X (.Assign [.Tuple ts k tpos] e pos) (qw te g):=⟨nk he.out hg.out hs hw h1⟩
end
section
variable {K:BA} {σ:St} {H:Hp}
theorem eJ {p:Addr} {x:V} {R:St->Hp->Prop} (e:H p=some (.lst [x,y])) (h:R ((σ.set i (some x)).set j (some y)) H):xA K 2 (iF (eC i) (iF (eC j) wz)) (.ref p) σ H R:=
 ⟨p,_,rfl,Lx e,rfl,_,_,rfl,_,_,rfl,rfl,h⟩
end
theorem on {i:Int} (e:i=j) (h:j<n):ixN n i=some j:=by
 subst e
 unfold ixN
 rw [if_pos (by lia),if_pos (by lia)]
 simp
theorem Bj {α β:Type} {G:Prop} {S B:α->β->Hp->Prop} (hA:(∀ a b H,S a b H->B a b H)->G) (hB:∀ a b H,S a b H->B a b H):G:=hA hB
theorem oo:∀ {xs:List V} {us:List Value},xs.length=us.length->(∀ (i:Nat) x u,xs[i]? = some x->us[i]? = some u->RelV x u)->Vals xs us
 | [],[],_,_=>.nil
 | [],_::_,h,_=>by simp at h
 | _::_,[],h,_=>by simp at h
 | x::xs,u::us,h,r=>.cons (r 0 x u rfl rfl) (oo (by simpa using h) λ i y v a b=>r (i+1) y v (by simpa using a) (by simpa using b))
section
variable {X:Cx} {a b e o:Expr} {es:List Expr} {t:TA} {te to tb:TE} {p p2 pos pos2 apos cpos tpos:Pos}
noncomputable def hX (lo n:Nat):List V:=(BC n).map λ i=>Lz ((lo+i:Nat):Int)
noncomputable def sT (t:TA):TE:=λ σ H Q=>t σ H λ vs H1=>∃ j:Nat,vs=[.int j]/\j<=1000/\∀ l,H1 l=none->Q (.ref l) (upd H1 l (.lst (hX 0 j)))
theorem Bk {H:Hp} {s:Shared} {Q:VK} {t u v:Tok} (hc:X.calm=true) (I:Inv X pins σ H s) (h1:i<=1000) (h2:j<=1000) (h3:i<=j) (q:∀ l,H l=none->Q (.ref l) (upd H l (.lst (hX i (j - i))))) :
  wpAny (model X.prog X.w) X.A (call (.type "list") [.ref s.heap.objs.size]) (EP X pins σ Q) X.xe { s with heap:=s.heap.push { cls:=.type "range",data:=.fields #[.int i t,.int j u,.int 1 v] },toks:=tk }:=by
 have I1:Inv X pins σ H { s with heap:=s.heap.push { cls:=.type "range",data:=.fields #[.int i t,.int j u,.int 1 v] },toks:=tk }:=I.kept λ b o e=>BB _ e
 refine call_list_range (n:=j - i) (I.ok.hd hc) (KI ..) (small_one (by lia) (by lia) (by lia) (by lia)) (by rw [rangeSize_one]; split<;>lia) (by lia) λ h' tk' acc' c' hk hg hi=>?_
 obtain ⟨hz,hit⟩:=hi
 refine ⟨.ref _,_,I1.laid (t':=tk') (o:=.lst (hX i (j - i))) hk (BD _) ?_,rfl,q _ (I1.hok.fresh (BD _))⟩
 refine ⟨by simp only [hX,By,CU]; exact ba (by lia),acc'.toList,c',?_,?_⟩
 ·refine oo (by simp [hX,hz]) λ k x w a b=>?_
  have hk':k<j - i:=by have:=(BZ.mp a).1; simpa [hX] using this
  unfold hX at a
  rw [BI,De hk'] at a
  obtain rfl:=CG a
  obtain ⟨tt,rfl⟩:=hit k w (by simpa using b)
  refine ⟨tt,?_⟩
  rw [KH,Int.natCast_add]
 ·simpa using hg
theorem qY (hc:X.calm=true) (hgl:Gl X "list") (hml:X.mg "list" = none) (hgr:Gl X "range") (hmr:X.mg "range" = none) (ha:QA X [a] t) (hn:cn a=true:=by rfl):QE X (.Call (.Name "list" p) [.Call (.Name "range" p2) [a] [] pos2] [] pos) (sT t):=by
 refine ⟨λ pins s σ H Q I h=>?_⟩
 refine Call_ (dv I hgl hml (by decide +kernel:bootBuiltins "list" = some (.type "list")) (C0 ?_ (aH rfl) rfl))
 refine Ey (Call_ (dv I hgr hmr boot_range (C0 (thn (ha.out pos2 pins s σ H _ I h) λ us s1 ⟨vs,H1,I1,r1,q1⟩=>?_) (aH hn) rfl)))
 obtain ⟨j,e,q1,q⟩:=q1
 subst e
 cases r1 with
 | cons r rr=>
  cases rr
  obtain ⟨tt,rfl⟩:=r
  exact call_range_1 (Fl (Bk (i:=0) hc I1 (by lia) q1 (by lia) q))
inductive TyB (H:Hp):V->Value->Prop where
 | non:TyB H .non (.type "NoneType")
 | int (i:Int):TyB H (.int i) (.type "int")
 | lst {a:Addr} {xs:List V} (e:H a=some (.lst xs)):TyB H (.ref a) (.type "list")
 | tup {a:Addr} {xs:List V} (e:H a=some (.tup xs)):TyB H (.ref a) (.type "tuple")
noncomputable def qZ (K:BA):RC:=λ xs H Q=>∃ x t tp b,xs=[x,.ref tp]/\H tp=some (.tup [.ty "list",.ty "tuple"])/\TyB H x t/\PySem.W.kitAny K t [.type "list",.type "tuple"]=some b/\Q (.bl b) H
theorem iX {K:BA} (hK:X.K=K:=by rfl):QC X (.builtin "isinstance") (qZ K):=by
 subst hK
 refine ⟨λ pins s σ H xs us Q I r h=>?_⟩
 obtain ⟨x,t,tp,b,rfl,htp,ty,e,q⟩:=h
 cases r with
 | cons rx rr=>
  cases rr with
  | cons ry rr=>
   cases rr
   cases ry
   obtain ⟨_,its,rv,⟨⟨c,dd,dt,sl⟩,g1,g2,n,g3⟩⟩:=(show ObjOk X.prog X.w H s.heap tp (.tup [.ty "list",.ty "tuple"]) from I.hok tp _ htp)
   have g2':c=.type "tuple":=g2
   have g3':dt=.seq its.toArray n:=g3
   subst g2' g3'
   have ei:its=[.type "list",.type "tuple"]:=by
    cases rv with
    | cons r1 rr=>
     cases rr with
     | cons r2 rr=>
      cases rr
      cases r1; cases r2; rfl
   subst ei
   have fin:∀ tk,EP X pins σ Q (.bool b) { s with toks:=tk }:=λ tk=>⟨.bl b,H,I.tok _,rfl,q⟩
   cases ty with
   | non=>cases (show _=CC from rx); exact FJ IG I.kIn Cf g1 e (λ z=>nomatch z) fin
   | int i=>obtain ⟨tt,rfl⟩:=rx; exact FJ IX I.kIn Cf g1 e (λ z=>nomatch z) fin
   | @lst a xs ea=>
    cases rx
    obtain ⟨_,_,n',_,h1⟩:=(show ObjOk X.prog X.w H s.heap a (.lst xs) from I.hok a _ ea)
    exact FJ Gz I.kIn ⟨_,h1,rfl⟩ g1 e (λ z=>nomatch z) fin
   | @tup a xs ea=>
    cases rx
    obtain ⟨_,_,_,⟨o',h1,h2,_⟩⟩:=(show ObjOk X.prog X.w H s.heap a (.tup xs) from I.hok a _ ea)
    exact FJ Ii I.kIn ⟨_,h1,h2⟩ g1 e (λ z=>nomatch z) fin
noncomputable def AS:R2:=λ x y H Q=>y=.non/\Q (.bl (decide (x=.non))) H
theorem jF:QOp X (compareOp .Is) AS:=⟨wO⟩
end
section
variable {K:BA} {σ:St} {H:Hp} {Q:VK}
theorem yG {t:TA} (h:t σ H λ vs H1=>∃ j:Nat,vs=[.int j]/\j<=1000/\∀ l,H1 l=none->Q (.ref l) (upd H1 l (.lst (hX 0 j)))):sT t σ H Q:=h
theorem lD {i:Int} {tp:Addr} (e:H tp=some (.tup [.ty "list",.ty "tuple"])) (h:Q (.bl false) H):qZ K [.int i,.ref tp] H Q:=⟨_,_,tp,_,rfl,e,.int i,rfl,h⟩
theorem rb {p tp:Addr} (s:H p=some (.lst xs)) (e:H tp=some (.tup [.ty "list",.ty "tuple"])) (h:Q (.bl true) H):qZ K [.ref p,.ref tp] H Q:=⟨_,_,tp,_,rfl,e,.lst s,rfl,h⟩
theorem oq {p tp:Addr} (s:H p=some (.tup xs)) (e:H tp=some (.tup [.ty "list",.ty "tuple"])) (h:Q (.bl true) H):qZ K [.ref p,.ref tp] H Q:=⟨_,_,tp,_,rfl,e,.tup s,rfl,h⟩
theorem lE {p:Addr} (s:H p=some (.lst xs)) (h:Q (.bl false) H):qP K [.ref p,.ty "tuple"] H Q:=⟨_,_,_,_,rfl,.lst s,rfl,h⟩
theorem yH {i:Int} (h:Q (.bl false) H):qP K [.int i,.ty "str"] H Q:=⟨_,_,_,_,rfl,.int i,rfl,h⟩
theorem AT {x y:Bool} (h:Q (.bl (!decide (V.bl x=V.bl y))) H):rNe (.bl x) (.bl y) H Q:=⟨rfl,h⟩
theorem zU {x:V} (h:Q (.bl (decide (x=.non))) H):AS x .non H Q:=⟨rfl,h⟩
end
noncomputable def Tp2 (H:Hp) (p:Addr):Prop:=∃ a b:Int,H p=some (.lst [.int a,.int b])/\0<=a/\0<=b
structure St2 (p:Addr) (H H':Hp):Prop where
 keep:∀ q o,H q=some o->q≠p->H' q=some o
 tape:Tp2 H' p
section
variable {H H1 H2:Hp} {p q l:Addr} {o:HO}
theorem St2.refl (t:Tp2 H p):St2 p H H:=⟨λ _ _ h _=>h,t⟩
theorem St2.trans (a:St2 p H H1) (b:St2 p H1 H2):St2 p H H2:=⟨λ q o h n=>b.keep q o (a.keep q o h n) n,b.tape⟩
theorem Tp2.mk {a b:Int} (h:0<=a) (h2:0<=b):St2 p H (upd H p (.lst [.int a,.int b])):=⟨λ q o e n=>by rw [aq n]; exact e,⟨a,b,ac,h,h2⟩⟩
theorem Tp2.ne (t:Tp2 H p) (h:H q=none):q≠p:=by
 obtain ⟨a,b,e,_⟩:=t
 exact λ z=>ap e h z.symm
theorem Tp2.same (t:Tp2 H p) (s:Same H H1):Tp2 H1 p:=by
 obtain ⟨a,b,e,n⟩:=t
 exact ⟨a,b,s _ _ e,n⟩
theorem Tp2.own (t:Tp2 H p) (n:l≠p):Tp2 (upd H l o) p:=by
 obtain ⟨a,b,e,q⟩:=t
 exact ⟨a,b,by rw [aq (DN n)]; exact e,q⟩
theorem St2.new (a:St2 p H H1) (h:H1 q=none):St2 p H (upd H1 q o):=⟨λ b u e1 e2=>by rw [aq (ap (a.keep b u e1 e2) h)]; exact a.keep b u e1 e2,a.tape.own (a.tape.ne h)⟩
theorem St2.own (a:St2 p H H1) (h:H l=none) (n:l≠p):St2 p H (upd H1 l o):=⟨λ b u e1 e2=>by rw [aq (ap e1 h)]; exact a.keep b u e1 e2,a.tape.own n⟩
end
noncomputable def uR (K:BA):Sp:=λ vs H Q _=>∃ (a:Addr) (ns:List Int) (k:Int),vs=[.ref a,.int k]/\SqL K H a (ns.map Lz)/\0<=k/\∀ p H',H p=none->Same H H'->Tp2 H' p->Q (.ref p) H'
noncomputable def uS:Sp:=λ vs H Q _=>∃ (p:Addr) (m:Int),vs=[.ref p,.int m]/\Tp2 H p/\0<m/\m<2 ^ 64/\∀ (r:Nat) H',(r:Int)<m->St2 p H H'->Q (.int r) H'
noncomputable def NV (os:List Nat):List V:=os.map λ o:Nat=>Lz o
theorem aF (os:List Nat):(NV os).length=os.length:=by simp [NV]
theorem xC (os:List Nat):NV os=(os.map λ o:Nat=>(o:Int)).map Lz:=by rw [NV,CF]; rfl
theorem eM {os:List Nat} {o:Nat} (h:os[i]? = some o):(NV os)[i]? = some (Lz o):=by rw [NV,BI,h]; rfl
theorem re {os:List Nat} {o:Nat} {k:Int} (e:k=i) (h:os[i]? = some o):atI (NV os) k=some (Lz o):=by rw [e]; exact bv (eM h)
theorem dW (os:List Nat) (o:Nat):NV os++[Lz o]=NV (os++[o]):=by simp [NV]
theorem rf (lo n:Nat):hX lo n=NV ((BC n).map λ i=>lo+i):=by simp [hX,NV]
noncomputable def Bw (H:Hp) (ps:List Addr) (nss:List (List Nat)):Prop:=ps.length=nss.length/\∀ (i:Nat) p ns,ps[i]? = some p->nss[i]? = some ns->H p=some (.lst (NV ns))
section
variable {H H1:Hp} {ps:List Addr} {nss:List (List Nat)}
end
noncomputable def yI (os:List Nat):Nat->List Bool->Nat->List Nat×List Bool
 | 0,met,_=>([],met)
 | f+1,met,pl=>if met.getD pl true=true then ([],met) else (pl::(yI os f (met.set pl true) (os.getD pl 0)).1,(yI os f (met.set pl true) (os.getD pl 0)).2)
noncomputable def few (met:List Bool):Nat:=met.count false
theorem ot {c A B:Prop} [Decidable c] (h1:¬ c->A) (h2:c->B):if (!decide c)=true then A else B:=by
 by_cases h:c
 ·rw [decide_eq_true h]; exact h2 h
 ·rw [decide_eq_false h]; exact h1 h
theorem ou (os:List Nat) (i o:Nat):(NV os).set i (Lz o)=NV (os.set i o):=by simp [NV,List.map_set]
theorem sU (xs ys:List Nat):NV xs++NV ys=NV (xs++ys):=by simp [NV]
section
variable {X:Cx} {e:Expr} {te:TE} {pos p1 p2 p3 p4 p5:Pos} {j j':Nat}
end
structure Ord (os:List Nat) (n:Nat):Prop where
 len:os.length=n
 lt:∀ x∈os,x<n
 inj:∀ (i j r:Nat),os[i]? = some r->os[j]? = some r->i=j
 sur:∀ x,x<n->∃ i,i<n/\os[i]? = some x
theorem Ord.get {os:List Nat} (h:Ord os n) (hi:i<n):∃ r,os[i]? = some r/\r<n:=by
 have hl:i<os.length:=by rw [h.len]; exact hi
 exact ⟨os[i],by simp [hl],h.lt _ (BM hl)⟩
noncomputable def cmp (one other:List Nat):List Nat:=other.map λ j=>one.getD j 0
theorem ox {one other:List Nat} {r:Nat} (h1:other[i]? = some j) (h2:one[j]? = some r):(cmp one other)[i]? = some r:=by
 unfold cmp
 rw [BI,h1]
 show some (one.getD j 0)=some r
 rw [Bz,h2]; rfl
theorem iY (one other:List Nat):(cmp one other).length=other.length:=by simp [cmp]
theorem dk {α:Type} {xs:List α} {x:α} (h:xs[i]? = some x):i<xs.length:=(BZ.mp h).1
section
variable {X:Cx} {N tgs frs:List Str} {ix:List Nat} {scope:Scope} {cl:List (Str×Addr)}
theorem iZ {prog:Program} {w:World} {A:Around} {R:Result->Shared->Prop} {s:Shared} {elt target iter cnd:Expr} {pos:Pos} {it acc:Value} {env:Env} (I:Nat->Shared->Prop)
  (turn:∀ n s,I n s->wpAny (model prog w) A (pyNext it) (λ r s1=>match r with
   | none=>R (.ok .next) s1
   | some v=>wpAny (model prog w) A (letOwnedTupleGo target it v) (λ _ s1'=>wpAny (model prog w) A (assign target env v) (λ _ s2=>wpAny (model prog w) A (isTrue cnd env (eval cnd env)) (λ b s2'=>if b=true then wpAny (model prog w) A (eval elt env) (λ x s3=>
     wpAny (model prog w) A (call (.builtin "list.append") [acc,x]) (λ _ s4=>∃ m,m<n/\I m s4) (λ _ _=>False) s3)
     (λ _ _=>False) s2' else ∃ m,m<n/\I m s2') (λ _ _=>False) s2) (λ _ _=>False) s1') (λ _ _=>False) s1) (λ _ _=>False) s)
  (n:Nat) (h:I n s) :
  codeAny (model prog w) A (.compLoop (.ListComp elt [⟨target,iter,[cnd],0⟩] scope pos) 0 it acc env) R s:=by
 have up:∀ {α:Type} {t:Sem α} {Q Q':α->Shared->Prop} {E:Value->Shared->Prop} {s:Shared},wpAny (model prog w) A t Q (λ _ _=>False) s->(∀ a s,Q a s->Q' a s)->wpAny (model prog w) A t Q' E s:=λ h hq=>wpAny_mono h hq λ _ _ f=>f.elim
 refine codeAny_loop rfl I (λ n s hI=>?_) n h
 show wpAny _ _ ((compTurn (.ListComp elt [⟨target,iter,[cnd],0⟩] scope pos) 0 it acc env).onRaise (λ x=>do noteFrame x env; theTreesLotGoes x)) _ _ s
 refine wpAny_noted ?_
 rw [compTurn_list]
 refine wpAny_bind (wpAny_standAt (wpAny_bind (up (turn n s hI) (λ r s1 h1=>?_))))
 cases r with
 | none=>exact wpAny_pure h1
 | some v=>
  refine wpAny_bind (up h1 λ _ s1' h1'=>?_)
  refine wpAny_bind (up h1' λ _ s2 h2=>?_)
  simp only [E4,Fg,if_true]
  refine wpAny_bind (wpAny_bind (wpAny_bind (up h2 λ b s3 h3=>wpAny_pure (wpAny_pure ?_))))
  cases b with
  | true=>
   rw [if_pos rfl] at h3
   show wpAny _ _ (if true=true then _ else _) _ _ _
   rw [if_pos rfl]
   exact wpAny_bind (wpAny_bind (up h3 (λ x s4 h4=>wpAny_bind (up h4 (λ _ s5 h5=>wpAny_pure (wpAny_pure ⟨rfl,h5⟩))))))
  | false=>
   rw [if_neg (by decide)] at h3
   show wpAny _ _ (if false=true then _ else _) _ _ _
   rw [if_neg (by decide)]
   exact wpAny_pure ⟨rfl,h3⟩
noncomputable def oy (wi:TI) (g:TG) (tc:TT) (te:TE) (tgs:List Str) (ix:List Nat):TE:=λ σ H Q=>wi σ H λ J H1=>
 ∃ W:Nat->Nat->List V->St->Hp->Prop,(∃ m,W 0 m [] (eE tgs ix σ) H1)/\∀ i m xs σc H,W i m xs σc H->xs.length<sizeLine/\
  ((J.stop i H/\∀ p,H p=none->Q (.ref p) (upd H p (.lst xs)))\/(J.go i H/\∀ x H',J.yld i H x H'->g x σc H' λ σ2 H2=>tc σ2 H2 λ b H3=>if b=true then te σ2 H3 λ y H4=>∃ m',m'<m/\W (i+1) m' (xs++[y]) σ2 H4 else ∃ m',m'<m/\W (i+1) m' xs σ2 H3))
theorem rg {tg cnd:Expr} (c:CompOk X N tgs frs ix scope cl) (hc:X.calm=true) (hi:PI X tg iter wi)
  (hg:∀ fp C s H,PG (aC X N scope cl fp C s H) tg g) (he:∀ fp C s H,PE (aC X N scope cl fp C s H) elt te)
  (hcd:∀ fp C s H,PT (aC X N scope cl fp C s H) cnd tc)
  (hs:∀ x,foldedSetIterable iter X.env x=pure x:=by intro _; rfl) :
  PE X (.ListComp elt [⟨tg,iter,[cnd],0⟩] scope pos) (oy wi g tc te tgs ix):=by
 intro pins s σ H Q I h
 rw [eval_ListComp]
 refine wpAny_comprehension_free (use:=none) rfl hs c.clos c.kind c.names (thn (hi pins s σ H _ I h) λ xv s1 h1=>thn h1 λ itv s2 h2=>?_)
 obtain ⟨it,fp,tn,J,H2,rfl,I2,T,st2,f2,W,⟨m0,w0⟩,turn⟩:=h2
 have hfl:∀ b∈fp,b<s2.heap.objs.size:=λ b hb=>by
  obtain ⟨o,e,_⟩:=T.obj _ _ st2 b hb
  exact BJ e
 have hcn:∀ x a,cl.lookup x=some a->X.env.cells.lookup x=some a:=c.cls.get
 refine wpAny_newObj_type (wpAny_newFunctionEnv c.cell (by intro y hy; simp at hy) (λ h1 hns1 hsb1=>?_) c.kind)
 dsimp only at hns1 hsb1 ⊢
 generalize hH2:s2.heap.push { cls:=.type "list",dict:=none,data:=.seq ([]:List Value).toArray }=G2 at hns1 hsb1 ⊢
 have hC:G2.objs.size=s2.heap.objs.size+1:=by rw [<-hH2,Eh]
 generalize hCC:G2.objs.size=C at *
 generalize hDD:s2.heap.objs.size=D at *
 have hDC:D≠C:=by lia
 have hCle:D<=C:=by lia
 have old:∀ b o,s2.heap.get? b=some o->h1.get? b=some o:=λ b o e=>by
  have lt:b<s2.heap.objs.size:=BJ e
  exact hsb1.extBut b o (B0 (B5 (hDD▸lt) hCle)) (BB _ (hH2▸BB _ e))
 have hacc:h1.get? D=some (aQ [] 0):=hsb1.extBut _ _ hDC (BB _ (hH2▸(hDD▸BU _ rfl)))
 have cellD:∀ x a,X.env.cells.lookup x=some a->a<D:=λ x a e=>by
  obtain ⟨v,q⟩:=I2.cell x a e
  exact hDD▸q.lt
 have fpc:∀ {H':Hp} {us:List Value} {k:Nat},(∀ b∈fp,H' b=none)->∀ b∈fp,nc (aC X N scope cl fp C s2 H2) [(D,aQ us k)] H' b:=λ {H' us k} hn b hb=>by
  have lb:=hfl b hb
  refine ⟨hn b hb,?_,λ z=>?_,.inl hb,λ x a e z=>?_,λ p hp=>?_⟩
  ·exact B0 (B5 lb hCle)
  ·rcases BS.mp (I2.stkSub b z) with e | e
   ·exact (f2 b hb).2.1 e
   ·exact (f2 b hb).2.2.1 e
  ·exact (f2 b hb).2.2.2.2.1 x a (hcn x a e) z
  ·have:p=(D,aQ us k):=by simpa [aC] using hp
   rw [this]; exact Df lb
 have D_fs:D∉(aC X N scope cl fp C s2 H2).fs:=λ z=>by
  rcases BS.mp (I2.stkSub D z) with e | e
  ·exact absurd I2.lt (by rw [<-e,hDD]; exact C3 _)
  ·exact I2.nofs (DT hDD) e
 have I3:=iL (tk:=s2.toks+([]:List (Str×Value)).length) (pins':=[(D,aQ [] 0)]) c I2 f2 (λ b hb=>hDD▸hfl b hb) (hDD▸hCle:s2.heap.objs.size<=C) hns1 old (λ p hp=>by
  have e:p=(D,aQ [] 0):=by simpa using hp
  subst e
  exact ⟨hacc,DT hDD,hDC,λ v z=>by cases z⟩)
 have tn3:tn 0 h1:=T.keep _ _ _ st2 λ b _ o e=>old b o e
 have loop:codeAny (model X.prog X.w) X.A (.compLoop (.ListComp elt [⟨tg,iter,[cnd],0⟩] scope pos) 0 (.ref it) (.ref D) (compEnvC scope cl C X.env))
   (compPost (model X.prog X.w) X.A X.xe none (EP X pins σ Q) (.ref D) C) { s2 with heap:=h1,toks:=s2.toks+([]:List (Str×Value)).length }:=by
  refine iZ (λ n s'=>∃ i xs us k σc H',Inv (aC X N scope cl fp C s2 H2) [(D,aQ us k)] σc H' s'/\tn i s'.heap/\(∀ b∈fp,H' b=none)/\Vals xs us/\W i n xs σc H') ?_ m0
   ⟨0,[],[],0,_,H2,I3,tn3,λ b hb=>(f2 b hb).1,.nil,w0⟩
  rintro n s4 ⟨i,xs,us,k,σ4,H4,I4,tn4,fr4,rv,w4⟩
  obtain ⟨hsz,tt⟩:=turn i n xs σ4 H4 w4
  rcases tt with ⟨stop,fin⟩ | ⟨go,step⟩
  ·refine thn (T.done (aC X N scope cl fp C s2 H2) rfl rfl rfl hc i _ s4 σ4 H4 _ I4 (fpc fr4) tn4 stop) λ r s5 ⟨hr,I5⟩=>?_
   subst hr
   obtain ⟨m,ns,_⟩:=I5.loc
   refine ⟨m,ns,λ h' sb=>?_⟩
   have J1:Inv X pins σ H4 s5:=I2.call' I5.os I5.base I5.hok I5.bare λ b hb=>⟨(f2 b hb).2.2.2.1,(f2 b hb).2.1,(f2 b hb).2.2.2.2.1,(f2 b hb).2.2.2.2.2⟩
   have big:∀ a,D<=a->a≠X.env.locals/\(a∈X.ex\/X.s₀.heap.objs.size<=a)/\(∀ x y,X.env.cells.lookup x=some y->y≠a)/\∀ p∈X.pn++pins,p.1≠a:=λ a ha=>by
    obtain ⟨q0,q1,q2,q3,q4,q5⟩:=I2.fpOk (b:=a) (H':=λ _=>none) (hDD▸ha) rfl
    exact ⟨q1,q3,q4,q5⟩
   obtain ⟨b1,b2,b3,b4⟩:=big C hCle
   have J2:Inv X pins σ H4 { s5 with heap:=h' }:=J1.turned (t':=s5.toks) (λ b o hb e=>sb.extBut b o hb e) I5.free b1 b2 b3 b4
   obtain ⟨p1,p2,p3,p4,p5⟩:=I5.pin (D,aQ us k) (by simp)
   obtain ⟨d1,d2,d3,d4⟩:=big D (BD _)
   have J3:Inv X pins σ (upd H4 D (.lst xs)) { s5 with heap:=h' }:=J2.adopt p2 d1 d2 d3 d4 ⟨DH hsz,us,k,rv,sb.extBut _ _ hDC p1⟩
   exact ⟨.ref D,_,J3,rfl,fin D p2⟩
  ·refine thn (T.item (aC X N scope cl fp C s2 H2) rfl rfl rfl hc i _ s4 σ4 H4 _ I4 (fpc fr4) tn4 go) λ r s5 ⟨u,hr,h5⟩=>?_
   subst hr
   refine thn h5 λ _ s6 ⟨x,H6,I6,r6,y6,tn6,fr6⟩=>?_
   have I6':=I6.pinned (fpc fr6) (T.obj _ _ tn6)
   refine thn (hg fp C s2 H2 _ s6 σ4 H6 x u _ I6' r6 (step x H6 y6)) λ _ s7 ⟨σ7,H7,I7,q7⟩=>?_
   refine thn (hcd fp C s2 H2 _ s7 σ7 H7 _ I7 q7) λ b s7' ⟨H7',I7',q7'⟩=>?_
   cases b with
   | false=>
    rw [if_neg (by decide)] at q7' ⊢
    obtain ⟨m',hm,w8⟩:=q7'
    have tn8:tn (i+1) s7'.heap:=T.keep _ _ _ tn6 λ b hb o e=>(I7'.pin (b,o) (BL _ (BL _ (bc hb e)))).1
    have fr8:∀ b∈fp,H7' b=none:=λ b hb=>by
     obtain ⟨o,e,d⟩:=T.obj _ _ tn6 b hb
     exact (I7'.pin (b,o) (BL _ (BL _ (bc hb e)))).2.1
    exact ⟨m',hm,i+1,xs,us,k,σ7,H7',I7'.unpinned,tn8,fr8,rv,w8⟩
   | true=>
    rw [if_pos rfl] at q7' ⊢
    refine thn (he fp C s2 H2 _ s7' σ7 H7' _ I7' q7') λ yv s8 ⟨y,H8,I8,r8,m',hm,w8⟩=>?_
    obtain ⟨p1,p2,p3,p4,p5⟩:=I8.pin (D,aQ us k) (by simp [aC])
    have hsz':us.toArray.size<=sizeLine:=by simp; rw [<-rv.length]; exact DH hsz
    refine wpAny_list_append_plain (hsz:=hsz') ⟨k,p1⟩ λ h' pl sb=>?_
    have tn8:tn (i+1) s8.heap:=T.keep _ _ _ tn6 λ b hb o e=>(I8.pin (b,o) (BL _ (BL _ (bc hb e)))).1
    have fr8:∀ b∈fp,H8 b=none:=λ b hb=>by
     obtain ⟨o,e,d⟩:=T.obj _ _ tn6 b hb
     exact (I8.pin (b,o) (BL _ (BL _ (bc hb e)))).2.1
    have I9:Inv (aC X N scope cl fp C s2 H2) [] σ7 H8 s8:=I8.pins_of λ p hp=>nomatch hp
    have I10:Inv (aC X N scope cl fp C s2 H2) [] σ7 H8 { s8 with heap:=h' }:=I9.turned (t':=s8.toks) (it:=D) (λ b o hb e=>sb.extBut b o hb e) p2 p3 (.inr (DT hDD))
     (λ x a e=>B0 (cellD x a (hcn x a e))) (λ p hp=>by simp [aC] at hp)
    obtain ⟨k',pl⟩:=pl
    have eu:us.toArray.push yv=(us++[yv]).toArray:=by simp
    rw [eu] at pl
    have I11:Inv (aC X N scope cl fp C s2 H2) [(D,aQ (us++[yv]) k')] σ7 H8 { s8 with heap:=h' }:=I10.pins_of λ p hp=>by
     have e:p=(D,aQ (us++[yv]) k'):=by simpa using hp
     subst e
     exact ⟨pl,p2,p3,p4,λ v z=>by cases z⟩
    exact ⟨m',hm,i+1,xs++[y],us++[yv],k',σ7,H8,I11,T.keep _ _ _ tn8 λ b hb o e=>sb.extBut b o (B0 (hfl b hb)) e,fr8,rv.append (.cons r8 .nil),w8⟩
 exact codeAny_compStart_list loop (T.self _ 0 _ _ _ tn3 loop)
theorem i4 {tg cnd:Expr} (c:CompOk X N tgs frs ix scope cl) (hc:X.calm=true) (hi:QI X tg iter wi)
  (hg:∀ fp C s H,QG (aC X N scope cl fp C s H) tg g) (he:∀ fp C s H,QE (aC X N scope cl fp C s H) elt te) (hcd:∀ fp C s H,QT (aC X N scope cl fp C s H) cnd tc)
  (hs:∀ x,foldedSetIterable iter X.env x=pure x:=by intro _; rfl) :
  QE X (.ListComp elt [⟨tg,iter,[cnd],0⟩] scope pos) (oy wi g tc te tgs ix):=⟨rg c hc hi.out (λ fp C s H=>(hg fp C s H).out) (λ fp C s H=>(he fp C s H).out) (λ fp C s H=>(hcd fp C s H).out) hs⟩
end
section
variable {X:Cx} {e o b:Expr} {to tb te:TE} {t:TA} {pos apos cpos tpos:Pos}
theorem oz {K:BA} (ho:QE X o to) (hbase:attributeBase o ("pop" : Str) X.env (eval o X.env)=eval o X.env:=by rfl) (hline:(apos.endLine == cpos.line)=true:=by rfl) (hK:X.K=K:=by rfl) :
  QE X (.Call (.Attribute o "pop" apos) [] [] cpos) (zp K "list" zr to):=by subst hK; exact ⟨wZ Et PySem.F.slot_list_pop PySem.F.type_list_pop w5 ho.out hbase hline⟩
theorem oA {K:BA} (ho:QE X o to) (ha:QA X [e] t) (hbase:attributeBase o ("extend" : Str) X.env (eval o X.env)=eval o X.env:=by rfl) (hline:(apos.endLine == cpos.line)=true:=by rfl) (hn:cn e=true:=by rfl) (hK:X.K=K:=by rfl) :
  QE X (.Call (.Attribute o "extend" apos) [e] [] cpos) (tBM K "list" kw to t):=by subst hK; exact ⟨nZ Et PySem.F.slot_list_extend PySem.F.type_list_extend nQ ho.out ha.out hbase hline hn⟩
end
section
variable {X:Cx} {N tgs frs:List Str} {ix:List Nat} {scope:Scope} {cl:List (Str×Addr)} {xc:Str}
end
section
variable {X:Cx} {e o b:Expr} {to tb te:TE} {pos tpos:Pos}
noncomputable def xD:R2:=λ x y H Q=>∃ a b xs ys,x=.ref a/\y=.ref b/\H a=some (.tup xs)/\H b=some (.tup ys)/\xs.length+ys.length<=sizeLine/\∀ p H',Same H H'->H' p=some (.tup (xs++ys))->Q (.ref p) H'
theorem oB:QOp X (binaryOp .Add) xD:=by
 refine ⟨λ pins s σ H x y v u Q I rx ry h=>?_⟩
 obtain ⟨a,b,xs,ys,rfl,rfl,ha,hb,hz,q⟩:=h
 by_cases hx:xs=[]
 ·subst hx
  cases rx; cases ry
  obtain ⟨its,r1,p1,_⟩:=I.tuple (Ly ha)
  obtain ⟨its2,r2,p2,_⟩:=I.tuple (Ly hb)
  obtain ⟨⟨c1,d1,t1,l1⟩,o1,o2,n1,o3⟩:=id p1
  obtain ⟨⟨c2,d2,t2,l2⟩,o4,o5,n2,o6⟩:=id p2
  simp only at o2 o3 o5 o6
  subst o2 o3 o5 o6
  have e1:its=[]:=r1.nil_iff.mpr rfl
  refine concat_meets ⟨_,o1,rfl⟩ ⟨_,o4,rfl⟩ noFill_tuple_add seq_tuple_add Fq Fk (Fb _ _)
   (tuple_addW0 a b its.toArray its2.toArray n1 n2 d1 d2 l1 l2 (by simp [e1])) ⟨o1,o4,?_⟩
  exact ⟨.ref b,H,I,rfl,q b H (Same.refl H) hb⟩
 ·exact uy pins s σ H _ _ v u Q I rx ry ⟨a,b,xs,ys,rfl,rfl,Ly ha,Ly hb,hx,hz,λ e=>q a H (Same.refl H) (by rw [e,C9]; exact ha),λ _ p hp=>q p _ ((Same.refl H).new hp) ac⟩
noncomputable def xE (K:BA):R2:=λ x y H Q=>∃ a b xs,x=.ref a/\y=.ref b/\SqL K H a xs/\SqL K H b []/\Q (.bl (!decide (xs=[]))) H
theorem uT {K:BA} (hu:X.A.units<cLine) (hK:X.K=K:=by rfl):QOp X (compareOp .NotEq) (xE K):=by
 subst hK
 refine ⟨λ pins s σ H x y v u Q I rx ry h=>?_⟩
 obtain ⟨a,b,xs,rfl,rfl,ha,hb,q⟩:=h
 cases rx; cases ry
 obtain ⟨its,r1,p1,z1⟩:=I.list ha
 obtain ⟨its2,r2,p2,z2⟩:=I.list hb
 have l1:its.toArray.size=xs.length:=by have:=r1.length; simp; lia
 have l2:its2.toArray.size=0:=by have:=r2.length; simp at this; simp [this]
 by_cases hx:xs=[]
 ·subst hx
  refine K7 (e:=λ _=>true) p1.isList p2.isList (by rw [l1,l2]; rfl) hu (λ j h1 h2=>absurd h2 (by lia)) X.prog X.w X.xe _ ?_
  rw [l1]
  exact ⟨.bl false,H,I,rfl,q⟩
 ·refine JO p1.isList p2.isList (by rw [l1,l2]; have:=E2.mpr hx; simp; exact hx) hu X.prog X.w X.xe _ ?_
  rw [decide_eq_false hx] at q
  exact ⟨.bl true,H,I,rfl,q⟩
noncomputable def xF (K:BA):V->V->Hp->VK->Prop:=λ o i H Q=>∃ a xs k v,o=.ref a/\i=.int k/\SqL K H a xs/\0<=k/\xs[k.toNat]? = some v/\Q v H
theorem rh:Ap X (xF X.K):=by
 intro pins s σ H o i ov iv Q I ro ri h
 obtain ⟨a,xs,k,v,rfl,rfl,hq,h0,hv,q⟩:=h
 cases ro
 obtain ⟨t,rfl⟩:=ri
 obtain ⟨its,r,pl,hz⟩:=I.list hq
 obtain ⟨w,ew,rw'⟩:=r.get hv
 have hl:=dk hv
 have hn:=gu
 exact wpAny_getItem_list pl.isList h0 (by lia) (by simpa using ew) ⟨v,H,I,rw',q⟩
theorem lF {K:BA} (ho:QE X o to) (hi:QE X b tb) (he:QE X e te) (ha:∀ ov iv new,augStore b ov iv new=(do holding [new,ov,iv] (setItem ov iv new); release [new,ov,iv] []; pure .next):=by intros; rfl) (hK:X.K=K:=by rfl) :
  QS X (.AugAssign (.Subscript o b tpos) .Add e pos) (uc to tb te (xF K) (ipI λ i j=>i+j) nO):=by subst hK; exact ⟨ud ho.out hi.out rh he.out wF ln ha⟩
end
section
variable {K:BA} {σ:St} {H:Hp} {Q:VK} {D:Ends}
theorem zV {ti:TE} {tget:V->V->Hp->VK->Prop} {tip:TIp} {tset:t7} (h:to σ H λ o H1=>ti σ H1 λ i H2=>tget o i H2 λ x H3=>te σ H3 λ y H4=>tip x y H4 λ z H5=>tset o i z H5 λ H6=>D.nx σ H6):uc to ti te tget tip tset D σ H:=h
theorem AU {r:V->List V->Hp->VK->Prop} {T:String} (h:to σ H λ x H1=>tyV K T x H1/\r x [] H1 Q):zp K T r to σ H Q:=h
theorem yJ {tgs:List Str} {ix:List Nat} (h:wi σ H λ J H1=>
 ∃ W:Nat->Nat->List V->St->Hp->Prop,(∃ m,W 0 m [] (eE tgs ix σ) H1)/\∀ i m xs σc H,W i m xs σc H->xs.length<sizeLine/\
  ((J.stop i H/\∀ p,H p=none->Q (.ref p) (upd H p (.lst xs)))\/(J.go i H/\∀ x H',J.yld i H x H'->g x σc H' λ σ2 H2=>tc σ2 H2 λ b H3=>if b=true then te σ2 H3 λ y H4=>∃ m',m'<m/\W (i+1) m' (xs++[y]) σ2 H4 else ∃ m',m'<m/\W (i+1) m' xs σ2 H3))):oy wi g tc te tgs ix σ H Q:=h
theorem jG {σ0:St} {R:List V->Hp->Prop} {vs:List V} (Pv:Nat->List V->St->Hp->Prop) (hz:vs.length<sizeLine) (hl:∀ i ys σ H,Pv i ys σ H->ys.length<=i) (ht:∀ i ys σ H,Pv i ys σ H->SqL K H a vs) (h0:Pv 0 [] σ0 H)
  (hs:∀ i ys σ H x,vs[i]? = some x->Pv i ys σ H->g x σ H λ σ2 H2=>tc σ2 H2 λ b H3=>if b=true then te σ2 H3 λ y H4=>Nx vs.length i (Pv (i+1) (ys++[y]) σ2 H4) else Nx vs.length i (Pv (i+1) ys σ2 H3)) (hd:∀ ys σ H,Pv vs.length ys σ H->R ys H) :
  ∃ W:Nat->Nat->List V->St->Hp->Prop,(∃ m,W 0 m [] σ0 H)/\∀ i m xs σc H,W i m xs σc H->xs.length<sizeLine/\
  (((Itl K a).stop i H/\R xs H)\/((Itl K a).go i H/\∀ x H',(Itl K a).yld i H x H'->g x σc H' λ σ2 H2=>tc σ2 H2 λ b H3=>if b=true then te σ2 H3 λ y H4=>∃ m',m'<m/\W (i+1) m' (xs++[y]) σ2 H4 else ∃ m',m'<m/\W (i+1) m' xs σ2 H3)):=by
 refine ⟨λ i m xs σ H=>m=vs.length - i/\i<=vs.length/\Pv i xs σ H,⟨vs.length,by simp,Ca _,h0⟩,?_⟩
 rintro i m xs σ H ⟨rfl,hi,p⟩
 have q:=ht i xs σ H p
 refine ⟨Dw (CM (hl i xs σ H p) hi) hz,?_⟩
 by_cases hlt:i<vs.length
 ·refine .inr ⟨⟨vs,vs[i],q,by simp [hlt]⟩,λ x H' y=>?_⟩
  obtain ⟨e,y⟩:=y
  subst e
  exact hs i xs σ _ x (y vs q) p
 ·have e:i=vs.length:=by lia
  subst e
  exact .inl ⟨⟨vs,q,BD _⟩,hd xs σ H p⟩
end
noncomputable def cnt (os:List Nat) (b:Nat):List Nat:=(BC b).map λ f=>os.count f
theorem aT (os:List Nat) (b:Nat):(cnt os b).length=b:=by simp [cnt]
theorem cA {os:List Nat} (h:f<b):(cnt os b)[f]? = some (os.count f):=by
 unfold cnt
 rw [BI,De h]; rfl
theorem rj {os:List Nat} {x:Nat} (h:x<b):(cnt os b).set x (os.count x+1)=cnt (os++[x]) b:=by
 apply EJ
 intro i
 rw [GB]
 by_cases hi:i<b
 ·rw [cA hi,cA hi,DV,aT]
  by_cases e:x=i
  ·subst e; rw [if_pos rfl,if_pos h]; simp
  ·rw [if_neg e]
   have:Jr i [x]=0:=Di.mpr (by simp; exact λ z=>e z.symm)
   rw [this,En]
 ·rw [CB (l:=cnt os b) (by rw [aT]; lia),CB (l:=cnt (os++[x]) b) (by rw [aT]; lia)]
  split
  ·split
   ·rename_i h1 h2; rw [aT] at h2; lia
   ·rfl
  ·rfl
noncomputable def aW (rss:List (List Nat)) (c:Nat):List Nat:=rss.map λ r=>r.getD c 0
theorem gG (os:List Nat) (w:Nat) (h:w<=os.length):ki (NV os) none (some (w:Int))=NV (os.take w):=by
 unfold ki
 rw [HT.fh,HT.eD,aF,E5 h,C2,GO]
 unfold NV
 rw [Fw]
theorem oD (os:List Nat) (w:Nat) (h:w<=os.length):ki (NV os) (some (w:Int)) none=NV (os.drop w):=by
 unfold ki
 rw [HT.fh,HT.eD,aF,E5 h,BF (by rw [Cr,aF]; exact BD _)]
 unfold NV
 rw [Fx]
section
variable {X:Cx} {tg a b c:Expr} {t:TA} {p pos:Pos}
end
section
variable {prog:Program} {w:World} {A:Around} {E:Value->Shared->Prop} {s:Shared}
theorem oE {TI TO l1 l2:Addr} {xs ys:Array Value} {x y a b:Value} (D:ZipApart z TI TO i1 i2 l1 l2)
  (g0:IsZip s.heap z TI TO .none) (g1:IsPair s.heap TI (.ref i1) (.ref i2)) (g2:IsPair s.heap TO a b) (g3:s.heap.IsTupleIter i1 l1 k) (g4:s.heap.IsTupleIter i2 l2 k) (g5:s.heap.IsTuple l1 xs) (g6:s.heap.IsTuple l2 ys) (g7:xs[k]? = some x) (g8:ys[k]? = some y)
  (hQ:∀ g,IsZip g z TI TO (rawInt s.heap.objs.size)->IsPair g TO x y->g.IsTupleIter i1 l1 (k+1)->g.IsTupleIter i2 l2 (k+1)->IsPair g s.heap.objs.size x y->(∀ c o,c≠z->c≠TO->c≠i1->c≠i2->s.heap.get? c=some o->g.get? c=some o)->Q (.ref s.heap.objs.size) { s with heap:=g }) :
  wpAny (model prog w) A (Builtin.«zip.__next__» ⟨[.ref z],[]⟩) (λ fin s'=>∃ v,fin=.done (.ret v)/\Q v s') E s:=by
 show wpAny _ _ (EG (.ref z) 2 >>= _) _ _ _
 refine wpAny_bind (wpAny_field g0 rfl (x:=.bool false) rfl ?_)
 show wpAny _ _ (EG (.ref z) 3 >>= _) _ _ _
 refine wpAny_bind (wpAny_field g0 rfl (x:=.ref TI) rfl ?_)
 refine wpAny_bind (wpAny_seqItems g1 rfl ?_)
 show wpAny _ _ (DB (Cp z) >>= _) _ _ _
 refine wpAny_bind ?_
 unfold DB
 refine wpAny_bind (wpAny_field g0 rfl (x:=.none) rfl (wpAny_pure ?_))
 simp only [if_true]
 refine wpAny_bind (wpAny_rule ?_)
 refine wpAny_bind (wpAny_field g0 rfl (x:=.ref TO) rfl ?_)
 refine wpAny_bind (wpAny_setField_rec g0 (by simp) λ a1 b1 c1=>?_)
 have b1:IsZip a1 z TI TO .ellipsis:=b1
 refine wpAny_bind ?_
 simp only [GP,Js,E4,Fg]
 refine wpAny_bind (wpAny_bind (wpAny_onRaise ?_))
 show wpAny _ _ (Dd (Cp i1) >>= _) _ _ _
 refine wpAny_bind (il (g3.extBut c1.extBut D.i1z) (g5.extBut c1.extBut D.l1z) g7 λ a2 b2 c2=>wpAny_pure ?_)
 have d2:IsPair a2 TO a b:=c2.extBut _ _ D.TOi1 (c1.extBut _ _ D.TOz g2)
 refine wpAny_bind (wpAny_seqItems d2 rfl ?_)
 refine wpAny_bind (wpAny_updateSeq_pair d2 λ a3 b3 c3=>?_)
 have b3:IsPair a3 TO x b:=b3
 refine wpAny_bind (wpAny_letGo (wpAny_pure ?_))
 refine wpAny_bind (wpAny_bind (wpAny_onRaise ?_))
 show wpAny _ _ (Dd (Cp i2) >>= _) _ _ _
 refine wpAny_bind (il (((g4.extBut c1.extBut D.i2z).extBut c2.extBut D.i12.symm).extBut c3.extBut D.TOi2.symm) (((g6.extBut c1.extBut D.l2z).extBut c2.extBut D.l2i1).extBut c3.extBut D.l2TO) g8 λ a4 b4 c4=>wpAny_pure ?_)
 have d4:IsPair a4 TO x b:=c4.extBut _ _ D.TOi2 b3
 refine wpAny_bind (wpAny_seqItems d4 rfl ?_)
 refine wpAny_bind (wpAny_updateSeq_pair d4 λ a5 b5 c5=>?_)
 have b5:IsPair a5 TO x y:=b5
 refine wpAny_bind (wpAny_letGo (wpAny_pure (wpAny_pure ?_)))
 refine wpAny_bind (wpAny_seqItems b5 rfl ?_)
 refine wpAny_bind (wpAny_newTuple ?_)
 have sz:a5.objs.size=s.heap.objs.size:=by rw [c5.1,c4.1,c3.1,c2.1,c1.1]
 have z5:IsZip a5 z TI TO .ellipsis:=c5.extBut _ _ D.TOz.symm (c4.extBut _ _ D.i2z.symm (c3.extBut _ _ D.TOz.symm (c2.extBut _ _ D.i1z.symm b1)))
 have k5:∀ c o,c≠z->c≠TO->c≠i1->c≠i2->s.heap.get? c=some o->a5.get? c=some o:=λ c o n1 n2 n3 n4 e=>c5.extBut _ _ n2 (c4.extBut _ _ n4 (c3.extBut _ _ n2 (c2.extBut _ _ n3 (c1.extBut _ _ n1 e))))
 have p5:a5.IsTupleIter i1 l1 (k+1):=((b2.extBut c3.extBut D.TOi1.symm).extBut c4.extBut D.i12).extBut c5.extBut D.TOi1.symm
 have q5:a5.IsTupleIter i2 l2 (k+1):=b4.extBut c5.extBut D.TOi2.symm
 have zl:z<a5.objs.size:=BJ z5
 show wpAny _ _ (Fc (Cp z) (.ref a5.objs.size) >>= _) _ _ _
 refine wpAny_bind ?_
 unfold Fc
 have z6:IsZip (a5.push { cls:=.type "tuple",data:=.seq #[x,y] }) z TI TO .ellipsis:=BB _ z5
 refine wpAny_bind (wpAny_setField_rec z6 (by simp) λ a7 b7 c7=>?_)
 have b7:IsZip a7 z TI TO (rawInt a5.objs.size):=b7
 refine wpAny_setField_rec b7 (by simp) λ a8 b8 c8=>?_
 have b8:IsZip a8 z TI TO (rawInt a5.objs.size):=b8
 have up:∀ c o,c≠z->a5.get? c=some o->a8.get? c=some o:=λ c o n e=>c8.extBut _ _ n (c7.extBut _ _ n (BB _ e))
 have t8:IsPair a8 a5.objs.size x y:=c8.extBut _ _ (Df zl) (c7.extBut _ _ (Df zl) (BU _ rfl))
 rw [sz] at b8 t8
 refine wpAny_pure ⟨_,rfl,?_⟩
 show Q (.ref a5.objs.size) _
 rw [sz]
 have r1:a8.IsTupleIter i1 l1 (k+1):=by obtain ⟨o,e,r⟩:=p5; exact ⟨o,up _ _ D.i1z e,r⟩
 have r2:a8.IsTupleIter i2 l2 (k+1):=by obtain ⟨o,e,r⟩:=q5; exact ⟨o,up _ _ D.i2z e,r⟩
 exact hQ a8 b8 (up _ _ D.TOz b5) r1 r2 t8 λ c o n1 n2 n3 n4 e=>up c o n1 (k5 c o n1 n2 n3 n4 e)
theorem rk {TI TO l1 l2:Addr} {xs:Array Value} {Q:Fin->Shared->Prop} (hh:A.handled=none) (D:ZipApart z TI TO i1 i2 l1 l2)
  (g0:IsZip s.heap z TI TO .none) (g1:IsPair s.heap TI (.ref i1) (.ref i2)) (g3:s.heap.IsTupleIter i1 l1 k) (g5:s.heap.IsTuple l1 xs) (g7:xs[k]? = none)
  (hE:∀ g e,(∀ c o,c≠z->c≠i1->s.heap.get? c=some o->g.get? c=some o)->(∃ o,g.get? e=some o/\o.cls=.type "StopIteration")->E (.ref e) { s with heap:=g }) :
  wpAny (model prog w) A (Builtin.«zip.__next__» ⟨[.ref z],[]⟩) Q E s:=by
 show wpAny _ _ (EG (.ref z) 2 >>= _) _ _ _
 refine wpAny_bind (wpAny_field g0 rfl (x:=.bool false) rfl ?_)
 show wpAny _ _ (EG (.ref z) 3 >>= _) _ _ _
 refine wpAny_bind (wpAny_field g0 rfl (x:=.ref TI) rfl ?_)
 refine wpAny_bind (wpAny_seqItems g1 rfl ?_)
 show wpAny _ _ (DB (Cp z) >>= _) _ _ _
 refine wpAny_bind ?_
 unfold DB
 refine wpAny_bind (wpAny_field g0 rfl (x:=.none) rfl (wpAny_pure ?_))
 simp only [if_true]
 refine wpAny_bind (wpAny_rule ?_)
 refine wpAny_bind (wpAny_field g0 rfl (x:=.ref TO) rfl ?_)
 refine wpAny_bind (wpAny_setField_rec g0 (by simp) λ a1 b1 c1=>?_)
 have b1:IsZip a1 z TI TO .ellipsis:=b1
 refine wpAny_bind ?_
 simp only [GP,Js,E4,Fg]
 refine wpAny_bind (wpAny_bind (wpAny_onRaise ?_))
 show wpAny _ _ (Dd (Cp i1) >>= _) _ _ _
 refine wpAny_bind (oi hh (g3.extBut c1.extBut D.i1z) (g5.extBut c1.extBut D.l1z) g7 λ a2 e c2 he=>?_)
 obtain ⟨oe,e1,e2⟩:=he
 have z2:IsZip a2 z TI TO .ellipsis:=c2 _ _ D.i1z.symm b1
 have ez:e≠z:=λ q=>by
  subst q
  rw [z2] at e1
  cases e1
  simp at e2
 exact wpAny_setField_rec z2 (by simp) λ a3 _ c3=>hE a3 e (λ c o n1 n3 q=>c3.extBut _ _ n1 (c2 _ _ n3 (c1.extBut _ _ n1 q))) ⟨oe,c3.extBut _ _ ez e1,e2⟩
theorem kE {TI TO l1 l2:Addr} {xs ys:Array Value} {x y a b:Value} {Q:Option Value->Shared->Prop} (D:ZipApart z TI TO i1 i2 l1 l2)
  (g0:IsZip s.heap z TI TO .none) (g1:IsPair s.heap TI (.ref i1) (.ref i2)) (g2:IsPair s.heap TO a b) (g3:s.heap.IsTupleIter i1 l1 k) (g4:s.heap.IsTupleIter i2 l2 k) (g5:s.heap.IsTuple l1 xs) (g6:s.heap.IsTuple l2 ys) (g7:xs[k]? = some x) (g8:ys[k]? = some y)
  (hQ:∀ g,IsZip g z TI TO (rawInt s.heap.objs.size)->IsPair g TO x y->g.IsTupleIter i1 l1 (k+1)->g.IsTupleIter i2 l2 (k+1)->IsPair g s.heap.objs.size x y->(∀ c o,c≠z->c≠TO->c≠i1->c≠i2->s.heap.get? c=some o->g.get? c=some o)->Q (some (.ref s.heap.objs.size)) { s with heap:=g }) :
  wpAny (model prog w) A (pyNext (.ref z)) Q E s:=by
 have ty:s.TypeIs (.ref z) "zip":=⟨_,g0,rfl⟩
 unfold pyNext
 exact wpAny_bind (wpAny_attempt (wpAny_callSpecial?_slot (name:=DR "__next__") ty FK (wpAny_call_entry FK ty Jc (oE D g0 g1 g2 g3 g4 g5 g6 g7 g8 λ g a1 a2 a3 a4 a5 a6=>wpAny_pure (hQ g a1 a2 a3 a4 a5 a6)) (IL _))))
theorem mS {TI TO l1 l2:Addr} {xs:Array Value} {Q:Option Value->Shared->Prop} (hh:A.handled=none) (D:ZipApart z TI TO i1 i2 l1 l2)
  (g0:IsZip s.heap z TI TO .none) (g1:IsPair s.heap TI (.ref i1) (.ref i2)) (g3:s.heap.IsTupleIter i1 l1 k) (g5:s.heap.IsTuple l1 xs) (g7:xs[k]? = none)
  (hQ:∀ g,(∀ c o,c≠z->c≠i1->s.heap.get? c=some o->g.get? c=some o)->Q none { s with heap:=g }):wpAny (model prog w) A (pyNext (.ref z)) Q E s:=by
 have ty:s.TypeIs (.ref z) "zip":=⟨_,g0,rfl⟩
 unfold pyNext
 refine wpAny_bind (wpAny_attempt (wpAny_callSpecial?_slot (name:=DR "__next__") ty FK (wpAny_call_entry FK ty Jc (rk hh D g0 g1 g3 g5 g7 λ g e kk he=>?_) (IL _))))
 obtain ⟨o,e1,e2⟩:=he
 refine wpAny_bind (wpAny_isInstance (T:="StopIteration") (b:=true) ⟨o,e1,e2⟩ isSubtype_stop ?_)
 exact wpAny_pure (hQ _ kk)
noncomputable abbrev zt1 (h:Heap) (l:Addr):Heap:=h.push { cls:=.type "tuple_iterator",data:=.fields #[.ref l,.int 0 0] }
noncomputable abbrev zt2 (h:Heap) (l m:Addr):Heap:=zt1 (zt1 h l) m
noncomputable abbrev zt3 (h:Heap) (l m:Addr):Heap:=(zt2 h l m).push { cls:=.type "tuple",data:=.seq #[.ref h.objs.size,.ref (zt1 h l).objs.size] }
noncomputable abbrev zt4 (h:Heap) (l m:Addr):Heap:=(zt3 h l m).push { cls:=.type "tuple",data:=.seq #[.none,.none] }
noncomputable abbrev zt5 (h:Heap) (l m:Addr):Heap:=(zt4 h l m).push { cls:=.type "zip",data:=.fields #[.none,.bool false,.bool false,.ref (zt2 h l m).objs.size,.ref (zt3 h l m).objs.size] }
theorem uU (l m:Addr) (xs ys:Array Value):Meets (Builtin.«zip.__new__» ⟨[.type "zip",.ref l,.ref m],[]⟩) (λ _ R s=>s.heap.IsTuple l xs/\s.heap.IsTuple m ys/\R (.ok (.ret (.ref (zt4 s.heap l m).objs.size))) { s with heap:=zt5 s.heap l m }):=
 .of_wp λ prog w A R s h=>by
  obtain ⟨q1,q2,q3,q4,q5⟩:=s
  obtain ⟨a1,a2,h⟩:=h
  have sub:=sub_zip
  have e1:Kw (KN ⟨q1,q2,q3,q4,q5⟩) l xs:=a1
  have e2:Kw (KN ⟨zt1 q1 l,q2,q3,q4,q5⟩) m ys:=Le a2 _
  wp_walk using wpAny_pyIter_tuple e1,wpAny_pyIter_tuple e2
  exact ⟨_,rfl,h⟩
theorem rl {m:Addr} {xs ys:Array Value} (a1:s.heap.IsTuple l xs) (a2:s.heap.IsTuple m ys)
  (h:∀ g,IsZip g (s.heap.objs.size+4) (s.heap.objs.size+2) (s.heap.objs.size+3) .none->IsPair g (s.heap.objs.size+2) (.ref s.heap.objs.size) (.ref (s.heap.objs.size+1))->IsPair g (s.heap.objs.size+3) .none .none->g.IsTupleIter s.heap.objs.size l 0->g.IsTupleIter (s.heap.objs.size+1) m 0->
   (∀ c o,s.heap.get? c=some o->g.get? c=some o)->Q (.ref (s.heap.objs.size+4)) { s with heap:=g }):wpAny (model prog w) A (call (.type "zip") [.ref l,.ref m]) Q E s:=by
 refine callType_new F.called_zip (by decide) (F.typeCall_zip_2 _ _) (F.newCall_zip_2 _ _) (λ obj=>F.args_object_init_3 obj _ _) F.entry_zip_new (uU l m xs ys) ⟨a1,a2,?_⟩
 have w1:(zt1 s.heap l).objs.size=s.heap.objs.size+1:=Eh ..
 have w2:(zt2 s.heap l m).objs.size=s.heap.objs.size+2:=by rw [Eh,w1]
 have w3:(zt3 s.heap l m).objs.size=s.heap.objs.size+3:=by rw [Eh,w2]
 have w4:(zt4 s.heap l m).objs.size=s.heap.objs.size+4:=by rw [Eh,w3]
 have r5:(zt5 s.heap l m).get? (zt4 s.heap l m).objs.size=some { cls:=.type "zip",data:=.fields #[.none,.bool false,.bool false,.ref (zt2 s.heap l m).objs.size,.ref (zt3 s.heap l m).objs.size] }:=BU _ rfl
 have r4:(zt5 s.heap l m).get? (zt3 s.heap l m).objs.size=some { cls:=.type "tuple",data:=.seq #[.none,.none] }:=BB _ (BU _ rfl)
 have r3:(zt5 s.heap l m).get? (zt2 s.heap l m).objs.size=some { cls:=.type "tuple",data:=.seq #[.ref s.heap.objs.size,.ref (zt1 s.heap l).objs.size] }:=BB _ (BB _ (BU _ rfl))
 have r2:(zt5 s.heap l m).get? (zt1 s.heap l).objs.size=some { cls:=.type "tuple_iterator",data:=.fields #[.ref m,.int 0 0] }:=BB _ (BB _ (BB _ (BU _ rfl)))
 have r1:(zt5 s.heap l m).get? s.heap.objs.size=some { cls:=.type "tuple_iterator",data:=.fields #[.ref l,.int 0 0] }:=BB _ (BB _ (BB _ (BB _ (BU _ rfl))))
 rw [w2,w3,w4] at r5
 rw [w1,w2] at r3
 rw [w3] at r4
 rw [w1] at r2
 show _/\_
 rw [w4]
 exact ⟨⟨_,r5,rfl⟩,h _ r5 r3 r4 ⟨_,r1,rfl,rfl⟩ ⟨_,r2,rfl,rfl⟩ λ c o q=>BB _ (BB _ (BB _ (BB _ (BB _ q))))⟩
end
noncomputable def zW (K:BA) (a b:Addr):It:=
 ⟨λ i H=>∃ xs ys x y,SqT K H a xs/\SqT K H b ys/\xs[i]? = some x/\ys[i]? = some y,λ i H v H'=>∃ p x y,v=.ref p/\H p=none/\H'=upd H p (.tup [x,y])/\(∀ xs,SqT K H a xs->xs[i]? = some x)/\∀ ys,SqT K H b ys->ys[i]? = some y,λ i H=>∃ xs,SqT K H a xs/\xs.length<=i⟩
theorem oF {w:World} {K:BA} {elts:List Expr} (a b z TI TO i1 i2:Addr) (D:ZipApart z TI TO i1 i2 a b) :
  Turn P w K (.Tuple elts k pos) (zW K a b) [z,TI,TO,i1,i2] z (λ i h=>IsZip h z TI TO .none/\IsPair h TI (.ref i1) (.ref i2)/\(∃ u v,IsPair h TO u v)/\h.IsTupleIter i1 a i/\h.IsTupleIter i2 b i) where
 mem:=by simp
 obj:=λ i h st c hb=>by
  obtain ⟨q1,q2,⟨u,v,q3⟩,⟨o4,q4,_,d4⟩,⟨o5,q5,_,d5⟩⟩:=st
  simp only [BS,CD,or_false] at hb
  rcases hb with rfl | rfl | rfl | rfl | rfl
  ·exact ⟨_,q1,λ v z=>by cases z⟩
  ·exact ⟨_,q2,λ v z=>by cases z⟩
  ·exact ⟨_,q3,λ v z=>by cases z⟩
  ·exact ⟨o4,q4,λ v z=>by rw [d4] at z; cases z⟩
  ·exact ⟨o5,q5,λ v z=>by rw [d5] at z; cases z⟩
 keep:=λ i h h' st kk=>by
  obtain ⟨q1,q2,⟨u,v,q3⟩,⟨o4,q4,r4⟩,⟨o5,q5,r5⟩⟩:=st
  exact ⟨kk z (by simp) _ q1,kk TI (by simp) _ q2,⟨u,v,kk TO (by simp) _ q3⟩,⟨o4,kk i1 (by simp) _ q4,r4⟩,⟨o5,kk i2 (by simp) _ q5,r5⟩⟩
 item:=by
  intro X hP hw hK hc i pins s σ H E I hf st hg
  subst hP hw hK
  obtain ⟨xs,ys,x,y,hqx,hqy,hx,hy⟩:=hg
  obtain ⟨its,rv,p,hz⟩:=I.tuple hqx
  obtain ⟨jts,rw',p',hz'⟩:=I.tuple hqy
  have p:s.heap.IsTuple a its.toArray:=p
  have p':s.heap.IsTuple b jts.toArray:=p'
  obtain ⟨u,hu,ru⟩:=rv.get hx
  obtain ⟨v,hv,rv'⟩:=rw'.get hy
  obtain ⟨q1,q2,⟨u3,v3,q3⟩,q4,q5⟩:=st
  have l1:=BJ q1
  have l2:=BJ q2
  have l3:=BJ q3
  have l4:i1<s.heap.objs.size:=by obtain ⟨o,g,_⟩:=q4; exact BJ g
  have l5:i2<s.heap.objs.size:=by obtain ⟨o,g,_⟩:=q5; exact BJ g
  refine kE D q1 q2 q3 q4 q5 p p' (x:=u) (y:=v) (by simpa using hu) (by simpa using hv) λ h' a1 a2 a3 a4 a5 a7=>⟨_,rfl,wpAny_letOwnedTupleGo_zip a1 λ g hz2 sb=>?_⟩
  obtain ⟨I2,hn⟩:=I.pair (g:=g) (tk:=s.toks) (ch:=[z,TO,i1,i2]) (x:=x) (y:=y) (λ c o hb r=>(sb.2 c (λ e=>hb (by simp [e]))).trans (a7 c o (λ e=>hb (by simp [e])) (λ e=>hb (by simp [e])) (λ e=>hb (by simp [e])) (λ e=>hb (by simp [e])) r)) (λ c hb=>hf c (by simp at hb; rcases hb with e | e | e | e<;>simp [e])) ((sb.2 _ (Df l1)).trans a5) ru rv'
  have r3:g.IsTupleIter i1 a (i+1):=by obtain ⟨o,e,r⟩:=a3; exact ⟨o,(sb.2 i1 D.i1z).trans e,r⟩
  have r4:g.IsTupleIter i2 b (i+1):=by obtain ⟨o,e,r⟩:=a4; exact ⟨o,(sb.2 i2 D.i2z).trans e,r⟩
  refine ⟨.ref s.heap.objs.size,_,I2,rfl,⟨_,x,y,rfl,hn,rfl,λ zs h=>by rw [I.tuple_inj h hqx]; exact hx,λ zs h=>by rw [I.tuple_inj h hqy]; exact hy⟩,⟨hz2,?_,⟨_,_,(sb.2 _ D.TOz).trans a2⟩,r3,r4⟩,λ c hb=>?_⟩
  ·exact (sb.2 _ D.TIz).trans (a7 TI _ D.TIz D.TITO D.TIi1 D.TIi2 q2)
  ·have hc0:=(hf c hb).1
   simp only [BS,CD,or_false] at hb
   have:c<s.heap.objs.size:=by rcases hb with rfl | rfl | rfl | rfl | rfl<;>assumption
   rw [aq (B0 this)]; exact hc0
 done:=by
  intro X hP hw hK hc i pins s σ H E I hf st hg
  subst hP hw hK
  obtain ⟨xs,hqx,hx⟩:=hg
  obtain ⟨its,rv,p,hz⟩:=I.tuple hqx
  have m1:=rv.length
  obtain ⟨q1,q2,_,q4,_⟩:=st
  exact mS (I.ok.hd hc) D q1 q2 q4 (show s.heap.IsTuple a its.toArray from p) (by simp; lia) λ h' kk=>⟨rfl,I.turnedAll (t':=s.toks) (ch:=[z,i1]) (λ c o hb r=>kk c o (λ e=>hb (by simp [e])) (λ e=>hb (by simp [e])) r) (λ c hb=>hf c (by simp at hb; rcases hb with e | e<;>simp [e]))⟩
 self:=λ _ _ _ _ _ st h=>wpAny_pyIter_zip st.1 h
section
variable {X:Cx} {a b:Expr} {t:TA} {p pos tpos:Pos} {ts:List Expr} {k:Nat}
noncomputable def xG (K:BA) (t:TA):TI:=λ σ H R=>t σ H λ vs H1=>∃ a b,vs=[.ref a,.ref b]/\(∃ xs,SqT K H1 a xs)/\(∃ ys,SqT K H1 b ys)/\R (zW K a b) H1
theorem uV {K:BA} (hg:Gl X "zip") (hm:X.mg "zip" = none) (ha:QA X [a,b] t) (hn:cn a=true:=by rfl) (hn2:cn b=true:=by rfl) (hK:X.K=K:=by rfl):QI X (.Tuple ts k tpos) (.Call (.Name "zip" p) [a,b] [] pos) (xG K t):=by
 subst hK
 refine ⟨λ pins s σ H R I h=>?_⟩
 have e2:starEach [b] X.env=[(false,eval b X.env)]:=aH hn2
 refine Call_ (dv I hg hm (by decide +kernel:bootBuiltins "zip" = some (.type "zip")) (C0 (thn (ha.out pos pins s σ H _ I h) λ us s1 ⟨vs,H1,I1,r1,q1⟩=>?_) (aH hn) (by rw [e2]; rfl)))
 obtain ⟨l,m,e,⟨xs,hq⟩,⟨ys,hq'⟩,q⟩:=q1
 subst e
 cases r1 with
 | cons r rr=>
  cases rr with
  | cons r' rr=>
   cases rr
   cases r; cases r'
   obtain ⟨its,rv,pl,hz⟩:=I1.tuple hq
   obtain ⟨jts,rw',pl',hz'⟩:=I1.tuple hq'
   have pl:s1.heap.IsTuple l its.toArray:=pl
   have pl':s1.heap.IsTuple m jts.toArray:=pl'
   have a1:l<s1.heap.objs.size:=by obtain ⟨o,g,_⟩:=pl; exact BJ g
   have a2:m<s1.heap.objs.size:=by obtain ⟨o,g,_⟩:=pl'; exact BJ g
   refine rl pl pl' λ g h1 h2 h3 h4 h5 h7=>wpAny_pyIter_zip h1 ?_
   have I2:Inv X pins σ H1 { s1 with heap:=g }:=I1.kept (t':=s1.toks) h7
   refine ⟨_,_,_,_,H1,rfl,I2,oF l m _ _ _ _ _ (zipApart_new a1 a2),⟨h1,h2,⟨_,_,h3⟩,h4,h5⟩,λ c hc=>?_,q⟩
   have hle:s1.heap.objs.size<=c:=by
    simp only [BS,CD,or_false] at hc
    rcases hc with rfl | rfl | rfl | rfl | rfl
    ·exact Dv _ _
    ·exact Dv _ _
    ·exact Dv _ _
    ·exact BD _
    ·exact Dv _ _
   exact I1.fpOk hle (I1.hok.fresh hle)
end
theorem zX {K:BA} {H:Hp} {t:TA} {R:It->Hp->Prop} (h:t σ H λ vs H1=>∃ a b,vs=[.ref a,.ref b]/\(∃ xs,SqT K H1 a xs)/\(∃ ys,SqT K H1 b ys)/\R (zW K a b) H1):xG K t σ H R:=h
section
variable {X:Cx} {N tgs frs:List Str} {ix:List Nat} {scope:Scope} {cl:List (Str×Addr)}
end
section
variable {X:Cx} {N tgs frs:List Str} {ix:List Nat} {scope:Scope} {cl:List (Str×Addr)} {xc:Str}
end
section
variable {X:Cx} {e o:Expr} {to te:TE} {t:TA} {pos apos cpos:Pos}
end
section
variable {K:BA} {σ:St} {H:Hp} {Q:VK} {g:TG} {tc:TT} {te:TE}
theorem oG {g:TG} {tc:TT} {te:TE} {σ0:St} {R:List V->Hp->Prop} {vs:List V} (Pv:Nat->List V->St->Hp->Prop) (hz:vs.length<sizeLine) (hl:∀ i ys σ H,Pv i ys σ H->ys.length<=i) (ht:∀ i ys σ H,Pv i ys σ H->SqT K H a vs) (h0:Pv 0 [] σ0 H)
  (hs:∀ i ys σ H x,vs[i]? = some x->Pv i ys σ H->g x σ H λ σ2 H2=>tc σ2 H2 λ b H3=>if b=true then te σ2 H3 λ y H4=>Nx vs.length i (Pv (i+1) (ys++[y]) σ2 H4) else Nx vs.length i (Pv (i+1) ys σ2 H3)) (hd:∀ ys σ H,Pv vs.length ys σ H->R ys H) :
  ∃ W:Nat->Nat->List V->St->Hp->Prop,(∃ m,W 0 m [] σ0 H)/\∀ i m xs σc H,W i m xs σc H->xs.length<sizeLine/\
  (((Itt K a).stop i H/\R xs H)\/((Itt K a).go i H/\∀ x H',(Itt K a).yld i H x H'->g x σc H' λ σ2 H2=>tc σ2 H2 λ b H3=>if b=true then te σ2 H3 λ y H4=>∃ m',m'<m/\W (i+1) m' (xs++[y]) σ2 H4 else ∃ m',m'<m/\W (i+1) m' xs σ2 H3)):=by
 refine ⟨λ i m xs σ H=>m=vs.length - i/\i<=vs.length/\Pv i xs σ H,⟨vs.length,by simp,Ca _,h0⟩,?_⟩
 rintro i m xs σ H ⟨rfl,hi,p⟩
 have q:=ht i xs σ H p
 refine ⟨Dw (CM (hl i xs σ H p) hi) hz,?_⟩
 by_cases hlt:i<vs.length
 ·refine .inr ⟨⟨vs,vs[i],q,by simp [hlt]⟩,λ x H' y=>?_⟩
  obtain ⟨e,y⟩:=y
  subst e
  exact hs i xs σ _ x (y vs q) p
 ·have e:i=vs.length:=by lia
  subst e
  exact .inl ⟨⟨vs,q,BD _⟩,hd xs σ H p⟩
end
section
variable {X:Cx}
end
noncomputable def fH (os:List Nat):List Nat:=os.filter λ m=>decide (0<m)
noncomputable def bB (os:List Nat):Bool:=decide (1<(fH os).length)
noncomputable def aG (os:List Nat) (f:Nat):Nat:=os.countP λ x=>decide (x<f)
noncomputable def oH (cs:List Nat):List Nat:=(BC cs.length).map λ f=>(cs.take f).sum
noncomputable def dq (os:List Nat) (k:Nat):Nat:=aG os (os.getD k 0)+(os.take k).count (os.getD k 0)
theorem bo (os:List Nat) (f:Nat):aG os (f+1)=aG os f+os.count f:=by
 unfold aG
 induction os with
 | nil=>rfl
 | cons x xs ih=>
  rw [EX,EX,G9,ih]
  by_cases h:x<f
  ·have h1:x≠f:=by lia
   have h2:x<f+1:=by lia
   simp [h,h1,h2]; lia
  ·by_cases h1:x=f
   ·subst h1; simp; lia
   ·have h2:¬ x<f+1:=by lia
    simp [h,h1,h2]
theorem cv {os:List Nat} {g:Nat} (h:f<=g):aG os f<=aG os g:=by
 induction g with
 | zero=>(have:f=0:=(by lia)); subst this; exact BD _
 | succ g ih=>
  by_cases e:f=g+1
  ·subst e; exact BD _
  ·have:=ih (by lia)
   rw [bo]; lia
theorem c9 (os:List Nat) (f:Nat):aG os f<=os.length:=List.countP_le_length
theorem bj (os:List Nat) (b f:Nat) (h:f<=b):((cnt os b).take f).sum=aG os f:=by
 induction f with
 | zero=>simp [aG]
 | succ f ih=>
  rw [B3,cA (by lia),CA,ih (by lia),bo]
  simp
theorem fV (cs:List Nat):(oH cs).length=cs.length:=by simp [oH]
theorem fW (h:f<cs.length):(oH cs)[f]? = some (cs.take f).sum:=by
 unfold oH
 rw [BI,De h]; rfl
theorem oI (h:f<cs.length):(oH cs).take (f+1)=(oH cs).take f++[(cs.take f).sum]:=by
 rw [B3,fW h]; rfl
theorem eO (os:List Nat) (f:Nat) (h:i<=j):(os.take i).count f<=(os.take j).count f:=by
 have:os.take i=(os.take j).take i:=by rw [JC,E5 h]
 rw [this]
 exact KQ _ (EI i _)
theorem cB {os:List Nat} (h:k<os.length):(os.take (k+1)).count (os.getD k 0)=(os.take k).count (os.getD k 0)+1:=by
 rw [B3,Bx h,DV]
 simp [Bz,Bx h]
theorem eP {os:List Nat} (h:k<os.length):dq os k<aG os (os.getD k 0+1):=by
 unfold dq
 rw [bo]
 have h1:=cB h
 have h2:=eO os (os.getD k 0) (i:=k+1) (j:=os.length) (by lia)
 rw [BF (BD _)] at h2
 lia
theorem kF {os:List Nat} (h:k<os.length):dq os k<os.length:=B5 (eP h) (c9 _ _)
theorem cW {os:List Nat} (hi:i<os.length) (hj:j<os.length) (h:os.getD i 0<os.getD j 0\/os.getD i 0=os.getD j 0/\i<j):dq os i<dq os j:=by
 rcases h with h | ⟨h,hij⟩
 ·have h1:=eP hi
  have h2:=cv (os:=os) (f:=os.getD i 0+1) (g:=os.getD j 0) h
  unfold dq at *
  lia
 ·unfold dq
  rw [<-h]
  have h1:=cB hi
  have h2:=eO os (os.getD i 0) (i:=i+1) (j:=j) hij
  lia
theorem lG {os:List Nat} (hi:i<os.length) (hj:j<os.length) (h:dq os i=dq os j):i=j:=by
 rcases C4 (os.getD i 0) (os.getD j 0) with g | g | g
 ·have:=cW hi hj (.inl g); lia
 ·rcases C4 i j with q | q | q
  ·have:=cW hi hj (.inr ⟨g,q⟩); lia
  ·exact q
  ·have:=cW hj hi (.inr ⟨g.symm,q⟩); lia
 ·have:=cW hj hi (.inl g); lia
theorem gH {xs ys:List Nat} (h:xs.Nodup) (hs:∀ x∈xs,x∈ys) (hl:ys.length<=xs.length):xs.Perm ys:=by
 induction xs generalizing ys with
 | nil=>cases ys with
  | nil=>exact DC _
  | cons y r=>simp at hl
 | cons x xs ih=>
  have hx:x∈ys:=hs x (Cb ..)
  have hp:=Ee hx
  refine E6 (Lp x (ih (CW.mp h).2 (λ z hz=>?_) ?_)) hp.symm
  ·have:z≠x:=λ e=>(CW.mp h).1 (e▸hz)
   exact (Ef this).mpr (hs z (Cd _ hz))
  ·rw [GQ hx]; simp at hl; lia
structure ByF (os ob:List Nat):Prop where
 len:ob.length=os.length
 at_:∀ k,k<os.length->ob[dq os k]? = some k
theorem ByF.get {os ob:List Nat} (h:ByF os ob) {a x:Nat} (e:ob[a]? = some x):x<os.length/\a=dq os x:=by
 -- the spots are each place once
 have hsur:∀ a,a<os.length->∃ k,k<os.length/\dq os k=a:=by
  intro a ha
  have hnd:((BC os.length).map (dq os)).Nodup:=by
   rw [Gu,Ct]
   intro i j hi hj hij e
   simp only [By,CU] at hi hj
   rw [Dx,Dx,Iu,Iu] at e
   have:=lG hi hj e
   lia
  have hsub:∀ x∈(BC os.length).map (dq os),x∈BC os.length:=λ x hx=>by
   obtain ⟨k,hk,rfl⟩:=BK.mp hx
   exact Cg.mpr (kF (Cg.mp hk))
  have hp:((BC os.length).map (dq os)).Perm (BC os.length):=gH hnd hsub (by simp)
  obtain ⟨k,hk,e⟩:=BK.mp (hp.mem_iff.mpr (Cg.mpr ha))
  exact ⟨k,Cg.mp hk,e⟩
 have ha:a<os.length:=by rw [<-h.len]; exact dk e
 obtain ⟨k,hk,rfl⟩:=hsur a ha
 rw [h.at_ k hk] at e
 cases e
 exact ⟨hk,rfl⟩
theorem ByF.ord {os ob:List Nat} (h:ByF os ob):Ord ob os.length:=by
 refine ⟨h.len,λ x hx=>?_,λ i j r a b=>?_,λ x hx=>⟨dq os x,kF hx,h.at_ x hx⟩⟩
 ·obtain ⟨a,e⟩:=FL hx
  exact (h.get e).1
 ·rw [(h.get a).2,(h.get b).2]
theorem ByF.rise {os ob:List Nat} (h:ByF os ob):ob.Pairwise λ i j=>os.getD i 0<os.getD j 0\/os.getD i 0=os.getD j 0/\i<j:=by
 rw [Ct]
 intro a b ha hb hab
 obtain ⟨h1,e1⟩:=h.get (Bx ha)
 obtain ⟨h2,e2⟩:=h.get (Bx hb)
 generalize ob[a]=i at *
 generalize ob[b]=j at *
 rcases C4 (os.getD i 0) (os.getD j 0) with g | g | g
 ·exact .inl g
 ·rcases C4 i j with q | q | q
  ·exact .inr ⟨g,q⟩
  ·subst q; lia
  ·have:=cW h2 h1 (.inr ⟨g.symm,q⟩); lia
 ·have:=cW h2 h1 (.inl g); lia
theorem Ord.perm {os:List Nat} (h:Ord os n):os.Perm (BC n):=by
 refine gH ?_ (λ x hx=>Cg.mpr (h.lt x hx)) (by rw [CU,h.len]; exact BD _)
 rw [Gu,Ct]
 intro i j hi hj hij e
 have:=h.inj i j os[i] (Bx hi) (by rw [e]; exact Bx hj)
 lia
theorem dN (xs:List Nat):(BC xs.length).map (λ p=>xs.getD p 0)=xs:=by
 apply Em (by simp)
 intro i h1 h2
 simp [Bz,Bx h2]
theorem i5 {os xs:List Nat} (h:os.Perm (BC xs.length)):(os.map λ p=>xs.getD p 0).Perm xs:=by
 have:=h.map (λ p=>xs.getD p 0)
 rw [dN] at this
 exact this
theorem uW {os:List Nat} (h:∀ o∈os,o<b):(cnt os b).sum=os.length:=by
 have h1:=bj os b b (BD _)
 rw [BF (by rw [aT]; exact BD _)] at h1
 rw [h1]
 unfold aG
 rw [List.countP_eq_length]
 intro o ho
 simpa using h o ho
end L2
open L2.Nx renaming mk→LC
open L2.Same renaming refl→LA
namespace HT
open PySem PyProof.Rows
section
open PySem.SeqAt
open PySem.AutoSeq1 (wpAny_loadPart')
open PySem.MeetsSeq PySem.MeetsSeq2 PySem.MeetsSeq3
end
section
variable {prog:Program} {w:World} {A:Around} {E:Value->Shared->Prop} {s:Shared}
end
end HT
namespace L2
open PySem PySem.Spec PyProof.Rows
section
variable {X:Cx} {e e2 o:Expr} {to te:TE} {t:TA} {pos apos cpos:Pos}
theorem zY {K:BA} (hK:X.K=K:=by rfl):QIx X (rIx K):=by subst hK; exact ⟨wY⟩
end
theorem jH {P:PyData->Bool} {PA:List PyData->Bool} (h0:PA []=true) (h1:∀ x xs,PA (x::xs)=(P x && PA xs)):∀ {ds:List PyData},(∀ d∈ds,P d=true)->PA ds=true
 | [],_=>h0
 | d::ds,h=>by rw [h1,h d (Cb ..),jH h0 h1 λ x hx=>h x (Cd _ hx)]; rfl
theorem dX {n:Nat}:∀ {ds:List PyData},(∀ d∈ds,d.depth<=n)->Jt ds<=n
 | [],_=>Ca _
 | d::ds,h=>by
  show max d.depth (Jt ds)<=n
  have h1:=h d (Cb ..)
  have h2:=dX (ds:=ds) λ x hx=>h x (Cd _ hx)
  lia
theorem dc:∀ {ds:List PyData},(∀ d∈ds,d.hasDict=false)->IM ds=false
 | [],_=>rfl
 | d::ds,h=>by
  show (d.hasDict || IM ds)=false
  rw [h d (Cb ..),dc λ x hx=>h x (Cd _ hx)]; rfl
section
variable {X:Cx} {pins:List (Addr×Obj)} {σ:St} {H:Hp} {s:Shared}
theorem dY {R:V->PyData->Prop} {h:Heap} (hR:∀ x v d,R x d->RelV x v->∃ as,Reads h v d as):∀ {xs:List V} {its:List Value} {ds:List PyData},Vals xs its->xs.length=ds.length->(∀ (i:Nat) u e,xs[i]? = some u->ds[i]? = some e->R u e)->∃ as,ReadsAll h its ds as
 | _,_,[],.nil,_,_=>⟨[],.nil⟩
 | _,_,d::ds,.cons r rr,hl,hi=>by
  obtain ⟨as,h1⟩:=hR _ _ d (hi 0 _ d rfl rfl) r
  obtain ⟨bs,h2⟩:=dY hR rr (by simpa using hl) λ i u e e1 e2=>hi (i+1) u e e1 e2
  exact ⟨as++bs,.cons h1 h2⟩
 | _,_,_::_,.nil,hl,_=>by simp at hl
 | _,_,[],.cons _ _,hl,_=>by simp at hl
end
section
variable {K:BA} {σ:St} {H:Hp} {Q:VK}
theorem xH {p:Addr} {i:Int} (s:H p=some (.lst xs)\/H p=some (.tup xs)) (a:atI xs i=some v) (h:Q v H):rIx K (.ref p) (.int i) H Q:=
 s.elim (λ s=>.inl (dU (Lx s) a h)) (λ s=>.inr (.inl (fF (Ly s) a h)))
end
noncomputable def aL (a:List Nat):List Int:=a.map λ x:Nat=>(x:Int)
noncomputable def lxt (a b:List Nat):Bool:=HT.bD (aL a) (aL b)
theorem lH (x y:Nat) (a b:List Nat):lxt (x::a) (y::b)=if x=y then lxt a b else decide (x<y):=by
 unfold lxt aL
 rw [Cs,Cs,HT.cr]
 by_cases h:x=y
 ·rw [if_pos h,if_pos (by rw [h])]
 ·rw [if_neg h,if_neg (by lia)]
  exact decide_eq_decide.mpr (by lia)
noncomputable def Rk (rss:List (List Nat)) (c i j:Nat):Prop:=lxt ((rss.getD i []).drop c) ((rss.getD j []).drop c)=true\/((rss.getD i []).drop c=(rss.getD j []).drop c/\i<j)
theorem im {os:List Nat} {x y:Nat} (h:∀ o∈os,o<b) (hp:¬ bB (cnt os b)=true) (hx:x∈os) (hy:y∈os):x=y:=by
 have hl:(fH (cnt os b)).length=((BC b).filter λ f=>decide (0<os.count f)).length:=by
  unfold fH cnt
  rw [DU,By]; rfl
 have hm:∀ z,z∈os->z∈(BC b).filter λ f=>decide (0<os.count f):=λ z hz=>Cv.mpr ⟨Cg.mpr (h z hz),decide_eq_true (Iv.mpr hz)⟩
 have h1:((BC b).filter λ f=>decide (0<os.count f)).length<=1:=by
  rw [<-hl]
  unfold bB at hp
  have:=of_decide_eq_false (EK.mpr hp)
  lia
 have g1:=hm x hx
 have g2:=hm y hy
 generalize (BC b).filter (λ f=>decide (0<os.count f))=l at h1 g1 g2
 match l,h1,g1,g2 with
 | [z],_,g1,g2=>rw [BH.mp g1,BH.mp g2]
 | _::_::_,h1,_,_=>simp at h1
section
variable {X:Cx} {o a b e:Expr} {to ta tb te:TE} {pos p2 tpos:Pos}
noncomputable def zZ (to ta tb:TE):TG:=λ v σ H R=>to σ H λ x H1=>ta σ H1 λ y H2=>tb σ H2 λ z H3=>∃ (l c:Addr) (xs ys:List V) (i j:Int),x=.ref l/\v=.ref c/\y=.int i/\z=.int j/\H3 l=some (.lst xs)/\H3 c=some (.lst ys)/\l≠c/\0<=i/\i<=j/\j<=xs.length/\xs.length+ys.length<=sizeLine/\R σ (upd H3 l (.lst (xs.take i.toNat++ys++xs.drop j.toNat)))
theorem xI (ho:PE X o to) (ha:PE X a ta) (hb:PE X b tb)
  (has:∀ v,assign (.Subscript o (.Slice (some a) (some b) none p2) pos) X.env v=(do
   let ov <-holding [v] (eval o X.env)
   let iv <-holding [v,ov] (eval (.Slice (some a) (some b) none p2) X.env)
   standAt pos
   holding [v,ov,iv] (setItem ov iv v)
   release [iv,v,ov] []):=by intro _; rfl):PG X (.Subscript o (.Slice (some a) (some b) none p2) pos) (zZ to ta tb):=by
 intro pins s σ H v u Q I r h
 rw [has]
 refine wpAny_bind (wpAny_holding (thn (ho pins s σ H _ I h) λ ov s1 ⟨x,H1,I1,r1,q1⟩=>?_))
 refine wpAny_bind (wpAny_holding (wpAny_Slice (evalPart_some_step (thn (ha pins s1 σ H1 _ I1 q1) λ iv s2 ⟨y,H2,I2,r2,q2⟩=>?_))))
 refine evalPart_some_step (thn (hb pins s2 σ H2 _ I2 q2) λ jv s3 ⟨z,H3,I3,r3,q3⟩=>?_)
 refine evalPart_none_step ?_
 obtain ⟨l,c,xs,ys,i,j,rfl,rfl,rfl,rfl,hl,hc,hne,h0,hij,hj,hz,q⟩:=q3
 cases r1; cases r
 have I4:Inv X pins σ H3 { s3 with heap:=s3.heap.push { cls:=.type "slice",data:=.fields #[iv,jv,.none] } }:=I3.kept (t':=s3.toks) λ b ob q=>BB _ q
 refine wpAny_bind (wpAny_standAt (wpAny_bind (wpAny_holding (nS I4 hl hc hne (Gc ..) r2 r3 h0 hij hj hz λ s' I'=>?_))))
 exact wpAny_release ⟨σ,_,I',q⟩
theorem xJ (he:QE X e te) (ho:QE X o to) (ha:QE X a ta) (hb:QE X b tb)
  (has:∀ v,assign (.Subscript o (.Slice (some a) (some b) none p2) tpos) X.env v=(do
   let ov <-holding [v] (eval o X.env)
   let iv <-holding [v,ov] (eval (.Slice (some a) (some b) none p2) X.env)
   standAt tpos
   holding [v,ov,iv] (setItem ov iv v)
   release [iv,v,ov] []):=by intro _; rfl)
  (hs:swapsWithSole [.Subscript o (.Slice (some a) (some b) none p2) tpos] e pos.line X.env=pure false:=by rfl) (hw:swappedStores [.Subscript o (.Slice (some a) (some b) none p2) tpos] e X.env=pure none:=by rfl)
  (h1:(assignEach [.Subscript o (.Slice (some a) (some b) none p2) tpos] X.env).map (·.2)=[assign (.Subscript o (.Slice (some a) (some b) none p2) tpos) X.env]:=by rfl) :
  QS X (.Assign [.Subscript o (.Slice (some a) (some b) none p2) tpos] e pos) (qw te (zZ to ta tb)):=⟨nk he.out (xI ho.out ha.out hb.out has) hs hw h1⟩
theorem uX:QS X (.Continue pos) t4:=⟨ko⟩
end
section
variable {K:BA} {σ:St} {H:Hp} {Q:VK} {D:Ends}
theorem z4 {tb:TE} {R:St->Hp->Prop} (h:to σ H λ x H1=>ta σ H1 λ y H2=>tb σ H2 λ z H3=>∃ (l c:Addr) (xs ys:List V) (i j:Int),x=.ref l/\v=.ref c/\y=.int i/\z=.int j/\H3 l=some (.lst xs)/\H3 c=some (.lst ys)/\l≠c/\0<=i/\i<=j/\j<=xs.length/\xs.length+ys.length<=sizeLine/\R σ (upd H3 l (.lst (xs.take i.toNat++ys++xs.drop j.toNat)))):zZ to ta tb v σ H R:=h
theorem z7 (h:D.ct σ H):t4 D σ H:=h
theorem lI {p:Addr} {x z:V} {R:St->Hp->Prop} (e:H p=some (.tup [x,y,z])) (h:R (((σ.set i (some x)).set j (some y)).set k (some z)) H):yx K 3 (iF (eC i) (iF (eC j) (iF (eC k) wz))) (.ref p) σ H R:=
 ⟨p,_,rfl,Ly e,rfl,_,_,rfl,_,_,rfl,_,_,rfl,rfl,h⟩
theorem oJ {c:Addr} (h1:H l=some (.lst xs)) (h2:H c=some (.lst ys)) (hz:xs.length+ys.length<=sizeLine) (h:Q .non (upd H l (.lst (xs++ys)))):kw (.ref l) [.ref c] H Q:=⟨l,c,xs,ys,rfl,rfl,h1,h2,hz,h⟩
theorem oK (h1:H l=some (.lst (xs++[y]))) (h:Q y (upd H l (.lst xs))):zr (.ref l) [] H Q:=⟨l,_,y,rfl,rfl,h1,by simp,by rw [List.dropLast_concat]; exact h⟩
end
theorem lJ:∀ {c:Nat} {a b:List Nat},a.take c=b.take c->c<a.length->c<b.length->a.getD c 0<b.getD c 0->lxt a b=true
 | 0,x::a,y::b,_,_,_,h=>by rw [lH,if_neg (by simp at h; lia)]; exact decide_eq_true (by simpa using h)
 | c+1,x::a,y::b,e,h1,h2,h=>by
  rw [Es,Es] at e
  injection e with e1 e2
  rw [lH,if_pos e1]
  exact lJ e2 (by simpa using h1) (by simpa using h2) (by simpa using h)
 | _,[],_,_,h1,_,_=>by simp at h1
 | _,_::_,[],_,_,h2,_=>by simp at h2
theorem lK {os:List Nat} {g:Nat} (hk:k<os.length) (h1:aG os g<=dq os k) (h2:dq os k<aG os (g+1)):os.getD k 0=g:=by
 have r1:=eP hk
 have r2:aG os (os.getD k 0)<=dq os k:=by unfold dq; lia
 rcases C4 (os.getD k 0) g with h | h | h
 ·have:=cv (os:=os) (f:=os.getD k 0+1) (g:=g) h; lia
 ·exact h
 ·have:=cv (os:=os) (f:=g+1) (g:=os.getD k 0) h; lia
noncomputable abbrev bW:=Nat×Nat×Nat
structure Msd (rss:List (List Nat)) (C:Nat) (os:List Nat) (ws:List bW):Prop where
 perm:os.Perm (BC rss.length)
 ok:∀ s∈ws,s.1<=s.2.1/\s.2.1<=rss.length/\s.2.2<=C
 dis:ws.Pairwise λ s t=>s.2.1<=t.1\/t.2.1<=s.1
 like:∀ s∈ws,∀ i j,s.1<=i->i<j->j<s.2.1->(rss.getD (os.getD i 0) []).take s.2.2=(rss.getD (os.getD j 0) []).take s.2.2/\os.getD i 0<os.getD j 0
 rest:∀ i j,i<j->j<rss.length->Rk rss 0 (os.getD i 0) (os.getD j 0)\/∃ s∈ws,s.1<=i/\j<s.2.1
theorem Msd.ok' {rss:List (List Nat)} {C:Nat} {os:List Nat} {ws:List bW} (h:Msd rss C os ws):∀ s∈ws,s.2.2<=C:=λ s hs=>(h.ok s hs).2.2
theorem io (h:i<n):(BC n).getD i 0=i:=by rw [Bz,De h]; rfl
theorem Msd.start (rss:List (List Nat)) (C:Nat):Msd rss C (BC rss.length) [(0,rss.length,0)]:=by
 refine ⟨DC _,λ s hs=>?_,DZ ..,λ s hs i j h1 h2 h3=>?_,λ i j h1 h2=>.inr ⟨_,BH.mpr rfl,Ca _,h2⟩⟩
 ·rw [BH.mp hs]; exact ⟨Ca _,BD _,Ca _⟩
 ·rw [BH.mp hs] at h1 h3 ⊢
  have h3:j<rss.length:=h3
  rw [io h3,io (by lia:i<rss.length)]
  exact ⟨rfl,h2⟩
theorem Msd.done {rss:List (List Nat)} {C:Nat} {os:List Nat} (h:Msd rss C os []):os.Pairwise (Rk rss 0):=by
 have hl:os.length=rss.length:=by have:=h.perm.length_eq; simpa using this
 rw [Ct]
 intro i j hi hj hij
 have e1:os.getD i 0=os[i]:=by rw [Bz,Bx hi]; rfl
 have e2:os.getD j 0=os[j]:=by rw [Bz,Bx hj]; rfl
 rcases h.rest i j hij (by lia) with g | ⟨s,hs,_⟩
 ·rw [e1,e2] at g; exact g
 ·cases hs
theorem Msd.at {rss:List (List Nat)} {C:Nat} {os:List Nat} {ws:List bW} (h:Msd rss C os ws) (hi:i<rss.length):os.getD i 0<rss.length:=by
 have hl:os.length=rss.length:=by have:=h.perm.length_eq; simpa using this
 have hi':i<os.length:=by lia
 rw [Bz,Bx hi']
 simpa using h.perm.mem_iff.mp (BM hi')
theorem fk {rss:List (List Nat)} {C p:Nat} (hw:∀ r∈rss,r.length=C) (hp:p<rss.length):(rss.getD p []).length=C:=by
 rw [Bz,Bx hp]
 exact hw _ (BM hp)
theorem Msd.skip {rss:List (List Nat)} {C:Nat} {os:List Nat} {ws:List bW} {l:Nat} (h:Msd rss C os (ws++[(f,l,c)])) (hw:∀ r∈rss,r.length=C) (hs:l<f+2\/c=C):Msd rss C os ws:=by
 have hm:(f,l,c)∈ws++[(f,l,c)]:=BL _ (BH.mpr rfl)
 refine ⟨h.perm,λ s hs=>h.ok s (CN _ hs),(BR.mp h.dis).1,λ s hs=>h.like s (CN _ hs),λ i j hij hj=>?_⟩
 rcases h.rest i j hij hj with g | ⟨s,hs',h1,h2⟩
 ·exact .inl g
 ·rcases BY.mp hs' with g | g
  ·exact .inr ⟨s,g,h1,h2⟩
  ·rw [BH.mp g] at h1 h2
   have h1:f<=i:=h1
   have h2:j<l:=h2
   rcases hs with hs | hs
   ·lia
   ·obtain ⟨e1,e2⟩:=h.like _ hm i j h1 hij h2
    left; right
    rw [C2,C2]
    have e1:(rss.getD (os.getD i 0) []).take c=(rss.getD (os.getD j 0) []).take c:=e1
    rw [BF (by rw [fk hw (h.at (by lia))]; lia),BF (by rw [fk hw (h.at hj)]; lia)] at e1
    exact ⟨e1,e2⟩
noncomputable def aD (f:Nat) (cs:List Nat) (c:Nat):List bW:=(BC cs.length).map λ g=>(f+(cs.take g).sum,f+(cs.take g).sum+cs.getD g 0,c)
theorem dI {s:bW} (h:s∈aD f (cnt row b) c):∃ g,g<b/\s=(f+aG row g,f+aG row (g+1),c):=by
 unfold aD at h
 obtain ⟨g,hg,rfl⟩:=BK.mp h
 rw [aT,Cg] at hg
 refine ⟨g,hg,?_⟩
 rw [bj row b g (by lia),bo,Bz,cA hg,Eu]; rfl
theorem mT {g:Nat} (hg:g<b):(f+aG row g,f+aG row (g+1),c)∈aD f (cnt row b) c:=by
 unfold aD
 refine BK.mpr ⟨g,Cg.mpr (by rw [aT]; exact hg),?_⟩
 rw [bj row b g (by lia),bo,Bz,cA hg,Eu]; rfl
theorem partsF_dis:(aD f (cnt row b) c).Pairwise λ s t=>s.2.1<=t.1\/t.2.1<=s.1:=by
 unfold aD
 rw [DW]
 refine Kx (λ {g h} hg hh hgh=>?_) Fu
 rw [aT,Cg] at hg hh
 left
 have e:(cnt row b).getD g 0=row.count g:=by rw [Bz,cA hg]; rfl
 show f+((cnt row b).take g).sum+(cnt row b).getD g 0<=f+((cnt row b).take h).sum
 rw [bj row b g (by lia),bj row b h (by lia),e]
 have:=cv (os:=row) (f:=g+1) (g:=h) hgh
 rw [bo] at this
 lia
theorem Msd.step {rss:List (List Nat)} {C b:Nat} {os ob:List Nat} {ws:List bW} {f l c:Nat} (h:Msd rss C os (ws++[(f,l,c)])) (hw:∀ r∈rss,r.length=C) (hc:c<C) (hb:∀ o∈aW rss c,o<b)
  (hB:ByF (((os.drop f).take (l - f)).map λ p=>(aW rss c).getD p 0) ob):Msd rss C (os.take f++cmp ((os.drop f).take (l - f)) ob++os.drop l) (ws++(aD f (cnt (((os.drop f).take (l - f)).map λ p=>(aW rss c).getD p 0) b) (c+1)).reverse):=by
 have hm:(f,l,c)∈ws++[(f,l,c)]:=BL _ (BH.mpr rfl)
 obtain ⟨hfl,hln,_⟩:=h.ok _ hm
 have hfl:f<=l:=hfl
 have hln:l<=rss.length:=hln
 have hol:os.length=rss.length:=by have:=h.perm.length_eq; simpa using this
 have hsl:((os.drop f).take (l - f)).length=l - f:=by rw [BV,Cr]; lia
 have hrl:(((os.drop f).take (l - f)).map λ p=>(aW rss c).getD p 0).length=l - f:=by rw [By,hsl]
 have hO:=hB.ord
 rw [hrl] at hO
 have hrise:=hB.rise
 have hold:=h.like _ hm
 have hold:∀ i j,f<=i->i<j->j<l->(rss.getD (os.getD i 0) []).take c=(rss.getD (os.getD j 0) []).take c/\os.getD i 0<os.getD j 0:=hold
 have segD:∀ k,k<l - f->((os.drop f).take (l - f)).getD k 0=os.getD (f+k) 0:=λ k hk=>by
  rw [Bz,Fa hk,Gi,Bz]
 have rowDk:∀ k,k<l - f->(((os.drop f).take (l - f)).map λ p=>(aW rss c).getD p 0).getD k 0=(aW rss c).getD (os.getD (f+k) 0) 0:=λ k hk=>by
  rw [Bz,BI,<-segD k hk,Bz (l:=(os.drop f).take (l - f)),Bx (by lia:k<((os.drop f).take (l - f)).length)]; rfl
 have hfig:∀ k,k<l - f->(rss.getD (os.getD (f+k) 0) []).getD c 0=(aW rss c).getD (os.getD (f+k) 0) 0:=λ k hk=>by
  have:=h.at (i:=f+k) (by lia)
  unfold aW
  rw [Bz (l:=rss.map _),BI,Bx this,Bz (l:=rss),Bx this]; rfl
 -- where each comes from
 have hpi:∀ i,i<rss.length->(f<=i/\i<l->∃ k,k<l - f/\ob[i - f]? = some k/\i - f=dq (((os.drop f).take (l - f)).map λ p=>(aW rss c).getD p 0) k/\(os.take f++cmp ((os.drop f).take (l - f)) ob++os.drop l).getD i 0=os.getD (f+k) 0)/\(¬ (f<=i/\i<l)->(os.take f++cmp ((os.drop f).take (l - f)) ob++os.drop l).getD i 0=os.getD i 0):=by
  intro i hi
  have hcl:(cmp ((os.drop f).take (l - f)) ob).length=l - f:=by rw [iY,hO.len]
  have htl:(os.take f).length=f:=by rw [BV]; lia
  constructor
  ·rintro ⟨h1,h2⟩
   obtain ⟨k,hk,hkl⟩:=hO.get (i:=i - f) (by lia)
   refine ⟨k,hkl,hk,(hB.get hk).2,?_⟩
   rw [Bz,BX (by rw [BO,htl,hcl]; lia),B2 (by rw [htl]; exact h1),htl,ox hk (r:=((os.drop f).take (l - f))[k]'(by lia)) (Bx _)]
   rw [<-segD k hkl,Bz,Bx (by lia)]
  ·intro hn
   by_cases h1:i<f
   ·rw [Bz,BX (by rw [BO,htl]; lia),BX (by rw [htl]; exact h1),Fa h1,Bz]
   ·rw [Bz,B2 (by rw [BO,htl,hcl]; lia),BO,htl,hcl,Gi,Bz]
    congr 2; lia
 have hdis:∀ s∈ws,s.2.1<=f\/l<=s.1:=λ s hs=>by
  have:=(BR.mp h.dis).2.2 s hs (f,l,c) (BH.mpr rfl)
  exact this
 have hlik:∀ k1 k2,k1<l - f->k2<l - f->k1≠k2->(rss.getD (os.getD (f+k1) 0) []).take c=(rss.getD (os.getD (f+k2) 0) []).take c:=λ k1 k2 h1 h2 hne=>by
  rcases Nat.lt_or_gt_of_ne hne with g | g
  ·exact (hold (f+k1) (f+k2) (by lia) (by lia) (by lia)).1
  ·exact (hold (f+k2) (f+k1) (by lia) (by lia) (by lia)).1.symm
 generalize hrow:((os.drop f).take (l - f)).map (λ p=>(aW rss c).getD p 0)=row at *
 have hrlt:∀ k,k<l - f->row.getD k 0<b:=λ k hk=>by
  rw [rowDk k hk]
  have:=h.at (i:=f+k) (by lia)
  have h':os.getD (f+k) 0<(aW rss c).length:=by simpa [aW] using this
  rw [Bz,Bx h']
  exact hb _ (BM h')
 have rise:∀ i j k1 k2,i<j->ob[i]? = some k1->ob[j]? = some k2->row.getD k1 0<row.getD k2 0\/row.getD k1 0=row.getD k2 0/\k1<k2:=λ i j k1 k2 hij e1 e2=>by
  obtain ⟨a1,a2⟩:=BZ.mp e1
  obtain ⟨b1,b2⟩:=BZ.mp e2
  have:=Ct.mp hrise i j a1 b1 hij
  rw [a2,b2] at this; exact this
 generalize hos':os.take f++cmp ((os.drop f).take (l - f)) ob++os.drop l=os' at *
 refine ⟨?_,λ s hs=>?_,?_,λ s hs i j h1 h2 h3=>?_,λ i j hij hj=>?_⟩
 ·rw [<-hos']
  refine E6 ?_ h.perm
  have e:os=os.take f++(os.drop f).take (l - f)++os.drop l:=by
   have e1:os.drop l=(os.drop f).drop (l - f):=by rw [FX]; congr 1; lia
   rw [e1,Cu,Ck,Ck]
  conv=>rhs; rw [e]
  refine Hf _ (D9 _ ?_)
  exact i5 (by rw [hsl]; exact hO.perm)
 ·rcases BY.mp hs with g | g
  ·exact h.ok s (CN _ g)
  ·obtain ⟨z,hz,rfl⟩:=dI (Dm.mp g)
   have:=cv (os:=row) (f:=z) (g:=z+1) (by lia)
   have:=c9 row (z+1)
   exact ⟨by show f+_<=f+_; lia,by show f+_<=_; lia,hc⟩
 ·rw [BR]
  refine ⟨(BR.mp h.dis).1,?_,λ s hs t ht=>?_⟩
  ·rw [Hm]
   exact partsF_dis.imp λ {s t} g=>g.symm
  ·obtain ⟨z,hz,rfl⟩:=dI (Dm.mp ht)
   have:=c9 row (z+1)
   rcases hdis s hs with g | g
   ·left; show s.2.1<=f+_; lia
   ·right; show f+_<=s.1; lia
 ·rcases BY.mp hs with g | g
  ·have:=(h.ok s (CN _ g)).2.1
   have hd:=hdis s g
   rw [(hpi i (by lia)).2 (by lia),(hpi j (by lia)).2 (by lia)]
   exact h.like s (CN _ g) i j h1 h2 h3
  ·obtain ⟨z,hz,rfl⟩:=dI (Dm.mp g)
   have h1:f+aG row z<=i:=h1
   have h3:j<f+aG row (z+1):=h3
   have hle:=c9 row (z+1)
   obtain ⟨k1,hk1,o1,p1,e1⟩:=(hpi i (by lia)).1 ⟨by lia,by lia⟩
   obtain ⟨k2,hk2,o2,p2,e2⟩:=(hpi j (by lia)).1 ⟨by lia,by lia⟩
   have f1:=lK (os:=row) (k:=k1) (g:=z) (by lia) (by lia) (by lia)
   have f2:=lK (os:=row) (k:=k2) (g:=z) (by lia) (by lia) (by lia)
   have hk:k1<k2:=by
    rcases rise (i - f) (j - f) k1 k2 (by lia) o1 o2 with g | ⟨_,g⟩
    ·lia
    ·exact g
   obtain ⟨t1,t2⟩:=hold (f+k1) (f+k2) (by lia) (by lia) (by lia)
   rw [e1,e2]
   refine ⟨?_,t2⟩
   show (rss.getD (os.getD (f+k1) 0) []).take (c+1)=(rss.getD (os.getD (f+k2) 0) []).take (c+1)
   have l1:=fk hw (h.at (i:=f+k1) (by lia))
   have l2:=fk hw (h.at (i:=f+k2) (by lia))
   have g1:=hfig k1 hk1
   have g2:=hfig k2 hk2
   rw [<-rowDk k1 hk1,f1] at g1
   rw [<-rowDk k2 hk2,f2] at g2
   rw [B3,B3,t1,Bx (by lia),Bx (by lia)]
   rw [Bz,Bx (by lia)] at g1 g2
   simp only [Ja] at g1 g2
   rw [g1,g2]
 ·by_cases hin:f<=i/\j<l
  ·obtain ⟨k1,hk1,o1,p1,e1⟩:=(hpi i (by lia)).1 ⟨by lia,by lia⟩
   obtain ⟨k2,hk2,o2,p2,e2⟩:=(hpi j (by lia)).1 ⟨by lia,by lia⟩
   have hne:k1≠k2:=λ z=>by subst z; lia
   rcases rise (i - f) (j - f) k1 k2 (by lia) o1 o2 with g | ⟨g,gk⟩
   ·left; left
    rw [C2,C2,e1,e2]
    refine lJ (c:=c) (hlik k1 k2 hk1 hk2 hne) (by rw [fk hw (h.at (by lia))]; exact hc) (by rw [fk hw (h.at (by lia))]; exact hc) ?_
    rw [hfig k1 hk1,hfig k2 hk2,<-rowDk k1 hk1,<-rowDk k2 hk2]; exact g
   ·right
    refine ⟨_,BL _ (Dm.mpr (mT (g:=row.getD k1 0) (hrlt k1 hk1))),?_,?_⟩
    ·show f+aG row (row.getD k1 0)<=i
     have:aG row (row.getD k1 0)<=dq row k1:=by unfold dq; lia
     lia
    ·show j<f+aG row (row.getD k1 0+1)
     have:=eP (os:=row) (k:=k2) (by lia)
     rw [<-g] at this
     lia
  ·-- not both within
   have hout:∀ i,i<rss.length->∃ i',os'.getD i 0=os.getD i' 0/\((f<=i/\i<l/\f<=i'/\i'<l)\/(¬ (f<=i/\i<l)/\i'=i)):=λ i hi=>by
    by_cases g:f<=i/\i<l
    ·obtain ⟨k1,hk1,o1,p1,e1⟩:=(hpi i hi).1 g
     exact ⟨f+k1,e1,.inl ⟨g.1,g.2,by lia,by lia⟩⟩
    ·exact ⟨i,(hpi i hi).2 g,.inr ⟨g,rfl⟩⟩
   obtain ⟨i',ei,hi'⟩:=hout i (by lia)
   obtain ⟨j',ej,hj'⟩:=hout j hj
   rw [ei,ej]
   have hij':i'<j':=by lia
   have hjn:j'<rss.length:=by lia
   rcases h.rest i' j' hij' hjn with g | ⟨s,hs,h1,h2⟩
   ·exact .inl g
   ·rcases BY.mp hs with g | g
    ·have hd:=hdis s g
     have hok:=h.ok s hs
     refine .inr ⟨s,CN _ g,?_,?_⟩<;>lia
    ·rw [BH.mp g] at h1 h2
     have h1:f<=i':=h1
     have h2:j'<l:=h2
     lia
theorem oM (h:∀ x∈row,∀ y∈row,x=y):ByF row (BC row.length):=by
 refine ⟨by simp,λ k hk=>?_⟩
 have e0:row.getD k 0=row[k]:=by rw [Bz,Bx hk]; rfl
 have e1:aG row row[k]=0:=FS.mpr λ x hx g=>by
  have:=h x hx row[k] (BM hk)
  have:=of_decide_eq_true g
  lia
 have e2:(row.take k).count row[k]=k:=by
  have:(row.take k).count row[k]=(row.take k).length:=List.count_eq_length.mpr λ x hx=>h row[k] (BM hk) x (C5 hx)
  rw [this,BV]; lia
 have:dq row k=k:=by unfold dq; rw [e0,e1,e2]; lia
 rw [this,De hk]
theorem oN (seg:List Nat) (h:seg.length=n):cmp seg (BC n)=seg:=by
 subst h
 unfold cmp
 exact dN seg
noncomputable def i6 (b C:Nat) (ws:List bW):Nat:=(ws.map λ s=>(b+1) ^ (C+1 - s.2.2)).sum
theorem ip (b C:Nat) (ws:List bW) (s:bW):i6 b C (ws++[s])=i6 b C ws+(b+1) ^ (C+1 - s.2.2):=by
 unfold i6
 rw [B4,CA]; simp
theorem lL (b C:Nat) (ws:List bW) (s:bW):i6 b C ws<i6 b C (ws++[s]):=by
 rw [ip]
 have:0<(b+1) ^ (C+1 - s.2.2):=IT (by lia)
 lia
theorem gI {α:Type} (k:Nat) (f:α->Nat):∀ {xs:List α},(∀ x∈xs,f x=k)->(xs.map f).sum=xs.length*k
 | [],_=>by simp
 | x::xs,h=>by
  rw [Cs,C7,h x (Cb ..),gI k f (λ y hy=>h y (Cd _ hy)),Ci,Ku]; lia
theorem mU {C l:Nat} (ws:List bW) (hc:c<C) (hl:cs.length=b):i6 b C (ws++(aD f cs (c+1)).reverse)<i6 b C (ws++[(f,l,c)]):=by
 rw [ip]
 unfold i6
 rw [B4,CA,gI ((b+1) ^ (C+1 - (c+1))) _ (xs:=(aD f cs (c+1)).reverse) (λ s hs=>by
  unfold aD at hs
  obtain ⟨g,_,rfl⟩:=BK.mp (Dm.mp hs)
  rfl),Er]
 have e1:(aD f cs (c+1)).length=b:=by unfold aD; simp [hl]
 have e2:C+1 - c=(C+1 - (c+1))+1:=by lia
 rw [e1]
 show _<_+(b+1) ^ (C+1 - c)
 rw [e2,Ky,Ip ((b+1) ^ (C+1 - (c+1))) (b+1),Nat.add_mul,Nat.one_mul]
 have:0<(b+1) ^ (C+1 - (c+1)):=IT (by lia)
 lia
noncomputable def eQ (ws:List bW):Nat:=(ws.map λ s=>s.2.1 - s.1 - 1).sum
theorem kG (ws:List bW) (s:bW):eQ (ws++[s])=eQ ws+(s.2.1 - s.1 - 1):=by
 unfold eQ
 rw [B4,CA]; simp
theorem i7:∀ cs:List Nat,(cs.map λ c=>c - 1).sum+(fH cs).length=cs.sum
 | []=>rfl
 | c::cs=>by
  have ih:=i7 cs
  unfold fH at ih ⊢
  rw [Cs,C7,C7]
  by_cases h:0<c
  ·rw [List.filter_cons_of_pos (by simpa using h),Ci]; lia
  ·rw [List.filter_cons_of_neg (by simpa using h)]; lia
theorem jI (ws:List bW) (f c:Nat) (cs:List Nat):eQ (ws++(aD f cs c).reverse)+(fH cs).length=eQ ws+cs.sum:=by
 unfold eQ
 rw [B4,CA,GR,Jd]
 have e:(aD f cs c).map (λ s=>s.2.1 - s.1 - 1)=cs.map λ c=>c - 1:=by
  unfold aD
  rw [CF]
  apply Em (by simp)
  intro i h1 h2
  have hi:i<cs.length:=by simpa using h2
  simp [Bz,Bx hi]
 rw [e]
 have:=i7 cs
 lia
noncomputable def Low (b:Nat) (ws:List bW):Prop:=∀ (i:Nat) s,ws[i]? = some s->i<=b*s.2.2
theorem Low.left {ws vs:List bW} (h:Low b (ws++vs)):Low b ws:=λ i s e=>h i s (by rw [BX (dk e)]; exact e)
theorem Low.step {b f l c:Nat} {ws:List bW} {cs:List Nat} (h:Low b (ws++[(f,l,c)])) (hl:cs.length=b):Low b (ws++(aD f cs (c+1)).reverse):=λ i s e=>by
 have h0:ws.length<=b*c:=h ws.length (f,l,c) (by simp)
 by_cases hi:i<ws.length
 ·exact h i s (by rw [BX hi] at e ⊢; exact e)
 ·rw [B2 (by lia)] at e
  have hm:=Ch e
  have hlt:=dk e
  unfold aD at hm hlt
  rw [Er,By,CU,hl] at hlt
  obtain ⟨g,_,rfl⟩:=BK.mp (Dm.mp hm)
  show i<=b*(c+1)
  rw [KO,Nat.mul_one]; lia
theorem Low.len {C:Nat} {ws:List bW} (h:Low b ws) (hc:∀ s∈ws,s.2.2<=C):ws.length<=b*C+1:=by
 cases hw:ws.length with
 | zero=>lia
 | succ n=>
  have e:ws[n]? = some (ws[n]'(by lia)):=Bx _
  have h1:=h n _ e
  have h2:=hc _ (BM (by lia:n<ws.length))
  have h3:b*(ws[n]'(by lia)).2.2<=b*C:=FT b h2
  lia
noncomputable def TrAt (H:Hp) (qs:List Addr) (ws:List bW):Prop:=qs.length=ws.length/\∀ (i:Nat) q s,qs[i]? = some q->ws[i]? = some s->H q=some (.tup [.int (s.1:Nat),.int (s.2.1:Nat),.int (s.2.2:Nat)])
theorem TrAt.same {H:Hp} {ws:List bW} (h:TrAt H qs ws) (s:Same H H1):TrAt H1 qs ws:=⟨h.1,λ i q t a b=>s _ _ (h.2 i q t a b)⟩
theorem TrAt.own {H:Hp} {ws:List bW} (h:TrAt H qs ws) (hl:H l=some (.lst xs)):TrAt (upd H l (.lst ys)) qs ws:=⟨h.1,λ i q t a b=>by
 have e:=h.2 i q t a b
 rw [aq (mC e hl (by intro c; cases c))]; exact e⟩
theorem TrAt.snoc {H:Hp} {ws:List bW} {q:Addr} {s:bW} (h:TrAt H qs ws) (e:H q=some (.tup [.int (s.1:Nat),.int (s.2.1:Nat),.int (s.2.2:Nat)])):TrAt H (qs++[q]) (ws++[s]):=by
 refine ⟨by simp [h.1],λ i p y a b=>?_⟩
 rcases bR a with ⟨l,a⟩ | ⟨l,a⟩
 ·rcases bR b with ⟨_,b⟩ | ⟨l',b⟩
  ·exact h.2 i p y a b
  ·have:=h.1; lia
 ·rcases bR b with ⟨l',b⟩ | ⟨_,b⟩
  ·have:=h.1; lia
  ·rw [a,b]; exact e
theorem TrAt.app {H:Hp} {rs:List Addr} {ws vs:List bW} (h:TrAt H qs ws) (g:TrAt H rs vs):TrAt H (qs++rs) (ws++vs):=by
 refine ⟨by simp [h.1,g.1],λ i p y a b=>?_⟩
 have hl:=h.1
 by_cases hi:i<qs.length
 ·rw [BX hi] at a
  rw [BX (by lia)] at b
  exact h.2 i p y a b
 ·rw [B2 (by lia)] at a
  rw [B2 (by lia),<-hl] at b
  exact g.2 _ p y a b
theorem TrAt.rev {H:Hp} {ws:List bW} (h:TrAt H ps ws):TrAt H ps.reverse ws.reverse:=by
 refine ⟨by simp [h.1],λ i q y a b=>?_⟩
 have hl:i<ps.length:=by have:=(BZ.mp a).1; simpa using this
 rw [Hn hl] at a
 rw [Hn (by rw [<-h.1]; exact hl),<-h.1] at b
 exact h.2 _ q y a b
theorem TrAt.last {H:Hp} {ws:List bW} (h:TrAt H qs ws) (hq:qs≠[]):∃ rs q vs s,qs=rs++[q]/\ws=vs++[s]/\TrAt H rs vs/\H q=some (.tup [.int (s.1:Nat),.int (s.2.1:Nat),.int (s.2.2:Nat)]):=by
 rcases Ho qs with e | ⟨rs,q,e⟩
 ·exact absurd e hq
 ·rcases Ho ws with e2 | ⟨vs,s,e2⟩
  ·have:=h.1; rw [e,e2] at this; simp at this
  ·rw [List.concat_eq_append] at e e2
   subst e e2
   have hl:rs.length=vs.length:=by have:=h.1; simpa using this
   refine ⟨rs,q,vs,s,rfl,rfl,⟨hl,λ i p t a b=>?_⟩,?_⟩
   ·exact h.2 i p t (by rw [BX (dk a)]; exact a) (by rw [BX (dk b)]; exact b)
   ·exact h.2 rs.length q s (by simp) (by simp [hl])
theorem xK (os:List Nat) {l:Nat} (h1:f<=l) (h2:l<=os.length):ki (NV os) (some (f:Int)) (some (l:Int))=NV ((os.drop f).take (l - f)):=by
 unfold ki
 rw [HT.fh,HT.fh,aF,E5 (by lia:f<=os.length),E5 h2]
 unfold NV
 rw [Fw,Fx]
section
variable {X:Cx} {e e2 o:Expr} {to te:TE} {t:TA} {pos apos cpos:Pos}
end
section
variable {K:BA} {σ:St} {H:Hp} {Q:VK}
end
section
variable {X:Cx} {tg a b c:Expr} {t:TA} {p pos:Pos}
end
section
variable {X:Cx} {e o b:Expr} {to tb te:TE} {pos tpos:Pos}
end
end L2
namespace HT
open PySem PyProof.Rows L2
section
variable {prog:Program} {w:World} {A:Around} {E:Value->Shared->Prop} {s:Shared}
theorem fo {t:Addr} {lo hi:Option Int} (ht:IsTup s.heap t items) (hs:s.heap.IsSliceOf sl vl vu .none) (pl:IsPart vl lo) (pu:IsPart vu hi)
  (hw:sIx items.size 0 lo=0/\sIx items.size items.size hi=items.size) (h:Q (.ref t) s):wpAny (model prog w) A (getItem (.ref t) (.ref sl)) Q E s:=by
 obtain ⟨os,hos,hcs,hds⟩:=id hs
 have hTs:s.TypeIs (.ref sl) "slice":=⟨os,hos,hcs⟩
 unfold getItem
 try with_reducible refine wpAny_holding ?_
 first | refine wpAny_bind (wpAny_pure ?_) | skip
 refine wpAny_bind (wpAny_sequenceKey ht.typeIs (by decide) ?_)
 refine wpAny_bind (wpAny_callSpecial?_slot (name:=DR "__getitem__") ht.typeIs C8
  (wpAny_call_entry C8 ht.typeIs entry_tuple_getitem ?_ (args_tuple_getitem _ _)))
 show wpAny _ _ (Gr (.ref t) >>= _) _ _ s
 refine wpAny_bind (tupleItemsOf_ ht ?_)
 refine wpAny_bind (wpAny_typeOf hTs ?_)
 rw [if_pos (by decide)]
 refine wpAny_bind (dj hs pl pu ?_)
 have hyes:(((sIx items.size 0 lo:Nat):Int) == 0 && (1:Int) == 1 && (sIx items.size items.size hi - sIx items.size 0 lo) == items.size)=true:=by
  rw [hw.1,hw.2]; simp
 show wpAny _ _ (if (((sIx items.size 0 lo:Nat):Int) == 0 && (1:Int) == 1 && (sIx items.size items.size hi - sIx items.size 0 lo) == items.size)=true then _ else _) _ _ s
 rw [if_pos hyes]
 refine wpAny_bind (wpAny_bind (wpAny_typeOf ht.typeIs (wpAny_pure ?_)))
 rw [if_pos (by decide)]
 refine wpAny_bind (wpAny_rule ?_)
 exact wpAny_pure ⟨_,rfl,wpAny_pure h⟩
end
end HT
namespace L2
open PySem PySem.Spec PyProof.Rows
section
variable {X:Cx} {tg a b:Expr} {t:TA} {p pos:Pos}
noncomputable def xL:V->Option Int->Option Int->Hp->VK->Prop:=λ x lo hi H Q=>∃ a xs,x=.ref a/\H a=some (.tup xs)/\∀ p H',Same H H'->H' p=some (.tup (ki xs lo hi))->Q (.ref p) H'
theorem uY:SlR X xL:=by
 intro pins s σ H x v vl vu lo hi sl Q I rx hs pl pu h
 obtain ⟨a,xs,rfl,hx,q⟩:=h
 by_cases hw:HT.sIx xs.length 0 lo=0/\HT.sIx xs.length xs.length hi=xs.length
 ·cases rx
  obtain ⟨its,r,ht,hz⟩:=I.tuple (Ly hx)
  have hlen:its.toArray.size=xs.length:=by rw [BQ]; exact r.length.symm
  refine ⟨"tuple",_,C8.lookup,ht.typeIs,?_⟩
  refine HT.fo ht hs pl pu (by rw [hlen]; exact hw) ⟨.ref a,H,I,rfl,q a H (LA H) ?_⟩
  rw [hx]
  unfold ki
  rw [hw.1,hw.2,C2,GO,BF (BD _)]
 ·exact su pins s σ H _ v vl vu lo hi sl Q I rx hs pl pu ⟨a,xs,rfl,Ly hx,hw,λ p hp=>q p _ ((LA H).new hp) ac⟩
theorem lM:QSl X xL:=⟨uY⟩
end
section
variable {K:BA} {σ:St} {H:Hp} {Q:VK}
end
noncomputable def rnd:Nat->List Nat->List bW×List Nat
 | f,a::b::r=>((f,f+a,f+a+b)::(rnd (f+a+b) r).1,(a+b)::(rnd (f+a+b) r).2)
 | _,[a]=>([],[a])
 | _,[]=>([],[])
theorem uZ (f a b:Nat) (r:List Nat):rnd f (a::b::r)=((f,f+a,f+a+b)::(rnd (f+a+b) r).1,(a+b)::(rnd (f+a+b) r).2):=by rw [rnd]
theorem u0 (f a:Nat):rnd f [a]=([],[a]):=by rw [rnd]
theorem u5 (f:Nat):rnd f []=([],[]):=by rw [rnd]
theorem u6 (f:Nat) (ls:List Nat):(rnd f ls).2.length=(ls.length+1) / 2/\(rnd f ls).1.length+(rnd f ls).2.length=ls.length:=by
 induction f,ls using rnd.induct with
 | case1 f a b r ih=>rw [uZ]; simp only [Ci]; lia
 | case2 f a=>rw [u0]; simp
 | case3 f=>rw [u5]; simp
noncomputable def Aa (ls:List Nat):List bW:=if h:1<ls.length then (rnd 0 ls).1++Aa (rnd 0 ls).2 else []
termination_by ls.length
decreasing_by have:=(u6 0 ls).1; lia
noncomputable def brk (rss:List (List Nat)) (k:Nat):Bool:=lxt (rss.getD k []) (rss.getD (k - 1) [])
end L2
namespace L2
open PySem PySem.Spec PyProof.Rows PySem.W
noncomputable def Sat (N:Nat) (lt:Nat->Nat->Bool) {α:Type}:KasT α->(α->Prop)->Prop
 | .ret a,R=>R a
 | .ask i j k,R=>i<N/\j<N/\Sat N lt (k (lt i j)) R
theorem Sat.mono {N:Nat} {lt:Nat->Nat->Bool} {α:Type} {R R':α->Prop} (hR:∀ a,R a->R' a):∀ (t:KasT α),Sat N lt t R->Sat N lt t R'
 | .ret _,h=>hR _ h
 | .ask i j k,h=>⟨h.1,h.2.1,Sat.mono hR (k (lt i j)) h.2.2⟩
theorem Sat.bind {N:Nat} {lt:Nat->Nat->Bool} {α β:Type} {R:α->Prop} {R':β->Prop} {f:α->KasT β} (hf:∀ a,R a->Sat N lt (f a) R'):∀ (t:KasT α),Sat N lt t R->Sat N lt (t.bind f) R'
 | .ret a,h=>hf a h
 | .ask i j k,h=>⟨h.1,h.2.1,Sat.bind hf (k (lt i j)) h.2.2⟩
structure Lt (lt:Nat->Nat->Bool):Prop where
 asym:∀ i j,lt i j=true->lt j i=false
 tr:∀ i j k,lt i j=false->lt j k=false->lt i k=false
noncomputable def Ah (lt:Nat->Nat->Bool) (i j:Nat):Prop:=lt j i=false/\(lt i j=false->i<j)
theorem Ah.of_lt {lt:Nat->Nat->Bool} (H:Lt lt) (h:lt i j=true):Ah lt i j:=⟨H.asym i j h,λ h'=>by rw [h] at h'; cases h'⟩
theorem Ah.trans {lt:Nat->Nat->Bool} (H:Lt lt) (a:Ah lt i j) (b:Ah lt j k):Ah lt i k:=by
 refine ⟨H.tr k j i b.1 a.1,λ h=>?_⟩
 have h1:lt i j=false:=H.tr i k j h b.1
 have h2:lt j k=false:=H.tr j i k a.1 h
 exact Eo (a.2 h1) (b.2 h2)
theorem kH {lt:Nat->Nat->Bool} (H:Lt lt) (h:lt i j=true) (h':lt k j=false):lt i k=true:=by
 cases e:lt i k with
 | true=>rfl
 | false=>rw [H.tr i k j e h'] at h; cases h
theorem i8 {lt:Nat->Nat->Bool} (H:Lt lt) (h:lt i j=true) (h':lt i k=false):lt k j=true:=by
 cases e:lt k j with
 | true=>rfl
 | false=>rw [H.tr i k j h' e] at h; cases h
section
variable {N:Nat} {lt:Nat->Nat->Bool}
structure Pm (N:Nat) (p:Array Nat):Prop where
 sz:p.size=N
 bd:∀ i,i<N->p.getD i 0<N
 inj:∀ i j,i<N->j<N->p.getD i 0=p.getD j 0->i=j
theorem eR {p:Array Nat} (h:p.Perm (B8 (BC N))):Pm N p:=by
 have hp:p.toList.Perm (BC N):=by simpa using Gv.mp h
 have hs:p.size=N:=by rw [<-BP,hp.length_eq,CU]
 have hn:p.toList.Nodup:=hp.nodup_iff.mpr D4
 refine ⟨hs,λ i hi=>?_,λ i j hi hj e=>?_⟩
 ·have hi':i<p.size:=by lia
  have:p[i]∈p.toList:=EV.mpr (Array.getElem_mem hi')
  have h2:=hp.mem_iff.mp this
  rw [show p.getD i 0=p[i] by simp [Ce,hi']]
  exact Cg.mp h2
 ·have hi':i<p.size:=by lia
  have hj':j<p.size:=by lia
  rw [show p.getD i 0=p[i] by simp [Ce,hi'],show p.getD j 0=p[j] by simp [Ce,hj']] at e
  have e':p.toList[i]'(by simpa using hi')=p.toList[j]'(by simpa using hj'):=by simpa using e
  have hq:=Ct.mp hn
  rcases C4 i j with x | x | x
  ·exact absurd e' (hq i j _ _ x)
  ·exact x
  ·exact absurd e'.symm (hq j i _ _ x)
theorem bS {p:Array Nat} (hj:j<=p.size) (k:Nat):(kas_rev p i j).getD k 0=if i<=k/\k<j then p.getD (i+j - 1 - k) 0 else p.getD k 0:=by
 have h:=getElem?_mirror_all (i:=i) hj k
 rw [C1,C1,C1]
 show ((mirror p i j ((j - i) / 2))[k]?).getD 0=_
 rw [h]
 split<;>rfl
theorem fX {p:Array Nat} {l:Nat} (hk:k<p.size) (hl:l<=k) (i:Nat):(bubble p k (k - l)).getD i 0=if i=l then p.getD k 0 else if l<i/\i<=k then p.getD (i - 1) 0 else p.getD i 0:=by
 have h:=getElem?_bubble hk (k - l) (by lia) i
 have e:k - (k - l)=l:=by lia
 rw [e] at h
 simp only [C1]
 rw [h]
 repeat' split
 all_goals rfl
theorem bf {p:Array Nat} (i j:Nat) (h:p.Perm (B8 (BC N))):(kas_rev p i j).Perm (B8 (BC N)):=(mirror_perm _ _ _ _).trans h
theorem i9 {p:Array Nat} (i j:Nat) (h:p.Perm (B8 (BC N))):(bubble p i j).Perm (B8 (BC N)):=(bubble_perm _ _ _).trans h
noncomputable def Tl (N:Nat) (p:Array Nat) (m:Nat):Prop:=∀ i,m<=i->i<N->p.getD i 0=i
theorem Pm.lo {p:Array Nat} (P:Pm N p) (T:Tl N p m) (hi:i<m) (hm:m<=N):p.getD i 0<m:=by
 rcases CO (p.getD i 0) m with h | h
 ·exact h
 ·have h2:=T _ h (P.bd i (by lia))
  have:=P.inj _ _ (P.bd i (by lia)) (by lia) h2
  lia
noncomputable def Up (lt:Nat->Nat->Bool) (p:Array Nat) (m:Nat):Prop:=∀ i,0<i->i<m->Ah lt (p.getD (i - 1) 0) (p.getD i 0)
theorem Up.all (H:Lt lt) {p:Array Nat} {m:Nat} (U:Up lt p m):∀ d i,i+d+1<m->Ah lt (p.getD i 0) (p.getD (i+d+1) 0)
 | 0,i,h=>U (i+1) (by lia) h
 | d+1,i,h=>(Up.all H U d i (by lia)).trans H (U (i+d+1+1) (by lia) h)
theorem Up.at (H:Lt lt) {p:Array Nat} (U:Up lt p m) (h:i<j) (hj:j<m):Ah lt (p.getD i 0) (p.getD j 0):=by
 have:=U.all H (j - i - 1) i (by lia)
 rw [show i+(j - i - 1)+1=j by lia] at this
 exact this
theorem kI {p:Array Nat} (hb:∀ i,i<N->p.getD i 0<N):∀ (f n:Nat),1<=n->n+f<=N->
  Sat N lt (kas_asc p f n) (λ m=>n<=m/\m<=n+f/\(∀ i,n<=i->i<m->lt (p.getD i 0) (p.getD (i - 1) 0)=false)/\(m<n+f->lt (p.getD m 0) (p.getD (m - 1) 0)=true))
 | 0,n,_,_=>⟨BD _,BD _,λ i a b=>by lia,λ h=>by lia⟩
 | f+1,n,h1,hN=>by
  refine ⟨hb _ (by lia),hb _ (by lia),?_⟩
  cases e:lt (p.getD n 0) (p.getD (n - 1) 0) with
  | true=>
   simp only [if_true]
   exact ⟨BD _,by lia,λ i a b=>by lia,λ _=>e⟩
  | false=>
   simp only [BG,if_false]
   refine Sat.mono (λ m hm=>?_) _ (kI hb f (n+1) (by lia) (by lia))
   obtain ⟨a,b,c,d⟩:=hm
   refine ⟨by lia,by lia,λ i hi him=>?_,λ h=>d (by lia)⟩
   rcases Dj hi with rfl | h
   ·exact e
   ·exact c i h him
structure Dn (N:Nat) (lt:Nat->Nat->Bool) (p:Array Nat) (n q:Nat):Prop where
 perm:p.Perm (B8 (BC N))
 tl:Tl N p n
 fall:∀ i,0<i->i+(q+1)<n->Ah lt (p.getD i 0) (p.getD (i - 1) 0)
 like:∀ i,n<=i+q->i<n->Ah lt (p.getD (i - 1) 0) (p.getD i 0)/\lt (p.getD (i - 1) 0) (p.getD i 0)=false
 join:∀ i,0<i->i+(q+1)=n->lt (p.getD i 0) (p.getD (i - 1) 0)=true
 len:q+1<=n
 top:n<=N
theorem Dn.alike (H:Lt lt) {p:Array Nat} {n q:Nat} (D:Dn N lt p n q):∀ d i j,i+d=j->n<=i+q+1->j<n->lt (p.getD i 0) (p.getD j 0)=false/\lt (p.getD j 0) (p.getD i 0)=false
 | 0,i,j,e,h1,h2=>by
  have:i=j:=by lia
  subst this
  cases e:lt (p.getD i 0) (p.getD i 0) with
  | false=>exact ⟨rfl,rfl⟩
  | true=>have:=H.asym _ _ e; rw [e] at this; cases this
 | d+1,i,j,e,h1,h2=>by
  obtain ⟨a,b⟩:=Dn.alike H D d i (j - 1) (by lia) h1 (by lia)
  obtain ⟨⟨c,_⟩,c'⟩:=D.like j (by lia) h2
  exact ⟨H.tr _ _ _ a c',H.tr _ _ _ c b⟩
theorem Dn.turn (H:Lt lt) {p:Array Nat} {q:Nat} (D:Dn N lt p n q):Tl N (kas_rev p (n - (q+1)) n) n/\(∀ i,0<i->i<n->Ah lt ((kas_rev p (n - (q+1)) n).getD i 0) ((kas_rev p (n - (q+1)) n).getD (i - 1) 0))/\
  (∀ x,lt x (p.getD (n - 1) 0)=true->lt x ((kas_rev p (n - (q+1)) n).getD (n - 1) 0)=true):=by
 have P:=eR D.perm
 have hn:n<=p.size:=by rw [P.sz]; exact D.top
 have hl:=D.len
 refine ⟨λ i h1 h2=>?_,λ i h1 h2=>?_,λ x hx=>?_⟩
 ·rw [bS hn,if_neg (by lia)]; exact D.tl i h1 h2
 ·rw [bS hn,bS hn]
  by_cases c1:n - (q+1)<=i
  ·rw [if_pos ⟨c1,h2⟩]
   by_cases c2:n - (q+1)<=i - 1
   ·rw [if_pos ⟨c2,by lia⟩]
    have:=(D.like (n - (q+1)+n - 1 - (i - 1)) (by lia) (by lia)).1
    rw [show n - (q+1)+n - 1 - (i - 1) - 1=n - (q+1)+n - 1 - i by lia] at this
    exact this
   ·rw [if_neg (by lia)]
    have ei:i=n - (q+1):=by lia
    rw [show n - (q+1)+n - 1 - i=n - 1 by lia]
    have j:=D.join i h1 (by lia)
    have k:=(D.alike H (n - 1 - i) i (n - 1) (by lia) (by lia) (by lia)).1
    exact Ah.of_lt H (i8 H j k)
  ·rw [if_neg (by lia),if_neg (by lia)]
   exact D.fall i h1 (by lia)
 ·rw [bS hn,if_pos (by lia),show n - (q+1)+n - 1 - (n - 1)=n - (q+1) by lia]
  have k:=(D.alike H (n - 1 - (n - (q+1))) (n - (q+1)) (n - 1) (by lia) (by lia) (by lia)).1
  exact kH H hx k
theorem fY (H:Lt lt):∀ (f:Nat) (p:Array Nat) (n q:Nat),Dn N lt p n q->n+f<=N->
  Sat N lt (kas_desc f p n q) (λ r=>Dn N lt r.1 r.2.1 r.2.2)
 | 0,p,n,q,D,_=>D
 | f+1,p,n,q,D,hN=>by
  have P:=eR D.perm
  have hl:=D.len
  have hn:n<=p.size:=by rw [P.sz]; exact D.top
  refine ⟨P.bd _ (by lia),P.bd _ (by lia),?_⟩
  cases e:lt (p.getD n 0) (p.getD (n - 1) 0) with
  | true=>
   simp only [if_true]
   have step:∀ p':Array Nat,p'.Perm (B8 (BC N))->Tl N p' n->(∀ i,0<i->i<n->Ah lt (p'.getD i 0) (p'.getD (i - 1) 0))->lt (p'.getD n 0) (p'.getD (n - 1) 0)=true->Dn N lt p' (n+1) 0:=
    λ p' a b c d=>⟨a,λ i h1 h2=>b i (by lia) h2,λ i h1 h2=>c i h1 (by lia),λ i h1 h2=>by lia,
     λ i h1 h2=>by (have:i=n:=(by lia)); subst this; exact d,by lia,by lia⟩
   by_cases hq:q > 0
   ·rw [if_pos hq]
    obtain ⟨t1,t2,t3⟩:=D.turn H
    refine fY H f _ (n+1) 0 (step _ (bf _ _ D.perm) t1 t2 ?_) (by lia)
    refine t3 _ ?_
    rw [bS hn,if_neg (by lia)]
    exact e
   ·rw [if_neg hq]
    have hq0:q=0:=by lia
    subst hq0
    refine fY H f _ (n+1) 0 (step _ D.perm D.tl (λ i h1 h2=>?_) e) (by lia)
    rcases CO (i+1) n with h | h
    ·exact D.fall i h1 h
    ·exact Ah.of_lt H (D.join i h1 (by lia))
  | false=>
   simp only [BG,if_false]
   refine ⟨P.bd _ (by lia),P.bd _ (by lia),?_⟩
   cases e2:lt (p.getD (n - 1) 0) (p.getD n 0) with
   | true=>
    simp only [if_true]
    exact D
   | false=>
    simp only [BG,if_false]
    refine fY H f p (n+1) (q+1) ⟨D.perm,λ i h1 h2=>D.tl i (by lia) h2,λ i h1 h2=>D.fall i h1 (by lia),λ i h1 h2=>?_,λ i h1 h2=>D.join i h1 (by lia),by lia,by lia⟩ (by lia)
    rcases CO i n with h | h
    ·exact D.like i (by lia) h
    ·have:i=n:=by lia
     subst this
     refine ⟨⟨e,λ _=>?_⟩,e2⟩
     rw [D.tl i (BD _) (by lia)]
     exact P.lo D.tl (by lia) D.top
structure Rn (N:Nat) (lt:Nat->Nat->Bool) (p:Array Nat) (m:Nat):Prop where
 perm:p.Perm (B8 (BC N))
 tl:Tl N p m
 up:Up lt p m
 top:m<=N
theorem Rn.longer (H:Lt lt) {p:Array Nat} (R:Rn N lt p n) (h1:1<=n) (h:n<=m) (hm:m<=N) (ha:∀ i,n<=i->i<m->lt (p.getD i 0) (p.getD (i - 1) 0)=false):Rn N lt p m:=by
 have P:=eR R.perm
 refine ⟨R.perm,λ i a b=>R.tl i (by lia) b,λ i a b=>?_,hm⟩
 rcases CO i n with c | c
 ·exact R.up i a c
 ·refine ⟨ha i c b,λ _=>?_⟩
  rw [R.tl i c (by lia)]
  exact P.lo (λ j x y=>R.tl j (by lia) y) (by lia) (by lia)
theorem mV (H:Lt lt) {p:Array Nat} (hp:p.Perm (B8 (BC N))) (T:Tl N p n) (hn:n<=N) (F:∀ i,0<i->i<n->Ah lt (p.getD i 0) (p.getD (i - 1) 0)):Rn N lt (kas_rev p 0 n) n:=by
 have P:=eR hp
 have hs:n<=p.size:=by rw [P.sz]; exact hn
 refine ⟨bf _ _ hp,λ i a b=>?_,λ i a b=>?_,hn⟩
 ·rw [bS hs,if_neg (by lia)]; exact T i a b
 ·rw [bS hs,bS hs,if_pos (by lia),if_pos (by lia)]
  have:=F (0+n - 1 - (i - 1)) (by lia) (by lia)
  rw [show 0+n - 1 - (i - 1) - 1=0+n - 1 - i by lia] at this
  exact this
theorem jJ (H:Lt lt) {p:Array Nat} (h1:1<=n) (hp:p.Perm (B8 (BC N))) (T:Tl N p n) (hn:n<=N) (F:∀ i,0<i->i<n->Ah lt (p.getD i 0) (p.getD (i - 1) 0)) :
  Sat N lt (kas_tail3 n N p) (λ r=>1<=r.1/\Rn N lt r.2 r.1):=by
 have R:=mV H hp T hn F
 refine Sat.bind (λ m hm=>?_) _ (kI (eR R.perm).bd (N - n) n h1 (by lia))
 exact ⟨by show 1<=m; lia,R.longer H h1 hm.1 (by lia) hm.2.2.1⟩
theorem fI (H:Lt lt) {p:Array Nat} (D:Dn N lt p (n+1) 0):Sat N lt (kas_descPart n N p) (λ r=>1<=r.1/\Rn N lt r.2 r.1):=by
 have:=D.top
 refine Sat.bind (λ r D'=>?_) _ (fY H (N - (n+1)) p (n+1) 0 D (by lia))
 have hl:=D'.len
 by_cases hq:r.2.2 > 0
 ·rw [if_pos hq]
  obtain ⟨t1,t2,_⟩:=D'.turn H
  exact jJ H (by lia) (bf _ _ D'.perm) t1 D'.top t2
 ·rw [if_neg hq]
  refine jJ H (by lia) D'.perm D'.tl D'.top λ i h1 h2=>?_
  rcases CO (i+(r.2.2+1)) r.2.1 with h | h
  ·exact D'.fall i h1 h
  ·exact Ah.of_lt H (D'.join i h1 (by lia))
theorem aV (i:Nat) (h:i<N):(B8 (BC N)).getD i 0=i:=by
 simp [Ce,h]
theorem oO (H:Lt lt) (h1:1<=N):Sat N lt (kas_count N (B8 (BC N))) (λ r=>1<=r.1/\Rn N lt r.2 r.1):=by
 have hp:(B8 (BC N)).Perm (B8 (BC N)):=Ju _
 have P:=eR hp
 have R1:Rn N lt (B8 (BC N)) 1:=⟨hp,λ i a b=>aV i b,λ i a b=>by lia,h1⟩
 refine Sat.bind (λ n hn=>?_) _ (kI P.bd (N - 1) 1 (BD _) (by lia))
 obtain ⟨a,b,c,d⟩:=hn
 have R:=R1.longer H (BD _) a (by lia) c
 by_cases e:n=N
 ·rw [if_pos (by simp [e])]; exact ⟨a,R⟩
 ·rw [if_neg (by simp [e])]
  have dd:=d (by lia)
  rw [aV _ (by lia),aV _ (by lia)] at dd
  by_cases h:n > 1
  ·rw [if_pos h]
   refine ⟨P.bd _ (by lia),P.bd _ (by lia),?_⟩
   rw [aV _ (by lia),aV _ (by lia)]
   cases e2:lt 0 (n - 1) with
   | true=>
    simp only [if_true]
    exact ⟨a,R⟩
   | false=>
    simp only [BG,if_false]
    have hs:n<=(B8 (BC N)).size:=by simp; lia
    have le:∀ i j,i<j->j<n->lt j i=false:=λ i j x y=>by
     have:=(R.up.at H x y).1
     rwa [aV _ (by lia),aV _ (by lia)] at this
    have ge:∀ i j,i<j->j<n->lt i j=false:=λ i j x y=>by
     have p1:lt i 0=false:=by
      rcases Ez i with rfl | q
      ·cases e5:lt 0 0 with
       | false=>rfl
       | true=>have:=H.asym _ _ e5; rw [e5] at this; cases this
      ·exact le 0 i q (by lia)
     have p2:lt (n - 1) j=false:=by
      rcases CO j (n - 1) with q | q
      ·exact le j (n - 1) q (by lia)
      ·have:j=n - 1:=by lia
       subst this
       cases e5:lt (n - 1) (n - 1) with
       | false=>rfl
       | true=>have:=H.asym _ _ e5; rw [e5] at this; cases this
     exact H.tr _ _ _ p1 (H.tr _ _ _ e2 p2)
    have g:∀ i,i<N->(kas_rev (B8 (BC N)) 0 n).getD i 0=if i<n then n - 1 - i else i:=λ i hi=>by
     rw [bS hs]
     by_cases q:i<n
     ·rw [if_pos (by lia),if_pos q,aV _ (by lia)]; lia
     ·rw [if_neg (by lia),if_neg q,aV _ hi]
    refine fI H ⟨bf _ _ hp,λ i x y=>?_,λ i x y=>?_,λ i x y=>by lia,λ i x y=>?_,by lia,by lia⟩
    ·rw [g i y,if_neg (by lia)]
    ·rw [g i (by lia),g (i - 1) (by lia),if_pos (by lia),if_pos (by lia)]
     exact ⟨le _ _ (by lia) (by lia),λ _=>by lia⟩
    ·have ei:i=n:=by lia
     subst ei
     rw [g i (by lia),g (i - 1) (by lia),if_neg (by lia),if_pos (by lia),show i - 1 - (i - 1)=0 by lia]
     exact kH H dd e2
  ·rw [if_neg h]
   have:n=1:=by lia
   subst this
   refine fI H ⟨hp,λ i x y=>aV i y,λ i x y=>by lia,λ i x y=>by lia,λ i x y=>?_,by lia,by lia⟩
   have:i=1:=by lia
   subst this
   rw [aV _ (by lia),aV _ (by lia)]
   exact dd
theorem Rn.put (H:Lt lt) {p:Array Nat} (R:Rn N lt p k) (hk:k<N) (hm:m<=k) (a:∀ i,i<m->lt k (p.getD i 0)=false) (b:∀ i,m<=i->i<k->lt k (p.getD i 0)=true):Rn N lt (bubble p k (k - m)) (k+1):=by
 have P:=eR R.perm
 have hs:k<p.size:=by rw [P.sz]; exact hk
 have ek:p.getD k 0=k:=R.tl k (BD _) hk
 refine ⟨i9 _ _ R.perm,λ i x y=>?_,λ i x y=>?_,hk⟩
 ·rw [fX hs hm,if_neg (by lia),if_neg (by lia)]; exact R.tl i (by lia) y
 ·rw [fX hs hm,fX hs hm,ek]
  rcases CO i m with c | c
  ·rw [if_neg (by lia),if_neg (by lia),if_neg (by lia),if_neg (by lia)]
   exact R.up i x (by lia)
  ·by_cases c1:i=m
   ·rw [if_neg (by lia),if_neg (by lia),if_pos c1]
    exact ⟨a _ (by lia),λ _=>P.lo R.tl (by lia) (by lia)⟩
   ·by_cases c2:i=m+1
    ·rw [if_pos (by lia),if_neg (by lia),if_pos (by lia)]
     exact Ah.of_lt H (b _ (by lia) (by lia))
    ·rw [if_neg (by lia),if_pos (by lia),if_neg (by lia),if_pos (by lia)]
     exact R.up (i - 1) (by lia) (by lia)
end
noncomputable abbrev SM:=StateT SortSt Sem
structure Orc where
 prog:Program
 w:World
 A:Around
 E:Value->Shared->Prop
 κ:SortKind
 it:Array Keyed
 N:Nat
 lt:Nat->Nat->Bool
 I:Shared->Prop
 hc:∀ i j s,i<N->j<N->I s->kas_cmp prog w A κ it i j (λ b s'=>b=lt i j/\I s') s
structure Ab where
 p:Array Nat
 pd:Array (Nat×Nat×Nat)
 mg:Nat
noncomputable def Ab.st (O:Orc) (b:Ab):SortSt:=DD O.κ (b.p.map (kas_item O.it)) b.pd b.mg none
noncomputable def W (O:Orc) {α:Type} (m:SM α) (Q:α->Ab->Prop) (b:Ab):Prop:=
 ∀ s,O.I s->kasC (model O.prog O.w) O.A O.E m (λ a st s'=>O.I s'/\∃ b':Ab,st=b'.st O/\Q a b') (b.st O) s
section
variable {O:Orc} {α β:Type} {b:Ab}
theorem W.pure {a:α} {Q:α->Ab->Prop} (h:Q a b):W O (K8 a) Q b:=λ s hs=>kasC_pure ⟨hs,b,rfl,h⟩
theorem W.bind {m:SM α} {f:α->SM β} {Q:β->Ab->Prop} (h:W O m (λ a b'=>W O (f a) Q b') b):W O (m >>= f) Q b:=λ s hs=>
 kasC_bind (wpAny_mono (h s hs) (λ r s' ⟨i,b',e,q⟩=>by rw [e]; exact q s' i) λ _ _ z=>z)
theorem W.mono {m:SM α} {Q Q':α->Ab->Prop} (h:W O m Q b) (k:∀ a b',Q a b'->Q' a b'):W O m Q' b:=λ s hs=>
 wpAny_mono (h s hs) (λ r s' ⟨i,b',e,q⟩=>⟨i,b',e,k _ _ q⟩) λ _ _ z=>z
theorem W.ite {c:Prop} [Decidable c] {m m':SM α} {Q:α->Ab->Prop} (h:c->W O m Q b) (h':¬ c->W O m' Q b):W O (if c then m else m') Q b:=by
 by_cases q:c
 ·rw [if_pos q]; exact h q
 ·rw [if_neg q]; exact h' q
theorem W.get {Q:SortSt->Ab->Prop} (h:Q (b.st O) b):W O (JD:SM SortSt) Q b:=λ s hs=>kasC_get ⟨hs,b,rfl,h⟩
theorem W.modify {f:SortSt->SortSt} {Q:PUnit->Ab->Prop} (b':Ab) (e:f (b.st O)=b'.st O) (h:Q ⟨⟩ b'):W O (_root_.modify f:SM PUnit) Q b:=λ s hs=>kasC_modify ⟨hs,b',e,h⟩
theorem W.rule {r:String} {Q:Unit->Ab->Prop} (h:Q () b):W O (liftM (PySem.rule r):SM Unit) Q b:=λ s hs=>kasC_lift (wpAny_rule ⟨hs,b,rfl,h⟩)
theorem W.lt {Q:Option Bool->Ab->Prop} (hi:i<O.N) (hj:j<O.N) (h:Q (some (O.lt i j)) b):W O (lt' (kas_item O.it i) (kas_item O.it j)) Q b:=λ s hs=>by
 rw [lt'_eq]
 refine kasC_bind (kasC_get ?_)
 refine kasC_bind (kasC_lift (wpAny_attempt (wpAny_mono (O.hc i j s hi hj hs) (λ c s' hc=>?_) λ _ _ hF=>hF.elim)))
 obtain ⟨rfl,hs'⟩:=hc
 exact kasC_pure ⟨hs',b,rfl,h⟩
theorem xM {xs:Array Nat} (h:k<xs.size) (f:Nat->Keyed):(xs.map f)[k]? = some (f (xs.getD k 0)):=by
 have e:xs.getD k 0=xs[k]:=by simp [Ce,h]
 rw [e]; simp [h]
theorem W.elem {xs:Array Nat} {Q:Keyed->Ab->Prop} (hk:k<xs.size) (h:Q (kas_item O.it (xs.getD k 0)) b):W O (elem' (xs.map (kas_item O.it)) k) Q b:=by
 rw [elem'_eq,xM hk]; exact W.pure h
theorem W.ltAt {Q:Option Bool->Ab->Prop} (hi:i<b.p.size) (hj:j<b.p.size) (hN:∀ k,k<b.p.size->b.p.getD k 0<O.N) (h:Q (some (O.lt (b.p.getD i 0) (b.p.getD j 0))) b):W O (ltAt' i j) Q b:=by
 rw [ltAt'_eq]
 refine W.bind (W.get ?_)
 exact W.bind (W.elem hi (W.bind (W.elem hj (W.lt (hN i hi) (hN j hj) h))))
theorem W.forIn {γ:Type} {l:List Nat} {c:γ} {f:Nat->γ->SM (ForInStep γ)} {D:γ->Ab->Prop} (J:Nat->γ->Ab->Prop) (h0:J l.length c b)
  (hs:∀ x k c b,J (k+1) c b->W O (f x c) (λ r b'=>match r with | .done c'=>D c' b' | .yield c'=>J k c' b') b) (hd:∀ c b,J 0 c b->D c b):W O (Hg l c f) D b:=by
 induction l generalizing c b with
 | nil=>exact λ s hi=>kasC_nil ⟨hi,b,rfl,hd c b h0⟩
 | cons x l ih=>
  intro s hi
  refine kasC_cons (wpAny_mono (hs x l.length c b h0 s hi) (λ r s' ⟨i,b',e,q⟩=>?_) λ _ _ z=>z)
  obtain ⟨r,st⟩:=r
  have e:st=b'.st O:=e
  subst e
  cases r with
  | done c'=>exact ⟨i,b',rfl,q⟩
  | yield c'=>exact ih q s' i
theorem W.range {γ:Type} {x y:Nat} {c:γ} {f:Nat->γ->SM (ForInStep γ)} {D:γ->Ab->Prop} (J:Nat->γ->Ab->Prop) (h0:J (y - x) c b)
  (hs:∀ x k c b,J (k+1) c b->W O (f x c) (λ r b'=>match r with | .done c'=>D c' b' | .yield c'=>J k c' b') b) (hd:∀ c b,J 0 c b->D c b):W O (Hg [x:y] c f) D b:=λ s hi=>
 kasC_range (W.forIn (l:=Co x (y - x)) J (by rw [List.length_range']; exact h0) hs hd s hi)
end
noncomputable def gal:Bool->Keyed->Array Keyed->Nat->Nat->Nat->SM (Option Nat):=sortPriv% PySem.Builtin.gallop
noncomputable def byd (lf:Bool) (ky:Keyed) (ar:Array Keyed) (bs i:Nat):SM (Option Bool):=do
 let z <-elem' ar (bs+i)
 if lf then lt' z ky else return (<-lt' ky z).map (!·)
theorem xN (lf:Bool) (ky:Keyed) (ar:Array Keyed) (bs m hn:Nat):gal lf ky ar bs m hn=(do
 let mut lo1:=0
 let mut of1:=1
 let mut a1:=0
 let mut b1:=0
 let some rt <-byd lf ky ar bs hn | return none
 if rt then
  let mx:=m - hn
  for _ in [0:m] do
   if of1>=mx then break
   let some mo <-byd lf ky ar bs (hn+of1) | return none
   if !mo then break
   lo1:=of1
   of1:=2*of1+1
  a1:=hn+lo1+1
  b1:=hn+min of1 mx
 else
  let mx:=hn+1
  for _ in [0:m] do
   if of1>=mx then break
   let some fd <-byd lf ky ar bs (hn - of1) | return none
   if fd then break
   lo1:=of1
   of1:=2*of1+1
  a1:=hn+1 - min of1 mx
  b1:=hn - lo1
 for _ in [0:m] do
  if a1>=b1 then break
  let md:=a1+(b1 - a1) / 2
  let some mo <-byd lf ky ar bs md | return none
  if mo then a1:=md+1 else b1:=md
 return some b1):=rfl
section
variable {O:Orc} {b:Ab}
noncomputable def bey (O:Orc) (lf:Bool) (k:Nat) (xs:Array Nat) (bs i:Nat):Bool:=if lf then O.lt (xs.getD (bs+i) 0) k else !(O.lt k (xs.getD (bs+i) 0))
theorem W.byd {lf:Bool} {k:Nat} {xs:Array Nat} {bs i:Nat} {Q:Option Bool->Ab->Prop} (hk:k<O.N) (hx:∀ j,j<xs.size->xs.getD j 0<O.N) (hi:bs+i<xs.size) (h:Q (some (bey O lf k xs bs i)) b) :
  W O (byd lf (kas_item O.it k) (xs.map (kas_item O.it)) bs i) Q b:=by
 unfold L2.byd
 refine W.bind (W.elem hi ?_)
 unfold bey at h
 cases lf with
 | true=>
  rw [if_pos rfl] at h ⊢
  exact W.lt (hx _ hi) hk h
 | false=>
  rw [if_neg BW] at h ⊢
  exact W.bind (W.lt hk (hx _ hi) (W.pure h))
theorem W.gal {lf:Bool} {xs:Array Nat} {bs hn K:Nat} {Q:Option Nat->Ab->Prop} (hk:k<O.N) (hx:∀ j,j<xs.size->xs.getD j 0<O.N) (hm:bs+m<=xs.size) (hh:hn<m) (hK:K<=m)
  (h1:∀ i,i<K->bey O lf k xs bs i=true) (h2:∀ i,K<=i->i<m->bey O lf k xs bs i=false) (h:Q (some K) b):W O (gal lf (kas_item O.it k) (xs.map (kas_item O.it)) bs m hn) Q b:=by
 have yes:∀ {i},bey O lf k xs bs i=true->i<m->i<K:=λ {i} e hi=>by
  rcases CO i K with z | z
  ·exact z
  ·rw [h2 i z hi] at e; cases e
 have no:∀ {i},bey O lf k xs bs i=false->K<=i:=λ {i} e=>by
  rcases CO i K with z | z
  ·rw [h1 i z] at e; cases e
  ·exact z
 rw [xN]
 refine W.bind (W.byd hk hx (by lia) ?_)
 dsimp only
 cases e0:bey O lf k xs bs hn with
 | true=>
  simp only [if_true]
  have h0:=yes e0 hh
  refine W.bind (W.range (D:=λ c b'=>b'=b/\c.1=none/\hn+c.2.1<K/\K<=hn+min c.2.2 (m - hn)) (λ j c b'=>b'=b/\c.1=none/\hn+c.2.1<K/\m+1<=c.2.2+j) ⟨rfl,rfl,h0,by simp; lia⟩ ?_ ?_ |>.mono λ c b' hc=>?_)
  ·rintro x j ⟨c1,c2,c3⟩ b' ⟨eb,e1,e2,e3⟩
   subst b'
   dsimp only at e1 e2 e3 ⊢
   subst e1
   by_cases hge:c3>=m - hn
   ·rw [if_pos hge]
    exact W.pure ⟨rfl,rfl,e2,by show K<=hn+min c3 (m - hn); lia⟩
   ·rw [if_neg hge]
    refine W.bind (W.byd hk hx (by lia) ?_)
    cases e:bey O lf k xs bs (hn+c3) with
    | true=>
     simp only [DJ,BG,if_false]
     have:=yes e (by lia)
     exact W.pure ⟨rfl,rfl,this,by show m+1<=2*c3+1+j; lia⟩
    | false=>
     simp only [JE,if_true]
     have:=no e
     exact W.pure ⟨rfl,rfl,e2,by show K<=hn+min c3 (m - hn); lia⟩
  ·rintro ⟨c1,c2,c3⟩ b' ⟨eb,e1,e2,e3⟩
   subst b'
   exact ⟨rfl,e1,e2,by show K<=hn+min c3 (m - hn); dsimp only at e3; lia⟩
  ·obtain ⟨c1,c2,c3⟩:=c
   obtain ⟨eb,e1,e2,e3⟩:=hc
   subst b'
   dsimp only at e1 e2 e3 ⊢
   subst e1
   dsimp only
   refine W.bind (W.range (D:=λ c b'=>b'=b/\c.1=none/\c.2.2=K) (λ j c b'=>b'=b/\c.1=none/\c.2.1<=K/\K<=c.2.2/\c.2.2<=m/\c.2.2 - c.2.1<=j) ⟨rfl,rfl,by show hn+c2+1<=K; lia,by show K<=hn+min c3 (m - hn); exact e3,by show hn+min c3 (m - hn)<=m; lia,by show hn+min c3 (m - hn) - (hn+c2+1)<=m - 0; lia⟩ ?_ ?_ |>.mono λ c b' hc=>?_)
   ·rintro x j ⟨c1,c2,c3⟩ b' ⟨eb,e1,e2,e3,e4,e5⟩
    subst b'
    dsimp only at e1 e2 e3 e4 e5 ⊢
    subst e1
    by_cases hge:c2>=c3
    ·rw [if_pos hge]
     exact W.pure ⟨rfl,rfl,by show c3=K; lia⟩
    ·rw [if_neg hge]
     refine W.bind (W.byd hk hx (by lia) ?_)
     cases e:bey O lf k xs bs (c2+(c3 - c2) / 2) with
     | true=>
      simp only [if_true]
      have:=yes e (by lia)
      exact W.pure ⟨rfl,rfl,by show c2+(c3 - c2) / 2+1<=K; lia,e3,e4,by show c3 - (c2+(c3 - c2) / 2+1)<=j; lia⟩
     | false=>
      simp only [BG,if_false]
      have:=no e
      exact W.pure ⟨rfl,rfl,e2,this,by show c2+(c3 - c2) / 2<=m; lia,by show c2+(c3 - c2) / 2 - c2<=j; lia⟩
   ·rintro ⟨c1,c2,c3⟩ b' ⟨eb,e1,e2,e3,e4,e5⟩
    subst b'
    exact ⟨rfl,e1,by show c3=K; dsimp only at e2 e3 e5; lia⟩
   ·obtain ⟨c1,c2,c3⟩:=c
    obtain ⟨eb,e1,e2⟩:=hc
    subst b'
    dsimp only at e1 e2 ⊢
    subst e1 e2
    exact W.pure h
 | false=>
  simp only [BG,if_false]
  have h0:=no e0
  refine W.bind (W.range (D:=λ c b'=>b'=b/\c.1=none/\K+c.2.1<=hn/\hn+1 - min c.2.2 (hn+1)<=K) (λ j c b'=>b'=b/\c.1=none/\K+c.2.1<=hn/\m+1<=c.2.2+j) ⟨rfl,rfl,h0,by simp; lia⟩ ?_ ?_ |>.mono λ c b' hc=>?_)
  ·rintro x j ⟨c1,c2,c3⟩ b' ⟨eb,e1,e2,e3⟩
   subst b'
   dsimp only at e1 e2 e3 ⊢
   subst e1
   by_cases hge:c3>=hn+1
   ·rw [if_pos hge]
    exact W.pure ⟨rfl,rfl,e2,by show hn+1 - min c3 (hn+1)<=K; lia⟩
   ·rw [if_neg hge]
    refine W.bind (W.byd hk hx (by lia) ?_)
    cases e:bey O lf k xs bs (hn - c3) with
    | true=>
     simp only [if_true]
     have:=yes e (by lia)
     exact W.pure ⟨rfl,rfl,e2,by show hn+1 - min c3 (hn+1)<=K; lia⟩
    | false=>
     simp only [BG,if_false]
     have:=no e
     exact W.pure ⟨rfl,rfl,by show K+c3<=hn; lia,by show m+1<=2*c3+1+j; lia⟩
  ·rintro ⟨c1,c2,c3⟩ b' ⟨eb,e1,e2,e3⟩
   subst b'
   exact ⟨rfl,e1,e2,by show hn+1 - min c3 (hn+1)<=K; dsimp only at e3; lia⟩
  ·obtain ⟨c1,c2,c3⟩:=c
   obtain ⟨eb,e1,e2,e3⟩:=hc
   subst b'
   dsimp only at e1 e2 e3 ⊢
   subst e1
   dsimp only
   refine W.bind (W.range (D:=λ c b'=>b'=b/\c.1=none/\c.2.2=K) (λ j c b'=>b'=b/\c.1=none/\c.2.1<=K/\K<=c.2.2/\c.2.2<=m/\c.2.2 - c.2.1<=j) ⟨rfl,rfl,by show hn+1 - min c3 (hn+1)<=K; exact e3,by show K<=hn - c2; lia,by show hn - c2<=m; lia,by show hn - c2 - (hn+1 - min c3 (hn+1))<=m - 0; lia⟩ ?_ ?_ |>.mono λ c b' hc=>?_)
   ·rintro x j ⟨c1,c2,c3⟩ b' ⟨eb,e1,e2,e3,e4,e5⟩
    subst b'
    dsimp only at e1 e2 e3 e4 e5 ⊢
    subst e1
    by_cases hge:c2>=c3
    ·rw [if_pos hge]
     exact W.pure ⟨rfl,rfl,by show c3=K; lia⟩
    ·rw [if_neg hge]
     refine W.bind (W.byd hk hx (by lia) ?_)
     cases e:bey O lf k xs bs (c2+(c3 - c2) / 2) with
     | true=>
      simp only [if_true]
      have:=yes e (by lia)
      exact W.pure ⟨rfl,rfl,by show c2+(c3 - c2) / 2+1<=K; lia,e3,e4,by show c3 - (c2+(c3 - c2) / 2+1)<=j; lia⟩
     | false=>
      simp only [BG,if_false]
      have:=no e
      exact W.pure ⟨rfl,rfl,e2,this,by show c2+(c3 - c2) / 2<=m; lia,by show c2+(c3 - c2) / 2 - c2<=j; lia⟩
   ·rintro ⟨c1,c2,c3⟩ b' ⟨eb,e1,e2,e3,e4,e5⟩
    subst b'
    exact ⟨rfl,e1,by show c3=K; dsimp only at e2 e3 e5; lia⟩
   ·obtain ⟨c1,c2,c3⟩:=c
    obtain ⟨eb,e1,e2⟩:=hc
    subst b'
    dsimp only at e1 e2 ⊢
    subst e1 e2
    exact W.pure h
end
noncomputable def setMG:Nat->SM Unit:=sortPriv% PySem.Builtin.setMinGallop
noncomputable def mLo:Array Keyed->Array Keyed->SM (Array Keyed):=sortPriv% PySem.Builtin.mergeLo
theorem rm (g:Nat):setMG g=_root_.modify λ st=>DD (kindOf st) (arrOf st) (pendingOf st) g (failedOf st):=rfl
theorem xO (a b:Array Keyed):mLo a b=(do
 rule "list.sort.merge-lo"
 let tt:=a.size+b.size
 let dn (o:Array Keyed) (i j:Nat):=o++a.extract i a.size++b.extract j b.size
 let la (o:Array Keyed) (i j:Nat):=o++b.extract j b.size++a.extract i a.size
 let mut o:Array Keyed:=#[<-elem' b 0]
 let mut i:=0
 let mut j:=1
 if j == b.size then return dn o i j
 if i+1 == a.size then return la o i j
 let mut mg:=gallopOf (<-get)
 for _ in [0:tt] do
  let mut ca:=0
  let mut cb:=0
  for _ in [0:tt] do
   let some bw <-lt' (<-elem' b j) (<-elem' a i) | return dn o i j
   if bw then
    o:=o.push (<-elem' b j); j:=j+1; cb:=cb+1; ca:=0
    if j == b.size then return dn o i j
    if cb>=mg then break
   else
    o:=o.push (<-elem' a i); i:=i+1; ca:=ca+1; cb:=0
    if i+1 == a.size then return la o i j
    if ca>=mg then break
  rule "list.sort.gallop"
  mg:=mg+1
  for _ in [0:tt] do
   if mg > 1 then mg:=mg - 1
   setMG mg
   let some k <-gal false (<-elem' b j) a i (a.size - i) 0 | return dn o i j
   ca:=k
   if k > 0 then
    o:=o++a.extract i (i+k); i:=i+k
    if i+1 == a.size then return la o i j
    if i == a.size then return dn o i j
   o:=o.push (<-elem' b j); j:=j+1
   if j == b.size then return dn o i j
   let some k <-gal true (<-elem' a i) b j (b.size - j) 0 | return dn o i j
   cb:=k
   if k > 0 then
    o:=o++b.extract j (j+k); j:=j+k
    if j == b.size then return dn o i j
   o:=o.push (<-elem' a i); i:=i+1
   if i+1 == a.size then return la o i j
   if ca<7 && cb<7 then break
  mg:=mg+1
  setMG mg
 unsupported "internal:list.sort.merge-bound"):=rfl
section
variable {O:Orc} {b:Ab}
theorem W.setMG {g:Nat} {Q:Unit->Ab->Prop} (h:Q () { b with mg:=g }):W O (setMG g) Q b:=by
 rw [rm]; exact W.modify { b with mg:=g } rfl h
structure Two (O:Orc) (xs ys:Array Nat):Prop where
 H:Lt O.lt
 nx:∀ i,i<xs.size->xs.getD i 0<O.N
 ny:∀ i,i<ys.size->ys.getD i 0<O.N
 sx:xs.toList.Pairwise (Ah O.lt)
 sy:ys.toList.Pairwise (Ah O.lt)
 xy:∀ x∈xs.toList,∀ y∈ys.toList,x<y
 x1:0<xs.size
 y1:0<ys.size
noncomputable def kJ (O:Orc) (xs ys:Array Nat) (rs:Array Nat):Prop:=rs.toList.Perm (xs.toList++ys.toList)/\rs.toList.Pairwise (Ah O.lt)
structure Lw (O:Orc) (xs ys os:Array Nat) (i j:Nat):Prop where
 pm:(os.toList++(xs.toList.drop i++ys.toList.drop j)).Perm (xs.toList++ys.toList)
 sa:(os.toList++xs.toList.drop i).Pairwise (Ah O.lt)
 sb:(os.toList++ys.toList.drop j).Pairwise (Ah O.lt)
 ti:i<=xs.size
 tj:j<=ys.size
theorem fq {xs:Array Nat} (h:i<xs.size):xs.toList.drop i=xs.getD i 0::xs.toList.drop (i+1):=by
 have h':i<xs.toList.length:=by simpa using h
 rw [Dc h']
 congr 1
 simp [Ce,h]
variable {xs ys os:Array Nat} {i j k:Nat}
theorem jK {i:Nat} (h:i<xs.size):xs.getD i 0∈xs.toList:=by
 have:xs.getD i 0=xs[i]:=by simp [Ce,h]
 rw [this]; simp
theorem Two.ah (T:Two O xs ys) {x y:Nat} (hx:x∈xs.toList) (hy:y∈ys.toList) (h:O.lt y x=false):Ah O.lt x y:=⟨h,λ _=>T.xy x hx y hy⟩
theorem ft (xs:Array Nat) (i:Nat):(xs.extract i xs.size).toList=xs.toList.drop i:=by
 rw [DE,C6]
 exact BF (by simp)
theorem Lw.done (L:Lw O xs ys os i j) (h:j=ys.size):kJ O xs ys (os++xs.extract i xs.size++ys.extract j ys.size):=by
 subst h
 have e:(os++xs.extract i xs.size++ys.extract ys.size ys.size).toList=os.toList++xs.toList.drop i:=by rw [CL,CL,ft,ft]; simp
 have pm:=L.pm
 have e2:ys.toList.drop ys.size=[]:=by simp
 rw [e2,C9] at pm
 exact ⟨by rw [e]; exact pm,by rw [e]; exact L.sa⟩
theorem Lw.done2 (L:Lw O xs ys os i j) (h:i=xs.size):kJ O xs ys (os++xs.extract i xs.size++ys.extract j ys.size):=by
 subst h
 have e:(os++xs.extract xs.size xs.size++ys.extract j ys.size).toList=os.toList++ys.toList.drop j:=by rw [CL,CL,ft,ft]; simp
 have pm:=L.pm
 have e2:xs.toList.drop xs.size=[]:=by simp
 rw [e2,DS] at pm
 exact ⟨by rw [e]; exact pm,by rw [e]; exact L.sb⟩
theorem Lw.last (T:Two O xs ys) (L:Lw O xs ys os i j) (h:i+1=xs.size) (hl:∀ y∈ys.toList,O.lt y (xs.getD (xs.size - 1) 0)=true):kJ O xs ys (os++ys.extract j ys.size++xs.extract i xs.size):=by
 have e:(os++ys.extract j ys.size++xs.extract i xs.size).toList=os.toList++ys.toList.drop j++xs.toList.drop i:=by rw [CL,CL,ft,ft]
 refine ⟨?_,?_⟩
 ·rw [e,Cu]
  exact ((DC _).append Hq).trans L.pm
 ·rw [e]
  have hd:xs.toList.drop i=[xs.getD (xs.size - 1) 0]:=by
   rw [fq (by lia)]
   have:xs.toList.drop (i+1)=[]:=by rw [h]; simp
   rw [this,show xs.size - 1=i by lia]
  refine BR.mpr ⟨L.sb,(BR.mp L.sa).2.1,λ a ha c hc=>?_⟩
  rcases BY.mp ha with ha | ha
  ·exact (BR.mp L.sa).2.2 a ha c hc
  ·rw [hd] at hc
   rw [BH.mp hc]
   exact Ah.of_lt T.H (hl a (Da ha))
theorem Lw.stepB (T:Two O xs ys) (L:Lw O xs ys os i j) (hi:i<xs.size) (hj:j<ys.size) (h:O.lt (ys.getD j 0) (xs.getD i 0)=true):Lw O xs ys (os.push (ys.getD j 0)) i (j+1):=by
 have e:(os.push (ys.getD j 0)).toList=os.toList++[ys.getD j 0]:=by simp
 have hy:=fq hj
 have pm:=L.pm; have sa:=L.sa; have sb:=L.sb
 rw [hy] at pm sb
 refine ⟨?_,?_,?_,L.ti,by lia⟩
 ·rw [e,Cu]
  refine E6 (D9 _ ?_) pm
  exact (EY (a:=ys.getD j 0) (l₁:=xs.toList.drop i)).symm
 ·rw [e,Cu]
  obtain ⟨s1,s2,s3⟩:=BR.mp sa
  obtain ⟨t1,t2,t3⟩:=BR.mp sb
  refine BR.mpr ⟨s1,Dk.mpr ⟨λ c hc=>?_,s2⟩,λ a ha c hc=>?_⟩
  ·rw [fq hi] at hc s2
   rcases BS.mp hc with rfl | hc
   ·exact Ah.of_lt T.H h
   ·exact (Ah.of_lt T.H h).trans T.H ((Dk.mp s2).1 c hc)
  ·rcases BS.mp hc with rfl | hc
   ·exact t3 a ha _ (Cb ..)
   ·exact s3 a ha c hc
 ·rw [e,Cu]; exact sb
theorem Lw.stepA (T:Two O xs ys) (L:Lw O xs ys os i j) (hi:i<xs.size) (hj:j<ys.size) (h:O.lt (ys.getD j 0) (xs.getD i 0)=false):Lw O xs ys (os.push (xs.getD i 0)) (i+1) j:=by
 have e:(os.push (xs.getD i 0)).toList=os.toList++[xs.getD i 0]:=by simp
 have hx:=fq hi
 have pm:=L.pm; have sa:=L.sa; have sb:=L.sb
 rw [hx] at pm sa
 refine ⟨?_,?_,?_,by lia,L.tj⟩
 ·rw [e,Cu]; exact pm
 ·rw [e,Cu]; exact sa
 ·rw [e,Cu]
  obtain ⟨s1,s2,s3⟩:=BR.mp sa
  obtain ⟨t1,t2,t3⟩:=BR.mp sb
  have h0:Ah O.lt (xs.getD i 0) (ys.getD j 0):=T.ah (jK hi) (jK hj) h
  refine BR.mpr ⟨s1,Dk.mpr ⟨λ c hc=>?_,t2⟩,λ a ha c hc=>?_⟩
  ·rw [fq hj] at hc t2
   rcases BS.mp hc with rfl | hc
   ·exact h0
   ·exact h0.trans T.H ((Dk.mp t2).1 c hc)
  ·rcases BS.mp hc with rfl | hc
   ·exact s3 a ha _ (Cb ..)
   ·exact t3 a ha c hc
theorem lN {os xs:Array Nat} {i k:Nat} (h:i+k<xs.size):(os++xs.extract i (i+k)).push (xs.getD (i+k) 0)=os++xs.extract i (i+(k+1)):=by
 apply Du.mp
 have e:xs.getD (i+k) 0=xs[i+k]:=by simp [Ce,h]
 rw [e]
 simp only [EL,CL,DE,Cu]
 congr 1
 have hl:k<(xs.toList.drop i).length:=by simp; lia
 rw [C6,C6,show i+k - i=k by lia,show i+(k+1) - i=k+1 by lia,DM hl]
 simp
theorem Lw.manyA (T:Two O xs ys) (hj:j<ys.size):∀ k,Lw O xs ys os i j->i+k<=xs.size->(∀ d,d<k->O.lt (ys.getD j 0) (xs.getD (i+d) 0)=false)->Lw O xs ys (os++xs.extract i (i+k)) (i+k) j
 | 0,L,_,_=>by
  have e:os++xs.extract i (i+0)=os:=by apply Du.mp; simp
  rw [e]; exact L
 | k+1,L,hk,h=>by
  have L':=Lw.manyA T hj k L (by lia) λ d hd=>h d (by lia)
  have:=L'.stepA T (by lia) hj (h k (by lia))
  rw [lN (by lia)] at this
  exact this
theorem Lw.manyB (T:Two O xs ys) (hi:i<xs.size):∀ k,Lw O xs ys os i j->j+k<=ys.size->(∀ d,d<k->O.lt (ys.getD (j+d) 0) (xs.getD i 0)=true)->Lw O xs ys (os++ys.extract j (j+k)) i (j+k)
 | 0,L,_,_=>by
  have e:os++ys.extract j (j+0)=os:=by apply Du.mp; simp
  rw [e]; exact L
 | k+1,L,hk,h=>by
  have L':=Lw.manyB T hi k L (by lia) λ d hd=>h d (by lia)
  have:=L'.stepB T hi (by lia) (h k (by lia))
  rw [lN (by lia)] at this
  exact this
theorem iq {P:Nat->Bool}:∀ (m:Nat),(∀ i j,i<=j->j<m->P j=true->P i=true)->∃ K,K<=m/\(∀ i,i<K->P i=true)/\∀ i,K<=i->i<m->P i=false
 | 0,_=>⟨0,BD _,λ i h=>absurd h (FM _),λ i _ h=>absurd h (FM _)⟩
 | m+1,h=>by
  obtain ⟨K,a,c,d⟩:=iq m λ i j h1 h2 h3=>h i j h1 (by lia) h3
  cases e:P m with
  | true=>exact ⟨m+1,BD _,λ i hi=>h i m (by lia) (by lia) e,λ i h1 h2=>by lia⟩
  | false=>
   refine ⟨K,by lia,c,λ i h1 h2=>?_⟩
   rcases CO i m with z | z
   ·exact d i h1 z
   ·have:i=m:=by lia
    subst this; exact e
theorem xP {xs:Array Nat} (h:xs.toList.Pairwise (Ah O.lt)) {i j:Nat} (hij:i<j) (hj:j<xs.size):Ah O.lt (xs.getD i 0) (xs.getD j 0):=by
 have:=Ct.mp h i j (by simp; lia) (by simpa using hj) hij
 have e1:xs.getD i 0=xs[i]:=by simp [Ce,show i<xs.size by lia]
 have e2:xs.getD j 0=xs[j]:=by simp [Ce,hj]
 rw [e1,e2]; simpa using this
theorem Two.monoA (T:Two O xs ys) {y d:Nat} (h1:c<=d) (h2:i+d<xs.size) (h3:bey O false y xs i d=true):bey O false y xs i c=true:=by
 simp only [bey,BG,if_false,GC] at h3 ⊢
 rcases Dj h1 with rfl | h1
 ·exact h3
 ·exact T.H.tr _ _ _ h3 (xP T.sx (show i+c<i+d by lia) h2).1
theorem Two.monoB (T:Two O xs ys) {x d:Nat} (h1:c<=d) (h2:j+d<ys.size) (h3:bey O true x ys j d=true):bey O true x ys j c=true:=by
 simp only [bey,if_true] at h3 ⊢
 rcases Dj h1 with rfl | h1
 ·exact h3
 ·exact i8 T.H h3 (xP T.sy (show j+c<j+d by lia) h2).1
theorem W.mLo {Q:Array Keyed->Ab->Prop} (T:Two O xs ys) (h0:O.lt (ys.getD 0 0) (xs.getD 0 0)=true) (hl:∀ y∈ys.toList,O.lt y (xs.getD (xs.size - 1) 0)=true)
  (h:∀ rs mg,kJ O xs ys rs->Q (rs.map (kas_item O.it)) { b with mg:=mg }):W O (mLo (xs.map (kas_item O.it)) (ys.map (kas_item O.it))) Q b:=by
 have x1:=T.x1
 have y1:=T.y1
 have L0:Lw O xs ys #[] 0 0:=⟨by simp,by simpa using T.sx,by simpa using T.sy,Ca _,Ca _⟩
 have L1:=L0.stepB T x1 y1 h0
 have mpush:∀ (os:Array Nat) (x:Nat),(os.map (kas_item O.it)).push (kas_item O.it x)=(os.push x).map (kas_item O.it):=λ os x=>by rw [JF]
 have mapp:∀ (os zs:Array Nat),os.map (kas_item O.it)++zs.map (kas_item O.it)=(os++zs).map (kas_item O.it):=λ os zs=>by rw [Je]
 have mext:∀ (zs:Array Nat) (i j:Nat),(zs.map (kas_item O.it)).extract i j=(zs.extract i j).map (kas_item O.it):=λ zs i j=>by rw [GD]
 rw [xO]
 refine W.bind (W.rule ?_)
 refine W.bind (W.elem y1 ?_)
 simp only [Fh,mext,mapp]
 have e1:#[kas_item O.it (ys.getD 0 0)]=((#[]:Array Nat).push (ys.getD 0 0)).map (kas_item O.it):=by simp
 rw [e1]
 by_cases c1:(1 == ys.size)=true
 ·rw [if_pos c1]
  simp only [mapp]
  exact W.pure (h _ b.mg (L1.done (by simpa using c1)))
 rw [if_neg c1]
 by_cases c2:(0+1 == xs.size)=true
 ·rw [if_pos c2]
  simp only [mapp]
  exact W.pure (h _ b.mg (L1.last T (by simpa using c2) hl))
 rw [if_neg c2]
 refine W.bind (W.get ?_)
 have ex:∀ {P:Nat->Bool} (m:Nat),(∀ i j,i<=j->j<m->P j=true->P i=true)->∃ K,K<=m/\(∀ i,i<K->P i=true)/\∀ i,K<=i->i<m->P i=false:=λ m h=>iq m h
 have KA:∀ i j,i<xs.size->j<ys.size->∃ K,K<=xs.size - i/\(∀ d,d<K->bey O false (ys.getD j 0) xs i d=true)/\∀ d,K<=d->d<xs.size - i->bey O false (ys.getD j 0) xs i d=false:=λ i j hi hj=>ex _ λ c d h1 h2 h3=>T.monoA h1 (by lia) h3
 have KB:∀ i j,i<xs.size->j<ys.size->∃ K,K<=ys.size - j/\(∀ d,d<K->bey O true (xs.getD i 0) ys j d=true)/\∀ d,K<=d->d<ys.size - j->bey O true (xs.getD i 0) ys j d=false:=λ i j hi hj=>ex _ λ c d h1 h2 h3=>T.monoB h1 (by lia) h3
 have c1:1<ys.size:=by (have:¬ 1=ys.size:=(by simpa using c1)); lia
 have c2:1<xs.size:=by (have:¬ 1=xs.size:=(by simpa using c2)); lia
 refine W.bind (W.range (D:=λ c b1=>b1.p=b.p/\b1.pd=b.pd/\∃ rs:Array Nat,c.1=some (rs.map (kas_item O.it))/\kJ O xs ys rs) (λ k c b1=>b1.p=b.p/\b1.pd=b.pd/\c.1=none/\∃ os:Array Nat,c.2.1=os.map (kas_item O.it)/\Lw O xs ys os c.2.2.1 c.2.2.2.1/\c.2.2.1+1<xs.size/\c.2.2.2.1<ys.size/\xs.size+ys.size+1<=c.2.2.1+c.2.2.2.1+k) ⟨rfl,rfl,rfl,_,rfl,L1,c2,c1,by show xs.size+ys.size+1<=0+1+(xs.size+ys.size - 0); lia⟩ ?_ ?_ |>.mono λ c b1 hc=>?_)
 rotate_left
 ·rintro ⟨r,o,i,j,g⟩ b1 ⟨f1,f2,_,os,_,L,hi,hj,hk⟩
  dsimp only at hi hj hk
  exact absurd hk (by lia)
 ·obtain ⟨r,o,i,j,g⟩:=c
  obtain ⟨f1,f2,rs,e,hm⟩:=hc
  dsimp only at e ⊢
  subst e
  have:=h rs b1.mg hm
  obtain ⟨p1,d1,m1⟩:=b1
  have f1:p1=b.p:=f1
  have f2:d1=b.pd:=f2
  subst f1 f2
  exact W.pure this
 rintro x k ⟨r,o,i0,j0,g0⟩ b1 ⟨f1,f2,e,os0,eo,L,hi0,hj0,hk⟩
 dsimp only at e eo hi0 hj0 hk L ⊢
 subst e eo
 refine W.bind (W.range (D:=λ c b1=>b1.p=b.p/\b1.pd=b.pd/\((∃ rs:Array Nat,c.1=some (rs.map (kas_item O.it))/\kJ O xs ys rs)\/(c.1=none/\∃ os:Array Nat,c.2.1=os.map (kas_item O.it)/\Lw O xs ys os c.2.2.1 c.2.2.2.1/\c.2.2.1+1<xs.size/\c.2.2.2.1<ys.size/\i0+j0+1<=c.2.2.1+c.2.2.2.1))) (λ k c b1=>b1.p=b.p/\b1.pd=b.pd/\c.1=none/\∃ os:Array Nat,c.2.1=os.map (kas_item O.it)/\Lw O xs ys os c.2.2.1 c.2.2.2.1/\c.2.2.1+1<xs.size/\c.2.2.2.1<ys.size/\i0+j0+(xs.size+ys.size)<=c.2.2.1+c.2.2.2.1+k/\i0+j0<=c.2.2.1+c.2.2.2.1) ⟨f1,f2,rfl,_,rfl,L,hi0,hj0,by show i0+j0+(xs.size+ys.size)<=i0+j0+(xs.size+ys.size - 0)/\i0+j0<=i0+j0; lia⟩ ?_ ?_ |>.mono λ c b1 hc=>?_)
 ·rintro x k ⟨r,o,i,j,ca,cb⟩ b1 ⟨f1,f2,e,os,eo,L,hi,hj,hk1,hk2⟩
  dsimp only at e eo hi hj hk1 hk2 L ⊢
  subst e eo
  refine W.bind (W.elem hj (W.bind (W.elem (by lia) (W.bind (W.lt (T.ny _ hj) (T.nx _ (by lia)) ?_)))))
  cases e:O.lt (ys.getD j 0) (xs.getD i 0) with
  | true=>
   have L':=L.stepB T (by lia) hj e
   simp only [if_true]
   refine W.bind (W.elem hj ?_)
   simp only [mpush,mapp]
   by_cases q:(j+1 == ys.size)=true
   ·rw [if_pos q]
    exact W.pure ⟨f1,f2,.inl ⟨_,rfl,L'.done (by simpa using q)⟩⟩
   ·rw [if_neg q]
    have q':¬ j+1=ys.size:=by simpa using q
    refine W.ite (λ _=>?_) (λ _=>?_)
    ·exact W.pure ⟨f1,f2,.inr ⟨rfl,_,rfl,L',hi,by show j+1<ys.size; lia,by show i0+j0+1<=i+(j+1); lia⟩⟩
    ·exact W.pure ⟨f1,f2,rfl,_,rfl,L',hi,by show j+1<ys.size; lia,by show i0+j0+(xs.size+ys.size)<=i+(j+1)+k/\i0+j0<=i+(j+1); lia⟩
  | false=>
   have L':=L.stepA T (by lia) hj e
   simp only [BG,if_false]
   refine W.bind (W.elem (by lia) ?_)
   simp only [mpush,mapp]
   by_cases q:(i+1+1 == xs.size)=true
   ·rw [if_pos q]
    exact W.pure ⟨f1,f2,.inl ⟨_,rfl,L'.last T (by simpa using q) hl⟩⟩
   ·rw [if_neg q]
    have q':¬ i+1+1=xs.size:=by simpa using q
    refine W.ite (λ _=>?_) (λ _=>?_)
    ·exact W.pure ⟨f1,f2,.inr ⟨rfl,_,rfl,L',by show i+1+1<xs.size; lia,hj,by show i0+j0+1<=i+1+j; lia⟩⟩
    ·exact W.pure ⟨f1,f2,rfl,_,rfl,L',by show i+1+1<xs.size; lia,hj,by show i0+j0+(xs.size+ys.size)<=i+1+j+k/\i0+j0<=i+1+j; lia⟩
 ·rintro ⟨r,o,i,j,ca,cb⟩ b1 ⟨f1,f2,_,os,_,L,hi,hj,hk1,hk2⟩
  dsimp only at hi hj hk1 hk2
  exact absurd hk1 (by lia)
 obtain ⟨r,o,i1,j1,ca,cb⟩:=c
 obtain ⟨f1,f2,hc⟩:=hc
 dsimp only at hc ⊢
 rcases hc with ⟨rs,e,hm⟩ | ⟨e,os1,eo,L,hi1,hj1,hk1⟩
 ·subst e
  exact W.pure ⟨f1,f2,rs,rfl,hm⟩
 subst e eo
 dsimp only
 refine W.bind (W.rule ?_)
 refine W.bind (W.range (D:=λ c b1=>b1.p=b.p/\b1.pd=b.pd/\((∃ rs:Array Nat,c.1=some (rs.map (kas_item O.it))/\kJ O xs ys rs)\/(c.1=none/\∃ os:Array Nat,c.2.1=os.map (kas_item O.it)/\Lw O xs ys os c.2.2.1 c.2.2.2.1/\c.2.2.1+1<xs.size/\c.2.2.2.1<ys.size/\i1+j1<=c.2.2.1+c.2.2.2.1))) (λ k c b1=>b1.p=b.p/\b1.pd=b.pd/\c.1=none/\∃ os:Array Nat,c.2.1=os.map (kas_item O.it)/\Lw O xs ys os c.2.2.1 c.2.2.2.1/\c.2.2.1+1<xs.size/\c.2.2.2.1<ys.size/\i1+j1+(xs.size+ys.size)<=c.2.2.1+c.2.2.2.1+k/\i1+j1<=c.2.2.1+c.2.2.2.1) ⟨f1,f2,rfl,_,rfl,L,hi1,hj1,by show i1+j1+(xs.size+ys.size)<=i1+j1+(xs.size+ys.size - 0)/\i1+j1<=i1+j1; lia⟩ ?_ ?_ |>.mono λ c b1 hc=>?_)
 ·rintro x k ⟨r,o,i,j,g,ca,cb⟩ b1 ⟨f1,f2,e,os,eo,L,hi,hj,hk1,hk2⟩
  dsimp only at e eo hi hj hk1 hk2 L ⊢
  subst e eo
  obtain ⟨K,hK,hK1,hK2⟩:=KA i j (by lia) hj
  have LK:=L.manyA T hj K (by lia) λ d hd=>by have:=hK1 d hd; simpa [bey] using this
  by_cases hg:g > 1
  ·rw [if_pos hg]
   refine W.bind (W.setMG ?_)
   refine W.bind (W.elem hj (W.bind (W.gal (K:=K) (T.ny _ hj) T.nx (by lia) (by lia) hK hK1 hK2 ?_)))
   dsimp only
   by_cases z:K > 0
   ·rw [if_pos z]
    simp only [mapp]
    by_cases q:(i+K+1 == xs.size)=true
    ·rw [if_pos q]
     exact W.pure ⟨f1,f2,.inl ⟨_,rfl,LK.last T (by simpa using q) hl⟩⟩
    rw [if_neg q]
    have q':¬ i+K+1=xs.size:=by simpa using q
    by_cases q1:(i+K == xs.size)=true
    ·rw [if_pos q1]
     exact W.pure ⟨f1,f2,.inl ⟨_,rfl,LK.done2 (by simpa using q1)⟩⟩
    rw [if_neg q1]
    have q1':¬ i+K=xs.size:=by simpa using q1
    have L2:=LK.stepB T (by lia) hj (by have:=hK2 K (BD _) (by lia); simpa [bey] using this)
    refine W.bind (W.elem hj ?_)
    simp only [mpush,mapp]
    by_cases q2:(j+1 == ys.size)=true
    ·rw [if_pos q2]
     exact W.pure ⟨f1,f2,.inl ⟨_,rfl,L2.done (by simpa using q2)⟩⟩
    rw [if_neg q2]
    have q2':¬ j+1=ys.size:=by simpa using q2
    obtain ⟨K',hK',hB1,hB2⟩:=KB (i+K) (j+1) (by lia) (by lia)
    have LB:=L2.manyB T (by lia) K' (by lia) λ d hd=>by have:=hB1 d hd; simpa [bey] using this
    refine W.bind (W.elem (by lia) (W.bind (W.gal (K:=K') (T.nx _ (by lia)) T.ny (by lia) (by lia) hK' hB1 hB2 ?_)))
    dsimp only
    by_cases z':K' > 0
    ·rw [if_pos z']
     by_cases q4:(j+1+K' == ys.size)=true
     ·rw [if_pos q4]
      exact W.pure ⟨f1,f2,.inl ⟨_,rfl,LB.done (by simpa using q4)⟩⟩
     rw [if_neg q4]
     have q4':¬ j+1+K'=ys.size:=by simpa using q4
     have L3:=LB.stepA T (by lia) (by lia) (by have:=hB2 K' (BD _) (by lia); simpa [bey] using this)
     refine W.bind (W.elem (by lia) ?_)
     simp only [mpush,mapp]
     by_cases q3:(i+K+1+1 == xs.size)=true
     ·rw [if_pos q3]
      exact W.pure ⟨f1,f2,.inl ⟨_,rfl,L3.last T (by simpa using q3) hl⟩⟩
     ·rw [if_neg q3]
      have q3':¬ i+K+1+1=xs.size:=by simpa using q3
      refine W.ite (λ _=>?_) (λ _=>?_)
      ·exact W.pure ⟨f1,f2,.inr ⟨rfl,_,rfl,L3,by show i+K+1+1<xs.size; lia,by show j+1+K'<ys.size; lia,by show i1+j1<=i+K+1+(j+1+K'); lia⟩⟩
      ·exact W.pure ⟨f1,f2,rfl,_,rfl,L3,by show i+K+1+1<xs.size; lia,by show j+1+K'<ys.size; lia,by show i1+j1+(xs.size+ys.size)<=i+K+1+(j+1+K')+k/\i1+j1<=i+K+1+(j+1+K'); lia⟩
    ·rw [if_neg z']
     have ek:K'=0:=by lia
     have L3:=L2.stepA T (by lia) (by lia) (by have:=hB2 0 (by lia) (by lia); simpa [bey] using this)
     refine W.bind (W.elem (by lia) ?_)
     simp only [mpush,mapp]
     by_cases q3:(i+K+1+1 == xs.size)=true
     ·rw [if_pos q3]
      exact W.pure ⟨f1,f2,.inl ⟨_,rfl,L3.last T (by simpa using q3) hl⟩⟩
     ·rw [if_neg q3]
      have q3':¬ i+K+1+1=xs.size:=by simpa using q3
      refine W.ite (λ _=>?_) (λ _=>?_)
      ·exact W.pure ⟨f1,f2,.inr ⟨rfl,_,rfl,L3,by show i+K+1+1<xs.size; lia,by show j+1<ys.size; lia,by show i1+j1<=i+K+1+(j+1); lia⟩⟩
      ·exact W.pure ⟨f1,f2,rfl,_,rfl,L3,by show i+K+1+1<xs.size; lia,by show j+1<ys.size; lia,by show i1+j1+(xs.size+ys.size)<=i+K+1+(j+1)+k/\i1+j1<=i+K+1+(j+1); lia⟩
   ·rw [if_neg z]
    have ek:K=0:=by lia
    have L2:=L.stepB T (by lia) hj (by have:=hK2 0 (by lia) (by lia); simpa [bey] using this)
    refine W.bind (W.elem hj ?_)
    simp only [mpush,mapp]
    by_cases q2:(j+1 == ys.size)=true
    ·rw [if_pos q2]
     exact W.pure ⟨f1,f2,.inl ⟨_,rfl,L2.done (by simpa using q2)⟩⟩
    rw [if_neg q2]
    have q2':¬ j+1=ys.size:=by simpa using q2
    obtain ⟨K',hK',hB1,hB2⟩:=KB (i) (j+1) (by lia) (by lia)
    have LB:=L2.manyB T (by lia) K' (by lia) λ d hd=>by have:=hB1 d hd; simpa [bey] using this
    refine W.bind (W.elem (by lia) (W.bind (W.gal (K:=K') (T.nx _ (by lia)) T.ny (by lia) (by lia) hK' hB1 hB2 ?_)))
    dsimp only
    by_cases z':K' > 0
    ·rw [if_pos z']
     by_cases q4:(j+1+K' == ys.size)=true
     ·rw [if_pos q4]
      exact W.pure ⟨f1,f2,.inl ⟨_,rfl,LB.done (by simpa using q4)⟩⟩
     rw [if_neg q4]
     have q4':¬ j+1+K'=ys.size:=by simpa using q4
     have L3:=LB.stepA T (by lia) (by lia) (by have:=hB2 K' (BD _) (by lia); simpa [bey] using this)
     refine W.bind (W.elem (by lia) ?_)
     simp only [mpush,mapp]
     by_cases q3:(i+1+1 == xs.size)=true
     ·rw [if_pos q3]
      exact W.pure ⟨f1,f2,.inl ⟨_,rfl,L3.last T (by simpa using q3) hl⟩⟩
     ·rw [if_neg q3]
      have q3':¬ i+1+1=xs.size:=by simpa using q3
      refine W.ite (λ _=>?_) (λ _=>?_)
      ·exact W.pure ⟨f1,f2,.inr ⟨rfl,_,rfl,L3,by show i+1+1<xs.size; lia,by show j+1+K'<ys.size; lia,by show i1+j1<=i+1+(j+1+K'); lia⟩⟩
      ·exact W.pure ⟨f1,f2,rfl,_,rfl,L3,by show i+1+1<xs.size; lia,by show j+1+K'<ys.size; lia,by show i1+j1+(xs.size+ys.size)<=i+1+(j+1+K')+k/\i1+j1<=i+1+(j+1+K'); lia⟩
    ·rw [if_neg z']
     have ek:K'=0:=by lia
     have L3:=L2.stepA T (by lia) (by lia) (by have:=hB2 0 (by lia) (by lia); simpa [bey] using this)
     refine W.bind (W.elem (by lia) ?_)
     simp only [mpush,mapp]
     by_cases q3:(i+1+1 == xs.size)=true
     ·rw [if_pos q3]
      exact W.pure ⟨f1,f2,.inl ⟨_,rfl,L3.last T (by simpa using q3) hl⟩⟩
     ·rw [if_neg q3]
      have q3':¬ i+1+1=xs.size:=by simpa using q3
      refine W.ite (λ _=>?_) (λ _=>?_)
      ·exact W.pure ⟨f1,f2,.inr ⟨rfl,_,rfl,L3,by show i+1+1<xs.size; lia,by show j+1<ys.size; lia,by show i1+j1<=i+1+(j+1); lia⟩⟩
      ·exact W.pure ⟨f1,f2,rfl,_,rfl,L3,by show i+1+1<xs.size; lia,by show j+1<ys.size; lia,by show i1+j1+(xs.size+ys.size)<=i+1+(j+1)+k/\i1+j1<=i+1+(j+1); lia⟩
  ·rw [if_neg hg]
   refine W.bind (W.setMG ?_)
   refine W.bind (W.elem hj (W.bind (W.gal (K:=K) (T.ny _ hj) T.nx (by lia) (by lia) hK hK1 hK2 ?_)))
   dsimp only
   by_cases z:K > 0
   ·rw [if_pos z]
    simp only [mapp]
    by_cases q:(i+K+1 == xs.size)=true
    ·rw [if_pos q]
     exact W.pure ⟨f1,f2,.inl ⟨_,rfl,LK.last T (by simpa using q) hl⟩⟩
    rw [if_neg q]
    have q':¬ i+K+1=xs.size:=by simpa using q
    by_cases q1:(i+K == xs.size)=true
    ·rw [if_pos q1]
     exact W.pure ⟨f1,f2,.inl ⟨_,rfl,LK.done2 (by simpa using q1)⟩⟩
    rw [if_neg q1]
    have q1':¬ i+K=xs.size:=by simpa using q1
    have L2:=LK.stepB T (by lia) hj (by have:=hK2 K (BD _) (by lia); simpa [bey] using this)
    refine W.bind (W.elem hj ?_)
    simp only [mpush,mapp]
    by_cases q2:(j+1 == ys.size)=true
    ·rw [if_pos q2]
     exact W.pure ⟨f1,f2,.inl ⟨_,rfl,L2.done (by simpa using q2)⟩⟩
    rw [if_neg q2]
    have q2':¬ j+1=ys.size:=by simpa using q2
    obtain ⟨K',hK',hB1,hB2⟩:=KB (i+K) (j+1) (by lia) (by lia)
    have LB:=L2.manyB T (by lia) K' (by lia) λ d hd=>by have:=hB1 d hd; simpa [bey] using this
    refine W.bind (W.elem (by lia) (W.bind (W.gal (K:=K') (T.nx _ (by lia)) T.ny (by lia) (by lia) hK' hB1 hB2 ?_)))
    dsimp only
    by_cases z':K' > 0
    ·rw [if_pos z']
     by_cases q4:(j+1+K' == ys.size)=true
     ·rw [if_pos q4]
      exact W.pure ⟨f1,f2,.inl ⟨_,rfl,LB.done (by simpa using q4)⟩⟩
     rw [if_neg q4]
     have q4':¬ j+1+K'=ys.size:=by simpa using q4
     have L3:=LB.stepA T (by lia) (by lia) (by have:=hB2 K' (BD _) (by lia); simpa [bey] using this)
     refine W.bind (W.elem (by lia) ?_)
     simp only [mpush,mapp]
     by_cases q3:(i+K+1+1 == xs.size)=true
     ·rw [if_pos q3]
      exact W.pure ⟨f1,f2,.inl ⟨_,rfl,L3.last T (by simpa using q3) hl⟩⟩
     ·rw [if_neg q3]
      have q3':¬ i+K+1+1=xs.size:=by simpa using q3
      refine W.ite (λ _=>?_) (λ _=>?_)
      ·exact W.pure ⟨f1,f2,.inr ⟨rfl,_,rfl,L3,by show i+K+1+1<xs.size; lia,by show j+1+K'<ys.size; lia,by show i1+j1<=i+K+1+(j+1+K'); lia⟩⟩
      ·exact W.pure ⟨f1,f2,rfl,_,rfl,L3,by show i+K+1+1<xs.size; lia,by show j+1+K'<ys.size; lia,by show i1+j1+(xs.size+ys.size)<=i+K+1+(j+1+K')+k/\i1+j1<=i+K+1+(j+1+K'); lia⟩
    ·rw [if_neg z']
     have ek:K'=0:=by lia
     have L3:=L2.stepA T (by lia) (by lia) (by have:=hB2 0 (by lia) (by lia); simpa [bey] using this)
     refine W.bind (W.elem (by lia) ?_)
     simp only [mpush,mapp]
     by_cases q3:(i+K+1+1 == xs.size)=true
     ·rw [if_pos q3]
      exact W.pure ⟨f1,f2,.inl ⟨_,rfl,L3.last T (by simpa using q3) hl⟩⟩
     ·rw [if_neg q3]
      have q3':¬ i+K+1+1=xs.size:=by simpa using q3
      refine W.ite (λ _=>?_) (λ _=>?_)
      ·exact W.pure ⟨f1,f2,.inr ⟨rfl,_,rfl,L3,by show i+K+1+1<xs.size; lia,by show j+1<ys.size; lia,by show i1+j1<=i+K+1+(j+1); lia⟩⟩
      ·exact W.pure ⟨f1,f2,rfl,_,rfl,L3,by show i+K+1+1<xs.size; lia,by show j+1<ys.size; lia,by show i1+j1+(xs.size+ys.size)<=i+K+1+(j+1)+k/\i1+j1<=i+K+1+(j+1); lia⟩
   ·rw [if_neg z]
    have ek:K=0:=by lia
    have L2:=L.stepB T (by lia) hj (by have:=hK2 0 (by lia) (by lia); simpa [bey] using this)
    refine W.bind (W.elem hj ?_)
    simp only [mpush,mapp]
    by_cases q2:(j+1 == ys.size)=true
    ·rw [if_pos q2]
     exact W.pure ⟨f1,f2,.inl ⟨_,rfl,L2.done (by simpa using q2)⟩⟩
    rw [if_neg q2]
    have q2':¬ j+1=ys.size:=by simpa using q2
    obtain ⟨K',hK',hB1,hB2⟩:=KB (i) (j+1) (by lia) (by lia)
    have LB:=L2.manyB T (by lia) K' (by lia) λ d hd=>by have:=hB1 d hd; simpa [bey] using this
    refine W.bind (W.elem (by lia) (W.bind (W.gal (K:=K') (T.nx _ (by lia)) T.ny (by lia) (by lia) hK' hB1 hB2 ?_)))
    dsimp only
    by_cases z':K' > 0
    ·rw [if_pos z']
     by_cases q4:(j+1+K' == ys.size)=true
     ·rw [if_pos q4]
      exact W.pure ⟨f1,f2,.inl ⟨_,rfl,LB.done (by simpa using q4)⟩⟩
     rw [if_neg q4]
     have q4':¬ j+1+K'=ys.size:=by simpa using q4
     have L3:=LB.stepA T (by lia) (by lia) (by have:=hB2 K' (BD _) (by lia); simpa [bey] using this)
     refine W.bind (W.elem (by lia) ?_)
     simp only [mpush,mapp]
     by_cases q3:(i+1+1 == xs.size)=true
     ·rw [if_pos q3]
      exact W.pure ⟨f1,f2,.inl ⟨_,rfl,L3.last T (by simpa using q3) hl⟩⟩
     ·rw [if_neg q3]
      have q3':¬ i+1+1=xs.size:=by simpa using q3
      refine W.ite (λ _=>?_) (λ _=>?_)
      ·exact W.pure ⟨f1,f2,.inr ⟨rfl,_,rfl,L3,by show i+1+1<xs.size; lia,by show j+1+K'<ys.size; lia,by show i1+j1<=i+1+(j+1+K'); lia⟩⟩
      ·exact W.pure ⟨f1,f2,rfl,_,rfl,L3,by show i+1+1<xs.size; lia,by show j+1+K'<ys.size; lia,by show i1+j1+(xs.size+ys.size)<=i+1+(j+1+K')+k/\i1+j1<=i+1+(j+1+K'); lia⟩
    ·rw [if_neg z']
     have ek:K'=0:=by lia
     have L3:=L2.stepA T (by lia) (by lia) (by have:=hB2 0 (by lia) (by lia); simpa [bey] using this)
     refine W.bind (W.elem (by lia) ?_)
     simp only [mpush,mapp]
     by_cases q3:(i+1+1 == xs.size)=true
     ·rw [if_pos q3]
      exact W.pure ⟨f1,f2,.inl ⟨_,rfl,L3.last T (by simpa using q3) hl⟩⟩
     ·rw [if_neg q3]
      have q3':¬ i+1+1=xs.size:=by simpa using q3
      refine W.ite (λ _=>?_) (λ _=>?_)
      ·exact W.pure ⟨f1,f2,.inr ⟨rfl,_,rfl,L3,by show i+1+1<xs.size; lia,by show j+1<ys.size; lia,by show i1+j1<=i+1+(j+1); lia⟩⟩
      ·exact W.pure ⟨f1,f2,rfl,_,rfl,L3,by show i+1+1<xs.size; lia,by show j+1<ys.size; lia,by show i1+j1+(xs.size+ys.size)<=i+1+(j+1)+k/\i1+j1<=i+1+(j+1); lia⟩
 ·rintro ⟨r,o,i,j,g,ca,cb⟩ b1 ⟨f1,f2,_,os,_,L,hi,hj,hk1,hk2⟩
  dsimp only at hi hj hk1 hk2
  exact absurd hk1 (by lia)
 obtain ⟨r,o,i2,j2,g2,ca,cb⟩:=c
 obtain ⟨f1,f2,hc⟩:=hc
 dsimp only at hc ⊢
 rcases hc with ⟨rs,e,hm⟩ | ⟨e,os2,eo,L,hi2,hj2,hk2⟩
 ·subst e
  exact W.pure ⟨f1,f2,rs,rfl,hm⟩
 subst e eo
 dsimp only
 exact W.bind (W.setMG (W.pure ⟨f1,f2,rfl,_,rfl,L,hi2,hj2,by show xs.size+ys.size+1<=i2+j2+k; lia⟩))
end
noncomputable def mHi:Array Keyed->Array Keyed->SM (Array Keyed):=sortPriv% PySem.Builtin.mergeHi
theorem xQ (a b:Array Keyed):mHi a b=(do
 rule "list.sort.merge-hi"
 let tt:=a.size+b.size
 let dn (o:Array Keyed) (i j:Nat):=a.extract 0 i++b.extract 0 j++o.reverse
 let fb (o:Array Keyed) (i j:Nat):=b.extract 0 j++a.extract 0 i++o.reverse
 let mut i:=a.size - 1
 let mut j:=b.size
 let mut o:Array Keyed:=#[<-elem' a i]
 if i == 0 then return dn o i j
 if j == 1 then return fb o i j
 let mut mg:=gallopOf (<-get)
 for _ in [0:tt] do
  let mut ca:=0
  let mut cb:=0
  for _ in [0:tt] do
   let some aw <-lt' (<-elem' b (j - 1)) (<-elem' a (i - 1)) | return dn o i j
   if aw then
    i:=i - 1; o:=o.push (<-elem' a i); ca:=ca+1; cb:=0
    if i == 0 then return dn o i j
    if ca>=mg then break
   else
    j:=j - 1; o:=o.push (<-elem' b j); cb:=cb+1; ca:=0
    if j == 1 then return fb o i j
    if cb>=mg then break
  rule "list.sort.gallop"
  mg:=mg+1
  for _ in [0:tt] do
   if mg > 1 then mg:=mg - 1
   setMG mg
   let some q <-gal false (<-elem' b (j - 1)) a 0 i (i - 1) | return dn o i j
   let k:=i - q
   ca:=k
   if k > 0 then
    o:=o++(a.extract q i).reverse; i:=q
    if i == 0 then return dn o i j
   j:=j - 1; o:=o.push (<-elem' b j)
   if j == 1 then return fb o i j
   let some q <-gal true (<-elem' a (i - 1)) b 0 j (j - 1) | return dn o i j
   let k:=j - q
   cb:=k
   if k > 0 then
    o:=o++(b.extract q j).reverse; j:=q
    if j == 1 then return fb o i j
    if j == 0 then return dn o i j
   i:=i - 1; o:=o.push (<-elem' a i)
   if i == 0 then return dn o i j
   if ca<7 && cb<7 then break
  mg:=mg+1
  setMG mg
 unsupported "internal:list.sort.merge-bound"):=rfl
section
variable {O:Orc} {b:Ab} {xs ys os:Array Nat} {i j k:Nat}
structure Hw (O:Orc) (xs ys os:Array Nat) (i j:Nat):Prop where
 pm:((xs.toList.take i++ys.toList.take j)++os.toList.reverse).Perm (xs.toList++ys.toList)
 sa:(xs.toList.take i++os.toList.reverse).Pairwise (Ah O.lt)
 sb:(ys.toList.take j++os.toList.reverse).Pairwise (Ah O.lt)
 ti:i<=xs.size
 tj:j<=ys.size
theorem gJ {xs:Array Nat} {i:Nat} (h0:0<i) (h:i<=xs.size):xs.toList.take i=xs.toList.take (i - 1)++[xs.getD (i - 1) 0]:=by
 obtain ⟨c,rfl⟩:∃ c,i=c+1:=⟨i - 1,by lia⟩
 have h':c<xs.toList.length:=by simp; lia
 rw [DM h',Nat.add_sub_cancel]
 congr 2
 simp [Ce,show c<xs.size by lia]
theorem wd (xs:Array Nat) (i:Nat):(xs.extract 0 i).toList=xs.toList.take i:=by
 rw [DE,C6]; simp
theorem Hw.done (L:Hw O xs ys os i j) (h:i=0):kJ O xs ys (xs.extract 0 i++ys.extract 0 j++os.reverse):=by
 subst h
 have e:(xs.extract 0 0++ys.extract 0 j++os.reverse).toList=ys.toList.take j++os.toList.reverse:=by rw [CL,CL,wd,wd]; simp
 have pm:=L.pm
 rw [DO,DS] at pm
 exact ⟨by rw [e]; exact pm,by rw [e]; exact L.sb⟩
theorem Hw.done2 (L:Hw O xs ys os i j) (h:j=0):kJ O xs ys (xs.extract 0 i++ys.extract 0 j++os.reverse):=by
 subst h
 have e:(xs.extract 0 i++ys.extract 0 0++os.reverse).toList=xs.toList.take i++os.toList.reverse:=by rw [CL,CL,wd,wd]; simp
 have pm:=L.pm
 rw [DO,C9] at pm
 exact ⟨by rw [e]; exact pm,by rw [e]; exact L.sa⟩
theorem Hw.first (T:Two O xs ys) (L:Hw O xs ys os i j) (h:j=1) (h0:O.lt (ys.getD 0 0) (xs.getD 0 0)=true):kJ O xs ys (ys.extract 0 j++xs.extract 0 i++os.reverse):=by
 subst h
 have e:(ys.extract 0 1++xs.extract 0 i++os.reverse).toList=(ys.toList.take 1++xs.toList.take i)++os.toList.reverse:=by rw [CL,CL,wd,wd]; simp
 have hd:ys.toList.take 1=[ys.getD 0 0]:=by rw [gJ (by lia) L.tj]; simp
 refine ⟨by rw [e]; exact (Hq.append_right _).trans L.pm,?_⟩
 obtain ⟨s1,s2,s3⟩:=BR.mp L.sa
 obtain ⟨t1,t2,t3⟩:=BR.mp L.sb
 rw [e,hd]
 rw [hd] at t3
 refine BR.mpr ⟨?_,s2,λ a ha c hc=>?_⟩
 ·refine Dk.mpr ⟨λ c hc=>?_,s1⟩
  have hc':c∈xs.toList:=C5 hc
  have hx:=T.x1
  have ex:xs.toList=xs.getD 0 0::xs.toList.drop 1:=by have:=fq (xs:=xs) (i:=0) hx; simpa using this
  have sx:=T.sx
  rw [ex] at hc' sx
  rcases BS.mp hc' with rfl | hc'
  ·exact Ah.of_lt T.H h0
  ·exact (Ah.of_lt T.H h0).trans T.H ((Dk.mp sx).1 c hc')
 ·rcases BY.mp ha with ha | ha
  ·exact t3 a ha c hc
  ·exact s3 a ha c hc
theorem Hw.stepA (T:Two O xs ys) (L:Hw O xs ys os i j) (hi:0<i) (hj:0<j) (h:O.lt (ys.getD (j - 1) 0) (xs.getD (i - 1) 0)=true):Hw O xs ys (os.push (xs.getD (i - 1) 0)) (i - 1) j:=by
 have e:(os.push (xs.getD (i - 1) 0)).toList.reverse=xs.getD (i - 1) 0::os.toList.reverse:=by simp
 have ti:=L.ti; have tj:=L.tj
 have hx:=gJ hi L.ti
 have pm:=L.pm; have sa:=L.sa; have sb:=L.sb
 rw [hx] at pm sa
 have sa':(xs.toList.take (i - 1)++(xs.getD (i - 1) 0::os.toList.reverse)).Pairwise (Ah O.lt):=by simpa using sa
 obtain ⟨s1,s2,s3⟩:=BR.mp sa'
 obtain ⟨t1,t2,t3⟩:=BR.mp sb
 refine ⟨?_,by rw [e]; exact sa',?_,by lia,L.tj⟩
 ·rw [e]
  refine E6 ?_ pm
  have:((xs.toList.take (i - 1)++[xs.getD (i - 1) 0])++ys.toList.take j++os.toList.reverse)=xs.toList.take (i - 1)++(xs.getD (i - 1) 0::(ys.toList.take j++os.toList.reverse)):=by simp
  rw [this]
  have e2:(xs.toList.take (i - 1)++ys.toList.take j)++(xs.getD (i - 1) 0::os.toList.reverse)=xs.toList.take (i - 1)++(ys.toList.take j++(xs.getD (i - 1) 0::os.toList.reverse)):=by simp
  rw [e2]
  exact D9 _ EY
 ·rw [e]
  have hy:=gJ hj L.tj
  refine BR.mpr ⟨t1,s2,λ a ha c hc=>?_⟩
  rcases BS.mp hc with rfl | hc
  ·rw [hy] at ha t1
   rcases BY.mp ha with ha | ha
   ·exact ((BR.mp t1).2.2 a ha _ (BH.mpr rfl)).trans T.H (Ah.of_lt T.H h)
   ·rw [BH.mp ha]; exact Ah.of_lt T.H h
  ·exact t3 a ha c hc
theorem Hw.stepB (T:Two O xs ys) (L:Hw O xs ys os i j) (hi:0<i) (hj:0<j) (h:O.lt (ys.getD (j - 1) 0) (xs.getD (i - 1) 0)=false):Hw O xs ys (os.push (ys.getD (j - 1) 0)) i (j - 1):=by
 have e:(os.push (ys.getD (j - 1) 0)).toList.reverse=ys.getD (j - 1) 0::os.toList.reverse:=by simp
 have ti:=L.ti; have tj:=L.tj
 have hy:=gJ hj L.tj
 have pm:=L.pm; have sa:=L.sa; have sb:=L.sb
 rw [hy] at pm sb
 have sb':(ys.toList.take (j - 1)++(ys.getD (j - 1) 0::os.toList.reverse)).Pairwise (Ah O.lt):=by simpa using sb
 obtain ⟨s1,s2,s3⟩:=BR.mp sa
 obtain ⟨t1,t2,t3⟩:=BR.mp sb'
 refine ⟨?_,?_,by rw [e]; exact sb',L.ti,by lia⟩
 ·rw [e]
  have e2:(xs.toList.take i++ys.toList.take (j - 1))++(ys.getD (j - 1) 0::os.toList.reverse)=(xs.toList.take i++(ys.toList.take (j - 1)++[ys.getD (j - 1) 0]))++os.toList.reverse:=by simp
  rw [e2]; exact pm
 ·rw [e]
  have hx:=gJ hi L.ti
  have h0:Ah O.lt (xs.getD (i - 1) 0) (ys.getD (j - 1) 0):=T.ah (jK (by lia)) (jK (by lia)) h
  refine BR.mpr ⟨s1,t2,λ a ha c hc=>?_⟩
  rcases BS.mp hc with rfl | hc
  ·rw [hx] at ha s1
   rcases BY.mp ha with ha | ha
   ·exact ((BR.mp s1).2.2 a ha _ (BH.mpr rfl)).trans T.H h0
   ·rw [BH.mp ha]; exact h0
  ·exact s3 a ha c hc
theorem lO {os xs:Array Nat} {K k:Nat} (h:K+k<xs.size):os.push (xs.getD (K+k) 0)++(xs.extract K (K+k)).reverse=os++(xs.extract K (K+(k+1))).reverse:=by
 apply Du.mp
 have e:xs.getD (K+k) 0=xs[K+k]:=by simp [Ce,h]
 rw [e]
 have hl:k<(xs.toList.drop K).length:=by simp; lia
 simp only [EL,CL,Array.toList_reverse,DE,Cu]
 rw [C6,C6,show K+k - K=k by lia,show K+(k+1) - K=k+1 by lia,DM hl,List.reverse_append]
 simp
theorem Hw.manyA (T:Two O xs ys) (hj:0<j) {K:Nat}:∀ (k:Nat) (os:Array Nat),Hw O xs ys os (K+k) j->(∀ d,K<=d->d<K+k->O.lt (ys.getD (j - 1) 0) (xs.getD d 0)=true)->Hw O xs ys (os++(xs.extract K (K+k)).reverse) K j
 | 0,os,L,_=>by
  have e:os++(xs.extract K (K+0)).reverse=os:=by apply Du.mp; simp
  rw [e]; exact L
 | k+1,os,L,h=>by
  have ti:=L.ti
  have L':=L.stepA T (by lia) hj (h _ (by lia) (by lia))
  rw [show K+(k+1) - 1=K+k by lia] at L'
  have:=Hw.manyA T hj k _ L' λ d h1 h2=>h d h1 (by lia)
  rw [lO (by lia)] at this
  exact this
theorem Hw.manyB (T:Two O xs ys) (hi:0<i) {K:Nat}:∀ (k:Nat) (os:Array Nat),Hw O xs ys os i (K+k)->(∀ d,K<=d->d<K+k->O.lt (ys.getD d 0) (xs.getD (i - 1) 0)=false)->Hw O xs ys (os++(ys.extract K (K+k)).reverse) i K
 | 0,os,L,_=>by
  have e:os++(ys.extract K (K+0)).reverse=os:=by apply Du.mp; simp
  rw [e]; exact L
 | k+1,os,L,h=>by
  have tj:=L.tj
  have L':=L.stepB T hi (by lia) (h _ (by lia) (by lia))
  rw [show K+(k+1) - 1=K+k by lia] at L'
  have:=Hw.manyB T hi k _ L' λ d h1 h2=>h d h1 (by lia)
  rw [lO (by lia)] at this
  exact this
theorem Hw.manyA' (T:Two O xs ys) (L:Hw O xs ys os i j) (hj:0<j) {K:Nat} (hK:K<=i) (h:∀ d,K<=d->d<i->O.lt (ys.getD (j - 1) 0) (xs.getD d 0)=true):Hw O xs ys (os++(xs.extract K i).reverse) K j:=by
 obtain ⟨k,rfl⟩:∃ k,i=K+k:=⟨i - K,by lia⟩
 exact Hw.manyA T hj k os L h
theorem Hw.manyB' (T:Two O xs ys) (L:Hw O xs ys os i j) (hi:0<i) {K:Nat} (hK:K<=j) (h:∀ d,K<=d->d<j->O.lt (ys.getD d 0) (xs.getD (i - 1) 0)=false):Hw O xs ys (os++(ys.extract K j).reverse) i K:=by
 obtain ⟨k,rfl⟩:∃ k,j=K+k:=⟨j - K,by lia⟩
 exact Hw.manyB T hi k os L h
theorem W.mHi {Q:Array Keyed->Ab->Prop} (T:Two O xs ys) (h0:O.lt (ys.getD 0 0) (xs.getD 0 0)=true) (hl:∀ y∈ys.toList,O.lt y (xs.getD (xs.size - 1) 0)=true)
  (h:∀ rs mg,kJ O xs ys rs->Q (rs.map (kas_item O.it)) { b with mg:=mg }):W O (mHi (xs.map (kas_item O.it)) (ys.map (kas_item O.it))) Q b:=by
 have x1:=T.x1
 have y1:=T.y1
 have tk:∀ zs:Array Nat,zs.toList.take zs.size=zs.toList:=λ zs=>BF (by simp)
 have L0:Hw O xs ys #[] xs.size ys.size:=⟨by rw [tk,tk]; simp,by rw [tk]; simpa using T.sx,by rw [tk]; simpa using T.sy,BD _,BD _⟩
 have L1:=L0.stepA T x1 y1 (hl _ (jK (by lia)))
 have mpush:∀ (os:Array Nat) (x:Nat),(os.map (kas_item O.it)).push (kas_item O.it x)=(os.push x).map (kas_item O.it):=λ os x=>by rw [JF]
 have mapp:∀ (os zs:Array Nat),os.map (kas_item O.it)++zs.map (kas_item O.it)=(os++zs).map (kas_item O.it):=λ os zs=>by rw [Je]
 have mext:∀ (zs:Array Nat) (i j:Nat),(zs.map (kas_item O.it)).extract i j=(zs.extract i j).map (kas_item O.it):=λ zs i j=>by rw [GD]
 have mrev:∀ (zs:Array Nat),(zs.map (kas_item O.it)).reverse=zs.reverse.map (kas_item O.it):=λ zs=>by rw [Array.map_reverse]
 rw [xQ]
 refine W.bind (W.rule ?_)
 simp only [Fh,mext]
 refine W.bind (W.elem (by lia) ?_)
 have e1:#[kas_item O.it (xs.getD (xs.size - 1) 0)]=((#[]:Array Nat).push (xs.getD (xs.size - 1) 0)).map (kas_item O.it):=by simp
 rw [e1]
 by_cases c1:(xs.size - 1 == 0)=true
 ·rw [if_pos c1]
  simp only [mapp,mrev]
  exact W.pure (h _ b.mg (L1.done (by simpa using c1)))
 rw [if_neg c1]
 by_cases c2:(ys.size == 1)=true
 ·rw [if_pos c2]
  simp only [mapp,mrev]
  exact W.pure (h _ b.mg (L1.first T (by simpa using c2) h0))
 rw [if_neg c2]
 refine W.bind (W.get ?_)
 have KA:∀ i j,i<=xs.size->∃ K,K<=i/\(∀ d,d<K->bey O false (ys.getD j 0) xs 0 d=true)/\∀ d,K<=d->d<i->bey O false (ys.getD j 0) xs 0 d=false:=λ i j hi=>iq _ λ c d h1 h2 h3=>T.monoA h1 (by lia) h3
 have KB:∀ i j,j<=ys.size->∃ K,K<=j/\(∀ d,d<K->bey O true (xs.getD i 0) ys 0 d=true)/\∀ d,K<=d->d<j->bey O true (xs.getD i 0) ys 0 d=false:=λ i j hj=>iq _ λ c d h1 h2 h3=>T.monoB h1 (by lia) h3
 have c1:1<xs.size:=by (have:¬ xs.size - 1=0:=(by simpa using c1)); lia
 have c2:1<ys.size:=by (have:¬ ys.size=1:=(by simpa using c2)); lia
 refine W.bind (W.range (D:=λ c b1=>b1.p=b.p/\b1.pd=b.pd/\∃ rs:Array Nat,c.1=some (rs.map (kas_item O.it))/\kJ O xs ys rs) (λ k c b1=>b1.p=b.p/\b1.pd=b.pd/\c.1=none/\∃ os:Array Nat,c.2.2.2.1=os.map (kas_item O.it)/\Hw O xs ys os c.2.1 c.2.2.1/\0<c.2.1/\1<c.2.2.1/\c.2.1+c.2.2.1+1<=k) ⟨rfl,rfl,rfl,_,rfl,L1,by show 0<xs.size - 1; lia,c2,by show xs.size - 1+ys.size+1<=xs.size+ys.size - 0; lia⟩ ?_ ?_ |>.mono λ c b1 hc=>?_)
 rotate_left
 ·rintro ⟨r,i,j,o,g⟩ b1 ⟨f1,f2,_,os,_,L,hi,hj,hk⟩
  dsimp only at hi hj hk
  exact absurd hk (by lia)
 ·obtain ⟨r,i,j,o,g⟩:=c
  obtain ⟨f1,f2,rs,e,hm⟩:=hc
  dsimp only at e ⊢
  subst e
  have:=h rs b1.mg hm
  obtain ⟨p1,d1,m1⟩:=b1
  have f1:p1=b.p:=f1
  have f2:d1=b.pd:=f2
  subst f1 f2
  exact W.pure this
 rintro x k ⟨r,i0,j0,o,g0⟩ b1 ⟨f1,f2,e,os0,eo,L,hi0,hj0,hk⟩
 dsimp only at e eo hi0 hj0 hk L ⊢
 subst e eo
 have tI:=L.ti; have tJ:=L.tj
 refine W.bind (W.range (D:=λ c b1=>b1.p=b.p/\b1.pd=b.pd/\((∃ rs:Array Nat,c.1=some (rs.map (kas_item O.it))/\kJ O xs ys rs)\/(c.1=none/\∃ os:Array Nat,c.2.2.2.1=os.map (kas_item O.it)/\Hw O xs ys os c.2.1 c.2.2.1/\0<c.2.1/\1<c.2.2.1/\c.2.1+c.2.2.1+1<=i0+j0))) (λ k c b1=>b1.p=b.p/\b1.pd=b.pd/\c.1=none/\∃ os:Array Nat,c.2.2.2.1=os.map (kas_item O.it)/\Hw O xs ys os c.2.1 c.2.2.1/\0<c.2.1/\1<c.2.2.1/\c.2.1+c.2.2.1+(xs.size+ys.size)<=i0+j0+k/\c.2.1+c.2.2.1<=i0+j0) ⟨f1,f2,rfl,_,rfl,L,hi0,hj0,by show i0+j0+(xs.size+ys.size)<=i0+j0+(xs.size+ys.size - 0)/\i0+j0<=i0+j0; lia⟩ ?_ ?_ |>.mono λ c b1 hc=>?_)
 ·rintro x k ⟨r,i,j,o,ca,cb⟩ b1 ⟨f1,f2,e,os,eo,L,hi,hj,hk1,hk2⟩
  dsimp only at e eo hi hj hk1 hk2 L ⊢
  subst e eo
  have ti:=L.ti; have tj:=L.tj
  refine W.bind (W.elem (by lia) (W.bind (W.elem (by lia) (W.bind (W.lt (T.ny _ (by lia)) (T.nx _ (by lia)) ?_)))))
  cases e:O.lt (ys.getD (j - 1) 0) (xs.getD (i - 1) 0) with
  | true=>
   have L':=L.stepA T hi (by lia) e
   simp only [if_true]
   refine W.bind (W.elem (by lia) ?_)
   simp only [mpush,mapp,mrev]
   by_cases q:(i - 1 == 0)=true
   ·rw [if_pos q]
    exact W.pure ⟨f1,f2,.inl ⟨_,rfl,L'.done (by simpa using q)⟩⟩
   ·rw [if_neg q]
    have q':¬ i - 1=0:=by simpa using q
    refine W.ite (λ _=>?_) (λ _=>?_)
    ·exact W.pure ⟨f1,f2,.inr ⟨rfl,_,rfl,L',by show 0<i - 1; lia,hj,by show i - 1+j+1<=i0+j0; lia⟩⟩
    ·exact W.pure ⟨f1,f2,rfl,_,rfl,L',by show 0<i - 1; lia,hj,by show i - 1+j+(xs.size+ys.size)<=i0+j0+k/\i - 1+j<=i0+j0; lia⟩
  | false=>
   have L':=L.stepB T hi (by lia) e
   simp only [BG,if_false]
   refine W.bind (W.elem (by lia) ?_)
   simp only [mpush,mapp,mrev]
   by_cases q:(j - 1 == 1)=true
   ·rw [if_pos q]
    exact W.pure ⟨f1,f2,.inl ⟨_,rfl,L'.first T (by simpa using q) h0⟩⟩
   ·rw [if_neg q]
    have q':¬ j - 1=1:=by simpa using q
    refine W.ite (λ _=>?_) (λ _=>?_)
    ·exact W.pure ⟨f1,f2,.inr ⟨rfl,_,rfl,L',hi,by show 1<j - 1; lia,by show i+(j - 1)+1<=i0+j0; lia⟩⟩
    ·exact W.pure ⟨f1,f2,rfl,_,rfl,L',hi,by show 1<j - 1; lia,by show i+(j - 1)+(xs.size+ys.size)<=i0+j0+k/\i+(j - 1)<=i0+j0; lia⟩
 ·rintro ⟨r,i,j,o,ca,cb⟩ b1 ⟨f1,f2,_,os,_,L,hi,hj,hk1,hk2⟩
  dsimp only at hi hj hk1 hk2
  exact absurd hk1 (by lia)
 obtain ⟨r,i1,j1,o,ca,cb⟩:=c
 obtain ⟨f1,f2,hc⟩:=hc
 dsimp only at hc ⊢
 rcases hc with ⟨rs,e,hm⟩ | ⟨e,os1,eo,L,hi1,hj1,hk1⟩
 ·subst e
  exact W.pure ⟨f1,f2,rs,rfl,hm⟩
 subst e eo
 dsimp only
 refine W.bind (W.rule ?_)
 refine W.bind (W.range (D:=λ c b1=>b1.p=b.p/\b1.pd=b.pd/\((∃ rs:Array Nat,c.1=some (rs.map (kas_item O.it))/\kJ O xs ys rs)\/(c.1=none/\∃ os:Array Nat,c.2.2.2.1=os.map (kas_item O.it)/\Hw O xs ys os c.2.1 c.2.2.1/\0<c.2.1/\1<c.2.2.1/\c.2.1+c.2.2.1<=i1+j1))) (λ k c b1=>b1.p=b.p/\b1.pd=b.pd/\c.1=none/\∃ os:Array Nat,c.2.2.2.1=os.map (kas_item O.it)/\Hw O xs ys os c.2.1 c.2.2.1/\0<c.2.1/\1<c.2.2.1/\c.2.1+c.2.2.1+(xs.size+ys.size)<=i1+j1+k/\c.2.1+c.2.2.1<=i1+j1) ⟨f1,f2,rfl,_,rfl,L,hi1,hj1,by show i1+j1+(xs.size+ys.size)<=i1+j1+(xs.size+ys.size - 0)/\i1+j1<=i1+j1; lia⟩ ?_ ?_ |>.mono λ c b1 hc=>?_)
 ·rintro x k ⟨r,i,j,o,g,ca,cb⟩ b1 ⟨f1,f2,e,os,eo,L,hi,hj,hk1,hk2⟩
  dsimp only at e eo hi hj hk1 hk2 L ⊢
  subst e eo
  have ti:=L.ti; have tj:=L.tj
  obtain ⟨K,hK,hK1,hK2⟩:=KA i (j - 1) ti
  have LK:=L.manyA' T (by lia) hK λ d h1 h2=>by have:=hK2 d h1 h2; simpa [bey] using this
  by_cases hg:g > 1
  ·rw [if_pos hg]
   refine W.bind (W.setMG ?_)
   refine W.bind (W.elem (by lia) (W.bind (W.gal (K:=K) (T.ny _ (by lia)) T.nx (by lia) (by lia) hK hK1 hK2 ?_)))
   dsimp only
   by_cases z:i - K > 0
   ·rw [if_pos z]
    simp only [mapp,mrev]
    by_cases q:(K == 0)=true
    ·rw [if_pos q]
     exact W.pure ⟨f1,f2,.inl ⟨_,rfl,LK.done (by simpa using q)⟩⟩
    rw [if_neg q]
    have q':¬ K=0:=by simpa using q
    have L2:=LK.stepB T (by lia) (by lia) (by have:=hK1 (K - 1) (by lia); simpa [bey] using this)
    have ti2:=L2.ti; have tj2:=L2.tj
    refine W.bind (W.elem (by lia) ?_)
    simp only [mpush,mapp,mrev]
    by_cases q2:(j - 1 == 1)=true
    ·rw [if_pos q2]
     exact W.pure ⟨f1,f2,.inl ⟨_,rfl,L2.first T (by simpa using q2) h0⟩⟩
    rw [if_neg q2]
    have q2':¬ j - 1=1:=by simpa using q2
    obtain ⟨K',hK',hB1,hB2⟩:=KB (K - 1) (j - 1) (by lia)
    have LB:=L2.manyB' T (by lia) hK' λ d h1 h2=>by have:=hB2 d h1 h2; simpa [bey] using this
    refine W.bind (W.elem (by lia) (W.bind (W.gal (K:=K') (T.nx _ (by lia)) T.ny (by lia) (by lia) hK' hB1 hB2 ?_)))
    dsimp only
    by_cases z':j - 1 - K' > 0
    ·rw [if_pos z']
     try simp only [mapp,mrev]
     by_cases q4:(K' == 1)=true
     ·rw [if_pos q4]
      exact W.pure ⟨f1,f2,.inl ⟨_,rfl,LB.first T (by simpa using q4) h0⟩⟩
     rw [if_neg q4]
     have q4':¬ K'=1:=by simpa using q4
     by_cases q5:(K' == 0)=true
     ·rw [if_pos q5]
      exact W.pure ⟨f1,f2,.inl ⟨_,rfl,LB.done2 (by simpa using q5)⟩⟩
     rw [if_neg q5]
     have q5':¬ K'=0:=by simpa using q5
     have L3:=LB.stepA T (by lia) (by lia) (by have:=hB1 (K' - 1) (by lia); simpa [bey] using this)
     refine W.bind (W.elem (by lia) ?_)
     simp only [mpush,mapp,mrev]
     by_cases q3:(K - 1 == 0)=true
     ·rw [if_pos q3]
      exact W.pure ⟨f1,f2,.inl ⟨_,rfl,L3.done (by simpa using q3)⟩⟩
     ·rw [if_neg q3]
      have q3':¬ K - 1=0:=by simpa using q3
      refine W.ite (λ _=>?_) (λ _=>?_)
      ·exact W.pure ⟨f1,f2,.inr ⟨rfl,_,rfl,L3,by show 0<K - 1; lia,by show 1<K'; lia,by show K - 1+(K')<=i1+j1; lia⟩⟩
      ·exact W.pure ⟨f1,f2,rfl,_,rfl,L3,by show 0<K - 1; lia,by show 1<K'; lia,by show K - 1+(K')+(xs.size+ys.size)<=i1+j1+k/\K - 1+(K')<=i1+j1; lia⟩
    ·rw [if_neg z']
     have L3:=L2.stepA T (by lia) (by lia) (by have:=hB1 (j - 1 - 1) (by lia); simpa [bey] using this)
     refine W.bind (W.elem (by lia) ?_)
     simp only [mpush,mapp,mrev]
     by_cases q3:(K - 1 == 0)=true
     ·rw [if_pos q3]
      exact W.pure ⟨f1,f2,.inl ⟨_,rfl,L3.done (by simpa using q3)⟩⟩
     ·rw [if_neg q3]
      have q3':¬ K - 1=0:=by simpa using q3
      refine W.ite (λ _=>?_) (λ _=>?_)
      ·exact W.pure ⟨f1,f2,.inr ⟨rfl,_,rfl,L3,by show 0<K - 1; lia,by show 1<j - 1; lia,by show K - 1+(j - 1)<=i1+j1; lia⟩⟩
      ·exact W.pure ⟨f1,f2,rfl,_,rfl,L3,by show 0<K - 1; lia,by show 1<j - 1; lia,by show K - 1+(j - 1)+(xs.size+ys.size)<=i1+j1+k/\K - 1+(j - 1)<=i1+j1; lia⟩
   ·rw [if_neg z]
    have L2:=L.stepB T (by lia) (by lia) (by have:=hK1 (i - 1) (by lia); simpa [bey] using this)
    have ti2:=L2.ti; have tj2:=L2.tj
    refine W.bind (W.elem (by lia) ?_)
    simp only [mpush,mapp,mrev]
    by_cases q2:(j - 1 == 1)=true
    ·rw [if_pos q2]
     exact W.pure ⟨f1,f2,.inl ⟨_,rfl,L2.first T (by simpa using q2) h0⟩⟩
    rw [if_neg q2]
    have q2':¬ j - 1=1:=by simpa using q2
    obtain ⟨K',hK',hB1,hB2⟩:=KB (i - 1) (j - 1) (by lia)
    have LB:=L2.manyB' T (by lia) hK' λ d h1 h2=>by have:=hB2 d h1 h2; simpa [bey] using this
    refine W.bind (W.elem (by lia) (W.bind (W.gal (K:=K') (T.nx _ (by lia)) T.ny (by lia) (by lia) hK' hB1 hB2 ?_)))
    dsimp only
    by_cases z':j - 1 - K' > 0
    ·rw [if_pos z']
     try simp only [mapp,mrev]
     by_cases q4:(K' == 1)=true
     ·rw [if_pos q4]
      exact W.pure ⟨f1,f2,.inl ⟨_,rfl,LB.first T (by simpa using q4) h0⟩⟩
     rw [if_neg q4]
     have q4':¬ K'=1:=by simpa using q4
     by_cases q5:(K' == 0)=true
     ·rw [if_pos q5]
      exact W.pure ⟨f1,f2,.inl ⟨_,rfl,LB.done2 (by simpa using q5)⟩⟩
     rw [if_neg q5]
     have q5':¬ K'=0:=by simpa using q5
     have L3:=LB.stepA T (by lia) (by lia) (by have:=hB1 (K' - 1) (by lia); simpa [bey] using this)
     refine W.bind (W.elem (by lia) ?_)
     simp only [mpush,mapp,mrev]
     by_cases q3:(i - 1 == 0)=true
     ·rw [if_pos q3]
      exact W.pure ⟨f1,f2,.inl ⟨_,rfl,L3.done (by simpa using q3)⟩⟩
     ·rw [if_neg q3]
      have q3':¬ i - 1=0:=by simpa using q3
      refine W.ite (λ _=>?_) (λ _=>?_)
      ·exact W.pure ⟨f1,f2,.inr ⟨rfl,_,rfl,L3,by show 0<i - 1; lia,by show 1<K'; lia,by show i - 1+(K')<=i1+j1; lia⟩⟩
      ·exact W.pure ⟨f1,f2,rfl,_,rfl,L3,by show 0<i - 1; lia,by show 1<K'; lia,by show i - 1+(K')+(xs.size+ys.size)<=i1+j1+k/\i - 1+(K')<=i1+j1; lia⟩
    ·rw [if_neg z']
     have L3:=L2.stepA T (by lia) (by lia) (by have:=hB1 (j - 1 - 1) (by lia); simpa [bey] using this)
     refine W.bind (W.elem (by lia) ?_)
     simp only [mpush,mapp,mrev]
     by_cases q3:(i - 1 == 0)=true
     ·rw [if_pos q3]
      exact W.pure ⟨f1,f2,.inl ⟨_,rfl,L3.done (by simpa using q3)⟩⟩
     ·rw [if_neg q3]
      have q3':¬ i - 1=0:=by simpa using q3
      refine W.ite (λ _=>?_) (λ _=>?_)
      ·exact W.pure ⟨f1,f2,.inr ⟨rfl,_,rfl,L3,by show 0<i - 1; lia,by show 1<j - 1; lia,by show i - 1+(j - 1)<=i1+j1; lia⟩⟩
      ·exact W.pure ⟨f1,f2,rfl,_,rfl,L3,by show 0<i - 1; lia,by show 1<j - 1; lia,by show i - 1+(j - 1)+(xs.size+ys.size)<=i1+j1+k/\i - 1+(j - 1)<=i1+j1; lia⟩
  ·rw [if_neg hg]
   refine W.bind (W.setMG ?_)
   refine W.bind (W.elem (by lia) (W.bind (W.gal (K:=K) (T.ny _ (by lia)) T.nx (by lia) (by lia) hK hK1 hK2 ?_)))
   dsimp only
   by_cases z:i - K > 0
   ·rw [if_pos z]
    simp only [mapp,mrev]
    by_cases q:(K == 0)=true
    ·rw [if_pos q]
     exact W.pure ⟨f1,f2,.inl ⟨_,rfl,LK.done (by simpa using q)⟩⟩
    rw [if_neg q]
    have q':¬ K=0:=by simpa using q
    have L2:=LK.stepB T (by lia) (by lia) (by have:=hK1 (K - 1) (by lia); simpa [bey] using this)
    have ti2:=L2.ti; have tj2:=L2.tj
    refine W.bind (W.elem (by lia) ?_)
    simp only [mpush,mapp,mrev]
    by_cases q2:(j - 1 == 1)=true
    ·rw [if_pos q2]
     exact W.pure ⟨f1,f2,.inl ⟨_,rfl,L2.first T (by simpa using q2) h0⟩⟩
    rw [if_neg q2]
    have q2':¬ j - 1=1:=by simpa using q2
    obtain ⟨K',hK',hB1,hB2⟩:=KB (K - 1) (j - 1) (by lia)
    have LB:=L2.manyB' T (by lia) hK' λ d h1 h2=>by have:=hB2 d h1 h2; simpa [bey] using this
    refine W.bind (W.elem (by lia) (W.bind (W.gal (K:=K') (T.nx _ (by lia)) T.ny (by lia) (by lia) hK' hB1 hB2 ?_)))
    dsimp only
    by_cases z':j - 1 - K' > 0
    ·rw [if_pos z']
     try simp only [mapp,mrev]
     by_cases q4:(K' == 1)=true
     ·rw [if_pos q4]
      exact W.pure ⟨f1,f2,.inl ⟨_,rfl,LB.first T (by simpa using q4) h0⟩⟩
     rw [if_neg q4]
     have q4':¬ K'=1:=by simpa using q4
     by_cases q5:(K' == 0)=true
     ·rw [if_pos q5]
      exact W.pure ⟨f1,f2,.inl ⟨_,rfl,LB.done2 (by simpa using q5)⟩⟩
     rw [if_neg q5]
     have q5':¬ K'=0:=by simpa using q5
     have L3:=LB.stepA T (by lia) (by lia) (by have:=hB1 (K' - 1) (by lia); simpa [bey] using this)
     refine W.bind (W.elem (by lia) ?_)
     simp only [mpush,mapp,mrev]
     by_cases q3:(K - 1 == 0)=true
     ·rw [if_pos q3]
      exact W.pure ⟨f1,f2,.inl ⟨_,rfl,L3.done (by simpa using q3)⟩⟩
     ·rw [if_neg q3]
      have q3':¬ K - 1=0:=by simpa using q3
      refine W.ite (λ _=>?_) (λ _=>?_)
      ·exact W.pure ⟨f1,f2,.inr ⟨rfl,_,rfl,L3,by show 0<K - 1; lia,by show 1<K'; lia,by show K - 1+(K')<=i1+j1; lia⟩⟩
      ·exact W.pure ⟨f1,f2,rfl,_,rfl,L3,by show 0<K - 1; lia,by show 1<K'; lia,by show K - 1+(K')+(xs.size+ys.size)<=i1+j1+k/\K - 1+(K')<=i1+j1; lia⟩
    ·rw [if_neg z']
     have L3:=L2.stepA T (by lia) (by lia) (by have:=hB1 (j - 1 - 1) (by lia); simpa [bey] using this)
     refine W.bind (W.elem (by lia) ?_)
     simp only [mpush,mapp,mrev]
     by_cases q3:(K - 1 == 0)=true
     ·rw [if_pos q3]
      exact W.pure ⟨f1,f2,.inl ⟨_,rfl,L3.done (by simpa using q3)⟩⟩
     ·rw [if_neg q3]
      have q3':¬ K - 1=0:=by simpa using q3
      refine W.ite (λ _=>?_) (λ _=>?_)
      ·exact W.pure ⟨f1,f2,.inr ⟨rfl,_,rfl,L3,by show 0<K - 1; lia,by show 1<j - 1; lia,by show K - 1+(j - 1)<=i1+j1; lia⟩⟩
      ·exact W.pure ⟨f1,f2,rfl,_,rfl,L3,by show 0<K - 1; lia,by show 1<j - 1; lia,by show K - 1+(j - 1)+(xs.size+ys.size)<=i1+j1+k/\K - 1+(j - 1)<=i1+j1; lia⟩
   ·rw [if_neg z]
    have L2:=L.stepB T (by lia) (by lia) (by have:=hK1 (i - 1) (by lia); simpa [bey] using this)
    have ti2:=L2.ti; have tj2:=L2.tj
    refine W.bind (W.elem (by lia) ?_)
    simp only [mpush,mapp,mrev]
    by_cases q2:(j - 1 == 1)=true
    ·rw [if_pos q2]
     exact W.pure ⟨f1,f2,.inl ⟨_,rfl,L2.first T (by simpa using q2) h0⟩⟩
    rw [if_neg q2]
    have q2':¬ j - 1=1:=by simpa using q2
    obtain ⟨K',hK',hB1,hB2⟩:=KB (i - 1) (j - 1) (by lia)
    have LB:=L2.manyB' T (by lia) hK' λ d h1 h2=>by have:=hB2 d h1 h2; simpa [bey] using this
    refine W.bind (W.elem (by lia) (W.bind (W.gal (K:=K') (T.nx _ (by lia)) T.ny (by lia) (by lia) hK' hB1 hB2 ?_)))
    dsimp only
    by_cases z':j - 1 - K' > 0
    ·rw [if_pos z']
     try simp only [mapp,mrev]
     by_cases q4:(K' == 1)=true
     ·rw [if_pos q4]
      exact W.pure ⟨f1,f2,.inl ⟨_,rfl,LB.first T (by simpa using q4) h0⟩⟩
     rw [if_neg q4]
     have q4':¬ K'=1:=by simpa using q4
     by_cases q5:(K' == 0)=true
     ·rw [if_pos q5]
      exact W.pure ⟨f1,f2,.inl ⟨_,rfl,LB.done2 (by simpa using q5)⟩⟩
     rw [if_neg q5]
     have q5':¬ K'=0:=by simpa using q5
     have L3:=LB.stepA T (by lia) (by lia) (by have:=hB1 (K' - 1) (by lia); simpa [bey] using this)
     refine W.bind (W.elem (by lia) ?_)
     simp only [mpush,mapp,mrev]
     by_cases q3:(i - 1 == 0)=true
     ·rw [if_pos q3]
      exact W.pure ⟨f1,f2,.inl ⟨_,rfl,L3.done (by simpa using q3)⟩⟩
     ·rw [if_neg q3]
      have q3':¬ i - 1=0:=by simpa using q3
      refine W.ite (λ _=>?_) (λ _=>?_)
      ·exact W.pure ⟨f1,f2,.inr ⟨rfl,_,rfl,L3,by show 0<i - 1; lia,by show 1<K'; lia,by show i - 1+(K')<=i1+j1; lia⟩⟩
      ·exact W.pure ⟨f1,f2,rfl,_,rfl,L3,by show 0<i - 1; lia,by show 1<K'; lia,by show i - 1+(K')+(xs.size+ys.size)<=i1+j1+k/\i - 1+(K')<=i1+j1; lia⟩
    ·rw [if_neg z']
     have L3:=L2.stepA T (by lia) (by lia) (by have:=hB1 (j - 1 - 1) (by lia); simpa [bey] using this)
     refine W.bind (W.elem (by lia) ?_)
     simp only [mpush,mapp,mrev]
     by_cases q3:(i - 1 == 0)=true
     ·rw [if_pos q3]
      exact W.pure ⟨f1,f2,.inl ⟨_,rfl,L3.done (by simpa using q3)⟩⟩
     ·rw [if_neg q3]
      have q3':¬ i - 1=0:=by simpa using q3
      refine W.ite (λ _=>?_) (λ _=>?_)
      ·exact W.pure ⟨f1,f2,.inr ⟨rfl,_,rfl,L3,by show 0<i - 1; lia,by show 1<j - 1; lia,by show i - 1+(j - 1)<=i1+j1; lia⟩⟩
      ·exact W.pure ⟨f1,f2,rfl,_,rfl,L3,by show 0<i - 1; lia,by show 1<j - 1; lia,by show i - 1+(j - 1)+(xs.size+ys.size)<=i1+j1+k/\i - 1+(j - 1)<=i1+j1; lia⟩
 ·rintro ⟨r,i,j,o,g,ca,cb⟩ b1 ⟨f1,f2,_,os,_,L,hi,hj,hk1,hk2⟩
  dsimp only at hi hj hk1 hk2
  exact absurd hk1 (by lia)
 obtain ⟨r,i2,j2,o,g2,ca,cb⟩:=c
 obtain ⟨f1,f2,hc⟩:=hc
 dsimp only at hc ⊢
 rcases hc with ⟨rs,e,hm⟩ | ⟨e,os2,eo,L,hi2,hj2,hk2⟩
 ·subst e
  exact W.pure ⟨f1,f2,rs,rfl,hm⟩
 subst e eo
 dsimp only
 exact W.bind (W.setMG (W.pure ⟨f1,f2,rfl,_,rfl,L,hi2,hj2,by show i2+j2+1<=k; lia⟩))
end
theorem xR (n:Nat):mergeAt' n=(do
 let st <-get
 let (some (u,nu,pw),some (v,nv,_)):=((pendingOf st)[n]?,(pendingOf st)[n+1]?) | unsupported "internal:list.sort.pending"
 set (setPending st (((pendingOf st).setIfInBounds n (u,nu+nv,pw)).eraseIdxIfInBounds (n+1)))
 let some k <-gal false (<-elem' (arrOf st) v) (arrOf st) u nu 0 | return false
 let (u,nu):=(u+k,nu - k)
 if nu == 0 then return true
 let some nv <-gal true (<-elem' (arrOf st) (u+nu - 1)) (arrOf st) v nv (nv - 1) | return false
 if nv == 0 then return true
 let X:=(arrOf st).extract u v
 let Y:=(arrOf st).extract v (v+nv)
 let R <-if nu<=nv then mLo X Y else mHi X Y
 modify λ st=>setArr st (R.toList.zipIdx.foldl (λ z (q,j)=>z.setIfInBounds (u+j) q) (arrOf st))
 return (failedOf (<-get)).isNone):=rfl
theorem lP {α:Type}:∀ (l:List α) (k s:Nat) (z:Array α),s+k+l.length<=z.size->
  ((l.zipIdx k).foldl (λ z x=>z.setIfInBounds (s+x.2) x.1) z).toList=z.toList.take (s+k)++l++z.toList.drop (s+k+l.length)
 | [],k,s,z,h=>by simp
 | x::l,k,s,z,h=>by
  rw [GP,G7]
  have ih:=lP l (k+1) s (z.setIfInBounds (s+k) x) (by rw [GS]; simp at h; lia)
  rw [ih]
  have hz:s+k<z.toList.length:=by simp at h ⊢; lia
  rw [Gx]
  have e1:(z.toList.set (s+k) x).take (s+(k+1))=z.toList.take (s+k)++[x]:=by
   rw [show s+(k+1)=s+k+1 by lia,DM (by simpa using hz)]
   rw [List.getElem_set_self,List.take_set_of_le (BD _)]
  have e2:(z.toList.set (s+k) x).drop (s+(k+1)+l.length)=z.toList.drop (s+(k+1)+l.length):=by
   rw [List.drop_set,if_pos (by lia)]
  rw [e1,e2]
  simp only [Cu,List.cons_append,DS,Ci]
  rw [show s+(k+1)+l.length=s+k+(l.length+1) by lia]
section
variable {O:Orc} {b:Ab}
theorem W.set {st:SortSt} {Q:PUnit->Ab->Prop} (b':Ab) (e:st=b'.st O) (h:Q ⟨⟩ b'):W O (Ll st:SM PUnit) Q b:=λ s hs=>by
 unfold kasC
 show wpAny _ _ ((StateT.set st:SM PUnit).run (b.st O)) _ _ s
 exact wpAny_pure ⟨hs,b',e,h⟩
theorem gd {p:Array Nat} {pre l:List Nat} (h:p.toList=pre++l) (d:Nat):p.getD (pre.length+d) 0=l.getD d 0:=by
 have:p.getD (pre.length+d) 0=p.toList.getD (pre.length+d) 0:=by
  by_cases q:pre.length+d<p.size
  ·simp [Ce,q]
  ·have q':¬ pre.length+d<p.toList.length:=by simpa using q
   simp [Ce,q,JK,CB (EW q')]
 rw [this,h]
 simp [JK,B2]
theorem gl {l:List Nat} {d:Nat} (h:d<l.length):l.getD d 0=l[d]:=by simp [JK,h]
structure Nb (O:Orc) (p:Array Nat) (pre R1 R2 suf:List Nat):Prop where
 H:Lt O.lt
 e:p.toList=pre++(R1++(R2++suf))
 nn:∀ k,k<p.size->p.getD k 0<O.N
 s1:R1.Pairwise (Ah O.lt)
 s2:R2.Pairwise (Ah O.lt)
 xy:∀ x∈R1,∀ y∈R2,x<y
 l1:0<R1.length
 l2:0<R2.length
theorem W.mAt {p:Array Nat} {pd:Array (Nat×Nat×Nat)} {mg pw pw2:Nat} {pre R1 R2 suf:List Nat} {Q:Bool->Ab->Prop} (T:Nb O p pre R1 R2 suf) (d1:pd[n]? = some (pre.length,R1.length,pw)) (d2:pd[n+1]? = some (pre.length+R1.length,R2.length,pw2))
  (h:∀ (M:List Nat) (p':Array Nat) mg',M.Perm (R1++R2)->M.Pairwise (Ah O.lt)->p'.toList=pre++(M++suf)->Q true ⟨p',(pd.setIfInBounds n (pre.length,R1.length+R2.length,pw)).eraseIdxIfInBounds (n+1),mg'⟩):W O (mergeAt' n) Q ⟨p,pd,mg⟩:=by
 have l1:=T.l1
 have l2:=T.l2
 have hz:p.size=pre.length+(R1.length+(R2.length+suf.length)):=by rw [<-BP,T.e]; simp
 have g1:∀ d,d<R1.length->p.getD (pre.length+d) 0=R1.getD d 0:=λ d hd=>by
  rw [gd T.e,gl (by simp; lia),gl hd,Fd hd]
 have e2:p.toList=(pre++R1)++(R2++suf):=by rw [T.e]; simp
 have g2:∀ d,d<R2.length->p.getD (pre.length+R1.length+d) 0=R2.getD d 0:=λ d hd=>by
  have:=gd e2 d
  rw [BO] at this
  rw [this,gl (by simp; lia),gl hd,Fd hd]
 have m1:∀ d,d<R1.length->R1.getD d 0∈R1:=λ d hd=>by rw [gl hd]; exact BM hd
 have m2:∀ d,d<R2.length->R2.getD d 0∈R2:=λ d hd=>by rw [gl hd]; exact BM hd
 have a1:∀ c d,c<d->d<R1.length->Ah O.lt (R1.getD c 0) (R1.getD d 0):=λ c d hc hd=>by
  rw [gl hd,gl (by lia)]; exact Ct.mp T.s1 c d (by lia) hd hc
 have a2:∀ c d,c<d->d<R2.length->Ah O.lt (R2.getD c 0) (R2.getD d 0):=λ c d hc hd=>by
  rw [gl hd,gl (by lia)]; exact Ct.mp T.s2 c d (by lia) hd hc
 rw [xR]
 refine W.bind (W.get ?_)
 have hp:pendingOf (Ab.st O ⟨p,pd,mg⟩)=pd:=rfl
 have ha:arrOf (Ab.st O ⟨p,pd,mg⟩)=p.map (kas_item O.it):=rfl
 simp only [hp,ha,d1,d2]
 refine W.bind (W.set ⟨p,(pd.setIfInBounds n (pre.length,R1.length+R2.length,pw)).eraseIdxIfInBounds (n+1),mg⟩ rfl ?_)
 generalize (pd.setIfInBounds n (pre.length,R1.length+R2.length,pw)).eraseIdxIfInBounds (n+1)=pd' at h ⊢
 -- the first of the second run,looked for in the first
 obtain ⟨K,hK,k1,k2⟩:=iq (P:=λ d=>bey O false (p.getD (pre.length+R1.length) 0) p pre.length d) R1.length (λ c d h1 h2 h3=>by
  simp only [bey,BG,if_false,GC] at h3 ⊢
  rcases Dj h1 with rfl | h1
  ·exact h3
  ·rw [g1 d h2] at h3; rw [g1 c (by lia)]
   exact T.H.tr _ _ _ h3 (a1 c d h1 h2).1)
 have y0:p.getD (pre.length+R1.length) 0=R2.getD 0 0:=g2 0 l2
 have k1':∀ d,d<K->O.lt (R2.getD 0 0) (R1.getD d 0)=false:=λ d hd=>by
  have:=k1 d hd
  simp only [bey,BG,if_false,GC] at this
  rwa [y0,g1 d (by lia)] at this
 have k2':∀ d,K<=d->d<R1.length->O.lt (R2.getD 0 0) (R1.getD d 0)=true:=λ d h1 h2=>by
  have:=k2 d h1 h2
  simp only [bey,BG,if_false,Bool.not_eq_false'] at this
  rwa [y0,g1 d (by lia)] at this
 refine W.bind (W.elem (by lia) (W.bind (W.gal (K:=K) (T.nn _ (by lia)) T.nn (by lia) l1 hK k1 k2 ?_)))
 -- what stays ahead stands ahead of all of the second run
 have F1:∀ a∈R1.take K,∀ y∈R2,Ah O.lt a y:=λ a ha y hy=>by
  obtain ⟨d,hd,rfl⟩:=Cj ha
  have hd':d<K:=by rw [BV] at hd; lia
  have hd1:d<R1.length:=by lia
  have e:(R1.take K)[d]=R1.getD d 0:=by rw [gl hd1]; simp
  rw [e]
  have b0:Ah O.lt (R1.getD d 0) (R2.getD 0 0):=⟨k1' d hd',λ _=>T.xy _ (m1 d hd1) _ (m2 0 l2)⟩
  obtain ⟨c,hc,rfl⟩:=Cj hy
  rw [<-gl hc]
  rcases Ez c with rfl | hc0
  ·exact b0
  ·exact b0.trans T.H (a2 0 c hc0 hc)
 dsimp only
 by_cases q:(R1.length - K == 0)=true
 ·rw [if_pos q]
  have q':R1.length - K=0:=by simpa using q
  have eK:R1.take K=R1:=BF (by lia)
  rw [eK] at F1
  exact W.pure (h (R1++R2) p mg (DC _) (BR.mpr ⟨T.s1,T.s2,λ a ha c hc=>F1 a ha c hc⟩) (by rw [T.e]; simp))
 rw [if_neg q]
 have q':¬ R1.length - K=0:=by simpa using q
 have ex:pre.length+K+(R1.length - K) - 1=pre.length+(R1.length - 1):=by lia
 rw [ex]
 obtain ⟨K',hK',j1,j2⟩:=iq (P:=λ d=>bey O true (p.getD (pre.length+(R1.length - 1)) 0) p (pre.length+R1.length) d) R2.length (λ c d h1 h2 h3=>by
  simp only [bey,if_true] at h3 ⊢
  rcases Dj h1 with rfl | h1
  ·exact h3
  ·rw [g2 d h2] at h3; rw [g2 c (by lia)]
   exact i8 T.H h3 (a2 c d h1 h2).1)
 have x9:=g1 (R1.length - 1) (by lia)
 have j1':∀ d,d<K'->O.lt (R2.getD d 0) (R1.getD (R1.length - 1) 0)=true:=λ d hd=>by
  have:=j1 d hd
  simp only [bey,if_true] at this
  rwa [x9,g2 d (by lia)] at this
 have j2':∀ d,K'<=d->d<R2.length->O.lt (R2.getD d 0) (R1.getD (R1.length - 1) 0)=false:=λ d h1 h2=>by
  have:=j2 d h1 h2
  simp only [bey,if_true] at this
  rwa [x9,g2 d (by lia)] at this
 refine W.bind (W.elem (by lia) (W.bind (W.gal (K:=K') (T.nn _ (by lia)) T.nn (by lia) (by lia) hK' j1 j2 ?_)))
 dsimp only
 have kp:0<K':=by
  rcases Ez K' with z | z
  ·have:=j2' 0 (by lia) l2
   rw [k2' _ (by lia) (by lia)] at this; cases this
  ·exact z
 rw [if_neg (by simp; lia)]
 have F2:∀ x∈R1,∀ y∈R2.drop K',Ah O.lt x y:=λ x hx y hy=>by
  obtain ⟨d,hd,rfl⟩:=Cj hy
  have hd':K'+d<R2.length:=by rw [Cr] at hd; lia
  have e:(R2.drop K')[d]=R2.getD (K'+d) 0:=by rw [gl hd']; simp
  rw [e]
  have b0:Ah O.lt (R1.getD (R1.length - 1) 0) (R2.getD (K'+d) 0):=⟨j2' _ (by lia) hd',λ _=>T.xy _ (m1 _ (by lia)) _ (m2 _ hd')⟩
  obtain ⟨c,hc,rfl⟩:=Cj hx
  rw [<-gl hc]
  rcases Dj (show c<=R1.length - 1 by lia) with rfl | hc0
  ·exact b0
  ·exact (a1 c _ hc0 (by lia)).trans T.H b0
 have mext:∀ (zs:Array Nat) (i j:Nat),(zs.map (kas_item O.it)).extract i j=(zs.extract i j).map (kas_item O.it):=λ zs i j=>by rw [GD]
 simp only [mext]
 have ex1:(p.extract (pre.length+K) (pre.length+R1.length)).toList=R1.drop K:=by
  rw [DE,C6,T.e,show pre.length+R1.length - (pre.length+K)=R1.length - K by lia,Fz,Hh (by lia),DS,show pre.length+K - pre.length=K by lia,EH hK,DX (by simp)]
  exact BF (by simp)
 have ex2:(p.extract (pre.length+R1.length) (pre.length+R1.length+K')).toList=R2.take K':=by
  rw [DE,C6,e2,show pre.length+R1.length+K' - (pre.length+R1.length)=K' by lia,Fz,Hh (by simp),DS,BO,FN,C2,DX hK']
 have z1:(p.extract (pre.length+K) (pre.length+R1.length)).size=R1.length - K:=by rw [<-BP,ex1,Cr]
 have z2:(p.extract (pre.length+R1.length) (pre.length+R1.length+K')).size=K':=by rw [<-BP,ex2,BV]; lia
 generalize p.extract (pre.length+K) (pre.length+R1.length)=xs at ex1 z1 ⊢
 generalize p.extract (pre.length+R1.length) (pre.length+R1.length+K')=ys at ex2 z2 ⊢
 have gx:∀ d,d<xs.size->xs.getD d 0=R1.getD (K+d) 0:=λ d hd=>by
  have:=gd (p:=xs) (pre:=[]) (l:=R1.drop K) (by simpa using ex1) d
  simp only [Dh,DI] at this
  rw [this,gl (by rw [Cr]; lia),gl (by lia),GE]
 have gy:∀ d,d<ys.size->ys.getD d 0=R2.getD d 0:=λ d hd=>by
  have:=gd (p:=ys) (pre:=[]) (l:=R2.take K') (by simpa using ex2) d
  simp only [Dh,DI] at this
  rw [this,gl (by rw [BV]; lia),gl (by lia),GF]
 have TT:Two O xs ys:=by
  refine ⟨T.H,λ d hd=>?_,λ d hd=>?_,?_,?_,λ x hx y hy=>?_,by lia,by lia⟩
  ·rw [gx d hd,<-g1 (K+d) (by lia)]; exact T.nn _ (by lia)
  ·rw [gy d hd,<-g2 d (by lia)]; exact T.nn _ (by lia)
  ·rw [ex1]; exact T.s1.sublist (GG _ _)
  ·rw [ex2]; exact T.s2.sublist (EI _ _)
  ·rw [ex1] at hx; rw [ex2] at hy
   exact T.xy x (Da hx) y (C5 hy)
 have h0:O.lt (ys.getD 0 0) (xs.getD 0 0)=true:=by
  rw [gx 0 (by lia),gy 0 (by lia)]; exact k2' _ (by lia) (by lia)
 have hl:∀ y∈ys.toList,O.lt y (xs.getD (xs.size - 1) 0)=true:=λ y hy=>by
  rw [gx _ (by lia),show K+(xs.size - 1)=R1.length - 1 by lia]
  rw [ex2] at hy
  obtain ⟨d,hd,rfl⟩:=Cj hy
  rw [BV] at hd
  have e:(R2.take K')[d]=R2.getD d 0:=by rw [gl (by lia)]; simp
  rw [e]; exact j1' d (by lia)
 have fin:∀ (rs:Array Nat) (mg':Nat),kJ O xs ys rs->W O (do
   _root_.modify λ st=>setArr st ((rs.map (kas_item O.it)).toList.zipIdx.foldl (λ z x=>z.setIfInBounds (pre.length+K+x.2) x.1) (arrOf st))
   let st <-JD
   K8 (failedOf st).isNone) Q ⟨p,pd',mg'⟩:=by
  intro rs mg' ⟨hm,hs⟩
  rw [ex1,ex2] at hm
  have hrl:rs.toList.length=R1.length - K+K':=by rw [hm.length_eq,BO,Cr,BV]; lia
  have hfs:=lP (rs.map (kas_item O.it)).toList 0 (pre.length+K) (p.map (kas_item O.it)) (by rw [EZ,By,hrl,Fh]; lia)
  have el:(((rs.map (kas_item O.it)).toList.zipIdx.foldl (λ z x=>z.setIfInBounds (pre.length+K+x.2) x.1) (p.map (kas_item O.it))))=(B8 (pre++((R1.take K++rs.toList++R2.drop K')++suf))).map (kas_item O.it):=by
   apply Du.mp
   rw [hfs]
   rw [EZ,EZ,EZ,By,hrl,<-Fw,<-Fx,<-B4,<-B4]
   congr 1
   have t1:p.toList.take (pre.length+K+0)=pre++R1.take K:=by
    rw [T.e,En,List.take_append,BF (by lia),show pre.length+K - pre.length=K by lia,DX hK]
   have t2:p.toList.drop (pre.length+K+0+(R1.length - K+K'))=R2.drop K'++suf:=by
    rw [e2,show pre.length+K+0+(R1.length - K+K')=(pre++R1).length+K' by rw [BO]; lia,List.drop_length_add_append,EH hK']
   rw [t1,t2]
   simp
  refine W.bind (W.modify ⟨B8 (pre++((R1.take K++rs.toList++R2.drop K')++suf)),pd',mg'⟩ ?_ ?_)
  ·show DD O.κ _ pd' mg' none=DD O.κ _ pd' mg' none
   have:arrOf (Ab.st O ⟨p,pd',mg'⟩)=p.map (kas_item O.it):=rfl
   rw [this,el]
  refine W.bind (W.get (W.pure ?_))
  refine h (R1.take K++rs.toList++R2.drop K') _ mg' ?_ ?_ rfl
  ·have:(R1++R2)=R1.take K++(R1.drop K++R2.take K')++R2.drop K':=by
    rw [<-Cu,Ck,Cu,Ck]
   rw [this]
   exact (hm.append_left _).append_right _
  ·have mem:∀ r∈rs.toList,r∈R1.drop K\/r∈R2.take K':=λ r hr=>BY.mp (hm.mem_iff.mp hr)
   have p1:(R1.take K++R1.drop K).Pairwise (Ah O.lt):=by rw [Ck]; exact T.s1
   have p2:(R2.take K'++R2.drop K').Pairwise (Ah O.lt):=by rw [Ck]; exact T.s2
   refine BR.mpr ⟨BR.mpr ⟨T.s1.sublist (EI _ _),hs,λ a ha r hr=>?_⟩,T.s2.sublist (GG _ _),λ a ha y hy=>?_⟩
   ·rcases mem r hr with z | z
    ·exact (BR.mp p1).2.2 a ha r z
    ·exact F1 a ha r (C5 z)
   ·rcases BY.mp ha with z | z
    ·exact F1 a z y (Da hy)
    ·rcases mem a z with z | z
     ·exact F2 a (Da z) y hy
     ·exact (BR.mp p2).2.2 a z y hy
 by_cases c:R1.length - K<=K'
 ·rw [if_pos c]
  exact W.bind (W.mLo TT h0 hl λ rs mg' hm=>fin rs mg' hm)
 ·rw [if_neg c]
  exact W.bind (W.mHi TT h0 hl λ rs mg' hm=>fin rs mg' hm)
end
noncomputable def ev (lt:Nat->Nat->Bool) {α:Type}:KasT α->α
 | .ret a=>a
 | .ask i j k=>ev lt (k (lt i j))
theorem dy (lt:Nat->Nat->Bool) {α β:Type} (f:α->KasT β):∀ t:KasT α,ev lt (t.bind f)=ev lt (f (ev lt t))
 | .ret _=>rfl
 | .ask i j k=>dy lt f (k (lt i j))
theorem Sat.ev {N:Nat} {lt:Nat->Nat->Bool} {α:Type} {R:α->Prop}:∀ t:KasT α,Sat N lt t R->R (L2.ev lt t)
 | .ret _,h=>h
 | .ask i j k,h=>Sat.ev (k (lt i j)) h.2.2
noncomputable def sh (lt:Nat->Nat->Bool) (lo:Nat):Nat->Nat->Bool:=λ i j=>lt (i+lo) (j+lo)
theorem Lt.sh {lt:Nat->Nat->Bool} (H:Lt lt) (lo:Nat):Lt (sh lt lo):=⟨λ i j h=>H.asym _ _ h,λ i j k h h'=>H.tr _ _ _ h h'⟩
section
variable {O:Orc} {b:Ab} {lo n nrem:Nat} {pre:List Nat} {pd:Array (Nat×Nat×Nat)} {mg:Nat} {P:Array Nat}
theorem W.rangeV {γ:Type} {x y:Nat} {c:γ} {f:Nat->γ->SM (ForInStep γ)} {D:γ->Ab->Prop} (J:Nat->γ->Ab->Prop) (hxy:x<=y) (h0:J x c b)
  (hs:∀ k c b,x<=k->k<y->J k c b->W O (f k c) (λ r b'=>match r with | .done c'=>D c' b' | .yield c'=>J (k+1) c' b') b) (hd:∀ c b,J y c b->D c b):W O (Hg [x:y] c f) D b:=λ s hi=>by
 refine kasC_range ?_
 have go:∀ (m k:Nat) (c:γ) (b:Ab),x<=k->k+m=y->J k c b->W O (Hg (Co k m) c f) D b:=by
  intro m
  induction m with
  | zero=>
   intro k c b _ e h s hi
   have:k=y:=by lia
   subst this
   exact kasC_nil ⟨hi,b,rfl,hd c b h⟩
  | succ m ih=>
   intro k c b hk e h s hi
   rw [List.range'_succ]
   refine kasC_cons (wpAny_mono (hs k c b hk (by lia) h s hi) (λ r s' ⟨i,b',e',q⟩=>?_) λ _ _ z=>z)
   obtain ⟨r,st⟩:=r
   have e':st=b'.st O:=e'
   subst e'
   cases r with
   | done c'=>exact ⟨i,b',rfl,q⟩
   | yield c'=>exact ih (k+1) c' b' (by lia) (by lia) q s' i
 exact go (y - x) x c b (BD _) (by lia) h0 s hi
noncomputable def abP (lo:Nat) (pre:List Nat) (pd:Array (Nat×Nat×Nat)) (mg:Nat) (P:Array Nat):Ab:=⟨B8 (pre++P.toList.map (· + lo)),pd,mg⟩
structure Fm (O:Orc) (lo nrem:Nat) (pre:List Nat) (P:Array Nat):Prop where
 pl:pre.length=lo
 pn:∀ x∈pre,x<O.N
 top:lo+nrem<=O.N
 perm:P.Perm (B8 (BC nrem))
theorem Fm.get (F:Fm O lo nrem pre P) (hi:i<nrem):(abP lo pre pd mg P).p.getD (lo+i) 0=P.getD i 0+lo:=by
 have hz:=(eR F.perm).sz
 have e:(abP lo pre pd mg P).p.toList=pre++P.toList.map (· + lo):=rfl
 have:=gd e i
 rw [F.pl] at this
 rw [this,gl (by simp; lia)]
 simp [Ce,hz,hi]
theorem Fm.size (F:Fm O lo nrem pre P):(abP lo pre pd mg P).p.size=lo+nrem:=by
 have hz:=(eR F.perm).sz
 show (B8 (pre++P.toList.map (· + lo))).size=_
 simp [F.pl,hz]
theorem Fm.all (F:Fm O lo nrem pre P):∀ k,k<(abP lo pre pd mg P).p.size->(abP lo pre pd mg P).p.getD k 0<O.N:=λ k hk=>by
 rw [F.size] at hk
 rcases CO k lo with h | h
 ·have e:(abP lo pre pd mg P).p.getD k 0=pre.getD k 0:=by
   show (B8 (pre++P.toList.map (· + lo))).getD k 0=_
   have hk':k<pre.length:=by rw [F.pl]; exact h
   have hz:=(eR F.perm).sz
   have:k<(B8 (pre++P.toList.map (· + lo))).size:=by simp [F.pl,hz]; lia
   rw [gl hk']
   simp [Ce,F.pl,hz,hk,Fd hk']
  rw [e,gl (by rw [F.pl]; exact h)]
  exact F.pn _ (BM _)
 ·obtain ⟨d,rfl⟩:∃ d,k=lo+d:=⟨k - lo,by lia⟩
  rw [F.get (by lia)]
  have:=(eR F.perm).bd d (by lia)
  have:=F.top
  lia
theorem Fm.of (F:Fm O lo nrem pre P) {P':Array Nat} (h:P'.Perm (B8 (BC nrem))):Fm O lo nrem pre P':=⟨F.pl,F.pn,F.top,h⟩
theorem W.ltF {Q:Option Bool->Ab->Prop} (F:Fm O lo nrem pre P) (hi:i<nrem) (hj:j<nrem) (h:Q (some (sh O.lt lo (P.getD i 0) (P.getD j 0))) (abP lo pre pd mg P)):W O (ltAt' (lo+i) (lo+j)) Q (abP lo pre pd mg P):=by
 refine W.ltAt (by rw [F.size]; lia) (by rw [F.size]; lia) F.all ?_
 rw [F.get hi,F.get hj]; exact h
theorem u7 (xs:Array Nat) (k:Nat) (h:k<xs.size):xs[k]? = some (xs.getD k 0):=by simp [Ce,h]
theorem W.revF {Q:Unit->Ab->Prop} (F:Fm O lo nrem pre P) (hj:j<=nrem) (h:Q () (abP lo pre pd mg (kas_rev P i j))):W O (reverseSlice' (lo+i) (lo+j)) Q (abP lo pre pd mg P):=by
 rw [reverseSlice'_eq]
 refine W.modify _ ?_ h
 show DD O.κ (mirror ((abP lo pre pd mg P).p.map (kas_item O.it)) (lo+i) (lo+j) (((lo+j) - (lo+i)) / 2)) pd mg none=DD O.κ ((abP lo pre pd mg (kas_rev P i j)).p.map (kas_item O.it)) pd mg none
 have e1:mirror ((abP lo pre pd mg P).p.map (kas_item O.it)) (lo+i) (lo+j) (((lo+j) - (lo+i)) / 2)=(mirror (abP lo pre pd mg P).p (lo+i) (lo+j) (((lo+j) - (lo+i)) / 2)).map (kas_item O.it):=kas_swaps_map (kas_item O.it) (λ k=>lo+i+k) (λ k=>lo+j - 1 - k) _ _
 rw [e1]
 have F':Fm O lo nrem pre (kas_rev P i j):=F.of (bf _ _ F.perm)
 have hz:=(eR F.perm).sz
 congr 2
 apply Iw
 intro k
 rw [getElem?_mirror_all (by rw [F.size]; lia)]
 rcases CO k lo with hk | hk
 ·rw [if_neg (by lia)]
  show (B8 (pre++_))[k]? = (B8 (pre++_))[k]?
  have hk':k<pre.length:=by rw [F.pl]; exact hk
  simp [BX hk']
 ·obtain ⟨d,rfl⟩:∃ d,k=lo+d:=⟨k - lo,by lia⟩
  rcases CO d nrem with hd | hd
  ·rw [u7 (abP lo pre pd mg (kas_rev P i j)).p (lo+d) (by rw [F'.size]; lia),F'.get hd,bS (by lia)]
   by_cases c:i<=d/\d<j
   ·rw [if_pos (by lia),if_pos c,show lo+i+(lo+j) - 1 - (lo+d)=lo+(i+j - 1 - d) by lia,u7 _ _ (by rw [F.size]; lia),F.get (by lia)]
   ·rw [if_neg (by lia),if_neg c,u7 _ _ (by rw [F.size]; lia),F.get hd]
  ·rw [if_neg (by lia),D5 (by rw [F.size]; lia),D5 (by rw [F'.size]; lia)]
theorem W.movF {l:Nat} {Q:Unit->Ab->Prop} (F:Fm O lo nrem pre P) (hk:k<nrem) (hl:l<=k) (h:Q () (abP lo pre pd mg (bubble P k (k - l)))):W O (moveDown' (lo+k) (lo+l)) Q (abP lo pre pd mg P):=by
 rw [moveDown'_eq]
 refine W.modify _ ?_ h
 show DD O.κ (bubble ((abP lo pre pd mg P).p.map (kas_item O.it)) (lo+k) (lo+k - (lo+l))) pd mg none=DD O.κ ((abP lo pre pd mg (bubble P k (k - l))).p.map (kas_item O.it)) pd mg none
 have e1:bubble ((abP lo pre pd mg P).p.map (kas_item O.it)) (lo+k) (lo+k - (lo+l))=(bubble (abP lo pre pd mg P).p (lo+k) (lo+k - (lo+l))).map (kas_item O.it):=kas_swaps_map (kas_item O.it) (λ i=>lo+k - i) (λ i=>lo+k - i - 1) _ _
 rw [e1]
 have F':Fm O lo nrem pre (bubble P k (k - l)):=F.of (i9 _ _ F.perm)
 have hz:=(eR F.perm).sz
 congr 2
 apply Iw
 intro x
 rw [getElem?_bubble (by rw [F.size]; lia) _ (by lia),show lo+k - (lo+k - (lo+l))=lo+l by lia]
 rcases CO x lo with hx | hx
 ·rw [if_neg (by lia),if_neg (by lia)]
  show (B8 (pre++_))[x]? = (B8 (pre++_))[x]?
  have hx':x<pre.length:=by rw [F.pl]; exact hx
  simp [BX hx']
 ·obtain ⟨d,rfl⟩:∃ d,x=lo+d:=⟨x - lo,by lia⟩
  rcases CO d nrem with hd | hd
  ·rw [u7 (abP lo pre pd mg (bubble P k (k - l))).p (lo+d) (by rw [F'.size]; lia),F'.get hd,fX (by lia) hl]
   by_cases c:d=l
   ·rw [if_pos (by lia),if_pos c,u7 _ _ (by rw [F.size]; lia),F.get hk]
   ·rw [if_neg (by lia),if_neg c]
    by_cases c2:l<d/\d<=k
    ·rw [if_pos (by lia),if_pos c2,show lo+d - 1=lo+(d - 1) by lia,u7 _ _ (by rw [F.size]; lia),F.get (by lia)]
    ·rw [if_neg (by lia),if_neg c2,u7 _ _ (by rw [F.size]; lia),F.get hd]
  ·rw [if_neg (by lia),if_neg (by lia),D5 (by rw [F.size]; lia),D5 (by rw [F'.size]; lia)]
theorem W.cnt {Q:Option Nat->Ab->Prop} (F:Fm O lo nrem pre P) (h1:1<=nrem) (h:Q (some (ev (sh O.lt lo) (kas_count nrem P)).1) (abP lo pre pd mg (ev (sh O.lt lo) (kas_count nrem P)).2)):W O (countRun' lo nrem) Q (abP lo pre pd mg P):=by
 rw [countRun'_eq]
 refine W.bind (W.range (D:=λ c b1=>b1=abP lo pre pd mg P/\c.1=none/\c.2=ev (sh O.lt lo) (kas_asc P (nrem - 1) 1)/\1<=c.2/\c.2<=nrem) (λ k c b1=>b1=abP lo pre pd mg P/\c.1=none/\1<=c.2/\c.2+k=nrem/\ev (sh O.lt lo) (kas_asc P k c.2)=ev (sh O.lt lo) (kas_asc P (nrem - 1) 1)) ⟨rfl,rfl,by show 1<=1; lia,by show 1+(nrem - 1)=nrem; lia,rfl⟩ ?_ ?_ |>.mono λ c b1 hc=>?_)
 ·rintro x k ⟨r,m⟩ b1 ⟨eb,er,q1,q2,q3⟩
  dsimp only at er q1 q2 q3 ⊢
  subst eb er
  rw [show lo+m - 1=lo+(m - 1) by lia]
  refine W.bind (W.ltF F (by lia) (by lia) ?_)
  have q3:ev (sh O.lt lo) (if sh O.lt lo (Ce P m 0) (Ce P (m - 1) 0)=true then KasT.ret m else kas_asc P k (m+1))=_:=q3
  cases e:sh O.lt lo (Ce P m 0) (Ce P (m - 1) 0) with
  | true=>
   rw [e,if_pos rfl] at q3
   simp only [if_true]
   exact W.pure ⟨rfl,rfl,q3,q1,by show m<=nrem; lia⟩
  | false=>
   rw [e,if_neg BW] at q3
   simp only [BG,if_false]
   exact W.pure ⟨rfl,rfl,by show 1<=m+1; lia,by show m+1+k=nrem; lia,q3⟩
 ·rintro ⟨r,m⟩ b1 ⟨eb,er,q1,q2,q3⟩
  dsimp only at er q1 q2 q3
  exact ⟨eb,er,q3,q1,by show m<=nrem; lia⟩
 obtain ⟨r,m⟩:=c
 obtain ⟨eb,er,em,m1,m2⟩:=hc
 dsimp only at er em m1 m2 ⊢
 subst eb er
 dsimp only
 have ec:ev (sh O.lt lo) (kas_count nrem P)=ev (sh O.lt lo) (if (m == nrem)=true then KasT.ret (m,P) else if m > 1 then KasT.ask (P.getD 0 0) (P.getD (m - 1) 0) λ c=>if c=true then KasT.ret (m,P) else kas_descPart m nrem (kas_rev P 0 m) else kas_descPart m nrem P):=by
  unfold kas_count
  rw [dy,<-em]
 rw [ec] at h
 clear ec em
 by_cases q:(m == nrem)=true
 ·rw [if_pos q] at h ⊢
  exact W.pure h
 rw [if_neg q] at h ⊢
 have q':¬ m=nrem:=by simpa using q
 by_cases hm:m > 1
 ·rw [if_pos hm] at h ⊢
  rw [show lo+m - 1=lo+(m - 1) by lia]
  refine W.bind (W.ltF (i:=0) F (by lia) (by lia) ?_)
  have h:Q (some (ev (sh O.lt lo) (if sh O.lt lo (P.getD 0 0) (P.getD (m - 1) 0)=true then KasT.ret (m,P) else kas_descPart m nrem (kas_rev P 0 m))).1) (abP lo pre pd mg (ev (sh O.lt lo) (if sh O.lt lo (P.getD 0 0) (P.getD (m - 1) 0)=true then KasT.ret (m,P) else kas_descPart m nrem (kas_rev P 0 m))).2):=h
  cases e:sh O.lt lo (P.getD 0 0) (P.getD (m - 1) 0) with
  | true=>
   rw [e,if_pos rfl] at h
   simp only [if_true]
   exact W.pure h
  | false=>
   rw [e,if_neg BW] at h
   simp only [BG,if_false]
   refine W.bind (W.revF (i:=0) F (by lia) ?_)
   have F1:=F.of (bf 0 m F.perm)
   have ed:ev (sh O.lt lo) (kas_descPart m nrem (kas_rev P 0 m))=(λ r:Array Nat×Nat×Nat=>ev (sh O.lt lo) (if r.2.2 > 0 then kas_tail3 r.2.1 nrem (kas_rev r.1 (r.2.1 - (r.2.2+1)) r.2.1) else kas_tail3 r.2.1 nrem r.1)) (ev (sh O.lt lo) (kas_desc (nrem - (m+1)) (kas_rev P 0 m) (m+1) 0)):=by
    unfold kas_descPart
    rw [dy]
   rw [ed] at h
   clear ed
   refine W.bind (W.rule ?_)
   refine W.bind (W.range (D:=λ c b1=>c.1=none/\∃ P',b1=abP lo pre pd mg P'/\Fm O lo nrem pre P'/\(P',c.2.1,c.2.2)=ev (sh O.lt lo) (kas_desc (nrem - (m+1)) (kas_rev P 0 m) (m+1) 0)/\c.2.2+1<=c.2.1/\c.2.1<=nrem) (λ k c b1=>c.1=none/\∃ P',b1=abP lo pre pd mg P'/\Fm O lo nrem pre P'/\ev (sh O.lt lo) (kas_desc k P' c.2.1 c.2.2)=ev (sh O.lt lo) (kas_desc (nrem - (m+1)) (kas_rev P 0 m) (m+1) 0)/\c.2.2+1<=c.2.1/\c.2.1+k=nrem) ⟨rfl,_,rfl,F1,rfl,by show 0+1<=m+1; lia,by show m+1+(nrem - (m+1))=nrem; lia⟩ ?_ ?_ |>.mono λ c b1 hc=>?_)
   ·rintro x k ⟨r,u,v⟩ b1 ⟨er,P',eb,F',q3,q1,q2⟩
    dsimp only at er q1 q2 q3 ⊢
    subst eb er
    rw [show lo+u - 1=lo+(u - 1) by lia,show lo+u - (v+1)=lo+(u - (v+1)) by lia]
    refine W.bind (W.ltF F' (by lia) (by lia) ?_)
    have q3:ev (sh O.lt lo) (if sh O.lt lo (P'.getD u 0) (P'.getD (u - 1) 0)=true then (if v > 0 then kas_desc k (kas_rev P' (u - (v+1)) u) (u+1) 0 else kas_desc k P' (u+1) 0) else KasT.ask (P'.getD (u - 1) 0) (P'.getD u 0) λ d=>if d=true then KasT.ret (P',u,v) else kas_desc k P' (u+1) (v+1))=_:=q3
    cases e:sh O.lt lo (P'.getD u 0) (P'.getD (u - 1) 0) with
    | true=>
     rw [e,if_pos rfl] at q3
     simp only [if_true]
     by_cases hv:v > 0
     ·rw [if_pos hv] at q3 ⊢
      exact W.bind (W.revF F' (by lia) (W.pure ⟨rfl,_,rfl,F'.of (bf _ _ F'.perm),q3,by show 0+1<=u+1; lia,by show u+1+k=nrem; lia⟩))
     ·rw [if_neg hv] at q3 ⊢
      exact W.pure ⟨rfl,_,rfl,F',q3,by show 0+1<=u+1; lia,by show u+1+k=nrem; lia⟩
    | false=>
     rw [e,if_neg BW] at q3
     simp only [BG,if_false]
     refine W.bind (W.ltF F' (by lia) (by lia) ?_)
     have q3:ev (sh O.lt lo) (if sh O.lt lo (P'.getD (u - 1) 0) (P'.getD u 0)=true then KasT.ret (P',u,v) else kas_desc k P' (u+1) (v+1))=_:=q3
     cases e2:sh O.lt lo (P'.getD (u - 1) 0) (P'.getD u 0) with
     | true=>
      rw [e2,if_pos rfl] at q3
      simp only [if_true]
      exact W.pure ⟨rfl,_,rfl,F',q3,q1,by show u<=nrem; lia⟩
     | false=>
      rw [e2,if_neg BW] at q3
      simp only [BG,if_false]
      exact W.pure ⟨rfl,_,rfl,F',q3,by show v+1+1<=u+1; lia,by show u+1+k=nrem; lia⟩
   ·rintro ⟨r,u,v⟩ b1 ⟨er,P',eb,F',q3,q1,q2⟩
    dsimp only at er q1 q2 q3
    exact ⟨er,P',eb,F',q3,q1,by show u<=nrem; lia⟩
   obtain ⟨r,u,v⟩:=c
   obtain ⟨er,P',eb,F',e9,q1,q2⟩:=hc
   dsimp only at er e9 q1 q2 ⊢
   subst eb er
   rw [<-e9] at h
   dsimp only at h ⊢
   rw [show lo+u - (v+1)=lo+(u - (v+1)) by lia]
   by_cases hv:v > 0
   ·rw [if_pos hv] at h ⊢
    refine W.bind (W.revF F' (by lia) ?_)
    have F3:=F'.of (bf (u - (v+1)) u F'.perm)
    generalize kas_rev P' (u - (v+1)) u=P3 at F3 h ⊢
    have e3:ev (sh O.lt lo) (kas_tail3 u nrem P3)=(ev (sh O.lt lo) (kas_asc (kas_rev P3 0 u) (nrem - u) u),kas_rev P3 0 u):=by
     unfold kas_tail3
     rw [dy]; rfl
    rw [e3] at h
    have F4:=F3.of (bf 0 u F3.perm)
    refine W.bind (W.revF (i:=0) F3 (by lia) ?_)
    refine W.bind (W.range (D:=λ c b1=>b1=abP lo pre pd mg (kas_rev P3 0 u)/\c.1=none/\c.2=ev (sh O.lt lo) (kas_asc (kas_rev P3 0 u) (nrem - u) u)/\1<=c.2/\c.2<=nrem) (λ k c b1=>b1=abP lo pre pd mg (kas_rev P3 0 u)/\c.1=none/\1<=c.2/\c.2+k=nrem/\ev (sh O.lt lo) (kas_asc (kas_rev P3 0 u) k c.2)=ev (sh O.lt lo) (kas_asc (kas_rev P3 0 u) (nrem - u) u)) ⟨rfl,rfl,by show 1<=u; lia,by show u+(nrem - u)=nrem; lia,rfl⟩ ?_ ?_ |>.mono λ c b1 hc=>?_)
    ·rintro x k ⟨r,m⟩ b1 ⟨eb,er,q1,q2,q3⟩
     dsimp only at er q1 q2 q3 ⊢
     subst eb er
     rw [show lo+m - 1=lo+(m - 1) by lia]
     refine W.bind (W.ltF F4 (by lia) (by lia) ?_)
     have q3:ev (sh O.lt lo) (if sh O.lt lo (Ce (kas_rev P3 0 u) m 0) (Ce (kas_rev P3 0 u) (m - 1) 0)=true then KasT.ret m else kas_asc (kas_rev P3 0 u) k (m+1))=_:=q3
     cases e:sh O.lt lo (Ce (kas_rev P3 0 u) m 0) (Ce (kas_rev P3 0 u) (m - 1) 0) with
     | true=>
      rw [e,if_pos rfl] at q3
      simp only [if_true]
      exact W.pure ⟨rfl,rfl,q3,q1,by show m<=nrem; lia⟩
     | false=>
      rw [e,if_neg BW] at q3
      simp only [BG,if_false]
      exact W.pure ⟨rfl,rfl,by show 1<=m+1; lia,by show m+1+k=nrem; lia,q3⟩
    ·rintro ⟨r,m⟩ b1 ⟨eb,er,q1,q2,q3⟩
     dsimp only at er q1 q2 q3
     exact ⟨eb,er,q3,q1,by show m<=nrem; lia⟩
    obtain ⟨r,z⟩:=c
    obtain ⟨eb,er,em,z1,z2⟩:=hc
    dsimp only at er em z1 z2 ⊢
    subst eb er
    rw [<-em] at h
    exact W.pure h
   ·rw [if_neg hv] at h ⊢
    have F3:=F'
    generalize P'=P3 at F3 h ⊢
    have e3:ev (sh O.lt lo) (kas_tail3 u nrem P3)=(ev (sh O.lt lo) (kas_asc (kas_rev P3 0 u) (nrem - u) u),kas_rev P3 0 u):=by
     unfold kas_tail3
     rw [dy]; rfl
    rw [e3] at h
    have F4:=F3.of (bf 0 u F3.perm)
    refine W.bind (W.revF (i:=0) F3 (by lia) ?_)
    refine W.bind (W.range (D:=λ c b1=>b1=abP lo pre pd mg (kas_rev P3 0 u)/\c.1=none/\c.2=ev (sh O.lt lo) (kas_asc (kas_rev P3 0 u) (nrem - u) u)/\1<=c.2/\c.2<=nrem) (λ k c b1=>b1=abP lo pre pd mg (kas_rev P3 0 u)/\c.1=none/\1<=c.2/\c.2+k=nrem/\ev (sh O.lt lo) (kas_asc (kas_rev P3 0 u) k c.2)=ev (sh O.lt lo) (kas_asc (kas_rev P3 0 u) (nrem - u) u)) ⟨rfl,rfl,by show 1<=u; lia,by show u+(nrem - u)=nrem; lia,rfl⟩ ?_ ?_ |>.mono λ c b1 hc=>?_)
    ·rintro x k ⟨r,m⟩ b1 ⟨eb,er,q1,q2,q3⟩
     dsimp only at er q1 q2 q3 ⊢
     subst eb er
     rw [show lo+m - 1=lo+(m - 1) by lia]
     refine W.bind (W.ltF F4 (by lia) (by lia) ?_)
     have q3:ev (sh O.lt lo) (if sh O.lt lo (Ce (kas_rev P3 0 u) m 0) (Ce (kas_rev P3 0 u) (m - 1) 0)=true then KasT.ret m else kas_asc (kas_rev P3 0 u) k (m+1))=_:=q3
     cases e:sh O.lt lo (Ce (kas_rev P3 0 u) m 0) (Ce (kas_rev P3 0 u) (m - 1) 0) with
     | true=>
      rw [e,if_pos rfl] at q3
      simp only [if_true]
      exact W.pure ⟨rfl,rfl,q3,q1,by show m<=nrem; lia⟩
     | false=>
      rw [e,if_neg BW] at q3
      simp only [BG,if_false]
      exact W.pure ⟨rfl,rfl,by show 1<=m+1; lia,by show m+1+k=nrem; lia,q3⟩
    ·rintro ⟨r,m⟩ b1 ⟨eb,er,q1,q2,q3⟩
     dsimp only at er q1 q2 q3
     exact ⟨eb,er,q3,q1,by show m<=nrem; lia⟩
    obtain ⟨r,z⟩:=c
    obtain ⟨eb,er,em,z1,z2⟩:=hc
    dsimp only at er em z1 z2 ⊢
    subst eb er
    rw [<-em] at h
    exact W.pure h
 ·rw [if_neg hm] at h ⊢
  have ed:ev (sh O.lt lo) (kas_descPart m nrem P)=(λ r:Array Nat×Nat×Nat=>ev (sh O.lt lo) (if r.2.2 > 0 then kas_tail3 r.2.1 nrem (kas_rev r.1 (r.2.1 - (r.2.2+1)) r.2.1) else kas_tail3 r.2.1 nrem r.1)) (ev (sh O.lt lo) (kas_desc (nrem - (m+1)) P (m+1) 0)):=by
   unfold kas_descPart
   rw [dy]
  rw [ed] at h
  clear ed
  refine W.bind (W.rule ?_)
  refine W.bind (W.range (D:=λ c b1=>c.1=none/\∃ P',b1=abP lo pre pd mg P'/\Fm O lo nrem pre P'/\(P',c.2.1,c.2.2)=ev (sh O.lt lo) (kas_desc (nrem - (m+1)) P (m+1) 0)/\c.2.2+1<=c.2.1/\c.2.1<=nrem) (λ k c b1=>c.1=none/\∃ P',b1=abP lo pre pd mg P'/\Fm O lo nrem pre P'/\ev (sh O.lt lo) (kas_desc k P' c.2.1 c.2.2)=ev (sh O.lt lo) (kas_desc (nrem - (m+1)) P (m+1) 0)/\c.2.2+1<=c.2.1/\c.2.1+k=nrem) ⟨rfl,_,rfl,F,rfl,by show 0+1<=m+1; lia,by show m+1+(nrem - (m+1))=nrem; lia⟩ ?_ ?_ |>.mono λ c b1 hc=>?_)
  ·rintro x k ⟨r,u,v⟩ b1 ⟨er,P',eb,F',q3,q1,q2⟩
   dsimp only at er q1 q2 q3 ⊢
   subst eb er
   rw [show lo+u - 1=lo+(u - 1) by lia,show lo+u - (v+1)=lo+(u - (v+1)) by lia]
   refine W.bind (W.ltF F' (by lia) (by lia) ?_)
   have q3:ev (sh O.lt lo) (if sh O.lt lo (P'.getD u 0) (P'.getD (u - 1) 0)=true then (if v > 0 then kas_desc k (kas_rev P' (u - (v+1)) u) (u+1) 0 else kas_desc k P' (u+1) 0) else KasT.ask (P'.getD (u - 1) 0) (P'.getD u 0) λ d=>if d=true then KasT.ret (P',u,v) else kas_desc k P' (u+1) (v+1))=_:=q3
   cases e:sh O.lt lo (P'.getD u 0) (P'.getD (u - 1) 0) with
   | true=>
    rw [e,if_pos rfl] at q3
    simp only [if_true]
    by_cases hv:v > 0
    ·rw [if_pos hv] at q3 ⊢
     exact W.bind (W.revF F' (by lia) (W.pure ⟨rfl,_,rfl,F'.of (bf _ _ F'.perm),q3,by show 0+1<=u+1; lia,by show u+1+k=nrem; lia⟩))
    ·rw [if_neg hv] at q3 ⊢
     exact W.pure ⟨rfl,_,rfl,F',q3,by show 0+1<=u+1; lia,by show u+1+k=nrem; lia⟩
   | false=>
    rw [e,if_neg BW] at q3
    simp only [BG,if_false]
    refine W.bind (W.ltF F' (by lia) (by lia) ?_)
    have q3:ev (sh O.lt lo) (if sh O.lt lo (P'.getD (u - 1) 0) (P'.getD u 0)=true then KasT.ret (P',u,v) else kas_desc k P' (u+1) (v+1))=_:=q3
    cases e2:sh O.lt lo (P'.getD (u - 1) 0) (P'.getD u 0) with
    | true=>
     rw [e2,if_pos rfl] at q3
     simp only [if_true]
     exact W.pure ⟨rfl,_,rfl,F',q3,q1,by show u<=nrem; lia⟩
    | false=>
     rw [e2,if_neg BW] at q3
     simp only [BG,if_false]
     exact W.pure ⟨rfl,_,rfl,F',q3,by show v+1+1<=u+1; lia,by show u+1+k=nrem; lia⟩
  ·rintro ⟨r,u,v⟩ b1 ⟨er,P',eb,F',q3,q1,q2⟩
   dsimp only at er q1 q2 q3
   exact ⟨er,P',eb,F',q3,q1,by show u<=nrem; lia⟩
  obtain ⟨r,u,v⟩:=c
  obtain ⟨er,P',eb,F',e9,q1,q2⟩:=hc
  dsimp only at er e9 q1 q2 ⊢
  subst eb er
  rw [<-e9] at h
  dsimp only at h ⊢
  rw [show lo+u - (v+1)=lo+(u - (v+1)) by lia]
  by_cases hv:v > 0
  ·rw [if_pos hv] at h ⊢
   refine W.bind (W.revF F' (by lia) ?_)
   have F3:=F'.of (bf (u - (v+1)) u F'.perm)
   generalize kas_rev P' (u - (v+1)) u=P3 at F3 h ⊢
   have e3:ev (sh O.lt lo) (kas_tail3 u nrem P3)=(ev (sh O.lt lo) (kas_asc (kas_rev P3 0 u) (nrem - u) u),kas_rev P3 0 u):=by
    unfold kas_tail3
    rw [dy]; rfl
   rw [e3] at h
   have F4:=F3.of (bf 0 u F3.perm)
   refine W.bind (W.revF (i:=0) F3 (by lia) ?_)
   refine W.bind (W.range (D:=λ c b1=>b1=abP lo pre pd mg (kas_rev P3 0 u)/\c.1=none/\c.2=ev (sh O.lt lo) (kas_asc (kas_rev P3 0 u) (nrem - u) u)/\1<=c.2/\c.2<=nrem) (λ k c b1=>b1=abP lo pre pd mg (kas_rev P3 0 u)/\c.1=none/\1<=c.2/\c.2+k=nrem/\ev (sh O.lt lo) (kas_asc (kas_rev P3 0 u) k c.2)=ev (sh O.lt lo) (kas_asc (kas_rev P3 0 u) (nrem - u) u)) ⟨rfl,rfl,by show 1<=u; lia,by show u+(nrem - u)=nrem; lia,rfl⟩ ?_ ?_ |>.mono λ c b1 hc=>?_)
   ·rintro x k ⟨r,m⟩ b1 ⟨eb,er,q1,q2,q3⟩
    dsimp only at er q1 q2 q3 ⊢
    subst eb er
    rw [show lo+m - 1=lo+(m - 1) by lia]
    refine W.bind (W.ltF F4 (by lia) (by lia) ?_)
    have q3:ev (sh O.lt lo) (if sh O.lt lo (Ce (kas_rev P3 0 u) m 0) (Ce (kas_rev P3 0 u) (m - 1) 0)=true then KasT.ret m else kas_asc (kas_rev P3 0 u) k (m+1))=_:=q3
    cases e:sh O.lt lo (Ce (kas_rev P3 0 u) m 0) (Ce (kas_rev P3 0 u) (m - 1) 0) with
    | true=>
     rw [e,if_pos rfl] at q3
     simp only [if_true]
     exact W.pure ⟨rfl,rfl,q3,q1,by show m<=nrem; lia⟩
    | false=>
     rw [e,if_neg BW] at q3
     simp only [BG,if_false]
     exact W.pure ⟨rfl,rfl,by show 1<=m+1; lia,by show m+1+k=nrem; lia,q3⟩
   ·rintro ⟨r,m⟩ b1 ⟨eb,er,q1,q2,q3⟩
    dsimp only at er q1 q2 q3
    exact ⟨eb,er,q3,q1,by show m<=nrem; lia⟩
   obtain ⟨r,z⟩:=c
   obtain ⟨eb,er,em,z1,z2⟩:=hc
   dsimp only at er em z1 z2 ⊢
   subst eb er
   rw [<-em] at h
   exact W.pure h
  ·rw [if_neg hv] at h ⊢
   have F3:=F'
   generalize P'=P3 at F3 h ⊢
   have e3:ev (sh O.lt lo) (kas_tail3 u nrem P3)=(ev (sh O.lt lo) (kas_asc (kas_rev P3 0 u) (nrem - u) u),kas_rev P3 0 u):=by
    unfold kas_tail3
    rw [dy]; rfl
   rw [e3] at h
   have F4:=F3.of (bf 0 u F3.perm)
   refine W.bind (W.revF (i:=0) F3 (by lia) ?_)
   refine W.bind (W.range (D:=λ c b1=>b1=abP lo pre pd mg (kas_rev P3 0 u)/\c.1=none/\c.2=ev (sh O.lt lo) (kas_asc (kas_rev P3 0 u) (nrem - u) u)/\1<=c.2/\c.2<=nrem) (λ k c b1=>b1=abP lo pre pd mg (kas_rev P3 0 u)/\c.1=none/\1<=c.2/\c.2+k=nrem/\ev (sh O.lt lo) (kas_asc (kas_rev P3 0 u) k c.2)=ev (sh O.lt lo) (kas_asc (kas_rev P3 0 u) (nrem - u) u)) ⟨rfl,rfl,by show 1<=u; lia,by show u+(nrem - u)=nrem; lia,rfl⟩ ?_ ?_ |>.mono λ c b1 hc=>?_)
   ·rintro x k ⟨r,m⟩ b1 ⟨eb,er,q1,q2,q3⟩
    dsimp only at er q1 q2 q3 ⊢
    subst eb er
    rw [show lo+m - 1=lo+(m - 1) by lia]
    refine W.bind (W.ltF F4 (by lia) (by lia) ?_)
    have q3:ev (sh O.lt lo) (if sh O.lt lo (Ce (kas_rev P3 0 u) m 0) (Ce (kas_rev P3 0 u) (m - 1) 0)=true then KasT.ret m else kas_asc (kas_rev P3 0 u) k (m+1))=_:=q3
    cases e:sh O.lt lo (Ce (kas_rev P3 0 u) m 0) (Ce (kas_rev P3 0 u) (m - 1) 0) with
    | true=>
     rw [e,if_pos rfl] at q3
     simp only [if_true]
     exact W.pure ⟨rfl,rfl,q3,q1,by show m<=nrem; lia⟩
    | false=>
     rw [e,if_neg BW] at q3
     simp only [BG,if_false]
     exact W.pure ⟨rfl,rfl,by show 1<=m+1; lia,by show m+1+k=nrem; lia,q3⟩
   ·rintro ⟨r,m⟩ b1 ⟨eb,er,q1,q2,q3⟩
    dsimp only at er q1 q2 q3
    exact ⟨eb,er,q3,q1,by show m<=nrem; lia⟩
   obtain ⟨r,z⟩:=c
   obtain ⟨eb,er,em,z1,z2⟩:=hc
   dsimp only at er em z1 z2 ⊢
   subst eb er
   rw [<-em] at h
   exact W.pure h
end
section
variable {O:Orc} {b:Ab} {lo n nrem:Nat} {pre:List Nat} {pd:Array (Nat×Nat×Nat)} {mg:Nat} {P:Array Nat}
theorem W.bin {ok:Nat} {Q:Bool->Ab->Prop} (H:Lt O.lt) (F:Fm O lo nrem pre P) (R:Rn nrem (sh O.lt lo) P ok) (h1:1<=ok) (hn:ok<=n) (hn2:n<=nrem) (h:∀ P',Fm O lo nrem pre P'->Rn nrem (sh O.lt lo) P' n->Q true (abP lo pre pd mg P')) :
  W O (binarySort' lo n ok) Q (abP lo pre pd mg P):=by
 have H':=H.sh lo
 rw [binarySort'_eq]
 rw [show max ok 1=ok by lia]
 refine W.bind (W.rangeV (D:=λ c b1=>c.1=none/\∃ P',b1=abP lo pre pd mg P'/\Fm O lo nrem pre P'/\Rn nrem (sh O.lt lo) P' n) (λ k c b1=>c.1=none/\∃ P',b1=abP lo pre pd mg P'/\Fm O lo nrem pre P'/\Rn nrem (sh O.lt lo) P' k) hn ⟨rfl,P,rfl,F,R⟩ ?_ ?_ |>.mono λ c b1 hc=>?_)
 ·rintro k ⟨r,u⟩ b1 hk1 hk2 ⟨er,P',eb,F',R'⟩
  dsimp only at er
  subst eb er
  have ek:P'.getD k 0=k:=R'.tl k (BD _) (by lia)
  refine W.bind (W.range (D:=λ c b1=>b1=abP lo pre pd mg P'/\c.1=none/\c.2.1<=k/\(∀ i,i<c.2.1->sh O.lt lo k (P'.getD i 0)=false)/\∀ i,c.2.1<=i->i<k->sh O.lt lo k (P'.getD i 0)=true)
   (λ j c b1=>b1=abP lo pre pd mg P'/\c.1=none/\c.2.1<=c.2.2/\c.2.2<=k/\c.2.2 - c.2.1<=j/\(∀ i,i<c.2.1->sh O.lt lo k (P'.getD i 0)=false)/\∀ i,c.2.2<=i->i<k->sh O.lt lo k (P'.getD i 0)=true)
   ⟨rfl,rfl,Ca _,BD _,by show k - 0<=k - 0; lia,λ i hi=>absurd hi (FM _),λ i h1 h2=>absurd h1 (by show ¬ k<=i; lia)⟩ ?_ ?_ |>.mono λ c b1 hc=>?_)
  ·rintro x j ⟨r,l,t⟩ b1 ⟨eb,er,q1,q2,q3,q4,q5⟩
   dsimp only at er q1 q2 q3 q4 q5 ⊢
   subst eb er
   by_cases c:l>=t
   ·rw [if_pos c]
    exact W.pure ⟨rfl,rfl,by show l<=k; lia,q4,λ i h1 h2=>q5 i (by have:l<=i:=h1; lia) h2⟩
   ·rw [if_neg c]
    refine W.bind (W.ltF F' (by lia) (by lia) ?_)
    rw [ek]
    cases e:sh O.lt lo k (P'.getD ((l+t) / 2) 0) with
    | true=>
     simp only [if_true]
     refine W.pure ⟨rfl,rfl,by show l<=(l+t) / 2; lia,by show (l+t) / 2<=k; lia,by show (l+t) / 2 - l<=j; lia,q4,λ i h1 h2=>?_⟩
     rcases Dj (show (l+t) / 2<=i from h1) with z | z
     ·rw [<-z]; exact e
     ·exact kH H' e (R'.up.at H' z h2).1
    | false=>
     simp only [BG,if_false]
     refine W.pure ⟨rfl,rfl,by show (l+t) / 2+1<=t; lia,q2,by show t - ((l+t) / 2+1)<=j; lia,λ i h1=>?_,q5⟩
     have h1:i<(l+t) / 2+1:=h1
     rcases CO i ((l+t) / 2) with z | z
     ·exact H'.tr _ _ _ e (R'.up.at H' z (by lia)).1
     ·have:i=(l+t) / 2:=by lia
      rw [this]; exact e
  ·rintro ⟨r,l,t⟩ b1 ⟨eb,er,q1,q2,q3,q4,q5⟩
   dsimp only at er q1 q2 q3 q4 q5
   exact ⟨eb,er,by show l<=k; lia,q4,λ i h1 h2=>q5 i (by have:l<=i:=h1; lia) h2⟩
  ·obtain ⟨r,l,t⟩:=c
   obtain ⟨eb,er,q1,q4,q5⟩:=hc
   dsimp only at er q1 q4 q5 ⊢
   subst eb er
   exact W.bind (W.movF F' (by lia) q1 (W.pure ⟨rfl,_,rfl,F'.of (i9 _ _ F'.perm),R'.put H' (by lia) q1 q4 q5⟩))
 ·rintro ⟨r,u⟩ b1 hc
  exact hc
 ·obtain ⟨r,u⟩:=c
  obtain ⟨er,P',eb,F',R'⟩:=hc
  dsimp only at er ⊢
  subst eb er
  exact W.pure (h P' F' R')
noncomputable def Gd (O:Orc):Nat->List (List Nat)->List (Nat×Nat×Nat)->Prop
 | _,[],[]=>True
 | s,r::rs,d::ds=>d.1=s/\d.2.1=r.length/\0<r.length/\r.Perm (Co s r.length)/\r.Pairwise (Ah O.lt)/\Gd O (s+r.length) rs ds
 | _,_,_=>False
theorem Gd.len:∀ {s:Nat} {rs:List (List Nat)} {ds:List (Nat×Nat×Nat)},Gd O s rs ds->rs.length=ds.length
 | _,[],[],_=>rfl
 | _,_::_,_::_,h=>by rw [Ci,Ci,Gd.len h.2.2.2.2.2]
 | _,[],_::_,h=>h.elim
 | _,_::_,[],h=>h.elim
theorem Gd.app:∀ {s:Nat} {rs:List (List Nat)} {ds:List (Nat×Nat×Nat)} {rs':List (List Nat)} {ds':List (Nat×Nat×Nat)},Gd O s rs ds->Gd O (s+rs.flatten.length) rs' ds'->Gd O s (rs++rs') (ds++ds')
 | _,[],[],_,_,_,h=>by simpa using h
 | s,r::rs,d::ds,rs',ds',h,h'=>by
  refine ⟨h.1,h.2.1,h.2.2.1,h.2.2.2.1,h.2.2.2.2.1,Gd.app h.2.2.2.2.2 ?_⟩
  rw [Dq,BO,<-Eu] at h'
  exact h'
 | _,[],_::_,_,_,h,_=>h.elim
 | _,_::_,[],_,_,h,_=>h.elim
theorem Gd.cut:∀ {s:Nat} (rs:List (List Nat)) {ds:List (Nat×Nat×Nat)} {rs':List (List Nat)},Gd O s (rs++rs') ds->∃ da db,ds=da++db/\Gd O s rs da/\Gd O (s+rs.flatten.length) rs' db
 | s,[],ds,rs',h=>⟨[],ds,rfl,trivial,by simpa using h⟩
 | s,r::rs,[],rs',h=>h.elim
 | s,r::rs,d::ds,rs',h=>by
  obtain ⟨da,db,e,a,c⟩:=Gd.cut rs h.2.2.2.2.2
  refine ⟨d::da,db,by rw [e]; rfl,⟨h.1,h.2.1,h.2.2.1,h.2.2.2.1,h.2.2.2.2.1,a⟩,?_⟩
  rw [Dq,BO,<-Eu]; exact c
theorem Gd.pair {rs:List (List Nat)} {ds:List (Nat×Nat×Nat)} (h:Gd O 0 rs ds) (hi:i+1<rs.length):∃ A R1 R2 B pw pw2,rs=A++R1::R2::B/\A.length=i/\ds[i]? = some (A.flatten.length,R1.length,pw)/\ds[i+1]? = some (A.flatten.length+R1.length,R2.length,pw2)/\
  R1.Pairwise (Ah O.lt)/\R2.Pairwise (Ah O.lt)/\0<R1.length/\0<R2.length/\(∀ x∈R1,∀ y∈R2,x<y)/\
  ∀ M:List Nat,M.Perm (R1++R2)->M.Pairwise (Ah O.lt)->Gd O 0 (A++M::B) ((ds.set i (A.flatten.length,R1.length+R2.length,pw)).eraseIdx (i+1)):=by
 have e1:rs=rs.take i++rs[i]::rs[i+1]::rs.drop (i+2):=by
  have h1:=Dc (show i<rs.length by lia)
  have h2:=Dc hi
  have:rs.take i++rs.drop i=rs:=Ck i rs
  rw [h1,h2] at this
  exact this.symm
 have hA:(rs.take i).length=i:=by rw [BV]; lia
 generalize rs.take i=A at e1 hA
 generalize rs[i]=R1 at e1
 generalize rs[i+1]=R2 at e1
 generalize rs.drop (i+2)=B at e1
 subst e1
 obtain ⟨da,db,rfl,ga,gb⟩:=Gd.cut A h
 have hda:=ga.len
 rw [DI] at gb
 match db,gb with
 | [],gb=>exact gb.elim
 | [_],gb=>exact gb.2.2.2.2.2.elim
 | (u,nu,pw)::(v,nv,pw2)::db,gb=>
  obtain ⟨x1,x2,x3,x4,x5,y1,y2,y3,y4,y5,gz⟩:=gb
  dsimp only at x1 x2 y1 y2
  subst x1 x2 y1 y2
  have la:da.length=i:=by lia
  refine ⟨A,R1,R2,B,pw,pw2,rfl,hA,?_,?_,x5,y5,x3,y3,λ x hx y hy=>?_,λ M hm hs=>?_⟩
  ·rw [B2 (by lia),la,FN]; rfl
  ·rw [B2 (by lia),la,show i+1 - i=1 by lia]; rfl
  ·have hx':=x4.mem_iff.mp hx
   have hy':=y4.mem_iff.mp hy
   rw [Eb] at hx' hy'
   lia
  ·have ml:M.length=R1.length+R2.length:=by rw [hm.length_eq,BO]
   have ed:((da++(A.flatten.length,R1.length,pw)::(A.flatten.length+R1.length,R2.length,pw2)::db).set i (A.flatten.length,R1.length+R2.length,pw)).eraseIdx (i+1)=da++(A.flatten.length,R1.length+R2.length,pw)::db:=by
    rw [List.set_append_right _ _ (by lia),la,FN,List.set_cons_zero,List.eraseIdx_append_of_length_le (by lia),la,show i+1 - i=1 by lia]
    rfl
   rw [ed]
   refine ga.app ⟨?_,ml.symm,by lia,?_,hs,?_⟩
   ·show _=0+A.flatten.length; lia
   ·rw [DI,ml,<-Hz]
    exact hm.trans (x4.append y4)
   ·rw [DI,ml,<-Eu]; exact gz
theorem Gd.below:∀ {s:Nat} {rs:List (List Nat)} {ds:List (Nat×Nat×Nat)},Gd O s rs ds->∀ x∈rs.flatten,x<s+rs.flatten.length
 | _,[],[],_,x,hx=>by simp at hx
 | s,r::rs,d::ds,h,x,hx=>by
  rw [Dq] at hx ⊢
  rw [BO]
  rcases BY.mp hx with z | z
  ·have:=Eb.mp (h.2.2.2.1.mem_iff.mp z); lia
  ·have:=Gd.below h.2.2.2.2.2 x z; lia
 | _,[],_::_,h,_,_=>h.elim
 | _,_::_,[],h,_,_=>h.elim
theorem Gd.many:∀ {s:Nat} {rs:List (List Nat)} {ds:List (Nat×Nat×Nat)},Gd O s rs ds->rs.length<=rs.flatten.length
 | _,[],[],_=>BD _
 | s,r::rs,d::ds,h=>by
  have:=Gd.many h.2.2.2.2.2
  have:=h.2.2.1
  rw [Dq,BO,Ci]; lia
 | _,[],_::_,h=>h.elim
 | _,_::_,[],h=>h.elim
theorem Gd.pow {f:Nat×Nat×Nat->Nat×Nat×Nat} (hf:∀ d,(f d).1=d.1/\(f d).2.1=d.2.1):∀ {s:Nat} {rs:List (List Nat)} {ds:List (Nat×Nat×Nat)} (i:Nat),Gd O s rs ds->Gd O s rs (ds.modify i f)
 | _,[],[],i,_=>by simp; trivial
 | s,r::rs,d::ds,0,h=>by
  rw [List.modify_zero_cons]
  exact ⟨(hf d).1.trans h.1,(hf d).2.trans h.2.1,h.2.2⟩
 | s,r::rs,d::ds,i+1,h=>by
  rw [List.modify_succ_cons]
  exact ⟨h.1,h.2.1,h.2.2.1,h.2.2.2.1,h.2.2.2.2.1,Gd.pow hf i h.2.2.2.2.2⟩
 | _,[],_::_,_,h=>h.elim
 | _,_::_,[],_,h=>h.elim
theorem sV (lo n:Nat):(BC n).map (· + lo)=Co lo n:=by
 have:(λ x:Nat=>x+lo)=λ x=>lo+x:=funext λ x=>Io x lo
 rw [this,FO,List.map_add_range']; simp
theorem Rn.split (R:Rn nrem (sh O.lt lo) P n) (H:Lt O.lt):∃ r,P.toList.map (· + lo)=r++Co (lo+n) (nrem - n)/\r.length=n/\r.Perm (Co lo n)/\r.Pairwise (Ah O.lt):=by
 have Pm:=eR R.perm
 have ht:=R.top
 have hz:=Pm.sz
 have hr:Co lo nrem=Co lo n++Co (lo+n) (nrem - n):=by rw [Hz]; congr 1; lia
 have hp:(P.toList.map (· + lo)).Perm (Co lo nrem):=by
  have h1:P.toList.Perm (BC nrem):=by simpa using Gv.mp R.perm
  have h2:(BC nrem).map (· + lo)=Co lo nrem:=sV lo nrem
  rw [<-h2]; exact h1.map _
 have hd:(P.toList.drop n).map (· + lo)=Co (lo+n) (nrem - n):=by
  apply Em
  ·simp [hz]
  ·intro i h1 h2
   have hi:n+i<nrem:=by simp at h2; lia
   have:=R.tl (n+i) (by lia) hi
   have e:P.getD (n+i) 0=P.toList[n+i]'(by simp [hz]; exact hi):=by simp [Ce,hz,hi]
   rw [e] at this
   rw [Dx,GE,this,List.getElem_range']
   lia
 refine ⟨(P.toList.take n).map (· + lo),?_,by simp [hz]; lia,?_,?_⟩
 ·rw [<-hd,<-B4,Ck]
 ·have:((P.toList.take n).map (· + lo)++Co (lo+n) (nrem - n)).Perm (Co lo n++Co (lo+n) (nrem - n)):=by
   rw [<-hd,<-B4,Ck,hd,<-hr]; exact hp
  exact (List.perm_append_right_iff _).mp this
 ·rw [Ct]
  intro i j hi hj hij
  have hi':i<n:=by simp at hi; lia
  have hj':j<n:=by simp at hj; lia
  have:=R.up.at (H.sh lo) hij hj'
  have e1:P.getD i 0=P.toList[i]'(by simp [hz]; lia):=by simp [Ce,hz,show i<nrem by lia]
  have e2:P.getD j 0=P.toList[j]'(by simp [hz]; lia):=by simp [Ce,hz,show j<nrem by lia]
  rw [e1,e2] at this
  simp only [Dx,GF]
  exact ⟨this.1,λ z=>Nat.add_lt_add_right (this.2 z) lo⟩
theorem W.runs {N:Nat} {Q:Unit->Ab->Prop} (H:Lt O.lt) (hN:O.N=N) (h2:2<=N) (h:∀ b':Ab,b'.p.toList.Perm (BC N)->b'.p.toList.Pairwise (Ah O.lt)->Q () b'):W O sortRuns' Q ⟨B8 (BC N),#[],7⟩:=by
 rw [sortRuns'_eq]
 refine W.bind (W.get ?_)
 have hz:(arrOf (Ab.st O ⟨B8 (BC N),#[],7⟩)).size=N:=by
  show ((B8 (BC N)).map (kas_item O.it)).size=N
  simp
 simp only [hz]
 generalize minRun' N N 0=mr
 have merge:∀ (rs:List (List Nat)) (suf:List Nat) (b1:Ab) (i:Nat),b1.p.toList=rs.flatten++suf->Gd O 0 rs b1.pd.toList->(∀ x∈suf,x<N)->rs.flatten.length<=N->i+1<rs.length->∀ (Q:Bool->Ab->Prop),
   (∀ (rs':List (List Nat)) (b2:Ab),b2.p.toList=rs'.flatten++suf->Gd O 0 rs' b2.pd.toList->rs'.flatten.length=rs.flatten.length->rs'.length+1=rs.length->Q true b2)->W O (mergeAt' i) Q b1:=by
  intro rs suf b1 i e g hs hl hi Q hQ
  obtain ⟨p1,d1,m1⟩:=b1
  dsimp only at e g
  obtain ⟨A,R1,R2,B,pw,pw2,rfl,hA,dd1,dd2,s1,s2,l1,l2,xy,mk⟩:=g.pair hi
  have e':p1.toList=A.flatten++(R1++(R2++(B.flatten++suf))):=by rw [e]; simp
  have bl:=g.below
  refine W.mAt (pre:=A.flatten) (R1:=R1) (R2:=R2) (suf:=B.flatten++suf) ⟨H,e',λ k hk=>?_,s1,s2,xy,l1,l2⟩ (by simpa using dd1) (by simpa using dd2) λ M p' mg' hm hs' ep=>?_
  ·have hk':k<p1.toList.length:=by simpa using hk
   have ek:p1.getD k 0=p1.toList[k]:=by simp [Ce,hk]
   rw [ek,hN]
   have hmem:p1.toList[k]∈(A++R1::R2::B).flatten++suf:=by rw [<-e]; exact BM hk'
   rcases BY.mp hmem with z | z
   ·have:=bl _ z; lia
   ·exact hs _ z
  ·refine hQ (A++M::B) _ (by rw [ep]; simp) ?_ ?_ (by simp; lia)
   ·have:=mk M hm hs'
    have ex:((d1.setIfInBounds i (A.flatten.length,R1.length+R2.length,pw)).eraseIdxIfInBounds (i+1)).toList=(d1.toList.set i (A.flatten.length,R1.length+R2.length,pw)).eraseIdx (i+1):=by
     simp
    show Gd O 0 (A++M::B) ((d1.setIfInBounds i (A.flatten.length,R1.length+R2.length,pw)).eraseIdxIfInBounds (i+1)).toList
    rw [ex]; exact this
   ·have:=hm.length_eq
    simp only [List.flatten_append,Dq,BO] at this ⊢
    lia
 refine W.bind (W.range (D:=λ c b1=>c.1=none/\c.2=N/\∃ rs:List (List Nat),b1.p.toList=rs.flatten++Co c.2 (N - c.2)/\Gd O 0 rs b1.pd.toList/\rs.flatten.length=c.2) (λ k c b1=>c.1=none/\c.2<=N/\N<=c.2+k/\∃ rs:List (List Nat),b1.p.toList=rs.flatten++Co c.2 (N - c.2)/\Gd O 0 rs b1.pd.toList/\rs.flatten.length=c.2) ⟨rfl,Ca _,by show N<=0+(N - 0); lia,[],by show (B8 (BC N)).toList=[]++Co 0 (N - 0); simp [FO],by exact trivial,rfl⟩ ?_ ?_ |>.mono λ c b1 hc=>?_)
 rotate_left
 ·rintro ⟨r,lo⟩ b1 ⟨er,q1,q2,q3⟩
  dsimp only at er q1 q2 q3
  exact ⟨er,by show lo=N; lia,q3⟩
 ·obtain ⟨r,lo⟩:=c
  obtain ⟨er,q1,rs,e,g,hl⟩:=hc
  dsimp only at er q1 e g hl ⊢
  subst er q1
  rw [FN,List.range'_zero] at e
  have gm:=g.many
  refine W.bind (W.range (D:=λ c b2=>c.1=none/\∃ rs':List (List Nat),b2.p.toList=rs'.flatten++[]/\Gd O 0 rs' b2.pd.toList/\rs'.flatten.length=lo/\rs'.length<=1) (λ k c b2=>c.1=none/\∃ rs':List (List Nat),b2.p.toList=rs'.flatten++[]/\Gd O 0 rs' b2.pd.toList/\rs'.flatten.length=lo/\rs'.length<=k+1) ⟨rfl,rs,e,g,hl,by show rs.length<=lo - 0+1; lia⟩ ?_ ?_ |>.mono λ c b2 hc=>?_)
  ·rintro x k ⟨r,u⟩ b2 ⟨er,rs',e',g',hl',hk⟩
   dsimp only at er
   subst er
   refine W.bind (W.get ?_)
   have hp:pendingOf (Ab.st O b2)=b2.pd:=rfl
   simp only [hp]
   have hps:b2.pd.size=rs'.length:=by rw [g'.len]; simp
   by_cases c1:b2.pd.size<=1
   ·rw [if_pos c1]
    exact W.pure ⟨rfl,rs',e',g',hl',by lia⟩
   rw [if_neg c1]
   refine W.bind ?_
   refine merge rs' [] b2 _ e' g' (λ x hx=>nomatch hx) (by lia) ?_ _ λ rs2 b3 e3 g3 hl3 hk3=>?_
   ·(repeat' split)<;>lia
   simp only [DJ,BG,if_false]
   exact W.pure ⟨rfl,rs2,e3,g3,by lia,by lia⟩
  ·rintro ⟨r,u⟩ b2 ⟨er,rs',e',g',hl',hk⟩
   exact ⟨er,rs',e',g',hl',by lia⟩
  ·obtain ⟨r,u⟩:=c
   obtain ⟨er,rs',e',g',hl',hk⟩:=hc
   dsimp only at er ⊢
   subst er
   dsimp only
   refine W.pure ?_
   match rs',hk with
   | [],_=>simp at hl'; lia
   | [r],_=>
    have ev1:b2.p.toList=r:=by rw [e']; simp
    have lr:r.length=lo:=by simpa using hl'
    match hd:b2.pd.toList,g' with
    | d::ds,g'=>
     have pr:=g'.2.2.2.1
     rw [lr] at pr
     refine h b2 (by rw [ev1,FO]; exact pr) (by rw [ev1]; exact g'.2.2.2.2.1)
 rintro x k ⟨r,lo⟩ b1 ⟨er,q1,q2,rs,e,g,hl⟩
 dsimp only at er q1 q2 e g hl ⊢
 subst er
 by_cases c0:lo>=N
 ·rw [if_pos c0]
  exact W.pure ⟨rfl,by show lo=N; lia,rs,e,g,hl⟩
 rw [if_neg c0]
 obtain ⟨p1,d1,m1⟩:=b1
 dsimp only at e g
 have F0:Fm O lo (N - lo) rs.flatten (B8 (BC (N - lo))):=⟨hl,λ x hx=>by have:=g.below x hx; rw [hN]; lia,by rw [hN]; lia,Ju _⟩
 have eb:(⟨p1,d1,m1⟩:Ab)=abP lo rs.flatten d1 m1 (B8 (BC (N - lo))):=by
  unfold abP
  congr 1
  apply Du.mp
  rw [e]
  have:(BC (N - lo)).map (· + lo)=Co lo (N - lo):=sV lo (N - lo)
  simp [this]
 rw [eb]
 have HS:=H.sh lo
 obtain ⟨n1,R1⟩:=Sat.ev _ (oO (N:=N - lo) HS (by lia))
 refine W.bind (W.cnt F0 (by lia) ?_)
 generalize ev (sh O.lt lo) (kas_count (N - lo) (B8 (BC (N - lo))))=R at n1 R1 ⊢
 obtain ⟨n,P1⟩:=R
 dsimp only at n1 R1 ⊢
 have nt:=R1.top
 have F1:Fm O lo (N - lo) rs.flatten P1:=F0.of R1.perm
 by_cases c1:n<mr
 ·rw [if_pos c1]
  refine W.bind (W.rule ?_)
  refine W.bind (W.bin H F1 R1 n1 (show n<=min (N - lo) mr by lia) (by lia) λ P2 F2 R2=>?_)
  have n2:1<=min (N - lo) mr:=by lia
  have nt2:min (N - lo) mr<=N - lo:=by lia
  generalize min (N - lo) mr=n' at R2 n2 nt2 ⊢
  simp only [DJ,BG,if_false]
  obtain ⟨r,er1,er2,er3,er4⟩:=R2.split H
  have hsuf:∀ x∈r++Co (lo+n') (N - lo - n'),x<N:=λ x hx=>by
   rcases BY.mp hx with z | z
   ·have:=Eb.mp (er3.mem_iff.mp z); lia
   ·have:=Eb.mp z; lia
  have fin:∀ (rs2:List (List Nat)) (b2:Ab),b2.p.toList=rs2.flatten++(r++Co (lo+n') (N - lo - n'))->Gd O 0 rs2 b2.pd.toList->rs2.flatten.length=lo->(λ c (b1:Ab)=>c.1=none/\c.2<=N/\N<=c.2+k/\∃ rs:List (List Nat),b1.p.toList=rs.flatten++Co c.2 (N - c.2)/\Gd O 0 rs b1.pd.toList/\rs.flatten.length=c.2) ((none:Option PUnit),lo+n') { b2 with pd:=b2.pd.push (lo,n',0) }:=λ rs2 b2 e2 g2 l2=>by
   refine ⟨rfl,by show lo+n'<=N; lia,by show N<=lo+n'+k; lia,rs2++[r],?_,?_,?_⟩
   ·show b2.p.toList=_++Co (lo+n') (N - (lo+n'))
    rw [e2,show N - (lo+n')=N - lo - n' by lia]; simp
   ·show Gd O 0 (rs2++[r]) (b2.pd.push (lo,n',0)).toList
    rw [EL]
    refine g2.app ⟨by show lo=0+rs2.flatten.length; lia,by show n'=r.length; lia,by lia,?_,er4,trivial⟩
    rw [DI,l2,er2]; exact er3
   ·show (rs2++[r]).flatten.length=lo+n'; simp at l2 ⊢; lia
  have e0:(abP lo rs.flatten d1 m1 P2).p.toList=rs.flatten++(r++Co (lo+n') (N - lo - n')):=by rw [<-er1]; rfl
  refine W.bind (W.get ?_)
  have hp:pendingOf (Ab.st O (abP lo rs.flatten d1 m1 P2))=d1:=rfl
  simp only [hp]
  cases hb:d1.back? with
  | none=>
   dsimp only
   exact W.bind (W.modify { abP lo rs.flatten d1 m1 P2 with pd:=d1.push (lo,n',0) } rfl (W.pure (fin rs _ e0 g hl)))
  | some w9=>
   obtain ⟨u9,v9,z9⟩:=w9
   dsimp only
   generalize power' N (2*u9+v9) (2*u9+v9+v9+n') N=pw9
   refine W.bind (W.range (D:=λ c b2=>c.1=none/\∃ rs2:List (List Nat),b2.p.toList=rs2.flatten++(r++Co (lo+n') (N - lo - n'))/\Gd O 0 rs2 b2.pd.toList/\rs2.flatten.length=lo) (λ k c b2=>c.1=none/\∃ rs2:List (List Nat),b2.p.toList=rs2.flatten++(r++Co (lo+n') (N - lo - n'))/\Gd O 0 rs2 b2.pd.toList/\rs2.flatten.length=lo) ⟨rfl,rs,e0,g,hl⟩ ?_ ?_ |>.mono λ c b2 hc=>?_)
   ·rintro x k ⟨r2,u2⟩ b2 ⟨er,rs2,e2,g2,l2⟩
    dsimp only at er
    subst er
    refine W.bind (W.get ?_)
    have hp:pendingOf (Ab.st O b2)=b2.pd:=rfl
    simp only [hp]
    have hps:b2.pd.size=rs2.length:=by rw [g2.len]; simp
    cases ho:(if b2.pd.size > 1 then b2.pd[b2.pd.size - 2]? else none) with
    | none=>exact W.pure ⟨rfl,rs2,e2,g2,l2⟩
    | some w8=>
     obtain ⟨u8,v8,z8⟩:=w8
     dsimp only
     have hgt:b2.pd.size > 1:=by
      by_cases q:b2.pd.size > 1
      ·exact q
      ·rw [if_neg q] at ho; cases ho
     refine W.ite (λ _=>W.pure ⟨rfl,rs2,e2,g2,l2⟩) (λ _=>?_)
     refine W.bind (merge rs2 _ b2 _ e2 g2 hsuf (by lia) (by lia) _ λ rs3 b3 e3 g3 l3 k3=>?_)
     simp only [DJ,BG,if_false]
     exact W.pure ⟨rfl,rs3,e3,g3,by lia⟩
   ·rintro ⟨r2,u2⟩ b2 hc
    exact hc
   ·obtain ⟨r2,u2⟩:=c
    obtain ⟨er,rs2,e2,g2,l2⟩:=hc
    dsimp only at er ⊢
    subst er
    dsimp only
    have g3:Gd O 0 rs2 (b2.pd.modify (b2.pd.size - 1) λ x=>(x.1,x.2.1,pw9)).toList:=by
     rw [Ib]
     exact g2.pow (f:=λ x=>(x.1,x.2.1,pw9)) (λ d=>⟨rfl,rfl⟩) _
    refine W.bind (W.modify { b2 with pd:=b2.pd.modify (b2.pd.size - 1) λ x=>(x.1,x.2.1,pw9) } rfl ?_)
    exact W.bind (W.modify { b2 with pd:=(b2.pd.modify (b2.pd.size - 1) λ x=>(x.1,x.2.1,pw9)).push (lo,n',0) } rfl (W.pure (fin rs2 { b2 with pd:=b2.pd.modify (b2.pd.size - 1) λ x=>(x.1,x.2.1,pw9) } e2 g3 l2)))
 ·rw [if_neg c1]
  obtain ⟨r,er1,er2,er3,er4⟩:=R1.split H
  have hsuf:∀ x∈r++Co (lo+n) (N - lo - n),x<N:=λ x hx=>by
   rcases BY.mp hx with z | z
   ·have:=Eb.mp (er3.mem_iff.mp z); lia
   ·have:=Eb.mp z; lia
  have fin:∀ (rs2:List (List Nat)) (b2:Ab),b2.p.toList=rs2.flatten++(r++Co (lo+n) (N - lo - n))->Gd O 0 rs2 b2.pd.toList->rs2.flatten.length=lo->(λ c (b1:Ab)=>c.1=none/\c.2<=N/\N<=c.2+k/\∃ rs:List (List Nat),b1.p.toList=rs.flatten++Co c.2 (N - c.2)/\Gd O 0 rs b1.pd.toList/\rs.flatten.length=c.2) ((none:Option PUnit),lo+n) { b2 with pd:=b2.pd.push (lo,n,0) }:=λ rs2 b2 e2 g2 l2=>by
   refine ⟨rfl,by show lo+n<=N; lia,by show N<=lo+n+k; lia,rs2++[r],?_,?_,?_⟩
   ·show b2.p.toList=_++Co (lo+n) (N - (lo+n))
    rw [e2,show N - (lo+n)=N - lo - n by lia]; simp
   ·show Gd O 0 (rs2++[r]) (b2.pd.push (lo,n,0)).toList
    rw [EL]
    refine g2.app ⟨by show lo=0+rs2.flatten.length; lia,by show n=r.length; lia,by lia,?_,er4,trivial⟩
    rw [DI,l2,er2]; exact er3
   ·show (rs2++[r]).flatten.length=lo+n; simp at l2 ⊢; lia
  have e0:(abP lo rs.flatten d1 m1 P1).p.toList=rs.flatten++(r++Co (lo+n) (N - lo - n)):=by rw [<-er1]; rfl
  refine W.bind (W.get ?_)
  have hp:pendingOf (Ab.st O (abP lo rs.flatten d1 m1 P1))=d1:=rfl
  simp only [hp]
  cases hb:d1.back? with
  | none=>
   dsimp only
   exact W.bind (W.modify { abP lo rs.flatten d1 m1 P1 with pd:=d1.push (lo,n,0) } rfl (W.pure (fin rs _ e0 g hl)))
  | some w9=>
   obtain ⟨u9,v9,z9⟩:=w9
   dsimp only
   generalize power' N (2*u9+v9) (2*u9+v9+v9+n) N=pw9
   refine W.bind (W.range (D:=λ c b2=>c.1=none/\∃ rs2:List (List Nat),b2.p.toList=rs2.flatten++(r++Co (lo+n) (N - lo - n))/\Gd O 0 rs2 b2.pd.toList/\rs2.flatten.length=lo) (λ k c b2=>c.1=none/\∃ rs2:List (List Nat),b2.p.toList=rs2.flatten++(r++Co (lo+n) (N - lo - n))/\Gd O 0 rs2 b2.pd.toList/\rs2.flatten.length=lo) ⟨rfl,rs,e0,g,hl⟩ ?_ ?_ |>.mono λ c b2 hc=>?_)
   ·rintro x k ⟨r2,u2⟩ b2 ⟨er,rs2,e2,g2,l2⟩
    dsimp only at er
    subst er
    refine W.bind (W.get ?_)
    have hp:pendingOf (Ab.st O b2)=b2.pd:=rfl
    simp only [hp]
    have hps:b2.pd.size=rs2.length:=by rw [g2.len]; simp
    cases ho:(if b2.pd.size > 1 then b2.pd[b2.pd.size - 2]? else none) with
    | none=>exact W.pure ⟨rfl,rs2,e2,g2,l2⟩
    | some w8=>
     obtain ⟨u8,v8,z8⟩:=w8
     dsimp only
     have hgt:b2.pd.size > 1:=by
      by_cases q:b2.pd.size > 1
      ·exact q
      ·rw [if_neg q] at ho; cases ho
     refine W.ite (λ _=>W.pure ⟨rfl,rs2,e2,g2,l2⟩) (λ _=>?_)
     refine W.bind (merge rs2 _ b2 _ e2 g2 hsuf (by lia) (by lia) _ λ rs3 b3 e3 g3 l3 k3=>?_)
     simp only [DJ,BG,if_false]
     exact W.pure ⟨rfl,rs3,e3,g3,by lia⟩
   ·rintro ⟨r2,u2⟩ b2 hc
    exact hc
   ·obtain ⟨r2,u2⟩:=c
    obtain ⟨er,rs2,e2,g2,l2⟩:=hc
    dsimp only at er ⊢
    subst er
    dsimp only
    have g3:Gd O 0 rs2 (b2.pd.modify (b2.pd.size - 1) λ x=>(x.1,x.2.1,pw9)).toList:=by
     rw [Ib]
     exact g2.pow (f:=λ x=>(x.1,x.2.1,pw9)) (λ d=>⟨rfl,rfl⟩) _
    refine W.bind (W.modify { b2 with pd:=b2.pd.modify (b2.pd.size - 1) λ x=>(x.1,x.2.1,pw9) } rfl ?_)
    exact W.bind (W.modify { b2 with pd:=(b2.pd.modify (b2.pd.size - 1) λ x=>(x.1,x.2.1,pw9)).push (lo,n,0) } rfl (W.pure (fin rs2 { b2 with pd:=b2.pd.modify (b2.pd.size - 1) λ x=>(x.1,x.2.1,pw9) } e2 g3 l2)))
end
end L2
namespace HT
open PySem PyProof.Rows PySem.W L2
theorem vc {prog:Program} {w:World} {A:Around} {E:Value->Shared->Prop} {s:Shared} {κ:SortKind} {lt:Nat->Nat->Bool} {ks:List Value} {I:Shared->Prop} (hl:ks.length=vs.length) (h2:2<=vs.length) (H:Lt lt) (hI:I s)
  (hc:∀ i j s',i<vs.length->j<vs.length->I s'->wpAny (model prog w) A (keyLt' κ (ks.getD i CC) (ks.getD j CC)) (λ b s''=>b=lt i j/\I s'') (λ _ _=>False) s') :
  wpAny (model prog w) A ((sortRuns').run (DD κ (ks.toArray.zip vs.toArray) #[] 7 none))
   (λ r s'=>∃ p:Array Nat,arrOf r.2=p.map (kas_item (ks.toArray.zip vs.toArray))/\failedOf r.2=none/\p.size=vs.length/\I s'/\p.toList.Perm (BC vs.length)/\p.toList.Pairwise (Ah lt)) E s:=by
 have hc':∀ i j s',i<vs.length->j<vs.length->I s'->kas_cmp prog w A κ (ks.toArray.zip vs.toArray) i j (λ b s''=>b=lt i j/\I s'') s':=λ i j s' hi hj hs=>by
  have:=hc i j s' hi hj hs
  rw [<-kat_ask_eq (prog:=prog) (w:=w) (A:=A) (κ:=κ) hl]
  exact this
 have run:=W.runs (O:=⟨prog,w,A,E,κ,ks.toArray.zip vs.toArray,vs.length,lt,I,hc'⟩) (N:=vs.length) (Q:=λ _ b'=>b'.p.toList.Perm (BC vs.length)/\b'.p.toList.Pairwise (Ah lt)) H rfl h2 (λ b' h1 h2=>⟨h1,h2⟩) s hI
 have est:DD κ (ks.toArray.zip vs.toArray) #[] 7 none=Ab.st ⟨prog,w,A,E,κ,ks.toArray.zip vs.toArray,vs.length,lt,I,hc'⟩ ⟨B8 (BC vs.length),#[],7⟩:=by
  have e:=kas_range (ks.toArray.zip vs.toArray)
  rw [show (ks.toArray.zip vs.toArray).size=vs.length by simp [hl]] at e
  show DD κ (ks.toArray.zip vs.toArray) #[] 7 none=DD κ ((B8 (BC vs.length)).map (kas_item (ks.toArray.zip vs.toArray))) #[] 7 none
  rw [e]
 rw [est]
 refine wpAny_mono run (λ r s' hr=>?_) λ _ _ z=>z
 obtain ⟨hi,b',eb,p1,p2⟩:=hr
 obtain ⟨u,st⟩:=r
 have eb:st=Ab.st _ b':=eb
 subst eb
 exact ⟨b'.p,rfl,rfl,by rw [<-BP,p1.length_eq,CU],hi,p1,p2⟩
section
variable {prog:Program} {w:World} {A:Around} {E:Value->Shared->Prop} {s:Shared}
theorem rn {R:Nat->Nat->Prop} (n:Nat) (h:n<2):(BC n).Pairwise R:=by
 match n,h with
 | 0,_=>exact .nil
 | 1,_=>exact DZ _ _
theorem ja {κ:SortKind} {lt:Nat->Nat->Bool} {P:Iy->Shared->Prop} (ho:s.heap.get? a=some (seqObj "list" vs.toArray n)) (h64:vs.length<1000) (H:Lt lt)
  (hk:∀ h' (Q:SortKind->Shared->Prop),2<=vs.length->(∀ b o,b≠a->s.heap.get? b=some o->h'.get? b=some o)->Q κ { s with heap:=h' }->wpAny (model prog w) A (keyKind' vs.toArray) Q (λ _ _=>False) { s with heap:=h' })
  (hc:∀ h' i j (Q:Bool->Shared->Prop),i<vs.length->j<vs.length->(∀ b o,b≠a->s.heap.get? b=some o->h'.get? b=some o)->Q (lt i j) { s with heap:=h' }->
   wpAny (model prog w) A (keyLt' κ (vs.getD i CC) (vs.getD j CC)) Q (λ _ _=>False) { s with heap:=h' })
  (h:∀ p:List Nat,p.Perm (BC vs.length)->p.Pairwise (Ah lt)->P (.done (.ret .none)) { s with heap:=sortedHeap s.heap a vs (B8 (p.map λ i=>vs.getD i CC)) }) :
  wpAny (model prog w) A (Builtin.«list.sort» ⟨[.ref a],[]⟩) P E s:=by
 rw [list_sort_plain]
 have ha:a<s.heap.objs.size:=BJ ho
 refine wpAny_bind (listItems_at ho rfl ?_)
 refine wpAny_bind (listUpdate_at ho rfl ?_ (by rw [BQ,sizeLine_eq]; lia) (Ca _))
 obtain ⟨e1,ho1⟩:∃ e1,(s.heap.update a (DA λ _=>(#[]:Array Value))).get? a=some (seqObj "list" #[] e1):=⟨_,get?_update_seq ho (λ _=>#[])⟩
 refine wpAny_bind (seqEpoch_at ho1 rfl ?_)
 refine wpAny_bind (wpAny_newTuple ?_ (by show vs.length<=_; rw [sizeLine_eq]; lia))
 refine wpAny_bind (wpAny_newList ?_ (Ca _))
 refine wpAny_holding ?_
 have ho6:(((s.heap.update a (DA λ _=>(#[]:Array Value))).push (seqObj "tuple" vs.toArray 0)).push (seqObj "list" #[] 0)).get? a=some (seqObj "list" #[] e1):=by
  rw [Fn _ _ _ (by rw [size_push',FA]; exact B0 (EM ha)),Fn _ _ _ (by rw [FA]; exact B0 ha)]
  exact ho1
 have kp:∀ b o,b≠a->s.heap.get? b=some o->(((s.heap.update a (DA λ _=>(#[]:Array Value))).push (seqObj "tuple" vs.toArray 0)).push (seqObj "list" #[] 0)).get? b=some o:=λ b o hb e=>by
  have hlt:=BJ e
  rw [Fn _ _ _ (by rw [size_push',FA]; exact B0 (EM hlt)),Fn _ _ _ (by rw [FA]; exact B0 hlt),Heap.get?_update_ne _ _ _ _ hb]
  exact e
 show wpAny (model prog w) A _ P E { s with heap:=((s.heap.update a (DA λ _=>(#[]:Array Value))).push (seqObj "tuple" vs.toArray 0)).push (seqObj "list" #[] 0) }
 dsimp only
 have hsz:vs.toArray.size=vs.length:=by simp
 by_cases h2:vs.toArray.size<2
 ·rw [if_pos h2,if_pos h2]
  refine wpAny_bind (wpAny_pure ?_)
  rw [StateT.run_pure]
  refine wpAny_bind (wpAny_pure ?_)
  dsimp only
  refine wpAny_bind (seqEpoch_at ho6 rfl ?_)
  refine wpAny_bind (listUpdate_at ho6 rfl ?_ (Ca _) (by rw [Fh]; show (pairsOf vs).size<=_; rw [pairsOf_size,sizeLine_eq]; lia))
  simp only [bne_self_eq_false,BG,if_false]
  have:=h (BC vs.length) (DC _) (rn _ (by lia))
  have eo:(arrOf (DD general' (vs.toArray.zip vs.toArray) #[] 7 none)).map (·.2)=B8 ((BC vs.length).map λ i=>vs.getD i CC):=by
   have e:=kas_range (vs.toArray.zip vs.toArray)
   rw [show (vs.toArray.zip vs.toArray).size=vs.length by simp] at e
   have:=kat_snds (st:=DD general' (vs.toArray.zip vs.toArray) #[] 7 none) (ks:=vs) (vs:=vs) rfl e.symm
   simpa using this
  rw [<-eo] at this
  exact wpAny_pure this
 ·rw [if_neg h2,if_neg h2]
  refine wpAny_bind (wpAny_mono (hk _ (λ κ' s'=>κ'=κ/\s'={ s with heap:=((s.heap.update a (DA λ _=>(#[]:Array Value))).push (seqObj "tuple" vs.toArray 0)).push (seqObj "list" #[] 0) }) (by lia) kp ⟨rfl,rfl⟩) (λ κ' s' hh=>?_) λ _ _ x=>x.elim)
  obtain ⟨rfl,rfl⟩:=hh
  refine wpAny_bind (wpAny_mono (vc (ks:=vs) (I:=λ s'=>s'={ s with heap:=((s.heap.update a (DA λ _=>(#[]:Array Value))).push (seqObj "tuple" vs.toArray 0)).push (seqObj "list" #[] 0) }) rfl (by lia) H rfl (λ i j s' hi hj es=>by subst es; exact hc _ i j _ hi hj kp ⟨rfl,rfl⟩)) ?_ λ _ _ e=>e)
  rintro ⟨⟨⟩,st'⟩ s' ⟨p,har,hf,hp,rfl,q1,q2⟩
  dsimp only
  have hout:=kat_snds rfl har
  rw [hout]
  refine wpAny_bind (seqEpoch_at ho6 rfl ?_)
  refine wpAny_bind (listUpdate_at ho6 rfl ?_ (Ca _) (by rw [BQ,By,BP,hp,sizeLine_eq]; lia))
  rw [hf]
  simp only [bne_self_eq_false,BG,if_false]
  exact wpAny_pure (h p.toList q1 q2)
theorem lQ {fin:Bool} {Q:Bool->Shared->Prop}:∀ {xs ys:List Value} {ns ms:List Int},IntsAre xs ns->IntsAre ys ms->∀ (i:Nat) (b:Bool),fin=decide (ns.length<ms.length)->Q (bD ns ms) s->
  KatLex prog w A b fin Q (xs.zip ys) i s
 | _,_,_,_,.nil,.nil,i,b,e,h=>by subst e; exact h
 | _,_,_,_,.nil,.cons m u r,i,b,e,h=>by
  subst e; rw [II]; refine kat_nil ?_; simpa using (show Q true s from h)
 | _,_,_,_,.cons n t r,.nil,i,b,e,h=>by
  subst e; rw [Ik]; refine kat_nil ?_; simpa using (show Q false s from h)
 | _,_,_,_,.cons n t r,.cons m u r',i,b,e,h=>by
  rw [Gb]
  refine kat_cons (wpAny_eqBool_int ?_)
  rw [cr] at h
  by_cases hn:n=m
  ·rw [if_pos hn] at h
   rw [show (n == m)=true by simp [hn]]
   exact kat_yes (lQ r r' (i+1) b (by rw [e]; simp) h)
  ·rw [if_neg hn] at h
   rw [show (n == m)=false by simp [hn]]
   refine kat_no ?_
   cases (b && i == 0) with
   | true=>exact oneLt_int h
   | false=>exact kat_one _ _ (lt_int h)
theorem rp {x y:Addr} {its its2:Array Value} {ns:List Int} {b:Bool} {Q:Bool->Shared->Prop} (hx:IsTup s.heap x its) (hy:IsTup s.heap y its2) (hi:IntsAre its.toList ns) (hj:IntsAre its2.toList ms) (h:Q (bD ns ms) s) :
  wpAny (model prog w) A (keyLt' (tuples' b) (.ref x) (.ref y)) Q E s:=by
 obtain ⟨o,ho,hc,n,hd⟩:=id hx
 obtain ⟨o2,ho2,hc2,n2,hd2⟩:=id hy
 refine kat_lt ho hd ho2 hd2 (lQ hi hj 0 b ?_ h)
 rw [<-hi.length,<-hj.length]; simp
theorem vd {x y:Addr} {its its2:Array Value} {ns:List Int} {Q:Bool->Shared->Prop} (hu:A.units<cLine) (hx:IsTup s.heap x its) (hy:IsTup s.heap y its2) (hi:IntsAre its.toList ns) (hj:IntsAre its2.toList ms) (h:Q (bD ns ms) s) :
  wpAny (model prog w) A (keyLt' oneType' (.ref x) (.ref y)) Q E s:=by
 obtain ⟨⟨cls,dd,data,sl⟩,ho,hc,n,hd⟩:=id hx
 obtain ⟨⟨cls2,dd2,data2,sl2⟩,ho2,hc2,n2,hd2⟩:=id hy
 simp only at hc hd hc2 hd2
 subst hc hd hc2 hd2
 rw [keyLt'_oneType,oneLt'_eq]
 simp only [if_true]
 refine wpAny_bind (wpAny_cRoomFor hu ?_)
 refine wpAny_bind (wpAny_callSpecialIfBound?_slot (T:="tuple") ⟨_,ho,rfl⟩ Hr (call_meets Hr ⟨_,ho,rfl⟩ PySem.F.entry_tuple_lt (PySem.F.args_tuple_lt_2 _ _) (iH x y its its2 n n2 dd dd2 sl sl2 ns ms hi hj) ⟨ho,ho2,?_⟩))
 exact wpAny_truthy_bool h
theorem rq {Q:SortKind->Shared->Prop} (h2:2<=vs.length) (ht:∀ v∈vs,∃ a,v=.ref a/\IsTup s.heap a #[]) (h:Q oneType' s) :
  wpAny (model prog w) A (keyKind' vs.toArray) Q E s:=by
 obtain ⟨v₁,rest,rfl⟩:∃ v₁ rest,vs=v₁::rest:=by
  match vs,h2 with
  | v₁::rest,_=>exact ⟨v₁,rest,rfl⟩
 rw [kat_kind_eq,IN,map_eq_pure_bind]
 refine wpAny_bind (wpAny_bind (kas_mapM (r:=none) _ (λ v hv Q' hq=>?_) (wpAny_pure ?_)))
 ·obtain ⟨a,rfl,o,ho,hc,n,hd⟩:=ht v hv
  rw [kas_first_eq]
  refine wpAny_bind (Looks.here (show Looks (model prog w) s.heap (typeOf (.ref a)) o.cls from (Looks.ld ho).andThen .now) ?_)
  rw [hc,if_neg (by first | decide | simp)]
  refine wpAny_bind (listItems_at ho hd (wpAny_pure ?_))
  exact hq
 ·rw [if_neg (by simp),if_neg (by simp)]
  rw [oneTypeOnly'_eq,IN,map_eq_pure_bind]
  refine wpAny_bind (wpAny_bind (wpAny_bind (kas_mapM (r:=Ds "tuple") _ (λ v hv Q' hq=>?_) (wpAny_pure ?_))))
  ·obtain ⟨a,rfl,o,ho,hc,n,hd⟩:=ht v hv
   refine Looks.here (show Looks (model prog w) s.heap (typeOf (.ref a)) (Ds "tuple") from ?_) hq
   rw [<-hc]
   exact (Looks.ld ho).andThen .now
  ·have hall:((HL (λ _=>Ds "tuple") (v₁::rest)).toArray.all λ x=>x == Ds "tuple")=true:=by
    simp only [List.all_toArray,List.all_map,DL]
    intro _ _
    rfl
   have h0:(HL (λ _=>Ds "tuple") (v₁::rest)).toArray[0]? = some (Ds "tuple"):=by simp
   rw [h0]
   simp only [hall,if_true]
   exact wpAny_pure (wpAny_pure h)
theorem oP:∀ {vs:List Value} {rss:List (List Int)},vs.length=rss.length->(∀ (i:Nat) v r,vs[i]? = some v->rss[i]? = some r->∃ a its,v=.ref a/\IsTup s.heap a its/\IntsAre its.toList r)->(∀ r∈rss,r≠[])->
  ∃ fs,KatTups s.heap vs fs/\fs.length=vs.length/\∀ f∈fs,∃ n t,f=G4 n t
 | [],[],_,_,_=>⟨[],.nil,rfl,λ _ h=>nomatch h⟩
 | v::vs,r::rss,hl,h,hne=>by
  obtain ⟨fs,k1,k2,k3⟩:=oP (vs:=vs) (rss:=rss) (by simpa using hl) (λ i v r e1 e2=>h (i+1) v r (by simpa using e1) (by simpa using e2)) λ r hr=>hne r (.tail _ hr)
  obtain ⟨a,its,rfl,⟨o,ho,hc,n,hd⟩,hi⟩:=h 0 v r rfl rfl
  have hr:=hne r (.head _)
  obtain ⟨its'⟩:=its
  cases hi with
  | nil=>exact absurd rfl hr
  | cons m t hi'=>exact ⟨_::fs,KatTups.cons (f:=.int m t) ho hc hd (by simp) k1,by simp [k2],λ f hf=>(BS.mp hf).elim (λ e=>⟨m,t,e⟩) (k3 f)⟩
theorem oQ {rss:List (List Int)} {Q:SortKind->Shared->Prop} (h2:2<=vs.length) (hl:vs.length=rss.length) (ht:∀ (i:Nat) v r,vs[i]? = some v->rss[i]? = some r->∃ a its,v=.ref a/\IsTup s.heap a its/\IntsAre its.toList r) (hne:∀ r∈rss,r≠[])
  (h:Q (tuples' true) s):wpAny (model prog w) A (keyKind' vs.toArray) Q E s:=by
 obtain ⟨fs,k1,k2,k3⟩:=oP hl ht hne
 refine kat_kind (T:=Ds "int") k1 (by lia) (λ v hv=>?_) rfl h
 obtain ⟨n,t,rfl⟩:=k3 v hv
 exact Looks.of_pure rfl
end
theorem dJ (a:List Int):∀ b,bD a b=true->bD b a=false:=by
 induction a with
 | nil=>intro b h; cases b<;>first | rfl | cases h
 | cons x xs ih=>
  intro b h
  cases b with
  | nil=>cases h
  | cons y ys=>
   rw [cr] at h ⊢
   by_cases e:x=y
   ·rw [if_pos e] at h; rw [if_pos e.symm]; exact ih ys h
   ·rw [if_neg e] at h; rw [if_neg (DN e)]
    have:=of_decide_eq_true h
    exact decide_eq_false (by lia)
theorem oR (a:List Int):∀ b c,bD a b=false->bD b c=false->bD a c=false:=by
 induction a with
 | nil=>
  intro b c h1 h2
  cases b with
  | nil=>exact h2
  | cons y ys=>cases h1
 | cons x xs ih=>
  intro b c h1 h2
  cases c with
  | nil=>rfl
  | cons z zs=>
   cases b with
   | nil=>cases h2
   | cons y ys=>
    rw [cr] at h1 h2 ⊢
    by_cases e:x=y
    ·subst e
     rw [if_pos rfl] at h1
     by_cases e2:x=z
     ·subst e2; rw [if_pos rfl] at h2 ⊢; exact ih ys zs h1 h2
     ·rw [if_neg e2] at h2 ⊢; exact h2
    ·rw [if_neg e] at h1
     have h1:=of_decide_eq_false h1
     by_cases e2:y=z
     ·subst e2; rw [if_neg e]; exact decide_eq_false h1
     ·rw [if_neg e2] at h2
      have h2:=of_decide_eq_false h2
      rw [if_neg (by lia)]; exact decide_eq_false (by lia)
theorem sW (rss:List (List Int)):Lt (λ i j=>bD (rss.getD i []) (rss.getD j [])):=⟨λ i j h=>dJ _ _ h,λ i j k h1 h2=>oR _ _ _ h1 h2⟩
end HT
namespace L2
open PySem PySem.Spec PyProof.Rows PySem.W
section
variable {X:Cx}
theorem gK:∀ {rs:List Addr} {us:List Value},Vals (rs.map LD) us->us=rs.map Cp
 | [],_,.nil=>rfl
 | _::_,_,.cons r t=>by
  rw [Cs,<-gK t]
  cases r
  rfl
theorem lR {f:Nat->V} {g:Nat->Value}:∀ {p:List Nat},(∀ i∈p,RelV (f i) (g i))->Vals (p.map f) (p.map g)
 | [],_=>.nil
 | i::p,h=>.cons (h i (.head _)) (lR λ j hj=>h j (.tail _ hj))
end
section
variable {X:Cx}
end
end L2
namespace HT
open PySem PyProof.Rows PySem.W L2
section
variable {prog:Program} {w:World} {A:Around} {E:Value->Shared->Prop} {s:Shared}
end
end HT
namespace L2
open PySem PySem.Spec PyProof.Rows PySem.W
theorem jb {α:Type} (xs:List α) (d:α):(BC xs.length).map (λ i=>xs.getD i d)=xs:=by
 apply Em
 ·simp
 ·intro i h1 h2
  simp [h2]
section
variable {X:Cx}
end
end L2
namespace L2
open PySem PySem.Spec PyProof.Rows
noncomputable def we (x:V) (d:PyData):Prop:=(x=.non/\d=.none)\/(∃ b,x=.bl b/\d=.bool b)\/(∃ i:Int,x=.int i/\d=.int i/\i.natAbs<10 ^ 22)\/(∃ y,x=.str y/\d=.str y/\(PyData.str y).showable=true/\Dl 25 (.str y)=true)
theorem mW {x:V} {d:PyData} (h:we x d) (n:Nat):d.showable=true/\d.hasDict=false/\d.depth<=n/\Dl 25 d=true:=by
 rcases h with ⟨rfl,rfl⟩ | ⟨b,rfl,rfl⟩ | ⟨i,rfl,rfl,hi⟩ | ⟨y,rfl,rfl,h1,h2⟩
 ·exact ⟨rfl,rfl,Ca _,by decide +kernel⟩
 ·exact ⟨rfl,rfl,Ca _,by cases b<;>decide +kernel⟩
 ·refine ⟨?_,rfl,Ca _,?_⟩
  ·unfold Ha
   refine decide_eq_true ?_
   by_cases h0:i.natAbs=0
   ·rw [h0]; decide
   ·have:i.natAbs<2 ^ 80:=Eo hi (by decide)
    have:=(He h0).mpr this
    lia
  ·unfold Dl
   refine decide_eq_true ?_
   have e:=int_text_length_le10 (k:=22) (by decide) hi
   show (DR (toString i)).length<=25
   rw [PySem.ofString_length]; exact CM e (by decide)
 ·exact ⟨h1,rfl,Ca _,h2⟩
noncomputable def DatM:Nat->Hp->V->PyData->Prop
 | 0,_,x,d=>we x d
 | n+1,H,x,d=>we x d\/(∃ a xs ds,x=.ref a/\d=.list ds/\H a=some (.lst xs)/\xs.length=ds.length/\∀ (i:Nat) u e,xs[i]? = some u->ds[i]? = some e->DatM n H u e)\/
  (∃ a xs ds,x=.ref a/\d=.tuple ds/\H a=some (.tup xs)/\xs.length=ds.length/\∀ (i:Nat) u e,xs[i]? = some u->ds[i]? = some e->DatM n H u e)
theorem DatM.same {H H1:Hp} (s:Same H H1):∀ {n:Nat} {x:V} {d:PyData},DatM n H x d->DatM n H1 x d
 | 0,_,_,h=>h
 | n+1,_,_,h=>by
  rcases h with h | ⟨a,xs,ds,rfl,rfl,ha,hl,hi⟩ | ⟨a,xs,ds,rfl,rfl,ha,hl,hi⟩
  ·exact .inl h
  ·exact .inr (.inl ⟨a,xs,ds,rfl,rfl,s _ _ ha,hl,λ i u v e1 e2=>DatM.same s (hi i u v e1 e2)⟩)
  ·exact .inr (.inr ⟨a,xs,ds,rfl,rfl,s _ _ ha,hl,λ i u v e1 e2=>DatM.same s (hi i u v e1 e2)⟩)
theorem DatM.facts {H:Hp}:∀ {n:Nat} {x:V} {d:PyData},DatM n H x d->d.showable=true/\d.hasDict=false/\d.depth<=n/\Dl 25 d=true
 | n,x,d,h=>by
  have hint:we x d->d.showable=true/\d.hasDict=false/\d.depth<=n/\Dl 25 d=true:=by
   intro h
   exact mW h n
  match n,h with
  | 0,h=>exact hint h
  | n+1,h=>
   rcases h with h | ⟨a,xs,ds,rfl,rfl,ha,hl,hi⟩ | ⟨a,xs,ds,rfl,rfl,ha,hl,hi⟩
   ·exact hint h
   ·have hd:∀ d∈ds,d.showable=true/\d.hasDict=false/\d.depth<=n/\Dl 25 d=true:=λ d hd=>by
     obtain ⟨i,e⟩:=FL hd
     have hlt:=dk e
     exact DatM.facts (hi i (xs[i]'(by lia)) d (Bx _) e)
    exact ⟨jH (P:=Ha) (PA:=Iz) rfl (λ _ _=>rfl) λ d h=>(hd d h).1,dc λ d h=>(hd d h).2.1,Jf (dX λ d h=>(hd d h).2.2.1),jH (P:=Dl 25) (PA:=Hs 25) rfl (λ _ _=>rfl) λ d h=>(hd d h).2.2.2⟩
   ·have hd:∀ d∈ds,d.showable=true/\d.hasDict=false/\d.depth<=n/\Dl 25 d=true:=λ d hd=>by
     obtain ⟨i,e⟩:=FL hd
     have hlt:=dk e
     exact DatM.facts (hi i (xs[i]'(by lia)) d (Bx _) e)
    exact ⟨jH (P:=Ha) (PA:=Iz) rfl (λ _ _=>rfl) λ d h=>(hd d h).1,dc λ d h=>(hd d h).2.1,Jf (dX λ d h=>(hd d h).2.2.1),jH (P:=Dl 25) (PA:=Hs 25) rfl (λ _ _=>rfl) λ d h=>(hd d h).2.2.2⟩
section
variable {X:Cx} {pins:List (Addr×Obj)} {σ:St} {H:Hp} {s:Shared}
theorem DatM.reads (I:Inv X pins σ H s):∀ {n:Nat} {x:V} {d:PyData} {v:Value},DatM n H x d->RelV x v->∃ as,Reads s.heap v d as
 | n,x,d,v,h,r=>by
  have hint:we x d->∃ as,Reads s.heap v d as:=by
   rintro (⟨rfl,rfl⟩ | ⟨b,rfl,rfl⟩ | ⟨i,rfl,rfl,_⟩ | ⟨y,rfl,rfl,_⟩)
   ·cases r; exact ⟨_,.none⟩
   ·cases r; exact ⟨_,.bool b⟩
   ·obtain ⟨t,rfl⟩:=r; exact ⟨_,.int i t⟩
   ·obtain ⟨t,rfl⟩:=r; exact ⟨_,.str y t⟩
  match n,h with
  | 0,h=>exact hint h
  | n+1,h=>
   rcases h with h | ⟨a,xs,ds,rfl,rfl,ha,hl,hi⟩ | ⟨a,xs,ds,rfl,rfl,ha,hl,hi⟩
   ·exact hint h
   ·cases r
    obtain ⟨its,m,rv,ho,hz⟩:=I.lst ha
    obtain ⟨as,h1⟩:=dY (R:=DatM n H) (λ x v d h r=>DatM.reads I h r) rv hl hi
    exact ⟨_,.list ho rfl rfl (by simpa using h1)⟩
   ·cases r
    obtain ⟨its,rv,⟨ob,ho,hc,m,hd⟩,hz⟩:=I.tuple (Ly ha)
    obtain ⟨as,h1⟩:=dY (R:=DatM n H) (λ x v d h r=>DatM.reads I h r) rv hl hi
    exact ⟨_,.tuple ho hc hd (by simpa using h1)⟩
end
section
variable {κ:Type} [DecidableEq κ]
noncomputable def kl (kvs:List (κ×V)) (k:κ):Option V:=(kvs.find? λ kv=>decide (kv.1=k)).map (·.2)
noncomputable def kK (kvs:List (κ×V)) (k:κ) (v:V):List (κ×V):=
 if (kvs.any λ kv=>decide (kv.1=k))=true then kvs.map (λ kv=>if kv.1=k then (kv.1,v) else kv) else kvs++[(k,v)]
theorem fZ {p:κ×V} {r:List (κ×V)} {k:κ} (e:p.1=k):kl (p::r) k=some p.2:=by simp [kl,EA,e]
theorem eS {p:κ×V} {r:List (κ×V)} {k:κ} (e:¬ p.1=k):kl (p::r) k=kl r k:=by simp [kl,EA,e]
theorem gc (k:κ):∀ kvs:List (κ×V),(kvs.any λ kv=>decide (kv.1=k))=(kl kvs k).isSome
 | []=>rfl
 | p::r=>by
  rw [HV]
  by_cases e:p.1=k
  ·simp only [fZ e,decide_eq_true e,Iq,Option.isSome_some]
  ·rw [eS e,decide_eq_false e,HU]; exact gc k r
theorem gL (kvs:List (κ×V)) (k:κ) (v:V):(kK kvs k v).length<=kvs.length+1:=by
 unfold kK
 split
 ·rw [By]; lia
 ·rw [BO,Ci,Dh]; lia
theorem rA {kvs:List (κ×V)} {k:κ} (v:V) (h:kl kvs k=none):kK kvs k v=kvs++[(k,v)]:=by
 unfold kK
 rw [gc,h]
 exact if_neg (by decide)
theorem RelO.isSome_eq {o:Option V} {u:Option Value} (r:RelO o u):o.isSome=u.isSome:=by
 cases o with
 | none=>cases u with
  | none=>rfl
  | some _=>exact (show False from r).elim
 | some _=>cases u with
  | none=>exact (show False from r).elim
  | some _=>rfl
theorem RelO.getD {o:Option V} {u:Option Value} {d:V} {d':Value} (r:RelO o u) (rd:RelV d d'):RelV (o.getD d) (u.getD d'):=by
 cases o with
 | none=>cases u with
  | none=>exact rd
  | some _=>exact (show False from r).elim
 | some _=>cases u with
  | none=>exact (show False from r).elim
  | some _=>exact r
theorem KV.val {kvs:List (κ×V)} {vs:List (κ×Value)} (r:KV kvs vs) (k:κ):RelO (kl kvs k) (valueAt vs k):=by
 unfold KV at r
 induction r with
 | nil=>exact Cf
 | @cons p q ps qs h t ih=>
  obtain ⟨h1,h2⟩:=h
  by_cases e:p.1=k
  ·have e':q.1=k:=h1.symm.trans e
   have b:valueAt (q::qs) k=some q.2:=by simp [valueAt,EA,e']
   rw [fZ e,b]; exact h2
  ·have e':¬ q.1=k:=λ z=>e (h1.trans z)
   have b:valueAt (q::qs) k=valueAt qs k:=by simp [valueAt,EA,e']
   rw [eS e,b]; exact ih
theorem KV.any {kvs:List (κ×V)} {vs:List (κ×Value)} (r:KV kvs vs) (k:κ):(kvs.any λ kv=>decide (kv.1=k))=vs.any λ kv=>decide (kv.1=k):=by
 unfold KV at r
 induction r with
 | nil=>rfl
 | cons h t ih=>rw [HV,HV,ih,h.1]
theorem KV.repl {kvs:List (κ×V)} {vs:List (κ×Value)} (r:KV kvs vs) (k:κ) (ry:RelV y u) :
  KV (kvs.map λ kv=>if kv.1=k then (kv.1,y) else kv) (vs.map λ kv=>if kv.1=k then (kv.1,u) else kv):=by
 unfold KV at r ⊢
 induction r with
 | nil=>exact .nil
 | @cons p q ps qs h t ih=>
  rw [Cs,Cs]
  refine .cons ?_ ih
  obtain ⟨h1,h2⟩:=h
  by_cases e:p.1=k
  ·rw [if_pos e,if_pos (h1.symm.trans e)]; exact ⟨h1,ry⟩
  ·rw [if_neg e,if_neg (λ z=>e (h1.trans z))]; exact ⟨h1,h2⟩
theorem KV.put {kvs:List (κ×V)} {vs:List (κ×Value)} (r:KV kvs vs) (k:κ) (ry:RelV y u):KV (kK kvs k y) (stored vs k u):=by
 unfold kK stored
 rw [r.any k]
 by_cases e:(vs.any λ kv=>decide (kv.1=k))=true
 ·rw [if_pos e,if_pos e]; exact r.repl k ry
 ·rw [if_neg e,if_neg e]; exact KP r ⟨rfl,ry⟩
theorem KV.length {kvs:List (κ×V)} {vs:List (κ×Value)} (r:KV kvs vs):kvs.length=vs.length:=Go r
end
theorem ve {w:World} {k:Key} (r:RelV (kV k) u):(bq P w).is k u=true:=by
 cases k with
 | inl i=>obtain ⟨t,e⟩:=(show ∃ t,u=G4 i t from r); subst e; exact km P w i t
 | inr x=>obtain ⟨t,e⟩:=(show ∃ t,u=Ig x t from r); subst e; exact kn P w x t
theorem jL {P:Program} {w:World}:∀ {ks:List Key} {us:List Value},Vals (ks.map kV) us->ItemsAre (bq P w) ks us
 | [],_,r=>by rw [Im] at r; cases r; exact .nil
 | k::ks,_,r=>by
  rw [Cs] at r
  cases r with
  | cons h t=>exact .cons (ve h) (jL t)
noncomputable abbrev KT (H:Hp):List (List Key×V)->List (List Key×Addr×Value)->Prop:=Paired λ p q=>p.1=q.1/\H q.2.1=some (.tup (p.1.map kV))/\RelV p.2 q.2.2
theorem KT.val {H:Hp} {kvs:List (List Key×V)} {xs:List (List Key×Addr×Value)} (r:KT H kvs xs) (k:List Key):RelO (kl kvs k) ((atKey xs k).map (·.2)):=by
 induction r with
 | nil=>exact Cf
 | @cons p q ps qs h t ih=>
  obtain ⟨h1,_,h2⟩:=h
  by_cases e:p.1=k
  ·have e':q.1=k:=h1.symm.trans e
   have b:atKey (q::qs) k=some q.2:=by simp [atKey,EA,e']
   rw [fZ e,b]; exact h2
  ·have e':¬ q.1=k:=λ z=>e (h1.trans z)
   have b:atKey (q::qs) k=atKey qs k:=by simp [atKey,EA,e']
   rw [eS e,b]; exact ih
theorem KT.repl {H:Hp} {kvs:List (List Key×V)} {xs:List (List Key×Addr×Value)} (r:KT H kvs xs) (k:List Key) (ry:RelV y u) :
  KT H (kvs.map λ kv=>if kv.1=k then (kv.1,y) else kv) (xs.map (putAt k u)):=by
 induction r with
 | nil=>exact .nil
 | @cons p q ps qs h t ih=>
  rw [Cs,Cs]
  refine .cons ?_ ih
  obtain ⟨h1,h2,h3⟩:=h
  unfold putAt
  by_cases e:p.1=k
  ·rw [if_pos e,if_pos (h1.symm.trans e)]; exact ⟨h1,h2,ry⟩
  ·rw [if_neg e,if_neg (λ z=>e (h1.trans z))]; exact ⟨h1,h2,h3⟩
theorem KT.put {H:Hp} {kvs:List (List Key×V)} {xs:List (List Key×Addr×Value)} (r:KT H kvs xs) (k:List Key) {b:Addr} (hb:H b=some (.tup (k.map kV))) (ry:RelV y u) :
  KT H (kK kvs k y) (storedH xs k b u):=by
 have e:(kvs.any λ kv=>decide (kv.1=k))=(atKey xs k).isSome:=by
  rw [gc,(r.val k).isSome_eq,Option.isSome_map]
 unfold kK storedH
 rw [e]
 by_cases q:(atKey xs k).isSome=true
 ·rw [if_pos q,if_pos q]; exact r.repl k ry
 ·rw [if_neg q,if_neg q]; exact KP r ⟨rfl,hb,ry⟩
theorem KT.keeps {H:Hp} {kvs:List (List Key×V)} {xs:List (List Key×Addr×Value)} (r:KT H kvs xs) (ht:∀ b ys,H b=some (.tup ys)->H' b=some (.tup ys)):KT H' kvs xs:=
 Paired.mapP r λ _ _ z=>⟨z.1,ht _ _ z.2.1,z.2.2⟩
section
variable {P:Program} {w:World} {H:Hp} {h:Heap} {a:Addr}
theorem xS {u:HO} (ok:HOk P w H h) (e:Rd H a u):ObjOk P w H h a u:=e.ok ok
theorem vf {kvs:List (Key×V)} (ok:HOk P w H h) (e:Rd H a (.dK kvs)):kvs.length<=sizeLine/\(a == sysModules)=false/\∃ vs,KV kvs vs/\h.DictOf (bq P w) a vs:=
 show ObjOk P w H h a (.dK kvs) from xS ok e
theorem Ac {kvs:List (Key×V)} (ok:HOk P w H h) (e:H a=some (.dK kvs)):kvs.length<=sizeLine/\(a == sysModules)=false/\∃ vs,KV kvs vs/\h.DictOf (bq P w) a vs:=vf ok (.inl e)
theorem oS {ks:List Key} (ok:HOk P w H h) (e:H a=some (.tup (ks.map kV))):(tupleKind (bq P w)).is h ks a:=by
 obtain ⟨_,its,r,o,h1,h2,n,h3⟩:=(show ObjOk P w H h a (.tup (ks.map kV)) from ok a _ e)
 exact ⟨o,its.toArray,n,h1,h2,h3,by simpa using jL r⟩
theorem vg {kvs:List (List Key×V)} (ok:HOk P w H h) (e:Rd H a (.dT kvs)):kvs.length<=sizeLine/\(a == sysModules)=false/\
  ∃ xs,KT H kvs xs/\h.DictOfH (tupleKind (bq P w)) a xs:=by
 obtain ⟨z,y,xs,r,o,es,ep,h1,h2,h3,h4,h5⟩:=(show ObjOk P w H h a (.dT kvs) from xS ok e)
 refine ⟨z,y,xs,r,o,es,ep,h1,h2,h3,h4,λ x hx=>?_,h5⟩
 have all:∀ {l:List (List Key×V)} {m:List (List Key×Addr×Value)},KT H l m->∀ x∈m,(tupleKind (bq P w)).is h x.1 x.2.1:=by
  intro l m q
  induction q with
  | nil=>intro x hx; exact nomatch hx
  | @cons p q ps qs hq t ih=>
   intro x hx
   rcases BS.mp hx with e | hx
   ·subst e
    exact oS ok (by rw [<-hq.1]; exact hq.2.1)
   ·exact ih x hx
 exact all r x hx
theorem Ae {kvs:List (List Key×V)} (ok:HOk P w H h) (e:H a=some (.dT kvs)):kvs.length<=sizeLine/\(a == sysModules)=false/\
  ∃ xs,KT H kvs xs/\h.DictOfH (tupleKind (bq P w)) a xs:=vg ok (.inl e)
end
noncomputable def DGet (H:Hp) (a:Addr) (y:V) (r:Option V):Prop:=
 (∃ kvs k,Rd H a (.dK kvs)/\y=kV k/\r=kl kvs k)\/∃ kvs k b,Rd H a (.dT kvs)/\y=.ref b/\H b=some (.tup (k.map kV))/\r=kl kvs k
noncomputable def DPut (H:Hp) (a:Addr) (y v:V) (H':Hp):Prop:=
 (∃ kvs k,H a=some (.dK kvs)/\y=kV k/\kvs.length<sizeLine/\H'=upd H a (.dK (kK kvs k v)))\/
 ∃ kvs k b,H a=some (.dT kvs)/\y=.ref b/\H b=some (.tup (k.map kV))/\kvs.length<sizeLine/\H'=upd H a (.dT (kK kvs k v))
theorem DGet.t {H:Hp} {b:Addr} {kvs:List (List Key×V)} {k:List Key} (e:H a=some (.dT kvs)) (eb:H b=some (.tup (k.map kV))):DGet H a (.ref b) (kl kvs k):=.inr ⟨kvs,k,b,.inl e,rfl,eb,rfl⟩
theorem DPut.t {H:Hp} {b:Addr} {kvs:List (List Key×V)} {k:List Key} (e:H a=some (.dT kvs)) (eb:H b=some (.tup (k.map kV))) (hl:kvs.length<sizeLine) :
  DPut H a (.ref b) v (upd H a (.dT (kK kvs k v))):=.inr ⟨kvs,k,b,e,rfl,eb,hl,rfl⟩
section
variable {X:Cx} {pins:List (Addr×Obj)} {σ:St} {H:Hp} {s:Shared} {a:Addr} {y v:V} {u r:Value} {o:Option V} {A:Around} {E:Value->Shared->Prop}
theorem Inv.big (I:Inv X pins σ H s):sysModules<s.heap.objs.size:=by
 have h:mainGlobals<s.heap.objs.size:=(I.mod.glob.keeps I.bk).lt
 exact Eo (by decide) h
theorem oU {h':Heap} {ob:HO} (I:Inv X pins σ H s) (mu:Mut (H a)) (hs:EO a s.heap h') (he:∃ q,h'.get? a=some q) (new:ObjOk X.prog X.w (upd H a ob) h' a ob) :
  Inv X pins σ (upd H a ob) { s with heap:=h',toks:=t' }:=
 I.write (x:=a) (e:=a) mu (.inl rfl) (λ b q hb z=>(hs.2 b hb).trans z) he new
theorem xT {w:World} {h':Heap} {kvs:List (Key×V)} {vs:List (Key×Value)} (z:kvs.length<=sizeLine) (hd:(a == sysModules)=false) (rel:KV kvs vs) (dd:h'.DictOf (bq P w) a vs) :
  ObjOk P w H' h' a (.dK kvs):=⟨z,hd,vs,rel,dd⟩
theorem oV {Q:Unit->Shared->Prop} (hu:A.units+1<cLine) (I:Inv X pins σ H s) (g:DPut H a y v H') (ry:RelV y u) (rv:RelV v r) (h:∀ s',Inv X pins σ H' s'->Q () s') :
  wpAny (model X.prog X.w) A (setItem (.ref a) u r) Q E s:=by
 rcases g with ⟨kvs,k,e,ey,l,eH⟩ | ⟨kvs,k,b,e,ey,eb,l,eH⟩
 ·subst ey eH
  obtain ⟨z,hd,vs,rel,dd⟩:=Ac I.hok e
  have hz:vs.length<=sizeLine:=by rw [<-rel.length]; exact z
  have hl:(kK kvs k v).length<=sizeLine:=by have:=gL kvs k v; lia
  refine wpAny_setItem_pairs (hsz:=hz) (ve ry) dd λ h' dd' hs=>h _ ?_
  have he:∃ q,h'.get? a=some q:=let ⟨q,_,_,hq,_⟩:=dd'; ⟨q,hq⟩
  exact oU I (by rw [e]; exact Cf) hs he (xT hl hd (rel.put k rv) dd')
 ·subst ey eH
  cases (show u=Cp b from ry)
  obtain ⟨z,hd,xs,rel,dd⟩:=Ae I.hok e
  have hz:xs.length<=sizeLine:=by rw [<-Go rel]; exact z
  have hl:(kK kvs k v).length<=sizeLine:=by have:=gL kvs k v; lia
  refine wpAny_setItem_heap (hsz:=hz) (tupleKind_room_in1 hu) (oS I.hok eb) dd λ h' dd' hs=>h _ ?_
  obtain ⟨q,es,ep,hq,h2,h3,h4,_,h5⟩:=dd'
  refine oU I (by rw [e]; exact Cf) hs ⟨q,hq⟩ ⟨hl,hd,_,(rel.put k eb rv).keeps λ c ys ec=>?_,q,es,ep,hq,h2,h3,h4,h5⟩
  rw [aq (mC ec e (λ z=>nomatch z))]
  exact ec
end
section
variable {X:Cx} {pins:List (Addr×Obj)} {σ:St} {H:Hp} {s:Shared} {a:Addr} {kvs:List (Key×V)} {k:Key} {u:Value} {A:Around} {E:Value->Shared->Prop}
end
noncomputable def vh (td ty tv:TE):TS:=λ D σ H=>tv σ H λ v H1=>td σ H1 λ x H2=>ty σ H2 λ y H3=>∃ a H4,x=.ref a/\DPut H3 a y v H4/\D.nx σ H4
section
variable {X:Cx} {o i e value:Expr} {pos pos' tpos:Pos} {td ty tv:TE}
theorem vi (hu:X.A.units+1<cLine) (ho:PE X o td) (hi:PE X i ty) (hv:PE X value tv) (hs:swapsWith value (some (.Subscript o i pos')) pos.line X.env=pure false) :
  PS X (.Assign [.Subscript o i pos'] value pos) (vh td ty tv):=by
 intro pins s σ H D I h
 refine wpAny_Assign_Subscript (thn (hv pins s σ H _ I h) λ r s1 ⟨v,H1,I1,rv,q1⟩=>thn (ho pins s1 σ H1 _ I1 q1) λ u s2 ⟨x,H2,I2,rx,q2⟩=>thn (hi pins s2 σ H2 _ I2 q2) λ iv s3 ⟨y,H3,I3,ry,a,H4,ex,g,q3⟩=>?_) hs
 subst ex
 obtain rfl:u=Cp a:=rx
 exact oV hu I3 g ry rv λ s4 I4=>⟨σ,H4,I4,q3⟩
end
theorem rB {w:World} {H:Hp} (h:Heap) (hb:sysModules<h.objs.size):ObjOk P w H (h.push { cls:=.type "dict",data:=.dict #[] }) h.objs.size (.dT []):=
 ⟨Ca _,beq_eq_false_iff_ne.mpr (DN (B0 hb)),[],.nil,_,#[],0,BU _ rfl,⟨rfl,rfl,rfl⟩,rfl,rfl,Fi⟩
noncomputable def oW:TE:=λ _ H Q=>∀ p,H p=none->Q (.ref p) (upd H p (.dT []))
section
variable {X:Cx} {pos:Pos}
theorem rD:PE X (.Dict [] [] pos) oW:=λ pins s σ H Q I h=>
 wpAny_Dict_empty ⟨.ref s.heap.objs.size,_,I.laid (a:=s.heap.objs.size) (o:=.dT []) (t':=s.toks) (λ _ _ q=>BB _ q) (BD _) (rB s.heap I.big),rfl,h _ (I.hok.fresh (BD _))⟩
end
structure M2 (X:Cx) (o:Expr) (m:Str) (apos:Pos) (e f:Expr) (cpos:Pos):Prop where
 base:attributeBase o m X.env (eval o X.env)=eval o X.env
 few:((backTo cpos (starEach [e,f] X.env)).all (λ x=>!x.1) && (backToKw cpos (keywordEach [] X.env)).all (λ x=>x.1.isSome)
  && decide (([e,f]:List Expr).length+([]:List Keyword).length+(if ([]:List Keyword).isEmpty then 0 else 1)<30))=true
 line:(apos.endLine == cpos.line)=true
 trees:backTo cpos (starEach [e,f] X.env)=[(false,eval e X.env),(false,eval f X.env)]
noncomputable def IsD (H:Hp) (a:Addr):Prop:=(∃ kvs,Rd H a (.dK kvs))\/∃ kvs,Rd H a (.dT kvs)
theorem xU {H:Hp} {s:Shared} (I:Inv X pins σ H s) (d:IsD H a) :
  s.TypeIs (.ref a) "dict"/\(∀ b,Cp a=.ref b->∃ ob,s.heap.get? b=some ob/\ob.dict=none)/\(a == sysModules)=false:=by
 rcases d with ⟨kvs,e⟩ | ⟨kvs,e⟩
 ·obtain ⟨_,hd,vs,_,dd⟩:=vf I.hok e
  refine ⟨dd.typeIs,λ b q=>?_,hd⟩
  cases q
  obtain ⟨ob,_,_,h1,h2,_⟩:=dd
  exact ⟨ob,h1,h2.2.1⟩
 ·obtain ⟨_,hd,xs,_,dd⟩:=vg I.hok e
  refine ⟨dd.typeIs,λ b q=>?_,hd⟩
  cases q
  obtain ⟨ob,_,_,h1,h2,_⟩:=dd
  exact ⟨ob,h1,h2.2.1⟩
section
variable {X:Cx} {pins:List (Addr×Obj)} {σ:St} {H:Hp} {s:Shared} {a:Addr} {y d:V} {u r:Value} {o:Option V} {A:Around} {E:Value->Shared->Prop}
theorem xV (hu:A.units+1<cLine) (I:Inv X pins σ H s) (g:DGet H a y o) (ry:RelV y u) (rd:RelV d r) (h:∀ w' s',Inv X pins σ H s'->RelV (o.getD d) w'->Q w' s') :
  wpAny (model X.prog X.w) A (call (.builtin "dict.get") [.ref a,u,r]) Q E s:=by
 rcases g with ⟨kvs,k,e,ey,l⟩ | ⟨kvs,k,b,e,ey,eb,l⟩
 ·subst ey
  obtain ⟨z,hd,vs,rel,dd⟩:=vf I.hok e
  refine call_meetsIn FF dd.typeIs Hi (GY _ _ _) (meets_dict_get_default (bq X.prog X.w) a (ve ry) hd r) ⟨_,dd.mapOf,h _ _ (I.tok _) ?_⟩
  rw [l]
  exact (rel.val k).getD rd
 ·subst ey
  cases (show u=Cp b from ry)
  obtain ⟨z,hd,xs,rel,dd⟩:=vg I.hok e
  refine call_meetsIn FF dd.typeIs Hi (GY _ _ _) (meetsH_dict_get_default (tupleKind (bq X.prog X.w)) a b hd r) ⟨tupleKind_room_in1 hu,k,xs,oS I.hok eb,dd,h _ _ (I.tok _) ?_⟩
  rw [l]
  exact (rel.val k).getD rd
end
noncomputable def oX (td ty tx:TE):TE:=λ σ H Q=>td σ H λ x H1=>∃ a,x=.ref a/\IsD H1 a/\ty σ H1 λ y H2=>tx σ H2 λ z H3=>∃ o,DGet H3 a y o/\Q (o.getD z) H3
section
variable {X:Cx} {o e f:Expr} {apos cpos:Pos} {td ty tx:TE}
theorem rE (hu:X.A.units+1<cLine) (ho:PE X o td) (he:PE X e ty) (hf:PE X f tx) (m:M2 X o "get" apos e f cpos):PE X (.Call (.Attribute o "get" apos) [e,f] [] cpos) (oX td ty tx):=by
 intro pins s σ H Q I h
 refine wpAny_Call_method m.base m.few m.line PySem.F.plainAttrs_dict FF PySem.F.type_dict_get (thn (ho pins s σ H _ I h) λ u s1 ⟨x,H1,I1,rx,a,ex,d,q1⟩=>?_)
 subst ex
 obtain rfl:u=Cp a:=rx
 obtain ⟨t1,t2,_⟩:=xU I1 d
 refine ⟨t1,t2,?_⟩
 rw [m.trees]
 refine EF rfl (FH (Ey (thn (he pins s1 σ H1 _ I1 q1) λ iv s2 ⟨y,H2,I2,ry,q2⟩=>
  Ey (thn (hf pins s2 σ H2 _ I2 q2) λ fv s3 ⟨z,H3,I3,rz,ov,g,q3⟩=>Fl ?_))))
 exact xV hu I3 g ry rz λ w' s4 I4 rw'=>⟨_,H3,I4,rw',q3⟩
end
section
variable {X:Cx} {pins:List (Addr×Obj)} {σ:St} {H:Hp} {s:Shared} {a:Addr} {kvs:List (Key×V)} {A:Around} {E:Value->Shared->Prop}
end
section
variable {X:Cx} {pins:List (Addr×Obj)} {σ:St} {H:Hp} {s:Shared} {a:Addr} {y:V} {u:Value} {A:Around} {E:Value->Shared->Prop}
end
section
variable {X:Cx} {o i value:Expr} {td ty tv:TE} {pos pos':Pos}
theorem jc (hu:X.A.units+1<cLine) (ho:QE X o td) (hi:QE X i ty) (hv:QE X value tv) (hs:swapsWith value (some (.Subscript o i pos')) pos.line X.env=pure false:=by rfl) :
  QS X (.Assign [.Subscript o i pos'] value pos) (vh td ty tv):=⟨vi hu ho.out hi.out hv.out hs⟩
end
theorem gf {xs:List Nat} (h:xs.Nodup) (hb:∀ x∈xs,x<n):xs.length<=n:=by
 rcases CO n xs.length with g | g
 ·have:=(gH (ys:=BC n) h (λ x hx=>Cg.mpr (hb x hx)) (by rw [CU]; lia)).length_eq
  rw [CU] at this
  lia
 ·exact g
theorem eT {os:List Nat} (h:∀ o∈os,o<b) (hf:b<=f):os.count f=0:=Di.mpr λ z=>by have:=h f z; lia
theorem rF {os:List Nat} (h:∀ o∈os,o<b) (hb:b<=B):cnt os B=cnt os b++B1 (B - b) 0:=by
 apply EJ
 intro i
 by_cases h1:i<b
 ·rw [BX (by rw [aT]; exact h1),cA h1,cA (by lia)]
 ·rw [B2 (by rw [aT]; lia),aT,Fj]
  by_cases h2:i<B
  ·rw [cA h2,if_pos (by lia),eT h (by lia)]
  ·rw [if_neg (by lia),CB (by rw [aT]; lia)]
theorem oY {os:List Nat} (h:∀ o∈os,o<b) (hb:b<=B):fH (cnt os B)=fH (cnt os b):=by
 rw [rF h hb]; unfold fH
 have e:(B1 (B - b) 0).filter (λ m=>decide (0<m))=[]:=Fv.mpr λ a ha=>by rw [Fe ha]; simp
 rw [DP,e,C9]
theorem kL {os:List Nat} (h:∀ o∈os,o<b) (hb:b<=B):bB (cnt os B)=bB (cnt os b):=by unfold bB; rw [oY h hb]
noncomputable def act (C:Nat) (s:bW):Bool:=decide (s.1+2<=s.2.1) && decide (s.2.2<C)
theorem eU (f c b:Nat) (row:List Nat):aD f (cnt row b) c=(BC b).map λ g=>(f+aG row g,f+aG row (g+1),c):=by
 unfold aD
 rw [aT]
 apply Cq
 intro g hg
 have hg:=Cg.mp hg
 rw [bj row b g (by lia),bo,Bz,cA hg,Eu]; rfl
theorem mX {os:List Nat} {C:Nat} (h:∀ o∈os,o<b) (hb:b<=B):(aD f (cnt os B) c).filter (act C)=(aD f (cnt os b) c).filter (act C):=by
 rw [eU,eU]
 have e:BC B=BC b++(BC (B - b)).map (λ i=>b+i):=by
  rw [<-List.range_add]; congr 1; lia
 rw [e,B4,DP]
 refine Eq.trans ?_ (C9 _)
 congr 1
 rw [Fv]
 intro a ha
 obtain ⟨g,hg,rfl⟩:=BK.mp ha
 obtain ⟨i,_,rfl⟩:=BK.mp hg
 unfold act
 have:=bo os (b+i)
 rw [eT h (by lia)] at this
 simp only [CI,decide_eq_true_eq,not_and]
 intro z; lia
noncomputable def bX (rss:List (List Nat)) (c:Nat) (os:List Nat):List Nat:=os.map λ p=>(aW rss c).getD p 0
theorem rG {x:Nat} (hx:x<b):(fH (cnt (B1 m x) b)).length<=1:=by
 have e:fH (cnt (B1 m x) b)=((BC b).filter λ f=>decide (0<(B1 m x).count f)).map λ f=>(B1 m x).count f:=by
  unfold fH cnt; rw [DU]; rfl
 rw [e,By]
 have e2:((BC b).filter λ f=>decide (0<(B1 m x).count f)).Sublist ((BC b).filter λ f=>f == x):=by
  have e3:((BC b).filter λ f=>decide (0<(B1 m x).count f))=((BC b).filter λ f=>f == x).filter λ f=>decide (0<(B1 m x).count f):=by
   rw [IA]
   apply Fo
   intro f _
   by_cases q:f=x
   ·subst q; simp
   ·rw [List.count_replicate,if_neg (by simp; exact λ z=>q z.symm)]; simp
  rw [e3]
  exact List.filter_sublist
 refine CM e2.length_le ?_
 have:((BC b).filter λ f=>f == x).length=(BC b).count x:=by rw [<-List.countP_eq_length_filter]; rfl
 rw [this]
 have h9:=List.nodup_iff_count (l:=BC b) |>.mp D4 x
 exact h9
theorem hZ {x:Nat} (hx:x<b):bB (cnt (B1 m x) b)=false:=by
 unfold bB
 exact decide_eq_false (by have:=rG (m:=m) hx; lia)
noncomputable def br (os:List Nat) (f l:Nat):List Nat:=(os.drop f).take (l - f)
inductive Fst (rss:List (List Nat)) (C:Nat):List Nat->List bW->List bW->Prop where
 | start:Fst rss C (BC rss.length) [] ([(0,rss.length,0)].filter (act C))
 | step {os ob:List Nat} {st us:List bW} {f l c:Nat}:Fst rss C os st (us++[(f,l,c)])->bB (cnt (bX rss c (br os f l)) 64)=true->ByF (bX rss c (br os f l)) ob->
   Fst rss C (os.take f++cmp (br os f l) ob++os.drop l) (st++[(f,l,c)]) (us++((aD f (cnt (bX rss c (br os f l)) 64) (c+1)).filter (act C)).reverse)
 | stay {os:List Nat} {st us:List bW} {f l c:Nat}:Fst rss C os st (us++[(f,l,c)])->bB (cnt (bX rss c (br os f l)) 64)=false->
   Fst rss C os st (us++((aD f (cnt (bX rss c (br os f l)) 64) (c+1)).filter (act C)).reverse)
theorem ir {os:List Nat} {l:Nat} (h:f<=l):os.take f++br os f l++os.drop l=os:=by
 unfold br
 have e1:os.drop l=(os.drop f).drop (l - f):=by rw [FX]; congr 1; lia
 rw [e1,Cu,Ck,Ck]
theorem Fst.inv {rss:List (List Nat)} {C:Nat} {os:List Nat} {st us:List bW} (h:Fst rss C os st us):os.Perm (BC rss.length)/\∀ s∈us,s.1+2<=s.2.1/\s.2.1<=rss.length/\s.2.2<C:=by
 have pa:∀ {os:List Nat} {f l c:Nat},os.length=rss.length->f<=l->l<=rss.length->∀ s∈((aD f (cnt (bX rss c (br os f l)) 64) (c+1)).filter (act C)).reverse,s.1+2<=s.2.1/\s.2.1<=rss.length/\s.2.2<C:=by
  intro os f l c hl h1 h2 s hs
  obtain ⟨hm,ha⟩:=Cv.mp (Dm.mp hs)
  obtain ⟨g,_,rfl⟩:=dI hm
  unfold act at ha
  simp only [CI,decide_eq_true_eq] at ha
  refine ⟨ha.1,?_,ha.2⟩
  have:=c9 (bX rss c (br os f l)) (g+1)
  have e:(bX rss c (br os f l)).length=l - f:=by unfold bX br; rw [By,BV,Cr]; lia
  show f+aG _ (g+1)<=_
  lia
 induction h with
 | start=>
  refine ⟨DC _,λ s hs=>?_⟩
  obtain ⟨hm,ha⟩:=Cv.mp hs
  unfold act at ha
  simp only [CI,decide_eq_true_eq] at ha
  rw [BH.mp hm] at ha ⊢
  exact ⟨ha.1,BD _,ha.2⟩
 | @step os ob st us f l c _ hp hB ih=>
  obtain ⟨a1,a2⟩:=ih
  have a3:=a2 (f,l,c) (BL _ (BH.mpr rfl))
  have hl:os.length=rss.length:=by have:=a1.length_eq; simpa using this
  refine ⟨E6 ?_ a1,λ s hs=>?_⟩
  ·have e:=ir (os:=os) (f:=f) (l:=l) (by have:=a3.1; dsimp only at this; lia)
   conv=>rhs; rw [<-e]
   refine Hf _ (D9 _ ?_)
   have hO:=hB.ord
   refine i5 (os:=ob) (xs:=br os f l) ?_
   have:(bX rss c (br os f l)).length=(br os f l).length:=by unfold bX; rw [By]
   rw [this] at hO
   exact hO.perm
  ·rcases BY.mp hs with q | q
   ·exact a2 s (CN _ q)
   ·exact pa hl (by have:=a3.1; dsimp only at this; lia) a3.2.1 s q
 | @stay os st us f l c _ hp ih=>
  obtain ⟨a1,a2⟩:=ih
  have a3:=a2 (f,l,c) (BL _ (BH.mpr rfl))
  have hl:os.length=rss.length:=by have:=a1.length_eq; simpa using this
  refine ⟨a1,λ s hs=>?_⟩
  rcases BY.mp hs with q | q
  ·exact a2 s (CN _ q)
  ·exact pa hl (by have:=a3.1; dsimp only at this; lia) a3.2.1 s q
theorem Fst.go {rss:List (List Nat)} {C l:Nat} {os:List Nat} {sts vs:List bW} (h:Fst rss C os sts ((vs++[(f,l,c)]).filter (act C))) (hfl:f+2<=l) (hc:c<C) (hb64:b<=64)
  (hb:∀ x∈((os.drop f).take (l - f)).map λ p=>(aW rss c).getD p 0,x<b) :
  (∀ ob,ByF (((os.drop f).take (l - f)).map λ p=>(aW rss c).getD p 0) ob->bB (cnt (((os.drop f).take (l - f)).map λ p=>(aW rss c).getD p 0) b)=true->Fst rss C (os.take f++cmp ((os.drop f).take (l - f)) ob++os.drop l) (sts++[(f,l,c)]) ((vs++(aD f (cnt (((os.drop f).take (l - f)).map λ p=>(aW rss c).getD p 0) b) (c+1)).reverse).filter (act C)))/\
  (¬ bB (cnt (((os.drop f).take (l - f)).map λ p=>(aW rss c).getD p 0) b)=true->Fst rss C os sts ((vs++(aD f (cnt (((os.drop f).take (l - f)).map λ p=>(aW rss c).getD p 0) b) (c+1)).reverse).filter (act C))):=by
 have ea:act C (f,l,c)=true:=by unfold act; simp only [CI,decide_eq_true_eq]; exact ⟨hfl,hc⟩
 rw [DP,Ep,if_pos ea,Jv] at h
 have e1:=kL hb hb64
 have e2:=mX (f:=f) (c:=c+1) (C:=C) hb hb64
 rw [DP,List.filter_reverse,<-e2]
 constructor
 ·intro ob hB hp
  exact Fst.step h (e1.trans hp) hB
 ·intro hp
  exact Fst.stay h (e1.trans (EK.mpr hp))
theorem Fst.skip {rss:List (List Nat)} {C l:Nat} {os:List Nat} {sts vs:List bW} (h:Fst rss C os sts ((vs++[(f,l,c)]).filter (act C))) (hs:l<f+2\/c=C):Fst rss C os sts (vs.filter (act C)):=by
 have ea:¬ act C (f,l,c)=true:=by unfold act; simp only [CI,decide_eq_true_eq]; lia
 rw [DP,Ep,if_neg ea,Jv,C9] at h
 exact h
end L2
namespace HT
open PySem PyProof.Rows PySem.W L2
section
variable {prog:Program} {w:World} {A:Around} {E:Value->Shared->Prop} {s:Shared} {a kS:Addr} {vs ks:List Value} {e e1:Nat} {P:Iy->Shared->Prop}
end
end HT
namespace L2
open PySem PySem.Spec PyProof.Rows PySem.W
section
variable {X:Cx} {N frs:List Str} {x qual:Str} {ix:List Nat} {scope:Scope} {cl:List (Str×Addr)} {A:Around} {f c' C:Addr}
end
section
variable {X:Cx} {N frs:List Str} {x:Str} {ix:List Nat} {scope:Scope} {cl:List (Str×Addr)} {A:Around} {cc P:Addr} {pins:List (Addr×Obj)} {σ:St} {H:Hp} {s:Shared} {params:Arguments} {body:Expr} {lpos:Pos}
section
variable {te:TE} {t:TA} {p p2 pos pos2 kpos:Pos} {e a:Expr} {k:Nat} {qual:Str}
end
end
section
variable {P:Program} {w:World} {K:BA} {mg:Str->Option Value} {base:Heap}
end
section
variable {X:Cx} {o:Expr} {to:TE} {pos apos cpos:Pos}
noncomputable def cN (ns:List Int):List Int:=firstMet (λ i=>ns.getD i 0) ns.length
noncomputable def xW (K:BA):List V->Hp->VK->Prop:=λ xs H Q=>∃ (l:Addr) (ns:List Int),xs=[.ref l]/\SqL K H l (ns.map Lz)/\ns.length<=1000/\∀ d,H d=none->Q (.ref d) (upd H d (.set (λ k=>(cN ns).any (· == k)) (cN ns).length))
theorem oZ (hc:X.calm=true):bU X (.type "set") (xW X.K):=by
 intro pins s σ H xs us Q I r h
 obtain ⟨l,ns,rfl,hq,hl,q⟩:=h
 obtain ⟨u,rfl,ru⟩:=fN r
 cases ru
 obtain ⟨its,r',pl,hz⟩:=I.list hq
 have hi:=cu r'
 have hlen:its.toArray.size=ns.length:=by rw [BQ]; exact hi.length
 refine call_set_list (I.ok.hd hc) pl.isList (by simpa using hi) (by rw [hlen]; show ns.length+1<4096; lia) λ h' tk hS k=>?_
 rw [hlen] at hS
 have kk:∀ b o,s.heap.get? b=some o->h'.get? b=some o:=λ b o e=>k b o (BJ e) e
 exact ⟨.ref s.heap.objs.size,_,I.laid (t':=tk) (o:=.set (λ k=>(cN ns).any (· == k)) (cN ns).length) kk (BD _) hS,rfl,q _ (I.hok.fresh (BD _))⟩
theorem vj {K:BA} (hc:X.calm=true) (hK:X.K=K:=by rfl):QC X (.type "set") (xW K):=by subst hK; exact ⟨oZ hc⟩
noncomputable def Af:List V->Hp->VK->Prop:=λ xs H Q=>∃ a S n,xs=[LD a]/\H a=some (.set S n)/\Q (.int (n:Nat)) H
theorem vm:QC X (.builtin "len") Af:=by
 refine ⟨λ pins s σ H xs us Q I r h=>?_⟩
 obtain ⟨a,S,n,rfl,ha,q⟩:=h
 obtain ⟨u,rfl,ru⟩:=fN r
 cases ru
 obtain ⟨o,es,ep,t,h1,h2,h3,h4,h5,h6,h7,h8⟩:=(show s.heap.SetOf (intKind X.prog X.w) a S n from I.hok a _ ha)
 have h6':es.size<4096:=h6
 refine call_len_set h1 h2 h3 h7 (by lia) ?_
 rw [h8]
 exact ⟨.int (n:Nat),H,I.tok _,⟨_,rfl⟩,q⟩
theorem gM {val:Nat->Int}:∀ {n:Nat} {k:Int},k∈firstMet val n↔∃ i,i<n/\val i=k
 | 0,k=>by rw [firstMet_zero]; simp
 | n+1,k=>by
  rw [firstMet_succ]
  have ih:=gM (val:=val) (n:=n) (k:=k)
  unfold step_dedup
  split
  ·rename_i h
   rw [ih]
   constructor
   ·rintro ⟨i,hi,e⟩; exact ⟨i,by lia,e⟩
   ·rintro ⟨i,hi,e⟩
    rcases CO i n with q | q
    ·exact ⟨i,q,e⟩
    ·have:i=n:=by lia
     subst this
     obtain ⟨z,hz,ez⟩:=Jg.mp h
     rw [beq_iff_eq] at ez
     subst ez
     rw [e] at hz
     exact ih.mp hz
  ·rw [BY,ih,BH]
   constructor
   ·rintro (⟨i,hi,e⟩ | e)
    ·exact ⟨i,by lia,e⟩
    ·exact ⟨n,by lia,e.symm⟩
   ·rintro ⟨i,hi,e⟩
    rcases CO i n with q | q
    ·exact .inl ⟨i,q,e⟩
    ·have:i=n:=by lia
     subst this; exact .inr e.symm
theorem dZ {val:Nat->Int}:∀ n,(firstMet val n).Nodup
 | 0=>by rw [firstMet_zero]; exact Fi
 | n+1=>by
  rw [firstMet_succ]
  unfold step_dedup
  split
  ·exact dZ n
  ·rename_i h
   rw [Fp]
   refine ⟨dZ n,by simp,λ a ha b hb e=>?_⟩
   rw [BH.mp hb] at e
   subst e
   exact h (Jg.mpr ⟨_,ha,by simp⟩)
theorem kM (h:∀ x∈row,x<64):decide (1<(cN (aL row)).length)=bB (cnt row 64):=by
 have hmem:∀ k:Nat,(k:Int)∈cN (aL row)↔k∈row:=λ k=>by
  unfold cN aL
  rw [gM,By]
  constructor
  ·rintro ⟨i,hi,e⟩
   rw [Bz,BI,Bx hi] at e
   have e':((row[i]:Nat):Int)=(k:Int):=e
   rw [<-HX e']
   exact BM hi
  ·intro hk
   obtain ⟨i,hi,e⟩:=Cj hk
   exact ⟨i,hi,by rw [Bz,BI,Bx hi]; show ((row[i]:Nat):Int)=_; rw [e]⟩
 have hnat:∀ z∈cN (aL row),∃ k:Nat,z=(k:Int):=λ z hz=>by
  unfold cN at hz
  rw [gM] at hz
  obtain ⟨i,hi,e⟩:=hz
  unfold aL at e hi
  rw [By] at hi
  rw [Bz,BI,Bx hi] at e
  exact ⟨row[i],e.symm⟩
 have hnd:(cN (aL row)).Nodup:=dZ _
 by_cases hp:bB (cnt row 64)=true
 ·rw [hp]
  refine decide_eq_true ?_
  apply CY
  intro hn
  have all:∀ x∈row,∀ y∈row,x=y:=λ x hx y hy=>by
   have h1:=(hmem x).mpr hx
   have h2:=(hmem y).mpr hy
   match hd:cN (aL row),hn,h1,h2 with
   | [],_,h1,_=>cases h1
   | [z],_,h1,h2=>
    have e:=(BH.mp h1).trans (BH.mp h2).symm
    exact HX e
   | z::y::r,hn,_,_=>simp at hn
  have hrep:∃ m x,x<64/\row=B1 m x:=by
   cases hr:row with
   | nil=>exact ⟨0,0,by decide,rfl⟩
   | cons x xs=>
    refine ⟨(x::xs).length,x,h x (by rw [hr]; exact .head _),?_⟩
    rw [List.eq_replicate_iff]
    exact ⟨rfl,λ y hy=>all y (by rw [hr]; exact hy) x (by rw [hr]; exact .head _)⟩
  obtain ⟨m,x,hx,hr⟩:=hrep
  rw [hr,hZ hx] at hp
  cases hp
 ·rw [EK.mpr hp]
  refine decide_eq_false λ hn=>?_
  match hd:cN (aL row),hn with
  | z::y::r,_=>
   obtain ⟨k1,rfl⟩:=hnat z (by rw [hd]; exact .head _)
   obtain ⟨k2,rfl⟩:=hnat y (by rw [hd]; exact .tail _ (.head _))
   have e:=im h hp ((hmem k1).mp (by rw [hd]; exact .head _)) ((hmem k2).mp (by rw [hd]; exact .tail _ (.head _)))
   rw [hd,e] at hnd
   exact (CW.mp hnd).1 (.head _)
  | [],hn=>simp at hn
  | [z],hn=>simp at hn
end
end L2
namespace L2
open PySem PySem.Spec PyProof.Rows
section
variable {X:Cx}
end
section
variable {K:BA} {H:Hp} {Q:VK}
end
noncomputable def El (n w:Nat) (H:Hp) (u:V):Prop:=∃ d,DatM n H u d/\d.weight<=w
theorem DatM.leaf {H:Hp} {x:V} {d:PyData} (h:we x d):∀ {n:Nat},DatM n H x d
 | 0=>h
 | _+1=>.inl h
section
variable {H:Hp} {n w:Nat}
theorem El.lists (h:∀ u∈xs,El n w H u):∃ ds:List PyData,xs.length=ds.length/\(∀ (i:Nat) u e,xs[i]? = some u->ds[i]? = some e->DatM n H u e)/\GT ds<=(w+1)*xs.length:=by
 induction xs with
 | nil=>exact ⟨[],rfl,λ i u e a=>by simp at a,by rw [GT]; lia⟩
 | cons x xs ih=>
  obtain ⟨ds,h1,h2,h3⟩:=ih λ u hu=>h u (Cd _ hu)
  obtain ⟨d,g1,g2⟩:=h x Cb
  refine ⟨d::ds,by simp [h1],λ i u e a b=>?_,?_⟩
  ·cases i with
   | zero=>simp at a b; subst a b; exact g1
   | succ i=>simp at a b; exact h2 i u e a b
  ·rw [GT,Ci,KO]; lia
theorem El.seq (ha:H a=some (.lst xs)\/H a=some (.tup xs)) (h:∀ u∈xs,El n w H u) (hm:(w+1)*xs.length<=m):El (n+1) m H (.ref a):=by
 obtain ⟨ds,h1,h2,h3⟩:=El.lists h
 rcases ha with ha | ha
 ·exact ⟨.list ds,.inr (.inl ⟨a,xs,ds,rfl,rfl,ha,h1,h2⟩),by rw [HY]; lia⟩
 ·exact ⟨.tuple ds,.inr (.inr ⟨a,xs,ds,rfl,rfl,ha,h1,h2⟩),by rw [HY]; lia⟩
end
section
variable {H H1 H2:Hp}
end
section
variable {H H1:Hp} {p a:Addr} {o:HO}
end
section
variable {H H1:Hp} {x:V} {os:List Nat} {a:Addr} {xs:List V}
end
section
variable {rss:List (List Nat)} {f m l:Nat} {x y:List Nat}
end
section
variable {rss:List (List Nat)}
end
section
variable {X:Cx} {pos:Pos}
end
section
variable {X:Cx} {tg a b c:Expr} {t:TA} {p pos:Pos}
end
end L2
namespace HT
open PySem PyProof.Rows PySem.W L2
section
variable {α β:Type}
end
end HT
namespace L2
open PySem PySem.Spec PyProof.Rows
section
variable {X:Cx} {pins:List (Addr×Obj)} {σ:St} {H:Hp} {s:Shared} {h':Heap}
end
noncomputable abbrev TEX:=St->Hp->VK->(Addr->Option Addr->Hp->Prop)->Prop
section
variable {X:Cx} {st:Stmt} {sts s1 s2:List Stmt} {T1 T2:TX} {c e:Expr} {es:List Expr} {tA:TT} {te:TE} {t:TA} {pos p:Pos} {x:Str} {i:Nat}
variable {tx:TEX}
end
section
variable {X:Cx} {pins:List (Addr×Obj)} {σ:St} {H:Hp} {s:Shared} {h':Heap}
end
section
variable {P:Program} {w:World} {K:BA} {mg:Str->Option Value} {base:Heap}
end
end L2
namespace L2
open PySem PySem.Spec PyProof.Rows PySem.W
section
variable {prog:Program} {w:World} {A:Around} {E:Value->Shared->Prop} {h:Heap} {g:Array GenState} {d:Drawn} {t:Nat} {os:OsState} {K:Frag} {a C:Addr} {o:Obj} {vs:Array Value}
end
section
variable {X:Cx}
end
section
variable {X:Cx} {e:Expr} {es:List Expr} {t:TA} {np cpos pos p:Pos} {x:Str} {C:Addr}
end
section
variable {X:Cx} {pins:List (Addr×Obj)} {σ:St} {H:Hp} {s:Shared}
end
section
variable {X:Cx} {body suite:List Stmt} {b0:Stmt} {tb:TX} {ts:TS} {n x:Str} {i:Nat} {C:Addr} {np hpos pos:Pos}
end
end L2
namespace L2
open PySem PySem.Spec PyProof.Rows
section
variable {X:Cx} {v:Expr} {te:TE} {a b:Str} {p1 p2 p3 pos:Pos} {j1 j3:Nat}
end
section
variable {D:Ends} {Ex:XW} {σ:St} {H:Hp} {Q:VK} {K:BA} {i:Nat} {C:Addr}
end
section
variable {X:Cx}
end
section
variable {H H1:Hp} {x:V} {n:Nat}
end
end L2
namespace HT
open PySem PyProof.Rows PySem.W L2
noncomputable def lt2 (k m:List Int×List Int):Bool:=if k.1=m.1 then bD k.2 m.2 else bD k.1 m.1
theorem jM:∀ (a b:List Int),bD a b=false->bD b a=false->a=b
 | [],[],_,_=>rfl
 | [],y::b,h,_=>by cases h
 | x::a,[],_,h=>by cases h
 | x::a,y::b,h1,h2=>by
  rw [cr] at h1 h2
  by_cases g:x=y
  ·subst g
   rw [if_pos rfl] at h1 h2
   rw [jM a b h1 h2]
  ·rw [if_neg g] at h1
   rw [if_neg (DN g)] at h2
   have:=of_decide_eq_false h1
   have:=of_decide_eq_false h2
   lia
theorem gg (prog:Program) (w:World):∀ {xs:List Value} {ns:List Int},IntsAre xs ns->ItemsAre (intKind prog w) ns xs
 | _,_,.nil=>.nil
 | _,_,.cons n t r=>.cons (by simp [intKind,Hb]) (gg prog w r)
section
variable {prog:Program} {w:World} {A:Around} {E:Value->Shared->Prop} {s:Shared}
end
end HT
namespace L2
open PySem PySem.Spec PyProof.Rows
section
variable {X:Cx}
end
section
variable {X:Cx} {o e value:Expr} {es:List Expr} {f m x:Str} {pos pos' tpos apos p:Pos} {ta tv:TE} {t:TA} {C g:Addr} {CX:CXT} {k:Nat} {fd:FuncData} {ps:List Str} {sp:Sp} {E:XK}
end
section
variable {K:BA} {σ:St} {H:Hp} {Q:VK} {D:Ends} {ta tv:TE} {t:TA} {f m:Str} {C:Addr} {sp:Sp} {E:XK} {a dx:Addr} {fs:List (Str×V)} {v:V}
end
section
variable {X:Cx} {pins:List (Addr×Obj)} {σ:St} {H:Hp} {s:Shared}
end
section
variable {H:Hp} {Q:VK} {x y:V} {n:Nat} {d e:PyData}
end
end L2
namespace HT
open PySem PyProof.Rows PySem.W L2
section
variable {prog:Program} {w:World} {A:Around} {E:Value->Shared->Prop} {s:Shared}
end
end HT
namespace L2
open PySem PySem.Spec PyProof.Rows PySem.W
section
variable {X:Cx} {e:Expr} {t:TA} {p pos kpos cp:Pos} {k:Nat} {j:Nat}
end
end L2
namespace L2
open PySem PySem.Spec PyProof.Rows
section
variable {qs:List (Nat×Nat)} {b:Nat} {st:HW}
end
section
variable {qs:List (Nat×Nat)} {b:Nat} {st:HW}
end
section
variable (pa:Addr) (hv v:V) (ma ea:Addr) (n m:Int)
end
section
variable {C:Addr} {H H1:Hp} {w pa ma ea:Addr} {vs:List V} {hv:V} {st:HW}
end
end L2
namespace HT
open PySem PyProof.Rows PySem.W L2
section
open PySem.SeqAt
open PySem.AutoSeq1 (wpAny_loadPart')
open PySem.MeetsSeq PySem.MeetsSeq2 PySem.MeetsSeq3
end
section
variable {prog:Program} {w:World} {A:Around} {E:Value->Shared->Prop} {s:Shared}
end
end HT
namespace L2
open PySem PySem.Spec PyProof.Rows
section
variable {X:Cx}
end
section
variable {prog:Program} {w:World} {A:Around} {R:Result->Shared->Prop} {s:Shared} {scope:Scope}
end
section
variable {X:Cx} {N tgs frs:List Str} {ix:List Nat} {scope:Scope} {cl:List (Str×Addr)}
end
section
variable {K:BA} {g g2:TG} {wi2:TI} {te:TE} {σ0:St} {H:Hp} {R:List V->Hp->Prop}
end
inductive RMv where
 | take (p:Nat)
 | move (p q:Nat)
 | lay (p:Nat)
section
variable {H H1:Hp} {v y:V} {d:PyData}
variable {vs us rs:List V} {ds:List PyData}
end
section
variable (ta:Addr) (hv v:V) (pa:Addr) (n m:Int)
end
section
variable {C:Addr} {H H1:Hp} {w ta pa:Addr} {ps:List Addr} {us:List V} {hv:V} {ms:List RMv} {d:Nat}
end
section
variable {X:Cx} {e:Expr} {es:List Expr} {t:TA} {pos p:Pos} {x:Str} {C f:Addr}
end
end L2
namespace HT
open PySem PySem.Spec PyProof.Rows PySem.W L2
section
variable {prog:Program} {w:World} {A:Around} {E:Value->Shared->Prop} {s:Shared}
end
end HT
namespace L2
open PySem PySem.Spec PyProof.Rows
section
variable {X:Cx}
end
noncomputable def Bl (s:List V×V):List V:=(s.1++[s.2]).filter (λ v=>decide (v≠V.non))
noncomputable def turn (r:List Nat):List Nat:=r.take 1++(r.drop 1).reverse
section
variable {H H1:Hp} {v y z:V} {d e:Option (List Nat×Nat)}
variable {vs us rs:List V}
end
section
variable {C:Addr} {H H1:Hp} {w ta pa:Addr} {ps:List Addr} {us:List V} {hv:V} {ms:List RMv} {d:Nat}
end
section
variable {H H1:Hp} {vs us:List V} {ds:List (List Nat×Nat)} {v:V} {d:List Nat×Nat}
end
section
variable {X:Cx} {e:Expr} {te:TE} {pos p1 p2 p3 p4 p5:Pos} {j j':Nat}
end
end L2
namespace HT
open PySem PyProof.Rows PySem.W L2
section
variable {prog:Program} {w:World} {A:Around} {E:Value->Shared->Prop}
end
end HT
namespace L2
open PySem PySem.Spec PyProof.Rows PySem.W
section
variable {X:Cx}
variable {o e:Expr} {to:TE} {t:TA} {apos cpos:Pos}
end
section
variable {X:Cx}
end
end L2
namespace HT
open PySem PyProof.Rows PySem.W L2
section
variable {prog:Program} {w:World} {A:Around} {E:Value->Shared->Prop} {s:Shared}
end
section
variable {prog:Program} {w:World} {A:Around} {E:Value->Shared->Prop} {s:Shared}
theorem kN {v:Value} 
  (h:wpAny (model prog w) A.in1 (collect v) (λ vs s1=>vs.length<1000/\∃ (κ:SortKind) (lt:Nat->Nat->Bool),Lt lt/\
   (∀ h' (Q':SortKind->Shared->Prop),2<=vs.length->(∀ b o,s1.heap.get? b=some o->h'.get? b=some o)->Q' κ { s1 with heap:=h' }->wpAny (model prog w) A.in1.in1 (keyKind' vs.toArray) Q' (λ _ _=>False) { s1 with heap:=h' })/\
   (∀ h' i j (Q':Bool->Shared->Prop),i<vs.length->j<vs.length->(∀ b o,s1.heap.get? b=some o->h'.get? b=some o)->Q' (lt i j) { s1 with heap:=h' }->
    wpAny (model prog w) A.in1.in1 (keyLt' κ (vs.getD i CC) (vs.getD j CC)) Q' (λ _ _=>False) { s1 with heap:=h' })/\
   ∀ p:List Nat,p.Perm (BC vs.length)->p.Pairwise (Ah lt)->Q (.ref s1.heap.objs.size) { s1 with heap:=sortedHeap (s1.heap.push (seqObj "list" vs.toArray 0)) s1.heap.objs.size vs (B8 (p.map λ i=>vs.getD i CC)) }) E s) :
  wpAny (model prog w) A (call (.builtin "sorted") [v]) Q E s:=by
 refine Calls.call_function_entry kind_sorted plain_sorted entry_sorted (args_sorted1 _) ?_
 unfold Builtin.«sorted»
 refine wpAny_bind (m:=checkCount "sorted" 1 1 _) (wpAny_pure ?_)
 refine wpAny_bind (wpAny_mono h (λ vs s1 hv=>?_) λ _ _ z=>z)
 obtain ⟨h64,κ,lt,hL,hk,hc,hq⟩:=hv
 refine wpAny_bind (wpAny_newList ?_ (by rw [sizeLine_eq]; lia))
 have hoL:(s1.heap.push (seqObj "list" vs.toArray 0)).get? s1.heap.objs.size=some (seqObj "list" vs.toArray 0):=BU _ rfl
 have ne:∀ b o,s1.heap.get? b=some o->b≠s1.heap.objs.size:=λ b o q=>B0 (BJ q)
 show wpAny _ _ _ _ _ { s1 with heap:=s1.heap.push (seqObj "list" vs.toArray 0) }
 refine wpAny_bind (wpAny_holding (wpAny_call_entry slot_list_sort ⟨_,hoL,rfl⟩ entry_list_sort (ja (s:={ s1 with heap:=s1.heap.push (seqObj "list" vs.toArray 0) }) hoL h64 hL
  (λ h' Q' h2 k q=>hk h' Q' h2 (λ b o e=>k b o (ne b o e) (BB _ e)) q) (λ h' i j Q' hi hj k q=>hc h' i j Q' hi hj (λ b o e=>k b o (ne b o e) (BB _ e)) q) λ p a1 a2=>⟨_,rfl,?_⟩) (args_list_sort _)))
 exact wpAny_pure ⟨_,rfl,hq p a1 a2⟩
end
end HT
namespace L2
open PySem PySem.Spec PyProof.Rows PySem.W
section
variable {X:Cx} {pins:List (Addr×Obj)} {σ:St} {H:Hp} {s:Shared} {h':Heap}
end
noncomputable def fu (r:List Int):List Key:=r.map FU
theorem vn (r:List Int):(fu r).map kV=r.map Lz:=by
 unfold fu
 rw [CF]
 rfl
theorem jd {a b:List Int} (h:fu a=fu b):a=b:=by
 unfold fu at h
 exact Gj (λ x y e=>KF e) |>.mp h
section
variable {X:Cx} {o e f:Expr} {td ty tx:TE} {pos apos cpos p:Pos}
theorem gh:QE X (.Dict [] [] pos) oW:=⟨rD⟩
theorem cJ (hu:X.A.units+1<cLine) (ho:QE X o td) (he:QE X e ty) (hf:QE X f tx) (hbase:attributeBase o ("get" : Str) X.env (eval o X.env)=eval o X.env:=by rfl) (hline:(apos.endLine == cpos.line)=true:=by rfl) (hn:cn e=true:=by rfl) (hn2:cn f=true:=by rfl) :
  QE X (.Call (.Attribute o "get" apos) [e,f] [] cpos) (oX td ty tx):=by
 have e1:starEach [e,f] X.env=[(false,eval e X.env),(false,eval f X.env)]:=by rw [aH hn,aH hn2]; rfl
 exact ⟨rE hu ho.out he.out hf.out ⟨hbase,by rw [e1]; rfl,hline,by rw [e1]; rfl⟩⟩
end
end L2
namespace HT
open PySem PyProof.Rows PySem.W L2
noncomputable def Ris (l:List Nat):Prop:=l.Pairwise (· < ·)
noncomputable def xX (xs:Array Nat) (j r:Nat):Prop:=r<=xs.size/\(∀ i v,xs[i]? = some v->i<r->v<j)/\∀ i v,xs[i]? = some v->r<=i->j<=v
theorem gN {xs:Array Nat} (h:Ris xs.toList) {v u:Nat} (e1:xs[i]? = some v) (e2:xs[k]? = some u) (hik:i<k):v<u:=by
 rw [<-B9] at e1 e2
 obtain ⟨h1,rfl⟩:=BZ.mp e1
 obtain ⟨h2,rfl⟩:=BZ.mp e2
 exact (Ct.mp h) i k h1 h2 hik
theorem je {xs:Array Nat} {j:Nat} (h:Ris xs.toList):∀ (fuel lo hi:Nat),hi - lo<=fuel->lo<=hi->hi<=xs.size->(∀ i v,xs[i]? = some v->i<lo->v<j)->(∀ i v,xs[i]? = some v->hi<=i->j<=v)->xX xs j (IP xs j fuel lo hi)
 | 0,lo,hi,hf,hl,hs,h1,h2=>by
  have e:lo=hi:=by lia
  subst e
  exact ⟨hs,h1,h2⟩
 | fuel+1,lo,hi,hf,hl,hs,h1,h2=>by
  unfold IP
  by_cases hlt:lo<hi
  ·rw [if_pos hlt]
   dsimp only
   have hm:(lo+hi) / 2<xs.size:=by lia
   have em:xs[(lo+hi) / 2]? = some xs[(lo+hi) / 2]:=by simp [hm]
   have eg:xs.getD ((lo+hi) / 2) j=xs[(lo+hi) / 2]:=by simp [Ce,hm]
   rw [eg]
   by_cases g:xs[(lo+hi) / 2]<j
   ·rw [if_pos g]
    refine je h fuel _ hi (by lia) (by lia) hs (λ i v e hi'=>?_) h2
    by_cases ei:i=(lo+hi) / 2
    ·subst ei; rw [em] at e; cases e; exact g
    ·exact Eo (gN h e em (by lia)) g
   ·rw [if_neg g]
    refine je h fuel lo _ (by lia) (by lia) (by lia) h1 (λ i v e hi'=>?_)
    by_cases ei:i=(lo+hi) / 2
    ·subst ei; rw [em] at e; cases e; lia
    ·have:=gN h em e (by lia); lia
  ·rw [if_neg hlt]
   have e:lo=hi:=by lia
   subst e
   exact ⟨hs,h1,h2⟩
theorem de {xs:Array Nat} (h:Ris xs.toList) (j:Nat):xX xs j (CP xs j):=by
 unfold CP
 exact je h _ 0 xs.size (by lia) (Ca _) (BD _) (λ i v _ hi=>by lia) λ i v e hi=>by
  have:=(Do.mp e).1
  lia
theorem aZ {α:Type} (xs:Array α) (p:Nat) (x:α):(Dr xs p x).toList=xs.toList.take p++x::xs.toList.drop p:=by
 unfold Dr
 simp [DE]
 exact BF (by rw [Cr,BP]; exact BD _)
theorem mY {xs:Array Nat} (h:Ris xs.toList) (hn:xs[CP xs j]?≠some j):Ris (Dr xs (CP xs j) j).toList:=by
 obtain ⟨p1,p2,p3⟩:=de h j
 rw [aZ]
 generalize CP xs j=r at *
 have ta:∀ v∈xs.toList.take r,v<j:=λ v hv=>by
  obtain ⟨i,hi,rfl⟩:=Cj hv
  rw [BV] at hi
  rw [GF]
  exact p2 i _ (by rw [<-B9]; exact Bx _) (by lia)
 have dr:∀ v∈xs.toList.drop r,j<v:=λ v hv=>by
  obtain ⟨i,hi,rfl⟩:=Cj hv
  rw [Cr] at hi
  rw [GE]
  have e:xs[r+i]? = some (xs.toList[r+i]'(by lia)):=by rw [<-B9]; exact Bx _
  have h1:=p3 (r+i) _ e (by lia)
  rcases CO j (xs.toList[r+i]'(by lia)) with q | q
  ·exact q
  ·have e2:xs.toList[r+i]'(by lia)=j:=by lia
   rw [e2] at e
   by_cases z:i=0
   ·subst z; exact absurd e hn
   ·have hr:r<xs.size:=by rw [BP] at hi; lia
    have e3:xs[r]? = some xs[r]:=by simp [hr]
    have:=gN h e3 e (by lia)
    have:=p3 r _ e3 (BD _)
    lia
 unfold Ris at *
 rw [BR]
 refine ⟨h.sublist (EI _ _),Dk.mpr ⟨dr,h.sublist (GG _ _)⟩,λ a ha b hb=>?_⟩
 rcases BS.mp hb with q | q
 ·rw [q]; exact ta a ha
 ·exact Eo (ta a ha) (dr b q)
noncomputable def gj (w:World):Bool:=w.params.followText "set-order"
section
variable {prog:Program} {w:World} {A:Around} {E:Value->Shared->Prop} {s:Shared}
theorem stored {o:Obj} {es es1:Array (Int×Value)} {t t1:SetTable} (ho:h.get? a=some o) (hd:o.data=.set es ep t):(h.update a (Jw es1 t1)).get? a=some { o with data:=.set es1 (ep+1) t1 }:=by
 have:=D8 (Jw es1 t1) ho (by rw [putSet_of es1 t1 hd]; rfl)
 rw [putSet_of es1 t1 hd] at this
 exact this
end
section
variable {prog:Program} {w:World} {A:Around} {E:Value->Shared->Prop} {s:Shared}
theorem vo (a:Value) (h:Q (.ref s.heap.objs.size) { s with heap:=s.heap.push { cls:=.type "set",dict:=none,data:=.set #[] 0 (.fresh 0 0 (!gj w)) } }) :
  codeAny (model prog w) A (.call (.builtin "set.__new__") ⟨[.type "set",a],[]⟩) (wants Q E) s:=by
 refine codeAny_of_tree ?_
 show wpAny _ A.in1 (do checkBuiltinCall "set.__new__" ⟨[.type "set",a],[]⟩; again (.builtin "set.__new__" ⟨[.type "set",a],[]⟩)) _ _ s
 refine wpAny_bind (wpAny_of_eq (PySem.F.newCall_set_1 a) (wpAny_pure ⟨plainId_quiet Ht _,codeAny_builtin PySem.F.entry_set_new ?_⟩))
 rw [Eg Ht _]
 unfold Builtin.«set.__new__» JP
 have hself:=sub_set_self
 obtain ⟨h0,gn,dr,tk,os⟩:=s
 dsimp only
 wp_walk
 refine wpAny_askSetting (wpAny_pure ?_)
 dsimp only
 simp only [newObj]
 refine wpAny_bind (wpAny_alloc (wpAny_pure (wpAny_pure ?_)))
 exact h
end
theorem slot_sit_next:KY "set_iterator" "__next__" "set_iterator.__next__":=
 .of (owner:="set_iterator") (n:="__next__") (by rw [typeLookup_type,builtinLookup_eq_fast]; kernel_rfl) (by decide +kernel) (by decide +kernel) (by decide +kernel)
  (by first | exact .inl (by decide +kernel) | exact .inr (by decide +kernel)) (by rw [isSubtype_type]; kernel_rfl)
theorem dO:entryFor table "set_iterator.__next__" = some Builtin.«set_iterator.__next__»:=entryFor_of_tree (by kernel_rfl)
theorem eV (a:Value):argsOk "set_iterator.__next__" ⟨[a],[]⟩:=by unfold argsOk; kernel_rfl
theorem ia:entryFor table "set.__iter__" = some Builtin.«frozenset.__iter__»:=entryFor_alias (id':="frozenset.__iter__") (by kernel_rfl) rfl (by decide +kernel) (by kernel_rfl)
theorem eX:KY "set_iterator" "__iter__" "set_iterator.__iter__":=
 .of (owner:="set_iterator") (n:="__iter__") (by rw [typeLookup_type,builtinLookup_eq_fast]; kernel_rfl) (by decide +kernel) (by decide +kernel) (by decide +kernel)
  (by first | exact .inl (by decide +kernel) | exact .inr (by decide +kernel)) (by rw [isSubtype_type]; kernel_rfl)
theorem ib:entryFor table "set_iterator.__iter__" = some Builtin.«dict_keyiterator.__iter__»:=entryFor_alias (id':="dict_keyiterator.__iter__") (by kernel_rfl) rfl (by decide +kernel) (by kernel_rfl)
theorem jf (a:Value):argsOk "set_iterator.__iter__" ⟨[a],[]⟩:=by unfold argsOk; kernel_rfl
theorem o0 {α:Type} (f:Nat->Nat):∀ (fuel k:Nat) (l:List α) (out:Array α),l.length<=fuel->(IB f fuel k l out).toList.Perm (out.toList++l)
 | 0,k,l,out,h=>by
  have:l=[]:=DY (by lia)
  subst this
  unfold IB
  simp
 | fuel+1,k,l,out,h=>by
  unfold IB
  cases e:l[f k % l.length]? with
  | none=>
   have:l=[]:=by
    cases l with
    | nil=>rfl
    | cons x r=>
     have hlt:f k % (x::r).length<(x::r).length:=FP _ (by simp)
     rw [Bx hlt] at e
     cases e
   subst this
   simp
  | some x=>
   simp only
   obtain ⟨hi,ex⟩:=BZ.mp e
   have ih:=o0 f fuel (k+1) (l.eraseIdx (f k % l.length)) (out.push x) (by rw [HM]; split<;>lia)
   refine ih.trans ?_
   rw [EL,Cu]
   refine D9 _ ?_
   have:(l.eraseIdx (f k % l.length))=l.take (f k % l.length)++l.drop (f k % l.length+1):=FG _ _
   rw [this]
   have e2:l=l.take (f k % l.length)++x::l.drop (f k % l.length+1):=by
    rw [<-ex,<-Dc hi,Ck]
   generalize l.take (f k % l.length)=a at e2 ⊢
   generalize l.drop (f k % l.length+1)=b at e2 ⊢
   rw [e2]
   show (x::(a++b)).Perm _
   exact EY.symm
theorem o7 {α:Type} (f:Nat->Nat) (xs:Array α):(pickOrder f xs).toList.Perm xs.toList:=by
 unfold pickOrder
 have:=o0 f xs.size 0 xs.toList #[] (by simp)
 simpa using this
noncomputable def wf (es:Array (Int×Value)) (t:SetTable):Bool:=!t.plain && es.size > 1
noncomputable abbrev lS (first:Value) (a:Addr) (i n ep:Nat):Obj:={ cls:=.type "set_iterator",dict:=none,data:=.fields #[first,rawInt i,.ref a,rawInt n,rawInt ep],slots:=#[] }
noncomputable def gO (t:SetTable) (i:Nat):Nat:=if i=0 then 0 else t.place.getD (i - 1) 0+1
noncomputable def Way (w:World) (h:Heap) (it a:Addr) (es:Array (Int×Value)) (ep:Nat) (t:SetTable) (us:List Value) (T:Addr) (i:Nat) (first:Value):Prop:=
 (gj w=true/\first=rawInt 0/\us=(pickOrder (w.params.setOrder a ep) es).toList.map (·.2))\/
 (gj w=false/\wf es t=false/\first=rawInt (gO t i)/\us=es.toList.map (·.2))\/
 ∃ (ps:List Nat) (oT:Obj) (nT:Nat),first=.ref T/\T≠it/\h.get? T=some oT/\oT.cls=.type "tuple"/\oT.data=.seq (ps.map λ p=>rawInt (p:Nat)).toArray nT/\ps.length=es.size/\∀ (j p:Nat) u,ps[j]? = some p->us[j]? = some u->∃ x,es[p]? = some x/\x.2=u
noncomputable def Sit (w:World) (h:Heap) (it a:Addr) (es:Array (Int×Value)) (ep:Nat) (t:SetTable) (us:List Value) (T:Addr) (i:Nat):Prop:=∃ first,h.get? it=some (lS first a i es.size ep)/\Way w h it a es ep t us T i first
noncomputable def sX (h:Heap) (a:Addr) (es:Array (Int×Value)) (ep:Nat) (t:SetTable):Prop:=∃ o,h.get? a=some o/\o.cls=.type "set"/\o.data=.set es ep t/\t.fits es.size=true/\Ris t.place.toList
section
variable {prog:Program} {w:World} {A:Around} {E:Value->Shared->Prop} {s:Shared}
theorem jN {t:SetTable} (h:t.fits n=true):t.place.size=n:=by
 unfold JQ at h
 rw [CI,beq_iff_eq] at h
 exact h.1
theorem iu {t:SetTable} (h:Ris t.place.toList) (hi:i<=t.place.size):CP t.place (gO t i)=i:=by
 obtain ⟨p1,p2,p3⟩:=de h (gO t i)
 generalize CP t.place (gO t i)=r at *
 have get:∀ j,j<t.place.size->t.place[j]? = some (t.place.getD j 0):=λ j hj=>by simp [Ce,hj]
 unfold gO at p2 p3
 by_cases z:i=0
 ·subst z
  rw [if_pos rfl] at p2 p3
  rcases Ez r with q | q
  ·exact q
  ·exact absurd (p2 0 _ (get 0 (by lia)) q) (by lia)
 ·rw [if_neg z] at p2 p3
  have gi:=get (i - 1) (by lia)
  rcases C4 r i with q | q | q
  ·exact absurd (p3 (i - 1) _ gi (by lia)) (by lia)
  ·exact q
  ·have g2:=get i (by lia)
   have h1:=p2 i _ g2 q
   have h2:=gN h gi g2 (by lia)
   lia
theorem bM {Q:Bool->Shared->Prop} (h:Q (gj w) s):wpAny (model prog w) A setsByText Q E s:=by
 unfold setsByText
 exact wpAny_bind (wpAny_askSetting (wpAny_pure h))
theorem rH {it T:Addr} {es:Array (Int×Value)} {t:SetTable} {Q:Option Value->Shared->Prop} (hl:us.length=es.size) (hna:a≠it) (hS:sX s.heap a es ep t) (hled:t.led=!gj w) (hi:Sit w s.heap it a es ep t us T i) (hu:us[i]? = some u)
  (h:∀ g,Sit w g it a es ep t us T (i+1)->EO it s.heap g->Q (some u) { s with heap:=g }):wpAny (model prog w) A (pyNext (.ref it)) Q E s:=by
 obtain ⟨h0,gn,dr,tk,os⟩:=s
 obtain ⟨first,hit,hw⟩:=hi
 obtain ⟨o,ho,hc,hd,hf,hr⟩:=hS
 have ty:Fy ⟨h0,gn,dr,tk,os⟩ (.ref it) "set_iterator":=⟨_,hit,rfl⟩
 have hlt:i<es.size:=by rw [<-hl]; exact (BZ.mp hu).1
 have e1:((i+1:Nat):Int)=(i:Int)+1:=by lia
 unfold pyNext
 refine wpAny_bind (wpAny_attempt (wpAny_callSpecial?_slot (name:=DR "__next__") ty slot_sit_next (wpAny_call_entry slot_sit_next ty dO ?_ (eV _))))
 refine wpAny_bind (wpAny_pure (wpAny_bind (wpAny_fieldsOf hit rfl ?_)))
 simp only [rawInt]
 refine wpAny_bind (wpAny_setEntries_of ho hd hf ?_)
 rw [if_neg (by simp)]
 rcases hw with ⟨w1,rfl,rfl⟩ | ⟨w1,w2,rfl,rfl⟩ | ⟨ps,oT,nT,rfl,hTi,hT,hTc,hTd,hpl,hps⟩
 ·simp only [rawInt,CT]
  refine wpAny_bind ?_
  unfold setNext
  refine wpAny_bind (wpAny_setState_of ho hd hf (wpAny_bind (bM ?_)))
  rw [w1]
  simp only [if_true,bne_self_eq_false,BG,if_false]
  refine wpAny_bind ?_
  unfold setWalk
  refine wpAny_bind (wpAny_setState_of ho hd hf (wpAny_bind (bM ?_)))
  rw [w1]
  simp only [if_true]
  refine wpAny_bind (wpAny_askSetting (wpAny_pure (wpAny_pure ?_)))
  rw [<-B9]
  rw [BI] at hu
  obtain ⟨x,hx,rfl⟩:=CS.mp hu
  have hx':(pickOrder ((model prog w).w.params.setOrder a ep) es).toList[i]? = some x:=hx
  simp only [hx',Jp]
  refine wpAny_bind (wpAny_setField_rec hit (by simp) λ h1 f1 sb1=>?_)
  refine wpAny_bind (wpAny_setField_rec f1 (by simp) λ h2 f2 sb2=>?_)
  refine wpAny_pure ⟨_,rfl,wpAny_pure (h h2 ⟨rawInt 0,?_,.inl ⟨w1,rfl,rfl⟩⟩ (IC sb1 sb2))⟩
  unfold lS
  rw [show rawInt ((i+1:Nat):Int)=rawInt ((i:Int)+1) by rw [e1]]
  simpa [rawInt] using f2
 ·simp only [rawInt,CT]
  refine wpAny_bind ?_
  unfold setNext
  refine wpAny_bind (wpAny_setState_of ho hd hf (wpAny_bind (bM ?_)))
  rw [w1]
  simp only [BG,if_false]
  show wpAny _ _ (if wf es t=true then _ else _) _ _ _
  rw [w2]
  simp only [BG,if_false]
  refine wpAny_bind ?_
  have e3:(!t.led && !es.isEmpty)=false:=by rw [hled,w1]; rfl
  show wpAny _ _ (if (!t.led && !es.isEmpty)=true then unsupported _ else pure ()) _ _ _
  rw [e3]
  simp only [BG,if_false]
  refine wpAny_pure (wpAny_pure ?_)
  have hps:=jN hf
  rw [iu hr (by lia)]
  rw [BI,B9] at hu
  obtain ⟨x,hx,rfl⟩:=CS.mp hu
  have hp:t.place[i]? = some (t.place.getD i 0):=by simp [Ce,hps,hlt]
  rw [hx,hp]
  obtain ⟨x1,x2⟩:=x
  simp only
  refine wpAny_bind (wpAny_setField_rec hit (by simp) λ h1 f1 sb1=>?_)
  refine wpAny_bind (wpAny_setField_rec f1 (by simp) λ h2 f2 sb2=>?_)
  refine wpAny_pure ⟨_,rfl,wpAny_pure (h h2 ⟨rawInt (gO t (i+1)),?_,.inr (.inl ⟨w1,w2,rfl,rfl⟩)⟩ (IC sb1 sb2))⟩
  unfold lS
  rw [show rawInt ((i+1:Nat):Int)=rawInt ((i:Int)+1) by rw [e1],show gO t (i+1)=t.place.getD i 0+1 from rfl]
  simpa [rawInt] using f2
 ·simp only [rawInt,CT]
  refine wpAny_bind (wpAny_seqItems hT hTd ?_)
  have hpi:i<ps.length:=by lia
  have e4:(ps.map λ p=>rawInt (p:Nat)).toArray[i]? = some (.int (ps[i]:Nat) 0):=by simp [rawInt,hpi]
  dsimp only
  rw [e4]
  simp only [CT]
  obtain ⟨x,hx,rfl⟩:=hps i ps[i] u (by simp [hpi]) hu
  refine wpAny_bind ?_
  unfold setNextDrawn
  refine wpAny_bind (wpAny_setState_of ho hd hf ?_)
  simp only [bne_self_eq_false,BG,if_false,hx]
  obtain ⟨x1,x2⟩:=x
  refine wpAny_pure ?_
  refine wpAny_bind (wpAny_setField_rec hit (by simp) λ h1 f1 sb1=>?_)
  refine wpAny_pure ⟨_,rfl,wpAny_pure (h h1 ⟨.ref T,?_,.inr (.inr ⟨ps,oT,nT,rfl,hTi,sb1.extBut _ _ hTi hT,hTc,hTd,hpl,hps⟩)⟩ sb1)⟩
  unfold lS
  rw [show rawInt ((i+1:Nat):Int)=rawInt ((i:Int)+1) by rw [e1]]
  simpa [rawInt] using f1
end
section
variable {prog:Program} {w:World} {A:Around} {E:Value->Shared->Prop} {s:Shared}
theorem vp {it T:Addr} {es:Array (Int×Value)} {t:SetTable} {Q:Option Value->Shared->Prop} (hh:A.handled=none) (hl:us.length=es.size) (hna:a≠it) (hS:sX s.heap a es ep t) (hled:t.led=!gj w) (hi:Sit w s.heap it a es ep t us T es.size)
  (h:∀ g,FZ it s.heap g->Q none { s with heap:=g }):wpAny (model prog w) A (pyNext (.ref it)) Q E s:=by
 obtain ⟨h0,gn,dr,tk,os⟩:=s
 obtain ⟨first,hit,hw⟩:=hi
 obtain ⟨o,ho,hc,hd,hf,hr⟩:=hS
 have ty:Fy ⟨h0,gn,dr,tk,os⟩ (.ref it) "set_iterator":=⟨_,hit,rfl⟩
 unfold pyNext
 refine wpAny_bind (wpAny_attempt (wpAny_callSpecial?_slot (name:=DR "__next__") ty slot_sit_next (wpAny_call_entry slot_sit_next ty dO ?_ (eV _))))
 refine wpAny_bind (wpAny_pure (wpAny_bind (wpAny_fieldsOf hit rfl ?_)))
 simp only [rawInt]
 refine wpAny_bind (wpAny_setEntries_of ho hd hf ?_)
 rw [if_neg (by simp)]
 -- the exception at the end,from a heap where the iterator may be written
 have stop:∀ (h1:Heap) (R:Iy->Shared->Prop),FZ it h0 h1->wpAny (model prog w) A.in1 (newExc (.type "StopIteration") [] >>= λ e=>(raiseNew e:Sem Iy)) R (λ e s'=>wpAny (model prog w) A (do if <-isInstance e (.type "StopIteration") then pure none else throw e) Q E s') ⟨h1,gn,dr,tk,os⟩:=by
  intro h1 R eb
  refine wpAny_bind ?_
  simp only [newExc,newTuple]
  refine wpAny_bind (wpAny_newObj_type ?_ (by size_fits))
  refine wpAny_bind (m:=firstArgMember _ _) (wpAny_of_eq (a:=CC) (by first | rfl | (simp only [firstArgMember]; rfl)) (wpAny_newObj_type ?_ (by size_fits)))
  simp only [raiseNew]
  refine wpAny_bind (wpAny_handled ?_)
  rw [show A.in1.handled=none from hh]
  refine wpAny_bind (wpAny_pure (wpAny_throw ?_))
  refine wpAny_bind (wpAny_isInstance (T:="StopIteration") (b:=true) ⟨_,BU _ rfl,rfl⟩ isSubtype_stop ?_)
  exact wpAny_pure (h _ ((eb.push _).push _))
 rcases hw with ⟨w1,rfl,rfl⟩ | ⟨w1,w2,rfl,rfl⟩ | ⟨ps,oT,nT,rfl,hTi,hT,hTc,hTd,hpl,hps⟩
 ·simp only [rawInt,CT]
  refine wpAny_bind ?_
  unfold setNext
  refine wpAny_bind (wpAny_setState_of ho hd hf (wpAny_bind (bM ?_)))
  rw [w1]
  simp only [if_true,bne_self_eq_false,BG,if_false]
  refine wpAny_bind ?_
  unfold setWalk
  refine wpAny_bind (wpAny_setState_of ho hd hf (wpAny_bind (bM ?_)))
  rw [w1]
  simp only [if_true]
  refine wpAny_bind (wpAny_askSetting (wpAny_pure (wpAny_pure ?_)))
  rw [By] at hl
  have hx':(pickOrder ((model prog w).w.params.setOrder a ep) es)[es.size]? = none:=by
   rw [<-B9]
   exact CB (by rw [show (pickOrder ((model prog w).w.params.setOrder a ep) es).toList.length=es.size from hl]; exact BD _)
  simp only [hx',Option.map_none]
  refine wpAny_bind (wpAny_setField hit rfl (by simp) ?_)
  exact stop _ _ (DG ..).extBut
 ·simp only [rawInt,CT]
  refine wpAny_bind ?_
  unfold setNext
  refine wpAny_bind (wpAny_setState_of ho hd hf (wpAny_bind (bM ?_)))
  rw [w1]
  simp only [BG,if_false]
  show wpAny _ _ (if wf es t=true then _ else _) _ _ _
  rw [w2]
  simp only [BG,if_false]
  refine wpAny_bind ?_
  have e3:(!t.led && !es.isEmpty)=false:=by rw [hled,w1]; rfl
  show wpAny _ _ (if (!t.led && !es.isEmpty)=true then unsupported _ else pure ()) _ _ _
  rw [e3]
  simp only [BG,if_false]
  refine wpAny_pure (wpAny_pure ?_)
  have hps:=jN hf
  rw [iu hr (by lia)]
  have hx:es[es.size]? = none:=by simp
  rw [hx]
  simp only
  refine wpAny_bind (wpAny_setField hit rfl (by simp) ?_)
  exact stop _ _ (DG ..).extBut
 ·simp only [rawInt,CT]
  refine wpAny_bind (wpAny_seqItems hT hTd ?_)
  have e4:(ps.map λ p=>rawInt (p:Nat)).toArray[es.size]? = none:=by simp; lia
  dsimp only
  rw [e4]
  dsimp only
  refine wpAny_bind (wpAny_setField_rec hit (by simp) λ h1 f1 sb1=>?_)
  refine wpAny_bind (wpAny_setField f1 rfl (by simp) ?_)
  exact stop _ _ (Lf (K1 sb1) (DG ..).extBut)
theorem Sit.at {g:Heap} {it T:Addr} {es:Array (Int×Value)} {t:SetTable} (x:Sit w h it a es ep t us T i) (k:∀ b o,(b=it\/b=T)->h.get? b=some o->g.get? b=some o):Sit w g it a es ep t us T i:=by
 obtain ⟨first,e,c⟩:=x
 refine ⟨first,k _ _ (.inl rfl) e,?_⟩
 rcases c with c | c | ⟨ps,oT,nT,e1,e2,e3,r⟩
 ·exact .inl c
 ·exact .inr (.inl c)
 ·exact .inr (.inr ⟨ps,oT,nT,e1,e2,k _ _ (.inr rfl) e3,r⟩)
theorem rJ {it:Addr} {es:Array (Int×Value)} {t:SetTable} (T:Addr) (hh:A.handled=none) (hl:us.length=es.size) (hna:a≠it) (hled:t.led=!gj w) :
  Walks prog w A it [it,a,T] [it] es.size (λ i v=>us[i]? = some v) (λ i h=>sX h a es ep t/\Sit w h it a es ep t us T i) where
 sub:=λ b hb=>by rw [BH.mp hb]; exact Cb ..
 frame:=λ i h h' st k=>by
  obtain ⟨⟨o,ho,r⟩,st2⟩:=st
  refine ⟨⟨o,k a (by simp) o ho,r⟩,st2.at λ b o hb e=>?_⟩
  rcases hb with rfl | rfl
  ·exact k _ (by simp) o e
  ·exact k _ (by simp) o e
 item:=λ i s Q E hi st hQ=>by
  obtain ⟨st1,st2⟩:=st
  obtain ⟨u,hu⟩:∃ u,us[i]? = some u:=⟨us[i]'(by lia),by simp [hl,hi]⟩
  refine rH hl hna st1 hled st2 hu λ g sg sb=>hQ u g s.toks hu ⟨?_,sg⟩ λ b o hb e=>(sb.2 b (λ z=>hb (by simp [z]))).trans e
  obtain ⟨o,ho,r⟩:=st1
  exact ⟨o,(sb.2 a hna).trans ho,r⟩
 done:=λ s Q E st hQ=>by
  obtain ⟨st1,st2⟩:=st
  exact vp hh hl hna st1 hled st2 λ g eb=>hQ g s.toks λ b o hb e=>eb b o (λ z=>hb (by simp [z])) e
 self:=λ i s Q E st hQ=>by
  obtain ⟨_,first,f1,_⟩:=st
  have ty:s.TypeIs (.ref it) "set_iterator":=⟨_,f1,rfl⟩
  refine wpAny_pyIter_slot ty eX (wpAny_call_entry eX ty ib ?_ (jf _))
  show wpAny _ _ (ret (.ref it)) _ _ s
  exact wpAny_pure ⟨_,rfl,"set_iterator",_,ty,slot_sit_next.lookup,hQ⟩
theorem mZ {Q:Nat->Shared->Prop} (hn:n≠0) (h:∀ i d,i<n->Q i { s with drawn:=d }):wpAny (model prog w) A (choose .order n) Q E s:=λ _ _ _=>⟨hn,h _ _ (FP _ (Nat.pos_of_ne_zero hn))⟩
theorem iw {α:Type} {Q:List α->Shared->Prop}:∀ (n:Nat) (xs:List α) (s:Shared),xs.length=n->(∀ ys d,ys.Perm xs->Q ys { s with drawn:=d })->wpAny (model prog w) A (drawOrder n xs) Q E s
 | 0,xs,s,hl,h=>by
  have:xs=[]:=DY hl
  subst this
  exact wpAny_pure (h [] s.drawn (DC _))
 | n+1,xs,s,hl,h=>by
  cases xs with
  | nil=>simp at hl
  | cons x0 r0=>
   have hne:(x0::r0).length≠0:=by simp
   show wpAny _ A (choose .order (x0::r0).length >>= _) _ _ _
   refine wpAny_bind (mZ hne λ i d hi=>?_)
   have e:(x0::r0)[i]? = some ((x0::r0)[i]):=by rw [Bx hi]
   simp only [e]
   generalize hx:x0::r0=xs at *
   refine wpAny_bind (iw n (xs.eraseIdx i) { s with drawn:=d } (by rw [HM]; split<;>lia) λ ys d' hp=>?_)
   refine wpAny_pure (h (xs[i]::ys) d' ?_)
   refine (hp.cons _).trans ?_
   have e1:xs.eraseIdx i=xs.take i++xs.drop (i+1):=FG _ _
   have e2:xs=xs.take i++xs[i]::xs.drop (i+1):=by rw [<-Dc hi,Ck]
   rw [e1]
   conv=>rhs; rw [e2]
   exact EY.symm
theorem rK {es:Array (Int×Value)} {t:SetTable} (hS:sX s.heap a es ep t) (hled:t.led=!gj w) (hsz:es.size<=1000)
  (h:∀ (g:Heap) (it T:Addr) (us:List Value) d,(∀ b o,s.heap.get? b=some o->g.get? b=some o)->s.heap.objs.size<=it->s.heap.objs.size<=T->us.Perm (es.toList.map (·.2))->Sit w g it a es ep t us T 0->Q (.ref it) { s with heap:=g,drawn:=d }) :
  wpAny (model prog w) A (pyIter (.ref a)) Q E s:=by
 obtain ⟨o,ho,hc,hd,hf,hr⟩:=id hS
 have ty:s.TypeIs (.ref a) "set":=⟨o,ho,hc⟩
 have hal:a<s.heap.objs.size:=BJ ho
 refine wpAny_pyIter_slot ty Hu (wpAny_call_entry Hu ty ia ?_ (PySem.F.args_set_iter_1 _))
 unfold Builtin.«frozenset.__iter__»
 refine wpAny_bind (m:=GZ "__iter__" ⟨[.ref a],[]⟩) ?_
 unfold GZ
 refine wpAny_bind (wpAny_pure (wpAny_pure ?_))
 refine wpAny_bind ?_
 unfold Kz
 refine wpAny_bind (wpAny_setEntries_of ho hd hf (wpAny_pure ?_))
 refine wpAny_bind ?_
 unfold setDrawn
 refine wpAny_bind (wpAny_setState_of ho hd hf (wpAny_bind (bM (wpAny_pure ?_))))
 show wpAny _ _ (if (!gj w && wf es t)=true then _ else _) _ _ _
 by_cases hD:(!gj w && wf es t)=true
 ·rw [if_pos hD]
  refine wpAny_bind (iw es.size (BC es.size) s (by simp) λ ps d hp=>?_)
  have hpl:ps.length=es.size:=by rw [hp.length_eq,CU]
  refine wpAny_bind (wpAny_newTuple ?_ (by rw [By,hpl,sizeLine_eq]; lia))
  dsimp only
  refine wpAny_bind (wpAny_setEpoch_of (s:={ s with heap:=s.heap.push { cls:=.type "tuple",data:=.seq (ps.map λ i=>rawInt (i:Nat)).toArray },drawn:=d }) (BB _ ho) hd hf ?_)
  refine wpAny_bind (wpAny_newObj_type (wpAny_pure ?_))
  refine ⟨_,rfl,"set_iterator",_,⟨_,BU _ rfl,rfl⟩,slot_sit_next.lookup,?_⟩
  have eI:(s.heap.push { cls:=.type "tuple",data:=.seq (ps.map λ i=>rawInt (i:Nat)).toArray }).objs.size=s.heap.objs.size+1:=size_push' ..
  have hpm:=hp.map (λ p=>(es.toList.map (·.2)).getD p CC)
  have hall:(BC es.size).map (λ p=>(es.toList.map (·.2)).getD p CC)=es.toList.map (·.2):=by
   have:=jb (es.toList.map (·.2)) CC
   rwa [By,BP] at this
  rw [hall] at hpm
  refine h _ _ s.heap.objs.size _ d (λ b o e=>BB _ (BB _ e)) (by show s.heap.objs.size<=(s.heap.push _).objs.size; rw [eI]; exact Ft _) (BD _) hpm
   ⟨.ref s.heap.objs.size,BU _ rfl,.inr (.inr ⟨ps,_,0,rfl,by show s.heap.objs.size≠(s.heap.push _).objs.size; rw [eI]; exact B0 (E1 _),BB _ (BU _ rfl),rfl,rfl,hpl,λ j p u e1 e2=>?_⟩)⟩
  rw [BI,e1] at e2
  have hpr:p<es.size:=Cg.mp (hp.mem_iff.mp (Ch e1))
  refine ⟨es[p],by simp [hpr],?_⟩
  have e3:=CG e2
  rw [<-e3]
  simp [hpr]
 ·rw [if_neg hD]
  refine wpAny_bind (wpAny_pure ?_)
  refine wpAny_bind (wpAny_setEpoch_of ho hd hf ?_)
  refine wpAny_bind (wpAny_newObj_type (wpAny_pure ?_))
  refine ⟨_,rfl,"set_iterator",_,⟨_,BU _ rfl,rfl⟩,slot_sit_next.lookup,?_⟩
  cases hb:gj w with
  | true=>
   refine h _ s.heap.objs.size s.heap.objs.size _ s.drawn (λ b o e=>BB _ e) (BD _) (BD _) ((o7 (w.params.setOrder a ep) es).map (·.2)) ⟨rawInt 0,BU _ rfl,.inl ⟨hb,rfl,rfl⟩⟩
  | false=>
   have hd2:wf es t=false:=by rw [hb] at hD; simpa using hD
   refine h _ s.heap.objs.size s.heap.objs.size _ s.drawn (λ b o e=>BB _ e) (BD _) (BD _) (DC _) ⟨rawInt 0,BU _ rfl,.inr (.inl ⟨hb,hd2,rfl,rfl⟩)⟩
theorem kO {k:Int} {v:Value} (h:(intKind prog w).is k v=true):∃ k' tk,v=.int k' tk:=by
 cases v with
 | int i tk=>exact ⟨i,tk,rfl⟩
 | _=>exact absurd h (by simp [intKind,Hb])
theorem m4:typeLookup (.type "set") "__len__" = pure (some (.builtin "set.__len__")):=by rw [typeLookup_type,builtinLookup_eq_fast]; kernel_rfl
theorem rL {r:Addr} (ty:s.TypeIs (.ref r) "set") {Q:Bool->Shared->Prop} (h:Q false s):wpAny (model prog w) A (Gk (.ref r)) Q E s:=by
 unfold Gk
 refine wpAny_bind (wpAny_specialOf ty m4 ?_)
 generalize hid:("set.__len__" : String)=id0
 wp_delta
 rw [show splitId id0=some ("set","__len__") from by subst hid; decide +kernel]
 subst hid
 refine wpAny_bind (wpAny_isInstance (T:="set") (b:=true) ty (by rw [isSubtype_type]; kernel_rfl) ?_)
 refine wpAny_ite_split (λ z=>absurd z (by decide)) (λ _=>?_)
 refine wpAny_ite_split (λ _=>?_) (λ z=>absurd (by decide +kernel) z)
 exact wpAny_bind (wpAny_typeOf ty (wpAny_pure h))
end
end HT
namespace L2
open PySem PySem.Spec PyProof.Rows PySem.W
section
variable {X:Cx} {e:Expr} {t:TA} {p p2 pos pos2:Pos} {pins:List (Addr×Obj)} {σ:St} {H:Hp} {s:Shared}
theorem Inv.drew {d:Drawn} (I:Inv X pins σ H s):Inv X pins σ H { s with drawn:=d }:=⟨I.ok,I.os,I.bare,I.base,I.loc,I.cell,I.free,I.freeC,I.pin,I.hok,I.len⟩
end
section
variable {X:Cx}
end
theorem yK {H:Hp} {Q:VK} (h:∀ p,H p=none->Q (.ref p) (upd H p (.dT []))):oW σ H Q:=h
theorem yL {td ty tx:TE} {H:Hp} {Q:VK} (h:td σ H λ x H1=>∃ a,x=.ref a/\IsD H1 a/\ty σ H1 λ y H2=>tx σ H2 λ z H3=>∃ o,DGet H3 a y o/\Q (o.getD z) H3):oX td ty tx σ H Q:=h
theorem Ag {td ty tv:TE} {H:Hp} (h:tv σ H λ v H1=>td σ H1 λ x H2=>ty σ H2 λ y H3=>∃ a H4,x=.ref a/\DPut H3 a y v H4/\D.nx σ H4):vh td ty tv D σ H:=h
noncomputable abbrev dTf (q:List Int×Int):List Key×V:=(fu q.1,Lz q.2)
noncomputable def Cn (bs:List (List Int)) (ps:List (List Int×Int)):Prop:=(ps.map (·.1)).Nodup/\(∀ r,r∈ps.map (·.1)↔r∈bs)/\∀ p∈ps,p.2=(bs.count p.1:Int)
theorem Cn.nil:Cn [] []:=⟨Fi,λ r=>by simp,λ p h=>nomatch h⟩
theorem gP {r:List Int}:∀ {ps:List (List Int×Int)},(r∉ps.map (·.1)->kl (ps.map dTf) (fu r)=none)/\∀ n,(ps.map (·.1)).Nodup->(r,n)∈ps->kl (ps.map dTf) (fu r)=some (.int n)
 | []=>⟨λ _=>rfl,λ n _ h=>nomatch h⟩
 | p::ps=>by
  have ih:=gP (r:=r) (ps:=ps)
  refine ⟨λ h=>?_,λ n hn h=>?_⟩
  ·rw [Cs,eS (λ e=>h (by rw [<-jd e]; exact Cb ..))]
   exact ih.1 λ z=>h (Cd _ z)
  ·rw [Cs,CW] at hn
   rcases BS.mp h with e | e
   ·subst e; rw [Cs,fZ rfl]
   ·have ne:¬ (dTf p).1=fu r:=λ z=>hn.1 (by rw [jd z]; exact BK.mpr ⟨_,e,rfl⟩)
    rw [Cs,eS ne]
    exact ih.2 n hn.2 e
theorem Cn.step {bs:List (List Int)} {ps:List (List Int×Int)} (h:Cn bs ps) (r:List Int):∃ (m:Int) (ps':List (List Int×Int)),(kl (ps.map dTf) (fu r)).getD (.int 0)=.int m/\kK (ps.map dTf) (fu r) (.int (m+1))=ps'.map dTf/\Cn (bs++[r]) ps'/\ps'.length<=ps.length+1:=by
 obtain ⟨h1,h2,h3⟩:=h
 by_cases hr:r∈ps.map (·.1)
 ·obtain ⟨⟨r',n⟩,hm,rfl⟩:=BK.mp hr
  have hv:=(gP (r:=r') (ps:=ps)).2 n h1 hm
  refine ⟨n,ps.map λ p=>if p.1=r' then (p.1,n+1) else p,by rw [hv]; rfl,?_,⟨?_,λ q=>?_,λ p hp=>?_⟩,by simp⟩
  ·unfold kK
   rw [if_pos (by rw [gc,hv]; rfl),CF,CF]
   apply Cq
   intro p hp
   by_cases e:p.1=r'
   ·simp [JR,dTf,e]
   ·have:¬ fu p.1=fu r':=λ z=>e (jd z)
    simp [JR,dTf,e,this]
  ·have:(ps.map λ p=>if p.1=r' then (p.1,n+1) else p).map (·.1)=ps.map (·.1):=by
    rw [CF]; apply Cq; intro p _; show (if p.1=r' then (p.1,n+1) else p).1=p.1; split<;>rfl
   rw [this]; exact h1
  ·have:(ps.map λ p=>if p.1=r' then (p.1,n+1) else p).map (·.1)=ps.map (·.1):=by
    rw [CF]; apply Cq; intro p _; show (if p.1=r' then (p.1,n+1) else p).1=p.1; split<;>rfl
   rw [this,h2 q,BY,BH]
   constructor
   ·exact .inl
   ·rintro (z | rfl)
    ·exact z
    ·exact (h2 _).mp hr
  ·obtain ⟨p0,hp0,rfl⟩:=BK.mp hp
   have c0:=h3 p0 hp0
   by_cases e:p0.1=r'
   ·have e5:=h3 _ hm
    simp only [e,if_true]
    have e6:n=(bs.count r':Int):=e5
    rw [DV,GK,e6]
    lia
   ·rw [if_neg e,DV,c0]
    have:[r'].count p0.1=0:=Di.mpr (by simpa using e)
    rw [this]
    simp
 ·have hv:=(gP (r:=r) (ps:=ps)).1 hr
  have hb:r∉bs:=λ z=>hr ((h2 r).mpr z)
  refine ⟨0,ps++[(r,1)],by rw [hv]; rfl,?_,⟨?_,λ q=>?_,λ p hp=>?_⟩,by simp⟩
  ·rw [rA _ hv,B4]; rfl
  ·rw [B4,Fp]
   exact ⟨h1,DZ _ _,λ a ha b hb' e=>by
    have e2:b=r:=BH.mp hb'
    exact hr (by rw [<-e2,<-e]; exact ha)⟩
  ·rw [B4,BY,h2 q,BY]; exact Lq
  ·rcases BY.mp hp with z | z
   ·have ne:p.1≠r:=λ e=>hr (by rw [<-e]; exact BK.mpr ⟨p,z,rfl⟩)
    have:[r].count p.1=0:=Di.mpr (by simpa using ne)
    rw [DV,this,h3 p z]
    simp
   ·rw [BH.mp z]
    show (1:Int)=_
    rw [DV,GK,Di.mpr hb]
    rfl
noncomputable def Bgs (bs:List (List Int)) (zs:List (List Int×Int)):Prop:=(zs.map (·.1)).Pairwise (λ a b=>HT.bD a b=true)/\(∀ r,r∈zs.map (·.1)↔r∈bs)/\∀ p∈zs,p.2=(bs.count p.1:Int)
section
variable {X:Cx}
variable {o e:Expr} {to:TE} {t:TA} {apos cpos:Pos}
end
section
variable {X:Cx} {pins:List (Addr×Obj)} {σ:St} {H:Hp} {s:Shared}
variable {N frs:List Str} {x qual:Str} {ix:List Nat} {scope:Scope} {cl:List (Str×Addr)} {params:Arguments} {body:Expr}
section
variable {te:TE} {t:TA} {p pos kpos lpos:Pos} {e:Expr} {k:Nat} {cc P:Addr}
end
end
end L2
namespace L2
open PySem PySem.Spec PyProof.Rows
section
variable {qs:List (Nat×Nat)} {b:Nat} {st:HW}
end
noncomputable def ql (c:Nat) (xs:List (List Nat)):List Nat:=xs.map λ r=>r.getD c 0
theorem block (c:Nat):∀ {ys:List (List Nat)} (_:(ql c ys).Pairwise (·<=·)) (g:Nat),(ys.drop (aG (ql c ys) g)).take ((ql c ys).count g)=ys.filter λ r=>decide (r.getD c 0=g)
 | [],_,g=>by simp
 | r::ys,h,g=>by
  have h':(r.getD c 0::ql c ys).Pairwise (·<=·):=h
  rw [Dk] at h'
  have ih:=block c h'.2 g
  have e1:ql c (r::ys)=r.getD c 0::ql c ys:=rfl
  rw [e1,Ep]
  generalize hf:r.getD c 0=f at h'
  have hl:aG (f::ql c ys) g=(if f<g then 1 else 0)+aG (ql c ys) g:=by
   unfold aG
   rw [EX]
   by_cases q:f<g
   ·rw [if_pos (by simpa using q),if_pos q]; lia
   ·rw [if_neg (by simpa using q),if_neg q]; lia
  rcases C4 f g with q | q | q
  ·rw [hl,if_pos q,if_neg (by simpa using B0 q),List.count_cons_of_ne (by simpa using B0 q),Io 1,Ic]
   exact ih
  ·subst q
   have z:aG (ql c ys) f=0:=by
    unfold aG
    rw [FS]
    intro x hx
    have:=h'.1 x hx
    simpa using this
   rw [z] at ih
   rw [hl,if_neg (C3 _),z,if_pos (by simp),List.count_cons_self,C2,Es]
   rw [C2] at ih
   rw [ih]
  ·have z:(f::ql c ys).count g=0:=by
    rw [Di]
    intro hx
    rcases BS.mp hx with e | e
    ·lia
    ·have:=h'.1 g e; lia
   rw [z,DO,if_neg (by simpa using Df q)]
   symm
   rw [Fv]
   intro x hx
   have:=h'.1 (x.getD c 0) (BK.mpr ⟨x,hx,rfl⟩)
   simp only [decide_eq_true_eq]
   lia
section
variable {X:Cx} {o e f:Expr} {td ty tx:TE} {pos apos cpos p:Pos}
end
section
variable {X:Cx} {o tg:Expr} {td:TE} {pos apos cpos p:Pos}
end
end L2
namespace HT
open PySem PyProof.Rows PySem.W L2
section
variable {prog:Program} {w:World} {A:Around} {E:Value->Shared->Prop} {s:Shared}
end
end HT
namespace L2
open PySem PySem.Spec PyProof.Rows
section
variable {X:Cx}
end
section
variable {X:Cx} {N tgs frs:List Str} {ix:List Nat} {scope:Scope} {cl:List (Str×Addr)} {xc:Str}
end
noncomputable def Par {α:Type} (os:List α):Prop:=∃ x∈os,∃ y∈os,x≠y
theorem gQ {α:Type} {ks os:List α} (hn:ks.Nodup) (hm:∀ k,k∈ks↔k∈os):1<ks.length↔Par os:=by
 constructor
 ·intro h
  match ks,hn,hm,h with
  | a::b::r,hn,hm,_=>exact ⟨a,(hm a).mp (by simp),b,(hm b).mp (by simp),λ e=>by rw [CW] at hn; exact hn.1 (by simp [e])⟩
 ·rintro ⟨x,hx,y,hy,hne⟩
  match ks,hm with
  | [],hm=>exact absurd ((hm x).mpr hx) (by simp)
  | [a],hm=>exact absurd ((BH.mp ((hm x).mpr hx)).trans (BH.mp ((hm y).mpr hy)).symm) hne
  | a::b::r,_=>simp
theorem vq {α β:Type} {f:α->β} {os:List α} (hf:∀ a b,f a=f b->a=b):Par (os.map f)↔Par os:=by
 constructor
 ·rintro ⟨x,hx,y,hy,h⟩
  obtain ⟨a,ha,rfl⟩:=BK.mp hx
  obtain ⟨b,hb,rfl⟩:=BK.mp hy
  exact ⟨a,ha,b,hb,λ e=>h (by rw [e])⟩
 ·rintro ⟨x,hx,y,hy,h⟩
  exact ⟨f x,BK.mpr ⟨x,hx,rfl⟩,f y,BK.mpr ⟨y,hy,rfl⟩,λ e=>h (hf _ _ e)⟩
theorem kP {os:List Nat} (h:∀ o∈os,o<b):bB (cnt os b)=true↔Par os:=by
 have e:(fH (cnt os b)).length=((BC b).filter λ f=>decide (0<os.count f)).length:=by
  unfold fH cnt; rw [DU,By]; rfl
 unfold bB
 rw [decide_eq_true_iff,e]
 refine gQ (D4.filter _) λ k=>?_
 rw [Cv,Cg,decide_eq_true_iff,Iv]
 exact ⟨λ h=>h.2,λ hk=>⟨h k hk,hk⟩⟩
noncomputable def kys:List Nat->List Nat:=λ os=>os.foldl (λ acc x=>if x∈acc then acc else acc++[x]) []
theorem rM (os:List Nat) (x:Nat):kys (os++[x])=if x∈kys os then kys os else kys os++[x]:=by unfold kys; rw [List.foldl_append]; rfl
theorem kQ:∀ os:List Nat,(kys os.reverse).Nodup/\∀ k,k∈kys os.reverse↔k∈os
 | []=>⟨Fi,λ k=>Lq⟩
 | x::os=>by
  obtain ⟨a,b⟩:=kQ os
  rw [GA,rM]
  split
  ·rename_i h
   exact ⟨a,λ k=>by rw [b k,BS]; exact ⟨.inr,λ z=>z.elim (λ e=>e▸(b x).mp h) id⟩⟩
  ·rename_i h
   refine ⟨Fp.mpr ⟨a,by simp,λ y hy z hz e=>h (by rw [<-BH.mp hz,<-e]; exact hy)⟩,λ k=>?_⟩
   rw [BY,BH,BS,b k]
   exact ⟨λ z=>z.elim .inr .inl,λ z=>z.elim .inr .inl⟩
theorem gR (os:List Nat):(kys os).Nodup:=by have:=(kQ os.reverse).1; rwa [HN] at this
theorem kys_mem {os:List Nat} :k∈kys os↔k∈os:=by have:=(kQ os.reverse).2 k; rw [HN] at this; rw [this,Dm]
theorem kys_par {os:List Nat}:1<(kys os).length↔Par os:=gQ (gR os) λ _=>kys_mem
noncomputable def ee (k f:Nat) (g:List (List Nat)):List (List Nat):=g.filter λ r=>decide (r.getD k 0=f)
noncomputable def lT (k:Nat) (g:List (List Nat)):List (List (List Nat)):=(kys (aW g k)).map λ f=>ee k f g
noncomputable def xY (k:Nat) (G:List (List (List Nat))):List (List (List Nat)):=G.flatMap λ g=>(lT k g).filter λ s=>decide (1<s.length)
noncomputable def o8 (rss:List (List Nat)):Nat->List (List (List Nat))
 | 0=>[rss]
 | k+1=>xY k (o8 rss k)
noncomputable def bn (rss:List (List Nat)) (k:Nat) (p:List Nat):List (List Nat):=rss.filter λ r=>decide (r.take k=p)
noncomputable def pfx (rss:List (List Nat)):Nat->List (List Nat)
 | 0=>[[]]
 | k+1=>(pfx rss k).flatMap λ p=>((kys (aW (bn rss k p) k)).filter λ f=>decide (1<(bn rss (k+1) (p++[f])).length)).map λ f=>p++[f]
theorem jg (rss:List (List Nat)):∀ k,∀ p∈pfx rss k,p.length=k
 | 0,p,h=>by rw [BH.mp h]; rfl
 | k+1,p,h=>by
  obtain ⟨q,hq,hp⟩:=GU.mp h
  obtain ⟨f,_,rfl⟩:=BK.mp hp
  rw [BO,jg rss k q hq]; rfl
theorem jO {p:List Nat} {w:Nat} (hr:r.length=w) (hk:k<w) (hp:p.length=k):r.take (k+1)=p++[f]↔r.take k=p/\r.getD k 0=f:=by
 have e:r.take (k+1)=r.take k++[r.getD k 0]:=by
  rw [B3,Bx (by lia),Bz,Bx (by lia)]; rfl
 rw [e]
 constructor
 ·intro h
  obtain ⟨h1,h2⟩:=Jx h (by rw [BV,hp]; lia)
  exact ⟨h1,(Ia h2).1⟩
 ·rintro ⟨h1,h2⟩; rw [h1,h2]
theorem jP {rss:List (List Nat)} {w:Nat} {p:List Nat} (hw:∀ r∈rss,r.length=w) (hk:k<w) (hp:p.length=k):bn rss (k+1) (p++[f])=ee k f (bn rss k p):=by
 unfold bn ee
 rw [IA]
 refine Fo λ r hr=>?_
 rw [<-Bool.decide_and,decide_eq_decide,jO (hw r hr) hk hp]
 exact ⟨λ h=>⟨h.2,h.1⟩,λ h=>⟨h.2,h.1⟩⟩
theorem lU {rss:List (List Nat)} {w:Nat} (hw:∀ r∈rss,r.length=w):∀ k,k<=w->o8 rss k=(pfx rss k).map (bn rss k)
 | 0,_=>by
  show [rss]=[bn rss 0 []]
  unfold bn
  rw [List.filter_eq_self.mpr λ r _=>by simp]
 | k+1,hk=>by
  show xY k (o8 rss k)=_
  rw [lU hw k (by lia),pfx,List.map_flatMap]
  unfold xY
  rw [List.flatMap_map]
  have go:∀ (l:List (List Nat)),(∀ p∈l,p.length=k)->(l.flatMap λ p=>(lT k (bn rss k p)).filter λ s=>decide (1<s.length))=l.flatMap λ p=>HL (bn rss (k+1)) (((kys (aW (bn rss k p) k)).filter λ f=>decide (1<(bn rss (k+1) (p++[f])).length)).map λ f=>p++[f]):=λ l=>by
   induction l with
   | nil=>intro _; rfl
   | cons p l ih=>
    intro hl
    rw [GH,GH,ih λ q hq=>hl q (Cd _ hq)]
    congr 1
    have hp:=hl p (Cb ..)
    unfold lT
    rw [DU,CF]
    have e1:∀ f,bn rss (k+1) (p++[f])=ee k f (bn rss k p):=λ f=>jP hw (by lia) hp
    have e2:(IU ((λ s=>decide (1<s.length))∘λ f=>ee k f (bn rss k p)) (kys (aW (bn rss k p) k)))=IU (λ f=>decide (1<(bn rss (k+1) (p++[f])).length)) (kys (aW (bn rss k p) k)):=Fo λ f _=>by rw [e1 f]; rfl
    rw [e2]
    exact Cq λ f _=>(e1 f).symm
  exact go _ (jg rss k)
theorem jQ {rss:List (List Nat)}:∀ k,(pfx rss k).Nodup
 | 0=>by simp [pfx]
 | k+1=>by
  rw [pfx]
  refine List.pairwise_flatMap.mpr ⟨λ p hp=>?_,(jQ k).imp_of_mem λ {p q} hp hq hne x hx y hy e=>?_⟩
  ·exact DW.mpr (((gR _).filter _).imp λ {a b} h e=>h (by have:=G0 e; exact (Ia this).1))
  ·obtain ⟨f,_,rfl⟩:=BK.mp hx
   obtain ⟨g,_,rfl⟩:=BK.mp hy
   exact hne (Jx e (by rw [jg rss k p hp,jg rss k q hq])).1
theorem pb {rss:List (List Nat)} {w:Nat} (hw:∀ r∈rss,r.length=w):∀ k,k<=w->∀ p:List Nat,p.length=k->1<(bn rss k p).length->p∈pfx rss k
 | 0,_,p,hp,_=>by rw [D0.mp hp]; exact BH.mpr rfl
 | k+1,hk,p,hp,h=>by
  obtain ⟨q,f,rfl⟩:∃ q f,p=q++[f]:=⟨p.dropLast,p.getLast (λ z=>by rw [z] at hp; cases hp),(List.dropLast_concat_getLast _).symm⟩
  have hq:q.length=k:=by rw [BO] at hp; simpa using hp
  have e:=jP (f:=f) hw (by lia) hq
  rw [e] at h
  have h1:(ee k f (bn rss k q)).length<=(bn rss k q).length:=DQ ..
  rw [pfx]
  refine GU.mpr ⟨q,pb hw k (by lia) q hq (by lia),BK.mpr ⟨f,Cv.mpr ⟨kys_mem.mpr ?_,by rw [e]; exact decide_eq_true h⟩,rfl⟩⟩
  obtain ⟨r,hr⟩:=FR (show 0<(ee k f (bn rss k q)).length by lia)
  obtain ⟨h2,h3⟩:=Cv.mp hr
  exact BK.mpr ⟨r,h2,of_decide_eq_true h3⟩
theorem dL:∀ {l:List Int},(∀ x∈l,x=0)->l.sum=0
 | [],_=>rfl
 | x::l,h=>by rw [C7,h x (Cb ..),dL λ y hy=>h y (Cd _ hy)]; rfl
theorem ph {A B:List Int} (h:A.Perm B):A.sum=B.sum:=by
 induction h with
 | nil=>rfl
 | cons x _ ih=>rw [C7,C7,ih]
 | swap x y l=>simp only [C7]; lia
 | trans _ _ h1 h2=>exact h1.trans h2
theorem eY {α:Type} [BEq α] [LawfulBEq α] {f:α->Int}:∀ {A B:List α},A.Nodup->B.Nodup->(∀ p,f p≠0->(p∈A↔p∈B))->(A.map f).sum=(B.map f).sum
 | [],B,_,_,h=>by
  rw [dL (l:=B.map f) λ x hx=>?_]; rfl
  obtain ⟨p,hp,rfl⟩:=BK.mp hx
  exact CY λ z=>nomatch (h p z).mpr hp
 | a::A,B,hA,hB,h=>by
  rw [CW] at hA
  by_cases hz:f a=0
  ·rw [Cs,C7,hz,FQ]
   refine eY hA.2 hB λ p hp=>?_
   rw [<-h p hp,BS]
   exact ⟨.inr,λ z=>z.elim (λ e=>absurd (e▸hz) hp) id⟩
  ·have ha:a∈B:=(h a hz).mp (Cb ..)
   have hp:=Ee ha
   have hB':=hp.nodup_iff.mp hB
   rw [CW] at hB'
   have hs:(B.map f).sum=((a::B.erase a).map f).sum:=ph (hp.map f)
   rw [hs,Cs,Cs,C7,C7]
   congr 1
   refine eY hA.2 hB'.2 λ p hp'=>?_
   have hq:=h p hp'
   rw [hp.mem_iff,BS,BS] at hq
   constructor
   ·intro z
    exact (hq.mp (.inr z)).elim (λ e=>absurd (e▸z) hA.1) id
   ·intro z
    exact (hq.mpr (.inr z)).elim (λ e=>absurd (e▸z) hB'.1) id
end L2
namespace HT
open PySem PyProof.Rows PySem.W L2
section
variable {prog:Program} {w:World} {A:Around} {E:Value->Shared->Prop} {h:Heap} {g:Array GenState} {d:Drawn} {t:Nat} {os:OsState}
variable {nm q:Str} {C N f:Addr} {bs bm bmB:List Value} {hdct:Bool} {sn:List Str} {sub:List Value} {ab:Bool} {col:Option Bool} {dd:Option Addr} {k0 k1 k2 k3 k5:Option Value} {B Bn newId nid initId inN:String} {bmN:List Value}
end
section
variable {M:Model} {A:Around} {E:Value->Shared->Prop} {env:Env}
variable {nm q:Str} {C N:Addr} {bs bm:List Value} {hdct:Bool} {sn:List Str} {sub:List Value} {ab:Bool} {col:Option Bool} {dd:Option Addr} {k0 k1 k2 k3 k5:Option Value} {newId:String}
end
end HT
namespace L2
open PySem PySem.Spec PyProof.Rows
section
variable {P:Program} {w:World} {K:BA} {mg:Str->Option Value} {base:Heap} {N:List Str} {qual:Str} {scope:Scope} {f:Addr} {cd:Value} {A:Around} {outer:List Env} {s0:Shared} {H0:Hp} {E:XK}
end
end L2
namespace HT
open PySem PyProof.Rows PySem.W L2
section
variable {prog:Program} {w:World} {A:Around} {E:Value->Shared->Prop} {h:Heap} {g:Array GenState} {d:Drawn} {t:Nat} {os:OsState}
variable {C f e t0:Addr} {K:Frag} {dx:Option Addr} {u:Value}
end
end HT
namespace L2
open PySem PySem.Spec PyProof.Rows PySem.W
section
variable {X:Cx} {o value e:Expr} {es:List Expr} {f x:Str} {pos pos' apos np:Pos} {ta tv:TE} {t:TA} {S:Addr}
end
section
variable {X:Cx} {pins:List (Addr×Obj)} {σ:St} {H:Hp} {s:Shared}
end
section
variable {X:Cx} {e:Expr} {es:List Expr} {t:TA} {np cpos pos p:Pos} {x:Str} {C f:Addr}
end
end L2
namespace HT
open PySem PyProof.Rows PySem.W L2
end HT
namespace L2
open PySem PySem.Spec PyProof.Rows PySem.W
section
variable {D:Ends} {Ex:XW} {σ:St} {H:Hp} {Q:VK} {K:Frag} {C:Addr} {t:TA} {ta tv:TE} {f:Str} {sp:Sp} {E:XK}
end
end L2
namespace L2
open PySem PySem.Spec PyProof.Rows
noncomputable def xZ:List V->Hp->VK->Prop:=λ xs H Q=>∃ (a:Addr) (n:Nat) (d:PyData),xs=[.ref a]/\DatM n H (.ref a) d/\n<=8/\d.weight<=2 ^ 19/\Q (.str d.shown) H
section
variable {X:Cx}
theorem pi (hg:X.A.guards=some []) (hu:X.A.units+64<cLine):QC X (.type "str") xZ:=by
 refine ⟨λ pins s σ H xs us Q I r h=>?_⟩
 obtain ⟨a,n,d,rfl,hd,hn,hw,q⟩:=h
 obtain ⟨u,rfl,ru⟩:=fN r
 obtain ⟨as,h1⟩:=hd.reads I ru
 cases ru
 obtain ⟨f1,f2,f3,f4⟩:=hd.facts
 refine str_of_reads h1 f1 (λ z=>by rw [f2] at z; cases z) hg (by lia) (λ b o e=>e) (λ h' u tk hk=>?_) (by
  have h:=PyData.shown_le 25 (by decide) d f4
  have e:(2:Nat) ^ 19=524288:=by decide
  have h2:(25+2)*d.weight<=27*524288:=JG (by lia) (by lia)
  rw [sizeLine_eq]
  lia)
 exact ⟨.str d.shown,H,I.kept hk,⟨u,rfl⟩,q⟩
end
theorem pj {H:Hp} {Q:VK} {d:PyData} (h1:DatM n H (.ref a) d) (hn:n<=8) (h2:d.weight<=2 ^ 19) (h:Q (.str d.shown) H):xZ [.ref a] H Q:=⟨a,n,d,rfl,h1,hn,h2,h⟩
end L2
namespace L2
open PySem PySem.Spec PyProof.Rows PySem.Builtin PySem.Builtin.Str
section
variable {X:Cx}
variable {o e a b:Expr} {rest:List Expr} {to ta tb:TE} {t:TA} {apos cpos pos:Pos}
end
section
variable {P:Program} {w:World} {K:BA} {mg:Str->Option Value} {base:Heap}
end
end L2
namespace HT
open PySem PyProof.Rows PySem.W L2
noncomputable def adv (m:Nat) (p:CQ):CQ:=
 if p.more > 0 then { j:=p.j+1,more:=p.more - 1,i:=p.i,perturb:=p.perturb,dummy:=p.dummy }
 else { j:=(CV m p.i p.perturb).1,more:=Cm m (CV m p.i p.perturb).1 - (CV m p.i p.perturb).1,i:=(CV m p.i p.perturb).1,perturb:=(CV m p.i p.perturb).2,dummy:=p.dummy }
theorem sY (t:SetTable) (p:CQ):t.advance p=adv t.mask p:=by
 unfold Lm adv
 split<;>rfl
theorem jR (m:Nat) (p:CQ):(adv m p).dummy=p.dummy:=by unfold adv; split<;>rfl
noncomputable def trl (m:Nat) (p:CQ):Nat->CQ
 | 0=>p
 | k+1=>trl m (adv m p) k
theorem cC (m:Nat):∀ (a:Nat) (p:CQ) (b:Nat),trl m p (a+b)=trl m (trl m p a) b
 | 0,p,b=>by rw [DI]; rfl
 | a+1,p,b=>by rw [ID]; exact cC m a (adv m p) b
theorem gS (m i:Nat):Cm m i - i<=9:=by unfold Cm; split<;>lia
theorem lV (m:Nat):∀ (n:Nat) (p:CQ),p.more=n->n<=9->(trl m p (n+1)).i=(CV m p.i p.perturb).1/\(trl m p (n+1)).perturb=(CV m p.i p.perturb).2/\(trl m p (n+1)).j=(CV m p.i p.perturb).1/\(trl m p (n+1)).more<=9
 | 0,p,e,_=>by
  have h:trl m p (0+1)=adv m p:=rfl
  rw [h]
  unfold adv
  rw [if_neg (by lia)]
  exact ⟨rfl,rfl,rfl,gS m _⟩
 | n+1,p,e,h9=>by
  have h:trl m p (n+1+1)=trl m (adv m p) (n+1):=rfl
  rw [h]
  have ea:adv m p={ j:=p.j+1,more:=p.more - 1,i:=p.i,perturb:=p.perturb,dummy:=p.dummy }:=by unfold adv; rw [if_pos (by lia)]
  have ih:=lV m n (adv m p) (by rw [ea]; show p.more - 1=n; lia) (by lia)
  rw [ea] at ih ⊢
  exact ih
noncomputable def cO (m:Nat):Nat->Nat->Nat->Nat×Nat
 | 0,i,p=>(i,p)
 | n+1,i,p=>cO m n (CV m i p).1 (CV m i p).2
theorem dz (m:Nat):∀ (a b i p:Nat),cO m (a+b) i p=cO m b (cO m a i p).1 (cO m a i p).2
 | 0,b,i,p=>by rw [DI]; rfl
 | a+1,b,i,p=>by rw [ID]; exact dz m a b _ _
theorem x6 (m:Nat):∀ (n:Nat) (p:CQ),p.more<=9->p.j=p.i\/1<=n->∃ k,k<=10*n/\(trl m p k).j=(cO m n p.i p.perturb).1
 | 0,p,_,h=>⟨0,BD _,by rcases h with h | h; exact h; lia⟩
 | n+1,p,h9,_=>by
  obtain ⟨e1,e2,e3,e4⟩:=lV m p.more p rfl h9
  obtain ⟨k,hk,e⟩:=x6 m n (trl m p (p.more+1)) e4 (.inl (by rw [e1,e3]))
  refine ⟨p.more+1+k,by lia,?_⟩
  rw [cC,e,e1,e2]
  rfl
theorem kR (m:Nat):∀ (n i p:Nat),(cO m n i p).2=p / 32 ^ n
 | 0,i,p=>by simp [cO]
 | n+1,i,p=>by
  show (cO m n _ (p / 32)).2=_
  rw [kR m n,Nat.div_div_eq_div_mul,Ky,Ip]
noncomputable def cyc (m:Nat):Nat->Nat->Nat
 | 0,i=>i
 | n+1,i=>cyc m n ((i*5+1) % (m+1))
theorem jh (m:Nat):∀ (a b i:Nat),cyc m (a+b) i=cyc m b (cyc m a i)
 | 0,b,i=>by rw [DI]; rfl
 | a+1,b,i=>by rw [ID]; exact jh m a b _
theorem kT (m:Nat):∀ (n i:Nat),(cO m n i 0).1=cyc m n i
 | 0,i=>rfl
 | n+1,i=>by
  show (cO m n ((i*5+1+0 / 32) % (m+1)) (0 / 32)).1=cyc m n ((i*5+1) % (m+1))
  rw [show (0:Nat) / 32=0 from rfl,En]
  exact kT m n _
noncomputable def Ai (m:Nat):Nat->Nat->List Nat
 | 0,_=>[]
 | n+1,i=>i::Ai m n ((i*5+1) % (m+1))
theorem lW (m:Nat):∀ (n i e:Nat),e∈Ai m n i->∃ a,a<n/\cyc m a i=e
 | 0,i,e,h=>by cases h
 | n+1,i,e,h=>by
  rcases BS.mp h with q | q
  ·exact ⟨0,by lia,q.symm⟩
  ·obtain ⟨a,ha,h2⟩:=lW m n _ e q
   exact ⟨a+1,by lia,h2⟩
noncomputable def Msk (m:Nat):Prop:=m=7\/m=31\/m=127
theorem vt (h:Msk m):((BC (m+1)).all λ i=>(Ai m (m+1) 0).contains i)=true/\cyc m (m+1) 0=0:=by
 rcases h with rfl | rfl | rfl<;>decide +kernel
theorem x8 {e:Nat} (h:Msk m) (hi:i<=m) (he:e<=m):∃ n,n<=m/\cyc m n i=e:=by
 obtain ⟨h1,h2⟩:=vt h
 have at_:∀ x,x<=m->∃ a,a<m+1/\cyc m a 0=x:=λ x hx=>by
  have:=DL.mp h1 x (Cg.mpr (by lia))
  exact lW m _ 0 x (List.contains_iff_mem.mp this)
 obtain ⟨a,ha,rfl⟩:=at_ i hi
 obtain ⟨b,hb,rfl⟩:=at_ e he
 by_cases q:a<=b
 ·exact ⟨b - a,by lia,by rw [<-jh]; congr 1; lia⟩
 ·refine ⟨(m+1 - a)+b,by lia,?_⟩
  rw [<-jh,<-Eu,jh,show a+(m+1 - a)=m+1 by lia,h2]
theorem ya {e:Nat} {p:CQ} (h:Msk m) (h9:p.more<=9) (hp:p.perturb<2 ^ 64) (he:e<=m):∃ k,k<10*DF m/\(trl m p k).j=e:=by
 have z:(cO m 13 p.i p.perturb).2=0:=by
  rw [kR]
  exact Jh (Eo hp (by decide +kernel))
 have hi:(cO m 13 p.i p.perturb).1<=m:=by
  rw [show (13:Nat)=12+1 from rfl,dz]
  show (_ % (m+1))<=m
  have:=FP ((cO m 12 p.i p.perturb).1*5+1+(cO m 12 p.i p.perturb).2 / 32) (show 0<m+1 by lia)
  lia
 obtain ⟨n,hn,e1⟩:=x8 h hi he
 obtain ⟨k,hk,e2⟩:=x6 m (13+n) p h9 (.inr (by lia))
 refine ⟨k,by unfold DF; lia,?_⟩
 rw [e2,dz,z,kT,e1]
theorem eZ {α:Type} [DecidableEq α]:∀ {l m:List α},l.Nodup->(∀ x∈l,x∈m)->l.length<=m.length
 | [],m,_,_=>Ca _
 | x::r,m,hn,hs=>by
  have hx:=hs x (Cb ..)
  have hn':=CW.mp hn
  have h1:=(Ee hx).length_eq
  have:=eZ (m:=m.erase x) hn'.2 λ y hy=>(Ef (λ (z:y=x)=>hn'.1 (z▸hy))).mpr (hs y (Cd _ hy))
  simp only [Ci] at h1 ⊢
  lia
theorem gap {pl:List Nat} (h:pl.length<=m):∃ e,e<=m/\e∉pl:=by
 refine CY λ hn=>?_
 have:=eZ (l:=BC (m+1)) (m:=pl) D4 λ x hx=>CY λ q=>hn ⟨x,by have:=Cg.mp hx; lia,q⟩
 rw [CU] at this
 lia
theorem iz {t:SetTable} (hr:Ris t.place.toList) (hd:t.dummies=#[]) (j:Nat):(∃ i,t.place[i]? = some j/\t.slot j=.live i)\/(j∉t.place.toList/\t.slot j=.empty):=by
 obtain ⟨h1,h2,h3⟩:=de hr j
 unfold Lu
 dsimp only
 by_cases q:t.place[CP t.place j]? = some j
 ·rw [if_pos (by rw [q]; exact beq_self_eq_true _)]
  exact .inl ⟨_,q,rfl⟩
 ·rw [if_neg (λ z=>q (eq_of_beq z))]
  have hh:KC t.dummies j=false:=by rw [hd]; rfl
  rw [hh]
  refine .inr ⟨λ hj=>?_,rfl⟩
  obtain ⟨i,hi,e⟩:=Cj hj
  have e:t.place[i]? = some j:=by rw [<-B9,Bx hi,e]
  have hri:CP t.place j<=i:=EW λ z=>absurd (h2 i j e z) (C3 _)
  rcases Dj hri with z | z
  ·rw [z] at q; exact q e
  ·have hlt:CP t.place j<t.place.size:=Eo z (by rw [BP] at hi; exact hi)
   have e3:t.place[CP t.place j]? = some t.place[CP t.place j]:=by simp [hlt]
   have:=gN hr e3 e z
   have:=h3 _ _ e3 (BD _)
   lia
theorem pk {t:SetTable} {f:Nat->Int} {h:Int} (hr:Ris t.place.toList) (hd:t.dummies=#[]):∀ (n:Nat) (p:CQ),p.dummy=none->(∃ k,k<n/\(trl t.mask p k).j∉t.place.toList)->
  ∃ k,(∀ k',k'<k->∃ i,t.place[i]? = some (trl t.mask p k').j/\f i≠h)/\((GI t f h n p=some (.empty (trl t.mask p k).j none)/\(trl t.mask p k).j∉t.place.toList)\/
   ∃ i,t.place[i]? = some (trl t.mask p k).j/\f i=h/\GI t f h n p=some (.candidate (trl t.mask p k).j i (trl t.mask p (k+1))))
 | 0,p,_,h=>by obtain ⟨k,hk,_⟩:=h; lia
 | n+1,p,hp,hx=>by
  unfold GI
  rcases iz hr hd p.j with ⟨i,e,es⟩ | ⟨e,es⟩
  ·rw [es]
   dsimp only
   by_cases q:f i=h
   ·rw [if_pos (by rw [q]; exact beq_self_eq_true _)]
    refine ⟨0,λ k' hk=>by lia,.inr ⟨i,e,q,?_⟩⟩
    rw [sY]; rfl
   ·rw [if_neg (λ z=>q (eq_of_beq z)),sY]
    have:∃ k,k<n/\(trl t.mask (adv t.mask p) k).j∉t.place.toList:=by
     obtain ⟨k,hk,hkn⟩:=hx
     cases k with
     | zero=>exact absurd (by rw [<-B9] at e; exact Ch e) hkn
     | succ k=>exact ⟨k,by lia,hkn⟩
    obtain ⟨k,h1,h2⟩:=pk hr hd n (adv t.mask p) (by rw [jR]; exact hp) this
    refine ⟨k+1,λ k' hk'=>?_,h2⟩
    cases k' with
    | zero=>exact ⟨i,e,q⟩
    | succ k'=>exact h1 k' (by lia)
  ·rw [es]
   dsimp only
   exact ⟨0,λ k' hk=>by lia,.inl ⟨by rw [hp]; rfl,e⟩⟩
noncomputable def start (m:Nat) (h:Int):CQ:={ j:=Cy h % (m+1),more:=Cm m (Cy h % (m+1)) - Cy h % (m+1),i:=Cy h % (m+1),perturb:=Cy h,dummy:=none }
noncomputable def Rch (m:Nat) (pl:List Nat) (h:Int) (j:Nat):Prop:=∃ k,(trl m (start m h) k).j=j/\∀ k',k'<k->(trl m (start m h) k').j∈pl
theorem Rch.mono {pl pl':List Nat} {h:Int} (x:Rch m pl h j) (s:∀ y∈pl,y∈pl'):Rch m pl' h j:=by
 obtain ⟨k,e,r⟩:=x
 exact ⟨k,e,λ k' hk=>s _ (r k' hk)⟩
theorem lX {m:Nat}:∀ (k:Nat) (p:CQ),p.more<=9->p.perturb<2 ^ 64->p.dummy=none->(trl m p k).more<=9/\(trl m p k).perturb<2 ^ 64/\(trl m p k).dummy=none
 | 0,p,h1,h2,h3=>⟨h1,h2,h3⟩
 | k+1,p,h1,h2,h3=>by
  refine lX k (adv m p) ?_ ?_ (by rw [jR]; exact h3)
  ·unfold adv; split
   ·show p.more - 1<=9; lia
   ·exact gS m _
  ·unfold adv; split
   ·exact h2
   ·show p.perturb / 32<_; lia
theorem pp (h:Int):Cy h<2 ^ 64:=by
 unfold Cy
 have:=IE h (show (0:Int)<2 ^ 64 by decide)
 have:=EB h (show (2:Int) ^ 64≠0 by decide)
 lia
theorem m5 (m:Nat) (h:Int):(start m h).more<=9/\(start m h).perturb<2 ^ 64/\(start m h).dummy=none:=⟨gS m _,pp h,rfl⟩
noncomputable def stD (m i pe:Nat) (d:Option Nat):CQ:={ j:=i,more:=Cm m i - i,i:=i,perturb:=pe,dummy:=d }
theorem lY (m:Nat):∀ (n:Nat) (p:CQ),p.more=n->trl m p (n+1)=stD m (CV m p.i p.perturb).1 (CV m p.i p.perturb).2 p.dummy
 | 0,p,e=>by
  show adv m p=_
  unfold adv
  rw [if_neg (by lia)]
  rfl
 | n+1,p,e=>by
  show trl m (adv m p) (n+1)=_
  have ea:adv m p={ j:=p.j+1,more:=p.more - 1,i:=p.i,perturb:=p.perturb,dummy:=p.dummy }:=by unfold adv; rw [if_pos (by lia)]
  rw [lY m n (adv m p) (by rw [ea]; show p.more - 1=n; lia),ea]
theorem ji (m:Nat):∀ (k:Nat) (p:CQ),k<=p.more->(trl m p k).j=p.j+k
 | 0,p,_=>rfl
 | k+1,p,h=>by
  show (trl m (adv m p) k).j=_
  have ea:adv m p={ j:=p.j+1,more:=p.more - 1,i:=p.i,perturb:=p.perturb,dummy:=p.dummy }:=by unfold adv; rw [if_pos (by lia)]
  rw [ji m k (adv m p) (by rw [ea]; show k<=p.more - 1; lia),ea]
  show p.j+1+k=_
  lia
noncomputable def Fre (owner:Array (Option Nat)) (j:Nat):Bool:=(owner.getD j (some 0)).isNone
theorem jS {m:Nat} {owner:Array (Option Nat)}:∀ (fuel i pe j:Nat),Dp m owner fuel i pe=some j->∃ k,(trl m (stD m i pe none) k).j=j/\Fre owner j=true/\∀ k',k'<k->Fre owner (trl m (stD m i pe none) k').j=false
 | 0,i,pe,j,e=>by cases e
 | fuel+1,i,pe,j,e=>by
  unfold Dp at e
  have hre:i<=Cm m i:=by unfold Cm; split<;>lia
  cases hf:KZ (λ k=>(owner.getD (i+k) (some 0)).isNone) (BC (Cm m i+1 - i)) with
  | some k=>
   rw [hf] at e
   cases e
   obtain ⟨h1,h2,h3⟩:=List.find?_range_eq_some.mp hf
   have h2:=Cg.mp h2
   refine ⟨k,ji m k _ (by show k<=Cm m i - i; lia),h1,λ k' hk'=>?_⟩
   rw [ji m k' _ (by show k'<=Cm m i - i; lia)]
   have:=h3 k' hk'
   simpa [Fre,stD] using this
  | none=>
   rw [hf] at e
   dsimp only at e
   obtain ⟨k,h1,h2,h3⟩:=jS fuel _ _ j e
   have h4:=GV.mp hf
   have hfull:=lY m (Cm m i - i) (stD m i pe none) rfl
   have hsp:∀ k,trl m (stD m i pe none) (Cm m i - i+1+k)=trl m (stD m (CV m i pe).1 (CV m i pe).2 none) k:=λ k=>by rw [cC,hfull]; rfl
   refine ⟨Cm m i - i+1+k,by rw [hsp]; exact h1,h2,λ k' hk'=>?_⟩
   by_cases q:k'<=Cm m i - i
   ·rw [ji m k' _ q]
    have:=h4 k' (by lia)
    simpa [Fre,stD] using this
   ·have:=h3 (k' - (Cm m i - i+1)) (by lia)
    rw [<-hsp,show Cm m i - i+1+(k' - (Cm m i - i+1))=k' by lia] at this
    exact this
theorem jT {m:Nat} {owner:Array (Option Nat)}:∀ (fuel i pe n:Nat),n<fuel->Fre owner (cO m n i pe).1=true->∃ j,Dp m owner fuel i pe=some j
 | 0,i,pe,n,h,_=>by lia
 | fuel+1,i,pe,n,h,hf=>by
  unfold Dp
  have hre:i<=Cm m i:=by unfold Cm; split<;>lia
  cases hq:KZ (λ k=>(owner.getD (i+k) (some 0)).isNone) (BC (Cm m i+1 - i)) with
  | some k=>exact ⟨_,rfl⟩
  | none=>
   dsimp only
   cases n with
   | zero=>
    have:=GV.mp hq 0 (by lia)
    have hf:(owner.getD i (some 0)).isNone=true:=hf
    rw [En,hf] at this
    cases this
   | succ n=>exact jT fuel _ _ n (by lia) hf
theorem yb {e:Nat} (h:Msk m) (i pe:Nat) (hp:pe<2 ^ 64) (he:e<=m):∃ n,n<=m+13/\(cO m n i pe).1=e:=by
 have z:(cO m 13 i pe).2=0:=by
  rw [kR]
  exact Jh (Eo hp (by decide +kernel))
 have hi:(cO m 13 i pe).1<=m:=by
  rw [show (13:Nat)=12+1 from rfl,dz]
  show (_ % (m+1))<=m
  have:=FP ((cO m 12 i pe).1*5+1+(cO m 12 i pe).2 / 32) (show 0<m+1 by lia)
  lia
 obtain ⟨n,hn,e1⟩:=x8 h hi he
 refine ⟨13+n,by lia,?_⟩
 rw [dz,z,kT,e1]
noncomputable def live (m:Nat) (owner:Array (Option Nat)):List (Nat×Nat):=(BC (m+1)).filterMap λ j=>(owner.getD j none).map (j,·)
noncomputable def plO (m:Nat) (owner:Array (Option Nat)):List Nat:=(live m owner).map (·.1)
theorem cK {owner:Array (Option Nat)} (hs:owner.size=m+1) {x:Nat}:(j,x)∈live m owner↔owner[j]? = some (some x):=by
 unfold live
 rw [Ga]
 constructor
 ·rintro ⟨j',hj',e⟩
  obtain ⟨y,e1,e2⟩:=CS.mp e
  cases e2
  have:=Cg.mp hj'
  rw [C1,Dt (by lia)] at e1
  rw [Dt (by lia)]
  exact congrArg some e1
 ·intro e
  have hl:j<owner.size:=(Do.mp e).1
  refine ⟨j,Cg.mpr (by lia),?_⟩
  rw [C1,e]
  rfl
theorem fre_iff {owner:Array (Option Nat)} :Fre owner j=true↔owner[j]? = some none:=by
 unfold Fre
 rw [C1]
 cases h:owner[j]? with
 | none=>simp
 | some x=>cases x<;>simp
theorem vv {owner:Array (Option Nat)} (hs:owner.size=m+1) (hj:j<=m):j∈plO m owner↔Fre owner j=false:=by
 unfold plO
 rw [BK]
 constructor
 ·rintro ⟨⟨j',x⟩,h,e⟩
  have e:j'=j:=e
  subst e
  have:=(cK hs).mp h
  refine EK.mpr λ z=>?_
  rw [fre_iff.mp z] at this
  cases this
 ·intro h
  have e:owner[j]? = some (owner[j]'(by lia)):=Dt (by lia)
  cases q:owner[j]'(by lia) with
  | none=>rw [q] at e; rw [fre_iff.mpr e] at h; cases h
  | some x=>rw [q] at e; exact ⟨(j,x),(cK hs).mpr e,rfl⟩
theorem pq {m:Nat}:∀ (k:Nat) (p:CQ),p.j<=m->p.j+p.more<=m\/p.more=0->(trl m p k).j<=m
 | 0,p,h,_=>h
 | k+1,p,h,h2=>by
  show (trl m (adv m p) k).j<=m
  unfold adv
  split
  ·exact pq k _ (by show p.j+1<=m; lia) (by show p.j+1+(p.more - 1)<=m\/_; lia)
  ·have hl:(CV m p.i p.perturb).1<=m:=by
    have:=FP (p.i*5+1+p.perturb / 32) (show 0<m+1 by lia)
    show (_ % (m+1))<=m
    lia
   refine pq k _ hl ?_
   show (CV m p.i p.perturb).1+(Cm m (CV m p.i p.perturb).1 - (CV m p.i p.perturb).1)<=m\/_
   unfold Cm
   split<;>lia
theorem lZ (m:Nat) (h:Int) (k:Nat):(trl m (start m h) k).j<=m:=by
 have hb:Cy h % (m+1)<=m:=by have:=FP (Cy h) (show 0<m+1 by lia); lia
 refine pq k _ hb ?_
 show Cy h % (m+1)+(Cm m (Cy h % (m+1)) - Cy h % (m+1))<=m\/Cm m (Cy h % (m+1)) - Cy h % (m+1)=0
 unfold Cm
 split<;>lia
noncomputable def Lay (m:Nat) (hs:List Int) (owner:Array (Option Nat)):Prop:=owner.size=m+1/\(∀ (j x:Nat),owner[j]? = some (some x)->x<hs.length)/\(owner.toList.filterMap id).length=hs.length/\∀ (x:Nat) h,hs[x]? = some h->∃ j:Nat,owner[j]? = some (some x)/\Rch m (plO m owner) h j
theorem Lay.step {m:Nat} {hs:List Int} {owner:Array (Option Nat)} (L:Lay m hs owner) (hm:Msk m) (hl:hs.length<=m) (h:Int) :
  ∃ j,Dp m owner (DF m) (Cy h % (m+1)) (Cy h)=some j/\Lay m (hs++[h]) (owner.setIfInBounds j (some hs.length)):=by
 obtain ⟨sz,lt,len,rch⟩:=L
 -- a free place
 obtain ⟨e,he,hfe⟩:∃ e,e<=m/\Fre owner e=true:=by
  refine CY λ hn=>?_
  have all:∀ o∈owner.toList,∃ x,o=some x:=λ o ho=>by
   obtain ⟨j,hj,rfl⟩:=Cj ho
   rw [BP] at hj
   cases q:owner.toList[j] with
   | some x=>exact ⟨x,rfl⟩
   | none=>
    refine absurd ⟨j,by lia,fre_iff.mpr ?_⟩ hn
    rw [<-B9,Bx (by rw [BP]; exact hj),q]
  have:(owner.toList.filterMap id).length=owner.toList.length:=by
   generalize owner.toList=l at all
   induction l with
   | nil=>rfl
   | cons a r ih=>
    obtain ⟨x,rfl⟩:=all a (Cb ..)
    have:=ih λ o ho=>all o (Cd _ ho)
    simp [this]
  have lz:owner.toList.length=owner.size:=BP
  lia
 obtain ⟨n,hn,e1⟩:=yb hm (Cy h % (m+1)) (Cy h) (pp h) he
 obtain ⟨j,ej⟩:=jT (owner:=owner) (DF m) (Cy h % (m+1)) (Cy h) n (by unfold DF; lia) (by rw [e1]; exact hfe)
 refine ⟨j,ej,?_⟩
 obtain ⟨k,h1,h2,h3⟩:=jS _ _ _ _ ej
 have ejn:=fre_iff.mp h2
 have hj:j<owner.size:=(Do.mp ejn).1
 have sz2:(owner.setIfInBounds j (some hs.length)).size=m+1:=by rw [GS]; exact sz
 have get2:∀ i,(owner.setIfInBounds j (some hs.length))[i]? = if j=i then some (some hs.length) else owner[i]?:=λ i=>by
  rw [Array.getElem?_setIfInBounds]
  by_cases q:j=i
  ·rw [if_pos q,if_pos q,if_pos hj]
  ·rw [if_neg q,if_neg q]
 have sub:∀ y∈plO m owner,y∈plO m (owner.setIfInBounds j (some hs.length)):=λ y hy=>by
  obtain ⟨⟨y',x⟩,hm',e⟩:=BK.mp hy
  have e:y'=y:=e
  subst e
  have e2:=(cK sz).mp hm'
  refine BK.mpr ⟨(y',x),(cK sz2).mpr ?_,rfl⟩
  rw [get2,if_neg (λ z=>by rw [z,e2] at ejn; cases ejn)]
  exact e2
 refine ⟨sz2,λ i x e=>?_,?_,λ x h' hx=>?_⟩
 ·rw [get2] at e
  rw [BO]
  split at e
  ·cases e; exact E1 _
  ·exact EM (lt i x e)
 ·rw [Gx]
  have hjl:j<owner.toList.length:=by rw [BP]; exact hj
  have e3:owner.toList=owner.toList.take j++none::owner.toList.drop (j+1):=by
   have:owner.toList[j]=none:=by
    rw [<-B9,Bx hjl] at ejn
    exact CG ejn
   rw [<-this,<-Dc hjl,Ck]
  rw [List.set_eq_take_append_cons_drop,if_pos hjl,Hv]
  rw [e3,Hv] at len
  simp only [BO,D1,id,Ci,Dh] at len ⊢
  lia
 ·by_cases q:x<hs.length
  ·rw [BX q] at hx
   obtain ⟨i,e2,r⟩:=rch x h' hx
   refine ⟨i,?_,r.mono sub⟩
   rw [get2,if_neg (λ z=>by rw [z,e2] at ejn; cases ejn)]
   exact e2
  ·rw [B2 (by lia)] at hx
   have hx0:x - hs.length=0:=by
    have:=(BZ.mp hx).1
    simp at this; lia
   rw [hx0] at hx
   obtain rfl:h=h':=CG hx
   have hxe:x=hs.length:=by lia
   refine ⟨j,by rw [get2,if_pos rfl,hxe],k,h1,λ k' hk'=>sub _ ?_⟩
   exact (vv sz (lZ m h k')).mpr (h3 k' hk')
theorem l6 {m:Nat} (hm:Msk m):∀ (rest dn:List Int) (owner:Array (Option Nat)),Lay m dn owner->dn.length+rest.length<=m+1->∃ owner',FI (λ (acc:Option (Array (Option Nat)×Nat)) h=>do
    let __x <-acc
    match __x with
     | (owner,k)=>do
      let j <-Dp m owner (DF m) (Cy h % (m+1)) (Cy h)
      pure (owner.setIfInBounds j (some k),k+1)) (some (owner,dn.length)) rest=some (owner',(dn++rest).length)/\Lay m (dn++rest) owner'
 | [],dn,owner,L,_=>⟨owner,by rw [C9]; rfl,by rw [C9]; exact L⟩
 | h::rest,dn,owner,L,hl=>by
  simp only [Ci] at hl
  obtain ⟨j,ej,L2⟩:=L.step hm (by lia) h
  obtain ⟨o',e,L3⟩:=l6 hm rest (dn++[h]) _ L2 (by simp; lia)
  rw [Cu] at e L3
  refine ⟨o',?_,L3⟩
  rw [G7]
  show FI _ (do
      let j <-Dp m owner (DF m) (Cy h % (m+1)) (Cy h)
      pure (owner.setIfInBounds j (some dn.length),dn.length+1)) rest=_
  rw [ej]
  rw [BO] at e
  exact e
theorem vw (m:Nat):Lay m [] (Jy (m+1) none):=by
 refine ⟨by simp,λ j x e=>?_,?_,λ x h e=>by simp at e⟩
 ·rw [Array.getElem?_replicate] at e
  split at e
  ·cases e
  ·cases e
 ·rw [Array.toList_replicate]
  generalize m+1=n
  induction n with
  | zero=>rfl
  | succ n ih=>rw [D3,List.filterMap_cons_none rfl]; exact ih
theorem kU (hm:Msk m) (hs:Array Int) (hl:hs.size<=m+1):∃ owner,IQ m hs=some owner/\Lay m hs.toList owner:=by
 obtain ⟨o,e,L⟩:=l6 hm hs.toList [] _ (vw m) (by simpa using hl)
 refine ⟨o,?_,L⟩
 unfold IQ
 rw [<-Array.foldl_toList]
 have e:FI _ (some (Jy (m+1) none,0)) hs.toList=_:=e
 first | (rw [e]; done) | (rw [e]; rfl)
structure Tgo (t:SetTable) (es:List (Int×Value)):Prop where
 msk:Msk t.mask
 dum:t.dummies=#[]
 ris:Ris t.place.toList
 le:∀ j∈t.place.toList,j<=t.mask
 len:t.place.toList.length=es.length
 rch:∀ (i:Nat) e j,es[i]? = some e->t.place.toList[i]? = some j->Rch t.mask t.place.toList e.1 j
theorem fJ {α:Type} (xs:Array α) (p:Nat) (x:α) (hp:p<=xs.size) (i:Nat):(Dr xs p x).toList[i]? = if i<p then xs.toList[i]? else if i=p then some x else xs.toList[i - 1]?:=by
 rw [aZ]
 have hl:(xs.toList.take p).length=p:=by rw [BV,BP]; lia
 by_cases h1:i<p
 ·rw [if_pos h1,BX (by lia),List.getElem?_take,if_pos h1]
 ·rw [if_neg h1,B2 (by lia),hl]
  by_cases h2:i=p
  ·rw [if_pos h2,h2,FN]; rfl
  ·rw [if_neg h2,show i - p=(i - 1 - p)+1 by lia,List.getElem?_cons_succ,Gi]
   congr 1
   lia
theorem Tgo.put {t:SetTable} {es:Array (Int×Value)} (g:Tgo t es.toList) {j:Nat} {h:Int} {x:Value} (hn:j∉t.place.toList) (hj:j<=t.mask) (hr:Rch t.mask t.place.toList h j) :
  (t.put j).2<=es.size/\Tgo (t.put j).1 (Dr es (t.put j).2 (h,x)).toList/\(t.put j).1.led=t.led/\(t.put j).1.plain=t.plain/\(t.put j).1.mask=t.mask/\(t.put j).1.moves=t.moves:=by
 have hp:=de g.ris j
 have hz:t.place.size=es.size:=by have:=g.len; rwa [BP,BP] at this
 have hps:CP t.place j<=t.place.size:=hp.1
 have hpe:(t.put j).2=CP t.place j:=rfl
 have hdm:(t.put j).1.dummies=#[]:=by
  show (if KC t.dummies j=true then _ else t.dummies)=#[]
  rw [g.dum]
  rfl
 have hpl:(t.put j).1.place=Dr t.place (CP t.place j) j:=rfl
 have hmem:∀ y,y∈(t.put j).1.place.toList↔y=j\/y∈t.place.toList:=λ y=>by
  rw [hpl,aZ,BY,BS]
  conv=>rhs; rw [<-Ck (CP t.place j) t.place.toList,BY]
  constructor
  ·rintro (q | q | q)
   ·exact .inr (.inl q)
   ·exact .inl q
   ·exact .inr (.inr q)
  ·rintro (q | q | q)
   ·exact .inr (.inl q)
   ·exact .inl q
   ·exact .inr (.inr q)
 refine ⟨by rw [hpe]; lia,⟨g.msk,hdm,?_,λ y hy=>?_,?_,λ i e y he hy=>?_⟩,rfl,rfl,rfl,rfl⟩
 ·rw [hpl]
  exact mY g.ris λ e=>hn (by rw [<-B9] at e; exact Ch e)
 ·rcases (hmem y).mp hy with q | q
  ·rw [q]; exact hj
  ·exact g.le y q
 ·have h1:=g.len
  rw [hpl,aZ,aZ]
  simp only [BO,Ci,BV,Cr,BP] at h1 ⊢
  rw [hpe]
  lia
 ·have sub:∀ z∈t.place.toList,z∈(t.put j).1.place.toList:=λ z hz=>(hmem z).mpr (.inr hz)
  rw [hpl,fJ _ _ _ hps] at hy
  rw [fJ _ _ _ (by rw [hpe]; lia),hpe] at he
  have mk:t.mask=(t.put j).1.mask:=rfl
  by_cases h1:i<CP t.place j
  ·rw [if_pos h1] at he hy
   exact (g.rch i e y he hy).mono sub
  ·rw [if_neg h1] at he hy
   by_cases h2:i=CP t.place j
   ·rw [if_pos h2] at he hy
    cases he; cases hy
    exact hr.mono sub
   ·rw [if_neg h2] at he hy
    exact (g.rch _ e y he hy).mono sub
theorem jU:∀ {ks ms:List Nat},ks.Nodup->(∀ k∈ks,k∈ms)->ms.length<=ks.length->ms.Perm ks
 | [],ms,_,_,hl=>by
  have:ms=[]:=DY (by simpa using hl)
  rw [this]
 | k::r,ms,hn,hs,hl=>by
  have hk:=hs k (Cb ..)
  have hn':=CW.mp hn
  have h1:=Ee hk
  have hlen:=h1.length_eq
  refine h1.trans ((jU hn'.2 (λ j hj=>?_) ?_).cons k)
  ·have hne:j≠k:=λ z=>hn'.1 (z▸hj)
   exact (Ef hne).mpr (hs j (Cd _ hj))
  ·simp only [Ci] at hlen hl
   lia
theorem Tgo.relay {t:SetTable} {es:Array (Int×Value)} (hm:Msk (D6 n - 1)) (hs:es.size<=D6 n - 1+1) :
  ∃ t' order,t.relaid (es.map (·.1)) n=some (t',order)/\Tgo t' (order.filterMap (es[·]?)).toList/\(order.filterMap (es[·]?)).toList.Perm es.toList/\t'.led=t.led/\t'.mask=D6 n - 1:=by
 generalize em:D6 n - 1=m at *
 obtain ⟨owner,eo,sz,lt,len,rch⟩:=kU hm (es.map (·.1)) (by rw [Fh]; exact hs)
 have hsl:(es.map (·.1)).toList.length=es.size:=by simp
 refine ⟨{ mask:=m,place:=((live m owner).map (·.1)).toArray,dummies:=#[],finger:=t.finger,led:=t.led,moves:=t.movedTo m,plain:=t.plain },((live m owner).map (·.2)).toArray,?_,?_⟩
 ·unfold Lo Lv
  rw [em,eo]
  rfl
 have elv:List.filterMap (λ j=>Jz (λ x=>(j,x)) (owner.getD j none)) (BC (m+1))=live m owner:=rfl
 have nd:(plO m owner).Pairwise (· < ·):=by
  unfold plO live
  rw [DW,List.pairwise_filterMap]
  refine (Fu (n:=m+1)).imp λ {a b} hab x hx y hy=>?_
  obtain ⟨_,_,rfl⟩:=CS.mp hx
  obtain ⟨_,_,rfl⟩:=CS.mp hy
  exact hab
 have hlen:(live m owner).length=es.size:=by
  rw [<-hsl,<-len]
  have:owner.toList=(BC (m+1)).map λ j=>owner.getD j none:=by
   apply EJ
   intro i
   rw [BI,B9]
   by_cases q:i<m+1
   ·rw [De q,Dt (by lia)]
    show _=some (owner.getD i none)
    rw [C1,Dt (by lia)]; rfl
   ·rw [CB (by rw [CU]; lia),D5 (by lia)]; rfl
  rw [this,Il]
  unfold live
  generalize BC (m+1)=l
  induction l with
  | nil=>rfl
  | cons a r ih=>
   rw [D1,D1]
   have hid:(id∘λ j=>owner.getD j none) a=owner.getD a none:=rfl
   rw [hid]
   cases owner.getD a none with
   | none=>exact ih
   | some x=>exact congrArg (· + 1) ih
 -- every number once
 have ord:((live m owner).map (·.2)).Perm (BC es.size):=by
  have hle:((live m owner).map (·.2)).length<=(BC es.size).length:=by
   rw [By,CU,hlen]; exact BD _
  refine jU D4 (λ k hk=>?_) hle
  have hk:=Cg.mp hk
  obtain ⟨j,ej,_⟩:=rch k _ (Bx (by rw [hsl]; exact hk))
  exact BK.mpr ⟨(j,k),(cK sz).mpr ej,rfl⟩
 have fm:(((live m owner).map (·.2)).toArray.filterMap (es[·]?)).toList=((live m owner).map (·.2)).map λ k=>es.toList.getD k (0,.none):=by
  rw [Array.toList_filterMap]
  have:∀ l:List Nat,(∀ k∈l,k<es.size)->l.filterMap (es[·]?)=l.map λ k=>es.toList.getD k (0,.none):=λ l hl=>by
   induction l with
   | nil=>rfl
   | cons a r ih=>
    have ha:=hl a (Cb ..)
    have e1:es[a]? = some (es.toList.getD a (0,.none)):=by
     rw [Bz,B9,Dt ha]; rfl
    rw [List.filterMap_cons_some e1,ih λ k hk=>hl k (Cd _ hk)]
    rfl
  exact this _ λ k hk=>Cg.mp (ord.mem_iff.mp hk)
 have pm:(((live m owner).map (·.2)).toArray.filterMap (es[·]?)).toList.Perm es.toList:=by
  rw [fm]
  have:=ord.map λ k=>es.toList.getD k (0,.none)
  have e2:((BC es.size).map λ k=>es.toList.getD k (0,.none))=es.toList:=by
   apply EJ
   intro i
   rw [BI]
   by_cases q:i<es.size
   ·rw [De q,Bx (by simpa using q)]
    show some (es.toList.getD i _)=_
    rw [Bz,Bx (by simpa using q)]; rfl
   ·rw [CB (by rw [CU]; lia),CB (by simpa using EW q)]; rfl
  rwa [e2] at this
 refine ⟨⟨hm,rfl,?_,?_,?_,?_⟩,pm,rfl,rfl⟩
 ·exact nd
 ·intro j hj
  obtain ⟨⟨j',x⟩,h1,e⟩:=BK.mp hj
  have e:j'=j:=e
  subst e
  have:=(Do.mp ((cK sz).mp h1)).1
  show j'<=m
  lia
 ·rw [pm.length_eq]
  show ((live m owner).map (·.1)).length=_
  rw [By,hlen,BP]
 ·intro i e j he hj
  rw [fm,CF,BI] at he
  have hj:((live m owner).map (·.1))[i]? = some j:=hj
  rw [BI] at hj
  obtain ⟨⟨j1,k1⟩,e1,e2⟩:=CS.mp hj
  obtain ⟨y,e3,e4⟩:=CS.mp he
  rw [e1] at e3
  cases e3
  have e2:j1=j:=e2
  subst e2
  have ow:=(cK sz).mp (Ch e1)
  have hk1:k1<es.size:=by have:=lt j1 k1 ow; rwa [hsl] at this
  have e5:es.toList.getD k1 (0,.none)=e:=e4
  obtain ⟨j2,o2,r2⟩:=rch k1 e.1 (by
   rw [Bx (by rw [hsl]; exact hk1)]
   rw [Bz,Bx (by simpa using hk1)] at e5
   have e5:es.toList[k1]'(by simpa using hk1)=e:=e5
   simp only [EZ,Dx,e5])
  -- only one place has it
  have:j1=j2:=by
   have hnd:((live m owner).map (·.2)).Nodup:=ord.symm.nodup D4
   obtain ⟨i2,hi2,e6⟩:=Cj ((cK sz).mpr o2)
   obtain ⟨hi1,e7⟩:=BZ.mp e1
   have:i=i2:=by
    refine CY λ ne=>?_
    have h9:=Ct.mp hnd
    rcases CO i i2 with q | q
    ·have:=h9 i i2 (by rw [By]; exact hi1) (by rw [By]; exact hi2) q
     rw [Dx,Dx,e6,e7] at this
     exact this rfl
    ·have:=h9 i2 i (by rw [By]; exact hi2) (by rw [By]; exact hi1) (by lia)
     rw [Dx,Dx,e6,e7] at this
     exact this rfl
   subst this
   rw [e7] at e6
   exact congrArg Prod.fst e6
  subst this
  exact r2
section
variable {prog:Program} {w:World} {A:Around} {E:Value->Shared->Prop} {s:Shared}
theorem gT {M:Model} {α β:Type} {l:List α} {init:β} {f:α->β->Sem (ForInStep β)} (hf:∀ y∈l,f y init=pure (.yield init)) {Q:β->Shared->Prop} (q:Q init s):wpAny M A (forIn l init f) Q E s:=by
 induction l with
 | nil=>rw [Fg]; exact wpAny_pure q
 | cons a r ih=>
  rw [E4]
  refine wpAny_bind (wpAny_of_eq (hf a (Cb ..)) ?_)
  exact ih λ y hy=>hf y (Cd _ hy)
theorem items_int (h:ItemsAre (intKind prog w) ks vs):∀ v∈vs,∃ k t,v=.int k t:=by
 induction h with
 | nil=>intro v hv; cases hv
 | cons h _ ih=>
  intro v hv
  rcases BS.mp hv with q | q
  ·rw [q]; exact kO h
  ·exact ih v q
theorem vx (h:IsTupleKey (intKind prog w) s.heap ks a):s.TypeIs (.ref a) "tuple":=by
 obtain ⟨o,items,n,ho,hc,_⟩:=h
 exact ⟨o,ho,hc⟩
theorem iA (h:IsTupleKey (intKind prog w) s.heap ks a) {Q:Bool->Shared->Prop} (q:Q false s):wpAny (model prog w) A (ofAClassStatement 8 (.ref a)) Q E s:=by
 obtain ⟨o,items,n,ho,hc,hd,hi⟩:=h
 unfold ofAClassStatement
 refine wpAny_bind (wpAny_typeOf (T:="tuple") ⟨o,ho,hc⟩ ?_)
 dsimp only
 rw [if_pos (by decide)]
 refine wpAny_bind (wpAny_pure ?_)
 simp only [DJ,BG,if_false]
 refine wpAny_bind (wpAny_seqItems ho hd ?_)
 dsimp only
 rw [<-IF]
 refine wpAny_bind (gT (λ y hy=>?_) ?_)
 ·obtain ⟨k,t,rfl⟩:=items_int hi y hy
  rfl
 ·exact wpAny_pure q
theorem pv (h:IsTupleKey (intKind prog w) s.heap ks a) {Q:Bool->Shared->Prop} (q:Q true s):wpAny (model prog w) A (hashByValue 8 (.ref a)) Q E s:=by
 have ty:=vx h
 obtain ⟨o,items,n,ho,hc,hd,hi⟩:=h
 rw [show (8:Nat)=Nat.succ 7 from rfl,Lg]
 refine wpAny_bind (wpAny_specialOf ty (r:=some (.builtin "tuple.__hash__")) ?_ ?_)
 ·exact PySem.F.slot_tuple_hash.lookup
 dsimp only
 refine wpAny_bind (wpAny_seqItems ho hd ?_)
 dsimp only [Option.getD]
 rw [<-IF]
 refine wpAny_bind (gT (λ y hy=>?_) ?_)
 ·obtain ⟨k,t,rfl⟩:=items_int hi y hy
  rfl
 ·exact wpAny_pure q
noncomputable def ItT (prog:Program) (w:World) (h:Heap) (e:Int×Value) (k:List Int):Prop:=∃ b,e.2=.ref b/\IsTupleKey (intKind prog w) h k b/\e.1=tupleKeyHash (intKind prog w) k
theorem ItT.inj {h:Heap} {e:Int×Value} {k l:List Int} (x:ItT prog w h e k) (y:ItT prog w h e l):k=l:=by
 obtain ⟨b,e1,h1,_⟩:=x
 obtain ⟨c,e2,h2,_⟩:=y
 rw [e1] at e2
 cases e2
 exact (tupleKind (intKind prog w)).inj h1 h2
theorem vy {kx:List Int} {bx:Addr} {l:List Value} (hx:IsTupleKey (intKind prog w) s.heap kx bx) (hl:∀ v∈l,∃ k b,v=.ref b/\IsTupleKey (intKind prog w) s.heap k b) {Q:Bool->Shared->Prop} (q:Q false s):wpAny (model prog w) A (searchCouldBeSeen (.ref bx) l) Q E s:=by
 unfold searchCouldBeSeen
 have:∀ (l:List Value),(∀ v∈l,∃ k b,v=.ref b/\IsTupleKey (intKind prog w) s.heap k b)->∀ (f:Value->Option Bool×Unit->Sem (ForInStep (Option Bool×Unit))),(∀ b k,IsTupleKey (intKind prog w) s.heap k b->∀ (Q':ForInStep (Option Bool×Unit)->Shared->Prop),Q' (.yield (none,())) s->wpAny (model prog w) A (f (.ref b) (none,())) Q' E s)->∀ (Q':Option Bool×Unit->Shared->Prop),Q' (none,()) s->wpAny (model prog w) A (forIn l (none,()) f) Q' E s:=by
  intro l
  induction l with
  | nil=>intro _ f _ Q' q'; rw [Fg]; exact wpAny_pure q'
  | cons v r ih=>
   intro hl f hf Q' q'
   obtain ⟨k,b,rfl,hb⟩:=hl v (Cb ..)
   rw [E4]
   refine wpAny_bind (hf b k hb _ ?_)
   exact ih (λ v hv=>hl v (Cd _ hv)) f hf Q' q'
 refine wpAny_bind (this l hl _ (λ b k hb Q' q'=>?_) _ (wpAny_pure q))
 dsimp only
 refine wpAny_ite_split (λ _=>wpAny_pure q') (λ _=>?_)
 refine wpAny_bind ((tupleKind (intKind prog w)).quiet hx ?_)
 simp only [DJ,BG,if_false]
 refine wpAny_bind ((tupleKind (intKind prog w)).quiet hb ?_)
 simp only [DJ,BG,if_false]
 refine wpAny_bind (iA hx ?_)
 simp only [BG,if_false]
 refine wpAny_bind (iA hb ?_)
 simp only [BG,if_false]
 exact wpAny_pure q'
end
section
variable {prog:Program} {w:World} {A:Around} {E:Value->Shared->Prop} {s:Shared}
theorem l7 {t:SetTable} (hr:Ris t.place.toList) (e1:t.place[i]? = some j) (e2:t.place[k]? = some j):i=k:=by
 rcases C4 i k with q | q | q
 ·exact absurd (gN hr e1 e2 q) (C3 _)
 ·exact q
 ·exact absurd (gN hr e2 e1 q) (C3 _)
theorem pz {bx:Addr} {o:Obj} {es:Array (Int×Value)} {t:SetTable} {kx:List Int} (hu:A.units<cLine) (ho:s.heap.get? a=some o) (hd:o.data=.set es ep t) (hf:t.fits es.size=true) (g:Tgo t es.toList) (hlt:es.size<=t.mask)
  (hel:∀ e∈es.toList,∃ k,ItT prog w s.heap e k) (hx:IsTupleKey (intKind prog w) s.heap kx bx) {Q:SetFound->Shared->Prop} (q1:(∃ e∈es.toList,ItT prog w s.heap e kx)->Q (.there none) s)
  (q2:∀ j,(¬ ∃ e∈es.toList,ItT prog w s.heap e kx)->j∉t.place.toList->j<=t.mask->Rch t.mask t.place.toList (tupleKeyHash (intKind prog w) kx) j->Q (.free j false) s) :
  wpAny (model prog w) A (setSearch a (.ref bx) (tupleKeyHash (intKind prog w) kx) true) Q E s:=by
 unfold setSearch
 generalize hh:tupleKeyHash (intKind prog w) kx=h at q2 ⊢
 obtain ⟨hg1,hg2,hg3⟩:=m5 t.mask h
 obtain ⟨e0,he0,hn0⟩:=gap (m:=t.mask) (pl:=t.place.toList) (by rw [g.len,BP]; exact hlt)
 obtain ⟨K,hK,eK⟩:=ya g.msk hg1 hg2 he0
 have hKn:(trl t.mask (start t.mask h) K).j∉t.place.toList:=by rw [eK]; exact hn0
 have hturn:DF t.mask<=142:=by
  unfold DF
  rcases g.msk with q | q | q<;>lia
 have atP:∀ (i:Nat) j,t.place[i]? = some j->∃ e,es.toList[i]? = some e:=λ i j e=>by
  have:=(Do.mp e).1
  have hl:=g.len
  rw [BP] at hl
  exact ⟨_,Bx (by lia)⟩
 suffices main:∀ (n k:Nat) (p:Option CQ),p.getD (t.probeStart h)=trl t.mask (start t.mask h) k->(∀ k',k'<k->∃ (i:Nat) (e:Int×Value),t.place[i]? = some (trl t.mask (start t.mask h) k').j/\es.toList[i]? = some e/\¬ ItT prog w s.heap e kx)->K - k<n->wpAny (model prog w) A (setSearchFrom a (.ref bx) h true n p) Q E s from
  main 100000 0 none rfl (λ k' hk=>by lia) (by lia)
 intro n
 induction n with
 | zero=>intro k p _ _ hn; lia
 | succ n ih=>
  intro k p hp hk hn
  have hkK:k<=K:=EW λ z=>by
   obtain ⟨i,e,e1,_⟩:=hk K z
   exact hKn (by rw [<-B9] at e1; exact Ch e1)
  unfold setSearchFrom
  refine wpAny_bind (wpAny_setState_of ho hd hf ?_)
  dsimp only
  have hgw:t.gaveWay=false:=by
   unfold Ln
   rcases g.msk with q | q | q<;>rw [q]<;>rfl
  rw [hgw]
  simp only [BG,if_false]
  rw [hp]
  obtain ⟨hp1,hp2,hp3⟩:=lX (m:=t.mask) k (start t.mask h) hg1 hg2 hg3
  obtain ⟨k0,hk0,ek0⟩:=ya g.msk hp1 hp2 he0
  unfold Lr
  obtain ⟨k1,hb,hres⟩:=pk (f:=_) (h:=h) g.ris g.dum (10*DF t.mask) (trl t.mask (start t.mask h) k) hp3 ⟨k0,hk0,by rw [ek0]; exact hn0⟩
  rcases hres with ⟨er,hem⟩ | ⟨i,ei,hfi,er⟩
  ·rw [er]
   dsimp only
   rw [<-cC] at hem
   have hbef:∀ k',k'<k+k1->∃ (i:Nat) (e:Int×Value),t.place[i]? = some (trl t.mask (start t.mask h) k').j/\es.toList[i]? = some e/\¬ ItT prog w s.heap e kx:=λ k' hk'=>by
    by_cases q:k'<k
    ·exact hk k' q
    ·obtain ⟨i,e1,e2⟩:=hb (k' - k) (by lia)
     rw [<-cC,show k+(k' - k)=k' by lia] at e1
     obtain ⟨e,he⟩:=atP i _ e1
     refine ⟨i,e,e1,he,λ z=>e2 ?_⟩
     obtain ⟨_,_,_,z3⟩:=z
     rw [hh] at z3
     show (Jz (λ x=>x.fst) es[i]?).getD 0=h
     rw [<-B9,he,<-z3]
     rfl
   refine wpAny_pure ?_
   rw [<-cC]
   refine q2 _ ?_ hem (lZ _ _ _) ⟨k+k1,rfl,λ k' hk'=>?_⟩
   ·rintro ⟨e,he,hit⟩
    obtain ⟨i,hi,rfl⟩:=Cj he
    have hil:i<t.place.toList.length:=by rw [g.len]; exact hi
    obtain ⟨k2,e2,r2⟩:=g.rch i _ _ (Bx hi) (Bx hil)
    have hhe:es.toList[i].1=h:=by obtain ⟨_,_,_,z3⟩:=hit; rw [z3,hh]
    rw [hhe] at e2 r2
    rcases C4 k2 (k+k1) with q | q | q
    ·obtain ⟨i3,e3,p3,s3,n3⟩:=hbef k2 q
     rw [e2] at p3
     have:i3=i:=l7 g.ris p3 (by rw [<-B9]; exact Bx hil)
     subst this
     rw [Bx hi] at s3
     cases s3
     exact n3 hit
    ·subst q
     rw [e2] at hem
     exact hem (BM hil)
    ·exact hem (r2 _ q)
   ·obtain ⟨i,e,e1,_⟩:=hbef k' hk'
    rw [<-B9] at e1
    exact Ch e1
  ·rw [er]
   dsimp only
   obtain ⟨e,he⟩:=atP i _ ei
   have hea:es[i]? = some e:=by rw [<-B9]; exact he
   obtain ⟨ky,by_,ey,hky,ehy⟩:=hel e (Ch he)
   obtain ⟨e1,e2⟩:=e
   dsimp only at ey ehy
   subst ey
   -- what follows the look whether it could be seen
   have rest:wpAny (model prog w) A (match es[i]? with
         | some (fst,y)=>do
          let equal <-holding [y] (eqBool y (.ref bx))
          let __x <-setState a
          match __x with
           | (es',fst,t')=>
            if (true && equal)=true then pure (JH none)
            else
             match t'.sameMemory t.moves t.mask with
             | some sm9=>
              have __do_jp:=λ (still:Option Nat)=>
               match still with
               | none=>do
                rule "set.search.anew"
                setSearchFrom a (.ref bx) h true n none
               | some i'=>
                if equal=true then pure (JH (some i'))
                else setSearchFrom a (.ref bx) h true n (some (trl t.mask (trl t.mask (start t.mask h) k) (k1+1)));
              match if sm9=true then t'.slot (trl t.mask (trl t.mask (start t.mask h) k) k1).j else K2 with
              | K9 i'=>
               match es'[i']? with
               | some (fst,y')=>do
                let __do_lift <-isSame y' y
                let still <-pure (if __do_lift=true then some i' else none)
                __do_jp still
               | none=>do
                let still <-pure none
                __do_jp still
              | x=>do
               let still <-pure none
               __do_jp still
             | x=>unsupported "set.changed-during-lookup:is-the-new-block-at-the-old-address"
         | x=>unsupported "internal:set-entry") Q E s:=by
    rw [hea]
    dsimp only
    refine wpAny_bind (wpAny_holding ((tupleKind (intKind prog w)).eqBool hu hky hx ?_))
    refine wpAny_bind (wpAny_setState_of ho hd hf ?_)
    dsimp only
    by_cases hq:ky=kx
    ·rw [decide_eq_true hq]
     simp only [JS,if_true]
     exact wpAny_pure (q1 ⟨(e1,.ref by_),Ch he,by_,rfl,hq▸hky,by rw [ehy,hq]⟩)
    ·rw [decide_eq_false hq]
     simp only [Hl,BG,if_false]
     have hsm:t.sameMemory t.moves t.mask=some true:=by unfold K3; rw [if_pos (beq_self_eq_true _)]
     rw [hsm]
     dsimp only
     simp only [if_true]
     rcases iz g.ris g.dum (trl t.mask (trl t.mask (start t.mask h) k) k1).j with ⟨i',ei',es'⟩ | ⟨hnot,_⟩
     ·rw [es']
      dsimp only
      have:i'=i:=l7 g.ris ei' ei
      subst this
      rw [hea]
      dsimp only
      have hsame:isSame (.ref by_) (.ref by_)=pure true:=by unfold isSame; dsimp only; rw [if_pos (beq_self_eq_true _)]
      refine wpAny_bind (wpAny_of_eq hsame ?_)
      refine wpAny_bind (wpAny_pure ?_)
      simp only [if_true]
      refine ih (k+(k1+1)) _ ?_ (λ k' hk'=>?_) ?_
      ·exact (cC t.mask k _ (k1+1)).symm
      ·by_cases q:k'<k
       ·exact hk k' q
       ·by_cases q9:k'=k+k1
        ·subst q9
         rw [cC]
         exact ⟨i',_,ei,he,λ z=>hq (ItT.inj ⟨by_,rfl,hky,ehy⟩ z)⟩
        ·obtain ⟨i2,e9,e8⟩:=hb (k' - k) (by lia)
         rw [<-cC,show k+(k' - k)=k' by lia] at e9
         obtain ⟨e7,he7⟩:=atP i2 _ e9
         refine ⟨i2,e7,e9,he7,λ z=>e8 ?_⟩
         obtain ⟨_,_,_,z3⟩:=z
         rw [hh] at z3
         show (Jz (λ x=>x.fst) es[i2]?).getD 0=h
         rw [<-B9,he7,<-z3]
         rfl
      ·have:k+k1<K:=by
        refine Nat.lt_of_not_le λ z=>?_
        rcases Dj z with z | z
        ·rw [z,cC] at hKn
         exact hKn (by rw [<-B9] at ei; exact Ch ei)
        ·obtain ⟨i2,e9,_⟩:=hb (K - k) (by lia)
         rw [<-cC,show k+(K - k)=K by lia,<-B9] at e9
         exact hKn (Ch e9)
       lia
     ·exact absurd (by rw [<-B9] at ei; exact Ch ei) hnot
   refine wpAny_ite_split (λ _=>?_) (λ _=>rest)
   refine wpAny_bind (vy hx (λ v hv=>?_) ?_)
   ·obtain ⟨e9,h9,rfl⟩:=BK.mp hv
    have h9:=(EV.mp h9)
    have h9:=(Array.mem_filter.mp h9).1
    obtain ⟨k9,b9,q9,q8,_⟩:=hel e9 (EV.mpr h9)
    exact ⟨k9,b9,q9,q8⟩
   ·simp only [BG,if_false]
    exact rest
end
noncomputable def Ext (h0 h:Heap):Prop:=∀ b o,h0.get? b=some o->h.get? b=some o
section
variable {prog:Program} {w:World} {A:Around} {E:Value->Shared->Prop} {s:Shared}
theorem l8 {k:List Int} {b:Addr} (x:IsTupleKey (intKind prog w) h0 k b) (e:Ext h0 h):IsTupleKey (intKind prog w) h k b:=by
 obtain ⟨o,items,n,ho,r⟩:=x
 exact ⟨o,items,n,e b o ho,r⟩
theorem ItT.ext {e:Int×Value} {k:List Int} (x:ItT prog w h0 e k) (ex:Ext h0 h):ItT prog w h e k:=by
 obtain ⟨b,e1,e2,e3⟩:=x
 exact ⟨b,e1,l8 e2 ex,e3⟩
structure GoT (prog:Program) (w:World) (h0:Heap) (bs:List Addr) (es:Array (Int×Value)) (t:SetTable) (ks:List (List Int)):Prop where
 el:∀ e∈es.toList,∃ k,ItT prog w h0 e k
 own:∀ e∈es.toList,∃ b,e.2=.ref b/\b∈bs
 mem:∀ k,k∈ks↔∃ e∈es.toList,ItT prog w h0 e k
 tg:Tgo t es.toList
 few:es.size*5<t.mask*3
 len:es.size=ks.length
 nd:ks.Nodup
 led:t.led=!gj w
theorem kW {t:SetTable} {es:Array (Int×Value)} (g:Tgo t es.toList) (h:es.size<=t.mask):t.fits es.size=true:=by
 have hl:=g.len
 rw [BP,BP] at hl
 unfold JQ JT
 rw [g.dum,hl]
 simp [h]
noncomputable def SetT (prog:Program) (w:World) (h0:Heap) (bs:List Addr) (h:Heap) (a:Addr) (ks:List (List Int)):Prop:=∃ o es ep t,h.get? a=some o/\o.ExactSet/\o.data=.set es ep t/\GoT prog w h0 bs es t ks
theorem SetT.at {g:Heap} {bs:List Addr} {ks:List (List Int)} (x:SetT prog w h0 bs h a ks) (k:∀ o,h.get? a=some o->g.get? a=some o):SetT prog w h0 bs g a ks:=by
 obtain ⟨o,es,ep,t,e,r⟩:=x
 exact ⟨o,es,ep,t,k o e,r⟩
theorem Bm {bs:List Addr} {bx:Addr} {ks:List (List Int)} {k:List Int} {Q:Bool->Shared->Prop} (hu:A.units<cLine) (hx:IsTupleKey (intKind prog w) h0 k bx) (hbx:bx∈bs) (hext:Ext h0 s.heap) (hS:SetT prog w h0 bs s.heap a ks) (hroom:ks.length<=60)
  (h:∀ g b,EO a s.heap g->SetT prog w h0 bs g a (if k∈ks then ks else ks++[k])->Q b { s with heap:=g }):wpAny (model prog w) A (setAddHashed a (.ref bx) (tupleKeyHash (intKind prog w) k)) Q E s:=by
 obtain ⟨o,es,ep,t,ho,hox,hd,G⟩:=hS
 have g:=G.tg
 have hfew:=G.few
 have hlen:=G.len
 have hmk:=g.msk
 have hle:es.size+1<=t.mask:=by rcases hmk with q | q | q<;>rw [q] at hfew ⊢<;>lia
 have hf:t.fits es.size=true:=kW g (by lia)
 unfold setAddHashed
 refine wpAny_holding ?_
 rw [show (100000:Nat)=99999+1 from rfl]
 unfold setAddHashedIn
 refine wpAny_bind (wpAny_setState_of ho hd hf ?_)
 dsimp only
 have hbs:byScan (.ref bx) es=false:=rfl
 rw [hbs]
 simp only [BG,if_false]
 have hel:∀ e∈es.toList,∃ k,ItT prog w s.heap e k:=λ e he=>by obtain ⟨k,q⟩:=G.el e he; exact ⟨k,q.ext hext⟩
 have hin:(∃ e∈es.toList,ItT prog w s.heap e k)↔k∈ks:=by
  rw [G.mem]
  constructor
  ·rintro ⟨e,he,q⟩
   obtain ⟨k2,q2⟩:=G.el e he
   have:=(q2.ext hext).inj q
   subst this
   exact ⟨e,he,q2⟩
  ·rintro ⟨e,he,q⟩
   exact ⟨e,he,q.ext hext⟩
 refine wpAny_bind (pz hu ho hd hf g (by lia) hel (l8 hx hext) (λ hq=>?_) (λ j hnq hj hjm hr=>?_))
 ·dsimp only
  refine wpAny_pure ?_
  have:=h s.heap false (IK a s.heap) (by rw [if_pos (hin.mp hq)]; exact ⟨o,es,ep,t,ho,hox,hd,G⟩)
  exact this
 ·have hk:k∉ks:=λ z=>hnq (hin.mpr z)
  rw [if_neg hk] at h
  dsimp only
  refine wpAny_bind (wpAny_setState_of ho hd hf ?_)
  dsimp only
  obtain ⟨hp,tg1,led1,_,mk1,_⟩:=Tgo.put (x:=.ref bx) g hj hjm hr
  generalize t.put j=P at hp tg1 led1 mk1
  obtain ⟨t1,p⟩:=P
  dsimp only at hp tg1 led1 mk1 ⊢
  have sz1:(Dr es p (tupleKeyHash (intKind prog w) k,Cp bx)).size=es.size+1:=by
   rw [<-BP,aZ]
   simp only [BO,Ci,BV,Cr,BP]
   lia
  have pm1:(Dr es p (tupleKeyHash (intKind prog w) k,Cp bx)).toList.Perm (es.toList++[(tupleKeyHash (intKind prog w) k,Cp bx)]):=by
   rw [aZ]
   refine EY.trans ?_
   rw [Ck]
   exact (List.perm_append_singleton _ _).symm
  generalize Dr es p (tupleKeyHash (intKind prog w) k,Cp bx)=es1 at tg1 sz1 pm1 ⊢
  have good:∀ (es2:Array (Int×Value)) (t2:SetTable),es2.toList.Perm es1.toList->Tgo t2 es2.toList->es2.size*5<t2.mask*3->t2.led=t1.led->GoT prog w h0 bs es2 t2 (ks++[k]):=λ es2 t2 p2 g2 f2 l2=>by
   have p3:=p2.trans pm1
   have nw:ItT prog w h0 (tupleKeyHash (intKind prog w) k,Cp bx) k:=⟨bx,rfl,hx,rfl⟩
   refine ⟨λ e he=>?_,λ e he=>?_,λ k'=>?_,g2,f2,?_,?_,by rw [l2,led1,G.led]⟩
   ·rcases BY.mp (p3.mem_iff.mp he) with q | q
    ·exact G.el e q
    ·rw [BH.mp q]; exact ⟨k,nw⟩
   ·rcases BY.mp (p3.mem_iff.mp he) with q | q
    ·exact G.own e q
    ·rw [BH.mp q]; exact ⟨bx,rfl,hbx⟩
   ·rw [BY,G.mem k',BH]
    constructor
    ·rintro (⟨e,he,q⟩ | rfl)
     ·exact ⟨e,p3.mem_iff.mpr (CN _ he),q⟩
     ·exact ⟨_,p3.mem_iff.mpr (BL _ (List.mem_singleton_self _)),nw⟩
    ·rintro ⟨e,he,q⟩
     rcases BY.mp (p3.mem_iff.mp he) with z | z
     ·exact .inl ⟨e,z,q⟩
     ·rw [BH.mp z] at q
      exact .inr (q.inj nw)
   ·rw [<-BP,p3.length_eq]; simp [hlen]
   ·exact Fp.mpr ⟨G.nd,DZ _ _,λ a ha b hb e=>by rw [BH.mp hb] at e; exact hk (e▸ha)⟩
  have tail:∀ (t2:SetTable),Tgo t2 es1.toList->t2.led=t1.led->t2.mask=t1.mask->wpAny (model prog w) A (do
     storeSet a es1 t2
     if (!false && t2.tooFull)=true then do
       setRelay a (FY (es.size+1))
       pure true
      else pure true) Q E s:=λ t2 g2 l2 m2=>by
   refine wpAny_bind (wpAny_storeSet_of ho hd ?_ (by rw [sizeLine_eq]; lia))
   have ho1:=stored (es1:=es1) (t1:=t2) ho hd
   have sb1:=DG s.heap a (Jw es1 t2)
   have hfl:t2.fill=es1.size:=by
    have hl:=g2.len
    rw [BP,BP] at hl
    unfold JT
    rw [g2.dum,hl]
    rfl
   have f1:t2.fits es1.size=true:=kW g2 (by rw [m2,mk1,sz1]; lia)
   by_cases hfu:t2.tooFull=true
   ·rw [hfu]
    simp only [JE,JS,if_true]
    have hbig:es1.size*5>=t2.mask*3:=by
     unfold Ji at hfu
     rw [hfl] at hfu
     exact of_decide_eq_true hfu
    -- how many there are
    obtain ⟨mN,hmN,em,hN1,hN2,hN3⟩:∃ mN,Msk mN/\D6 (FY (es.size+1))=mN+1/\es1.size<=mN+1/\es1.size*5<mN*3/\mN+1<=sizeLine:=by
     rw [m2,mk1,sz1] at hbig
     rcases hmk with q | q | q
     ·have e4:es.size=4:=by rw [q] at hfew hbig; lia
      refine ⟨31,.inr (.inl rfl),by rw [e4]; decide +kernel,by lia,by lia,by rw [sizeLine_eq]; lia⟩
     ·have e4:es.size=18:=by rw [q] at hfew hbig; lia
      refine ⟨127,.inr (.inr rfl),by rw [e4]; decide +kernel,by lia,by lia,by rw [sizeLine_eq]; lia⟩
     ·exfalso
      rw [q] at hbig
      lia
    refine wpAny_bind ?_
    unfold setRelay
    refine wpAny_bind (wpAny_setState_of ho1 rfl f1 ?_)
    dsimp only
    rw [em,if_neg (by lia)]
    have em':D6 (FY (es.size+1)) - 1=mN:=by rw [em]; rfl
    obtain ⟨t3,order,er,g3,p3,l3,m3⟩:=Tgo.relay (t:=t2) (es:=es1) (n:=FY (es.size+1)) (by rw [em']; exact hmN) (by rw [em']; exact hN1)
    rw [er]
    have sz3:(order.filterMap (es1[·]?)).size=es1.size:=by rw [<-BP,p3.length_eq,BP]
    show wpAny _ _ ((if ((order.filterMap (es1[·]?)).size != es1.size)=true then (do let __r <-unsupported "internal:set-table-lost-an-element"; pure (order.filterMap (es1[·]?),t3)) else pure (order.filterMap (es1[·]?),t3)) >>= _) _ _ _
    rw [if_neg (by rw [sz3]; simp)]
    refine wpAny_bind (wpAny_pure ?_)
    dsimp only
    refine wpAny_storeSet_of ho1 rfl ?_ (by rw [sizeLine_eq,sz3]; lia)
    refine wpAny_pure ?_
    exact h _ _ (sb1.trans (DG _ a _)) ⟨_,_,_,t3,stored ho1 rfl,hox,rfl,good _ t3 p3 g3 (by rw [m3,em',sz3]; exact hN2) (by rw [l3,l2])⟩
   ·rw [EK.mpr hfu]
    simp only [Hl,BG,if_false]
    refine wpAny_pure (h _ _ sb1 ⟨_,es1,_,t2,ho1,hox,rfl,good es1 t2 (DC _) g2 ?_ l2⟩)
    unfold Ji at hfu
    rw [hfl] at hfu
    have hno:¬ es1.size*5>=t2.mask*3:=λ z=>hfu (decide_eq_true z)
    lia
  refine wpAny_ite_split (λ _=>?_) (λ _=>?_)
  ·refine wpAny_bind (pv (l8 hx hext) ?_)
   simp only [if_true]
   exact tail t1 tg1 rfl rfl
  ·refine wpAny_bind (wpAny_pure ?_)
   simp only [if_true]
   exact tail t1 tg1 rfl rfl
end
noncomputable def iB (val:Nat->List Int):Nat->List (List Int)
 | 0=>[]
 | i+1=>if val i∈iB val i then iB val i else iB val i++[val i]
theorem jj (val:Nat->List Int):∀ i,(iB val i).length<=i
 | 0=>BD _
 | i+1=>by
  have:=jj val i
  unfold iB
  split
  ·lia
  ·rw [BO,FE]; lia
theorem l9 {val:Nat->List Int} {k:List Int}:∀ {n:Nat},k∈iB val n↔∃ i,i<n/\val i=k
 | 0=>by constructor; (intro h; cases h); (rintro ⟨i,h,_⟩; lia)
 | n+1=>by
  have ih:=l9 (val:=val) (k:=k) (n:=n)
  have key:k∈iB val (n+1)↔k∈iB val n\/k=val n:=by
   show k∈(if val n∈iB val n then iB val n else iB val n++[val n])↔_
   split
   ·rename_i h
    exact ⟨.inl,λ q=>q.elim id λ e=>e▸h⟩
   ·rw [BY,BH]
  rw [key,ih]
  constructor
  ·rintro (⟨i,h,e⟩ | e)
   ·exact ⟨i,by lia,e⟩
   ·exact ⟨n,by lia,e.symm⟩
  ·rintro ⟨i,h,e⟩
   by_cases z:i=n
   ·exact .inr (z▸e.symm)
   ·exact .inl ⟨i,by lia,e⟩
theorem rN (b:Bool):Tgo (Ls 0 0 b) (#[]:Array (Int×Value)).toList:=by
 refine ⟨.inl rfl,rfl,IJ,λ j hj=>(nomatch hj),rfl,λ i e j he hj=>?_⟩
 simp at he
section
variable {prog:Program} {w:World} {A:Around} {E:Value->Shared->Prop} {s:Shared}
theorem pA {R:Result->Shared->Prop} {I S:Addr} {wr:List Addr} {P:Nat->Value->Prop} {St:Nat->Heap->Prop} {bs:List Addr} (W:Walks prog w A.in1 I fp wr n P St) (hu:A.in1.units<cLine) (hSf:S∉fp) (val:Nat->List Int) (hv:∀ i v,P i v->∃ b,v=.ref b/\b∈bs/\IsTupleKey (intKind prog w) h0 (val i) b) (hfr:∀ b o,h0.get? b=some o->b≠S/\b∉wr) (hb:n<=60) :
  ∀ (k i:Nat) (s:Shared),n - i=k->i<=n->St i s.heap->Ext h0 s.heap->SetT prog w h0 bs s.heap S (iB val i)->
   (∀ g tk,(∀ b o,b≠S->b∉wr->s.heap.get? b=some o->g.get? b=some o)->SetT prog w h0 bs g S (iB val n)->R (.ok (.ret .none)) { s with heap:=g,toks:=tk })->
   codeAny (model prog w) A (.builtin "set.update.loop" ⟨[.ref S,.ref I],[]⟩) R s:=by
 have hSw:S∉wr:=λ z=>hSf (W.sub _ z)
 intro k
 induction k with
 | zero=>
  intro i s hk hi hst hx hS hR
  have hin:i=n:=by lia
  subst hin
  refine codeAny_builtin Ff ?_
  rw [Eg D7 _]
  show wpAny _ A.in1 (pyNext (.ref I) >>= _) _ _ s
  refine wpAny_bind (W.done s _ _ hst λ g tk kp=>?_)
  exact wpAny_pure (hR g tk (λ b o _ q e=>kp b o q e) (hS.at λ o e=>kp S o hSw e))
 | succ k ih=>
  intro i s hk hi hst hx hS hR
  have hlt:i<n:=by lia
  refine codeAny_builtin Ff ?_
  rw [Eg D7 _]
  show wpAny _ A.in1 (pyNext (.ref I) >>= _) _ _ s
  refine wpAny_bind (W.item i s _ _ hlt hst λ v g tk hP st1 kp=>?_)
  obtain ⟨b,rfl,hbs,hkb⟩:=hv i v hP
  have hS1:SetT prog w h0 bs g S (iB val i):=hS.at λ o e=>kp S o hSw e
  have hx1:Ext h0 g:=λ c o e=>kp c o (hfr c o e).2 (hx c o e)
  show wpAny _ A.in1 (holding [Cp b] (setAdd S (.ref b)) >>= _) _ _ { s with heap:=g,toks:=tk }
  refine wpAny_bind (wpAny_holding ?_)
  unfold setAdd
  refine wpAny_holding (wpAny_bind (wpAny_pyHash_tuple (s:={ s with heap:=g,toks:=tk }) hu (l8 hkb hx1) ?_))
  have hl:=jj val i
  refine Bm (s:={ s with heap:=g,toks:=_ }) hu hkb hbs hx1 hS1 (by lia) λ g2 b sb hS2=>?_
  have hS2:SetT prog w h0 bs g2 S (iB val (i+1)):=hS2
  refine wpAny_pure ⟨plainId_quiet D7 _,ih (i+1) _ (by lia) hlt (W.frame _ _ _ st1 λ c hc o e=>?_) (λ c o e=>(sb.2 c (hfr c o e).1).trans (hx1 c o e)) hS2 λ g3 tk3 k3 hS3=>?_⟩
  ·exact (sb.2 c (λ z=>hSf (z▸hc))).trans e
  ·exact hR g3 tk3 (λ c o q1 q2 e=>k3 c o q1 q2 ((sb.2 c q1).trans (kp c o q2 e))) hS3
set_option maxHeartbeats 3200000 in
theorem jV {val:Nat->List Int} {bs:List Addr} (hu:A.units+9<cLine) (hh:A.handled=none) (hl:s.heap.IsList l its.toArray) (hv:∀ (i:Nat) v,its[i]? = some v->∃ b,v=.ref b/\b∈bs/\IsTupleKey (intKind prog w) s.heap (val i) b) (hb:its.length<=60)
  (h:∀ g tk,SetT prog w s.heap bs g s.heap.objs.size (iB val its.length)->(∀ b o,s.heap.get? b=some o->g.get? b=some o)->Q (.ref s.heap.objs.size) { s with heap:=g,toks:=tk }) :
  wpAny (model prog w) A (call (.type "set") [.ref l]) Q E s:=by
 obtain ⟨c,tl,hmro⟩:=Dy.mro
 have hmade:=Dy.made
 have hsub:=Dy.sub
 refine wpAny_call (codeAny_of_tree ?_)
 show wpAny _ _ (callAny (.type "set") _) _ _ _
 refine wpAny_pure ⟨Code.quiet_builtin _ (by decide +kernel),codeAny_builtin PySem.F.entry_type_call ?_⟩
 rw [Around.under_plain (weight_type_call_type "set" [.ref l] []) rfl]
 have q1:=Dy.notType
 have q2:=Dy.canCreate
 have q3:=PySem.F.typeCall_set_1 (.ref l)
 repeat (any_goals (first | assumption | wp_step))
 refine codeAny_mono (vo (.ref l) (E:=E) (Q:=λ obj s₁=>obj=.ref s.heap.objs.size/\s₁={ s with heap:=s.heap.push { cls:=.type "set",dict:=none,data:=.set #[] 0 (.fresh 0 0 (!gj w)) } }) ⟨rfl,rfl⟩) λ r s₁ hr=>?_
 cases r with
 | error e=>exact hr
 | ok fl=>
  cases fl with
  | ret obj=>
   obtain ⟨rfl,rfl⟩:=hr
   have tS:(s.heap.push { cls:=.type "set",dict:=none,data:=.set #[] 0 (.fresh 0 0 (!gj w)) }).get? s.heap.objs.size=some { cls:=.type "set",dict:=none,data:=.set #[] 0 (.fresh 0 0 (!gj w)) }:=BU _ rfl
   have ty:Fy { s with heap:=s.heap.push { cls:=.type "set",dict:=none,data:=.set #[] 0 (.fresh 0 0 (!gj w)) } } (.ref s.heap.objs.size) "set":=⟨_,tS,rfl⟩
   have q4:=Dy.init.lookup
   have q5:=Dy.init.bind (.ref s.heap.objs.size)
   repeat (any_goals (first | assumption | wp_step))
   refine codeAny_mono (codeAny_call_builtin (R:=wants (λ r s₂=>r=.none/\∃ g tk,s₂={ s with heap:=g,toks:=tk }/\SetT prog w s.heap bs g s.heap.objs.size (iB val its.length)/\∀ b o,s.heap.get? b=some o->g.get? b=some o) E) Dy.init.plain PySem.F.entry_set_init (check_set_init_1 ty ?_)) λ r₂ s₂ hr₂=>?_
   ·obtain ⟨ol,hol,hcl,nl,hdl⟩:=hl
    obtain ⟨ocls,odict,odata,oslots⟩:=ol
    simp only at hcl hdl
    subst hcl hdl
    have hol1:(s.heap.push { cls:=.type "set",dict:=none,data:=.set #[] 0 (.fresh 0 0 (!gj w)) }).get? l=some { cls:=.type "list",dict:=odict,data:=.seq its.toArray nl,slots:=oslots }:=BB _ hol
    have q6:=PySem.F.sub_list_set
    have q7:=PySem.F.sub_list_frozenset
    have q8:(Ds "list" == Ds "dict")=false:=by decide
    have hl1:(s.heap.push { cls:=.type "set",dict:=none,data:=.set #[] 0 (.fresh 0 0 (!gj w)) }).IsList l its.toArray:=⟨_,hol1,rfl,nl,rfl⟩
    unfold Builtin.«set.__init__» noKeywords JI
    generalize hPI:pyIter=PI
    wp_walk
    subst hPI
    refine wpAny_pyIter_list hl1 ?_
    refine wpAny_bind (wpAny_runValue ?_)
    have hlS:l<s.heap.objs.size:=BJ hol
    have hh3:A.in1.in1.in1.handled=none:=by simp [hh]
    have eI:(s.heap.push { cls:=.type "set",dict:=none,data:=.set #[] 0 (.fresh 0 0 (!gj w)) }).objs.size=s.heap.objs.size+1:=size_push' ..
    have hneI:l≠(s.heap.push { cls:=.type "set",dict:=none,data:=.set #[] 0 (.fresh 0 0 (!gj w)) }).objs.size:=by rw [eI]; exact B0 (EM hlS)
    have hSf:s.heap.objs.size∉[(s.heap.push { cls:=.type "set",dict:=none,data:=.set #[] 0 (.fresh 0 0 (!gj w)) }).objs.size,l]:=by
     rw [eI]
     intro z
     simp only [BS,CD,or_false] at z
     rcases z with z | z
     ·exact absurd z.symm (Jb _)
     ·exact absurd z (Df hlS)
    have ez:its.toArray.size=its.length:=BQ ..
    have g0:((s.heap.push { cls:=.type "set",dict:=none,data:=.set #[] 0 (.fresh 0 0 (!gj w)) }).push { cls:=.type "list_iterator",data:=.fields #[.ref l,.int 0 0] }).get? s.heap.objs.size=some { cls:=.type "set",dict:=none,data:=.set #[] 0 (.fresh 0 0 (!gj w)) }:=BB _ tS
    refine pA (h0:=s.heap) (bs:=bs) (KU hh3 _ l hneI its.toArray) (show A.units+1+1+1<cLine by lia) hSf val (λ i v e=>hv i v (by simpa using e)) (λ b o e=>?_) (by rw [ez]; exact hb) (its.toArray.size - 0) 0 _ (by lia) (Ca _) ⟨⟨_,BU _ rfl,rfl,rfl⟩,hl1.push _⟩ (λ b o e=>BB _ (BB _ e)) ?_ λ g tk kp hG=>?_
    ·have hbl:=BJ e
     refine ⟨B0 hbl,?_⟩
     rw [eI]
     intro z
     have:b=s.heap.objs.size+1:=by simpa using z
     exact absurd hbl (by rw [this]; exact Jj (Ft _))
    ·refine ⟨_,#[],0,_,g0,⟨rfl,rfl,rfl⟩,rfl,λ e he=>by simp at he,λ e he=>by simp at he,λ k=>?_,rN _,(show 0*5<7*3 by decide),rfl,Fi,rfl⟩
     constructor
     ·intro h; cases h
     ·rintro ⟨e,he,_⟩; simp at he
    ·refine wpAny_pure ?_
     show wpAny _ _ (ret CC) _ _ _
     rw [ez] at hG
     refine wpAny_pure ⟨rfl,g,tk,rfl,hG,λ b o e=>?_⟩
     have hbl:=BJ e
     refine kp b o (B0 hbl) ?_ (BB _ (BB _ e))
     rw [eI]
     intro z
     have:b=s.heap.objs.size+1:=by simpa using z
     exact absurd hbl (by rw [this]; exact Jj (Ft _))
   ·cases r₂ with
    | error e=>exact hr₂
    | ok fl₂=>
     cases fl₂ with
     | ret r=>
      obtain ⟨rfl,g,tk,rfl,hG,kp⟩:=hr₂
      repeat (any_goals (first | assumption | wp_step))
      exact h _ _ hG kp
     | _=>exact hr₂.elim
  | _=>exact hr.elim
theorem jW {es:Array (Int×Value)} {t:SetTable} {Q:List Value->Shared->Prop} (hh:A.handled=none) (hS:sX s.heap a es ep t) (hled:t.led=!gj w) (hsz:es.size<=1000)
  (h:∀ g tk d us,(∀ b o,s.heap.get? b=some o->g.get? b=some o)->us.Perm (es.toList.map (·.2))->Q us { s with heap:=g,toks:=tk,drawn:=d }):wpAny (model prog w) A (collect (.ref a)) Q E s:=by
 obtain ⟨o,ho,hx1,hd,hf,hr⟩:=id hS
 have hal:a<s.heap.objs.size:=BJ ho
 unfold collect
 refine wpAny_bind (wpAny_runValue (codeAny_builtin PySem.F.entry_proto_collect ?_))
 rw [Eg PySem.F.plain_proto_collect _]
 show wpAny _ A.in1 (newList [] >>= λ l=>again (.builtin "list.__iadd__" ⟨[l,.ref a],[]⟩)) _ _ s
 refine wpAny_bind (wpAny_newObj_type ?_)
 refine wpAny_pure ⟨plainId_quiet G1 _,codeAny_builtin PySem.F.entry_list_iadd ?_⟩
 rw [Eg G1 _]
 show wpAny _ A.in1 (Gm (.ref s.heap.objs.size) (.ref a) (.ref s.heap.objs.size)) _ _ _
 have tS:(s.heap.push (seqObj "list" #[] 0)).get? s.heap.objs.size=some (seqObj "list" #[] 0):=BU _ rfl
 have hS1:sX (s.heap.push (seqObj "list" #[] 0)) a es ep t:=⟨o,BB _ ho,hx1,hd,hf,hr⟩
 have ty1:Fy { s with heap:=s.heap.push (seqObj "list" #[] 0) } (.ref a) "set":=⟨o,BB _ ho,hx1⟩
 show wpAny _ _ _ _ _ { s with heap:=s.heap.push (seqObj "list" #[] 0) }
 unfold Gm
 refine wpAny_bind (wpAny_typeOf (T:="set") ty1 ?_)
 have n1:Ek (.ref s.heap.objs.size) (.ref a)=false:=by simp [Ek,Df hal]
 simp only [n1,show (Ds "set" == Ds "list")=false by decide,show (Ds "set" == Ds "tuple")=false by decide,JM,BG,if_false]
 refine wpAny_bind (rK (s:={ s with heap:=s.heap.push (seqObj "list" #[] 0) }) hS1 hled (by lia) λ g it T us d kp hit1 hT1 hperm hsit=>?_)
 have hul:us.length=es.size:=by rw [hperm.length_eq,By,BP]
 have eL:(s.heap.push (seqObj "list" #[] 0)).objs.size=s.heap.objs.size+1:=size_push' ..
 have hit1:s.heap.objs.size+1<=it:=by rw [<-eL]; exact hit1
 have tg:g.get? s.heap.objs.size=some (seqObj "list" #[] 0):=kp _ _ tS
 have hSg:sX g a es ep t:=by obtain ⟨o',h1,r⟩:=hS1; exact ⟨o',kp _ _ h1,r⟩
 have hna:a≠it:=B0 (B5 hal (CM (Ft _) hit1))
 -- what the loop comes to
 have vals:∀ acc:Array Value,ItemsOf (λ i v=>us[i]? = some v) acc es.size->acc.toList=us:=λ acc hacc=>by
  apply EJ
  intro j
  rw [B9]
  cases e:acc[j]? with
  | some v=>exact (hacc.2 j v e).symm
  | none=>
   have:=Array.getElem?_eq_none_iff.mp e
   rw [hacc.1] at this
   exact (CB (by lia)).symm
 have hTS:T≠s.heap.objs.size:=λ z=>by
  have:(s.heap.push (seqObj "list" #[] 0)).objs.size<=T:=hT1
  rw [eL,z] at this
  exact absurd this (GW (E1 _))
 have key:∀ (g1:Heap) (c1:Nat),(∀ b o,b≠s.heap.objs.size->g.get? b=some o->g1.get? b=some o)->g1.get? s.heap.objs.size=some (seqObj "list" #[] c1)->
   codeAny (model prog w) A (.builtin "list.extend.loop" ⟨[.ref s.heap.objs.size,.ref it,.ref s.heap.objs.size],[]⟩)
    (λ q s'=>q=.ok (.ret (.ref s.heap.objs.size))/\∃ g tk acc c,s'={ s with heap:=g,toks:=tk,drawn:=d }/\(∀ b o,s.heap.get? b=some o->g.get? b=some o)/\g.get? s.heap.objs.size=some (seqObj "list" acc c)/\acc.toList=us) { s with heap:=g1,drawn:=d }:=by
  intro g1 c1 k1 t1
  have W:=(rJ (prog:=prog) (w:=w) (A:=A.in1) (it:=it) (a:=a) (es:=es) (ep:=ep) (t:=t) (us:=us) T hh hul hna hled).toS
  have hnS:s.heap.objs.size∉[it,a,T]:=by
   intro z
   simp only [BS,CD,or_false] at z
   rcases z with z | z | z
   ·exact absurd hit1 (by rw [<-z]; exact GW (E1 _))
   ·exact absurd z (Df hal)
   ·exact hTS z.symm
  refine codeAny_extend_loopS W (by rw [sizeLine_eq]; lia) s.heap.objs.size hnS (.ref s.heap.objs.size) es.size 0 { s with heap:=g1,drawn:=d } #[] c1 (by lia) (Ca _) ⟨?_,hsit.at λ b o hb e=>k1 b o ?_ e⟩ t1 (ItemsOf.nil _) λ s' acc c2 mv t2 hacc=>?_
  ·obtain ⟨o',h1,r⟩:=hSg
   exact ⟨o',k1 _ _ (B0 hal) h1,r⟩
  ·rcases hb with rfl | rfl
   ·exact λ z=>absurd hit1 (by rw [z]; exact GW (E1 _))
   ·exact hTS
  ·refine ⟨rfl,s'.heap,s'.toks,acc,c2,?_,λ b o e=>mv.heap b o ?_ (k1 b o (B0 (BJ e)) (kp b o (BB _ e))),t2,vals acc hacc⟩
   ·obtain ⟨h9,g9,d9,t9,o9⟩:=s'
    have m1:g9=s.gens:=mv.gens
    have m2:d9=d:=mv.drawn
    have m3:o9=s.os:=mv.os
    subst m1 m2 m3
    rfl
   ·intro z
    have hbl:=BJ e
    simp only [BS,CD,or_false] at z
    rcases z with z | z
    ·exact absurd hbl (by rw [z]; exact C3 _)
    ·exact absurd (B5 hbl (CM (Ft _) hit1)) (by rw [z]; exact C3 _)
 have fin:∀ s',(∃ g tk acc c,s'={ s with heap:=g,toks:=tk,drawn:=d }/\(∀ b o,s.heap.get? b=some o->g.get? b=some o)/\g.get? s.heap.objs.size=some (seqObj "list" acc c)/\acc.toList=us)->
   wpAny (model prog w) A (match Cp s.heap.objs.size with
   | Cp a=>do
    match (<-load a).data with
     | Lj xs _=>pure xs.toList
     | _=>unsupported "internal:collect"
   | _=>unsupported "internal:collect") Q E s':=by
  rintro s' ⟨g,tk,acc,c,rfl,k9,t9,hacc⟩
  show wpAny _ A (load s.heap.objs.size >>= _) _ _ _
  refine wpAny_bind (wpAny_load t9 (wpAny_pure ?_))
  show Q acc.toList _
  rw [hacc]
  exact h g tk d us k9 hperm
 have tyg:Fy { s with heap:=g,drawn:=d } (.ref a) "set":=by obtain ⟨o',h1,h2,_⟩:=hSg; exact ⟨o',h1,h2⟩
 refine wpAny_bind (wpAny_holding (rL tyg ?_))
 refine wpAny_ite_split (λ _=>?_) (λ _=>wpAny_pure ⟨plainId_quiet GL _,codeAny_mono (key g 0 (λ b o _ e=>e) tg) λ q s' hq=>by obtain ⟨rfl,r⟩:=hq; exact fin s' r⟩)
 refine wpAny_bind (wpAny_rule (wpAny_bind ?_))
 show wpAny _ _ (updateSeq s.heap.objs.size (·.push .none) >>= λ _=>updateSeq s.heap.objs.size (·.pop)) _ _ _
 refine wpAny_bind (wpAny_updateSeq tg rfl ?_)
 have hS2:=D8 (DA (·.push CC)) tg rfl
 refine wpAny_updateSeq (hz:=by seq_fits) hS2 rfl ?_
 have hS3:=D8 (DA (·.pop)) hS2 rfl
 refine wpAny_pure ⟨plainId_quiet GL _,codeAny_mono (key _ _ (λ b o nb e=>?_) hS3) λ q s' hq=>by obtain ⟨rfl,r⟩:=hq; exact fin s' r⟩
 exact (EE _ _ (DN nb)).trans ((EE _ _ (DN nb)).trans e)
end
theorem jX:∀ {ks ms:List (List Int)},ks.Nodup->(∀ k∈ks,k∈ms)->ms.length<=ks.length->ms.Perm ks
 | [],ms,_,_,hl=>by
  have:ms=[]:=DY (by simpa using hl)
  rw [this]
 | k::r,ms,hn,hs,hl=>by
  have hk:=hs k (Cb ..)
  have hn':=CW.mp hn
  have h1:=Ee hk
  have hlen:=h1.length_eq
  refine h1.trans ((jX hn'.2 (λ j hj=>?_) ?_).cons k)
  ·have hne:j≠k:=λ z=>hn'.1 (z▸hj)
   exact (Ef hne).mpr (hs j (Cd _ hj))
  ·simp only [Ci] at hlen hl
   lia
end HT
namespace L2
open PySem PySem.Spec PyProof.Rows PySem.W
section
variable {X:Cx} {e:Expr} {t:TA} {p p2 pos pos2:Pos} {pins:List (Addr×Obj)} {σ:St} {H:Hp} {s:Shared}
noncomputable def me (K:BA) (Q:VK):List V->Hp->Prop:=λ vs H1=>∃ (l:Addr) (rs:List Addr) (rss:List (List Int)),vs=[.ref l]/\SqL K H1 l (rs.map LD)/\rs.length=rss.length/\rs.length<=60/\
 (∀ (i:Nat) a r,rs[i]? = some a->rss[i]? = some r->SqT K H1 a (r.map Lz))/\((∀ r∈rss,r=[])\/(∀ r∈rss,r≠[]))/\
 ∀ (d:Addr) (as:List Addr) (kss:List (List Int)),H1 d=none->as.length=kss.length->kss.Pairwise (λ a b=>HT.bD a b=true)->(∀ k,k∈kss↔k∈rss)->(∀ (i:Nat) a r,as[i]? = some a->kss[i]? = some r->∃ j:Nat,rs[j]? = some a/\rss[j]? = some r)->Q (.ref d) (upd H1 d (.lst (as.map LD)))
noncomputable def jY (K:BA) (t:TA):TE:=λ σ H Q=>t σ H (me K Q)
theorem kX {K:BA} (hc:X.calm=true) (hu:X.A.units+64<cLine) (hg:Gl X "sorted") (hm:X.mg "sorted" = none) (hg2:Gl X "set") (hm2:X.mg "set" = none) (ha:QA X [e] t) (hn:cn e=true:=by rfl) (hK:X.K=K:=by rfl) :
  QE X (.Call (.Name "sorted" p) [.Call (.Name "set" p2) [e] [] pos2] [] pos) (jY K t):=by
 subst hK
 refine ⟨λ pins s σ H Q I h=>?_⟩
 refine Call_ (dv I hg hm (by decide +kernel:bootBuiltins "sorted" = some (.builtin "sorted")) (EF rfl (FH ?_)))
 refine Ey (Call_ (dv I hg2 hm2 (by decide +kernel:bootBuiltins "set" = some (.type "set")) (C0 (thn (ha.out pos2 pins s σ H _ I h) λ us s1 ⟨vs,H1,I1,r1,q1⟩=>?_) (aH hn) rfl)))
 obtain ⟨l,rs,rss,rfl,hq,hlen,h60,ht,hw,q⟩:=q1
 obtain ⟨u,rfl,ru⟩:=fN r1
 cases ru
 obtain ⟨its,rv,pl,hz⟩:=I1.list hq
 obtain rfl:=gK rv
 have hl:(rs.map Cp).length=rs.length:=By _
 have atp:∀ (i:Nat) a r,rs[i]? = some a->rss[i]? = some r->IsTupleKey (intKind X.prog X.w) s1.heap r a:=λ i a r e1 e2=>by
  obtain ⟨its,r1,⟨o,ho,hcc⟩,_⟩:=I1.tuple (ht i a r e1 e2)
  obtain ⟨hcl,n,hd⟩:=hcc
  exact ⟨o,its.toArray,n,ho,hcl,hd,HT.gg X.prog X.w (cu r1)⟩
 refine HT.jV (val:=λ i=>rss.getD i []) (bs:=rs) (by lia) (I.ok.hd hc) pl.isList (λ i v e1=>?_) (by lia) λ g tk hG kp=>Fl ?_
 ·rw [BI] at e1
  obtain ⟨a,ea,rfl⟩:=CS.mp e1
  have hi:=(BZ.mp ea).1
  refine ⟨a,rfl,Ch ea,atp i a _ ea ?_⟩
  rw [Bz,Bx (by lia)]; rfl
 rw [hl] at hG
 have I2:Inv X pins σ H1 { s1 with heap:=g,toks:=tk }:=I1.kept (t':=tk) kp
 obtain ⟨o,es,ep,tb,ho,hox,hd,G⟩:=hG
 have hmet:∀ k,k∈HT.iB (λ i=>rss.getD i []) rs.length↔k∈rss:=λ k=>by
  rw [HT.l9]
  constructor
  ·rintro ⟨i,hi1,rfl⟩
   rw [Bz,Bx (by lia)]
   exact BM _
  ·intro hk
   obtain ⟨i,hi1,rfl⟩:=Cj hk
   exact ⟨i,by lia,by rw [Bz,Bx hi1]; rfl⟩
 have hml:=HT.jj (λ i=>rss.getD i []) rs.length
 have esz:=G.len
 have hmsk:=G.tg.msk
 have hfew:=G.few
 have hS:HT.sX g _ es ep tb:=⟨o,ho,hox.1,hd,HT.kW G.tg (by lia),G.tg.ris⟩
 refine HT.kN (HT.jW (s:={ s1 with heap:=g,toks:=tk }) (I.ok.hd hc) hS G.led (by lia) λ g2 tk2 d us kp2 hperm=>?_)
 have I3:Inv X pins σ H1 { s1 with heap:=g2,toks:=tk2,drawn:=d }:=(I2.kept (t':=tk2) kp2).drew
 -- the items,their addresses and numbers
 obtain ⟨as0,kss0,eu,el0,hat0,hall0⟩:∃ (as:List Addr) (kss:List (List Int)),us=as.map Cp/\as.length=kss.length/\(∀ (i:Nat) a r,as[i]? = some a->kss[i]? = some r->∃ j:Nat,rs[j]? = some a/\rss[j]? = some r)/\∀ k∈HT.iB (λ i=>rss.getD i []) rs.length,k∈kss:=by
  have each:∀ v∈us,∃ (a:Addr) (r:List Int) (j:Nat),v=.ref a/\rs[j]? = some a/\rss[j]? = some r:=λ v hv=>by
   obtain ⟨e,he,rfl⟩:=BK.mp (hperm.mem_iff.mp hv)
   obtain ⟨b,eb,hb⟩:=G.own e he
   obtain ⟨j,hj,rfl⟩:=Cj hb
   exact ⟨_,rss[j]'(by lia),j,eb,Bx hj,Bx (by lia)⟩
  have mk:∀ us:List Value,(∀ v∈us,∃ (a:Addr) (r:List Int) (j:Nat),v=.ref a/\rs[j]? = some a/\rss[j]? = some r)->∃ (as:List Addr) (kss:List (List Int)),us=as.map Cp/\as.length=kss.length/\(∀ (i:Nat) a r,as[i]? = some a->kss[i]? = some r->∃ j:Nat,rs[j]? = some a/\rss[j]? = some r):=λ us hus=>by
   induction us with
   | nil=>exact ⟨[],[],rfl,rfl,λ i a r e=>by simp at e⟩
   | cons v us ih=>
    obtain ⟨a,r,j,rfl,e1,e2⟩:=hus v (Cb ..)
    obtain ⟨as,kss,rfl,e4,e5⟩:=ih λ v hv=>hus v (Cd _ hv)
    refine ⟨a::as,r::kss,rfl,by simp [e4],λ i a' r' z1 z2=>?_⟩
    cases i with
    | zero=>cases z1; cases z2; exact ⟨j,e1,e2⟩
    | succ i=>exact e5 i a' r' z1 z2
  obtain ⟨as,kss,eu,el,hat⟩:=mk us each
  refine ⟨as,kss,eu,el,hat,λ k hk=>?_⟩
  obtain ⟨e,he,b,e1,e2,_⟩:=(G.mem k).mp hk
  have:e.2∈us:=hperm.mem_iff.mpr (BK.mpr ⟨e,he,rfl⟩)
  rw [e1,eu] at this
  obtain ⟨b',hb',e3⟩:=BK.mp this
  cases e3
  obtain ⟨i,hi,rfl⟩:=Cj hb'
  obtain ⟨j,j1,j2⟩:=hat i _ _ (Bx hi) (Bx (show i<kss.length by lia))
  have:=(tupleKind (intKind X.prog X.w)).inj e2 (atp j _ _ j1 j2)
  rw [this]
  exact BM _
 have hul:us.length=es.size:=by rw [hperm.length_eq,By,BP]
 have lu:us.length=as0.length:=by rw [eu,By]
 have kp0:kss0.Perm (HT.iB (λ i=>rss.getD i []) rs.length):=HT.jX G.nd hall0 (by lia)
 have tup:∀ (h':Heap),(∀ b o,g2.get? b=some o->h'.get? b=some o)->∀ (i:Nat) v r,us[i]? = some v->kss0[i]? = some r->∃ a its,v=.ref a/\IsTup h' a its/\IntsAre its.toList r:=λ h' k i v r e1 e2=>by
  rw [eu,BI] at e1
  obtain ⟨a,ea,rfl⟩:=CS.mp e1
  obtain ⟨j,j1,j2⟩:=hat0 i a r ea e2
  obtain ⟨its,r1,⟨o,ho,hcc⟩,_⟩:=I3.tuple (ht j a r j1 j2)
  exact ⟨a,its.toArray,rfl,⟨o,k _ _ ho,hcc⟩,cu r1⟩
 have get:∀ i,i<us.length->us[i]? = some (us.getD i CC)/\kss0[i]? = some (kss0.getD i []):=λ i hi=>by
  have h2:i<kss0.length:=by lia
  constructor
  ·rw [Bz,Bx hi]; rfl
  ·rw [Bz,Bx h2]; rfl
 have fin:∀ p:List Nat,p.Perm (BC us.length)->p.Pairwise (Ah λ i j=>HT.bD (kss0.getD i []) (kss0.getD j []))->EP X pins σ Q (.ref g2.objs.size) { s1 with heap:=sortedHeap (g2.push (seqObj "list" us.toArray 0)) g2.objs.size us (B8 (p.map λ i=>us.getD i CC)),toks:=tk2,drawn:=d }:=λ p hp hs=>by
  have hoL:(g2.push (seqObj "list" us.toArray 0)).get? g2.objs.size=some (seqObj "list" us.toArray 0):=BU _ rfl
  obtain ⟨c,hcc⟩:=sortedHeap_at (out:=B8 (p.map λ i=>us.getD i CC)) hoL
  have hpl:=hp.length_eq
  rw [CU] at hpl
  have lt:∀ i∈p,i<us.length:=λ i hi=>Cg.mp (hp.mem_iff.mp hi)
  have hpm:(p.map λ i=>kss0.getD i []).Perm kss0:=by
   have:=hp.map (λ i=>kss0.getD i [])
   rw [show us.length=kss0.length by lia] at this
   rwa [jb] at this
  refine ⟨.ref g2.objs.size,_,I3.laid (t':=tk2) (λ b o w'=>?_) (BD _) (show ObjOk X.prog X.w _ _ _ (.lst ((p.map λ i=>as0.getD i 0).map LD)) from ⟨?_,_,c,?_,hcc⟩),rfl,q _ (p.map λ i=>as0.getD i 0) (p.map λ i=>kss0.getD i []) (I3.hok.fresh (BD _)) (by simp) ?_ (λ k=>?_) λ i a r e1 e2=>?_⟩
  ·have hlt:=BJ w'
   rw [sortedHeap_old (B0 hlt) (by rw [size_push']; exact EM hlt)]
   exact BB _ w'
  ·rw [By,By,hpl,sizeLine_eq]; lia
  ·rw [CF]
   refine lR λ i hi'=>?_
   have hi2:i<as0.length:=by rw [<-lu]; exact lt i hi'
   show RelV (LD (as0.getD i 0)) _
   rw [eu,Bz,Bz,BI,Bx hi2]
   exact rfl
  ·have nd:(p.map λ i=>kss0.getD i []).Nodup:=hpm.symm.nodup (kp0.symm.nodup G.nd)
   have le:(p.map λ i=>kss0.getD i []).Pairwise (λ a b=>HT.bD b a=false):=by
    rw [DW]
    exact hs.imp λ {a b} h=>h.1
   refine (le.and nd).imp λ {a b} h=>?_
   obtain ⟨h1,h2⟩:=h
   cases hh:HT.bD a b with
   | true=>rfl
   | false=>exact absurd (HT.jM a b hh h1) h2
  ·rw [hpm.mem_iff,kp0.mem_iff]
   exact hmet k
  ·rw [BI] at e1 e2
   obtain ⟨i1,e3,rfl⟩:=CS.mp e1
   rw [e3] at e2
   cases e2
   have hi1:=lt i1 (Ch e3)
   refine hat0 i1 _ _ ?_ ?_
   ·rw [Bz,Bx (by lia)]; rfl
   ·show _=some (kss0.getD i1 [])
    rw [Bz,Bx (by lia)]; rfl
 have hw0:(∀ r∈kss0,r=[])\/(∀ r∈kss0,r≠[]):=by
  rcases hw with hw | hw
  ·exact .inl λ r hr=>hw r ((hmet r).mp (kp0.mem_iff.mp hr))
  ·exact .inr λ r hr=>hw r ((hmet r).mp (kp0.mem_iff.mp hr))
 have ask:∀ (κ:SortKind),κ=oneType'\/κ=tuples' true->∀ h' i j (Q':Bool->Shared->Prop),i<us.length->j<us.length->(∀ b o,g2.get? b=some o->h'.get? b=some o)->Q' (HT.bD (kss0.getD i []) (kss0.getD j [])) { s1 with heap:=h',toks:=tk2,drawn:=d }->
    wpAny (model X.prog X.w) X.A.in1.in1 (keyLt' κ (us.getD i CC) (us.getD j CC)) Q' (λ _ _=>False) { s1 with heap:=h',toks:=tk2,drawn:=d }:=λ κ hκ h' i j Q' hi hj k hQ=>by
  obtain ⟨g1,g2'⟩:=get i hi
  obtain ⟨k1,k2⟩:=get j hj
  obtain ⟨a,its,e,t,ti⟩:=tup h' k i _ _ g1 g2'
  obtain ⟨a',its',e',t',ti'⟩:=tup h' k j _ _ k1 k2
  rw [e,e']
  rcases hκ with rfl | rfl
  ·exact HT.vd (s:={ s1 with heap:=h',toks:=tk2,drawn:=d }) (show X.A.units+1+1<cLine by lia) t t' ti ti' hQ
  ·exact HT.rp (s:={ s1 with heap:=h',toks:=tk2,drawn:=d }) t t' ti ti' hQ
 rcases hw0 with hw0 | hw0
 ·refine ⟨by lia,oneType',_,HT.sW kss0,λ h' Q' h2 k hQ=>HT.rq (s:={ s1 with heap:=h',toks:=tk2,drawn:=d }) h2 (λ v hv=>?_) hQ,ask _ (.inl rfl),fin⟩
  obtain ⟨i,hi,ei⟩:=Cj hv
  obtain ⟨g1,g2'⟩:=get i hi
  obtain ⟨a,its,rfl,t,ti⟩:=tup h' k i v _ (by rw [Bx hi,ei]) g2'
  rw [hw0 _ (Ch g2')] at ti
  obtain ⟨its'⟩:=its
  cases ti
  exact ⟨a,rfl,t⟩
 ·exact ⟨by lia,tuples' true,_,HT.sW kss0,λ h' Q' h2 k hQ=>HT.oQ (s:={ s1 with heap:=h',toks:=tk2,drawn:=d }) h2 (by lia) (tup h' k) hw0 hQ,ask _ (.inr rfl),fin⟩
theorem vz {K:BA} {σ:St} {H:Hp} {Q:VK} (h:t σ H (me K Q)):jY K t σ H Q:=h
end
end L2
namespace L2
open PySem PySem.Spec PyProof.Rows
noncomputable def Wt (φ:Nat->Int) (c:Nat) (g:List (List Nat)):Int:=if 1<(kys (aW g c)).length then φ g.length else 0
noncomputable def Tw (φ:Nat->Int):Nat->Nat->List (List Nat)->Int
 | 0,_,_=>0
 | n+1,c,g=>Wt φ c g+((BC 64).map λ f=>if 1<(ee c f g).length then Tw φ n (c+1) (ee c f g) else 0).sum
theorem rO {g h:List (List Nat)} (p:g.Perm h) (c:Nat):(aW g c).Perm (aW h c):=p.map _
theorem vA {φ:Nat->Int} {g h:List (List Nat)} (p:g.Perm h):Wt φ c g=Wt φ c h:=by
 unfold Wt
 have e:(1<(kys (aW g c)).length)↔(1<(kys (aW h c)).length):=by
  rw [kys_par,kys_par]
  have m:∀ x,x∈aW g c↔x∈aW h c:=λ x=>(rO p c).mem_iff
  unfold Par
  constructor
  ·rintro ⟨x,hx,y,hy,ne⟩; exact ⟨x,(m x).mp hx,y,(m y).mp hy,ne⟩
  ·rintro ⟨x,hx,y,hy,ne⟩; exact ⟨x,(m x).mpr hx,y,(m y).mpr hy,ne⟩
 rw [p.length_eq]
 by_cases q:1<(kys (aW g c)).length
 ·rw [if_pos q,if_pos (e.mp q)]
 ·rw [if_neg q,if_neg (λ z=>q (e.mpr z))]
theorem pB {φ:Nat->Int}:∀ (n c:Nat) {g h:List (List Nat)},g.Perm h->Tw φ n c g=Tw φ n c h
 | 0,_,_,_,_=>rfl
 | n+1,c,g,h,p=>by
  unfold Tw
  rw [vA p]
  congr 2
  refine Cq λ f _=>?_
  have q:(ee c f g).Perm (ee c f h):=p.filter _
  rw [q.length_eq,pB n (c+1) q]
theorem rP {φ:Nat->Int}:∀ (n c:Nat) {g:List (List Nat)},g.length<2->Tw φ n c g=0
 | 0,_,_,_=>rfl
 | n+1,c,g,h=>by
  unfold Tw
  have e1:Wt φ c g=0:=by
   unfold Wt
   rw [if_neg]
   intro z
   obtain ⟨x,hx,y,hy,ne⟩:=kys_par.mp z
   match g,h with
   | [],_=>cases hx
   | [r],_=>exact ne ((BH.mp hx).trans (BH.mp hy).symm)
  rw [e1,dL λ x hx=>?_]; rfl
  obtain ⟨f,_,rfl⟩:=BK.mp hx
  have:(ee c f g).length<=g.length:=DQ ..
  rw [if_neg (by lia)]
theorem mf {α β:Type} {f:α->List β} {φ:β->Int}:∀ {l:List α},((l.flatMap f).map φ).sum=(l.map λ a=>((f a).map φ).sum).sum
 | []=>rfl
 | a::l=>by rw [GH,B4,CA,mf,Cs,C7]
theorem dM {α:Type} {φ:α->Int} {p:α->Bool}:∀ {l:List α},((l.filter p).map φ).sum=(l.map λ a=>if p a=true then φ a else 0).sum
 | []=>rfl
 | a::l=>by
  rw [Ep,Cs,C7,<-dM (l:=l)]
  split
  ·rw [Cs,C7]
  ·rw [FQ]
theorem pC {α:Type} {φ ψ:α->Int}:∀ {l:List α},(l.map λ a=>φ a+ψ a).sum=(l.map φ).sum+(l.map ψ).sum
 | []=>rfl
 | a::l=>by simp only [Cs,C7,pC (l:=l)]; lia
noncomputable def Lwt (φ:Nat->Int) (rss:List (List Nat)) (k:Nat):Int:=((o8 rss k).map (Wt φ k)).sum
theorem mh {rss:List (List Nat)}:∀ k,∀ g∈o8 rss k,∀ r∈g,r∈rss
 | 0,g,h,r,hr=>by rw [BH.mp h] at hr; exact hr
 | k+1,g,h,r,hr=>by
  obtain ⟨g',h1,h2⟩:=GU.mp h
  obtain ⟨f,_,rfl⟩:=BK.mp (Cv.mp h2).1
  exact mh k g' h1 r (Cv.mp hr).1
theorem sZ {φ:Nat->Int} {rss:List (List Nat)} (hb:∀ r∈rss,∀ x∈r,x<64):∀ (n c:Nat),((o8 rss c).map (Tw φ n c)).sum=((BC n).map λ k=>Lwt φ rss (c+k)).sum
 | 0,c=>dL λ x hx=>by obtain ⟨g,_,rfl⟩:=BK.mp hx; rfl
 | n+1,c=>by
  have ih:=sZ (φ:=φ) hb n (c+1)
  have e1:((o8 rss c).map (Tw φ (n+1) c)).sum=Lwt φ rss c+((o8 rss (c+1)).map (Tw φ n (c+1))).sum:=by
   show ((o8 rss c).map λ g=>Wt φ c g+((BC 64).map λ f=>if 1<(ee c f g).length then Tw φ n (c+1) (ee c f g) else 0).sum).sum=_+((xY c (o8 rss c)).map (Tw φ n (c+1))).sum
   rw [pC]
   unfold Lwt xY
   congr 1
   rw [mf]
   congr 1
   refine Cq λ g hg=>?_
   rw [dM]
   unfold lT
   rw [CF]
   have e2:((λ a=>if decide (1<IR a)=true then Tw φ n (c+1) a else 0)∘λ f=>ee c f g)=λ f=>if 1<(ee c f g).length then Tw φ n (c+1) (ee c f g) else 0:=by
    funext f
    show (if decide (1<(ee c f g).length)=true then _ else _)=_
    by_cases q:1<(ee c f g).length
    ·rw [if_pos (decide_eq_true q),if_pos q]
    ·rw [if_neg (by simp [q]),if_neg q]
   rw [e2]
   refine eY D4 (gR _) λ f hf=>?_
   have h1:1<(ee c f g).length:=CY λ z=>hf (if_neg z)
   obtain ⟨r,hr⟩:=FR (show 0<(ee c f g).length by lia)
   obtain ⟨h2,h3⟩:=Cv.mp hr
   have h3:=of_decide_eq_true h3
   refine ⟨λ _=>kys_mem.mpr (BK.mpr ⟨r,h2,h3⟩),λ _=>Cg.mpr ?_⟩
   rw [<-h3]
   by_cases q:c<r.length
   ·rw [Bz,Bx q]
    exact hb r (mh c g hg r h2) _ (BM q)
   ·rw [Bz,CB (by lia)]; decide
  rw [e1,ih,List.range_succ_eq_map,Cs,C7,CF]
  congr 2
  refine Cq λ k _=>?_
  show Lwt φ rss (c+1+k)=Lwt φ rss (c+(k+1))
  congr 1; lia
theorem gU {c:Nat} (v:Nat):∀ {R:List (List Nat)},(aW R c).Pairwise (·<=·)->(R.drop (aG (aW R c) v)).take ((aW R c).count v)=ee c v R
 | [],_=>by unfold ee; simp
 | r::R,h=>by
  have h:(r.getD c 0::aW R c).Pairwise (·<=·):=h
  obtain ⟨h1,h2⟩:=Dk.mp h
  have ih:=gU (c:=c) v h2
  have el:aG (aW (r::R) c) v=aG (aW R c) v+if r.getD c 0<v then 1 else 0:=by
   show List.countP _ (r.getD c 0::aW R c)=_
   rw [EX]
   unfold aG
   simp
  have ec:(aW (r::R) c).count v=(aW R c).count v+if r.getD c 0=v then 1 else 0:=by
   show Jr v (r.getD c 0::aW R c)=_
   rw [G9]
   simp
  have es:ee c v (r::R)=if r.getD c 0=v then r::ee c v R else ee c v R:=by
   unfold ee
   rw [Ep]
   simp
  have none0:v<=r.getD c 0->aG (aW R c) v=0:=λ q=>by
   unfold aG
   rw [FS]
   intro x hx
   have:=h1 x hx
   simp
   lia
  rw [el,ec,es]
  rcases C4 (r.getD c 0) v with q | q | q
  ·have n2:¬ r.getD c 0=v:=by lia
   rw [if_pos q,if_neg n2,if_neg n2,Ic]
   exact ih
  ·have n1:¬ r.getD c 0<v:=by lia
   rw [if_neg n1,if_pos q,if_pos q,none0 (by lia)]
   rw [none0 (by lia),C2] at ih
   rw [En,C2,Es,ih]
  ·have n1:¬ r.getD c 0<v:=by lia
   have n2:¬ r.getD c 0=v:=by lia
   rw [if_neg n1,if_neg n2,if_neg n2,none0 (by lia),En,En,C2]
   have z:(aW R c).count v=0:=Di.mpr λ z=>by have:=h1 v z; lia
   rw [none0 (by lia),z,DO] at ih
   rw [z,DO]
   exact ih
noncomputable def bV (rss:List (List Nat)) (os:List Nat):List (List Nat):=os.map λ p=>rss.getD p []
theorem fc {rss:List (List Nat)} {seg:List Nat} (h:∀ p∈seg,p<rss.length):aW (bV rss seg) c=bX rss c seg:=by
 unfold aW bV bX
 rw [CF]
 refine Cq λ p hp=>?_
 have:=h p hp
 show (rss.getD p []).getD c 0=(rss.map λ r=>r.getD c 0).getD p 0
 have e1:rss.getD p []=rss[p]:=by rw [Bz,Bx this]; rfl
 have e2:(rss.map λ r=>r.getD c 0).getD p 0=rss[p].getD c 0:=by rw [Bz,BI,Bx this]; rfl
 rw [e1,e2]
noncomputable def Sw (φ:Nat->Int) (st:List bW):Int:=(st.map λ s=>φ (s.2.1 - s.1)).sum
noncomputable def Uw (φ:Nat->Int) (rss:List (List Nat)) (C:Nat) (os:List Nat) (us:List bW):Int:=(us.map λ s=>Tw φ (C - s.2.2) s.2.2 (bV rss (br os s.1 s.2.1))).sum
theorem pD {rss:List (List Nat)} {os:List Nat} :bV rss ((os.drop n).take m)=((bV rss os).drop n).take m:=by unfold bV; rw [Fw,Fx]
theorem vB {φ:Nat->Int} {rss:List (List Nat)} {C:Nat} {os seg':List Nat} {l:Nat} (hb:∀ r∈rss,∀ x∈r,x<64) (hl:os.length=rss.length) (hin:∀ p∈os,p<rss.length) (hfl:f<=l) (hln:l<=rss.length) (hcC:c<C) (hp:seg'.Perm (br os f l)) (hs:(bX rss c seg').Pairwise (·<=·)) :
  Tw φ (C - c) c (bV rss (br os f l))=Wt φ c (bV rss (br os f l))+Uw φ rss C (os.take f++seg'++os.drop l) (((aD f (cnt (bX rss c (br os f l)) 64) (c+1)).filter (act C)).reverse):=by
 have hsl:(br os f l).length=l - f:=by unfold br; rw [BV,Cr]; lia
 have hsl':seg'.length=l - f:=by rw [hp.length_eq,hsl]
 have hin1:∀ p∈br os f l,p<rss.length:=λ p h=>hin p (Da (C5 h))
 have hin':∀ p∈seg',p<rss.length:=λ p h=>hin1 p (hp.mem_iff.mp h)
 have pf:(bX rss c seg').Perm (bX rss c (br os f l)):=hp.map _
 have pr:(bV rss seg').Perm (bV rss (br os f l)):=hp.map _
 rw [show C - c=(C - (c+1))+1 by lia]
 show Wt _ _ _+_=_
 congr 1
 unfold Uw
 rw [GR,Jd,dM,eU,CF]
 congr 1
 refine Cq λ v hv=>?_
 show _=if act C (f+aG (bX rss c (br os f l)) v,f+aG (bX rss c (br os f l)) (v+1),c+1)=true then Tw φ (C - (c+1)) (c+1) (bV rss (br (os.take f++seg'++os.drop l) (f+aG (bX rss c (br os f l)) v) (f+aG (bX rss c (br os f l)) (v+1)))) else 0
 have el:∀ x,aG (bX rss c (br os f l)) x=aG (bX rss c seg') x:=λ x=>(pf.countP_eq _).symm
 have ec:=pf.count_eq v
 have hsucc:=bo (bX rss c seg') v
 have hle:=c9 (bX rss c seg') (v+1)
 have hfl2:(bX rss c seg').length=l - f:=by unfold bX; rw [By,hsl']
 have hcol:=fc (c:=c) hin'
 have part:=gU (c:=c) v (R:=bV rss seg') (by rw [hcol]; exact hs)
 rw [hcol] at part
 have seg2:br (os.take f++seg'++os.drop l) (f+aG (bX rss c seg') v) (f+aG (bX rss c seg') (v+1))=(seg'.drop (aG (bX rss c seg') v)).take ((bX rss c seg').count v):=by
  unfold br
  have ht:(os.take f).length=f:=by rw [BV]; lia
  rw [hsucc,Cu,show f+(aG (bX rss c seg') v+(bX rss c seg').count v) - (f+aG (bX rss c seg') v)=(bX rss c seg').count v by lia]
  rw [Fz,Hj (by rw [ht]; lia),DS,ht,Nat.add_sub_cancel_left,EH (by lia),DX (by rw [Cr]; lia)]
 rw [el,el,seg2,pD,part]
 have psel:(ee c v (bV rss seg')).Perm (ee c v (bV rss (br os f l))):=pr.filter _
 have hcnt:(ee c v (bV rss seg')).length=(bX rss c seg').count v:=by
  rw [<-hcol]
  unfold ee aW
  rw [EU,DU,By]
  congr 1
 rw [<-psel.length_eq,pB _ _ psel.symm,hcnt]
 by_cases q:1<(bX rss c seg').count v
 ·rw [if_pos q]
  by_cases q2:c+1<C
  ·rw [if_pos (by unfold act; simp only [CI,decide_eq_true_eq]; lia)]
  ·rw [if_neg (by unfold act; simp only [CI,decide_eq_true_eq]; lia),show C - (c+1)=0 by lia]; rfl
 ·rw [if_neg q,if_neg (by unfold act; simp only [CI,decide_eq_true_eq]; lia)]
noncomputable def Stk (us:List bW):Prop:=us.Pairwise λ a b=>b.2.1<=a.1
theorem vC {os seg':List Nat} {l a:Nat} (hf:f<=os.length) (hl:l<=os.length) (hfl:f<=l) (hs:seg'.length=l - f) (h:l<=a):br (os.take f++seg'++os.drop l) a b=br os a b:=by
 unfold br
 have e:(os.take f++seg').length=l:=by rw [BO,BV,hs]; lia
 rw [Fz,Hj (by lia),DS,e,FX]
 congr 2
 lia
theorem pE {C l:Nat} (hl:row.length=l - f) (hfl:f<=l):Stk ((aD f (cnt row 64) (c+1)).filter (act C)).reverse/\∀ s∈((aD f (cnt row 64) (c+1)).filter (act C)).reverse,s.2.1<=l:=by
 constructor
 ·unfold Stk
  rw [Hm,eU]
  refine HP _ (DW.mpr (Fu.imp λ {a b} h=>?_))
  have:=cv (os:=row) (show a+1<=b from h)
  show f+aG row (a+1)<=f+aG row b
  lia
 ·intro s hs
  obtain ⟨hm,_⟩:=Cv.mp (Dm.mp hs)
  rw [eU] at hm
  obtain ⟨g,_,rfl⟩:=BK.mp hm
  have:=c9 row (g+1)
  show f+aG row (g+1)<=l
  lia
theorem Fst.sum {φ:Nat->Int} {rss:List (List Nat)} {C:Nat} {os:List Nat} {st us:List bW} (hb:∀ r∈rss,∀ x∈r,x<64) (h:Fst rss C os st us):Stk us/\Sw φ st+Uw φ rss C os us=Tw φ C 0 rss:=by
 have Aa:bV rss (BC rss.length)=rss:=by
  unfold bV
  exact jb rss []
 -- the common part of a step
 have key:∀ {os seg':List Nat} {st us:List bW} {f l c:Nat},Fst rss C os st (us++[(f,l,c)])->Stk (us++[(f,l,c)])->seg'.Perm (br os f l)->(bX rss c seg').Pairwise (·<=·)->
   Stk (us++((aD f (cnt (bX rss c (br os f l)) 64) (c+1)).filter (act C)).reverse)/\Wt φ c (bV rss (br os f l))+Uw φ rss C (os.take f++seg'++os.drop l) (us++((aD f (cnt (bX rss c (br os f l)) 64) (c+1)).filter (act C)).reverse)=Uw φ rss C os (us++[(f,l,c)]):=by
  intro os seg' st us f l c hF hS hp hs
  obtain ⟨hperm,hok⟩:=hF.inv
  obtain ⟨o1,o2,o3⟩:=hok (f,l,c) (BL _ (BH.mpr rfl))
  have o1:f+2<=l:=o1
  have o2:l<=rss.length:=o2
  have o3:c<C:=o3
  have hosl:os.length=rss.length:=by have:=hperm.length_eq; simpa using this
  have hin:∀ p∈os,p<rss.length:=λ p h=>Cg.mp (hperm.mem_iff.mp h)
  have hsl:(br os f l).length=l - f:=by unfold br; rw [BV,Cr]; lia
  have hrow:(bX rss c (br os f l)).length=l - f:=by unfold bX; rw [By,hsl]
  obtain ⟨s1,s2,s3⟩:=BR.mp hS
  obtain ⟨p1,p2⟩:=pE (C:=C) (c:=c) hrow (by lia:f<=l)
  constructor
  ·refine BR.mpr ⟨s1,p1,λ a ha b hb'=>?_⟩
   have h1:=s3 a ha (f,l,c) (BH.mpr rfl)
   have h1:l<=a.1:=h1
   exact CM (p2 b hb') h1
  ·have e1:=vB (φ:=φ) hb hosl hin (by lia) o2 o3 hp hs
   unfold Uw at e1 ⊢
   rw [B4,CA,B4,CA]
   have e2:(us.map λ s=>Tw φ (C - s.2.2) s.2.2 (bV rss (br (os.take f++seg'++os.drop l) s.1 s.2.1)))=us.map λ s=>Tw φ (C - s.2.2) s.2.2 (bV rss (br os s.1 s.2.1)):=by
    refine Cq λ a ha=>?_
    have h1:=s3 a ha (f,l,c) (BH.mpr rfl)
    rw [vC (by lia) (by lia) (by lia) (by rw [hp.length_eq,hsl]) h1]
   rw [e2]
   have e3:([(f,l,c)].map λ s:bW=>Tw φ (C - s.2.2) s.2.2 (bV rss (br os s.1 s.2.1))).sum=Tw φ (C - c) c (bV rss (br os f l)):=by simp
   rw [e3,e1]
   lia
 induction h with
 | start=>
  refine ⟨?_,?_⟩
  ·refine HP _ (DZ ..)
  ·show 0+Uw φ rss C _ _=_
   rw [FQ]
   unfold Uw
   rw [dM]
   show (if act C (0,rss.length,0)=true then Tw φ (C - 0) 0 (bV rss (br (BC rss.length) 0 rss.length)) else 0)+0=_
   have e0:br (BC rss.length) 0 rss.length=BC rss.length:=by
    unfold br
    rw [C2,BF (by simp)]
   rw [Dz,e0,Aa,GO]
   by_cases q:act C (0,rss.length,0)=true
   ·rw [if_pos q]
   ·rw [if_neg q]
    unfold act at q
    simp only [CI,decide_eq_true_eq] at q
    by_cases q2:rss.length<2
    ·rw [rP C 0 q2]
    ·have:C=0:=by lia
     rw [this]; rfl
 | @step os ob st us f l c hF hp hB ih=>
  obtain ⟨hperm,hok⟩:=hF.inv
  have hin:∀ p∈os,p<rss.length:=λ p h=>Cg.mp (hperm.mem_iff.mp h)
  have hO:=hB.ord
  have hfl:(bX rss c (br os f l)).length=(br os f l).length:=by unfold bX; rw [By]
  have pc:(cmp (br os f l) ob).Perm (br os f l):=i5 (os:=ob) (by rw [<-hfl]; exact hO.perm)
  have efig:bX rss c (cmp (br os f l) ob)=cmp (bX rss c (br os f l)) ob:=by
   unfold bX cmp
   rw [CF]
   refine Cq λ j hj=>?_
   have:=hO.lt j hj
   rw [hfl] at this
   simp [Bz,this]
  have srt:(bX rss c (cmp (br os f l) ob)).Pairwise (·<=·):=by
   rw [efig]
   unfold cmp
   exact DW.mpr (hB.rise.imp λ {a b} h=>by lia)
  obtain ⟨k1,k2⟩:=key hF ih.1 pc srt
  refine ⟨k1,?_⟩
  have h2:=ih.2
  have hW:Wt φ c (bV rss (br os f l))=φ (l - f):=by
   have hin1:∀ p∈br os f l,p<rss.length:=λ p h=>hin p (Da (C5 h))
   obtain ⟨o1,o2,o3⟩:=hok (f,l,c) (BL _ (BH.mpr rfl))
   have o1:f+2<=l:=o1
   have o2:l<=rss.length:=o2
   have hosl:os.length=rss.length:=by have:=hperm.length_eq; simpa using this
   unfold Wt
   rw [fc hin1,if_pos (kys_par.mpr ((kP (b:=64) ?_).mp hp))]
   ·congr 1
    unfold bV br
    rw [By,BV,Cr]; lia
   ·intro x hx
    rw [<-fc hin1] at hx
    obtain ⟨r,hr,rfl⟩:=BK.mp hx
    obtain ⟨p,hp',rfl⟩:=BK.mp hr
    have:=hin1 p hp'
    show ((rss.getD p []).getD c 0)<64
    rw [show rss.getD p []=rss[p] by rw [Bz,Bx this]; rfl]
    by_cases q:c<rss[p].length
    ·rw [Bz,Bx q]
     exact hb _ (BM this) _ (BM q)
    ·rw [Bz,CB (by lia)]; decide
  have hS:Sw φ (st++[(f,l,c)])=Sw φ st+φ (l - f):=by unfold Sw; rw [B4,CA]; simp
  rw [hS,<-hW,<-h2,<-k2]
  lia
 | @stay os st us f l c hF hp ih=>
  obtain ⟨hperm,hok⟩:=hF.inv
  obtain ⟨o1,o2,o3⟩:=hok (f,l,c) (BL _ (BH.mpr rfl))
  have o1:f+2<=l:=o1
  have hin:∀ p∈os,p<rss.length:=λ p h=>Cg.mp (hperm.mem_iff.mp h)
  have hin1:∀ p∈br os f l,p<rss.length:=λ p h=>hin p (Da (C5 h))
  have hlt:∀ x∈bX rss c (br os f l),x<64:=λ x hx=>by
   rw [<-fc hin1] at hx
   obtain ⟨r,hr,rfl⟩:=BK.mp hx
   obtain ⟨p,hp',rfl⟩:=BK.mp hr
   have:=hin1 p hp'
   show ((rss.getD p []).getD c 0)<64
   rw [show rss.getD p []=rss[p] by rw [Bz,Bx this]; rfl]
   by_cases q:c<rss[p].length
   ·rw [Bz,Bx q]
    exact hb _ (BM this) _ (BM q)
   ·rw [Bz,CB (by lia)]; decide
  have alike:∀ x∈bX rss c (br os f l),∀ y∈bX rss c (br os f l),x=y:=λ x hx y hy=>CY λ ne=>by
   have:=(kP hlt).mpr ⟨x,hx,y,hy,ne⟩
   rw [hp] at this; cases this
  have srt:(bX rss c (br os f l)).Pairwise (·<=·):=by
   refine Ct.mpr λ i j hi hj _=>?_
   rw [alike _ (BM hi) _ (BM hj)]
   exact BD _
  obtain ⟨k1,k2⟩:=key hF ih.1 (DC _) srt
  refine ⟨k1,?_⟩
  have hW:Wt φ c (bV rss (br os f l))=0:=by
   unfold Wt
   rw [fc hin1,if_neg]
   intro z
   obtain ⟨x,hx,y,hy,ne⟩:=kys_par.mp z
   exact ne (alike x hx y hy)
  rw [ir (by lia),hW,FQ] at k2
  rw [k2]
  exact ih.2
theorem Fst.total {φ:Nat->Int} {rss:List (List Nat)} {w C:Nat} {os:List Nat} {st:List bW} (hw:∀ r∈rss,r.length=w) (hC:C<=w) (hb:∀ r∈rss,∀ x∈r,x<64) (h:Fst rss C os st []):Sw φ st=((BC C).map λ k=>((pfx rss k).map λ p=>Wt φ k (bn rss k p)).sum).sum:=by
 obtain ⟨_,e⟩:=h.sum (φ:=φ) hb
 have e0:Uw φ rss C os []=0:=rfl
 rw [e0,Dz] at e
 rw [e]
 have e1:=sZ (φ:=φ) hb C 0
 have e2:((o8 rss 0).map (Tw φ C 0)).sum=Tw φ C 0 rss:=by
  show ([rss].map (Tw φ C 0)).sum=_
  simp
 rw [<-e2,e1]
 congr 1
 refine Cq λ k hk=>?_
 have hk:=Cg.mp hk
 rw [DI]
 unfold Lwt
 rw [lU hw k (by lia),CF]; rfl
end L2
namespace L2
open PySem PySem.Spec PyProof.Rows PySem.W
section
variable {X:Cx} {e o:Expr} {to te:TE} {t:TA} {pos apos cpos:Pos}
noncomputable def kY (K:BA):V->List V->Hp->VK->Prop:=λ x vs H Q=>∃ (l a:Addr) (r:List Int) (rs:List Addr) (rss:List (List Int)),x=.ref l/\vs=[.ref a]/\SqT K H a (r.map Lz)/\SqL K H l (rs.map LD)/\rs.length=rss.length/\(∀ (i:Nat) b z,rs[i]? = some b->rss[i]? = some z->SqT K H b (z.map Lz))/\Q (.int (rss.count r:Nat)) H
theorem iC {f:Value->Bool} {r:List Int}:∀ {rs:List Addr} {rss:List (List Int)},rs.length=rss.length->(∀ (i:Nat) b z,rs[i]? = some b->rss[i]? = some z->f (.ref b)=decide (z=r))->(rs.map Cp).countP f=rss.count r
 | [],[],_,_=>rfl
 | b::rs,z::rss,h,hf=>by
  have h0:=hf 0 b z rfl rfl
  rw [Cs,EX,G9,h0,iC (by simpa using h) λ i b z e1 e2=>hf (i+1) b z e1 e2]
  by_cases hz:z=r<;>simp [hz]
 | [],_::_,h,_=>by simp at h
 | _::_,[],h,_=>by simp at h
open Classical in
theorem pF (hu:X.A.units+64<cLine):MtM X "list.count" (kY X.K):=by
 intro pins s σ H x vs v us Q I rx rv h
 obtain ⟨l,a,r,rs,rss,rfl,rfl,ha,hl,hlen,hz,q⟩:=h
 cases rx
 obtain ⟨u,rfl,ru⟩:=rv.one
 cases ru
 obtain ⟨its,r1,p1,_⟩:=I.tuple ha
 obtain ⟨lts,r2,p2,_⟩:=I.list hl
 obtain rfl:=gK r2
 have i1:IntsAre its.toArray.toList r:=cu r1
 let f:Value->Bool:=λ y=>decide (∃ (i:Nat) (b:Addr) (z:List Int),y=.ref b/\rs[i]? = some b/\rss[i]? = some z/\z=r)
 have fat:∀ (i:Nat) b z,rs[i]? = some b->rss[i]? = some z->f (.ref b)=decide (z=r):=λ i b z e1 e2=>by
  show decide _=decide _
  congr 1
  apply propext
  constructor
  ·rintro ⟨j,b',z',eb,f1,f2,rfl⟩
   cases eb
   have h1:=I.tuple_inj (hz i b z e1 e2) (hz j b z' f1 f2)
   exact Gj (λ p q e=>Lz.inj e) |>.mp h1
  ·intro e
   exact ⟨i,b,z,rfl,e1,e2,e⟩
 obtain ⟨⟨cls,dd,data,sl⟩,ho,hc,n,hd⟩:=id p2.isList
 simp only at hc hd
 subst hc hd
 refine call_meets G3 ⟨_,ho,rfl⟩ PySem.F.entry_list_count (PySem.F.args_list_count_2 _ _) (KD l (rs.map Cp).toArray n dd sl (.ref a) f) ⟨ho,λ y hy=>?_,?_⟩
 ·have hy:y∈rs.map Cp:=by simpa using hy
  obtain ⟨b,hb,rfl⟩:=BK.mp hy
  obtain ⟨i,hi,rfl⟩:=Cj hb
  have e1:rs[i]? = some rs[i]:=by simp [hi]
  have e2:rss[i]? = some (rss[i]'(by lia)):=by simp [show i<rss.length by lia]
  rw [fat i _ _ e1 e2]
  obtain ⟨its2,r3,p3,_⟩:=I.tuple (hz i _ _ e1 e2)
  have i3:IntsAre its2.toArray.toList (rss[i]'(by lia)):=cu r3
  obtain ⟨o3,h3,c3,n3,d3⟩:=id p3
  obtain ⟨o1,h1,c1,n1,d1⟩:=id p1
  intro prog w E Q hq
  exact wpAny_eqBool_tuple (knd:=intKind prog w) (show X.A.units+1<cLine by lia) ⟨o3,_,n3,h3,c3,d3,HT.gg prog w i3⟩ ⟨o1,_,n1,h1,c1,d1,HT.gg prog w i1⟩ hq
 ·rw [show (rs.map Cp).toArray.toList=rs.map Cp from rfl,iC hlen fat]
  exact ⟨.int (rss.count r:Nat),H,I.tok _,⟨_,rfl⟩,q⟩
theorem pG {K:BA} (hu:X.A.units+64<cLine) (ho:QE X o to) (ha:QA X [e] t) (hbase:attributeBase o ("count" : Str) X.env (eval o X.env)=eval o X.env:=by rfl) (hline:(apos.endLine == cpos.line)=true:=by rfl) (hn:cn e=true:=by rfl) (hK:X.K=K:=by rfl) :
  QE X (.Call (.Attribute o "count" apos) [e] [] cpos) (tBM K "list" (kY K) to t):=by subst hK; exact ⟨nZ Et G3 PySem.F.type_list_count (pF hu) ho.out ha.out hbase hline hn⟩
end
theorem pH {K:BA} {H:Hp} {Q:VK} {r:List Int} {rs:List Addr} {rss:List (List Int)} (ha:SqT K H a (r.map Lz)) (hl:SqL K H l (rs.map LD)) (hlen:rs.length=rss.length) (hz:∀ (i:Nat) b z,rs[i]? = some b->rss[i]? = some z->SqT K H b (z.map Lz)) (q:Q (.int (rss.count r:Nat)) H):kY K (.ref l) [.ref a] H Q:=⟨l,a,r,rs,rss,rfl,rfl,ha,hl,hlen,hz,q⟩
end L2
set_option maxHeartbeats 0
namespace Fs
open PySem PySem.Spec PyProof.Rows L2
local macro_rules
 | `(tactic| walk_at "s")=>`(tactic| exact ⟨rfl,rfl,rfl,by decide +kernel,rfl,by decide +kernel,by decide +kernel⟩)
local macro_rules
 | `(tactic| nofun)=>do
  let q ←("Av Aw zu Ax zw zx A2 zy Bt Ay A4 Az zz zA Bu A5 A6 A7 yA AE zK AF AG yC yD Bv AA AH zL yE zM A9 zB AB zC AC AD A3 iM Bc Bd zN zR AL yJ AU zV yH AT zU yG AO Bh zT xB yF AN zX z4 z7 Bf cS yK yL Ag vz".splitOn " ").foldrM (fun n (a:Lean.TSyntax `tactic)=>`(tactic| first | (with_reducible refine $(Lean.mkIdent (La n)) ?_) | $a:tactic)) (←`(tactic| fail))
  `(tactic| (repeat (first | $q:tactic | (with_reducible refine qO ?_; dsimp only [FB]) | ((with_reducible show yO _ _ _ _); refine ⟨_,rfl,?_⟩) | (with_reducible refine A8 ?c ?_; (case c=>first | (show (0:Int)<_; omega) | exact zD (by omega) (by omega) | exact Ba (by omega) (by omega) | exact zE (by omega) (by omega) (by omega) | exact zF (by omega) (by omega) | exact zG (by omega) (by omega) | exact Bb (by decide) (by decide) (by decide))) | (with_reducible refine xa (by first | assumption | exact ac) ?_; refine ⟨_,rfl,?_⟩) | (with_reducible refine uE (by first | assumption | exact ac) ?_; refine ⟨_,rfl,?_⟩) | (with_reducible refine uF (by first | assumption | exact ac) ?_; refine ⟨_,rfl,?_⟩; dsimp only [Int.reduceToNat,FB]) | (with_reducible refine uN ?_; dsimp only [FB]) | ((with_reducible show y7 _ _ _ _ _ _); refine ⟨_,rfl,?_⟩))))
def top (i:Nat):Stmt:=CK.main.body.getD i (.Pass ⟨0,0,0,0⟩)
noncomputable abbrev jk:Stmt:=top 1
noncomputable abbrev jl:Stmt:=top 2
noncomputable abbrev cP:Stmt:=top 3
noncomputable abbrev ef:Stmt:=top 4
noncomputable abbrev bN:Stmt:=top 5
noncomputable abbrev fw:Stmt:=top 7
noncomputable abbrev dA:Stmt:=top 8
noncomputable abbrev bY:Stmt:=top 9
noncomputable abbrev bZ:Stmt:=top 10
noncomputable abbrev pI:Stmt:=top 12
noncomputable abbrev pJ:Stmt:=top 13
noncomputable abbrev pK:Stmt:=top 14
noncomputable abbrev pL:Stmt:=top 15
noncomputable abbrev pM:Stmt:=top 16
noncomputable abbrev pN:Stmt:=top 17
noncomputable abbrev pO:Stmt:=top 18
noncomputable abbrev dB:Stmt:=top 19
noncomputable abbrev vD:Stmt:=top 20
noncomputable abbrev kZ:Stmt:=top 21
noncomputable abbrev m6:Stmt:=top 22
set_option genSizeOfSpec false in
set_option genInjectivity false in
structure Ad where
 js:Addr
 jq:FuncData
 jr:Addr
 jp:FuncData
 cR:Addr
 cQ:FuncData
 eA:Addr
 eh:FuncData
 bP:Addr
 bO:FuncData
 fB:Addr
 fA:FuncData
 dG:Addr
 dE:FuncData
 ck:Addr
 ci:FuncData
 cj:Addr
 cg:FuncData
 qf:Addr
 p9:FuncData
 qc:Addr
 p6:FuncData
 qd:Addr
 p7:FuncData
 qb:Addr
 pZ:FuncData
 qe:Addr
 p8:FuncData
 qg:Addr
 qa:FuncData
 kf:Addr
 ke:FuncData
 dF:Addr
 dD:FuncData
 v0:Addr
 vY:FuncData
 lh:Addr
 lg:FuncData
 wa:Addr
 vZ:FuncData
structure Tx (K:BA) (mg:Str->Option Value) (t:Ad):Prop where
 my:mg "counts" = some (.ref t.js)
 jo:Fun K "counts" "counts" jk t.js t.jq
 mt:Binds K t.jq ["row","base"] []
 mw:mg "begins" = some (.ref t.jr)
 jn:Fun K "begins" "begins" jl t.jr t.jp
 mq:Binds K t.jp ["counts"] []
 ie:mg "many_columns" = some (.ref t.cR)
 dR:Fun K "many_columns" "many_columns" cP t.cR t.cQ
 ic:Binds K t.cQ ["rows"] []
 li:mg "is_parted" = some (.ref t.eA)
 gZ:Fun K "is_parted" "is_parted" ef t.eA t.eh
 lc:Binds K t.eh ["often"] []
 fC:mg "order_by_figure" = some (.ref t.bP)
 cY:Fun K "order_by_figure" "order_by_figure" bN t.bP t.bO
 fz:Binds K t.bO ["row","base"] []
 m8:mg "parts_of" = some (.ref t.fB)
 iE:Fun K "parts_of" "parts_of" fw t.fB t.fA
 m7:Binds K t.fA ["first","often","column"] []
 kg:mg "from_first" = some (.ref t.dG)
 fK:Fun K "from_first" "from_first" dA t.dG t.dE
 kd:Binds K t.dE ["rows","base"] []
 bu:mg "many_goings_on" = some (.ref t.ck)
 bb:Fun K "many_goings_on" "many_goings_on" bY t.ck t.ci
 bt:Binds K t.ci ["longer"] []
 fR:mg "ahead_of_first" = some (.ref t.cj)
 dm:Fun K "ahead_of_first" "ahead_of_first" bZ t.cj t.cg
 fQ:Binds K t.cg ["lists"] []
 yu:mg "_law_tape" = some (.ref t.qf)
 tM:Fun K "_law_tape" "_law_tape" pI t.qf t.p9
 yo:Binds K t.p9 ["_law_script","_law_k"] []
 cE:mg "_law_draw" = some (.ref t.qc)
 cm:Fun K "_law_draw" "_law_draw" pJ t.qc t.p6
 cD:Binds K t.p6 ["_law_tape_here","_law_many_here"] []
 yr:mg "_law_many" = some (.ref t.qd)
 tK:Fun K "_law_many" "_law_many" pK t.qd t.p7
 ym:Binds K t.p7 ["_law_tape_here","_law_k"] []
 yq:mg "_law_base" = some (.ref t.qb)
 tH:Fun K "_law_base" "_law_base" pL t.qb t.pZ
 yl:Binds K t.pZ ["_law_tape_here"] []
 yt:mg "_law_rows" = some (.ref t.qe)
 tL:Fun K "_law_rows" "_law_rows" pM t.qe t.p8
 yn:Binds K t.p8 ["_law_tape_here","_law_many_here","_law_base_here","_law_wide_here"] []
 yw:mg "_law_wide" = some (.ref t.qg)
 tN:Fun K "_law_wide" "_law_wide" pN t.qg t.qa
 yp:Binds K t.qa ["_law_tape_here"] []
 qh:mg "_law_same" = some (.ref t.kf)
 kc:Fun K "_law_same" "_law_same" pO t.kf t.ke
 pY:Binds K t.ke ["_law_found","_law_due_here"] []
 fM:mg "_law_beginnings" = some (.ref t.dF)
 dC:Fun K "_law_beginnings" "_law_beginnings" dB t.dF t.dD
 fL:Binds K t.dD ["_law_rows_here","_law_column"] []
 Ao:mg "_law_due" = some (.ref t.v0)
 yk:Fun K "_law_due" "_law_due" vD t.v0 t.vY
 An:Binds K t.vY ["_law_rows_here","_law_wide_here"] []
 wb:mg "_law_right" = some (.ref t.lh)
 pX:Fun K "_law_right" "_law_right" kZ t.lh t.lg
 vX:Binds K t.lg ["_law_tape_here","_law_k"] []
 Bs:mg "law" = some (.ref t.wa)
 Am:Fun K "law" "law" m6 t.wa t.vZ
 Br:Binds K t.vZ ["_law_script"] []
 qi:mg "abs" = none
 qj:mg "all" = none
 cF:mg "bool" = none
 di:mg "enumerate" = none
 kh:mg "int" = none
 ag:mg "isinstance" = none
 cG:mg "len" = none
 cZ:mg "list" = none
 sf:mg "max" = none
 m9:mg "min" = none
 bQ:mg "range" = none
 qk:mg "set" = none
 gq:mg "sorted" = none
 fD:mg "str" = none
 si:mg "sum" = none
 aU:mg "tuple" = none
 na:mg "zip" = none
theorem tw:bootBuiltins "abs" = some (.builtin "abs"):=by decide +kernel
theorem tD:bootBuiltins "all" = some (.builtin "all"):=by decide +kernel
theorem ce:bootBuiltins "bool" = some (.type "bool"):=by decide +kernel
theorem jZ:bootBuiltins "int" = some (.type "int"):=by decide +kernel
theorem af:bootBuiltins "isinstance" = some (.builtin "isinstance"):=by decide +kernel
theorem bC:bootBuiltins "len" = some (.builtin "len"):=by decide +kernel
theorem df:bootBuiltins "list" = some (.type "list"):=by decide +kernel
theorem yc:bootBuiltins "max" = some (.builtin "max"):=by decide +kernel
theorem pP:bootBuiltins "min" = some (.builtin "min"):=by decide +kernel
theorem yd:bootBuiltins "set" = some (.type "set"):=by decide +kernel
theorem dP:bootBuiltins "str" = some (.type "str"):=by decide +kernel
theorem ye:bootBuiltins "sum" = some (.builtin "sum"):=by decide +kernel
theorem aN:bootBuiltins "tuple" = some (.type "tuple"):=by decide +kernel
theorem sc_counts:FnScope ["row","base","often","figure"] ["row","base"] (ay jk):=by walk_at "s"
theorem sc_begins:FnScope ["counts","lesser","so_far","many"] ["counts"] (ay jl):=by walk_at "s"
theorem gW:FnScope ["rows"] ["rows"] (ay cP):=by walk_at "s"
theorem j4:FnScope ["often"] ["often"] (ay ef):=by walk_at "s"
theorem sc_order_by_figure:FnScope ["row","base","marks","order","place","figure"] ["row","base"] (ay bN):=by walk_at "s"
theorem k4:FnScope ["first","often","column"] ["first","often","column"] (ay fw):=by walk_at "s"
theorem sc_from_first:FnScope ["rows","base","order","steps","columns","waiting","first","last","column","stretch","row","often"] ["rows","base"] (ay dA):=by walk_at "s"
theorem sc_many_goings_on:FnScope ["longer","many","beginning","rows_with_it","shorter"] ["longer"] (ay bY):=by walk_at "s"
theorem sc_ahead_of_first:FnScope ["lists","steps","moves","column","goings_on","beginning","many"] ["lists"] (ay bZ):=by walk_at "s"
theorem sc_tape:FnScope ["_law_script","_law_k","_law_cell","_law_digits"] ["_law_script","_law_k"] (ay pI):=by walk_at "s"
theorem sc_draw:FnScope ["_law_tape_here","_law_many_here","_law_found","_law_once"] ["_law_tape_here","_law_many_here"] (ay pJ):=by walk_at "s"
theorem sc_many:FnScope ["_law_tape_here","_law_k","_law_many_here"] ["_law_tape_here","_law_k"] (ay pK):=by walk_at "s"
theorem vE:FnScope ["_law_tape_here"] ["_law_tape_here"] (ay pL):=by walk_at "s"
theorem sc_rows:FnScope ["_law_tape_here","_law_many_here","_law_base_here","_law_wide_here","_law_rows_here","_law_turn","_law_row","_law_at"] ["_law_tape_here","_law_many_here","_law_base_here","_law_wide_here"] (ay pM):=by walk_at "s"
theorem sc_wide:FnScope ["_law_tape_here","_law_wide_here"] ["_law_tape_here"] (ay pN):=by walk_at "s"
theorem pQ:FnScope ["_law_found","_law_due_here"] ["_law_found","_law_due_here"] (ay pO):=by walk_at "s"
theorem sc_beginnings:FnScope ["_law_rows_here","_law_column","_law_some"] ["_law_rows_here","_law_column"] (ay dB):=by walk_at "s"
theorem sc_due:FnScope ["_law_rows_here","_law_wide_here","_law_steps","_law_moves","_law_column","_law_one","_law_many_here","_law_further"] ["_law_rows_here","_law_wide_here"] (ay vD):=by walk_at "s"
theorem sc_right:FnScope ["_law_tape_here","_law_k","_law_base_here","_law_wide_here","_law_rows_here","_law_lists","_law_due_here","_law_ahead","_law_some","_law_steps"] ["_law_tape_here","_law_k"] (ay kZ):=by walk_at "s"
theorem sc_law:FnScope ["_law_script","_law_k"] ["_law_script"] (ay m6):=by walk_at "s"
section
variable {P:Program} {w:World} {K:BA} {mg:Str->Option Value} {base:Heap} {t:Ad}
theorem bz (T:Tx K mg t):FnOk P w K mg base CX0 1 t.qc t.p6 ["_law_tape_here","_law_many_here"] uS:=by
 refine T.cm.okQ sc_draw (λ vs H Q E h=>?_) (λ cdv A outer s H vs Q E hr h=>?_)
 ·obtain ⟨p,m,rfl,_⟩:=h
  rfl
 ·obtain ⟨p,m,rfl,⟨a,b,hp,ha,hb⟩,hm,hm2,k⟩:=h
  have fin:∀ (x:Int) H',St2 p H H'->Q (.int (x % m)) H':=λ x H' S=>by
   have:=k (x % m).toNat H' (by rw [Ie (EB _ (by lia))]; exact IE _ hm) S
   rw [Ie (EB _ (by lia))] at this
   exact this
  refine ⟨_,(ad (bg (aE oa (bI (cV (K:=K)) (qv 0) ae) ae (az _)) (ad (aA (i:=2) sc_draw.nd rfl (BN rfl) (aK iU (bI (cV (K:=K)) (qv 0) ae) (qv 1)))
   (ad (n9 (aK uK (bI (cV (K:=K)) (qv 0) ae) (qv 1)) (qv 0) ae)
   (ak (av (qv 2))))) aI)
   (ad (n9 (aK iU (aK cz (aK mQ (bI (cV (K:=K)) (qv 0) ae) ae) ae) ae) (qv 0) ae)
   (ad (aA (i:=3) sc_draw.nd rfl (BN rfl) (aK iU (aK mQ (bI (cV (K:=K)) (qv 0) ae) (aK cz (aK iU (bI (cV (K:=K)) (qv 0) ae) ae) ae)) ae))
   (ak (av (aK iU (aK iU (aK mQ (qv 3) (aK cz (aK iU (qv 3) ae) ae)) ae) (qv 1))))))),?_⟩
  rw [show L2.start ["_law_tape_here","_law_many_here","_law_found","_law_once"] [LD p,Lz m]=[some (LD p),some (Lz m),none,none] from rfl]
  nofun
  refine aJ (λ h0=>?_) (λ h0=>?_)
  ·nofun
   exact fin _ _ (Tp2.mk (Int.ediv_nonneg ha (by lia)) hb)
  ·nofun
   exact fin _ _ (Tp2.mk ha (EB _ (by lia)))
theorem vF (T:Tx K mg t):FnOk P w K mg base CX0 1 t.qf t.p9 ["_law_script","_law_k"] (uR K):=by
 refine T.tM.okQ sc_tape (λ vs H Q E h=>?_) (λ cdv A outer s H vs Q E hr h=>?_)
 ·obtain ⟨a,ns,k,rfl,_⟩:=h
  rfl
 ·obtain ⟨a,ns,k,rfl,hS,hk,q⟩:=h
  refine ⟨_,(ad (aA (i:=2) sc_tape.nd rfl (BN rfl) ae)
   (ad (bg (aE AK (qv 1) (ai (bF (K:=K)) (by rfl) T.cG bC (aj (qv 0) aa)) (az _)) (ak (aA (i:=2) sc_tape.nd rfl (BN rfl) (bI (cV (K:=K)) (qv 0) (qv 1)))) aI)
   (ad (aA (i:=3) sc_tape.nd rfl (BN rfl) (aK mQ (ai sN (by rfl) T.qi tw (aj (qv 2) aa)) (aM xr (by rfl) T.kh jZ (aj (aR Be (ai sN (by rfl) T.qi tw (aj (qv 2) aa)) (aK zO ae ae) (az _)) aa))))
   (ak (av (cT (aj (qv 3) (aj (aK iU (aK mQ (aK iU (aK cz (aK cz (qv 2) (aK mQ ae (qv 1))) ae) ae) ae) ae) aa)))))))),?_⟩
  rw [show L2.start ["_law_script","_law_k","_law_cell","_law_digits"] [LD a,Lz k]=[some (LD a),some (Lz k),none,none] from rfl]
  nofun
  refine bL hS ?_
  nofun
  refine aJ (λ h0=>?_) (λ h0=>?_)
  ·nofun
   have hlt:k.toNat<ns.length:=by rw [By] at h0; lia
   have hget:atI (ns.map Lz) k=some (Lz ns[k.toNat]):=by
    have e:k=(k.toNat:Int):=by lia
    have:=bv (xs:=ns.map Lz) (j:=k.toNat) (v:=Lz ns[k.toNat]) (by simp [hlt])
    rw [<-e] at this; exact this
   refine dU hS hget ?_
   generalize ns[k.toNat]=cell
   nofun
   exact ⟨ba (by simp),λ p hp=>q p _ hp ((LA H).new hp) ⟨_,_,ac,JJ (by split<;>lia) (by (repeat' split)<;>lia),EB _ (by lia)⟩⟩
  ·nofun
   exact ⟨ba (by simp),λ p hp=>q p _ hp ((LA H).new hp) ⟨_,_,ac,JJ (by split<;>lia) (by (repeat' split)<;>lia),EB _ (by lia)⟩⟩
noncomputable def vG:Sp:=λ vs H Q _=>∃ (p:Addr) (k:Int),vs=[.ref p,.int k]/\Tp2 H p/\∀ (r:Nat) H',r<=60->St2 p H H'->Q (.int r) H'
theorem vH (T:Tx K mg t):FnOk P w K mg base CX0 2 t.qd t.p7 ["_law_tape_here","_law_k"] vG:=by
 refine T.tK.okQ sc_many (λ vs H Q E h=>?_) (λ cdv A outer s H vs Q E hr h=>?_)
 ·obtain ⟨p,k,rfl,_⟩:=h
  rfl
 ·obtain ⟨p,kk,rfl,hT,k⟩:=h
  refine ⟨_,(ad (aA (i:=2) sc_many.nd rfl (BN rfl) (bI (cV (K:=K)) (cT (aj ae (aj ae (aj ae (aj ae (aj ae (aj ae (aj ae (aj (aK cz ae (au (bz T) (hr.mono (by decide)) rfl T.cE T.cm.kp T.cD aX (aj (qv 0) (aj ae aa)))) aa))))))))) (au (bz T) (hr.mono (by decide)) rfl T.cE T.cm.kp T.cD aX (aj (qv 0) (aj ae aa)))))
   (ad (bg (QW.qt (lA (aE kj (qv 1) ae (az _)) (iS (aE kj (au (bz T) (hr.mono (by decide)) rfl T.cE T.cm.kp T.cD aX (aj (qv 0) (aj ae aa))) ae (az _))))) (ak (av ae)) aI)
   (ak (av (qv 2))))),?_⟩
  rw [show L2.start ["_law_tape_here","_law_k","_law_many_here"] [LD p,Lz kk]=[some (LD p),some (Lz kk),none] from rfl]
  nofun
  refine ⟨p,6,rfl,hT,by decide,by decide,λ r1 H1 a1 S1=>?_⟩
  nofun
  refine ⟨ba (by simp),λ q hq=>?_⟩
  have nq:=S1.tape.ne hq
  nofun
  refine ⟨p,8,rfl,(S1.new hq).tape,by decide,by decide,λ r3 H4 a3 S4=>?_⟩
  obtain ⟨v,e,hv⟩:=iQ (xs:=[Lz 0,Lz 1,Lz 2,Lz 3,Lz 4,Lz 5,Lz 6,Lz (7+(r1:Int))]) (r:=(r3:Int)) (by lia) (by simp only [Ci,Dh]; lia)
  refine dU (Lx (S4.keep q _ ac nq)) e ?_
  have S:=(S1.new (o:=.lst [Lz 0,Lz 1,Lz 2,Lz 3,Lz 4,Lz 5,Lz 6,Lz (7+(r1:Int))]) hq).trans S4
  have hm:∃ m:Nat,v=Lz m/\m<=12:=by
   simp only [BS,CD,or_false] at hv
   rcases hv with rfl | rfl | rfl | rfl | rfl | rfl | rfl | rfl
   ·exact ⟨0,rfl,by lia⟩
   ·exact ⟨1,rfl,by lia⟩
   ·exact ⟨2,rfl,by lia⟩
   ·exact ⟨3,rfl,by lia⟩
   ·exact ⟨4,rfl,by lia⟩
   ·exact ⟨5,rfl,by lia⟩
   ·exact ⟨6,rfl,by lia⟩
   ·exact ⟨7+r1,by congr 1,by lia⟩
  obtain ⟨m,rfl,hm⟩:=hm
  nofun
  refine aJ (λ h1=>?_) (λ h1=>?_)
  ·nofun
   refine ⟨p,6,rfl,S4.tape,by decide,by decide,λ r5 H5 a5 S5=>?_⟩
   nofun
   refine aJ (λ h2=>?_) (λ h2=>?_)
   ·nofun
    exact k 60 H5 (by lia) (S.trans S5)
   ·nofun
    exact k m H5 (by lia) (S.trans S5)
  ·nofun
   exact k m H4 (by lia) S
noncomputable def vI:Sp:=λ vs H Q _=>∃ (p:Addr),vs=[.ref p]/\Tp2 H p/\∀ (b:Nat) H',2<=b->b<=64->St2 p H H'->Q (.int b) H'
theorem vJ (T:Tx K mg t):FnOk P w K mg base CX0 2 t.qb t.pZ ["_law_tape_here"] vI:=by
 refine T.tH.okQ vE (λ vs H Q E h=>?_) (λ cdv A outer s H vs Q E hr h=>?_)
 ·obtain ⟨p,rfl,_⟩:=h
  rfl
 ·obtain ⟨p,rfl,hT,k⟩:=h
  refine ⟨_,(ak (av (bI (cV (K:=K)) (cT (aj ae (aj ae (aj ae (aj ae (aj ae (aj (aK cz ae (au (bz T) (hr.mono (by decide)) rfl T.cE T.cm.kp T.cD aX (aj (qv 0) (aj ae aa)))) aa))))))) (au (bz T) (hr.mono (by decide)) rfl T.cE T.cm.kp T.cD aX (aj (qv 0) (aj ae aa)))))),?_⟩
  rw [show L2.start ["_law_tape_here"] [LD p]=[some (LD p)] from rfl]
  nofun
  refine ⟨p,63,rfl,hT,by decide,by decide,λ r1 H1 a1 S1=>?_⟩
  nofun
  refine ⟨ba (by simp),λ q hq=>?_⟩
  nofun
  refine ⟨p,6,rfl,(S1.new hq).tape,by decide,by decide,λ r3 H4 a3 S4=>?_⟩
  obtain ⟨v,e,hv⟩:=iQ (xs:=[Lz 2,Lz 3,Lz 10,Lz 16,Lz 64,Lz (2+(r1:Int))]) (r:=(r3:Int)) (by lia) (by simp only [Ci,Dh]; lia)
  refine dU (Lx (S4.keep q _ ac (S1.tape.ne hq))) e ?_
  have S:=(S1.new (o:=.lst [Lz 2,Lz 3,Lz 10,Lz 16,Lz 64,Lz (2+(r1:Int))]) hq).trans S4
  simp only [BS,CD,or_false] at hv
  rcases hv with rfl | rfl | rfl | rfl | rfl | rfl
  ·exact k 2 H4 (by lia) (by lia) S
  ·exact k 3 H4 (by lia) (by lia) S
  ·exact k 10 H4 (by lia) (by lia) S
  ·exact k 16 H4 (by lia) (by lia) S
  ·exact k 64 H4 (by lia) (by lia) S
  ·exact k (2+r1) H4 (by lia) (by lia) S
noncomputable def vK:Sp:=λ vs H Q _=>∃ (p:Addr),vs=[.ref p]/\Tp2 H p/\∀ (w:Nat) H',w<=120->(w<=20\/w=120)->St2 p H H'->Q (.int w) H'
theorem vL (T:Tx K mg t):FnOk P w K mg base CX0 2 t.qg t.qa ["_law_tape_here"] vK:=by
 refine T.tN.okQ sc_wide (λ vs H Q E h=>?_) (λ cdv A outer s H vs Q E hr h=>?_)
 ·obtain ⟨p,rfl,_⟩:=h
  rfl
 ·obtain ⟨p,rfl,hT,k⟩:=h
  refine ⟨_,(ad (aA (i:=1) sc_wide.nd rfl (BN rfl) (bI (cV (K:=K)) (cT (aj ae (aj ae (aj ae (aj ae (aj ae (aj ae (aj ae (aj ae aa))))))))) (au (bz T) (hr.mono (by decide)) rfl T.cE T.cm.kp T.cD aX (aj (qv 0) (aj ae aa)))))
   (ad (bg (QW.qt (lA (aE kj (qv 1) ae (az _)) (iS (aE kj (au (bz T) (hr.mono (by decide)) rfl T.cE T.cm.kp T.cD aX (aj (qv 0) (aj ae aa))) ae (az _))))) (ak (av ae)) aI)
   (ak (av (qv 1))))),?_⟩
  rw [show L2.start ["_law_tape_here","_law_wide_here"] [LD p]=[some (LD p),none] from rfl]
  nofun
  refine ⟨ba (by simp),λ q hq=>?_⟩
  nofun
  refine ⟨p,8,rfl,((St2.refl hT).new hq).tape,by decide,by decide,λ r3 H4 a3 S4=>?_⟩
  obtain ⟨v,e,hv⟩:=iQ (xs:=[Lz 0,Lz 1,Lz 2,Lz 3,Lz 4,Lz 6,Lz 2,Lz 20]) (r:=(r3:Int)) (by lia) (by simp only [Ci,Dh]; lia)
  refine dU (Lx (S4.keep q _ ac (hT.ne hq))) e ?_
  have S:=((St2.refl hT).new (o:=.lst [Lz 0,Lz 1,Lz 2,Lz 3,Lz 4,Lz 6,Lz 2,Lz 20]) hq).trans S4
  have hm:∃ m:Nat,v=Lz m/\m<=20:=by
   simp only [BS,CD,or_false] at hv
   rcases hv with rfl | rfl | rfl | rfl | rfl | rfl | rfl | rfl
   ·exact ⟨0,rfl,by lia⟩
   ·exact ⟨1,rfl,by lia⟩
   ·exact ⟨2,rfl,by lia⟩
   ·exact ⟨3,rfl,by lia⟩
   ·exact ⟨4,rfl,by lia⟩
   ·exact ⟨6,rfl,by lia⟩
   ·exact ⟨2,rfl,by lia⟩
   ·exact ⟨20,rfl,by lia⟩
  obtain ⟨m,rfl,hm⟩:=hm
  nofun
  refine aJ (λ h1=>?_) (λ h1=>?_)
  ·nofun
   refine ⟨p,4,rfl,S4.tape,by decide,by decide,λ r5 H5 a5 S5=>?_⟩
   nofun
   refine aJ (λ h2=>?_) (λ h2=>?_)
   ·nofun
    exact k 120 H5 (by lia) (by lia) (S.trans S5)
   ·nofun
    exact k m H5 (by lia) (by lia) (S.trans S5)
  ·nofun
   exact k m H4 (by lia) (by lia) S
noncomputable def RowsT (H:Hp) (ps:List Addr) (rss:List (List Nat)):Prop:=ps.length=rss.length/\∀ (i:Nat) p r,ps[i]? = some p->rss[i]? = some r->H p=some (.tup (NV r))
theorem RowsT.same {H:Hp} {rss:List (List Nat)} (h:RowsT H ps rss) (e:Same H H1):RowsT H1 ps rss:=⟨h.1,λ i p z a c=>e _ _ (h.2 i p z a c)⟩
theorem RowsT.snoc {H:Hp} {rss:List (List Nat)} {p:Addr} (h:RowsT H ps rss) (e:H p=some (.tup (NV r))):RowsT H (ps++[p]) (rss++[r]):=by
 refine ⟨by simp [h.1],λ i q y a c=>?_⟩
 rcases bR a with ⟨l,a⟩ | ⟨l,a⟩
 ·rcases bR c with ⟨_,c⟩ | ⟨l',c⟩
  ·exact h.2 i q y a c
  ·have:=h.1; lia
 ·rcases bR c with ⟨l',c⟩ | ⟨_,c⟩
  ·have:=h.1; lia
  ·rw [a,c]; exact e
theorem RowsT.st2 {H:Hp} {q:Addr} {rss:List (List Nat)} (h:RowsT H ps rss) (t:Tp2 H q) (e:St2 q H H1):RowsT H1 ps rss:=⟨h.1,λ i p z a b=>by
 have hp:=h.2 i p z a b
 obtain ⟨x,y,ht,_⟩:=t
 exact e.keep _ _ hp (mC hp ht (by intro c; cases c))⟩
theorem k6 {H:Hp} {p x:Addr} {zs:List V} (t:Tp2 H p) (hx:H x=some (.tup zs)):x≠p:=by
 obtain ⟨a1,a2,h9,_⟩:=t
 exact mC hx h9 (by intro c; cases c)
theorem RowsT.own {H:Hp} {rss:List (List Nat)} (h:RowsT H ps rss) (hl:H l=some (.lst xs)):RowsT (upd H l (.lst ys)) ps rss:=⟨h.1,λ i p z a b=>by
 have:=h.2 i p z a b
 rw [aq (mC this hl (by intro c; cases c))]; exact this⟩
noncomputable def Good (rss:List (List Nat)) (w b:Nat):Prop:=∀ r∈rss,r.length=w/\∀ x∈r,x<b
theorem Good.snoc {rss:List (List Nat)} {w:Nat} (h:Good rss w b) (h1:r.length=w) (h2:∀ x∈r,x<b):Good (rss++[r]) w b:=λ q hq=>by
 rcases BY.mp hq with g | g
 ·exact h q g
 ·rw [BH.mp g]; exact ⟨h1,h2⟩
theorem pR {rss:List (List Nat)} {w:Nat} (h:Good rss w b) (hr:rss[i]? = some r) (hc:c<w):r[c]? = some (r.getD c 0)/\(aW rss c)[i]? = some (r.getD c 0):=by
 have hl:=(h r (Ch hr)).1
 constructor
 ·have:c<r.length:=by lia
  simp [this]
 ·unfold aW
  rw [BI,hr]; rfl
theorem tE {rss:List (List Nat)} {w:Nat} (h:Good rss w b) (hc:c<w):∀ o∈aW rss c,o<b:=λ o ho=>by
 obtain ⟨r,hr,rfl⟩:=BK.mp ho
 obtain ⟨h1,h2⟩:=h r hr
 have:c<r.length:=by lia
 apply h2
 rw [Bz,Bx this]
 exact BM this
theorem vM (rss:List (List Nat)) (c:Nat):(aW rss c).length=rss.length:=by simp [aW]
noncomputable def vN:Sp:=λ vs H Q _=>∃ (p:Addr) (n b w:Nat),vs=[.ref p,.int n,.int b,.int w]/\Tp2 H p/\n<=60/\2<=b/\b<=64/\w<=120/\∀ (l:Addr) (ps:List Addr) (rss:List (List Nat)) H',H l=none->H' l=some (.lst (ps.map LD))->RowsT H' ps rss->rss.length=n->Good rss w b->l≠p->St2 p H H'->Q (.ref l) H'
theorem vO (T:Tx K mg t):FnOk P w K mg base CX0 2 t.qe t.p8 ["_law_tape_here","_law_many_here","_law_base_here","_law_wide_here"] vN:=by
 refine T.tL.okQ sc_rows (λ vs H Q E h=>?_) (λ cdv A outer s H vs Q E hr h=>?_)
 ·obtain ⟨p,n,b,w,rfl,_⟩:=h
  rfl
 ·obtain ⟨p,n,b,w,rfl,hT,hn,hb,hb2,hw,k⟩:=h
  refine ⟨_,(ad (aA (i:=4) sc_rows.nd rfl (BN rfl) (cT aa))
   (ad (bA Cw rfl (bE rfl T.bQ (aj (qv 1) aa)) (al (i:=5) sc_rows.nd rfl (BN rfl)) (ad (aA (i:=6) sc_rows.nd rfl (BN rfl) (aM (bG (K:=K)) (by rfl) T.aU aN (aj (cM (N:=["_law_k","_law_tape_here","_law_base_here"]) (tgs:=["_law_k"]) (frs:=["_law_tape_here","_law_base_here"]) (ix:=[0,2]) ⟨rfl,by decide +kernel,rfl,by decide +kernel,rfl,rfl,⟨⟨rfl,rfl,_,rfl,rfl⟩,⟨rfl,rfl,_,rfl,rfl⟩,Cf⟩,⟨rfl,rfl,Cf⟩,rfl⟩ rfl (bE rfl T.bQ (aj (qv 3) aa)) (λ _ _ _ _=>(al (i:=0) (by show CZ (["_law_k","_law_tape_here","_law_base_here"]:List Str); decide +kernel) rfl (BN rfl))) (λ _ _ _ _=>(bI (cV (K:=K)) (cT (aj (au (bz T) (hr.mono (by decide)) rfl T.cE T.cm.kp T.cD aX (aj (qv 1) (aj (qv 2) aa))) (aj (aK kB (qv 2) ae) (aj ae aa)))) (au (bz T) (hr.mono (by decide)) rfl T.cE T.cm.kp T.cD aX (aj (qv 1) (aj ae aa)))))) aa)))
   (ad (bg (QW.qt (lA (aE (uT (K:=K) hr.units0) (qv 4) (cT aa) (az _)) (iS (aE kj (au (bz T) (hr.mono (by decide)) rfl T.cE T.cm.kp T.cD aX (aj (qv 0) (aj ae aa))) ae (az _))))) (ad (aA (i:=6) sc_rows.nd rfl (BN rfl) (bI (cV (K:=K)) (qv 4) (au (bz T) (hr.mono (by decide)) rfl T.cE T.cm.kp T.cD aX (aj (qv 0) (aj (ai (bF (K:=K)) (by rfl) T.cG bC (aj (qv 4) aa)) aa)))))
   (ak (bg (QW.qt (lA (aE oa (qv 3) ae (az _)) (iS (aE kj (au (bz T) (hr.mono (by decide)) rfl T.cE T.cm.kp T.cD aX (aj (qv 0) (aj ae aa))) ae (az _))))) (ad (aA (i:=7) sc_rows.nd rfl (BN rfl) (au (bz T) (hr.mono (by decide)) rfl T.cE T.cm.kp T.cD aX (aj (qv 0) (aj (qv 3) aa))))
   (ak (aA (i:=6) sc_rows.nd rfl (BN rfl) (aK oB (aK oB (cq (xq (K:=K)) (qv 6) dw (cL (qv 7))) (bK (aj (au (bz T) (hr.mono (by decide)) rfl T.cE T.cm.kp T.cD aX (aj (qv 0) (aj (qv 2) aa))) aa))) (cq (xq (K:=K)) (qv 6) (cL (aK cz (qv 7) ae)) dw))))) aI))) aI)
   (ak (iT (gB (K:=K) (qv 4) (aj (qv 6) aa)))))))
   (ak (av (qv 4))))),?_⟩
  rw [show L2.start ["_law_tape_here","_law_many_here","_law_base_here","_law_wide_here","_law_rows_here","_law_turn","_law_row","_law_at"] [LD p,Lz n,Lz b,Lz w]=[some (LD p),some (Lz n),some (Lz b),some (Lz w),none,none,none,none] from rfl]
  nofun
  refine ⟨ba (by simp),λ l0 hl0=>?_⟩
  have n0:=hT.ne hl0
  have S0:=(St2.refl hT).new (o:=.lst []) hl0
  have t0:(upd H l0 (.lst [])) l0=some (.lst (([]:List Addr).map LD)):=ac
  generalize upd H l0 (.lst [])=H0 at S0 t0
  nofun
  refine ⟨n,rfl,by lia,by lia,cw (λ i σ H'=>St2 p H H'/\(∃ (qs:List Addr) (tss:List (List Nat)),H' l0=some (.lst (qs.map LD))/\RowsT H' qs tss/\Good tss w b/\qs.length=i)/\∃ v5 v6 v7,σ=[some (LD p),some (Lz n),some (Lz b),some (Lz w),some (LD l0),v5,v6,v7]) ⟨S0,⟨[],[],t0,⟨rfl,λ i p r h=>by simp at h⟩,(λ r h=>nomatch h),rfl⟩,_,_,_,rfl⟩ ?_ ?_⟩
  ·rintro i σ H2 hi ⟨S2,⟨qs,tss,t2,hR,hG,hql⟩,v5,v6,v7,rfl⟩
   nofun
   refine ⟨w,rfl,by lia,by lia,lB (n:=w) (λ i ys σ H6=>St2 p H2 H6/\(∃ cs:List Nat,ys=NV cs/\cs.length=i/\∀ x∈cs,x<b)/\∃ v,σ=[v,some (LD p),some (Lz b)]) (aB (by lia)) (λ i ys σ H6 h=>by obtain ⟨_,⟨cs,rfl,e,_⟩,_⟩:=h; rw [aF,e]) ⟨St2.refl S2.tape,⟨[],rfl,rfl,λ x h=>nomatch h⟩,none,rfl⟩ ?_ ?_⟩
   ·rintro i' ys σ H6 hi' ⟨S6,⟨cs,rfl,hcl,hcb⟩,v,rfl⟩
    nofun
    refine ⟨p,b,rfl,S6.tape,by lia,by lia,λ r H7 c0 S7=>?_⟩
    nofun
    refine ⟨ba (by simp),λ q hq=>?_⟩
    nofun
    refine ⟨p,3,rfl,(S7.new hq).tape,by decide,by decide,λ r' H8 d0 S8=>?_⟩
    obtain ⟨u,e,hu⟩:=iQ (xs:=[Lz (r:Int),Lz ((b:Int) - 1),Lz 0]) (r:=(r':Int)) (by lia) (by simp only [Ci,Dh]; lia)
    refine dU (Lx (S8.keep q _ ac (S7.tape.ne hq))) e ?_
    have hu':∃ x:Nat,u=Lz x/\x<b:=by
     simp only [BS,CD,or_false] at hu
     rcases hu with rfl | rfl | rfl
     ·exact ⟨r,rfl,by lia⟩
     ·exact ⟨b - 1,by congr 1; lia,by lia⟩
     ·exact ⟨0,rfl,by lia⟩
    obtain ⟨x,rfl,hx⟩:=hu'
    refine LC hi' ⟨S6.trans ((S7.new hq).trans S8),⟨cs++[x],dW _ _,by simp [hcl],λ y hy=>?_⟩,_,rfl⟩
    rcases BY.mp hy with h | h
    ·exact hcb y h
    ·rw [BH.mp h]; exact hx
   rintro ys σ H6 ⟨S6,⟨row,rfl,hrl,hrb⟩,v,rfl⟩ g1 hg1
   have S7:=S6.new (o:=.lst (NV row)) hg1
   have tg1:(upd H6 g1 (.lst (NV row))) g1=some (.lst (NV row)):=ac
   generalize upd H6 g1 (.lst (NV row))=H7 at S7 tg1
   nofun
   refine cx (Lx tg1) λ gr hgr=>?_
   have S8:=S7.new (o:=.tup (NV row)) hgr
   have tq:(upd H7 gr (.tup (NV row))) gr=some (.tup (NV row)):=ac
   generalize upd H7 gr (.tup (NV row))=H8 at S8 tq
   have S28:=S2.trans S8
   have t8:=S8.keep _ _ t2 n0
   have R8:=hR.st2 S2.tape S8
   nofun
   refine ⟨ba (by simp),λ e0 he0=>?_⟩
   have s9:=(LA H8).new (o:=.lst []) he0
   have te0:(upd H8 e0 (.lst [])) e0=some (.lst []):=ac
   have S9:=S28.new (o:=.lst []) he0
   generalize upd H8 e0 (.lst [])=H9 at s9 te0 S9
   have t9:=s9 _ _ t8
   have R9:=R8.same s9
   have tq9:=s9 _ _ tq
   refine ⟨l0,e0,_,rfl,rfl,Lx t9,Lx te0,?_⟩
   nofun
   apply Bj (α:=Addr) (β:=Option V) (S:=λ q v H'=>St2 p H H'/\H' l0=some (.lst (qs.map LD))/\RowsT H' qs tss/\∃ row:List Nat,H' q=some (.tup (NV row))/\row.length=w/\∀ x∈row,x<b)
   case hA=>
    intro key
    refine ot (λ g1=>?_) (λ g1=>?_)
    ·have hq0:0<qs.length:=E2.mpr λ z=>g1 (by rw [z]; rfl)
     nofun
     refine ⟨p,3,rfl,S9.tape,by decide,by decide,λ r5 HA _ SA=>?_⟩
     have S9A:=S9.trans SA
     have tA:=SA.keep _ _ t9 n0
     have RA:=R9.st2 S9.tape SA
     have tqA:=SA.keep _ _ tq9 (k6 S9.tape tq9)
     nofun
     refine aJ (λ g2=>?_) (λ g2=>?_)
     ·nofun
      refine bL (Lx tA) ?_
      rw [By]
      nofun
      refine ⟨p,_,rfl,SA.tape,by lia,by lia,λ j HB hj SB=>?_⟩
      have hj:j<qs.length:=by lia
      have tB:=SB.keep _ _ tA n0
      have RB:=RA.st2 SA.tape SB
      have S9B:=S9A.trans SB
      refine dU (Lx tB) (v:=LD qs[j]) (bv (by rw [BI]; simp [hj])) ?_
      have hjt:j<tss.length:=by rw [<-hR.1]; exact hj
      have tqB:=RB.2 j qs[j] tss[j] (by simp [hj]) (by simp [hjt])
      obtain ⟨hrl',hrb'⟩:=hG tss[j] (BM hjt)
      generalize qs[j]=q at tqB
      generalize tss[j]=row' at tqB hrl' hrb'
      nofun
      refine aJ (λ g3=>?_) (λ g3=>?_)
      ·nofun
       refine ⟨p,2,rfl,SB.tape,by decide,by decide,λ r6 HC _ SC=>?_⟩
       have tC:=SC.keep _ _ tB n0
       have RC:=RB.st2 SB.tape SC
       have S9C:=S9B.trans SC
       have tqC:=SC.keep _ _ tqB (k6 SB.tape tqB)
       nofun
       refine aJ (λ g4=>?_) (λ g4=>?_)
       ·nofun
        refine ⟨p,w,rfl,SC.tape,by lia,by lia,λ at' HD hat SD=>?_⟩
        have tqD:=SD.keep _ _ tqC (k6 SC.tape tqC)
        nofun
        refine ⟨at',rfl,q,_,rfl,Ly tqD,by rw [HT.fh,HT.eD,aF]; lia,λ y1 hy1=>?_⟩
        rw [gG _ _ (by lia)]
        have s8:=(LA HD).new (o:=.tup (NV (row'.take at'))) hy1
        have ty1:(upd HD y1 (.tup (NV (row'.take at')))) y1=some (.tup (NV (row'.take at'))):=ac
        generalize upd HD y1 (.tup (NV (row'.take at')))=HE at s8 ty1
        nofun
        refine ⟨p,b,rfl,SD.tape.same s8,by lia,by lia,λ d HF f1 SF=>?_⟩
        have tyF:=SF.keep _ _ ty1 (k6 (SD.tape.same s8) ty1)
        have tqF:=SF.keep _ _ (s8 _ _ tqD) (k6 (SD.tape.same s8) (s8 _ _ tqD))
        nofun
        refine ⟨ba (by simp),λ y2 hy2=>?_⟩
        have sG:=(LA HF).new (o:=.tup [Lz (d:Nat)]) hy2
        have ty2:(upd HF y2 (.tup [Lz (d:Nat)])) y2=some (.tup (NV [d])):=ac
        generalize upd HF y2 (.tup [Lz (d:Nat)])=HG at sG ty2
        refine ⟨y1,y2,_,_,rfl,rfl,sG _ _ tyF,ty2,ba (by rw [aF,aF,BV]; simp; lia),λ y3 HI sI ty3=>?_⟩
        rw [sU] at ty3
        have e1':(at':Int)+1=((at'+1:Nat):Int):=by lia
        nofun
        rw [e1']
        refine ⟨_,rfl,?_⟩
        nofun
        refine ⟨q,_,rfl,Ly (sI _ _ (sG _ _ tqF)),by rw [HT.fh,HT.eD,aF]; lia,λ y4 hy4=>?_⟩
        rw [oD _ _ (by lia)]
        have sJ:=(LA HI).new (o:=.tup (NV (row'.drop (at'+1)))) hy4
        have ty4:(upd HI y4 (.tup (NV (row'.drop (at'+1))))) y4=some (.tup (NV (row'.drop (at'+1)))):=ac
        generalize upd HI y4 (.tup (NV (row'.drop (at'+1))))=HJ at sJ ty4
        refine ⟨y3,y4,_,_,rfl,rfl,sJ _ _ ty3,ty4,ba (by rw [aF,aF,BO,BV,Cr]; simp; lia),λ y5 HK sK ty5=>?_⟩
        rw [sU] at ty5
        have sFK:=sG.trans (sI.trans (sJ.trans sK))
        have SDK:St2 p HD HK:=⟨λ c u e1 e2=>sFK _ _ (SF.keep c u (s8 c u e1) e2),SF.tape.same sFK⟩
        have SCK:=SD.trans SDK
        generalize some (Lz (at':Nat))=w9
        nofun
        refine key y5 w9 HK ⟨S9C.trans SCK,SCK.keep _ _ tC n0,RC.st2 SC.tape SCK,_,ty5,by rw [BO,BO,BV,Cr]; simp; lia,λ x hx=>?_⟩
        rcases BY.mp hx with h | h
        ·rcases BY.mp h with h | h
         ·exact hrb' x (C5 h)
         ·rw [BH.mp h]; lia
        ·exact hrb' x (Da h)
       ·nofun
        exact key q _ HC ⟨S9C,tC,RC,row',tqC,hrl',hrb'⟩
      ·nofun
       exact key q _ HB ⟨S9B,tB,RB,row',tqB,hrl',hrb'⟩
     ·nofun
      exact key gr _ HA ⟨S9A,tA,RA,row,tqA,hrl,hrb⟩
    ·nofun
     exact key gr _ H9 ⟨S9,t9,R9,row,tq9,hrl,hrb⟩
   case hB=>
    rintro q2 w9 HZ ⟨SZ,tZ,RZ,row2,tq2,hrl2,hrb2⟩
    refine ⟨fj tZ,?_⟩
    nofun
    refine gD tZ (by rw [By,hql]; exact aB (by lia)) ?_
    refine ⟨SZ.own hl0 n0,⟨qs++[q2],tss++[row2],by rw [ac,B4]; rfl,(RZ.snoc tq2).own tZ,hG.snoc hrl2 hrb2,by simp [hql]⟩,_,_,_,rfl⟩
  ·rintro σ H4 ⟨S4,⟨ps,rss,u4,Q4,hG4,hpl⟩,v5,v6,v7,rfl⟩
   nofun
   exact k l0 ps rss H4 hl0 u4 Q4 (by rw [<-Q4.1]; lia) hG4 n0 S4
noncomputable def SmAt:Nat->Hp->V->V->Prop
 | 0,_,x,y=>∃ i,x=.int i/\y=.int i
 | n+1,H,x,y=>(∃ i,x=.int i/\y=.int i)\/(∃ a c xs ys,x=.ref a/\y=.ref c/\H a=some (.lst xs)/\H c=some (.lst ys)/\xs.length=ys.length/\xs.length<=200/\∀ (i:Nat) u v,xs[i]? = some u->ys[i]? = some v->SmAt n H u v)\/
  (∃ a c xs ys,x=.ref a/\y=.ref c/\H a=some (.tup xs)/\H c=some (.tup ys)/\xs.length=ys.length/\xs.length<=200/\∀ (i:Nat) u v,xs[i]? = some u->ys[i]? = some v->SmAt n H u v)
theorem SmAt.same {H H1:Hp} (s:Same H H1):∀ {n:Nat} {x y:V},SmAt n H x y->SmAt n H1 x y
 | 0,_,_,h=>h
 | n+1,_,_,h=>by
  rcases h with h | ⟨a,c,xs,ys,rfl,rfl,ha,hc,hl,hz,hi⟩ | ⟨a,c,xs,ys,rfl,rfl,ha,hc,hl,hz,hi⟩
  ·exact .inl h
  ·exact .inr (.inl ⟨a,c,xs,ys,rfl,rfl,s _ _ ha,s _ _ hc,hl,hz,λ i u v e1 e2=>SmAt.same s (hi i u v e1 e2)⟩)
  ·exact .inr (.inr ⟨a,c,xs,ys,rfl,rfl,s _ _ ha,s _ _ hc,hl,hz,λ i u v e1 e2=>SmAt.same s (hi i u v e1 e2)⟩)
theorem SmAt.int {H:Hp} (n:Nat) (i:Int):SmAt n H (.int i) (.int i):=by
 cases n with
 | zero=>exact ⟨i,rfl,rfl⟩
 | succ n=>exact .inl ⟨i,rfl,rfl⟩
theorem SmAt.pair {H:Hp} {c:Addr} {x u:V} (h1:H a=some (.tup [x,y])) (h2:H c=some (.tup [u,v])) (g1:SmAt n H x u) (g2:SmAt n H y v):SmAt (n+1) H (.ref a) (.ref c):=
 .inr (.inr ⟨a,c,_,_,rfl,rfl,h1,h2,rfl,by simp,λ i p q e1 e2=>by
  match i,e1,e2 with
  | 0,e1,e2=>cases e1; cases e2; exact g1
  | 1,e1,e2=>cases e1; cases e2; exact g2
  | i+2,e1,_=>simp at e1⟩)
theorem j5 {K:BA} {H:Hp} {Q:VK} {p:Addr} (s:H p=some (.tup xs)) (h:Q (.bl false) H):qP K [.ref p,.ty "list"] H Q:=⟨_,_,_,_,rfl,.tup s,rfl,h⟩
noncomputable def Aj (n:Nat):Sp:=λ vs H Q _=>∃ x y,vs=[x,y]/\SmAt n H x y/\∀ H',Same H H'->Q (.bl true) H'
theorem mi (T:Tx K mg t):∀ n:Nat,FnOk P w K mg base CX0 (n+1) t.kf t.ke ["_law_found","_law_due_here"] (Aj n)
 | 0=>by
  refine T.kc.okQ pQ (λ vs H Q E h=>?_) (λ cdv A outer s H vs Q E hr h=>?_)
  ·obtain ⟨x,y,rfl,_⟩:=h
   rfl
  ·obtain ⟨x,y,rfl,⟨i,rfl,rfl⟩,k⟩:=h
   refine ⟨_,(ad (bg (aE jF (qv 1) fG (az _)) (ak (av (aR jF (qv 0) fG (az _)))) aI)
   (ad (bg (cy (ai (iX (K:=K)) (by rfl) T.ag af (aj (qv 1) (aj (bK (aj (ax rfl T.cZ df (v:=.ty "list") rfl) (aj (ax rfl T.aU aN (v:=.ty "tuple") rfl) aa))) aa)))) (ad fU
   (ak fU)) aI)
   (ad (bg (cy (ai (aO (K:=K)) (by rfl) T.ag af (aj (qv 1) (aj (ax rfl T.cF ce (v:=.ty "bool") rfl) aa)))) (ak (av (bJ (ai (aO (K:=K)) (by rfl) T.ag af (aj (qv 0) (aj (ax rfl T.cF ce (v:=.ty "bool") rfl) aa))) (cH (aR kj (qv 0) (qv 1) (az _)))))) aI)
   (ad (bg (cy (ai (aO (K:=K)) (by rfl) T.ag af (aj (qv 1) (aj (ax rfl T.fD dP (v:=.ty "str") rfl) aa)))) (ak (av (bJ (ai (aO (K:=K)) (by rfl) T.ag af (aj (qv 0) (aj (ax rfl T.fD dP (v:=.ty "str") rfl) aa))) (cH (aR kj (qv 0) (qv 1) (az _)))))) aI)
   (ak (av (bJ (ai (aO (K:=K)) (by rfl) T.ag af (aj (qv 0) (aj (ax rfl T.kh jZ (v:=.ty "int") rfl) aa))) (bJ (lw (ai (aO (K:=K)) (by rfl) T.ag af (aj (qv 0) (aj (ax rfl T.cF ce (v:=.ty "bool") rfl) aa)))) (cH (aR kj (qv 0) (qv 1) (az _))))))))))),?_⟩
   rw [show L2.start ["_law_found","_law_due_here"] [Lz i,Lz i]=[some (Lz i),some (Lz i)] from rfl]
   nofun
   refine lp (λ h=>by cases h) ?_
   nofun
   refine ⟨ba (by simp),λ tp htp=>?_⟩
   nofun
   refine lD ac ?_
   nofun
   rw [decide_eq_true rfl]
   exact k _ ((LA H).new htp)
 | n+1=>by
  have recN:Tx K mg t->FnOk P w K mg base CX0 (n+1) t.kf t.ke ["_law_found","_law_due_here"] (Aj n):=λ T=>mi T n
  refine T.kc.okQ pQ (λ vs H Q E h=>?_) (λ cdv A outer s H vs Q E hr h=>?_)
  ·obtain ⟨x,y,rfl,_⟩:=h
   rfl
  ·obtain ⟨x,y,rfl,h,k⟩:=h
   rcases h with ⟨i,rfl,rfl⟩ | ⟨a,c,xs,ys,rfl,rfl,ta,tc,hl,hz,hi⟩ | ⟨a,c,xs,ys,rfl,rfl,ta,tc,hl,hz,hi⟩
   ·refine ⟨_,(ad (bg (aE jF (qv 1) fG (az _)) (ak (av (aR jF (qv 0) fG (az _)))) aI)
   (ad (bg (cy (ai (iX (K:=K)) (by rfl) T.ag af (aj (qv 1) (aj (bK (aj (ax rfl T.cZ df (v:=.ty "list") rfl) (aj (ax rfl T.aU aN (v:=.ty "tuple") rfl) aa))) aa)))) (ad fU
   (ak fU)) aI)
   (ad (bg (cy (ai (aO (K:=K)) (by rfl) T.ag af (aj (qv 1) (aj (ax rfl T.cF ce (v:=.ty "bool") rfl) aa)))) (ak (av (bJ (ai (aO (K:=K)) (by rfl) T.ag af (aj (qv 0) (aj (ax rfl T.cF ce (v:=.ty "bool") rfl) aa))) (cH (aR kj (qv 0) (qv 1) (az _)))))) aI)
   (ad (bg (cy (ai (aO (K:=K)) (by rfl) T.ag af (aj (qv 1) (aj (ax rfl T.fD dP (v:=.ty "str") rfl) aa)))) (ak (av (bJ (ai (aO (K:=K)) (by rfl) T.ag af (aj (qv 0) (aj (ax rfl T.fD dP (v:=.ty "str") rfl) aa))) (cH (aR kj (qv 0) (qv 1) (az _)))))) aI)
   (ak (av (bJ (ai (aO (K:=K)) (by rfl) T.ag af (aj (qv 0) (aj (ax rfl T.kh jZ (v:=.ty "int") rfl) aa))) (bJ (lw (ai (aO (K:=K)) (by rfl) T.ag af (aj (qv 0) (aj (ax rfl T.cF ce (v:=.ty "bool") rfl) aa)))) (cH (aR kj (qv 0) (qv 1) (az _))))))))))),?_⟩
    rw [show L2.start ["_law_found","_law_due_here"] [Lz i,Lz i]=[some (Lz i),some (Lz i)] from rfl]
    nofun
    refine lp (λ h=>by cases h) ?_
    nofun
    refine ⟨ba (by simp),λ tp htp=>?_⟩
    nofun
    refine lD ac ?_
    nofun
    rw [decide_eq_true rfl]
    exact k _ ((LA H).new htp)
   ·refine ⟨_,(ad (bg (aE jF (qv 1) fG (az _)) (ak (av (aR jF (qv 0) fG (az _)))) aI)
   (ad (bg (cy (ai (iX (K:=K)) (by rfl) T.ag af (aj (qv 1) (aj (bK (aj (ax rfl T.cZ df (v:=.ty "list") rfl) (aj (ax rfl T.aU aN (v:=.ty "tuple") rfl) aa))) aa)))) (ad (bg (QW.qt (qT (aE xp (ai (aO (K:=K)) (by rfl) T.ag af (aj (qv 0) (aj (ax rfl T.cZ df (v:=.ty "list") rfl) aa))) (ai (aO (K:=K)) (by rfl) T.ag af (aj (qv 1) (aj (ax rfl T.cZ df (v:=.ty "list") rfl) aa))) (az _)) (ly (aE xp (ai (aO (K:=K)) (by rfl) T.ag af (aj (qv 0) (aj (ax rfl T.aU aN (v:=.ty "tuple") rfl) aa))) (ai (aO (K:=K)) (by rfl) T.ag af (aj (qv 1) (aj (ax rfl T.aU aN (v:=.ty "tuple") rfl) aa))) (az _))))) (ak (av n8)) aI)
   (ak (av (bJ (aR kj (ai (bF (K:=K)) (by rfl) T.cG bC (aj (qv 0) aa)) (ai (bF (K:=K)) (by rfl) T.cG bC (aj (qv 1) aa)) (az _)) (cH (ai (sO (K:=K) rfl) (by rfl) T.qj tD (aj (cM (N:=["_law_one","_law_other"]) (tgs:=["_law_one","_law_other"]) (frs:=[]) (ix:=[]) ⟨rfl,by decide +kernel,rfl,by decide +kernel,rfl,rfl,Cf,Cf,rfl⟩ rfl (sS (K:=K) rfl T.na (aj (qv 0) (aj (qv 1) aa))) (λ _ _ _ _=>(cU (K:=K) (n:=2) rfl (ao (al (i:=0) (by show CZ (["_law_one","_law_other"]:List Str); decide +kernel) rfl (BN rfl)) (ao (al (i:=1) (by show CZ (["_law_one","_law_other"]:List Str); decide +kernel) rfl (BN rfl)) bi)))) (λ _ _ _ _=>(au (recN T) (hr.mono (by first | decide | lia)) rfl T.qh T.kc.kp T.pY aX (aj (qv 0) (aj (qv 1) aa))))) aa))))))) aI)
   (ad (bg (cy (ai (aO (K:=K)) (by rfl) T.ag af (aj (qv 1) (aj (ax rfl T.cF ce (v:=.ty "bool") rfl) aa)))) (ak (av (bJ (ai (aO (K:=K)) (by rfl) T.ag af (aj (qv 0) (aj (ax rfl T.cF ce (v:=.ty "bool") rfl) aa))) (cH (aR (uP (K:=K) hr.units0) (qv 0) (qv 1) (az _)))))) aI)
   (ad (bg (cy (ai (aO (K:=K)) (by rfl) T.ag af (aj (qv 1) (aj (ax rfl T.fD dP (v:=.ty "str") rfl) aa)))) (ak (av (bJ (ai (aO (K:=K)) (by rfl) T.ag af (aj (qv 0) (aj (ax rfl T.fD dP (v:=.ty "str") rfl) aa))) (cH (aR (uP (K:=K) hr.units0) (qv 0) (qv 1) (az _)))))) aI)
   (ak (av (bJ (ai (aO (K:=K)) (by rfl) T.ag af (aj (qv 0) (aj (ax rfl T.kh jZ (v:=.ty "int") rfl) aa))) (bJ (lw (ai (aO (K:=K)) (by rfl) T.ag af (aj (qv 0) (aj (ax rfl T.cF ce (v:=.ty "bool") rfl) aa)))) (cH (aR (uP (K:=K) hr.units0) (qv 0) (qv 1) (az _))))))))))),?_⟩
    rw [show L2.start ["_law_found","_law_due_here"] [LD a,LD c]=[some (LD a),some (LD c)] from rfl]
    nofun
    refine lp (λ h=>by cases h) ?_
    nofun
    refine ⟨ba (by simp),λ tp htp=>?_⟩
    have s1:=(LA H).new (o:=.tup [V.ty "list",V.ty "tuple"]) htp
    have ttp:(upd H tp (.tup [V.ty "list",V.ty "tuple"])) tp=some (.tup [V.ty "list",V.ty "tuple"]):=ac
    generalize upd H tp (.tup [V.ty "list",V.ty "tuple"])=H1 at s1 ttp
    have ta1:=s1 _ _ ta
    have tc1:=s1 _ _ tc
    nofun
    refine rb tc1 ttp ?_
    nofun
    refine lv ta1 ?_
    nofun
    refine lv tc1 ?_
    nofun
    refine iN rfl ?_
    nofun
    refine lE ta1 ?_
    nofun
    refine lE tc1 ?_
    nofun
    refine iN rfl ?_
    nofun
    refine bL (Lx ta1) ?_
    nofun
    refine bL (Lx tc1) ?_
    nofun
    refine sL (by rw [hl]) ?_
    nofun
    refine ⟨a,c,rfl,⟨_,Lx ta1⟩,⟨_,Lx tc1⟩,iW (n:=xs.length) (λ i ys σ H2=>Same H1 H2/\ys=B1 i (V.bl true)/\∃ v w,σ=[v,w]) (aB (by lia)) (λ i ys σ H2 h=>by rw [h.2.1,ES]) ⟨LA _,rfl,none,none,rfl⟩ ?_ ?_ ?_ ?_⟩
    ·rintro i zs σ H2 hi ⟨s2,_⟩
     exact ⟨_,_,xs[i],ys[i]'(by lia),Lx (s2 _ _ ta1),Lx (s2 _ _ tc1),by simp [hi],Bx _⟩
    ·rintro zs σ H2 ⟨s2,_⟩
     exact ⟨_,_,Lx (s2 _ _ ta1),Lx (s2 _ _ tc1),.inl (BD _)⟩
    ·rintro i x zs σ H2 H3 hi' ⟨s2,rfl,v,w,rfl⟩ ⟨p,x1,y1,rfl,hp,rfl,hx1,hy1⟩
     have hx2:=hx1 _ (Lx (s2 _ _ ta1))
     have hy2:=hy1 _ (Lx (s2 _ _ tc1))
     refine bH ac ?_
     dsimp only [FB]
     nofun
     refine ⟨_,_,rfl,(hi i x1 y1 hx2 hy2).same ((s1.trans s2).new hp),λ H4 s4=>?_⟩
     exact LC hi' ⟨(s2.new hp).trans s4,by rw [HQ],_,_,rfl⟩
    ·rintro zs σ H2 ⟨s2,rfl,v,w,rfl⟩ l hl
     nofun
     rw [<-Gn]
     refine sM (Lx ac) ?_
     have ea:(B1 xs.length true).all id=true:=by rw [DL]; intro x hx; rw [Fe hx]; rfl
     rw [ea]
     exact k _ ((s1.trans s2).new hl)
   ·refine ⟨_,(ad (bg (aE jF (qv 1) fG (az _)) (ak (av (aR jF (qv 0) fG (az _)))) aI)
   (ad (bg (cy (ai (iX (K:=K)) (by rfl) T.ag af (aj (qv 1) (aj (bK (aj (ax rfl T.cZ df (v:=.ty "list") rfl) (aj (ax rfl T.aU aN (v:=.ty "tuple") rfl) aa))) aa)))) (ad (bg (QW.qt (qT (aE xp (ai (aO (K:=K)) (by rfl) T.ag af (aj (qv 0) (aj (ax rfl T.cZ df (v:=.ty "list") rfl) aa))) (ai (aO (K:=K)) (by rfl) T.ag af (aj (qv 1) (aj (ax rfl T.cZ df (v:=.ty "list") rfl) aa))) (az _)) (ly (aE xp (ai (aO (K:=K)) (by rfl) T.ag af (aj (qv 0) (aj (ax rfl T.aU aN (v:=.ty "tuple") rfl) aa))) (ai (aO (K:=K)) (by rfl) T.ag af (aj (qv 1) (aj (ax rfl T.aU aN (v:=.ty "tuple") rfl) aa))) (az _))))) (ak (av n8)) aI)
   (ak (av (bJ (aR kj (ai (bF (K:=K)) (by rfl) T.cG bC (aj (qv 0) aa)) (ai (bF (K:=K)) (by rfl) T.cG bC (aj (qv 1) aa)) (az _)) (cH (ai (sO (K:=K) rfl) (by rfl) T.qj tD (aj (cM (N:=["_law_one","_law_other"]) (tgs:=["_law_one","_law_other"]) (frs:=[]) (ix:=[]) ⟨rfl,by decide +kernel,rfl,by decide +kernel,rfl,rfl,Cf,Cf,rfl⟩ rfl (uV (K:=K) rfl T.na (aj (qv 0) (aj (qv 1) aa))) (λ _ _ _ _=>(cU (K:=K) (n:=2) rfl (ao (al (i:=0) (by show CZ (["_law_one","_law_other"]:List Str); decide +kernel) rfl (BN rfl)) (ao (al (i:=1) (by show CZ (["_law_one","_law_other"]:List Str); decide +kernel) rfl (BN rfl)) bi)))) (λ _ _ _ _=>(au (recN T) (hr.mono (by first | decide | lia)) rfl T.qh T.kc.kp T.pY aX (aj (qv 0) (aj (qv 1) aa))))) aa))))))) aI)
   (ad (bg (cy (ai (aO (K:=K)) (by rfl) T.ag af (aj (qv 1) (aj (ax rfl T.cF ce (v:=.ty "bool") rfl) aa)))) (ak (av (bJ (ai (aO (K:=K)) (by rfl) T.ag af (aj (qv 0) (aj (ax rfl T.cF ce (v:=.ty "bool") rfl) aa))) (cH (aR (oh (K:=K) hr.units0) (qv 0) (qv 1) (az _)))))) aI)
   (ad (bg (cy (ai (aO (K:=K)) (by rfl) T.ag af (aj (qv 1) (aj (ax rfl T.fD dP (v:=.ty "str") rfl) aa)))) (ak (av (bJ (ai (aO (K:=K)) (by rfl) T.ag af (aj (qv 0) (aj (ax rfl T.fD dP (v:=.ty "str") rfl) aa))) (cH (aR (oh (K:=K) hr.units0) (qv 0) (qv 1) (az _)))))) aI)
   (ak (av (bJ (ai (aO (K:=K)) (by rfl) T.ag af (aj (qv 0) (aj (ax rfl T.kh jZ (v:=.ty "int") rfl) aa))) (bJ (lw (ai (aO (K:=K)) (by rfl) T.ag af (aj (qv 0) (aj (ax rfl T.cF ce (v:=.ty "bool") rfl) aa)))) (cH (aR (oh (K:=K) hr.units0) (qv 0) (qv 1) (az _))))))))))),?_⟩
    rw [show L2.start ["_law_found","_law_due_here"] [LD a,LD c]=[some (LD a),some (LD c)] from rfl]
    nofun
    refine lp (λ h=>by cases h) ?_
    nofun
    refine ⟨ba (by simp),λ tp htp=>?_⟩
    have s1:=(LA H).new (o:=.tup [V.ty "list",V.ty "tuple"]) htp
    have ttp:(upd H tp (.tup [V.ty "list",V.ty "tuple"])) tp=some (.tup [V.ty "list",V.ty "tuple"]):=ac
    generalize upd H tp (.tup [V.ty "list",V.ty "tuple"])=H1 at s1 ttp
    have ta1:=s1 _ _ ta
    have tc1:=s1 _ _ tc
    nofun
    refine oq tc1 ttp ?_
    nofun
    refine j5 ta1 ?_
    nofun
    refine j5 tc1 ?_
    nofun
    refine iN rfl ?_
    nofun
    refine lq ta1 ?_
    nofun
    refine lq tc1 ?_
    nofun
    refine iN rfl ?_
    nofun
    refine iP (Ly ta1) ?_
    nofun
    refine iP (Ly tc1) ?_
    nofun
    refine sL (by rw [hl]) ?_
    nofun
    refine ⟨a,c,rfl,⟨_,Ly ta1⟩,⟨_,Ly tc1⟩,iW (n:=xs.length) (λ i ys σ H2=>Same H1 H2/\ys=B1 i (V.bl true)/\∃ v w,σ=[v,w]) (aB (by lia)) (λ i ys σ H2 h=>by rw [h.2.1,ES]) ⟨LA _,rfl,none,none,rfl⟩ ?_ ?_ ?_ ?_⟩
    ·rintro i zs σ H2 hi ⟨s2,_⟩
     exact ⟨_,_,xs[i],ys[i]'(by lia),Ly (s2 _ _ ta1),Ly (s2 _ _ tc1),by simp [hi],Bx _⟩
    ·rintro zs σ H2 ⟨s2,_⟩
     exact ⟨_,Ly (s2 _ _ ta1),BD _⟩
    ·rintro i x zs σ H2 H3 hi' ⟨s2,rfl,v,w,rfl⟩ ⟨p,x1,y1,rfl,hp,rfl,hx1,hy1⟩
     have hx2:=hx1 _ (Ly (s2 _ _ ta1))
     have hy2:=hy1 _ (Ly (s2 _ _ tc1))
     refine bH ac ?_
     dsimp only [FB]
     nofun
     refine ⟨_,_,rfl,(hi i x1 y1 hx2 hy2).same ((s1.trans s2).new hp),λ H4 s4=>?_⟩
     exact LC hi' ⟨(s2.new hp).trans s4,by rw [HQ],_,_,rfl⟩
    ·rintro zs σ H2 ⟨s2,rfl,v,w,rfl⟩ l hl
     nofun
     rw [<-Gn]
     refine sM (Lx ac) ?_
     have ea:(B1 xs.length true).all id=true:=by rw [DL]; intro x hx; rw [Fe hx]; rfl
     rw [ea]
     exact k _ ((s1.trans s2).new hl)
theorem vP (T:Tx K mg t):FnOk P w K mg base CX0 5 t.kf t.ke ["_law_found","_law_due_here"] (Aj 4):=mi T 4
noncomputable def rQ:Sp:=λ vs H Q _=>∃ (a:Addr) (os:List Nat) (b:Nat),vs=[.ref a,.int b]/\H a=some (.lst (NV os))/\(∀ o∈os,o<b)/\os.length<=200/\b<=64/\∀ (l:Addr) H',H l=none->Same H H'->H' l=some (.lst (NV (cnt os b)))->Q (.ref l) H'
theorem j6 (T:Tx K mg t):FnOk P w K mg base CX0 1 t.js t.jq ["row","base"] rQ:=by
 refine T.jo.okQ sc_counts (λ vs H Q E h=>?_) (λ cdv A outer s H vs Q E hr h=>?_)
 ·obtain ⟨a,os,b,rfl,_⟩:=h
  rfl
 ·obtain ⟨a,os,b,rfl,ta,hob,hol,hb,k⟩:=h
  refine ⟨_,(ad (aA (i:=2) sc_counts.nd rfl (BN rfl) (aK xo (cT (aj ae aa)) (qv 1)))
   (ad (bA Cw rfl (bh (K:=K) (qv 0)) (al (i:=3) sc_counts.nd rfl (BN rfl)) (ak (lF (K:=K) (qv 2) (qv 3) ae)))
   (ak (av (qv 2))))),?_⟩
  rw [show L2.start ["row","base","often","figure"] [LD a,Lz b]=[some (LD a),some (Lz b),none,none] from rfl]
  nofun
  refine ⟨ba (by simp),λ q0 hq0=>?_⟩
  have s2:=(LA H).new (o:=.lst [Lz 0]) hq0
  have t0:(upd H q0 (.lst [Lz 0])) q0=some (.lst [Lz 0]):=ac
  generalize upd H q0 (.lst [Lz 0])=H2 at s2 t0
  nofun
  refine ⟨q0,_,_,rfl,rfl,t0,by lia,by lia,ba (by simp; lia),λ m hm=>?_⟩
  have efl:(B1 ((b:Nat):Int).toNat [Lz 0]).flatten=NV (cnt [] b):=by
   show (B1 b [Lz 0]).flatten=_
   rw [FC,NV,L2.cnt,CF]
   apply Em (by simp)
   intro i h1 h2
   simp
  rw [efl]
  have hmn:H m=none:=s2.free hm
  have s3:=s2.new (o:=.lst (NV (cnt [] b))) hm
  have tm:(upd H2 m (.lst (NV (cnt [] b)))) m=some (.lst (NV (cnt [] b))):=ac
  generalize upd H2 m (.lst (NV (cnt [] b)))=H3 at s3 tm
  nofun
  refine ⟨a,rfl,⟨_,Lx (s3 _ _ ta)⟩,c6 (a:=a) (xs:=NV os) (λ i σ H'=>Same H H'/\H' m=some (.lst (NV (cnt (os.take i) b)))/\∃ v,σ=[some (LD a),some (Lz b),some (LD m),v]) ⟨s3,tm,none,rfl⟩ (λ i σ H' _ h=>Lx (h.1 _ _ ta)) ?_ ?_⟩
  ·rintro i x σ H4 hx ⟨s4,tm4,v,rfl⟩
   obtain ⟨o,rfl,ho,hom,hi⟩:=aS hx
   have hlt:=hob o hom
   nofun
   refine ⟨m,_,_,_,rfl,rfl,Lx tm4,by lia,eM (cA hlt),?_⟩
   nofun
   refine ⟨_,_,rfl,rfl,?_⟩
   refine n5 tm4 (on rfl (by rw [aF,aT]; exact hlt)) ?_
   refine ⟨s4.own hmn,?_,_,rfl⟩
   rw [ac,B3,ho]
   show some (HO.lst ((NV (cnt (os.take i) b)).set o (Lz ((((os.take i).count o+1:Nat)):Int))))=some (HO.lst (NV (cnt (os.take i++[o]) b)))
   rw [ou,rj hlt]
  ·rintro σ H4 ⟨s4,tm4,v,rfl⟩
   rw [BF (by rw [aF]; exact BD _)] at tm4
   nofun
   exact k m H4 hmn s4 tm4
noncomputable def rR:Sp:=λ vs H Q _=>∃ (a:Addr) (cs:List Nat),vs=[.ref a]/\H a=some (.lst (NV cs))/\cs.length<=64/\∀ (l:Addr) H',H l=none->Same H H'->H' l=some (.lst (NV (oH cs)))->Q (.ref l) H'
theorem j7 (T:Tx K mg t):FnOk P w K mg base CX0 1 t.jr t.jp ["counts"] rR:=by
 refine T.jn.okQ sc_begins (λ vs H Q E h=>?_) (λ cdv A outer s H vs Q E hr h=>?_)
 ·obtain ⟨a,cs,rfl,_⟩:=h
  rfl
 ·obtain ⟨a,cs,rfl,ta,hcl,k⟩:=h
  refine ⟨_,(ad (aA (i:=1) sc_begins.nd rfl (BN rfl) (cT aa))
   (ad (aA (i:=2) sc_begins.nd rfl (BN rfl) ae)
   (ad (bA Cw rfl (bh (K:=K) (qv 0)) (al (i:=3) sc_begins.nd rfl (BN rfl)) (ad (iT (gB (K:=K) (qv 1) (aj (qv 2) aa)))
   (ak (eF (i:=2) sc_begins.nd rfl (BN rfl) (qv 3) eG))))
   (ak (av (qv 1)))))),?_⟩
  rw [show L2.start ["counts","lesser","so_far","many"] [LD a]=[some (LD a),none,none,none] from rfl]
  nofun
  refine ⟨ba (by simp),λ l hl=>?_⟩
  have s1:=(LA H).new (o:=.lst []) hl
  have t1:(upd H l (.lst [])) l=some (.lst (NV ((oH cs).take 0))):=ac
  generalize upd H l (.lst [])=H1 at s1 t1
  nofun
  refine ⟨a,rfl,⟨_,Lx (s1 _ _ ta)⟩,c6 (a:=a) (xs:=NV cs) (λ i σ H'=>Same H H'/\H' l=some (.lst (NV ((oH cs).take i)))/\∃ v,σ=[some (LD a),some (LD l),some (Lz ((cs.take i).sum:Nat)),v]) ⟨s1,t1,none,rfl⟩ (λ i σ H' _ h=>Lx (h.1 _ _ ta)) ?_ ?_⟩
  ·rintro i x σ H2 hx ⟨s2,t2,v,rfl⟩
   obtain ⟨o,rfl,ho,hom,hi⟩:=aS hx
   nofun
   refine ⟨fj t2,?_⟩
   nofun
   refine gD t2 (by rw [aF,BV,fV]; exact aB (by lia)) ?_
   rw [dW,<-oI hi]
   have e:(((cs.take i).sum:Nat):Int)+(o:Int)=((cs.take (i+1)).sum:Nat):=by rw [B3,ho,CA]; simp
   nofun
   exact ⟨s2.own hl,ac,some (Lz (o:Nat)),by rw [<-e]; rfl⟩
  ·rintro σ H2 ⟨s2,t2,v,rfl⟩
   rw [BF (by rw [aF,fV]; exact BD _)] at t2
   nofun
   exact k l H2 hl s2 t2
noncomputable def rS:Sp:=λ vs H Q _=>∃ (a:Addr) (os:List Nat),vs=[.ref a]/\(H a=some (.lst (NV os))\/H a=some (.tup (NV os)))/\os.length<=64/\∀ H',Same H H'->Q (.bl (bB os)) H'
theorem fe {os:List Nat} {o:Nat} (h:os[i]? = some o):fH (os.take (i+1))=fH (os.take i)++(if 0<o then [o] else []):=by
 unfold fH
 rw [B3,h,DP]
 congr 1
 simp only [JU]
 split<;>simp_all
theorem mj (os:List Nat) (i:Nat):(fH (os.take i)).length<=i:=by
 refine CM (DQ _ _) ?_
 rw [BV]; lia
theorem j8 (T:Tx K mg t):FnOk P w K mg base CX0 1 t.eA t.eh ["often"] rS:=by
 refine T.gZ.okQ j4 (λ vs H Q E h=>?_) (λ cdv A outer s H vs Q E hr h=>?_)
 ·obtain ⟨a,os,rfl,_⟩:=h
  rfl
 ·obtain ⟨a,os,rfl,ha,hol,k⟩:=h
  have e9:decide (((fH os).length:Int) > 1)=bB os:=by
   unfold bB
   exact decide_eq_decide.mpr (by lia)
  rcases ha with ta | ta
  ·refine ⟨_,(ak (av (aR oa (ai (bF (K:=K)) (by rfl) T.cG bC (aj (i4 (N:=["many"]) (tgs:=["many"]) (frs:=[]) (ix:=[]) ⟨rfl,by decide +kernel,rfl,by decide +kernel,rfl,rfl,Cf,Cf,rfl⟩ rfl (bh (K:=K) (qv 0)) (λ _ _ _ _=>(al (i:=0) (by show CZ (["many"]:List Str); decide +kernel) rfl (BN rfl))) (λ _ _ _ _=>(qv 0)) (λ _ _ _ _=>(aE oa (qv 0) ae (az _)))) aa)) ae (az _)))),?_⟩
   rw [show L2.start ["often"] [LD a]=[some (LD a)] from rfl]
   nofun
   refine ⟨a,rfl,⟨_,Lx ta⟩,jG (a:=a) (vs:=NV os) (λ i ys σ H'=>H'=H/\ys=NV (fH (os.take i))/\∃ v,σ=[v]) (by rw [aF]; exact aB (by lia)) (λ i ys σ H' h=>by rw [h.2.1,aF]; exact mj os i) (λ i ys σ H' h=>by rw [h.1]; exact Lx ta) ⟨rfl,rfl,none,rfl⟩ ?_ ?_⟩
   ·rintro i ys σ H' x hx ⟨rfl,rfl,v,rfl⟩
    have hil:=dk hx
    obtain ⟨o,rfl,ho,_,_⟩:=aS hx
    nofun
    refine aJ (λ g=>?_) (λ g=>?_)
    ·nofun
     refine LC hil ⟨rfl,?_,_,rfl⟩
     rw [dW,fe ho,if_pos (by lia)]
    ·refine LC hil ⟨rfl,?_,_,rfl⟩
     rw [fe ho,if_neg (by lia),C9]
   ·rintro ys σ H' ⟨rfl,rfl,v,rfl⟩ l hl
    rw [BF (by rw [aF]; exact BD _)]
    nofun
    refine bL (Lx ac) ?_
    rw [aF]
    nofun
    rw [e9]
    exact k _ ((LA H').new hl)
  ·refine ⟨_,(ak (av (aR oa (ai (bF (K:=K)) (by rfl) T.cG bC (aj (i4 (N:=["many"]) (tgs:=["many"]) (frs:=[]) (ix:=[]) ⟨rfl,by decide +kernel,rfl,by decide +kernel,rfl,rfl,Cf,Cf,rfl⟩ rfl (ik (K:=K) (qv 0)) (λ _ _ _ _=>(al (i:=0) (by show CZ (["many"]:List Str); decide +kernel) rfl (BN rfl))) (λ _ _ _ _=>(qv 0)) (λ _ _ _ _=>(aE oa (qv 0) ae (az _)))) aa)) ae (az _)))),?_⟩
   rw [show L2.start ["often"] [LD a]=[some (LD a)] from rfl]
   nofun
   refine ⟨a,rfl,⟨_,Ly ta⟩,oG (a:=a) (vs:=NV os) (λ i ys σ H'=>H'=H/\ys=NV (fH (os.take i))/\∃ v,σ=[v]) (by rw [aF]; exact aB (by lia)) (λ i ys σ H' h=>by rw [h.2.1,aF]; exact mj os i) (λ i ys σ H' h=>by rw [h.1]; exact Ly ta) ⟨rfl,rfl,none,rfl⟩ ?_ ?_⟩
   ·rintro i ys σ H' x hx ⟨rfl,rfl,v,rfl⟩
    have hil:=dk hx
    obtain ⟨o,rfl,ho,_,_⟩:=aS hx
    nofun
    refine aJ (λ g=>?_) (λ g=>?_)
    ·nofun
     refine LC hil ⟨rfl,?_,_,rfl⟩
     rw [dW,fe ho,if_pos (by lia)]
    ·refine LC hil ⟨rfl,?_,_,rfl⟩
     rw [fe ho,if_neg (by lia),C9]
   ·rintro ys σ H' ⟨rfl,rfl,v,rfl⟩ l hl
    rw [BF (by rw [aF]; exact BD _)]
    nofun
    refine bL (Lx ac) ?_
    rw [aF]
    nofun
    rw [e9]
    exact k _ ((LA H').new hl)
noncomputable def Ak:Sp:=λ vs H Q _=>∃ (a:Addr) (os:List Nat) (b:Nat),vs=[.ref a,.int b]/\H a=some (.lst (NV os))/\(∀ o∈os,o<b)/\os.length<=60/\b<=64/\∀ (l:Addr) (ob:List Nat) H',H l=none->Same H H'->H' l=some (.lst (NV ob))->ByF os ob->Q (.ref l) H'
theorem getD_some {os:List Nat} {o:Nat} (h:os[i]? = some o):os.getD i 0=o:=by rw [Bz,h]; rfl
theorem ff (T:Tx K mg t):FnOk P w K mg base CX0 2 t.bP t.bO ["row","base"] Ak:=by
 refine T.cY.okQ sc_order_by_figure (λ vs H Q E h=>?_) (λ cdv A outer s H vs Q E hr h=>?_)
 ·obtain ⟨a,os,b,rfl,_⟩:=h
  rfl
 ·obtain ⟨a,os,b,rfl,ta,hob,hol,hb,k⟩:=h
  refine ⟨_,(ad (aA (i:=2) sc_order_by_figure.nd rfl (BN rfl) (au (j7 T) (hr.mono (by decide)) rfl T.mw T.jn.kp T.mq aX (aj (au (j6 T) (hr.mono (by decide)) rfl T.my T.jo.kp T.mt aX (aj (qv 0) (aj (qv 1) aa))) aa)))
   (ad (aA (i:=3) sc_order_by_figure.nd rfl (BN rfl) (aK xo (cT (aj ae aa)) (ai (bF (K:=K)) (by rfl) T.cG bC (aj (qv 0) aa))))
   (ad (bA Cw rfl (oj (K:=K) rfl T.di (aj (qv 0) aa)) (cU (K:=K) (n:=2) rfl (ao (al (i:=4) sc_order_by_figure.nd rfl (BN rfl)) (ao (al (i:=5) sc_order_by_figure.nd rfl (BN rfl)) bi))) (ad (n9 (qv 4) (qv 3) (bI (cV (K:=K)) (qv 2) (qv 5)))
   (ak (lF (K:=K) (qv 2) (qv 5) ae))))
   (ak (av (qv 3)))))),?_⟩
  rw [show L2.start ["row","base","marks","order","place","figure"] [LD a,Lz b]=[some (LD a),some (Lz b),none,none,none,none] from rfl]
  nofun
  refine ⟨a,os,b,rfl,ta,hob,by lia,hb,λ c H1 hc0 s1 tc=>?_⟩
  nofun
  refine ⟨c,cnt os b,rfl,tc,by rw [aT]; exact hb,λ m H2 hm0 s2 tm=>?_⟩
  have hmn:H m=none:=s1.free hm0
  have s12:=s1.trans s2
  nofun
  refine ⟨ba (by simp),λ q0 hq0=>?_⟩
  have s3:=s12.new (o:=.lst [Lz 0]) hq0
  have tm3:(upd H2 q0 (.lst [Lz 0])) m=some (.lst (NV (oH (cnt os b)))):=by rw [aq (ap tm hq0)]; exact tm
  have t0:(upd H2 q0 (.lst [Lz 0])) q0=some (.lst [Lz 0]):=ac
  generalize upd H2 q0 (.lst [Lz 0])=H3 at s3 tm3 t0
  nofun
  refine bL (Lx (s3 _ _ ta)) ?_
  rw [aF]
  refine ⟨q0,_,_,rfl,rfl,t0,by lia,by lia,ba (by simp; lia),λ d hd=>?_⟩
  have efl:(B1 ((os.length:Nat):Int).toNat [Lz 0]).flatten=NV (B1 os.length 0):=by
   show (B1 os.length [Lz 0]).flatten=_
   rw [FC,NV,Gn]; rfl
  rw [efl]
  have hdn:H d=none:=s3.free hd
  have hmd:m≠d:=ap tm3 hd
  have s4:=s3.new (o:=.lst (NV (B1 os.length 0))) hd
  have tm4:(upd H3 d (.lst (NV (B1 os.length 0)))) m=some (.lst (NV (oH (cnt os b)))):=by rw [aq hmd]; exact tm3
  have td:(upd H3 d (.lst (NV (B1 os.length 0)))) d=some (.lst (NV (B1 os.length 0))):=ac
  generalize upd H3 d (.lst (NV (B1 os.length 0)))=H4 at s4 tm4 td
  nofun
  refine ⟨a,rfl,⟨_,Lx (s4 _ _ ta)⟩,uQ (n:=os.length) (λ i σ H'=>Same H H'/\(∃ ms ds:List Nat,H' m=some (.lst (NV ms))/\H' d=some (.lst (NV ds))/\ms.length=b/\ds.length=os.length/\(∀ f,f<b->ms[f]? = some (aG os f+(os.take i).count f))/\∀ j,j<i->ds[dq os j]? = some j)/\∃ v w,σ=[some (LD a),some (Lz b),some (LD m),some (LD d),v,w]) ⟨s4,⟨_,_,tm4,td,by rw [fV,aT],by simp,λ f hf=>?_,λ j h=>absurd h (FM _)⟩,none,none,rfl⟩ ?_ ?_ ?_ ?_⟩
  ·rw [fW (by rw [aT]; exact hf),bj os b f (by lia)]; rfl
  ·rintro i σ H5 hi ⟨s5,_⟩
   exact ⟨_,_,Lx (s5 _ _ ta),eM (o:=os[i]) (by simp [hi])⟩
  ·rintro σ H5 ⟨s5,_⟩
   exact ⟨_,Lx (s5 _ _ ta),by rw [aF]⟩
  ·rintro i x σ H5 H6 hi ⟨s5,⟨ms,ds,tm5,td5,hml,hdl,hms,hds⟩,v,w,rfl⟩ ⟨q,x1,rfl,hq,rfl,hx1⟩
   have ei:os[i]? = some os[i]:=by simp [hi]
   have hx2:=hx1 _ (Lx (s5 _ _ ta))
   rw [eM ei] at hx2
   obtain rfl:=CG hx2
   have hfb:=hob os[i] (BM hi)
   have eg:=getD_some ei
   have esp:dq os i=aG os os[i]+(os.take i).count os[i]:=by unfold dq; rw [eg]
   have hsl:=kF hi
   have hcs:=cB hi
   rw [eg] at hcs
   generalize os[i]=f at *
   refine bH ac ?_
   dsimp only [FB]
   have s6:=s5.new (o:=.tup [Lz (i:Nat),Lz (f:Nat)]) hq
   have tm6:(upd H5 q (.tup [Lz (i:Nat),Lz (f:Nat)])) m=some (.lst (NV ms)):=by rw [aq (ap tm5 hq)]; exact tm5
   have td6:(upd H5 q (.tup [Lz (i:Nat),Lz (f:Nat)])) d=some (.lst (NV ds)):=by rw [aq (ap td5 hq)]; exact td5
   generalize upd H5 q (.tup [Lz (i:Nat),Lz (f:Nat)])=H6 at s6 tm6 td6
   nofun
   refine dU (Lx tm6) (re rfl (hms f hfb)) ?_
   rw [<-esp]
   nofun
   refine n5 td6 (on rfl (by rw [aF,hdl]; exact hsl)) ?_
   rw [ou]
   have s7:=s6.own (o:=.lst (NV (ds.set (dq os i) i))) hdn
   have tm7:(upd H6 d (.lst (NV (ds.set (dq os i) i)))) m=some (.lst (NV ms)):=by rw [aq hmd]; exact tm6
   have td7:(upd H6 d (.lst (NV (ds.set (dq os i) i)))) d=some (.lst (NV (ds.set (dq os i) i))):=ac
   generalize upd H6 d (.lst (NV (ds.set (dq os i) i)))=H7 at s7 tm7 td7
   nofun
   refine ⟨m,_,_,_,rfl,rfl,Lx tm7,by lia,eM (hms f hfb),?_⟩
   nofun
   refine ⟨_,_,rfl,rfl,?_⟩
   refine n5 tm7 (on rfl (by rw [aF,hml]; exact hfb)) ?_
   refine ⟨s7.own hmn,⟨ms.set f (aG os f+(os.take i).count f+1),ds.set (dq os i) i,?_,by rw [aq (DN hmd)]; exact td7,by simpa using hml,by simpa using hdl,λ g hg=>?_,λ j hj=>?_⟩,_,_,rfl⟩
   ·rw [ac]
    show some (HO.lst ((NV ms).set f (Lz ((aG os f+(os.take i).count f+1:Nat):Int))))=_
    rw [ou]
   ·rw [GB]
    by_cases e:f=g
    ·subst e
     rw [if_pos rfl,if_pos (by lia),hcs]; rfl
    ·rw [if_neg e,hms g hg,B3,ei,DV]
     have:Jr g [f]=0:=Di.mpr (by simp; exact λ z=>e z.symm)
     simp only [JU,this,En]
   ·rw [GB]
    by_cases e:dq os i=dq os j
    ·have hij:=lG hi (by lia) e
     rw [if_pos e,if_pos (by lia),hij]
    ·rw [if_neg e]
     have:j≠i:=λ z=>e (by rw [z])
     exact hds j (by lia)
  ·rintro σ H5 ⟨s5,⟨ms,ds,tm5,td5,hml,hdl,hms,hds⟩,v,w,rfl⟩
   nofun
   exact k d ds H5 hdn s5 td5 ⟨hdl,hds⟩
noncomputable def RowsS (H:Hp) (ps:List Addr) (rss:List (List Nat)):Prop:=ps.length=rss.length/\∀ (i:Nat) p r,ps[i]? = some p->rss[i]? = some r->H p=some (.lst (NV r))\/H p=some (.tup (NV r))
theorem RowsS.same {H:Hp} {rss:List (List Nat)} (h:RowsS H ps rss) (e:Same H H1):RowsS H1 ps rss:=⟨h.1,λ i p z a c=>(h.2 i p z a c).elim (λ h=>.inl (e _ _ h)) (λ h=>.inr (e _ _ h))⟩
theorem RowsT.toS {H:Hp} {rss:List (List Nat)} (h:RowsT H ps rss):RowsS H ps rss:=⟨h.1,λ i p z a c=>.inr (h.2 i p z a c)⟩
noncomputable def vQ:Sp:=λ vs H Q _=>∃ (a:Addr) (ps:List Addr) (rss:List (List Nat)) (w:Nat),vs=[.ref a]/\(H a=some (.lst (ps.map LD))\/H a=some (.tup (ps.map LD)))/\RowsS H ps rss/\(∀ r∈rss,r.length=w)/\Q (.int ((if rss=[] then 0 else w:Nat):Int)) H
theorem gX (T:Tx K mg t):FnOk P w K mg base CX0 1 t.cR t.cQ ["rows"] vQ:=by
 refine T.dR.okQ gW (λ vs H Q E h=>?_) (λ cdv A outer s H vs Q E hr h=>?_)
 ·obtain ⟨a,ps,rss,w,rfl,_⟩:=h
  rfl
 ·obtain ⟨a,ps,rss,w,rfl,hta,hR,hw,k⟩:=h
  have hl:=hR.1
  rcases hta with ta | ta
  ·refine ⟨_,(ad (bg (lx (iR (K:=K) (qv 0))) (ak (av ae)) aI)
   (ak (av (ai (bF (K:=K)) (by rfl) T.cG bC (aj (bI (cV (K:=K)) (qv 0) ae) aa))))),?_⟩
   rw [show L2.start ["rows"] [LD a]=[some (LD a)] from rfl]
   nofun
   refine ⟨_,AQ (Lx ta),?_⟩
   cases ps with
   | nil=>
    have:rss=[]:=D0.mp hl.symm
    rw [if_pos this] at k
    nofun
    exact k
   | cons p r=>
    have hne:rss≠[]:=λ z=>by rw [z] at hl; simp at hl
    rw [if_neg hne] at k
    have h0:0<rss.length:=E2.mpr hne
    have hz:=hR.2 0 p rss[0] rfl (Bx h0)
    have hzl:(NV rss[0]).length=w:=by rw [aF]; exact hw _ (BM h0)
    refine cS ?_
    nofun
    refine dU (Lx ta) (v:=LD p) (bv (j:=0) rfl) ?_
    nofun
    refine ⟨p,_,rfl,hz.elim (λ h=>.inl (Lx h)) (λ h=>.inr (Ly h)),?_⟩
    rw [hzl]
    nofun
    exact k
  ·refine ⟨_,(ad (bg (lx (iR (K:=K) (qv 0))) (ak (av ae)) aI)
   (ak (av (ai (bF (K:=K)) (by rfl) T.cG bC (aj (bI (kC (K:=K)) (qv 0) ae) aa))))),?_⟩
   rw [show L2.start ["rows"] [LD a]=[some (LD a)] from rfl]
   nofun
   refine ⟨_,Bi (Ly ta),?_⟩
   cases ps with
   | nil=>
    have:rss=[]:=D0.mp hl.symm
    rw [if_pos this] at k
    nofun
    exact k
   | cons p r=>
    have hne:rss≠[]:=λ z=>by rw [z] at hl; simp at hl
    rw [if_neg hne] at k
    have h0:0<rss.length:=E2.mpr hne
    have hz:=hR.2 0 p rss[0] rfl (Bx h0)
    have hzl:(NV rss[0]).length=w:=by rw [aF]; exact hw _ (BM h0)
    refine cS ?_
    nofun
    refine fF (Ly ta) (v:=LD p) (bv (j:=0) rfl) ?_
    nofun
    refine ⟨p,_,rfl,hz.elim (λ h=>.inl (Lx h)) (λ h=>.inr (Ly h)),?_⟩
    rw [hzl]
    nofun
    exact k
noncomputable def vR:Sp:=λ vs H Q _=>∃ (f c:Nat) (a:Addr) (cs:List Nat),vs=[.int f,.ref a,.int c]/\H a=some (.lst (NV cs))/\cs.length<=64/\∀ (l:Addr) (qs:List Addr) H',H l=none->Same H H'->H' l=some (.lst (qs.map LD))->TrAt H' qs (aD f cs c)->Q (.ref l) H'
theorem k7 (h:i<cs.length):(aD f cs c).take (i+1)=(aD f cs c).take i++[(f+(cs.take i).sum,f+(cs.take i).sum+cs.getD i 0,c)]:=by
 unfold aD
 rw [B3,BI,De h]; rfl
theorem iD (f c:Nat) (cs:List Nat):(aD f cs c).length=cs.length:=by unfold aD; simp
theorem k8 (T:Tx K mg t):FnOk P w K mg base CX0 2 t.fB t.fA ["first","often","column"] vR:=by
 refine T.iE.okQ k4 (λ vs H Q E h=>?_) (λ cdv A outer s H vs Q E hr h=>?_)
 ·obtain ⟨f,c,a,cs,rfl,_⟩:=h
  rfl
 ·obtain ⟨f,c,a,cs,rfl,ta,hcl,k⟩:=h
  refine ⟨_,(ak (av (cM (N:=["begin","many","first","column"]) (tgs:=["begin","many"]) (frs:=["first","column"]) (ix:=[0,2]) ⟨rfl,by decide +kernel,rfl,by decide +kernel,rfl,rfl,⟨⟨rfl,rfl,_,rfl,rfl⟩,⟨rfl,rfl,_,rfl,rfl⟩,Cf⟩,⟨rfl,rfl,Cf⟩,rfl⟩ rfl (sS (K:=K) rfl T.na (aj (au (j7 T) (hr.mono (by decide)) rfl T.mw T.jn.kp T.mq aX (aj (qv 1) aa)) (aj (qv 1) aa))) (λ _ _ _ _=>(cU (K:=K) (n:=2) rfl (ao (al (i:=0) (by show CZ (["begin","many","first","column"]:List Str); decide +kernel) rfl (BN rfl)) (ao (al (i:=1) (by show CZ (["begin","many","first","column"]:List Str); decide +kernel) rfl (BN rfl)) bi)))) (λ _ _ _ _=>(bK (aj (aK cz (qv 2) (qv 0)) (aj (aK cz (aK cz (qv 2) (qv 0)) (qv 1)) (aj (qv 3) aa)))))))),?_⟩
  rw [show L2.start ["first","often","column"] [Lz f,LD a,Lz c]=[some (Lz f),some (LD a),some (Lz c)] from rfl]
  nofun
  refine ⟨a,cs,rfl,ta,hcl,λ d H1 hd s1 td=>?_⟩
  have ta1:=s1 _ _ ta
  nofun
  refine ⟨d,a,rfl,⟨_,Lx td⟩,⟨_,Lx ta1⟩,iW (n:=cs.length) (λ i ys σ H'=>Same H1 H'/\(∃ qs:List Addr,ys=qs.map LD/\qs.length=i/\TrAt H' qs ((aD f cs c).take i))/\∃ v w,σ=[v,w,some (Lz f),some (Lz c)]) (aB (by lia)) (λ i ys σ H' h=>by obtain ⟨_,⟨qs,rfl,e,_⟩,_⟩:=h; rw [By,e]) ⟨LA _,⟨[],rfl,rfl,rfl,λ i q s h=>by simp at h⟩,none,none,rfl⟩ ?_ ?_ ?_ ?_⟩
  ·rintro i ys σ H2 hi ⟨s2,_⟩
   exact ⟨_,_,Lz ((cs.take i).sum:Nat),Lz (cs[i]:Nat),Lx (s2 _ _ td),Lx (s2 _ _ ta1),eM (fW hi),eM (by simp [hi])⟩
  ·rintro ys σ H2 ⟨s2,_⟩
   exact ⟨_,_,Lx (s2 _ _ td),Lx (s2 _ _ ta1),.inl (by rw [aF,fV]; exact BD _)⟩
  ·rintro i x ys σ H2 H3 hi ⟨s2,⟨qs,rfl,hql,hQ⟩,v,w,rfl⟩ ⟨p,x1,y1,rfl,hp,rfl,hx1,hy1⟩
   have hx2:=hx1 _ (Lx (s2 _ _ td))
   have hy2:=hy1 _ (Lx (s2 _ _ ta1))
   rw [eM (fW hi)] at hx2
   rw [eM (o:=cs[i]) (by simp [hi])] at hy2
   obtain rfl:=CG hx2
   obtain rfl:=CG hy2
   refine bH ac ?_
   dsimp only [FB]
   have s3:=s2.new (o:=.tup [Lz ((cs.take i).sum:Nat),Lz (cs[i]:Nat)]) hp
   have Q3:=hQ.same ((LA H2).new (o:=.tup [Lz ((cs.take i).sum:Nat),Lz (cs[i]:Nat)]) hp)
   generalize upd H2 p (.tup [Lz ((cs.take i).sum:Nat),Lz (cs[i]:Nat)])=H3 at s3 Q3
   have e1:(f:Int)+((cs.take i).sum:Nat)=((f+(cs.take i).sum:Nat):Int):=by lia
   have eg:cs.getD i 0=cs[i]:=by rw [Bz,Bx hi]; rfl
   have e2:((f+(cs.take i).sum:Nat):Int)+(cs[i]:Nat)=((f+(cs.take i).sum+cs[i]:Nat):Int):=by lia
   nofun
   rw [e1,e2]
   refine ⟨ba (by simp),λ t ht=>?_⟩
   refine LC hi ⟨s3.new ht,⟨qs++[t],by rw [B4]; rfl,by simp [hql],?_⟩,_,_,rfl⟩
   rw [k7 hi,eg]
   exact (Q3.same ((LA _).new ht)).snoc ac
  ·rintro ys σ H2 ⟨s2,⟨qs,rfl,hql,hQ⟩,v,w,rfl⟩ l hl
   rw [BF (by rw [iD]; exact BD _)] at hQ
   exact k l qs _ (s1.free (s2.free hl)) ((s1.trans s2).new hl) ac (hQ.same ((LA H2).new hl))
noncomputable def rT:Sp:=λ vs H Q _=>∃ (a:Addr) (ps:List Addr) (rss:List (List Nat)) (w b:Nat),vs=[.ref a,.int b]/\H a=some (.lst (ps.map LD))/\RowsS H ps rss/\Good rss w b/\rss.length<=60/\w<=120/\b<=64/\
 ∀ (t o st:Addr) (zs:List Addr) (os:List Nat) (sts:List bW) H',Fst rss (if rss=[] then 0 else w) os sts []->sts.length<=60->H' t=some (.tup [.ref o,.ref st])->H' o=some (.lst (NV os))->os.Perm (BC rss.length)->os.Pairwise (Rk rss 0)->H' st=some (.lst (zs.map LD))->TrAt H' zs sts->o≠st->H t=none->H o=none->H st=none->Same H H'->Q (.ref t) H'
theorem jm (T:Tx K mg t):FnOk P w K mg base CX0 3 t.dG t.dE ["rows","base"] rT:=by
 refine T.fK.okQ sc_from_first (λ vs H Q E h=>?_) (λ cdv A outer s H vs Q E hr h=>?_)
 ·obtain ⟨a,ps,rss,w,b,rfl,_⟩:=h
  rfl
 ·obtain ⟨a,ps,rss,w,b,rfl,hta,hR,hG,hn,hw,hb,k⟩:=h
  have hpl:ps.length=rss.length:=hR.1
  have hwl:∀ r∈rss,r.length=w:=λ r hr=>(hG r hr).1
  have ta:=hta
  ·refine ⟨_,(ad (aA (i:=2) sc_from_first.nd rfl (BN rfl) (qY rfl rfl T.cZ rfl T.bQ (aj (ai (bF (K:=K)) (by rfl) T.cG bC (aj (qv 0) aa)) aa)))
   (ad (aA (i:=3) sc_from_first.nd rfl (BN rfl) (cT aa))
   (ad (aA (i:=4) sc_from_first.nd rfl (BN rfl) (au (gX T) (hr.mono (by decide)) rfl T.ie T.dR.kp T.ic aX (aj (qv 0) aa)))
   (ad (aA (i:=5) sc_from_first.nd rfl (BN rfl) (cT (aj (bK (aj ae (aj (ai (bF (K:=K)) (by rfl) T.cG bC (aj (qv 0) aa)) (aj ae aa)))) aa)))
   (ad (qU Cw (iR (K:=K) (qv 5)) (ad (om (oz (K:=K) (qv 5)) (cU (K:=K) (n:=3) rfl (ao (al (i:=6) sc_from_first.nd rfl (BN rfl)) (ao (al (i:=7) sc_from_first.nd rfl (BN rfl)) (ao (al (i:=8) sc_from_first.nd rfl (Gg rfl)) bi)))))
   (ad (bg (QW.qt (qT (aE AK (aK kB (qv 7) (qv 6)) ae (az _)) (ly (aE kj (qv 8) (qv 4) (az _))))) (ak uX) aI)
   (ad (aA (i:=9) sc_from_first.nd rfl (Gg rfl) (cq (uL (K:=K)) (qv 2) (cL (qv 6)) (cL (qv 7))))
   (ad (kD (i:=10) (N:=["place","rows","column"]) (tgs:=["place"]) (frs:=["rows","column"]) (ix:=[0,8])  sc_from_first.nd rfl (BN rfl) ⟨rfl,by decide +kernel,rfl,by decide +kernel,rfl,rfl,⟨⟨rfl,rfl,_,rfl,rfl⟩,⟨rfl,rfl,_,rfl,rfl⟩,Cf⟩,⟨rfl,rfl,Cf⟩,rfl⟩ rfl (bh (K:=K) (qv 9)) (λ _ _ _ _=>(al (i:=0) (by show CZ (["place","rows","column"]:List Str); decide +kernel) rfl (BN rfl))) (λ _ _ _ _=>(bI (zY (K:=K)) (bI (cV (K:=K)) (qv 1) (qv 0)) (qv 2))))
   (ad (aA (i:=11) sc_from_first.nd rfl (BN rfl) (au (j6 T) (hr.mono (by decide)) rfl T.my T.jo.kp T.mt aX (aj (qv 10) (aj (qv 1) aa))))
   (ad (bg (cy (au (j8 T) (hr.mono (by decide)) rfl T.li T.gZ.kp T.lc aX (aj (qv 11) aa))) (ad (xJ (cM (N:=["at","stretch"]) (tgs:=["at"]) (frs:=["stretch"]) (ix:=[9]) ⟨rfl,by decide +kernel,rfl,by decide +kernel,rfl,rfl,⟨⟨rfl,rfl,_,rfl,rfl⟩,Cf⟩,⟨rfl,Cf⟩,rfl⟩ rfl (bh (K:=K) (au (ff T) (hr.mono (by decide)) rfl T.fC T.cY.kp T.fz aX (aj (qv 10) (aj (qv 1) aa)))) (λ _ _ _ _=>(al (i:=0) (by show CZ (["at","stretch"]:List Str); decide +kernel) rfl (BN rfl))) (λ _ _ _ _=>(bI (cV (K:=K)) (qv 1) (qv 0)))) (qv 2) (qv 6) (qv 7))
   (ak (iT (gB (K:=K) (qv 3) (aj (bK (aj (qv 6) (aj (qv 7) (aj (qv 8) aa)))) aa))))) aI)
   (ak (iT (oA (K:=K) (qv 5) (aj (xx (K:=K) (au (k8 T) (hr.mono (by decide)) rfl T.m8 T.iE.kp T.m7 aX (aj (qv 6) (aj (qv 11) (aj (aK cz (qv 8) ae) aa))))) aa)))))))))))
   (ak (av (bK (aj (qv 2) (aj (qv 3) aa)))))))))),?_⟩
   rw [show L2.start ["rows","base","order","steps","columns","waiting","first","last","column","stretch","row","often"] [LD a,Lz b]=[some (LD a),some (Lz b),none,none,none,none,none,none,none,none,none,none] from rfl]
   nofun
   refine bL (Lx ta) ?_
   rw [By,hpl]
   nofun
   refine ⟨rss.length,rfl,by lia,λ o ho=>?_⟩
   rw [rf]
   have er:((BC rss.length).map λ i=>0+i)=BC rss.length:=by simp
   rw [er]
   have s1:=(LA H).new (o:=.lst (NV (BC rss.length))) ho
   have to0:(upd H o (.lst (NV (BC rss.length)))) o=some (.lst (NV (BC rss.length))):=ac
   generalize upd H o (.lst (NV (BC rss.length)))=H1 at s1 to0
   nofun
   refine ⟨ba (by simp),λ st hst=>?_⟩
   have hstn:H st=none:=s1.free hst
   have h0s:o≠st:=ap to0 hst
   have s2:=s1.new (o:=.lst []) hst
   have to2:(upd H1 st (.lst [])) o=some (.lst (NV (BC rss.length))):=by rw [aq h0s]; exact to0
   have tst:(upd H1 st (.lst [])) st=some (.lst []):=ac
   generalize upd H1 st (.lst [])=H2 at s2 to2 tst
   nofun
   refine ⟨a,ps,rss,w,rfl,.inl (s2 _ _ ta),hR.same s2,hwl,?_⟩
   have hC:∀ r∈rss,r.length=(if rss=[] then 0 else w):=λ r hr=>by rw [if_neg (λ z=>by rw [z] at hr; cases hr)]; exact hwl r hr
   have hCw:(if rss=[] then 0 else w)<=w:=by split<;>lia
   generalize (if rss=[] then 0 else w)=C at hC hCw k
   nofun
   refine bL (Lx (s2 _ _ ta)) ?_
   rw [By,hpl]
   nofun
   refine ⟨ba (by simp),λ t0 ht0=>?_⟩
   have s3:=s2.new (o:=.tup [Lz 0,Lz (rss.length:Nat),Lz 0]) ht0
   have to3:(upd H2 t0 (.tup [Lz 0,Lz (rss.length:Nat),Lz 0])) o=some (.lst (NV (BC rss.length))):=by rw [aq (ap to2 ht0)]; exact to2
   have ts3:(upd H2 t0 (.tup [Lz 0,Lz (rss.length:Nat),Lz 0])) st=some (.lst []):=by rw [aq (ap tst ht0)]; exact tst
   have tt0:(upd H2 t0 (.tup [Lz 0,Lz (rss.length:Nat),Lz 0])) t0=some (.tup [Lz ((0:Nat):Int),Lz (rss.length:Nat),Lz ((0:Nat):Int)]):=ac
   generalize upd H2 t0 (.tup [Lz 0,Lz (rss.length:Nat),Lz 0])=H3 at s3 to3 ts3 tt0
   nofun
   refine ⟨ba (by simp),λ wl hwl0=>?_⟩
   have hwn:H wl=none:=s3.free hwl0
   have how:o≠wl:=ap to3 hwl0
   have hsw:st≠wl:=ap ts3 hwl0
   have s4:=s3.new (o:=.lst [LD t0]) hwl0
   have to4:(upd H3 wl (.lst [LD t0])) o=some (.lst (NV (BC rss.length))):=by rw [aq how]; exact to3
   have ts4:(upd H3 wl (.lst [LD t0])) st=some (.lst []):=by rw [aq hsw]; exact ts3
   have tw4:(upd H3 wl (.lst [LD t0])) wl=some (.lst ([t0].map LD)):=ac
   have T4:TrAt (upd H3 wl (.lst [LD t0])) [t0] [(0,rss.length,0)]:=by
    refine ⟨rfl,λ i q s a b=>?_⟩
    match i,a,b with
    | 0,a,b=>cases a; cases b; rw [aq (ap tt0 hwl0)]; exact tt0
    | i+1,a,_=>simp at a
   generalize upd H3 wl (.lst [LD t0])=H4 at s4 to4 ts4 tw4 T4
   nofun
   refine ⟨λ m σ H'=>∃ (ws:List bW) (qs:List Addr) (os:List Nat) (zs:List Addr),m=i6 b C ws/\Same H H'/\H' o=some (.lst (NV os))/\H' st=some (.lst (zs.map LD))/\H' wl=some (.lst (qs.map LD))/\TrAt H' qs ws/\Msd rss C os ws/\Low b ws/\zs.length+eQ ws<=60/\(∃ sts,TrAt H' zs sts/\Fst rss C os sts (ws.filter (act C)))/\∃ v6 v7 v8 v9 va vb,σ=[some (LD a),some (Lz b),some (LD o),some (LD st),some (Lz C),some (LD wl),v6,v7,v8,v9,va,vb],⟨_,_,_,_,[],rfl,s4,to4,ts4,tw4,T4,Msd.start rss C,(λ i s e=>?_),?_,⟨[],⟨rfl,λ i q s h=>by simp at h⟩,Fst.start⟩,_,_,_,_,_,_,rfl⟩,?_⟩
   ·match i,e with
    | 0,_=>exact Ca _
    | i+1,e=>simp at e
   ·show 0+(rss.length - 0 - 1+0)<=60
    lia
   rintro m σ H5 ⟨ws,qs,os,zs,rfl,s5,to5,ts5,tw5,T5,M5,L5,ph5,⟨sts,TZ5,F5⟩,v6,v7,v8,v9,va,vb,rfl⟩
   nofun
   refine ⟨_,AQ (Lx tw5),?_⟩
   by_cases hq0:qs=[]
   ·have hw0:ws=[]:=D0.mp (by rw [<-T5.1,hq0]; rfl)
    subst hq0 hw0
    rw [if_neg (by simp)]
    nofun
    refine ⟨ba (by simp),λ t ht=>?_⟩
    exact k t o st zs os sts _ F5 (by rw [<-TZ5.1]; lia) ac (by rw [aq (ap to5 ht)]; exact to5) M5.perm M5.done (by rw [aq (ap ts5 ht)]; exact ts5) (TZ5.same ((LA H5).new ht)) h0s (s5.free ht) ho hstn (s5.new ht)
   obtain ⟨rs,q,vs,⟨f,l,c⟩,rfl,rfl,Tr,tq⟩:=T5.last hq0
   have tq:H5 q=some (.tup [.int (f:Nat),.int (l:Nat),.int (c:Nat)]):=tq
   have hne:(!((rs++[q]).map LD).isEmpty)=true:=by simp
   rw [if_pos hne]
   refine ⟨_,λ _ _ z=>z,?_⟩
   nofun
   refine ⟨fj tw5,?_⟩
   rw [B4] at tw5
   refine oK tw5 ?_
   have s6:=s5.own (o:=.lst (rs.map LD)) hwn
   have to6:(upd H5 wl (.lst (rs.map LD))) o=some (.lst (NV os)):=by rw [aq how]; exact to5
   have ts6:(upd H5 wl (.lst (rs.map LD))) st=some (.lst (zs.map LD)):=by rw [aq hsw]; exact ts5
   have TZ6:TrAt (upd H5 wl (.lst (rs.map LD))) zs sts:=TZ5.own tw5
   have tw6:(upd H5 wl (.lst (rs.map LD))) wl=some (.lst (rs.map LD)):=ac
   have T6:TrAt (upd H5 wl (.lst (rs.map LD))) rs vs:=Tr.own tw5
   have tq6:(upd H5 wl (.lst (rs.map LD))) q=some (.tup [.int (f:Nat),.int (l:Nat),.int (c:Nat)]):=by rw [aq (mC tq tw5 (by intro c; cases c))]; exact tq
   generalize upd H5 wl (.lst (rs.map LD))=H6 at s6 to6 ts6 tw6 T6 tq6 TZ6
   refine lI tq6 ?_
   dsimp only [FB]
   have hok:f<=l/\l<=rss.length/\c<=C:=M5.ok (f,l,c) (BL _ (BH.mpr rfl))
   obtain ⟨hfl,hln,hcC⟩:=hok
   have hosl:os.length=rss.length:=by have:=M5.perm.length_eq; simpa using this
   rw [kG] at ph5
   have ph5:zs.length+(eQ vs+(l - f - 1))<=60:=ph5
   nofun
   refine aJ (λ g1=>?_) (λ g1=>?_)
   ·nofun
    exact ⟨_,lL b C vs (f,l,c),vs,rs,os,zs,rfl,s6,to6,ts6,tw6,T6,M5.skip hC (.inl (by lia)),L5.left,by lia,⟨sts,TZ6,F5.skip (.inl (by lia))⟩,_,_,_,_,_,_,rfl⟩
   nofun
   refine aJ (λ g2=>?_) (λ g2=>?_)
   ·have ecC:c=C:=HX (Lz.inj g2)
    nofun
    exact ⟨_,lL b C vs (f,l,c),vs,rs,os,zs,rfl,s6,to6,ts6,tw6,T6,M5.skip hC (.inr ecC),L5.left,by lia,⟨sts,TZ6,F5.skip (.inr ecC)⟩,_,_,_,_,_,_,rfl⟩
   have hcC':c<C:=by
    have:c≠C:=λ z=>g2 (by rw [z])
    lia
   have hcw:c<w:=by lia
   nofun
   refine ⟨_,rfl,?_⟩
   nofun
   refine ⟨_,rfl,?_⟩
   refine ⟨o,_,rfl,Lx to6,λ z hz=>?_⟩
   rw [xK os hfl (by lia)]
   have hsl:((os.drop f).take (l - f)).length=l - f:=by rw [BV,Cr]; lia
   have hsm:∀ x∈(os.drop f).take (l - f),x<rss.length:=λ x hx=>by simpa using M5.perm.mem_iff.mp (Da (C5 hx))
   have hfst:=λ hbb=>F5.go (b:=b) (by lia) hcC' hb hbb
   have hstep:=λ ob hB=>M5.step (ob:=ob) hC hcC' (tE hG hcw) hB
   have hback:os.take f++(os.drop f).take (l - f)++os.drop l=os:=by
    have e1:os.drop l=(os.drop f).drop (l - f):=by rw [FX]; congr 1; lia
    rw [e1,Cu,Ck,Ck]
   generalize (os.drop f).take (l - f)=seg at hsl hsm hstep hback hfst
   have s67:=(LA H6).new (o:=.lst (NV seg)) hz
   have tz:(upd H6 z (.lst (NV seg))) z=some (.lst (NV seg)):=ac
   generalize upd H6 z (.lst (NV seg))=H7 at s67 tz
   nofun
   refine ⟨z,rfl,⟨_,Lx tz⟩,cI (a:=z) (vs:=NV seg) (λ i ys σ H'=>H'=H7/\i<=seg.length/\ys=NV ((seg.map λ p=>(aW rss c).getD p 0).take i)/\∃ v,σ=[v,some (LD a),some (Lz c)]) (by rw [aF]; exact aB (by lia)) (λ i ys σ H' h=>by rw [h.2.2.1,aF,BV,By]; lia) (λ i ys σ H' h=>by rw [h.1]; exact Lx tz) ⟨rfl,Ca _,rfl,none,rfl⟩ ?_ ?_⟩
   ·rintro j ys σ H' x hx ⟨rfl,_,rfl,v,rfl⟩
    have hil:=dk hx
    obtain ⟨q,rfl,hq,hqm,hj⟩:=aS hx
    have hqn:=hsm q hqm
    have hqp:q<ps.length:=by lia
    have er:rss[q]? = some rss[q]:=by simp [hqn]
    obtain ⟨g3,g4⟩:=pR hG er hcw
    nofun
    refine dU (Lx (s67 _ _ (s6 _ _ ta))) (v:=LD ps[q]) (bv (by rw [BI]; simp [hqp])) ?_
    nofun
    refine xH ((hR.same (s6.trans s67)).2 q ps[q] _ (by simp [hqp]) er) (re rfl g3) ?_
    refine LC hil ⟨rfl,hj,?_,_,rfl⟩
    rw [dW,B3,BI,hq]
    show _=NV (_++[(aW rss c).getD q 0])
    rw [getD_some g4]
   rintro ys σ H' ⟨rfl,_,rfl,v,rfl⟩ y hy
   rw [BF (by rw [aF,By]; exact BD _)]
   have hrl:(seg.map λ p=>(aW rss c).getD p 0).length=l - f:=by rw [By]; exact hsl
   have hrb:∀ x∈seg.map λ p=>(aW rss c).getD p 0,x<b:=λ x hx=>by
    obtain ⟨p,hp,rfl⟩:=BK.mp hx
    have hp':p<(aW rss c).length:=by rw [vM]; exact hsm p hp
    rw [Bz,Bx hp']
    exact tE hG hcw _ (BM hp')
   generalize (seg.map λ p=>(aW rss c).getD p 0)=row at hrl hrb hstep hfst
   obtain ⟨hfst1,hfst2⟩:=hfst hrb
   have s78:=(LA H').new (o:=.lst (NV row)) hy
   have ty:(upd H' y (.lst (NV row))) y=some (.lst (NV row)):=ac
   generalize upd H' y (.lst (NV row))=H8 at s78 ty
   nofun
   refine ⟨y,row,b,rfl,ty,hrb,by lia,hb,λ cc H9 hcc s9 tcc=>?_⟩
   nofun
   refine ⟨cc,cnt row b,rfl,.inl tcc,by rw [aT]; exact hb,λ HA sA=>?_⟩
   have s6A:=s67.trans (s78.trans (s9.trans sA))
   have toA:=s6A _ _ to6
   have tsA:=s6A _ _ ts6
   have twA:=s6A _ _ tw6
   have TA:=T6.same s6A
   have TZA:=TZ6.same s6A
   have tyA:=sA _ _ (s9 _ _ ty)
   have tccA:=sA _ _ tcc
   have tzA:=(s78.trans (s9.trans sA)) _ _ tz
   have s0A:=s6.trans s6A
   have hcco:cc≠o:=λ z=>by rw [z] at hcc; rw [(s67.trans s78) _ _ to6] at hcc; cases hcc
   have hccs:cc≠st:=λ z=>by rw [z] at hcc; rw [(s67.trans s78) _ _ ts6] at hcc; cases hcc
   have hcsum:(cnt row b).sum=l - f:=by rw [uW hrb]; exact hrl
   have hpar:=jI vs f (c+1) (cnt row b)
   have hpp0:0<(fH (cnt row b)).length:=by
    rcases Ez (fH (cnt row b)).length with g | g
    ·have:=i7 (cnt row b)
     have h0:((cnt row b).map λ c=>c - 1).sum=0:=by
      have:∀ c∈cnt row b,c - 1=0:=λ c hc=>by
       have hn0:c∉fH (cnt row b):=λ z=>by rw [D0.mp g] at z; cases z
       unfold fH at hn0
       rw [Cv] at hn0
       have:¬ 0<c:=λ z=>hn0 ⟨hc,decide_eq_true z⟩
       lia
      rw [gI 0 _ this]; lia
     lia
    ·exact g
   nofun
   apply AR (α:=List Nat) (S:=λ ob HD=>ByF row ob/\Same H HD/\HD o=some (.lst (NV (os.take f++cmp seg ob++os.drop l)))/\(∃ zs':List Addr,HD st=some (.lst (zs'.map LD))/\zs'.length+eQ (vs++(aD f (cnt row b) (c+1)).reverse)<=60/\∃ sts',TrAt HD zs' sts'/\Fst rss C (os.take f++cmp seg ob++os.drop l) sts' ((vs++(aD f (cnt row b) (c+1)).reverse).filter (act C)))/\HD wl=some (.lst (rs.map LD))/\TrAt HD rs vs/\HD cc=some (.lst (NV (cnt row b))))
   case hA=>
    intro key
    by_cases hp:bB (cnt row b)=true
    ·rw [if_pos hp]
     nofun
     refine ⟨y,row,b,rfl,tyA,hrb,by lia,hb,λ d ob HB hd0 sB td hB=>?_⟩
     have hO:=hB.ord
     rw [hrl] at hO
     have tzB:=sB _ _ tzA
     nofun
     refine ⟨d,rfl,⟨_,Lx td⟩,cI (a:=d) (vs:=NV ob) (λ i ys σ H'=>H'=HB/\i<=ob.length/\ys=NV ((cmp seg ob).take i)/\∃ v,σ=[v,some (LD z)]) (by rw [aF,hO.len]; exact aB (by lia)) (λ i ys σ H' h=>by rw [h.2.2.1,aF,BV,iY]; lia) (λ i ys σ H' h=>by rw [h.1]; exact Lx td) ⟨rfl,Ca _,rfl,none,rfl⟩ ?_ ?_⟩
     ·rintro j ys σ H9' x hx ⟨rfl,_,rfl,v,rfl⟩
      have hil:=dk hx
      obtain ⟨q,rfl,hq,hqm,hj⟩:=aS hx
      have hqn:=hO.lt q hqm
      have hqo:q<seg.length:=by lia
      nofun
      refine dU (Lx tzB) (re rfl (o:=seg[q]) (by simp [hqo])) ?_
      refine LC hil ⟨rfl,hj,?_,_,rfl⟩
      rw [dW,B3,ox hq (r:=seg[q]) (by simp [hqo])]; rfl
     rintro ys σ HB' ⟨eB,_,rfl,v,rfl⟩ e he
     subst eB
     rw [BF (by rw [aF,iY]; exact BD _)]
     have hcl:(cmp seg ob).length=l - f:=by rw [iY,hO.len]
     have sC:=(LA HB').new (o:=.lst (NV (cmp seg ob))) he
     have te:(upd HB' e (.lst (NV (cmp seg ob)))) e=some (.lst (NV (cmp seg ob))):=ac
     have hoe:o≠e:=ap (sB _ _ toA) he
     generalize upd HB' e (.lst (NV (cmp seg ob)))=HC at sC te
     have sAC:=sB.trans sC
     nofun
     refine ⟨o,e,_,_,_,_,rfl,rfl,rfl,rfl,sAC _ _ toA,te,hoe,by lia,by lia,by rw [aF]; lia,ba (by rw [aF,aF]; lia),?_⟩
     have espl:(NV os).take ((f:Nat):Int).toNat++NV (cmp seg ob)++(NV os).drop ((l:Nat):Int).toNat=NV (os.take f++cmp seg ob++os.drop l):=by
      rw [CT,CT]
      unfold NV
      rw [B4,B4,Fw,Fx]
     rw [espl]
     have sD:=(s0A.trans sAC).own (o:=.lst (NV (os.take f++cmp seg ob++os.drop l))) ho
     have toD:(upd HC o (.lst (NV (os.take f++cmp seg ob++os.drop l)))) o=some (.lst (NV (os.take f++cmp seg ob++os.drop l))):=ac
     have tsD:(upd HC o (.lst (NV (os.take f++cmp seg ob++os.drop l)))) st=some (.lst (zs.map LD)):=by rw [aq (DN h0s)]; exact sAC _ _ tsA
     have TZD:TrAt (upd HC o (.lst (NV (os.take f++cmp seg ob++os.drop l)))) zs sts:=(TZA.same sAC).own (sAC _ _ toA)
     have twD:(upd HC o (.lst (NV (os.take f++cmp seg ob++os.drop l)))) wl=some (.lst (rs.map LD)):=by rw [aq (DN how)]; exact sAC _ _ twA
     have TD:TrAt (upd HC o (.lst (NV (os.take f++cmp seg ob++os.drop l)))) rs vs:=(TA.same sAC).own (sAC _ _ toA)
     have tcD:(upd HC o (.lst (NV (os.take f++cmp seg ob++os.drop l)))) cc=some (.lst (NV (cnt row b))):=by rw [aq hcco]; exact sAC _ _ tccA
     generalize upd HC o (.lst (NV (os.take f++cmp seg ob++os.drop l)))=HD at sD toD tsD twD TD tcD TZD
     nofun
     refine ⟨fj tsD,?_⟩
     nofun
     refine ⟨ba (by simp),λ tq2 htq2=>?_⟩
     have sE:=(LA HD).new (o:=.tup [Lz (f:Nat),Lz (l:Nat),Lz (c:Nat)]) htq2
     have ttq2:(upd HD tq2 (.tup [Lz (f:Nat),Lz (l:Nat),Lz (c:Nat)])) tq2=some (.tup [Lz (f:Nat),Lz (l:Nat),Lz (c:Nat)]):=ac
     generalize upd HD tq2 (.tup [Lz (f:Nat),Lz (l:Nat),Lz (c:Nat)])=HE at sE ttq2
     nofun
     refine gD (sE _ _ tsD) (aB (by rw [By]; lia)) ?_
     rw [show zs.map LD++[LD tq2]=(zs++[tq2]).map LD by rw [B4]; rfl]
     have hpp:1<(fH (cnt row b)).length:=by unfold bB at hp; exact of_decide_eq_true hp
     have q1:=(sD.trans sE).own (o:=.lst ((zs++[tq2]).map LD)) hstn
     have q2:(upd HE st (.lst ((zs++[tq2]).map LD))) o=some (.lst (NV (os.take f++cmp seg ob++os.drop l))):=by rw [aq h0s]; exact sE _ _ toD
     have q3:(upd HE st (.lst ((zs++[tq2]).map LD))) st=some (.lst ((zs++[tq2]).map LD)):=ac
     have q4:(upd HE st (.lst ((zs++[tq2]).map LD))) wl=some (.lst (rs.map LD)):=by rw [aq (DN hsw)]; exact sE _ _ twD
     have q5:TrAt (upd HE st (.lst ((zs++[tq2]).map LD))) rs vs:=(TD.same sE).own (sE _ _ tsD)
     have q6:(upd HE st (.lst ((zs++[tq2]).map LD))) cc=some (.lst (NV (cnt row b))):=by rw [aq hccs]; exact sE _ _ tcD
     have q7:TrAt (upd HE st (.lst ((zs++[tq2]).map LD))) (zs++[tq2]) (sts++[(f,l,c)]):=((TZD.same sE).snoc (s:=(f,l,c)) ttq2).own (sE _ _ tsD)
     generalize upd HE st (.lst ((zs++[tq2]).map LD))=HF at q1 q2 q3 q4 q5 q6 q7
     nofun
     exact key ob HF ⟨hB,q1,q2,⟨_,q3,by rw [BO,FE]; lia,_,q7,hfst1 ob hB hp⟩,q4,q5,q6⟩
    ·rw [if_neg hp]
     obtain ⟨ob,hob,hcb⟩:∃ ob,ByF row ob/\cmp seg ob=seg:=⟨_,oM λ x hx y hy=>im hrb hp hx hy,oN seg (by rw [hrl]; exact hsl)⟩
     nofun
     refine key ob HA ⟨hob,s0A,?_,⟨zs,tsA,by lia,sts,TZA,?_⟩,twA,TA,tccA⟩
     ·rw [hcb,hback]; exact toA
     ·rw [hcb,hback]; exact hfst2 hp
   case hB=>
    rintro ob HD ⟨hob,sD,toD,⟨zs',tsD,phD,sts',TZD,FD⟩,twD,TD,tcD⟩
    refine ⟨fj twD,?_⟩
    have ec1:(c:Int)+1=((c+1:Nat):Int):=by lia
    nofun
    rw [ec1]
    refine ⟨f,c+1,cc,cnt row b,rfl,tcD,by rw [aT]; exact hb,λ pl us HE hpl0 sE tpl TE=>?_⟩
    nofun
    refine ⟨pl,_,rfl,Lx tpl,λ rv hrv=>?_⟩
    have erv:(us.map LD).reverse=us.reverse.map LD:=(GR ..).symm
    rw [erv]
    have sF:=sE.new (o:=.lst (us.reverse.map LD)) hrv
    have TF:=TE.same ((LA HE).new (o:=.lst (us.reverse.map LD)) hrv)
    have trv:(upd HE rv (.lst (us.reverse.map LD))) rv=some (.lst (us.reverse.map LD)):=ac
    generalize upd HE rv (.lst (us.reverse.map LD))=HF at sF TF trv
    have hlow:=L5.step (cs:=cnt row b) (aT row b)
    have hlen:=hlow.len (C:=C) (hstep ob hob).ok'
    have hul:us.length=b:=by rw [TF.1,iD,aT]
    have hrsl:rs.length+us.length<=7681:=by
     have e1:(vs++(aD f (cnt row b) (c+1)).reverse).length=rs.length+us.length:=by rw [BO,Er,<-TD.1,TF.1]
     have e2:b*C<=64*120:=JG hb (by lia)
     lia
    nofun
    refine oJ (sF _ _ twD) trv (DH (Dw (by rw [By,By,Er]; exact hrsl) (by decide))) ?_
    rw [<-B4]
    refine ⟨_,mU vs hcC' (aT row b),_,rs++us.reverse,_,zs',rfl,(sD.trans sF).own hwn,?_,?_,ac,?_,hstep ob hob,hlow,phD,⟨sts',(TZD.same sF).own (sF _ _ twD),FD⟩,_,_,_,_,_,_,rfl⟩
    ·rw [aq how]; exact sF _ _ toD
    ·rw [aq hsw]; exact sF _ _ tsD
    ·exact ((TD.same sF).app TF.rev).own (sF _ _ twD)
theorem mm {bs:List (List Int)} {ps:List (List Int×Int)} (h:Cn bs ps) (r:List Int):(kl (ps.map dTf) (fu r)).getD (.int 0)=.int (bs.count r:Nat):=by
 obtain ⟨h1,h2,h3⟩:=h
 by_cases hr:r∈ps.map (·.1)
 ·obtain ⟨⟨r',n⟩,hm,rfl⟩:=BK.mp hr
  rw [(gP (r:=r') (ps:=ps)).2 n h1 hm]
  have e:=h3 _ hm
  have e2:n=(bs.count r':Int):=e
  rw [e2]; rfl
 ·rw [(gP (r:=r) (ps:=ps)).1 hr,Di.mpr λ z=>hr ((h2 r).mpr z)]
  rfl
theorem mn (xs:List V):ki xs none (some (-1))=xs.dropLast:=by
 unfold ki
 rw [HT.eD,C2,GO,Hx]
 congr 1
 first
  | rfl
  | (unfold HT.sIx; simp; lia)
  | (unfold HT.sIx; split<;>lia)
theorem cf (r:List Int):(fu r).map kV=r.map Lz:=by rw [vn]
noncomputable def am (zs:List (List Int×Int)):List (List Int):=zs.map λ z=>z.1.dropLast
noncomputable def ob (lk:Bool) (xs:List V):HO:=match lk with | true=>.lst xs | false=>.tup xs
noncomputable def PairsG (lk:Bool) (H:Hp) (as qs:List Addr) (zs:List (List Int×Int)):Prop:=as.length=zs.length/\qs.length=zs.length/\∀ (i:Nat) a q z,as[i]? = some a->qs[i]? = some q->zs[i]? = some z->H a=some (ob lk [.ref q,.int z.2])/\H q=some (ob lk (z.1.map Lz))
theorem PairsG.same {H:Hp} {as:List Addr} {zs:List (List Int×Int)} (h:PairsG lk H as qs zs) (s:Same H H'):PairsG lk H' as qs zs:=⟨h.1,h.2.1,λ i a q z e1 e2 e3=>⟨s _ _ (h.2.2 i a q z e1 e2 e3).1,s _ _ (h.2.2 i a q z e1 e2 e3).2⟩⟩
noncomputable def Al:Sp:=λ vs H Q _=>∃ (ok lk:Bool) (a:Addr) (as qs:List Addr) (zs:List (List Int×Int)),vs=[.ref a]/\H a=some (ob ok (as.map LD))/\PairsG lk H as qs zs/\zs.length<=61/\(∀ z∈zs,z.1.length<=201)/\
 ∀ (o:Addr) (cs:List (List Int×Int)) H',H o=none->Same H H'->H' o=some (.dT (cs.map dTf))->Cn (am zs) cs->Q (.ref o) H'
theorem bp (T:Tx K mg t):FnOk P w K mg base CX0 1 t.ck t.ci ["longer"] Al:=by
 refine T.bb.okQ sc_many_goings_on (λ vs H Q E h=>?_) (λ cdv A outer s H vs Q E hr h=>?_)
 ·obtain ⟨ok,lk,a,as,qs,zs,rfl,_⟩:=h
  rfl
 ·obtain ⟨ok,lk,a,as,qs,zs,rfl,ta,hP,hn,hw,k⟩:=h
  match ok,lk,ta,hP with
  | true,true,ta,hP=>
   have ta:H a=some (.lst (as.map LD)):=ta
   refine ⟨_,(ad (aA (i:=1) sc_many_goings_on.nd rfl (BN rfl) gh)
   (ad (bA Cw rfl (bh (K:=K) (qv 0)) (iV (K:=K) (n:=2) rfl (ao (al (i:=2) sc_many_goings_on.nd rfl (BN rfl)) (ao (al (i:=3) sc_many_goings_on.nd rfl (BN rfl)) bi))) (ad (aA (i:=4) sc_many_goings_on.nd rfl (BN rfl) (aM (bG (K:=K)) (by rfl) T.aU aN (aj (cq (uL (K:=K)) (qv 2) dw (cL (qS qV ae))) aa)))
   (ak (jc (fO hr) (qv 1) (qv 4) (aK cz (cJ (fO hr) (qv 1) (qv 4) ae) ae)))))
   (ak (av (qv 1))))),?_⟩
   rw [show L2.start ["longer","many","beginning","rows_with_it","shorter"] [LD a]=[some (LD a),none,none,none,none] from rfl]
   nofun
   intro o ho
   have s1:=(LA H).new (o:=.dT []) ho
   have to:(upd H o (.dT [])) o=some (.dT (([]:List (List Int×Int)).map dTf)):=ac
   generalize upd H o (.dT [])=H1 at s1 to
   nofun
   refine ⟨a,rfl,⟨_,Lx (s1 _ _ ta)⟩,c6 (a:=a) (xs:=as.map LD) (λ i σ H2=>Same H H2/\(∃ cs:List (List Int×Int),H2 o=some (.dT (cs.map dTf))/\Cn (am (zs.take i)) cs/\cs.length<=i)/\∃ u v x,σ=[some (LD a),some (LD o),u,v,x]) ⟨s1,⟨[],to,by rw [DO]; exact Cn.nil,BD _⟩,_,_,_,rfl⟩ (λ i σ H2 _ h=>Lx (h.1 _ _ ta)) ?_ ?_⟩
   ·rintro i x σ H2 hx ⟨s2,⟨cs,to2,hC,hcl⟩,u,v,x',rfl⟩
    obtain ⟨p,rfl,hp,_,hi⟩:=aS hx
    have hiz:i<zs.length:=by rw [<-hP.1]; exact hi
    have hiq:i<qs.length:=by rw [hP.2.1]; exact hiz
    have ez:zs[i]? = some zs[i]:=by simp [hiz]
    obtain ⟨tp,tq⟩:=hP.2.2 i p _ _ hp (Bx hiq) ez
    have tp:H2 p=some (.lst [LD qs[i],Lz zs[i].2]):=s2 _ _ tp
    have tq:H2 qs[i]=some (.lst (zs[i].1.map Lz)):=s2 _ _ tq
    have es:am (zs.take (i+1))=am (zs.take i)++[zs[i].1.dropLast]:=by
     unfold am
     rw [B3,ez,B4]; rfl
    rw [es]
    generalize qs[i]=q at tp tq
    generalize zs[i]=z at tp tq
    nofun
    refine eJ tp ?_
    nofun
    refine ⟨_,rfl,q,_,rfl,Lx tq,λ b0 hb0=>?_⟩
    rw [mn,<-EN]
    have s30:=(LA H2).new (o:=.lst (z.1.dropLast.map Lz)) hb0
    have tb0:(upd H2 b0 (.lst (z.1.dropLast.map Lz))) b0=some (.lst (z.1.dropLast.map Lz)):=ac
    generalize upd H2 b0 (.lst (z.1.dropLast.map Lz))=H30 at s30 tb0
    nofun
    refine cx (Lx tb0) λ b hb=>?_
    have s3:=s30.new (o:=.tup (z.1.dropLast.map Lz)) hb
    have tb:(upd H30 b (.tup (z.1.dropLast.map Lz))) b=some (.tup (z.1.dropLast.map Lz)):=ac
    generalize upd H30 b (.tup (z.1.dropLast.map Lz))=H3 at s3 tb
    have to3:=s3 _ _ to2
    nofun
    refine ⟨o,rfl,.inr ⟨_,.inl to3⟩,?_⟩
    nofun
    obtain ⟨m,cs',e1,e2,hC',hl'⟩:=hC.step z.1.dropLast
    refine ⟨_,DGet.t to3 (k:=fu z.1.dropLast) (by rw [cf]; exact tb),?_⟩
    rw [e1]
    nofun
    refine ⟨o,_,rfl,DPut.t to3 (k:=fu z.1.dropLast) (by rw [cf]; exact tb) (by rw [By]; exact aB (by lia)),?_⟩
    rw [e2]
    exact ⟨(s2.trans s3).own ho,⟨cs',ac,hC',by lia⟩,_,_,_,rfl⟩
   ·rintro σ H2 ⟨s2,⟨cs,to2,hC,hcl⟩,u,v,x',rfl⟩
    rw [By] at hC hcl
    rw [BF (by rw [hP.1]; exact BD _)] at hC
    nofun
    exact k o cs H2 ho s2 to2 hC
  | true,false,ta,hP=>
   have ta:H a=some (.lst (as.map LD)):=ta
   refine ⟨_,(ad (aA (i:=1) sc_many_goings_on.nd rfl (BN rfl) gh)
   (ad (bA Cw rfl (bh (K:=K) (qv 0)) (cU (K:=K) (n:=2) rfl (ao (al (i:=2) sc_many_goings_on.nd rfl (BN rfl)) (ao (al (i:=3) sc_many_goings_on.nd rfl (BN rfl)) bi))) (ad (aA (i:=4) sc_many_goings_on.nd rfl (BN rfl) (aM (bG (K:=K)) (by rfl) T.aU aN (aj (cq lM (qv 2) dw (cL (qS qV ae))) aa)))
   (ak (jc (fO hr) (qv 1) (qv 4) (aK cz (cJ (fO hr) (qv 1) (qv 4) ae) ae)))))
   (ak (av (qv 1))))),?_⟩
   rw [show L2.start ["longer","many","beginning","rows_with_it","shorter"] [LD a]=[some (LD a),none,none,none,none] from rfl]
   nofun
   intro o ho
   have s1:=(LA H).new (o:=.dT []) ho
   have to:(upd H o (.dT [])) o=some (.dT (([]:List (List Int×Int)).map dTf)):=ac
   generalize upd H o (.dT [])=H1 at s1 to
   nofun
   refine ⟨a,rfl,⟨_,Lx (s1 _ _ ta)⟩,c6 (a:=a) (xs:=as.map LD) (λ i σ H2=>Same H H2/\(∃ cs:List (List Int×Int),H2 o=some (.dT (cs.map dTf))/\Cn (am (zs.take i)) cs/\cs.length<=i)/\∃ u v x,σ=[some (LD a),some (LD o),u,v,x]) ⟨s1,⟨[],to,by rw [DO]; exact Cn.nil,BD _⟩,_,_,_,rfl⟩ (λ i σ H2 _ h=>Lx (h.1 _ _ ta)) ?_ ?_⟩
   ·rintro i x σ H2 hx ⟨s2,⟨cs,to2,hC,hcl⟩,u,v,x',rfl⟩
    obtain ⟨p,rfl,hp,_,hi⟩:=aS hx
    have hiz:i<zs.length:=by rw [<-hP.1]; exact hi
    have hiq:i<qs.length:=by rw [hP.2.1]; exact hiz
    have ez:zs[i]? = some zs[i]:=by simp [hiz]
    obtain ⟨tp,tq⟩:=hP.2.2 i p _ _ hp (Bx hiq) ez
    have tp:H2 p=some (.tup [LD qs[i],Lz zs[i].2]):=s2 _ _ tp
    have tq:H2 qs[i]=some (.tup (zs[i].1.map Lz)):=s2 _ _ tq
    have es:am (zs.take (i+1))=am (zs.take i)++[zs[i].1.dropLast]:=by
     unfold am
     rw [B3,ez,B4]; rfl
    rw [es]
    generalize qs[i]=q at tp tq
    generalize zs[i]=z at tp tq
    nofun
    refine bH tp ?_
    nofun
    refine ⟨_,rfl,q,_,rfl,tq,λ b H3 s3 tb=>?_⟩
    rw [mn,<-EN] at tb
    have to3:=s3 _ _ to2
    nofun
    refine ⟨b,_,rfl,.inr ⟨Ly tb,?_⟩⟩
    nofun
    refine ⟨o,rfl,.inr ⟨_,.inl to3⟩,?_⟩
    nofun
    obtain ⟨m,cs',e1,e2,hC',hl'⟩:=hC.step z.1.dropLast
    refine ⟨_,DGet.t to3 (k:=fu z.1.dropLast) (by rw [cf]; exact tb),?_⟩
    rw [e1]
    nofun
    refine ⟨o,_,rfl,DPut.t to3 (k:=fu z.1.dropLast) (by rw [cf]; exact tb) (by rw [By]; exact aB (by lia)),?_⟩
    rw [e2]
    exact ⟨(s2.trans s3).own ho,⟨cs',ac,hC',by lia⟩,_,_,_,rfl⟩
   ·rintro σ H2 ⟨s2,⟨cs,to2,hC,hcl⟩,u,v,x',rfl⟩
    rw [By] at hC hcl
    rw [BF (by rw [hP.1]; exact BD _)] at hC
    nofun
    exact k o cs H2 ho s2 to2 hC
  | false,true,ta,hP=>
   have ta:H a=some (.tup (as.map LD)):=ta
   refine ⟨_,(ad (aA (i:=1) sc_many_goings_on.nd rfl (BN rfl) gh)
   (ad (bA Cw rfl (ik (K:=K) (qv 0)) (iV (K:=K) (n:=2) rfl (ao (al (i:=2) sc_many_goings_on.nd rfl (BN rfl)) (ao (al (i:=3) sc_many_goings_on.nd rfl (BN rfl)) bi))) (ad (aA (i:=4) sc_many_goings_on.nd rfl (BN rfl) (aM (bG (K:=K)) (by rfl) T.aU aN (aj (cq (uL (K:=K)) (qv 2) dw (cL (qS qV ae))) aa)))
   (ak (jc (fO hr) (qv 1) (qv 4) (aK cz (cJ (fO hr) (qv 1) (qv 4) ae) ae)))))
   (ak (av (qv 1))))),?_⟩
   rw [show L2.start ["longer","many","beginning","rows_with_it","shorter"] [LD a]=[some (LD a),none,none,none,none] from rfl]
   nofun
   intro o ho
   have s1:=(LA H).new (o:=.dT []) ho
   have to:(upd H o (.dT [])) o=some (.dT (([]:List (List Int×Int)).map dTf)):=ac
   generalize upd H o (.dT [])=H1 at s1 to
   nofun
   refine ⟨a,rfl,⟨_,Ly (s1 _ _ ta)⟩,gs (a:=a) (xs:=as.map LD) (λ i σ H2=>Same H H2/\(∃ cs:List (List Int×Int),H2 o=some (.dT (cs.map dTf))/\Cn (am (zs.take i)) cs/\cs.length<=i)/\∃ u v x,σ=[some (LD a),some (LD o),u,v,x]) ⟨s1,⟨[],to,by rw [DO]; exact Cn.nil,BD _⟩,_,_,_,rfl⟩ (λ i σ H2 _ h=>Ly (h.1 _ _ ta)) ?_ ?_⟩
   ·rintro i x σ H2 hx ⟨s2,⟨cs,to2,hC,hcl⟩,u,v,x',rfl⟩
    obtain ⟨p,rfl,hp,_,hi⟩:=aS hx
    have hiz:i<zs.length:=by rw [<-hP.1]; exact hi
    have hiq:i<qs.length:=by rw [hP.2.1]; exact hiz
    have ez:zs[i]? = some zs[i]:=by simp [hiz]
    obtain ⟨tp,tq⟩:=hP.2.2 i p _ _ hp (Bx hiq) ez
    have tp:H2 p=some (.lst [LD qs[i],Lz zs[i].2]):=s2 _ _ tp
    have tq:H2 qs[i]=some (.lst (zs[i].1.map Lz)):=s2 _ _ tq
    have es:am (zs.take (i+1))=am (zs.take i)++[zs[i].1.dropLast]:=by
     unfold am
     rw [B3,ez,B4]; rfl
    rw [es]
    generalize qs[i]=q at tp tq
    generalize zs[i]=z at tp tq
    nofun
    refine eJ tp ?_
    nofun
    refine ⟨_,rfl,q,_,rfl,Lx tq,λ b0 hb0=>?_⟩
    rw [mn,<-EN]
    have s30:=(LA H2).new (o:=.lst (z.1.dropLast.map Lz)) hb0
    have tb0:(upd H2 b0 (.lst (z.1.dropLast.map Lz))) b0=some (.lst (z.1.dropLast.map Lz)):=ac
    generalize upd H2 b0 (.lst (z.1.dropLast.map Lz))=H30 at s30 tb0
    nofun
    refine cx (Lx tb0) λ b hb=>?_
    have s3:=s30.new (o:=.tup (z.1.dropLast.map Lz)) hb
    have tb:(upd H30 b (.tup (z.1.dropLast.map Lz))) b=some (.tup (z.1.dropLast.map Lz)):=ac
    generalize upd H30 b (.tup (z.1.dropLast.map Lz))=H3 at s3 tb
    have to3:=s3 _ _ to2
    nofun
    refine ⟨o,rfl,.inr ⟨_,.inl to3⟩,?_⟩
    nofun
    obtain ⟨m,cs',e1,e2,hC',hl'⟩:=hC.step z.1.dropLast
    refine ⟨_,DGet.t to3 (k:=fu z.1.dropLast) (by rw [cf]; exact tb),?_⟩
    rw [e1]
    nofun
    refine ⟨o,_,rfl,DPut.t to3 (k:=fu z.1.dropLast) (by rw [cf]; exact tb) (by rw [By]; exact aB (by lia)),?_⟩
    rw [e2]
    exact ⟨(s2.trans s3).own ho,⟨cs',ac,hC',by lia⟩,_,_,_,rfl⟩
   ·rintro σ H2 ⟨s2,⟨cs,to2,hC,hcl⟩,u,v,x',rfl⟩
    rw [By] at hC hcl
    rw [BF (by rw [hP.1]; exact BD _)] at hC
    nofun
    exact k o cs H2 ho s2 to2 hC
  | false,false,ta,hP=>
   have ta:H a=some (.tup (as.map LD)):=ta
   refine ⟨_,(ad (aA (i:=1) sc_many_goings_on.nd rfl (BN rfl) gh)
   (ad (bA Cw rfl (ik (K:=K) (qv 0)) (cU (K:=K) (n:=2) rfl (ao (al (i:=2) sc_many_goings_on.nd rfl (BN rfl)) (ao (al (i:=3) sc_many_goings_on.nd rfl (BN rfl)) bi))) (ad (aA (i:=4) sc_many_goings_on.nd rfl (BN rfl) (aM (bG (K:=K)) (by rfl) T.aU aN (aj (cq lM (qv 2) dw (cL (qS qV ae))) aa)))
   (ak (jc (fO hr) (qv 1) (qv 4) (aK cz (cJ (fO hr) (qv 1) (qv 4) ae) ae)))))
   (ak (av (qv 1))))),?_⟩
   rw [show L2.start ["longer","many","beginning","rows_with_it","shorter"] [LD a]=[some (LD a),none,none,none,none] from rfl]
   nofun
   intro o ho
   have s1:=(LA H).new (o:=.dT []) ho
   have to:(upd H o (.dT [])) o=some (.dT (([]:List (List Int×Int)).map dTf)):=ac
   generalize upd H o (.dT [])=H1 at s1 to
   nofun
   refine ⟨a,rfl,⟨_,Ly (s1 _ _ ta)⟩,gs (a:=a) (xs:=as.map LD) (λ i σ H2=>Same H H2/\(∃ cs:List (List Int×Int),H2 o=some (.dT (cs.map dTf))/\Cn (am (zs.take i)) cs/\cs.length<=i)/\∃ u v x,σ=[some (LD a),some (LD o),u,v,x]) ⟨s1,⟨[],to,by rw [DO]; exact Cn.nil,BD _⟩,_,_,_,rfl⟩ (λ i σ H2 _ h=>Ly (h.1 _ _ ta)) ?_ ?_⟩
   ·rintro i x σ H2 hx ⟨s2,⟨cs,to2,hC,hcl⟩,u,v,x',rfl⟩
    obtain ⟨p,rfl,hp,_,hi⟩:=aS hx
    have hiz:i<zs.length:=by rw [<-hP.1]; exact hi
    have hiq:i<qs.length:=by rw [hP.2.1]; exact hiz
    have ez:zs[i]? = some zs[i]:=by simp [hiz]
    obtain ⟨tp,tq⟩:=hP.2.2 i p _ _ hp (Bx hiq) ez
    have tp:H2 p=some (.tup [LD qs[i],Lz zs[i].2]):=s2 _ _ tp
    have tq:H2 qs[i]=some (.tup (zs[i].1.map Lz)):=s2 _ _ tq
    have es:am (zs.take (i+1))=am (zs.take i)++[zs[i].1.dropLast]:=by
     unfold am
     rw [B3,ez,B4]; rfl
    rw [es]
    generalize qs[i]=q at tp tq
    generalize zs[i]=z at tp tq
    nofun
    refine bH tp ?_
    nofun
    refine ⟨_,rfl,q,_,rfl,tq,λ b H3 s3 tb=>?_⟩
    rw [mn,<-EN] at tb
    have to3:=s3 _ _ to2
    nofun
    refine ⟨b,_,rfl,.inr ⟨Ly tb,?_⟩⟩
    nofun
    refine ⟨o,rfl,.inr ⟨_,.inl to3⟩,?_⟩
    nofun
    obtain ⟨m,cs',e1,e2,hC',hl'⟩:=hC.step z.1.dropLast
    refine ⟨_,DGet.t to3 (k:=fu z.1.dropLast) (by rw [cf]; exact tb),?_⟩
    rw [e1]
    nofun
    refine ⟨o,_,rfl,DPut.t to3 (k:=fu z.1.dropLast) (by rw [cf]; exact tb) (by rw [By]; exact aB (by lia)),?_⟩
    rw [e2]
    exact ⟨(s2.trans s3).own ho,⟨cs',ac,hC',by lia⟩,_,_,_,rfl⟩
   ·rintro σ H2 ⟨s2,⟨cs,to2,hC,hcl⟩,u,v,x',rfl⟩
    rw [By] at hC hcl
    rw [BF (by rw [hP.1]; exact BD _)] at hC
    nofun
    exact k o cs H2 ho s2 to2 hC
noncomputable def dg (φ:Int->Int) (zs zs':List (List Int×Int)):Int:=(zs.map λ z=>if 1<(am zs').count z.1 then φ z.2 else 0).sum
noncomputable def dQ (φ:Int->Int) (zss:List (List (List Int×Int))):Int:=((BC (zss.length - 1)).map λ c=>dg φ (zss.getD c []) (zss.getD (c+1) [])).sum
noncomputable def BegsG (ok lk:Bool) (H:Hp) (ds:List Addr) (zss:List (List (List Int×Int))):Prop:=ds.length=zss.length/\∀ (i:Nat) d zs,ds[i]? = some d->zss[i]? = some zs->∃ as qs,H d=some (ob ok (as.map LD))/\PairsG lk H as qs zs
theorem BegsG.same {ok lk:Bool} {H H':Hp} {ds:List Addr} {zss:List (List (List Int×Int))} (h:BegsG ok lk H ds zss) (s:Same H H'):BegsG ok lk H' ds zss:=⟨h.1,λ i d zs e1 e2=>let ⟨as,qs,a,b⟩:=h.2 i d zs e1 e2; ⟨as,qs,s _ _ a,b.same s⟩⟩
noncomputable def Bo:Sp:=λ vs H Q _=>∃ (ok lk:Bool) (a:Addr) (ds:List Addr) (zss:List (List (List Int×Int))),vs=[.ref a]/\H a=some (ob ok (ds.map LD))/\BegsG ok lk H ds zss/\zss.length<=201/\0<zss.length/\(∀ zs∈zss,zs.length<=61/\∀ z∈zs,z.1.length<=201)/\
 ∀ (t:Addr) H',Same H H'->H' t=some (.tup [.int (dQ (λ _=>1) zss),.int (dQ id zss)])->Q (.ref t) H'
theorem bT {f:Nat->Int} (h:Nat):(((BC n).map f).take (h+1)).sum=(((BC n).map f).take h).sum+(if h<n then f h else 0):=by
 rw [B3,CA,BI]
 by_cases g:h<n
 ·rw [De g,if_pos g]; simp
 ·rw [CB (by simpa using g),if_neg g]; simp
theorem fx (T:Tx K mg t):FnOk P w K mg base CX0 2 t.cj t.cg ["lists"] Bo:=by
 refine T.dm.okQ sc_ahead_of_first (λ vs H Q E h=>?_) (λ cdv A outer s H vs Q E hr h=>?_)
 ·obtain ⟨ok,lk,a,ds,zss,rfl,_⟩:=h
  rfl
 ·obtain ⟨ok,lk,a,ds,zss,rfl,ta,hB,hn,hp,hw,k⟩:=h
  match ok,lk,ta,hB with
  | true,true,ta,hB=>
   have ta:H a=some (.lst (ds.map LD)):=ta
   refine ⟨_,(ad (aA (i:=1) sc_ahead_of_first.nd rfl (BN rfl) ae)
   (ad (aA (i:=2) sc_ahead_of_first.nd rfl (BN rfl) ae)
   (ad (bA Cw rfl (bE rfl T.bQ (aj (aK kB (ai (bF (K:=K)) (by rfl) T.cG bC (aj (qv 0) aa)) ae) aa)) (al (i:=3) sc_ahead_of_first.nd rfl (BN rfl)) (ad (aA (i:=4) sc_ahead_of_first.nd rfl (BN rfl) (au (bp T) (hr.mono (by decide)) rfl T.bu T.bb.kp T.bt aX (aj (bI (cV (K:=K)) (qv 0) (aK cz (qv 3) ae)) aa)))
   (ak (bA Cw rfl (bh (K:=K) (bI (cV (K:=K)) (qv 0) (qv 3))) (iV (K:=K) (n:=2) rfl (ao (al (i:=5) sc_ahead_of_first.nd rfl (BN rfl)) (ao (al (i:=6) sc_ahead_of_first.nd rfl (BN rfl)) bi))) (ak (bg (aE oa (cJ (fO hr) (qv 4) (aM (bG (K:=K)) (by rfl) T.aU aN (aj (qv 5) aa)) ae) ae (az _)) (ad (eF (i:=1) sc_ahead_of_first.nd rfl (BN rfl) ae eG)
   (ak (eF (i:=2) sc_ahead_of_first.nd rfl (BN rfl) (qv 6) eG))) aI))))))
   (ak (av (bK (aj (qv 1) (aj (qv 2) aa)))))))),?_⟩
   rw [show L2.start ["lists","steps","moves","column","goings_on","beginning","many"] [LD a]=[some (LD a),none,none,none,none,none,none] from rfl]
   nofun
   refine bL (Lx ta) ?_
   rw [By,hB.1]
   nofun
   generalize hN:zss.length - 1=N at *
   have eN:((zss.length:Nat):Int) - 1=((N:Nat):Int):=by lia
   rw [eN]
   refine ⟨_,rfl,by lia,by lia,cw (n:=N) (λ i σ H'=>Same H H'/\∃ (v1 v2 v3 v4:Option V),σ=[some (LD a),some (Lz ((((BC N).map λ c=>dg (λ _=>1) (zss.getD c []) (zss.getD (c+1) [])).take i).sum)),some (Lz ((((BC N).map λ c=>dg id (zss.getD c []) (zss.getD (c+1) [])).take i).sum)),v1,v2,v3,v4]) ⟨LA _,_,_,_,_,rfl⟩ ?_ ?_⟩
   ·rintro c σ H1 hc ⟨s1,v1,v2,v3,v4,rfl⟩
    rw [bT,bT,if_pos hc,if_pos hc]
    generalize (((BC N).map λ c=>dg (λ _=>1) (zss.getD c []) (zss.getD (c+1) [])).take c).sum=nv
    generalize (((BC N).map λ c=>dg id (zss.getD c []) (zss.getD (c+1) [])).take c).sum=mv
    have h1:c+1<zss.length:=by lia
    have h0:c<zss.length:=by lia
    have e1:zss[c+1]? = some zss[c+1]:=by simp [h1]
    have e0:zss[c]? = some zss[c]:=by simp [h0]
    have d1:ds[c+1]? = some (ds[c+1]'(by rw [hB.1]; exact h1)):=by simp [hB.1,h1]
    have d0:ds[c]? = some (ds[c]'(by rw [hB.1]; exact h0)):=by simp [hB.1,h0]
    obtain ⟨as1,qs1,t1,P1⟩:=(hB.same s1).2 _ _ _ d1 e1
    have t1:H1 _=some (.lst (as1.map LD)):=t1
    obtain ⟨as0,qs0,t0,P0⟩:=(hB.same s1).2 _ _ _ d0 e0
    have t0:H1 _=some (.lst (as0.map LD)):=t0
    obtain ⟨w1,w1'⟩:=hw zss[c+1] (BM h1)
    obtain ⟨w0,w0'⟩:=hw zss[c] (BM h0)
    have g1:zss.getD (c+1) []=zss[c+1]:=by rw [Bz,e1]; rfl
    have g0:zss.getD c []=zss[c]:=by rw [Bz,e0]; rfl
    rw [g1,g0]
    generalize zss[c+1]=z1 at P1 w1 w1'
    generalize zss[c]=z0 at P0 w0 w0'
    generalize ds[c+1]'(by rw [hB.1]; exact h1)=p1 at d1 t1
    generalize ds[c]'(by rw [hB.1]; exact h0)=p0 at d0 t0
    nofun
    have ec:(0:Int)+((c:Nat):Int)+1=((c+1:Nat):Int):=by lia
    have ec0:(0:Int)+((c:Nat):Int)=((c:Nat):Int):=by lia
    rw [ec]
    refine dU (Lx (s1 _ _ ta)) (v:=LD p1) (bv (by rw [BI,d1]; rfl)) ?_
    refine ⟨true,true,p1,as1,qs1,z1,rfl,t1,P1,w1,w1',λ o cs H2 ho s2 to hC=>?_⟩
    nofun
    rw [ec0]
    refine dU (Lx ((s1.trans s2) _ _ ta)) (v:=LD p0) (bv (by rw [BI,d0]; rfl)) ?_
    refine ⟨p0,rfl,⟨_,Lx (s2 _ _ t0)⟩,c6 (a:=p0) (xs:=as0.map LD) (λ i σ H'=>Same H2 H'/\∃ (v3 v4:Option V),σ=[some (LD a),some (Lz (nv+((z0.map λ z=>if 1<(am z1).count z.1 then (1:Int) else 0).take i).sum)),some (Lz (mv+((z0.map λ z=>if 1<(am z1).count z.1 then z.2 else 0).take i).sum)),some (Lz c),some (LD o),v3,v4]) ⟨LA _,v3,v4,by simp⟩ (λ i σ H' _ h=>Lx (h.1 _ _ (s2 _ _ t0))) ?_ ?_⟩
    ·rintro i x σ H3 hx ⟨s3,v3,v4,rfl⟩
     obtain ⟨p,rfl,hp,_,hi⟩:=aS hx
     have hiz:i<z0.length:=by rw [<-P0.1]; exact hi
     have hiq:i<qs0.length:=by rw [P0.2.1]; exact hiz
     have ez:z0[i]? = some z0[i]:=by simp [hiz]
     obtain ⟨tp,tq⟩:=((P0.same s2).same s3).2.2 i p _ _ hp (Bx hiq) ez
     have tp:H3 p=some (.lst [LD qs0[i],Lz z0[i].2]):=tp
     have tq:H3 qs0[i]=some (.lst (z0[i].1.map Lz)):=tq
     have es:((z0.map λ z=>if 1<(am z1).count z.1 then z.2 else 0).take (i+1)).sum=((z0.map λ z=>if 1<(am z1).count z.1 then z.2 else 0).take i).sum+(if 1<(am z1).count z0[i].1 then z0[i].2 else 0):=by
      rw [B3,CA,BI,ez]; simp
     have es1:((z0.map λ z=>if 1<(am z1).count z.1 then (1:Int) else 0).take (i+1)).sum=((z0.map λ z=>if 1<(am z1).count z.1 then (1:Int) else 0).take i).sum+(if 1<(am z1).count z0[i].1 then (1:Int) else 0):=by
      rw [B3,CA,BI,ez]; simp
     rw [es,es1]
     generalize ((z0.map λ z=>if 1<(am z1).count z.1 then z.2 else 0).take i).sum=S
     generalize ((z0.map λ z=>if 1<(am z1).count z.1 then (1:Int) else 0).take i).sum=S1
     generalize qs0[i]=q at tp tq
     generalize z0[i]=z at tp tq
     refine eJ tp ?_
     nofun
     refine ⟨o,rfl,.inr ⟨_,.inl (s3 _ _ to)⟩,?_⟩
     nofun
     refine cx (Lx tq) λ qt hqt=>?_
     have s34:=(LA H3).new (o:=.tup (z.1.map Lz)) hqt
     have tqt:(upd H3 qt (.tup (z.1.map Lz))) qt=some (.tup (z.1.map Lz)):=ac
     generalize upd H3 qt (.tup (z.1.map Lz))=H4 at s34 tqt
     have s3:=s3.trans s34
     nofun
     refine ⟨_,DGet.t (s3 _ _ to) (k:=fu z.1) (by rw [cf]; exact tqt),?_⟩
     rw [mm hC]
     nofun
     refine aJ (λ g=>?_) (λ g=>?_)
     ·rw [if_pos (by lia),if_pos (by lia)]
      nofun
      rw [DK,DK]
      exact ⟨s3,_,_,rfl⟩
     ·rw [if_neg (by lia),if_neg (by lia)]
      nofun
      rw [Dz,Dz]
      exact ⟨s3,_,_,rfl⟩
    ·rintro σ H3 ⟨s3,v3,v4,rfl⟩
     rw [BF (by rw [By,By,P0.1]; exact BD _),BF (by rw [By,By,P0.1]; exact BD _)]
     exact ⟨(s1.trans s2).trans s3,_,_,_,_,rfl⟩
   ·rintro σ H1 ⟨s1,v1,v2,v3,v4,rfl⟩
    rw [BF (by simp),BF (by simp)]
    nofun
    refine ⟨ba (by simp),λ t ht=>?_⟩
    refine k t _ (s1.new ht) ?_
    rw [ac]
    unfold dQ
    rw [hN]
  | true,false,ta,hB=>
   have ta:H a=some (.lst (ds.map LD)):=ta
   refine ⟨_,(ad (aA (i:=1) sc_ahead_of_first.nd rfl (BN rfl) ae)
   (ad (aA (i:=2) sc_ahead_of_first.nd rfl (BN rfl) ae)
   (ad (bA Cw rfl (bE rfl T.bQ (aj (aK kB (ai (bF (K:=K)) (by rfl) T.cG bC (aj (qv 0) aa)) ae) aa)) (al (i:=3) sc_ahead_of_first.nd rfl (BN rfl)) (ad (aA (i:=4) sc_ahead_of_first.nd rfl (BN rfl) (au (bp T) (hr.mono (by decide)) rfl T.bu T.bb.kp T.bt aX (aj (bI (cV (K:=K)) (qv 0) (aK cz (qv 3) ae)) aa)))
   (ak (bA Cw rfl (bh (K:=K) (bI (cV (K:=K)) (qv 0) (qv 3))) (cU (K:=K) (n:=2) rfl (ao (al (i:=5) sc_ahead_of_first.nd rfl (BN rfl)) (ao (al (i:=6) sc_ahead_of_first.nd rfl (BN rfl)) bi))) (ak (bg (aE oa (cJ (fO hr) (qv 4) (aM (bG (K:=K)) (by rfl) T.aU aN (aj (qv 5) aa)) ae) ae (az _)) (ad (eF (i:=1) sc_ahead_of_first.nd rfl (BN rfl) ae eG)
   (ak (eF (i:=2) sc_ahead_of_first.nd rfl (BN rfl) (qv 6) eG))) aI))))))
   (ak (av (bK (aj (qv 1) (aj (qv 2) aa)))))))),?_⟩
   rw [show L2.start ["lists","steps","moves","column","goings_on","beginning","many"] [LD a]=[some (LD a),none,none,none,none,none,none] from rfl]
   nofun
   refine bL (Lx ta) ?_
   rw [By,hB.1]
   nofun
   generalize hN:zss.length - 1=N at *
   have eN:((zss.length:Nat):Int) - 1=((N:Nat):Int):=by lia
   rw [eN]
   refine ⟨_,rfl,by lia,by lia,cw (n:=N) (λ i σ H'=>Same H H'/\∃ (v1 v2 v3 v4:Option V),σ=[some (LD a),some (Lz ((((BC N).map λ c=>dg (λ _=>1) (zss.getD c []) (zss.getD (c+1) [])).take i).sum)),some (Lz ((((BC N).map λ c=>dg id (zss.getD c []) (zss.getD (c+1) [])).take i).sum)),v1,v2,v3,v4]) ⟨LA _,_,_,_,_,rfl⟩ ?_ ?_⟩
   ·rintro c σ H1 hc ⟨s1,v1,v2,v3,v4,rfl⟩
    rw [bT,bT,if_pos hc,if_pos hc]
    generalize (((BC N).map λ c=>dg (λ _=>1) (zss.getD c []) (zss.getD (c+1) [])).take c).sum=nv
    generalize (((BC N).map λ c=>dg id (zss.getD c []) (zss.getD (c+1) [])).take c).sum=mv
    have h1:c+1<zss.length:=by lia
    have h0:c<zss.length:=by lia
    have e1:zss[c+1]? = some zss[c+1]:=by simp [h1]
    have e0:zss[c]? = some zss[c]:=by simp [h0]
    have d1:ds[c+1]? = some (ds[c+1]'(by rw [hB.1]; exact h1)):=by simp [hB.1,h1]
    have d0:ds[c]? = some (ds[c]'(by rw [hB.1]; exact h0)):=by simp [hB.1,h0]
    obtain ⟨as1,qs1,t1,P1⟩:=(hB.same s1).2 _ _ _ d1 e1
    have t1:H1 _=some (.lst (as1.map LD)):=t1
    obtain ⟨as0,qs0,t0,P0⟩:=(hB.same s1).2 _ _ _ d0 e0
    have t0:H1 _=some (.lst (as0.map LD)):=t0
    obtain ⟨w1,w1'⟩:=hw zss[c+1] (BM h1)
    obtain ⟨w0,w0'⟩:=hw zss[c] (BM h0)
    have g1:zss.getD (c+1) []=zss[c+1]:=by rw [Bz,e1]; rfl
    have g0:zss.getD c []=zss[c]:=by rw [Bz,e0]; rfl
    rw [g1,g0]
    generalize zss[c+1]=z1 at P1 w1 w1'
    generalize zss[c]=z0 at P0 w0 w0'
    generalize ds[c+1]'(by rw [hB.1]; exact h1)=p1 at d1 t1
    generalize ds[c]'(by rw [hB.1]; exact h0)=p0 at d0 t0
    nofun
    have ec:(0:Int)+((c:Nat):Int)+1=((c+1:Nat):Int):=by lia
    have ec0:(0:Int)+((c:Nat):Int)=((c:Nat):Int):=by lia
    rw [ec]
    refine dU (Lx (s1 _ _ ta)) (v:=LD p1) (bv (by rw [BI,d1]; rfl)) ?_
    refine ⟨true,false,p1,as1,qs1,z1,rfl,t1,P1,w1,w1',λ o cs H2 ho s2 to hC=>?_⟩
    nofun
    rw [ec0]
    refine dU (Lx ((s1.trans s2) _ _ ta)) (v:=LD p0) (bv (by rw [BI,d0]; rfl)) ?_
    refine ⟨p0,rfl,⟨_,Lx (s2 _ _ t0)⟩,c6 (a:=p0) (xs:=as0.map LD) (λ i σ H'=>Same H2 H'/\∃ (v3 v4:Option V),σ=[some (LD a),some (Lz (nv+((z0.map λ z=>if 1<(am z1).count z.1 then (1:Int) else 0).take i).sum)),some (Lz (mv+((z0.map λ z=>if 1<(am z1).count z.1 then z.2 else 0).take i).sum)),some (Lz c),some (LD o),v3,v4]) ⟨LA _,v3,v4,by simp⟩ (λ i σ H' _ h=>Lx (h.1 _ _ (s2 _ _ t0))) ?_ ?_⟩
    ·rintro i x σ H3 hx ⟨s3,v3,v4,rfl⟩
     obtain ⟨p,rfl,hp,_,hi⟩:=aS hx
     have hiz:i<z0.length:=by rw [<-P0.1]; exact hi
     have hiq:i<qs0.length:=by rw [P0.2.1]; exact hiz
     have ez:z0[i]? = some z0[i]:=by simp [hiz]
     obtain ⟨tp,tq⟩:=((P0.same s2).same s3).2.2 i p _ _ hp (Bx hiq) ez
     have tp:H3 p=some (.tup [LD qs0[i],Lz z0[i].2]):=tp
     have tq:H3 qs0[i]=some (.tup (z0[i].1.map Lz)):=tq
     have es:((z0.map λ z=>if 1<(am z1).count z.1 then z.2 else 0).take (i+1)).sum=((z0.map λ z=>if 1<(am z1).count z.1 then z.2 else 0).take i).sum+(if 1<(am z1).count z0[i].1 then z0[i].2 else 0):=by
      rw [B3,CA,BI,ez]; simp
     have es1:((z0.map λ z=>if 1<(am z1).count z.1 then (1:Int) else 0).take (i+1)).sum=((z0.map λ z=>if 1<(am z1).count z.1 then (1:Int) else 0).take i).sum+(if 1<(am z1).count z0[i].1 then (1:Int) else 0):=by
      rw [B3,CA,BI,ez]; simp
     rw [es,es1]
     generalize ((z0.map λ z=>if 1<(am z1).count z.1 then z.2 else 0).take i).sum=S
     generalize ((z0.map λ z=>if 1<(am z1).count z.1 then (1:Int) else 0).take i).sum=S1
     generalize qs0[i]=q at tp tq
     generalize z0[i]=z at tp tq
     refine bH tp ?_
     nofun
     refine ⟨o,rfl,.inr ⟨_,.inl (s3 _ _ to)⟩,?_⟩
     nofun
     refine ⟨q,_,rfl,.inr ⟨Ly tq,?_⟩⟩
     nofun
     refine ⟨_,DGet.t (s3 _ _ to) (k:=fu z.1) (by rw [cf]; exact tq),?_⟩
     rw [mm hC]
     nofun
     refine aJ (λ g=>?_) (λ g=>?_)
     ·rw [if_pos (by lia),if_pos (by lia)]
      nofun
      rw [DK,DK]
      exact ⟨s3,_,_,rfl⟩
     ·rw [if_neg (by lia),if_neg (by lia)]
      nofun
      rw [Dz,Dz]
      exact ⟨s3,_,_,rfl⟩
    ·rintro σ H3 ⟨s3,v3,v4,rfl⟩
     rw [BF (by rw [By,By,P0.1]; exact BD _),BF (by rw [By,By,P0.1]; exact BD _)]
     exact ⟨(s1.trans s2).trans s3,_,_,_,_,rfl⟩
   ·rintro σ H1 ⟨s1,v1,v2,v3,v4,rfl⟩
    rw [BF (by simp),BF (by simp)]
    nofun
    refine ⟨ba (by simp),λ t ht=>?_⟩
    refine k t _ (s1.new ht) ?_
    rw [ac]
    unfold dQ
    rw [hN]
  | false,true,ta,hB=>
   have ta:H a=some (.tup (ds.map LD)):=ta
   refine ⟨_,(ad (aA (i:=1) sc_ahead_of_first.nd rfl (BN rfl) ae)
   (ad (aA (i:=2) sc_ahead_of_first.nd rfl (BN rfl) ae)
   (ad (bA Cw rfl (bE rfl T.bQ (aj (aK kB (ai (bF (K:=K)) (by rfl) T.cG bC (aj (qv 0) aa)) ae) aa)) (al (i:=3) sc_ahead_of_first.nd rfl (BN rfl)) (ad (aA (i:=4) sc_ahead_of_first.nd rfl (BN rfl) (au (bp T) (hr.mono (by decide)) rfl T.bu T.bb.kp T.bt aX (aj (bI (kC (K:=K)) (qv 0) (aK cz (qv 3) ae)) aa)))
   (ak (bA Cw rfl (ik (K:=K) (bI (kC (K:=K)) (qv 0) (qv 3))) (iV (K:=K) (n:=2) rfl (ao (al (i:=5) sc_ahead_of_first.nd rfl (BN rfl)) (ao (al (i:=6) sc_ahead_of_first.nd rfl (BN rfl)) bi))) (ak (bg (aE oa (cJ (fO hr) (qv 4) (aM (bG (K:=K)) (by rfl) T.aU aN (aj (qv 5) aa)) ae) ae (az _)) (ad (eF (i:=1) sc_ahead_of_first.nd rfl (BN rfl) ae eG)
   (ak (eF (i:=2) sc_ahead_of_first.nd rfl (BN rfl) (qv 6) eG))) aI))))))
   (ak (av (bK (aj (qv 1) (aj (qv 2) aa)))))))),?_⟩
   rw [show L2.start ["lists","steps","moves","column","goings_on","beginning","many"] [LD a]=[some (LD a),none,none,none,none,none,none] from rfl]
   nofun
   refine iP (Ly ta) ?_
   rw [By,hB.1]
   nofun
   generalize hN:zss.length - 1=N at *
   have eN:((zss.length:Nat):Int) - 1=((N:Nat):Int):=by lia
   rw [eN]
   refine ⟨_,rfl,by lia,by lia,cw (n:=N) (λ i σ H'=>Same H H'/\∃ (v1 v2 v3 v4:Option V),σ=[some (LD a),some (Lz ((((BC N).map λ c=>dg (λ _=>1) (zss.getD c []) (zss.getD (c+1) [])).take i).sum)),some (Lz ((((BC N).map λ c=>dg id (zss.getD c []) (zss.getD (c+1) [])).take i).sum)),v1,v2,v3,v4]) ⟨LA _,_,_,_,_,rfl⟩ ?_ ?_⟩
   ·rintro c σ H1 hc ⟨s1,v1,v2,v3,v4,rfl⟩
    rw [bT,bT,if_pos hc,if_pos hc]
    generalize (((BC N).map λ c=>dg (λ _=>1) (zss.getD c []) (zss.getD (c+1) [])).take c).sum=nv
    generalize (((BC N).map λ c=>dg id (zss.getD c []) (zss.getD (c+1) [])).take c).sum=mv
    have h1:c+1<zss.length:=by lia
    have h0:c<zss.length:=by lia
    have e1:zss[c+1]? = some zss[c+1]:=by simp [h1]
    have e0:zss[c]? = some zss[c]:=by simp [h0]
    have d1:ds[c+1]? = some (ds[c+1]'(by rw [hB.1]; exact h1)):=by simp [hB.1,h1]
    have d0:ds[c]? = some (ds[c]'(by rw [hB.1]; exact h0)):=by simp [hB.1,h0]
    obtain ⟨as1,qs1,t1,P1⟩:=(hB.same s1).2 _ _ _ d1 e1
    have t1:H1 _=some (.tup (as1.map LD)):=t1
    obtain ⟨as0,qs0,t0,P0⟩:=(hB.same s1).2 _ _ _ d0 e0
    have t0:H1 _=some (.tup (as0.map LD)):=t0
    obtain ⟨w1,w1'⟩:=hw zss[c+1] (BM h1)
    obtain ⟨w0,w0'⟩:=hw zss[c] (BM h0)
    have g1:zss.getD (c+1) []=zss[c+1]:=by rw [Bz,e1]; rfl
    have g0:zss.getD c []=zss[c]:=by rw [Bz,e0]; rfl
    rw [g1,g0]
    generalize zss[c+1]=z1 at P1 w1 w1'
    generalize zss[c]=z0 at P0 w0 w0'
    generalize ds[c+1]'(by rw [hB.1]; exact h1)=p1 at d1 t1
    generalize ds[c]'(by rw [hB.1]; exact h0)=p0 at d0 t0
    nofun
    have ec:(0:Int)+((c:Nat):Int)+1=((c+1:Nat):Int):=by lia
    have ec0:(0:Int)+((c:Nat):Int)=((c:Nat):Int):=by lia
    rw [ec]
    refine fF (Ly (s1 _ _ ta)) (v:=LD p1) (bv (by rw [BI,d1]; rfl)) ?_
    refine ⟨false,true,p1,as1,qs1,z1,rfl,t1,P1,w1,w1',λ o cs H2 ho s2 to hC=>?_⟩
    nofun
    rw [ec0]
    refine fF (Ly ((s1.trans s2) _ _ ta)) (v:=LD p0) (bv (by rw [BI,d0]; rfl)) ?_
    refine ⟨p0,rfl,⟨_,Ly (s2 _ _ t0)⟩,gs (a:=p0) (xs:=as0.map LD) (λ i σ H'=>Same H2 H'/\∃ (v3 v4:Option V),σ=[some (LD a),some (Lz (nv+((z0.map λ z=>if 1<(am z1).count z.1 then (1:Int) else 0).take i).sum)),some (Lz (mv+((z0.map λ z=>if 1<(am z1).count z.1 then z.2 else 0).take i).sum)),some (Lz c),some (LD o),v3,v4]) ⟨LA _,v3,v4,by simp⟩ (λ i σ H' _ h=>Ly (h.1 _ _ (s2 _ _ t0))) ?_ ?_⟩
    ·rintro i x σ H3 hx ⟨s3,v3,v4,rfl⟩
     obtain ⟨p,rfl,hp,_,hi⟩:=aS hx
     have hiz:i<z0.length:=by rw [<-P0.1]; exact hi
     have hiq:i<qs0.length:=by rw [P0.2.1]; exact hiz
     have ez:z0[i]? = some z0[i]:=by simp [hiz]
     obtain ⟨tp,tq⟩:=((P0.same s2).same s3).2.2 i p _ _ hp (Bx hiq) ez
     have tp:H3 p=some (.lst [LD qs0[i],Lz z0[i].2]):=tp
     have tq:H3 qs0[i]=some (.lst (z0[i].1.map Lz)):=tq
     have es:((z0.map λ z=>if 1<(am z1).count z.1 then z.2 else 0).take (i+1)).sum=((z0.map λ z=>if 1<(am z1).count z.1 then z.2 else 0).take i).sum+(if 1<(am z1).count z0[i].1 then z0[i].2 else 0):=by
      rw [B3,CA,BI,ez]; simp
     have es1:((z0.map λ z=>if 1<(am z1).count z.1 then (1:Int) else 0).take (i+1)).sum=((z0.map λ z=>if 1<(am z1).count z.1 then (1:Int) else 0).take i).sum+(if 1<(am z1).count z0[i].1 then (1:Int) else 0):=by
      rw [B3,CA,BI,ez]; simp
     rw [es,es1]
     generalize ((z0.map λ z=>if 1<(am z1).count z.1 then z.2 else 0).take i).sum=S
     generalize ((z0.map λ z=>if 1<(am z1).count z.1 then (1:Int) else 0).take i).sum=S1
     generalize qs0[i]=q at tp tq
     generalize z0[i]=z at tp tq
     refine eJ tp ?_
     nofun
     refine ⟨o,rfl,.inr ⟨_,.inl (s3 _ _ to)⟩,?_⟩
     nofun
     refine cx (Lx tq) λ qt hqt=>?_
     have s34:=(LA H3).new (o:=.tup (z.1.map Lz)) hqt
     have tqt:(upd H3 qt (.tup (z.1.map Lz))) qt=some (.tup (z.1.map Lz)):=ac
     generalize upd H3 qt (.tup (z.1.map Lz))=H4 at s34 tqt
     have s3:=s3.trans s34
     nofun
     refine ⟨_,DGet.t (s3 _ _ to) (k:=fu z.1) (by rw [cf]; exact tqt),?_⟩
     rw [mm hC]
     nofun
     refine aJ (λ g=>?_) (λ g=>?_)
     ·rw [if_pos (by lia),if_pos (by lia)]
      nofun
      rw [DK,DK]
      exact ⟨s3,_,_,rfl⟩
     ·rw [if_neg (by lia),if_neg (by lia)]
      nofun
      rw [Dz,Dz]
      exact ⟨s3,_,_,rfl⟩
    ·rintro σ H3 ⟨s3,v3,v4,rfl⟩
     rw [BF (by rw [By,By,P0.1]; exact BD _),BF (by rw [By,By,P0.1]; exact BD _)]
     exact ⟨(s1.trans s2).trans s3,_,_,_,_,rfl⟩
   ·rintro σ H1 ⟨s1,v1,v2,v3,v4,rfl⟩
    rw [BF (by simp),BF (by simp)]
    nofun
    refine ⟨ba (by simp),λ t ht=>?_⟩
    refine k t _ (s1.new ht) ?_
    rw [ac]
    unfold dQ
    rw [hN]
  | false,false,ta,hB=>
   have ta:H a=some (.tup (ds.map LD)):=ta
   refine ⟨_,(ad (aA (i:=1) sc_ahead_of_first.nd rfl (BN rfl) ae)
   (ad (aA (i:=2) sc_ahead_of_first.nd rfl (BN rfl) ae)
   (ad (bA Cw rfl (bE rfl T.bQ (aj (aK kB (ai (bF (K:=K)) (by rfl) T.cG bC (aj (qv 0) aa)) ae) aa)) (al (i:=3) sc_ahead_of_first.nd rfl (BN rfl)) (ad (aA (i:=4) sc_ahead_of_first.nd rfl (BN rfl) (au (bp T) (hr.mono (by decide)) rfl T.bu T.bb.kp T.bt aX (aj (bI (kC (K:=K)) (qv 0) (aK cz (qv 3) ae)) aa)))
   (ak (bA Cw rfl (ik (K:=K) (bI (kC (K:=K)) (qv 0) (qv 3))) (cU (K:=K) (n:=2) rfl (ao (al (i:=5) sc_ahead_of_first.nd rfl (BN rfl)) (ao (al (i:=6) sc_ahead_of_first.nd rfl (BN rfl)) bi))) (ak (bg (aE oa (cJ (fO hr) (qv 4) (aM (bG (K:=K)) (by rfl) T.aU aN (aj (qv 5) aa)) ae) ae (az _)) (ad (eF (i:=1) sc_ahead_of_first.nd rfl (BN rfl) ae eG)
   (ak (eF (i:=2) sc_ahead_of_first.nd rfl (BN rfl) (qv 6) eG))) aI))))))
   (ak (av (bK (aj (qv 1) (aj (qv 2) aa)))))))),?_⟩
   rw [show L2.start ["lists","steps","moves","column","goings_on","beginning","many"] [LD a]=[some (LD a),none,none,none,none,none,none] from rfl]
   nofun
   refine iP (Ly ta) ?_
   rw [By,hB.1]
   nofun
   generalize hN:zss.length - 1=N at *
   have eN:((zss.length:Nat):Int) - 1=((N:Nat):Int):=by lia
   rw [eN]
   refine ⟨_,rfl,by lia,by lia,cw (n:=N) (λ i σ H'=>Same H H'/\∃ (v1 v2 v3 v4:Option V),σ=[some (LD a),some (Lz ((((BC N).map λ c=>dg (λ _=>1) (zss.getD c []) (zss.getD (c+1) [])).take i).sum)),some (Lz ((((BC N).map λ c=>dg id (zss.getD c []) (zss.getD (c+1) [])).take i).sum)),v1,v2,v3,v4]) ⟨LA _,_,_,_,_,rfl⟩ ?_ ?_⟩
   ·rintro c σ H1 hc ⟨s1,v1,v2,v3,v4,rfl⟩
    rw [bT,bT,if_pos hc,if_pos hc]
    generalize (((BC N).map λ c=>dg (λ _=>1) (zss.getD c []) (zss.getD (c+1) [])).take c).sum=nv
    generalize (((BC N).map λ c=>dg id (zss.getD c []) (zss.getD (c+1) [])).take c).sum=mv
    have h1:c+1<zss.length:=by lia
    have h0:c<zss.length:=by lia
    have e1:zss[c+1]? = some zss[c+1]:=by simp [h1]
    have e0:zss[c]? = some zss[c]:=by simp [h0]
    have d1:ds[c+1]? = some (ds[c+1]'(by rw [hB.1]; exact h1)):=by simp [hB.1,h1]
    have d0:ds[c]? = some (ds[c]'(by rw [hB.1]; exact h0)):=by simp [hB.1,h0]
    obtain ⟨as1,qs1,t1,P1⟩:=(hB.same s1).2 _ _ _ d1 e1
    have t1:H1 _=some (.tup (as1.map LD)):=t1
    obtain ⟨as0,qs0,t0,P0⟩:=(hB.same s1).2 _ _ _ d0 e0
    have t0:H1 _=some (.tup (as0.map LD)):=t0
    obtain ⟨w1,w1'⟩:=hw zss[c+1] (BM h1)
    obtain ⟨w0,w0'⟩:=hw zss[c] (BM h0)
    have g1:zss.getD (c+1) []=zss[c+1]:=by rw [Bz,e1]; rfl
    have g0:zss.getD c []=zss[c]:=by rw [Bz,e0]; rfl
    rw [g1,g0]
    generalize zss[c+1]=z1 at P1 w1 w1'
    generalize zss[c]=z0 at P0 w0 w0'
    generalize ds[c+1]'(by rw [hB.1]; exact h1)=p1 at d1 t1
    generalize ds[c]'(by rw [hB.1]; exact h0)=p0 at d0 t0
    nofun
    have ec:(0:Int)+((c:Nat):Int)+1=((c+1:Nat):Int):=by lia
    have ec0:(0:Int)+((c:Nat):Int)=((c:Nat):Int):=by lia
    rw [ec]
    refine fF (Ly (s1 _ _ ta)) (v:=LD p1) (bv (by rw [BI,d1]; rfl)) ?_
    refine ⟨false,false,p1,as1,qs1,z1,rfl,t1,P1,w1,w1',λ o cs H2 ho s2 to hC=>?_⟩
    nofun
    rw [ec0]
    refine fF (Ly ((s1.trans s2) _ _ ta)) (v:=LD p0) (bv (by rw [BI,d0]; rfl)) ?_
    refine ⟨p0,rfl,⟨_,Ly (s2 _ _ t0)⟩,gs (a:=p0) (xs:=as0.map LD) (λ i σ H'=>Same H2 H'/\∃ (v3 v4:Option V),σ=[some (LD a),some (Lz (nv+((z0.map λ z=>if 1<(am z1).count z.1 then (1:Int) else 0).take i).sum)),some (Lz (mv+((z0.map λ z=>if 1<(am z1).count z.1 then z.2 else 0).take i).sum)),some (Lz c),some (LD o),v3,v4]) ⟨LA _,v3,v4,by simp⟩ (λ i σ H' _ h=>Ly (h.1 _ _ (s2 _ _ t0))) ?_ ?_⟩
    ·rintro i x σ H3 hx ⟨s3,v3,v4,rfl⟩
     obtain ⟨p,rfl,hp,_,hi⟩:=aS hx
     have hiz:i<z0.length:=by rw [<-P0.1]; exact hi
     have hiq:i<qs0.length:=by rw [P0.2.1]; exact hiz
     have ez:z0[i]? = some z0[i]:=by simp [hiz]
     obtain ⟨tp,tq⟩:=((P0.same s2).same s3).2.2 i p _ _ hp (Bx hiq) ez
     have tp:H3 p=some (.tup [LD qs0[i],Lz z0[i].2]):=tp
     have tq:H3 qs0[i]=some (.tup (z0[i].1.map Lz)):=tq
     have es:((z0.map λ z=>if 1<(am z1).count z.1 then z.2 else 0).take (i+1)).sum=((z0.map λ z=>if 1<(am z1).count z.1 then z.2 else 0).take i).sum+(if 1<(am z1).count z0[i].1 then z0[i].2 else 0):=by
      rw [B3,CA,BI,ez]; simp
     have es1:((z0.map λ z=>if 1<(am z1).count z.1 then (1:Int) else 0).take (i+1)).sum=((z0.map λ z=>if 1<(am z1).count z.1 then (1:Int) else 0).take i).sum+(if 1<(am z1).count z0[i].1 then (1:Int) else 0):=by
      rw [B3,CA,BI,ez]; simp
     rw [es,es1]
     generalize ((z0.map λ z=>if 1<(am z1).count z.1 then z.2 else 0).take i).sum=S
     generalize ((z0.map λ z=>if 1<(am z1).count z.1 then (1:Int) else 0).take i).sum=S1
     generalize qs0[i]=q at tp tq
     generalize z0[i]=z at tp tq
     refine bH tp ?_
     nofun
     refine ⟨o,rfl,.inr ⟨_,.inl (s3 _ _ to)⟩,?_⟩
     nofun
     refine ⟨q,_,rfl,.inr ⟨Ly tq,?_⟩⟩
     nofun
     refine ⟨_,DGet.t (s3 _ _ to) (k:=fu z.1) (by rw [cf]; exact tq),?_⟩
     rw [mm hC]
     nofun
     refine aJ (λ g=>?_) (λ g=>?_)
     ·rw [if_pos (by lia),if_pos (by lia)]
      nofun
      rw [DK,DK]
      exact ⟨s3,_,_,rfl⟩
     ·rw [if_neg (by lia),if_neg (by lia)]
      nofun
      rw [Dz,Dz]
      exact ⟨s3,_,_,rfl⟩
    ·rintro σ H3 ⟨s3,v3,v4,rfl⟩
     rw [BF (by rw [By,By,P0.1]; exact BD _),BF (by rw [By,By,P0.1]; exact BD _)]
     exact ⟨(s1.trans s2).trans s3,_,_,_,_,rfl⟩
   ·rintro σ H1 ⟨s1,v1,v2,v3,v4,rfl⟩
    rw [BF (by simp),BF (by simp)]
    nofun
    refine ⟨ba (by simp),λ t ht=>?_⟩
    refine k t _ (s1.new ht) ?_
    rw [ac]
    unfold dQ
    rw [hN]
theorem fy (r:List Nat):NV r=(aL r).map Lz:=xC r
noncomputable def bgs (rss:List (List Nat)) (c:Nat):List (List Int):=rss.map λ r=>aL (r.take c)
theorem dh {a b:List Nat} (h:aL a=aL b):a=b:=(Gj (λ x y e=>by have e:(x:Int)=(y:Int):=e; lia)).mp h
theorem cX (p:List Nat):(aL p).map EC=p:=by
 unfold aL
 rw [CF]
 conv=>rhs; rw [<-IV p]
 exact Cq λ x _=>rfl
theorem pS (rss:List (List Nat)) (c:Nat) (p:List Nat):(bgs rss c).count (aL p)=(bn rss c p).length:=by
 unfold bgs bn
 rw [EU,DU,By]
 congr 1
 refine Fo λ r _=>?_
 show (aL (r.take c) == aL p)=decide (r.take c=p)
 by_cases h:r.take c=p
 ·rw [h,decide_eq_true rfl]; exact beq_self_eq_true _
 ·rw [decide_eq_false h]; exact beq_eq_false_iff_ne.mpr λ z=>h (dh z)
theorem j9 {bs:List (List Int)} {zs:List (List Int×Int)} (h:Bgs bs zs):(zs.map (·.1)).Nodup:=h.1.imp λ {a b} e z=>by
 rw [z] at e
 have:=HT.dJ _ _ e
 rw [e] at this; cases this
theorem rV {rss:List (List Nat)} {w:Nat} {zs':List (List Int×Int)} {p:List Nat} (hw:∀ r∈rss,r.length=w) (hc:c<w) (hp:p.length=c) (b1:Bgs (bgs rss (c+1)) zs'):1<(am zs').count (aL p)↔Par (aW (bn rss c p) c):=by
 have dl:∀ q:List Nat,q.length=w->(aL (q.take (c+1))).dropLast=aL (q.take c):=λ q hq=>by
  unfold aL
  rw [<-EN,Hx,BV,JC]
  congr 2
  lia
 have e1:(am zs').count (aL p)=((zs'.map (·.1)).filter λ q=>q.dropLast == aL p).length:=by
  unfold am
  rw [EU,DU,DU,By,By]; rfl
 have e2:(aW (bn rss c p) c).map (λ f=>aL (p++[f]))=(bn rss c p).map λ r=>aL (r.take (c+1)):=by
  unfold aW
  rw [CF]
  refine Cq λ r hr=>?_
  obtain ⟨h1,h2⟩:=Cv.mp hr
  show aL (p++[r.getD c 0])=_
  rw [(jO (hw r h1) hc hp).mpr ⟨of_decide_eq_true h2,rfl⟩]
 rw [e1,<-vq (f:=λ f=>aL (p++[f])) λ a b e=>(Ia (G0 (dh e))).1,e2]
 refine gQ ((j9 b1).filter _) λ q=>?_
 rw [Cv,b1.2.1 q,BK]
 constructor
 ·rintro ⟨h1,h2⟩
  obtain ⟨r,hr,rfl⟩:=BK.mp h1
  refine ⟨r,Cv.mpr ⟨hr,decide_eq_true ?_⟩,rfl⟩
  rw [dl r (hw r hr)] at h2
  exact dh (eq_of_beq h2)
 ·rintro ⟨r,hr,rfl⟩
  obtain ⟨h1,h2⟩:=Cv.mp hr
  refine ⟨BK.mpr ⟨r,h1,rfl⟩,?_⟩
  rw [dl r (hw r h1),of_decide_eq_true h2]
  exact beq_self_eq_true _
theorem gf:∀ {xs ys:List (List Int)},xs.Nodup->(∀ x∈xs,x∈ys)->xs.length<=ys.length
 | [],ys,_,_=>Ca _
 | x::xs,ys,hn,h=>by
  have hn':=CW.mp hn
  have hx:=h x (Cb ..)
  have ih:=gf (xs:=xs) (ys:=ys.erase x) hn'.2 λ y hy=>(Ef (λ e:y=x=>hn'.1 (by rw [<-e]; exact hy))).mpr (h y (Cd _ hy))
  have:=GQ hx
  have:=List.length_pos_of_mem hx
  simp only [Ci]
  lia
theorem pT {rss:List (List Nat)} {zs:List (List Int×Int)} (h:Bgs (bgs rss c) zs):zs.length<=rss.length:=by
 have nd:(zs.map (·.1)).Nodup:=h.1.imp λ {a b} q e=>by
  rw [e] at q
  have:=HT.dJ _ _ q
  rw [q] at this
  cases this
 have:=gf nd (ys:=bgs rss c) λ r hr=>(h.2.1 r).mp hr
 unfold bgs at this
 rw [By,By] at this
 exact this
noncomputable def Tot (φ:Nat->Int) (rss:List (List Nat)) (w:Nat):Int:=((BC w).map λ k=>((pfx rss k).map λ p=>Wt φ k (bn rss k p)).sum).sum
theorem gp {rss:List (List Nat)} {zs:List (List Int×Int)} (b0:Bgs (bgs rss c) zs):∀ z∈zs,∃ r∈rss,z.1=aL (r.take c)/\z.2=((bn rss c (r.take c)).length:Int):=λ z h=>by
 obtain ⟨r,hr,e⟩:=BK.mp ((b0.2.1 z.1).mp (BK.mpr ⟨z,h,rfl⟩))
 refine ⟨r,hr,e.symm,?_⟩
 have e2:=b0.2.2 z h
 rw [<-e,pS] at e2
 exact e2
theorem gY {φ:Nat->Int} {rss:List (List Nat)} {w:Nat} {zs:List (List Int×Int)} (hw:∀ r∈rss,r.length=w) (hc:c<w) (b0:Bgs (bgs rss c) zs):(zs.map λ z=>Wt φ c (bn rss c (z.1.map EC))).sum=((pfx rss c).map λ p=>Wt φ c (bn rss c p)).sum:=by
 have hz:∀ z∈zs,∃ r∈rss,z.1=aL (r.take c):=λ z h=>let ⟨r,hr,e,_⟩:=gp b0 z h; ⟨r,hr,e⟩
 have hl:∀ r∈rss,(r.take c).length=c:=λ r hr=>by rw [BV,hw r hr]; lia
 rw [show (zs.map λ z=>Wt φ c (bn rss c (z.1.map EC)))=(zs.map λ z=>z.1.map EC).map λ p=>Wt φ c (bn rss c p) by rw [CF]; rfl]
 refine eY ?_ (jQ c) λ p hp=>?_
 ·rw [show (zs.map λ z=>z.1.map EC)=(zs.map (·.1)).map (HL EC) by rw [CF]; rfl]
  refine DW.mpr ((j9 b0).imp_of_mem λ {a b} ha hb hne e=>hne ?_)
  obtain ⟨z,h,rfl⟩:=BK.mp ha
  obtain ⟨y,g,rfl⟩:=BK.mp hb
  obtain ⟨r,hr,e3⟩:=hz z h
  obtain ⟨q,hq,e4⟩:=hz y g
  rw [e3,e4,cX,cX] at e
  rw [e3,e4,e]
 ·unfold Wt at hp
  have h3:Par (aW (bn rss c p) c):=kys_par.mp (CY λ z=>hp (if_neg z))
  obtain ⟨x,hx,y,hy,hne⟩:=h3
  obtain ⟨r,hr,rfl⟩:=BK.mp hx
  obtain ⟨q,hq,rfl⟩:=BK.mp hy
  have h4:1<(bn rss c p).length:=by
   match e:bn rss c p,hr,hq with
   | [a],hr,hq=>exact absurd (by rw [BH.mp hr,BH.mp hq]) hne
   | a::b::l,_,_=>simp
  obtain ⟨h5,h6⟩:=Cv.mp hr
  have h7:r.take c=p:=of_decide_eq_true h6
  refine ⟨λ _=>pb hw c (by lia) p (by rw [<-h7]; exact hl r h5) h4,λ _=>?_⟩
  obtain ⟨z,hz1,hz2⟩:=BK.mp ((b0.2.1 (aL p)).mpr (BK.mpr ⟨r,h5,by rw [h7]⟩))
  exact BK.mpr ⟨z,hz1,by rw [show z.1=_ from hz2,cX]⟩
theorem vS {ψ:Int->Int} {rss:List (List Nat)} {w:Nat} {zs zs':List (List Int×Int)} (hw:∀ r∈rss,r.length=w) (hc:c<w) (b0:Bgs (bgs rss c) zs) (b1:Bgs (bgs rss (c+1)) zs'):dg ψ zs zs'=((pfx rss c).map λ p=>Wt (λ n=>ψ n) c (bn rss c p)).sum:=by
 rw [<-gY hw hc b0]
 unfold dg
 congr 1
 refine Cq λ z h=>?_
 obtain ⟨r,hr,e,e2⟩:=gp b0 z h
 rw [e,cX,e2]
 have hl:(r.take c).length=c:=by rw [BV,hw r hr]; lia
 have h1:=rV hw hc hl b1
 have h2:=kys_par (os:=aW (bn rss c (r.take c)) c)
 unfold Wt
 by_cases h3:Par (aW (bn rss c (r.take c)) c)
 ·rw [if_pos (h1.mpr h3),if_pos (h2.mpr h3)]
 ·rw [if_neg (λ z=>h3 (h1.mp z)),if_neg (λ z=>h3 (h2.mp z))]
theorem ka {ψ:Int->Int} {rss:List (List Nat)} {w:Nat} {zss:List (List (List Int×Int))} (hw:∀ r∈rss,r.length=w) (hl:zss.length=w+1) (h:∀ c zs,zss[c]? = some zs->Bgs (bgs rss c) zs):dQ ψ zss=Tot (λ n=>ψ n) rss w:=by
 unfold dQ Tot
 rw [hl]
 show ((BC w).map _).sum=_
 congr 1
 refine Cq λ c hc=>?_
 have hc:=Cg.mp hc
 have g:∀ d,d<zss.length->zss[d]? = some (zss.getD d []):=λ d hd=>by rw [Bz,Bx hd]; rfl
 exact vS hw hc (h c _ (g c (by lia))) (h (c+1) _ (g (c+1) (by lia)))
theorem vT {rss:List (List Nat)} {w:Nat} {p:List Nat} (hG:Good rss w b) (hb:b<=64) (hc:c<w):1<(cN (aL (aW (bn rss c p) c))).length↔1<(kys (aW (bn rss c p) c)).length:=by
 have hx:∀ x∈aW (bn rss c p) c,x<64:=λ x hx=>by
  obtain ⟨r,hr,rfl⟩:=BK.mp hx
  obtain ⟨h1,h2⟩:=hG r (Cv.mp hr).1
  have:c<r.length:=by lia
  show r.getD c 0<64
  rw [Bz,Bx this]
  exact B5 (h2 _ (BM this)) hb
 rw [kys_par,<-kP hx,<-kM hx,decide_eq_true_iff]
theorem rW {rss:List (List Nat)} {p:List Nat} (h:rss[i]? = some r):bn (rss.take (i+1)) c p=bn (rss.take i) c p++(if r.take c=p then [r] else []):=by
 unfold bn
 rw [B3,h,DP]
 congr 1
 show IU _ [r]=_
 rw [Ep]
 by_cases e:r.take c=p
 ·rw [if_pos e,if_pos (by simpa using e)]; rfl
 ·rw [if_neg e,if_neg (by simpa using e)]; rfl
theorem kb {α:Type} {f:α->Int} {l:List α} {x:α} (h:l[i]? = some x):((l.map f).take (i+1)).sum=((l.map f).take i).sum+f x:=by
 rw [B3,CA,BI,h]; simp
noncomputable def yf (K:BA):Sp:=λ vs H Q _=>∃ (l:Addr) (ps:List Addr) (rss:List (List Nat)) (c w:Nat),vs=[.ref l,.int c]/\H l=some (.lst (ps.map LD))/\RowsT H ps rss/\(∀ r∈rss,r.length=w)/\c<=w/\w<=30/\rss.length<=30/\
 ∀ (d:Addr) (as qs:List Addr) (zs:List (List Int×Int)) H',H d=none->Same H H'->H' d=some (.lst (as.map LD))->PairsG false H' as qs zs->Bgs (bgs rss c) zs->Q (.ref d) H'
theorem fg (T:Tx K mg t):FnOk P w K mg base CX0 1 t.dF t.dD ["_law_rows_here","_law_column"] (yf K):=by
 refine T.dC.okQ sc_beginnings (λ vs H Q E h=>?_) (λ cdv A outer s H vs Q E hr h=>?_)
 ·obtain ⟨l,ps,rss,c,w,rfl,_⟩:=h
  rfl
 ·obtain ⟨l,ps,rss,c,w,rfl,tl,hR,hw,hcw,hw1,hn,q⟩:=h
  have hpl:ps.length=rss.length:=hR.1
  have hbl:(bgs rss c).length=rss.length:=by unfold bgs; rw [By]
  refine ⟨_,(ad (aA (i:=2) sc_beginnings.nd rfl (Gg rfl) (cM (N:=["_law_row","_law_column"]) (tgs:=["_law_row"]) (frs:=["_law_column"]) (ix:=[1]) ⟨rfl,by decide +kernel,rfl,by decide +kernel,rfl,rfl,⟨⟨rfl,rfl,_,rfl,rfl⟩,Cf⟩,⟨rfl,Cf⟩,rfl⟩ rfl (bh (K:=K) (qv 0)) (λ _ _ _ _=>(al (i:=0) (by show CZ (["_law_row","_law_column"]:List Str); decide +kernel) rfl (BN rfl))) (λ _ _ _ _=>(cq lM (qv 0) dw (cL (qv 1))))))
   (ak (av (cM (N:=["_law_one","_law_some"]) (tgs:=["_law_one"]) (frs:=["_law_some"]) (ix:=[2]) ⟨rfl,by decide +kernel,rfl,by decide +kernel,rfl,rfl,⟨⟨rfl,rfl,_,rfl,rfl⟩,Cf⟩,⟨rfl,Cf⟩,rfl⟩ rfl (bh (K:=K) (kX (K:=K) rfl hr.units rfl T.gq rfl T.qk (aj (qv 2) aa))) (λ _ _ _ _=>(al (i:=0) (by show CZ (["_law_one","_law_some"]:List Str); decide +kernel) rfl (BN rfl))) (λ _ _ _ _=>(bK (aj (qv 0) (aj (pG (K:=K) hr.units (qv 1) (aj (qv 0) aa)) aa)))))))),?_⟩
  rw [show L2.start ["_law_rows_here","_law_column","_law_some"] [LD l,Lz c]=[some (LD l),some (Lz c),none] from rfl]
  nofun
  refine ⟨l,rfl,⟨_,Lx tl⟩,cI (a:=l) (vs:=ps.map LD) (λ i ys σ H1=>Same H H1/\(∃ bs:List Addr,ys=bs.map LD/\bs.length=i/\i<=ps.length/\∀ (k:Nat) b z,bs[k]? = some b->(bgs rss c)[k]? = some z->H1 b=some (.tup (z.map Lz)))/\∃ v,σ=[v,some (Lz c)]) (by rw [By]; exact aB (by lia)) (λ i ys σ H1 h=>by obtain ⟨_,⟨bs,rfl,e,_⟩,_⟩:=h; rw [By,e]) (λ i ys σ H1 h=>Lx (h.1 _ _ tl)) ⟨LA _,⟨[],rfl,rfl,Ca _,λ k b z e=>by simp at e⟩,none,rfl⟩ ?_ ?_⟩
  ·rintro i ys σ H1 x hx ⟨s1,⟨bs,rfl,hbi,_,hB⟩,v,rfl⟩
   obtain ⟨b,rfl,hb,_,hi⟩:=aS hx
   have hir:i<rss.length:=by lia
   have er:rss[i]? = some rss[i]:=by simp [hir]
   have eb:(bgs rss c)[i]? = some (aL (rss[i].take c)):=by unfold bgs; rw [BI,er]; rfl
   have tb:=s1 _ _ (hR.2 i b rss[i] hb er)
   have hrl:rss[i].length=w:=hw _ (BM _)
   generalize rss[i]=r at tb hrl eb
   nofun
   refine ⟨_,rfl,b,_,rfl,tb,λ b1 H2 s2 tb1=>?_⟩
   rw [gG _ _ (by lia),fy] at tb1
   refine LC (by rw [By]; exact hi) ⟨s1.trans s2,⟨bs++[b1],by rw [B4]; rfl,by simp [hbi],hi,λ k a z e1 e2=>?_⟩,_,rfl⟩
   by_cases hki:k<i
   ·rw [BX (by lia)] at e1
    exact s2 _ _ (hB k a z e1 e2)
   ·have hkl:=(BZ.mp e1).1
    have e0:k=i:=by simp at hkl; lia
    subst e0
    rw [B2 (by lia),hbi] at e1
    simp at e1
    rw [eb] at e2
    cases e2
    rw [<-e1]
    exact tb1
  rintro ys σ H1 ⟨s1,⟨bs,rfl,hbi,_,hB⟩,v,rfl⟩ so hso
  rw [By] at hbi
  have s2:=s1.new (o:=.lst (bs.map LD)) hso
  have hB2:∀ (k:Nat) b z,bs[k]? = some b->(bgs rss c)[k]? = some z->(upd H1 so (.lst (bs.map LD))) b=some (.tup (z.map Lz)):=λ k b z e1 e2=>((LA H1).new (o:=.lst (bs.map LD)) hso) _ _ (hB k b z e1 e2)
  have tso:(upd H1 so (.lst (bs.map LD))) so=some (.lst (bs.map LD)):=ac
  generalize upd H1 so (.lst (bs.map LD))=H2 at s2 hB2 tso
  clear hB s1
  nofun
  refine ⟨so,bs,bgs rss c,rfl,Lx tso,by lia,by lia,λ i a r e1 e2=>Ly (hB2 i a r e1 e2),?_,λ u us kss hu hul hS hM hat=>?_⟩
  ·by_cases hc0:c=0
   ·exact .inl λ r hr=>by
     obtain ⟨r0,h0,rfl⟩:=BK.mp hr
     rw [hc0]; rfl
   ·exact .inr λ r hr e=>by
     obtain ⟨r0,h0,rfl⟩:=BK.mp hr
     have h2:(aL (r0.take c)).length=0:=by rw [e]; rfl
     unfold aL at h2
     rw [By,BV,hw r0 h0] at h2
     lia
  have hun:H u=none:=s2.free hu
  have hU:∀ (i:Nat) a r,us[i]? = some a->kss[i]? = some r->H2 a=some (.tup (r.map Lz)):=λ i a r e1 e2=>let ⟨j,j1,j2⟩:=hat i a r e1 e2; hB2 j a r j1 j2
  have hkl:kss.length<=30:=by
   have nd:kss.Nodup:=hS.imp λ {a b} q e=>by
    rw [e] at q
    have:=HT.dJ _ _ q
    rw [q] at this
    cases this
   have:=gf nd (ys:=bgs rss c) λ r hr=>(hM r).mp hr
   lia
  have s3:=s2.new (o:=.lst (us.map LD)) hu
  have s23:=(LA H2).new (o:=.lst (us.map LD)) hu
  have tu:(upd H2 u (.lst (us.map LD))) u=some (.lst (us.map LD)):=ac
  generalize upd H2 u (.lst (us.map LD))=H3 at s3 s23 tu
  nofun
  refine ⟨u,rfl,⟨_,Lx tu⟩,cI (a:=u) (vs:=us.map LD) (λ i ys σ H4=>Same H3 H4/\(∃ as:List Addr,ys=as.map LD/\as.length=i/\i<=us.length/\∀ (k:Nat) a q z,k<i->as[k]? = some a->us[k]? = some q->kss[k]? = some z->H4 a=some (.tup [.ref q,.int ((bgs rss c).count z:Int)]))/\∃ v,σ=[v,some (LD so)]) (by rw [By]; exact aB (by lia)) (λ i ys σ H4 h=>by obtain ⟨_,⟨as,rfl,e,_⟩,_⟩:=h; rw [By,e]) (λ i ys σ H4 h=>Lx (h.1 _ _ tu)) ⟨LA _,⟨[],rfl,rfl,Ca _,λ k a q z h=>by lia⟩,none,rfl⟩ ?_ ?_⟩
  ·rintro i ys σ H4 x hx ⟨s4,⟨as,rfl,hal,_,hA⟩,v',rfl⟩
   obtain ⟨q1,rfl,hq1,_,hi⟩:=aS hx
   have hiz:i<kss.length:=by lia
   have ez:kss[i]? = some kss[i]:=by simp [hiz]
   have tq1:=s4 _ _ (s23 _ _ (hU i q1 kss[i] hq1 ez))
   have tso4:=s4 _ _ (s23 _ _ tso)
   generalize kss[i]=z at tq1 ez
   nofun
   refine ⟨fj tso4,?_⟩
   nofun
   refine pH (Ly tq1) (Lx tso4) (show bs.length=(bgs rss c).length by lia) (λ i b z e1 e2=>Ly (s4 _ _ (s23 _ _ (hB2 i b z e1 e2)))) ?_
   nofun
   refine ⟨ba (by simp),λ a0 ha0=>?_⟩
   refine LC (by rw [By]; exact hi) ⟨s4.new ha0,⟨as++[a0],by rw [B4]; rfl,by simp [hal],hi,λ k a q z' hk e1 e2 e3=>?_⟩,_,rfl⟩
   by_cases hki:k<i
   ·rw [BX (by lia)] at e1
    exact ((LA H4).new ha0) _ _ (hA k a q z' hki e1 e2 e3)
   ·have e0:k=i:=by lia
    subst e0
    rw [B2 (by lia),hal] at e1
    simp at e1
    rw [hq1] at e2
    rw [ez] at e3
    cases e2
    cases e3
    rw [<-e1]
    exact ac
  ·rintro ys σ H4 ⟨s4,⟨as,rfl,hal,_,hA⟩,v',rfl⟩ d9 hd9
   rw [By] at hal
   have s5:=s4.new (o:=.lst (as.map LD)) hd9
   refine q d9 as us (kss.map λ z=>(z,((bgs rss c).count z:Int))) _ ((s3.trans s4).free hd9) (s3.trans s5) ac ⟨by rw [By]; lia,by rw [By]; exact hul,λ i a q1 z e1 e2 e3=>?_⟩ ⟨?_,λ r=>?_,λ z hz=>?_⟩
   ·rw [BI] at e3
    obtain ⟨z0,e4,rfl⟩:=CS.mp e3
    have h1:=hA i a q1 z0 (by have:=(BZ.mp e2).1; rw [By]; exact this) e1 e2 e4
    exact ⟨((LA H4).new (o:=.lst (as.map LD)) hd9) _ _ h1,s5 _ _ (s23 _ _ (hU i q1 z0 e2 e4))⟩
   ·rw [CF,show ((λ x:List Int×Int=>x.1)∘λ z=>(z,((bgs rss c).count z:Int)))=id from rfl,IV]; exact hS
   ·rw [CF,show ((λ x:List Int×Int=>x.1)∘λ z=>(z,((bgs rss c).count z:Int)))=id from rfl,IV]; exact hM r
   ·obtain ⟨z0,_,rfl⟩:=BK.mp hz
    rfl
noncomputable def vU (K:BA):Sp:=λ vs H Q _=>∃ (l:Addr) (ps:List Addr) (rss:List (List Nat)) (w b:Nat),vs=[.ref l,.int w]/\H l=some (.lst (ps.map LD))/\RowsT H ps rss/\Good rss w b/\b<=64/\w<=30/\rss.length<=30/\
 ∀ (t:Addr) H',H t=none->Same H H'->H' t=some (.tup [.int (Tot (λ _=>1) rss w),.int (Tot (λ n=>n) rss w)])->Q (.ref t) H'
theorem yg (T:Tx K mg t):FnOk P w K mg base CX0 2 t.v0 t.vY ["_law_rows_here","_law_wide_here"] (vU K):=by
 refine T.yk.okQ sc_due (λ vs H Q E h=>?_) (λ cdv A outer s H vs Q E hr h=>?_)
 ·obtain ⟨l,ps,rss,w,b,rfl,_⟩:=h
  rfl
 ·obtain ⟨l,ps,rss,w,b,rfl,tl,hR,hG,hb,hw30,hn,q⟩:=h
  have hpl:ps.length=rss.length:=hR.1
  have hw:∀ r∈rss,r.length=w:=λ r hr=>(hG r hr).1
  refine ⟨_,(ad (om (bK (aj ae (aj ae aa))) (cU (K:=K) (n:=2) rfl (ao (al (i:=2) sc_due.nd rfl (BN rfl)) (ao (al (i:=3) sc_due.nd rfl (BN rfl)) bi))))
   (ad (bA Cw rfl (bE rfl T.bQ (aj (qv 1) aa)) (al (i:=4) sc_due.nd rfl (Gg rfl)) (ak (bA Cw rfl (bh (K:=K) (au (fg T) (hr.mono (by decide)) rfl T.fM T.dC.kp T.fL aX (aj (qv 0) (aj (qv 4) aa)))) (cU (K:=K) (n:=2) rfl (ao (al (i:=5) sc_due.nd rfl (Gg rfl)) (ao (al (i:=6) sc_due.nd rfl (BN rfl)) bi))) (ad (aA (i:=7) sc_due.nd rfl (BN rfl) (ai vm (by rfl) T.cG bC (aj (aM (vj (K:=K) rfl) (by rfl) T.qk yd (aj (i4 (N:=["_law_row","_law_column","_law_one"]) (tgs:=["_law_row"]) (frs:=["_law_column","_law_one"]) (ix:=[4,5]) ⟨rfl,by decide +kernel,rfl,by decide +kernel,rfl,rfl,⟨⟨rfl,rfl,_,rfl,rfl⟩,⟨rfl,rfl,_,rfl,rfl⟩,Cf⟩,⟨rfl,rfl,Cf⟩,rfl⟩ rfl (bh (K:=K) (qv 0)) (λ _ _ _ _=>(al (i:=0) (by show CZ (["_law_row","_law_column","_law_one"]:List Str); decide +kernel) rfl (BN rfl))) (λ _ _ _ _=>(bI (kC (K:=K)) (qv 0) (qv 1))) (λ _ _ _ _=>(aE (oh (K:=K) hr.units0) (cq lM (qv 0) dw (cL (qv 1))) (qv 2) (az _)))) aa)) aa)))
   (ak (bg (aE oa (qv 7) ae (az _)) (ak (xn rfl sc_due.nd (i:=2) (j:=3) rfl rfl (by decide) rfl rfl (aj (aK cz (qv 2) ae) (aj (aK cz (qv 3) (qv 6)) aa)))) aI))))))
   (ak (av (bK (aj (qv 2) (aj (qv 3) aa))))))),?_⟩
  rw [show L2.start ["_law_rows_here","_law_wide_here","_law_steps","_law_moves","_law_column","_law_one","_law_many_here","_law_further"] [LD l,Lz w]=[some (LD l),some (Lz w),none,none,none,none,none,none] from rfl]
  nofun
  refine ⟨ba (by simp),λ t0 ht0=>?_⟩
  have s0:=(LA H).new (o:=.tup [Lz 0,Lz 0]) ht0
  have tt0:(upd H t0 (.tup [Lz 0,Lz 0])) t0=some (.tup [Lz 0,Lz 0]):=ac
  generalize upd H t0 (.tup [Lz 0,Lz 0])=H0 at s0 tt0
  refine bH tt0 ?_
  nofun
  refine ⟨_,rfl,by lia,by lia,cw (n:=w) (λ i σ H'=>Same H H'/\∃ (v1 v2 v3 v4:Option V),σ=[some (LD l),some (Lz w),some (Lz ((((BC w).map λ k=>((pfx rss k).map λ p=>Wt (λ _=>1) k (bn rss k p)).sum).take i).sum)),some (Lz ((((BC w).map λ k=>((pfx rss k).map λ p=>Wt (λ n=>n) k (bn rss k p)).sum).take i).sum)),v1,v2,v3,v4]) ⟨s0,_,_,_,_,rfl⟩ ?_ ?_⟩
  ·rintro c σ H1 hc ⟨s1,v1,v2,v3,v4,rfl⟩
   rw [bT,bT,if_pos hc,if_pos hc]
   generalize (((BC w).map λ k=>((pfx rss k).map λ p=>Wt (λ _=>1) k (bn rss k p)).sum).take c).sum=nv
   generalize (((BC w).map λ k=>((pfx rss k).map λ p=>Wt (λ n=>n) k (bn rss k p)).sum).take c).sum=mv
   nofun
   have ec0:(0:Int)+((c:Nat):Int)=((c:Nat):Int):=by lia
   rw [ec0]
   refine ⟨l,ps,rss,c,w,rfl,s1 _ _ tl,hR.same s1,hw,by lia,hw30,hn,λ d as qs zs H2 hd s2 td P hB=>?_⟩
   rw [<-gY hw hc hB,<-gY hw hc hB]
   have hzl:=pT hB
   nofun
   refine ⟨d,rfl,⟨_,Lx td⟩,c6 (a:=d) (xs:=as.map LD) (λ i σ H'=>Same H2 H'/\∃ (v2 v3 v4:Option V),σ=[some (LD l),some (Lz w),some (Lz (nv+((zs.map λ z=>Wt (λ _=>1) c (bn rss c (z.1.map EC))).take i).sum)),some (Lz (mv+((zs.map λ z=>Wt (λ n=>n) c (bn rss c (z.1.map EC))).take i).sum)),some (Lz c),v2,v3,v4]) ⟨LA _,v2,v3,v4,by simp⟩ (λ i σ H' _ h=>Lx (h.1 _ _ td)) ?_ ?_⟩
   ·rintro i x σ H3 hx ⟨s3,v2,v3,v4,rfl⟩
    obtain ⟨p,rfl,hp,_,hi⟩:=aS hx
    have hiz:i<zs.length:=by rw [<-P.1]; exact hi
    have hiq:i<qs.length:=by rw [P.2.1]; exact hiz
    have ez:zs[i]? = some zs[i]:=by simp [hiz]
    obtain ⟨tp,tq⟩:=(P.same s3).2.2 i p _ _ hp (Bx hiq) ez
    have tp:H3 p=some (.tup [LD qs[i],Lz zs[i].2]):=tp
    have tq:H3 qs[i]=some (.tup (zs[i].1.map Lz)):=tq
    rw [kb ez,kb ez]
    obtain ⟨r0,hr0,e1,e2⟩:=gp hB zs[i] (BM hiz)
    generalize ((zs.map λ z=>Wt (λ _=>1) c (bn rss c (z.1.map EC))).take i).sum=S1
    generalize ((zs.map λ z=>Wt (λ n=>n) c (bn rss c (z.1.map EC))).take i).sum=S2
    generalize qs[i]=q0 at tp tq
    generalize zs[i]=z at tp tq e1 e2
    obtain ⟨z1,z2⟩:=z
    dsimp only at tp tq e1 e2 ⊢
    subst e1
    rw [cX]
    generalize hpd:r0.take c=pd at *
    refine bH tp ?_
    nofun
    have tl3:=s3 _ _ (s2 _ _ (s1 _ _ tl))
    have R3:=((hR.same s1).same s2).same s3
    refine ⟨l,rfl,⟨_,Lx tl3⟩,jG (a:=l) (vs:=ps.map LD) (λ k ys σ H5=>Same H3 H5/\ys=NV (aW (bn (rss.take k) c pd) c)/\k<=ps.length/\∃ v,σ=[v,some (Lz c),some (LD q0)]) (by rw [By]; exact aB (by lia)) (λ k ys σ H5 h=>by
     rw [h.2.1,aF]
     unfold aW bn
     rw [By]
     refine CM (DQ _ _) ?_
     rw [BV]
     lia) (λ k ys σ H5 h=>Lx (h.1 _ _ tl3)) ⟨LA _,rfl,Ca _,none,rfl⟩ ?_ ?_⟩
    ·rintro k ys σ H5 x hx ⟨s5,rfl,_,v5,rfl⟩
     obtain ⟨b1,rfl,hb1,_,hk⟩:=aS hx
     have hkr:k<rss.length:=by lia
     have er:rss[k]? = some rss[k]:=by simp [hkr]
     have tb:=s5 _ _ (R3.2 k b1 rss[k] hb1 er)
     have hrl:rss[k].length=w:=hw _ (BM _)
     obtain ⟨g1,_⟩:=pR hG er hc
     rw [rW er]
     generalize rss[k]=r at tb hrl g1
     nofun
     refine ⟨_,rfl,b1,_,rfl,tb,λ b2 H6 s6 tb2=>?_⟩
     rw [gG _ _ (by lia),fy] at tb2
     nofun
     refine sQ (Ly tb2) (Ly (s6 _ _ (s5 _ _ tq))) ?_
     nofun
     have hkl:k<(ps.map LD).length:=by rw [By]; exact hk
     refine aJ (λ g=>?_) (λ g=>?_)
     ·nofun
      refine fF (Ly (s6 _ _ tb)) (re rfl g1) ?_
      refine LC hkl ⟨s5.trans s6,?_,hk,_,rfl⟩
      rw [if_pos (dh g)]
      unfold aW
      rw [B4,dW]
      rfl
     ·refine LC hkl ⟨s5.trans s6,?_,hk,_,rfl⟩
      rw [if_neg (λ z=>g (by rw [z])),C9]
    rintro ys σ H5 ⟨s5,rfl,_,v5,rfl⟩ y hy
    rw [By,BF (by lia)]
    have hcl:(aW (bn rss c pd) c).length<=30:=by
     unfold aW bn
     rw [By]
     exact CM (DQ _ _) hn
    have s6:=s5.new (o:=.lst (NV (aW (bn rss c pd) c))) hy
    have ty:(upd H5 y (.lst (NV (aW (bn rss c pd) c)))) y=some (.lst (NV (aW (bn rss c pd) c))):=ac
    generalize upd H5 y (.lst (NV (aW (bn rss c pd) c)))=H6 at s6 ty
    nofun
    refine ⟨y,aL (aW (bn rss c pd) c),rfl,Lx (by rw [ty,fy]),by unfold aL; rw [By]; lia,λ d2 hd2=>?_⟩
    have s7:=s6.new (o:=.set (λ k=>(cN (aL (aW (bn rss c pd) c))).any (· == k)) (cN (aL (aW (bn rss c pd) c))).length) hd2
    have tsd:(upd H6 d2 (.set (λ k=>(cN (aL (aW (bn rss c pd) c))).any (· == k)) (cN (aL (aW (bn rss c pd) c))).length)) d2=some (.set (λ k=>(cN (aL (aW (bn rss c pd) c))).any (· == k)) (cN (aL (aW (bn rss c pd) c))).length):=ac
    generalize upd H6 d2 (.set (λ k=>(cN (aL (aW (bn rss c pd) c))).any (· == k)) (cN (aL (aW (bn rss c pd) c))).length)=H7 at s7 tsd
    nofun
    refine ⟨d2,_,_,rfl,tsd,?_⟩
    have hd:=vT (p:=pd) hG hb hc
    unfold Wt
    nofun
    refine aJ (λ g=>?_) (λ g=>?_)
    ·rw [if_pos (hd.mp (by lia)),if_pos (hd.mp (by lia))]
     nofun
     rw [DK,DK,e2]
     exact ⟨s3.trans s7,_,_,_,rfl⟩
    ·rw [if_neg (λ z=>g (by have:=hd.mpr z; lia)),if_neg (λ z=>g (by have:=hd.mpr z; lia))]
     nofun
     rw [Dz,Dz]
     exact ⟨s3.trans s7,_,_,_,rfl⟩
   ·rintro σ H3 ⟨s3,v2,v3,v4,rfl⟩
    rw [BF (by rw [By,By,P.1]; exact BD _),BF (by rw [By,By,P.1]; exact BD _)]
    exact ⟨(s1.trans s2).trans s3,_,_,_,_,rfl⟩
  ·rintro σ H1 ⟨s1,v1,v2,v3,v4,rfl⟩
   rw [BF (by simp),BF (by simp)]
   nofun
   refine ⟨ba (by simp),λ t ht=>?_⟩
   exact q t _ (s1.free ht) (s1.new ht) ac
theorem El.nat25 {H:Hp} {x:Nat} (h:x<64):El n 6 H (.int (x:Nat)):=by
 refine ⟨_,DatM.leaf (.inr (.inr (.inl ⟨(x:Int),rfl,rfl,by lia⟩))),?_⟩
 rw [HY]
 split
 ·lia
 ·by_cases h0:x=0
  ·subst h0; decide
  ·have h3:x<2 ^ 6:=by lia
   have:=(He h0).mpr h3
   show Nat.log2 x+1<=6
   lia
theorem rX {H:Hp} (h:H a=some (ob lk xs)):H a=some (.lst xs)\/H a=some (.tup xs):=by
 cases lk
 ·exact .inr h
 ·exact .inl h
noncomputable def Few (zss:List (List (List Int×Int))):Prop:=zss.length<=31/\∀ zs∈zss,zs.length<=30/\∀ z∈zs,(∃ r:List Nat,z.1=aL r/\r.length<=30/\∀ x∈r,x<64)/\∃ m:Nat,z.2=m/\m<=30
theorem vV {ok ok':Bool} {H:Hp} {zss:List (List (List Int×Int))} (ha:H a=some (ob ok' (ds.map LD))) (hB:BegsG ok lk H ds zss) (hF:Few zss):El 4 (2 ^ 19) H (.ref a):=by
 refine El.seq (n:=3) (w:=12690) (rX ha) (λ u hu=>?_) (by
  rw [By,hB.1]
  have:=hF.1
  have:(12690+1)*zss.length<=(12690+1)*31:=FT _ this
  lia)
 obtain ⟨d,hd,rfl⟩:=BK.mp hu
 obtain ⟨i,hi,rfl⟩:=Cj hd
 have hi2:i<zss.length:=by rw [<-hB.1]; exact hi
 obtain ⟨as,qs,td,P⟩:=hB.2 i ds[i] zss[i] (Bx hi) (Bx hi2)
 obtain ⟨f1,f2⟩:=hF.2 zss[i] (BM hi2)
 refine El.seq (n:=2) (w:=422) (rX td) (λ u hu=>?_) (by
  rw [By,P.1]
  have:(422+1)*zss[i].length<=(422+1)*30:=FT _ f1
  lia)
 obtain ⟨c,hc,rfl⟩:=BK.mp hu
 obtain ⟨j,hj,rfl⟩:=Cj hc
 have hj2:j<zss[i].length:=by rw [<-P.1]; exact hj
 obtain ⟨ta,tq⟩:=P.2.2 j as[j] (qs[j]'(by rw [P.2.1]; exact hj2)) zss[i][j] (Bx hj) (Bx _) (Bx hj2)
 obtain ⟨⟨r,er,hr,hx⟩,m,em,hm⟩:=f2 zss[i][j] (BM hj2)
 refine El.seq (n:=1) (w:=210) (rX ta) (λ u hu=>?_) (by simp)
 simp only [BS,CD,or_false] at hu
 rcases hu with rfl | rfl
 ·refine El.seq (n:=0) (w:=6) (rX tq) (λ u hu=>?_) (by
   rw [By,er]
   unfold aL
   rw [By]
   lia)
  rw [er] at hu
  unfold aL at hu
  rw [CF] at hu
  obtain ⟨x,hx1,rfl⟩:=BK.mp hu
  exact El.nat25 (hx x hx1)
 ·rw [em]
  obtain ⟨d,h1,h2⟩:=El.nat25 (H:=H) (n:=1) (x:=m) (by lia)
  exact ⟨d,h1,by lia⟩
theorem yh {rss:List (List Nat)} {w:Nat} {zss:List (List (List Int×Int))} (hG:Good rss w b) (hb:b<=64) (hw:w<=30) (hn:rss.length<=30) (hl:zss.length=w+1) (h:∀ c zs,zss[c]? = some zs->Bgs (bgs rss c) zs):Few zss:=by
 refine ⟨by lia,λ zs hz=>?_⟩
 obtain ⟨c,hc,rfl⟩:=Cj hz
 have hB:=h c _ (Bx hc)
 refine ⟨CM (pT hB) hn,λ z hz=>?_⟩
 obtain ⟨r,hr,e1,e2⟩:=gp hB z hz
 obtain ⟨g1,g2⟩:=hG r hr
 refine ⟨⟨r.take c,e1,by rw [BV]; lia,λ x hx=>B5 (g2 x (C5 hx)) hb⟩,_,e2,?_⟩
 exact CM (DQ _ _) hn
theorem PairsG.snoc {H:Hp} {as:List Addr} {zs:List (List Int×Int)} {z:List Int×Int} {q:Addr} (h:PairsG lk H as qs (zs.take i)) (e:zs[i]? = some z) (ha:H a=some (ob lk [.ref q,.int z.2])) (hq:H q=some (ob lk (z.1.map Lz))):PairsG lk H (as++[a]) (qs++[q]) (zs.take (i+1)):=by
 have et:zs.take (i+1)=zs.take i++[z]:=by rw [B3,e]; rfl
 rw [et]
 refine ⟨by simp [h.1],by simp [h.2.1],λ j a' q' z' e1 e2 e3=>?_⟩
 by_cases hj:j<(zs.take i).length
 ·rw [BX (by rw [h.1]; exact hj)] at e1
  rw [BX (by rw [h.2.1]; exact hj)] at e2
  rw [BX hj] at e3
  exact h.2.2 j a' q' z' e1 e2 e3
 ·have hl:=(BZ.mp e3).1
  have hj2:j=(zs.take i).length:=by rw [BO] at hl; simp at hl hj ⊢; lia
  rw [B2 (by rw [h.1]; lia),h.1,hj2] at e1
  rw [B2 (by rw [h.2.1]; lia),h.2.1,hj2] at e2
  rw [B2 (by lia),hj2] at e3
  simp at e1 e2 e3
  rw [<-e1,<-e2,<-e3]
  exact ⟨ha,hq⟩
theorem BegsG.snoc {ok:Bool} {H:Hp} {zss:List (List (List Int×Int))} {zs:List (List Int×Int)} {d:Addr} {as:List Addr} (h:BegsG ok lk H ds (zss.take i)) (e:zss[i]? = some zs) (hd:H d=some (ob ok (as.map LD))) (hP:PairsG lk H as qs zs):BegsG ok lk H (ds++[d]) (zss.take (i+1)):=by
 have et:zss.take (i+1)=zss.take i++[zs]:=by rw [B3,e]; rfl
 rw [et]
 refine ⟨by simp [h.1],λ j d' z' e1 e2=>?_⟩
 by_cases hj:j<(zss.take i).length
 ·rw [BX (by rw [h.1]; exact hj)] at e1
  rw [BX hj] at e2
  exact h.2 j d' z' e1 e2
 ·have hl:=(BZ.mp e2).1
  have hj2:j=(zss.take i).length:=by rw [BO] at hl; simp at hl hj ⊢; lia
  rw [B2 (by rw [h.1]; lia),h.1,hj2] at e1
  rw [B2 (by lia),hj2] at e2
  simp at e1 e2
  rw [<-e1,<-e2]
  exact ⟨as,qs,hd,hP⟩
theorem pU {H:Hp} {p d:Addr} {xs:List Addr} (t:Tp2 H p) (h:H d=some (.lst (xs.map LD))):d≠p:=λ z=>by
 obtain ⟨x,y,e,_⟩:=t
 rw [z,e] at h
 match xs,h with
 | [],h=>cases h
 | a::xs,h=>cases h
theorem rY {H:Hp} {p:Addr} {zss:List (List (List Int×Int))} (h:BegsG true false H ds zss) (t:Tp2 H p) (e:St2 p H H1):BegsG true false H1 ds zss:=⟨h.1,λ i d zs e1 e2=>by
 obtain ⟨as,qs,td,P⟩:=h.2 i d zs e1 e2
 refine ⟨as,qs,e.keep _ _ td (pU t td),P.1,P.2.1,λ j a q z f1 f2 f3=>?_⟩
 obtain ⟨g1,g2⟩:=P.2.2 j a q z f1 f2 f3
 have g1':H a=some (.tup [.ref q,.int z.2]):=g1
 have g2':H q=some (.tup (z.1.map Lz)):=g2
 exact ⟨e.keep _ _ g1 (k6 t g1'),e.keep _ _ g2 (k6 t g2')⟩⟩
theorem rZ {y:Str} {H:Hp} {Q:VK} (h:Q (.bl (!decide (V.str x=V.str y))) H):rNe (.str x) (.str y) H Q:=⟨rfl,h⟩
theorem r9 {rss:List (List Nat)} {C:Nat} {os:List Nat} {st us:List bW} (h:Fst rss C os st us):(∀ s∈us,act C s=true)/\∀ s∈st,s.1<=s.2.1:=by
 have le:∀ s:bW,act C s=true->s.1<=s.2.1:=λ s hs=>by
  unfold act at hs
  simp at hs
  lia
 have fl:∀ {xs:List bW},∀ s∈(xs.filter (act C)).reverse,act C s=true:=λ s hs=>(Cv.mp (Dm.mp hs)).2
 induction h with
 | start=>exact ⟨λ s hs=>(Cv.mp hs).2,λ s hs=>nomatch hs⟩
 | step _ _ _ ih=>
  refine ⟨λ s hs=>?_,λ s hs=>?_⟩
  ·rcases BY.mp hs with g | g
   ·exact ih.1 s (CN _ g)
   ·exact fl s g
  ·rcases BY.mp hs with g | g
   ·exact ih.2 s g
   ·exact le s (ih.1 s (BL _ g))
 | stay _ _ ih=>
  refine ⟨λ s hs=>?_,ih.2⟩
  rcases BY.mp hs with g | g
  ·exact ih.1 s (CN _ g)
  ·exact fl s g
theorem vW {φ:Nat->Int} (w:Nat):Tot φ [] w=0:=by
 unfold Tot
 refine dL λ x hx=>?_
 obtain ⟨k,_,rfl⟩:=BK.mp hx
 refine dL λ x hx=>?_
 obtain ⟨q,_,rfl⟩:=BK.mp hx
 rfl
theorem pV {rss:List (List Nat)} {w:Nat} {os:List Nat} {sts:List bW} (hw:∀ r∈rss,r.length=w) (hb:∀ r∈rss,∀ x∈r,x<64) (h:Fst rss (if rss=[] then 0 else w) os sts []):[Tot (λ _=>1) rss w,Tot (λ n=>n) rss w]=[((sts.length:Nat):Int),(sts.map λ s=>((s.2.1:Int) - (s.1:Int))).sum]:=by
 have key:∀ φ:Nat->Int,Sw φ sts=Tot φ rss w:=λ φ=>by
  by_cases e:rss=[]
  ·rw [if_pos e] at h
   rw [Fst.total hw (Ca w) hb h,e,vW]
   rfl
  ·rw [if_neg e] at h
   exact Fst.total hw (BD w) hb h
 rw [<-key,<-key]
 unfold Sw
 congr 1
 ·rw [List.map_const',List.sum_replicate_int]; simp
 ·congr 2
  refine Cq λ s hs=>?_
  have:=(r9 h).2 s hs
  show ((s.2.1 - s.1:Nat):Int)=_
  lia
noncomputable def pW:Sp:=λ vs H Q _=>∃ (p:Addr) (k:Int),vs=[.ref p,.int k]/\Tp2 H p/\∀ H',St2 p H H'->Q (.bl true) H'
theorem tF {x:Nat}:∃ v:Nat,(if (x:Int)<30 then (x:Int) else 30)=v/\v<=30/\v<=x:=⟨min x 30,by split<;>lia,by lia,by lia⟩
theorem sd (T:Tx K mg t):FnOk P w K mg base CX0 6 t.lh t.lg ["_law_tape_here","_law_k"] pW:=by
 refine T.pX.okQ sc_right (λ vs H Q E h=>?_) (λ cdv A outer s H vs Q E hr h=>?_)
 ·obtain ⟨p,k,rfl,_⟩:=h
  rfl
 ·obtain ⟨p,kk,rfl,hT,k⟩:=h
  refine ⟨_,(ad (aA (i:=2) sc_right.nd rfl (BN rfl) (au (vJ T) (hr.mono (by decide)) rfl T.yq T.tH.kp T.yl aX (aj (qv 0) aa)))
   (ad (aA (i:=3) sc_right.nd rfl (BN rfl) (ai (og rfl) (by rfl) T.m9 pP (aj ae (aj (au (vL T) (hr.mono (by decide)) rfl T.yw T.tN.kp T.yp aX (aj (qv 0) aa)) aa))))
   (ad (aA (i:=4) sc_right.nd rfl (Gg rfl) (au (vO T) (hr.mono (by decide)) rfl T.yt T.tL.kp T.yn aX (aj (qv 0) (aj (ai (og rfl) (by rfl) T.m9 pP (aj ae (aj (au (vH T) (hr.mono (by decide)) rfl T.yr T.tK.kp T.ym aX (aj (qv 0) (aj (qv 1) aa))) aa))) (aj (qv 2) (aj (qv 3) aa))))))
   (ad (kD (i:=5) (N:=["_law_column","_law_rows_here"]) (tgs:=["_law_column"]) (frs:=["_law_rows_here"]) (ix:=[4])  sc_right.nd rfl (BN rfl) ⟨rfl,by decide +kernel,rfl,by decide +kernel,rfl,rfl,⟨⟨rfl,rfl,_,rfl,rfl⟩,Cf⟩,⟨rfl,Cf⟩,rfl⟩ rfl (bE rfl T.bQ (aj (aK cz (qv 3) ae) aa)) (λ _ _ _ _=>(al (i:=0) (by show CZ (["_law_column","_law_rows_here"]:List Str); decide +kernel) rfl (BN rfl))) (λ _ _ _ _=>(au (fg T) (hr.mono (by decide)) rfl T.fM T.dC.kp T.fL aX (aj (qv 1) (aj (qv 0) aa)))))
   (ad (bg (aE kj (au (bz T) (hr.mono (by decide)) rfl T.cE T.cm.kp T.cD aX (aj (qv 0) (aj ae aa))) ae (az _)) (ak (kD (i:=5) (N:=["_law_row"]) (tgs:=["_law_row"]) (frs:=[]) (ix:=[])  sc_right.nd rfl (BN rfl) ⟨rfl,by decide +kernel,rfl,by decide +kernel,rfl,rfl,Cf,Cf,rfl⟩ rfl (bh (K:=K) (qv 5)) (λ _ _ _ _=>(al (i:=0) (by show CZ (["_law_row"]:List Str); decide +kernel) rfl (BN rfl))) (λ _ _ _ _=>(cM (N:=["_law_one","_law_many_here"]) (tgs:=["_law_one","_law_many_here"]) (frs:=[]) (ix:=[]) ⟨rfl,by decide +kernel,rfl,by decide +kernel,rfl,rfl,Cf,Cf,rfl⟩ rfl (bh (K:=K) (qv 0)) (λ _ _ _ _=>(cU (K:=K) (n:=2) rfl (ao (al (i:=0) (by show CZ (["_law_one","_law_many_here"]:List Str); decide +kernel) rfl (BN rfl)) (ao (al (i:=1) (by show CZ (["_law_one","_law_many_here"]:List Str); decide +kernel) rfl (BN rfl)) bi)))) (λ _ _ _ _=>(cT (aj (aM (uM (K:=K)) (by rfl) T.cZ df (aj (qv 0) aa)) (aj (qv 1) aa)))))))) aI)
   (ad (aA (i:=6) sc_right.nd rfl (BN rfl) (au (yg T) (hr.mono (by decide)) rfl T.Ao T.yk.kp T.An aX (aj (qv 4) (aj (qv 3) aa))))
   (ad (aA (i:=7) sc_right.nd rfl (BN rfl) (aM (pi hr.gd hr.units) (by rfl) T.fD dP (aj (qv 5) aa)))
   (ad (bA Cw rfl (ik (K:=K) (bK (aj (qv 5) (aj (aM (bG (K:=K)) (by rfl) T.aU aN (aj (cM (N:=["_law_row"]) (tgs:=["_law_row"]) (frs:=[]) (ix:=[]) ⟨rfl,by decide +kernel,rfl,by decide +kernel,rfl,rfl,Cf,Cf,rfl⟩ rfl (bh (K:=K) (qv 5)) (λ _ _ _ _=>(al (i:=0) (by show CZ (["_law_row"]:List Str); decide +kernel) rfl (BN rfl))) (λ _ _ _ _=>(aM (bG (K:=K)) (by rfl) T.aU aN (aj (qv 0) aa)))) aa)) (aj (qv 5) aa))))) (al (i:=8) sc_right.nd rfl (BN rfl)) (ak (bg (QW.qt (qT (lx (cy (au (vP T) (hr.mono (by decide)) rfl T.qh T.kc.kp T.pY aX (aj (au (fx T) (hr.mono (by decide)) rfl T.fR T.dm.kp T.fQ aX (aj (qv 8) aa)) (aj (qv 6) aa))))) (ly (aE xp (aM (pi hr.gd hr.units) (by rfl) T.fD dP (aj (qv 5) aa)) (qv 7) (az _))))) (ak (av n8)) aI)))
   (ad (aA (i:=9) sc_right.nd rfl (BN rfl) (bI (kC (K:=K)) (au (jm T) (hr.mono (by decide)) rfl T.kg T.fK.kp T.kd aX (aj (qv 4) (aj (qv 2) aa))) ae))
   (ak (av (aR (oh (K:=K) hr.units0) (qv 6) (bK (aj (ai (bF (K:=K)) (by rfl) T.cG bC (aj (qv 9) aa)) (aj (ai (xu (K:=K) rfl) (by rfl) T.si ye (aj (cM (N:=["_law_first","_law_last","_law_column"]) (tgs:=["_law_first","_law_last","_law_column"]) (frs:=[]) (ix:=[]) ⟨rfl,by decide +kernel,rfl,by decide +kernel,rfl,rfl,Cf,Cf,rfl⟩ rfl (bh (K:=K) (qv 9)) (λ _ _ _ _=>(cU (K:=K) (n:=3) rfl (ao (al (i:=0) (by show CZ (["_law_first","_law_last","_law_column"]:List Str); decide +kernel) rfl (BN rfl)) (ao (al (i:=1) (by show CZ (["_law_first","_law_last","_law_column"]:List Str); decide +kernel) rfl (BN rfl)) (ao (al (i:=2) (by show CZ (["_law_first","_law_last","_law_column"]:List Str); decide +kernel) rfl (BN rfl)) bi))))) (λ _ _ _ _=>(aK kB (qv 1) (qv 0)))) aa)) aa))) (az _))))))))))))),?_⟩
  rw [show L2.start ["_law_tape_here","_law_k","_law_base_here","_law_wide_here","_law_rows_here","_law_lists","_law_due_here","_law_ahead","_law_some","_law_steps"] [LD p,Lz kk]=[some (LD p),some (Lz kk),none,none,none,none,none,none,none,none] from rfl]
  nofun
  refine ⟨p,rfl,hT,λ b H1 hb hb2 S1=>?_⟩
  nofun
  refine ⟨p,rfl,S1.tape,λ w0 H2 hw0 hw2 S2=>?_⟩
  obtain ⟨w,ew,hw30,_⟩:=tF (x:=w0)
  nofun
  refine ⟨p,_,rfl,S2.tape,λ n0 H3 hn0 S3=>?_⟩
  obtain ⟨n,en,hn30,_⟩:=tF (x:=n0)
  nofun
  try rw [ew,en]
  refine ⟨p,n,b,w,rfl,S3.tape,by lia,hb,hb2,by lia,λ l ps rss H4 hl0 tl hR hrl hG hlp S4=>?_⟩
  have S04:=(((S1.trans S2).trans S3).trans S4)
  have T4:=S4.tape
  have hw:∀ r∈rss,r.length=w:=λ r hr=>(hG r hr).1
  clear S1 S2 S3 S4
  nofun
  have eW:((w:Nat):Int)+1=((w+1:Nat):Int):=by lia
  try rw [ew]
  rw [eW]
  refine ⟨_,rfl,by lia,by lia,lB (n:=w+1) (λ i ys σ H'=>Same H4 H'/\(∃ (qs:List Addr) (zss:List (List (List Int×Int))),ys=qs.map LD/\qs.length=i/\BegsG true false H' qs zss/\∀ (c:Nat) zs,zss[c]? = some zs->Bgs (bgs rss c) zs)/\∃ v,σ=[v,some (LD l)]) (aB (by lia)) (λ i ys σ H' h=>by obtain ⟨_,⟨qs,zss,rfl,e,_⟩,_⟩:=h; rw [By,e]) ⟨LA _,⟨[],[],rfl,rfl,⟨rfl,λ i d zs h=>by simp at h⟩,λ c zs h=>by simp at h⟩,none,rfl⟩ ?_ ?_⟩
  ·rintro c ys σ H5 hc ⟨s1,⟨qs,zss,rfl,hql,hB,hz⟩,v,rfl⟩
   rw [FQ]
   nofun
   refine ⟨l,ps,rss,c,w,rfl,s1 _ _ tl,hR.same s1,hw,by lia,by lia,by lia,λ d as qs' zs H6 hd s2 td hP hb'=>?_⟩
   refine LC hc ⟨s1.trans s2,⟨qs++[d],zss++[zs],by rw [B4]; rfl,by simp [hql],⟨by simp [hB.1],λ i d' z' e1 e2=>?_⟩,λ c' z' e2=>?_⟩,_,rfl⟩
   ·rcases bR e1 with ⟨l,e1⟩ | ⟨l,e1⟩
    ·rcases bR e2 with ⟨_,e2⟩ | ⟨l',e2⟩
     ·exact (hB.same s2).2 i d' z' e1 e2
     ·have:=hB.1; lia
    ·rcases bR e2 with ⟨l',e2⟩ | ⟨_,e2⟩
     ·have:=hB.1; lia
     ·rw [e1,e2]; exact ⟨as,qs',td,hP⟩
   ·rcases bR e2 with ⟨_,e2⟩ | ⟨l',e2⟩
    ·exact hz c' z' e2
    ·have h1:=hB.1
     have:c'=c:=by lia
     rw [this,e2]; exact hb'
  rintro ys σ H5 ⟨s5,⟨ds,zss,rfl,hdl,hB,hz⟩,v,rfl⟩ d hd
  have hzl:zss.length=w+1:=by rw [<-hB.1,hdl]
  have hF:Few zss:=yh hG hb2 hw30 (by lia) hzl hz
  have f1:dQ (λ _=>1) zss=Tot (λ _=>1) rss w:=ka hw hzl hz
  have f2:dQ id zss=Tot (λ n=>n) rss w:=ka hw hzl hz
  have s6:=s5.new (o:=.lst (ds.map LD)) hd
  have B6:=hB.same ((LA H5).new (o:=.lst (ds.map LD)) hd)
  have td:(upd H5 d (.lst (ds.map LD))) d=some (.lst (ds.map LD)):=ac
  generalize upd H5 d (.lst (ds.map LD))=H6 at s6 B6 td
  have T6:=T4.same s6
  have tl6:=s6 _ _ tl
  have R6:=hR.same s6
  clear hB s5
  nofun
  refine ⟨p,3,rfl,T6,by decide,by decide,λ r3 H7 _ S7=>?_⟩
  have tl7:=S7.keep _ _ tl6 (pU T6 tl6)
  have R7:=R6.st2 T6 S7
  have td7:=S7.keep _ _ td (pU T6 td)
  have B7:=rY B6 T6 S7
  have S07:St2 p H H7:=⟨λ q o e n=>S7.keep q o (s6 _ _ (S04.keep q o e n)) n,S7.tape⟩
  clear S7 B6 td R6 tl6 T6 s6 S04 T4 hR tl
  nofun
  apply AR (α:=Addr) (S:=λ d H'=>Same H7 H'/\∃ (lk:Bool) (ds:List Addr),H' d=some (.lst (ds.map LD))/\BegsG true lk H' ds zss)
  case hA=>
   intro key
   refine aJ (λ g2=>?_) (λ g2=>?_)
   ·nofun
    refine ⟨d,rfl,⟨_,Lx td7⟩,cI (a:=d) (vs:=ds.map LD) (λ i ys σ H8=>Same H7 H8/\(∃ es:List Addr,ys=es.map LD/\es.length=i/\i<=ds.length/\BegsG true true H8 es (zss.take i))/\∃ v,σ=[v]) (by rw [By,hdl]; exact aB (by lia)) (λ i ys σ H8 h=>by obtain ⟨_,⟨es,rfl,e,_⟩,_⟩:=h; rw [By,e]) (λ i ys σ H8 h=>Lx (h.1 _ _ td7)) ⟨LA _,⟨[],rfl,rfl,Ca _,rfl,λ i d zs h=>by simp at h⟩,none,rfl⟩ ?_ ?_⟩
    ·rintro i ys σ H8 x hx ⟨s8,⟨es,rfl,hel,_,hE⟩,v',rfl⟩
     obtain ⟨d1,rfl,hd1,_,hi⟩:=aS hx
     have hiz:i<zss.length:=by rw [<-B7.1]; exact hi
     have ez:zss[i]? = some zss[i]:=by simp [hiz]
     obtain ⟨as,qs,td1,P⟩:=(B7.same s8).2 i d1 _ hd1 ez
     have td1:H8 d1=some (.lst (as.map LD)):=td1
     have hzf:=(hF.2 zss[i] (BM hiz)).1
     generalize zss[i]=zs at ez P hzf
     nofun
     refine ⟨d1,rfl,⟨_,Lx td1⟩,cI (a:=d1) (vs:=as.map LD) (λ j ys σ H9=>Same H8 H9/\(∃ as' qs':List Addr,ys=as'.map LD/\as'.length=j/\j<=as.length/\PairsG true H9 as' qs' (zs.take j))/\∃ v u,σ=[v,u]) (by rw [By,P.1]; exact aB (by lia)) (λ j ys σ H9 h=>by obtain ⟨_,⟨as',qs',rfl,e,_⟩,_⟩:=h; rw [By,e]) (λ j ys σ H9 h=>Lx (h.1 _ _ td1)) ⟨LA _,⟨[],[],rfl,rfl,Ca _,rfl,rfl,λ i a q z h=>by simp at h⟩,none,none,rfl⟩ ?_ ?_⟩
     ·rintro j ys σ H9 x hx ⟨s9,⟨as',qs',rfl,hal,_,hA⟩,v1,v2,rfl⟩
      obtain ⟨a1,rfl,ha1,_,hj⟩:=aS hx
      have hjz:j<zs.length:=by rw [<-P.1]; exact hj
      have hjq:j<qs.length:=by rw [P.2.1]; exact hjz
      have ezz:zs[j]? = some zs[j]:=by simp [hjz]
      obtain ⟨ta,tq⟩:=(P.same s9).2.2 j a1 _ _ ha1 (Bx hjq) ezz
      have ta:H9 a1=some (.tup [LD qs[j],Lz zs[j].2]):=ta
      have tq:H9 qs[j]=some (.tup (zs[j].1.map Lz)):=tq
      generalize qs[j]=q at ta tq
      generalize zs[j]=z at ta tq ezz
      refine bH ta ?_
      nofun
      refine n6 (.inr (Ly tq)) λ l1 hl1=>?_
      have sA:=(LA H9).new (o:=.lst (z.1.map Lz)) hl1
      have tl1:(upd H9 l1 (.lst (z.1.map Lz))) l1=some (.lst (z.1.map Lz)):=ac
      generalize upd H9 l1 (.lst (z.1.map Lz))=HA at sA tl1
      nofun
      refine ⟨ba (by simp),λ l2 hl2=>?_⟩
      have sB:=(LA HA).new (o:=.lst [LD l1,Lz z.2]) hl2
      have tl2:(upd HA l2 (.lst [LD l1,Lz z.2])) l2=some (.lst [LD l1,Lz z.2]):=ac
      generalize upd HA l2 (.lst [LD l1,Lz z.2])=HB at sB tl2
      refine LC (by rw [By]; exact hj) ⟨s9.trans (sA.trans sB),⟨as'++[l2],qs'++[l1],by rw [B4]; rfl,by simp [hal],hj,?_⟩,_,_,rfl⟩
      exact (hA.same (sA.trans sB)).snoc ezz tl2 (sB _ _ tl1)
     ·rintro ys σ H9 ⟨s9,⟨as',qs',rfl,hal,_,hA⟩,v1,v2,rfl⟩ e1 he1
      rw [By] at hal hA
      rw [BF (by rw [P.1]; exact BD _)] at hA
      have sA:=(LA H9).new (o:=.lst (as'.map LD)) he1
      have te1:(upd H9 e1 (.lst (as'.map LD))) e1=some (.lst (as'.map LD)):=ac
      generalize upd H9 e1 (.lst (as'.map LD))=HA at sA te1
      refine LC (by rw [By]; exact hi) ⟨s8.trans (s9.trans sA),⟨es++[e1],by rw [B4]; rfl,by simp [hel],hi,?_⟩,_,rfl⟩
      exact (hE.same (s9.trans sA)).snoc ez te1 (hA.same sA)
    ·rintro ys σ H8 ⟨s8,⟨es,rfl,hel,_,hE⟩,v',rfl⟩ f hf
     rw [By] at hel hE
     rw [BF (by rw [B7.1]; exact BD _)] at hE
     have s9:=s8.new (o:=.lst (es.map LD)) hf
     have E9:=hE.same ((LA H8).new (o:=.lst (es.map LD)) hf)
     have tf:(upd H8 f (.lst (es.map LD))) f=some (.lst (es.map LD)):=ac
     generalize upd H8 f (.lst (es.map LD))=H9 at s9 E9 tf
     nofun
     exact key f H9 ⟨s9,true,es,tf,E9⟩
   ·nofun
    exact key d H7 ⟨LA _,false,ds,td7,B7⟩
  rintro dd H8 ⟨s8,lk,es,tdd,E8⟩
  have tl8:=s8 _ _ tl7
  have R8:=R7.same s8
  clear B7 td7
  nofun
  try rw [ew]
  refine ⟨l,ps,rss,w,b,rfl,tl8,R8,hG,hb2,hw30,by lia,λ du H9 hdu s9 tdu=>?_⟩
  have E9:=E8.same s9
  have tdd9:=s9 _ _ tdd
  obtain ⟨D,hDm,hDw⟩:=vV (ok':=true) (a:=dd) tdd9 E9 hF
  nofun
  refine pj hDm (by decide) hDw ?_
  nofun
  have hzf31:=hF.1
  refine ⟨dd,rfl,⟨_,Lx tdd9⟩,cI (a:=dd) (vs:=es.map LD) (λ i ys σ HA=>Same H9 HA/\(∃ us:List Addr,ys=us.map LD/\us.length=i/\i<=es.length/\BegsG false lk HA us (zss.take i))/\∃ v,σ=[v]) (by rw [By,E9.1]; exact aB (by lia)) (λ i ys σ HA h=>by obtain ⟨_,⟨us,rfl,e,_⟩,_⟩:=h; rw [By,e]) (λ i ys σ HA h=>Lx (h.1 _ _ tdd9)) ⟨LA _,⟨[],rfl,rfl,Ca _,rfl,λ i d zs h=>by simp at h⟩,none,rfl⟩ ?_ ?_⟩
  ·rintro i ys σ HA x hx ⟨sA,⟨us,rfl,hul,_,hU⟩,v',rfl⟩
   obtain ⟨d1,rfl,hd1,_,hi⟩:=aS hx
   have hiz:i<zss.length:=by rw [<-E9.1]; exact hi
   have ez:zss[i]? = some zss[i]:=by simp [hiz]
   obtain ⟨as,qs,td1,P⟩:=(E9.same sA).2 i d1 _ hd1 ez
   have td1:HA d1=some (.lst (as.map LD)):=td1
   nofun
   refine cx (Lx td1) λ l2 hl2=>?_
   have sB:=(LA HA).new (o:=.tup (as.map LD)) hl2
   have tl2:(upd HA l2 (.tup (as.map LD))) l2=some (.tup (as.map LD)):=ac
   generalize upd HA l2 (.tup (as.map LD))=HB at sB tl2
   refine LC (by rw [By]; exact hi) ⟨sA.trans sB,⟨us++[l2],by rw [B4]; rfl,by simp [hul],hi,?_⟩,_,rfl⟩
   exact (hU.same sB).snoc ez tl2 (P.same sB)
  rintro ys σ HA ⟨sA,⟨us,rfl,hul,_,hU⟩,v',rfl⟩ y hy
  rw [By] at hul hU
  rw [BF (by rw [E9.1]; exact BD _)] at hU
  have sB:=sA.new (o:=.lst (us.map LD)) hy
  have UB:=hU.same ((LA HA).new (o:=.lst (us.map LD)) hy)
  have ty:(upd HA y (.lst (us.map LD))) y=some (.lst (us.map LD)):=ac
  generalize upd HA y (.lst (us.map LD))=HB at sB UB ty
  nofun
  refine cx (Lx ty) λ tt htt=>?_
  have sC:=sB.new (o:=.tup (us.map LD)) htt
  have UC:=UB.same ((LA HB).new (o:=.tup (us.map LD)) htt)
  have ttt:(upd HB tt (.tup (us.map LD))) tt=some (.tup (us.map LD)):=ac
  generalize upd HB tt (.tup (us.map LD))=HC at sC UC ttt
  nofun
  refine ⟨ba (by simp),λ tp htp=>?_⟩
  have sD:=sC.new (o:=.tup [LD dd,LD tt,LD dd]) htp
  have sCD:=(LA HC).new (o:=.tup [LD dd,LD tt,LD dd]) htp
  have ttp:(upd HC tp (.tup [LD dd,LD tt,LD dd])) tp=some (.tup [LD dd,LD tt,LD dd]):=ac
  generalize upd HC tp (.tup [LD dd,LD tt,LD dd])=HD at sD sCD ttp
  have tddD:=sD _ _ tdd9
  have ED:=E9.same sD
  have UD:=UC.same sCD
  have tttD:=sCD _ _ ttt
  have tduD:=sD _ _ tdu
  have s7D:=(s8.trans s9).trans sD
  clear UC UB hU sC sB sA ttt ty E9 tdd9 E8 tdd s9
  nofun
  refine ⟨tp,rfl,⟨_,Ly ttp⟩,gs (a:=tp) (xs:=[LD dd,LD tt,LD dd]) (λ i σ H'=>Same HD H'/\∃ v3 v4,σ=[some (LD p),some (Lz kk),some (Lz b),some (Lz w),some (LD l),some (LD dd),some (LD du),some (V.str D.shown),v3,v4]) ⟨LA _,_,_,by first | rfl | rw [ew]⟩ (λ i σ H' _ h=>Ly (h.1 _ _ ttp)) ?_ ?_⟩
  ·rintro i x σ HE hx ⟨sE,v3,v4,rfl⟩
   have hx':∃ (ok:Bool) (e:Addr) (qs:List Addr),x=.ref e/\HE e=some (ob ok (qs.map LD))/\BegsG ok lk HE qs zss:=by
    have hm:=Ch hx
    simp only [BS,CD,or_false] at hm
    rcases hm with rfl | rfl | rfl
    ·exact ⟨true,dd,es,rfl,sE _ _ tddD,ED.same sE⟩
    ·exact ⟨false,tt,us,rfl,sE _ _ tttD,UD.same sE⟩
    ·exact ⟨true,dd,es,rfl,sE _ _ tddD,ED.same sE⟩
   obtain ⟨ok,e,qs,rfl,he,BE⟩:=hx'
   nofun
   refine ⟨ok,lk,e,qs,zss,rfl,he,BE,by lia,by lia,λ zs hz=>⟨by have:=(hF.2 zs hz).1; lia,λ z hzm=>?_⟩,λ f HF sF tf=>?_⟩
   ·obtain ⟨r,e1,e2,_⟩:=((hF.2 zs hz).2 z hzm).1
    rw [e1]
    unfold aL
    rw [By]
    lia
   rw [f1,f2] at tf
   have sDF:=sE.trans sF
   nofun
   refine ⟨_,_,rfl,SmAt.pair tf (sDF _ _ tduD) (SmAt.int 3 _) (SmAt.int 3 _),λ HG sG=>?_⟩
   have sDG:=sDF.trans sG
   nofun
   refine pj ((hDm.same sD).same sDG) (by decide) hDw ?_
   nofun
   refine rZ ?_
   rw [decide_eq_true rfl]
   nofun
   exact ⟨sDG,_,_,rfl⟩
  ·rintro σ HE ⟨sE,v3,v4,rfl⟩
   nofun
   have s7E:=s7D.trans sE
   refine ⟨l,ps,rss,w,b,rfl,s7E _ _ tl7,(R7.same s7E).toS,hG,by lia,by lia,hb2,λ t o st zs os sts HF hFst hsl tt' to hP hS tst hTr hos ht0 ho0 hst0 sF=>?_⟩
   have tlF:=sF _ _ (s7E _ _ tl7)
   refine fF (Ly tt') (v:=LD st) rfl ?_
   nofun
   refine bL (Lx tst) ?_
   rw [By,hTr.1]
   nofun
   have hzl2:zs.length=sts.length:=hTr.1
   refine ⟨st,rfl,⟨_,Lx tst⟩,cI (a:=st) (vs:=zs.map LD) (λ i ys σ HG=>HG=HF/\ys=((sts.map λ s=>((s.2.1:Int) - (s.1:Int))).take i).map Lz/\i<=zs.length/\∃ v1 v2 v3,σ=[v1,v2,v3]) (by rw [By]; exact aB (by lia)) (λ i ys σ HG h=>by rw [h.2.1,By,BV,By]; lia) (λ i ys σ HG h=>by rw [h.1]; exact Lx tst) ⟨rfl,rfl,Ca _,none,none,none,rfl⟩ ?_ ?_⟩
   ·rintro i ys σ HG x hx ⟨rfl,rfl,_,v1,v2,v3,rfl⟩
    obtain ⟨a1,rfl,ha1,_,hi⟩:=aS hx
    have his:i<sts.length:=by lia
    have es:sts[i]? = some sts[i]:=by simp [his]
    have ta:=hTr.2 i a1 _ ha1 es
    rw [B3,BI,es,B4]
    generalize sts[i]=s at ta
    refine lI ta ?_
    nofun
    exact LC (by rw [By]; exact hi) ⟨rfl,rfl,hi,_,_,_,rfl⟩
   rintro ys σ HG ⟨rfl,rfl,_,v1,v2,v3,rfl⟩ z hz
   rw [By,BF (by rw [By]; lia)]
   have sH:=(LA HG).new (o:=.lst ((sts.map λ s=>((s.2.1:Int) - (s.1:Int))).map Lz)) hz
   have tz:(upd HG z (.lst ((sts.map λ s=>((s.2.1:Int) - (s.1:Int))).map Lz))) z=some (.lst ((sts.map λ s=>((s.2.1:Int) - (s.1:Int))).map Lz)):=ac
   generalize upd HG z (.lst ((sts.map λ s=>((s.2.1:Int) - (s.1:Int))).map Lz))=HH at sH tz
   nofun
   refine xm (Lx tz) ?_
   nofun
   refine ⟨ba (by simp),λ t2 ht2=>?_⟩
   have tduH:=sH _ _ (sF _ _ (sE _ _ tduD))
   have hb64:∀ r∈rss,∀ x∈r,x<64:=λ r hr x hx=>B5 ((hG r hr).2 x hx) hb2
   refine sQ (ns:=[Tot (λ _=>1) rss w,Tot (λ n=>n) rss w]) (ms:=[((sts.length:Nat):Int),(sts.map λ s=>((s.2.1:Int) - (s.1:Int))).sum]) (Ly (((LA HH).new ht2) _ _ tduH)) (Ly ac) ?_
   rw [decide_eq_true (pV hw hb64 hFst)]
   exact k _ ⟨λ q o e n=>((((s7E.trans sF).trans sH).new ht2)) _ _ (S07.keep q o e n),S07.tape.same (((s7E.trans sF).trans sH).new ht2)⟩
noncomputable def se (K:BA):Sp:=λ vs H Q _=>∃ (a:Addr) (ns:List Int),vs=[.ref a]/\SqL K H a (ns.map Lz)/\ns.length<=63/\∀ H',Q (.bl true) H'
theorem yi (T:Tx K mg t):FnOk P w K mg base CX0 7 t.wa t.vZ ["_law_script"] (se K):=by
 refine T.Am.okQ sc_law (λ vs H Q E h=>?_) (λ cdv A outer s H vs Q E hr h=>?_)
 ·obtain ⟨a,ns,rfl,_⟩:=h
  rfl
 ·obtain ⟨a,ns,rfl,hS,hlen,k⟩:=h
  refine ⟨_,(ad (bA Cw rfl (bE rfl T.bQ (aj (ai (xt rfl) (by rfl) T.sf yc (aj ae (aj (ai (og rfl) (by rfl) T.m9 pP (aj (ai (bF (K:=K)) (by rfl) T.cG bC (aj (qv 0) aa)) (aj ae aa))) aa))) aa)) (al (i:=1) sc_law.nd rfl (BN rfl)) (ak (bg (lx (cy (au (sd T) (hr.mono (by decide)) rfl T.wb T.pX.kp T.vX aX (aj (au (vF T) (hr.mono (by decide)) rfl T.yu T.tM.kp T.yo aX (aj (qv 0) (aj (qv 1) aa))) (aj (qv 1) aa))))) (ak (av n8)) aI)))
   (ak (av n8))),?_⟩
  rw [show L2.start ["_law_script","_law_k"] [LD a]=[some (LD a),none] from rfl]
  nofun
  refine bL hS ?_
  nofun
  have hml:(HL Lz ns).length=ns.length:=By ..
  refine ⟨_,rfl,by (repeat' split)<;>lia,by (repeat' split)<;>lia,cw (λ i σ H'=>Same H H'/\∃ v1,σ=[some (LD a),v1]) ⟨LA _,_,rfl⟩ ?_ ?_⟩
  ·rintro i σ H' hi ⟨sm,v1,rfl⟩
   nofun
   refine ⟨a,ns,_,rfl,sm.seq hS,by lia,λ p H1 hp0 same T1=>?_⟩
   have hpn:H p=none:=sm.free hp0
   nofun
   refine ⟨p,_,rfl,T1,λ H2 S2=>?_⟩
   nofun
   exact ⟨λ c u e=>S2.keep c u (same c u (sm c u e)) (ap e hpn),_,rfl⟩
  ·rintro σ H' ⟨sm,v1,rfl⟩
   nofun
   exact k _
end
theorem tG {α:Type} {P:List α->Prop} (h:∀ x0:α,P [x0]):∀ us:List α,us.length=1->P us
 | [x0],_=>h x0
theorem qm {α:Type} {P:List α->Prop} (h:∀ x0 x1:α,P [x0,x1]):∀ us:List α,us.length=2->P us
 | [x0,x1],_=>h x0 x1
theorem Bp {α:Type} {P:List α->Prop} (h:∀ x0 x1 x2:α,P [x0,x1,x2]):∀ us:List α,us.length=3->P us
 | [x0,x1,x2],_=>h x0 x1 x2
theorem Bq {α:Type} {P:List α->Prop} (h:∀ x0 x1 x2 x3:α,P [x0,x1,x2,x3]):∀ us:List α,us.length=4->P us
 | [x0,x1,x2,x3],_=>h x0 x1 x2 x3
theorem yj {l:G8} {w:World} {K:BA} {mg:Str->Option Value} {fa f0 f1 f2 f3 f4 f5 f6 f7 f8 f9 f10 f11 f12 f13 f14 f15 f16 f17 f18 f19:Addr} {d0 d1 d2 d3 d4 d5 d6 d7 d8 d9 d10 d11 d12 d13 d14 d15 d16 d17 d18:FuncData} (X:K.In h) (G:h.Ns mainGlobals mg) (hfa:mg "law" = some (.ref fa))
  (a0:Cc K mainGlobals "counts" = some (some (.ref f0))) (F0:Fun K "counts" "counts" jk f0 d0)
  (a1:Cc K mainGlobals "begins" = some (some (.ref f1))) (F1:Fun K "begins" "begins" jl f1 d1)
  (a2:Cc K mainGlobals "many_columns" = some (some (.ref f2))) (F2:Fun K "many_columns" "many_columns" cP f2 d2)
  (a3:Cc K mainGlobals "is_parted" = some (some (.ref f3))) (F3:Fun K "is_parted" "is_parted" ef f3 d3)
  (a4:Cc K mainGlobals "order_by_figure" = some (some (.ref f4))) (F4:Fun K "order_by_figure" "order_by_figure" bN f4 d4)
  (a5:Cc K mainGlobals "parts_of" = some (some (.ref f5))) (F5:Fun K "parts_of" "parts_of" fw f5 d5)
  (a6:Cc K mainGlobals "from_first" = some (some (.ref f6))) (F6:Fun K "from_first" "from_first" dA f6 d6)
  (a7:Cc K mainGlobals "many_goings_on" = some (some (.ref f7))) (F7:Fun K "many_goings_on" "many_goings_on" bY f7 d7)
  (a8:Cc K mainGlobals "ahead_of_first" = some (some (.ref f8))) (F8:Fun K "ahead_of_first" "ahead_of_first" bZ f8 d8)
  (a9:Cc K mainGlobals "_law_tape" = some (some (.ref f9))) (F9:Fun K "_law_tape" "_law_tape" pI f9 d9)
  (a10:Cc K mainGlobals "_law_draw" = some (some (.ref f10))) (F10:Fun K "_law_draw" "_law_draw" pJ f10 d10)
  (a11:Cc K mainGlobals "_law_many" = some (some (.ref f11))) (F11:Fun K "_law_many" "_law_many" pK f11 d11)
  (a12:Cc K mainGlobals "_law_base" = some (some (.ref f12))) (F12:Fun K "_law_base" "_law_base" pL f12 d12)
  (a13:Cc K mainGlobals "_law_rows" = some (some (.ref f13))) (F13:Fun K "_law_rows" "_law_rows" pM f13 d13)
  (a14:Cc K mainGlobals "_law_wide" = some (some (.ref f14))) (F14:Fun K "_law_wide" "_law_wide" pN f14 d14)
  (a15:Cc K mainGlobals "_law_same" = some (some (.ref f15))) (F15:Fun K "_law_same" "_law_same" pO f15 d15)
  (a16:Cc K mainGlobals "_law_beginnings" = some (some (.ref f16))) (F16:Fun K "_law_beginnings" "_law_beginnings" dB f16 d16)
  (a17:Cc K mainGlobals "_law_due" = some (some (.ref f17))) (F17:Fun K "_law_due" "_law_due" vD f17 d17)
  (a18:Cc K mainGlobals "_law_right" = some (some (.ref f18))) (F18:Fun K "_law_right" "_law_right" kZ f18 d18)
  (a19:Cc K mainGlobals "law" = some (some (.ref f19)))
  {oc19 kV19 dc19 pm19 cd19 ct19:Value} {od19 an19:Option Addr} {sl19:Array (Option Value)}
  (l19:K.lookup f19=some ⟨oc19,od19,.func (ET "law" "law" (gA m6) (dS m6) (ay m6) .none kV19 dc19 pm19 an19 cd19 ct19),sl19⟩) (c19:FV K cd19 "law" = true) (k19:ER K (.ref f19)=true)
  (qi:Cc K mainGlobals "abs" = some none)
  (qj:Cc K mainGlobals "all" = some none)
  (cF:Cc K mainGlobals "bool" = some none)
  (di:Cc K mainGlobals "enumerate" = some none)
  (kh:Cc K mainGlobals "int" = some none)
  (ag:Cc K mainGlobals "isinstance" = some none)
  (cG:Cc K mainGlobals "len" = some none)
  (cZ:Cc K mainGlobals "list" = some none)
  (sf:Cc K mainGlobals "max" = some none)
  (m9:Cc K mainGlobals "min" = some none)
  (bQ:Cc K mainGlobals "range" = some none)
  (qk:Cc K mainGlobals "set" = some none)
  (gq:Cc K mainGlobals "sorted" = some none)
  (fD:Cc K mainGlobals "str" = some none)
  (si:Cc K mainGlobals "sum" = some none)
  (aU:Cc K mainGlobals "tuple" = some none)
  (na:Cc K mainGlobals "zip" = some none) :
  ∃ fd:FuncData,(∀ (s:Shared) (v:Value),BindsTo s fd ⟨[v],[]⟩ [("_law_script",v)])/\∀ base:Heap,K.In base->base.Ns mainGlobals mg->FnOk l.prog w K mg base CX0 7 fa fd ["_law_script"] (se K):=by
 have e:=hfa.symm.trans (CH X G a19)
 cases e
 have b0:=F0.binds (ps:=["row","base"]) λ _ _ _ _ _ _=>qm (λ _ _=>rfl)
 have b1:=F1.binds (ps:=["counts"]) λ _ _ _ _ _ _=>tG (λ _=>rfl)
 have b2:=F2.binds (ps:=["rows"]) λ _ _ _ _ _ _=>tG (λ _=>rfl)
 have b3:=F3.binds (ps:=["often"]) λ _ _ _ _ _ _=>tG (λ _=>rfl)
 have b4:=F4.binds (ps:=["row","base"]) λ _ _ _ _ _ _=>qm (λ _ _=>rfl)
 have b5:=F5.binds (ps:=["first","often","column"]) λ _ _ _ _ _ _=>Bp (λ _ _ _=>rfl)
 have b6:=F6.binds (ps:=["rows","base"]) λ _ _ _ _ _ _=>qm (λ _ _=>rfl)
 have b7:=F7.binds (ps:=["longer"]) λ _ _ _ _ _ _=>tG (λ _=>rfl)
 have b8:=F8.binds (ps:=["lists"]) λ _ _ _ _ _ _=>tG (λ _=>rfl)
 have b9:=F9.binds (ps:=["_law_script","_law_k"]) λ _ _ _ _ _ _=>qm (λ _ _=>rfl)
 have b10:=F10.binds (ps:=["_law_tape_here","_law_many_here"]) λ _ _ _ _ _ _=>qm (λ _ _=>rfl)
 have b11:=F11.binds (ps:=["_law_tape_here","_law_k"]) λ _ _ _ _ _ _=>qm (λ _ _=>rfl)
 have b12:=F12.binds (ps:=["_law_tape_here"]) λ _ _ _ _ _ _=>tG (λ _=>rfl)
 have b13:=F13.binds (ps:=["_law_tape_here","_law_many_here","_law_base_here","_law_wide_here"]) λ _ _ _ _ _ _=>Bq (λ _ _ _ _=>rfl)
 have b14:=F14.binds (ps:=["_law_tape_here"]) λ _ _ _ _ _ _=>tG (λ _=>rfl)
 have b15:=F15.binds (ps:=["_law_found","_law_due_here"]) λ _ _ _ _ _ _=>qm (λ _ _=>rfl)
 have b16:=F16.binds (ps:=["_law_rows_here","_law_column"]) λ _ _ _ _ _ _=>qm (λ _ _=>rfl)
 have b17:=F17.binds (ps:=["_law_rows_here","_law_wide_here"]) λ _ _ _ _ _ _=>qm (λ _ _=>rfl)
 have b18:=F18.binds (ps:=["_law_tape_here","_law_k"]) λ _ _ _ _ _ _=>qm (λ _ _=>rfl)
 have F19:=sw (st:=m6) l19 c19 k19
 have b19:=F19.binds (ps:=["_law_script"]) λ _ _ _ _ _ _=>tG (λ _=>rfl)
 have T:Tx K mg ⟨_,_,_,_,_,_,_,_,_,_,_,_,_,_,_,_,_,_,_,_,_,_,_,_,_,_,_,_,_,_,_,_,_,_,_,_,_,_,_,_⟩:=⟨CH X G a0,F0,b0,CH X G a1,F1,b1,CH X G a2,F2,b2,CH X G a3,F3,b3,CH X G a4,F4,b4,CH X G a5,F5,b5,CH X G a6,F6,b6,CH X G a7,F7,b7,CH X G a8,F8,b8,CH X G a9,F9,b9,CH X G a10,F10,b10,CH X G a11,F11,b11,CH X G a12,F12,b12,CH X G a13,F13,b13,CH X G a14,F14,b14,CH X G a15,F15,b15,CH X G a16,F16,b16,CH X G a17,F17,b17,CH X G a18,F18,b18,CH X G a19,F19,b19,Cz X G qi,Cz X G qj,Cz X G cF,Cz X G di,Cz X G kh,Cz X G ag,Cz X G cG,Cz X G cZ,Cz X G sf,Cz X G m9,Cz X G bQ,Cz X G qk,Cz X G gq,Cz X G fD,Cz X G si,Cz X G aU,Cz X G na⟩
 exact ⟨_,λ s v=>.of_eq rfl,λ base _ _=>yi T⟩
theorem yI {l:G8} {q:Program} {loose:List Str} {XP:(Str->Option Value)->Heap->Prop} {YP:World->Heap->Prop} {d:DefRec} {K:Params->BA} (hn:l.most=some 63) (hdf:d.params.defaults=[])
  (hY:∀ (w:World) (h:Heap),YP w h->(K w.params).In h)
  (F:∀ (w:World) (mg:Str->Option Value) (fa:Addr) (h:Heap),(K w.params).In h->h.Ns mainGlobals mg->mg d.name=some (.ref fa)->
   ∃ fd:FuncData,(∀ (s:Shared) (u:Value),BindsTo s fd ⟨[u],[]⟩ [("_law_script",u)])/\∀ base:Heap,(K w.params).In base->base.Ns mainGlobals mg->FnOk l.prog w (K w.params) mg base CX0 7 fa fd ["_law_script"] (se (K w.params))) :
  JN q loose XP YP l.row.toRowW d [] (λ f vs=>Jo f vs):=
 L2.uB (n:=63) (k:=7) (x:="_law_script") (CX:=λ _=>CX0) (sp:=λ w=>se (K w.params)) hn (by decide) hdf ⟨rfl,by decide,by decide,rfl⟩ hY F (λ _ _ a ns hl _ hS=>⟨a,ns,rfl,hS,hl,λ _=>rfl⟩) λ _ _ _ _ _ z=>z
end Fs
open PySem PySem.W PyProof.Rows
set_option maxRecDepth 100000 in
set_option maxHeartbeats 0 in
theorem PySem.Challenge.cw_figuresort_k25_moves_from_the_first_holds : PySem.Challenge.rw_figuresort_k25_moves_from_the_first.Holds := by
 w_on; refine holds_law Fs.yN λ said=>?_
 refine holds_open (q:=Fs.vwF) (loose:=Fs.loF) (Xt:=Fs.xtF) (XP:=XL Fs.vwF []) (YP:=Hook.says Fs.mz) Fs.yM (Hook.of Fs.mz) (Hook.keeps Fs.mz) (λ s e=>xl_of s (HR.mp e).1) XL.keeps (by rfl) (by rfl) (by rfl) (λ s e=>recFacts_of (HR.mp e).2) (by rfl) said (by decide +kernel) ⟨rfl,rfl,rfl,rfl,rfl,by decide +kernel⟩ ?hw ?hc
 (case hw=>w_witness2)
 delta Fs.mz
 k_fill
 refine Fs.yI (l:=CJ) rfl rfl (λ w h Y=>PySem.W.kIn_of Y) ?F
 case F=>
  intro w mg fa h KX G hmg
  refine' Fs.yj KX G hmg ?a0 ?F0 ?a1 ?F1 ?a2 ?F2 ?a3 ?F3 ?a4 ?F4 ?a5 ?F5 ?a6 ?F6 ?a7 ?F7 ?a8 ?F8 ?a9 ?F9 ?a10 ?F10 ?a11 ?F11 ?a12 ?F12 ?a13 ?F13 ?a14 ?F14 ?a15 ?F15 ?a16 ?F16 ?a17 ?F17 ?a18 ?F18 ?a19 ?l19 ?c19 ?k19 ?qi ?qj ?cF ?di ?kh ?ag ?cG ?cZ ?sf ?m9 ?bQ ?qk ?gq ?fD ?si ?aU ?na
  iterate 2 all_goals (first | k_is | exact L2.sw (by k_is) (by k_is) (by k_is) | skip)
