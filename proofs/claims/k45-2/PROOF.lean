import PyProof.Rows.All
import Wide.All
import OpenK.AllK
import Wide.FinOn
import Lean
import PyProof.EqAt
import PyProof.EqKinds
import PyProof.TupleCall
import PySem.Challenge.RW_figuresort_k45_moves_told_ahead
set_option compiler.extract_closed false
local macro_rules
 | `(tactic|lia)=>`(tactic|first | lia (config:={}) | omega)
open PySem.Heap renaming get?_push_of_some→Ec,lt_size→Ei,get?_push_size→Ek,size_push→Fg,get?_update_other→FA,get?_update_self→FQ,SameBut→FT,get?_push_ne→Hh,size_update→Hq,IsTuple→LS,ExtBut→L7
open List renaming length_map→Ed,getElem?_eq_getElem→Ef,mem_append_right→Eg,getD_eq_getElem?_getD→Ej,getElem?_map→El,take_of_length_le→Em,mem_cons→Er,mem_map→Es,range→Eu,size_toArray→Ew,map_append→EA,replicate→EB,take_add_one→EC,length_append→ED,getElem?_eq_some_iff→EE,mem_cons_of_mem→EH,mem_cons_self→EJ,mem_singleton→EL,length_cons→EM,mem_of_getElem?→EN,getElem_mem→EQ,not_mem_nil→ER,map_cons→EU,length_take→EV,mem_append→EX,getElem?_append_right→EY,Nodup→EZ,getElem?_append_left→E2,length_nil→E4,map_map→E6,toArray→E8,mem_filter→Fa,append_nil→Fh,replicate_succ→Fi,map_congr_left→Fj,nodup_cons→Fn,length_pos_iff→Ft,length_filter_le→Fv,length_range→FC,getElem?_range→FE,length_replicate→FF,zip_cons_cons→FG,sum_cons→FH,mem_range→FI,length_eq_zero_iff→FK,all_eq_true→FO,length_singleton→FR,count_eq_zero→Ga,filter_append→Gb,getElem?_eq_none→Ge,find?_cons→Gf,mem_iff_getElem→Gk,lookup_cons→Gr,set→Gs,sum_append→Gw,flatten_cons→GB,count_append→GC,nodup_append→GD,nodup_nil→GG,length_drop→GK,getElem?_of_mem→GM,length_reverse→GO,filter_map→GS,map_nil→GW,map_replicate→G3,eq_of_mem_replicate→G4,drop_zero→G6,take_zero→G9,getElem?_replicate→Ha,pairwise_singleton→Hc,filter_cons_of_pos→Hd,append_assoc→Hf,pairwise_map→Hi,filter_congr→Hj,length→Hk,all_cons→Hm,mem_reverse→Hs,of_mem_zip→Hw,range_succ→Hz,exists_mem_of_length_pos→HD,filterMap_cons→HE,forIn_nil→HJ,zip_nil_right→HN,count_eq_length_filter→HX,zip_nil_left→Il,reverse_cons→Im,flatMap_cons→Ip,pairwise_iff_getElem→Ir,count_singleton_self→Iv,ext_getElem→Iz,countP_cons→IC,length_erase_of_mem→ID,mem_flatMap→IH,append_cancel_left→IQ,filter_cons_of_neg→IS,length_set→IV,forIn_cons→IY,getElem?_set_self→Jc,filter_eq_nil_iff→Jh,cons_lt_cons_iff→Jk,dropLast_eq_take→Jm,mem_append_left→Jn,getElem?_set_ne→Jo,perm_cons_erase→Jr,mem_erase_of_ne→Js,reverse_reverse→Jt,replicate_succ'→Ju,any_cons→Jx,getElem_of_mem→JB,map_eq_nil_iff→JD,flatMap_append→JE,length_zipWith→JF,mem_filterMap→JG,map_inj_right→JS,sum_singleton→JW,foldl_append→J8,map_dropLast→Ke,getElem?_inj→Kg,zipIdx_cons→Kt,nodup_range→Kv,cons_append→Kx,sum→KB,foldl→KE,nil_append→KF,zipIdx_nil→KO,append_inj→KU,map_take→Lf,map→LX,sum_nil→LZ,filter→Mc
open PySem.W renaming Frag→Ee,nsIn→Ep,mg_of→Ey,mg_none_of→EW,kia_one→Fw,keepIn→Gm,kia_tup→Gx,kitOne→GE,fnOf→GF,codeIn→HH,methodObj→Ij,kitx_list→Ik,instObj→IU,OpenLaw→IW,cellsFrom_some→Jd,lookIn→Jj,kitx_tuple→JH,callWith_K→JI,kitx_none→JX,kitx_bool→JY,kitx_dict→JZ,plainGet→Kn,kitx_int→Ko,kitx_str→Kp,findIn→KZ,WalkO→Lb
open Nat renaming le_refl→Eh,ne_of_lt→Eo,lt_of_lt_of_le→Ez,zero_le→EI,ne_of_gt→ES,le_of_lt→E5,lt_irrefl→E7,le_trans→Fb,le_of_eq→Fc,lt_of_le_of_lt→Fe,le_add_right→FP,lt_succ_of_lt→FV,lt_or_ge→Gd,gcd→Gn,lcm→GN,lt_trans→GZ,lt_trichotomy→Hg,not_lt_of_le→Ho,add_sub_cancel→HR,le_of_dvd→Ig,le_succ_of_le→Io,gcd_dvd_right→Iq,lt_succ_self→IA,succ_ne_self→IB,mul_div_cancel_left→IK,pos_of_mul_pos_left→IL,gcd_pos_of_pos_left→IR,min_eq_left→I0,le_succ→Je,pow_le_pow_right→Jv,pow_le_pow_left→JA,sub_zero→JQ,eq_or_lt_of_le→JR,gcd_zero_right→JU,lt_succ_of_le→J9,gcd_dvd_left→Ks,succ_le_succ→Kw,log2_le_self→Kz,div_pos_iff→KJ,div_le_self→KN,mod_lt→KY,dvd_trans→Lc,add_comm→LO,pow_succ→LP,gcd_comm→LQ,log2_lt→L4,pow_pos→L5,not_lt→Mi
open Or renaming inl→En,inr→Gh
open True renaming intro→Et
open Bool renaming false_ne_true→EF,false_eq_true→Fd,and_eq_true→Fy,eq_iff_iff→Gv,false_or→Hl,not_true→Ie,or_eq_true→IZ,and_eq_true_iff→Jw,true_or→JL,or_true→JM,or_false→La
open PySem.Value renaming ref→EG,none→E3,isStrOf→FW,bool→Gi,int→GV,type→G5,str→HM,notImplemented→Jq,isInt→Kh,float→L0
open PySem.Challenge renaming pw_figuresort_k45_moves_told_ahead→EK,rw_figuresort_k45_moves_told_ahead→E9
open Option.some renaming inj→EO,injEq→J0
open PySem.PassesOwn renaming never→ET
open PySem.Str renaming ofString→E1,length→KD,join→MD
open Ne renaming symm→Ff
open PyProof.Rows renaming callWith_type1→Fk,slot_tuple_getitem→Fm,callWith_builtin1→KC,lt_int→Mj,le_int→Mk
open Sum renaming inl→Fo,inr→Iw
open PySem.Builtin.SmallTypes renaming nextOf→Fp,ownedTupleIsFree→FJ,ownedTupleHandOut→GY
open PySem.F renaming slot_dict_itemiterator_next→Fq,plain_max_loop→FN,plain_extend_loop→FS,slot_tuple_iterator_next→Gg,plainAttrs_dict→Gu,slot_list_getattribute→Gy,args_dict_itemiterator_next_1→GU,entry_dict_itemiterator_next→G0,plainAttrs_list→Hb,slot_dict_get→Hu,slot_zip_next→Hx,args_tuple_iterator_next_1→HI,slot_dict_items_iter→HK,slot_dict_setdefault→HL,entry_tuple_iterator_next→HQ,entry_extend_loop→Iu,slot_dict_values→IG,args_dict_get_3→IJ,plain_list_iadd→IM,slot_dict_items→IN,entry_dict_get→Jf,entry_max_loop→Jg,args_zip_next_1→Ka,entry_zip_next→Ku,slot_int_rmul→KG
open PySem.Obj renaming mapSeq→Fu,data_mapFields→JP,putSet→Mh
open PySem.Builtin.Range renaming rangeSize→Fx,rangeFitsLong→GJ,small→GP
open PySem.Around renaming under_plainId→Fz
open PySem.Calls renaming callWith_builtin→FB,spliced_cons→FZ,evalArgs_plain→GL,spliced_nil→He,Name_function_global→HZ
open Array renaming length_toList→FD,getD_eq_getD_getElem?→Gc,getElem?_toList→Ht,getD→Hy,perm_iff_toList_perm→Ih,mem_toList_iff→Jp,toList→Lz
open Int renaming toNat_natCast→FL,natCast_ediv→FY,emod_nonneg→Gz,natCast_mul→GR,zero_add→G1,mul_lt_mul_of_pos_right→HU,fdiv_eq_ediv_of_nonneg→Ia,lt_of_mul_lt_mul_right→Ii,natCast_emod→II,natCast_pos→IX,toNat→Ja,add_assoc→Jz,toNat_of_nonneg→JC,le_of_lt→JN,natAbs_natCast→JO,emod_lt_of_pos→JT,add_zero→JV,mul_left_comm→Kc,mul_pos→Km,ediv_nonneg→KW,mul_nonneg→K4,mul_assoc→Lh,ediv_one→LN,mul_comm→LV,lt_or_le→LY,mul_one→L1,le_refl→Mb
open Option renaming map_eq_some_iff→FM,isSome_iff_exists→Go,map_some→IT,getD_none→Kq,toList→Lg,none→L3
open False renaming elim→FU
open PySem renaming mem_of_lookup→FX,field→GA,strKind→Hn,evalArgs_none→HF,call→KH,seqItems?→KM,Within→Ly,Str→Mm,Fin→Mr
open PySem.Builtin.Slice renaming slicePlaces→Gj,sliceAdjust→GQ,sliceApplied→Ib,slicePartIndex→K0,sliceFields→Lv
open PySem.Builtin.Tuple renaming tupleExact→Gp,tupleCompareSizes→Hv,tupleItemsOf→Ic
open PySem.Builtin.List renaming listTooLong→Gq,listExtendWith→HV,listSameRef→IF
open PySem.Builtin.Dict_items renaming ownsTuple→GH,ownedTupleIsFree→G7,ownedTupleFields→G8,pairFromOwner→Hr,newIterator→KS,dictOf→Lw
open PySem.PyData renaming keyHash→GI,strOk→IE,canLayAll0→Kb,depthAll→KP,canLay0→K3
open Classical renaming byContradiction→GT
open PyProof renaming noPylong_of_log2→GX
open PySem.Heap.SameBut renaming update→HG,refl→Mw
open PySem.Builtin.Builtins renaming bindParams→HS
open PySem.Paired renaming length→HY,snoc→Ma
open PySem.AutoSeq1 renaming sub_tuple_tuple→Iy,list_extend_list_list_0→Kr,list_reverse_list_0→K1
open PySem.Builtin.Dict renaming updateFrom→IP,pairItems→Ji,showsAll→Jl,selfAndRest→LW,noArgs→Ml
open Sum.inl renaming inj→Jb
open List.cons renaming inj→Jy
open PySem.SeqAt.EqAt renaming int_int→JJ,int_str→Mn,str_int→Mo
open PySem.Heap.IsSliceOf renaming new→JK
open PySem.Data renaming fields→Ki,cell→K6,seq→MA
open PySem.Walks renaming range→Kj,list→KI,tuple→L6
open PySem.IsRange renaming new→Kk
open PySem.AutoListH renaming list___mul___list_int_3→Kl
open PySem.Txt renaming join→Ky
open PyProof.Rows.SortSt renaming mk'→KQ
open PySem.Heap.DictOf renaming new→KR
open List.Perm renaming refl→K2,trans→ME,cons→MG
open PyProof.Rows.IsTup renaming new→K5
open PySem.CmpOf renaming ints_gt→Ld
open PySem.SeqAt.RcNeAt renaming lists_lengths→Le,lists→Mq
open PySem.Shared renaming TypeIs→Li,heap→L9
open Function renaming comp→Lj
open PySem.EqNone renaming eq_none_none→Lk,eq_none_bool→Ll,eq_bool_none→Lm,ne_none_none→Lp,ne_none_bool→Lq,ne_bool_none→Lr,eq_none_int→LA,eq_none_str→LB,eq_int_none→LC,eq_str_none→LF,ne_none_int→LH,ne_none_str→LI,ne_int_none→LJ,ne_str_none→LL
open PySem.EqMixed renaming eq_bool_str→Ln,eq_str_bool→Lo,ne_bool_str→Ls,ne_str_bool→Lu,eq_int_str→LD,eq_str_int→LG,ne_int_str→LK,ne_str_int→LM
open PySem.W.OpenLaw renaming wellSaid→Lx
open PySem.SeqAt.RcAt renaming lists_lengths→LR,tuples→Mu,lists→MB
open PySem.SeqAt renaming rcNeAt_reads→LU,EqAt→Me,eqv_refl→Mg
open PySem.Heap.Ns renaming new→L8
open PySem.W.RowW renaming records→Md
open PySem.Draws renaming list→Mf
open PySem.Flow renaming next→Mp
open Lean.Name renaming mkSimple→Ms
open List.Pairwise renaming nil→Mt
open PySem.Heap.IsTuple renaming push→Mv
open PySem.Builtin.Str renaming glued→Mx
open PySem.DictEntry renaming refKey→My
open PySem.IsL renaming update→Mz
open Prod renaming fst→MC
open Array.Perm renaming refl→MF
open Iff renaming rfl→MH
open PySem.NameKind renaming cell→MI
set_option Elab.async false
set_option maxRecDepth 100000
set_option maxHeartbeats 0
namespace Fs
open PySem PySem.Spec PyProof.Rows
local macro_rules
 | `(tactic| o_head $_)=>`(tactic| assumption)
open PySem PySem.W PyProof.Rows in
theorem Kf (h:E9.row.Holds):E9.row.Holds:=by
 w_on; k_head
open PySem PySem.W PyProof.Rows in
def asF:List Addr:=[2,3,15,17,18,20,21,22,24,25,27,28,29,32,33,34,36,37,39,40,41,44,45,46,48,49,51,52,53,55,56,58,59,60,63,64,65,72,73,74,75,78,85,86,87,90,92,93,95,96,97,99,100,102,103,104,107,108,109,111,112,114,115,116,118,119,121,122,123,125,126,128,129,130,132,133,135,136,137,140,141,142,145,146,147,150,151,152,155,156,157,159,160,162,163,164,166,167,169,170,171,174,175,176,178,179,181,182,183,184,185,187,188,190,191,192,194,195,197,198,199,201,202,204,205,206,208,209,211,212,213,215,216,218,219,220,222,223,225,226,227,229,230,232,233,234,236,237,239,240,241,244,245,246,248,249,251,252,253,255,256,258,259,260,263,264,265,267,268,270,271,272,275,276,277,280,281,282,285,286,287,289,290,292,293,294,296,297,299,300,301,303,304,306,307]
open PySem PySem.W PyProof.Rows in
@[reducible] noncomputable def kT:Hook:=kHook Kf.heap_1 asF (λ _=>by kernel_rfl)
def Dw (i:Nat):Stmt:=EK.main.body.getD i (.Pass ⟨0,0,0,0⟩)
def vwF:Program:={ EK with main:={ EK.main with body:=[1,2,3,4,5,7,8,10,12,13,15,16,17,19,20,22,23,24,25,26,27,28,29,31,32,33,34,35,36,38,39,40,41,42,43,44,45,46,47,48,49,50,51,52,53,54,55].map Dw } }
def loF:List Mm:=["AHEAD"]
def xtF (s:Shared):Bool:=PySem.W.xlAt vwF [] s && PySem.W.recOk (Md E9.row.toRowW) s
open PySem.W in
theorem Bh {p q:Program} {loose:List Mm} {Xt:Shared->Bool} {α:Type} {Yf:Shared->α} {Ya:World->α} {N:Nat} {g0:Bool} (row:String)
  (h:∀ (b:Bool) (w:World),(fencedOpening treeTable p w N).map (λ s₀=>(topFrom treeTable p (w.withFollow row b) N s₀).map (λ s=>(openSeen q loose (importedModules p.main.body) Xt g0 s,Yf s)))=some (some (openGood q loose,Ya (w.withFollow row b)))):LeftO p q loose Xt Yf Ya N g0:=by
 refine LeftO.of_split row λ w=>?_
 obtain ⟨s,a,b⟩:=FM.mp (h false w)
 obtain ⟨s',a',b'⟩:=FM.mp (h true w)
 rw [a] at a'; cases a'
 rw [a,IT,b,b']
open PySem.W in
def AU (b:Bool) (w:World):Prop:=(fencedOpening treeTable EK w 3766).map (λ s₀=>(topFrom treeTable EK (w.withFollow "special-get-raises" b) 3766 s₀).map (λ s=>(openSeen vwF loF (importedModules EK.main.body) xtF true s,Hook.obs kT s)))=some (some (openGood vwF loF,Hook.val kT (w.withFollow "special-get-raises" b)))
theorem Bi (w:World):AU false w:=by unfold AU; kernel_rfl
theorem Bj (w:World):AU true w:=by unfold AU; kernel_rfl
open PySem.W in
theorem Bk:LeftO EK vwF loF xtF (Hook.obs kT) (Hook.val kT) 3766:=Bh "special-get-raises" λ b w=>by cases b; exact Bi w; exact Bj w
theorem Bl:Lx E9=true:=by kernel_rfl
end Fs
set_option compiler.extract_closed false
set_option Elab.async false
set_option linter.all false
set_option maxRecDepth 100000
namespace L2
open PySem PySem.Spec PyProof.Rows
noncomputable abbrev Key:=Sum Int Str
noncomputable def oJ:Key->Value->Bool
 | .inl k,v=>Kh k v
 | .inr x,v=>FW x v
noncomputable def Dx (w:World):Key->Int
 | .inl k=>hashInt k
 | .inr x=>hashStr w x
theorem bi:∀ {k:Key} {v:Value},oJ k v=true->(∃ i t,k=Fo i/\v=GV i t)\/(∃ x t,k=Iw x/\v=HM x t)
 | .inl i,v,h=>by
  obtain ⟨t,e⟩:=Value.isInt_shape (k:=i) (v:=v) h
  exact .inl ⟨i,t,rfl,e⟩
 | .inr x,v,h=>by
  obtain ⟨t,e⟩:=Value.isStrOf_shape (x:=x) (v:=v) h
  exact .inr ⟨x,t,rfl,e⟩
theorem pF (i:Int) (t:Tok):oJ (.inl i) (.int i t)=true:=by simp [oJ,Kh]
theorem pG (x:Str) (t:Tok):oJ (.inr x) (.str x t)=true:=by simp [oJ,FW]
theorem yw (a b:Int):decide ((Fo a:Key)=Fo b)=(a == b):=by
 by_cases e:a=b
 ·subst e; simp
 ·have h:¬ (Fo a:Key)=Fo b:=λ q=>e (Jb q)
  rw [decide_eq_false h]
  exact (beq_eq_false_iff_ne.mpr e).symm
theorem yx (a b:Str):decide ((Iw a:Key)=Iw b)=decide (a=b):=by
 by_cases e:a=b
 ·subst e; simp
 ·have h:¬ (Iw a:Key)=Iw b:=λ q=>e (Sum.inr.inj q)
  rw [decide_eq_false h,decide_eq_false e]
theorem yy (a:Int) (b:Str):decide ((Fo a:Key)=Iw b)=false:=decide_eq_false (λ q=>nomatch q)
theorem yz (a:Str) (b:Int):decide ((Iw a:Key)=Fo b)=false:=decide_eq_false (λ q=>nomatch q)
noncomputable def aJ (prog:Program) (w:World):PySem.KeyKind prog w Key where
 is:=oJ
 hash:=Dx w
 inj:=λ v a b ha hb=>by
  rcases bi ha with ⟨i,t,rfl,rfl⟩ | ⟨x,t,rfl,rfl⟩
  ·rcases bi hb with ⟨j,u,rfl,e⟩ | ⟨y,u,rfl,e⟩
   ·injection e with e1 _; rw [e1]
   ·exact nomatch e
  ·rcases bi hb with ⟨j,u,rfl,e⟩ | ⟨y,u,rfl,e⟩
   ·exact nomatch e
   ·injection e with e1 _; rw [e1]
 byValue:=λ k v h=>by
  rcases bi h with ⟨i,t,rfl,rfl⟩ | ⟨x,t,rfl,rfl⟩<;>rfl
 pyHash:=λ hv h=>by
  rcases bi hv with ⟨i,t,rfl,rfl⟩ | ⟨x,t,rfl,rfl⟩
  ·exact wpAny_pyHash_int h
  ·exact wpAny_pyHash_str h
 eqBool:=λ hu hv h=>by
  rcases bi hu with ⟨i,t,rfl,rfl⟩ | ⟨x,t,rfl,rfl⟩
  ·rcases bi hv with ⟨j,u,rfl,rfl⟩ | ⟨y,u,rfl,rfl⟩
   ·rw [yw] at h; exact wpAny_eqBool_int h
   ·rw [yy] at h; exact Mn i t y u _ _ _ _ h
  ·rcases bi hv with ⟨j,u,rfl,rfl⟩ | ⟨y,u,rfl,rfl⟩
   ·rw [yz] at h; exact Mo x t j u _ _ _ _ h
   ·rw [yx] at h; exact wpAny_eqBool_str h
 «strs»:=λ k x t v h=>by
  rcases bi h with ⟨i,u,rfl,e⟩ | ⟨y,u,rfl,e⟩
  ·exact nomatch e
  ·injection e with e1 _
   subst e1
   cases v<;>rfl
theorem mz (prog:Program) (w:World) (i:Int) (t:Tok):(aJ prog w).is (.inl i) (.int i t)=true:=pF i t
theorem mB (prog:Program) (w:World) (x:Str) (t:Tok):(aJ prog w).is (.inr x) (.str x t)=true:=pG x t
inductive V where
 | non | bl (b:Bool) | int (i:Int) | str (x:Str) | byt (b:Array UInt8) | flt (b:UInt64) | ref (a:Addr) | ty (n:String)
 deriving DecidableEq
noncomputable def RelV:V->Value->Prop
 | .non,u=>u=E3
 | .bl b,u=>u=Gi b
 | .int i,u=>∃ t,u=GV i t
 | .str x,u=>∃ t,u=HM x t
 | .byt b,u=>∃ t,u=Value.bytes b t
 | .flt b,u=>∃ t,u=L0 b t
 | .ref a,u=>u=EG a
 | .ty n,u=>u=G5 n
noncomputable abbrev Vals:List V->List Value->Prop:=Paired RelV
theorem Vals.length {xs:List V} {us:List Value} (r:Vals xs us):xs.length=us.length:=HY r
theorem Vals.get:∀ {xs:List V} {us:List Value} {i:Nat} {x:V},Vals xs us->xs[i]? = some x->∃ u,us[i]? = some u/\RelV x u
 | _,_,_,_,.nil,e=>by simp at e
 | _,_,0,_,.cons r _,e=>by simp at e; subst e; exact ⟨_,rfl,r⟩
 | _,_,i+1,x,.cons _ t,e=>by
  obtain ⟨u,h1,h2⟩:=Vals.get (i:=i) (x:=x) t (by simpa using e)
  exact ⟨u,by simpa using h1,h2⟩
theorem Vals.set {x:V} {u:Value} (r:RelV x u):∀ {xs:List V} {us:List Value} (i:Nat),Vals xs us->Vals (xs.set i x) (us.set i u)
 | _,_,_,.nil=>.nil
 | _,_,0,.cons _ t=>.cons r t
 | _,_,i+1,.cons q t=>.cons q (Vals.set r i t)
theorem Vals.append:∀ {xs ys:List V} {us ws:List Value},Vals xs us->Vals ys ws->Vals (xs++ys) (us++ws)
 | _,_,_,_,.nil,s=>s
 | _,_,_,_,.cons r t,s=>.cons r (Vals.append t s)
theorem Vals.take:∀ {xs:List V} {us:List Value} (n:Nat),Vals xs us->Vals (xs.take n) (us.take n)
 | _,_,0,_=>.nil
 | _,_,_+1,.nil=>.nil
 | _,_,n+1,.cons r t=>.cons r (Vals.take n t)
theorem Vals.drop:∀ {xs:List V} {us:List Value} (n:Nat),Vals xs us->Vals (xs.drop n) (us.drop n)
 | _,_,0,r=>r
 | _,_,_+1,.nil=>.nil
 | _,_,n+1,.cons _ t=>Vals.drop n t
noncomputable def RelO:Option V->Option Value->Prop
 | some v,some u=>RelV v u
 | none,none=>True
 | _,_=>False
noncomputable def KV {κ:Type}:List (κ×V)->List (κ×Value)->Prop:=Paired λ (p:κ×V) (q:κ×Value)=>p.1=q.1/\RelV p.2 q.2
noncomputable def kV:Key->V
 | .inl i=>.int i
 | .inr x=>.str x
inductive HO where
 /-- a list -/
 | lst (xs:List V)
 /-- a tuple (never changes) -/
 | tup (xs:List V)
 /-- a dict whose keys are ints and texts; one whose keys are tuples of ints and texts (the empty one is both) -/
 | dK (kvs:List (Key×V)) | dT (kvs:List (List Key×V))
 /-- a set of ints: its members,its size -/
 | set (S:Int->Bool) (n:Nat)
 /-- an instance of the class at C,its dict at dx,its attributes -/
 | ins (C dx:Addr) (fs:List (Str×V))
 /-- the dict of the instance at x -/
 | own (x:Addr)
 /-- the dict of an exception -/
 | xd (fs:List (Str×V))
 /-- a bound method,f of x -/
 | met (f x:Addr)
 /-- a range object lo,lo+1,.. below hi -/
 | rng (lo hi:Int)
 /-- a thing that is known to the object (the script; a dict while a loop walks it): read,never written while it is so -/
 | frz (o:Obj) (u:HO)
 /-- a code object's table -/
 | tbl (ps:Array Value)
 /-- any other thing,by what is true of its one object (a def of one's own: SetO a S n:=HO.ext λ h=>..) -/
 | ext (φ:Heap->Prop)
noncomputable abbrev Hp:=Addr->Option HO
noncomputable def upd (H:Hp) (a:Addr) (o:HO):Hp:=λ b=>if b=a then some o else H b
theorem ab {H:Hp} {a:Addr} {o:HO}:upd H a o a=some o:=by unfold upd; rw [if_pos rfl]
theorem aq {H:Hp} {a b:Addr} {o:HO} (h:b≠a):upd H a o b=H b:=by unfold upd; rw [if_neg h]
theorem jp {H:Hp} {a b:Addr} {o u:HO} (h:H a=some o) (h':H b=some u) (d:o≠u):a≠b:=by
 intro e; subst e; rw [h] at h'; exact d (EO h')
theorem ak {H:Hp} {a b:Addr} {o:HO} (h:H a=some o) (h':H b=none):a≠b:=by
 intro e; subst e; rw [h] at h'; cases h'
section
variable (P:Program) (w:World)
noncomputable def ObjOk (H:Hp) (h:Heap) (a:Addr):HO->Prop
 | .lst xs=>xs.length<=sizeLine/\∃ (its:List Value) (n:Nat),Vals xs its/\h.get? a=some { cls:=.type "list",data:=.seq its.toArray n }
 | .tup xs=>xs.length<=sizeLine/\∃ its:List Value,Vals xs its/\IsTup h a its.toArray
 | .dK kvs=>kvs.length<=sizeLine/\(a == sysModules)=false/\∃ vs,KV kvs vs/\h.DictOf (aJ P w) a vs
 | .dT kvs=>kvs.length<=sizeLine/\(a == sysModules)=false/\∃ xs:List (List Key×Addr×Value),
   Paired (λ (p:List Key×V) (q:List Key×Addr×Value)=>p.1=q.1/\H q.2.1=some (.tup (p.1.map kV))/\RelV p.2 q.2.2) kvs xs/\
   ∃ o es ep,h.get? a=some o/\o.ExactDict/\o.data=.dict es ep/\es.toList=xs.map (entryOfKey (tupleKind (aJ P w)))/\(xs.map (·.1)).Nodup
 | .set S n=>h.SetOf (intKind P w) a S n
 | .ins C dx fs=>H dx=some (.own a)/\fs.length<=1000/\dx≠a/\h.get? a=some (IU C dx)/\
   ∃ mA,h.Ns1 dx mA/\(∀ f,RelO (fs.lookup f) (mA f))/\Ly mA (fs.map (·.1))
 | .own _=>∃ o,h.get? a=some o
 | .xd fs=>∃ mA,h.Ns1 a mA/\∀ f,RelO (fs.lookup f) (mA f)
 | .rng lo hi=>∃ t u v,h.get? a=some { cls:=.type "range",data:=.fields #[.int lo t,.int hi u,.int 1 v] }
 | .frz o u=>h.get? a=some o/\ObjOk H h a u
 | .tbl ps=>h.get? a=some { cls:=.none,data:=.fields ps }
 | .met f x=>h.get? a=some (Ij (.ref f) (.ref x))
 | .ext φ=>φ h/\(∃ o,h.get? a=some o)/\∀ h1 h2:Heap,φ h1->(∀ o,h1.get? a=some o->h2.get? a=some o)->φ h2
noncomputable def HOk (H:Hp) (h:Heap):Prop:=∀ a o,H a=some o->ObjOk P w H h a o
end
section
variable {P:Program} {w:World} {H H':Hp} {h h':Heap} {a:Addr} {o:HO}
theorem ObjOk.lt (x:ObjOk P w H h a o):a<h.objs.size:=by
 cases o with
 | lst xs=>obtain ⟨_,_,_,_,e⟩:=x; exact Ei e
 | tup xs=>obtain ⟨_,_,_,p⟩:=x; exact p.lt
 | dK kvs=>obtain ⟨_,_,_,_,o,_,_,e,_⟩:=x; exact Ei e
 | dT kvs=>obtain ⟨_,_,_,_,o,_,_,e,_⟩:=x; exact Ei e
 | set S n=>obtain ⟨o,_,_,_,e,_⟩:=x; exact Ei e
 | ins C dx fs=>obtain ⟨_,_,_,e,_⟩:=x; exact Ei e
 | own y=>obtain ⟨_,e⟩:=x; exact Ei e
 | xd fs=>obtain ⟨_,⟨_,_,_,e,_⟩,_⟩:=x; exact Ei e
 | rng lo hi=>obtain ⟨_,_,_,e⟩:=x; exact Ei e
 | frz ob u=>obtain ⟨e,_⟩:=x; exact Ei e
 | tbl ps=>exact Ei (show h.get? a=some _ from x)
 | met f y=>exact Ei (show h.get? a=some _ from x)
 | ext φ=>obtain ⟨_,⟨_,e⟩,_⟩:=x; exact Ei e
theorem Paired.mapP {α β:Type} {F G:α->β->Prop}:∀ {l₁:List α} {l₂:List β},Paired F l₁ l₂->(∀ a b,F a b->G a b)->Paired G l₁ l₂
 | _,_,.nil,_=>.nil
 | _,_,.cons r t,f=>.cons (f _ _ r) (Paired.mapP t f)
theorem ObjOk.stay (x:ObjOk P w H h a o) (k:∀ b u,(b=a\/H b=some (.own a))->h.get? b=some u->h'.get? b=some u)
  (ho:∀ b,H b=some (.own a)->H' b=some (.own a)) (ht:∀ b xs,H b=some (.tup xs)->H' b=some (.tup xs)):ObjOk P w H' h' a o:=by
 induction o with
 | lst xs=>obtain ⟨z,its,n,r,e⟩:=x; exact ⟨z,its,n,r,k _ _ (.inl rfl) e⟩
 | tup xs=>obtain ⟨z,its,r,ob,e,c⟩:=x; exact ⟨z,its,r,ob,k _ _ (.inl rfl) e,c⟩
 | dK kvs=>obtain ⟨z,y,vs,r,ob,es,ep,e,c⟩:=x; exact ⟨z,y,vs,r,ob,es,ep,k _ _ (.inl rfl) e,c⟩
 | dT kvs=>
  obtain ⟨z,y,xs,r,ob,es,ep,e,c⟩:=x
  exact ⟨z,y,xs,Paired.mapP r λ p q z=>⟨z.1,ht _ _ z.2.1,z.2.2⟩,ob,es,ep,k _ _ (.inl rfl) e,c⟩
 | set S n=>obtain ⟨ob,es,ep,t,e,c⟩:=x; exact ⟨ob,es,ep,t,k _ _ (.inl rfl) e,c⟩
 | ins C dx fs=>
  obtain ⟨d,z,ne,e,mA,⟨od,es,ep,e2,c⟩,r⟩:=x
  exact ⟨ho _ d,z,ne,k _ _ (.inl rfl) e,mA,⟨od,es,ep,k _ _ (.inr d) e2,c⟩,r⟩
 | own y=>obtain ⟨ob,e⟩:=x; exact ⟨ob,k _ _ (.inl rfl) e⟩
 | xd fs=>obtain ⟨mA,⟨od,es,ep,e,c⟩,r⟩:=x; exact ⟨mA,⟨od,es,ep,k _ _ (.inl rfl) e,c⟩,r⟩
 | rng lo hi=>obtain ⟨t,u,v,e⟩:=x; exact ⟨t,u,v,k _ _ (.inl rfl) e⟩
 | frz ob u ih=>obtain ⟨e,q⟩:=x; exact ⟨k _ _ (.inl rfl) e,ih q⟩
 | tbl ps=>
  have e:h.get? a=some { cls:=.none,data:=.fields ps }:=x
  show h'.get? a=some { cls:=.none,data:=.fields ps }
  exact k a _ (.inl rfl) e
 | met f y=>
  have e:h.get? a=some (Ij (.ref f) (.ref y)):=x
  show h'.get? a=some (Ij (.ref f) (.ref y))
  exact k a _ (.inl rfl) e
 | ext φ=>obtain ⟨p,⟨o,e⟩,st⟩:=x; exact ⟨st _ _ p λ o q=>k _ _ (.inl rfl) q,⟨o,k _ _ (.inl rfl) e⟩,st⟩
theorem HOk.lt (x:HOk P w H h) (e:H a=some o):a<h.objs.size:=(x a o e).lt
theorem HOk.fresh (x:HOk P w H h) (e:h.objs.size<=a):H a=none:=by
 cases q:H a with
 | none=>rfl
 | some u=>exact absurd (Ez (x.lt q) e) (E7 _)
theorem HOk.kept (x:HOk P w H h) (k:∀ b u,h.get? b=some u->h'.get? b=some u):HOk P w H h':=λ a o e=>
 (x a o e).stay (λ b u _ q=>k b u q) (λ _ q=>q) λ _ _ q=>q
theorem HOk.laid (x:HOk P w H h) (k:∀ b u,h.get? b=some u->h'.get? b=some u) (hp:h.objs.size<=a) (new:ObjOk P w (upd H a o) h' a o):HOk P w (upd H a o) h':=λ b u e=>by
 have hn:=x.fresh hp
 by_cases hb:b=a
 ·subst hb; rw [ab] at e; cases e; exact new
 ·rw [aq hb] at e
  exact (x b u e).stay (λ c v _ q=>k c v q) (λ c q=>by rw [aq (ak q hn)]; exact q) λ c xs q=>by rw [aq (ak q hn)]; exact q
end
noncomputable def Rd (H:Hp) (a:Addr) (u:HO):Prop:=H a=some u\/∃ o,H a=some (.frz o u)
theorem Rd.ok {P:Program} {w:World} {H:Hp} {h:Heap} {a:Addr} {u:HO} (r:Rd H a u) (x:HOk P w H h):ObjOk P w H h a u:=by
 rcases r with r | ⟨o,r⟩
 ·exact x a u r
 ·obtain ⟨_,q⟩:=x a _ r
  exact q
noncomputable def Mut:Option HO->Prop
 | some (.lst _)=>True
 | some (.dK _)=>True
 | some (.dT _)=>True
 | some (.set _ _)=>True
 | some (.ins _ _ _)=>True
 | some (.ext _)=>True
 | _=>False
section
variable {P:Program} {w:World} {H:Hp} {h h':Heap} {x e:Addr} {o':HO}
theorem HOk.write (ok:HOk P w H h) (mu:Mut (H x)) (he:e=x\/H e=some (.own x)) (k:∀ b u,b≠e->h.get? b=some u->h'.get? b=some u) (heo:∃ u,h'.get? e=some u)
  (new:ObjOk P w (upd H x o') h' x o'):HOk P w (upd H x o') h':=λ b u q=>by
 have nown:∀ c y,H c=some (.own y)->c≠x:=λ c y r z=>by subst z; rw [r] at mu; exact mu
 have ntup:∀ c xs,H c=some (.tup xs)->c≠x:=λ c xs r z=>by subst z; rw [r] at mu; exact mu
 by_cases hb:b=x
 ·subst hb; rw [ab] at q; cases q; exact new
 ·rw [aq hb] at q
  by_cases hbe:b=e
  ·have q':H b=some (.own x):=by
    rcases he with z | z
    ·exact absurd (hbe.trans z) hb
    ·rw [hbe]; exact z
   rw [q] at q'; cases q'
   obtain ⟨v,hv⟩:=heo
   exact ⟨v,by rw [hbe]; exact hv⟩
  ·refine (ok b u q).stay (λ c v hc r=>k c v ?_ r) (λ c r=>by rw [aq (nown c b r)]; exact r) λ c xs r=>by rw [aq (ntup c xs r)]; exact r
   rcases hc with rfl | hc
   ·exact hbe
   ·rintro rfl
    rcases he with z | z
    ·exact nown c b hc z
    ·rw [hc] at z; cases z; exact hb rfl
end
structure Un (fs ex:List Addr) (H H':Hp) (h h':Heap):Prop where
 keep:∀ b o,h.get? b=some o->H b=none->b∉fs->b∉ex->h'.get? b=some o
 slot:∀ b o,h.get? b=some o->H b=none->b∈fs->b∉ex->∃ sl,h'.get? b=some { o with slots:=sl }
 free:∀ b o,h.get? b=some o->H b=none->b∉ex->H' b=none
 there:∀ b o,h.get? b=some o->b∉ex->∃ o',h'.get? b=some o'
 tups:∀ b xs,H b=some (.tup xs)->H' b=some (.tup xs)
 frzs:∀ b o u,H b=some (.frz o u)->H' b=some (.frz o u)
 tbls:∀ b ps,H b=some (.tbl ps)->∃ more,H' b=some (.tbl (ps++more))
section
variable {fs fs' ex ex':List Addr} {H H1 H2:Hp} {h h1 h2 h':Heap} {a x e:Addr} {o:HO}
theorem Un.any (u:Un fs ex H H1 h h1) {b:Addr} {ob:Obj} (q:h.get? b=some ob) (n:H b=none) (hx:b∉ex):∃ sl,h1.get? b=some { ob with slots:=sl }:=by
 by_cases hb:b∈fs
 ·exact u.slot b ob q n hb hx
 ·exact ⟨ob.slots,u.keep b ob q n hb hx⟩
theorem Un.kept (k:∀ b u,h.get? b=some u->h'.get? b=some u):Un fs ex H H h h':=
 ⟨λ b ob q _ _ _=>k b ob q,λ b ob q _ _ _=>⟨ob.slots,k b ob q⟩,λ _ _ _ n _=>n,λ b ob q _=>⟨ob,k b ob q⟩,λ _ _ q=>q,λ _ _ _ q=>q,λ _ ps q=>⟨#[],by rw [q]; simp⟩⟩
theorem Un.refl:Un fs ex H H h h:=Un.kept λ _ _ q=>q
theorem Un.laid (k:∀ b u,h.get? b=some u->h'.get? b=some u) (hp:h.objs.size<=a) (hn:H a=none):Un fs ex H (upd H a o) h h' where
 keep:=λ b u q _ _ _=>k b u q
 slot:=λ b u q _ _ _=>⟨u.slots,k b u q⟩
 free:=λ b u q n _=>by rw [aq (Eo (Ez (Ei q) hp))]; exact n
 there:=λ b u q _=>⟨u,k b u q⟩
 tups:=λ b xs q=>by rw [aq (ak q hn)]; exact q
 frzs:=λ b u xs q=>by rw [aq (ak q hn)]; exact q
 tbls:=λ b ps q=>⟨#[],by rw [aq (ak q hn),q]; simp⟩
theorem Un.write (mu:Mut (H x)) (he:e=x\/H e=some (.own x)) (k:∀ b u,b≠e->h.get? b=some u->h'.get? b=some u) (heo:∃ u,h'.get? e=some u):Un fs ex H (upd H x o) h h':=by
 have hx:∀ b,H b=none->b≠x:=λ b n z=>by subst z; rw [n] at mu; exact mu
 have hb:∀ b,H b=none->b≠e:=λ b n z=>by
  subst z
  rcases he with r | r
  ·exact hx b n r
  ·rw [n] at r; cases r
 have hm:∀ b u,H b=some u->¬ Mut (some u)->b≠x:=λ b u q nm z=>by subst z; rw [q] at mu; exact nm mu
 refine ⟨λ b u q n _ _=>k b u (hb b n) q,λ b u q n _ _=>⟨u.slots,k b u (hb b n) q⟩,λ b u q n _=>by rw [aq (hx b n)]; exact n,λ b u q _=>?_,
  λ b xs q=>by rw [aq (hm b _ q λ z=>z)]; exact q,λ b u xs q=>by rw [aq (hm b _ q λ z=>z)]; exact q,λ b ps q=>⟨#[],by rw [aq (hm b _ q λ z=>z),q]; simp⟩⟩
 by_cases hbe:b=e
 ·subst hbe; exact heo
 ·exact ⟨u,k b u hbe q⟩
end
noncomputable def trk (h:Heap) (H:Hp):List Addr:=(Eu h.objs.size).filter λ a=>(H a).isSome
noncomputable def sV (h:Heap) (H:Hp):Heap:=PySem.W.hideAll h (trk h H)
theorem pH (h:Heap) (H:Hp):(sV h H).objs.size=h.objs.size:=PySem.W.hideAll_size _ _
theorem sW {h:Heap} {H:Hp} {b:Addr} {o:Obj} (e:h.get? b=some o) (n:H b=none):(sV h H).get? b=some o:=
 PySem.W.hideAll_get _ e λ hm=>by
  have q:(H b).isSome=true:=(Fa.mp hm).2
  rw [n] at q; simp at q
theorem vY {h:Heap} {H:Hp} {b:Addr} {o:Obj} (e:(sV h H).get? b=some o):h.get? b=some o/\H b=none:=by
 have e':h.get? b=some o:=PySem.W.of_hideAll (trk h H) e
 refine ⟨e',?_⟩
 cases q:H b with
 | none=>rfl
 | some x=>
  have hm:b∈trk h H:=Fa.mpr ⟨FI.mpr (Ei e'),by simp [q]⟩
  have z:(sV h H).get? b=none:=PySem.W.hideAll_none (trk h H) hm
  rw [z] at e; cases e
noncomputable def vZ (g h:Heap) (L:Addr):List (Addr×Obj):=(Eu h.objs.size).filterMap λ a=>if a=L\/(g.get? a).isSome=true then none else (h.get? a).map λ o=>(a,o)
noncomputable def iD (g h:Heap) (L d:Addr):List (Addr×Obj):=(vZ g h L).filter λ p=>decide (p.1≠d)
structure Mod (K:Ee) (mg:Str->Option Value) (base:Heap):Prop where
 kin:K.In base
 glob:base.Ns mainGlobals mg
 blt:∃ mb,base.Ns builtinsNs mb/\∀ x:Str,x≠"__name__"->mb x=bootBuiltins x
 nolimit:base.NoLimit
/-- the context: a def's body (or a comprehension's block) running. base: fixed through the whole law; s₀,H₀: the entry; outer: the frames whose slots others may change (a def's callers); stack: all frames that run;
   ex: iterators that were made ahead of the entry and are walked here (a comprehension's); fn: the names whose cells were made at the entry (a def: all; a comprehension's block: its own); calm: not within an except suite; pn: pins that every state bears; xe: what is wanted of an exception that leaves the code -/
structure Cx where
 prog:Program
 w:World
 K:Ee
 mg:Str->Option Value
 base:Heap
 A:Around
 N:List Str
 s₀:Shared
 H₀:Hp
 env:Env
 outer:List Env
 stack:List Env
 ex:List Addr
 fn:Str->Bool
 calm:Bool
 pn:List (Addr×Obj)
 xe:Value->Shared->Prop
noncomputable def frs (l:List Env):List Addr:=l.filterMap (·.frame)
noncomputable abbrev Cx.fs (X:Cx):List Addr:=frs X.outer
noncomputable def Vis (sc:Scope) (x:Str):Prop:=sc.names.lookup x=some .local\/sc.names.lookup x=some .cell\/sc.names.lookup x=some .free
noncomputable def Loc (sc:Scope) (x:Str):Prop:=sc.names.lookup x=some .local\/sc.names.lookup x=some .cell
noncomputable def Dy (env:Env) (h:Heap) (m:Str->Option Value) (x:Str) (u:Value):Prop:=
 (env.kindOf x=some .local/\m x=some u)\/((env.kindOf x=some .cell\/env.kindOf x=some .free)/\∃ c,env.cells.lookup x=some c/\h.IsCell c (some u))
structure Cx.Ok (X:Cx):Prop where
 mod:Mod X.K X.mg X.base
 kind:X.env.scope.kind=.function
 glob:X.env.globals=mainGlobals
 blt:X.env.builtins=builtinsNs
 above:X.s₀.heap.objs.size<=X.env.locals
 inj:∀ x y c,X.env.cells.lookup x=some c->X.env.cells.lookup y=some c->x=y
 has:∀ x,(X.env.kindOf x=some .cell\/X.env.kindOf x=some .free)->∃ c,X.env.cells.lookup x=some c
 cab:∀ x c,X.fn x=true->X.env.cells.lookup x=some c->X.s₀.heap.objs.size<=c
 hd:X.calm=true->X.A.handled=none
 frames:X.A.frames=some X.stack
 stk:X.stack=X.outer\/(X.stack=X.env::X.outer/\X.env.frame=some X.env.locals)
 exf:∀ b∈X.ex,b≠X.env.locals/\∀ x c,X.env.cells.lookup x=some c->c≠b
 bs:∀ b o,X.base.get? b=some o->X.s₀.heap.get? b=some o/\X.H₀ b=none
 bsz:X.base.objs.size<=X.s₀.heap.objs.size
 noex:∀ b o,X.base.get? b=some o->b∉X.ex
 exfs:∀ b∈X.ex,b∉X.fs
 funs:X.s₀.heap.FunFrames X.base X.outer
 frf:∀ b∈X.fs,X.H₀ b=none
structure Inv (X:Cx) (pins:List (Addr×Obj)) (σ:List (Option V)) (H:Hp) (s:Shared):Prop where
 ok:X.Ok
 os:s.os=X.s₀.os
 bare:AllBare s.gens
 base:Un X.fs X.ex X.H₀ H X.s₀.heap s.heap
 loc:∃ m,s.heap.Ns X.env.locals m/\∀ (i:Nat) (x:Str) (v:V),X.N[i]? = some x->σ[i]? = some (some v)->Vis X.env.scope x->∃ u,RelV v u/\Dy X.env s.heap m x u
 cell:∀ x c,X.env.cells.lookup x=some c->∃ v,s.heap.IsCell c v
 free:H X.env.locals=none
 freeC:∀ x c,X.env.cells.lookup x=some c->H c=none
 pin:∀ p∈X.pn++pins,s.heap.get? p.1=some p.2/\H p.1=none/\p.1≠X.env.locals/\p.1∉X.fs/\∀ v,p.2.data≠.cell v
 hok:HOk X.prog X.w H s.heap
 len:σ.length=X.N.length
section
variable {X:Cx} {pins:List (Addr×Obj)} {σ:List (Option V)} {H H':Hp} {s:Shared} {h':Heap}
theorem Cx.Ok.nofr (ok:X.Ok) {b:Addr} {o:Obj} (e:X.base.get? b=some o):b∉X.fs:=λ hb=>by
 have:=(ok.funs.mem hb).1
 rw [e] at this; cases this
theorem Inv.bs (I:Inv X pins σ H s):∀ b o,X.base.get? b=some o->s.heap.get? b=some o/\H b=none:=λ b o e=>
 ⟨I.base.keep b o (I.ok.bs b o e).1 (I.ok.bs b o e).2 (I.ok.nofr e) (I.ok.noex b o e),I.base.free b o (I.ok.bs b o e).1 (I.ok.bs b o e).2 (I.ok.noex b o e)⟩
theorem Inv.bk (I:Inv X pins σ H s):∀ b o,X.base.get? b=some o->s.heap.get? b=some o:=λ b o e=>(I.bs b o e).1
theorem Inv.mod (I:Inv X pins σ H s):Mod X.K X.mg X.base:=I.ok.mod
theorem Inv.kIn (I:Inv X pins σ H s):X.K.In s.heap:=I.ok.mod.kin.keeps I.bk
theorem Inv.lt (I:Inv X pins σ H s):X.env.locals<s.heap.objs.size:=let ⟨_,hn,_⟩:=I.loc; hn.lt
theorem Inv.sz (I:Inv X pins σ H s):X.s₀.heap.objs.size<=s.heap.objs.size:=Fb I.ok.above (E5 I.lt)
theorem Inv.nofs (I:Inv X pins σ H s) {a:Addr} (h:s.heap.objs.size<=a):a∉X.fs:=λ hb=>by
 obtain ⟨_,o,ho,_⟩:=I.ok.funs.mem hb
 exact absurd (Ez (Ei ho) (Fb I.sz h)) (E7 _)
theorem Inv.cne (I:Inv X pins σ H s):∀ x c,X.env.cells.lookup x=some c->c≠X.env.locals:=λ x c e z=>by
 obtain ⟨v,o,ho,hd⟩:=I.cell x c e
 obtain ⟨m,⟨o',es,ep,ho',hd',_⟩,_⟩:=I.loc
 rw [z,ho'] at ho; cases ho; rw [hd'] at hd; cases hd
theorem Inv.funs (I:Inv X pins σ H s):s.heap.FunFrames X.base X.outer:=by
 have all:∀ (l:List Env),(∀ b∈frs l,b∈X.fs)->X.s₀.heap.FunFrames X.base l->s.heap.FunFrames X.base l:=by
  intro l
  induction l with
  | nil=>intro _ _; trivial
  | cons env r ih=>
   intro hs hl
   obtain ⟨hk,⟨L,o,hf,hn,ho,hd⟩,hr⟩:=hl
   have hL:L∈X.fs:=hs L (by unfold frs; rw [HE,hf]; exact EJ)
   obtain ⟨sl,e⟩:=I.base.slot L o ho (I.ok.frf L hL) hL λ z=>I.ok.exfs L z hL
   exact ⟨hk,⟨L,_,hf,hn,e,hd⟩,ih (λ b hb=>hs b (by unfold frs; rw [HE,hf]; exact EH _ hb)) hr⟩
 exact all X.outer (λ _ hb=>hb) I.ok.funs
theorem Inv.stack (I:Inv X pins σ H s):s.heap.FunFrames X.base X.stack:=by
 rcases I.ok.stk with e | ⟨e,hf⟩
 ·rw [e]; exact I.funs
 ·rw [e]
  obtain ⟨m,hn,_⟩:=I.loc
  refine .cons (by rw [I.ok.kind]; decide) hf hn ?_ I.funs
  exact Heap.get?_none_of_le (Fb I.ok.bsz I.ok.above)
theorem Inv.stkSub (I:Inv X pins σ H s):∀ b∈frs X.stack,b∈X.env.locals::X.fs:=λ b hb=>by
 rcases I.ok.stk with e | ⟨e,hf⟩
 ·rw [e] at hb; exact EH _ hb
 ·rw [e] at hb
  unfold frs at hb
  rw [HE,hf] at hb
  exact hb
theorem Inv.stkFree (I:Inv X pins σ H s):∀ b∈frs X.stack,H b=none:=λ b hb=>by
 rcases Er.mp (I.stkSub b hb) with e | hb
 ·rw [e]; exact I.free
 ·obtain ⟨_,o,ho,_⟩:=I.ok.funs.mem hb
  exact I.base.free b o ho (I.ok.frf b hb) λ z=>I.ok.exfs b z hb
theorem Inv.step {g':Array GenState} {t':Nat} {d':Drawn} {ch:List Addr} (I:Inv X pins σ H s)
  (hch:∀ b∈ch,(b∈X.ex\/X.s₀.heap.objs.size<=b)/\b≠X.env.locals/\(∀ x c,X.env.cells.lookup x=some c->c≠b)/\∀ p∈X.pn++pins,p.1≠b)
  (keep:∀ b o,b≠X.env.locals->b∉X.fs->b∉ch->s.heap.get? b=some o->H b=none->h'.get? b=some o)
  (slot:∀ b o,b≠X.env.locals->b∈X.fs->b∉ch->s.heap.get? b=some o->H b=none->∃ sl,h'.get? b=some { o with slots:=sl }) (free:∀ b o,b∉ch->s.heap.get? b=some o->H b=none->H' b=none)
  (there:∀ b o,b∉ch->s.heap.get? b=some o->∃ o',h'.get? b=some o')
  (tups:∀ b xs,H b=some (.tup xs)->H' b=some (.tup xs)) (frzs:∀ b o u,H b=some (.frz o u)->H' b=some (.frz o u)) (tbls:∀ b ps,H b=some (.tbl ps)->∃ more,H' b=some (.tbl (ps++more)))
  (ns:∀ m,s.heap.Ns X.env.locals m->h'.Ns X.env.locals m) (hok:HOk X.prog X.w H' h') (hg:AllBare g') :
  Inv X pins σ H' { s with heap:=h',gens:=g',drawn:=d',toks:=t' }:=by
 have neL:∀ b o,X.s₀.heap.get? b=some o->b≠X.env.locals:=λ b o e=>Eo (Ez (Ei e) I.ok.above)
 have neC:∀ b o,X.s₀.heap.get? b=some o->b∉X.ex->b∉ch:=λ b o e hx hb=>by
  rcases (hch b hb).1 with z | z
  ·exact hx z
  ·exact absurd (Ez (Ei e) z) (E7 _)
 have cellK:∀ x c,X.env.cells.lookup x=some c->∀ v,s.heap.IsCell c v->h'.IsCell c v:=λ x c e v ⟨o,ho,hd⟩=>by
  have nch:c∉ch:=λ z=>(hch c z).2.2.1 x c e rfl
  by_cases hc:c∈X.fs
  ·obtain ⟨sl,q⟩:=slot c o (I.cne x c e) hc nch ho (I.freeC x c e)
   exact ⟨_,q,hd⟩
  ·exact ⟨o,keep c o (I.cne x c e) hc nch ho (I.freeC x c e),hd⟩
 refine ⟨I.ok,I.os,hg,⟨λ b o e n hb hx=>?_,λ b o e n hb hx=>?_,λ b o e n hx=>?_,λ b o e hx=>?_,λ b xs e=>tups b xs (I.base.tups b xs e),λ b o xs e=>frzs b o xs (I.base.frzs b o xs e),λ b ps e=>?_⟩,?_,λ x c e=>?_,?_,λ x c e=>?_,λ p hp=>?_,hok,I.len⟩
 ·exact keep b o (neL b o e) hb (neC b o e hx) (I.base.keep b o e n hb hx) (I.base.free b o e n hx)
 ·obtain ⟨sl,e1⟩:=I.base.slot b o e n hb hx
  obtain ⟨sl',e2⟩:=slot b _ (neL b o e) hb (neC b o e hx) e1 (I.base.free b o e n hx)
  exact ⟨sl',e2⟩
 ·obtain ⟨o',e1⟩:=I.base.there b o e hx
  exact free b o' (neC b o e hx) e1 (I.base.free b o e n hx)
 ·obtain ⟨o',e1⟩:=I.base.there b o e hx
  exact there b o' (neC b o e hx) e1
 ·obtain ⟨m1,e1⟩:=I.base.tbls b ps e
  obtain ⟨m2,e2⟩:=tbls b _ e1
  exact ⟨m1++m2,by rw [e2,Array.append_assoc]⟩
 ·obtain ⟨m,hn,hl⟩:=I.loc
  refine ⟨m,ns m hn,λ i x v e1 e2 e3=>?_⟩
  obtain ⟨u,r,l⟩:=hl i x v e1 e2 e3
  refine ⟨u,r,?_⟩
  rcases l with l | ⟨k,c,e,z⟩
  ·exact .inl l
  ·exact .inr ⟨k,c,e,cellK x c e _ z⟩
 ·obtain ⟨v,z⟩:=I.cell x c e
  exact ⟨v,cellK x c e v z⟩
 ·obtain ⟨m,⟨o,_,_,ho,_⟩,_⟩:=I.loc
  exact free _ o (λ z=>(hch _ z).2.1 rfl) ho I.free
 ·obtain ⟨v,o,ho,hd⟩:=I.cell x c e
  exact free c o (λ z=>(hch c z).2.2.1 x c e rfl) ho (I.freeC x c e)
 ·obtain ⟨e,n,ne,nf,d⟩:=I.pin p hp
  have nch:p.1∉ch:=λ z=>(hch p.1 z).2.2.2 p hp rfl
  exact ⟨keep p.1 p.2 ne nf nch e n,free p.1 p.2 nch e n,ne,nf,d⟩
theorem Inv.un {t':Nat} (I:Inv X pins σ H s) (u:Un X.fs [] H H' s.heap h') (hok:HOk X.prog X.w H' h'):Inv X pins σ H' { s with heap:=h',toks:=t' }:=by
 obtain ⟨m,⟨o,es,ep,ho,r⟩,_⟩:=id I.loc
 obtain ⟨sl,hL⟩:=u.any ho I.free (by simp)
 exact I.step (g':=s.gens) (d':=s.drawn) (ch:=[]) (λ _ z=>nomatch z) (λ b o _ hb _ e n=>u.keep b o e n hb (by simp)) (λ b o _ hb _ e n=>u.slot b o e n hb (by simp)) (λ b o _ e n=>u.free b o e n (by simp)) (λ b o _ e=>u.there b o e (by simp)) u.tups u.frzs u.tbls (λ m' hm=>by
  obtain ⟨o',es',ep',ho',r'⟩:=hm
  rw [ho] at ho'; cases ho'
  exact ⟨_,es',ep',hL,r'⟩) hok I.bare
theorem Inv.call {g':Array GenState} {t':Nat} {d':Drawn} {ch:List Addr} (I:Inv X pins σ H s) (u:Un (frs X.stack) ch H H' s.heap h') (hok:HOk X.prog X.w H' h') (hg:AllBare g')
  (hch:∀ b∈ch,(b∈X.ex\/X.s₀.heap.objs.size<=b)/\b≠X.env.locals/\(∀ x c,X.env.cells.lookup x=some c->c≠b)/\∀ p∈X.pn++pins,p.1≠b) :
  Inv X pins σ H' { s with heap:=h',gens:=g',drawn:=d',toks:=t' }:=by
 obtain ⟨m,⟨o,es,ep,ho,r⟩,_⟩:=id I.loc
 obtain ⟨sl,hL⟩:=u.any ho I.free λ z=>(hch _ z).2.1 rfl
 exact I.step (ch:=ch) hch (λ b o hL hb hc e n=>u.keep b o e n (λ z=>(Er.mp (I.stkSub b z)).elim hL hb) hc) (λ b o _ _ hc e n=>u.any e n hc) (λ b o hc e n=>u.free b o e n hc) (λ b o hc e=>u.there b o e hc) u.tups u.frzs u.tbls (λ m' hm=>by
  obtain ⟨o',es',ep',ho',r'⟩:=hm
  rw [ho] at ho'; cases ho'
  exact ⟨_,es',ep',hL,r'⟩) hok hg
theorem Inv.turned {t':Nat} {it:Addr} (I:Inv X pins σ H s) (k:∀ b o,b≠it->s.heap.get? b=some o->h'.get? b=some o) (hn:H it=none) (hL:it≠X.env.locals)
  (h1:it∈X.ex\/X.s₀.heap.objs.size<=it) (h2:∀ x c,X.env.cells.lookup x=some c->c≠it) (h3:∀ p∈X.pn++pins,p.1≠it):Inv X pins σ H { s with heap:=h',toks:=t' }:=by
 have nit:∀ b u,H b=some u->b≠it:=λ b u e z=>by rw [z,hn] at e; cases e
 refine I.step (g':=s.gens) (d':=s.drawn) (ch:=[it]) (λ b hb=>?_) (λ b o _ _ hc e _=>k b o (λ z=>hc (by simp [z])) e) (λ b o _ _ hc e _=>⟨o.slots,k b o (λ z=>hc (by simp [z])) e⟩) (λ _ _ _ _ n=>n)
  (λ b o hc e=>⟨o,k b o (λ z=>hc (by simp [z])) e⟩) (λ _ _ e=>e) (λ _ _ _ e=>e) (λ b ps e=>⟨#[],by rw [e]; simp⟩) (λ m hm=>?_) (λ b u e=>?_) I.bare
 ·have e:b=it:=by simpa using hb
  subst e
  exact ⟨h1,hL,h2,h3⟩
 ·obtain ⟨o,es,ep,ho,r⟩:=hm
  exact ⟨o,es,ep,k _ o (Ff hL) ho,r⟩
 ·refine (I.hok b u e).stay (λ c v hc q=>k c v ?_ q) (λ _ q=>q) λ _ _ q=>q
  rcases hc with z | z
  ·rw [z]; exact nit b u e
  ·exact nit c _ z
theorem Inv.tok (I:Inv X pins σ H s) (t:Nat):Inv X pins σ H { s with toks:=t }:=I.un (h':=s.heap) (t':=t) Un.refl I.hok
theorem Inv.kept {t':Nat} (I:Inv X pins σ H s) (k:∀ b u,s.heap.get? b=some u->h'.get? b=some u):Inv X pins σ H { s with heap:=h',toks:=t' }:=I.un (Un.kept k) (I.hok.kept k)
theorem Inv.laid {a:Addr} {o:HO} {t':Nat} (I:Inv X pins σ H s) (k:∀ b u,s.heap.get? b=some u->h'.get? b=some u) (hp:s.heap.objs.size<=a) (new:ObjOk X.prog X.w (upd H a o) h' a o) :
  Inv X pins σ (upd H a o) { s with heap:=h',toks:=t' }:=I.un (Un.laid k hp (I.hok.fresh hp)) (I.hok.laid k hp new)
theorem Inv.write {x e:Addr} {o:HO} {t':Nat} (I:Inv X pins σ H s) (mu:Mut (H x)) (he:e=x\/H e=some (.own x)) (k:∀ b u,b≠e->s.heap.get? b=some u->h'.get? b=some u) (heo:∃ u,h'.get? e=some u)
  (new:ObjOk X.prog X.w (upd H x o) h' x o):Inv X pins σ (upd H x o) { s with heap:=h',toks:=t' }:=I.un (Un.write mu he k heo) (I.hok.write mu he k heo new)
theorem Inv.pins_of {pins':List (Addr×Obj)} (I:Inv X pins σ H s) (h:∀ p∈pins',s.heap.get? p.1=some p.2/\H p.1=none/\p.1≠X.env.locals/\p.1∉X.fs/\∀ v,p.2.data≠.cell v):Inv X pins' σ H s:=
 ⟨I.ok,I.os,I.bare,I.base,I.loc,I.cell,I.free,I.freeC,λ p hp=>(EX.mp hp).elim (λ z=>I.pin p (Jn _ z)) (h p),I.hok,I.len⟩
theorem nA {N:List Str} (hN:N.Nodup) {i j:Nat} {x:Str} (a:N[i]? = some x) (b:N[j]? = some x):i=j:=by
 obtain ⟨h1,e1⟩:=EE.mp a
 obtain ⟨h2,e2⟩:=EE.mp b
 exact (List.getElem_inj hN).mp (e1.trans e2.symm)
theorem pI {M:Model} {A:Around} {E:Value->Shared->Prop} {i:Nat} {x:Str} {v:V} {u:Value} {Q:Unit->Shared->Prop} (I:Inv X pins σ H s) (hN:X.N.Nodup) (hi:X.N[i]? = some x) (hx:Loc X.env.scope x) (r:RelV v u)
  (h:∀ s',Inv X pins (σ.set i (some v)) H s'->(∃ a,FT a s.heap s'.heap/\(a=X.env.locals\/X.env.cells.lookup x=some a))->Q () s') (hf:X.fn x=true\/X.env.scope.names.lookup x=some .local:=by first | exact .inl rfl | exact .inr rfl | assumption):wpAny M A (storeName X.env x u) Q E s:=by
 obtain ⟨m,hn,hl⟩:=id I.loc
 have hcls:(X.env.scope.kind == .class || (X.env.scope.kind == .module && X.env.locals != X.env.globals))=false:=by rw [I.ok.kind]; rfl
 have hiσ:i<σ.length:=by rw [I.len]; exact (EE.mp hi).1
 have cne:=I.cne
 have tracked:∀ {a:Addr} {h':Heap},(∃ o,s.heap.get? a=some o/\H a=none)->FT a s.heap h'->HOk X.prog X.w H h':=λ {a h'} ha hs b ob e=>by
  obtain ⟨_,_,hfree⟩:=ha
  refine (I.hok b ob e).stay (λ c w' hc q=>(hs.2 c ?_).trans q) (λ _ q=>q) λ _ _ q=>q
  rintro rfl
  rcases hc with rfl | hc
  ·rw [hfree] at e; cases e
  ·rw [hfree] at hc; cases hc
 rcases hx with hk | hk
 ·refine wpAny_storeName_local hk hn (λ h' hn' hs=>?_) hcls
  obtain ⟨oL,_,_,hoL,_⟩:=id hn
  refine h _ ⟨I.ok,I.os,I.bare,⟨λ b o e n hb hx=>?_,λ b o e n hb hx=>?_,I.base.free,λ b o e hx=>?_,I.base.tups,I.base.frzs,I.base.tbls⟩,⟨_,hn',λ j y v' e1 e2 e3=>?_⟩,λ y c e=>?_,I.free,I.freeC,λ p hp=>?_,tracked ⟨oL,hoL,I.free⟩ hs,by simpa using I.len⟩ ⟨_,hs,.inl rfl⟩
  ·exact (hs.2 b (Eo (Ez (Ei e) I.ok.above))).trans (I.base.keep b o e n hb hx)
  ·obtain ⟨sl,e1⟩:=I.base.slot b o e n hb hx
   exact ⟨sl,(hs.2 b (Eo (Ez (Ei e) I.ok.above))).trans e1⟩
  ·obtain ⟨o',e1⟩:=I.base.there b o e hx
   exact ⟨o',(hs.2 b (Eo (Ez (Ei e) I.ok.above))).trans e1⟩
  ·by_cases hj:j=i
   ·subst hj
    rw [hi] at e1; cases e1
    rw [Jc hiσ] at e2
    cases e2
    exact ⟨u,r,.inl ⟨hk,by simp⟩⟩
   ·rw [Jo (Ff hj)] at e2
    obtain ⟨u',r',q⟩:=hl j y v' e1 e2 e3
    refine ⟨u',r',?_⟩
    rcases q with ⟨k,e⟩ | ⟨k,c,e,z⟩
    ·refine .inl ⟨k,?_⟩
     have:y≠x:=λ e=>hj (nA hN e1 (e▸hi))
     simp [this,e]
    ·exact .inr ⟨k,c,e,z.sameBut hs (cne y c e)⟩
  ·obtain ⟨w',z⟩:=I.cell y c e
   exact ⟨w',z.sameBut hs (cne y c e)⟩
  ·obtain ⟨e,n,ne,nf,d⟩:=I.pin p hp
   exact ⟨(hs.2 p.1 ne).trans e,n,ne,nf,d⟩
 ·have hfn:X.fn x=true:=by
   rcases hf with z | z
   ·exact z
   ·rw [z] at hk; cases hk
  obtain ⟨c,hc⟩:=I.ok.has x (.inl hk)
  obtain ⟨w',z⟩:=I.cell x c hc
  refine wpAny_storeName_cell I.ok.kind hk hc z (λ h' hc' hs=>?_)
  obtain ⟨oc,hoc,hocd⟩:=id z
  refine h { s with heap:=h' } ⟨I.ok,I.os,I.bare,⟨λ b o e n hb hx=>?_,λ b o e n hb hx=>?_,I.base.free,λ b o e hx=>?_,I.base.tups,I.base.frzs,I.base.tbls⟩,⟨m,hn.sameBut hs (Ff (cne x c hc)),λ j y v' e1 e2 e3=>?_⟩,λ y c' e=>?_,I.free,I.freeC,λ p hp=>?_,tracked ⟨oc,hoc,I.freeC x c hc⟩ hs,by simpa using I.len⟩ ⟨c,hs,.inr hc⟩
  ·exact (hs.2 b (Eo (Ez (Ei e) (I.ok.cab x c hfn hc)))).trans (I.base.keep b o e n hb hx)
  ·obtain ⟨sl,e1⟩:=I.base.slot b o e n hb hx
   exact ⟨sl,(hs.2 b (Eo (Ez (Ei e) (I.ok.cab x c hfn hc)))).trans e1⟩
  ·obtain ⟨o',e1⟩:=I.base.there b o e hx
   exact ⟨o',(hs.2 b (Eo (Ez (Ei e) (I.ok.cab x c hfn hc)))).trans e1⟩
  ·by_cases hj:j=i
   ·subst hj
    rw [hi] at e1; cases e1
    rw [Jc hiσ] at e2
    cases e2
    exact ⟨u,r,.inr ⟨.inl hk,c,hc,hc'⟩⟩
   ·rw [Jo (Ff hj)] at e2
    obtain ⟨u',r',q⟩:=hl j y v' e1 e2 e3
    refine ⟨u',r',?_⟩
    rcases q with q | ⟨k,c',e,z'⟩
    ·exact .inl q
    ·refine .inr ⟨k,c',e,z'.sameBut hs ?_⟩
     rintro rfl
     exact hj (nA hN e1 (I.ok.inj _ _ _ e hc▸hi))
  ·by_cases hcc:c'=c
   ·subst hcc; exact ⟨_,hc'⟩
   ·obtain ⟨w2,z2⟩:=I.cell y c' e
    exact ⟨w2,z2.sameBut hs hcc⟩
  ·obtain ⟨e,n,ne,nf,d⟩:=I.pin p hp
   refine ⟨(hs.2 p.1 ?_).trans e,n,ne,nf,d⟩
   intro q
   rw [q,hoc] at e
   have q':oc=p.2:=EO e
   exact d w' (by rw [<-q']; exact hocd)
theorem cT {M:Model} {A:Around} {E:Value->Shared->Prop} {i:Nat} {x:Str} {v:V} {u:Value} {Q:Unit->Shared->Prop} (I:Inv X pins σ H s) (hN:X.N.Nodup) (hi:X.N[i]? = some x) (hx:Loc X.env.scope x) (r:RelV v u)
  (h:∀ s',Inv X pins (σ.set i (some v)) H s'->Q () s') (hf:X.fn x=true\/X.env.scope.names.lookup x=some .local:=by first | exact .inl rfl | exact .inr rfl | assumption):wpAny M A (storeName X.env x u) Q E s:=
 pI I hN hi hx r (λ s' I' _=>h s' I') hf
theorem Inv.call' {s':Shared} {ch:List Addr} (I:Inv X pins σ H s) (ho:s'.os=s.os) (u:Un (frs X.stack) ch H H' s.heap s'.heap) (hok:HOk X.prog X.w H' s'.heap) (hg:AllBare s'.gens)
  (hch:∀ b∈ch,(b∈X.ex\/X.s₀.heap.objs.size<=b)/\b≠X.env.locals/\(∀ x c,X.env.cells.lookup x=some c->c≠b)/\∀ p∈X.pn++pins,p.1≠b):Inv X pins σ H' s':=by
 obtain ⟨h',g',d',t',o'⟩:=s'
 have e:o'=s.os:=ho
 subst e
 exact I.call (g':=g') (t':=t') (d':=d') u hok hg hch
end
noncomputable abbrev XK:=Value->Option Addr->Hp->Prop
noncomputable abbrev St:=List (Option V)
noncomputable abbrev VK:=V->Hp->Prop
noncomputable abbrev TE:=St->Hp->VK->Prop
noncomputable abbrev TT:=St->Hp->(Bool->Hp->Prop)->Prop
noncomputable abbrev TA:=St->Hp->(List V->Hp->Prop)->Prop
structure Ends where
 nx:St->Hp->Prop
 rt:VK
 bk:St->Hp->Prop:=λ _ _=>False
 ct:St->Hp->Prop:=λ _ _=>False
noncomputable abbrev TS:=Ends->St->Hp->Prop
noncomputable def EP (X:Cx) (pins:List (Addr×Obj)) (σ:St) (Q:VK) (u:Value) (s':Shared):Prop:=∃ v H',Inv X pins σ H' s'/\RelV v u/\Q v H'
noncomputable def TP (X:Cx) (pins:List (Addr×Obj)) (σ:St) (Q:Bool->Hp->Prop) (b:Bool) (s':Shared):Prop:=∃ H',Inv X pins σ H' s'/\Q b H'
noncomputable def AP (X:Cx) (pins:List (Addr×Obj)) (σ:St) (Q:List V->Hp->Prop) (us:List Value) (s':Shared):Prop:=∃ vs H',Inv X pins σ H' s'/\Vals vs us/\Q vs H'
noncomputable def SP (X:Cx) (pins:List (Addr×Obj)) (D:Ends) (f:Flow) (s':Shared):Prop:=
 match f with
 | .next=>∃ σ' H',Inv X pins σ' H' s'/\D.nx σ' H'
 | .brk=>∃ σ' H',Inv X pins σ' H' s'/\D.bk σ' H'
 | .cont=>∃ σ' H',Inv X pins σ' H' s'/\D.ct σ' H'
 | .ret u=>∃ v σ' H',Inv X pins σ' H' s'/\RelV v u/\D.rt v H'
noncomputable def PE (X:Cx) (e:Expr) (t:TE):Prop:=
 ∀ (pins:List (Addr×Obj)) (s:Shared) (σ:St) (H:Hp) (Q:VK),Inv X pins σ H s->t σ H Q->wpAny (model X.prog X.w) X.A (eval e X.env) (EP X pins σ Q) X.xe s
noncomputable def PT (X:Cx) (e:Expr) (t:TT):Prop:=
 ∀ (pins:List (Addr×Obj)) (s:Shared) (σ:St) (H:Hp) (Q:Bool->Hp->Prop),Inv X pins σ H s->t σ H Q->wpAny (model X.prog X.w) X.A (isTrue e X.env (eval e X.env)) (TP X pins σ Q) X.xe s
noncomputable def PW (X:Cx) (e:Expr) (t:TT):Prop:=
 ∀ (whole:Sem Value) (pins:List (Addr×Obj)) (s:Shared) (σ:St) (H:Hp) (Q:Bool->Hp->Prop),Inv X pins σ H s->t σ H Q->wpAny (model X.prog X.w) X.A (isTrue e X.env whole) (TP X pins σ Q) X.xe s
theorem PW.pt {X:Cx} {e:Expr} {t:TT} (h:PW X e t):PT X e t:=h _
noncomputable def PA (X:Cx) (es:List Expr) (t:TA):Prop:=
 ∀ (pos:Pos) (pins:List (Addr×Obj)) (s:Shared) (σ:St) (H:Hp) (Q:List V->Hp->Prop),Inv X pins σ H s->t σ H Q->wpAny (model X.prog X.w) X.A (spliced (backTo pos (starEach es X.env))) (AP X pins σ Q) X.xe s
noncomputable def PS (X:Cx) (st:Stmt) (t:TS):Prop:=
 ∀ (pins:List (Addr×Obj)) (s:Shared) (σ:St) (H:Hp) (D:Ends),Inv X pins σ H s->t D σ H->wpAny (model X.prog X.w) X.A (exec st X.env) (SP X pins D) X.xe s
noncomputable def PSs (X:Cx) (st:List Stmt) (t:TS):Prop:=
 ∀ (pins:List (Addr×Obj)) (s:Shared) (σ:St) (H:Hp) (D:Ends),Inv X pins σ H s->t D σ H->wpAny (model X.prog X.w) X.A (execs st X.env) (SP X pins D) X.xe s
theorem thn {α:Type} {t:Sem α} {Q Q':α->Shared->Prop} {M:Model} {A:Around} {E:Value->Shared->Prop} {s:Shared} (h:wpAny M A t Q E s) (hQ:∀ a s,Q a s->Q' a s):wpAny M A t Q' E s:=wpAny_mono h hQ λ _ _ x=>x
section
variable {X:Cx}
noncomputable def Bm (i:Nat):TE:=λ σ H Q=>∃ v,σ[i]? = some (some v)/\Q v H
noncomputable def tC (v:V):TE:=λ _ H Q=>Q v H
theorem yA {i:Nat} {x:Str} {pos:Pos} (hN:X.N[i]? = some x) (hv:Vis X.env.scope x) (hd:(x == ("__debug__" : Str))=false:=by decide) (hcd:(x == ("__classdict__" : Str))=false:=by decide):PE X (.Name x pos) (Bm i):=by
 intro pins s σ H Q I h
 obtain ⟨v,e,h⟩:=h
 obtain ⟨m,hn,hl⟩:=I.loc
 obtain ⟨u,r,l⟩:=hl i x v hN e hv
 have fin:EP X pins σ Q u s:=⟨v,H,I,r,h⟩
 rcases l with ⟨hk,hm⟩ | ⟨hk,c,hc,hcell⟩
 ·exact wpAny_Name (wpAny_loadName_local I.ok.kind hk hn hm fin) hd
 ·rcases hk with hk | hk
  ·exact wpAny_Name (wpAny_loadName_cell I.ok.kind hk hc hcell fin) hd
  ·exact wpAny_Name (wpAny_loadName_free I.ok.kind hk hc hcell fin hcd) hd
theorem vh {i j pos}:PE X (.Constant (.int i) j pos) (tC (.int i)):=λ _ _ _ H _ I h=>wpAny_Constant_int ⟨.int i,H,I.tok _,⟨_,rfl⟩,h⟩
theorem Bn {b j pos}:PE X (.Constant (.bool b) j pos) (tC (.bl b)):=λ _ _ _ H _ I h=>Constant_bool ⟨.bl b,H,I,rfl,h⟩
theorem yB {j pos}:PE X (.Constant .none j pos) (tC .non):=λ _ _ _ H _ I h=>Constant_none ⟨.non,H,I,rfl,h⟩
theorem yC {x j pos}:PE X (.Constant (.str x) j pos) (tC (.str x)):=λ _ _ _ H _ I h=>Calls.Constant_str ⟨.str x,H,I.tok _,⟨_,rfl⟩,h⟩
noncomputable def Gl (X:Cx) (x:Str):Prop:=X.env.kindOf x=some .globalImplicit
theorem pJ {E:Value->Shared->Prop} {pins:List (Addr×Obj)} {s:Shared} {σ:St} {H:Hp} {x:Str} {u:Value} {pos:Pos} {Q:Value->Shared->Prop} (I:Inv X pins σ H s) (hg:Gl X x) (hm:X.mg x=some u) (h:Q u s)
  (hd:(x == ("__debug__" : Str))=false:=by decide):wpAny (model X.prog X.w) X.A (eval (.Name x pos) X.env) Q E s:=
 HZ I.ok.kind hg (Calls.loadGlobal_global (by rw [I.ok.glob]; exact I.mod.glob.keeps I.bk) hm h) hd
theorem eG {E:Value->Shared->Prop} {pins:List (Addr×Obj)} {s:Shared} {σ:St} {H:Hp} {x:Str} {u:Value} {pos:Pos} {Q:Value->Shared->Prop} (I:Inv X pins σ H s) (hg:Gl X x) (hm:X.mg x=none) (hv:bootBuiltins x=some u) (h:Q u s)
  (hn:x≠"__name__":=by decide) (hd:(x == ("__debug__" : Str))=false:=by decide):wpAny (model X.prog X.w) X.A (eval (.Name x pos) X.env) Q E s:=by
 obtain ⟨mb,h1,h2⟩:=I.mod.blt
 exact HZ I.ok.kind hg (Calls.loadGlobal_builtin (by rw [I.ok.glob]; exact I.mod.glob.keeps I.bk) hm (by rw [I.ok.blt]; exact h1.keeps I.bk) ((h2 x hn).trans hv) h) hd
theorem v9 {x:Str} {v:V} {u:Value} {pos:Pos} (hg:Gl X x) (hm:X.mg x=some u) (r:RelV v u) (hd:(x == ("__debug__" : Str))=false:=by decide):PE X (.Name x pos) (tC v):=
 λ _ _ _ H _ I h=>pJ I hg hm ⟨v,H,I,r,h⟩ hd
theorem wa {x:Str} {v:V} {u:Value} {pos:Pos} (hg:Gl X x) (hm:X.mg x=none) (hv:bootBuiltins x=some u) (r:RelV v u) (hn:x≠"__name__":=by decide) (hd:(x == ("__debug__" : Str))=false:=by decide):PE X (.Name x pos) (tC v):=
 λ _ _ _ H _ I h=>eG I hg hm hv ⟨v,H,I,r,h⟩ hn hd
variable {a b:Expr} {ta tb:TE} {pos:Pos}
noncomputable def tB (t:TE):TT:=λ σ H Q=>t σ H λ x H1=>∃ c,x=.bl c/\Q c H1
theorem yD {e:Expr} {t:TE} (h:PE X e t) (he:∀ whole,isTrue e X.env whole=(do let v <-whole; standAt e.pos; holding [v] (truthy v)):=by intro _; rfl):PT X e (tB t):=by
 intro pins s σ H Q I hw
 refine isTrue_plain (thn (h pins s σ H _ I hw) λ v s1 ⟨x,H1,I1,r1,q1⟩=>?_) (he _)
 obtain ⟨d,rfl,q⟩:=q1
 cases r1
 exact wpAny_truthy_bool ⟨H1,I1,q⟩
variable {tA tB':TT} {iD:List Expr}
noncomputable def Bo (t u:TT):TT:=λ σ H Q=>t σ H λ c H1=>if c=true then u σ H1 Q else Q false H1
noncomputable def tOr (t u:TT):TT:=λ σ H Q=>t σ H λ c H1=>if c=true then Q true H1 else u σ H1 Q
noncomputable def Bp (t:TT):TT:=λ σ H Q=>t σ H λ c H1=>Q (!c) H1
theorem wb (ha:PT X a tA):PW X (.BoolOp .And [a] pos) tA:=by
 intro wh pins s σ H Q I h
 refine isTrue_and (thn (ha pins s σ H Q I h) λ c s1 e=>?_)
 cases c with
 | true=>exact isTrue_and_nil e
 | false=>exact e
theorem yE (ha:PT X a tA):PW X (.BoolOp .Or [a] pos) tA:=by
 intro wh pins s σ H Q I h
 refine isTrue_or (thn (ha pins s σ H Q I h) λ c s1 e=>?_)
 cases c with
 | false=>exact isTrue_or_nil e
 | true=>exact e
theorem yF (ha:PT X a tA) (hb:PW X (.BoolOp .And (b::iD) pos) tB'):PW X (.BoolOp .And (a::b::iD) pos) (Bo tA tB'):=by
 intro wh pins s σ H Q I h
 refine isTrue_and (thn (ha pins s σ H _ I h) λ c s1 ⟨H1,I1,q1⟩=>?_)
 cases c with
 | true=>exact hb wh pins s1 σ H1 Q I1 q1
 | false=>exact ⟨H1,I1,q1⟩
theorem Bq (ha:PT X a tA) (hb:PW X (.BoolOp .Or (b::iD) pos) tB'):PW X (.BoolOp .Or (a::b::iD) pos) (tOr tA tB'):=by
 intro wh pins s σ H Q I h
 refine isTrue_or (thn (ha pins s σ H _ I h) λ c s1 ⟨H1,I1,q1⟩=>?_)
 cases c with
 | true=>exact ⟨H1,I1,q1⟩
 | false=>exact hb wh pins s1 σ H1 Q I1 q1
theorem yG (ha:PT X a tA):PT X (.UnaryOp .Not a pos) (Bp tA):=by
 intro pins s σ H Q I h
 exact isTrue_not (ha pins s σ H (λ c H1=>Q (!c) H1) I h)
noncomputable def wc (ta tb:TE):TE:=λ σ H Q=>ta σ H λ x H1=>∃ c,x=.bl c/\if c=true then tb σ H1 Q else Q (.bl false) H1
noncomputable def we (ta:TE):TE:=λ σ H Q=>ta σ H λ x H1=>∃ c,x=.bl c/\Q (.bl (!c)) H1
theorem yH {op} {t:TE} (h:PE X a t):PE X (.BoolOp op [a] pos) t:=λ pins s σ H Q I hw=>BoolOp_one (h pins s σ H Q I hw)
theorem yI (ha:PE X a ta) (hb:PE X (.BoolOp .And (b::iD) pos) tb):PE X (.BoolOp .And (a::b::iD) pos) (wc ta tb):=by
 intro pins s σ H Q I h
 refine BoolOp_and (thn (ha pins s σ H _ I h) λ v s1 ⟨x,H1,I1,r1,q1⟩=>?_)
 obtain ⟨c,rfl,q1⟩:=q1
 cases r1
 refine wpAny_truthy_bool ?_
 cases c with
 | true=>exact hb pins s1 σ H1 Q I1 q1
 | false=>exact ⟨.bl false,H1,I1,rfl,q1⟩
theorem yJ (ha:PE X a ta):PE X (.UnaryOp .Not a pos) (we ta):=by
 intro pins s σ H Q I h
 refine UnaryOp_ (thn (ha pins s σ H _ I h) λ v s1 ⟨x,H1,I1,r1,q1⟩=>?_)
 obtain ⟨c,rfl,q1⟩:=q1
 cases r1
 exact not_of (wpAny_truthy_bool ⟨.bl (!c),H1,I1,rfl,q1⟩)
end
noncomputable def SqL (K:Ee) (H:Hp) (a:Addr) (xs:List V):Prop:=
 Rd H a (.lst xs)\/
  ∃ (o:Obj) (its:Array Value) (n:Nat),K.lookup a=some o/\o.cls=.type "list"/\o.dict=none/\o.data=.seq its n/\its.size<=sizeLine/\Vals xs its.toList
noncomputable def SqT (K:Ee) (H:Hp) (a:Addr) (xs:List V):Prop:=
 Rd H a (.tup xs)\/
  ∃ (o:Obj) (its:Array Value) (n:Nat),K.lookup a=some o/\o.cls=.type "tuple"/\o.data=.seq its n/\its.size<=sizeLine/\Vals xs its.toList
noncomputable def Dz:Value->Option V
 | .none=>some .non
 | .bool b=>some (.bl b)
 | .int i _=>some (.int i)
 | .str x _=>some (.str x)
 | .bytes b _=>some (.byt b)
 | .float b _=>some (.flt b)
 | .ref a=>some (.ref a)
 | .type n=>some (.ty n)
 | _=>none
theorem RelV.abs {x:V} {u:Value} (r:RelV x u):Dz u=some x:=by
 cases x with
 | non=>cases r; rfl
 | bl _=>cases r; rfl
 | int _=>obtain ⟨t,rfl⟩:=r; rfl
 | str _=>obtain ⟨t,rfl⟩:=r; rfl
 | byt _=>obtain ⟨t,rfl⟩:=r; rfl
 | flt _=>obtain ⟨t,rfl⟩:=r; rfl
 | ref _=>cases r; rfl
 | ty _=>cases r; rfl
theorem RelV.inj {x y:V} {u:Value} (r:RelV x u) (q:RelV y u):x=y:=EO (r.abs.symm.trans q.abs)
theorem Vals.inj:∀ {xs ys:List V} {us:List Value},Vals xs us->Vals ys us->xs=ys
 | _,_,_,.nil,.nil=>rfl
 | _,_,_,.cons r t,.cons r' t'=>by rw [r.inj r',Vals.inj t t']
section
variable {X:Cx} {pins:List (Addr×Obj)} {σ:St} {H:Hp} {s:Shared} {a:Addr} {xs ys:List V}
theorem SqL.of {K:Ee} (h:H a=some (.lst xs)):SqL K H a xs:=.inl (.inl h)
theorem SqT.of {K:Ee} (h:H a=some (.tup xs)):SqT K H a xs:=.inl (.inl h)
theorem Inv.list (I:Inv X pins σ H s) (h:SqL X.K H a xs):∃ its:List Value,Vals xs its/\PlainL s.heap a its.toArray/\xs.length<=sizeLine:=by
 rcases h with h | ⟨o,its,n,hk,hc,hd,hs,hz,r⟩
 ·obtain ⟨z,its,n,r,e⟩:=h.ok I.hok
  exact ⟨its,r,⟨_,n,e,rfl,rfl,rfl⟩,z⟩
 ·refine ⟨its.toList,r,⟨o,n,I.kIn a o hk,hc,hd,by simpa using hs⟩,?_⟩
  have e:=r.length
  simp only [FD] at e
  lia
theorem Inv.tuple (I:Inv X pins σ H s) (h:SqT X.K H a xs):∃ its:List Value,Vals xs its/\IsTup s.heap a its.toArray/\xs.length<=sizeLine:=by
 rcases h with h | ⟨o,its,n,hk,hc,hs,hz,r⟩
 ·obtain ⟨z,its,r,p⟩:=h.ok I.hok
  exact ⟨its,r,p,z⟩
 ·refine ⟨its.toList,r,⟨o,I.kIn a o hk,hc,n,by simpa using hs⟩,?_⟩
  have e:=r.length
  simp only [FD] at e
  lia
theorem Inv.list_inj (I:Inv X pins σ H s) (h:SqL X.K H a xs) (h':SqL X.K H a ys):xs=ys:=by
 obtain ⟨its,r,⟨o,n,e,_,_,d⟩,_⟩:=I.list h
 obtain ⟨its',r',⟨o',n',e',_,_,d'⟩,_⟩:=I.list h'
 rw [e] at e'; cases e'
 rw [d] at d'
 injection d' with d1 _
 have:its=its':=by simpa using congrArg Lz d1
 subst this
 exact r.inj r'
theorem Inv.tuple_inj (I:Inv X pins σ H s) (h:SqT X.K H a xs) (h':SqT X.K H a ys):xs=ys:=by
 obtain ⟨its,r,⟨o,e,_,n,d⟩,_⟩:=I.tuple h
 obtain ⟨its',r',⟨o',e',_,n',d'⟩,_⟩:=I.tuple h'
 rw [e] at e'; cases e'
 rw [d] at d'
 injection d' with d1 _
 have:its=its':=by simpa using congrArg Lz d1
 subst this
 exact r.inj r'
end
noncomputable abbrev Cx.wish (X:Cx) (E:Value->Shared->Prop):Cx:={ X with xe:=E }
noncomputable abbrev Cx.nox (X:Cx):Cx:=X.wish λ _ _=>False
theorem Cx.Ok.wish {X:Cx} (ok:X.Ok) (E:Value->Shared->Prop):(X.wish E).Ok:=
 ⟨ok.mod,ok.kind,ok.glob,ok.blt,ok.above,ok.inj,ok.has,ok.cab,ok.hd,ok.frames,ok.stk,ok.exf,ok.bs,ok.bsz,ok.noex,ok.exfs,ok.funs,ok.frf⟩
theorem Cx.Ok.unwish {X:Cx} {E:Value->Shared->Prop} (ok:(X.wish E).Ok):X.Ok:=
 ⟨ok.mod,ok.kind,ok.glob,ok.blt,ok.above,ok.inj,ok.has,ok.cab,ok.hd,ok.frames,ok.stk,ok.exf,ok.bs,ok.bsz,ok.noex,ok.exfs,ok.funs,ok.frf⟩
section
variable {X:Cx} {pins:List (Addr×Obj)} {σ:St} {H:Hp} {s:Shared} {E:Value->Shared->Prop}
theorem Inv.wish (I:Inv X pins σ H s) (E:Value->Shared->Prop):Inv (X.wish E) pins σ H s:=⟨I.ok.wish E,I.os,I.bare,I.base,I.loc,I.cell,I.free,I.freeC,I.pin,I.hok,I.len⟩
theorem Inv.unwish (I:Inv (X.wish E) pins σ H s):Inv X pins σ H s:=⟨I.ok.unwish,I.os,I.bare,I.base,I.loc,I.cell,I.free,I.freeC,I.pin,I.hok,I.len⟩
theorem SP.unwish {D:Ends} {f:Flow} {s':Shared} (h:SP (X.wish E) pins D f s'):SP X pins D f s':=by
 cases f with
 | next=>obtain ⟨σ',H',I,q⟩:=h; exact ⟨σ',H',I.unwish,q⟩
 | brk=>obtain ⟨σ',H',I,q⟩:=h; exact ⟨σ',H',I.unwish,q⟩
 | cont=>obtain ⟨σ',H',I,q⟩:=h; exact ⟨σ',H',I.unwish,q⟩
 | ret u=>obtain ⟨v,σ',H',I,r,q⟩:=h; exact ⟨v,σ',H',I.unwish,r,q⟩
theorem PSs.nox {st:List Stmt} {t:TS} (h:PSs X.nox st t):PSs X st t:=λ pins s σ H D I hw=>
 wpAny_mono (h pins s σ H D (I.wish _) hw) (λ _ _ q=>q.unwish) λ _ _ z=>FU z
end
section
variable {X:Cx} {st:Stmt} {iD:List Stmt} {t u:TS} {e:Expr} {te:TE} {pos:Pos}
noncomputable def wf:TS:=λ D σ H=>D.nx σ H
noncomputable def Br (t u:TS):TS:=λ D σ H=>t { D with nx:=u D } σ H
theorem wg:PSs X [] wf:=λ _ _ σ H _ I h=>wpAny_execs_nil ⟨σ,H,I,h⟩
theorem sX (h1:PS X st t) (h2:PSs X iD u):PSs X (st::iD) (Br t u):=by
 intro pins s σ H D I h
 refine wpAny_execs_cons (thn (h1 pins s σ H { D with nx:=u D } I h) λ f s1 q=>?_)
 cases f with
 | next=>
  obtain ⟨σ',H',I',q⟩:=q
  exact h2 pins s1 σ' H' D I' q
 | ret v=>exact q
 | brk=>exact q
 | cont=>exact q
theorem wj (h1:PS X st t):PSs X [st] t:=by
 intro pins s σ H D I h
 refine wpAny_execs_cons (thn (h1 pins s σ H D I h) λ f s1 q=>?_)
 cases f with
 | next=>exact wpAny_execs_nil q
 | ret v=>exact q
 | brk=>exact q
 | cont=>exact q
theorem Inv.quiet {pins:List (Addr×Obj)} {σ:St} {H:Hp} {s:Shared} (I:Inv X pins σ H s):interactive X.env=false:=by simp [interactive,I.ok.kind]
noncomputable def wk (te:TE):TS:=λ D σ H=>te σ H λ _ H1=>D.nx σ H1
theorem wl (he:PE X e te) (hs:swapsWith e none pos.line X.env=pure false:=by rfl):PS X (.Expr e pos) (wk te):=by
 intro pins s σ H D I h
 exact wpAny_Expr_any (thn (he pins s σ H _ I h) λ v s1 ⟨x,H1,I1,r1,q1⟩=>⟨σ,H1,I1,q1⟩) I.quiet hs
noncomputable def Bs (te:TE):TS:=λ D σ H=>te σ H D.rt
theorem yK (he:PE X e te):PS X (.Return (some e) pos) (Bs te):=by
 intro pins s σ H D I h
 exact wpAny_Return_some (thn (he pins s σ H _ I h) λ v s1 ⟨x,H1,I1,r1,q1⟩=>⟨x,σ,H1,I1,r1,q1⟩)
noncomputable def Bt (c:TT) (t u:TS):TS:=λ D σ H=>c σ H λ b H1=>if b=true then t D σ H1 else u D σ H1
theorem Bu {c:Expr} {a b:List Stmt} {tc:TT} (hc:PT X c tc) (ha:PSs X a t) (hb:PSs X b u):PS X (.If c a b pos) (Bt tc t u):=by
 intro pins s σ H D I h
 refine wpAny_If (thn (hc pins s σ H _ I h) λ d s1 ⟨H1,I1,q1⟩=>?_)
 cases d with
 | true=>exact ha pins s1 σ H1 D I1 q1
 | false=>exact hb pins s1 σ H1 D I1 q1
noncomputable def vi:TS:=λ _ _ _=>False
theorem sY:PS X st vi:=λ _ _ _ _ _ _ h=>h.elim
end
noncomputable abbrev TG:=V->St->Hp->(St->Hp->Prop)->Prop
noncomputable abbrev TGs:=List V->St->Hp->(St->Hp->Prop)->Prop
noncomputable def PG (X:Cx) (target:Expr) (t:TG):Prop:=
 ∀ (pins:List (Addr×Obj)) (s:Shared) (σ:St) (H:Hp) (v:V) (u:Value) (Q:St->Hp->Prop),Inv X pins σ H s->RelV v u->t v σ H Q->
  wpAny (model X.prog X.w) X.A (assign target X.env u) (λ _ s'=>∃ σ' H',Inv X pins σ' H' s'/\Q σ' H') X.xe s
noncomputable def PGs (X:Cx) (ts:List Expr) (t:TGs):Prop:=
 ∀ (pins:List (Addr×Obj)) (s:Shared) (σ:St) (H:Hp) (vs:List V) (us:List Value) (Q:St->Hp->Prop),Inv X pins σ H s->Vals vs us->t vs σ H Q->
  wpAny (model X.prog X.w) X.A (assignInOrder ((assignEach ts X.env).map (·.2)) us) (λ _ s'=>∃ σ' H',Inv X pins σ' H' s'/\Q σ' H') X.xe s
noncomputable abbrev wm:=V->V->V->Hp->(Hp->Prop)->Prop
noncomputable def Bv (X:Cx) (t:wm):Prop:=
 ∀ (pins:List (Addr×Obj)) (s:Shared) (σ:St) (H:Hp) (o i v:V) (ov iv u:Value) (Q:Hp->Prop),Inv X pins σ H s->RelV o ov->RelV i iv->RelV v u->t o i v H Q->
  wpAny (model X.prog X.w) X.A (setItem ov iv u) (λ _ s'=>∃ H',Inv X pins σ H' s'/\Q H') X.xe s
noncomputable abbrev TIp:=V->V->Hp->VK->Prop
noncomputable def PIp (X:Cx) (op:Operator) (t:TIp):Prop:=
 ∀ (pins:List (Addr×Obj)) (s:Shared) (σ:St) (H:Hp) (x y:V) (v u:Value) (Q:VK),Inv X pins σ H s->RelV x v->RelV y u->t x y H Q->
  wpAny (model X.prog X.w) X.A (inplaceOp op v u) (EP X pins σ Q) X.xe s
section
variable {X:Cx} {pos:Pos}
noncomputable def fq (i:Nat):TG:=λ v σ H Q=>Q (σ.set i (some v)) H
theorem wn {i:Nat} {x:Str} (hN:X.N.Nodup) (hi:X.N[i]? = some x) (hx:Loc X.env.scope x) (hf:X.fn x=true\/X.env.scope.names.lookup x=some .local:=by first | exact .inl rfl | exact .inr rfl | assumption):PG X (.Name x pos) (fq i):=by
 intro pins s σ H v u Q I r h
 exact wpAny_assign_Name (cT I hN hi hx r (λ s' I'=>⟨_,H,I',h⟩) hf)
noncomputable def AV:TGs:=λ vs σ H Q=>vs=[]/\Q σ H
noncomputable def mC (t:TG) (u:TGs):TGs:=λ vs σ H Q=>∃ v r,vs=v::r/\t v σ H λ σ' H'=>u r σ' H' Q
theorem wo:PGs X [] AV:=by
 intro pins s σ H vs us Q I r h
 obtain ⟨e,h⟩:=h
 subst e
 cases r
 exact assignInOrder_nil ⟨σ,H,I,h⟩
theorem sZ {e:Expr} {es:List Expr} {t:TG} {u:TGs} (h1:PG X e t) (h2:PGs X es u)
  (hs:(assignEach (e::es) X.env).map (·.2)=assign e X.env::(assignEach es X.env).map (·.2):=by rfl):PGs X (e::es) (mC t u):=by
 intro pins s σ H vs us Q I r h
 obtain ⟨v,vr,e1,h⟩:=h
 subst e1
 cases r with
 | cons r rr=>
  rw [hs]
  refine assignInOrder_cons (thn (h1 pins s σ H _ _ _ I r h) λ _ s1 ⟨σ1,H1,I1,q1⟩=>?_)
  exact h2 pins s1 σ1 H1 _ _ Q I1 rr q1
noncomputable def AW (K:Ee) (n:Nat) (t:TGs):TG:=λ v σ H Q=>∃ a xs,v=.ref a/\SqT K H a xs/\xs.length=n/\t xs σ H Q
theorem yL {es:List Expr} {k:Nat} {t:TGs} {n:Nat} (hc:X.calm=true) (h:PGs X es t)
  (hn:(assignEach es X.env).length=n:=by rfl) (hst:(assignEach es X.env).findIdx? (·.1)=none:=by rfl):PG X (.Tuple es k pos) (AW X.K n t):=by
 intro pins s σ H v u Q I r hw
 obtain ⟨a,xs,e1,hq,hl,hw⟩:=hw
 subst e1
 cases r
 obtain ⟨its,rv,ht,hz⟩:=I.tuple hq
 refine assign_Tuple_tuple (I.ok.hd hc) ht (by simp [hn,<-hl,rv.length]) hst λ h' hx=>?_
 have I1:Inv X pins σ H { s with heap:=h' }:=I.kept (t':=s.toks) λ b o e=>hx b o (Eo (Ei e)) e
 exact h pins _ σ H xs _ Q I1 (by simpa using rv) hw
noncomputable def Bw (to ti:TE) (t:wm):TG:=λ v σ H Q=>to σ H λ o H1=>ti σ H1 λ i H2=>t o i v H2 λ H3=>Q σ H3
theorem yM {o i:Expr} {to ti:TE} {t:wm} (ho:PE X o to) (hi:PE X i ti) (hs:Bv X t)
  (ha:∀ v,assign (.Subscript o i pos) X.env v=(do
   let ov <-holding [v] (eval o X.env)
   let iv <-holding [v,ov] (eval i X.env)
   standAt pos
   holding [v,ov,iv] (setItem ov iv v)
   release [v,ov,iv] []):=by intro _; rfl):PG X (.Subscript o i pos) (Bw to ti t):=by
 intro pins s σ H v u Q I r h
 rw [ha]
 refine wpAny_bind (wpAny_holding (thn (ho pins s σ H _ I h) λ ov s1 ⟨x,H1,I1,r1,q1⟩=>?_))
 refine wpAny_bind (wpAny_holding (thn (hi pins s1 σ H1 _ I1 q1) λ iv s2 ⟨y,H2,I2,r2,q2⟩=>?_))
 refine wpAny_bind (wpAny_standAt (wpAny_bind (wpAny_holding (thn (hs pins s2 σ H2 x y v ov iv u _ I2 r1 r2 r q2) λ _ s3 ⟨H3,I3,q3⟩=>?_))))
 exact wpAny_release ⟨σ,H3,I3,q3⟩
noncomputable def pD (te:TE) (g:TG):TS:=λ D σ H=>te σ H λ x H1=>g x σ H1 D.nx
theorem vj {tg e:Expr} {te:TE} {g:TG} (he:PE X e te) (hg:PG X tg g) (hs:swapsWithSole [tg] e pos.line X.env=pure false:=by rfl) (hw:swappedStores [tg] e X.env=pure none:=by rfl)
  (h1:(assignEach [tg] X.env).map (·.2)=[assign tg X.env]:=by rfl):PS X (.Assign [tg] e pos) (pD te g):=by
 intro pins s σ H D I h
 refine wpAny_Assign_stores (thn (he pins s σ H _ I h) λ v s1 ⟨x,H1,I1,r1,q1⟩=>?_) hs hw
 rw [h1]
 exact thn (hg pins s1 σ H1 x v _ I1 r1 q1) λ _ s2 q=>q
theorem yN {i:Nat} {x:Str} {e:Expr} {te:TE} {pos':Pos} (hN:X.N.Nodup) (hi:X.N[i]? = some x) (hx:Loc X.env.scope x) (he:PE X e te) (hs:swapsWith e (some (.Name x pos')) pos.line X.env=pure false:=by rfl) (hf:X.fn x=true\/X.env.scope.names.lookup x=some .local:=by first | exact .inl rfl | exact .inr rfl | assumption) :
  PS X (.Assign [.Name x pos'] e pos) (pD te (fq i)):=by
 intro pins s σ H D I h
 refine wpAny_Assign_Name (thn (he pins s σ H _ I h) λ v s1 ⟨y,H1,I1,r1,q1⟩=>?_) hs
 exact cT I1 hN hi hx r1 (λ s2 I2=>⟨_,H1,I2,q1⟩) hf
noncomputable def Bx (i j:Nat) (ta:TA):TS:=λ D σ H=>ta σ H λ vs H1=>∃ v w,vs=[v,w]/\D.nx ((σ.set i (some v)).set j (some w)) H1
theorem yO {i j:Nat} {x y:Str} {a b:Expr} {ta:TA} {px py pt:Pos} {kt k2 pt2} (hc:X.calm=true) (hN:X.N.Nodup) (hi:X.N[i]? = some x) (hj:X.N[j]? = some y) (hij:i≠j)
  (hx:X.env.scope.names.lookup x=some .local) (hy:X.env.scope.names.lookup y=some .local) (ha:PA X [a,b] ta)
  (hw:swappedStores [.Tuple [.Name x px,.Name y py] kt pt] (.Tuple [a,b] k2 pt2) X.env=pure (some [x,y]))
  (hs:swapsWithSole [.Tuple [.Name x px,.Name y py] kt pt] (.Tuple [a,b] k2 pt2) pos.line X.env=pure false:=by rfl) :
  PS X (.Assign [.Tuple [.Name x px,.Name y py] kt pt] (.Tuple [a,b] k2 pt2) pos) (Bx i j ta):=by
 intro pins s σ H D I h
 rw [exec_Assign_arm]
 refine wpAny_bind (wpAny_standAt ?_)
 rw [hs]
 refine wpAny_bind (wpAny_pure ?_)
 rw [if_neg (by decide)]
 refine wpAny_bind (Tuple_ (thn (ha _ pins s σ H _ I h) λ us s1 ⟨vs,H1,I1,r1,q1⟩=>?_))
 obtain ⟨v,w,e1,q1⟩:=q1
 subst e1
 obtain ⟨u1,u2,rfl,rv,rw'⟩:∃ u1 u2,us=[u1,u2]/\RelV v u1/\RelV w u2:=by
  cases r1 with
  | cons p q=>
   cases q with
   | cons p' q'=>
    cases q'
    exact ⟨_,_,rfl,p,p'⟩
 refine wpAny_newObj_type ?_ (by show 2<=sizeLine; decide)
 have I2:Inv X pins σ H1 { s1 with heap:=s1.heap.push { cls:=.type "tuple",data:=.seq [u1,u2].toArray } }:=I1.kept (t':=s1.toks) λ b o e=>Ec _ e
 rw [hw]
 refine wpAny_bind (wpAny_pure ?_)
 show wpAny (model X.prog X.w) X.A (do rule "assign.swapped-stores"; let items <-unpackItems (.ref s1.heap.objs.size) 2 none; assignInOrder [λ v=>bindName X.env y v,λ v=>bindName X.env x v] items.reverse; pure Mp) _ _ _
 refine wpAny_bind (wpAny_rule (wpAny_bind (unpackItems_tuple (items:=#[u1,u2]) (I.ok.hd hc) (K5 s1.heap _) λ h' hx'=>?_)))
 have I3:=I2.kept (h':=h') (t':=s1.toks) λ b o e=>hx' b o (Eo (Ei e)) e
 show wpAny _ _ (assignInOrder [λ v=>bindName X.env y v,λ v=>bindName X.env x v] [u2,u1] >>= λ _=>pure Mp) _ _ _
 refine wpAny_bind (assignInOrder_cons (wpAny_bindName (cT I3 hN hj (.inl hy) rw' (λ s2 I4=>?_) (.inr hy))))
 refine assignInOrder_cons (wpAny_bindName (cT I4 hN hi (.inl hx) rv (λ s3 I5=>assignInOrder_nil (wpAny_pure ?_)) (.inr hx)))
 rw [List.set_comm _ _ (Ff hij)] at I5
 exact ⟨_,H1,I5,q1⟩
noncomputable def By (i:Nat) (te:TE) (ti:TIp):TS:=λ D σ H=>∃ x,σ[i]? = some (some x)/\te σ H λ y H1=>ti x y H1 λ z H2=>D.nx (σ.set i (some z)) H2
theorem yP {i:Nat} {x:Str} {e:Expr} {te:TE} {op:Operator} {ti:TIp} {pos':Pos} (hN:X.N.Nodup) (hi:X.N[i]? = some x) (hx:Loc X.env.scope x) (he:PE X e te) (ho:PIp X op ti) (hf:X.fn x=true\/X.env.scope.names.lookup x=some .local:=by first | exact .inl rfl | exact .inr rfl | assumption) :
  PS X (.AugAssign (.Name x pos') op e pos) (By i te ti):=by
 intro pins s σ H D I h
 obtain ⟨v,e1,h⟩:=h
 obtain ⟨m,hn,hl⟩:=I.loc
 have vis:Vis X.env.scope x:=by rcases hx with k | k; exact .inl k; exact .inr (.inl k)
 obtain ⟨u,r,l⟩:=hl i x v hi e1 vis
 refine wpAny_AugAssign_Name ?_
 have go:wpAny (model X.prog X.w) X.A (eval e X.env) (λ w s₂=>wpAny (model X.prog X.w) X.A (inplaceOp op u w) (λ r s₃=>wpAny (model X.prog X.w) X.A (storeName X.env x r) (λ _=>SP X pins D .next) X.xe s₃) X.xe s₂) X.xe s:=by
  refine thn (he pins s σ H _ I h) λ w s1 ⟨y,H1,I1,r1,q1⟩=>?_
  refine thn (ho pins s1 σ H1 v y u w _ I1 r r1 q1) λ z s2 ⟨zv,H2,I2,r2,q2⟩=>?_
  exact cT I2 hN hi hx r2 (λ s3 I3=>⟨_,H2,I3,q2⟩) hf
 rcases l with ⟨hk,hm⟩ | ⟨hk,c,hc,hcell⟩
 ·exact wpAny_loadName_local I.ok.kind hk hn hm go
 ·rcases hk with hk | hk
  ·exact wpAny_loadName_cell I.ok.kind hk hc hcell go
  ·rcases hx with k | k
   ·have:X.env.scope.names.lookup x=some .free:=hk
    rw [k] at this; cases this
   ·have:X.env.scope.names.lookup x=some .free:=hk
    rw [k] at this; cases this
noncomputable def tj (to ti te:TE) (tget:V->V->Hp->VK->Prop) (tip:TIp) (tset:wm):TS:=λ D σ H=>to σ H λ o H1=>ti σ H1 λ i H2=>tget o i H2 λ x H3=>te σ H3 λ y H4=>tip x y H4 λ z H5=>tset o i z H5 λ H6=>D.nx σ H6
noncomputable def Bz (X:Cx) (t:V->V->Hp->VK->Prop):Prop:=
 ∀ (pins:List (Addr×Obj)) (s:Shared) (σ:St) (H:Hp) (o i:V) (ov iv:Value) (Q:VK),Inv X pins σ H s->RelV o ov->RelV i iv->t o i H Q->
  wpAny (model X.prog X.w) X.A (getItem ov iv) (EP X pins σ Q) X.xe s
theorem pK {o i e:Expr} {to ti te:TE} {tget:V->V->Hp->VK->Prop} {tip:TIp} {tset:wm} {op:Operator} {tpos:Pos} (ho:PE X o to) (hi:PE X i ti) (hg:Bz X tget) (he:PE X e te) (hp:PIp X op tip) (hs:Bv X tset)
  (ha:∀ ov iv new,augStore i ov iv new=(do holding [new,ov,iv] (setItem ov iv new); release [new,ov,iv] []; pure .next):=by intros; rfl):PS X (.AugAssign (.Subscript o i tpos) op e pos) (tj to ti te tget tip tset):=by
 intro pins s σ H D I h
 refine wpAny_AugAssign_SubscriptAny (thn (ho pins s σ H _ I h) λ ov s1 ⟨x1,H1,I1,r1,q1⟩=>?_) ha
 refine thn (hi pins s1 σ H1 _ I1 q1) λ iv s2 ⟨x2,H2,I2,r2,q2⟩=>?_
 refine thn (hg pins s2 σ H2 x1 x2 ov iv _ I2 r1 r2 q2) λ old s3 ⟨x3,H3,I3,r3,q3⟩=>?_
 refine thn (he pins s3 σ H3 _ I3 q3) λ v s4 ⟨x4,H4,I4,r4,q4⟩=>?_
 refine thn (hp pins s4 σ H4 x3 x4 old v _ I4 r3 r4 q4) λ new s5 ⟨x5,H5,I5,r5,q5⟩=>?_
 exact thn (hs pins s5 σ H5 x1 x2 x5 ov iv new _ I5 r1 r2 r5 q5) λ _ s6 ⟨H6,I6,q6⟩=>⟨σ,H6,I6,q6⟩
noncomputable def ipI (f:Int->Int->Int):TIp:=λ x y H Q=>∃ i j,x=.int i/\y=.int j/\Q (.int (f i j)) H
theorem vm:PIp X .Add (ipI λ i j=>i+j):=by
 intro pins s σ H x y v u Q I r1 r2 h
 obtain ⟨i,j,e1,e2,q⟩:=h
 subst e1; subst e2
 obtain ⟨t,rfl⟩:=r1
 obtain ⟨t',rfl⟩:=r2
 exact iadd_int ⟨.int _,H,I.tok _,⟨_,rfl⟩,q⟩
end
section
variable {X:Cx} {pos:Pos}
noncomputable def vn (c:TT) (tb:TS):TS:=λ D σ H=>∃ W:Nat->St->Hp->Prop,(∃ m,W m σ H)/\∀ m σ H,W m σ H->
 c σ H λ b H1=>if b=true then ∃ N:St->Hp->Prop,(∀ σ' H',N σ' H'->∃ m',m'<m/\W m' σ' H')/\tb { D with nx:=N,ct:=N,bk:=D.nx } σ H1 else D.nx σ H1
theorem tw {c:Expr} {body:List Stmt} {tc:TT} {tb:TS} (hp:PassesOwn (model X.prog X.w) X.A X.env X.xe) (hc:PT X c tc) (hb:PSs X body tb):PS X (.While c body [] pos) (vn tc tb):=by
 intro pins s σ H D I h
 obtain ⟨W,⟨m0,w0⟩,turn⟩:=h
 refine wpAny_While (codeAny_whileLoop (λ n s'=>∃ σ' H',Inv X pins σ' H' s'/\W n σ' H') ?_ m0 ⟨σ,H,I,w0⟩)
 rintro n s1 ⟨σ1,H1,I1,w1⟩
 refine wpAny_passesOwn hp (thn (hc pins s1 σ1 H1 _ I1 (turn n σ1 H1 w1)) λ b s2 ⟨H2,I2,q2⟩=>?_)
 cases b with
 | true=>
  obtain ⟨N,hN,q2⟩:=q2
  rw [if_pos rfl]
  refine wpAny_passesOwn hp (thn (hb pins s2 σ1 H2 _ I2 q2) λ f s3 q3=>?_)
  cases f with
  | next=>
   obtain ⟨σ3,H3,I3,n3⟩:=q3
   obtain ⟨m',hm,w3⟩:=hN σ3 H3 n3
   exact ⟨m',hm,σ3,H3,I3,w3⟩
  | cont=>
   obtain ⟨σ3,H3,I3,n3⟩:=q3
   obtain ⟨m',hm,w3⟩:=hN σ3 H3 n3
   exact ⟨m',hm,σ3,H3,I3,w3⟩
  | brk=>exact q3
  | ret v=>exact q3
 | false=>
  rw [if_neg EF]
  exact wpAny_execs_nil ⟨σ1,H2,I2,q2⟩
end
structure It where
 go:Nat->Hp->Prop
 yld:Nat->Hp->V->Hp->Prop
 stop:Nat->Hp->Prop
noncomputable def mt (X:Cx) (pins:List (Addr×Obj)) (H:Hp) (b:Addr):Prop:=
 H b=none/\b≠X.env.locals/\b∉X.fs/\(b∈X.ex\/X.s₀.heap.objs.size<=b)/\(∀ x c,X.env.cells.lookup x=some c->c≠b)/\∀ p∈X.pn++pins,p.1≠b
theorem Inv.fpOk {X:Cx} {pins:List (Addr×Obj)} {σ:St} {H H':Hp} {s:Shared} {b:Addr} (I:Inv X pins σ H s) (hb:s.heap.objs.size<=b) (hn:H' b=none):mt X pins H' b:=by
 refine ⟨hn,ES (Ez I.lt hb),I.nofs hb,.inr (Fb I.sz hb),λ x c e z=>?_,λ p hp z=>?_⟩
 ·obtain ⟨v,q⟩:=I.cell x c e
  exact absurd (Ez q.lt (by rw [z]; exact hb)) (E7 _)
 ·exact absurd (Ez (Ei (I.pin p hp).1) (by rw [z]; exact hb)) (E7 _)
structure Turn (P:Program) (w:World) (K:Ee) (tg:Expr) (J:It) (fp:List Addr) (it:Addr) (tn:Nat->Heap->Prop):Prop where
 mem:it∈fp
 obj:∀ i h,tn i h->∀ b∈fp,∃ o,h.get? b=some o/\∀ v,o.data≠.cell v
 keep:∀ i h h',tn i h->(∀ b∈fp,∀ o,h.get? b=some o->h'.get? b=some o)->tn i h'
 item:∀ (X:Cx),X.prog=P->X.w=w->X.K=K->X.calm=true->∀ (i:Nat) (pins:List (Addr×Obj)) (s:Shared) (σ:St) (H:Hp) (E:Value->Shared->Prop),Inv X pins σ H s->(∀ b∈fp,mt X pins H b)->tn i s.heap->J.go i H->
  wpAny (model P w) X.A (pyNext (.ref it)) (λ r s1=>∃ u,r=some u/\
   wpAny (model P w) X.A (letOwnedTupleGo tg (.ref it) u) (λ _ s2=>∃ x H',Inv X pins σ H' s2/\RelV x u/\J.yld i H x H'/\tn (i+1) s2.heap/\∀ b∈fp,H' b=none) E s1) E s
 done:∀ (X:Cx),X.prog=P->X.w=w->X.K=K->X.calm=true->∀ (i:Nat) (pins:List (Addr×Obj)) (s:Shared) (σ:St) (H:Hp) (E:Value->Shared->Prop),Inv X pins σ H s->(∀ b∈fp,mt X pins H b)->tn i s.heap->J.stop i H->
  wpAny (model P w) X.A (pyNext (.ref it)) (λ r s1=>r=none/\Inv X pins σ H s1) E s
 self:∀ (A:Around) (i:Nat) (s:Shared) (Q:Value->Shared->Prop) (E:Value->Shared->Prop),tn i s.heap->Q (.ref it) s->wpAny (model P w) A (pyIter (.ref it)) Q E s
noncomputable abbrev TI:=St->Hp->(It->Hp->Prop)->Prop
noncomputable def PIE (X:Cx) (pins:List (Addr×Obj)) (σ:St) (tg:Expr) (R:It->Hp->Prop) (itv:Value) (s2:Shared):Prop:=
 ∃ (it:Addr) (fp:List Addr) (tn:Nat->Heap->Prop) (J:It) (H':Hp),itv=.ref it/\Inv X pins σ H' s2/\Turn X.prog X.w X.K tg J fp it tn/\tn 0 s2.heap/\(∀ b∈fp,mt X pins H' b)/\R J H'
noncomputable def PI (X:Cx) (tg iter:Expr) (wi:TI):Prop:=
 ∀ (pins:List (Addr×Obj)) (s:Shared) (σ:St) (H:Hp) (R:It->Hp->Prop),Inv X pins σ H s->wi σ H R->
  wpAny (model X.prog X.w) X.A (eval iter X.env) (λ v s1=>wpAny (model X.prog X.w) X.A (pyIter v) (PIE X pins σ tg R) X.xe s1) X.xe s
theorem mD {M:Model} {A:Around} {E:Value->Shared->Prop} {s:Shared} {tg:Expr} {it:Addr} {u:Value} {o:Obj} {n:String} {vs:Array Value} {Q:Unit->Shared->Prop} (ho:s.heap.get? it=some o) (hc:o.cls=.type n) (hd:o.data=.fields vs)
    (hn:["enumerate","zip","dict_itemiterator","dict_reverseitemiterator","odict_iterator","itertools.zip_longest","itertools.pairwise"].contains n=false) (hQ:Q () s):wpAny M A (letOwnedTupleGo tg (.ref it) u) Q E s:=by
  unfold letOwnedTupleGo
  cases tg<;>first
    | exact wpAny_pure hQ
    | (cases u<;>first
        | exact wpAny_pure hQ
        | (refine wpAny_bind (wpAny_load ho ?_)
           rw [hc,hd]
           show wpAny M A (if (["enumerate","zip","dict_itemiterator","dict_reverseitemiterator","odict_iterator","itertools.zip_longest","itertools.pairwise"].contains n && vs[0]? == some (rawInt _))=true then _ else _) Q E s
           rw [if_neg (by intro h; rw [hn,Bool.false_and] at h; cases h)]
           exact wpAny_pure hQ))
noncomputable def Itl (K:Ee) (a:Addr):It:=
 ⟨λ i H=>∃ xs x,SqL K H a xs/\xs[i]? = some x,λ i H x H'=>H'=H/\∀ xs,SqL K H a xs->xs[i]? = some x,λ i H=>∃ xs,SqL K H a xs/\xs.length<=i⟩
noncomputable def Itt (K:Ee) (a:Addr):It:=
 ⟨λ i H=>∃ xs x,SqT K H a xs/\xs[i]? = some x,λ i H x H'=>H'=H/\∀ xs,SqT K H a xs->xs[i]? = some x,λ i H=>∃ xs,SqT K H a xs/\xs.length<=i⟩
noncomputable def Itr (lo:Int) (n:Nat):It:=⟨λ i _=>i<n,λ i H x H'=>H'=H/\x=.int (lo+i),λ i _=>n<=i⟩
theorem pL {P:Program} {w:World} {K:Ee} {tg:Expr} (a it:Addr):Turn P w K tg (Itl K a) [it] it (λ i h=>h.IsListIter it a i) where
 mem:=by simp
 obj:=λ i h st b hb=>by
  have e:b=it:=by simpa using hb
  subst e
  obtain ⟨o,e,c,d⟩:=st
  exact ⟨o,e,λ v z=>by rw [d] at z; cases z⟩
 keep:=λ i h h' st k=>st.at λ o e=>k it (by simp) o e
 item:=by
  intro X hP hw hK hc i pins s σ H E I hf st hg
  subst hP hw hK
  obtain ⟨xs,x,hq,hx⟩:=hg
  obtain ⟨its,rv,p,hz⟩:=I.list hq
  obtain ⟨u,hu,ru⟩:=rv.get hx
  obtain ⟨f0,f1,f2,f3,f4,f5⟩:=hf it (by simp)
  refine wpAny_pyNext_list_item st p.isList (x:=u) (by simpa using hu) λ h' st' sb=>?_
  have I1:Inv X pins σ H { s with heap:=h' }:=I.turned (t':=s.toks) (λ b o hb e=>(sb.2 b hb).trans e) f0 f1 f3 f4 f5
  obtain ⟨o,e,c,d⟩:=id st'
  exact ⟨u,rfl,mD (s:={ s with heap:=h' }) e c d (by decide) ⟨x,H,I1,ru,⟨rfl,λ ys hy=>by rw [I.list_inj hy hq]; exact hx⟩,st',λ b hb=>(hf b hb).1⟩⟩
 done:=by
  intro X hP hw hK hc i pins s σ H E I hf st hg
  subst hP hw hK
  obtain ⟨xs,hq,hx⟩:=hg
  obtain ⟨its,rv,p,hz⟩:=I.list hq
  obtain ⟨f0,f1,f2,f3,f4,f5⟩:=hf it (by simp)
  have hl:=rv.length
  exact wpAny_pyNext_list_end (I.ok.hd hc) st p.isList (by simp; lia) λ h' eb=>⟨rfl,I.turned (t':=s.toks) (λ b o hb e=>eb b o hb e) f0 f1 f3 f4 f5⟩
 self:=λ _ _ _ _ _ st h=>wpAny_pyIter_listiter st h
theorem oK {P:Program} {w:World} {K:Ee} {tg:Expr} (a it:Addr):Turn P w K tg (Itt K a) [it] it (λ i h=>h.IsTupleIter it a i) where
 mem:=by simp
 obj:=λ i h st b hb=>by
  have e:b=it:=by simpa using hb
  subst e
  obtain ⟨o,e,c,d⟩:=st
  exact ⟨o,e,λ v z=>by rw [d] at z; cases z⟩
 keep:=λ i h h' st k=>st.at λ o e=>k it (by simp) o e
 item:=by
  intro X hP hw hK hc i pins s σ H E I hf st hg
  subst hP hw hK
  obtain ⟨xs,x,hq,hx⟩:=hg
  obtain ⟨its,rv,p,hz⟩:=I.tuple hq
  obtain ⟨u,hu,ru⟩:=rv.get hx
  obtain ⟨f0,f1,f2,f3,f4,f5⟩:=hf it (by simp)
  refine wpAny_pyNext_tuple_item st (show s.heap.IsTuple a its.toArray from p) (x:=u) (by simpa using hu) λ h' st' sb=>?_
  have I1:Inv X pins σ H { s with heap:=h' }:=I.turned (t':=s.toks) (λ b o hb e=>(sb.2 b hb).trans e) f0 f1 f3 f4 f5
  obtain ⟨o,e,c,d⟩:=id st'
  exact ⟨u,rfl,mD (s:={ s with heap:=h' }) e c d (by decide) ⟨x,H,I1,ru,⟨rfl,λ ys hy=>by rw [I.tuple_inj hy hq]; exact hx⟩,st',λ b hb=>(hf b hb).1⟩⟩
 done:=by
  intro X hP hw hK hc i pins s σ H E I hf st hg
  subst hP hw hK
  obtain ⟨xs,hq,hx⟩:=hg
  obtain ⟨its,rv,p,hz⟩:=I.tuple hq
  obtain ⟨f0,f1,f2,f3,f4,f5⟩:=hf it (by simp)
  have hl:=rv.length
  exact wpAny_pyNext_tuple_end (I.ok.hd hc) st (show s.heap.IsTuple a its.toArray from p) (by simp; lia) λ h' eb=>⟨rfl,I.turned (t':=s.toks) (λ b o hb e=>eb b o hb e) f0 f1 f3 f4 f5⟩
 self:=λ _ _ _ _ _ st h=>wpAny_pyIter_tupleiter st h
theorem oM {P:Program} {w:World} {K:Ee} {tg:Expr} (it:Addr) (lo:Int) (n:Nat):Turn P w K tg (Itr lo n) [it] it (λ i h=>IsRangeIter h it (lo+(i:Nat)*1) ((n:Int) - (i:Nat)) 1) where
 mem:=by simp
 obj:=λ i h st b hb=>by
  have e:b=it:=by simpa using hb
  subst e
  exact ⟨_,st,λ v z=>by
   have z':Ki _=K6 v:=z
   cases z'⟩
 keep:=λ i h h' st k=>k it (by simp) _ st
 item:=by
  intro X hP hw hK hc i pins s σ H E I hf st hg
  subst hP hw hK
  obtain ⟨f0,f1,f2,f3,f4,f5⟩:=hf it (by simp)
  have W:=Kj (prog:=X.prog) (w:=X.w) (I.ok.hd hc) it lo 1 n
  refine W.item i s _ _ hg st λ v h' tk hv st' kk=>?_
  obtain ⟨t,rfl⟩:=hv
  have I1:Inv X pins σ H { s with heap:=h',toks:=tk }:=I.turned (λ b o hb e=>kk b o (by simpa using hb) e) f0 f1 f3 f4 f5
  refine ⟨_,rfl,mD (s:={ s with heap:=h',toks:=tk }) (n:="range_iterator") st' rfl rfl (by decide) ⟨.int (lo+i),H,I1,⟨t,?_⟩,⟨rfl,rfl⟩,st',λ b hb=>(hf b hb).1⟩⟩
  rw [L1]
 done:=by
  intro X hP hw hK hc i pins s σ H E I hf st hg
  subst hP hw hK
  obtain ⟨f0,f1,f2,f3,f4,f5⟩:=hf it (by simp)
  exact wpAny_pyNext_range_end (I.ok.hd hc) st (by have:n<=i:=hg; lia) λ h' eb=>⟨rfl,I.turned (t':=s.toks) (λ b o hb e=>eb b o hb e) f0 f1 f3 f4 f5⟩
 self:=λ _ _ _ _ _ st h=>wpAny_pyIter_rangeiter st h
section
variable {X:Cx} {tg:Expr}
noncomputable def wq (K:Ee) (tl:TE):TI:=λ σ H R=>tl σ H λ x H1=>∃ a,x=.ref a/\(∃ xs,SqL K H1 a xs)/\R (Itl K a) H1
noncomputable def BA (K:Ee) (tl:TE):TI:=λ σ H R=>tl σ H λ x H1=>∃ a,x=.ref a/\(∃ xs,SqT K H1 a xs)/\R (Itt K a) H1
theorem wt {l:Expr} {tl:TE} (hl:PE X l tl):PI X tg l (wq X.K tl):=by
 intro pins s σ H R I h
 refine thn (hl pins s σ H _ I h) λ v s1 ⟨x,H1,I1,r1,q1⟩=>?_
 obtain ⟨a,e,⟨xs,hq⟩,q⟩:=q1
 subst e
 cases r1
 obtain ⟨its,rv,p,hz⟩:=I1.list hq
 refine wpAny_pyIter_list p.isList ?_
 refine ⟨s1.heap.objs.size,[s1.heap.objs.size],_,_,H1,rfl,I1.kept (t':=s1.toks) λ b o e=>Ec _ e,pL a _,⟨_,Ek _ rfl,rfl,rfl⟩,λ b hb=>?_,q⟩
 have e:b=s1.heap.objs.size:=by simpa using hb
 subst e
 exact I1.fpOk (Eh _) (I1.hok.fresh (Eh _))
theorem yQ {l:Expr} {tl:TE} (hl:PE X l tl):PI X tg l (BA X.K tl):=by
 intro pins s σ H R I h
 refine thn (hl pins s σ H _ I h) λ v s1 ⟨x,H1,I1,r1,q1⟩=>?_
 obtain ⟨a,e,⟨xs,hq⟩,q⟩:=q1
 subst e
 cases r1
 obtain ⟨its,rv,p,hz⟩:=I1.tuple hq
 refine wpAny_pyIter_tuple (show s1.heap.IsTuple a its.toArray from p) ?_
 refine ⟨s1.heap.objs.size,[s1.heap.objs.size],_,_,H1,rfl,I1.kept (t':=s1.toks) λ b o e=>Ec _ e,oK a _,⟨_,Ek _ rfl,rfl,rfl⟩,λ b hb=>?_,q⟩
 have e:b=s1.heap.objs.size:=by simpa using hb
 subst e
 exact I1.fpOk (Eh _) (I1.hok.fresh (Eh _))
theorem tD {pins:List (Addr×Obj)} {σ:St} {H:Hp} {s:Shared} {R:It->Hp->Prop} {E:Value->Shared->Prop} {lo hi:Int} {t u v:Tok} {tk:Nat} (I:Inv X pins σ H s) (h1:-(2 ^ 62)<=lo) (h2:lo<2 ^ 62) (h3:-(2 ^ 62)<=hi) (h4:hi<2 ^ 62)
  (q:R (Itr lo (hi - lo).toNat) H):wpAny (model X.prog X.w) X.A (pyIter (.ref s.heap.objs.size)) (PIE X pins σ tg R) E { s with heap:=s.heap.push { cls:=.type "range",data:=.fields #[.int lo t,.int hi u,.int 1 v] },toks:=tk }:=by
 refine wpAny_pyIter_range (Kk ..) (small_one h1 h2 h3 h4) ?_
 have I1:Inv X pins σ H { s with heap:=s.heap.push { cls:=.type "range",data:=.fields #[.int lo t,.int hi u,.int 1 v] },toks:=tk }:=I.kept λ b o e=>Ec _ e
 refine ⟨(s.heap.push { cls:=.type "range",data:=.fields #[.int lo t,.int hi u,.int 1 v] }).objs.size,[(s.heap.push { cls:=.type "range",data:=.fields #[.int lo t,.int hi u,.int 1 v] }).objs.size],_,_,H,rfl,
  I1.kept (t':=tk) λ b o e=>Ec _ e,oM _ lo (hi - lo).toNat,?_,λ b hb=>?_,q⟩
 ·have e1:lo+((0:Nat):Int)*1=lo:=by simp
  have e2:(((hi - lo).toNat:Nat):Int) - ((0:Nat):Int)=Fx lo hi 1:=by rw [rangeSize_one]; split<;>lia
  show IsRangeIter _ _ (lo+((0:Nat):Int)*1) ((((hi - lo).toNat:Nat):Int) - ((0:Nat):Int)) 1
  rw [e1,e2]
  exact Ek _ rfl
 ·have e:b=(s.heap.push { cls:=.type "range",data:=.fields #[.int lo t,.int hi u,.int 1 v] }).objs.size:=by simpa using hb
  subst e
  exact I1.fpOk (Eh _) (I1.hok.fresh (Eh _))
noncomputable def wu (ta:TA):TI:=λ σ H R=>ta σ H λ vs H1=>∃ j:Int,vs=[.int j]/\-(2 ^ 62)<=j/\j<2 ^ 62/\R (Itr 0 j.toNat) H1
theorem pM {a:Expr} {ta:TA} {p pos:Pos} (hg:Gl X "range") (hm:X.mg "range" = none) (ha:PA X [a] ta) (hs:starEach [a] X.env=[(false,eval a X.env)]:=by rfl):PI X tg (.Call (.Name "range" p) [a] [] pos) (wu ta):=by
 intro pins s σ H R I h
 refine Call_ (eG I hg hm boot_range (Fk (thn (ha pos pins s σ H _ I h) λ us s1 ⟨vs,H1,I1,r1,q1⟩=>?_) hs rfl))
 obtain ⟨j,e,q1,q2,q⟩:=q1
 subst e
 cases r1 with
 | cons r rr=>
  cases rr
  obtain ⟨t,rfl⟩:=r
  exact call_range_1 (tD I1 (by lia) (by lia) q1 q2 (by simpa using q))
noncomputable def BB (wi:TI) (g:TG) (tb:TS):TS:=λ D σ H=>wi σ H λ J H1=>∃ W:Nat->Nat->St->Hp->Prop,(∃ m,W 0 m σ H1)/\∀ i m σ H,W i m σ H->
 (J.stop i H/\D.nx σ H)\/(J.go i H/\∃ N:St->Hp->Prop,(∀ σ' H',N σ' H'->∃ m',m'<m/\W (i+1) m' σ' H')/\∀ x H',J.yld i H x H'->g x σ H' λ σ2 H2=>tb { D with nx:=N,ct:=N,bk:=D.nx } σ2 H2)
noncomputable def nB (fp:List Addr) (h:Heap):List (Addr×Obj):=fp.filterMap λ b=>(h.get? b).map λ o=>(b,o)
theorem aD {fp:List Addr} {h:Heap} {b:Addr} {o:Obj} (hb:b∈fp) (e:h.get? b=some o):(b,o)∈nB fp h:=JG.mpr ⟨b,hb,by rw [e]; rfl⟩
theorem pN {fp:List Addr} {h:Heap} {p:Addr×Obj} (hp:p∈nB fp h):p.1∈fp/\h.get? p.1=some p.2:=by
 obtain ⟨b,hb,e⟩:=JG.mp hp
 cases q:h.get? b with
 | none=>rw [q] at e; cases e
 | some o=>
  rw [q] at e
  have e':(b,o)=p:=EO e
  subst e'
  exact ⟨hb,q⟩
theorem Inv.pinned {pins:List (Addr×Obj)} {σ:St} {H:Hp} {s:Shared} {fp:List Addr} (I:Inv X pins σ H s) (hf:∀ b∈fp,mt X pins H b) (ho:∀ b∈fp,∃ o,s.heap.get? b=some o/\∀ v,o.data≠.cell v):Inv X (pins++nB fp s.heap) σ H s:=
 I.pins_of λ p hp=>(EX.mp hp).elim (λ z=>I.pin p (Eg _ z)) λ z=>by
  obtain ⟨hb,e⟩:=pN z
  obtain ⟨f0,f1,f2,_⟩:=hf p.1 hb
  obtain ⟨o,e',d⟩:=ho p.1 hb
  rw [e] at e'; cases e'
  exact ⟨e,f0,f1,f2,d⟩
theorem Inv.unpinned {pins pl:List (Addr×Obj)} {σ:St} {H:Hp} {s:Shared} (I:Inv X (pins++pl) σ H s):Inv X pins σ H s:=I.pins_of λ p hp=>I.pin p (Eg _ (Jn _ hp))
theorem yR {iter:Expr} {body:List Stmt} {wi:TI} {g:TG} {tb:TS} {pos:Pos} (hp:PassesOwn (model X.prog X.w) X.A X.env X.xe) (hc:X.calm=true) (hi:PI X tg iter wi) (hg:PG X tg g) (hb:PSs X body tb)
  (hs:∀ x,foldedSetIterable iter X.env x=pure x:=by intro _; rfl):PS X (.For tg iter body [] pos) (BB wi g tb):=by
 intro pins s σ H D I h
 refine wpAny_For (thn (hi pins s σ H _ I h) λ v s1 h1=>thn h1 λ itv s2 h2=>?_) hs
 obtain ⟨it,fp,tn,J,H2,e,I2,T,st2,f2,W,⟨m0,w0⟩,turn⟩:=h2
 subst e
 -- what stays true of the iterator's objects through the loop
 have stat:∀ {H':Hp},(∀ b∈fp,H' b=none)->∀ b∈fp,mt X pins H' b:=λ hn b hb=>⟨hn b hb,(f2 b hb).2⟩
 refine codeAny_forLoop_any (λ n s'=>∃ i σ' H',Inv X pins σ' H' s'/\tn i s'.heap/\(∀ b∈fp,H' b=none)/\W i n σ' H') ?_ m0 ⟨0,σ,H2,I2,st2,λ b hb=>(f2 b hb).1,w0⟩
 rintro n s3 ⟨i,σ3,H3,I3,st3,fr3,w3⟩
 rcases turn i n σ3 H3 w3 with ⟨stop,qn⟩ | ⟨go,N,hN,step⟩
 ·refine wpAny_passesOwn hp (thn (T.done X rfl rfl rfl hc i pins s3 σ3 H3 X.xe I3 (stat fr3) st3 stop) λ r s4 ⟨hr,I4⟩=>?_)
  subst hr
  exact wpAny_execs_nil ⟨σ3,H3,I4,qn⟩
 ·refine wpAny_passesOwn hp (thn (T.item X rfl rfl rfl hc i pins s3 σ3 H3 X.xe I3 (stat fr3) st3 go) λ r s4 ⟨u,hr,h4⟩=>?_)
  subst hr
  refine wpAny_passesOwn hp (thn h4 λ _ s5 ⟨x,H5,I5,r5,y5,st5,fr5⟩=>?_)
  have I5':=I5.pinned (stat fr5) (T.obj _ _ st5)
  refine wpAny_passesOwn hp (thn (hg _ s5 σ3 H5 x u _ I5' r5 (step x H5 y5)) λ _ s6 ⟨σ6,H6,I6,q6⟩=>?_)
  refine wpAny_passesOwn hp (thn (hb _ s6 σ6 H6 _ I6 q6) λ f s7 q7=>?_)
  have again:∀ {σ7:St} {H7:Hp},Inv X (pins++nB fp s5.heap) σ7 H7 s7->N σ7 H7->∃ m,m<n/\∃ i σ' H',Inv X pins σ' H' s7/\tn i s7.heap/\(∀ b∈fp,H' b=none)/\W i m σ' H':=λ {σ7 H7} I7 n7=>by
   obtain ⟨m',hm,w7⟩:=hN σ7 H7 n7
   refine ⟨m',hm,i+1,σ7,H7,I7.unpinned,T.keep _ _ _ st5 λ b hb o e=>(I7.pin (b,o) (Eg _ (Eg _ (aD hb e)))).1,λ b hb=>?_,w7⟩
   obtain ⟨o,e,d⟩:=T.obj _ _ st5 b hb
   exact (I7.pin (b,o) (Eg _ (Eg _ (aD hb e)))).2.1
  cases f with
  | next=>obtain ⟨σ7,H7,I7,n7⟩:=q7; exact again I7 n7
  | cont=>obtain ⟨σ7,H7,I7,n7⟩:=q7; exact again I7 n7
  | brk=>obtain ⟨σ7,H7,I7,q7⟩:=q7; exact ⟨σ7,H7,I7.unpinned,q7⟩
  | ret v=>obtain ⟨x7,σ7,H7,I7,r7,q7⟩:=q7; exact ⟨x7,σ7,H7,I7.unpinned,r7,q7⟩
end
theorem dz {K:Ee} {a:Addr} {xs:List V} {g:TG} {tb:TS} {D:Ends} {σ:St} {H:Hp} (Pv:Nat->St->Hp->Prop) (h0:Pv 0 σ H) (hl:∀ i σ H,i<=xs.length->Pv i σ H->SqL K H a xs)
  (hs:∀ i x σ H,xs[i]? = some x->Pv i σ H->g x σ H λ σ2 H2=>tb { D with nx:=Pv (i+1),ct:=Pv (i+1),bk:=D.nx } σ2 H2) (hd:∀ σ H,Pv xs.length σ H->D.nx σ H) :
  ∃ W:Nat->Nat->St->Hp->Prop,(∃ m,W 0 m σ H)/\∀ i m σ H,W i m σ H->
   ((Itl K a).stop i H/\D.nx σ H)\/((Itl K a).go i H/\∃ N:St->Hp->Prop,(∀ σ' H',N σ' H'->∃ m',m'<m/\W (i+1) m' σ' H')/\∀ x H',(Itl K a).yld i H x H'->g x σ H' λ σ2 H2=>tb { D with nx:=N,ct:=N,bk:=D.nx } σ2 H2):=by
 refine ⟨λ i m σ H=>m=xs.length - i/\i<=xs.length/\Pv i σ H,⟨xs.length,by simp,EI _,h0⟩,?_⟩
 rintro i m σ H ⟨rfl,hi,p⟩
 have q:=hl i σ H hi p
 by_cases hlt:i<xs.length
 ·refine .inr ⟨⟨xs,xs[i],q,by simp [hlt]⟩,Pv (i+1),λ σ' H' p'=>⟨xs.length - (i+1),by lia,rfl,hlt,p'⟩,λ x H' y=>?_⟩
  obtain ⟨e,y⟩:=y
  subst e
  exact hs i x σ _ (y xs q) p
 ·have e:i=xs.length:=by lia
  subst e
  exact .inl ⟨⟨xs,q,Eh _⟩,hd σ H p⟩
theorem pO {K:Ee} {a:Addr} {xs:List V} {g:TG} {tb:TS} {D:Ends} {σ:St} {H:Hp} (Pv:Nat->St->Hp->Prop) (h0:Pv 0 σ H) (hl:∀ i σ H,i<=xs.length->Pv i σ H->SqT K H a xs)
  (hs:∀ i x σ H,xs[i]? = some x->Pv i σ H->g x σ H λ σ2 H2=>tb { D with nx:=Pv (i+1),ct:=Pv (i+1),bk:=D.nx } σ2 H2) (hd:∀ σ H,Pv xs.length σ H->D.nx σ H) :
  ∃ W:Nat->Nat->St->Hp->Prop,(∃ m,W 0 m σ H)/\∀ i m σ H,W i m σ H->
   ((Itt K a).stop i H/\D.nx σ H)\/((Itt K a).go i H/\∃ N:St->Hp->Prop,(∀ σ' H',N σ' H'->∃ m',m'<m/\W (i+1) m' σ' H')/\∀ x H',(Itt K a).yld i H x H'->g x σ H' λ σ2 H2=>tb { D with nx:=N,ct:=N,bk:=D.nx } σ2 H2):=by
 refine ⟨λ i m σ H=>m=xs.length - i/\i<=xs.length/\Pv i σ H,⟨xs.length,by simp,EI _,h0⟩,?_⟩
 rintro i m σ H ⟨rfl,hi,p⟩
 have q:=hl i σ H hi p
 by_cases hlt:i<xs.length
 ·refine .inr ⟨⟨xs,xs[i],q,by simp [hlt]⟩,Pv (i+1),λ σ' H' p'=>⟨xs.length - (i+1),by lia,rfl,hlt,p'⟩,λ x H' y=>?_⟩
  obtain ⟨e,y⟩:=y
  subst e
  exact hs i x σ _ (y xs q) p
 ·have e:i=xs.length:=by lia
  subst e
  exact .inl ⟨⟨xs,q,Eh _⟩,hd σ H p⟩
theorem dq {lo:Int} {n:Nat} {g:TG} {tb:TS} {D:Ends} {σ:St} {H:Hp} (Pv:Nat->St->Hp->Prop) (h0:Pv 0 σ H)
  (hs:∀ i σ H,i<n->Pv i σ H->g (.int (lo+i)) σ H λ σ2 H2=>tb { D with nx:=Pv (i+1),ct:=Pv (i+1),bk:=D.nx } σ2 H2) (hd:∀ σ H,Pv n σ H->D.nx σ H) :
  ∃ W:Nat->Nat->St->Hp->Prop,(∃ m,W 0 m σ H)/\∀ i m σ H,W i m σ H->
   ((Itr lo n).stop i H/\D.nx σ H)\/((Itr lo n).go i H/\∃ N:St->Hp->Prop,(∀ σ' H',N σ' H'->∃ m',m'<m/\W (i+1) m' σ' H')/\∀ x H',(Itr lo n).yld i H x H'->g x σ H' λ σ2 H2=>tb { D with nx:=N,ct:=N,bk:=D.nx } σ2 H2):=by
 refine ⟨λ i m σ H=>m=n - i/\i<=n/\Pv i σ H,⟨n,by simp,EI _,h0⟩,?_⟩
 rintro i m σ H ⟨rfl,hi,p⟩
 by_cases hlt:i<n
 ·refine .inr ⟨hlt,Pv (i+1),λ σ' H' p'=>⟨n - (i+1),by lia,rfl,hlt,p'⟩,λ x H' y=>?_⟩
  obtain ⟨e,y⟩:=y
  subst e y
  exact hs i σ _ hlt p
 ·have e:i=n:=by lia
  subst e
  exact .inl ⟨Eh _,hd σ H p⟩
noncomputable abbrev R2:=V->V->Hp->VK->Prop
noncomputable def OpR (X:Cx) (f:Value->Value->Sem Value) (r:R2):Prop:=
 ∀ (pins:List (Addr×Obj)) (s:Shared) (σ:St) (H:Hp) (x y:V) (v u:Value) (Q:VK),Inv X pins σ H s->RelV x v->RelV y u->r x y H Q->
  wpAny (model X.prog X.w) X.A (f v u) (EP X pins σ Q) X.xe s
noncomputable def UnR (X:Cx) (f:Value->Sem Value) (r:V->Hp->VK->Prop):Prop:=
 ∀ (pins:List (Addr×Obj)) (s:Shared) (σ:St) (H:Hp) (x:V) (v:Value) (Q:VK),Inv X pins σ H s->RelV x v->r x H Q->
  wpAny (model X.prog X.w) X.A (f v) (EP X pins σ Q) X.xe s
noncomputable def ca (X:Cx) (f:Value) (r:List V->Hp->VK->Prop):Prop:=
 ∀ (pins:List (Addr×Obj)) (s:Shared) (σ:St) (H:Hp) (xs:List V) (us:List Value) (Q:VK),Inv X pins σ H s->Vals xs us->r xs H Q->
  wpAny (model X.prog X.w) X.A (call f us) (EP X pins σ Q) X.xe s
noncomputable def DA (X:Cx) (r:V->Hp->(Bool->Hp->Prop)->Prop):Prop:=
 ∀ (pins:List (Addr×Obj)) (s:Shared) (σ:St) (H:Hp) (x:V) (v:Value) (Q:Bool->Hp->Prop),Inv X pins σ H s->RelV x v->r x H Q->
  wpAny (model X.prog X.w) X.A (truthy v) (TP X pins σ Q) X.xe s
noncomputable def tOp (r:R2) (ta tb:TE):TE:=λ σ H Q=>ta σ H λ x H1=>tb σ H1 λ y H2=>r x y H2 Q
noncomputable def tUn (r:V->Hp->VK->Prop) (ta:TE):TE:=λ σ H Q=>ta σ H λ x H1=>r x H1 Q
noncomputable def rI (C:Int->Int->Prop) (g:Int->Int->V):R2:=λ x y H Q=>∃ i j,x=.int i/\y=.int j/\C i j/\Q (g i j) H
noncomputable def rI0 (g:Int->Int->V):R2:=λ x y H Q=>∃ i j,x=.int i/\y=.int j/\Q (g i j) H
noncomputable def rU (g:Int->V):V->Hp->VK->Prop:=λ x H Q=>∃ i,x=.int i/\Q (g i) H
section
variable {X:Cx} {a b c:Expr} {ta tb tc:TE} {pos:Pos}
theorem BC (ha:PE X a ta) (hb:PE X b tb) {pins:List (Addr×Obj)} {s:Shared} {σ:St} {H:Hp} {R:V->V->Hp->Prop} (I:Inv X pins σ H s)
  (h:ta σ H λ x H1=>tb σ H1 λ y H2=>R x y H2) {Q:Value->Shared->Prop} {f:Value->Value->Sem Value}
  (hf:∀ v u s2 x y H2,Inv X pins σ H2 s2->RelV x v->RelV y u->R x y H2->wpAny (model X.prog X.w) X.A (f v u) Q X.xe s2) :
  wpAny (model X.prog X.w) X.A (eval a X.env) (λ v s₁=>wpAny (model X.prog X.w) X.A (eval b X.env) (λ u s₂=>wpAny (model X.prog X.w) X.A (f v u) Q X.xe s₂) X.xe s₁) X.xe s:=by
 refine thn (ha pins s σ H _ I h) λ v s1 ⟨x,H1,I1,r1,q1⟩=>?_
 refine thn (hb pins s1 σ H1 _ I1 q1) λ u s2 ⟨y,H2,I2,r2,q2⟩=>?_
 exact hf v u s2 x y H2 I2 r1 r2 q2
theorem BD {op:Operator} {r:R2} (ho:OpR X (binaryOp op) r) (ha:PE X a ta) (hb:PE X b tb):PE X (.BinOp a op b pos) (tOp r ta tb):=by
 intro pins s σ H Q I h
 exact wpAny_BinOp (BC ha hb I h λ v u s2 x y H2 I2 rx ry q=>ho pins s2 σ H2 x y v u Q I2 rx ry q)
theorem yS {op:UnaryOp} {r:V->Hp->VK->Prop} (ho:UnR X (unaryOp op) r) (ha:PE X a ta):PE X (.UnaryOp op a pos) (tUn r ta):=by
 intro pins s σ H Q I h
 exact UnaryOp_ (thn (ha pins s σ H _ I h) λ v s1 ⟨x,H1,I1,r1,q1⟩=>ho pins s1 σ H1 x v Q I1 r1 q1)
theorem opI {f:Value->Value->Sem Value} {C:Int->Int->Prop} {g:Int->Int->Int}
  (rule:∀ (i j:Int) (t u:Tok) (s:Shared) (Q:Value->Shared->Prop) (E:Value->Shared->Prop),C i j->Q (.int (g i j) s.toks) { s with toks:=s.toks+1 }->wpAny (model X.prog X.w) X.A (f (.int i t) (.int j u)) Q E s) :
  OpR X f (rI C λ i j=>.int (g i j)):=by
 intro pins s σ H x y v u Q I rx ry h
 obtain ⟨i,j,rfl,rfl,hc,q⟩:=h
 obtain ⟨t,rfl⟩:=rx
 obtain ⟨t',rfl⟩:=ry
 exact rule i j t t' s _ _ hc ⟨.int (g i j),H,I.tok _,⟨_,rfl⟩,q⟩
theorem BE {f:Value->Value->Sem Value} {g:Int->Int->Int}
  (rule:∀ (i j:Int) (t u:Tok) (s:Shared) (Q:Value->Shared->Prop) (E:Value->Shared->Prop),Q (.int (g i j) s.toks) { s with toks:=s.toks+1 }->wpAny (model X.prog X.w) X.A (f (.int i t) (.int j u)) Q E s) :
  OpR X f (rI0 λ i j=>.int (g i j)):=by
 intro pins s σ H x y v u Q I rx ry h
 obtain ⟨i,j,rfl,rfl,q⟩:=h
 obtain ⟨t,rfl⟩:=rx
 obtain ⟨t',rfl⟩:=ry
 exact rule i j t t' s _ _ ⟨.int (g i j),H,I.tok _,⟨_,rfl⟩,q⟩
theorem BF {f:Value->Value->Sem Value} {g:Int->Int->Bool}
  (rule:∀ (i j:Int) (t u:Tok) (s:Shared) (Q:Value->Shared->Prop) (E:Value->Shared->Prop),Q (.bool (g i j)) s->wpAny (model X.prog X.w) X.A (f (.int i t) (.int j u)) Q E s) :
  OpR X f (rI0 λ i j=>.bl (g i j)):=by
 intro pins s σ H x y v u Q I rx ry h
 obtain ⟨i,j,rfl,rfl,q⟩:=h
 obtain ⟨t,rfl⟩:=rx
 obtain ⟨t',rfl⟩:=ry
 exact rule i j t t' s _ _ ⟨.bl (g i j),H,I,rfl,q⟩
noncomputable def BG (i j:Int):Prop:=0<j/\j<1073741824
noncomputable def AX (i j:Int):Prop:=0<=j/\j<=1000000/\i.natAbs<2 ^ 64
noncomputable def CMul (i j:Int):Prop:=(-(2 ^ 64)<i/\i<2 ^ 64)\/(-(2 ^ 64)<j/\j<2 ^ 64)
theorem CMul.ok {i j:Int} (h:CMul i j):IntMulOk i j:=by
 rcases h with ⟨h1,h2⟩ | ⟨h1,h2⟩
 ·exact .of_left (intBits_le_64 h1 h2)
 ·exact .of_right (intBits_le_64 h1 h2)
theorem yT:OpR X (binaryOp .Add) (rI0 λ i j=>.int (i+j)):=BE λ _ _ _ _ _ _ _ q=>add_int q
theorem yU:OpR X (binaryOp .Sub) (rI0 λ i j=>.int (i - j)):=BE λ _ _ _ _ _ _ _ q=>sub_int q
theorem yV:OpR X (binaryOp .Mult) (rI CMul λ i j=>.int (i*j)):=opI λ _ _ _ _ _ _ _ hc q=>mul_int q hc.ok
theorem yW:OpR X (binaryOp .Mod) (rI (λ _ j=>0<j) λ i j=>.int (i % j)):=opI λ i j _ _ _ _ _ hc q=>by
 have h1:(0:Int)<j:=hc
 exact mod_int' (by lia) (by rw [Int.fmod_eq_emod_of_nonneg i (by lia)]; exact q)
theorem yX:OpR X (binaryOp .Pow) (rI AX λ i j=>.int (i ^ j.toNat)):=opI λ _ _ _ _ _ _ _ hc q=>pow_int_small hc.1 hc.2.1 hc.2.2 q
theorem wv:OpR X (inplaceOp .Add) (rI0 λ i j=>.int (i+j)):=BE λ _ _ _ _ _ _ _ q=>iadd_int q
theorem tE:OpR X (inplaceOp .FloorDiv) (rI BG λ i j=>.int (i / j)):=opI λ i j _ _ _ _ _ hc q=>by
 have h1:(0:Int)<j:=hc.1
 have h2:j<1073741824:=hc.2
 exact ifloordiv_int (by lia) (by rw [Ia i (by lia)]; exact q) (.inl (PyProof.noPylong_small (by lia)))
theorem unI {f:Value->Sem Value} {g:Int->Int}
  (rule:∀ (i:Int) (t:Tok) (s:Shared) (Q:Value->Shared->Prop) (E:Value->Shared->Prop),Q (.int (g i) s.toks) { s with toks:=s.toks+1 }->wpAny (model X.prog X.w) X.A (f (.int i t)) Q E s) :
  UnR X f (rU λ i=>.int (g i)):=by
 intro pins s σ H x v Q I rx h
 obtain ⟨i,rfl,q⟩:=h
 obtain ⟨t,rfl⟩:=rx
 exact rule i t s _ _ ⟨.int (g i),H,I.tok _,⟨_,rfl⟩,q⟩
theorem vo:UnR X (unaryOp .USub) (rU λ i=>.int (-i)):=unI λ _ _ _ _ _ q=>neg_int q
end
noncomputable def CV:V->V->Bool
 | .non,.non=>true | .non,.int _=>true | .int _,.non=>true | .non,.bl _=>true | .bl _,.non=>true | .non,.str _=>true | .str _,.non=>true
 | .int _,.int _=>true | .bl _,.bl _=>true | .str _,.str _=>true | .byt _,.byt _=>true
 | .int _,.str _=>true | .str _,.int _=>true | .bl _,.str _=>true | .str _,.bl _=>true
 | _,_=>false
noncomputable def rEq:R2:=λ x y H Q=>CV x y=true/\Q (.bl (decide (x=y))) H
noncomputable def rNe:R2:=λ x y H Q=>CV x y=true/\Q (.bl (!decide (x=y))) H
theorem pP {i j:Int}:decide (V.int i=V.int j)=(i == j):=by
 rw [Gv]
 simp
theorem vp {i j:Bool}:decide (V.bl i=V.bl j)=(i == j):=by
 rw [Gv]
 simp
theorem pQ {i j:Str}:decide (V.str i=V.str j)=(i == j):=by
 rw [Gv]
 simp
theorem pR {i j:Array UInt8}:decide (V.byt i=V.byt j)=(i.toList == j.toList):=by
 rw [Gv]
 cases i
 cases j
 simp
section
variable {X:Cx} {a b c:Expr} {ta tb tc:TE} {pos:Pos}
theorem aS {pins:List (Addr×Obj)} {σ:St} {H:Hp} {s:Shared} {Q:VK} {k k':Bool} (I:Inv X pins σ H s) (q:Q (.bl k) H) (e:k=k'):EP X pins σ Q (.bool k') s:=by
 subst e
 exact ⟨.bl k,H,I,rfl,q⟩
theorem BH:OpR X (compareOp .Eq) rEq:=by
 intro pins s σ H x y v u Q I rx ry h
 obtain ⟨hs,q⟩:=h
 cases x with
 | non=>
  cases rx
  cases y with
  | non=>cases ry; exact Lk (aS I q (by simp))
  | bl j=>cases ry; exact Ll (aS I q (by simp))
  | int j=>obtain ⟨t',rfl⟩:=ry; exact LA (aS I q (by simp))
  | str j=>obtain ⟨t',rfl⟩:=ry; exact LB (aS I q (by simp))
  | _=>exact absurd (show false=true from hs) EF
 | bl i=>
  cases rx
  cases y with
  | non=>cases ry; exact Lm (aS I q (by simp))
  | bl j=>cases ry; exact eq_bool (aS I q vp)
  | str j=>obtain ⟨t',rfl⟩:=ry; exact Ln (aS I q (by simp))
  | _=>exact absurd (show false=true from hs) EF
 | int i=>
  obtain ⟨t,rfl⟩:=rx
  cases y with
  | non=>cases ry; exact LC (aS I q (by simp))
  | int j=>obtain ⟨t',rfl⟩:=ry; exact eq_int (aS I q pP)
  | str j=>obtain ⟨t',rfl⟩:=ry; exact LD (aS I q (by simp))
  | _=>exact absurd (show false=true from hs) EF
 | str i=>
  obtain ⟨t,rfl⟩:=rx
  cases y with
  | non=>cases ry; exact LF (aS I q (by simp))
  | bl j=>cases ry; exact Lo (aS I q (by simp))
  | int j=>obtain ⟨t',rfl⟩:=ry; exact LG (aS I q (by simp))
  | str j=>obtain ⟨t',rfl⟩:=ry; exact eq_str (aS I q pQ)
  | _=>exact absurd (show false=true from hs) EF
 | byt i=>
  obtain ⟨t,rfl⟩:=rx
  cases y with
  | byt j=>obtain ⟨t',rfl⟩:=ry; exact PySem.W.eq_bytes (aS I q pR)
  | _=>exact absurd (show false=true from hs) EF
 | _=>cases y<;>exact absurd (show false=true from hs) EF
theorem BI:OpR X (compareOp .NotEq) rNe:=by
 intro pins s σ H x y v u Q I rx ry h
 obtain ⟨hs,q⟩:=h
 cases x with
 | non=>
  cases rx
  cases y with
  | non=>cases ry; exact Lp (aS I q (by simp))
  | bl j=>cases ry; exact Lq (aS I q (by simp))
  | int j=>obtain ⟨t',rfl⟩:=ry; exact LH (aS I q (by simp))
  | str j=>obtain ⟨t',rfl⟩:=ry; exact LI (aS I q (by simp))
  | _=>exact absurd (show false=true from hs) EF
 | bl i=>
  cases rx
  cases y with
  | non=>cases ry; exact Lr (aS I q (by simp))
  | bl j=>cases ry; exact ne_bool (aS I q (congrArg not vp))
  | str j=>obtain ⟨t',rfl⟩:=ry; exact Ls (aS I q (by simp))
  | _=>exact absurd (show false=true from hs) EF
 | int i=>
  obtain ⟨t,rfl⟩:=rx
  cases y with
  | non=>cases ry; exact LJ (aS I q (by simp))
  | int j=>obtain ⟨t',rfl⟩:=ry; exact ne_int (aS I q (congrArg not pP))
  | str j=>obtain ⟨t',rfl⟩:=ry; exact LK (aS I q (by simp))
  | _=>exact absurd (show false=true from hs) EF
 | str i=>
  obtain ⟨t,rfl⟩:=rx
  cases y with
  | non=>cases ry; exact LL (aS I q (by simp))
  | bl j=>cases ry; exact Lu (aS I q (by simp))
  | int j=>obtain ⟨t',rfl⟩:=ry; exact LM (aS I q (by simp))
  | str j=>obtain ⟨t',rfl⟩:=ry; exact ne_str (aS I q (congrArg not pQ))
  | _=>exact absurd (show false=true from hs) EF
 | byt i=>
  obtain ⟨t,rfl⟩:=rx
  cases y with
  | byt j=>obtain ⟨t',rfl⟩:=ry; exact PySem.W.ne_bytes (aS I q (congrArg not pR))
  | _=>exact absurd (show false=true from hs) EF
 | _=>cases y<;>exact absurd (show false=true from hs) EF
theorem BJ:OpR X (compareOp .Lt) (rI0 λ i j=>.bl (decide (i<j))):=BF λ _ _ _ _ _ _ _ q=>lt_int q
theorem BK:OpR X (compareOp .Gt) (rI0 λ i j=>.bl (decide (j<i))):=BF λ _ _ _ _ _ _ _ q=>gt_int q
theorem BL:OpR X (compareOp .GtE) (rI0 λ i j=>.bl (decide (j<=i))):=BF λ _ _ _ _ _ _ _ q=>ge_int q
theorem yY:OpR X (compareOp .Is) (λ x y H Q=>y=.non/\Q (.bl (decide (x=.non))) H):=by
 intro pins s σ H x y v u Q I rx ry h
 obtain ⟨rfl,q⟩:=h
 cases ry
 refine is_none_gen (aS I q ?_)
 cases x<;>first
  | (cases rx; rfl)
  | (obtain ⟨t,rfl⟩:=rx; rfl)
theorem au (b:Expr) {op:CmpOp} (h:op≠.In:=by decide) (h2:op≠.NotIn:=by decide):behindInMarks op b=false:=by
 have e1:(op == CmpOp.In)=false:=by cases op<;>first | rfl | exact absurd rfl h
 have e2:(op == CmpOp.NotIn)=false:=by cases op<;>first | rfl | exact absurd rfl h2
 cases b<;>simp [behindInMarks,e1,e2]
theorem ww {op:CmpOp} {r:R2} (ho:OpR X (compareOp op) r) (ha:PE X a ta) (hb:PE X b tb) (hm:behindInMarks op b=false):PE X (.Compare a [op] [b] pos) (tOp r ta tb):=by
 intro pins s σ H Q I h
 exact wpAny_Compare1 (BC ha hb I h λ v u s2 x y H2 I2 rx ry q=>ho pins s2 σ H2 x y v u Q I2 rx ry q) hm
noncomputable def wx (t:TE):TT:=λ σ H Q=>t σ H λ x H'=>∃ k,x=.bl k/\Q k H'
theorem wy {op:CmpOp} {r:R2} (ho:OpR X (compareOp op) r) (ha:PE X a ta) (hb:PE X b tb) (hm:behindInMarks op b=false):PT X (.Compare a [op] [b] pos) (wx (tOp r ta tb)):=by
 intro pins s σ H Q I h
 refine wpAny_isTrue_Compare1 (thn (ha pins s σ H _ I h) λ v s1 ⟨x,H1,I1,r1,q1⟩=>thn (hb pins s1 σ H1 _ I1 q1) λ u s2 ⟨y,H2,I2,r2,q2⟩=>
  thn (ho pins s2 σ H2 x y v u _ I2 r1 r2 q2) λ c s3 ⟨z,H3,I3,r3,k,e,q3⟩=>?_) hm
 subst e
 cases r3
 exact wpAny_truthy_bool ⟨H3,I3,q3⟩
noncomputable def yr (K:Ee) (x:V) (H:Hp) (k:Bool):Prop:=
 match x with
 | .non=>k=false
 | .bl b=>k=b
 | .int i=>k=(i != 0)
 | .str y=>y.length<=sizeLine/\k=((y.length:Int) != 0)
 | .byt y=>y.size<=sizeLine/\k=((y.size:Int) != 0)
 | .ref p=>(∃ xs,SqL K H p xs/\k=!xs.isEmpty)\/(∃ xs,SqT K H p xs/\k=!xs.isEmpty)\/∃ kvs,H p=some (.dK kvs)/\k=!kvs.isEmpty
 | _=>False
theorem oN {κ:Type} {kvs:List (κ×V)} {vs:List (κ×Value)} (r:KV kvs vs):(!vs.isEmpty)=!kvs.isEmpty:=by
 cases r<;>rfl
theorem jB {xs:List V} {its:List Value} (r:Vals xs its):(!its.toArray.isEmpty)=!xs.isEmpty:=by
 cases r<;>simp
theorem fZ:(sizeLine:Nat)<2 ^ 63:=by rw [sizeLine_eq]; decide
theorem yZ:DA X (λ x H Q=>∃ k,yr X.K x H k/\Q k H):=by
 intro pins s σ H x v Q I rx h
 obtain ⟨k,e,q⟩:=h
 have hl:=fZ
 have hs:sizeLine=16777216:=sizeLine_eq
 cases x with
 | non=>
  cases rx
  have e':k=false:=e
  subst e'
  exact truthy_none ⟨H,I,q⟩
 | bl b=>
  cases rx
  have e':k=b:=e
  subst e'
  exact wpAny_truthy_bool ⟨H,I,q⟩
 | int i=>
  obtain ⟨t,rfl⟩:=rx
  have e':k=(i != 0):=e
  subst e'
  exact PySem.P.truthy_int ⟨H,I,q⟩
 | str y=>
  obtain ⟨t,rfl⟩:=rx
  obtain ⟨hy,e'⟩:y.length<=sizeLine/\k=((y.length:Int) != 0):=e
  subst e'
  exact PySem.P.truthy_str (by lia) ⟨H,I.tok _,q⟩
 | byt y=>
  obtain ⟨t,rfl⟩:=rx
  obtain ⟨hy,e'⟩:y.size<=sizeLine/\k=((y.size:Int) != 0):=e
  subst e'
  exact PySem.W.truthy_bytes (by lia) ⟨H,I.tok _,q⟩
 | ref p=>
  cases rx
  have e':(∃ xs,SqL X.K H p xs/\k=!xs.isEmpty)\/(∃ xs,SqT X.K H p xs/\k=!xs.isEmpty)\/∃ kvs,H p=some (.dK kvs)/\k=!kvs.isEmpty:=e
  rcases e' with ⟨xs,hx,e'⟩ | ⟨xs,hx,e'⟩ | ⟨kvs,hx,e'⟩
  ·subst e'
   obtain ⟨its,r,pl,hz⟩:=I.list hx
   have hlen:=r.length
   exact wpAny_truthy_list pl.isList (by simp only [Ew]; lia) ⟨H,I.tok _,by rw [jB r]; exact q⟩
  ·subst e'
   obtain ⟨its,r,pl,hz⟩:=I.tuple hx
   have hlen:=r.length
   exact truthy_tuple pl (by simp only [Ew]; lia) ⟨H,I.tok _,by rw [jB r]; exact q⟩
  ·subst e'
   obtain ⟨hz,hS,vs,r,m⟩:kvs.length<=sizeLine/\(p == sysModules)=false/\∃ vs,KV kvs vs/\s.heap.DictOf (aJ X.prog X.w) p vs:=I.hok p _ hx
   have hlen:kvs.length=vs.length:=HY r
   exact wpAny_truthy_dict hS m (by lia) ⟨H,I.tok _,by rw [oN r]; exact q⟩
 | _=>exact (show False from e).elim
theorem tF (ha:PE X a ta) (he:∀ whole,isTrue a X.env whole=(do let v <-whole; standAt a.pos; holding [v] (truthy v))) :
  PT X a (λ σ H Q=>ta σ H λ x H'=>∃ k,yr X.K x H' k/\Q k H'):=by
 intro pins s σ H Q I h
 exact isTrue_plain (thn (ha pins s σ H _ I h) λ v s1 ⟨x,H1,I1,r1,q1⟩=>yZ pins s1 σ H1 x v Q I1 r1 q1) (he _)
theorem ft {x:V} {us:List Value} (r:Vals [x] us):∃ u,us=[u]/\RelV x u:=by
 cases r with
 | cons r1 r2=>cases r2; exact ⟨_,rfl,r1⟩
theorem y0 {x y:V} {us:List Value} (r:Vals [x,y] us):∃ u w',us=[u,w']/\RelV x u/\RelV y w':=by
 cases r with
 | cons r1 r2=>
  cases r2 with
  | cons r3 r4=>cases r4; exact ⟨_,_,rfl,r1,r3⟩
theorem tG:ca X (.builtin "abs") (λ xs H Q=>∃ i,xs=[.int i]/\Q (.int (if i<0 then -i else i)) H):=by
 intro pins s σ H xs us Q I r h
 obtain ⟨i,rfl,q⟩:=h
 obtain ⟨u,rfl,t,rfl⟩:=ft r
 exact call_abs_int λ u tk=>⟨.int (if i<0 then -i else i),H,I.tok _,⟨_,rfl⟩,q⟩
theorem pS (hc:X.calm=true):ca X (.builtin "min") (λ xs H Q=>∃ i j,xs=[.int i,.int j]/\Q (.int (if j<i then j else i)) H):=by
 intro pins s σ H xs us Q I r h
 obtain ⟨i,j,rfl,q⟩:=h
 obtain ⟨u,w',rfl,⟨t,rfl⟩,⟨t',rfl⟩⟩:=y0 r
 refine min_two_ints (I.ok.hd hc) λ h' tk k=>⟨_,H,I.kept k,?_,q⟩
 by_cases hj:j<i
 ·rw [if_pos hj,if_pos hj]; exact ⟨_,rfl⟩
 ·rw [if_neg hj,if_neg hj]; exact ⟨_,rfl⟩
theorem pT:ca X (.type "int") (λ xs H Q=>(∃ i,xs=[.int i]/\Q (.int i) H)\/∃ k,xs=[.bl k]/\Q (.int (if k then 1 else 0)) H):=by
 intro pins s σ H xs us Q I r h
 rcases h with ⟨i,rfl,q⟩ | ⟨k,rfl,q⟩
 ·obtain ⟨u,rfl,t,rfl⟩:=ft r
  exact call_int_int ⟨.int i,H,I,⟨_,rfl⟩,q⟩
 ·obtain ⟨u,rfl,r1⟩:=ft r
  cases r1
  exact call_int_bool ⟨.int (if k then 1 else 0),H,I.tok _,⟨_,rfl⟩,q⟩
theorem tH:ca X (.builtin "ord") (λ xs H Q=>∃ x,xs=[.str x]/\x.length=1/\Q (.int (x.cps.getD 0 0:Nat)) H):=by
 intro pins s σ H xs us Q I r h
 obtain ⟨x,rfl,hz,q⟩:=h
 obtain ⟨u,rfl,t,rfl⟩:=ft r
 exact ord_of_one hz ⟨.int _,H,I.tok _,⟨_,rfl⟩,q⟩
end
structure ObjM (h:Heap) (x dx C:Addr) (mA:Str->Option Value):Prop where
 obj:h.get? x=some (IU C dx)
 ns:h.Ns1 dx mA
 ne:dx≠x
theorem pU {h:Heap} {dx:Addr} {mA:Str->Option Value} (n:h.Ns1 dx mA):∃ od,h.get? dx=some od/\∀ name,Jj name od=some (mA name):=by
 obtain ⟨o,es,ep,ho,hd,hk,_,hm⟩:=n
 refine ⟨o,ho,λ name=>?_⟩
 have e:=hm name
 unfold nsFind findBy at e
 rw [<-Array.find?_toList] at e
 unfold Jj
 rw [hd]
 dsimp only
 split
 ·rename_i y q
  rw [q] at e
  exact congrArg some e
 ·rename_i q
  rw [q] at e
  have a:es.toList.any (·.refKey)=false:=by
   rw [List.any_eq_false]
   intro y hy
   obtain ⟨z,t,hkey⟩:=hk y (Jp.mp hy)
   simp [My,hkey]
  have a':¬ es.toList.any (·.refKey)=true:=by rw [a]; exact EF
  rw [if_neg a']
  exact congrArg some e
theorem ObjM.look {h:Heap} {x dx C:Addr} {mA:Str->Option Value} (I:ObjM h x dx C mA):∃ od,PySem.W.InstAt h x (IU C dx) C (some od)/\∀ name,Jj name od=some (mA name):=
 let ⟨od,ho,hl⟩:=pU I.ns
 ⟨od,⟨I.obj,rfl,rfl,ho⟩,hl⟩
section
variable {prog:Program} {w:World} {A:Around} {E:Value->Shared->Prop} {s:Shared} {K:Ee} {x dx C f:Addr} {mA:Str->Option Value} {name:Str} {v:Value}
end
section
variable {P:Program} {w:World} {H H':Hp} {h h':Heap} {a C dx:Addr} {fs fs':List (Str×V)}
theorem wz (hok:HOk P w H h) (e:H a=some (.ins C dx fs)):∃ mA,ObjM h a dx C mA/\(∀ f,RelO (fs.lookup f) (mA f))/\Ly mA (fs.map (·.1))/\fs.length<=1000/\H dx=some (.own a):=by
 obtain ⟨d,z,ne,ob,mA,n,r,q⟩:=(show ObjOk P w H h a (.ins C dx fs) from hok a _ e)
 exact ⟨mA,⟨ob,n,ne⟩,r,q,z,d⟩
end
structure Cls (K:Ee) (C:Addr):Prop where
 pg:Kn K C Str.empty=true
 hd:PySem.W.hasDictIn K C=true
 po:PySem.W.plainOver K C=true
 sa:KZ K (.ref C) "__setattr__" = some (some (.builtin "object.__setattr__"))
theorem Cls.get {K:Ee} {C:Addr} (c:Cls K C) (f:Str):Kn K C f=true:=c.pg
section
variable {X:Cx} {pins:List (Addr×Obj)} {σ:St} {H:Hp} {s:Shared} {a C dx:Addr} {fs:List (Str×V)} {f:Str} {v:V} {A:Around} {E:Value->Shared->Prop}
end
section
variable {X:Cx} {o e value:Expr} {f:Str} {pos pos' tpos:Pos} {ta tv:TE}
end
section
variable {X:Cx} {pins:List (Addr×Obj)} {σ:St} {H:Hp} {s:Shared} {A:Around} {E:Value->Shared->Prop} {Q:Value->Shared->Prop} {c:Value} {b:Bool}
inductive TyOf (K:Ee) (H:Hp):V->Value->Prop where
 | non:TyOf K H .non (.type "NoneType")
 | bl (x:Bool):TyOf K H (.bl x) (.type "bool")
 | int (i:Int):TyOf K H (.int i) (.type "int")
 | str (x:Str):TyOf K H (.str x) (.type "str")
 | flt (x:UInt64):TyOf K H (.flt x) (.type "float")
 | lst {a:Addr} {xs:List V} (e:H a=some (.lst xs)):TyOf K H (.ref a) (.type "list")
 | frz {a:Addr} {o:Obj} {xs:List V} (e:H a=some (.frz o (.lst xs))):TyOf K H (.ref a) (.type "list")
 | tup {a:Addr} {xs:List V} (e:H a=some (.tup xs)):TyOf K H (.ref a) (.type "tuple")
 | dK {a:Addr} {kvs:List (Key×V)} (e:H a=some (.dK kvs)):TyOf K H (.ref a) (.type "dict")
 | dT {a:Addr} {kvs:List (List Key×V)} (e:H a=some (.dT kvs)):TyOf K H (.ref a) (.type "dict")
 | ins {a C dx:Addr} {fs:List (Str×V)} (e:H a=some (.ins C dx fs)) (cl:Cls K C) (ha:KZ K (.ref C) "__class__" = some (some (.builtin "object.__class__")))
   (hn:PySem.W.specialIn K (.builtin "object.__class__") "__get__" = some (some (.builtin "getset_descriptor.__get__"))) (htk:PySem.W.takesIn K (.builtin "object.__class__")=some true)
   (hm:PySem.W.mroIn K C (.type "object")=some true):TyOf K H (.ref a) (.ref C)
theorem pV {x:V} {u t:Value} (I:Inv X pins σ H s) (rx:RelV x u) (ty:TyOf X.K H x t) (e:GE X.K t c=some b) (h:∀ tk,Q (.bool b) { s with toks:=tk }) :
  wpAny (model X.prog X.w) A (call (.builtin "isinstance") [u,c]) Q E s:=by
 cases ty with
 | non=>cases (show u=E3 from rx); exact Fw JX I.kIn Et e (λ z=>nomatch z) h
 | bl y=>cases (show u=Gi y from rx); exact Fw JY I.kIn Et e (λ z=>nomatch z) h
 | int i=>obtain ⟨t,q⟩:=(show ∃ t,u=GV i t from rx); cases q; exact Fw Ko I.kIn Et e (λ z=>nomatch z) h
 | str y=>obtain ⟨t,q⟩:=(show ∃ t,u=HM y t from rx); cases q; exact Fw Kp I.kIn Et e (λ z=>nomatch z) h
 | flt y=>obtain ⟨t,q⟩:=(show ∃ t,u=L0 y t from rx); cases q; exact Fw PySem.W.kitx_float I.kIn Et e (λ z=>nomatch z) h
 | @lst a xs ea=>
  cases (show u=EG a from rx)
  obtain ⟨_,_,n,_,h1⟩:=(show ObjOk X.prog X.w H s.heap a (.lst xs) from I.hok a _ ea)
  exact Fw Ik I.kIn ⟨_,h1,rfl⟩ e (λ z=>nomatch z) h
 | @frz a ob xs ea=>
  cases (show u=EG a from rx)
  obtain ⟨_,_,_,n,_,h1⟩:=(show ObjOk X.prog X.w H s.heap a (.frz ob (.lst xs)) from I.hok a _ ea)
  exact Fw Ik I.kIn ⟨_,h1,rfl⟩ e (λ z=>nomatch z) h
 | @tup a xs ea=>
  cases (show u=EG a from rx)
  obtain ⟨_,_,_,p⟩:=(show ObjOk X.prog X.w H s.heap a (.tup xs) from I.hok a _ ea)
  obtain ⟨o,h1,h2,_⟩:=p
  exact Fw JH I.kIn ⟨o,h1,h2⟩ e (λ z=>nomatch z) h
 | @dK a kvs ea=>
  cases (show u=EG a from rx)
  obtain ⟨_,_,vs,_,p⟩:=(show ObjOk X.prog X.w H s.heap a (.dK kvs) from I.hok a _ ea)
  obtain ⟨o,es,ep,h1,h2,_⟩:=p
  exact Fw JZ I.kIn ⟨o,h1,h2.1⟩ e (λ z=>nomatch z) h
 | @dT a kvs ea=>
  cases (show u=EG a from rx)
  obtain ⟨_,_,xs,_,o,es,ep,h1,h2,_⟩:=(show ObjOk X.prog X.w H s.heap a (.dT kvs) from I.hok a _ ea)
  exact Fw JZ I.kIn ⟨o,h1,h2.1⟩ e (λ z=>nomatch z) h
 | @ins a C dx fs ea cl ha hn htk hm=>
  cases (show u=EG a from rx)
  obtain ⟨mA,O,_⟩:=wz I.hok ea
  obtain ⟨od,J,_⟩:=O.look
  exact Fw (PySem.W.kitx_own (cl.get _) cl.hd ha hn htk hm) I.kIn J e (λ z=>nomatch z) h
end
structure Room (k:Nat) (A:Around):Prop where
 hd:A.handled=none
 dp:A.depth+3*k+5<recursionLimit
 un:A.units+16*k+200<cLine
 gd:A.guards=some []
theorem Room.mono {j k:Nat} {A:Around} (r:Room k A) (h:j<=k):Room j A:=⟨r.hd,by have:=r.dp; lia,by have:=r.un; lia,r.gd⟩
theorem Room.deeper {k:Nat} {A:Around} (r:Room (k+1) A) (env:Env):Room k (A.deeper env):=
 ⟨r.hd,by have:=r.dp; show A.depth+1+3*k+5<_; lia,by have:=r.un; show A.units+3+16*k+200<_; lia,r.gd⟩
theorem Room.depth {k:Nat} {A:Around} (r:Room k A):A.depth<recursionLimit:=by have:=r.dp; lia
theorem Room.units {k:Nat} {A:Around} (r:Room k A):A.units+64<cLine:=by have:=r.un; lia
theorem Room.units0 {k:Nat} {A:Around} (r:Room k A):A.units<cLine:=by have:=r.un; lia
noncomputable def AY:TA:=λ _ H Q=>Q [] H
noncomputable def oO (ta:TE) (tr:TA):TA:=λ σ H Q=>ta σ H λ x H1=>tr σ H1 λ xs H2=>Q (x::xs) H2
section
variable {X:Cx} {e:Expr} {es:List Expr} {te:TE} {t:TA} {pos:Pos}
theorem y2:PA X [] AY:=λ _ _ _ _ H Q I h=>He ⟨[],H,I,.nil,h⟩
theorem wA (ha:PE X e te) (hr:PA X es t) (hs:starEach (e::es) X.env=(false,eval e X.env)::starEach es X.env:=by rfl):PA X (e::es) (oO te t):=by
 intro pos pins s σ H Q I h
 rw [hs]
 show wpAny _ _ (spliced ((false,eval e X.env)::backTo pos (starEach es X.env))) _ _ s
 refine FZ (thn (ha pins s σ H _ I h) λ u s1 ⟨x,H1,I1,r1,q1⟩=>?_)
 exact thn (hr pos pins s1 σ H1 _ I1 q1) λ us s2 ⟨xs,H2,I2,r2,q2⟩=>⟨x::xs,H2,I2,.cons r1 r2,q2⟩
noncomputable def BM (t:TA):TE:=λ σ H Q=>t σ H λ xs H1=>xs.length<=sizeLine/\∀ p,H1 p=none->Q (.ref p) (upd H1 p (.tup xs))
noncomputable def BN (t:TA):TE:=λ σ H Q=>t σ H λ xs H1=>xs.length<=sizeLine/\∀ p,H1 p=none->Q (.ref p) (upd H1 p (.lst xs))
theorem y3 {x1} (h:PA X es t):PE X (.Tuple es x1 pos) (BM t):=by
 intro pins s σ H Q I hq
 refine wpAny_Tuple_spliced (thn (h pos pins s σ H _ I hq) λ us s1 ⟨xs,H1,I1,r,z,q⟩=>⟨by rw [<-r.length]; exact z,?_⟩)
 have hf:H1 s1.heap.objs.size=none:=I1.hok.fresh (Eh _)
 refine ⟨.ref s1.heap.objs.size,upd H1 s1.heap.objs.size (.tup xs),I1.laid (t':=s1.toks) (λ b u e=>Ec _ e) (Eh _) ?_,rfl,q _ hf⟩
 exact ⟨z,us,r,⟨_,Ek _ rfl,rfl,_,rfl⟩⟩
theorem y4 (h:PA X es t):PE X (.List es pos) (BN t):=by
 intro pins s σ H Q I hq
 refine wpAny_List_spliced (thn (h pos pins s σ H _ I hq) λ us s1 ⟨xs,H1,I1,r,z,q⟩=>⟨by rw [<-r.length]; exact z,?_⟩)
 have hf:H1 s1.heap.objs.size=none:=I1.hok.fresh (Eh _)
 refine ⟨.ref s1.heap.objs.size,upd H1 s1.heap.objs.size (.lst xs),I1.laid (t':=s1.toks) (λ b u e=>Ec _ e) (Eh _) ?_,rfl,q _ hf⟩
 exact ⟨z,us,0,r,Ek _ rfl⟩
end
noncomputable abbrev Sp:=List V->Hp->VK->XK->Prop
noncomputable abbrev CXT:=List Env->Hp->Shared->XK->Value->Shared->Prop
structure Env0 (P:Program) (w:World) (K:Ee) (mg:Str->Option Value) (base:Heap) (A:Around) (outer:List Env) (s:Shared) (H:Hp):Prop where
 frames:A.frames=some outer
 mod:Mod K mg base
 bs:∀ b o,base.get? b=some o->s.heap.get? b=some o/\H b=none
 bsz:base.objs.size<=s.heap.objs.size
 funs:s.heap.FunFrames base outer
 frf:∀ b∈frs outer,H b=none
 hok:HOk P w H s.heap
 bare:AllBare s.gens
noncomputable def CE (outer:List Env) (P:Program) (w:World) (H:Hp) (s:Shared) (Q:VK) (u:Value) (s':Shared):Prop:=
 ∃ v H',s'.os=s.os/\AllBare s'.gens/\Un (frs outer) [] H H' s.heap s'.heap/\HOk P w H' s'.heap/\RelV v u/\Q v H'
noncomputable def CR (CX:CXT) (outer:List Env) (P:Program) (w:World) (H:Hp) (s:Shared) (Q:VK) (E:XK) (r:Result) (s':Shared):Prop:=
 match r with
 | .ok (.ret u)=>CE outer P w H s Q u s'
 | .ok _=>False
 | .error e=>CX outer H s E e s'
structure FnOk (P:Program) (w:World) (K:Ee) (mg:Str->Option Value) (base:Heap) (CX:CXT) (k:Nat) (f:Addr) (fd:FuncData) (ps:List Str) (sp:Sp):Prop where
 len:∀ vs H Q E,sp vs H Q E->vs.length=ps.length
 run:∀ (A:Around) (outer:List Env) (s:Shared) (H:Hp) (args:Args) (us:List Value) (vs:List V) (Q:VK) (E:XK),Room k A->Env0 P w K mg base A outer s H->BindsTo s fd args (ps.zip us)->Vals vs us->sp vs H Q E->
  codeAny (model P w) A (.call (.ref f) args) (CR CX outer P w H s Q E) s
theorem FnOk.imp {P:Program} {w:World} {K:Ee} {mg:Str->Option Value} {base:Heap} {CX:CXT} {k:Nat} {f:Addr} {fd:FuncData} {ps:List Str} {sp sp':Sp} (F:FnOk P w K mg base CX k f fd ps sp)
  (h:∀ vs H Q E,sp' vs H Q E->sp vs H Q E):FnOk P w K mg base CX k f fd ps sp':=
 ⟨λ vs H Q E q=>F.len vs H Q E (h _ _ _ _ q),λ A outer s H args us vs Q E hr he hb hv hs=>F.run A outer s H args us vs Q E hr he hb hv (h _ _ _ _ hs)⟩
section
variable {X:Cx} {pins:List (Addr×Obj)} {σ:St} {H:Hp} {s s':Shared}
theorem Inv.env0 (I:Inv X pins σ H s):Env0 X.prog X.w X.K X.mg X.base X.A X.stack s H:=
 ⟨I.ok.frames,I.ok.mod,I.bs,Fb I.ok.bsz I.sz,I.stack,I.stkFree,I.hok,I.bare⟩
theorem Inv.after {Q:VK} {u:Value} (I:Inv X pins σ H s) (h:CE X.stack X.prog X.w H s Q u s'):EP X pins σ Q u s':=by
 obtain ⟨v,H',os,bare,un,hok,r,q⟩:=h
 obtain ⟨hh,g,d,t,os'⟩:=s'
 obtain rfl:os'=s.os:=os
 exact ⟨v,H',I.call (h':=hh) (g':=g) (d':=d) (t':=t) (ch:=[]) un hok bare (λ b z=>absurd z (by simp)),r,q⟩
end
noncomputable def tI (sp:Sp) (dvs:List V) (E:XK) (t:TA):TE:=λ σ H Q=>t σ H λ vs H1=>sp (vs++dvs) H1 Q E
noncomputable def Binds (K:Ee) (fd:FuncData) (ps:List Str) (ds:List Value):Prop:=
 ∀ (s:Shared) (us:List Value),K.In s.heap->(us++ds).length=ps.length->BindsTo s fd ⟨us,[]⟩ (ps.zip (us++ds))
theorem Binds.all {K:Ee} {fd:FuncData} {ps:List Str} (h:∀ us:List Value,us.length=ps.length->bindArgs fd ⟨us,[]⟩=pure (ps.zip us)):Binds K fd ps []:=λ s us _ hl=>by
 rw [Fh] at hl ⊢
 exact .of_eq (h us hl)
noncomputable def jC (CX:CXT) (X:Cx) (E:XK):Prop:=∀ (pins:List (Addr×Obj)) (σ:St) (H:Hp) (s:Shared) (e:Value) (s':Shared),Inv X pins σ H s->CX X.stack H s E e s'->X.xe e s'
section
variable {X:Cx} {CX:CXT} {k:Nat} {f C:Addr} {fd:FuncData} {ps:List Str} {sp:Sp} {dvs:List V} {ds:List Value} {E:XK} {x m:Str} {p pos apos:Pos} {e o:Expr} {es:List Expr} {ta:TE} {t:TA}
theorem vq {pins:List (Addr×Obj)} {σ:St} {H:Hp} {s:Shared} {Q:VK} {us:List Value} {vs:List V} (F:FnOk X.prog X.w X.K X.mg X.base CX k f fd ps sp) (hr:Room k X.A) (hb:Binds X.K fd ps ds) (hd:Vals dvs ds) (hx:jC CX X E)
  (I:Inv X pins σ H s) (r:Vals vs us) (h:sp (vs++dvs) H Q E):wpAny (model X.prog X.w) X.A (call (.ref f) us) (EP X pins σ Q) X.xe s:=by
 have r2:Vals (vs++dvs) (us++ds):=r.append hd
 have hl:(us++ds).length=ps.length:=by rw [<-r2.length]; exact F.len _ _ _ _ h
 refine wpAny_call (codeAny_mono (F.run X.A X.stack s H ⟨us,[]⟩ (us++ds) (vs++dvs) Q E hr I.env0 (hb s us I.kIn hl) r2 h) λ r s' hq=>?_)
 cases r with
 | error e=>exact hx pins σ H s e s' I hq
 | ok fl=>
  cases fl with
  | ret u=>exact I.after hq
  | next=>exact FU hq
  | brk=>exact FU hq
  | cont=>exact FU hq
theorem wB (F:FnOk X.prog X.w X.K X.mg X.base CX k f fd ps sp) (hr:Room k X.A) (hg:Gl X x) (hm:X.mg x=some (.ref f)) (hk:Gm X.K (.ref f)=true) (hb:Binds X.K fd ps ds) (hd:Vals dvs ds) (hx:jC CX X E)
  (ha:PA X (e::es) t) (hdb:(x == ("__debug__" : Str))=false:=by decide) (he:starEach (e::es) X.env=(false,eval e X.env)::starEach es X.env:=by rfl) (hpl:(backTo pos (starEach es X.env)).any (·.1)=false:=by rfl) :
  PE X (.Call (.Name x p) (e::es) [] pos) (tI sp dvs E t):=by
 intro pins s σ H Q I h
 refine wpAny_Call_Name_kw (pJ I hg hm ?_ hdb)
 refine JI (h₀:=X.base) I.ok.mod.kin hk (thn (ha pos pins s σ H _ I h) λ us s1 ⟨vs,H1,I1,r,q⟩=>⟨I1.kIn,?_⟩) he hpl
 exact vq F hr hb hd hx I1 r q
end
section
variable {X:Cx} {CX:CXT} {k:Nat} {f C:Addr} {fd:FuncData} {ps ks:List Str} {sp:Sp} {E:XK} {x m:Str} {p pos apos kpos:Pos} {e o:Expr} {es:List Expr} {kws:List Keyword} {te ta:TE} {t tk:TA} {nm:Option Str}
variable {g:List Value->List Value->List Value} {gV:List V->List V->List V}
end
structure FnScope (N P:List Str) (sc:Scope):Prop where
 kind:sc.kind=.function
 co:sc.isCoroutine=false
 gen:sc.isGenerator=false
 nd:N.Nodup
 pre:N.take P.length=P
 par:∀ x∈P,sc.names.lookup x=some .local\/sc.names.lookup x=some .cell
 nofree:∀ y∈sc.names,y.2≠.free
theorem kU {kindOf:Str->Option NameKind} {x:Str}:∀ {binds:List (Str×Value)} {m:Str->Option Value},(∀ v,(x,v)∉binds)->bindL kindOf binds m x=m x
 | [],_,_=>rfl
 | (n,v)::r,m,h=>by
  unfold bindL
  rw [kU λ w hw=>h w (EH _ hw)]
  split
  ·have:x≠n:=by rintro rfl; exact h v EJ
   simp [this]
  ·rfl
theorem kW {kindOf:Str->Option NameKind} {x:Str}:∀ {binds:List (Str×Value)} {m:Str->Option Value},(∀ v,(x,v)∉binds)->bindC kindOf binds m x=m x
 | [],_,_=>rfl
 | (n,v)::r,m,h=>by
  unfold bindC
  rw [kW λ w hw=>h w (EH _ hw)]
  split
  ·rfl
  ·have:x≠n:=by rintro rfl; exact h v EJ
   simp [this]
theorem kX {kindOf:Str->Option NameKind} {x:Str} {v:Value}:∀ {P:List Str} {vs:List Value} {i:Nat} {m:Str->Option Value},P.Nodup->P[i]? = some x->vs[i]? = some v->kindOf x=some .local->
  bindL kindOf (P.zip vs) m x=some v
 | [],_,_,_,_,h,_,_=>by simp at h
 | _::_,[],_,_,_,_,h,_=>by simp at h
 | p::P,w::vs,0,m,nd,h1,h2,hk=>by
  simp at h1 h2; subst h1; subst h2
  show bindL kindOf ((p,w)::P.zip vs) m p=_
  unfold bindL
  rw [kU λ v hv=>(Fn.mp nd).1 (Hw hv).1,if_pos hk]
  simp
 | p::P,w::vs,i+1,m,nd,h1,h2,hk=>by
  show bindL kindOf ((p,w)::P.zip vs) m x=_
  unfold bindL
  exact kX (i:=i) (Fn.mp nd).2 (by simpa using h1) (by simpa using h2) hk
theorem kY {kindOf:Str->Option NameKind} {x:Str} {v:Value}:∀ {P:List Str} {vs:List Value} {i:Nat} {m:Str->Option Value},P.Nodup->P[i]? = some x->vs[i]? = some v->kindOf x≠some .local->
  bindC kindOf (P.zip vs) m x=some v
 | [],_,_,_,_,h,_,_=>by simp at h
 | _::_,[],_,_,_,_,h,_=>by simp at h
 | p::P,w::vs,0,m,nd,h1,h2,hk=>by
  simp at h1 h2; subst h1; subst h2
  show bindC kindOf ((p,w)::P.zip vs) m p=_
  unfold bindC
  rw [kW λ v hv=>(Fn.mp nd).1 (Hw hv).1,if_neg hk]
  simp
 | p::P,w::vs,i+1,m,nd,h1,h2,hk=>by
  show bindC kindOf ((p,w)::P.zip vs) m x=_
  unfold bindC
  exact kY (i:=i) (Fn.mp nd).2 (by simpa using h1) (by simpa using h2) hk
noncomputable def aK (N:List Str) (vs:List V):St:=vs.map some++EB (N.length - vs.length) none
noncomputable def wC (CX:CXT) (P:Program) (w:World) (K:Ee) (mg:Str->Option Value) (base:Heap) (N:List Str) (qual:Str) (scope:Scope) (f:Addr) (cd:Value) (A:Around) (outer:List Env) (s:Shared) (H:Hp) (E:XK):Cx where
 prog:=P
 w:=w
 K:=K
 mg:=mg
 base:=base
 A:=A.deeper (envOfC qual scope s.heap.objs.size f cd)
 N:=N
 s₀:=s
 H₀:=H
 env:=envOfC qual scope s.heap.objs.size f cd
 outer:=outer
 stack:=envOfC qual scope s.heap.objs.size f cd::outer
 ex:=[]
 calm:=true
 fn:=λ _=>true
 pn:=[]
 xe:=λ e s'=>wpAny (model P w) (A.deeper (envOfC qual scope s.heap.objs.size f cd)) (leaving (envOfC qual scope s.heap.objs.size f cd) e) (λ _ s''=>CX outer H s E e s'') (λ e' s''=>CX outer H s E e' s'') s'
theorem nC {sc:Scope} {n:Nat} {x:Str} (h:sc.names.lookup x=some .cell):∃ c,(cellsFrom n sc.names []).lookup x=some c:=by
 have q:=Jd sc.names n [] (.inl h)
 exact Go.mp q
theorem pW {CX:CXT} {P:Program} {w:World} {K:Ee} {mg:Str->Option Value} {base:Heap} {N ps:List Str} {qual:Str} {scope:Scope} {f:Addr} {cd:Value} {A:Around} {outer:List Env} {s s1:Shared} {H:Hp} {E:XK} {us:List Value} {vs:List V}
  (S:FnScope N ps scope) (hd:A.handled=none) (e0:Env0 P w K mg base A outer s H) (hl:vs.length=ps.length) (r:Vals vs us)
  (x:InCallC s s.heap.objs.size (bindL (envOfC qual scope s.heap.objs.size f cd).kindOf (ps.zip us) λ _=>none) (cellsFrom (s.heap.objs.size+1) scope.names []) (bindC (envOfC qual scope s.heap.objs.size f cd).kindOf (ps.zip us) λ _=>none) s1) :
  Inv (wC CX P w K mg base N qual scope f cd A outer s H E) [] (aK N vs) H s1:=by
 have hpl:ps.length<=N.length:=by have:=congrArg Hk S.pre; rw [EV] at this; lia
 obtain ⟨h1,tk,rfl,hk⟩:=x.done
 have noA:∀ b:Addr,b∉(wC CX P w K mg base N qual scope f cd A outer s H E).ex:=λ b z=>absurd (show b∈([]:List Addr) from z) (by simp)
 refine ⟨⟨e0.mod,S.kind,rfl,rfl,Eh _,λ y z c h1 h2=>?_,λ y hy=>?_,λ y c _ h=>?_,λ _=>hd,Around.frames_deeper e0.frames,.inr ⟨rfl,rfl⟩,λ b z=>absurd z (noA b),e0.bs,e0.bsz,λ b _ _=>noA b,λ b z=>absurd z (noA b),e0.funs,e0.frf⟩,
  rfl,e0.bare,Un.kept hk,⟨_,x.toInCall.ns,λ i y v h1 h2 h3=>?_⟩,λ y c h=>⟨_,x.cell y c h⟩,e0.hok.fresh (Eh _),λ y c h=>?_,λ p hp=>absurd (show p∈([]:List (Addr×Obj)) from hp) (by simp),e0.hok.kept hk,?_⟩
 ·exact name_of_addr x.apart (FX h1) (FX h2)
 ·have hy:scope.names.lookup y=some .cell\/scope.names.lookup y=some .free:=hy
  rcases hy with hy | hy
  ·exact nC hy
  ·exact absurd rfl (S.nofree _ (FX hy))
 ·exact E5 (x.above y c (FX h))
 ·have hi:i<vs.length:=by
   unfold aK at h2
   by_cases hi:i<vs.length
   ·exact hi
   ·rw [EY (by simpa using hi)] at h2
    rw [Ha] at h2
    split at h2<;>cases h2
  have ha:vs[i]? = some v:=by
   unfold aK at h2
   rw [E2 (by simpa using hi),El] at h2
   cases e:vs[i]? with
   | none=>rw [e] at h2; cases h2
   | some a=>rw [e] at h2; cases h2; rfl
  obtain ⟨u,hu,rv⟩:=r.get ha
  have hp:ps[i]? = some y:=by
   rw [<-S.pre,List.getElem?_take_of_lt (by lia)]; exact h1
  have ndP:ps.Nodup:=by rw [<-S.pre]; exact S.nd.sublist (List.take_sublist _ _)
  refine ⟨u,rv,?_⟩
  rcases S.par y (EN hp) with k | k
  ·exact .inl ⟨k,kX ndP hp hu k⟩
  ·obtain ⟨c,e⟩:=nC (n:=s.heap.objs.size+1) k
   refine .inr ⟨.inl k,c,e,?_⟩
   have q:=x.cell y c e
   rw [kY ndP hp hu (by show scope.names.lookup y≠_; rw [k]; decide)] at q
   exact q
 ·exact e0.hok.fresh (E5 (x.above y c (FX h)))
 ·unfold aK
  show _=N.length
  rw [ED,Ed,FF]
  lia
theorem BO {CX:CXT} {P:Program} {w:World} {K:Ee} {mg:Str->Option Value} {base:Heap} {k:Nat} {f:Addr} {name qual:Str} {params:Arguments} {body:List Stmt} {scope:Scope} {dV kV doc pm cdv ct oc:Value} {an od:Option Addr}
  {osl:Array (Option Value)} {N ps:List Str} {sp:Sp} (lk:K.lookup f=some ⟨oc,od,.func (GF name qual params body scope dV kV doc pm an cdv ct),osl⟩) (hcd:HH K cdv qual=true) (S:FnScope N ps scope)
  (len:∀ vs H Q E,sp vs H Q E->vs.length=ps.length)
  (hbody:∀ (A:Around) (outer:List Env) (s:Shared) (H:Hp) (vs:List V) (Q:VK) (E:XK),Room k (A.deeper (envOfC qual scope s.heap.objs.size f cdv))->sp vs H Q E->
   ∃ t,PSs (wC CX P w K mg base N qual scope f cdv A outer s H E) body t/\t { nx:=λ _ H'=>Q .non H',rt:=Q } (aK N vs) H) :
  FnOk P w K mg base CX (k+1) f (GF name qual params body scope dV kV doc pm an cdv ct) ps sp:=by
 refine ⟨len,λ A outer s H args us vs Q E hr e0 hb r hsp=>?_⟩
 have hl:=len _ _ _ _ hsp
 have KX:K.In s.heap:=e0.mod.kin.keeps λ b o e=>(e0.bs b o e).1
 have lim:s.heap.NoLimit:=e0.mod.nolimit.keeps λ b o e=>(e0.bs b o e).1
 have hkind:∀ y∈ps.zip us,scope.names.lookup y.1=some .local\/(scope.names.lookup y.1=some .cell/\((cellsFrom (s.heap.objs.size+1) scope.names []).lookup y.1).isSome=true):=λ⟨n,v⟩ hy=>by
  rcases S.par n (Hw hy).1 with q | q
  ·exact .inl q
  ·exact .inr ⟨q,Jd _ _ _ (.inl q)⟩
 refine codeAny_call_function hr.depth (KX _ _ lk) rfl S.co S.gen rfl (PySem.W.codeRec_of KX hcd) (hb _ _ _ _ ?_)
 refine wpAny_newFunctionEnv_cells S.kind hkind λ env he s1 x=>?_
 subst he
 refine ⟨lim.keeps x.toInCall.keep,codeAny_func ?_⟩
 obtain ⟨t,ht,hq⟩:=hbody A outer s H vs Q E (hr.deeper _) hsp
 have I:Inv (wC CX P w K mg base N qual scope f cdv A outer s H E) [] (aK N vs) H s1:=pW S hr.hd e0 hl r x
 refine wpAny_mono (ht [] s1 (aK N vs) H _ I hq) (λ fl s' hs=>?_) λ e s' hs=>hs
 have fin:∀ {σ':St} {H':Hp} {v:V} {u:Value},Inv (wC CX P w K mg base N qual scope f cdv A outer s H E) [] σ' H' s'->RelV v u->Q v H'->CE outer P w H s Q u s':=
  λ {σ' H' v u} J rv q=>⟨v,H',J.os,J.bare,J.base,J.hok,rv,q⟩
 cases fl with
 | ret u=>
  obtain ⟨v,σ',H',J,rv,q⟩:=hs
  exact fin J rv q
 | next=>
  obtain ⟨σ',H',J,q⟩:=hs
  exact fin (v:=V.non) (u:=E3) J rfl q
 | brk=>
  obtain ⟨_,_,_,q⟩:=hs
  exact FU q
 | cont=>
  obtain ⟨_,_,_,q⟩:=hs
  exact FU q
section
variable {X:Cx} {x:Str} {p pos:Pos} {e:Expr} {es:List Expr} {t:TA} {id T:String} {r:List V->Hp->VK->Prop}
noncomputable def tCB (r:List V->Hp->VK->Prop) (t:TA):TE:=λ σ H Q=>t σ H λ vs H1=>r vs H1 Q
theorem tJ (hc:ca X (.builtin id) r) (hg:Gl X x) (hm:X.mg x=none) (hv:bootBuiltins x=some (.builtin id)) (ha:PA X (e::es) t) (hn:x≠"__name__":=by decide) (hdb:(x == ("__debug__" : Str))=false:=by decide)
  (he:starEach (e::es) X.env=(false,eval e X.env)::starEach es X.env:=by rfl) (hpl:(backTo pos (starEach es X.env)).any (·.1)=false:=by rfl):PE X (.Call (.Name x p) (e::es) [] pos) (tCB r t):=by
 intro pins s σ H Q I h
 refine wpAny_Call_Name_kw (eG I hg hm hv ?_ hn hdb)
 exact KC (thn (ha pos pins s σ H _ I h) λ us s1 ⟨vs,H1,I1,r1,q1⟩=>hc pins s1 σ H1 vs us Q I1 r1 q1) he hpl
theorem pX (hc:ca X (.type T) r) (hg:Gl X x) (hm:X.mg x=none) (hv:bootBuiltins x=some (.type T)) (ha:PA X (e::es) t) (hn:x≠"__name__":=by decide) (hdb:(x == ("__debug__" : Str))=false:=by decide)
  (he:starEach (e::es) X.env=(false,eval e X.env)::starEach es X.env:=by rfl) (hpl:(backTo pos (starEach es X.env)).any (·.1)=false:=by rfl):PE X (.Call (.Name x p) (e::es) [] pos) (tCB r t):=by
 intro pins s σ H Q I h
 refine wpAny_Call_Name_kw (eG I hg hm hv ?_ hn hdb)
 exact Fk (thn (ha pos pins s σ H _ I h) λ us s1 ⟨vs,H1,I1,r1,q1⟩=>hc pins s1 σ H1 vs us Q I1 r1 q1) he hpl
end
end L2
open L2.SqL renaming of→MJ
open L2.SqT renaming of→MK
open L2.V renaming int→ML,str→MM,ref→MP
open PySem PySem.Spec PyProof.Rows L2
variable {Q E:Value->Shared->Prop} {ms:List Int} {items:Array Value} {l p a f C it i1 i2 l1 l2 S d:Addr} {n j t' k i tk b m c ep:Nat} {its us:List Value} {xs ys vs:List V} {σ:L2.St} {pins:List (Addr×Obj)} {h:Heap} {q P:Program} {x qual y z:Str} {X:Cx} {st:Stmt} {H1 H':Hp} {v:V} {fp ch qs as:List Addr} {g:TG} {wi:TI} {pos pos' py spos:Pos} {elt iter tg e cnd:Expr} {to ti ta:TE} {tb:TS} {u:Value} {scope:Scope} {o:Obj} {zs ls r:List Nat} {tc:TT} {rss:List (List Nat)} {D:Ends}
namespace HT
open PySem PyProof.Rows
noncomputable def bp:List Int->List Int->Bool
 | [],[]=>false
 | [],_::_=>true
 | _::_,[]=>false
 | x::xs,y::ys=>if x=y then bp xs ys else decide (x<y)
theorem bo (x y:Int) (xs ys:List Int):bp (x::xs) (y::ys)=if x=y then bp xs ys else decide (x<y):=rfl
theorem jR:bp [] []=false:=rfl
theorem jq (y:Int) (ys:List Int):bp [] (y::ys)=true:=rfl
theorem jr (x:Int) (xs:List Int):bp (x::xs) []=false:=rfl
theorem nD (A:Around) (s:Shared) (a:Int) (t:Tok) (c:Int) (u:Tok):∃ e,Me A s (.int a t) (.int c u) e/\(e=true↔a=c):=
 ⟨(a == c),JJ a t c u,by simp⟩
theorem tK (A:Around) (s:Shared) (a:Int) (t:Tok) (c:Int) (u:Tok) (prog:Program) (w:World) (E:Value->Shared->Prop) (Q:Value->Shared->Prop) (h:Q (.bool (decide (a<c))) s) :
  wpAny (model prog w) A (richCompare .Lt (.int a t) (.int c u)) Q E s:=
 (Mj h:wpAny (model prog w) A (compareOp .Lt (.int a t) (.int c u)) Q E s)
section
open PySem.SeqAt
open PySem.AutoSeq1 (wpAny_loadPart')
open PySem.MeetsSeq PySem.MeetsSeq2 PySem.MeetsSeq3
theorem jS (l b:Addr) (items items2:Array Value) (n n2:Nat) (dd dd2:Option Addr) (sl sl2:Array (Option Value)) (ns ms:List Int) (hi:IntsAre items.toList ns) (hj:IntsAre items2.toList ms) :
  Meets (Builtin.«tuple.__lt__» ⟨[.ref l,.ref b],[]⟩)
   (λ _ R s=>s.heap.get? l=some { cls:=.type "tuple",dict:=dd,data:=.seq items n,slots:=sl }/\s.heap.get? b=some { cls:=.type "tuple",dict:=dd2,data:=.seq items2 n2,slots:=sl2 }/\
    R (.ok (.ret (.bool (bp ns ms)))) s):=
 .of_wp λ prog w A R s h=>by
  obtain ⟨hp,g,d,tk,os⟩:=s; obtain ⟨hl,hb,h⟩:=h
  have f2:=Iy
  have z1:items.size=ns.length:=by rw [<-hi.length]; simp
  have z2:items2.size=ms.length:=by rw [<-hj.length]; simp
  wp_walk using wpAny_loadPart' hl,wpAny_loadPart' hb,wpAny_forIn_list _ (λ iD b s'=>b.1=none/\s'=⟨hp,g,d,tk,os⟩/\∃ (vs ws:List Value) (ns' ms':List Int),iD=vs.zip ws/\
   IntsAre vs ns'/\IntsAre ws ms'/\ns'.length+items2.size=ms'.length+items.size/\R (.ok (.ret (.bool (bp ns' ms')))) ⟨hp,g,d,tk,os⟩) _
  case turn=>
   rintro ⟨y,x⟩ iD b s' ⟨hb',rfl,vs,ws,ns',ms',hz,hvi,hwi,hlen,hR⟩
   cases hvi with
   | nil=>rw [Il] at hz; cases hz
   | cons a t hvi'=>
    cases hwi with
    | nil=>rw [HN] at hz; cases hz
    | cons c u hwi'=>
     rw [FG] at hz
     injection hz with hyx hrest
     injection hyx with hy hx
     subst hy hx
     rw [bo] at hR
     simp only [EM] at hlen
     obtain ⟨e,he,hiff⟩:=nD A.in1 ⟨hp,g,d,tk,os⟩ a t c u
     refine wpAny_bind (he prog w _ _ ?_)
     cases e with
     | true=>
      rw [if_pos (hiff.mp rfl)] at hR
      wp_walk
      exact ⟨rfl,rfl,_,_,_,_,hrest,hvi',hwi',by lia,hR⟩
     | false=>
      rw [if_neg (λ q=>absurd (hiff.mpr q) EF)] at hR
      have hri:=tK A.in1 ⟨hp,g,d,tk,os⟩ a t c u prog w
      wp_walk using hri
      exact ⟨_,rfl,by simpa using hR⟩
  case fin=>
   rintro ⟨b1,b2⟩ s' ⟨hb',rfl,vs,ws,ns',ms',hz,hvi,hwi,hlen,hR⟩
   simp only at hb'
   subst hb'
   have hv:bp ns' ms'=decide (items.size<items2.size):=by
    cases hvi with
    | nil=>
     cases hwi with
     | nil=>
      simp only [E4] at hlen
      rw [jR]
      exact (decide_eq_false (by lia)).symm
     | cons c u hw=>
      simp only [E4,EM] at hlen
      rw [jq]
      exact (decide_eq_true (by lia)).symm
    | cons a t hv=>
     cases hwi with
     | nil=>
      simp only [E4,EM] at hlen
      rw [jr]
      exact (decide_eq_false (by lia)).symm
     | cons c u hw=>
      rw [FG] at hz
      cases hz
   rw [hv] at hR
   wp_walk
   exact ⟨_,rfl,by simpa [Hv] using hR⟩
  case h=>
   exact ⟨rfl,rfl,items.toList,items2.toList,ns,ms,rfl,hi,hj,by lia,h⟩
end
section
variable {prog:Program} {w:World} {A:Around} {E:Value->Shared->Prop} {s:Shared}
theorem oP {b:Addr} {items2:Array Value} {ns:List Int} (hl:IsTup s.heap l items) (hb:IsTup s.heap b items2) (hi:IntsAre items.toList ns) (hj:IntsAre items2.toList ms)
  (hu:A.units<cLine) (h:Q (.bool (bp ns ms)) s):wpAny (model prog w) A (compareOp .Lt (.ref l) (.ref b)) Q E s:=by
 obtain ⟨⟨cls,dd,data,sl⟩,ho,hc,n,hd⟩:=id hl
 obtain ⟨⟨cls2,dd2,data2,sl2⟩,ho2,hc2,n2,hd2⟩:=id hb
 simp only at hc hd hc2 hd2
 subst hc hd hc2 hd2
 exact richCompare_meets_room (op:=.Lt) ⟨_,ho,rfl⟩ ⟨_,ho2,rfl⟩ PySem.F.slot_tuple_lt PySem.F.entry_tuple_lt (PySem.F.args_tuple_lt_2 _ _) (jS l b items items2 n n2 dd dd2 sl sl2 ns ms hi hj)
  ⟨ho,ho2,show Gi (bp ns ms)≠Jq/\Q (.bool (bp ns ms)) s from ⟨(λ x=>nomatch x),h⟩⟩ hu
noncomputable def sIx (n d:Nat):Option Int->Nat
 | none=>d
 | some v=>if v<0 then (v+(n:Int)).toNat else min v.toNat n
theorem nE (n d:Nat):sIx n d none=d:=rfl
theorem mE (n d k:Nat):sIx n d (some (k:Int))=min k n:=by
 show (if (k:Int)<0 then ((k:Int)+(n:Int)).toNat else min (k:Int).toNat n)=min k n
 rw [if_neg (by lia),FL]
theorem y7 (n d:Nat) (hd:d<=n) (o:Option Int):sIx n d o<=n:=by
 cases o with
 | none=>exact hd
 | some v=>
  show (if v<0 then (v+(n:Int)).toNat else min v.toNat n)<=n
  by_cases hv:v<0
  ·rw [if_pos hv]; lia
  ·rw [if_neg hv]; exact Nat.min_le_right _ _
theorem pY (v:Int) (n d:Nat):(if v<0 then max (v+(n:Int)) 0 else min v (n:Int))=((sIx n d (some v):Nat):Int):=by
 show (if v<0 then max (v+(n:Int)) 0 else min v (n:Int))=(((if v<0 then (v+(n:Int)).toNat else min v.toNat n):Nat):Int)
 by_cases hv:v<0
 ·simp only [if_pos hv]; lia
 ·simp only [if_neg hv]; lia
theorem oQ (lo hi:Option Int) (n:Nat):GQ lo hi 1 (n:Int)=(((sIx n 0 lo:Nat):Int),((sIx n n hi:Nat):Int)):=by
 have h1:¬ ((1:Int)<0):=by lia
 unfold GQ
 simp only [h1,if_false]
 refine Prod.ext ?_ ?_
 ·cases lo with
  | none=>rfl
  | some v=>exact pY v n 0
 ·cases hi with
  | none=>rfl
  | some v=>exact pY v n n
theorem oR (i j:Nat):Gj (i:Int) (j:Int) 1=j - i:=by
 unfold Gj
 have h1:(1:Int) > 0:=by lia
 simp only [h1,if_true,LN]
 split<;>lia
theorem jD {v:Value} {o:Option Int} {Q:Option Int->Shared->Prop} (p:IsPart v o) (h:Q o s):wpAny (model prog w) A (K0 v) Q E s:=by
 cases p with
 | none=>exact slicePart_none h
 | int i t=>exact slicePart_int h
theorem dS {sl:Addr} {vl vu:Value} {lo hi:Option Int} {Q:Int×Int×Nat->Shared->Prop} (hs:s.heap.IsSliceOf sl vl vu .none) (pl:IsPart vl lo) (pu:IsPart vu hi)
  (h:Q (((sIx n 0 lo:Nat):Int),1,sIx n n hi - sIx n 0 lo) s):wpAny (model prog w) A (Ib (.ref sl) (pure (n:Int))) Q E s:=by
 obtain ⟨os,hos,hcs,hds⟩:=id hs
 unfold Ib Lv
 refine wpAny_bind (wpAny_bind (wpAny_field hos hds (x:=vl) rfl (wpAny_bind (wpAny_field hos hds (x:=vu) rfl (wpAny_bind (wpAny_field hos hds (x:=.none) rfl (wpAny_pure ?_)))))))
 refine wpAny_bind (slicePart_none ?_)
 show wpAny _ _ (if ((1:Int) == 0)=true then _ else _) _ _ s
 rw [if_neg (by decide)]
 refine wpAny_bind (jD pl (wpAny_bind (jD pu (wpAny_bind (wpAny_pure ?_)))))
 show wpAny _ _ (match GQ lo hi 1 (n:Int) with | (lo,hi)=>pure (lo,(1:Int),Gj lo hi 1)) _ _ s
 rw [oQ lo hi n]
 show wpAny _ _ (pure (((sIx n 0 lo:Nat):Int),(1:Int),Gj ((sIx n 0 lo:Nat):Int) ((sIx n n hi:Nat):Int) 1)) _ _ s
 rw [oR]
 exact wpAny_pure h
theorem tL (xs:Array Value) (i k:Nat):((Eu k).filterMap λ (m:Nat)=>xs[((i:Int)+(m:Int)*1).toNat]?).toArray=((xs.toList.drop i).take k).toArray:=by
 have e:(λ (m:Nat)=>xs[((i:Int)+(m:Int)*1).toNat]?)=λ m=>xs[i+m]?:=by
  funext m
  have:((i:Int)+(m:Int)*1).toNat=i+m:=by lia
  rw [this]
 rw [e]
 have:=pick_run xs i k
 rw [List.filterMap_map] at this
 have e2:((λ x=>xs[x]?)∘λ x=>i+x)=λ m=>xs[i+m]?:=rfl
 rw [e2] at this
 rw [this]
theorem gE {t sl:Addr} {vl vu:Value} {lo hi:Option Int} (ht:IsTup s.heap t items) (hs:s.heap.IsSliceOf sl vl vu .none) (pl:IsPart vl lo) (pu:IsPart vu hi)
  (hw:¬ (sIx items.size 0 lo=0/\sIx items.size items.size hi=items.size))
  (h:Q (.ref s.heap.objs.size) { s with heap:=s.heap.push { cls:=.type "tuple",data:=.seq ((items.toList.drop (sIx items.size 0 lo)).take (sIx items.size items.size hi - sIx items.size 0 lo)).toArray } })
  (hsz:items.size<=sizeLine):wpAny (model prog w) A (getItem (.ref t) (.ref sl)) Q E s:=by
 have htake:sizeOk (.seq ((items.toList.drop (sIx items.size 0 lo)).take (sIx items.size items.size hi - sIx items.size 0 lo)).toArray):=by
  show ((items.toList.drop (sIx items.size 0 lo)).take (sIx items.size items.size hi - sIx items.size 0 lo)).toArray.size<=sizeLine
  rw [Ew,EV,GK,FD]
  lia
 have hj:sIx items.size items.size hi<=items.size:=y7 _ _ (Eh _) hi
 obtain ⟨os,hos,hcs,hds⟩:=id hs
 have hTs:s.TypeIs (.ref sl) "slice":=⟨os,hos,hcs⟩
 unfold getItem
 try with_reducible refine wpAny_holding ?_
 first | refine wpAny_bind (wpAny_pure ?_) | skip
 refine wpAny_bind (wpAny_sequenceKey ht.typeIs (by decide) ?_)
 refine wpAny_bind (wpAny_callSpecial?_slot (name:=E1 "__getitem__") ht.typeIs Fm
  (wpAny_call_entry Fm ht.typeIs entry_tuple_getitem ?_ (args_tuple_getitem _ _)))
 show wpAny _ _ (Ic (.ref t) >>= _) _ _ s
 refine wpAny_bind (tupleItemsOf_ ht ?_)
 refine wpAny_bind (wpAny_typeOf hTs ?_)
 rw [if_pos (by decide)]
 refine wpAny_bind (dS hs pl pu ?_)
 have hno:¬ ((((sIx items.size 0 lo:Nat):Int) == 0 && (1:Int) == 1 && (sIx items.size items.size hi - sIx items.size 0 lo) == items.size)=true):=by
  intro q
  rw [Fy,Fy] at q
  have q1:((sIx items.size 0 lo:Nat):Int)=0:=eq_of_beq q.1.1
  have q2:sIx items.size items.size hi - sIx items.size 0 lo=items.size:=eq_of_beq q.2
  exact hw ⟨by lia,by lia⟩
 show wpAny _ _ (if (((sIx items.size 0 lo:Nat):Int) == 0 && (1:Int) == 1 && (sIx items.size items.size hi - sIx items.size 0 lo) == items.size)=true then _ else _) _ _ s
 rw [if_neg hno,tL]
 first
  | exact wpAny_bind (m:=Gp _) (wpAny_newObj_type (wpAny_pure ⟨_,rfl,wpAny_pure h⟩) htake)
  | exact wpAny_bind (m:=Gp _) (wpAny_newObj_type (wpAny_bind (wpAny_pure (wpAny_pure ⟨_,rfl,wpAny_pure h⟩))) htake)
  | exact wpAny_bind (wpAny_bind (m:=Gp _) (wpAny_newObj_type (wpAny_pure (wpAny_pure ⟨_,rfl,wpAny_pure h⟩)) htake))
  | exact wpAny_bind (wpAny_bind (m:=Gp _) (wpAny_newObj_type (wpAny_pure ⟨_,rfl,wpAny_pure h⟩) htake))
end
end HT
namespace L2
open PySem PySem.Spec PyProof.Rows
noncomputable abbrev TO:=St->Hp->(Option Int->Hp->Prop)->Prop
noncomputable def PO (X:Cx) (e:Option Expr) (t:TO):Prop:=
 ∀ (pins:List (Addr×Obj)) (s:Shared) (σ:St) (H:Hp) (Q:Option Int->Hp->Prop),Inv X pins σ H s->t σ H Q->
  wpAny (model X.prog X.w) X.A (evalPart e X.env) (λ u s'=>∃ o H',Inv X pins σ H' s'/\IsPart u o/\Q o H') X.xe s
noncomputable def mF:TO:=λ _ H Q=>Q none H
noncomputable def wD (t:TE):TO:=λ σ H Q=>t σ H λ x H1=>∃ i,x=.int i/\Q (some i) H1
theorem bR {ns:List Int}:∀ {us:List Value},Vals (ns.map ML) us->IntsAre us ns:=by
 induction ns with
 | nil=>intro us r; rw [GW] at r; cases r; exact .nil
 | cons n ns ih=>
  intro us r
  rw [EU] at r
  cases r with
  | cons r1 r2=>
   obtain ⟨t,e⟩:=r1
   subst e
   exact .cons n t (ih r2)
section
variable {X:Cx} {e:Expr} {te:TE} {lo hi:Option Expr} {tl th:TO} {pos p2:Pos}
theorem wE:PO X none mF:=by
 intro pins s σ H Q I h
 rw [evalPart_none]
 exact wpAny_pure ⟨none,H,I,.none,h⟩
theorem wF (h:PE X e te):PO X (some e) (wD te):=by
 intro pins s σ H Q I hw
 rw [evalPart_some]
 refine thn (h pins s σ H _ I hw) λ u s1 ⟨x,H1,I1,r1,q1⟩=>?_
 obtain ⟨i,rfl,q⟩:=q1
 obtain ⟨t,rfl⟩:=r1
 exact ⟨some i,H1,I1,.int i t,q⟩
noncomputable def SlR (X:Cx) (r:V->Option Int->Option Int->Hp->VK->Prop):Prop:=
 ∀ (pins:List (Addr×Obj)) (s:Shared) (σ:St) (H:Hp) (x:V) (v vl vu:Value) (lo hi:Option Int) (sl:Addr) (Q:VK),Inv X pins σ H s->RelV x v->s.heap.IsSliceOf sl vl vu .none->IsPart vl lo->IsPart vu hi->r x lo hi H Q->
  ∃ T id,typeLookup (.type T) "__getitem__" = pure (some (.builtin id))/\s.TypeIs v T/\wpAny (model X.prog X.w) X.A (getItem v (.ref sl)) (EP X pins σ Q) X.xe s
noncomputable def tSl (r:V->Option Int->Option Int->Hp->VK->Prop) (te:TE) (tl th:TO):TE:=λ σ H Q=>te σ H λ x H1=>tl σ H1 λ l H2=>th σ H2 λ u H3=>r x l u H3 Q
theorem tM {r:V->Option Int->Option Int->Hp->VK->Prop} (hr:SlR X r) (he:PE X e te) (hl:PO X lo tl) (hu:PO X hi th):PE X (.Subscript e (.Slice lo hi none p2) pos) (tSl r te tl th):=by
 intro pins s σ H Q I h
 refine Subscript_ (thn (he pins s σ H _ I h) λ v s1 ⟨x,H1,I1,r1,q1⟩=>?_)
 refine wpAny_Slice (thn (hl pins s1 σ H1 _ I1 q1) λ vl s2 ⟨l,H2,I2,pl,q2⟩=>thn (hu pins s2 σ H2 _ I2 q2) λ vu s3 ⟨u,H3,I3,pu,q3⟩=>?_)
 rw [evalPart_none]
 refine wpAny_pure ?_
 have I4:Inv X pins σ H3 { s3 with heap:=s3.heap.push { cls:=.type "slice",data:=.fields #[vl,vu,.none] } }:=I3.kept (t':=s3.toks) λ b ob q=>Ec _ q
 obtain ⟨T,id,hT,ht,hg⟩:=hr pins { s3 with heap:=s3.heap.push { cls:=.type "slice",data:=.fields #[vl,vu,.none] } } σ H3 x v vl vu l u s3.heap.objs.size Q I4 r1 (JK ..) pl pu q3
 show wpAny (model X.prog X.w) X.A (subscriptTail e (.Slice lo hi none p2) v (.ref s3.heap.objs.size)) (EP X pins σ Q) X.xe { s3 with heap:=s3.heap.push { cls:=.type "slice",data:=.fields #[vl,vu,.none] } }
 exact tail_any (ops:=[.ref s3.heap.objs.size,v]) ht hT hg (by with_unfolding_all rfl)
noncomputable def mG (xs:List V) (lo hi:Option Int):List V:=(xs.drop (HT.sIx xs.length 0 lo)).take (HT.sIx xs.length xs.length hi - HT.sIx xs.length 0 lo)
theorem iE (xs:List V) (lo hi:Option Int):(mG xs lo hi).length<=xs.length:=by
 unfold mG
 rw [EV,GK]
 lia
noncomputable def DB (K:Ee):V->Option Int->Option Int->Hp->VK->Prop:=λ x lo hi H Q=>∃ a xs,x=.ref a/\SqT K H a xs/\
 ¬ (HT.sIx xs.length 0 lo=0/\HT.sIx xs.length xs.length hi=xs.length)/\∀ p,H p=none->Q (.ref p) (upd H p (.tup (mG xs lo hi)))
theorem y8:SlR X (DB X.K):=by
 intro pins s σ H x v vl vu lo hi sl Q I rx hs pl pu h
 obtain ⟨a,xs,rfl,hx,hw,q⟩:=h
 cases rx
 obtain ⟨its,r,ht,hz⟩:=I.tuple hx
 have hlen:its.toArray.size=xs.length:=by rw [Ew]; exact r.length.symm
 refine ⟨"tuple",_,Fm.lookup,ht.typeIs,?_⟩
 refine HT.gE ht hs pl pu (by rw [hlen]; exact hw) ?_ (by rw [hlen]; exact hz)
 rw [hlen]
 refine ⟨.ref s.heap.objs.size,_,I.laid (t':=s.toks) (o:=.tup (mG xs lo hi)) (λ b ob q=>Ec _ q) (Eh _) ?_,rfl,q _ (I.hok.fresh (Eh _))⟩
 exact ⟨Fb (iE xs lo hi) hz,_,(r.drop (HT.sIx xs.length 0 lo)).take (HT.sIx xs.length xs.length hi - HT.sIx xs.length 0 lo),K5 _ _⟩
end
noncomputable def ixN (n:Nat) (i:Int):Option Nat:=if 0<=i then (if i<n then some i.toNat else none) else if -(n:Int)<=i then some (i+n).toNat else none
noncomputable def atI {α:Type} (xs:List α) (i:Int):Option α:=(ixN xs.length i).bind λ j=>xs[j]?
theorem pZ {i:Int} (h:ixN n i=some j):seqIndex? i n=some j/\j<n/\-(n:Int)<=i/\i<n:=by
 unfold ixN at h
 by_cases h0:0<=i
 ·rw [if_pos h0] at h
  by_cases h1:i<n
  ·rw [if_pos h1] at h
   have e:i.toNat=j:=EO h
   exact ⟨by rw [seqIndex_of h0 h1,e],by lia,by lia,h1⟩
  ·rw [if_neg h1] at h; cases h
 ·rw [if_neg h0] at h
  by_cases h1:-(n:Int)<=i
  ·rw [if_pos h1] at h
   have e:(i+n).toNat=j:=EO h
   exact ⟨by rw [seqIndex_neg (by lia) h1,e],by lia,h1,by lia⟩
  ·rw [if_neg h1] at h; cases h
theorem mH {α:Type} {xs:List α} {i:Int} {v:α} (h:atI xs i=some v):∃ j,seqIndex? i xs.length=some j/\xs[j]? = some v/\j<xs.length/\-(xs.length:Int)<=i/\i<xs.length:=by
 unfold atI at h
 cases e:ixN xs.length i with
 | none=>rw [e] at h; cases h
 | some j=>
  rw [e] at h
  obtain ⟨h1,h2,h3,h4⟩:=pZ e
  exact ⟨j,h1,h,h2,h3,h4⟩
theorem bJ {α:Type} {xs:List α} {v:α} (h:xs[j]? = some v):atI xs (j:Int)=some v:=by
 have hj:j<xs.length:=(EE.mp h).1
 have e:ixN xs.length (j:Int)=some j:=by
  unfold ixN
  rw [if_pos (by lia),if_pos (by lia)]; simp
 unfold atI; rw [e]; exact h
noncomputable def p7 (b:Expr):Prop:=∀ o i,subscripted b false o i=operate [o,i] (getItem o i)
noncomputable def IxR (X:Cx) (r:R2):Prop:=
 ∀ (value slice:Expr) (pins:List (Addr×Obj)) (s:Shared) (σ:St) (H:Hp) (x y:V) (v u:Value) (Q:VK),Inv X pins σ H s->RelV x v->RelV y u->r x y H Q->
  subscripted slice false v u=operate [v,u] (getItem v u)->wpAny (model X.prog X.w) X.A (subscriptTail value slice v u) (EP X pins σ Q) X.xe s
noncomputable def MtR (X:Cx) (id:String) (r:V->List V->Hp->VK->Prop):Prop:=
 ∀ (pins:List (Addr×Obj)) (s:Shared) (σ:St) (H:Hp) (x:V) (xs:List V) (v:Value) (us:List Value) (Q:VK),Inv X pins σ H s->RelV x v->Vals xs us->r x xs H Q->
  wpAny (model X.prog X.w) X.A (call (.builtin id) (v::us)) (EP X pins σ Q) X.xe s
section
variable {X:Cx} {a b:Expr} {ta tb:TE} {pos:Pos}
theorem BP {r:R2} (hr:IxR X r) (ha:PE X a ta) (hb:PE X b tb) (hs:p7 b):PE X (.Subscript a b pos) (tOp r ta tb):=by
 intro pins s σ H Q I h
 exact Subscript_ (BC ha hb I h λ v u s2 x y H2 I2 rx ry q=>hr a b pins s2 σ H2 x y v u Q I2 rx ry q (hs _ _))
noncomputable def AZ (K:Ee):R2:=λ x y H Q=>∃ p xs i v,x=.ref p/\y=.int i/\SqL K H p xs/\atI xs i=some v/\Q v H
noncomputable def A0 (K:Ee):R2:=λ x y H Q=>∃ p xs i v,x=.ref p/\y=.int i/\SqT K H p xs/\atI xs i=some v/\Q v H
noncomputable def CW:R2:=λ x y H Q=>∃ z i c,x=.str z/\y=.int i/\z.length<=sizeLine/\atI z.cps.toList i=some c/\Q (.str ⟨#[c]⟩) H
theorem wG:IxR X (AZ X.K):=by
 intro value slice pins s σ H x y v u Q I rx ry h hs
 obtain ⟨p,xs,i,z,rfl,rfl,hq,he,q⟩:=h
 cases rx
 obtain ⟨t,rfl⟩:=ry
 obtain ⟨its,r,pl,hz⟩:=I.list hq
 obtain ⟨j,h1,h2,h3,h4,h5⟩:=mH he
 obtain ⟨w,ew,rw'⟩:=r.get h2
 have hl:=r.length
 have hn:=fZ
 have fin:EP X pins σ Q w s:=⟨z,H,I,rw',q⟩
 by_cases h0:0<=i
 ·have hj:i.toNat=j:=by
   rw [seqIndex_of h0 h5] at h1
   exact EO h1
  exact item_listR pl.isList h0 (by lia) (by rw [hj]; simpa using ew) fin hs
 ·have hj:(i+(its.toArray.size:Int)).toNat=j:=by
   rw [seqIndex_neg (by lia) h4] at h1
   rw [Ew,<-hl]
   exact EO h1
  exact subscriptTail_builtinR (x:=w) pl.isList.typeIs slot_list_getitem.lookup
   (wpAny_getItem_list_neg (Q:=λ r s'=>r=w/\EP X pins σ Q r s') pl.isList (by lia) (by rw [Ew]<;>lia) (by lia) (by rw [hj]; simpa using ew) ⟨rfl,fin⟩) hs
theorem y9:IxR X (A0 X.K):=by
 intro value slice pins s σ H x y v u Q I rx ry h hs
 obtain ⟨p,xs,i,z,rfl,rfl,hq,he,q⟩:=h
 cases rx
 obtain ⟨t,rfl⟩:=ry
 obtain ⟨its,r,pl,hz⟩:=I.tuple hq
 obtain ⟨j,h1,h2,h3,h4,h5⟩:=mH he
 obtain ⟨w,ew,rw'⟩:=r.get h2
 have hl:=r.length
 have hn:=fZ
 have fin:EP X pins σ Q w s:=⟨z,H,I,rw',q⟩
 exact subscriptTail_builtinR (x:=w) pl.typeIs slot_tuple_getitem.lookup
  (getItem_tuple (j:=j) (Q:=λ r s'=>r=w/\EP X pins σ Q r s') pl (by lia) (by lia) (by rw [Ew,<-hl]; exact h1) (by simpa using ew) ⟨rfl,fin⟩) hs
theorem za:IxR X CW:=by
 intro value slice pins s σ H x y v u Q I rx ry h hs
 obtain ⟨z,i,c,rfl,rfl,hz,he,q⟩:=h
 obtain ⟨t,rfl⟩:=rx
 obtain ⟨t',rfl⟩:=ry
 obtain ⟨j,h1,h2,h3,h4,h5⟩:=mH he
 have hl:z.cps.toList.length=z.length:=by simp [KD]
 rw [hl] at h1 h4 h5
 have hn:=fZ
 exact tail_any (typeIs_str s z t) slot_str_getitem.lookup (getItem_str (c:=c) (by
  have e1:decide (i < -(2 ^ 63:Int))=false:=decide_eq_false (by lia)
  have e2:decide (i>=2 ^ 63)=false:=decide_eq_false (by lia)
  rw [e1,e2,La]) (by rw [h1]; simpa using h2) ⟨.str ⟨#[c]⟩,H,I.tok _,⟨_,rfl⟩,q⟩) hs
theorem oS (its:List Value) (n j:Nat) (u:Value):Fu (·.setIfInBounds j u) { cls:=.type "list",data:=.seq its.toArray n }={ cls:=.type "list",data:=.seq (its.set j u).toArray n }:=by
 simp [Fu]
theorem Inv.lst {pins:List (Addr×Obj)} {σ:St} {H:Hp} {s:Shared} {p:Addr} {xs:List V} (I:Inv X pins σ H s) (h:H p=some (.lst xs)) :
  ∃ (its:List Value) (n:Nat),Vals xs its/\s.heap.get? p=some { cls:=.type "list",data:=.seq its.toArray n }/\xs.length<=sizeLine:=by
 obtain ⟨z,its,n,r,e⟩:=I.hok p _ h
 exact ⟨its,n,r,e,z⟩
theorem Inv.lstUpd {H:Hp} {s:Shared} {its':List Value} {n':Nat} {f:Obj->Obj} (I:Inv X pins σ H s) (h:H p=some (.lst xs))
  (ho:s.heap.get? p=some { cls:=.type "list",data:=.seq its.toArray n }) (hf:f { cls:=.type "list",data:=.seq its.toArray n }={ cls:=.type "list",data:=.seq its'.toArray n' }) (r:Vals ys its') (hz:ys.length<=sizeLine) (t:Nat) :
  Inv X pins σ (upd H p (.lst ys)) { s with heap:=s.heap.update p f,toks:=t }:=by
 have e:(s.heap.update p f).get? p=some { cls:=.type "list",data:=.seq its'.toArray n' }:=by
  rw [FQ f ho (by rw [hf]<;>rfl),hf]
 refine I.write (x:=p) (e:=p) (by rw [h]; trivial) (.inl rfl) (λ b u hb q=>(FA _ _ (Ff hb)).trans q) ⟨_,e⟩ ?_
 exact ⟨hz,its',n',r,e⟩
noncomputable def oU:V->V->V->Hp->(Hp->Prop)->Prop:=λ o i v H Q=>∃ p xs k j,o=.ref p/\i=.int k/\H p=some (.lst xs)/\ixN xs.length k=some j/\Q (upd H p (.lst (xs.set j v)))
theorem jT:Bv X oU:=by
 intro pins s σ H o i v ov iv u Q I ro ri rv h
 obtain ⟨p,xs,k,j,rfl,rfl,hp,hj,q⟩:=h
 cases ro
 obtain ⟨t,rfl⟩:=ri
 obtain ⟨its,n,r,ho,hz⟩:=I.lst hp
 obtain ⟨h1,h2,h3,h4⟩:=pZ hj
 have hl:=r.length
 have hn:=fZ
 have I':Inv X pins σ (upd H p (.lst (xs.set j v))) { s with heap:=s.heap.update p (Fu (·.setIfInBounds j u)) }:=
  I.lstUpd hp ho (oS its n j u) (r.set rv j) (by rw [IV]; exact hz) s.toks
 by_cases h0:0<=k
 ·have hk:k.toNat=j:=by
   rw [seqIndex_of h0 h4] at h1
   exact EO h1
  exact PySem.W.ki_setAt ho h0 (by lia) (by rw [Ew,<-hl]; exact h4) (by rw [hk]; exact ⟨_,I',q⟩)
 ·have hk:(k+(its.toArray.size:Int)).toNat=j:=by
   rw [seqIndex_neg (by lia) h3] at h1
   rw [Ew,<-hl]
   exact EO h1
  exact PySem.W.ki_setBack ho (by lia) (by rw [Ew,<-hl]; exact h3) (by lia) (by rw [hk]; exact ⟨_,I',q⟩)
theorem kZ (lo hi:Option Int) (n:Nat):(sliceBounds lo hi none n).1=((HT.sIx n 0 lo:Nat):Int)/\(sliceBounds lo hi none n).2.1=((HT.sIx n n hi:Nat):Int)/\(sliceBounds lo hi none n).2.2=1:=by
 refine ⟨?_,?_,rfl⟩
 ·cases lo with
  | none=>simp [sliceBounds,HT.sIx]
  | some i=>
   simp only [sliceBounds,HT.sIx,Kq,show (1:Int) > 0 by decide,if_true]
   by_cases h:i<0
   ·simp only [h,if_true]<;>lia
   ·simp only [h,if_false]<;>lia
 ·cases hi with
  | none=>simp [sliceBounds,HT.sIx]
  | some i=>
   simp only [sliceBounds,HT.sIx,Kq,show (1:Int) > 0 by decide,if_true]
   by_cases h:i<0
   ·simp only [h,if_true]<;>lia
   ·simp only [h,if_false]<;>lia
theorem jU (its:List Value) (lo hi:Option Int):slicePick its.toArray lo hi none=((its.drop (HT.sIx its.length 0 lo)).take (HT.sIx its.length its.length hi - HT.sIx its.length 0 lo)).toArray:=by
 obtain ⟨h1,h2,h3⟩:=kZ lo hi its.toArray.size
 unfold slicePick
 rw [h1,h2,h3]
 simp only [sliceRange_one,pick_run,Ew]<;>rfl
noncomputable def BQ (K:Ee):V->Option Int->Option Int->Hp->VK->Prop:=λ x lo hi H Q=>∃ a xs,x=.ref a/\SqL K H a xs/\∀ p,H p=none->Q (.ref p) (upd H p (.lst (mG xs lo hi)))
theorem wH:SlR X (BQ X.K):=by
 intro pins s σ H x v vl vu lo hi sl Q I rx hs pl pu h
 obtain ⟨a,xs,rfl,hx,q⟩:=h
 cases rx
 obtain ⟨its,r,ht,hz⟩:=I.list hx
 have hlen:=r.length
 refine ⟨"list",_,slot_list_getitem.lookup,ht.isList.typeIs,?_⟩
 refine wpAny_getItem_list_slice ht.isList hs pl pu .none (by simp) ?_ (by rw [Ew]<;>lia)
 rw [jU,<-hlen]
 refine ⟨.ref s.heap.objs.size,_,I.laid (t':=s.toks) (o:=.lst (mG xs lo hi)) (λ b ob q=>Ec _ q) (Eh _) ?_,rfl,q _ (I.hok.fresh (Eh _))⟩
 exact ⟨Fb (iE xs lo hi) hz,_,0,(r.drop (HT.sIx xs.length 0 lo)).take (HT.sIx xs.length xs.length hi - HT.sIx xs.length 0 lo),Ek _ rfl⟩
theorem k0:ca X (.builtin "len") (λ xs H Q=>∃ p ys,xs=[.ref p]/\(SqL X.K H p ys\/SqT X.K H p ys)/\Q (.int ys.length) H):=by
 intro pins s σ H xs us Q I r h
 obtain ⟨p,ys,rfl,hq,q⟩:=h
 obtain ⟨u,rfl,rx⟩:=ft r
 cases rx
 have hn:=fZ
 rcases hq with hq | hq
 ·obtain ⟨its,r',pl,hz⟩:=I.list hq
  have hlen:=r'.length
  exact Calls.call_len_list pl.isList (by simp only [Ew]<;>lia) ⟨.int ys.length,H,I.tok _,⟨s.toks+1,by rw [Ew,hlen]⟩,q⟩
 ·obtain ⟨its,r',pl,hz⟩:=I.tuple hq
  have hlen:=r'.length
  exact len_tuple pl (by simp only [Ew]<;>lia) ⟨.int ys.length,H,I.tok _,⟨s.toks+1,by rw [Ew,hlen]⟩,q⟩
theorem k4:ca X (.builtin "len") (λ xs H Q=>∃ z,xs=[.str z]/\z.length<=sizeLine/\Q (.int z.length) H):=by
 intro pins s σ H xs us Q I r h
 obtain ⟨z,rfl,hz,q⟩:=h
 obtain ⟨u,rfl,t,rfl⟩:=ft r
 have hn:=fZ
 exact len_str (by lia) ⟨.int z.length,H,I.tok _,⟨_,rfl⟩,q⟩
theorem k7:ca X (.type "list") (λ xs H Q=>∃ p ys,xs=[.ref p]/\(SqL X.K H p ys\/SqT X.K H p ys)/\∀ l,H l=none->Q (.ref l) (upd H l (.lst ys))):=by
 intro pins s σ H xs us Q I r h
 obtain ⟨p,ys,rfl,hq,q⟩:=h
 obtain ⟨u,rfl,rx⟩:=ft r
 cases rx
 have fin:∀ (its:List Value),Vals ys its->ys.length<=sizeLine->∀ (h':Heap) (c':Nat),(∀ b o',s.heap.get? b=some o'->h'.get? b=some o')->
   h'.get? s.heap.objs.size=some { cls:=.type "list",dict:=none,data:=.seq its.toArray c',slots:=#[] }->EP X pins σ Q (.ref s.heap.objs.size) { s with heap:=h' }:=λ its r' hz h' c' kp e=>
  ⟨.ref s.heap.objs.size,_,I.laid (t':=s.toks) kp (Eh _) (show ObjOk X.prog X.w _ h' _ (.lst ys) from ⟨hz,its,c',r',e⟩),rfl,q _ (I.hok.fresh (Eh _))⟩
 rcases hq with hq | hq
 ·obtain ⟨its,r',pl,hz⟩:=I.list hq
  have hlen:=r'.length
  obtain ⟨o,ho,hc,n,hd⟩:=pl.isList
  exact call_list_seq p (.inl rfl) ho hc hd (λ h' c' kp e=>fin its r' hz h' c' kp e) (by simp only [Ew]<;>lia)
 ·obtain ⟨its,r',pl,hz⟩:=I.tuple hq
  have hlen:=r'.length
  obtain ⟨o,ho,hc,n,hd⟩:=pl
  exact call_list_seq p (.inr rfl) ho hc hd (λ h' c' kp e=>fin its r' hz h' c' kp e) (by simp only [Ew]<;>lia)
theorem jV:ca X (.type "tuple") (λ xs H Q=>∃ p ys,xs=[.ref p]/\((SqL X.K H p ys/\∀ l,H l=none->Q (.ref l) (upd H l (.tup ys)))\/(SqT X.K H p ys/\Q (.ref p) H))):=by
 intro pins s σ H xs us Q I r h
 obtain ⟨p,ys,rfl,h⟩:=h
 obtain ⟨u,rfl,rx⟩:=ft r
 cases rx
 rcases h with ⟨hq,q⟩ | ⟨hq,q⟩
 ·obtain ⟨its,r',pl,hz⟩:=I.list hq
  have hlen:=r'.length
  refine call_tuple_list pl.isList (λ h' kp=>?_) (by simp only [Ew]<;>lia)
  have I1:Inv X pins σ H { s with heap:=h' }:=I.kept (t':=s.toks) kp
  have I2:Inv X pins σ (upd H h'.objs.size (.tup ys)) { s with heap:=h'.push { cls:=.type "tuple",data:=.seq its.toArray } }:=
   I1.laid (t':=s.toks) (λ b o e=>Ec _ e) (Eh _) (show ObjOk X.prog X.w _ _ _ (.tup ys) from ⟨hz,its,r',K5 _ _⟩)
  exact ⟨.ref h'.objs.size,_,I2,rfl,q _ (I1.hok.fresh (Eh _))⟩
 ·obtain ⟨its,r',pl,hz⟩:=I.tuple hq
  exact call_tuple_same pl ⟨.ref p,H,I,rfl,q⟩
noncomputable def tyV (K:Ee) (T:String) (x:V) (H:Hp):Prop:=match x with
 | .str _=>T = "str"
 | .int _=>T = "int"
 | .ref p=>(T = "list"/\∃ xs,SqL K H p xs)\/(T = "tuple"/\∃ o,K.lookup p=some o/\o.cls=.type "tuple"/\o.dict=none)\/
   (T = "dict"/\((∃ kvs,H p=some (.dK kvs))\/∃ kvs,H p=some (.dT kvs)))\/(T = "set"/\∃ S n,H p=some (.set S n))
 | _=>False
theorem vt {H:Hp} {s:Shared} {T:String} {x:V} {v:Value} (I:Inv X pins σ H s) (r:RelV x v) (ty:tyV X.K T x H) :
  s.TypeIs v T/\∀ a,v=.ref a->∃ ob,s.heap.get? a=some ob/\ob.dict=none:=by
 cases x with
 | str z=>
  obtain ⟨t,rfl⟩:=r
  cases (show T = "str" from ty)
  exact ⟨typeIs_str s z t,λ _ e=>nomatch e⟩
 | int i=>
  obtain ⟨t,rfl⟩:=r
  cases (show T = "int" from ty)
  exact ⟨typeIs_int s i t,λ _ e=>nomatch e⟩
 | ref p=>
  cases r
  rcases ty with ⟨rfl,xs,hq⟩ | ⟨rfl,o,hk,hc,hd⟩ | ⟨rfl,hk⟩ | ⟨rfl,S,n,hk⟩
  ·obtain ⟨its,_,pl,_⟩:=I.list hq
   refine ⟨pl.isList.typeIs,λ a e=>?_⟩
   cases e
   obtain ⟨o,n,e,c,hd,_⟩:=pl
   exact ⟨o,e,hd⟩
  ·refine ⟨⟨o,I.kIn p o hk,hc⟩,λ a e=>?_⟩
   cases e
   exact ⟨o,I.kIn _ o hk,hd⟩
  ·have z:∃ o,s.heap.get? p=some o/\o.ExactDict:=by
    rcases hk with ⟨kvs,hk⟩ | ⟨kvs,hk⟩
    ·obtain ⟨_,_,_,_,o,_,_,e,ex,_⟩:=I.hok p _ hk
     exact ⟨o,e,ex⟩
    ·obtain ⟨_,_,_,_,o,_,_,e,ex,_⟩:=I.hok p _ hk
     exact ⟨o,e,ex⟩
   obtain ⟨o,e,ex⟩:=z
   refine ⟨⟨o,e,ex.1⟩,λ a e2=>?_⟩
   cases e2
   exact ⟨o,e,ex.2.1⟩
  ·obtain ⟨o,_,_,_,e,ex,_⟩:=I.hok p _ hk
   refine ⟨⟨o,e,ex.1⟩,λ a e2=>?_⟩
   cases e2
   exact ⟨o,e,ex.2.1⟩
 | _=>exact FU ty
noncomputable def BR (K:Ee) (T:String) (r:V->List V->Hp->VK->Prop) (to:TE):TE:=λ σ H Q=>to σ H λ x H1=>tyV K T x H1/\r x [] H1 Q
noncomputable def tBM (K:Ee) (T:String) (r:V->List V->Hp->VK->Prop) (to:TE) (t:TA):TE:=λ σ H Q=>to σ H λ x H1=>tyV K T x H1/\t σ H1 λ xs H2=>r x xs H2 Q
variable {o e:Expr} {es:List Expr} {to:TE} {t:TA} {name:Str} {apos cpos:Pos} {T id:String} {r:V->List V->Hp->VK->Prop}
theorem zb (pa:PlainAttrs T) (slot:Slot T name id) (hty:typeOf (.builtin id)=pure (.type "method_descriptor")) (hm:MtR X id r) (ho:PE X o to)
  (hbase:attributeBase o name X.env (eval o X.env)=eval o X.env:=by rfl) (hline:(apos.endLine == cpos.line)=true:=by rfl):PE X (.Call (.Attribute o name apos) [] [] cpos) (BR X.K T r to):=by
 intro pins s σ H Q I h
 refine wpAny_Call_method0_late hbase hline (thn (ho pins s σ H _ I h) λ v s1 ⟨x,H1,I1,r1,ty,q1⟩=>?_)
 obtain ⟨h1,h2⟩:=vt I1 r1 ty
 exact ⟨T,id,pa,slot,hty,h1,h2,FB rfl (HF (hm pins s1 σ H1 x [] v [] Q I1 r1 .nil q1))⟩
theorem BS (pa:PlainAttrs T) (slot:Slot T name id) (hty:typeOf (.builtin id)=pure (.type "method_descriptor")) (hm:MtR X id r) (ho:PE X o to) (ha:PA X (e::es) t)
  (hbase:attributeBase o name X.env (eval o X.env)=eval o X.env:=by rfl)
  (hfew:((backTo cpos (starEach (e::es) X.env)).all (λ x=>!x.1) && (backToKw cpos (keywordEach [] X.env)).all (λ x=>x.1.isSome)
   && decide ((e::es).length+([]:List Keyword).length+(if ([]:List Keyword).isEmpty then 0 else 1)<30))=true:=by rfl)
  (hline:(apos.endLine == cpos.line)=true:=by rfl) (hs:starEach (e::es) X.env=(false,eval e X.env)::starEach es X.env:=by rfl) (hplain:(backTo cpos (starEach es X.env)).any (·.1)=false:=by rfl) :
  PE X (.Call (.Attribute o name apos) (e::es) [] cpos) (tBM X.K T r to t):=by
 intro pins s σ H Q I h
 refine wpAny_Call_method_late hbase hfew hline rfl (thn (ho pins s σ H _ I h) λ v s1 ⟨x,H1,I1,r1,ty,q1⟩=>?_)
 obtain ⟨h1,h2⟩:=vt I1 r1 ty
 refine ⟨T,id,pa,slot,hty,h1,h2,?_⟩
 have hA:=ha cpos pins s1 σ H1 _ I1 q1
 rw [hs] at hA ⊢
 refine FB (by show (false || (backTo cpos (starEach es X.env)).any (·.1))=false; rw [hplain]<;>rfl) (GL ?_)
 exact thn hA λ us s2 ⟨vs,H2,I2,r2,q2⟩=>hm pins s2 σ H2 x vs v us Q I2 r1 r2 q2
end
noncomputable def MtM (X:Cx) (id:String) (r:V->List V->Hp->VK->Prop):Prop:=
 ∀ (pins:List (Addr×Obj)) (s:Shared) (σ:St) (H:Hp) (x:V) (xs:List V) (v:Value) (us:List Value) (Q:VK),Inv X pins σ H s->RelV x v->Vals xs us->r x xs H Q->
  wpAny (model X.prog X.w) X.A (call (.builtin id) (v::us)) (EP X pins σ Q) X.xe s
theorem Vals.one:∀ {x:V} {us:List Value},Vals [x] us->∃ u,us=[u]/\RelV x u
 | _,_,.cons r .nil=>⟨_,rfl,r⟩
theorem Vals.zero:∀ {us:List Value},Vals [] us->us=[]
 | _,.nil=>rfl
theorem Vals.reverse {xs:List V} {us:List Value} (h:Vals xs us):Vals xs.reverse us.reverse:=by
 induction h with
 | nil=>exact .nil
 | cons r t ih=>rw [Im,Im]; exact Vals.append ih (.cons r .nil)
theorem Vals.rep {xs:List V} {us:List Value} (h:Vals xs us):∀ k:Nat,Vals (EB k xs).flatten (EB k us).flatten
 | 0=>.nil
 | k+1=>by
  rw [Fi,Fi,GB,GB]
  exact Vals.append h (Vals.rep h k)
theorem k8 (its:List Value):∀ (k:Nat) (acc:List Value),
  KE (λ x1 x2=>x1++x2) acc.toArray (EB k its.toArray)=(acc++(EB k its).flatten).toArray
 | 0,acc=>by simp
 | k+1,acc=>by
  have e:acc.toArray++its.toArray=(acc++its).toArray:=by simp
  have e2:(acc++its)++(EB k its).flatten=acc++(EB (k+1) its).flatten:=by
   rw [Fi,GB,Hf]
  rw [<-e2,<-k8 its k (acc++its),<-e,Fi,List.foldl_cons]
section
variable {X:Cx} {pins:List (Addr×Obj)} {σ:St} {H:Hp} {s:Shared} {l b:Addr} {xs ys zs:List V}
theorem Inv.lset {its':List Value} {f:Array Value->Array Value} (I:Inv X pins σ H s) (hH:H l=some (.lst xs))
  (e:s.heap.get? l=some { cls:=.type "list",data:=.seq its.toArray n }) (hf:f its.toArray=its'.toArray) (hv:Vals ys its') (hz:ys.length<=sizeLine) :
  Inv X pins σ (upd H l (.lst ys)) { s with heap:=s.heap.update l (Fu f),toks:=t' }:=by
 have q:=Mz e f
 rw [hf] at q
 refine I.write (x:=l) (e:=l) (by rw [hH]; exact trivial) (.inl rfl) (λ b' u hb hu=>(FA s.heap (Fu f) (Ff hb)).trans hu) ⟨_,q⟩ ?_
 exact ⟨hz,its',_,hv,q⟩
theorem Inv.lnew (I:Inv X pins σ H s) (hv:Vals ys its) (hz:ys.length<=sizeLine) :
  Inv X pins σ (upd H s.heap.objs.size (.lst ys)) { s with heap:=s.heap.push { cls:=.type "list",data:=.seq its.toArray },toks:=t' }:=
 I.laid (λ _ _ q=>Ec _ q) (Eh _) ⟨hz,its,0,hv,Ek _ rfl⟩
theorem Inv.fresh (I:Inv X pins σ H s):H s.heap.objs.size=none:=I.hok.fresh (Eh _)
theorem Inv.lstM (I:Inv X pins σ H s) (hH:H l=some (.lst xs)):xs.length<=sizeLine/\∃ (its:List Value) (n:Nat),Vals xs its/\xs.length=its.length/\s.heap.get? l=some { cls:=.type "list",data:=.seq its.toArray n }:=by
 obtain ⟨z,its,n,r,e⟩:=I.hok l _ hH
 exact ⟨z,its,n,r,r.length,e⟩
theorem nF (h:n<=sizeLine):Gq n=false:=by
 unfold Gq
 exact decide_eq_false (by lia)
end
section
variable {X:Cx}
noncomputable def mI:V->List V->Hp->VK->Prop:=λ x vs H Q=>∃ l xs y,x=.ref l/\vs=[y]/\H l=some (.lst xs)/\xs.length<sizeLine/\Q .non (upd H l (.lst (xs++[y])))
theorem p8:MtM X "list.append" mI:=by
 intro pins s σ H x vs v us Q I rx rv h
 obtain ⟨l,xs,y,rfl,rfl,hH,hz,q⟩:=h
 cases rx
 obtain ⟨u,rfl,ru⟩:=rv.one
 obtain ⟨z,its,n,r,hl,e⟩:=I.lstM hH
 refine call_meets F.slot_list_append ⟨_,e,rfl⟩ F.entry_list_append (F.args_list_append_2 _ _) (PySem.list_append l its.toArray n u (by rw [Ew]; lia)) ⟨e,?_⟩
 refine ⟨.non,_,I.lset (its':=its++[u]) hH e (by simp) (r.append (.cons ru .nil)) ?_,rfl,q⟩
 rw [ED,FR]
 lia
noncomputable def mJ:V->List V->Hp->VK->Prop:=λ x vs H Q=>∃ l b xs zs,x=.ref l/\vs=[.ref b]/\H l=some (.lst xs)/\H b=some (.lst zs)/\xs.length+zs.length<=sizeLine/\Q .non (upd H l (.lst (xs++zs)))
theorem p9:MtM X "list.extend" mJ:=by
 intro pins s σ H x vs v us Q I rx rv h
 obtain ⟨l,b,xs,zs,rfl,rfl,hH,hB,hz,q⟩:=h
 cases rx
 obtain ⟨u,rfl,ru⟩:=rv.one
 cases ru
 obtain ⟨z,its,n,r,hl,e⟩:=I.lstM hH
 obtain ⟨z2,its2,n2,r2,hl2,e2⟩:=I.lstM hB
 have hsz:its.toArray.size+its2.toArray.size<=sizeLine:=by rw [Ew,Ew]; lia
 have hlong:¬ (!its.toArray.isEmpty && Gq (its.toArray.size+its2.toArray.size))=true:=by
  rw [nF hsz,Bool.and_false]
  exact EF
 refine call_meets F.slot_list_extend ⟨_,e,rfl⟩ F.entry_list_extend (F.args_list_extend_2 _ _)
  (Kr l its.toArray n b its2.toArray n2 hlong (by rw [Ew]; lia) (by lia)) ⟨e,e2,?_⟩
 refine ⟨.non,_,I.lset (its':=its++its2) hH e (by simp) (r.append r2) ?_,rfl,q⟩
 rw [ED]
 lia
noncomputable def nG:V->List V->Hp->VK->Prop:=λ x vs H Q=>∃ l xs,x=.ref l/\vs=[]/\H l=some (.lst xs)/\Q .non (upd H l (.lst xs.reverse))
theorem oV:MtM X "list.reverse" nG:=by
 intro pins s σ H x vs v us Q I rx rv h
 obtain ⟨l,xs,rfl,rfl,hH,q⟩:=h
 cases rx
 have hus:=rv.zero
 subst hus
 obtain ⟨z,its,n,r,hl,e⟩:=I.lstM hH
 refine call_meets F.slot_list_reverse ⟨_,e,rfl⟩ F.entry_list_reverse (F.args_list_reverse_1 _) (K1 l its.toArray n (by rw [Ew]; lia)) ⟨e,?_⟩
 refine ⟨.non,_,I.lset (its':=its.reverse) hH e (by simp) r.reverse ?_,rfl,q⟩
 rw [GO]
 lia
noncomputable def CY:R2:=λ x y H Q=>∃ l b xs zs,x=.ref l/\y=.ref b/\H l=some (.lst xs)/\H b=some (.lst zs)/\xs.length+zs.length<=sizeLine/\∀ p,H p=none->Q (.ref p) (upd H p (.lst (xs++zs)))
theorem zc:OpR X (binaryOp .Add) CY:=by
 intro pins s σ H x y v u Q I rx ry h
 obtain ⟨l,b,xs,zs,rfl,rfl,hH,hB,hz,q⟩:=h
 cases rx
 cases ry
 obtain ⟨z,its,n,r,hl,e⟩:=I.lstM hH
 obtain ⟨z2,its2,n2,r2,hl2,e2⟩:=I.lstM hB
 refine PySem.P.add_list e e2 ?_ (by rw [Ew,Ew]; lia)
 have ea:its.toArray++its2.toArray=(its++its2).toArray:=by simp
 rw [ea]
 exact ⟨.ref _,_,I.lnew (t':=s.toks) (r.append r2) (by rw [ED]; lia),rfl,q _ I.fresh⟩
noncomputable def CZ:R2:=λ x y H Q=>∃ l k xs,x=.ref l/\y=.int k/\H l=some (.lst xs)/\-(2 ^ 63)<=k/\k<2 ^ 63/\xs.length*k.toNat<=sizeLine/\
 ∀ p,H p=none->Q (.ref p) (upd H p (.lst (EB k.toNat xs).flatten))
theorem wI {α:Type} (xs:List α) (k:Nat):(EB k xs).flatten.length=k*xs.length:=by
 induction k with
 | zero=>simp
 | succ k ih=>rw [Fi,GB,ED,ih,Nat.succ_mul,LO]
theorem zd:OpR X (binaryOp .Mult) CZ:=by
 intro pins s σ H x y v u Q I rx ry h
 obtain ⟨l,k,xs,rfl,rfl,hH,h1,h2,hz,q⟩:=h
 cases rx
 obtain ⟨t,rfl⟩:=ry
 obtain ⟨z,its,n,r,hl,e⟩:=I.lstM hH
 have hlen:its.toArray.size*k.toNat<=sizeLine:=by rw [Ew,<-hl]; exact hz
 have hcap:¬ its.toArray.size*k.toNat > (2 ^ 63 - 1) / 8:=by
  have:(sizeLine:Nat)<=(2 ^ 63 - 1) / 8:=by decide
  lia
 have hfit:¬ (!Builtin.List.listFitsIndex k)=true:=by
  rw [fitsIndex_both h1 h2]
  exact EF
 have hlong:¬ Gq (its.toArray.size*k.toNat)=true:=by
  rw [nF hlen]
  exact EF
 have hnew:KE (λ x1 x2=>x1++x2) #[] (EB (if its.toArray.isEmpty=true then 0 else k.toNat) its.toArray)=(EB k.toNat its).flatten.toArray:=by
  have f0:∀ m:Nat,KE (λ x1 x2=>x1++x2) #[] (EB m its.toArray)=(EB m its).flatten.toArray:=λ m=>by
   have:=k8 its m []
   rw [KF] at this
   exact this
  rw [f0]
  cases its with
  | nil=>simp
  | cons a r'=>rw [if_neg (by simp)]
 refine wpAny_binaryOp_repeat_ref (T:="list") (U:="int") (by decide) ⟨_,e,rfl⟩ (λ s'=>typeIs_int s' k t) noFill_list_mul F.fills_int_mul KG repeat_list F.slot_int_index.lookup
  (call_meets KG (typeIs_int s k t) F.entry_int_rmul (F.args_int_rmul_2 _ _) (int___rmul___int_list k t l its.toArray n)
   ⟨e,rfl,⟨_,e,rfl⟩,call_meets F.slot_list_mul ⟨_,e,rfl⟩ F.entry_list_mul (F.args_list_mul_2 _ _) (Kl l its.toArray n k t hfit hcap hlong) ⟨e,?_⟩⟩)
 rw [hnew]
 exact ⟨.ref _,_,I.lnew (t':=s.toks) (r.rep k.toNat) (by rw [wI,Nat.mul_comm]; exact hz),rfl,q _ I.fresh⟩
end
section
variable {prog:Program} {w:World} {A:Around} {E:Value->Shared->Prop} {s:Shared}
end
section
variable {X:Cx}
end
end L2
namespace Att
open PySem PySem.W PySem.Calls PyProof.Rows
theorem iF {P:Params} :∀ (ns:List Int) (vs:List Value),WellAll P h vs (ns.map WData.int)->IntsAre vs ns:=by
 intro ns
 induction ns with
 | nil=>
  intro vs w
  rw [GW] at w
  cases w
  exact .nil
 | cons n ns ih=>
  intro vs w
  rw [EU] at w
  cases w with
  | cons a b=>
   cases a
   exact .cons _ _ (ih _ b)
theorem qa {l:OpenLaw} (hn:l.most=some n) {P:Params} {args:List WData} {vals:List Value}
  (hpre:l.row.toRowW.claim.pre args=true) (hwl:WellAll P h vals args) :
  ∃ a vs ns,vals=[EG a]/\args=[WData.list (ns.map WData.int)]/\h.get? a=some { cls:=.type "list",data:=.seq vs.toArray }/\IntsAre vs ns/\ns.length<=n:=by
 have hsh:WShape.hasAll [] args [.list .int]=true:=(pre_splitW hpre).1
 have hc:l.pre.holds [] { args:=args }=true:=(pre_splitW hpre).2
 obtain ⟨d,r,rfl,h1,h2⟩:=hasAllW_cons hsh
 obtain rfl:=hasAllW_nil h2
 obtain ⟨xs,rfl,h3⟩:=hasW_list h1
 obtain ⟨ns,rfl⟩:=items_int h3
 have hlen:ns.length<=n:=by
  unfold OpenLaw.pre at hc
  have h4:(WTm.not (.lt (.lit (.int (n:Int))) (.len (.arg 0)))).holds [] { args:=[.list (ns.map .int)] }=true:=by
   have h4:=(holds_andW hc).1
   rw [hn] at h4
   exact h4
  have h5:=condW_of h4 (w_not (w_lt w_lit (w_len_list (w_arg rfl))))
  rw [Ed] at h5
  refine Nat.le_of_not_lt λ q=>?_
  have q':(n:Int)<((ns.length:Nat):Int):=by lia
  first
   | (rw [decide_eq_true q'] at h5; exact absurd h5 (by decide))
   | (simp at h5; lia)
 cases hwl with
 | cons w1 w2=>
  cases w2
  cases w1 with
  | list ho hall=>exact ⟨_,_,ns,rfl,rfl,ho,iF ns _ hall,hlen⟩
theorem qb (l:OpenLaw) (args:List WData):l.row.toRowW.claim.post args (.bool true) args=true:=
 postW_of (r:=l.row.toRowW) (X:=(true == true))
  (show WShape.has [] (.bool true) .bool=true by first | rfl | decide | simp [WShape.has,WShape.arms,WShape.armsAll])
  (show (WTm.eq .res (.lit (.bool true))).value [] { args:=args,res:=some (.bool true),after:=args }=some (.bool (true == true)) from w_eq_bool (w_res rfl) w_lit) rfl
theorem mK {l:OpenLaw} {loose:List Str} {XP:(Str->Option Value)->Heap->Prop} {YP:World->Heap->Prop} {d:DefRec}
  (hn:l.most=some n) (hdf:d.params.defaults=[])
  (call:∀ (w:World) (s₀ s₁:Shared) (mg mb:Str->Option Value) (fa:Addr) (o:Obj) (pm cd doc:Value) (a:Addr) (vs:List Value) (ns:List Int),
   Ground q loose [] XP w s₀ mg mb s₁.heap->YP w s₁.heap->
   s₁.heap.get? fa=some o->o.data=.func (docDef d.name d.params d.body d.scope pm cd doc)->s₁.heap.CodeRec cd d.name->mg d.name=some (.ref fa)->
   s₁.heap.get? a=some { cls:=.type "list",data:=.seq vs.toArray }->IntsAre vs ns->ns.length<=n->s₁.gens=#[]->
   codeAny (model l.prog w) callerA (.call (.ref fa) ⟨[.ref a],[]⟩) (λ r s'=>r=.ok (.ret (.bool true))/\OldK s₁.heap s'.heap/\s'.os=s₁.os/\AllBare s'.gens) s₁) :
  WalkO q loose XP YP l.row.toRowW d [] (λ f vs=>KH f vs):=by
 intro w s₀ s₁ mg mb G Y fa o pm cd doc dV kV ho hd hcd hD hmg hg args vals as hpre hlay hrd hwl hlo
 obtain rfl:dV=.none:=Dflts.none hD hdf
 obtain rfl:kV=.none:=Dflts.noKw hD
 obtain ⟨a,vs,ns,rfl,rfl,hobj,hints,hlen⟩:=qa hn hpre hwl
 refine enter_call (codeAny_mono (call w s₀ s₁ mg mb fa o pm cd doc a vs ns G Y ho (fd_plain hd) hcd hmg hobj hints hlen hg) λ r s' hq=>?_)
 obtain ⟨rfl,h2,h3,h4⟩:=hq
 exact ⟨.inl ⟨.bool true,.bool true,[],rfl,λ _=>rfl,.bool true,qb l _,λ _=>⟨Mt,λ _ hm=>(nomatch hm)⟩⟩,h2,h3,h4⟩
section
variable {prog:Program} {w:World} {A:Around} {E:Value->Shared->Prop} {s:Shared} {K:Frag}
end
end Att
namespace L2
open PySem PySem.Spec PyProof.Rows
theorem k9:∀ {vs:List Value} {ns:List Int},IntsAre vs ns->Vals (ns.map ML) vs
 | _,_,.nil=>.nil
 | _,_,.cons n t h=>.cons ⟨t,rfl⟩ (k9 h)
noncomputable def BT (H:Hp):Prop:=∀ b,H b=none\/∃ o xs,H b=some (.frz o (.lst xs))
theorem tN {w:World} {K:Ee} {mg mb:Str->Option Value} {CX:CXT} {fa:Addr} {fd:FuncData} {sp:Sp} {s₁:Shared} {vs:List Value} {ns:List Int}
  (KX:K.In s₁.heap) (hns:s₁.heap.Ns mainGlobals mg) (hb:s₁.heap.Ns builtinsNs mb) (hbb:∀ x:Str,x≠"__name__"->mb x=bootBuiltins x) (hlim:s₁.heap.NoLimit) (hg:s₁.gens=#[])
  (ha:s₁.heap.get? a=some { cls:=.type "list",data:=.seq vs.toArray }) (hi:IntsAre vs ns) (hl:ns.length<=sizeLine) (hr:Room k callerA)
  (F:∀ base:Heap,K.In base->base.Ns mainGlobals mg->FnOk P w K mg base CX k fa fd [x] sp) (hbind:∀ (s:Shared) (u:Value),BindsTo s fd ⟨[u],[]⟩ [(x,u)])
  (hsp:∀ H:Hp,BT H->SqL K H a (ns.map ML)->sp [.ref a] H (λ v _=>v=.bl true) λ _ _ _=>False)
  (hCX:∀ H e s',CX [] H s₁ (λ _ _ _=>False) e s'->False) :
  codeAny (model P w) callerA (.call (.ref fa) ⟨[.ref a],[]⟩) (λ r s'=>r=.ok (.ret (.bool true))/\OldK s₁.heap s'.heap/\s'.os=s₁.os/\AllBare s'.gens) s₁:=by
 have rv:=k9 hi
 have lenV:=hi.length
 -- from an abstract heap in which nothing but the script may be tracked
 have core:∀ H:Hp,BT H->SqL K H a (ns.map ML)->HOk P w H s₁.heap->(∀ b,H b≠none->b=a)->(H a≠none->K.lookup a=none)->
   codeAny (model P w) callerA (.call (.ref fa) ⟨[.ref a],[]⟩) (λ r s'=>r=.ok (.ret (.bool true))/\OldK s₁.heap s'.heap/\s'.os=s₁.os/\AllBare s'.gens) s₁:=by
  intro H hO hS hok hA hK
  have base_of:∀ {b:Addr} {o:Obj},s₁.heap.get? b=some o->H b=none->(sV s₁.heap H).get? b=some o:=λ e n=>sW e n
  have noA:∀ {b:Addr} {o:Obj} {es:Array DictEntry} {ep:Nat},s₁.heap.get? b=some o->o.data=.dict es ep->H b=none:=λ {b o es ep} e d=>by
   cases q:H b with
   | none=>rfl
   | some u=>
    have e':b=a:=hA b (by rw [q]; simp)
    subst e'
    rw [ha] at e; cases e
    have d':MA vs.toArray _=Data.dict es ep:=d
    cases d'
  have nsK:∀ {b:Addr} {m:Str->Option Value},s₁.heap.Ns b m->(sV s₁.heap H).Ns b m:=λ {b m} ⟨o,es,ep,e,d,r⟩=>⟨o,es,ep,base_of e (noA e d),d,r⟩
  have hKb:K.In (sV s₁.heap H):=λ b o e=>base_of (KX b o e) (by
   cases q:H b with
   | none=>rfl
   | some u=>
    have e':b=a:=hA b (by rw [q]; simp)
    subst e'
    rw [hK (by rw [q]; simp)] at e; cases e)
  have hM:Mod K mg (sV s₁.heap H):=⟨hKb,nsK hns,⟨mb,nsK hb,hbb⟩,let ⟨mc,h1,h2⟩:=hlim; ⟨mc,nsK h1,h2⟩⟩
  have e0:Env0 P w K mg (sV s₁.heap H) callerA [] s₁ H:=⟨rfl,hM,λ b o e=>vY e,Fc (pH _ _),trivial,λ b hb=>absurd (show b∈([]:List Addr) from hb) (by simp),hok,.of_eq hg⟩
  refine codeAny_mono ((F _ hKb (nsK hns)).run callerA [] s₁ H ⟨[.ref a],[]⟩ [.ref a] [.ref a] _ _ hr e0 (hbind s₁ (.ref a)) (.cons rfl .nil) (hsp H hO hS)) λ r s' h=>?_
  cases r with
  | error e=>exact (hCX H e s' h).elim
  | ok fl=>
   cases fl with
   | next=>exact FU h
   | brk=>exact FU h
   | cont=>exact FU h
   | ret u=>
    obtain ⟨v,H',os,bare,un,hok',r',q⟩:=h
    have q':v=.bl true:=q
    subst q'
    obtain rfl:u=Gi true:=r'
    refine ⟨rfl,OldK.of_keep λ b o e=>?_,os,bare⟩
    cases q:H b with
    | none=>exact un.keep b o e q (by intro z; exact absurd (show b∈([]:List Addr) from z) (by simp)) (by simp)
    | some u=>
     rcases hO b with z | ⟨ob,xs,z⟩
     ·rw [q] at z; cases z
     ·have z2:=un.frzs b ob _ z
      obtain ⟨e1,_⟩:=hok b _ z
      obtain ⟨e2,_⟩:=hok' b _ z2
      rw [e] at e1; cases e1
      exact e2
 cases hk:K.lookup a with
 | some o=>
  -- the script is one of the module's own objects
  have e:=KX a o hk
  rw [ha] at e
  cases e
  refine core (λ _=>none) (λ _=>.inl rfl) (.inr ⟨_,vs.toArray,_,hk,rfl,rfl,rfl,by rw [Ew,lenV]; exact hl,by simpa using rv⟩) (λ b u z=>by have z':(none:Option HO)=some u:=z; cases z') (λ b z=>absurd rfl z) λ z=>absurd rfl z
 | none=>
  refine core (λ b=>if b=a then some (.frz { cls:=.type "list",data:=.seq vs.toArray } (.lst (ns.map ML))) else none) (λ b=>?_) (.inl (.inr ⟨{ cls:=.type "list",data:=.seq vs.toArray },if_pos rfl⟩)) (λ b u z=>?_) (λ b z=>?_) λ _=>hk
  ·by_cases hb:b=a
   ·exact .inr ⟨_,_,if_pos hb⟩
   ·exact .inl (if_neg hb)
  ·by_cases hb:b=a
   ·have z':=(if_pos hb).symm.trans z
    cases z'
    subst hb
    exact ⟨ha,by rw [Ed]; exact hl,vs,_,rv,ha⟩
   ·have z':=(if_neg hb).symm.trans z
    cases z'
  ·by_cases hb:b=a
   ·exact hb
   ·exact absurd (if_neg hb) z
theorem wJ {l:IW} {q:Program} {loose:List Str} {XP:(Str->Option Value)->Heap->Prop} {YP:World->Heap->Prop} {d:DefRec} {K:Params->Ee} {CX:World->CXT} {sp:World->Sp} 
  (hn:l.most=some n) (hn2:n<=sizeLine) (hdf:d.params.defaults=[]) (hr:Room k callerA)
  (hY:∀ (w:World) (h:Heap),YP w h->(K w.params).In h)
  (F:∀ (w:World) (mg:Str->Option Value) (fa:Addr) (h:Heap),(K w.params).In h->h.Ns mainGlobals mg->mg d.name=some (.ref fa)->
   ∃ fd:FuncData,(∀ (s:Shared) (u:Value),BindsTo s fd ⟨[u],[]⟩ [(x,u)])/\
    ∀ base:Heap,(K w.params).In base->base.Ns mainGlobals mg->FnOk l.prog w (K w.params) mg base (CX w) k fa fd [x] (sp w))
  (hsp:∀ (w:World) (H:Hp) (a:Addr) (ns:List Int),ns.length<=n->BT H->SqL (K w.params) H a (ns.map ML)->sp w [.ref a] H (λ v _=>v=.bl true) λ _ _ _=>False)
  (hCX:∀ (w:World) (H:Hp) (s:Shared) (e:Value) (s':Shared),CX w [] H s (λ _ _ _=>False) e s'->False) :
  Lb q loose XP YP l.row.toRowW d [] (λ f vs=>KH f vs):=by
 refine Att.mK hn hdf λ w s₀ s₁ mg mb fa o pm cd doc a vs ns G Y ho hd hcd hmg hobj hints hlen hg=>?_
 have KX:=hY w _ Y
 obtain ⟨fd,hb,hF⟩:=F w mg fa _ KX G.T.g hmg
 exact tN KX G.T.g G.T.b G.T.builtins G.T.nolimit hg hobj hints (Fb hlen hn2) hr hF hb (λ H hO hS=>hsp w H a ns hlen hO hS) λ H e s'=>hCX w H s₁ e s'
noncomputable def iG (s:Stmt):Arguments:=match s with
 | .FunctionDef _ a _ _ _ _ _ _ _ _=>a
 | _=>{ posonlyargs:=[],args:=[],vararg:=none,kwonlyargs:=[],kw_defaults:=[],kwarg:=none,defaults:=[] }
noncomputable def fE (s:Stmt):List Stmt:=match s with
 | .FunctionDef _ _ b _ _ _ _ _ _ _=>b
 | _=>[]
noncomputable def am (s:Stmt):Scope:=match s with
 | .FunctionDef _ _ _ _ _ _ sc _ _ _=>sc
 | _=>{ kind:=.function,names:=[],isGenerator:=false,isCoroutine:=false }
noncomputable abbrev CX0:CXT:=λ _ _ _ _ _ _=>False
noncomputable abbrev E0:XK:=λ _ _ _=>False
theorem aA:jC CX0 X E0:=λ _ _ _ _ _ _ _ h=>h.elim
structure Fun (K:Ee) (x qual:Str) (st:Stmt) (f:Addr) (fd:FuncData):Prop where
 ex:∃ (oc:Value) (od:Option Addr) (kV doc pm:Value) (an:Option Addr) (cdv ct:Value) (osl:Array (Option Value)),
  fd=GF x qual (iG st) (fE st) (am st) .none kV doc pm an cdv ct/\K.lookup f=some ⟨oc,od,.func fd,osl⟩/\HH K cdv qual=true
 kp:Gm K (.ref f)=true
section
variable {P:Program} {w:World} {K:Ee} {mg:Str->Option Value} {base:Heap}
theorem Fun.ok {fd:FuncData} {N ps:List Str} {sp:Sp} (F:Fun K x qual st f fd) (S:FnScope N ps (am st)) (len:∀ vs H Q E,sp vs H Q E->vs.length=ps.length)
  (hbody:∀ (cdv:Value) (A:Around) (outer:List Env) (s:Shared) (H:Hp) (vs:List V) (Q:VK) (E:XK),Room k (A.deeper (envOfC qual (am st) s.heap.objs.size f cdv))->sp vs H Q E->
   ∃ t,PSs (wC CX0 P w K mg base N qual (am st) f cdv A outer s H E).nox (fE st) t/\t { nx:=λ _ H'=>Q .non H',rt:=Q } (aK N vs) H):FnOk P w K mg base CX0 (k+1) f fd ps sp:=by
 obtain ⟨oc,od,kV,doc,pm,an,cdv,ct,osl,rfl,lk,hcd⟩:=F.ex
 refine BO lk hcd S len λ A outer s H vs Q E hr hsp=>?_
 obtain ⟨t,h,q⟩:=hbody cdv A outer s H vs Q E hr hsp
 exact ⟨t,h.nox,q⟩
theorem Fun.binds {fd:FuncData} {ps:List Str} (F:Fun K x qual st f fd)
  (h:∀ (kV doc pm:Value) (an:Option Addr) (cdv ct:Value) (us:List Value),us.length=ps.length->bindArgs (GF x qual (iG st) (fE st) (am st) .none kV doc pm an cdv ct) ⟨us,[]⟩=pure (ps.zip us)):Binds K fd ps []:=by
 obtain ⟨oc,od,kV,doc,pm,an,cdv,ct,osl,rfl,lk,hcd⟩:=F.ex
 exact .all (h kV doc pm an cdv ct)
theorem vv {oc:Value} {od an:Option Addr} {osl:Array (Option Value)} {kV doc pm cdv ct:Value} (l:K.lookup f=some ⟨oc,od,.func (GF x qual (iG st) (fE st) (am st) .none kV doc pm an cdv ct),osl⟩)
  (c:HH K cdv qual=true) (k:Gm K (.ref f)=true):Fun K x qual st f (GF x qual (iG st) (fE st) (am st) .none kV doc pm an cdv ct):=⟨⟨oc,od,kV,doc,pm,an,cdv,ct,osl,rfl,l,c⟩,k⟩
end
theorem qc {A:Around} (hr:Room k A):A.units+1<cLine:=Fe (Nat.add_le_add_left (by decide:1<=64) _) hr.units
theorem al (h:n<=1000):n<sizeLine:=Fe h (by decide)
section
variable {X:Cx}
end
noncomputable def Same (H H':Hp):Prop:=∀ b o,H b=some o->H' b=some o
theorem Same.refl (H:Hp):Same H H:=λ _ _ h=>h
theorem Same.trans {H H2:Hp} (a:Same H H1) (b:Same H1 H2):Same H H2:=λ c o h=>b c o (a c o h)
theorem Same.free {H:Hp} (e:Same H H') (h:H' l=L3):H l=L3:=by
 cases q:H l with
 | none=>rfl
 | some o=>
  rw [e l o q] at h
  cases h
theorem Same.seq {K:Ee} {H:Hp} (e:Same H H') (h:SqL K H a xs):SqL K H' a xs:=by
 rcases h with (h | ⟨o,h⟩) | h
 ·exact .inl (.inl (e _ _ h))
 ·exact .inl (.inr ⟨o,e _ _ h⟩)
 ·exact .inr h
section
variable {X:Cx} {pins:List (Addr×Obj)} {σ:St} {H:Hp} {s:Shared}
theorem Inv.adopt {D:Addr} {o:HO} (I:Inv X pins σ H s) (hn:H D=none) (hL:D≠X.env.locals)
  (h1:D∈X.ex\/X.s₀.heap.objs.size<=D) (h2:∀ x c,X.env.cells.lookup x=some c->c≠D) (h3:∀ p∈X.pn++pins,p.1≠D)
  (new:ObjOk X.prog X.w (upd H D o) s.heap D o):Inv X pins σ (upd H D o) s:=by
 have nit:∀ b u,H b=some u->b≠D:=λ b u e z=>by rw [z,hn] at e; cases e
 have keep:∀ b u,H b=some u->upd H D o b=some u:=λ b u e=>by rw [aq (nit b u e)]; exact e
 refine I.step (h':=s.heap) (g':=s.gens) (d':=s.drawn) (t':=s.toks) (ch:=[D]) (λ b hb=>?_) (λ b o _ _ _ e _=>e) (λ b o _ _ _ e _=>⟨o.slots,e⟩) (λ b u hc e n=>?_)
  (λ b o _ e=>⟨o,e⟩) (λ b xs e=>keep b _ e) (λ b o u e=>keep b _ e) (λ b ps e=>⟨#[],by rw [keep b _ e]; simp⟩) (λ m hm=>hm) (λ b u e=>?_) I.bare
 ·have e:b=D:=by simpa using hb
  subst e
  exact ⟨h1,hL,h2,h3⟩
 ·rw [aq (λ z=>hc (by simp [z]))]; exact n
 ·by_cases hb:b=D
  ·subst hb; rw [ab] at e; cases e; exact new
  ·rw [aq hb] at e
   exact (I.hok b u e).stay (λ c v _ q=>q) (λ c q=>keep c _ q) λ c xs q=>keep c _ q
end
noncomputable def aw (X:Cx) (N:List Str) (scope:Scope) (cl:List (Str×Addr)) (fp:List Addr) (C:Addr) (s:Shared) (H:Hp):Cx:=
 { X with N:=N,s₀:=s,H₀:=H,env:=compEnvC scope cl C X.env,outer:=X.stack,ex:=fp,fn:=λ _=>false,pn:=[],xe:=λ _ _=>False }
noncomputable def FrOk (X:Cx) (scope:Scope) (cl:List (Str×Addr)):List Str->Prop
 | []=>True
 | x::r=>(X.env.kindOf x=some .cell/\(relabel scope X.env).names.lookup x=some .cell/\∃ c,cl.lookup x=some c/\X.env.cells.lookup x=some c)/\FrOk X scope cl r
theorem FrOk.mem {X:Cx} {scope:Scope} {cl:List (Str×Addr)}:∀ {l:List Str},FrOk X scope cl l->∀ x∈l,
  X.env.kindOf x=some .cell/\(relabel scope X.env).names.lookup x=some .cell/\∃ c,cl.lookup x=some c/\X.env.cells.lookup x=some c
 | [],_,_,h=>nomatch h
 | y::r,⟨h1,h2⟩,x,h=>by
  rcases Er.mp h with e | e
  ·subst e; exact h1
  ·exact FrOk.mem h2 x e
noncomputable def ClOk (X:Cx):List (Str×Addr)->Prop
 | []=>True
 | p::r=>X.env.cells.lookup p.1=some p.2/\ClOk X r
theorem ClOk.get {X:Cx}:∀ {l:List (Str×Addr)},ClOk X l->∀ x c,l.lookup x=some c->X.env.cells.lookup x=some c
 | [],_,_,_,h=>by simp at h
 | p::r,⟨h1,h2⟩,x,c,h=>by
  obtain ⟨n,a⟩:=p
  cases e:x == n with
  | true=>
   have e':x=n:=by simpa using e
   subst e'
   simp only [Gr,e] at h
   cases h
   exact h1
  | false=>
   simp only [Gr,e] at h
   exact ClOk.get h2 x c h
structure CompOk (X:Cx) (N tgs frs:List Str) (ix:List Nat) (scope:Scope) (cl:List (Str×Addr)):Prop where
 clos:closureFor scope X.env=pure cl
 cell:∀ y∈scope.names,y.2≠.cell
 kind:scope.kind=.function
 names:∀ y∈scope.names,y.2=.local->scope.names.lookup y.1=some .local
 nm:N=tgs++frs
 ixs:ix.map (X.N[·]?)=frs.map some
 fr:FrOk X scope cl frs
 cls:ClOk X cl
 has:(relabel scope X.env).names.all (λ p=>!(p.2 == .cell || p.2 == .free) || (cl.lookup p.1).isSome)=true
noncomputable def cU (tgs:List Str) (ix:List Nat) (σ:St):St:=EB tgs.length none++ix.map λ j=>(σ[j]?).getD none
section
variable {X:Cx} {N tgs frs:List Str} {ix:List Nat} {scope:Scope} {cl:List (Str×Addr)}
theorem oW (c:CompOk X N tgs frs ix scope cl) (h1:N[i]? = some x) (h2:(cU tgs ix σ)[i]? = some (some v)):x∈frs/\∃ j:Nat,X.N[j]? = some x/\σ[j]? = some (some v):=by
 unfold cU at h2
 by_cases hi:i<tgs.length
 ·rw [E2 (by simpa using hi),Ha,if_pos hi] at h2
  cases h2
 ·rw [EY (by simpa using hi),FF,El] at h2
  rw [c.nm,EY (by lia)] at h1
  have e:=congrArg (·[i - tgs.length]?) c.ixs
  simp only [El,h1] at e
  cases q:ix[i - tgs.length]? with
  | none=>rw [q] at e; cases e
  | some j=>
   rw [q] at e h2
   simp only [IT,J0] at e h2
   refine ⟨EN h1,j,e,?_⟩
   cases z:σ[j]? with
   | none=>rw [z] at h2; cases h2
   | some o=>rw [z] at h2; simp at h2; rw [h2]
theorem fg {l:List (Str×NameKind)} {k:NameKind} (h:l.lookup x=some k):(x,k)∈l:=FX h
theorem CompOk.hasOf (c:CompOk X N tgs frs ix scope cl) (h:(relabel scope X.env).names.lookup x=some .cell\/(relabel scope X.env).names.lookup x=some .free):∃ a,cl.lookup x=some a:=by
 have all:=FO.mp c.has
 rcases h with h | h
 ·have q:=all _ (fg h)
  exact Go.mp (by simpa only [beq_self_eq_true,JL,Ie,Hl] using q)
 ·have q:=all _ (fg h)
  exact Go.mp (by simpa only [beq_self_eq_true,JM,Ie,Hl] using q)
theorem io {H:Hp} {s2:Shared} {h1:Heap} {m:Str->Option Value} (c:CompOk X N tgs frs ix scope cl) (I:Inv X pins σ H s2) (hf:∀ b∈fp,mt X pins H b) (hfl:∀ b∈fp,b<s2.heap.objs.size)
  (hC:s2.heap.objs.size<=C) (hns:h1.Ns C m) (hk:∀ b o,s2.heap.get? b=some o->h1.get? b=some o) {pins':List (Addr×Obj)}
  (hpin:∀ p∈pins',h1.get? p.1=some p.2/\s2.heap.objs.size<=p.1/\p.1≠C/\∀ v,p.2.data≠.cell v) :
  Inv (aw X N scope cl fp C s2 H) pins' (cU tgs ix σ) H { s2 with heap:=h1,toks:=tk }:=by
 have hcn:∀ x a,cl.lookup x=some a->X.env.cells.lookup x=some a:=c.cls.get
 have clt:∀ x a,cl.lookup x=some a->a<s2.heap.objs.size:=λ x a e=>by
  obtain ⟨v,q⟩:=I.cell x a (hcn x a e)
  exact q.lt
 refine ⟨⟨I.ok.mod,c.kind,I.ok.glob,I.ok.blt,hC,λ x y a h1 h2=>I.ok.inj x y a (hcn _ _ h1) (hcn _ _ h2),λ x hx=>c.hasOf hx,(λ x a z _=>Bool.noConfusion z),I.ok.hd,I.ok.frames,.inl rfl,λ b hb=>⟨?_,λ x a e=>?_⟩,I.bs,Fb I.ok.bsz I.sz,λ b o e hb=>?_,λ b hb z=>?_,I.stack,I.stkFree⟩,
  rfl,I.bare,Un.kept hk,⟨m,hns,λ i x v e1 e2 e3=>?_⟩,λ x a e=>?_,I.hok.fresh hC,λ x a e=>I.freeC x a (hcn x a e),λ p hp=>?_,I.hok.kept hk,?_⟩
 ·exact Eo (Ez (hfl b hb) hC)
 ·exact (hf b hb).2.2.2.2.1 x a (hcn x a e)
 ·rcases (hf b hb).2.2.2.1 with z | z
  ·exact I.ok.noex b o e z
  ·exact absurd (Ez (Ei (I.ok.bs b o e).1) z) (E7 _)
 ·rcases Er.mp (I.stkSub b z) with e | e
  ·exact (hf b hb).2.1 e
  ·exact (hf b hb).2.2.1 e
 ·obtain ⟨hx,j,n1,n2⟩:=oW c e1 e2
  obtain ⟨k1,k2,a,l1,l2⟩:=c.fr.mem x hx
  obtain ⟨m',_,hl⟩:=I.loc
  obtain ⟨u,r,l⟩:=hl j x v n1 n2 (.inr (.inl k1))
  refine ⟨u,r,.inr ⟨.inl k2,a,l1,?_⟩⟩
  rcases l with ⟨l,_⟩ | ⟨_,a',l3,o,l4,l5⟩
  ·rw [k1] at l; cases l
  ·rw [l2] at l3; cases l3
   exact ⟨o,hk _ _ l4,l5⟩
 ·obtain ⟨v,o,q1,q2⟩:=I.cell x a (hcn x a e)
  exact ⟨v,o,hk _ _ q1,q2⟩
 ·have hp':p∈pins':=by simpa [aw] using hp
  obtain ⟨q1,q2,q3,q4⟩:=hpin p hp'
  exact ⟨q1,I.hok.fresh q2,q3,λ z=>by
   rcases Er.mp (I.stkSub p.1 z) with e | e
   ·exact absurd (Ez I.lt q2) (by rw [e]; exact E7 _)
   ·exact I.nofs q2 e,q4⟩
 ·show (cU tgs ix σ).length=N.length
  unfold cU
  have e:=congrArg Hk c.ixs
  simp only [Ed] at e
  rw [c.nm]; simp [e]
theorem eJ {prog:Program} {w:World} {A:Around} {R:Result->Shared->Prop} {s:Shared} {elt target iter:Expr} {pos:Pos} {it acc:Value} {env:Env} (I:Nat->Shared->Prop)
  (turn:∀ n s,I n s->wpAny (model prog w) A (pyNext it) (λ r s1=>match r with
   | none=>R (.ok .next) s1
   | some v=>wpAny (model prog w) A (letOwnedTupleGo target it v) (λ _ s1'=>wpAny (model prog w) A (assign target env v) (λ _ s2=>wpAny (model prog w) A (eval elt env) (λ x s3=>
     wpAny (model prog w) A (call (.builtin "list.append") [acc,x]) (λ _ s4=>∃ m,m<n/\I m s4) (λ _ _=>False) s3)
     (λ _ _=>False) s2) (λ _ _=>False) s1') (λ _ _=>False) s1) (λ _ _=>False) s)
  (n:Nat) (h:I n s) :
  codeAny (model prog w) A (.compLoop (.ListComp elt [⟨target,iter,[],0⟩] scope pos) 0 it acc env) R s:=by
 have up:∀ {α:Type} {t:Sem α} {Q Q':α->Shared->Prop} {E:Value->Shared->Prop} {s:Shared},wpAny (model prog w) A t Q (λ _ _=>False) s->(∀ a s,Q a s->Q' a s)->wpAny (model prog w) A t Q' E s:=λ h hq=>wpAny_mono h hq λ _ _ f=>f.elim
 refine codeAny_loop rfl I (λ n s hI=>?_) n h
 show wpAny _ _ ((compTurn (.ListComp elt [⟨target,iter,[],0⟩] scope pos) 0 it acc env).onRaise (λ x=>do noteFrame x env; theTreesLotGoes x)) _ _ s
 refine wpAny_noted ?_
 rw [compTurn_list1]
 refine wpAny_bind (wpAny_standAt (wpAny_bind (up (turn n s hI) (λ r s1 h1=>?_))))
 cases r with
 | none=>exact wpAny_pure h1
 | some v=>
  refine wpAny_bind (up h1 λ _ s1' h1'=>?_)
  exact wpAny_bind (up h1' (λ _ s2 h2=>wpAny_bind (wpAny_bind (up h2 (λ x s3 h3=>wpAny_bind (up h3
   (λ _ s4 h4=>wpAny_pure (wpAny_pure ⟨rfl,h4⟩))))))))
noncomputable def mL (wi:TI) (g:TG) (te:TE) (tgs:List Str) (ix:List Nat):TE:=λ σ H Q=>wi σ H λ J H1=>
 ∃ W:Nat->Nat->List V->St->Hp->Prop,(∃ m,W 0 m [] (cU tgs ix σ) H1)/\∀ i m xs σc H,W i m xs σc H->xs.length<sizeLine/\
  ((J.stop i H/\∀ p,H p=none->Q (.ref p) (upd H p (.lst xs)))\/(J.go i H/\∀ x H',J.yld i H x H'->g x σc H' λ σ2 H2=>te σ2 H2 λ y H3=>∃ m',m'<m/\W (i+1) m' (xs++[y]) σ2 H3))
noncomputable abbrev ax (us:List Value) (k:Nat):Obj:={ cls:=.type "list",data:=.seq us.toArray k }
theorem wK {te:TE} (c:CompOk X N tgs frs ix scope cl) (hc:X.calm=true) (hi:PI X tg iter wi)
  (hg:∀ fp C s H,PG (aw X N scope cl fp C s H) tg g) (he:∀ fp C s H,PE (aw X N scope cl fp C s H) elt te)
  (hs:∀ x,foldedSetIterable iter X.env x=pure x:=by intro _; rfl) :
  PE X (.ListComp elt [⟨tg,iter,[],0⟩] scope pos) (mL wi g te tgs ix):=by
 intro pins s σ H Q I h
 rw [eval_ListComp]
 refine wpAny_comprehension_free (use:=none) rfl hs c.clos c.kind c.names (thn (hi pins s σ H _ I h) λ xv s1 h1=>thn h1 λ itv s2 h2=>?_)
 obtain ⟨it,fp,tn,J,H2,rfl,I2,T,st2,f2,W,⟨m0,w0⟩,turn⟩:=h2
 have hfl:∀ b∈fp,b<s2.heap.objs.size:=λ b hb=>by
  obtain ⟨o,e,_⟩:=T.obj _ _ st2 b hb
  exact Ei e
 have hcn:∀ x a,cl.lookup x=some a->X.env.cells.lookup x=some a:=c.cls.get
 refine wpAny_newObj_type (wpAny_newFunctionEnv c.cell (by intro y hy; simp at hy) (λ h1 hns1 hsb1=>?_) c.kind)
 dsimp only at hns1 hsb1 ⊢
 generalize hH2:s2.heap.push { cls:=.type "list",dict:=none,data:=.seq ([]:List Value).toArray }=G2 at hns1 hsb1 ⊢
 have hC:G2.objs.size=s2.heap.objs.size+1:=by rw [<-hH2,Fg]
 generalize hCC:G2.objs.size=C at *
 generalize hDD:s2.heap.objs.size=D at *
 have hDC:D≠C:=by lia
 have hCle:D<=C:=by lia
 have old:∀ b o,s2.heap.get? b=some o->h1.get? b=some o:=λ b o e=>by
  have lt:b<s2.heap.objs.size:=Ei e
  exact hsb1.extBut b o (Eo (Ez (hDD▸lt) hCle)) (Ec _ (hH2▸Ec _ e))
 have hacc:h1.get? D=some (ax [] 0):=hsb1.extBut _ _ hDC (Ec _ (hH2▸(hDD▸Ek _ rfl)))
 have cellD:∀ x a,X.env.cells.lookup x=some a->a<D:=λ x a e=>by
  obtain ⟨v,q⟩:=I2.cell x a e
  exact hDD▸q.lt
 have fpc:∀ {H':Hp} {us:List Value} {k:Nat},(∀ b∈fp,H' b=none)->∀ b∈fp,mt (aw X N scope cl fp C s2 H2) [(D,ax us k)] H' b:=λ {H' us k} hn b hb=>by
  have lb:=hfl b hb
  refine ⟨hn b hb,?_,λ z=>?_,.inl hb,λ x a e z=>?_,λ p hp=>?_⟩
  ·exact Eo (Ez lb hCle)
  ·rcases Er.mp (I2.stkSub b z) with e | e
   ·exact (f2 b hb).2.1 e
   ·exact (f2 b hb).2.2.1 e
  ·exact (f2 b hb).2.2.2.2.1 x a (hcn x a e) z
  ·have:p=(D,ax us k):=by simpa [aw] using hp
   rw [this]; exact ES lb
 have D_fs:D∉(aw X N scope cl fp C s2 H2).fs:=λ z=>by
  rcases Er.mp (I2.stkSub D z) with e | e
  ·exact absurd I2.lt (by rw [<-e,hDD]; exact E7 _)
  ·exact I2.nofs (Fc hDD) e
 have I3:=io (tk:=s2.toks+([]:List (Str×Value)).length) (pins':=[(D,ax [] 0)]) c I2 f2 (λ b hb=>hDD▸hfl b hb) (hDD▸hCle:s2.heap.objs.size<=C) hns1 old (λ p hp=>by
  have e:p=(D,ax [] 0):=by simpa using hp
  subst e
  exact ⟨hacc,Fc hDD,hDC,λ v z=>by cases z⟩)
 have tn3:tn 0 h1:=T.keep _ _ _ st2 λ b _ o e=>old b o e
 have loop:codeAny (model X.prog X.w) X.A (.compLoop (.ListComp elt [⟨tg,iter,[],0⟩] scope pos) 0 (.ref it) (.ref D) (compEnvC scope cl C X.env))
   (compPost (model X.prog X.w) X.A X.xe none (EP X pins σ Q) (.ref D) C) { s2 with heap:=h1,toks:=s2.toks+([]:List (Str×Value)).length }:=by
  refine eJ (λ n s'=>∃ i xs us k σc H',Inv (aw X N scope cl fp C s2 H2) [(D,ax us k)] σc H' s'/\tn i s'.heap/\(∀ b∈fp,H' b=none)/\Vals xs us/\W i n xs σc H') ?_ m0
   ⟨0,[],[],0,_,H2,I3,tn3,λ b hb=>(f2 b hb).1,.nil,w0⟩
  rintro n s4 ⟨i,xs,us,k,σ4,H4,I4,tn4,fr4,rv,w4⟩
  obtain ⟨hsz,tt⟩:=turn i n xs σ4 H4 w4
  rcases tt with ⟨stop,fin⟩ | ⟨go,step⟩
  ·refine thn (T.done (aw X N scope cl fp C s2 H2) rfl rfl rfl hc i _ s4 σ4 H4 _ I4 (fpc fr4) tn4 stop) λ r s5 ⟨hr,I5⟩=>?_
   subst hr
   obtain ⟨m,ns,_⟩:=I5.loc
   refine ⟨m,ns,λ h' sb=>?_⟩
   have J1:Inv X pins σ H4 s5:=I2.call' I5.os I5.base I5.hok I5.bare λ b hb=>⟨(f2 b hb).2.2.2.1,(f2 b hb).2.1,(f2 b hb).2.2.2.2.1,(f2 b hb).2.2.2.2.2⟩
   have big:∀ a,D<=a->a≠X.env.locals/\(a∈X.ex\/X.s₀.heap.objs.size<=a)/\(∀ x y,X.env.cells.lookup x=some y->y≠a)/\∀ p∈X.pn++pins,p.1≠a:=λ a ha=>by
    obtain ⟨q0,q1,q2,q3,q4,q5⟩:=I2.fpOk (b:=a) (H':=λ _=>none) (hDD▸ha) rfl
    exact ⟨q1,q3,q4,q5⟩
   obtain ⟨b1,b2,b3,b4⟩:=big C hCle
   have J2:Inv X pins σ H4 { s5 with heap:=h' }:=J1.turned (t':=s5.toks) (λ b o hb e=>sb.extBut b o hb e) I5.free b1 b2 b3 b4
   obtain ⟨p1,p2,p3,p4,p5⟩:=I5.pin (D,ax us k) (by simp)
   obtain ⟨d1,d2,d3,d4⟩:=big D (Eh _)
   have J3:Inv X pins σ (upd H4 D (.lst xs)) { s5 with heap:=h' }:=J2.adopt p2 d1 d2 d3 d4 ⟨E5 hsz,us,k,rv,sb.extBut _ _ hDC p1⟩
   exact ⟨.ref D,_,J3,rfl,fin D p2⟩
  ·refine thn (T.item (aw X N scope cl fp C s2 H2) rfl rfl rfl hc i _ s4 σ4 H4 _ I4 (fpc fr4) tn4 go) λ r s5 ⟨u,hr,h5⟩=>?_
   subst hr
   refine thn h5 λ _ s6 ⟨x,H6,I6,r6,y6,tn6,fr6⟩=>?_
   have I6':=I6.pinned (fpc fr6) (T.obj _ _ tn6)
   refine thn (hg fp C s2 H2 _ s6 σ4 H6 x u _ I6' r6 (step x H6 y6)) λ _ s7 ⟨σ7,H7,I7,q7⟩=>?_
   refine thn (he fp C s2 H2 _ s7 σ7 H7 _ I7 q7) λ yv s8 ⟨y,H8,I8,r8,m',hm,w8⟩=>?_
   obtain ⟨p1,p2,p3,p4,p5⟩:=I8.pin (D,ax us k) (by simp [aw])
   have hsz':us.toArray.size<=sizeLine:=by simp; rw [<-rv.length]; exact E5 hsz
   refine wpAny_list_append_plain (hsz:=hsz') ⟨k,p1⟩ λ h' pl sb=>?_
   have tn8:tn (i+1) s8.heap:=T.keep _ _ _ tn6 λ b hb o e=>(I8.pin (b,o) (Eg _ (Eg _ (aD hb e)))).1
   have fr8:∀ b∈fp,H8 b=none:=λ b hb=>by
    obtain ⟨o,e,d⟩:=T.obj _ _ tn6 b hb
    exact (I8.pin (b,o) (Eg _ (Eg _ (aD hb e)))).2.1
   have I9:Inv (aw X N scope cl fp C s2 H2) [] σ7 H8 s8:=I8.pins_of λ p hp=>nomatch hp
   have I10:Inv (aw X N scope cl fp C s2 H2) [] σ7 H8 { s8 with heap:=h' }:=I9.turned (t':=s8.toks) (it:=D) (λ b o hb e=>sb.extBut b o hb e) p2 p3 (.inr (Fc hDD))
    (λ x a e=>Eo (cellD x a (hcn x a e))) (λ p hp=>by simp [aw] at hp)
   obtain ⟨k',pl⟩:=pl
   have eu:us.toArray.push yv=(us++[yv]).toArray:=by simp
   rw [eu] at pl
   have I11:Inv (aw X N scope cl fp C s2 H2) [(D,ax (us++[yv]) k')] σ7 H8 { s8 with heap:=h' }:=I10.pins_of λ p hp=>by
    have e:p=(D,ax (us++[yv]) k'):=by simpa using hp
    subst e
    exact ⟨pl,p2,p3,p4,λ v z=>by cases z⟩
   exact ⟨m',hm,i+1,xs++[y],us++[yv],k',σ7,H8,I11,T.keep _ _ _ tn8 λ b hb o e=>sb.extBut b o (Eo (hfl b hb)) e,fr8,rv.append (.cons r8 .nil),w8⟩
 exact codeAny_compStart_list loop (T.self _ 0 _ _ _ tn3 loop)
end
section
variable {X:Cx}
noncomputable def oX (i j:Int):Prop:=0<j/\j.natAbs.log2<9000
theorem oY {j:Int} (h0:0<j) (h:j<2 ^ 64):j.natAbs.log2<9000:=by
 have:j.natAbs<2 ^ 64:=by lia
 have h2:=(L4 (by lia:j.natAbs≠0)).mpr this
 lia
theorem tO:OpR X (binaryOp .FloorDiv) (rI oX λ i j=>.int (i / j)):=opI λ i j _ _ _ _ _ hc q=>by
 have e:i.fdiv j=i / j:=Ia _ (JN hc.1)
 exact floordiv_int (Int.ne_of_gt hc.1) (by rw [e]; exact q) (.inl (GX hc.2))
theorem tP (hc:X.calm=true):ca X (.builtin "sum") (λ xs H Q=>∃ (p:Addr) (ns:List Int),xs=[.ref p]/\SqL X.K H p (ns.map ML)/\Q (.int ns.sum) H):=by
 intro pins s σ H xs us Q I r h
 obtain ⟨p,ns,rfl,hq,q⟩:=h
 obtain ⟨u,rfl,ru⟩:=ft r
 cases ru
 obtain ⟨its,rv,hp,hz⟩:=I.list hq
 have hi:IntsAre its ns:=bR rv
 have hl:=hp.isList
 obtain ⟨zs,hx⟩:=hi.allInts.items
 have hn:numsOf its.toArray.toList=ns:=by rw [show its.toArray.toList=its from rfl,hi.numsOf]
 rw [hx] at hl hn
 rw [nums_intItems] at hn
 refine sum_intListG (I.ok.hd hc) hl λ h' tk t' hk=>?_
 refine ⟨.int ns.sum,H,I.kept hk,⟨t',?_⟩,q⟩
 rw [preSum_eq,Em (by simp),hn]
theorem qd {bs:List Bool} (h:bs.length=n):(Eu n).all (λ i=>bs.getD i true)=bs.all id:=by
 subst h
 rw [Gv,FO,FO]
 constructor
 ·intro h b hb
  obtain ⟨i,hi,rfl⟩:=Gk.mp hb
  have:=h i (by simpa using hi)
  simpa [hi] using this
 ·intro h i hi
  have hi:i<bs.length:=by simpa using hi
  simp only [Ej,Ef hi,Option.getD_some]
  exact h _ (EQ hi)
theorem wL {bs:List Bool} (rv:Vals (bs.map V.bl) its) {v:Value} (h:its.toArray[i]? = some v) {d:Bool}:v=.bool (bs.getD i d):=by
 have h':its[i]? = some v:=by simpa using h
 have hl:=rv.length
 have hi:i<its.length:=(EE.mp h').1
 have hi':i<bs.length:=by simpa using (by lia:i<(bs.map V.bl).length)
 obtain ⟨u,e,ru⟩:=rv.get (i:=i) (x:=V.bl bs[i]) (by simp [hi'])
 rw [h'] at e; cases e
 have:v=.bool bs[i]:=ru
 rw [this]; simp [hi']
theorem tQ (hc:X.calm=true):ca X (.builtin "all") (λ xs H Q=>∃ (p:Addr) (bs:List Bool),xs=[.ref p]/\SqL X.K H p (bs.map V.bl)/\Q (.bl (bs.all id)) H):=by
 intro pins s σ H xs us Q I r h
 obtain ⟨p,bs,rfl,hq,q⟩:=h
 obtain ⟨u,rfl,ru⟩:=ft r
 cases ru
 obtain ⟨its,rv,hp,hz⟩:=I.list hq
 have hlt:p<s.heap.objs.size:=by obtain ⟨o,e,_⟩:=hp.isList; exact Ei e
 refine call_all_walk (wpAny_pyIter_list hp.isList ?_)
 refine ⟨s.heap.objs.size,_,_,_,_,_,λ i=>bs.getD i true,rfl,KI (A:=X.A.in1) (I.ok.hd hc) _ p (Eo hlt) its.toArray,⟨⟨_,Ek _ rfl,rfl,rfl⟩,hp.isList.at λ o e=>Ec _ e⟩,?_,λ h' tk hk=>?_⟩
 ·intro i v s Q E hv hQ
  rw [wL rv hv (d:=true)]
  exact wpAny_truthy_bool hQ
 ·have e:(Eu its.toArray.size).all (λ i=>bs.getD i true)=bs.all id:=qd (by have:=rv.length; simpa using this)
  rw [e]
  exact ⟨.bl (bs.all id),H,I.kept λ b o e=>hk b o (by simp; exact Eo (Ei e)) (Ec _ e),rfl,q⟩
theorem tR:ca X (.builtin "isinstance") (λ xs H Q=>∃ x t T b,xs=[x,.ty T]/\TyOf X.K H x t/\GE X.K t (.type T)=some b/\Q (.bl b) H):=by
 intro pins s σ H xs us Q I r h
 obtain ⟨x,t,T,b,rfl,ty,e,q⟩:=h
 obtain ⟨u,w',rfl,ru,rw'⟩:=y0 r
 cases (show w'=G5 T from rw')
 exact pV I ru ty e λ tk=>⟨.bl b,H,I.tok _,rfl,q⟩
example (K:Ee):GE K (.type "int") (.type "int")=some true:=rfl
example (K:Ee):GE K (.type "int") (.type "bool")=some false:=rfl
example (K:Ee):GE K (.type "tuple") (.type "tuple")=some true:=rfl
end
noncomputable def bz:Expr->Bool
 | .Starred ..=>false
 | _=>true
theorem aB {es:List Expr} {env:Env} (h:bz e=true):starEach (e::es) env=(false,eval e env)::starEach es env:=by
 cases e<;>first | rfl | cases h
theorem gb {pos:Pos} {env:Env}:∀ {es:List Expr},es.all bz=true->(backTo pos (starEach es env)).any (·.1)=false
 | [],_=>rfl
 | e::es,h=>by
  rw [Hm,Fy] at h
  rw [aB h.1]
  exact gb (es:=es) h.2
section
variable {X:Cx} {CX:CXT} {k:Nat} {f:Addr} {fd:FuncData} {ps:List Str} {sp:Sp} {E:XK} {x:Str} {p pos apos cpos:Pos} {e o:Expr} {es:List Expr} {te to:TE} {t:TA} {id T:String} {name:Str}
theorem DC (ha:PE X e te) (hr:PA X es t) (hn:bz e=true:=by rfl):PA X (e::es) (oO te t):=wA ha hr (aB hn)
theorem tT (F:FnOk X.prog X.w X.K X.mg X.base CX k f fd ps sp) (hr:Room k X.A) (hg:Gl X x) (hm:X.mg x=some (.ref f)) (hk:Gm X.K (.ref f)=true) (hb:Binds X.K fd ps []) (hx:jC CX X E)
  (ha:PA X (e::es) t) (hn:(e::es).all bz=true:=by rfl) (hdb:(x == ("__debug__" : Str))=false:=by decide):PE X (.Call (.Name x p) (e::es) [] pos) (tI sp [] E t):=by
 rw [Hm,Fy] at hn
 exact wB F hr hg hm hk hb .nil hx ha hdb (aB hn.1) (gb hn.2)
theorem qe {r:List V->Hp->VK->Prop} (hc:ca X (.builtin id) r) (hg:Gl X x) (hm:X.mg x=none) (hv:bootBuiltins x=some (.builtin id)) (ha:PA X (e::es) t) (hn:(e::es).all bz=true:=by rfl) (hn2:x≠"__name__":=by decide) (hdb:(x == ("__debug__" : Str))=false:=by decide) :
  PE X (.Call (.Name x p) (e::es) [] pos) (tCB r t):=by
 rw [Hm,Fy] at hn
 exact tJ hc hg hm hv ha hn2 hdb (aB hn.1) (gb hn.2)
theorem oZ {r:List V->Hp->VK->Prop} (hc:ca X (.type T) r) (hg:Gl X x) (hm:X.mg x=none) (hv:bootBuiltins x=some (.type T)) (ha:PA X (e::es) t) (hn:(e::es).all bz=true:=by rfl) (hn2:x≠"__name__":=by decide) (hdb:(x == ("__debug__" : Str))=false:=by decide) :
  PE X (.Call (.Name x p) (e::es) [] pos) (tCB r t):=by
 rw [Hm,Fy] at hn
 exact pX hc hg hm hv ha hn2 hdb (aB hn.1) (gb hn.2)
theorem qf {r:V->List V->Hp->VK->Prop} (pa:PlainAttrs T) (slot:Slot T name id) (hty:typeOf (.builtin id)=pure (.type "method_descriptor")) (hm:MtR X id r) (ho:PE X o to) (ha:PA X [e] t)
  (hbase:attributeBase o name X.env (eval o X.env)=eval o X.env:=by rfl) (hline:(apos.endLine == cpos.line)=true:=by rfl) (hn:bz e=true:=by rfl) :
  PE X (.Call (.Attribute o name apos) [e] [] cpos) (tBM X.K T r to t):=by
 refine BS pa slot hty hm ho ha hbase ?_ hline (aB hn) rfl
 rw [aB hn]; rfl
end
section
variable {K:Ee} {σ:St} {H:Hp} {Q:VK} {D:Ends} {E:XK}
theorem C0 {t u:TS} (h:t { D with nx:=u D } σ H):Br t u D σ H:=h
theorem C1 {te:TE} (h:te σ H λ x H1=>g x σ H1 D.nx):pD te g D σ H:=h
theorem tU {R:St->Hp->Prop} (h:R (σ.set i (some v)) H):fq i v σ H R:=h
theorem BU {t:wm} {R:St->Hp->Prop} (h:to σ H λ o H1=>ti σ H1 λ i H2=>t o i v H2 λ H3=>R σ H3):Bw to ti t v σ H R:=h
theorem C2 {te:TE} (h:te σ H D.rt):Bs te D σ H:=h
theorem BV {te:TE} (h:te σ H λ _ H1=>D.nx σ H1):wk te D σ H:=h
theorem BW (h:D.nx σ H):wf D σ H:=h
theorem DD {c:TT} {t u:TS} (h:c σ H λ b H1=>if b=true then t D σ H1 else u D σ H1):Bt c t u D σ H:=h
theorem BX {t:TE} {R:Bool->Hp->Prop} (h:t σ H λ x H'=>∃ k,x=.bl k/\R k H'):wx t σ H R:=h
theorem D9 {t:TE} {R:Bool->Hp->Prop} (h:t σ H λ x H'=>∃ k,x=.bl k/\R k H'):tB t σ H R:=h
theorem DE {b:Bool} {R:Bool->Prop} (h:R b):∃ k,V.bl b=.bl k/\R k:=⟨b,rfl,h⟩
theorem C3 {t:TT} {R:Bool->Hp->Prop} (h:t σ H λ c H1=>R (!c) H1):Bp t σ H R:=h
theorem DF {t u:TT} {R:Bool->Hp->Prop} (h:t σ H λ c H1=>if c=true then R true H1 else u σ H1 R):tOr t u σ H R:=h
theorem C4 {t u:TT} {R:Bool->Hp->Prop} (h:t σ H λ c H1=>if c=true then u σ H1 R else R false H1):Bo t u σ H R:=h
theorem BY {tb:TE} (h:ta σ H λ x H1=>∃ c,x=.bl c/\if c=true then tb σ H1 Q else Q (.bl false) H1):wc ta tb σ H Q:=h
theorem BZ (h:ta σ H λ x H1=>∃ c,x=.bl c/\Q (.bl (!c)) H1):we ta σ H Q:=h
theorem Ea (h:Q v H):tC v σ H Q:=h
theorem DG {r:R2} {tb:TE} (h:ta σ H λ x H1=>tb σ H1 λ y H2=>r x y H2 Q):tOp r ta tb σ H Q:=h
theorem DH {r:V->Hp->VK->Prop} (h:ta σ H λ x H1=>r x H1 Q):tUn r ta σ H Q:=h
theorem DI {g:Int->Int->V} {i j:Int} (h:Q (g i j) H):rI0 g (.int i) (.int j) H Q:=⟨i,j,rfl,rfl,h⟩
theorem B0 {C:Int->Int->Prop} {g:Int->Int->V} {i j:Int} (c:C i j) (h:Q (g i j) H):rI C g (.int i) (.int j) H Q:=⟨i,j,rfl,rfl,c,h⟩
theorem Eb {g:Int->V} {i:Int} (h:Q (g i) H):rU g (.int i) H Q:=⟨i,rfl,h⟩
theorem C5 {i j:Int} (h:Q (.bl (decide (ML i=ML j))) H):rEq (.int i) (.int j) H Q:=⟨rfl,h⟩
theorem cb {i:Int} (s:SqL K H p xs) (a:atI xs i=some v) (h:Q v H):AZ K (.ref p) (.int i) H Q:=⟨p,xs,i,v,rfl,rfl,s,a,h⟩
theorem qg {i:Int} (s:SqT K H p xs) (a:atI xs i=some v) (h:Q v H):A0 K (.ref p) (.int i) H Q:=⟨p,xs,i,v,rfl,rfl,s,a,h⟩
theorem qh {k:Int} {R:Hp->Prop} (s:H p=some (.lst xs)) (a:ixN xs.length k=some j) (h:R (upd H p (.lst (xs.set j v)))):oU (.ref p) (.int k) v H R:=⟨p,xs,k,j,rfl,rfl,s,a,h⟩
theorem ze {i:Int} (s:H p=some (.lst xs)) (h:∃ v,atI xs i=some v/\Q v H):AZ K (.ref p) (.int i) H Q:=let ⟨v,a,q⟩:=h; ⟨p,xs,i,v,rfl,rfl,MJ s,a,q⟩
theorem wM {i:Int} (s:H p=some (.tup xs)) (h:∃ v,atI xs i=some v/\Q v H):A0 K (.ref p) (.int i) H Q:=let ⟨v,a,q⟩:=h; ⟨p,xs,i,v,rfl,rfl,MK s,a,q⟩
theorem wN {k:Int} {R:Hp->Prop} (s:H p=some (.lst xs)) (h:∃ j,ixN xs.length k=some j/\R (upd H p (.lst (xs.set j v)))):oU (.ref p) (.int k) v H R:=let ⟨j,a,q⟩:=h; ⟨p,xs,k,j,rfl,rfl,s,a,q⟩
theorem DJ {r:List V->Hp->VK->Prop} {t:TA} (h:t σ H λ vs H1=>r vs H1 Q):tCB r t σ H Q:=h
theorem B1 {tr:TA} {R:List V->Hp->Prop} (h:ta σ H λ x H1=>tr σ H1 λ xs H2=>R (x::xs) H2):oO ta tr σ H R:=h
theorem C6 {R:List V->Hp->Prop} (h:R [] H):AY σ H R:=h
theorem B2 {sp:Sp} {t:TA} (h:t σ H λ vs H1=>sp (vs++[]) H1 Q E):tI sp [] E t σ H Q:=h
theorem C7 {t:TA} (h:t σ H λ xs H1=>xs.length<=sizeLine/\∀ p,H1 p=none->Q (.ref p) (upd H1 p (.lst xs))):BN t σ H Q:=h
theorem C8 {t:TA} (h:t σ H λ xs H1=>xs.length<=sizeLine/\∀ p,H1 p=none->Q (.ref p) (upd H1 p (.tup xs))):BM t σ H Q:=h
theorem jW {A B:Prop} (h:A):if true=true then A else B:=by rw [if_pos rfl]; exact h
theorem bK {A B:Prop} (h:B):if false=true then A else B:=by rw [if_neg EF]; exact h
theorem aW {c A B:Prop} [Decidable c] (h1:c->A) (h2:¬ c->B):if decide c=true then A else B:=by
 by_cases h:c
 ·rw [decide_eq_true h]; exact jW (h1 h)
 ·rw [decide_eq_false h]; exact bK (h2 h)
theorem dU {c A B:Prop} [Decidable c] (hc:c) (h:A):if decide c=true then A else B:=by rw [decide_eq_true hc]; exact jW h
theorem bV {c A B:Prop} [Decidable c] (hc:¬ c) (h:B):if decide c=true then A else B:=by rw [decide_eq_false hc]; exact bK h
theorem jX {c A B:Prop} [Decidable c] (hc:c) (h:B):if (!decide c)=true then A else B:=by rw [decide_eq_true hc]; exact bK h
theorem aF (h:n<=1000):n<=sizeLine:=E5 (al h)
theorem B3 {i j:Int} (h1:0<j) (h2:j<2 ^ 64):oX i j:=⟨h1,oY h1 h2⟩
theorem B4 {i:Int} {e:Nat} (h1:0<b) (h2:b<=64) (h3:e<=1000):oX i ((b ^ e:Nat):Int):=by
 have hp:0<b ^ e:=L5 h1
 refine ⟨IX.mpr hp,?_⟩
 rw [JO,L4 (ES hp)]
 have h4:b ^ e<=64 ^ e:=JA h2 e
 have h5:(64:Nat) ^ e=2 ^ (6*e):=by rw [Nat.pow_mul]
 have h6:2 ^ (6*e)<2 ^ 9000:=Nat.pow_lt_pow_right (by decide) (by lia)
 lia
theorem DK {i j:Int} (h1:0<j) (h2:j<1073741824):BG i j:=⟨h1,h2⟩
theorem B5 {i j:Int} (h1:-(2 ^ 64)<i) (h2:i<2 ^ 64):CMul i j:=.inl ⟨h1,h2⟩
theorem B6 {i j:Int} (h1:-(2 ^ 64)<j) (h2:j<2 ^ 64):CMul i j:=.inr ⟨h1,h2⟩
theorem DL {i j:Int} (h1:0<=j) (h2:j<=1000000) (h3:i.natAbs<2 ^ 64):AX i j:=⟨h1,h2,h3⟩
theorem A1 (h:Q (.int 1000000000000000000) H):rI AX (λ i j=>.int (i ^ j.toNat)) (.int 10) (.int 18) H Q:=⟨10,18,rfl,rfl,⟨by decide,by decide,by decide⟩,by
 have e:(10:Int) ^ (18:Int).toNat=1000000000000000000:=by decide
 show Q (.int ((10:Int) ^ (18:Int).toNat)) H
 rw [e]; exact h⟩
noncomputable abbrev RC:=List V->Hp->VK->Prop
noncomputable def B7:RC:=λ xs H Q=>∃ i,xs=[.int i]/\Q (.int (if i<0 then -i else i)) H
noncomputable def wO:RC:=λ xs H Q=>∃ k,xs=[.bl k]/\Q (.int (if k then 1 else 0)) H
noncomputable def wP:RC:=λ xs H Q=>∃ i j,xs=[.int i,.int j]/\Q (.int (if j<i then j else i)) H
noncomputable def zf (K:Ee):RC:=λ xs H Q=>∃ p ys,xs=[.ref p]/\(SqL K H p ys\/SqT K H p ys)/\Q (.int ys.length) H
noncomputable def B8 (K:Ee):RC:=λ xs H Q=>∃ (p:Addr) (ns:List Int),xs=[.ref p]/\SqL K H p (ns.map ML)/\Q (.int ns.sum) H
noncomputable def B9 (K:Ee):RC:=λ xs H Q=>∃ (p:Addr) (bs:List Bool),xs=[.ref p]/\SqL K H p (bs.map V.bl)/\Q (.bl (bs.all id)) H
noncomputable def pE (K:Ee):RC:=λ xs H Q=>∃ x t T b,xs=[x,.ty T]/\TyOf K H x t/\GE K t (.type T)=some b/\Q (.bl b) H
noncomputable def mM (K:Ee):RC:=λ xs H Q=>∃ p ys,xs=[.ref p]/\(SqL K H p ys\/SqT K H p ys)/\∀ l,H l=none->Q (.ref l) (upd H l (.lst ys))
noncomputable def jY (K:Ee):RC:=λ xs H Q=>∃ p ys,xs=[.ref p]/\((SqL K H p ys/\∀ l,H l=none->Q (.ref l) (upd H l (.tup ys)))\/(SqT K H p ys/\Q (.ref p) H))
section
variable {X:Cx}
theorem zg:ca X (.builtin "abs") B7:=tG
theorem zh:ca X (.type "int") wO:=λ pins s σ H xs us Q I r h=>pT pins s σ H xs us Q I r (.inr h)
theorem zi (hc:X.calm=true):ca X (.builtin "min") wP:=pS hc
theorem zj:ca X (.builtin "len") (zf X.K):=k0
theorem zk (hc:X.calm=true):ca X (.builtin "sum") (B8 X.K):=tP hc
theorem zm (hc:X.calm=true):ca X (.builtin "all") (B9 X.K):=tQ hc
theorem zn:ca X (.builtin "isinstance") (pE X.K):=tR
theorem wQ:ca X (.type "list") (mM X.K):=k7
theorem tV:ca X (.type "tuple") (jY X.K):=jV
end
theorem C9 {i:Int} (h:Q (.int (if i<0 then -i else i)) H):B7 [.int i] H Q:=⟨i,rfl,h⟩
theorem Ca {k:Bool} (h:Q (.int (if k then 1 else 0)) H):wO [.bl k] H Q:=⟨k,rfl,h⟩
theorem Da {i j:Int} (h:Q (.int (if j<i then j else i)) H):wP [.int i,.int j] H Q:=⟨i,j,rfl,h⟩
theorem bj (s:SqL K H p ys) (h:Q (.int ys.length) H):zf K [.ref p] H Q:=⟨p,ys,rfl,.inl s,h⟩
theorem iH (s:SqT K H p ys) (h:Q (.int ys.length) H):zf K [.ref p] H Q:=⟨p,ys,rfl,.inr s,h⟩
theorem gW {ns:List Int} (s:SqL K H p (ns.map ML)) (h:Q (.int ns.sum) H):B8 K [.ref p] H Q:=⟨p,ns,rfl,s,h⟩
theorem vw {bs:List Bool} (s:SqL K H p (bs.map V.bl)) (h:Q (.bl (bs.all id)) H):B9 K [.ref p] H Q:=⟨p,bs,rfl,s,h⟩
theorem A2 {i:Int} (h:Q (.bl true) H):pE K [.int i,.ty "int"] H Q:=⟨_,_,_,_,rfl,.int i,rfl,h⟩
theorem A3 {i:Int} (h:Q (.bl false) H):pE K [.int i,.ty "bool"] H Q:=⟨_,_,_,_,rfl,.int i,rfl,h⟩
theorem nH (s:H p=some (.tup xs)) (h:Q (.bl true) H):pE K [.ref p,.ty "tuple"] H Q:=⟨_,_,_,_,rfl,.tup s,rfl,h⟩
theorem nI (s:H p=some (.lst xs)) (h:Q (.bl true) H):pE K [.ref p,.ty "list"] H Q:=⟨_,_,_,_,rfl,.lst s,rfl,h⟩
theorem gc (s:SqL K H p ys\/SqT K H p ys) (h:∀ l,H l=none->Q (.ref l) (upd H l (.lst ys))):mM K [.ref p] H Q:=⟨p,ys,rfl,s,h⟩
theorem iI (s:SqL K H p ys) (h:∀ l,H l=none->Q (.ref l) (upd H l (.tup ys))):jY K [.ref p] H Q:=⟨p,ys,rfl,.inl ⟨s,h⟩⟩
theorem cz {r:Int} (h0:0<=r) (h1:r<xs.length):∃ v,atI xs r=some v/\v∈xs:=by
 have hl:r.toNat<xs.length:=by lia
 have e:r=(r.toNat:Int):=by lia
 refine ⟨xs[r.toNat],?_,EQ hl⟩
 have:=bJ (xs:=xs) (j:=r.toNat) (v:=xs[r.toNat]) (by simp [hl])
 rw [<-e] at this; exact this
theorem Db (h:wi σ H λ J H1=>∃ W:Nat->Nat->St->Hp->Prop,(∃ m,W 0 m σ H1)/\∀ i m σ H,W i m σ H->
 (J.stop i H/\D.nx σ H)\/(J.go i H/\∃ N:St->Hp->Prop,(∀ σ' H',N σ' H'->∃ m',m'<m/\W (i+1) m' σ' H')/\∀ x H',J.yld i H x H'->g x σ H' λ σ2 H2=>tb { D with nx:=N,ct:=N,bk:=D.nx } σ2 H2)):BB wi g tb D σ H:=h
theorem Cb {ta:TA} {R:It->Hp->Prop} (h:ta σ H λ vs H1=>∃ j:Int,vs=[.int j]/\-(2 ^ 62)<=j/\j<2 ^ 62/\R (Itr 0 j.toNat) H1):wu ta σ H R:=h
theorem A4 {tl:TE} {R:It->Hp->Prop} (h:tl σ H λ x H1=>∃ a,x=.ref a/\(∃ xs,SqL K H1 a xs)/\R (Itl K a) H1):wq K tl σ H R:=h
theorem Cc {tl:TE} {R:It->Hp->Prop} (h:tl σ H λ x H1=>∃ a,x=.ref a/\(∃ xs,SqT K H1 a xs)/\R (Itt K a) H1):BA K tl σ H R:=h
theorem DM {A B:Prop} (h:B):if (!true)=true then A else B:=bK h
theorem DN {A B:Prop} (h:A):if (!false)=true then A else B:=jW h
theorem Cd {te:TE} {tgs:List Str} {ix:List Nat} (h:wi σ H λ J H1=>
 ∃ W:Nat->Nat->List V->St->Hp->Prop,(∃ m,W 0 m [] (cU tgs ix σ) H1)/\∀ i m xs σc H,W i m xs σc H->xs.length<sizeLine/\
  ((J.stop i H/\∀ p,H p=none->Q (.ref p) (upd H p (.lst xs)))\/(J.go i H/\∀ x H',J.yld i H x H'->g x σc H' λ σ2 H2=>te σ2 H2 λ y H3=>∃ m',m'<m/\W (i+1) m' (xs++[y]) σ2 H3))):mL wi g te tgs ix σ H Q:=h
theorem dvp (n b k:Nat):n / b ^ k / b=n / b ^ (k+1):=by rw [Nat.div_div_eq_div_mul,LP]
theorem tW {pl:Nat} (hb:2<=b) (h:0<n / b ^ pl):2 ^ (pl+1)<=2*n+1:=by
 have h1:b ^ pl<=n:=(KJ.mp h).2
 have h2:2 ^ pl<=b ^ pl:=JA hb pl
 rw [LP]; lia
end
structure QE (X:Cx) (e:Expr) (t:TE):Prop where
 out:PE X e t
structure QT (X:Cx) (e:Expr) (t:TT):Prop where
 out:PT X e t
structure QW (X:Cx) (e:Expr) (t:TT):Prop where
 out:PW X e t
structure QA (X:Cx) (es:List Expr) (t:TA):Prop where
 out:PA X es t
structure QO (X:Cx) (e:Option Expr) (t:TO):Prop where
 out:PO X e t
structure QI (X:Cx) (tg iter:Expr) (t:TI):Prop where
 out:PI X tg iter t
structure QG (X:Cx) (tg:Expr) (t:TG):Prop where
 out:PG X tg t
structure QGs (X:Cx) (ts:List Expr) (t:TGs):Prop where
 out:PGs X ts t
structure QS (X:Cx) (st:Stmt) (t:TS):Prop where
 out:PS X st t
structure QB (X:Cx) (sts:List Stmt) (t:TS):Prop where
 out:PSs X sts t
structure QOp (X:Cx) (f:Value->Value->Sem Value) (r:R2):Prop where
 out:OpR X f r
structure QUn (X:Cx) (f:Value->Sem Value) (r:V->Hp->VK->Prop):Prop where
 out:UnR X f r
structure QC (X:Cx) (f:Value) (r:List V->Hp->VK->Prop):Prop where
 out:ca X f r
structure QIx (X:Cx) (r:R2):Prop where
 out:IxR X r
structure QSl (X:Cx) (r:V->Option Int->Option Int->Hp->VK->Prop):Prop where
 out:SlR X r
noncomputable def Dc:Expr->Bool
 | .Slice ..=>false
 | _=>true
theorem tX {b:Expr} (h:Dc b=true):p7 b:=by
 cases b<;>first | (intro _ _; rfl) | cases h
noncomputable def Dd (K:Ee) (ta:TE):TT:=λ σ H Q=>ta σ H λ x H'=>∃ k,yr K x H' k/\Q k H'
section
variable {X:Cx} {a b c e o:Expr} {es iD:List Expr} {ta tb tc te to ti:TE} {tA tB':TT} {t:TA} {pos p p2 apos cpos:Pos} {r r':R2} {x:Str}
theorem qv (i:Nat) {x:Str} {pos:Pos} (hN:X.N[i]? = some x:=by rfl) (hv:Vis X.env.scope x:=by first | exact En rfl | exact Gh (En rfl) | exact Gh (Gh rfl)) (hd:(x == ("__debug__" : Str))=false:=by decide)
  (hcd:(x == ("__classdict__" : Str))=false:=by decide):QE X (.Name x pos) (Bm i):=⟨yA hN hv hd hcd⟩
theorem ae {i j pos}:QE X (.Constant (.int i) j pos) (tC (.int i)):=⟨vh⟩
theorem o0 {b j pos}:QE X (.Constant (.bool b) j pos) (tC (.bl b)):=⟨Bn⟩
theorem dW {j pos}:QE X (.Constant .none j pos) (tC .non):=⟨yB⟩
theorem bn {x j pos}:QE X (.Constant (.str x) j pos) (tC (.str x)):=⟨yC⟩
theorem ar (hg:Gl X x) (hm:X.mg x=none) (hv:bootBuiltins x=some u) (r:RelV v u) (hn:x≠"__name__":=by decide) (hd:(x == ("__debug__" : Str))=false:=by decide):QE X (.Name x pos) (tC v):=⟨wa hg hm hv r hn hd⟩
theorem ay {op:Operator} (ho:QOp X (binaryOp op) r) (ha:QE X a ta) (hb:QE X b tb):QE X (.BinOp a op b pos) (tOp r ta tb):=⟨BD ho.out ha.out hb.out⟩
theorem la {op:UnaryOp} {r:V->Hp->VK->Prop} (ho:QUn X (unaryOp op) r) (ha:QE X a ta):QE X (.UnaryOp op a pos) (tUn r ta):=⟨yS ho.out ha.out⟩
theorem aH {op:CmpOp} (ho:QOp X (compareOp op) r) (ha:QE X a ta) (hb:QE X b tb) (hm:behindInMarks op b=false):QE X (.Compare a [op] [b] pos) (tOp r ta tb):=⟨ww ho.out ha.out hb.out hm⟩
theorem az {op:CmpOp} (ho:QOp X (compareOp op) r) (ha:QE X a ta) (hb:QE X b tb) (hm:behindInMarks op b=false):QT X (.Compare a [op] [b] pos) (wx (tOp r ta tb)):=⟨wy ho.out ha.out hb.out hm⟩
theorem bA {op} (h:QE X a ta):QE X (.BoolOp op [a] pos) ta:=⟨yH h.out⟩
theorem bb (ha:QE X a ta) (hb:QE X (.BoolOp .And (b::iD) pos) tb):QE X (.BoolOp .And (a::b::iD) pos) (wc ta tb):=⟨yI ha.out hb.out⟩
theorem jE (ha:QE X a ta):QE X (.UnaryOp .Not a pos) (we ta):=⟨yJ ha.out⟩
theorem lc (ha:QT X a tA):QT X (.UnaryOp .Not a pos) (Bp tA):=⟨yG ha.out⟩
theorem bB (h:QE X a ta) (he:∀ whole,isTrue a X.env whole=(do let v <-whole; standAt a.pos; holding [v] (truthy v)):=by intro _; rfl):QT X a (tB ta):=⟨yD h.out he⟩
theorem jZ {K:Ee} (h:QE X a ta) (he:∀ whole,isTrue a X.env whole=(do let v <-whole; standAt a.pos; holding [v] (truthy v)):=by intro _; rfl) (hK:X.K=K:=by rfl):QT X a (Dd K ta):=by subst hK; exact ⟨tF h.out he⟩
theorem j0 (ha:QT X a tA):QW X (.BoolOp .And [a] pos) tA:=⟨wb ha.out⟩
theorem qi (ha:QT X a tA):QW X (.BoolOp .Or [a] pos) tA:=⟨yE ha.out⟩
theorem nJ (ha:QT X a tA) (hb:QW X (.BoolOp .And (b::iD) pos) tB'):QW X (.BoolOp .And (a::b::iD) pos) (Bo tA tB'):=⟨yF ha.out hb.out⟩
theorem wR (ha:QT X a tA) (hb:QW X (.BoolOp .Or (b::iD) pos) tB'):QW X (.BoolOp .Or (a::b::iD) pos) (tOr tA tB'):=⟨Bq ha.out hb.out⟩
theorem QW.qt (h:QW X e tA):QT X e tA:=⟨h.out.pt⟩
theorem aa:QA X [] AY:=⟨y2⟩
theorem ah (ha:QE X e te) (hr:QA X es t) (hn:bz e=true:=by rfl):QA X (e::es) (oO te t):=⟨DC ha.out hr.out hn⟩
theorem aO (h:QA X es t):QE X (.List es pos) (BN t):=⟨y4 h.out⟩
theorem bt {x1} (h:QA X es t):QE X (.Tuple es x1 pos) (BM t):=⟨y3 h.out⟩
theorem ba (hr:QIx X r) (ha:QE X a ta) (hb:QE X b tb) (hs:Dc b=true:=by rfl):QE X (.Subscript a b pos) (tOp r ta tb):=⟨BP hr.out ha.out hb.out (tX hs)⟩
theorem qj:QO X none mF:=⟨wE⟩
theorem gF (h:QE X e te):QO X (some e) (wD te):=⟨wF h.out⟩
theorem ip {r:V->Option Int->Option Int->Hp->VK->Prop} {lo hi:Option Expr} {tl th:TO} (hr:QSl X r) (he:QE X e te) (hl:QO X lo tl) (hu:QO X hi th):QE X (.Subscript e (.Slice lo hi none p2) pos) (tSl r te tl th):=⟨tM hr.out he.out hl.out hu.out⟩
theorem af {id:String} {r:RC} (hc:QC X (.builtin id) r) (hg:Gl X x) (hm:X.mg x=none) (hv:bootBuiltins x=some (.builtin id)) (ha:QA X (e::es) t) (hn:(e::es).all bz=true:=by rfl) (hn2:x≠"__name__":=by decide) (hdb:(x == ("__debug__" : Str))=false:=by decide) :
  QE X (.Call (.Name x p) (e::es) [] pos) (tCB r t):=⟨qe hc.out hg hm hv ha.out hn hn2 hdb⟩
theorem aM {T:String} {r:RC} (hc:QC X (.type T) r) (hg:Gl X x) (hm:X.mg x=none) (hv:bootBuiltins x=some (.type T)) (ha:QA X (e::es) t) (hn:(e::es).all bz=true:=by rfl) (hn2:x≠"__name__":=by decide) (hdb:(x == ("__debug__" : Str))=false:=by decide) :
  QE X (.Call (.Name x p) (e::es) [] pos) (tCB r t):=⟨oZ hc.out hg hm hv ha.out hn hn2 hdb⟩
theorem aj {CX:CXT} {fd:FuncData} {ps:List Str} {sp:Sp} {E:XK} (F:FnOk X.prog X.w X.K X.mg X.base CX k f fd ps sp) (hr:Room k X.A) (hg:Gl X x) (hm:X.mg x=some (.ref f)) (hk:Gm X.K (.ref f)=true) (hb:Binds X.K fd ps []) (hx:jC CX X E)
  (ha:QA X (e::es) t) (hn:(e::es).all bz=true:=by rfl) (hdb:(x == ("__debug__" : Str))=false:=by decide):QE X (.Call (.Name x p) (e::es) [] pos) (tI sp [] E t):=⟨tT F hr hg hm hk hb hx ha.out hn hdb⟩
theorem bC {K:Ee} (ho:QE X o to) (ha:QA X [e] t) (hbase:attributeBase o ("append" : Str) X.env (eval o X.env)=eval o X.env:=by rfl) (hline:(apos.endLine == cpos.line)=true:=by rfl) (hn:bz e=true:=by rfl) (hK:X.K=K:=by rfl) :
  QE X (.Call (.Attribute o "append" apos) [e] [] cpos) (tBM K "list" mI to t):=by subst hK; exact ⟨qf Hb PySem.F.slot_list_append PySem.F.type_list_append p8 ho.out ha.out hbase hline hn⟩
variable {tg iter:Expr} {wi:TI} {g:TG} {i:Nat} {u:TGs}
theorem bD {p pos:Pos} (hg:Gl X "range") (hm:X.mg "range" = none) (ha:QA X [a] t) (hn:bz a=true:=by rfl):QI X tg (.Call (.Name "range" p) [a] [] pos) (wu t):=⟨pM hg hm ha.out (aB hn)⟩
theorem bq {K:Ee} (hl:QE X e te) (hK:X.K=K:=by rfl):QI X tg e (wq K te):=by subst hK; exact ⟨wt hl.out⟩
theorem jF {K:Ee} (hl:QE X e te) (hK:X.K=K:=by rfl):QI X tg e (BA K te):=by subst hK; exact ⟨yQ hl.out⟩
theorem ap (hN:X.N.Nodup) (hi:X.N[i]? = some x) (hx:Loc X.env.scope x) (hf:X.fn x=true\/X.env.scope.names.lookup x=some .local:=by first | exact .inl rfl | exact .inr rfl | assumption):QG X (.Name x pos) (fq i):=⟨wn hN hi hx hf⟩
theorem bL:QGs X [] AV:=⟨wo⟩
theorem aC {ts:List Expr} (h1:QG X e g) (h2:QGs X ts u) (hs:(assignEach (e::ts) X.env).map (·.2)=assign e X.env::(assignEach ts X.env).map (·.2):=by rfl):QGs X (e::ts) (mC g u):=⟨sZ h1.out h2.out hs⟩
theorem cV {K:Ee} {ts:List Expr} (hc:X.calm=true) (h:QGs X ts u) (hn:(assignEach ts X.env).length=n:=by rfl) (hst:(assignEach ts X.env).findIdx? (·.1)=none:=by rfl) (hK:X.K=K:=by rfl):QG X (.Tuple ts k pos) (AW K n u):=by subst hK; exact ⟨yL hc h.out hn hst⟩
variable {st:Stmt} {sts s1 s2:List Stmt} {T1 T2:TS}
theorem aE:QB X [] wf:=⟨wg⟩
theorem ac (h1:QS X st T1) (h2:QB X sts T2):QB X (st::sts) (Br T1 T2):=⟨sX h1.out h2.out⟩
theorem ai (h1:QS X st T1):QB X [st] T1:=⟨wj h1.out⟩
theorem ao (he:QE X e te):QS X (.Return (some e) pos) (Bs te):=⟨yK he.out⟩
theorem cu:QS X st vi:=⟨sY⟩
theorem bM (he:QE X e te) (hs:swapsWith e none pos.line X.env=pure false:=by rfl):QS X (.Expr e pos) (wk te):=⟨wl he.out hs⟩
theorem aR (hc:QT X c tA) (ha:QB X s1 T1) (hb:QB X s2 T2):QS X (.If c s1 s2 pos) (Bt tA T1 T2):=⟨Bu hc.out ha.out hb.out⟩
theorem av (hN:X.N.Nodup) (hi:X.N[i]? = some x) (hx:Loc X.env.scope x) (he:QE X e te) (hs:swapsWith e (some (.Name x pos')) pos.line X.env=pure false:=by rfl) (hf:X.fn x=true\/X.env.scope.names.lookup x=some .local:=by first | exact .inl rfl | exact .inr rfl | assumption) :
  QS X (.Assign [.Name x pos'] e pos) (pD te (fq i)):=⟨yN hN hi hx he.out hs hf⟩
theorem qk {tpos:Pos} (he:QE X e te) (ho:QE X o to) (hi:QE X b tb)
  (ha:∀ v,assign (.Subscript o b tpos) X.env v=(do
   let ov <-holding [v] (eval o X.env)
   let iv <-holding [v,ov] (eval b X.env)
   standAt tpos
   holding [v,ov,iv] (setItem ov iv v)
   release [v,ov,iv] []):=by intro _; rfl)
  (hs:swapsWithSole [.Subscript o b tpos] e pos.line X.env=pure false:=by rfl) (hw:swappedStores [.Subscript o b tpos] e X.env=pure none:=by rfl)
  (h1:(assignEach [.Subscript o b tpos] X.env).map (·.2)=[assign (.Subscript o b tpos) X.env]:=by rfl):QS X (.Assign [.Subscript o b tpos] e pos) (pD te (Bw to tb oU)):=⟨vj he.out (yM ho.out hi.out jT ha) hs hw h1⟩
theorem lh {op:Operator} {ti:R2} (hN:X.N.Nodup) (hi:X.N[i]? = some x) (hx:Loc X.env.scope x) (he:QE X e te) (ho:QOp X (inplaceOp op) ti) (hf:X.fn x=true\/X.env.scope.names.lookup x=some .local:=by first | exact .inl rfl | exact .inr rfl | assumption) :
  QS X (.AugAssign (.Name x pos') op e pos) (By i te ti):=⟨yP hN hi hx he.out ho.out hf⟩
theorem nK {i:Nat} {x:Str} {a b:Expr} {ta:TA} {px pt:Pos} {kt k2 pt2} (hc:X.calm=true) (hN:X.N.Nodup) (hi:X.N[i]? = some x) (hj:X.N[j]? = some y) (hij:i≠j)
  (hx:X.env.scope.names.lookup x=some .local) (hy:X.env.scope.names.lookup y=some .local) (ha:QA X [a,b] ta)
  (hw:swappedStores [.Tuple [.Name x px,.Name y py] kt pt] (.Tuple [a,b] k2 pt2) X.env=pure (some [x,y]):=by rfl)
  (hs:swapsWithSole [.Tuple [.Name x px,.Name y py] kt pt] (.Tuple [a,b] k2 pt2) pos.line X.env=pure false:=by rfl) :
  QS X (.Assign [.Tuple [.Name x px,.Name y py] kt pt] (.Tuple [a,b] k2 pt2) pos) (Bx i j ta):=⟨yO hc hN hi hj hij hx hy ha.out hw hs⟩
theorem gf (hp:PassesOwn (model X.prog X.w) X.A X.env X.xe) (hc:QT X c tA) (hb:QB X sts T1):QS X (.While c sts [] pos) (vn tA T1):=⟨tw hp hc.out hb.out⟩
theorem bP (hp:PassesOwn (model X.prog X.w) X.A X.env X.xe) (hc:X.calm=true) (hi:QI X tg iter wi) (hg:QG X tg g) (hb:QB X sts T1) (hs:∀ x,foldedSetIterable iter X.env x=pure x:=by intro _; rfl):QS X (.For tg iter sts [] pos) (BB wi g T1):=⟨yR hp hc hi.out hg.out hb.out hs⟩
theorem bu {N tgs frs:List Str} {ix:List Nat} {cl:List (Str×Addr)} (c:CompOk X N tgs frs ix scope cl) (hc:X.calm=true) (hi:QI X tg iter wi)
  (hg:∀ fp C s H,QG (aw X N scope cl fp C s H) tg g) (he:∀ fp C s H,QE (aw X N scope cl fp C s H) elt te)
  (hs:∀ x,foldedSetIterable iter X.env x=pure x:=by intro _; rfl) :
  QE X (.ListComp elt [⟨tg,iter,[],0⟩] scope pos) (mL wi g te tgs ix):=⟨wK c hc hi.out (λ fp C s H=>(hg fp C s H).out) (λ fp C s H=>(he fp C s H).out) hs⟩
theorem cS:QOp X (binaryOp .Add) (rI0 λ i j=>.int (i+j)):=⟨yT⟩
theorem eK:QOp X (binaryOp .Sub) (rI0 λ i j=>.int (i - j)):=⟨yU⟩
theorem fF:QOp X (binaryOp .Mult) (rI CMul λ i j=>.int (i*j)):=⟨yV⟩
theorem fG:QOp X (binaryOp .FloorDiv) (rI oX λ i j=>.int (i / j)):=⟨tO⟩
theorem gG:QOp X (binaryOp .Mod) (rI (λ _ j=>0<j) λ i j=>.int (i % j)):=⟨yW⟩
theorem o3:QOp X (binaryOp .Pow) (rI AX λ i j=>.int (i ^ j.toNat)):=⟨yX⟩
theorem wS:QOp X (binaryOp .Add) CY:=⟨zc⟩
theorem zo:QOp X (binaryOp .Mult) CZ:=⟨zd⟩
theorem gD:QOp X (compareOp .Eq) rEq:=⟨BH⟩
theorem A5:QOp X (compareOp .NotEq) rNe:=⟨BI⟩
theorem Ce:QOp X (compareOp .Lt) (rI0 λ i j=>.bl (decide (i<j))):=⟨BJ⟩
theorem mN:QOp X (compareOp .Gt) (rI0 λ i j=>.bl (decide (j<i))):=⟨BK⟩
theorem DO:QOp X (compareOp .GtE) (rI0 λ i j=>.bl (decide (j<=i))):=⟨BL⟩
theorem ql:QOp X (inplaceOp .Add) (rI0 λ i j=>.int (i+j)):=⟨wv⟩
theorem qm:QOp X (inplaceOp .FloorDiv) (rI BG λ i j=>.int (i / j)):=⟨tE⟩
theorem li:QUn X (unaryOp .USub) (rU λ i=>.int (-i)):=⟨vo⟩
theorem bE {K:Ee} (hK:X.K=K:=by rfl):QIx X (AZ K):=by subst hK; exact ⟨wG⟩
theorem lj {K:Ee} (hK:X.K=K:=by rfl):QIx X (A0 K):=by subst hK; exact ⟨y9⟩
theorem zq {K:Ee} (hK:X.K=K:=by rfl):QSl X (BQ K):=by subst hK; exact ⟨wH⟩
theorem qo:QC X (.builtin "abs") B7:=⟨zg⟩
theorem ll:QC X (.type "int") wO:=⟨zh⟩
theorem vx (hc:X.calm=true):QC X (.builtin "min") wP:=⟨zi hc⟩
theorem bv {K:Ee} (hK:X.K=K:=by rfl):QC X (.builtin "len") (zf K):=by subst hK; exact ⟨zj⟩
theorem iJ {K:Ee} (hc:X.calm=true) (hK:X.K=K:=by rfl):QC X (.builtin "sum") (B8 K):=by subst hK; exact ⟨zk hc⟩
theorem vy {K:Ee} (hc:X.calm=true) (hK:X.K=K:=by rfl):QC X (.builtin "all") (B9 K):=by subst hK; exact ⟨zm hc⟩
theorem aI {K:Ee} (hK:X.K=K:=by rfl):QC X (.builtin "isinstance") (pE K):=by subst hK; exact ⟨zn⟩
theorem j2 {K:Ee} (hK:X.K=K:=by rfl):QC X (.type "list") (mM K):=by subst hK; exact ⟨wQ⟩
theorem cW {K:Ee} (hK:X.K=K:=by rfl):QC X (.type "tuple") (jY K):=by subst hK; exact ⟨tV⟩
end
section
variable {P:Program} {w:World} {K:Ee} {mg:Str->Option Value} {base:Heap}
theorem Fun.okQ {fd:FuncData} {N ps:List Str} {sp:Sp} (F:Fun K x qual st f fd) (S:FnScope N ps (am st)) (len:∀ vs H Q E,sp vs H Q E->vs.length=ps.length)
  (hbody:∀ (cdv:Value) (A:Around) (outer:List Env) (s:Shared) (H:Hp) (vs:List V) (Q:VK) (E:XK),Room k (A.deeper (envOfC qual (am st) s.heap.objs.size f cdv))->sp vs H Q E->
   ∃ t,QB (wC CX0 P w K mg base N qual (am st) f cdv A outer s H E).nox (fE st) t/\t { nx:=λ _ H'=>Q .non H',rt:=Q } (aK N vs) H):FnOk P w K mg base CX0 (k+1) f fd ps sp:=
 F.ok S len λ cdv A outer s H vs Q E hr hsp=>by
  obtain ⟨t,h,q⟩:=hbody cdv A outer s H vs Q E hr hsp
  exact ⟨t,h.out,q⟩
end
noncomputable def Cf (K:Ee) (te:TE):TE:=λ σ H Q=>te σ H λ x H1=>∃ a xs,x=.ref a/\SqL K H1 a xs/\∀ p,H1 p=none->Q (.ref p) (upd H1 p (.lst xs.reverse))
section
variable {X:Cx} {e:Expr} {te:TE} {pos p1 p2 p3:Pos} {j:Nat}
theorem zr (he:PE X e te):PE X (.Subscript e (.Slice none none (some (.UnaryOp .USub (.Constant (.int 1) j p1) p2)) p3) pos) (Cf X.K te):=by
 intro pins s σ H Q I h
 refine Subscript_ (thn (he pins s σ H _ I h) λ v s1 ⟨x,H1,I1,r1,q1⟩=>?_)
 obtain ⟨a,xs,rfl,hx,q⟩:=q1
 cases r1
 refine wpAny_Slice (evalPart_none_step (evalPart_none_step (evalPart_some_step ?_)))
 refine thn (yS (X:=X) vo vh pins s1 σ H1 (λ x H'=>x=.int (-1)/\H'=H1) I1 ⟨1,rfl,rfl,rfl⟩) λ vk s2 ⟨y,H2,I2,r2,e2,e3⟩=>?_
 subst e2 e3
 obtain ⟨t,rfl⟩:=r2
 have I4:Inv X pins σ H2 { s2 with heap:=s2.heap.push { cls:=.type "slice",data:=.fields #[.none,.none,.int (-1) t] } }:=I2.kept (t':=s2.toks) λ b ob q=>Ec _ q
 obtain ⟨its,r,ht,hz⟩:=I4.list hx
 have hlen:=r.length
 show wpAny (model X.prog X.w) X.A (subscriptTail e (.Slice none none (some (.UnaryOp .USub (.Constant (.int 1) j p1) p2)) p3) (.ref a) (.ref s2.heap.objs.size)) (EP X pins σ Q) X.xe { s2 with heap:=s2.heap.push { cls:=.type "slice",data:=.fields #[.none,.none,.int (-1) t] } }
 refine tail_any (ops:=[.ref a,.ref s2.heap.objs.size]) ht.isList.typeIs slot_list_getitem.lookup ?_ (by with_unfolding_all rfl)
 refine wpAny_getItem_list_slice ht.isList (JK ..) .none .none (.int (-1) t) (by decide) ?_ (by rw [Ew]; lia)
 rw [PySem.W.krv_pick]
 refine ⟨.ref _,_,I4.laid (t':=s2.toks) (o:=.lst xs.reverse) (λ b ob q=>Ec _ q) (Eh _) ?_,rfl,q _ (I4.hok.fresh (Eh _))⟩
 exact ⟨by rw [GO]; exact hz,its.reverse,0,r.reverse,Ek _ rfl⟩
theorem zt {K:Ee} (he:QE X e te) (hK:X.K=K:=by rfl):QE X (.Subscript e (.Slice none none (some (.UnaryOp .USub (.Constant (.int 1) j p1) p2)) p3) pos) (Cf K te):=by subst hK; exact ⟨zr he.out⟩
end
theorem iK (ns ms:List Int):((Eu (min ns.length ms.length)).all (λ i=>ns.getD i 0 == ms.getD i 0) && ns.length == ms.length)=decide (ns=ms):=by
 rw [Gv,Fy,FO,decide_eq_true_iff,beq_iff_eq]
 constructor
 ·rintro ⟨h,hl⟩
  apply Iz hl
  intro i h1 h2
  have:=h i (by simp; lia)
  simpa [h1,h2] using this
 ·rintro rfl
  exact ⟨λ i _=>by simp,rfl⟩
section
variable {X:Cx}
theorem vz {ns:List Int} (rv:Vals (ns.map ML) its) (h:i<its.toArray.size):∃ t,its.toArray[i]=.int (ns.getD i 0) t:=by
 have hl:=rv.length
 have h':i<ns.length:=by simp at hl h; lia
 obtain ⟨u,e,ru⟩:=rv.get (i:=i) (x:=ML ns[i]) (by simp [h'])
 obtain ⟨t,rfl⟩:=ru
 refine ⟨t,?_⟩
 have e2:its.toArray[i]? = some (.int ns[i] t):=by simpa using e
 have e3:its.toArray[i]=.int ns[i] t:=by
  have:=(Array.getElem?_eq_some_iff.mp e2).2
  exact this
 rw [e3]; simp [h']
theorem ln {A:Around} {s:Shared} {ns:List Int} {its2:List Value} (r1:Vals (ns.map ML) its) (r2:Vals (ms.map ML) its2) (j:Nat) (h1:j<its.toArray.size) (h2:j<its2.toArray.size) :
  Me A s its.toArray[j] its2.toArray[j] (ns.getD j 0 == ms.getD j 0):=by
 obtain ⟨t,e⟩:=vz r1 h1
 obtain ⟨u,e'⟩:=vz r2 h2
 rw [e,e']
 exact JJ _ _ _ _
noncomputable def De (K:Ee):R2:=λ x y H Q=>∃ (a b:Addr) (ns ms:List Int),x=.ref a/\y=.ref b/\SqT K H a (ns.map ML)/\SqT K H b (ms.map ML)/\Q (.bl (decide (ns=ms))) H
theorem zu (hu:X.A.units<cLine):OpR X (compareOp .Eq) (De X.K):=by
 intro pins s σ H x y v u Q I rx ry h
 obtain ⟨a,b,ns,ms,rfl,rfl,ha,hb,q⟩:=h
 cases rx; cases ry
 obtain ⟨its,r1,p1,z1⟩:=I.tuple ha
 obtain ⟨its2,r2,p2,z2⟩:=I.tuple hb
 refine Mu (e:=λ i=>ns.getD i 0 == ms.getD i 0) p1 p2 hu (λ j h1 h2=>ln r1 r2 j h1 h2) X.prog X.w X.xe _ ?_
 have l1:its.toArray.size=ns.length:=by have:=r1.length; simp at this; simp [this]
 have l2:its2.toArray.size=ms.length:=by have:=r2.length; simp at this; simp [this]
 rw [l1,l2,iK]
 exact ⟨.bl _,H,I,rfl,q⟩
theorem wT {K:Ee} (hu:X.A.units<cLine) (hK:X.K=K:=by rfl):QOp X (compareOp .Eq) (De K):=by subst hK; exact ⟨zu hu⟩
end
section
variable {K:Ee} {σ:St} {H:Hp} {Q:VK} {D:Ends}
theorem Df {te:TE} (h:te σ H λ x H1=>∃ a xs,x=.ref a/\SqL K H1 a xs/\∀ p,H1 p=none->Q (.ref p) (upd H1 p (.lst xs.reverse))):Cf K te σ H Q:=h
theorem Cg {tb:TE} (h:ta σ H λ x H1=>tb σ H1 λ y H2=>(λ x y=>∃ v w,[x,y]=[v,w]/\D.nx ((σ.set i (some v)).set j (some w)) H2) x y):Bx i j (oO ta (oO tb AY)) D σ H:=h
theorem wU {x y:V} {R:V->V->Prop} (h:R x y):∃ v w,[x,y]=[v,w]/\R v w:=⟨x,y,rfl,h⟩
theorem DP {r:V->List V->Hp->VK->Prop} {t:TA} {T:String} (h:to σ H λ x H1=>tyV K T x H1/\t σ H1 λ xs H2=>r x xs H2 Q):tBM K T r to t σ H Q:=h
theorem aP {y:V} (s:H l=some (.lst xs)) (z:xs.length<sizeLine) (h:Q .non (upd H l (.lst (xs++[y])))):mI (.ref l) [y] H Q:=⟨l,xs,y,rfl,rfl,s,z,h⟩
theorem bm (h:H l=some (.lst xs)):tyV K "list" (.ref l) H:=.inl ⟨rfl,_,MJ h⟩
theorem Same.tup {H1:Hp} {a:Addr} {xs:List V} (e:Same H H1) (h:SqT K H a xs):SqT K H1 a xs:=by
 rcases h with (h | ⟨o,h⟩) | h
 ·exact .inl (.inl (e _ _ h))
 ·exact .inl (.inr ⟨o,e _ _ h⟩)
 ·exact .inr h
theorem Same.new {o:HO} (e:Same H H1) (h:H1 p=none):Same H (upd H1 p o):=λ b u q=>by rw [aq (ak (e b u q) h)]; exact e b u q
theorem Same.own {o:HO} (e:Same H H1) (h:H p=none):Same H (upd H1 p o):=λ b u q=>by rw [aq (ak q h)]; exact e b u q
end
noncomputable def Nx (n i:Nat) (P:Prop):Prop:=∃ m',m'<n - i/\m'=n - (i+1)/\i+1<=n/\P
theorem Nx.mk {P:Prop} (h:i<n) (p:P):Nx n i P:=⟨n - (i+1),by lia,rfl,h,p⟩
section
variable {K:Ee} {H:Hp} {g:TG} {te:TE} {σ0:St} {R:List V->Hp->Prop}
theorem j4 (Pv:Nat->List V->St->Hp->Prop) (hz:n<sizeLine) (hl:∀ i ys σ H,Pv i ys σ H->ys.length=i) (h0:Pv 0 [] σ0 H)
  (hs:∀ i ys σ H,i<n->Pv i ys σ H->g (.int (0+i)) σ H λ σ2 H2=>te σ2 H2 λ y H3=>Nx n i (Pv (i+1) (ys++[y]) σ2 H3)) (hd:∀ ys σ H,Pv n ys σ H->R ys H) :
  ∃ W:Nat->Nat->List V->St->Hp->Prop,(∃ m,W 0 m [] σ0 H)/\∀ i m xs σc H,W i m xs σc H->xs.length<sizeLine/\
  (((Itr 0 n).stop i H/\R xs H)\/((Itr 0 n).go i H/\∀ x H',(Itr 0 n).yld i H x H'->g x σc H' λ σ2 H2=>te σ2 H2 λ y H3=>∃ m',m'<m/\W (i+1) m' (xs++[y]) σ2 H3)):=by
 refine ⟨λ i m xs σ H=>m=n - i/\i<=n/\Pv i xs σ H,⟨n,by simp,EI _,h0⟩,?_⟩
 rintro i m xs σ H ⟨rfl,hi,p⟩
 refine ⟨by rw [hl i xs σ H p]; exact Fe hi hz,?_⟩
 by_cases hlt:i<n
 ·refine .inr ⟨hlt,λ x H' y=>?_⟩
  obtain ⟨e,y⟩:=y
  subst e y
  exact hs i xs σ _ hlt p
 ·have e:i=n:=by lia
  subst e
  exact .inl ⟨Eh _,hd xs σ H p⟩
theorem gg (Pv:Nat->List V->St->Hp->Prop) (hz:vs.length<sizeLine) (hl:∀ i ys σ H,Pv i ys σ H->ys.length=i) (ht:∀ i ys σ H,Pv i ys σ H->SqT K H a vs) (h0:Pv 0 [] σ0 H)
  (hs:∀ i ys σ H x,vs[i]? = some x->Pv i ys σ H->g x σ H λ σ2 H2=>te σ2 H2 λ y H3=>Nx vs.length i (Pv (i+1) (ys++[y]) σ2 H3)) (hd:∀ ys σ H,Pv vs.length ys σ H->R ys H) :
  ∃ W:Nat->Nat->List V->St->Hp->Prop,(∃ m,W 0 m [] σ0 H)/\∀ i m xs σc H,W i m xs σc H->xs.length<sizeLine/\
  (((Itt K a).stop i H/\R xs H)\/((Itt K a).go i H/\∀ x H',(Itt K a).yld i H x H'->g x σc H' λ σ2 H2=>te σ2 H2 λ y H3=>∃ m',m'<m/\W (i+1) m' (xs++[y]) σ2 H3)):=by
 refine ⟨λ i m xs σ H=>m=vs.length - i/\i<=vs.length/\Pv i xs σ H,⟨vs.length,by simp,EI _,h0⟩,?_⟩
 rintro i m xs σ H ⟨rfl,hi,p⟩
 have q:=ht i xs σ H p
 refine ⟨by rw [hl i xs σ H p]; exact Fe hi hz,?_⟩
 by_cases hlt:i<vs.length
 ·refine .inr ⟨⟨vs,vs[i],q,by simp [hlt]⟩,λ x H' y=>?_⟩
  obtain ⟨e,y⟩:=y
  subst e
  exact hs i xs σ _ x (y vs q) p
 ·have e:i=vs.length:=by lia
  subst e
  exact .inl ⟨⟨vs,q,Eh _⟩,hd xs σ H p⟩
theorem cv (Pv:Nat->List V->St->Hp->Prop) (hz:vs.length<sizeLine) (hl:∀ i ys σ H,Pv i ys σ H->ys.length=i) (ht:∀ i ys σ H,Pv i ys σ H->SqL K H a vs) (h0:Pv 0 [] σ0 H)
  (hs:∀ i ys σ H x,vs[i]? = some x->Pv i ys σ H->g x σ H λ σ2 H2=>te σ2 H2 λ y H3=>Nx vs.length i (Pv (i+1) (ys++[y]) σ2 H3)) (hd:∀ ys σ H,Pv vs.length ys σ H->R ys H) :
  ∃ W:Nat->Nat->List V->St->Hp->Prop,(∃ m,W 0 m [] σ0 H)/\∀ i m xs σc H,W i m xs σc H->xs.length<sizeLine/\
  (((Itl K a).stop i H/\R xs H)\/((Itl K a).go i H/\∀ x H',(Itl K a).yld i H x H'->g x σc H' λ σ2 H2=>te σ2 H2 λ y H3=>∃ m',m'<m/\W (i+1) m' (xs++[y]) σ2 H3)):=by
 refine ⟨λ i m xs σ H=>m=vs.length - i/\i<=vs.length/\Pv i xs σ H,⟨vs.length,by simp,EI _,h0⟩,?_⟩
 rintro i m xs σ H ⟨rfl,hi,p⟩
 have q:=ht i xs σ H p
 refine ⟨by rw [hl i xs σ H p]; exact Fe hi hz,?_⟩
 by_cases hlt:i<vs.length
 ·refine .inr ⟨⟨vs,vs[i],q,by simp [hlt]⟩,λ x H' y=>?_⟩
  obtain ⟨e,y⟩:=y
  subst e
  exact hs i xs σ _ x (y vs q) p
 ·have e:i=vs.length:=by lia
  subst e
  exact .inl ⟨⟨vs,q,Eh _⟩,hd xs σ H p⟩
end
noncomputable def dg (n b m:Nat):List Int:=(Eu m).map λ j=>((n / b ^ (m - 1 - j) % b:Nat):Int)
theorem zw (n b m:Nat):((Eu m).map λ j=>ML ((n / b ^ j % b:Nat):Int)).reverse=(dg n b m).map ML:=by
 unfold dg
 rw [<-List.map_reverse,<-PySem.W.krv_range,E6,E6]
 rfl
section
variable {X:Cx} {N tgs frs:List Str} {ix:List Nat} {scope:Scope} {cl:List (Str×Addr)}
theorem wV {iy:Nat} {te:TE} (hN:X.N.Nodup) (hy:X.N[iy]? = some y) (hx:Loc X.env.scope y) (c:CompOk X N tgs frs ix scope cl) (hc:X.calm=true) (hi:PI X tg iter wi)
  (hg:∀ fp C s H,PG (aw X N scope cl fp C s H) tg g) (he:∀ fp C s H,PE (aw X N scope cl fp C s H) elt te)
  (hs:∀ x,foldedSetIterable iter X.env x=pure x:=by intro _; rfl)
  (hsw:swapsWith (.ListComp elt [⟨tg,iter,[],0⟩] scope pos) (some (.Name y py)) spos.line X.env=pure true:=by rfl)
  (hf:X.fn y=true\/X.env.scope.names.lookup y=some .local:=by first | exact .inl rfl | exact .inr rfl | assumption) :
  PS X (.Assign [.Name y py] (.ListComp elt [⟨tg,iter,[],0⟩] scope pos) spos) (pD (mL wi g te tgs ix) (fq iy)):=by
 intro pins s σ H Dn I h
 rw [exec_Assign_Name_used _ _ _ _ hsw]
 refine wpAny_bind (wpAny_standAt (wpAny_bind ?_))
 show wpAny _ X.A (do let _ <-comprehension (.ListComp elt [⟨tg,iter,[],0⟩] scope pos) scope X.env _ (newList []) false (eval iter X.env) (some (assign (.Name y py) X.env))) _ _ s
 refine wpAny_bind (wpAny_mono (wpAny_comprehension_free (use:=some (assign (.Name y py) X.env)) (Q:=λ _ s'=>SP X pins Dn .next s') rfl hs c.clos c.kind c.names (thn (hi pins s σ H _ I h) λ xv s1 h1=>thn h1 λ itv s2 h2=>?_)) (λ _ s' hq=>wpAny_pure (wpAny_pure hq)) λ _ _ e=>e)
 obtain ⟨it,fp,tn,J,H2,rfl,I2,T,st2,f2,W,⟨m0,w0⟩,turn⟩:=h2
 have hfl:∀ b∈fp,b<s2.heap.objs.size:=λ b hb=>by
  obtain ⟨o,e,_⟩:=T.obj _ _ st2 b hb
  exact Ei e
 have hcn:∀ x a,cl.lookup x=some a->X.env.cells.lookup x=some a:=c.cls.get
 refine wpAny_newObj_type (wpAny_newFunctionEnv c.cell (by intro y hy; simp at hy) (λ h1 hns1 hsb1=>?_) c.kind)
 dsimp only at hns1 hsb1 ⊢
 generalize hH2:s2.heap.push { cls:=.type "list",dict:=none,data:=.seq ([]:List Value).toArray }=G2 at hns1 hsb1 ⊢
 have hC:G2.objs.size=s2.heap.objs.size+1:=by rw [<-hH2,Fg]
 generalize hCC:G2.objs.size=C at *
 generalize hDD:s2.heap.objs.size=D at *
 have hDC:D≠C:=by lia
 have hCle:D<=C:=by lia
 have old:∀ b o,s2.heap.get? b=some o->h1.get? b=some o:=λ b o e=>by
  have lt:b<s2.heap.objs.size:=Ei e
  exact hsb1.extBut b o (Eo (Ez (hDD▸lt) hCle)) (Ec _ (hH2▸Ec _ e))
 have hacc:h1.get? D=some (ax [] 0):=hsb1.extBut _ _ hDC (Ec _ (hH2▸(hDD▸Ek _ rfl)))
 have cellD:∀ x a,X.env.cells.lookup x=some a->a<D:=λ x a e=>by
  obtain ⟨v,q⟩:=I2.cell x a e
  exact hDD▸q.lt
 have fpc:∀ {H':Hp} {us:List Value} {k:Nat},(∀ b∈fp,H' b=none)->∀ b∈fp,mt (aw X N scope cl fp C s2 H2) [(D,ax us k)] H' b:=λ {H' us k} hn b hb=>by
  have lb:=hfl b hb
  refine ⟨hn b hb,?_,λ z=>?_,.inl hb,λ x a e z=>?_,λ p hp=>?_⟩
  ·exact Eo (Ez lb hCle)
  ·rcases Er.mp (I2.stkSub b z) with e | e
   ·exact (f2 b hb).2.1 e
   ·exact (f2 b hb).2.2.1 e
  ·exact (f2 b hb).2.2.2.2.1 x a (hcn x a e) z
  ·have:p=(D,ax us k):=by simpa [aw] using hp
   rw [this]; exact ES lb
 have D_fs:D∉(aw X N scope cl fp C s2 H2).fs:=λ z=>by
  rcases Er.mp (I2.stkSub D z) with e | e
  ·exact absurd I2.lt (by rw [<-e,hDD]; exact E7 _)
  ·exact I2.nofs (Fc hDD) e
 have I3:=io (tk:=s2.toks+([]:List (Str×Value)).length) (pins':=[(D,ax [] 0)]) c I2 f2 (λ b hb=>hDD▸hfl b hb) (hDD▸hCle:s2.heap.objs.size<=C) hns1 old (λ p hp=>by
  have e:p=(D,ax [] 0):=by simpa using hp
  subst e
  exact ⟨hacc,Fc hDD,hDC,λ v z=>by cases z⟩)
 have tn3:tn 0 h1:=T.keep _ _ _ st2 λ b _ o e=>old b o e
 have loop:codeAny (model X.prog X.w) X.A (.compLoop (.ListComp elt [⟨tg,iter,[],0⟩] scope pos) 0 (.ref it) (.ref D) (compEnvC scope cl C X.env))
   (compPost (model X.prog X.w) X.A X.xe (some (assign (.Name y py) X.env)) (λ _ s'=>SP X pins Dn .next s') (.ref D) C) { s2 with heap:=h1,toks:=s2.toks+([]:List (Str×Value)).length }:=by
  refine eJ (λ n s'=>∃ i xs us k σc H',Inv (aw X N scope cl fp C s2 H2) [(D,ax us k)] σc H' s'/\tn i s'.heap/\(∀ b∈fp,H' b=none)/\Vals xs us/\W i n xs σc H') ?_ m0
   ⟨0,[],[],0,_,H2,I3,tn3,λ b hb=>(f2 b hb).1,.nil,w0⟩
  rintro n s4 ⟨i,xs,us,k,σ4,H4,I4,tn4,fr4,rv,w4⟩
  obtain ⟨hsz,tt⟩:=turn i n xs σ4 H4 w4
  rcases tt with ⟨stop,fin⟩ | ⟨go,step⟩
  ·refine thn (T.done (aw X N scope cl fp C s2 H2) rfl rfl rfl hc i _ s4 σ4 H4 _ I4 (fpc fr4) tn4 stop) λ r s5 ⟨hr,I5⟩=>?_
   subst hr
   obtain ⟨m,ns,_⟩:=I5.loc
   have J1:Inv X pins σ H4 s5:=I2.call' I5.os I5.base I5.hok I5.bare λ b hb=>⟨(f2 b hb).2.2.2.1,(f2 b hb).2.1,(f2 b hb).2.2.2.2.1,(f2 b hb).2.2.2.2.2⟩
   have big:∀ a,D<=a->a≠X.env.locals/\(a∈X.ex\/X.s₀.heap.objs.size<=a)/\(∀ x y,X.env.cells.lookup x=some y->y≠a)/\∀ p∈X.pn++pins,p.1≠a:=λ a ha=>by
    obtain ⟨q0,q1,q2,q3,q4,q5⟩:=I2.fpOk (b:=a) (H':=λ _=>none) (hDD▸ha) rfl
    exact ⟨q1,q3,q4,q5⟩
   have nfs:∀ a,D<=a->a∉X.fs:=λ a ha=>I2.nofs (hDD▸ha)
   obtain ⟨b1,b2,b3,b4⟩:=big C hCle
   obtain ⟨p1,p2,p3,p4,p5⟩:=I5.pin (D,ax us k) (by simp)
   obtain ⟨d1,d2,d3,d4⟩:=big D (Eh _)
   have J3:Inv X pins σ (upd H4 D (.lst xs)) s5:=J1.adopt p2 d1 d2 d3 d4 ⟨E5 hsz,us,k,rv,p1⟩
   obtain ⟨oC,esC,epC,hoC,hdC,rC⟩:=id ns
   have hHC:(upd H4 D (.lst xs)) C=none:=by rw [aq (Ff hDC)]; exact I5.free
   have J4:Inv X (pins++[(C,oC)]) σ (upd H4 D (.lst xs)) s5:=J3.pins_of λ p hp=>by
    rcases EX.mp hp with z | z
    ·exact J3.pin p (Eg _ z)
    ·have e:p=(C,oC):=by simpa using z
     subst e
     exact ⟨hoC,hHC,b1,nfs C hCle,λ v z=>by rw [hdC] at z; cases z⟩
   show wpAny _ X.A (assign (.Name y py) X.env (.ref D)) _ _ s5
   refine wpAny_assign_Name (cT J4 hN hy hx (v:=.ref D) rfl (λ s6 J5=>?_) hf)
   have hC6:=(J5.pin (C,oC) (Eg _ (Eg _ (by simp)))).1
   refine ⟨m,⟨oC,esC,epC,hC6,hdC,rC⟩,λ h' sb=>?_⟩
   have J6:Inv X pins (σ.set iy (some (.ref D))) (upd H4 D (.lst xs)) s6:=J5.unpinned
   have J7:Inv X pins (σ.set iy (some (.ref D))) (upd H4 D (.lst xs)) { s6 with heap:=h' }:=J6.turned (t':=s6.toks) (λ b o hb e=>sb.extBut b o hb e) hHC b1 b2 b3 b4
   exact ⟨_,_,J7,fin D p2⟩
  ·refine thn (T.item (aw X N scope cl fp C s2 H2) rfl rfl rfl hc i _ s4 σ4 H4 _ I4 (fpc fr4) tn4 go) λ r s5 ⟨u,hr,h5⟩=>?_
   subst hr
   refine thn h5 λ _ s6 ⟨x,H6,I6,r6,y6,tn6,fr6⟩=>?_
   have I6':=I6.pinned (fpc fr6) (T.obj _ _ tn6)
   refine thn (hg fp C s2 H2 _ s6 σ4 H6 x u _ I6' r6 (step x H6 y6)) λ _ s7 ⟨σ7,H7,I7,q7⟩=>?_
   refine thn (he fp C s2 H2 _ s7 σ7 H7 _ I7 q7) λ yv s8 ⟨y,H8,I8,r8,m',hm,w8⟩=>?_
   obtain ⟨p1,p2,p3,p4,p5⟩:=I8.pin (D,ax us k) (by simp [aw])
   have hsz':us.toArray.size<=sizeLine:=by simp; rw [<-rv.length]; exact E5 hsz
   refine wpAny_list_append_plain (hsz:=hsz') ⟨k,p1⟩ λ h' pl sb=>?_
   have tn8:tn (i+1) s8.heap:=T.keep _ _ _ tn6 λ b hb o e=>(I8.pin (b,o) (Eg _ (Eg _ (aD hb e)))).1
   have fr8:∀ b∈fp,H8 b=none:=λ b hb=>by
    obtain ⟨o,e,d⟩:=T.obj _ _ tn6 b hb
    exact (I8.pin (b,o) (Eg _ (Eg _ (aD hb e)))).2.1
   have I9:Inv (aw X N scope cl fp C s2 H2) [] σ7 H8 s8:=I8.pins_of λ p hp=>nomatch hp
   have I10:Inv (aw X N scope cl fp C s2 H2) [] σ7 H8 { s8 with heap:=h' }:=I9.turned (t':=s8.toks) (it:=D) (λ b o hb e=>sb.extBut b o hb e) p2 p3 (.inr (Fc hDD))
    (λ x a e=>Eo (cellD x a (hcn x a e))) (λ p hp=>by simp [aw] at hp)
   obtain ⟨k',pl⟩:=pl
   have eu:us.toArray.push yv=(us++[yv]).toArray:=by simp
   rw [eu] at pl
   have I11:Inv (aw X N scope cl fp C s2 H2) [(D,ax (us++[yv]) k')] σ7 H8 { s8 with heap:=h' }:=I10.pins_of λ p hp=>by
    have e:p=(D,ax (us++[yv]) k'):=by simpa using hp
    subst e
    exact ⟨pl,p2,p3,p4,λ v z=>by cases z⟩
   exact ⟨m',hm,i+1,xs++[y],us++[yv],k',σ7,H8,I11,T.keep _ _ _ tn8 λ b hb o e=>sb.extBut b o (Eo (hfl b hb)) e,fr8,rv.append (.cons r8 .nil),w8⟩
 exact codeAny_compStart_list loop (T.self _ 0 _ _ _ tn3 loop)
end
section
variable {X:Cx} {N tgs frs:List Str} {ix:List Nat} {scope:Scope} {cl:List (Str×Addr)}
theorem qp {te:TE} (hN:X.N.Nodup) (hy:X.N[i]? = some y) (hx:Loc X.env.scope y) (c:CompOk X N tgs frs ix scope cl) (hc:X.calm=true) (hi:QI X tg iter wi)
  (hg:∀ fp C s H,QG (aw X N scope cl fp C s H) tg g) (he:∀ fp C s H,QE (aw X N scope cl fp C s H) elt te)
  (hs:∀ x,foldedSetIterable iter X.env x=pure x:=by intro _; rfl)
  (hsw:swapsWith (.ListComp elt [⟨tg,iter,[],0⟩] scope pos) (some (.Name y py)) spos.line X.env=pure true:=by rfl)
  (hf:X.fn y=true\/X.env.scope.names.lookup y=some .local:=by first | exact .inl rfl | exact .inr rfl | assumption) :
  QS X (.Assign [.Name y py] (.ListComp elt [⟨tg,iter,[],0⟩] scope pos) spos) (pD (mL wi g te tgs ix) (fq i)):=
 ⟨wV hN hy hx c hc hi.out (λ fp C s H=>(hg fp C s H).out) (λ fp C s H=>(he fp C s H).out) hs hsw hf⟩
end
section
variable {prog:Program} {w:World} {A:Around} {E:Value->Shared->Prop} {s:Shared}
end
section
variable {X:Cx} {pos:Pos} {u:TGs}
end
noncomputable def fH (bs:List Nat):Nat:=bs.foldl GN 1
theorem nL (m n:Nat):m / Gn m n*n=GN m n:=by
 rw [GN,Nat.div_mul_right_comm (Ks m n)]
theorem nM:∀ (bs:List Nat) (a m:Nat),a∣m->(∀ b∈bs,b∣m)->bs.foldl GN a∣m
 | [],a,m,h,_=>h
 | b::bs,a,m,h,hb=>nM bs _ m (Nat.lcm_dvd h (hb b (by simp))) λ c hc=>hb c (by simp [hc])
theorem nN:∀ (bs:List Nat) (a:Nat),a∣bs.foldl GN a/\∀ b∈bs,b∣bs.foldl GN a
 | [],a=>⟨Nat.dvd_refl a,λ _ h=>nomatch h⟩
 | b::bs,a=>by
  obtain ⟨h1,h2⟩:=nN bs (GN a b)
  refine ⟨Lc (Nat.dvd_lcm_left a b) h1,λ c hc=>?_⟩
  rcases Er.mp hc with rfl | hc
  ·exact Lc (Nat.dvd_lcm_right a c) h1
  ·exact h2 c hc
theorem tY {bs:List Nat} (h:∀ b∈bs,b∣m):fH bs∣m:=nM bs 1 m (Nat.one_dvd m) h
theorem nO {bs:List Nat} (h:b∈bs):b∣fH bs:=(nN bs 1).2 b h
theorem nP {bs:List Nat} (h:∀ b∈bs,1<=b/\b<=60):0<fH bs:=by
 have:∀ (bs:List Nat) (a:Nat),0<a->(∀ b∈bs,1<=b/\b<=60)->0<bs.foldl GN a:=by
  intro bs
  induction bs with
  | nil=>intro a ha _; exact ha
  | cons b bs ih=>intro a ha hb; exact ih _ (Nat.lcm_pos ha (by have:=(hb b (by simp)).1; lia)) λ c hc=>hb c (by simp [hc])
 exact this bs 1 (by decide) h
theorem lp (bs:List Nat) (i:Nat) (b:Nat) (h:bs[i]? = some b):fH (bs.take (i+1))=GN (fH (bs.take i)) b:=by
 have et:bs.take (i+1)=bs.take i++[b]:=by rw [EC,h]; rfl
 unfold fH
 rw [et,J8]; rfl
noncomputable def yt:Nat:=2 ^ 5*(3 ^ 3*(5 ^ 2*(7 ^ 2*(11 ^ 1*(13 ^ 1*(17 ^ 1*(19 ^ 1*(23 ^ 1*(29 ^ 1*(31 ^ 1*(37 ^ 1*(41 ^ 1*(43 ^ 1*(47 ^ 1*(53 ^ 1*(59 ^ 1*1))))))))))))))))
theorem qq:∀ b,b<=60->1<=b->b∣yt:=by
 have key:∀ b:_root_.Fin 61,1<=b.val->yt % b.val=0:=by decide +kernel
 intro b h1 h2
 exact Nat.dvd_of_mod_eq_zero (key ⟨b,by lia⟩ h2)
theorem zx {bs:List Nat} (hb:∀ b∈bs,1<=b/\b<=60):fH bs∣yt:=tY λ b h=>qq b (hb b h).2 (hb b h).1
theorem nQ {g l:Nat} (h:0<l):Gn l (g % l)=Gn g l:=by
 rw [LQ g l,Nat.gcd_rec l g,LQ]
noncomputable def PartsT (H:Hp) (ps:List Addr) (tb:List (Int×Nat)):Prop:=ps.length=tb.length/\∀ (i:Nat) (p:Addr) (z:Int×Nat),ps[i]? = some p->tb[i]? = some z->H p=some (.tup [.int z.1,.int z.2])
theorem PartsT.same {H:Hp} {ps:List Addr} {tb:List (Int×Nat)} (h:PartsT H ps tb) (e:Same H H1):PartsT H1 ps tb:=⟨h.1,λ i p z a b=>e _ _ (h.2 i p z a b)⟩
theorem aL {α:Type} {xs:List α} {x:α} {y:α} (h:(xs++[x])[i]? = some y):(i<xs.length/\xs[i]? = some y)\/(i=xs.length/\y=x):=by
 rcases Hg i xs.length with l | l | l
 ·rw [E2 l] at h; exact .inl ⟨l,h⟩
 ·subst l; simp at h; exact .inr ⟨rfl,h.symm⟩
 ·rw [Ge (by simp; lia)] at h; cases h
section
variable {X:Cx} {pins:List (Addr×Obj)} {σ:St} {H:Hp} {s:Shared} {h':Heap}
theorem Inv.turnedAll (I:Inv X pins σ H s) (k:∀ b o,b∉ch->s.heap.get? b=some o->h'.get? b=some o) (hf:∀ b∈ch,mt X pins H b):Inv X pins σ H { s with heap:=h',toks:=t' }:=by
 have nit:∀ b u,H b=some u->b∉ch:=λ b u e z=>by rw [(hf b z).1] at e; cases e
 refine I.step (g':=s.gens) (d':=s.drawn) (ch:=ch) (λ b hb=>?_) (λ b o _ _ hc e _=>k b o hc e) (λ b o _ _ hc e _=>⟨o.slots,k b o hc e⟩) (λ _ _ _ _ n=>n)
  (λ b o hc e=>⟨o,k b o hc e⟩) (λ _ _ e=>e) (λ _ _ _ e=>e) (λ b ps e=>⟨#[],by rw [e]; simp⟩) (λ m hm=>?_) (λ b u e=>?_) I.bare
 ·obtain ⟨_,f1,_,f3,f4,f5⟩:=hf b hb
  exact ⟨f3,f1,f4,f5⟩
 ·obtain ⟨o,es,ep,q,r⟩:=hm
  exact ⟨o,es,ep,k _ o (λ z=>(hf _ z).2.1 rfl) q,r⟩
 ·refine (I.hok b u e).stay (λ c v hc q=>k c v ?_ q) (λ _ q=>q) λ _ _ q=>q
  rcases hc with z | z
  ·rw [z]; exact nit b u e
  ·exact nit c _ z
end
section
variable {X:Cx}
noncomputable def zy (K:Ee):RC:=λ xs H Q=>∃ (p:Addr) (ns:List Int),xs=[.ref p]/\(SqL K H p (ns.map ML)\/SqT K H p (ns.map ML))/\ns≠[]/\∀ M,M∈ns->(∀ a∈ns,M<=a)->Q (.int M) H
noncomputable def zz (K:Ee):RC:=λ xs H Q=>∃ (p:Addr) (ns:List Int),xs=[.ref p]/\(SqL K H p (ns.map ML)\/SqT K H p (ns.map ML))/\ns≠[]/\∀ M,M∈ns->(∀ a∈ns,a<=M)->Q (.int M) H
theorem fh {zs:Array (Int×Tok)} {ns:List Int} (hn:zs.toList.map (·.1)=ns) (i:Nat):numAt zs i=ns.getD i 0:=by
 subst hn
 unfold numAt
 rw [Ej,El,Ht]
theorem nR {zs:Array (Int×Tok)} {ns:List Int} (hn:zs.toList.map (·.1)=ns) (h0:ns≠[]):let M:=numAt zs (argBest (λ i j=>decide (numAt zs i<numAt zs j)) (zs.size - 1)); M∈ns/\∀ a∈ns,M<=a:=by
 have hz:ns.length=zs.size:=by rw [<-hn]; simp
 have hp:0<ns.length:=Ft.mpr h0
 obtain ⟨b1,b2⟩:=argBest_lt (numAt zs) (zs.size - 1)
 refine ⟨?_,λ a ha=>?_⟩
 ·rw [fh hn,Ej,Ef (by lia)]
  exact EQ _
 ·obtain ⟨j,hj,rfl⟩:=Gk.mp ha
  have:=b2 j (by lia)
  rw [fh hn j,Ej,Ef hj] at this
  exact this
theorem nT {zs:Array (Int×Tok)} {ns:List Int} (hn:zs.toList.map (·.1)=ns) (h0:ns≠[]):let M:=numAt zs (argBest (λ i j=>decide (numAt zs i > numAt zs j)) (zs.size - 1)); M∈ns/\∀ a∈ns,a<=M:=by
 have hz:ns.length=zs.size:=by rw [<-hn]; simp
 have hp:0<ns.length:=Ft.mpr h0
 obtain ⟨b1,b2⟩:=argBest_gt (numAt zs) (zs.size - 1)
 refine ⟨?_,λ a ha=>?_⟩
 ·rw [fh hn,Ej,Ef (by lia)]
  exact EQ _
 ·obtain ⟨j,hj,rfl⟩:=Gk.mp ha
  have:=b2 j (by lia)
  rw [fh hn j,Ej,Ef hj] at this
  exact this
theorem fi {ns:List Int} (rv:Vals (ns.map ML) its):∃ zs:Array (Int×Tok),its.toArray=intItems zs/\zs.toList.map (·.1)=ns:=by
 have hi:IntsAre its ns:=bR rv
 obtain ⟨zs,hx⟩:=hi.allInts.items
 have hn:numsOf its.toArray.toList=ns:=by rw [show its.toArray.toList=its from rfl,hi.numsOf]
 rw [hx,nums_intItems] at hn
 exact ⟨zs,hx,hn⟩
theorem lq {t:Addr} (ht:h.IsTuple t items):∀ b∈[h.objs.size,t],b<(h.push { cls:=.type "tuple_iterator",data:=.fields #[.ref t,.int 0 0] }).objs.size:=by
 intro b hb
 rw [Fg]
 obtain ⟨_,e,_⟩:=ht
 simp only [Er,ER,or_false] at hb
 rcases hb with rfl | rfl
 ·exact IA _
 ·exact FV (Ei e)
theorem nU {g:Heap} (hk:∀ b u,b∉[h.objs.size]->(h.push o).get? b=some u->g.get? b=some u):∀ b u,h.get? b=some u->g.get? b=some u:=λ b u e=>by
 refine hk b u ?_ (Ec _ e)
 intro hm
 have e2:b=h.objs.size:=by simpa using hm
 exact absurd (e2▸Ei e) (E7 _)
theorem qr {K:Ee} (hc:X.calm=true) (hK:X.K=K:=by rfl):QC X (.builtin "min") (zy K):=by
 subst hK
 refine ⟨λ pins s σ H xs us Q I r h=>?_⟩
 obtain ⟨p,ns,rfl,hq,h0,q⟩:=h
 obtain ⟨u,rfl,ru⟩:=ft r
 cases ru
 rcases hq with hq | hq
 ·obtain ⟨its,rv,hp,hz⟩:=I.list hq
  obtain ⟨zs,hx,hn⟩:=fi rv
  have hl:=hp.isList
  rw [hx] at hl
  obtain ⟨m1,m2⟩:=nR hn h0
  refine min_intList (I.ok.hd hc) hl ?_ λ v h' tk hv hk=>?_
  ·have:zs.toList.length=ns.length:=by rw [<-hn]; simp
   have:=Ft.mpr h0
   simp at *; lia
  ·obtain ⟨t,rfl⟩:=intItems_at hv
   exact ⟨.int _,H,I.kept hk,⟨t,rfl⟩,q _ m1 m2⟩
 ·obtain ⟨its,rv,hp,hz⟩:=I.tuple hq
  obtain ⟨zs,hx,hn⟩:=fi rv
  have ht:s.heap.IsTuple p (intItems zs):=by rw [<-hx]; exact hp
  have hlt:p<s.heap.objs.size:=by obtain ⟨_,e,_⟩:=ht; exact Ei e
  obtain ⟨m1,m2⟩:=nR hn h0
  refine call_min_walk (wpAny_pyIter_tuple ht ?_)
  refine ⟨_,_,_,_,_,_,_,rfl,L6 (A:=X.A.in1) (I.ok.hd hc) _ p (Eo hlt) (intItems zs),⟨⟨_,Ek _ rfl,rfl,rfl⟩,ht.push _⟩,lq ht,?_,CmpOf.ints_lt (numAt zs) (λ _ _=>intItems_at),λ v h' tk hv hk=>?_⟩
  ·have:zs.toList.length=ns.length:=by rw [<-hn]; simp
   have:=Ft.mpr h0
   simp [intItems] at *; lia
  ·have hv':(intItems zs)[argBest (λ i j=>decide (numAt zs i<numAt zs j)) (zs.size - 1)]? = some v:=by simpa [intItems] using hv
   obtain ⟨t,rfl⟩:=intItems_at hv'
   exact ⟨.int _,H,I.kept (nU hk),⟨t,rfl⟩,q _ m1 m2⟩
theorem qu {K:Ee} (hc:X.calm=true) (hK:X.K=K:=by rfl):QC X (.builtin "max") (zz K):=by
 subst hK
 refine ⟨λ pins s σ H xs us Q I r h=>?_⟩
 obtain ⟨p,ns,rfl,hq,h0,q⟩:=h
 obtain ⟨u,rfl,ru⟩:=ft r
 cases ru
 rcases hq with hq | hq
 ·obtain ⟨its,rv,hp,hz⟩:=I.list hq
  obtain ⟨zs,hx,hn⟩:=fi rv
  have hl:=hp.isList
  rw [hx] at hl
  obtain ⟨m1,m2⟩:=nT hn h0
  refine max_intList (I.ok.hd hc) hl ?_ λ v h' tk hv hk=>?_
  ·have:zs.toList.length=ns.length:=by rw [<-hn]; simp
   have:=Ft.mpr h0
   simp at *; lia
  ·obtain ⟨t,rfl⟩:=intItems_at hv
   exact ⟨.int _,H,I.kept hk,⟨t,rfl⟩,q _ m1 m2⟩
 ·obtain ⟨its,rv,hp,hz⟩:=I.tuple hq
  obtain ⟨zs,hx,hn⟩:=fi rv
  have ht:s.heap.IsTuple p (intItems zs):=by rw [<-hx]; exact hp
  have hlt:p<s.heap.objs.size:=by obtain ⟨_,e,_⟩:=ht; exact Ei e
  obtain ⟨m1,m2⟩:=nT hn h0
  refine call_max_walk (wpAny_pyIter_tuple ht ?_)
  refine ⟨_,_,_,_,_,_,_,rfl,L6 (A:=X.A.in1) (I.ok.hd hc) _ p (Eo hlt) (intItems zs),⟨⟨_,Ek _ rfl,rfl,rfl⟩,ht.push _⟩,lq ht,?_,Ld (numAt zs) (λ _ _=>intItems_at),λ v h' tk hv hk=>?_⟩
  ·have:zs.toList.length=ns.length:=by rw [<-hn]; simp
   have:=Ft.mpr h0
   simp [intItems] at *; lia
  ·have hv':(intItems zs)[argBest (λ i j=>decide (numAt zs i > numAt zs j)) (zs.size - 1)]? = some v:=by simpa [intItems] using hv
   obtain ⟨t,rfl⟩:=intItems_at hv'
   exact ⟨.int _,H,I.kept (nU hk),⟨t,rfl⟩,q _ m1 m2⟩
noncomputable def DQ (K:Ee):R2:=λ x y H Q=>∃ (a b:Addr) (ns ms:List Int),x=.ref a/\y=.ref b/\SqL K H a (ns.map ML)/\SqL K H b (ms.map ML)/\Q (.bl (decide (ns=ms))) H
theorem tZ {ns:List Int} (hl:ns.length=ms.length):(Eu ns.length).all (λ i=>ns.getD i 0 == ms.getD i 0)=decide (ns=ms):=by
 have:=iK ns ms
 rw [hl,Nat.min_self,beq_self_eq_true,Bool.and_true] at this
 rw [hl]; exact this
theorem wW {K:Ee} (hu:X.A.units<cLine) (hK:X.K=K:=by rfl):QOp X (compareOp .Eq) (DQ K):=by
 subst hK
 refine ⟨λ pins s σ H x y v u Q I rx ry h=>?_⟩
 obtain ⟨a,b,ns,ms,rfl,rfl,ha,hb,q⟩:=h
 cases rx; cases ry
 obtain ⟨its,r1,p1,z1⟩:=I.list ha
 obtain ⟨its2,r2,p2,z2⟩:=I.list hb
 have l1:its.toArray.size=ns.length:=by have:=r1.length; simp at this; simp [this]
 have l2:its2.toArray.size=ms.length:=by have:=r2.length; simp at this; simp [this]
 by_cases hl:ns.length=ms.length
 ·refine MB (e:=λ i=>ns.getD i 0 == ms.getD i 0) p1.isList p2.isList (by lia) hu (λ j h1 h2=>ln r1 r2 j h1 h2) X.prog X.w X.xe _ ?_
  rw [l1,tZ hl]
  exact ⟨.bl _,H,I,rfl,q⟩
 ·refine LR p1.isList p2.isList (by rw [l1,l2]; simpa using hl) hu X.prog X.w X.xe _ ?_
  have e:decide (ns=ms)=false:=decide_eq_false λ z=>hl (by rw [z])
  rw [e] at q
  exact ⟨.bl false,H,I,rfl,q⟩
end
section
variable {K:Ee} {H:Hp} {Q:VK}
theorem qw {ns:List Int} (hs:SqL K H p (ns.map ML)\/SqT K H p (ns.map ML)) (h0:ns≠[]) (h:∀ M,M∈ns->(∀ a∈ns,M<=a)->Q (.int M) H):zy K [.ref p] H Q:=⟨p,ns,rfl,hs,h0,h⟩
theorem qx {ns:List Int} (hs:SqL K H p (ns.map ML)\/SqT K H p (ns.map ML)) (h0:ns≠[]) (h:∀ M,M∈ns->(∀ a∈ns,a<=M)->Q (.int M) H):zz K [.ref p] H Q:=⟨p,ns,rfl,hs,h0,h⟩
end
section
variable {prog:Program} {w:World} {A:Around} {E:Value->Shared->Prop} {s:Shared}
theorem jG {t:Addr} {vs:Array Value} {x:Value} (a1:s.heap.IsTupleIter it t i) (a2:s.heap.IsTuple t vs) (a3:vs[i]? = some x)
  (a4:∀ g,g.IsTupleIter it t (i+1)->FT it s.heap g->Q x { s with heap:=g }):wpAny (model prog w) A (Fp (.ref it)) Q E s:=by
 have ty:=a1.typeIs
 obtain ⟨u,e1,e2,e3⟩:=a1
 obtain ⟨v,f1,_,m,f3⟩:=a2
 unfold Fp
 refine wpAny_bind (wpAny_callSpecial?_slot (name:=E1 "__next__") ty Gg (wpAny_call_entry Gg ty HQ ?_ (HI _)))
 show wpAny _ _ (GA (.ref it) 0 >>= _) _ _ s
 refine wpAny_bind (wpAny_field e1 e3 (x:=.ref t) rfl ?_)
 show wpAny _ _ (ite ((EG t == E3)=true) _ _) _ _ s
 rw [if_neg (λ z:(EG t == E3)=true=>EF z)]
 show wpAny _ _ (GA (.ref it) 1 >>= _) _ _ s
 refine wpAny_bind (wpAny_field e1 e3 (x:=.int i 0) rfl ?_)
 show wpAny _ _ (KM (.ref t) >>= _) _ _ s
 refine wpAny_bind (wpAny_seqItems f1 f3 ?_)
 simp only [a3,FL]
 refine wpAny_bind (wpAny_setField e1 e3 (by simp) (wpAny_pure ⟨x,rfl,wpAny_pure (a4 _ ?_ (HG ..))⟩))
 refine ⟨_,FQ _ e1 (Obj.isFreed_of_fields (JP e3 _)),(Obj.cls_mapFields ..).trans e2,?_⟩
 rw [JP e3]
 simp [rawInt]
theorem qy {t:Addr} {vs:Array Value} (hh:A.handled=none) (a1:s.heap.IsTupleIter it t i) (a2:s.heap.IsTuple t vs) (a3:vs[i]? = none)
  (a4:∀ g e,L7 it s.heap g->(∃ o,g.get? e=some o/\o.cls=.type "StopIteration")->E (.ref e) { s with heap:=g }):wpAny (model prog w) A (Fp (.ref it)) Q E s:=by
 have ty:=a1.typeIs
 obtain ⟨u,e1,e2,e3⟩:=a1
 obtain ⟨v,f1,_,m,f3⟩:=a2
 unfold Fp
 refine wpAny_bind (wpAny_callSpecial?_slot (name:=E1 "__next__") ty Gg (wpAny_call_entry Gg ty HQ ?_ (HI _)))
 show wpAny _ _ (GA (.ref it) 0 >>= _) _ _ s
 refine wpAny_bind (wpAny_field e1 e3 (x:=.ref t) rfl ?_)
 show wpAny _ _ (ite ((EG t == E3)=true) _ _) _ _ s
 rw [if_neg (λ z:(EG t == E3)=true=>EF z)]
 show wpAny _ _ (GA (.ref it) 1 >>= _) _ _ s
 refine wpAny_bind (wpAny_field e1 e3 (x:=.int i 0) rfl ?_)
 show wpAny _ _ (KM (.ref t) >>= _) _ _ s
 refine wpAny_bind (wpAny_seqItems f1 f3 ?_)
 simp only [a3,FL]
 refine wpAny_bind (wpAny_rule (wpAny_bind (wpAny_setField e1 e3 (by simp) ?_)))
 show wpAny _ _ (PySem.newExc (.type "StopIteration") [] >>= _) _ _ _
 refine wpAny_bind ?_
 simp only [newTuple,newExc]
 refine wpAny_bind (wpAny_newObj_type ?_ (by size_fits))
 refine wpAny_bind (m:=PySem.firstArgMember _ _) (wpAny_of_eq (a:=E3) (by first | rfl | (simp only [firstArgMember]; rfl)) ?_)
 refine wpAny_newObj_type ?_ (by size_fits)
 simp only [raiseNew]
 refine wpAny_bind (wpAny_handled ?_)
 first
  | rw [show A.in1.handled=none from hh]
  | rw [hh]
 refine wpAny_bind (wpAny_pure (wpAny_throw ?_))
 exact a4 _ _ (((HG ..).extBut.push _).push _) ⟨_,Ek _ rfl,rfl⟩
end
noncomputable def Ch (K:Ee) (a:Addr):It:=
 ⟨λ i H=>∃ xs x,SqL K H a xs/\xs[i]? = some x,λ i H v H'=>∃ p x,v=.ref p/\H p=none/\H'=upd H p (.tup [.int i,x])/\∀ xs,SqL K H a xs->xs[i]? = some x,λ i H=>∃ xs,SqL K H a xs/\xs.length=i⟩
theorem iL {b:Addr} {u:Obj} {x y:String} (e1:h.get? a=some o) (c1:o.cls=.type x) (e2:h.get? b=some u) (c2:u.cls=.type y) (hn:x≠y):a≠b:=λ z=>by
 subst z
 rw [e1] at e2
 cases e2
 rw [c1] at c2
 exact hn (by injection c2)
theorem Inv.pair {H:Hp} {s:Shared} {g:Heap} {v:Value} {x y:V} (I:Inv X pins σ H s) (k:∀ b o,b∉ch->s.heap.get? b=some o->g.get? b=some o) (hf:∀ b∈ch,mt X pins H b)
  (hg:g.get? s.heap.objs.size=some { cls:=.type "tuple",data:=.seq #[u,v] }) (rx:RelV x u) (ry:RelV y v):Inv X pins σ (upd H s.heap.objs.size (.tup [x,y])) { s with heap:=g,toks:=tk }/\H s.heap.objs.size=none:=by
 have I1:Inv X pins σ H { s with heap:=g,toks:=tk }:=I.turnedAll k hf
 have hn:H s.heap.objs.size=none:=I.hok.fresh (Eh _)
 obtain ⟨_,f1,f2,f3,f4,f5⟩:=I.fpOk (Eh _) hn
 refine ⟨I1.adopt hn f1 f3 f4 f5 ?_,hn⟩
 exact ⟨by show 2<=sizeLine; decide,[u,v],.cons rx (.cons ry .nil),⟨_,hg,rfl,_,rfl⟩⟩
theorem o6 {w:World} {K:Ee} {elts:List Expr} (a e it:Addr) (hei:e≠it):Turn P w K (.Tuple elts k pos) (Ch K a) [e,it] e (λ i h=>(∃ old,IsEnum h e it i old)/\h.IsListIter it a i) where
 mem:=by simp
 obj:=λ i h st b hb=>by
  obtain ⟨⟨old,q⟩,o,q1,q2,q3⟩:=st
  simp only [Er,ER,or_false] at hb
  rcases hb with rfl | rfl
  ·exact ⟨_,q,λ v z=>by cases z⟩
  ·exact ⟨o,q1,λ v z=>by rw [q3] at z; cases z⟩
 keep:=λ i h h' st kk=>by
  obtain ⟨⟨old,q⟩,o,q1,q2⟩:=st
  exact ⟨⟨old,kk e (by simp) _ q⟩,o,kk it (by simp) o q1,q2⟩
 item:=by
  intro X hP hw hK hc i pins s σ H E I hf st hg
  subst hP hw hK
  obtain ⟨xs,x,hq,hx⟩:=hg
  obtain ⟨its,rv,p,hz⟩:=I.list hq
  obtain ⟨u,hu,ru⟩:=rv.get hx
  have hl:=rv.length
  have hil:i<its.toArray.size:=by have:=(EE.mp hu).1; simpa using this
  obtain ⟨⟨old,q⟩,q2⟩:=st
  have hne:a≠it:=by
   obtain ⟨o1,g1,g2,_⟩:=p.isList
   obtain ⟨o2,g3,g4,_⟩:=q2
   exact iL g1 g2 g3 g4 (by decide)
  have hea:e≠a:=by
   obtain ⟨o1,g1,g2,_⟩:=p.isList
   exact iL q rfl g1 g2 (by decide)
  refine wpAny_pyNext_enum_itemD (Mf (A:=X.A.in1) (I.ok.hd hc) it a hne its.toArray) q ⟨q2,p.isList⟩ hil hei (by simp [hei,hea]) λ y h' tk hP ho hs' hT hsz hk=>⟨_,rfl,wpAny_letOwnedTupleGo_enum ho λ g he' sb=>?_⟩
  have ey:y=u:=by
   have h1:its.toArray[i]? = some u:=by simpa using hu
   exact EO (hP.symm.trans h1)
  subst ey
  have hTe:s.heap.objs.size≠e:=ES (Ei q)
  have lt2:it<s.heap.objs.size:=by obtain ⟨o2,g3,_⟩:=q2; exact Ei g3
  obtain ⟨I2,hn⟩:=I.pair (g:=g) (tk:=tk+1) (ch:=[e,it]) (x:=.int i) (y:=x) (λ b o hb r=>(sb.2 b (λ z=>hb (by simp [z]))).trans (hk b o (λ z=>hb (by simp [z])) (λ z=>hb (by simp [z])) r)) hf ((sb.2 _ hTe).trans hT) ⟨tk,rfl⟩ ru
  refine ⟨.ref s.heap.objs.size,_,I2,rfl,⟨_,x,rfl,hn,rfl,λ ys hy=>by rw [I.list_inj hy hq]; exact hx⟩,⟨⟨_,by simpa using he'⟩,hs'.1.at λ o r=>(sb.2 it hei.symm).trans r⟩,λ b hb=>?_⟩
  simp only [Er,ER,or_false] at hb
  rcases hb with rfl | rfl
  ·rw [aq hTe.symm]; exact (hf _ (by simp)).1
  ·rw [aq (Eo lt2)]; exact (hf _ (by simp)).1
 done:=by
  intro X hP hw hK hc i pins s σ H E I hf st hg
  subst hP hw hK
  obtain ⟨xs,hq,hx⟩:=hg
  obtain ⟨its,rv,p,hz⟩:=I.list hq
  obtain ⟨⟨old,q⟩,q2⟩:=st
  have hl:=rv.length
  have hne:a≠it:=by
   obtain ⟨o1,g1,g2,_⟩:=p.isList
   obtain ⟨o2,g3,g4,_⟩:=q2
   exact iL g1 g2 g3 g4 (by decide)
  have hi:its.toArray.size=i:=by simp; lia
  subst hi
  refine wpAny_pyNext_enum_endD (Mf (A:=X.A.in1) (I.ok.hd hc) it a hne its.toArray) q ⟨q2,p.isList⟩ λ h' eb=>⟨rfl,I.turnedAll (t':=s.toks) (ch:=[it]) (λ b o hb r=>eb b o (λ z=>hb (by simp [z])) r) λ b hb=>hf b (by simp at hb; simp [hb])⟩
 self:=λ _ _ _ _ _ st h=>by
  obtain ⟨⟨old,q⟩,_⟩:=st
  exact wpAny_pyIter_enum q h
noncomputable def Itz (K:Ee) (a b:Addr):It:=
 ⟨λ i H=>∃ xs ys x y,SqL K H a xs/\SqL K H b ys/\xs[i]? = some x/\ys[i]? = some y,λ i H v H'=>∃ p x y,v=.ref p/\H p=none/\H'=upd H p (.tup [x,y])/\(∀ xs,SqL K H a xs->xs[i]? = some x)/\∀ ys,SqL K H b ys->ys[i]? = some y,λ i H=>∃ xs ys,SqL K H a xs/\SqL K H b ys/\(xs.length<=i\/ys.length<=i)⟩
theorem t5 {w:World} {K:Ee} {elts:List Expr} (a b z TI TO i1 i2:Addr) (D:ZipApart z TI TO i1 i2 a b) :
  Turn P w K (.Tuple elts k pos) (Itz K a b) [z,TI,TO,i1,i2] z (λ i h=>IsZip h z TI TO .none/\IsPair h TI (.ref i1) (.ref i2)/\(∃ u v,IsPair h TO u v)/\h.IsListIter i1 a i/\h.IsListIter i2 b i) where
 mem:=by simp
 obj:=λ i h st c hb=>by
  obtain ⟨q1,q2,⟨u,v,q3⟩,⟨o4,q4,_,d4⟩,⟨o5,q5,_,d5⟩⟩:=st
  simp only [Er,ER,or_false] at hb
  rcases hb with rfl | rfl | rfl | rfl | rfl
  ·exact ⟨_,q1,λ v z=>by cases z⟩
  ·exact ⟨_,q2,λ v z=>by cases z⟩
  ·exact ⟨_,q3,λ v z=>by cases z⟩
  ·exact ⟨o4,q4,λ v z=>by rw [d4] at z; cases z⟩
  ·exact ⟨o5,q5,λ v z=>by rw [d5] at z; cases z⟩
 keep:=λ i h h' st kk=>by
  obtain ⟨q1,q2,⟨u,v,q3⟩,⟨o4,q4,r4⟩,⟨o5,q5,r5⟩⟩:=st
  exact ⟨kk z (by simp) _ q1,kk TI (by simp) _ q2,⟨u,v,kk TO (by simp) _ q3⟩,⟨o4,kk i1 (by simp) _ q4,r4⟩,⟨o5,kk i2 (by simp) _ q5,r5⟩⟩
 item:=by
  intro X hP hw hK hc i pins s σ H E I hf st hg
  subst hP hw hK
  obtain ⟨xs,ys,x,y,hqx,hqy,hx,hy⟩:=hg
  obtain ⟨its,rv,p,hz⟩:=I.list hqx
  obtain ⟨jts,rw',p',hz'⟩:=I.list hqy
  obtain ⟨u,hu,ru⟩:=rv.get hx
  obtain ⟨v,hv,rv'⟩:=rw'.get hy
  obtain ⟨q1,q2,⟨u3,v3,q3⟩,q4,q5⟩:=st
  have l1:=Ei q1
  have l2:=Ei q2
  have l3:=Ei q3
  have l4:i1<s.heap.objs.size:=by obtain ⟨o,g,_⟩:=q4; exact Ei g
  have l5:i2<s.heap.objs.size:=by obtain ⟨o,g,_⟩:=q5; exact Ei g
  refine wpAny_pyNext_zip_item D q1 q2 q3 q4 q5 p.isList p'.isList (x:=u) (y:=v) (by simpa using hu) (by simpa using hv) λ h' a1 a2 a3 a4 a5 a6 a7=>⟨_,rfl,wpAny_letOwnedTupleGo_zip a1 λ g hz2 sb=>?_⟩
  obtain ⟨I2,hn⟩:=I.pair (g:=g) (tk:=s.toks) (ch:=[z,TO,i1,i2]) (x:=x) (y:=y) (λ c o hb r=>(sb.2 c (λ e=>hb (by simp [e]))).trans (a7 c o (λ e=>hb (by simp [e])) (λ e=>hb (by simp [e])) (λ e=>hb (by simp [e])) (λ e=>hb (by simp [e])) r)) (λ c hb=>hf c (by simp at hb; rcases hb with e | e | e | e<;>simp [e])) ((sb.2 _ (ES l1)).trans a5) ru rv'
  refine ⟨.ref s.heap.objs.size,_,I2,rfl,⟨_,x,y,rfl,hn,rfl,λ zs h=>by rw [I.list_inj h hqx]; exact hx,λ zs h=>by rw [I.list_inj h hqy]; exact hy⟩,⟨hz2,?_,⟨_,_,(sb.2 _ D.TOz).trans a2⟩,a3.at λ o r=>(sb.2 i1 D.i1z).trans r,a4.at λ o r=>(sb.2 i2 D.i2z).trans r⟩,λ c hb=>?_⟩
  ·exact (sb.2 _ D.TIz).trans (a7 TI _ D.TIz D.TITO D.TIi1 D.TIi2 q2)
  ·have hc0:=(hf c hb).1
   simp only [Er,ER,or_false] at hb
   have:c<s.heap.objs.size:=by rcases hb with rfl | rfl | rfl | rfl | rfl<;>assumption
   rw [aq (Eo this)]; exact hc0
 done:=by
  intro X hP hw hK hc i pins s σ H E I hf st hg
  subst hP hw hK
  obtain ⟨xs,ys,hqx,hqy,hx⟩:=hg
  obtain ⟨its,rv,p,hz⟩:=I.list hqx
  obtain ⟨jts,rw',p',hz'⟩:=I.list hqy
  have m1:=rv.length
  have m2:=rw'.length
  obtain ⟨q1,q2,⟨u3,v3,q3⟩,q4,q5⟩:=st
  refine wpAny_pyNext_zip_end (I.ok.hd hc) D q1 q2 q3 q4 q5 p.isList p'.isList ?_ λ h' kk=>⟨rfl,I.turnedAll (t':=s.toks) (ch:=[z,TO,i1,i2]) (λ c o hb r=>kk c o (λ e=>hb (by simp [e])) (λ e=>hb (by simp [e])) (λ e=>hb (by simp [e])) (λ e=>hb (by simp [e])) r) (λ c hb=>hf c (by simp at hb; rcases hb with e | e | e | e<;>simp [e]))⟩
  rcases hx with h | h
  ·exact .inl (by simp; lia)
  ·exact .inr (by simp; lia)
 self:=λ _ _ _ _ _ st h=>wpAny_pyIter_zip st.1 h
section
variable {X:Cx} {a b:Expr} {t:TA} {p pos tpos:Pos} {ts:List Expr} {k:Nat}
noncomputable def vA (K:Ee) (t:TA):TI:=λ σ H R=>t σ H λ vs H1=>∃ a,vs=[.ref a]/\(∃ xs,SqL K H1 a xs)/\R (Ch K a) H1
noncomputable def Dg (K:Ee) (t:TA):TI:=λ σ H R=>t σ H λ vs H1=>∃ a b,vs=[.ref a,.ref b]/\(∃ xs,SqL K H1 a xs)/\(∃ ys,SqL K H1 b ys)/\R (Itz K a b) H1
theorem lr {K:Ee} (hg:Gl X "enumerate") (hm:X.mg "enumerate" = none) (ha:QA X [a] t) (hn:bz a=true:=by rfl) (hK:X.K=K:=by rfl):QI X (.Tuple ts k tpos) (.Call (.Name "enumerate" p) [a] [] pos) (vA K t):=by
 subst hK
 refine ⟨λ pins s σ H R I h=>?_⟩
 refine Call_ (eG I hg hm (by decide +kernel:bootBuiltins "enumerate" = some (.type "enumerate")) (Fk (thn (ha.out pos pins s σ H _ I h) λ us s1 ⟨vs,H1,I1,r1,q1⟩=>?_) (aB hn) rfl))
 obtain ⟨l,e,⟨xs,hq⟩,q⟩:=q1
 subst e
 cases r1 with
 | cons r rr=>
  cases rr
  cases r
  obtain ⟨its,rv,pl,hz⟩:=I1.list hq
  refine call_enumerate_list pl.isList λ g h1 h2 h3 h4=>wpAny_pyIter_enum h1 ?_
  have I2:Inv X pins σ H1 { s1 with heap:=g }:=I1.kept (t':=s1.toks) h4
  refine ⟨s1.heap.objs.size+1,[s1.heap.objs.size+1,s1.heap.objs.size],_,_,H1,rfl,I2,o6 l _ _ (IB _),⟨⟨_,h1⟩,h2⟩,λ c hc=>?_,q⟩
  have hle:s1.heap.objs.size<=c:=by
   simp only [Er,ER,or_false] at hc
   rcases hc with rfl | rfl
   ·exact Je _
   ·exact Eh _
  exact I1.fpOk hle (I1.hok.fresh hle)
theorem zA {K:Ee} (hg:Gl X "zip") (hm:X.mg "zip" = none) (ha:QA X [a,b] t) (hn:bz a=true:=by rfl) (hn2:bz b=true:=by rfl) (hK:X.K=K:=by rfl):QI X (.Tuple ts k tpos) (.Call (.Name "zip" p) [a,b] [] pos) (Dg K t):=by
 subst hK
 refine ⟨λ pins s σ H R I h=>?_⟩
 have e2:starEach [b] X.env=[(false,eval b X.env)]:=aB hn2
 refine Call_ (eG I hg hm (by decide +kernel:bootBuiltins "zip" = some (.type "zip")) (Fk (thn (ha.out pos pins s σ H _ I h) λ us s1 ⟨vs,H1,I1,r1,q1⟩=>?_) (aB hn) (by rw [e2]; rfl)))
 obtain ⟨l,m,e,⟨xs,hq⟩,⟨ys,hq'⟩,q⟩:=q1
 subst e
 cases r1 with
 | cons r rr=>
  cases rr with
  | cons r' rr=>
   cases rr
   cases r; cases r'
   obtain ⟨its,rv,pl,hz⟩:=I1.list hq
   obtain ⟨jts,rw',pl',hz'⟩:=I1.list hq'
   have a1:l<s1.heap.objs.size:=by obtain ⟨o,g,_⟩:=pl.isList; exact Ei g
   have a2:m<s1.heap.objs.size:=by obtain ⟨o,g,_⟩:=pl'.isList; exact Ei g
   refine call_zip_2 pl.isList pl'.isList λ g h1 h2 h3 h4 h5 h6 h7=>wpAny_pyIter_zip h1 ?_
   have I2:Inv X pins σ H1 { s1 with heap:=g }:=I1.kept (t':=s1.toks) h7
   refine ⟨_,_,_,_,H1,rfl,I2,t5 l m _ _ _ _ _ (zipApart_new a1 a2),⟨h1,h2,⟨_,_,h3⟩,h4,h5⟩,λ c hc=>?_,q⟩
   have hle:s1.heap.objs.size<=c:=by
    simp only [Er,ER,or_false] at hc
    rcases hc with rfl | rfl | rfl | rfl | rfl
    ·exact FP _ _
    ·exact FP _ _
    ·exact FP _ _
    ·exact Eh _
    ·exact FP _ _
   exact I1.fpOk hle (I1.hok.fresh hle)
end
section
variable {K:Ee} {σ:St} {H:Hp} {Q:VK} {D:Ends} {g:TG} {te:TE} {tb:TS}
theorem A6 {t:TA} {R:It->Hp->Prop} (h:t σ H λ vs H1=>∃ a,vs=[.ref a]/\(∃ xs,SqL K H1 a xs)/\R (Ch K a) H1):vA K t σ H R:=h
theorem Dh {t:TA} {R:It->Hp->Prop} (h:t σ H λ vs H1=>∃ a b,vs=[.ref a,.ref b]/\(∃ xs,SqL K H1 a xs)/\(∃ ys,SqL K H1 b ys)/\R (Itz K a b) H1):Dg K t σ H R:=h
theorem mO {J:It} (Pv:Nat->St->Hp->Prop) (h0:Pv 0 σ H) (hgo:∀ i σ H,i<n->Pv i σ H->J.go i H) (hst:∀ σ H,Pv n σ H->J.stop n H)
  (hs:∀ i x σ H H',i<n->Pv i σ H->J.yld i H x H'->g x σ H' λ σ2 H2=>tb { D with nx:=Pv (i+1),ct:=Pv (i+1),bk:=D.nx } σ2 H2) (hd:∀ σ H,Pv n σ H->D.nx σ H) :
  ∃ W:Nat->Nat->St->Hp->Prop,(∃ m,W 0 m σ H)/\∀ i m σ H,W i m σ H->
   (J.stop i H/\D.nx σ H)\/(J.go i H/\∃ N:St->Hp->Prop,(∀ σ' H',N σ' H'->∃ m',m'<m/\W (i+1) m' σ' H')/\∀ x H',J.yld i H x H'->g x σ H' λ σ2 H2=>tb { D with nx:=N,ct:=N,bk:=D.nx } σ2 H2):=by
 refine ⟨λ i m σ H=>m=n - i/\i<=n/\Pv i σ H,⟨n,by simp,EI _,h0⟩,?_⟩
 rintro i m σ H ⟨rfl,hi,p⟩
 by_cases hlt:i<n
 ·exact .inr ⟨hgo i σ H hlt p,Pv (i+1),λ σ' H' p'=>⟨n - (i+1),by lia,rfl,hlt,p'⟩,λ x H' y=>hs i x σ H H' hlt p y⟩
 ·have e:i=n:=by lia
  subst e
  exact .inl ⟨hst σ H p,hd σ H p⟩
theorem ir {J:It} {σ0:St} {R:List V->Hp->Prop} (Pv:Nat->List V->St->Hp->Prop) (hz:n<sizeLine) (hl:∀ i ys σ H,Pv i ys σ H->ys.length=i) (h0:Pv 0 [] σ0 H) (hgo:∀ i ys σ H,i<n->Pv i ys σ H->J.go i H) (hst:∀ ys σ H,Pv n ys σ H->J.stop n H)
  (hs:∀ i x ys σ H H',i<n->Pv i ys σ H->J.yld i H x H'->g x σ H' λ σ2 H2=>te σ2 H2 λ y H3=>Nx n i (Pv (i+1) (ys++[y]) σ2 H3)) (hd:∀ ys σ H,Pv n ys σ H->R ys H) :
  ∃ W:Nat->Nat->List V->St->Hp->Prop,(∃ m,W 0 m [] σ0 H)/\∀ i m xs σc H,W i m xs σc H->xs.length<sizeLine/\
  ((J.stop i H/\R xs H)\/(J.go i H/\∀ x H',J.yld i H x H'->g x σc H' λ σ2 H2=>te σ2 H2 λ y H3=>∃ m',m'<m/\W (i+1) m' (xs++[y]) σ2 H3)):=by
 refine ⟨λ i m xs σ H=>m=n - i/\i<=n/\Pv i xs σ H,⟨n,by simp,EI _,h0⟩,?_⟩
 rintro i m xs σ H ⟨rfl,hi,p⟩
 refine ⟨by rw [hl i xs σ H p]; exact Fe hi hz,?_⟩
 by_cases hlt:i<n
 ·exact .inr ⟨hgo i xs σ H hlt p,λ x H' y=>hs i x xs σ H H' hlt p y⟩
 ·have e:i=n:=by lia
  subst e
  exact .inl ⟨hst xs σ H p,hd xs σ H p⟩
end
section
variable {K:Ee} {σ:St} {H:Hp} {Q:VK} {D:Ends}
theorem Di (h:Q (.bl (decide (MM x=MM y))) H):rEq (.str x) (.str y) H Q:=⟨rfl,h⟩
theorem Dj {R:Bool->Hp->Prop} (h:ta σ H λ x H'=>∃ k,yr K x H' k/\R k H'):Dd K ta σ H R:=h
theorem DR {r:V->Option Int->Option Int->Hp->VK->Prop} {te:TE} {tl th:TO} (h:te σ H λ x H1=>tl σ H1 λ l H2=>th σ H2 λ u H3=>r x l u H3 Q):tSl r te tl th σ H Q:=h
theorem Ci {t:TE} {R:Option Int->Hp->Prop} (h:t σ H λ x H1=>∃ i,x=.int i/\R (some i) H1):wD t σ H R:=h
theorem zB {R:Option Int->Hp->Prop} (h:R none H):mF σ H R:=h
theorem bU {x y:V} {R:St->Hp->Prop} (e:H p=some (.tup [x,y])) (h:R ((σ.set i (some x)).set j (some y)) H):AW K 2 (mC (fq i) (mC (fq j) AV)) (.ref p) σ H R:=
 ⟨p,_,rfl,MK e,rfl,_,_,rfl,_,_,rfl,rfl,h⟩
theorem Dk (h:SqL K H p xs):yr K (.ref p) H (!xs.isEmpty):=.inl ⟨xs,h,rfl⟩
theorem DS (h:SqT K H p xs):yr K (.ref p) H (!xs.isEmpty):=.inr (.inl ⟨xs,h,rfl⟩)
theorem Dl {α:Type} {G:Prop} {S B:α->Hp->Prop} (hA:(∀ a H,S a H->B a H)->G) (hB:∀ a H,S a H->B a H):G:=hA hB
theorem aT {α:Type} {f:α->V} {xs:List α} {x:V} (h:(xs.map f)[i]? = some x):∃ z,x=f z/\xs[i]? = some z/\z∈xs/\i<xs.length:=by
 rw [El] at h
 cases e:xs[i]? with
 | none=>rw [e] at h; cases h
 | some z=>rw [e] at h; exact ⟨z,(EO h).symm,rfl,EN e,(EE.mp e).1⟩
end
noncomputable def RowsAt (H:Hp) (ps:List Addr) (b m:Nat) (zs:List Nat):Prop:=ps.length=zs.length/\∀ (i:Nat) (p:Addr) (z:Nat),ps[i]? = some p->zs[i]? = some z->H p=some (.tup ((dg z b m).map ML))
theorem RowsAt.same {H:Hp} {ps:List Addr} (h:RowsAt H ps b m zs) (e:Same H H1):RowsAt H1 ps b m zs:=⟨h.1,λ i p z a c=>e _ _ (h.2 i p z a c)⟩
theorem RowsAt.snoc {H:Hp} {ps:List Addr} {z:Nat} (h:RowsAt H ps b m zs) (e:H p=some (.tup ((dg z b m).map ML))):RowsAt H (ps++[p]) b m (zs++[z]):=by
 refine ⟨by simp [h.1],λ i q y a c=>?_⟩
 rcases aL a with ⟨l,a⟩ | ⟨l,a⟩
 ·rcases aL c with ⟨_,c⟩ | ⟨l',c⟩
  ·exact h.2 i q y a c
  ·have:=h.1; lia
 ·rcases aL c with ⟨l',c⟩ | ⟨_,c⟩
  ·have:=h.1; lia
  ·rw [a,c]; exact e
noncomputable def Spelt (ns:List Int) (b:Nat) (zs:List Nat) (m:Nat):Prop:=(ns=[]/\zs=[]/\m=0)\/∃ lo hi:Int,lo∈ns/\hi∈ns/\(∀ x∈ns,lo<=x/\x<=hi)/\zs=ns.map (λ x=>(x - lo).toNat)/\(hi - lo).toNat<b ^ m/\(0<m->b ^ (m - 1)<=(hi - lo).toNat)/\m<201
theorem Spelt.len {ns:List Int} (h:Spelt ns b zs m):zs.length=ns.length:=by
 rcases h with ⟨rfl,rfl,_⟩ | ⟨lo,hi,_,_,_,rfl,_⟩
 ·rfl
 ·simp
theorem Spelt.few {ns:List Int} (h:Spelt ns b zs m):m<201:=by
 rcases h with ⟨rfl,rfl,rfl⟩ | ⟨lo,hi,_,_,_,rfl,_,_,h⟩
 ·decide
 ·exact h
section
variable {X:Cx} {e:Expr} {te:TE} {g:TG} {pos tpos:Pos} {ts:List Expr} {k:Nat}
theorem mP (he:QE X e te) (hg:QG X (.Tuple ts k tpos) g) (hs:swapsWithSole [.Tuple ts k tpos] e pos.line X.env=pure false:=by rfl) (hw:swappedStores [.Tuple ts k tpos] e X.env=pure none:=by rfl)
  (h1:(assignEach [.Tuple ts k tpos] X.env).map (·.2)=[assign (.Tuple ts k tpos) X.env]:=by rfl):QS X (.Assign [.Tuple ts k tpos] e pos) (pD te g):=⟨vj he.out hg.out hs hw h1⟩
end
section
variable {K:Ee} {σ:St} {H:Hp}
end
theorem zC {i:Int} (e:i=j) (h:j<n):ixN n i=some j:=by
 subst e
 unfold ixN
 rw [if_pos (by lia),if_pos (by lia)]
 simp
noncomputable def bF (tb:List (Int×Nat)):List Int:=tb.map λ z=>z.1*((fH (tb.map (·.2)) / z.2:Nat):Int)
theorem cy (tb:List (Int×Nat)):(bF tb).length=tb.length:=by simp [bF]
theorem qz {tb:List (Int×Nat)} (hb:∀ z∈tb,1<=z.2/\z.2<=60) (ht:∀ z∈tb,-(10 ^ 18)<z.1/\z.1<10 ^ 18):∀ x∈bF tb,-(2 ^ 190)<x/\x<2 ^ 190:=by
 intro x hx
 obtain ⟨z,hz,rfl⟩:=Es.mp hx
 have h1:=ht z hz
 have hM:fH (tb.map (·.2))∣yt:=zx λ b h=>by
  obtain ⟨y,hy,rfl⟩:=Es.mp h
  exact hb y hy
 have h2:fH (tb.map (·.2))<=yt:=Ig (by decide +kernel) hM
 have h3:yt<2 ^ 90:=by decide +kernel
 have h4:fH (tb.map (·.2)) / z.2<=fH (tb.map (·.2)):=KN _ _
 generalize fH (tb.map (·.2)) / z.2=c at h4
 have h5:c<2 ^ 90:=by lia
 have h6:z.1.natAbs<2 ^ 60:=by lia
 have h7:(z.1*(c:Int)).natAbs<2 ^ 150:=by
  rw [Int.natAbs_mul,JO]
  calc z.1.natAbs*c<2 ^ 60*2 ^ 90:=Nat.mul_lt_mul'' h6 h5
   _=2 ^ 150:=by decide
 lia
section
variable {X:Cx} {a b e o:Expr} {es:List Expr} {t:TA} {te to tb:TE} {p p2 pos pos2 apos cpos tpos:Pos}
noncomputable def Dm:R2:=λ x y H Q=>y=.non/\Q (.bl (decide (x=.non))) H
theorem ib:QOp X (compareOp .Is) Dm:=⟨yY⟩
end
section
variable {K:Ee} {σ:St} {H:Hp} {Q:VK}
theorem nV (s:H p=some (.lst xs)) (h:Q (.bl false) H):pE K [.ref p,.ty "tuple"] H Q:=⟨_,_,_,_,rfl,.lst s,rfl,h⟩
theorem A7 {i:Int} (h:Q (.bl false) H):pE K [.int i,.ty "str"] H Q:=⟨_,_,_,_,rfl,.int i,rfl,h⟩
theorem Do {x y:Bool} (h:Q (.bl (!decide (V.bl x=V.bl y))) H):rNe (.bl x) (.bl y) H Q:=⟨rfl,h⟩
theorem Cj {x:V} (h:Q (.bl (decide (x=.non))) H):Dm x .non H Q:=⟨rfl,h⟩
end
noncomputable def Tp2 (H:Hp) (p:Addr):Prop:=∃ a b:Int,H p=some (.lst [.int a,.int b])/\0<=a/\0<=b
structure St2 (p:Addr) (H H':Hp):Prop where
 keep:∀ q o,H q=some o->q≠p->H' q=some o
 tape:Tp2 H' p
section
variable {H H1 H2:Hp} {p q l:Addr} {o:HO}
theorem St2.refl (t:Tp2 H p):St2 p H H:=⟨λ _ _ h _=>h,t⟩
theorem St2.trans (a:St2 p H H1) (b:St2 p H1 H2):St2 p H H2:=⟨λ q o h n=>b.keep q o (a.keep q o h n) n,b.tape⟩
theorem Tp2.mk {a b:Int} (h:0<=a) (h2:0<=b):St2 p H (upd H p (.lst [.int a,.int b])):=⟨λ q o e n=>by rw [aq n]; exact e,⟨a,b,ab,h,h2⟩⟩
theorem Tp2.ne (t:Tp2 H p) (h:H q=none):q≠p:=by
 obtain ⟨a,b,e,_⟩:=t
 exact λ z=>ak e h z.symm
theorem Tp2.own (t:Tp2 H p) (n:l≠p):Tp2 (upd H l o) p:=by
 obtain ⟨a,b,e,q⟩:=t
 exact ⟨a,b,by rw [aq (Ff n)]; exact e,q⟩
theorem St2.new (a:St2 p H H1) (h:H1 q=none):St2 p H (upd H1 q o):=⟨λ b u e1 e2=>by rw [aq (ak (a.keep b u e1 e2) h)]; exact a.keep b u e1 e2,a.tape.own (a.tape.ne h)⟩
theorem St2.own (a:St2 p H H1) (h:H l=none) (n:l≠p):St2 p H (upd H1 l o):=⟨λ b u e1 e2=>by rw [aq (ak e1 h)]; exact a.keep b u e1 e2,a.tape.own n⟩
theorem St2.free (s:St2 p H H1) (h:H1 q=none):H q=none:=by
 cases e:H q with
 | none=>rfl
 | some o=>
  have:=s.keep q o e (s.tape.ne h)
  rw [h] at this; cases this
end
noncomputable def wX (K:Ee):Sp:=λ vs H Q _=>∃ (a:Addr) (ns:List Int) (k:Int),vs=[.ref a,.int k]/\SqL K H a (ns.map ML)/\0<=k/\∀ p H',H p=none->Same H H'->Tp2 H' p->Q (.ref p) H'
noncomputable def wY:Sp:=λ vs H Q _=>∃ (p:Addr) (m:Int),vs=[.ref p,.int m]/\Tp2 H p/\0<m/\m<2 ^ 64/\∀ (r:Nat) H',(r:Int)<m->St2 p H H'->Q (.int r) H'
noncomputable def NV (os:List Nat):List V:=os.map λ o:Nat=>ML o
theorem aQ (os:List Nat):(NV os).length=os.length:=by simp [NV]
theorem gh (os:List Nat):NV os=(os.map λ o:Nat=>(o:Int)).map ML:=by rw [NV,E6]; rfl
theorem vB {os:List Nat} {o:Nat} (h:os[i]? = some o):(NV os)[i]? = some (ML o):=by rw [NV,El,h]; rfl
theorem wZ {os:List Nat} {o:Nat} {k:Int} (e:k=i) (h:os[i]? = some o):atI (NV os) k=some (ML o):=by rw [e]; exact bJ (vB h)
theorem bS (os:List Nat) (o:Nat):NV os++[ML o]=NV (os++[o]):=by simp [NV]
noncomputable def LsAt (H:Hp) (ps:List Addr) (nss:List (List Nat)):Prop:=ps.length=nss.length/\∀ (i:Nat) p ns,ps[i]? = some p->nss[i]? = some ns->H p=some (.lst (NV ns))
section
variable {H H1:Hp} {ps:List Addr} {nss:List (List Nat)}
theorem LsAt.same (h:LsAt H ps nss) (e:Same H H1):LsAt H1 ps nss:=⟨h.1,λ i p z a c=>e _ _ (h.2 i p z a c)⟩
theorem LsAt.snoc {ns:List Nat} (h:LsAt H ps nss) (e:H p=some (.lst (NV ns))):LsAt H (ps++[p]) (nss++[ns]):=by
 refine ⟨by simp [h.1],λ i q y a c=>?_⟩
 rcases aL a with ⟨l,a⟩ | ⟨l,a⟩
 ·rcases aL c with ⟨_,c⟩ | ⟨l',c⟩
  ·exact h.2 i q y a c
  ·have:=h.1; lia
 ·rcases aL c with ⟨l',c⟩ | ⟨_,c⟩
  ·have:=h.1; lia
  ·rw [a,c]; exact e
theorem LsAt.nil:LsAt H [] []:=⟨rfl,λ i p ns h=>by simp at h⟩
theorem LsAt.some (h:LsAt H ps nss) {p:Addr} (hp:p∈ps):∃ ns,ns∈nss/\H p=Option.some (.lst (NV ns)):=by
 obtain ⟨i,hi,rfl⟩:=Gk.mp hp
 have hi2:i<nss.length:=by rw [<-h.1]; exact hi
 exact ⟨nss[i],EQ hi2,h.2 i ps[i] nss[i] (by simp [hi]) (by simp [hi2])⟩
end
noncomputable def A8 (os:List Nat):Nat->List Bool->Nat->List Nat×List Bool
 | 0,met,_=>([],met)
 | f+1,met,pl=>if met.getD pl true=true then ([],met) else (pl::(A8 os f (met.set pl true) (os.getD pl 0)).1,(A8 os f (met.set pl true) (os.getD pl 0)).2)
noncomputable def few (met:List Bool):Nat:=met.count false
theorem qA (os:List Nat) (i o:Nat):(NV os).set i (ML o)=NV (os.set i o):=by simp [NV,List.map_set]
section
variable {X:Cx} {e:Expr} {te:TE} {pos p1 p2 p3 p4 p5:Pos} {j j':Nat}
end
noncomputable def cmp (one other:List Nat):List Nat:=other.map λ j=>one.getD j 0
theorem bQ {α:Type} {xs:List α} {x:α} (h:xs[i]? = some x):i<xs.length:=(EE.mp h).1
theorem w5 {α:Type} {xs:List α} {v:α} (h:xs[xs.length - 1]? = some v):atI xs (-1)=some v:=by
 have hl:=bQ h
 have e:ixN xs.length (-1)=some (xs.length - 1):=by
  unfold ixN
  rw [if_neg (by decide),if_pos (by lia)]
  congr 1
  lia
 unfold atI
 rw [e]; exact h
section
variable {X:Cx} {N tgs frs:List Str} {ix:List Nat} {scope:Scope} {cl:List (Str×Addr)}
theorem dA {prog:Program} {w:World} {A:Around} {R:Result->Shared->Prop} {s:Shared} {elt target iter cnd:Expr} {pos:Pos} {it acc:Value} {env:Env} (I:Nat->Shared->Prop)
  (turn:∀ n s,I n s->wpAny (model prog w) A (pyNext it) (λ r s1=>match r with
   | none=>R (.ok .next) s1
   | some v=>wpAny (model prog w) A (letOwnedTupleGo target it v) (λ _ s1'=>wpAny (model prog w) A (assign target env v) (λ _ s2=>wpAny (model prog w) A (isTrue cnd env (eval cnd env)) (λ b s2'=>if b=true then wpAny (model prog w) A (eval elt env) (λ x s3=>
     wpAny (model prog w) A (call (.builtin "list.append") [acc,x]) (λ _ s4=>∃ m,m<n/\I m s4) (λ _ _=>False) s3)
     (λ _ _=>False) s2' else ∃ m,m<n/\I m s2') (λ _ _=>False) s2) (λ _ _=>False) s1') (λ _ _=>False) s1) (λ _ _=>False) s)
  (n:Nat) (h:I n s) :
  codeAny (model prog w) A (.compLoop (.ListComp elt [⟨target,iter,[cnd],0⟩] scope pos) 0 it acc env) R s:=by
 have up:∀ {α:Type} {t:Sem α} {Q Q':α->Shared->Prop} {E:Value->Shared->Prop} {s:Shared},wpAny (model prog w) A t Q (λ _ _=>False) s->(∀ a s,Q a s->Q' a s)->wpAny (model prog w) A t Q' E s:=λ h hq=>wpAny_mono h hq λ _ _ f=>f.elim
 refine codeAny_loop rfl I (λ n s hI=>?_) n h
 show wpAny _ _ ((compTurn (.ListComp elt [⟨target,iter,[cnd],0⟩] scope pos) 0 it acc env).onRaise (λ x=>do noteFrame x env; theTreesLotGoes x)) _ _ s
 refine wpAny_noted ?_
 rw [compTurn_list]
 refine wpAny_bind (wpAny_standAt (wpAny_bind (up (turn n s hI) (λ r s1 h1=>?_))))
 cases r with
 | none=>exact wpAny_pure h1
 | some v=>
  refine wpAny_bind (up h1 λ _ s1' h1'=>?_)
  refine wpAny_bind (up h1' λ _ s2 h2=>?_)
  simp only [IY,HJ,if_true]
  refine wpAny_bind (wpAny_bind (wpAny_bind (up h2 λ b s3 h3=>wpAny_pure (wpAny_pure ?_))))
  cases b with
  | true=>
   rw [if_pos rfl] at h3
   show wpAny _ _ (if true=true then _ else _) _ _ _
   rw [if_pos rfl]
   exact wpAny_bind (wpAny_bind (up h3 (λ x s4 h4=>wpAny_bind (up h4 (λ _ s5 h5=>wpAny_pure (wpAny_pure ⟨rfl,h5⟩))))))
  | false=>
   rw [if_neg (by decide)] at h3
   show wpAny _ _ (if false=true then _ else _) _ _ _
   rw [if_neg (by decide)]
   exact wpAny_pure ⟨rfl,h3⟩
noncomputable def iM (wi:TI) (g:TG) (tc:TT) (te:TE) (tgs:List Str) (ix:List Nat):TE:=λ σ H Q=>wi σ H λ J H1=>
 ∃ W:Nat->Nat->List V->St->Hp->Prop,(∃ m,W 0 m [] (cU tgs ix σ) H1)/\∀ i m xs σc H,W i m xs σc H->xs.length<sizeLine/\
  ((J.stop i H/\∀ p,H p=none->Q (.ref p) (upd H p (.lst xs)))\/(J.go i H/\∀ x H',J.yld i H x H'->g x σc H' λ σ2 H2=>tc σ2 H2 λ b H3=>if b=true then te σ2 H3 λ y H4=>∃ m',m'<m/\W (i+1) m' (xs++[y]) σ2 H4 else ∃ m',m'<m/\W (i+1) m' xs σ2 H3))
theorem t7 {te:TE} (c:CompOk X N tgs frs ix scope cl) (hc:X.calm=true) (hi:PI X tg iter wi)
  (hg:∀ fp C s H,PG (aw X N scope cl fp C s H) tg g) (he:∀ fp C s H,PE (aw X N scope cl fp C s H) elt te)
  (hcd:∀ fp C s H,PT (aw X N scope cl fp C s H) cnd tc)
  (hs:∀ x,foldedSetIterable iter X.env x=pure x:=by intro _; rfl) :
  PE X (.ListComp elt [⟨tg,iter,[cnd],0⟩] scope pos) (iM wi g tc te tgs ix):=by
 intro pins s σ H Q I h
 rw [eval_ListComp]
 refine wpAny_comprehension_free (use:=none) rfl hs c.clos c.kind c.names (thn (hi pins s σ H _ I h) λ xv s1 h1=>thn h1 λ itv s2 h2=>?_)
 obtain ⟨it,fp,tn,J,H2,rfl,I2,T,st2,f2,W,⟨m0,w0⟩,turn⟩:=h2
 have hfl:∀ b∈fp,b<s2.heap.objs.size:=λ b hb=>by
  obtain ⟨o,e,_⟩:=T.obj _ _ st2 b hb
  exact Ei e
 have hcn:∀ x a,cl.lookup x=some a->X.env.cells.lookup x=some a:=c.cls.get
 refine wpAny_newObj_type (wpAny_newFunctionEnv c.cell (by intro y hy; simp at hy) (λ h1 hns1 hsb1=>?_) c.kind)
 dsimp only at hns1 hsb1 ⊢
 generalize hH2:s2.heap.push { cls:=.type "list",dict:=none,data:=.seq ([]:List Value).toArray }=G2 at hns1 hsb1 ⊢
 have hC:G2.objs.size=s2.heap.objs.size+1:=by rw [<-hH2,Fg]
 generalize hCC:G2.objs.size=C at *
 generalize hDD:s2.heap.objs.size=D at *
 have hDC:D≠C:=by lia
 have hCle:D<=C:=by lia
 have old:∀ b o,s2.heap.get? b=some o->h1.get? b=some o:=λ b o e=>by
  have lt:b<s2.heap.objs.size:=Ei e
  exact hsb1.extBut b o (Eo (Ez (hDD▸lt) hCle)) (Ec _ (hH2▸Ec _ e))
 have hacc:h1.get? D=some (ax [] 0):=hsb1.extBut _ _ hDC (Ec _ (hH2▸(hDD▸Ek _ rfl)))
 have cellD:∀ x a,X.env.cells.lookup x=some a->a<D:=λ x a e=>by
  obtain ⟨v,q⟩:=I2.cell x a e
  exact hDD▸q.lt
 have fpc:∀ {H':Hp} {us:List Value} {k:Nat},(∀ b∈fp,H' b=none)->∀ b∈fp,mt (aw X N scope cl fp C s2 H2) [(D,ax us k)] H' b:=λ {H' us k} hn b hb=>by
  have lb:=hfl b hb
  refine ⟨hn b hb,?_,λ z=>?_,.inl hb,λ x a e z=>?_,λ p hp=>?_⟩
  ·exact Eo (Ez lb hCle)
  ·rcases Er.mp (I2.stkSub b z) with e | e
   ·exact (f2 b hb).2.1 e
   ·exact (f2 b hb).2.2.1 e
  ·exact (f2 b hb).2.2.2.2.1 x a (hcn x a e) z
  ·have:p=(D,ax us k):=by simpa [aw] using hp
   rw [this]; exact ES lb
 have D_fs:D∉(aw X N scope cl fp C s2 H2).fs:=λ z=>by
  rcases Er.mp (I2.stkSub D z) with e | e
  ·exact absurd I2.lt (by rw [<-e,hDD]; exact E7 _)
  ·exact I2.nofs (Fc hDD) e
 have I3:=io (tk:=s2.toks+([]:List (Str×Value)).length) (pins':=[(D,ax [] 0)]) c I2 f2 (λ b hb=>hDD▸hfl b hb) (hDD▸hCle:s2.heap.objs.size<=C) hns1 old (λ p hp=>by
  have e:p=(D,ax [] 0):=by simpa using hp
  subst e
  exact ⟨hacc,Fc hDD,hDC,λ v z=>by cases z⟩)
 have tn3:tn 0 h1:=T.keep _ _ _ st2 λ b _ o e=>old b o e
 have loop:codeAny (model X.prog X.w) X.A (.compLoop (.ListComp elt [⟨tg,iter,[cnd],0⟩] scope pos) 0 (.ref it) (.ref D) (compEnvC scope cl C X.env))
   (compPost (model X.prog X.w) X.A X.xe none (EP X pins σ Q) (.ref D) C) { s2 with heap:=h1,toks:=s2.toks+([]:List (Str×Value)).length }:=by
  refine dA (λ n s'=>∃ i xs us k σc H',Inv (aw X N scope cl fp C s2 H2) [(D,ax us k)] σc H' s'/\tn i s'.heap/\(∀ b∈fp,H' b=none)/\Vals xs us/\W i n xs σc H') ?_ m0
   ⟨0,[],[],0,_,H2,I3,tn3,λ b hb=>(f2 b hb).1,.nil,w0⟩
  rintro n s4 ⟨i,xs,us,k,σ4,H4,I4,tn4,fr4,rv,w4⟩
  obtain ⟨hsz,tt⟩:=turn i n xs σ4 H4 w4
  rcases tt with ⟨stop,fin⟩ | ⟨go,step⟩
  ·refine thn (T.done (aw X N scope cl fp C s2 H2) rfl rfl rfl hc i _ s4 σ4 H4 _ I4 (fpc fr4) tn4 stop) λ r s5 ⟨hr,I5⟩=>?_
   subst hr
   obtain ⟨m,ns,_⟩:=I5.loc
   refine ⟨m,ns,λ h' sb=>?_⟩
   have J1:Inv X pins σ H4 s5:=I2.call' I5.os I5.base I5.hok I5.bare λ b hb=>⟨(f2 b hb).2.2.2.1,(f2 b hb).2.1,(f2 b hb).2.2.2.2.1,(f2 b hb).2.2.2.2.2⟩
   have big:∀ a,D<=a->a≠X.env.locals/\(a∈X.ex\/X.s₀.heap.objs.size<=a)/\(∀ x y,X.env.cells.lookup x=some y->y≠a)/\∀ p∈X.pn++pins,p.1≠a:=λ a ha=>by
    obtain ⟨q0,q1,q2,q3,q4,q5⟩:=I2.fpOk (b:=a) (H':=λ _=>none) (hDD▸ha) rfl
    exact ⟨q1,q3,q4,q5⟩
   obtain ⟨b1,b2,b3,b4⟩:=big C hCle
   have J2:Inv X pins σ H4 { s5 with heap:=h' }:=J1.turned (t':=s5.toks) (λ b o hb e=>sb.extBut b o hb e) I5.free b1 b2 b3 b4
   obtain ⟨p1,p2,p3,p4,p5⟩:=I5.pin (D,ax us k) (by simp)
   obtain ⟨d1,d2,d3,d4⟩:=big D (Eh _)
   have J3:Inv X pins σ (upd H4 D (.lst xs)) { s5 with heap:=h' }:=J2.adopt p2 d1 d2 d3 d4 ⟨E5 hsz,us,k,rv,sb.extBut _ _ hDC p1⟩
   exact ⟨.ref D,_,J3,rfl,fin D p2⟩
  ·refine thn (T.item (aw X N scope cl fp C s2 H2) rfl rfl rfl hc i _ s4 σ4 H4 _ I4 (fpc fr4) tn4 go) λ r s5 ⟨u,hr,h5⟩=>?_
   subst hr
   refine thn h5 λ _ s6 ⟨x,H6,I6,r6,y6,tn6,fr6⟩=>?_
   have I6':=I6.pinned (fpc fr6) (T.obj _ _ tn6)
   refine thn (hg fp C s2 H2 _ s6 σ4 H6 x u _ I6' r6 (step x H6 y6)) λ _ s7 ⟨σ7,H7,I7,q7⟩=>?_
   refine thn (hcd fp C s2 H2 _ s7 σ7 H7 _ I7 q7) λ b s7' ⟨H7',I7',q7'⟩=>?_
   cases b with
   | false=>
    rw [if_neg (by decide)] at q7' ⊢
    obtain ⟨m',hm,w8⟩:=q7'
    have tn8:tn (i+1) s7'.heap:=T.keep _ _ _ tn6 λ b hb o e=>(I7'.pin (b,o) (Eg _ (Eg _ (aD hb e)))).1
    have fr8:∀ b∈fp,H7' b=none:=λ b hb=>by
     obtain ⟨o,e,d⟩:=T.obj _ _ tn6 b hb
     exact (I7'.pin (b,o) (Eg _ (Eg _ (aD hb e)))).2.1
    exact ⟨m',hm,i+1,xs,us,k,σ7,H7',I7'.unpinned,tn8,fr8,rv,w8⟩
   | true=>
    rw [if_pos rfl] at q7' ⊢
    refine thn (he fp C s2 H2 _ s7' σ7 H7' _ I7' q7') λ yv s8 ⟨y,H8,I8,r8,m',hm,w8⟩=>?_
    obtain ⟨p1,p2,p3,p4,p5⟩:=I8.pin (D,ax us k) (by simp [aw])
    have hsz':us.toArray.size<=sizeLine:=by simp; rw [<-rv.length]; exact E5 hsz
    refine wpAny_list_append_plain (hsz:=hsz') ⟨k,p1⟩ λ h' pl sb=>?_
    have tn8:tn (i+1) s8.heap:=T.keep _ _ _ tn6 λ b hb o e=>(I8.pin (b,o) (Eg _ (Eg _ (aD hb e)))).1
    have fr8:∀ b∈fp,H8 b=none:=λ b hb=>by
     obtain ⟨o,e,d⟩:=T.obj _ _ tn6 b hb
     exact (I8.pin (b,o) (Eg _ (Eg _ (aD hb e)))).2.1
    have I9:Inv (aw X N scope cl fp C s2 H2) [] σ7 H8 s8:=I8.pins_of λ p hp=>nomatch hp
    have I10:Inv (aw X N scope cl fp C s2 H2) [] σ7 H8 { s8 with heap:=h' }:=I9.turned (t':=s8.toks) (it:=D) (λ b o hb e=>sb.extBut b o hb e) p2 p3 (.inr (Fc hDD))
     (λ x a e=>Eo (cellD x a (hcn x a e))) (λ p hp=>by simp [aw] at hp)
    obtain ⟨k',pl⟩:=pl
    have eu:us.toArray.push yv=(us++[yv]).toArray:=by simp
    rw [eu] at pl
    have I11:Inv (aw X N scope cl fp C s2 H2) [(D,ax (us++[yv]) k')] σ7 H8 { s8 with heap:=h' }:=I10.pins_of λ p hp=>by
     have e:p=(D,ax (us++[yv]) k'):=by simpa using hp
     subst e
     exact ⟨pl,p2,p3,p4,λ v z=>by cases z⟩
    exact ⟨m',hm,i+1,xs++[y],us++[yv],k',σ7,H8,I11,T.keep _ _ _ tn8 λ b hb o e=>sb.extBut b o (Eo (hfl b hb)) e,fr8,rv.append (.cons r8 .nil),w8⟩
 exact codeAny_compStart_list loop (T.self _ 0 _ _ _ tn3 loop)
theorem j5 {te:TE} (c:CompOk X N tgs frs ix scope cl) (hc:X.calm=true) (hi:QI X tg iter wi)
  (hg:∀ fp C s H,QG (aw X N scope cl fp C s H) tg g) (he:∀ fp C s H,QE (aw X N scope cl fp C s H) elt te) (hcd:∀ fp C s H,QT (aw X N scope cl fp C s H) cnd tc)
  (hs:∀ x,foldedSetIterable iter X.env x=pure x:=by intro _; rfl) :
  QE X (.ListComp elt [⟨tg,iter,[cnd],0⟩] scope pos) (iM wi g tc te tgs ix):=⟨t7 c hc hi.out (λ fp C s H=>(hg fp C s H).out) (λ fp C s H=>(he fp C s H).out) (λ fp C s H=>(hcd fp C s H).out) hs⟩
end
section
variable {X:Cx} {e o b:Expr} {to tb te:TE} {t:TA} {pos apos cpos tpos:Pos}
theorem o7 {K:Ee} (ho:QE X o to) (hbase:attributeBase o ("reverse" : Str) X.env (eval o X.env)=eval o X.env:=by rfl) (hline:(apos.endLine == cpos.line)=true:=by rfl) (hK:X.K=K:=by rfl) :
  QE X (.Call (.Attribute o "reverse" apos) [] [] cpos) (BR K "list" nG to):=by subst hK; exact ⟨zb Hb PySem.F.slot_list_reverse PySem.F.type_list_reverse oV ho.out hbase hline⟩
theorem lu {K:Ee} (ho:QE X o to) (ha:QA X [e] t) (hbase:attributeBase o ("extend" : Str) X.env (eval o X.env)=eval o X.env:=by rfl) (hline:(apos.endLine == cpos.line)=true:=by rfl) (hn:bz e=true:=by rfl) (hK:X.K=K:=by rfl) :
  QE X (.Call (.Attribute o "extend" apos) [e] [] cpos) (tBM K "list" mJ to t):=by subst hK; exact ⟨qf Hb PySem.F.slot_list_extend PySem.F.type_list_extend p9 ho.out ha.out hbase hline hn⟩
end
theorem jH {M:Model} {A:Around} {s:Shared} {globals:Addr} {closure:List (Str×Addr)} {func:Option Addr} {code:Value} {around:Option Env} {builtins:Addr} {Q:Env->Shared->Prop} 
  (hc:∀ n,cellsFrom n scope.names closure=(x,n)::closure) (hp:∀ h,pushCells h scope.names=h.push { cls:=.type "cell",data:=.cell none })
  (hQ:Q (newEnv scope s.heap.objs.size globals ((x,s.heap.objs.size+1)::closure) qual func code around builtins) { s with heap:=(s.heap.push { cls:=.type (if around.isSome then "dict" else "frame"),data:=.dict #[] }).push { cls:=.type "cell",data:=.cell none } }) :
  wpAny M A (newFunctionEnv scope globals closure [] qual func code around builtins) Q E s:=by
 simp only [newFunctionEnv]
 refine wpAny_bind (wpAny_alloc ?_)
 refine wpAny_bind (wpAny_layCells _ (λ a b c=>by cases e:b == MI<;>simp [e]) _ _ _ _ ?_)
 rw [hc,hp]
 rw [show ({ s with heap:=s.heap.push { cls:=.type (if around.isSome then "dict" else "frame"),data:=.dict #[] } }:Shared).heap.objs.size=s.heap.objs.size+1 from Fg ..]
 refine wpAny_bind ?_
 rw [HJ]
 exact wpAny_pure (wpAny_pure hQ)
noncomputable def aG (X:Cx) (N:List Str) (scope:Scope) (cl:List (Str×Addr)) (xc:Str) (fp:List Addr) (C:Addr) (s:Shared) (H:Hp):Cx:=
 { X with N:=N,s₀:=s,H₀:=H,env:=compEnvC scope ((xc,C+1)::cl) C X.env,outer:=X.stack,ex:=fp,fn:=λ y=>y == xc,pn:=[],xe:=λ _ _=>False }
structure CompOkC (X:Cx) (N tgs frs:List Str) (ix:List Nat) (scope:Scope) (cl:List (Str×Addr)) (xc:Str):Prop where
 clos:closureFor scope X.env=pure cl
 cells:∀ n,cellsFrom n scope.names cl=(xc,n)::cl
 push:∀ h,pushCells h scope.names=h.push { cls:=.type "cell",data:=.cell none }
 kind:scope.kind=.function
 names:∀ y∈scope.names,y.2=.local->scope.names.lookup y.1=some .local
 nm:N=tgs++frs
 ixs:ix.map (X.N[·]?)=frs.map some
 fr:FrOk X scope cl frs
 nx:xc∉frs
 cls:ClOk X cl
 has:(relabel scope X.env).names.all (λ p=>!(p.2 == .cell || p.2 == .free) || (p.1 == xc || (cl.lookup p.1).isSome))=true
theorem eL {c:Addr} {cl:List (Str×Addr)} (h:((x,c)::cl).lookup y=some a):(y=x/\a=c)\/(y≠x/\cl.lookup y=some a):=by
 rw [Gr] at h
 cases e:y == x with
 | true=>rw [e] at h; exact .inl ⟨eq_of_beq e,(EO h).symm⟩
 | false=>rw [e] at h; exact .inr ⟨ne_of_beq_false e,h⟩
section
variable {X:Cx} {N tgs frs:List Str} {ix:List Nat} {scope:Scope} {cl:List (Str×Addr)} {xc:Str}
theorem mQ (nm:N=tgs++frs) (ixs:ix.map (X.N[·]?)=frs.map some) (h1:N[i]? = some x) (h2:(cU tgs ix σ)[i]? = some (some v)):x∈frs/\∃ j:Nat,X.N[j]? = some x/\σ[j]? = some (some v):=by
 unfold cU at h2
 by_cases hi:i<tgs.length
 ·rw [E2 (by simpa using hi),Ha,if_pos hi] at h2
  cases h2
 ·rw [EY (by simpa using hi),FF,El] at h2
  rw [nm,EY (by lia)] at h1
  have e:=congrArg (·[i - tgs.length]?) ixs
  simp only [El,h1] at e
  cases q:ix[i - tgs.length]? with
  | none=>rw [q] at e; cases e
  | some j=>
   rw [q] at e h2
   simp only [IT,J0] at e h2
   refine ⟨EN h1,j,e,?_⟩
   cases z:σ[j]? with
   | none=>rw [z] at h2; cases h2
   | some o=>rw [z] at h2; simp at h2; rw [h2]
theorem CompOkC.hasOf (c:CompOkC X N tgs frs ix scope cl xc) (h:(relabel scope X.env).names.lookup x=some .cell\/(relabel scope X.env).names.lookup x=some .free):∃ a,((xc,C+1)::cl).lookup x=some a:=by
 have all:=FO.mp c.has
 have key:x == xc\/(cl.lookup x).isSome=true:=by
  rcases h with h | h
  ·have q:=all _ (fg h)
   simpa only [beq_self_eq_true,JL,Ie,Hl,IZ] using q
  ·have q:=all _ (fg h)
   simpa only [beq_self_eq_true,JM,Ie,Hl,IZ] using q
 rw [Gr]
 cases e:x == xc with
 | true=>exact ⟨_,rfl⟩
 | false=>
  rcases key with k | k
  ·rw [e] at k; cases k
  ·exact Go.mp k
theorem lv {H:Hp} {s2:Shared} {h1:Heap} {m:Str->Option Value} (c:CompOkC X N tgs frs ix scope cl xc) (I:Inv X pins σ H s2) (hf:∀ b∈fp,mt X pins H b) (hfl:∀ b∈fp,b<s2.heap.objs.size)
  (hC:s2.heap.objs.size<=C) (hns:h1.Ns C m) (hk:∀ b o,s2.heap.get? b=some o->h1.get? b=some o) (hcel:h1.IsCell (C+1) none) {pins':List (Addr×Obj)}
  (hpin:∀ p∈pins',h1.get? p.1=some p.2/\s2.heap.objs.size<=p.1/\p.1≠C/\∀ v,p.2.data≠.cell v) :
  Inv (aG X N scope cl xc fp C s2 H) pins' (cU tgs ix σ) H { s2 with heap:=h1,toks:=tk }:=by
 have hcn:∀ x a,cl.lookup x=some a->X.env.cells.lookup x=some a:=c.cls.get
 have clt:∀ x a,cl.lookup x=some a->a<s2.heap.objs.size:=λ x a e=>by
  obtain ⟨v,q⟩:=I.cell x a (hcn x a e)
  exact q.lt
 have hcl2:∀ x a,((xc,C+1)::cl).lookup x=some a->(x=xc/\a=C+1)\/(X.env.cells.lookup x=some a/\a<s2.heap.objs.size):=λ x a e=>by
  rcases eL e with h | ⟨_,h⟩
  ·exact .inl h
  ·exact .inr ⟨hcn x a h,clt x a h⟩
 have hC1:s2.heap.objs.size<=C+1:=Io hC
 refine ⟨⟨I.ok.mod,c.kind,I.ok.glob,I.ok.blt,hC,λ x y a h1 h2=>by
   rcases hcl2 x a h1 with ⟨e1,e2⟩ | ⟨e1,e2⟩
   ·rcases hcl2 y a h2 with ⟨g1,g2⟩ | ⟨g1,g2⟩
    ·rw [e1,g1]
    ·exact absurd g2 (by rw [e2]; exact Ho hC1)
   ·rcases hcl2 y a h2 with ⟨g1,g2⟩ | ⟨g1,g2⟩
    ·exact absurd e2 (by rw [g2]; exact Ho hC1)
    ·exact I.ok.inj x y a e1 g1,λ x hx=>c.hasOf hx,(λ x a z e=>by
   rcases hcl2 x a e with ⟨_,e2⟩ | ⟨e1,e2⟩
   ·rw [e2]; exact hC1
   ·have hx:x=xc:=eq_of_beq z
    subst hx
    have h9:((x,C+1)::cl).lookup x=some (C+1):=by simp
    have h8:=h9.symm.trans e
    rw [<-EO h8]; exact hC1),I.ok.hd,I.ok.frames,.inl rfl,λ b hb=>⟨?_,λ x a e=>?_⟩,I.bs,Fb I.ok.bsz I.sz,λ b o e hb=>?_,λ b hb z=>?_,I.stack,I.stkFree⟩,
  rfl,I.bare,Un.kept hk,⟨m,hns,λ i x v e1 e2 e3=>?_⟩,λ x a e=>?_,I.hok.fresh hC,λ x a e=>by
   rcases hcl2 x a e with ⟨_,e2⟩ | ⟨e1,e2⟩
   ·rw [e2]; exact I.hok.fresh hC1
   ·exact I.freeC x a e1,λ p hp=>?_,I.hok.kept hk,?_⟩
 ·exact Eo (Ez (hfl b hb) hC)
 ·rcases hcl2 x a e with ⟨_,e2⟩ | ⟨e1,e2⟩
  ·rw [e2]; exact ES (Ez (hfl b hb) hC1)
  ·exact (hf b hb).2.2.2.2.1 x a e1
 ·rcases (hf b hb).2.2.2.1 with z | z
  ·exact I.ok.noex b o e z
  ·exact absurd (Ez (Ei (I.ok.bs b o e).1) z) (E7 _)
 ·rcases Er.mp (I.stkSub b z) with e | e
  ·exact (hf b hb).2.1 e
  ·exact (hf b hb).2.2.1 e
 ·obtain ⟨hx,j,n1,n2⟩:=mQ c.nm c.ixs e1 e2
  obtain ⟨k1,k2,a,l1,l2⟩:=c.fr.mem x hx
  obtain ⟨m',_,hl⟩:=I.loc
  obtain ⟨u,r,l⟩:=hl j x v n1 n2 (.inr (.inl k1))
  refine ⟨u,r,.inr ⟨.inl k2,a,(by
   have hne:x≠xc:=λ e=>c.nx (e▸hx)
   show ((xc,C+1)::cl).lookup x=some a
   rw [Gr,beq_false_of_ne hne]; exact l1),?_⟩⟩
  rcases l with ⟨l,_⟩ | ⟨_,a',l3,o,l4,l5⟩
  ·rw [k1] at l; cases l
  ·rw [l2] at l3; cases l3
   exact ⟨o,hk _ _ l4,l5⟩
 ·rcases hcl2 x a e with ⟨_,e2⟩ | ⟨e1,e2⟩
  ·rw [e2]; exact ⟨none,hcel⟩
  ·obtain ⟨v,o,q1,q2⟩:=I.cell x a e1
   exact ⟨v,o,hk _ _ q1,q2⟩
 ·have hp':p∈pins':=by simpa [aG] using hp
  obtain ⟨q1,q2,q3,q4⟩:=hpin p hp'
  exact ⟨q1,I.hok.fresh q2,q3,λ z=>by
   rcases Er.mp (I.stkSub p.1 z) with e | e
   ·exact absurd (Ez I.lt q2) (by rw [e]; exact E7 _)
   ·exact I.nofs q2 e,q4⟩
 ·show (cU tgs ix σ).length=N.length
  unfold cU
  have e:=congrArg Hk c.ixs
  simp only [Ed] at e
  rw [c.nm]; simp [e]
theorem t9 {te:TE} (c:CompOkC X N tgs frs ix scope cl xc) (hc:X.calm=true) (hi:PI X tg iter wi)
  (hg:∀ fp C s H,PG (aG X N scope cl xc fp C s H) tg g) (he:∀ fp C s H,PE (aG X N scope cl xc fp C s H) elt te)
  (hs:∀ x,foldedSetIterable iter X.env x=pure x:=by intro _; rfl) :
  PE X (.ListComp elt [⟨tg,iter,[],0⟩] scope pos) (mL wi g te tgs ix):=by
 intro pins s σ H Q I h
 rw [eval_ListComp]
 refine wpAny_comprehension_free (use:=none) rfl hs c.clos c.kind c.names (thn (hi pins s σ H _ I h) λ xv s1 h1=>thn h1 λ itv s2 h2=>?_)
 obtain ⟨it,fp,tn,J,H2,rfl,I2,T,st2,f2,W,⟨m0,w0⟩,turn⟩:=h2
 have hfl:∀ b∈fp,b<s2.heap.objs.size:=λ b hb=>by
  obtain ⟨o,e,_⟩:=T.obj _ _ st2 b hb
  exact Ei e
 have hcn:∀ x a,cl.lookup x=some a->X.env.cells.lookup x=some a:=c.cls.get
 refine wpAny_newObj_type (jH c.cells c.push ?_)
 dsimp only
 generalize hH2:s2.heap.push { cls:=.type "list",dict:=none,data:=.seq ([]:List Value).toArray }=G2
 have hC:G2.objs.size=s2.heap.objs.size+1:=by rw [<-hH2,Fg]
 have hns0:((G2.push { cls:=.type "dict",data:=.dict #[] }).push { cls:=.type "cell",data:=.cell none }).Ns G2.objs.size (λ _=>none):=(L8 G2 (.type "dict")).keeps λ b o e=>Ec _ e
 have hcel0:((G2.push { cls:=.type "dict",data:=.dict #[] }).push { cls:=.type "cell",data:=.cell none }).IsCell (G2.objs.size+1) none:=by
  have:=Ek (G2.push { cls:=.type "dict",data:=.dict #[] }) (o:={ cls:=.type "cell",data:=.cell none }) rfl
  rw [Fg] at this
  exact ⟨_,this,rfl⟩
 have old:∀ b o,s2.heap.get? b=some o->((G2.push { cls:=.type "dict",data:=.dict #[] }).push { cls:=.type "cell",data:=.cell none }).get? b=some o:=λ b o e=>Ec _ (Ec _ (hH2▸Ec _ e))
 have hacc0:((G2.push { cls:=.type "dict",data:=.dict #[] }).push { cls:=.type "cell",data:=.cell none }).get? s2.heap.objs.size=some (ax [] 0):=Ec _ (Ec _ (hH2▸Ek _ rfl))
 show codeAny (model X.prog X.w) X.A (.compStart (.ListComp elt [⟨tg,iter,[],0⟩] scope pos) 0 (.ref it) (.ref s2.heap.objs.size) (compEnvC scope ((xc,G2.objs.size+1)::cl) G2.objs.size X.env)) (compPost (model X.prog X.w) X.A X.xe none (EP X pins σ Q) (.ref s2.heap.objs.size) G2.objs.size) { s2 with heap:=(G2.push { cls:=.type "dict",data:=.dict #[] }).push { cls:=.type "cell",data:=.cell none } }
 generalize (G2.push { cls:=.type "dict",data:=.dict #[] }).push { cls:=.type "cell",data:=.cell none }=h1 at hns0 hcel0 old hacc0 ⊢
 generalize hCC:G2.objs.size=C at *
 generalize hDD:s2.heap.objs.size=D at *
 have hDC:D≠C:=by lia
 have hCle:D<=C:=by lia
 have hns1:=hns0
 have hacc:=hacc0
 have cellD:∀ x a,X.env.cells.lookup x=some a->a<D:=λ x a e=>by
  obtain ⟨v,q⟩:=I2.cell x a e
  exact hDD▸q.lt
 have fpc:∀ {H':Hp} {us:List Value} {k:Nat},(∀ b∈fp,H' b=none)->∀ b∈fp,mt (aG X N scope cl xc fp C s2 H2) [(D,ax us k)] H' b:=λ {H' us k} hn b hb=>by
  have lb:=hfl b hb
  refine ⟨hn b hb,?_,λ z=>?_,.inl hb,λ x a e z=>?_,λ p hp=>?_⟩
  ·exact Eo (Ez lb hCle)
  ·rcases Er.mp (I2.stkSub b z) with e | e
   ·exact (f2 b hb).2.1 e
   ·exact (f2 b hb).2.2.1 e
  ·rcases eL e with ⟨_,e2⟩ | ⟨_,e1⟩
   ·exact absurd z (by rw [e2]; exact ES (Ez lb (Io hCle)))
   ·exact (f2 b hb).2.2.2.2.1 x a (hcn x a e1) z
  ·have:p=(D,ax us k):=by simpa [aG] using hp
   rw [this]; exact ES lb
 have D_fs:D∉(aG X N scope cl xc fp C s2 H2).fs:=λ z=>by
  rcases Er.mp (I2.stkSub D z) with e | e
  ·exact absurd I2.lt (by rw [<-e,hDD]; exact E7 _)
  ·exact I2.nofs (Fc hDD) e
 have I3:=lv (tk:=s2.toks) (pins':=[(D,ax [] 0)]) c I2 f2 (λ b hb=>hDD▸hfl b hb) (hDD▸hCle:s2.heap.objs.size<=C) hns1 old hcel0 (λ p hp=>by
  have e:p=(D,ax [] 0):=by simpa using hp
  subst e
  exact ⟨hacc,Fc hDD,hDC,λ v z=>by cases z⟩)
 have tn3:tn 0 h1:=T.keep _ _ _ st2 λ b _ o e=>old b o e
 have loop:codeAny (model X.prog X.w) X.A (.compLoop (.ListComp elt [⟨tg,iter,[],0⟩] scope pos) 0 (.ref it) (.ref D) (compEnvC scope ((xc,C+1)::cl) C X.env))
   (compPost (model X.prog X.w) X.A X.xe none (EP X pins σ Q) (.ref D) C) { s2 with heap:=h1,toks:=s2.toks }:=by
  refine eJ (λ n s'=>∃ i xs us k σc H',Inv (aG X N scope cl xc fp C s2 H2) [(D,ax us k)] σc H' s'/\tn i s'.heap/\(∀ b∈fp,H' b=none)/\Vals xs us/\W i n xs σc H') ?_ m0
   ⟨0,[],[],0,_,H2,I3,tn3,λ b hb=>(f2 b hb).1,.nil,w0⟩
  rintro n s4 ⟨i,xs,us,k,σ4,H4,I4,tn4,fr4,rv,w4⟩
  obtain ⟨hsz,tt⟩:=turn i n xs σ4 H4 w4
  rcases tt with ⟨stop,fin⟩ | ⟨go,step⟩
  ·refine thn (T.done (aG X N scope cl xc fp C s2 H2) rfl rfl rfl hc i _ s4 σ4 H4 _ I4 (fpc fr4) tn4 stop) λ r s5 ⟨hr,I5⟩=>?_
   subst hr
   obtain ⟨m,ns,_⟩:=I5.loc
   refine ⟨m,ns,λ h' sb=>?_⟩
   have J1:Inv X pins σ H4 s5:=I2.call' I5.os I5.base I5.hok I5.bare λ b hb=>⟨(f2 b hb).2.2.2.1,(f2 b hb).2.1,(f2 b hb).2.2.2.2.1,(f2 b hb).2.2.2.2.2⟩
   have big:∀ a,D<=a->a≠X.env.locals/\(a∈X.ex\/X.s₀.heap.objs.size<=a)/\(∀ x y,X.env.cells.lookup x=some y->y≠a)/\∀ p∈X.pn++pins,p.1≠a:=λ a ha=>by
    obtain ⟨q0,q1,q2,q3,q4,q5⟩:=I2.fpOk (b:=a) (H':=λ _=>none) (hDD▸ha) rfl
    exact ⟨q1,q3,q4,q5⟩
   obtain ⟨b1,b2,b3,b4⟩:=big C hCle
   have J2:Inv X pins σ H4 { s5 with heap:=h' }:=J1.turned (t':=s5.toks) (λ b o hb e=>sb.extBut b o hb e) I5.free b1 b2 b3 b4
   obtain ⟨p1,p2,p3,p4,p5⟩:=I5.pin (D,ax us k) (by simp)
   obtain ⟨d1,d2,d3,d4⟩:=big D (Eh _)
   have J3:Inv X pins σ (upd H4 D (.lst xs)) { s5 with heap:=h' }:=J2.adopt p2 d1 d2 d3 d4 ⟨E5 hsz,us,k,rv,sb.extBut _ _ hDC p1⟩
   exact ⟨.ref D,_,J3,rfl,fin D p2⟩
  ·refine thn (T.item (aG X N scope cl xc fp C s2 H2) rfl rfl rfl hc i _ s4 σ4 H4 _ I4 (fpc fr4) tn4 go) λ r s5 ⟨u,hr,h5⟩=>?_
   subst hr
   refine thn h5 λ _ s6 ⟨x,H6,I6,r6,y6,tn6,fr6⟩=>?_
   have I6':=I6.pinned (fpc fr6) (T.obj _ _ tn6)
   refine thn (hg fp C s2 H2 _ s6 σ4 H6 x u _ I6' r6 (step x H6 y6)) λ _ s7 ⟨σ7,H7,I7,q7⟩=>?_
   refine thn (he fp C s2 H2 _ s7 σ7 H7 _ I7 q7) λ yv s8 ⟨y,H8,I8,r8,m',hm,w8⟩=>?_
   obtain ⟨p1,p2,p3,p4,p5⟩:=I8.pin (D,ax us k) (by simp [aG])
   have hsz':us.toArray.size<=sizeLine:=by simp; rw [<-rv.length]; exact E5 hsz
   refine wpAny_list_append_plain (hsz:=hsz') ⟨k,p1⟩ λ h' pl sb=>?_
   have tn8:tn (i+1) s8.heap:=T.keep _ _ _ tn6 λ b hb o e=>(I8.pin (b,o) (Eg _ (Eg _ (aD hb e)))).1
   have fr8:∀ b∈fp,H8 b=none:=λ b hb=>by
    obtain ⟨o,e,d⟩:=T.obj _ _ tn6 b hb
    exact (I8.pin (b,o) (Eg _ (Eg _ (aD hb e)))).2.1
   have I9:Inv (aG X N scope cl xc fp C s2 H2) [] σ7 H8 s8:=I8.pins_of λ p hp=>nomatch hp
   have I10:Inv (aG X N scope cl xc fp C s2 H2) [] σ7 H8 { s8 with heap:=h' }:=I9.turned (t':=s8.toks) (it:=D) (λ b o hb e=>sb.extBut b o hb e) p2 p3 (.inr (Fc hDD))
    (λ x a e=>by
     rcases eL e with ⟨_,e2⟩ | ⟨_,e1⟩
     ·rw [e2]; exact ES (J9 hCle)
     ·exact Eo (cellD x a (hcn x a e1))) (λ p hp=>by simp [aG] at hp)
   obtain ⟨k',pl⟩:=pl
   have eu:us.toArray.push yv=(us++[yv]).toArray:=by simp
   rw [eu] at pl
   have I11:Inv (aG X N scope cl xc fp C s2 H2) [(D,ax (us++[yv]) k')] σ7 H8 { s8 with heap:=h' }:=I10.pins_of λ p hp=>by
    have e:p=(D,ax (us++[yv]) k'):=by simpa using hp
    subst e
    exact ⟨pl,p2,p3,p4,λ v z=>by cases z⟩
   exact ⟨m',hm,i+1,xs++[y],us++[yv],k',σ7,H8,I11,T.keep _ _ _ tn8 λ b hb o e=>sb.extBut b o (Eo (hfl b hb)) e,fr8,rv.append (.cons r8 .nil),w8⟩
 exact codeAny_compStart_list loop (T.self _ 0 _ _ _ tn3 loop)
theorem ua {te:TE} (c:CompOkC X N tgs frs ix scope cl xc) (hc:X.calm=true) (hi:QI X tg iter wi)
  (hg:∀ fp C s H,QG (aG X N scope cl xc fp C s H) tg g) (he:∀ fp C s H,QE (aG X N scope cl xc fp C s H) elt te)
  (hs:∀ x,foldedSetIterable iter X.env x=pure x:=by intro _; rfl) :
  QE X (.ListComp elt [⟨tg,iter,[],0⟩] scope pos) (mL wi g te tgs ix):=⟨t9 c hc hi.out (λ fp C s H=>(hg fp C s H).out) (λ fp C s H=>(he fp C s H).out) hs⟩
end
section
variable {X:Cx} {e o b:Expr} {to tb te:TE} {pos tpos:Pos}
noncomputable def zD (K:Ee):R2:=λ x y H Q=>∃ a b xs,x=.ref a/\y=.ref b/\SqL K H a xs/\SqL K H b []/\Q (.bl (!decide (xs=[]))) H
theorem qB {K:Ee} (hu:X.A.units<cLine) (hK:X.K=K:=by rfl):QOp X (compareOp .NotEq) (zD K):=by
 subst hK
 refine ⟨λ pins s σ H x y v u Q I rx ry h=>?_⟩
 obtain ⟨a,b,xs,rfl,rfl,ha,hb,q⟩:=h
 cases rx; cases ry
 obtain ⟨its,r1,p1,z1⟩:=I.list ha
 obtain ⟨its2,r2,p2,z2⟩:=I.list hb
 have l1:its.toArray.size=xs.length:=by have:=r1.length; simp; lia
 have l2:its2.toArray.size=0:=by have:=r2.length; simp at this; simp [this]
 by_cases hx:xs=[]
 ·subst hx
  refine Mq (e:=λ _=>true) p1.isList p2.isList (by rw [l1,l2]; rfl) hu (λ j h1 h2=>absurd h2 (by lia)) X.prog X.w X.xe _ ?_
  rw [l1]
  exact ⟨.bl false,H,I,rfl,q⟩
 ·refine Le p1.isList p2.isList (by rw [l1,l2]; have:=Ft.mpr hx; simp; exact hx) hu X.prog X.w X.xe _ ?_
  rw [decide_eq_false hx] at q
  exact ⟨.bl true,H,I,rfl,q⟩
noncomputable def zE (K:Ee):V->V->Hp->VK->Prop:=λ o i H Q=>∃ a xs k v,o=.ref a/\i=.int k/\SqL K H a xs/\0<=k/\xs[k.toNat]? = some v/\Q v H
theorem ub:Bz X (zE X.K):=by
 intro pins s σ H o i ov iv Q I ro ri h
 obtain ⟨a,xs,k,v,rfl,rfl,hq,h0,hv,q⟩:=h
 cases ro
 obtain ⟨t,rfl⟩:=ri
 obtain ⟨its,r,pl,hz⟩:=I.list hq
 obtain ⟨w,ew,rw'⟩:=r.get hv
 have hl:=bQ hv
 have hn:=fZ
 exact wpAny_getItem_list pl.isList h0 (by lia) (by simpa using ew) ⟨v,H,I,rw',q⟩
theorem uc {K:Ee} (ho:QE X o to) (hi:QE X b tb) (he:QE X e te) (ha:∀ ov iv new,augStore b ov iv new=(do holding [new,ov,iv] (setItem ov iv new); release [new,ov,iv] []; pure .next):=by intros; rfl) (hK:X.K=K:=by rfl) :
  QS X (.AugAssign (.Subscript o b tpos) .Add e pos) (tj to tb te (zE K) (ipI λ i j=>i+j) oU):=by subst hK; exact ⟨pK ho.out hi.out ub he.out vm jT ha⟩
end
section
variable {K:Ee} {σ:St} {H:Hp} {Q:VK} {D:Ends}
theorem Ck {te:TE} {tget:V->V->Hp->VK->Prop} {tip:TIp} {tset:wm} (h:to σ H λ o H1=>ti σ H1 λ i H2=>tget o i H2 λ x H3=>te σ H3 λ y H4=>tip x y H4 λ z H5=>tset o i z H5 λ H6=>D.nx σ H6):tj to ti te tget tip tset D σ H:=h
theorem Dp {r:V->List V->Hp->VK->Prop} {T:String} (h:to σ H λ x H1=>tyV K T x H1/\r x [] H1 Q):BR K T r to σ H Q:=h
theorem A9 {te:TE} {tgs:List Str} {ix:List Nat} (h:wi σ H λ J H1=>
 ∃ W:Nat->Nat->List V->St->Hp->Prop,(∃ m,W 0 m [] (cU tgs ix σ) H1)/\∀ i m xs σc H,W i m xs σc H->xs.length<sizeLine/\
  ((J.stop i H/\∀ p,H p=none->Q (.ref p) (upd H p (.lst xs)))\/(J.go i H/\∀ x H',J.yld i H x H'->g x σc H' λ σ2 H2=>tc σ2 H2 λ b H3=>if b=true then te σ2 H3 λ y H4=>∃ m',m'<m/\W (i+1) m' (xs++[y]) σ2 H4 else ∃ m',m'<m/\W (i+1) m' xs σ2 H3))):iM wi g tc te tgs ix σ H Q:=h
theorem lw {te:TE} {σ0:St} {R:List V->Hp->Prop} (Pv:Nat->List V->St->Hp->Prop) (hz:vs.length<sizeLine) (hl:∀ i ys σ H,Pv i ys σ H->ys.length<=i) (ht:∀ i ys σ H,Pv i ys σ H->SqL K H a vs) (h0:Pv 0 [] σ0 H)
  (hs:∀ i ys σ H x,vs[i]? = some x->Pv i ys σ H->g x σ H λ σ2 H2=>tc σ2 H2 λ b H3=>if b=true then te σ2 H3 λ y H4=>Nx vs.length i (Pv (i+1) (ys++[y]) σ2 H4) else Nx vs.length i (Pv (i+1) ys σ2 H3)) (hd:∀ ys σ H,Pv vs.length ys σ H->R ys H) :
  ∃ W:Nat->Nat->List V->St->Hp->Prop,(∃ m,W 0 m [] σ0 H)/\∀ i m xs σc H,W i m xs σc H->xs.length<sizeLine/\
  (((Itl K a).stop i H/\R xs H)\/((Itl K a).go i H/\∀ x H',(Itl K a).yld i H x H'->g x σc H' λ σ2 H2=>tc σ2 H2 λ b H3=>if b=true then te σ2 H3 λ y H4=>∃ m',m'<m/\W (i+1) m' (xs++[y]) σ2 H4 else ∃ m',m'<m/\W (i+1) m' xs σ2 H3)):=by
 refine ⟨λ i m xs σ H=>m=vs.length - i/\i<=vs.length/\Pv i xs σ H,⟨vs.length,by simp,EI _,h0⟩,?_⟩
 rintro i m xs σ H ⟨rfl,hi,p⟩
 have q:=ht i xs σ H p
 refine ⟨Fe (Fb (hl i xs σ H p) hi) hz,?_⟩
 by_cases hlt:i<vs.length
 ·refine .inr ⟨⟨vs,vs[i],q,by simp [hlt]⟩,λ x H' y=>?_⟩
  obtain ⟨e,y⟩:=y
  subst e
  exact hs i xs σ _ x (y vs q) p
 ·have e:i=vs.length:=by lia
  subst e
  exact .inl ⟨⟨vs,q,Eh _⟩,hd xs σ H p⟩
end
noncomputable def cnt (os:List Nat) (b:Nat):List Nat:=(Eu b).map λ f=>os.count f
theorem fI (os:List Nat) (b:Nat):(cnt os b).length=b:=by simp [cnt]
theorem j6 {os:List Nat} {f:Nat} (h:f<b):(cnt os b)[f]? = some (os.count f):=by
 unfold cnt
 rw [El,FE h]; rfl
theorem ud {os:List Nat} {x:Nat} (h:x<b):(cnt os b).set x (os.count x+1)=cnt (os++[x]) b:=by
 apply List.ext_getElem?
 intro i
 rw [List.getElem?_set]
 by_cases hi:i<b
 ·rw [j6 hi,j6 hi,GC,fI]
  by_cases e:x=i
  ·subst e; rw [if_pos rfl,if_pos h]; simp
  ·rw [if_neg e]
   have:List.count i [x]=0:=Ga.mpr (by simp; exact λ z=>e z.symm)
   rw [this,Nat.add_zero]
 ·rw [Ge (l:=cnt os b) (by rw [fI]; lia),Ge (l:=cnt (os++[x]) b) (by rw [fI]; lia)]
  split
  ·split
   ·rename_i h1 h2; rw [fI] at h2; lia
   ·rfl
  ·rfl
noncomputable def bw (rss:List (List Nat)) (c:Nat):List Nat:=rss.map λ r=>r.getD c 0
noncomputable def cA (rss:List (List Nat)) (w b:Nat):List (List Nat):=(Eu (if rss=[] then 0 else w)).map λ c=>cnt (bw rss c) b
theorem iN (rss:List (List Nat)) (w b:Nat):(cA rss w b).length=if rss=[] then 0 else w:=by simp [cA]
theorem o8 {w:Nat} (h:i<if rss=[] then 0 else w):(cA rss w b).take (i+1)=(cA rss w b).take i++[cnt (bw rss i) b]:=by
 rw [EC]
 unfold cA
 rw [El,FE h]; rfl
theorem qC (os:List Nat) (w:Nat) (h:w<=os.length):mG (NV os) none (some (w:Int))=NV (os.take w):=by
 unfold mG
 rw [HT.mE,HT.nE,aQ,I0 h,G6,JQ]
 unfold NV
 rw [Lf]
theorem zF (m:Nat):Fx ((m:Int) - 1) (-1) (-1)=m:=by
 unfold Fx
 rw [if_neg (by decide)]
 split
 ·rw [show (-(-1):Int)=1 by decide,LN]; lia
 ·lia
theorem zG (h:m<=1000):GP ((m:Int) - 1) (-1) (-1)=true:=by
 unfold GP
 rw [zF]
 simp only [GJ,Fy,IZ,decide_eq_true_eq,beq_iff_eq,show ¬ ((-1:Int) > 0) by decide,if_false]
 refine ⟨?_,?_⟩<;>first | lia | (refine ⟨?_,?_⟩<;>first | lia | (split<;>lia)) | (split<;>lia) | trace_state
noncomputable def Itd (m:Nat):It:=⟨λ i _=>i<m,λ i H x H'=>H'=H/\x=.int ((m - 1 - i:Nat):Int),λ i _=>m<=i⟩
theorem mR {w:World} {K:Ee} (it:Addr) (m:Nat):Turn P w K tg (Itd m) [it] it (λ i h=>IsRangeIter h it (((m:Int) - 1)+(i:Nat)*(-1)) ((m:Int) - (i:Nat)) (-1)) where
 mem:=by simp
 obj:=λ i h st b hb=>by
  have e:b=it:=by simpa using hb
  subst e
  exact ⟨_,st,λ v z=>by
   have z':Ki _=K6 v:=z
   cases z'⟩
 keep:=λ i h h' st k=>k it (by simp) _ st
 item:=by
  intro X hP hw hK hc i pins s σ H E I hf st hg
  subst hP hw hK
  obtain ⟨f0,f1,f2,f3,f4,f5⟩:=hf it (by simp)
  have hi:i<m:=hg
  have W:=Kj (prog:=X.prog) (w:=X.w) (I.ok.hd hc) it ((m:Int) - 1) (-1) m
  refine W.item i s _ _ hg st λ v h' tk hv st' kk=>?_
  obtain ⟨t,rfl⟩:=hv
  have I1:Inv X pins σ H { s with heap:=h',toks:=tk }:=I.turned (λ b o hb e=>kk b o (by simpa using hb) e) f0 f1 f3 f4 f5
  refine ⟨_,rfl,mD (s:={ s with heap:=h',toks:=tk }) (n:="range_iterator") st' rfl rfl (by decide) ⟨.int ((m - 1 - i:Nat):Int),H,I1,⟨t,?_⟩,⟨rfl,rfl⟩,st',λ b hb=>(hf b hb).1⟩⟩
  congr 1
  lia
 done:=by
  intro X hP hw hK hc i pins s σ H E I hf st hg
  subst hP hw hK
  obtain ⟨f0,f1,f2,f3,f4,f5⟩:=hf it (by simp)
  exact wpAny_pyNext_range_end (I.ok.hd hc) st (by have:m<=i:=hg; lia) λ h' eb=>⟨rfl,I.turned (t':=s.toks) (λ b o hb e=>eb b o hb e) f0 f1 f3 f4 f5⟩
 self:=λ _ _ _ _ _ st h=>wpAny_pyIter_rangeiter st h
section
variable {X:Cx} {tg a b c:Expr} {t:TA} {p pos:Pos}
noncomputable def zH (t:TA):TI:=λ σ H R=>t σ H λ vs H1=>∃ m:Nat,vs=[.int ((m:Int) - 1),.int (-1),.int (-1)]/\m<=1000/\R (Itd m) H1
theorem qD (hg:Gl X "range") (hm:X.mg "range" = none) (ha:QA X [a,b,c] t) (hn:bz a=true:=by rfl) (hn2:bz b=true:=by rfl) (hn3:bz c=true:=by rfl):QI X tg (.Call (.Name "range" p) [a,b,c] [] pos) (zH t):=by
 refine ⟨λ pins s σ H R I h=>?_⟩
 have e3:starEach [c] X.env=[(false,eval c X.env)]:=aB hn3
 have e2:starEach [b,c] X.env=[(false,eval b X.env),(false,eval c X.env)]:=by rw [aB hn2,e3]
 refine Call_ (eG I hg hm boot_range (Fk (thn (ha.out pos pins s σ H _ I h) λ us s1 ⟨vs,H1,I1,r1,q1⟩=>?_) (aB hn) (by rw [e2]; rfl)))
 obtain ⟨m,e,hm1,q⟩:=q1
 subst e
 cases r1 with
 | cons r rr=>
  cases rr with
  | cons r' rr=>
   cases rr with
   | cons r'' rr=>
    cases rr
    obtain ⟨t1,rfl⟩:=r
    obtain ⟨t2,rfl⟩:=r'
    obtain ⟨t3,rfl⟩:=r''
    refine call_range_3 (by decide) ?_ (.inl (GX (by decide +kernel)))
    refine wpAny_pyIter_range (Kk ..) (zG hm1) ?_
    have I2:Inv X pins σ H1 { s1 with heap:=s1.heap.push { cls:=.type "range",data:=.fields #[.int ((m:Int) - 1) t1,.int (-1) t2,.int (-1) t3] },toks:=s1.toks }:=I1.kept λ b o e=>Ec _ e
    refine ⟨_,[(s1.heap.push { cls:=.type "range",data:=.fields #[.int ((m:Int) - 1) t1,.int (-1) t2,.int (-1) t3] }).objs.size],_,_,H1,rfl,I2.kept (t':=s1.toks) λ b o e=>Ec _ e,mR _ m,?_,λ b hb=>?_,q⟩
    ·show IsRangeIter _ _ (((m:Int) - 1)+((0:Nat):Int)*(-1)) ((m:Int) - ((0:Nat):Int)) (-1)
     have g1:((m:Int) - 1)+((0:Nat):Int)*(-1)=(m:Int) - 1:=by simp
     have g2:(m:Int) - ((0:Nat):Int)=Fx ((m:Int) - 1) (-1) (-1):=by rw [zF]; simp
     rw [g1,g2]
     exact Ek _ rfl
    ·have e:b=(s1.heap.push { cls:=.type "range",data:=.fields #[.int ((m:Int) - 1) t1,.int (-1) t2,.int (-1) t3] }).objs.size:=by simpa using hb
     subst e
     exact I2.fpOk (Eh _) (I2.hok.fresh (Eh _))
end
theorem Cl {H:Hp} {t:TA} {R:It->Hp->Prop} (h:t σ H λ vs H1=>∃ m:Nat,vs=[.int ((m:Int) - 1),.int (-1),.int (-1)]/\m<=1000/\R (Itd m) H1):zH t σ H R:=h
section
variable {prog:Program} {w:World} {A:Around} {E:Value->Shared->Prop} {s:Shared}
theorem qE {z TI TO:Addr} {xs ys:Array Value} {x y a b:Value} (D:ZipApart z TI TO i1 i2 l1 l2)
  (g0:IsZip s.heap z TI TO .none) (g1:IsPair s.heap TI (.ref i1) (.ref i2)) (g2:IsPair s.heap TO a b) (g3:s.heap.IsTupleIter i1 l1 k) (g4:s.heap.IsTupleIter i2 l2 k) (g5:s.heap.IsTuple l1 xs) (g6:s.heap.IsTuple l2 ys) (g7:xs[k]? = some x) (g8:ys[k]? = some y)
  (hQ:∀ g,IsZip g z TI TO (rawInt s.heap.objs.size)->IsPair g TO x y->g.IsTupleIter i1 l1 (k+1)->g.IsTupleIter i2 l2 (k+1)->IsPair g s.heap.objs.size x y->(∀ c o,c≠z->c≠TO->c≠i1->c≠i2->s.heap.get? c=some o->g.get? c=some o)->Q (.ref s.heap.objs.size) { s with heap:=g }) :
  wpAny (model prog w) A (Builtin.«zip.__next__» ⟨[.ref z],[]⟩) (λ fin s'=>∃ v,fin=.done (.ret v)/\Q v s') E s:=by
 show wpAny _ _ (GA (.ref z) 2 >>= _) _ _ _
 refine wpAny_bind (wpAny_field g0 rfl (x:=.bool false) rfl ?_)
 show wpAny _ _ (GA (.ref z) 3 >>= _) _ _ _
 refine wpAny_bind (wpAny_field g0 rfl (x:=.ref TI) rfl ?_)
 refine wpAny_bind (wpAny_seqItems g1 rfl ?_)
 show wpAny _ _ (FJ (EG z) >>= _) _ _ _
 refine wpAny_bind ?_
 unfold FJ
 refine wpAny_bind (wpAny_field g0 rfl (x:=.none) rfl (wpAny_pure ?_))
 simp only [if_true]
 refine wpAny_bind (wpAny_rule ?_)
 refine wpAny_bind (wpAny_field g0 rfl (x:=.ref TO) rfl ?_)
 refine wpAny_bind (wpAny_setField_rec g0 (by simp) λ a1 b1 c1=>?_)
 have b1:IsZip a1 z TI TO .ellipsis:=b1
 refine wpAny_bind ?_
 simp only [Kt,KO,IY,HJ]
 refine wpAny_bind (wpAny_bind (wpAny_onRaise ?_))
 show wpAny _ _ (Fp (EG i1) >>= _) _ _ _
 refine wpAny_bind (jG (g3.extBut c1.extBut D.i1z) (g5.extBut c1.extBut D.l1z) g7 λ a2 b2 c2=>wpAny_pure ?_)
 have d2:IsPair a2 TO a b:=c2.extBut _ _ D.TOi1 (c1.extBut _ _ D.TOz g2)
 refine wpAny_bind (wpAny_seqItems d2 rfl ?_)
 refine wpAny_bind (wpAny_updateSeq_pair d2 λ a3 b3 c3=>?_)
 have b3:IsPair a3 TO x b:=b3
 refine wpAny_bind (wpAny_letGo (wpAny_pure ?_))
 refine wpAny_bind (wpAny_bind (wpAny_onRaise ?_))
 show wpAny _ _ (Fp (EG i2) >>= _) _ _ _
 refine wpAny_bind (jG (((g4.extBut c1.extBut D.i2z).extBut c2.extBut D.i12.symm).extBut c3.extBut D.TOi2.symm) (((g6.extBut c1.extBut D.l2z).extBut c2.extBut D.l2i1).extBut c3.extBut D.l2TO) g8 λ a4 b4 c4=>wpAny_pure ?_)
 have d4:IsPair a4 TO x b:=c4.extBut _ _ D.TOi2 b3
 refine wpAny_bind (wpAny_seqItems d4 rfl ?_)
 refine wpAny_bind (wpAny_updateSeq_pair d4 λ a5 b5 c5=>?_)
 have b5:IsPair a5 TO x y:=b5
 refine wpAny_bind (wpAny_letGo (wpAny_pure (wpAny_pure ?_)))
 refine wpAny_bind (wpAny_seqItems b5 rfl ?_)
 refine wpAny_bind (wpAny_newTuple ?_)
 have sz:a5.objs.size=s.heap.objs.size:=by rw [c5.1,c4.1,c3.1,c2.1,c1.1]
 have z5:IsZip a5 z TI TO .ellipsis:=c5.extBut _ _ D.TOz.symm (c4.extBut _ _ D.i2z.symm (c3.extBut _ _ D.TOz.symm (c2.extBut _ _ D.i1z.symm b1)))
 have k5:∀ c o,c≠z->c≠TO->c≠i1->c≠i2->s.heap.get? c=some o->a5.get? c=some o:=λ c o n1 n2 n3 n4 e=>c5.extBut _ _ n2 (c4.extBut _ _ n4 (c3.extBut _ _ n2 (c2.extBut _ _ n3 (c1.extBut _ _ n1 e))))
 have p5:a5.IsTupleIter i1 l1 (k+1):=((b2.extBut c3.extBut D.TOi1.symm).extBut c4.extBut D.i12).extBut c5.extBut D.TOi1.symm
 have q5:a5.IsTupleIter i2 l2 (k+1):=b4.extBut c5.extBut D.TOi2.symm
 have zl:z<a5.objs.size:=Ei z5
 show wpAny _ _ (GY (EG z) (.ref a5.objs.size) >>= _) _ _ _
 refine wpAny_bind ?_
 unfold GY
 have z6:IsZip (a5.push { cls:=.type "tuple",data:=.seq #[x,y] }) z TI TO .ellipsis:=Ec _ z5
 refine wpAny_bind (wpAny_setField_rec z6 (by simp) λ a7 b7 c7=>?_)
 have b7:IsZip a7 z TI TO (rawInt a5.objs.size):=b7
 refine wpAny_setField_rec b7 (by simp) λ a8 b8 c8=>?_
 have b8:IsZip a8 z TI TO (rawInt a5.objs.size):=b8
 have up:∀ c o,c≠z->a5.get? c=some o->a8.get? c=some o:=λ c o n e=>c8.extBut _ _ n (c7.extBut _ _ n (Ec _ e))
 have t8:IsPair a8 a5.objs.size x y:=c8.extBut _ _ (ES zl) (c7.extBut _ _ (ES zl) (Ek _ rfl))
 rw [sz] at b8 t8
 refine wpAny_pure ⟨_,rfl,?_⟩
 show Q (.ref a5.objs.size) _
 rw [sz]
 have r1:a8.IsTupleIter i1 l1 (k+1):=by obtain ⟨o,e,r⟩:=p5; exact ⟨o,up _ _ D.i1z e,r⟩
 have r2:a8.IsTupleIter i2 l2 (k+1):=by obtain ⟨o,e,r⟩:=q5; exact ⟨o,up _ _ D.i2z e,r⟩
 exact hQ a8 b8 (up _ _ D.TOz b5) r1 r2 t8 λ c o n1 n2 n3 n4 e=>up c o n1 (k5 c o n1 n2 n3 n4 e)
theorem ue {z TI TO:Addr} {xs:Array Value} {Q:Fin->Shared->Prop} (hh:A.handled=none) (D:ZipApart z TI TO i1 i2 l1 l2)
  (g0:IsZip s.heap z TI TO .none) (g1:IsPair s.heap TI (.ref i1) (.ref i2)) (g3:s.heap.IsTupleIter i1 l1 k) (g5:s.heap.IsTuple l1 xs) (g7:xs[k]? = none)
  (hE:∀ g e,(∀ c o,c≠z->c≠i1->s.heap.get? c=some o->g.get? c=some o)->(∃ o,g.get? e=some o/\o.cls=.type "StopIteration")->E (.ref e) { s with heap:=g }) :
  wpAny (model prog w) A (Builtin.«zip.__next__» ⟨[.ref z],[]⟩) Q E s:=by
 show wpAny _ _ (GA (.ref z) 2 >>= _) _ _ _
 refine wpAny_bind (wpAny_field g0 rfl (x:=.bool false) rfl ?_)
 show wpAny _ _ (GA (.ref z) 3 >>= _) _ _ _
 refine wpAny_bind (wpAny_field g0 rfl (x:=.ref TI) rfl ?_)
 refine wpAny_bind (wpAny_seqItems g1 rfl ?_)
 show wpAny _ _ (FJ (EG z) >>= _) _ _ _
 refine wpAny_bind ?_
 unfold FJ
 refine wpAny_bind (wpAny_field g0 rfl (x:=.none) rfl (wpAny_pure ?_))
 simp only [if_true]
 refine wpAny_bind (wpAny_rule ?_)
 refine wpAny_bind (wpAny_field g0 rfl (x:=.ref TO) rfl ?_)
 refine wpAny_bind (wpAny_setField_rec g0 (by simp) λ a1 b1 c1=>?_)
 have b1:IsZip a1 z TI TO .ellipsis:=b1
 refine wpAny_bind ?_
 simp only [Kt,KO,IY,HJ]
 refine wpAny_bind (wpAny_bind (wpAny_onRaise ?_))
 show wpAny _ _ (Fp (EG i1) >>= _) _ _ _
 refine wpAny_bind (qy hh (g3.extBut c1.extBut D.i1z) (g5.extBut c1.extBut D.l1z) g7 λ a2 e c2 he=>?_)
 obtain ⟨oe,e1,e2⟩:=he
 have z2:IsZip a2 z TI TO .ellipsis:=c2 _ _ D.i1z.symm b1
 have ez:e≠z:=λ q=>by
  subst q
  rw [z2] at e1
  cases e1
  simp at e2
 exact wpAny_setField_rec z2 (by simp) λ a3 _ c3=>hE a3 e (λ c o n1 n3 q=>c3.extBut _ _ n1 (c2 _ _ n3 (c1.extBut _ _ n1 q))) ⟨oe,c3.extBut _ _ ez e1,e2⟩
theorem mS {z TI TO:Addr} {xs ys:Array Value} {x y a b:Value} {Q:Option Value->Shared->Prop} (D:ZipApart z TI TO i1 i2 l1 l2)
  (g0:IsZip s.heap z TI TO .none) (g1:IsPair s.heap TI (.ref i1) (.ref i2)) (g2:IsPair s.heap TO a b) (g3:s.heap.IsTupleIter i1 l1 k) (g4:s.heap.IsTupleIter i2 l2 k) (g5:s.heap.IsTuple l1 xs) (g6:s.heap.IsTuple l2 ys) (g7:xs[k]? = some x) (g8:ys[k]? = some y)
  (hQ:∀ g,IsZip g z TI TO (rawInt s.heap.objs.size)->IsPair g TO x y->g.IsTupleIter i1 l1 (k+1)->g.IsTupleIter i2 l2 (k+1)->IsPair g s.heap.objs.size x y->(∀ c o,c≠z->c≠TO->c≠i1->c≠i2->s.heap.get? c=some o->g.get? c=some o)->Q (some (.ref s.heap.objs.size)) { s with heap:=g }) :
  wpAny (model prog w) A (pyNext (.ref z)) Q E s:=by
 have ty:s.TypeIs (.ref z) "zip":=⟨_,g0,rfl⟩
 unfold pyNext
 exact wpAny_bind (wpAny_attempt (wpAny_callSpecial?_slot (name:=E1 "__next__") ty Hx (wpAny_call_entry Hx ty Ku (qE D g0 g1 g2 g3 g4 g5 g6 g7 g8 λ g a1 a2 a3 a4 a5 a6=>wpAny_pure (hQ g a1 a2 a3 a4 a5 a6)) (Ka _))))
theorem o9 {z TI TO:Addr} {xs:Array Value} {Q:Option Value->Shared->Prop} (hh:A.handled=none) (D:ZipApart z TI TO i1 i2 l1 l2)
  (g0:IsZip s.heap z TI TO .none) (g1:IsPair s.heap TI (.ref i1) (.ref i2)) (g3:s.heap.IsTupleIter i1 l1 k) (g5:s.heap.IsTuple l1 xs) (g7:xs[k]? = none)
  (hQ:∀ g,(∀ c o,c≠z->c≠i1->s.heap.get? c=some o->g.get? c=some o)->Q none { s with heap:=g }):wpAny (model prog w) A (pyNext (.ref z)) Q E s:=by
 have ty:s.TypeIs (.ref z) "zip":=⟨_,g0,rfl⟩
 unfold pyNext
 refine wpAny_bind (wpAny_attempt (wpAny_callSpecial?_slot (name:=E1 "__next__") ty Hx (wpAny_call_entry Hx ty Ku (ue hh D g0 g1 g3 g5 g7 λ g e kk he=>?_) (Ka _))))
 obtain ⟨o,e1,e2⟩:=he
 refine wpAny_bind (wpAny_isInstance (T:="StopIteration") (b:=true) ⟨o,e1,e2⟩ isSubtype_stop ?_)
 exact wpAny_pure (hQ _ kk)
noncomputable abbrev zt1 (h:Heap) (l:Addr):Heap:=h.push { cls:=.type "tuple_iterator",data:=.fields #[.ref l,.int 0 0] }
noncomputable abbrev zt2 (h:Heap) (l m:Addr):Heap:=zt1 (zt1 h l) m
noncomputable abbrev zt3 (h:Heap) (l m:Addr):Heap:=(zt2 h l m).push { cls:=.type "tuple",data:=.seq #[.ref h.objs.size,.ref (zt1 h l).objs.size] }
noncomputable abbrev zt4 (h:Heap) (l m:Addr):Heap:=(zt3 h l m).push { cls:=.type "tuple",data:=.seq #[.none,.none] }
noncomputable abbrev zt5 (h:Heap) (l m:Addr):Heap:=(zt4 h l m).push { cls:=.type "zip",data:=.fields #[.none,.bool false,.bool false,.ref (zt2 h l m).objs.size,.ref (zt3 h l m).objs.size] }
theorem w6 (l m:Addr) (xs ys:Array Value):Meets (Builtin.«zip.__new__» ⟨[.type "zip",.ref l,.ref m],[]⟩) (λ _ R s=>s.heap.IsTuple l xs/\s.heap.IsTuple m ys/\R (.ok (.ret (.ref (zt4 s.heap l m).objs.size))) { s with heap:=zt5 s.heap l m }):=
 .of_wp λ prog w A R s h=>by
  obtain ⟨q1,q2,q3,q4,q5⟩:=s
  obtain ⟨a1,a2,h⟩:=h
  have sub:=sub_zip
  have e1:LS (L9 ⟨q1,q2,q3,q4,q5⟩) l xs:=a1
  have e2:LS (L9 ⟨zt1 q1 l,q2,q3,q4,q5⟩) m ys:=Mv a2 _
  wp_walk using wpAny_pyIter_tuple e1,wpAny_pyIter_tuple e2
  exact ⟨_,rfl,h⟩
theorem uf {m:Addr} {xs ys:Array Value} (a1:s.heap.IsTuple l xs) (a2:s.heap.IsTuple m ys)
  (h:∀ g,IsZip g (s.heap.objs.size+4) (s.heap.objs.size+2) (s.heap.objs.size+3) .none->IsPair g (s.heap.objs.size+2) (.ref s.heap.objs.size) (.ref (s.heap.objs.size+1))->IsPair g (s.heap.objs.size+3) .none .none->g.IsTupleIter s.heap.objs.size l 0->g.IsTupleIter (s.heap.objs.size+1) m 0->
   (∀ c o,s.heap.get? c=some o->g.get? c=some o)->Q (.ref (s.heap.objs.size+4)) { s with heap:=g }):wpAny (model prog w) A (call (.type "zip") [.ref l,.ref m]) Q E s:=by
 refine callType_new F.called_zip (by decide) (F.typeCall_zip_2 _ _) (F.newCall_zip_2 _ _) (λ obj=>F.args_object_init_3 obj _ _) F.entry_zip_new (w6 l m xs ys) ⟨a1,a2,?_⟩
 have w1:(zt1 s.heap l).objs.size=s.heap.objs.size+1:=Fg ..
 have w2:(zt2 s.heap l m).objs.size=s.heap.objs.size+2:=by rw [Fg,w1]
 have w3:(zt3 s.heap l m).objs.size=s.heap.objs.size+3:=by rw [Fg,w2]
 have w4:(zt4 s.heap l m).objs.size=s.heap.objs.size+4:=by rw [Fg,w3]
 have r5:(zt5 s.heap l m).get? (zt4 s.heap l m).objs.size=some { cls:=.type "zip",data:=.fields #[.none,.bool false,.bool false,.ref (zt2 s.heap l m).objs.size,.ref (zt3 s.heap l m).objs.size] }:=Ek _ rfl
 have r4:(zt5 s.heap l m).get? (zt3 s.heap l m).objs.size=some { cls:=.type "tuple",data:=.seq #[.none,.none] }:=Ec _ (Ek _ rfl)
 have r3:(zt5 s.heap l m).get? (zt2 s.heap l m).objs.size=some { cls:=.type "tuple",data:=.seq #[.ref s.heap.objs.size,.ref (zt1 s.heap l).objs.size] }:=Ec _ (Ec _ (Ek _ rfl))
 have r2:(zt5 s.heap l m).get? (zt1 s.heap l).objs.size=some { cls:=.type "tuple_iterator",data:=.fields #[.ref m,.int 0 0] }:=Ec _ (Ec _ (Ec _ (Ek _ rfl)))
 have r1:(zt5 s.heap l m).get? s.heap.objs.size=some { cls:=.type "tuple_iterator",data:=.fields #[.ref l,.int 0 0] }:=Ec _ (Ec _ (Ec _ (Ec _ (Ek _ rfl))))
 rw [w2,w3,w4] at r5
 rw [w1,w2] at r3
 rw [w3] at r4
 rw [w1] at r2
 show _/\_
 rw [w4]
 exact ⟨⟨_,r5,rfl⟩,h _ r5 r3 r4 ⟨_,r1,rfl,rfl⟩ ⟨_,r2,rfl,rfl⟩ λ c o q=>Ec _ (Ec _ (Ec _ (Ec _ (Ec _ q))))⟩
end
noncomputable def Cm (K:Ee) (a b:Addr):It:=
 ⟨λ i H=>∃ xs ys x y,SqT K H a xs/\SqT K H b ys/\xs[i]? = some x/\ys[i]? = some y,λ i H v H'=>∃ p x y,v=.ref p/\H p=none/\H'=upd H p (.tup [x,y])/\(∀ xs,SqT K H a xs->xs[i]? = some x)/\∀ ys,SqT K H b ys->ys[i]? = some y,λ i H=>∃ xs,SqT K H a xs/\xs.length<=i⟩
theorem qF {w:World} {K:Ee} {elts:List Expr} (a b z TI TO i1 i2:Addr) (D:ZipApart z TI TO i1 i2 a b) :
  Turn P w K (.Tuple elts k pos) (Cm K a b) [z,TI,TO,i1,i2] z (λ i h=>IsZip h z TI TO .none/\IsPair h TI (.ref i1) (.ref i2)/\(∃ u v,IsPair h TO u v)/\h.IsTupleIter i1 a i/\h.IsTupleIter i2 b i) where
 mem:=by simp
 obj:=λ i h st c hb=>by
  obtain ⟨q1,q2,⟨u,v,q3⟩,⟨o4,q4,_,d4⟩,⟨o5,q5,_,d5⟩⟩:=st
  simp only [Er,ER,or_false] at hb
  rcases hb with rfl | rfl | rfl | rfl | rfl
  ·exact ⟨_,q1,λ v z=>by cases z⟩
  ·exact ⟨_,q2,λ v z=>by cases z⟩
  ·exact ⟨_,q3,λ v z=>by cases z⟩
  ·exact ⟨o4,q4,λ v z=>by rw [d4] at z; cases z⟩
  ·exact ⟨o5,q5,λ v z=>by rw [d5] at z; cases z⟩
 keep:=λ i h h' st kk=>by
  obtain ⟨q1,q2,⟨u,v,q3⟩,⟨o4,q4,r4⟩,⟨o5,q5,r5⟩⟩:=st
  exact ⟨kk z (by simp) _ q1,kk TI (by simp) _ q2,⟨u,v,kk TO (by simp) _ q3⟩,⟨o4,kk i1 (by simp) _ q4,r4⟩,⟨o5,kk i2 (by simp) _ q5,r5⟩⟩
 item:=by
  intro X hP hw hK hc i pins s σ H E I hf st hg
  subst hP hw hK
  obtain ⟨xs,ys,x,y,hqx,hqy,hx,hy⟩:=hg
  obtain ⟨its,rv,p,hz⟩:=I.tuple hqx
  obtain ⟨jts,rw',p',hz'⟩:=I.tuple hqy
  have p:s.heap.IsTuple a its.toArray:=p
  have p':s.heap.IsTuple b jts.toArray:=p'
  obtain ⟨u,hu,ru⟩:=rv.get hx
  obtain ⟨v,hv,rv'⟩:=rw'.get hy
  obtain ⟨q1,q2,⟨u3,v3,q3⟩,q4,q5⟩:=st
  have l1:=Ei q1
  have l2:=Ei q2
  have l3:=Ei q3
  have l4:i1<s.heap.objs.size:=by obtain ⟨o,g,_⟩:=q4; exact Ei g
  have l5:i2<s.heap.objs.size:=by obtain ⟨o,g,_⟩:=q5; exact Ei g
  refine mS D q1 q2 q3 q4 q5 p p' (x:=u) (y:=v) (by simpa using hu) (by simpa using hv) λ h' a1 a2 a3 a4 a5 a7=>⟨_,rfl,wpAny_letOwnedTupleGo_zip a1 λ g hz2 sb=>?_⟩
  obtain ⟨I2,hn⟩:=I.pair (g:=g) (tk:=s.toks) (ch:=[z,TO,i1,i2]) (x:=x) (y:=y) (λ c o hb r=>(sb.2 c (λ e=>hb (by simp [e]))).trans (a7 c o (λ e=>hb (by simp [e])) (λ e=>hb (by simp [e])) (λ e=>hb (by simp [e])) (λ e=>hb (by simp [e])) r)) (λ c hb=>hf c (by simp at hb; rcases hb with e | e | e | e<;>simp [e])) ((sb.2 _ (ES l1)).trans a5) ru rv'
  have r3:g.IsTupleIter i1 a (i+1):=by obtain ⟨o,e,r⟩:=a3; exact ⟨o,(sb.2 i1 D.i1z).trans e,r⟩
  have r4:g.IsTupleIter i2 b (i+1):=by obtain ⟨o,e,r⟩:=a4; exact ⟨o,(sb.2 i2 D.i2z).trans e,r⟩
  refine ⟨.ref s.heap.objs.size,_,I2,rfl,⟨_,x,y,rfl,hn,rfl,λ zs h=>by rw [I.tuple_inj h hqx]; exact hx,λ zs h=>by rw [I.tuple_inj h hqy]; exact hy⟩,⟨hz2,?_,⟨_,_,(sb.2 _ D.TOz).trans a2⟩,r3,r4⟩,λ c hb=>?_⟩
  ·exact (sb.2 _ D.TIz).trans (a7 TI _ D.TIz D.TITO D.TIi1 D.TIi2 q2)
  ·have hc0:=(hf c hb).1
   simp only [Er,ER,or_false] at hb
   have:c<s.heap.objs.size:=by rcases hb with rfl | rfl | rfl | rfl | rfl<;>assumption
   rw [aq (Eo this)]; exact hc0
 done:=by
  intro X hP hw hK hc i pins s σ H E I hf st hg
  subst hP hw hK
  obtain ⟨xs,hqx,hx⟩:=hg
  obtain ⟨its,rv,p,hz⟩:=I.tuple hqx
  have m1:=rv.length
  obtain ⟨q1,q2,_,q4,_⟩:=st
  exact o9 (I.ok.hd hc) D q1 q2 q4 (show s.heap.IsTuple a its.toArray from p) (by simp; lia) λ h' kk=>⟨rfl,I.turnedAll (t':=s.toks) (ch:=[z,i1]) (λ c o hb r=>kk c o (λ e=>hb (by simp [e])) (λ e=>hb (by simp [e])) r) (λ c hb=>hf c (by simp at hb; rcases hb with e | e<;>simp [e]))⟩
 self:=λ _ _ _ _ _ st h=>wpAny_pyIter_zip st.1 h
section
variable {X:Cx} {a b:Expr} {t:TA} {p pos tpos:Pos} {ts:List Expr} {k:Nat}
noncomputable def zI (K:Ee) (t:TA):TI:=λ σ H R=>t σ H λ vs H1=>∃ a b,vs=[.ref a,.ref b]/\(∃ xs,SqT K H1 a xs)/\(∃ ys,SqT K H1 b ys)/\R (Cm K a b) H1
theorem xa {K:Ee} (hg:Gl X "zip") (hm:X.mg "zip" = none) (ha:QA X [a,b] t) (hn:bz a=true:=by rfl) (hn2:bz b=true:=by rfl) (hK:X.K=K:=by rfl):QI X (.Tuple ts k tpos) (.Call (.Name "zip" p) [a,b] [] pos) (zI K t):=by
 subst hK
 refine ⟨λ pins s σ H R I h=>?_⟩
 have e2:starEach [b] X.env=[(false,eval b X.env)]:=aB hn2
 refine Call_ (eG I hg hm (by decide +kernel:bootBuiltins "zip" = some (.type "zip")) (Fk (thn (ha.out pos pins s σ H _ I h) λ us s1 ⟨vs,H1,I1,r1,q1⟩=>?_) (aB hn) (by rw [e2]; rfl)))
 obtain ⟨l,m,e,⟨xs,hq⟩,⟨ys,hq'⟩,q⟩:=q1
 subst e
 cases r1 with
 | cons r rr=>
  cases rr with
  | cons r' rr=>
   cases rr
   cases r; cases r'
   obtain ⟨its,rv,pl,hz⟩:=I1.tuple hq
   obtain ⟨jts,rw',pl',hz'⟩:=I1.tuple hq'
   have pl:s1.heap.IsTuple l its.toArray:=pl
   have pl':s1.heap.IsTuple m jts.toArray:=pl'
   have a1:l<s1.heap.objs.size:=by obtain ⟨o,g,_⟩:=pl; exact Ei g
   have a2:m<s1.heap.objs.size:=by obtain ⟨o,g,_⟩:=pl'; exact Ei g
   refine uf pl pl' λ g h1 h2 h3 h4 h5 h7=>wpAny_pyIter_zip h1 ?_
   have I2:Inv X pins σ H1 { s1 with heap:=g }:=I1.kept (t':=s1.toks) h7
   refine ⟨_,_,_,_,H1,rfl,I2,qF l m _ _ _ _ _ (zipApart_new a1 a2),⟨h1,h2,⟨_,_,h3⟩,h4,h5⟩,λ c hc=>?_,q⟩
   have hle:s1.heap.objs.size<=c:=by
    simp only [Er,ER,or_false] at hc
    rcases hc with rfl | rfl | rfl | rfl | rfl
    ·exact FP _ _
    ·exact FP _ _
    ·exact FP _ _
    ·exact Eh _
    ·exact FP _ _
   exact I1.fpOk hle (I1.hok.fresh hle)
end
theorem Co {K:Ee} {H:Hp} {t:TA} {R:It->Hp->Prop} (h:t σ H λ vs H1=>∃ a b,vs=[.ref a,.ref b]/\(∃ xs,SqT K H1 a xs)/\(∃ ys,SqT K H1 b ys)/\R (Cm K a b) H1):zI K t σ H R:=h
section
variable {X:Cx} {N tgs frs:List Str} {ix:List Nat} {scope:Scope} {cl:List (Str×Addr)}
theorem xb {iy:Nat} {te:TE} (hN:X.N.Nodup) (hy:X.N[iy]? = some y) (hx:Loc X.env.scope y) (c:CompOk X N tgs frs ix scope cl) (hc:X.calm=true) (hi:PI X tg iter wi)
  (hg:∀ fp C s H,PG (aw X N scope cl fp C s H) tg g) (he:∀ fp C s H,PE (aw X N scope cl fp C s H) elt te)
  (hcd:∀ fp C s H,PT (aw X N scope cl fp C s H) cnd tc)
  (hs:∀ x,foldedSetIterable iter X.env x=pure x:=by intro _; rfl)
  (hsw:swapsWith (.ListComp elt [⟨tg,iter,[cnd],0⟩] scope pos) (some (.Name y py)) spos.line X.env=pure true:=by rfl)
  (hf:X.fn y=true\/X.env.scope.names.lookup y=some .local:=by first | exact .inl rfl | exact .inr rfl | assumption) :
  PS X (.Assign [.Name y py] (.ListComp elt [⟨tg,iter,[cnd],0⟩] scope pos) spos) (pD (iM wi g tc te tgs ix) (fq iy)):=by
 intro pins s σ H Dn I h
 rw [exec_Assign_Name_used _ _ _ _ hsw]
 refine wpAny_bind (wpAny_standAt (wpAny_bind ?_))
 show wpAny _ X.A (do let _ <-comprehension (.ListComp elt [⟨tg,iter,[cnd],0⟩] scope pos) scope X.env _ (newList []) false (eval iter X.env) (some (assign (.Name y py) X.env))) _ _ s
 refine wpAny_bind (wpAny_mono (wpAny_comprehension_free (use:=some (assign (.Name y py) X.env)) (Q:=λ _ s'=>SP X pins Dn .next s') rfl hs c.clos c.kind c.names (thn (hi pins s σ H _ I h) λ xv s1 h1=>thn h1 λ itv s2 h2=>?_)) (λ _ s' hq=>wpAny_pure (wpAny_pure hq)) λ _ _ e=>e)
 obtain ⟨it,fp,tn,J,H2,rfl,I2,T,st2,f2,W,⟨m0,w0⟩,turn⟩:=h2
 have hfl:∀ b∈fp,b<s2.heap.objs.size:=λ b hb=>by
  obtain ⟨o,e,_⟩:=T.obj _ _ st2 b hb
  exact Ei e
 have hcn:∀ x a,cl.lookup x=some a->X.env.cells.lookup x=some a:=c.cls.get
 refine wpAny_newObj_type (wpAny_newFunctionEnv c.cell (by intro y hy; simp at hy) (λ h1 hns1 hsb1=>?_) c.kind)
 dsimp only at hns1 hsb1 ⊢
 generalize hH2:s2.heap.push { cls:=.type "list",dict:=none,data:=.seq ([]:List Value).toArray }=G2 at hns1 hsb1 ⊢
 have hC:G2.objs.size=s2.heap.objs.size+1:=by rw [<-hH2,Fg]
 generalize hCC:G2.objs.size=C at *
 generalize hDD:s2.heap.objs.size=D at *
 have hDC:D≠C:=by lia
 have hCle:D<=C:=by lia
 have old:∀ b o,s2.heap.get? b=some o->h1.get? b=some o:=λ b o e=>by
  have lt:b<s2.heap.objs.size:=Ei e
  exact hsb1.extBut b o (Eo (Ez (hDD▸lt) hCle)) (Ec _ (hH2▸Ec _ e))
 have hacc:h1.get? D=some (ax [] 0):=hsb1.extBut _ _ hDC (Ec _ (hH2▸(hDD▸Ek _ rfl)))
 have cellD:∀ x a,X.env.cells.lookup x=some a->a<D:=λ x a e=>by
  obtain ⟨v,q⟩:=I2.cell x a e
  exact hDD▸q.lt
 have fpc:∀ {H':Hp} {us:List Value} {k:Nat},(∀ b∈fp,H' b=none)->∀ b∈fp,mt (aw X N scope cl fp C s2 H2) [(D,ax us k)] H' b:=λ {H' us k} hn b hb=>by
  have lb:=hfl b hb
  refine ⟨hn b hb,?_,λ z=>?_,.inl hb,λ x a e z=>?_,λ p hp=>?_⟩
  ·exact Eo (Ez lb hCle)
  ·rcases Er.mp (I2.stkSub b z) with e | e
   ·exact (f2 b hb).2.1 e
   ·exact (f2 b hb).2.2.1 e
  ·exact (f2 b hb).2.2.2.2.1 x a (hcn x a e) z
  ·have:p=(D,ax us k):=by simpa [aw] using hp
   rw [this]; exact ES lb
 have D_fs:D∉(aw X N scope cl fp C s2 H2).fs:=λ z=>by
  rcases Er.mp (I2.stkSub D z) with e | e
  ·exact absurd I2.lt (by rw [<-e,hDD]; exact E7 _)
  ·exact I2.nofs (Fc hDD) e
 have I3:=io (tk:=s2.toks+([]:List (Str×Value)).length) (pins':=[(D,ax [] 0)]) c I2 f2 (λ b hb=>hDD▸hfl b hb) (hDD▸hCle:s2.heap.objs.size<=C) hns1 old (λ p hp=>by
  have e:p=(D,ax [] 0):=by simpa using hp
  subst e
  exact ⟨hacc,Fc hDD,hDC,λ v z=>by cases z⟩)
 have tn3:tn 0 h1:=T.keep _ _ _ st2 λ b _ o e=>old b o e
 have loop:codeAny (model X.prog X.w) X.A (.compLoop (.ListComp elt [⟨tg,iter,[cnd],0⟩] scope pos) 0 (.ref it) (.ref D) (compEnvC scope cl C X.env))
   (compPost (model X.prog X.w) X.A X.xe (some (assign (.Name y py) X.env)) (λ _ s'=>SP X pins Dn .next s') (.ref D) C) { s2 with heap:=h1,toks:=s2.toks+([]:List (Str×Value)).length }:=by
  refine dA (λ n s'=>∃ i xs us k σc H',Inv (aw X N scope cl fp C s2 H2) [(D,ax us k)] σc H' s'/\tn i s'.heap/\(∀ b∈fp,H' b=none)/\Vals xs us/\W i n xs σc H') ?_ m0
   ⟨0,[],[],0,_,H2,I3,tn3,λ b hb=>(f2 b hb).1,.nil,w0⟩
  rintro n s4 ⟨i,xs,us,k,σ4,H4,I4,tn4,fr4,rv,w4⟩
  obtain ⟨hsz,tt⟩:=turn i n xs σ4 H4 w4
  rcases tt with ⟨stop,fin⟩ | ⟨go,step⟩
  ·refine thn (T.done (aw X N scope cl fp C s2 H2) rfl rfl rfl hc i _ s4 σ4 H4 _ I4 (fpc fr4) tn4 stop) λ r s5 ⟨hr,I5⟩=>?_
   subst hr
   obtain ⟨m,ns,_⟩:=I5.loc
   have J1:Inv X pins σ H4 s5:=I2.call' I5.os I5.base I5.hok I5.bare λ b hb=>⟨(f2 b hb).2.2.2.1,(f2 b hb).2.1,(f2 b hb).2.2.2.2.1,(f2 b hb).2.2.2.2.2⟩
   have big:∀ a,D<=a->a≠X.env.locals/\(a∈X.ex\/X.s₀.heap.objs.size<=a)/\(∀ x y,X.env.cells.lookup x=some y->y≠a)/\∀ p∈X.pn++pins,p.1≠a:=λ a ha=>by
    obtain ⟨q0,q1,q2,q3,q4,q5⟩:=I2.fpOk (b:=a) (H':=λ _=>none) (hDD▸ha) rfl
    exact ⟨q1,q3,q4,q5⟩
   have nfs:∀ a,D<=a->a∉X.fs:=λ a ha=>I2.nofs (hDD▸ha)
   obtain ⟨b1,b2,b3,b4⟩:=big C hCle
   obtain ⟨p1,p2,p3,p4,p5⟩:=I5.pin (D,ax us k) (by simp)
   obtain ⟨d1,d2,d3,d4⟩:=big D (Eh _)
   have J3:Inv X pins σ (upd H4 D (.lst xs)) s5:=J1.adopt p2 d1 d2 d3 d4 ⟨E5 hsz,us,k,rv,p1⟩
   obtain ⟨oC,esC,epC,hoC,hdC,rC⟩:=id ns
   have hHC:(upd H4 D (.lst xs)) C=none:=by rw [aq (Ff hDC)]; exact I5.free
   have J4:Inv X (pins++[(C,oC)]) σ (upd H4 D (.lst xs)) s5:=J3.pins_of λ p hp=>by
    rcases EX.mp hp with z | z
    ·exact J3.pin p (Eg _ z)
    ·have e:p=(C,oC):=by simpa using z
     subst e
     exact ⟨hoC,hHC,b1,nfs C hCle,λ v z=>by rw [hdC] at z; cases z⟩
   show wpAny _ X.A (assign (.Name y py) X.env (.ref D)) _ _ s5
   refine wpAny_assign_Name (cT J4 hN hy hx (v:=.ref D) rfl (λ s6 J5=>?_) hf)
   have hC6:=(J5.pin (C,oC) (Eg _ (Eg _ (by simp)))).1
   refine ⟨m,⟨oC,esC,epC,hC6,hdC,rC⟩,λ h' sb=>?_⟩
   have J6:Inv X pins (σ.set iy (some (.ref D))) (upd H4 D (.lst xs)) s6:=J5.unpinned
   have J7:Inv X pins (σ.set iy (some (.ref D))) (upd H4 D (.lst xs)) { s6 with heap:=h' }:=J6.turned (t':=s6.toks) (λ b o hb e=>sb.extBut b o hb e) hHC b1 b2 b3 b4
   exact ⟨_,_,J7,fin D p2⟩
  ·refine thn (T.item (aw X N scope cl fp C s2 H2) rfl rfl rfl hc i _ s4 σ4 H4 _ I4 (fpc fr4) tn4 go) λ r s5 ⟨u,hr,h5⟩=>?_
   subst hr
   refine thn h5 λ _ s6 ⟨x,H6,I6,r6,y6,tn6,fr6⟩=>?_
   have I6':=I6.pinned (fpc fr6) (T.obj _ _ tn6)
   refine thn (hg fp C s2 H2 _ s6 σ4 H6 x u _ I6' r6 (step x H6 y6)) λ _ s7 ⟨σ7,H7,I7,q7⟩=>?_
   refine thn (hcd fp C s2 H2 _ s7 σ7 H7 _ I7 q7) λ b s7' ⟨H7',I7',q7'⟩=>?_
   cases b with
   | false=>
    rw [if_neg (by decide)] at q7' ⊢
    obtain ⟨m',hm,w8⟩:=q7'
    have tn8:tn (i+1) s7'.heap:=T.keep _ _ _ tn6 λ b hb o e=>(I7'.pin (b,o) (Eg _ (Eg _ (aD hb e)))).1
    have fr8:∀ b∈fp,H7' b=none:=λ b hb=>by
     obtain ⟨o,e,d⟩:=T.obj _ _ tn6 b hb
     exact (I7'.pin (b,o) (Eg _ (Eg _ (aD hb e)))).2.1
    exact ⟨m',hm,i+1,xs,us,k,σ7,H7',I7'.unpinned,tn8,fr8,rv,w8⟩
   | true=>
    rw [if_pos rfl] at q7' ⊢
    refine thn (he fp C s2 H2 _ s7' σ7 H7' _ I7' q7') λ yv s8 ⟨y,H8,I8,r8,m',hm,w8⟩=>?_
    obtain ⟨p1,p2,p3,p4,p5⟩:=I8.pin (D,ax us k) (by simp [aw])
    have hsz':us.toArray.size<=sizeLine:=by simp; rw [<-rv.length]; exact E5 hsz
    refine wpAny_list_append_plain (hsz:=hsz') ⟨k,p1⟩ λ h' pl sb=>?_
    have tn8:tn (i+1) s8.heap:=T.keep _ _ _ tn6 λ b hb o e=>(I8.pin (b,o) (Eg _ (Eg _ (aD hb e)))).1
    have fr8:∀ b∈fp,H8 b=none:=λ b hb=>by
     obtain ⟨o,e,d⟩:=T.obj _ _ tn6 b hb
     exact (I8.pin (b,o) (Eg _ (Eg _ (aD hb e)))).2.1
    have I9:Inv (aw X N scope cl fp C s2 H2) [] σ7 H8 s8:=I8.pins_of λ p hp=>nomatch hp
    have I10:Inv (aw X N scope cl fp C s2 H2) [] σ7 H8 { s8 with heap:=h' }:=I9.turned (t':=s8.toks) (it:=D) (λ b o hb e=>sb.extBut b o hb e) p2 p3 (.inr (Fc hDD))
     (λ x a e=>Eo (cellD x a (hcn x a e))) (λ p hp=>by simp [aw] at hp)
    obtain ⟨k',pl⟩:=pl
    have eu:us.toArray.push yv=(us++[yv]).toArray:=by simp
    rw [eu] at pl
    have I11:Inv (aw X N scope cl fp C s2 H2) [(D,ax (us++[yv]) k')] σ7 H8 { s8 with heap:=h' }:=I10.pins_of λ p hp=>by
     have e:p=(D,ax (us++[yv]) k'):=by simpa using hp
     subst e
     exact ⟨pl,p2,p3,p4,λ v z=>by cases z⟩
    exact ⟨m',hm,i+1,xs++[y],us++[yv],k',σ7,H8,I11,T.keep _ _ _ tn8 λ b hb o e=>sb.extBut b o (Eo (hfl b hb)) e,fr8,rv.append (.cons r8 .nil),w8⟩
 exact codeAny_compStart_list loop (T.self _ 0 _ _ _ tn3 loop)
theorem xf {te:TE} (hN:X.N.Nodup) (hy:X.N[i]? = some y) (hx:Loc X.env.scope y) (c:CompOk X N tgs frs ix scope cl) (hc:X.calm=true) (hi:QI X tg iter wi)
  (hg:∀ fp C s H,QG (aw X N scope cl fp C s H) tg g) (he:∀ fp C s H,QE (aw X N scope cl fp C s H) elt te) (hcd:∀ fp C s H,QT (aw X N scope cl fp C s H) cnd tc)
  (hs:∀ x,foldedSetIterable iter X.env x=pure x:=by intro _; rfl)
  (hsw:swapsWith (.ListComp elt [⟨tg,iter,[cnd],0⟩] scope pos) (some (.Name y py)) spos.line X.env=pure true:=by rfl)
  (hf:X.fn y=true\/X.env.scope.names.lookup y=some .local:=by first | exact .inl rfl | exact .inr rfl | assumption) :
  QS X (.Assign [.Name y py] (.ListComp elt [⟨tg,iter,[cnd],0⟩] scope pos) spos) (pD (iM wi g tc te tgs ix) (fq i)):=
 ⟨xb hN hy hx c hc hi.out (λ fp C s H=>(hg fp C s H).out) (λ fp C s H=>(he fp C s H).out) (λ fp C s H=>(hcd fp C s H).out) hs hsw hf⟩
end
section
variable {X:Cx} {N tgs frs:List Str} {ix:List Nat} {scope:Scope} {cl:List (Str×Addr)} {xc:Str}
end
section
variable {X:Cx} {e o:Expr} {to te:TE} {t:TA} {pos apos cpos:Pos}
end
section
variable {K:Ee} {σ:St} {H:Hp} {Q:VK} {g:TG} {tc:TT} {te:TE}
theorem iO {J:It} {σ0:St} {R:List V->Hp->Prop} (Pv:Nat->List V->St->Hp->Prop) (hz:n<sizeLine) (hl:∀ i ys σ H,Pv i ys σ H->ys.length<=i) (h0:Pv 0 [] σ0 H) (hgo:∀ i ys σ H,i<n->Pv i ys σ H->J.go i H) (hst:∀ ys σ H,Pv n ys σ H->J.stop n H)
  (hs:∀ i x ys σ H H',i<n->Pv i ys σ H->J.yld i H x H'->g x σ H' λ σ2 H2=>tc σ2 H2 λ b H3=>if b=true then te σ2 H3 λ y H4=>Nx n i (Pv (i+1) (ys++[y]) σ2 H4) else Nx n i (Pv (i+1) ys σ2 H3)) (hd:∀ ys σ H,Pv n ys σ H->R ys H) :
  ∃ W:Nat->Nat->List V->St->Hp->Prop,(∃ m,W 0 m [] σ0 H)/\∀ i m xs σc H,W i m xs σc H->xs.length<sizeLine/\
  ((J.stop i H/\R xs H)\/(J.go i H/\∀ x H',J.yld i H x H'->g x σc H' λ σ2 H2=>tc σ2 H2 λ b H3=>if b=true then te σ2 H3 λ y H4=>∃ m',m'<m/\W (i+1) m' (xs++[y]) σ2 H4 else ∃ m',m'<m/\W (i+1) m' xs σ2 H3)):=by
 refine ⟨λ i m xs σ H=>m=n - i/\i<=n/\Pv i xs σ H,⟨n,by simp,EI _,h0⟩,?_⟩
 rintro i m xs σ H ⟨rfl,hi,p⟩
 refine ⟨Fe (Fb (hl i xs σ H p) hi) hz,?_⟩
 by_cases hlt:i<n
 ·exact .inr ⟨hgo i xs σ H hlt p,λ x H' y=>hs i x xs σ H H' hlt p y⟩
 ·have e:i=n:=by lia
  subst e
  exact .inl ⟨hst xs σ H p,hd xs σ H p⟩
end
section
variable {X:Cx}
end
noncomputable def ug (os:List Nat):List Nat:=os.filter λ m=>decide (0<m)
noncomputable def gi (os:List Nat):Bool:=decide (1<(ug os).length)
noncomputable def gj (os:List Nat) (f:Nat):Nat:=os.countP λ x=>decide (x<f)
theorem pb (os:List Nat) (f:Nat):gj os (f+1)=gj os f+os.count f:=by
 unfold gj
 induction os with
 | nil=>rfl
 | cons x xs ih=>
  rw [IC,IC,List.count_cons,ih]
  by_cases h:x<f
  ·have h1:x≠f:=by lia
   have h2:x<f+1:=by lia
   simp [h,h1,h2]; lia
  ·by_cases h1:x=f
   ·subst h1; simp; lia
   ·have h2:¬ x<f+1:=by lia
    simp [h,h1,h2]
theorem lx (os:List Nat) (b f:Nat) (h:f<=b):((cnt os b).take f).sum=gj os f:=by
 induction f with
 | zero=>simp [gj]
 | succ f ih=>
  rw [EC,j6 (by lia),Gw,ih (by lia),pb]
  simp
theorem qG {xs ys:List Nat} (h:xs.Nodup) (hs:∀ x∈xs,x∈ys) (hl:ys.length<=xs.length):xs.Perm ys:=by
 induction xs generalizing ys with
 | nil=>cases ys with
  | nil=>exact K2 _
  | cons y r=>simp at hl
 | cons x xs ih=>
  have hx:x∈ys:=hs x (EJ ..)
  have hp:=Jr hx
  refine ME (MG x (ih (Fn.mp h).2 (λ z hz=>?_) ?_)) hp.symm
  ·have:z≠x:=λ e=>(Fn.mp h).1 (e▸hz)
   exact (Js this).mpr (hs z (EH _ hz))
  ·rw [ID hx]; simp at hl; lia
theorem xg {os:List Nat} (h:∀ o∈os,o<b):(cnt os b).sum=os.length:=by
 have h1:=lx os b b (Eh _)
 rw [Em (by rw [fI]; exact Eh _)] at h1
 rw [h1]
 unfold gj
 rw [List.countP_eq_length]
 intro o ho
 simpa using h o ho
noncomputable def cB (tss:List (List Nat)):List Nat:=(Eu tss.length).reverse.filter λ c=>gi (tss.getD c [])
noncomputable def ly (tss:List (List Nat)) (i:Nat):List Nat:=((Eu tss.length).reverse.take i).filter λ c=>gi (tss.getD c [])
theorem lz (tss:List (List Nat)):ly tss tss.length=cB tss:=by
 unfold ly cB
 rw [Em (by simp)]
theorem pc {tss:List (List Nat)} (h:i<tss.length):ly tss (i+1)=ly tss i++(if gi (tss.getD (tss.length - 1 - i) [])=true then [tss.length - 1 - i] else []):=by
 unfold ly
 have e:(Eu tss.length).reverse[i]? = some (tss.length - 1 - i):=by
  rw [List.getElem?_reverse (by simpa using h),FC,FE (by lia)]
 rw [EC,e,Gb]
 congr 1
 simp only [Lg]
 split<;>simp_all
theorem lA {tss:List (List Nat)} (i:Nat):(ly tss i).length<=i:=by
 unfold ly
 refine Fb (Fv _ _) ?_
 rw [EV]; lia
theorem qH {tss:List (List Nat)} (h:c∈cB tss):c<tss.length:=by
 unfold cB at h
 have:=(Fa.mp h).1
 simpa using this
noncomputable def qI (tss:List (List Nat)):Nat:=((cB tss).map λ c=>(tss.getD c []).sum).sum
theorem cC (ns:List Nat):(ns.map λ x:Nat=>(x:Int)).sum=((ns.sum:Nat):Int):=by
 induction ns with
 | nil=>rfl
 | cons x xs ih=>simp [ih]
end L2
open L2.Nx renaming mk→MO
open L2.Same renaming refl→MN
namespace HT
open PySem PyProof.Rows
noncomputable def eD:List Int->List Int->Bool
 | [],[]=>true
 | [],_::_=>true
 | _::_,[]=>false
 | x::xs,y::ys=>if x=y then eD xs ys else decide (x<=y)
theorem jI (x y:Int) (xs ys:List Int):eD (x::xs) (y::ys)=if x=y then eD xs ys else decide (x<=y):=rfl
theorem j7:eD [] []=true:=rfl
theorem js (y:Int) (ys:List Int):eD [] (y::ys)=true:=rfl
theorem jt (x:Int) (xs:List Int):eD (x::xs) []=false:=rfl
theorem uh (A:Around) (s:Shared) (a:Int) (t:Tok) (c:Int) (u:Tok) (prog:Program) (w:World) (E:Value->Shared->Prop) (Q:Value->Shared->Prop) (h:Q (.bool (decide (a<=c))) s) :
  wpAny (model prog w) A (richCompare .LtE (.int a t) (.int c u)) Q E s:=
 (Mk h:wpAny (model prog w) A (compareOp .LtE (.int a t) (.int c u)) Q E s)
section
open PySem.SeqAt
open PySem.AutoSeq1 (wpAny_loadPart')
open PySem.MeetsSeq PySem.MeetsSeq2 PySem.MeetsSeq3
theorem j8 (l b:Addr) (items items2:Array Value) (n n2:Nat) (dd dd2:Option Addr) (sl sl2:Array (Option Value)) (ns ms:List Int) (hi:IntsAre items.toList ns) (hj:IntsAre items2.toList ms) :
  Meets (Builtin.«tuple.__le__» ⟨[.ref l,.ref b],[]⟩)
   (λ _ R s=>s.heap.get? l=some { cls:=.type "tuple",dict:=dd,data:=.seq items n,slots:=sl }/\s.heap.get? b=some { cls:=.type "tuple",dict:=dd2,data:=.seq items2 n2,slots:=sl2 }/\
    R (.ok (.ret (.bool (eD ns ms)))) s):=
 .of_wp λ prog w A R s h=>by
  obtain ⟨hp,g,d,tk,os⟩:=s; obtain ⟨hl,hb,h⟩:=h
  have f2:=Iy
  have z1:items.size=ns.length:=by rw [<-hi.length]; simp
  have z2:items2.size=ms.length:=by rw [<-hj.length]; simp
  wp_walk using wpAny_loadPart' hl,wpAny_loadPart' hb,wpAny_forIn_list _ (λ iD b s'=>b.1=none/\s'=⟨hp,g,d,tk,os⟩/\∃ (vs ws:List Value) (ns' ms':List Int),iD=vs.zip ws/\
   IntsAre vs ns'/\IntsAre ws ms'/\ns'.length+items2.size=ms'.length+items.size/\R (.ok (.ret (.bool (eD ns' ms')))) ⟨hp,g,d,tk,os⟩) _
  case turn=>
   rintro ⟨y,x⟩ iD b s' ⟨hb',rfl,vs,ws,ns',ms',hz,hvi,hwi,hlen,hR⟩
   cases hvi with
   | nil=>rw [Il] at hz; cases hz
   | cons a t hvi'=>
    cases hwi with
    | nil=>rw [HN] at hz; cases hz
    | cons c u hwi'=>
     rw [FG] at hz
     injection hz with hyx hrest
     injection hyx with hy hx
     subst hy hx
     rw [jI] at hR
     simp only [EM] at hlen
     obtain ⟨e,he,hiff⟩:=nD A.in1 ⟨hp,g,d,tk,os⟩ a t c u
     refine wpAny_bind (he prog w _ _ ?_)
     cases e with
     | true=>
      rw [if_pos (hiff.mp rfl)] at hR
      wp_walk
      exact ⟨rfl,rfl,_,_,_,_,hrest,hvi',hwi',by lia,hR⟩
     | false=>
      rw [if_neg (λ q=>absurd (hiff.mpr q) EF)] at hR
      have hri:=uh A.in1 ⟨hp,g,d,tk,os⟩ a t c u prog w
      wp_walk using hri
      exact ⟨_,rfl,by simpa using hR⟩
  case fin=>
   rintro ⟨b1,b2⟩ s' ⟨hb',rfl,vs,ws,ns',ms',hz,hvi,hwi,hlen,hR⟩
   simp only at hb'
   subst hb'
   have hv:eD ns' ms'=decide (items.size<=items2.size):=by
    cases hvi with
    | nil=>
     cases hwi with
     | nil=>
      simp only [E4] at hlen
      rw [j7]
      exact (decide_eq_true (by lia)).symm
     | cons c u hw=>
      simp only [E4,EM] at hlen
      rw [js]
      exact (decide_eq_true (by lia)).symm
    | cons a t hv=>
     cases hwi with
     | nil=>
      simp only [E4,EM] at hlen
      rw [jt]
      exact (decide_eq_false (by lia)).symm
     | cons c u hw=>
      rw [FG] at hz
      cases hz
   rw [hv] at hR
   wp_walk
   exact ⟨_,rfl,by simpa [Hv] using hR⟩
  case h=>
   exact ⟨rfl,rfl,items.toList,items2.toList,ns,ms,rfl,hi,hj,by lia,h⟩
end
section
variable {prog:Program} {w:World} {A:Around} {E:Value->Shared->Prop} {s:Shared}
theorem pd {b:Addr} {items2:Array Value} {ns:List Int} (hl:IsTup s.heap l items) (hb:IsTup s.heap b items2) (hi:IntsAre items.toList ns) (hj:IntsAre items2.toList ms)
  (hu:A.units<cLine) (h:Q (.bool (eD ns ms)) s):wpAny (model prog w) A (compareOp .LtE (.ref l) (.ref b)) Q E s:=by
 obtain ⟨⟨cls,dd,data,sl⟩,ho,hc,n,hd⟩:=id hl
 obtain ⟨⟨cls2,dd2,data2,sl2⟩,ho2,hc2,n2,hd2⟩:=id hb
 simp only at hc hd hc2 hd2
 subst hc hd hc2 hd2
 exact richCompare_meets_room (op:=.LtE) ⟨_,ho,rfl⟩ ⟨_,ho2,rfl⟩ PySem.F.slot_tuple_le PySem.F.entry_tuple_le (PySem.F.args_tuple_le_2 _ _) (j8 l b items items2 n n2 dd dd2 sl sl2 ns ms hi hj)
  ⟨ho,ho2,show Gi (eD ns ms)≠Jq/\Q (.bool (eD ns ms)) s from ⟨(λ x=>nomatch x),h⟩⟩ hu
end
theorem lB (ns ms:List Int):eD ns ms=!bp ms ns:=by
 induction ns generalizing ms with
 | nil=>cases ms<;>rfl
 | cons x xs ih=>
  cases ms with
  | nil=>rfl
  | cons y ys=>
   rw [jI,bo]
   by_cases h:x=y
   ·subst h; rw [if_pos rfl,if_pos rfl,ih]
   ·rw [if_neg h,if_neg (Ff h)]
    by_cases g:x<=y
    ·rw [decide_eq_true g,decide_eq_false (by lia)]; rfl
    ·rw [decide_eq_false g,decide_eq_true (by lia)]; rfl
end HT
namespace L2
open PySem PySem.Spec PyProof.Rows
section
variable {X:Cx} {e e2 o:Expr} {to te:TE} {t:TA} {pos apos cpos:Pos}
noncomputable def Cp (K:Ee):R2:=λ x y H Q=>∃ a b ns ms,x=.ref a/\y=.ref b/\SqT K H a (ns.map ML)/\SqT K H b (ms.map ML)/\Q (.bl (HT.eD ns ms)) H
theorem zJ (hu:X.A.units<cLine):OpR X (compareOp .LtE) (Cp X.K):=by
 intro pins s σ H x y v u Q I rx ry h
 obtain ⟨a,b,ns,ms,rfl,rfl,ha,hb,q⟩:=h
 cases rx
 cases ry
 obtain ⟨its,r1,p1,_⟩:=I.tuple ha
 obtain ⟨its2,r2,p2,_⟩:=I.tuple hb
 have i1:IntsAre its.toArray.toList ns:=bR r1
 have i2:IntsAre its2.toArray.toList ms:=bR r2
 exact HT.pd p1 p2 i1 i2 hu ⟨.bl (HT.eD ns ms),H,I,rfl,q⟩
theorem zK {K:Ee} (hu:X.A.units<cLine) (hK:X.K=K:=by rfl):QOp X (compareOp .LtE) (Cp K):=by subst hK; exact ⟨zJ hu⟩
end
theorem qJ {P:PyData->Bool} {PA:List PyData->Bool} (h0:PA []=true) (h1:∀ x xs,PA (x::xs)=(P x && PA xs)):∀ {ds:List PyData},(∀ d∈ds,P d=true)->PA ds=true
 | [],_=>h0
 | d::ds,h=>by rw [h1,h d (EJ ..),qJ h0 h1 λ x hx=>h x (EH _ hx)]; rfl
theorem fJ {n:Nat}:∀ {ds:List PyData},(∀ d∈ds,d.depth<=n)->KP ds<=n
 | [],_=>EI _
 | d::ds,h=>by
  show max d.depth (KP ds)<=n
  have h1:=h d (EJ ..)
  have h2:=fJ (ds:=ds) λ x hx=>h x (EH _ hx)
  lia
section
variable {X:Cx} {pins:List (Addr×Obj)} {σ:St} {H:Hp} {s:Shared}
theorem fK {R:V->PyData->Prop} {h:Heap} (hR:∀ x v d,R x d->RelV x v->∃ as,Reads h v d as):∀ {xs:List V} {its:List Value} {ds:List PyData},Vals xs its->xs.length=ds.length->(∀ (i:Nat) u e,xs[i]? = some u->ds[i]? = some e->R u e)->∃ as,ReadsAll h its ds as
 | _,_,[],.nil,_,_=>⟨[],.nil⟩
 | _,_,d::ds,.cons r rr,hl,hi=>by
  obtain ⟨as,h1⟩:=hR _ _ d (hi 0 _ d rfl rfl) r
  obtain ⟨bs,h2⟩:=fK hR rr (by simpa using hl) λ i u e e1 e2=>hi (i+1) u e e1 e2
  exact ⟨as++bs,.cons h1 h2⟩
 | _,_,_::_,.nil,hl,_=>by simp at hl
 | _,_,[],.cons _ _,hl,_=>by simp at hl
end
section
variable {K:Ee} {σ:St} {H:Hp} {Q:VK}
theorem vC {b:Addr} {ns:List Int} (h1:SqT K H a (ns.map ML)) (h2:SqT K H b (ms.map ML)) (h:Q (.bl (HT.eD ns ms)) H):Cp K (.ref a) (.ref b) H Q:=⟨a,b,ns,ms,rfl,rfl,h1,h2,h⟩
end
noncomputable def aY (a:List Nat):List Int:=a.map λ x:Nat=>(x:Int)
noncomputable def lxt (a b:List Nat):Bool:=HT.bp (aY a) (aY b)
section
variable {X:Cx} {o a b e:Expr} {to ta tb te:TE} {pos p2 tpos:Pos}
end
section
variable {K:Ee} {σ:St} {H:Hp} {Q:VK} {D:Ends}
theorem nW {x y z:V} {R:St->Hp->Prop} (e:H p=some (.tup [x,y,z])) (h:R (((σ.set i (some x)).set j (some y)).set k (some z)) H):AW K 3 (mC (fq i) (mC (fq j) (mC (fq k) AV))) (.ref p) σ H R:=
 ⟨p,_,rfl,MK e,rfl,_,_,rfl,_,_,rfl,_,_,rfl,rfl,h⟩
theorem lC {c:Addr} (h1:H l=some (.lst xs)) (h2:H c=some (.lst ys)) (hz:xs.length+ys.length<=sizeLine) (h:Q .non (upd H l (.lst (xs++ys)))):mJ (.ref l) [.ref c] H Q:=⟨l,c,xs,ys,rfl,rfl,h1,h2,hz,h⟩
end
noncomputable abbrev pe:=Nat×Nat×Nat
noncomputable def TrAt (H:Hp) (qs:List Addr) (ws:List pe):Prop:=qs.length=ws.length/\∀ (i:Nat) q s,qs[i]? = some q->ws[i]? = some s->H q=some (.tup [.int (s.1:Nat),.int (s.2.1:Nat),.int (s.2.2:Nat)])
theorem TrAt.same {H:Hp} {ws:List pe} (h:TrAt H qs ws) (s:Same H H1):TrAt H1 qs ws:=⟨h.1,λ i q t a b=>s _ _ (h.2 i q t a b)⟩
theorem TrAt.own {H:Hp} {ws:List pe} (h:TrAt H qs ws) (hl:H l=some (.lst xs)):TrAt (upd H l (.lst ys)) qs ws:=⟨h.1,λ i q t a b=>by
 have e:=h.2 i q t a b
 rw [aq (jp e hl (by intro c; cases c))]; exact e⟩
theorem TrAt.snoc {H:Hp} {ws:List pe} {q:Addr} {s:pe} (h:TrAt H qs ws) (e:H q=some (.tup [.int (s.1:Nat),.int (s.2.1:Nat),.int (s.2.2:Nat)])):TrAt H (qs++[q]) (ws++[s]):=by
 refine ⟨by simp [h.1],λ i p y a b=>?_⟩
 rcases aL a with ⟨l,a⟩ | ⟨l,a⟩
 ·rcases aL b with ⟨_,b⟩ | ⟨l',b⟩
  ·exact h.2 i p y a b
  ·have:=h.1; lia
 ·rcases aL b with ⟨l',b⟩ | ⟨_,b⟩
  ·have:=h.1; lia
  ·rw [a,b]; exact e
theorem TrAt.app {H:Hp} {rs:List Addr} {ws vs:List pe} (h:TrAt H qs ws) (g:TrAt H rs vs):TrAt H (qs++rs) (ws++vs):=by
 refine ⟨by simp [h.1,g.1],λ i p y a b=>?_⟩
 have hl:=h.1
 by_cases hi:i<qs.length
 ·rw [E2 hi] at a
  rw [E2 (by lia)] at b
  exact h.2 i p y a b
 ·rw [EY (by lia)] at a
  rw [EY (by lia),<-hl] at b
  exact g.2 _ p y a b
noncomputable def Sc (v:V):Prop:=v=.non\/(∃ b,v=.bl b)\/(∃ i,v=.int i)\/∃ x,v=.str x
noncomputable def ThE (H:Hp) (x y:V):Prop:=(Sc x/\y=x)\/∃ t u xs,x=.ref t/\y=.ref u/\H t=some (.tup xs)/\H u=some (.tup xs)/\0<xs.length/\xs.length<=2/\∀ z∈xs,Sc z
section
variable {X:Cx} {e e2 o:Expr} {to te:TE} {t:TA} {pos apos cpos:Pos}
inductive TyC (H:Hp):V->Value->Prop where
 | non:TyC H .non (.type "NoneType")
 | bl (b:Bool):TyC H (.bl b) (.type "bool")
 | int (i:Int):TyC H (.int i) (.type "int")
 | str (x:Str):TyC H (.str x) (.type "str")
 | lst {a:Addr} {xs:List V} (e:H a=some (.lst xs)):TyC H (.ref a) (.type "list")
 | tup {a:Addr} {xs:List V} (e:H a=some (.tup xs)):TyC H (.ref a) (.type "tuple")
noncomputable def ui (K:Ee):RC:=λ xs H Q=>∃ x t tp b,xs=[x,.ref tp]/\H tp=some (.tup [.ty "list",.ty "tuple"])/\TyC H x t/\PySem.W.kitAny K t [.type "list",.type "tuple"]=some b/\Q (.bl b) H
theorem gH {K:Ee} (hK:X.K=K:=by rfl):QC X (.builtin "isinstance") (ui K):=by
 subst hK
 refine ⟨λ pins s σ H xs us Q I r h=>?_⟩
 obtain ⟨x,t,tp,b,rfl,htp,ty,e,q⟩:=h
 cases r with
 | cons rx rr=>
  cases rr with
  | cons ry rr=>
   cases rr
   cases ry
   obtain ⟨_,its,rv,⟨⟨c,dd,dt,sl⟩,g1,g2,n,g3⟩⟩:=(show ObjOk X.prog X.w H s.heap tp (.tup [.ty "list",.ty "tuple"]) from I.hok tp _ htp)
   have g2':c=.type "tuple":=g2
   have g3':dt=.seq its.toArray n:=g3
   subst g2' g3'
   have ei:its=[.type "list",.type "tuple"]:=by
    cases rv with
    | cons r1 rr=>
     cases rr with
     | cons r2 rr=>
      cases rr
      cases r1; cases r2; rfl
   subst ei
   have fin:∀ tk,EP X pins σ Q (.bool b) { s with toks:=tk }:=λ tk=>⟨.bl b,H,I.tok _,rfl,q⟩
   cases ty with
   | non=>cases (show _=E3 from rx); exact Gx JX I.kIn Et g1 e (λ z=>nomatch z) fin
   | bl i=>cases (show _=Gi i from rx); exact Gx JY I.kIn Et g1 e (λ z=>nomatch z) fin
   | int i=>obtain ⟨tt,rfl⟩:=rx; exact Gx Ko I.kIn Et g1 e (λ z=>nomatch z) fin
   | str i=>obtain ⟨tt,rfl⟩:=rx; exact Gx Kp I.kIn Et g1 e (λ z=>nomatch z) fin
   | @lst a xs ea=>
    cases rx
    obtain ⟨_,_,n',_,h1⟩:=(show ObjOk X.prog X.w H s.heap a (.lst xs) from I.hok a _ ea)
    exact Gx Ik I.kIn ⟨_,h1,rfl⟩ g1 e (λ z=>nomatch z) fin
   | @tup a xs ea=>
    cases rx
    obtain ⟨_,_,_,⟨o',h1,h2,_⟩⟩:=(show ObjOk X.prog X.w H s.heap a (.tup xs) from I.hok a _ ea)
    exact Gx JH I.kIn ⟨_,h1,h2⟩ g1 e (λ z=>nomatch z) fin
end
section
variable {K:Ee} {σ:St} {H:Hp} {Q:VK}
theorem j9 {x:V} {tp:Addr} (e:H tp=some (.tup [.ty "list",.ty "tuple"])) (hx:Sc x) (h:Q (.bl false) H):ui K [x,.ref tp] H Q:=by
 rcases hx with rfl | ⟨b,rfl⟩ | ⟨i,rfl⟩ | ⟨s,rfl⟩
 ·exact ⟨_,_,tp,_,rfl,e,.non,rfl,h⟩
 ·exact ⟨_,_,tp,_,rfl,e,.bl b,rfl,h⟩
 ·exact ⟨_,_,tp,_,rfl,e,.int i,rfl,h⟩
 ·exact ⟨_,_,tp,_,rfl,e,.str s,rfl,h⟩
theorem uj {tp:Addr} (s:H p=some (.lst xs)) (e:H tp=some (.tup [.ty "list",.ty "tuple"])) (h:Q (.bl true) H):ui K [.ref p,.ref tp] H Q:=⟨_,_,tp,_,rfl,e,.lst s,rfl,h⟩
theorem uk {tp:Addr} (s:H p=some (.tup xs)) (e:H tp=some (.tup [.ty "list",.ty "tuple"])) (h:Q (.bl true) H):ui K [.ref p,.ref tp] H Q:=⟨_,_,tp,_,rfl,e,.tup s,rfl,h⟩
theorem Ba {b:Bool} (h:Q (.bl true) H):pE K [.bl b,.ty "bool"] H Q:=⟨_,_,_,_,rfl,.bl b,rfl,h⟩
theorem Bb (h:Q (.bl false) H):pE K [.str x,.ty "bool"] H Q:=⟨_,_,_,_,rfl,.str x,rfl,h⟩
theorem Bc (h:Q (.bl true) H):pE K [.str x,.ty "str"] H Q:=⟨_,_,_,_,rfl,.str x,rfl,h⟩
theorem Dq {x y:Bool} (h:Q (.bl (decide (V.bl x=V.bl y))) H):rEq (.bl x) (.bl y) H Q:=⟨rfl,h⟩
end
theorem zL (n:Nat):Fx 0 (n:Int) 2=((n+1) / 2:Nat):=by
 unfold Fx
 rw [if_pos (by decide)]
 split
 ·lia
 ·lia
theorem du {i:Int} (h1:-1000000<=i) (h2:i<=1000000):GJ i=true:=by
 unfold GJ
 rw [Fy]
 exact ⟨decide_eq_true (Int.le_trans (by decide) h1),decide_eq_true (Int.lt_of_le_of_lt h2 (by decide))⟩
theorem zM (h:n<=1000):GP 0 (n:Int) 2=true:=by
 unfold GP
 rw [zL,du (i:=0) (by decide) (by decide),du (i:=(n:Int)) (by lia) (by lia),du (i:=2) (by decide) (by decide),du (i:=(((n+1) / 2:Nat):Int)) (by lia) (by lia),if_pos (by decide),du (i:=(n:Int)+(2 - 1)) (by lia) (by lia),JM]
 rfl
noncomputable def It2 (n:Nat):It:=⟨λ i _=>i<(n+1) / 2,λ i H x H'=>H'=H/\x=.int ((2*i:Nat):Int),λ i _=>(n+1) / 2<=i⟩
theorem mT {w:World} {K:Ee} (it:Addr) (n:Nat):Turn P w K tg (It2 n) [it] it (λ i h=>IsRangeIter h it ((0:Int)+(i:Nat)*2) ((((n+1) / 2:Nat):Int) - (i:Nat)) 2) where
 mem:=by simp
 obj:=λ i h st b hb=>by
  have e:b=it:=by simpa using hb
  subst e
  exact ⟨_,st,λ v z=>by
   have z':Ki _=K6 v:=z
   cases z'⟩
 keep:=λ i h h' st k=>k it (by simp) _ st
 item:=by
  intro X hP hw hK hc i pins s σ H E I hf st hg
  subst hP hw hK
  obtain ⟨f0,f1,f2,f3,f4,f5⟩:=hf it (by simp)
  have hi:i<(n+1) / 2:=hg
  have W:=Kj (prog:=X.prog) (w:=X.w) (I.ok.hd hc) it 0 2 ((n+1) / 2)
  refine W.item i s _ _ hg st λ v h' tk hv st' kk=>?_
  obtain ⟨t,rfl⟩:=hv
  have I1:Inv X pins σ H { s with heap:=h',toks:=tk }:=I.turned (λ b o hb e=>kk b o (by simpa using hb) e) f0 f1 f3 f4 f5
  refine ⟨_,rfl,mD (s:={ s with heap:=h',toks:=tk }) (n:="range_iterator") st' rfl rfl (by decide) ⟨.int ((2*i:Nat):Int),H,I1,⟨t,?_⟩,⟨rfl,rfl⟩,st',λ b hb=>(hf b hb).1⟩⟩
  congr 1
  lia
 done:=by
  intro X hP hw hK hc i pins s σ H E I hf st hg
  subst hP hw hK
  obtain ⟨f0,f1,f2,f3,f4,f5⟩:=hf it (by simp)
  exact wpAny_pyNext_range_end (I.ok.hd hc) st (by have:(n+1) / 2<=i:=hg; lia) λ h' eb=>⟨rfl,I.turned (t':=s.toks) (λ b o hb e=>eb b o hb e) f0 f1 f3 f4 f5⟩
 self:=λ _ _ _ _ _ st h=>wpAny_pyIter_rangeiter st h
section
variable {X:Cx} {tg a b c:Expr} {t:TA} {p pos:Pos}
noncomputable def zN (t:TA):TI:=λ σ H R=>t σ H λ vs H1=>∃ n:Nat,vs=[.int 0,.int (n:Nat),.int 2]/\n<=1000/\R (It2 n) H1
theorem lD (hg:Gl X "range") (hm:X.mg "range" = none) (ha:QA X [a,b,c] t) (hn:bz a=true:=by rfl) (hn2:bz b=true:=by rfl) (hn3:bz c=true:=by rfl):QI X tg (.Call (.Name "range" p) [a,b,c] [] pos) (zN t):=by
 refine ⟨λ pins s σ H R I h=>?_⟩
 have e3:starEach [c] X.env=[(false,eval c X.env)]:=aB hn3
 have e2:starEach [b,c] X.env=[(false,eval b X.env),(false,eval c X.env)]:=by rw [aB hn2,e3]
 refine Call_ (eG I hg hm boot_range (Fk (thn (ha.out pos pins s σ H _ I h) λ us s1 ⟨vs,H1,I1,r1,q1⟩=>?_) (aB hn) (by rw [e2]; rfl)))
 obtain ⟨n,e,hn1,q⟩:=q1
 subst e
 cases r1 with
 | cons r rr=>
  cases rr with
  | cons r' rr=>
   cases rr with
   | cons r'' rr=>
    cases rr
    obtain ⟨t1,rfl⟩:=r
    obtain ⟨t2,rfl⟩:=r'
    obtain ⟨t3,rfl⟩:=r''
    refine call_range_3 (by decide) ?_ (.inl (GX (by decide +kernel)))
    refine wpAny_pyIter_range (Kk ..) (zM hn1) ?_
    have I2:Inv X pins σ H1 { s1 with heap:=s1.heap.push { cls:=.type "range",data:=.fields #[.int 0 t1,.int ((n:Nat):Int) t2,.int 2 t3] },toks:=s1.toks }:=I1.kept λ b o e=>Ec _ e
    refine ⟨_,[(s1.heap.push { cls:=.type "range",data:=.fields #[.int 0 t1,.int ((n:Nat):Int) t2,.int 2 t3] }).objs.size],_,_,H1,rfl,I2.kept (t':=s1.toks) λ b o e=>Ec _ e,mT _ n,?_,λ b hb=>?_,q⟩
    ·show IsRangeIter _ _ ((0:Int)+((0:Nat):Int)*2) ((((n+1) / 2:Nat):Int) - ((0:Nat):Int)) 2
     have g1:(0:Int)+((0:Nat):Int)*2=0:=by simp
     have g2:(((n+1) / 2:Nat):Int) - ((0:Nat):Int)=Fx 0 (n:Int) 2:=by rw [zL]; simp
     rw [g1,g2]
     exact Ek _ rfl
    ·have e:b=(s1.heap.push { cls:=.type "range",data:=.fields #[.int 0 t1,.int ((n:Nat):Int) t2,.int 2 t3] }).objs.size:=by simpa using hb
     subst e
     exact I2.fpOk (Eh _) (I2.hok.fresh (Eh _))
end
theorem Cq {H:Hp} {t:TA} {R:It->Hp->Prop} (h:t σ H λ vs H1=>∃ n:Nat,vs=[.int 0,.int (n:Nat),.int 2]/\n<=1000/\R (It2 n) H1):zN t σ H R:=h
section
variable {X:Cx} {e o b:Expr} {to tb te:TE} {pos tpos:Pos}
noncomputable def zO (K:Ee):V->V->Hp->VK->Prop:=λ o i H Q=>∃ a xs v,o=.ref a/\i=.int (-1)/\SqL K H a xs/\xs.getLast? = some v/\Q v H
theorem qK:Bz X (zO X.K):=by
 intro pins s σ H o i ov iv Q I ro ri h
 obtain ⟨a,xs,v,rfl,rfl,hq,hv,q⟩:=h
 cases ro
 obtain ⟨t,rfl⟩:=ri
 obtain ⟨its,r,pl,hz⟩:=I.list hq
 have hl:=r.length
 have hn:=fZ
 have hne:xs≠[]:=λ z=>by rw [z] at hv; cases hv
 have hpos:0<xs.length:=Ft.mpr hne
 rw [List.getLast?_eq_getElem?] at hv
 obtain ⟨w,ew,rw'⟩:=r.get hv
 have hj:((-1:Int)+(its.toArray.size:Int)).toNat=xs.length - 1:=by rw [Ew]; lia
 exact wpAny_getItem_list_neg pl.isList (by decide) (by rw [Ew]<;>lia) (by decide) (by rw [hj]; simpa using ew) ⟨v,H,I,rw',q⟩
theorem ul {K:Ee} (ho:QE X o to) (hi:QE X b tb) (he:QE X e te) (ha:∀ ov iv new,augStore b ov iv new=(do holding [new,ov,iv] (setItem ov iv new); release [new,ov,iv] []; pure .next):=by intros; rfl) (hK:X.K=K:=by rfl) :
  QS X (.AugAssign (.Subscript o b tpos) .Add e pos) (tj to tb te (zO K) (ipI λ i j=>i+j) oU):=by subst hK; exact ⟨pK ho.out hi.out qK he.out vm jT ha⟩
end
end L2
namespace HT
open PySem PyProof.Rows L2
section
variable {prog:Program} {w:World} {A:Around} {E:Value->Shared->Prop} {s:Shared}
theorem gI {t sl:Addr} {vl vu:Value} {lo hi:Option Int} (ht:IsTup s.heap t items) (hs:s.heap.IsSliceOf sl vl vu .none) (pl:IsPart vl lo) (pu:IsPart vu hi)
  (hw:sIx items.size 0 lo=0/\sIx items.size items.size hi=items.size) (h:Q (.ref t) s):wpAny (model prog w) A (getItem (.ref t) (.ref sl)) Q E s:=by
 obtain ⟨os,hos,hcs,hds⟩:=id hs
 have hTs:s.TypeIs (.ref sl) "slice":=⟨os,hos,hcs⟩
 unfold getItem
 try with_reducible refine wpAny_holding ?_
 first | refine wpAny_bind (wpAny_pure ?_) | skip
 refine wpAny_bind (wpAny_sequenceKey ht.typeIs (by decide) ?_)
 refine wpAny_bind (wpAny_callSpecial?_slot (name:=E1 "__getitem__") ht.typeIs Fm
  (wpAny_call_entry Fm ht.typeIs entry_tuple_getitem ?_ (args_tuple_getitem _ _)))
 show wpAny _ _ (Ic (.ref t) >>= _) _ _ s
 refine wpAny_bind (tupleItemsOf_ ht ?_)
 refine wpAny_bind (wpAny_typeOf hTs ?_)
 rw [if_pos (by decide)]
 refine wpAny_bind (dS hs pl pu ?_)
 have hyes:(((sIx items.size 0 lo:Nat):Int) == 0 && (1:Int) == 1 && (sIx items.size items.size hi - sIx items.size 0 lo) == items.size)=true:=by
  rw [hw.1,hw.2]; simp
 show wpAny _ _ (if (((sIx items.size 0 lo:Nat):Int) == 0 && (1:Int) == 1 && (sIx items.size items.size hi - sIx items.size 0 lo) == items.size)=true then _ else _) _ _ s
 rw [if_pos hyes]
 refine wpAny_bind (wpAny_bind (wpAny_typeOf ht.typeIs (wpAny_pure ?_)))
 rw [if_pos (by decide)]
 refine wpAny_bind (wpAny_rule ?_)
 exact wpAny_pure ⟨_,rfl,wpAny_pure h⟩
end
end HT
namespace L2
open PySem PySem.Spec PyProof.Rows
section
variable {X:Cx} {tg a b:Expr} {t:TA} {p pos:Pos}
noncomputable def zP:V->Option Int->Option Int->Hp->VK->Prop:=λ x lo hi H Q=>∃ a xs,x=.ref a/\H a=some (.tup xs)/\∀ p H',Same H H'->H' p=some (.tup (mG xs lo hi))->Q (.ref p) H'
theorem xh:SlR X zP:=by
 intro pins s σ H x v vl vu lo hi sl Q I rx hs pl pu h
 obtain ⟨a,xs,rfl,hx,q⟩:=h
 by_cases hw:HT.sIx xs.length 0 lo=0/\HT.sIx xs.length xs.length hi=xs.length
 ·cases rx
  obtain ⟨its,r,ht,hz⟩:=I.tuple (MK hx)
  have hlen:its.toArray.size=xs.length:=by rw [Ew]; exact r.length.symm
  refine ⟨"tuple",_,Fm.lookup,ht.typeIs,?_⟩
  refine HT.gI ht hs pl pu (by rw [hlen]; exact hw) ⟨.ref a,H,I,rfl,q a H (MN H) ?_⟩
  rw [hx]
  unfold mG
  rw [hw.1,hw.2,G6,JQ,Em (Eh _)]
 ·exact y8 pins s σ H _ v vl vu lo hi sl Q I rx hs pl pu ⟨a,xs,rfl,MK hx,hw,λ p hp=>q p _ ((MN H).new hp) ab⟩
theorem vD:QSl X zP:=⟨xh⟩
end
section
variable {K:Ee} {σ:St} {H:Hp} {Q:VK}
end
noncomputable def rnd:Nat->List Nat->List pe×List Nat
 | f,a::b::r=>((f,f+a,f+a+b)::(rnd (f+a+b) r).1,(a+b)::(rnd (f+a+b) r).2)
 | _,[a]=>([],[a])
 | _,[]=>([],[])
theorem ka (f a b:Nat) (r:List Nat):rnd f (a::b::r)=((f,f+a,f+a+b)::(rnd (f+a+b) r).1,(a+b)::(rnd (f+a+b) r).2):=by rw [rnd]
theorem kb (f a:Nat):rnd f [a]=([],[a]):=by rw [rnd]
theorem gJ (f:Nat):rnd f []=([],[]):=by rw [rnd]
theorem kc (f:Nat) (ls:List Nat):(rnd f ls).2.length=(ls.length+1) / 2/\(rnd f ls).1.length+(rnd f ls).2.length=ls.length:=by
 induction f,ls using rnd.induct with
 | case1 f a b r ih=>rw [ka]; simp only [EM]; lia
 | case2 f a=>rw [kb]; simp
 | case3 f=>rw [gJ]; simp
noncomputable def gX (ls:List Nat):List pe:=if h:1<ls.length then (rnd 0 ls).1++gX (rnd 0 ls).2 else []
termination_by ls.length
decreasing_by have:=(kc 0 ls).1; lia
theorem lE (h:1<ls.length):gX ls=(rnd 0 ls).1++gX (rnd 0 ls).2:=by rw [gX,dif_pos h]
theorem nX (h:¬ 1<ls.length):gX ls=[]:=by rw [gX,dif_neg h]
noncomputable def brk (rss:List (List Nat)) (k:Nat):Bool:=lxt (rss.getD k []) (rss.getD (k - 1) [])
noncomputable def xi (xs:List Nat):List Nat:=xs.set (xs.length - 1) (xs.getLastD 0+1)
noncomputable def bI (rss:List (List Nat)):Nat->List Nat
 | 0=>[]
 | m+1=>if 0<m/\brk rss m=false then xi (bI rss m) else bI rss m++[1]
theorem lF (xs:List Nat) (a:Nat):xi (xs++[a])=xs++[a+1]:=by
 unfold xi
 rw [ED,FR,HR,List.getLastD_concat]
 simp
theorem lG (rss:List (List Nat)) (m:Nat):bI rss (m+1)≠[]:=by
 induction m with
 | zero=>rw [bI,if_neg (by lia)]; simp
 | succ m ih=>
  rw [bI]
  split
  ·unfold xi
   intro z
   have:=congrArg Hk z
   rw [IV] at this
   exact ih (FK.mp this)
  ·simp
theorem qL {xs:List Nat} (h:xs≠[]):∃ ys a,xs=ys++[a]:=by
 rcases List.eq_nil_or_concat xs with e | ⟨ys,a,e⟩
 ·exact absurd e h
 ·exact ⟨ys,a,by rw [e,List.concat_eq_append]⟩
theorem gk (rss:List (List Nat)) (m:Nat):(bI rss m).length<=m:=by
 induction m with
 | zero=>exact Eh _
 | succ m ih=>
  rw [bI]
  split
  ·unfold xi; rw [IV]; lia
  ·rw [ED,FR]; lia
theorem qM (os:List Nat) (h:i<os.length):mG (NV os) (some ((i:Nat):Int)) (some ((i+2:Nat):Int))=NV ((os.drop i).take 2):=by
 unfold mG
 rw [HT.mE,HT.mE,aQ,I0 (by lia:i<=os.length)]
 unfold NV
 rw [Lf,List.map_drop]
 by_cases g:i+2<=os.length
 ·rw [I0 g]; congr 1; lia
 ·rw [Nat.min_eq_right (by lia),Em (by rw [GK,Ed]; lia),Em (by rw [GK,Ed]; lia)]
end L2
namespace L2
open PySem PySem.Spec PyProof.Rows PySem.W
noncomputable def Sat (N:Nat) (lt:Nat->Nat->Bool) {α:Type}:KasT α->(α->Prop)->Prop
 | .ret a,R=>R a
 | .ask i j k,R=>i<N/\j<N/\Sat N lt (k (lt i j)) R
theorem Sat.mono {N:Nat} {lt:Nat->Nat->Bool} {α:Type} {R R':α->Prop} (hR:∀ a,R a->R' a):∀ (t:KasT α),Sat N lt t R->Sat N lt t R'
 | .ret _,h=>hR _ h
 | .ask i j k,h=>⟨h.1,h.2.1,Sat.mono hR (k (lt i j)) h.2.2⟩
theorem Sat.bind {N:Nat} {lt:Nat->Nat->Bool} {α β:Type} {R:α->Prop} {R':β->Prop} {f:α->KasT β} (hf:∀ a,R a->Sat N lt (f a) R'):∀ (t:KasT α),Sat N lt t R->Sat N lt (t.bind f) R'
 | .ret a,h=>hf a h
 | .ask i j k,h=>⟨h.1,h.2.1,Sat.bind hf (k (lt i j)) h.2.2⟩
theorem Sat.wp {N:Nat} {lt:Nat->Nat->Bool} {α:Type} {R:α->Prop} {I:Shared->Prop} {cmp:Nat->Nat->(Bool->Shared->Prop)->Shared->Prop}
  (hc:∀ i j (C:Bool->Shared->Prop) s,i<N->j<N->I s->(∀ s',I s'->C (lt i j) s')->cmp i j C s) {Q:α->Shared->Prop} :
  ∀ (t:KasT α) (s:Shared),Sat N lt t R->I s->(∀ a s',R a->I s'->Q a s')->t.kasWp cmp Q s
 | .ret a,s,h,hi,hq=>hq a s h hi
 | .ask i j k,s,h,hi,hq=>hc i j _ s h.1 h.2.1 hi λ s' hi'=>Sat.wp hc (k (lt i j)) s' h.2.2 hi' hq
structure Lt (lt:Nat->Nat->Bool):Prop where
 asym:∀ i j,lt i j=true->lt j i=false
 tr:∀ i j k,lt i j=false->lt j k=false->lt i k=false
noncomputable def Ah (lt:Nat->Nat->Bool) (i j:Nat):Prop:=lt j i=false/\(lt i j=false->i<j)
theorem Ah.of_lt {lt:Nat->Nat->Bool} (H:Lt lt) (h:lt i j=true):Ah lt i j:=⟨H.asym i j h,λ h'=>by rw [h] at h'; cases h'⟩
theorem Ah.trans {lt:Nat->Nat->Bool} (H:Lt lt) (a:Ah lt i j) (b:Ah lt j k):Ah lt i k:=by
 refine ⟨H.tr k j i b.1 a.1,λ h=>?_⟩
 have h1:lt i j=false:=H.tr i k j h b.1
 have h2:lt j k=false:=H.tr j i k a.1 h
 exact GZ (a.2 h1) (b.2 h2)
theorem mU {lt:Nat->Nat->Bool} (H:Lt lt) (h:lt i j=true) (h':lt k j=false):lt i k=true:=by
 cases e:lt i k with
 | true=>rfl
 | false=>rw [H.tr i k j e h'] at h; cases h
theorem um {lt:Nat->Nat->Bool} (H:Lt lt) (h:lt i j=true) (h':lt i k=false):lt k j=true:=by
 cases e:lt k j with
 | true=>rfl
 | false=>rw [H.tr i k j h' e] at h; cases h
section
variable {N:Nat} {lt:Nat->Nat->Bool}
structure Pm (N:Nat) (p:Array Nat):Prop where
 sz:p.size=N
 bd:∀ i,i<N->p.getD i 0<N
 inj:∀ i j,i<N->j<N->p.getD i 0=p.getD j 0->i=j
theorem ke {p:Array Nat} (h:p.Perm (E8 (Eu N))):Pm N p:=by
 have hp:p.toList.Perm (Eu N):=by simpa using Ih.mp h
 have hs:p.size=N:=by rw [<-FD,hp.length_eq,FC]
 have hn:p.toList.Nodup:=hp.nodup_iff.mpr Kv
 refine ⟨hs,λ i hi=>?_,λ i j hi hj e=>?_⟩
 ·have hi':i<p.size:=by lia
  have:p[i]∈p.toList:=Jp.mpr (Array.getElem_mem hi')
  have h2:=hp.mem_iff.mp this
  rw [show p.getD i 0=p[i] by simp [Hy,hi']]
  exact FI.mp h2
 ·have hi':i<p.size:=by lia
  have hj':j<p.size:=by lia
  rw [show p.getD i 0=p[i] by simp [Hy,hi'],show p.getD j 0=p[j] by simp [Hy,hj']] at e
  have e':p.toList[i]'(by simpa using hi')=p.toList[j]'(by simpa using hj'):=by simpa using e
  have hq:=Ir.mp hn
  rcases Hg i j with x | x | x
  ·exact absurd e' (hq i j _ _ x)
  ·exact x
  ·exact absurd e'.symm (hq j i _ _ x)
theorem cw {p:Array Nat} (hj:j<=p.size) (k:Nat):(kas_rev p i j).getD k 0=if i<=k/\k<j then p.getD (i+j - 1 - k) 0 else p.getD k 0:=by
 have h:=getElem?_mirror_all (i:=i) hj k
 rw [Gc,Gc,Gc]
 show ((mirror p i j ((j - i) / 2))[k]?).getD 0=_
 rw [h]
 split<;>rfl
theorem kf {p:Array Nat} {l:Nat} (hk:k<p.size) (hl:l<=k) (i:Nat):(bubble p k (k - l)).getD i 0=if i=l then p.getD k 0 else if l<i/\i<=k then p.getD (i - 1) 0 else p.getD i 0:=by
 have h:=getElem?_bubble hk (k - l) (by lia) i
 have e:k - (k - l)=l:=by lia
 rw [e] at h
 simp only [Gc]
 rw [h]
 repeat' split
 all_goals rfl
theorem iu {p:Array Nat} (i j:Nat) (h:p.Perm (E8 (Eu N))):(kas_rev p i j).Perm (E8 (Eu N)):=(mirror_perm _ _ _ _).trans h
theorem uo {p:Array Nat} (i j:Nat) (h:p.Perm (E8 (Eu N))):(bubble p i j).Perm (E8 (Eu N)):=(bubble_perm _ _ _).trans h
noncomputable def Tl (N:Nat) (p:Array Nat) (m:Nat):Prop:=∀ i,m<=i->i<N->p.getD i 0=i
theorem Pm.lo {p:Array Nat} (P:Pm N p) (T:Tl N p m) (hi:i<m) (hm:m<=N):p.getD i 0<m:=by
 rcases Gd (p.getD i 0) m with h | h
 ·exact h
 ·have h2:=T _ h (P.bd i (by lia))
  have:=P.inj _ _ (P.bd i (by lia)) (by lia) h2
  lia
noncomputable def Up (lt:Nat->Nat->Bool) (p:Array Nat) (m:Nat):Prop:=∀ i,0<i->i<m->Ah lt (p.getD (i - 1) 0) (p.getD i 0)
theorem Up.all (H:Lt lt) {p:Array Nat} {m:Nat} (U:Up lt p m):∀ d i,i+d+1<m->Ah lt (p.getD i 0) (p.getD (i+d+1) 0)
 | 0,i,h=>U (i+1) (by lia) h
 | d+1,i,h=>(Up.all H U d i (by lia)).trans H (U (i+d+1+1) (by lia) h)
theorem Up.at (H:Lt lt) {p:Array Nat} (U:Up lt p m) (h:i<j) (hj:j<m):Ah lt (p.getD i 0) (p.getD j 0):=by
 have:=U.all H (j - i - 1) i (by lia)
 rw [show i+(j - i - 1)+1=j by lia] at this
 exact this
theorem mV {p:Array Nat} (hb:∀ i,i<N->p.getD i 0<N):∀ (f n:Nat),1<=n->n+f<=N->
  Sat N lt (kas_asc p f n) (λ m=>n<=m/\m<=n+f/\(∀ i,n<=i->i<m->lt (p.getD i 0) (p.getD (i - 1) 0)=false)/\(m<n+f->lt (p.getD m 0) (p.getD (m - 1) 0)=true))
 | 0,n,_,_=>⟨Eh _,Eh _,λ i a b=>by lia,λ h=>by lia⟩
 | f+1,n,h1,hN=>by
  refine ⟨hb _ (by lia),hb _ (by lia),?_⟩
  cases e:lt (p.getD n 0) (p.getD (n - 1) 0) with
  | true=>
   simp only [if_true]
   exact ⟨Eh _,by lia,λ i a b=>by lia,λ _=>e⟩
  | false=>
   simp only [Fd,if_false]
   refine Sat.mono (λ m hm=>?_) _ (mV hb f (n+1) (by lia) (by lia))
   obtain ⟨a,b,c,d⟩:=hm
   refine ⟨by lia,by lia,λ i hi him=>?_,λ h=>d (by lia)⟩
   rcases JR hi with rfl | h
   ·exact e
   ·exact c i h him
structure Dn (N:Nat) (lt:Nat->Nat->Bool) (p:Array Nat) (n q:Nat):Prop where
 perm:p.Perm (E8 (Eu N))
 tl:Tl N p n
 fall:∀ i,0<i->i+(q+1)<n->Ah lt (p.getD i 0) (p.getD (i - 1) 0)
 like:∀ i,n<=i+q->i<n->Ah lt (p.getD (i - 1) 0) (p.getD i 0)/\lt (p.getD (i - 1) 0) (p.getD i 0)=false
 join:∀ i,0<i->i+(q+1)=n->lt (p.getD i 0) (p.getD (i - 1) 0)=true
 len:q+1<=n
 top:n<=N
theorem Dn.alike (H:Lt lt) {p:Array Nat} {n q:Nat} (D:Dn N lt p n q):∀ d i j,i+d=j->n<=i+q+1->j<n->lt (p.getD i 0) (p.getD j 0)=false/\lt (p.getD j 0) (p.getD i 0)=false
 | 0,i,j,e,h1,h2=>by
  have:i=j:=by lia
  subst this
  cases e:lt (p.getD i 0) (p.getD i 0) with
  | false=>exact ⟨rfl,rfl⟩
  | true=>have:=H.asym _ _ e; rw [e] at this; cases this
 | d+1,i,j,e,h1,h2=>by
  obtain ⟨a,b⟩:=Dn.alike H D d i (j - 1) (by lia) h1 (by lia)
  obtain ⟨⟨c,_⟩,c'⟩:=D.like j (by lia) h2
  exact ⟨H.tr _ _ _ a c',H.tr _ _ _ c b⟩
theorem Dn.turn (H:Lt lt) {p:Array Nat} {q:Nat} (D:Dn N lt p n q):Tl N (kas_rev p (n - (q+1)) n) n/\(∀ i,0<i->i<n->Ah lt ((kas_rev p (n - (q+1)) n).getD i 0) ((kas_rev p (n - (q+1)) n).getD (i - 1) 0))/\
  (∀ x,lt x (p.getD (n - 1) 0)=true->lt x ((kas_rev p (n - (q+1)) n).getD (n - 1) 0)=true):=by
 have P:=ke D.perm
 have hn:n<=p.size:=by rw [P.sz]; exact D.top
 have hl:=D.len
 refine ⟨λ i h1 h2=>?_,λ i h1 h2=>?_,λ x hx=>?_⟩
 ·rw [cw hn,if_neg (by lia)]; exact D.tl i h1 h2
 ·rw [cw hn,cw hn]
  by_cases c1:n - (q+1)<=i
  ·rw [if_pos ⟨c1,h2⟩]
   by_cases c2:n - (q+1)<=i - 1
   ·rw [if_pos ⟨c2,by lia⟩]
    have:=(D.like (n - (q+1)+n - 1 - (i - 1)) (by lia) (by lia)).1
    rw [show n - (q+1)+n - 1 - (i - 1) - 1=n - (q+1)+n - 1 - i by lia] at this
    exact this
   ·rw [if_neg (by lia)]
    have ei:i=n - (q+1):=by lia
    rw [show n - (q+1)+n - 1 - i=n - 1 by lia]
    have j:=D.join i h1 (by lia)
    have k:=(D.alike H (n - 1 - i) i (n - 1) (by lia) (by lia) (by lia)).1
    exact Ah.of_lt H (um H j k)
  ·rw [if_neg (by lia),if_neg (by lia)]
   exact D.fall i h1 (by lia)
 ·rw [cw hn,if_pos (by lia),show n - (q+1)+n - 1 - (n - 1)=n - (q+1) by lia]
  have k:=(D.alike H (n - 1 - (n - (q+1))) (n - (q+1)) (n - 1) (by lia) (by lia) (by lia)).1
  exact mU H hx k
theorem iw (H:Lt lt):∀ (f:Nat) (p:Array Nat) (n q:Nat),Dn N lt p n q->n+f<=N->
  Sat N lt (kas_desc f p n q) (λ r=>Dn N lt r.1 r.2.1 r.2.2)
 | 0,p,n,q,D,_=>D
 | f+1,p,n,q,D,hN=>by
  have P:=ke D.perm
  have hl:=D.len
  have hn:n<=p.size:=by rw [P.sz]; exact D.top
  refine ⟨P.bd _ (by lia),P.bd _ (by lia),?_⟩
  cases e:lt (p.getD n 0) (p.getD (n - 1) 0) with
  | true=>
   simp only [if_true]
   have step:∀ p':Array Nat,p'.Perm (E8 (Eu N))->Tl N p' n->(∀ i,0<i->i<n->Ah lt (p'.getD i 0) (p'.getD (i - 1) 0))->lt (p'.getD n 0) (p'.getD (n - 1) 0)=true->Dn N lt p' (n+1) 0:=
    λ p' a b c d=>⟨a,λ i h1 h2=>b i (by lia) h2,λ i h1 h2=>c i h1 (by lia),λ i h1 h2=>by lia,
     λ i h1 h2=>by (have:i=n:=(by lia)); subst this; exact d,by lia,by lia⟩
   by_cases hq:q > 0
   ·rw [if_pos hq]
    obtain ⟨t1,t2,t3⟩:=D.turn H
    refine iw H f _ (n+1) 0 (step _ (iu _ _ D.perm) t1 t2 ?_) (by lia)
    refine t3 _ ?_
    rw [cw hn,if_neg (by lia)]
    exact e
   ·rw [if_neg hq]
    have hq0:q=0:=by lia
    subst hq0
    refine iw H f _ (n+1) 0 (step _ D.perm D.tl (λ i h1 h2=>?_) e) (by lia)
    rcases Gd (i+1) n with h | h
    ·exact D.fall i h1 h
    ·exact Ah.of_lt H (D.join i h1 (by lia))
  | false=>
   simp only [Fd,if_false]
   refine ⟨P.bd _ (by lia),P.bd _ (by lia),?_⟩
   cases e2:lt (p.getD (n - 1) 0) (p.getD n 0) with
   | true=>
    simp only [if_true]
    exact D
   | false=>
    simp only [Fd,if_false]
    refine iw H f p (n+1) (q+1) ⟨D.perm,λ i h1 h2=>D.tl i (by lia) h2,λ i h1 h2=>D.fall i h1 (by lia),λ i h1 h2=>?_,λ i h1 h2=>D.join i h1 (by lia),by lia,by lia⟩ (by lia)
    rcases Gd i n with h | h
    ·exact D.like i (by lia) h
    ·have:i=n:=by lia
     subst this
     refine ⟨⟨e,λ _=>?_⟩,e2⟩
     rw [D.tl i (Eh _) (by lia)]
     exact P.lo D.tl (by lia) D.top
structure Rn (N:Nat) (lt:Nat->Nat->Bool) (p:Array Nat) (m:Nat):Prop where
 perm:p.Perm (E8 (Eu N))
 tl:Tl N p m
 up:Up lt p m
 top:m<=N
theorem Rn.longer (H:Lt lt) {p:Array Nat} (R:Rn N lt p n) (h1:1<=n) (h:n<=m) (hm:m<=N) (ha:∀ i,n<=i->i<m->lt (p.getD i 0) (p.getD (i - 1) 0)=false):Rn N lt p m:=by
 have P:=ke R.perm
 refine ⟨R.perm,λ i a b=>R.tl i (by lia) b,λ i a b=>?_,hm⟩
 rcases Gd i n with c | c
 ·exact R.up i a c
 ·refine ⟨ha i c b,λ _=>?_⟩
  rw [R.tl i c (by lia)]
  exact P.lo (λ j x y=>R.tl j (by lia) y) (by lia) (by lia)
theorem pf (H:Lt lt) {p:Array Nat} (hp:p.Perm (E8 (Eu N))) (T:Tl N p n) (hn:n<=N) (F:∀ i,0<i->i<n->Ah lt (p.getD i 0) (p.getD (i - 1) 0)):Rn N lt (kas_rev p 0 n) n:=by
 have P:=ke hp
 have hs:n<=p.size:=by rw [P.sz]; exact hn
 refine ⟨iu _ _ hp,λ i a b=>?_,λ i a b=>?_,hn⟩
 ·rw [cw hs,if_neg (by lia)]; exact T i a b
 ·rw [cw hs,cw hs,if_pos (by lia),if_pos (by lia)]
  have:=F (0+n - 1 - (i - 1)) (by lia) (by lia)
  rw [show 0+n - 1 - (i - 1) - 1=0+n - 1 - i by lia] at this
  exact this
theorem lH (H:Lt lt) {p:Array Nat} (h1:1<=n) (hp:p.Perm (E8 (Eu N))) (T:Tl N p n) (hn:n<=N) (F:∀ i,0<i->i<n->Ah lt (p.getD i 0) (p.getD (i - 1) 0)) :
  Sat N lt (kas_tail3 n N p) (λ r=>1<=r.1/\Rn N lt r.2 r.1):=by
 have R:=pf H hp T hn F
 refine Sat.bind (λ m hm=>?_) _ (mV (ke R.perm).bd (N - n) n h1 (by lia))
 exact ⟨by show 1<=m; lia,R.longer H h1 hm.1 (by lia) hm.2.2.1⟩
theorem gY (H:Lt lt) {p:Array Nat} (D:Dn N lt p (n+1) 0):Sat N lt (kas_descPart n N p) (λ r=>1<=r.1/\Rn N lt r.2 r.1):=by
 have:=D.top
 refine Sat.bind (λ r D'=>?_) _ (iw H (N - (n+1)) p (n+1) 0 D (by lia))
 have hl:=D'.len
 by_cases hq:r.2.2 > 0
 ·rw [if_pos hq]
  obtain ⟨t1,t2,_⟩:=D'.turn H
  exact lH H (by lia) (iu _ _ D'.perm) t1 D'.top t2
 ·rw [if_neg hq]
  refine lH H (by lia) D'.perm D'.tl D'.top λ i h1 h2=>?_
  rcases Gd (i+(r.2.2+1)) r.2.1 with h | h
  ·exact D'.fall i h1 h
  ·exact Ah.of_lt H (D'.join i h1 (by lia))
theorem aV (i:Nat) (h:i<N):(E8 (Eu N)).getD i 0=i:=by
 simp [Hy,h]
theorem qN (H:Lt lt) (h1:1<=N):Sat N lt (kas_count N (E8 (Eu N))) (λ r=>1<=r.1/\Rn N lt r.2 r.1):=by
 have hp:(E8 (Eu N)).Perm (E8 (Eu N)):=MF _
 have P:=ke hp
 have R1:Rn N lt (E8 (Eu N)) 1:=⟨hp,λ i a b=>aV i b,λ i a b=>by lia,h1⟩
 refine Sat.bind (λ n hn=>?_) _ (mV P.bd (N - 1) 1 (Eh _) (by lia))
 obtain ⟨a,b,c,d⟩:=hn
 have R:=R1.longer H (Eh _) a (by lia) c
 by_cases e:n=N
 ·rw [if_pos (by simp [e])]; exact ⟨a,R⟩
 ·rw [if_neg (by simp [e])]
  have dd:=d (by lia)
  rw [aV _ (by lia),aV _ (by lia)] at dd
  by_cases h:n > 1
  ·rw [if_pos h]
   refine ⟨P.bd _ (by lia),P.bd _ (by lia),?_⟩
   rw [aV _ (by lia),aV _ (by lia)]
   cases e2:lt 0 (n - 1) with
   | true=>
    simp only [if_true]
    exact ⟨a,R⟩
   | false=>
    simp only [Fd,if_false]
    have hs:n<=(E8 (Eu N)).size:=by simp; lia
    have le:∀ i j,i<j->j<n->lt j i=false:=λ i j x y=>by
     have:=(R.up.at H x y).1
     rwa [aV _ (by lia),aV _ (by lia)] at this
    have ge:∀ i j,i<j->j<n->lt i j=false:=λ i j x y=>by
     have p1:lt i 0=false:=by
      rcases Nat.eq_zero_or_pos i with rfl | q
      ·cases e5:lt 0 0 with
       | false=>rfl
       | true=>have:=H.asym _ _ e5; rw [e5] at this; cases this
      ·exact le 0 i q (by lia)
     have p2:lt (n - 1) j=false:=by
      rcases Gd j (n - 1) with q | q
      ·exact le j (n - 1) q (by lia)
      ·have:j=n - 1:=by lia
       subst this
       cases e5:lt (n - 1) (n - 1) with
       | false=>rfl
       | true=>have:=H.asym _ _ e5; rw [e5] at this; cases this
     exact H.tr _ _ _ p1 (H.tr _ _ _ e2 p2)
    have g:∀ i,i<N->(kas_rev (E8 (Eu N)) 0 n).getD i 0=if i<n then n - 1 - i else i:=λ i hi=>by
     rw [cw hs]
     by_cases q:i<n
     ·rw [if_pos (by lia),if_pos q,aV _ (by lia)]; lia
     ·rw [if_neg (by lia),if_neg q,aV _ hi]
    refine gY H ⟨iu _ _ hp,λ i x y=>?_,λ i x y=>?_,λ i x y=>by lia,λ i x y=>?_,by lia,by lia⟩
    ·rw [g i y,if_neg (by lia)]
    ·rw [g i (by lia),g (i - 1) (by lia),if_pos (by lia),if_pos (by lia)]
     exact ⟨le _ _ (by lia) (by lia),λ _=>by lia⟩
    ·have ei:i=n:=by lia
     subst ei
     rw [g i (by lia),g (i - 1) (by lia),if_neg (by lia),if_pos (by lia),show i - 1 - (i - 1)=0 by lia]
     exact mU H dd e2
  ·rw [if_neg h]
   have:n=1:=by lia
   subst this
   refine gY H ⟨hp,λ i x y=>aV i y,λ i x y=>by lia,λ i x y=>by lia,λ i x y=>?_,by lia,by lia⟩
   have:i=1:=by lia
   subst this
   rw [aV _ (by lia),aV _ (by lia)]
   exact dd
theorem iP (H:Lt lt) {p:Array Nat} {k:Nat} (R:Rn N lt p k) (hk:k<N):∀ (f l r:Nat),l<=r->r<=k->r - l<=f->(∀ i,i<l->lt k (p.getD i 0)=false)->(∀ i,r<=i->i<k->lt k (p.getD i 0)=true)->
  Sat N lt (kas_place p k f l r) (λ m=>m<=k/\(∀ i,i<m->lt k (p.getD i 0)=false)/\(∀ i,m<=i->i<k->lt k (p.getD i 0)=true))
 | 0,l,r,h1,h2,h3,a,b=>⟨by lia,a,λ i x y=>b i (by lia) y⟩
 | f+1,l,r,h1,h2,h3,a,b=>by
  have P:=ke R.perm
  unfold kas_place
  by_cases h:l>=r
  ·rw [if_pos h]
   exact ⟨by lia,a,λ i x y=>b i (by lia) y⟩
  ·rw [if_neg h]
   refine ⟨P.bd _ (by lia),P.bd _ (by lia),?_⟩
   have ek:p.getD k 0=k:=R.tl k (Eh _) hk
   rw [ek]
   cases e:lt k (p.getD ((l+r) / 2) 0) with
   | true=>
    simp only [if_true]
    refine iP H R hk f l ((l+r) / 2) (by lia) (by lia) (by lia) a λ i x y=>?_
    rcases JR x with rfl | x
    ·exact e
    ·exact mU H e (R.up.at H x y).1
   | false=>
    simp only [Fd,if_false]
    refine iP H R hk f ((l+r) / 2+1) r (by lia) h2 (by lia) (λ i x=>?_) b
    rcases Gd i ((l+r) / 2) with y | y
    ·exact H.tr _ _ _ e (R.up.at H y (by lia)).1
    ·have:i=(l+r) / 2:=by lia
     subst this; exact e
theorem Rn.put (H:Lt lt) {p:Array Nat} (R:Rn N lt p k) (hk:k<N) (hm:m<=k) (a:∀ i,i<m->lt k (p.getD i 0)=false) (b:∀ i,m<=i->i<k->lt k (p.getD i 0)=true):Rn N lt (bubble p k (k - m)) (k+1):=by
 have P:=ke R.perm
 have hs:k<p.size:=by rw [P.sz]; exact hk
 have ek:p.getD k 0=k:=R.tl k (Eh _) hk
 refine ⟨uo _ _ R.perm,λ i x y=>?_,λ i x y=>?_,hk⟩
 ·rw [kf hs hm,if_neg (by lia),if_neg (by lia)]; exact R.tl i (by lia) y
 ·rw [kf hs hm,kf hs hm,ek]
  rcases Gd i m with c | c
  ·rw [if_neg (by lia),if_neg (by lia),if_neg (by lia),if_neg (by lia)]
   exact R.up i x (by lia)
  ·by_cases c1:i=m
   ·rw [if_neg (by lia),if_neg (by lia),if_pos c1]
    exact ⟨a _ (by lia),λ _=>P.lo R.tl (by lia) (by lia)⟩
   ·by_cases c2:i=m+1
    ·rw [if_pos (by lia),if_neg (by lia),if_pos (by lia)]
     exact Ah.of_lt H (b _ (by lia) (by lia))
    ·rw [if_neg (by lia),if_pos (by lia),if_neg (by lia),if_pos (by lia)]
     exact R.up (i - 1) (by lia) (by lia)
theorem qO (H:Lt lt):∀ (f:Nat) (p:Array Nat) (k:Nat),Rn N lt p k->k+f=N->Sat N lt (kas_bin f p k) (λ r=>Rn N lt r N)
 | 0,p,k,R,h=>by
  have:k=N:=by lia
  subst this; exact R
 | f+1,p,k,R,h=>by
  refine Sat.bind (λ m hm=>?_) _ (iP H R (by lia) k 0 k (EI _) (Eh _) (by lia) (λ i x=>by lia) λ i x y=>by lia)
  exact qO H f _ (k+1) (R.put H (by lia) hm.1 hm.2.1 hm.2.2) (by lia)
theorem uq (H:Lt lt) (h1:1<=N):Sat N lt (kas_sort N) (λ r=>Rn N lt r N):=by
 refine Sat.bind (λ r hr=>?_) _ (qN H h1)
 obtain ⟨a,R⟩:=hr
 have ht:=R.top
 by_cases h:r.1<N
 ·rw [if_pos h,Nat.max_eq_left a]
  exact qO H _ _ _ R (by lia)
 ·rw [if_neg h]
  have:r.1=N:=by lia
  rw [this] at R; exact R
theorem Rn.list (H:Lt lt) {p:Array Nat} (R:Rn N lt p N):p.toList.Perm (Eu N)/\p.toList.Pairwise (Ah lt):=by
 have P:=ke R.perm
 refine ⟨by simpa using Ih.mp R.perm,?_⟩
 rw [Ir]
 intro i j hi hj hij
 have hi':i<p.size:=by simpa using hi
 have hj':j<p.size:=by simpa using hj
 have:=R.up.at H hij (by rw [<-P.sz]; exact hj')
 rw [show p.getD i 0=p[i] by simp [Hy,hi'],show p.getD j 0=p[j] by simp [Hy,hj']] at this
 simpa using this
end
end L2
namespace HT
open PySem PyProof.Rows PySem.W L2
theorem xj {prog:Program} {w:World} {A:Around} {s:Shared} {κ:SortKind} {lt:Nat->Nat->Bool} {ks vs:List Value} {I:Shared->Prop} (hl:ks.length=vs.length) (h2:2<=vs.length) (H:Lt lt) (hI:I s)
  (hc:∀ i j s',i<vs.length->j<vs.length->I s'->wpAny (model prog w) A (keyLt' κ (ks.getD i E3) (ks.getD j E3)) (λ b s''=>b=lt i j/\I s'') (λ _ _=>False) s')
  (h64:vs.length<64:=by first | lia | (rw [GO]; lia)) :
  wpAny (model prog w) A ((sortRuns').run (KQ κ (ks.toArray.zip vs.toArray) #[] 7 none))
   (λ r s'=>∃ p:Array Nat,arrOf r.2=p.map (kas_item (ks.toArray.zip vs.toArray))/\failedOf r.2=none/\p.size=vs.length/\I s'/\p.toList.Perm (Eu vs.length)/\p.toList.Pairwise (Ah lt)) E s:=by
 have ask:=Sat.wp (I:=I) (cmp:=kas_ask prog w A κ ks) (N:=vs.length) (lt:=lt) (Q:=λ p s'=>I s'/\p.toList.Perm (Eu vs.length)/\p.toList.Pairwise (Ah lt))
  (λ i j C s' hi hj es hC=>wpAny_mono (hc i j s' hi hj es) (λ b s'' hb=>by obtain ⟨rfl,hb2⟩:=hb; exact hC _ hb2) λ _ _ z=>z) _ _ (uq H (by lia)) hI (λ p s' R es=>⟨es,R.list H⟩)
 refine wpAny_mono (kat_run (ks:=ks) (vs:=vs) (Q:=λ st' s'=>∃ p:Array Nat,arrOf st'=p.map (kas_item (ks.toArray.zip vs.toArray))/\failedOf st'=none/\p.size=vs.length/\I s'/\p.toList.Perm (Eu vs.length)/\p.toList.Pairwise (Ah lt)) hl (by lia) h64
   (λ p st' s' a1 a2 a3 a4=>⟨p,a2,a3,a1,a4⟩) ask) (λ r s' hr=>hr) λ _ _ e=>e
section
variable {prog:Program} {w:World} {A:Around} {E:Value->Shared->Prop} {s:Shared}
theorem ut {R:Nat->Nat->Prop} (n:Nat) (h:n<2):(Eu n).Pairwise R:=by
 match n,h with
 | 0,_=>exact .nil
 | 1,_=>exact Hc _ _
theorem kg {vs:List Value} {κ:SortKind} {lt:Nat->Nat->Bool} {P:Mr->Shared->Prop} (ho:s.heap.get? a=some (seqObj "list" vs.toArray n)) (h64:vs.length<64) (H:Lt lt)
  (hk:∀ h' (Q:SortKind->Shared->Prop),2<=vs.length->(∀ b o,b≠a->s.heap.get? b=some o->h'.get? b=some o)->Q κ { s with heap:=h' }->wpAny (model prog w) A (keyKind' vs.toArray) Q (λ _ _=>False) { s with heap:=h' })
  (hc:∀ h' i j (Q:Bool->Shared->Prop),i<vs.length->j<vs.length->(∀ b o,b≠a->s.heap.get? b=some o->h'.get? b=some o)->Q (lt i j) { s with heap:=h' }->
   wpAny (model prog w) A (keyLt' κ (vs.getD i E3) (vs.getD j E3)) Q (λ _ _=>False) { s with heap:=h' })
  (h:∀ p:List Nat,p.Perm (Eu vs.length)->p.Pairwise (Ah lt)->P (.done (.ret .none)) { s with heap:=sortedHeap s.heap a vs (E8 (p.map λ i=>vs.getD i E3)) }) :
  wpAny (model prog w) A (Builtin.«list.sort» ⟨[.ref a],[]⟩) P E s:=by
 rw [list_sort_plain]
 have ha:a<s.heap.objs.size:=Ei ho
 refine wpAny_bind (listItems_at ho rfl ?_)
 refine wpAny_bind (listUpdate_at ho rfl ?_ (by rw [Ew,sizeLine_eq]; lia) (EI _))
 obtain ⟨e1,ho1⟩:∃ e1,(s.heap.update a (Fu λ _=>(#[]:Array Value))).get? a=some (seqObj "list" #[] e1):=⟨_,get?_update_seq ho (λ _=>#[])⟩
 refine wpAny_bind (seqEpoch_at ho1 rfl ?_)
 refine wpAny_bind (wpAny_newTuple ?_ (by show vs.length<=_; rw [sizeLine_eq]; lia))
 refine wpAny_bind (wpAny_newList ?_ (EI _))
 refine wpAny_holding ?_
 have ho6:(((s.heap.update a (Fu λ _=>(#[]:Array Value))).push (seqObj "tuple" vs.toArray 0)).push (seqObj "list" #[] 0)).get? a=some (seqObj "list" #[] e1):=by
  rw [Hh _ _ _ (by rw [size_push',Hq]; exact Eo (FV ha)),Hh _ _ _ (by rw [Hq]; exact Eo ha)]
  exact ho1
 have kp:∀ b o,b≠a->s.heap.get? b=some o->(((s.heap.update a (Fu λ _=>(#[]:Array Value))).push (seqObj "tuple" vs.toArray 0)).push (seqObj "list" #[] 0)).get? b=some o:=λ b o hb e=>by
  have hlt:=Ei e
  rw [Hh _ _ _ (by rw [size_push',Hq]; exact Eo (FV hlt)),Hh _ _ _ (by rw [Hq]; exact Eo hlt),Heap.get?_update_ne _ _ _ _ hb]
  exact e
 show wpAny (model prog w) A _ P E { s with heap:=((s.heap.update a (Fu λ _=>(#[]:Array Value))).push (seqObj "tuple" vs.toArray 0)).push (seqObj "list" #[] 0) }
 dsimp only
 have hsz:vs.toArray.size=vs.length:=by simp
 by_cases h2:vs.toArray.size<2
 ·rw [if_pos h2,if_pos h2]
  refine wpAny_bind (wpAny_pure ?_)
  rw [StateT.run_pure]
  refine wpAny_bind (wpAny_pure ?_)
  dsimp only
  refine wpAny_bind (seqEpoch_at ho6 rfl ?_)
  refine wpAny_bind (listUpdate_at ho6 rfl ?_ (EI _) (by rw [Array.size_map]; show (pairsOf vs).size<=_; rw [pairsOf_size,sizeLine_eq]; lia))
  simp only [bne_self_eq_false,Fd,if_false]
  have:=h (Eu vs.length) (K2 _) (ut _ (by lia))
  have eo:(arrOf (KQ general' (vs.toArray.zip vs.toArray) #[] 7 none)).map (·.2)=E8 ((Eu vs.length).map λ i=>vs.getD i E3):=by
   have e:=kas_range (vs.toArray.zip vs.toArray)
   rw [show (vs.toArray.zip vs.toArray).size=vs.length by simp] at e
   have:=kat_snds (st:=KQ general' (vs.toArray.zip vs.toArray) #[] 7 none) (ks:=vs) (vs:=vs) rfl e.symm
   simpa using this
  rw [<-eo] at this
  exact wpAny_pure this
 ·rw [if_neg h2,if_neg h2]
  refine wpAny_bind (wpAny_mono (hk _ (λ κ' s'=>κ'=κ/\s'={ s with heap:=((s.heap.update a (Fu λ _=>(#[]:Array Value))).push (seqObj "tuple" vs.toArray 0)).push (seqObj "list" #[] 0) }) (by lia) kp ⟨rfl,rfl⟩) (λ κ' s' hh=>?_) λ _ _ x=>x.elim)
  obtain ⟨rfl,rfl⟩:=hh
  refine wpAny_bind (wpAny_mono (xj (ks:=vs) (I:=λ s'=>s'={ s with heap:=((s.heap.update a (Fu λ _=>(#[]:Array Value))).push (seqObj "tuple" vs.toArray 0)).push (seqObj "list" #[] 0) }) rfl (by lia) H rfl (λ i j s' hi hj es=>by subst es; exact hc _ i j _ hi hj kp ⟨rfl,rfl⟩)) ?_ λ _ _ e=>e)
  rintro ⟨⟨⟩,st'⟩ s' ⟨p,har,hf,hp,rfl,q1,q2⟩
  dsimp only
  have hout:=kat_snds rfl har
  rw [hout]
  refine wpAny_bind (seqEpoch_at ho6 rfl ?_)
  refine wpAny_bind (listUpdate_at ho6 rfl ?_ (EI _) (by rw [Ew,Ed,FD,hp,sizeLine_eq]; lia))
  rw [hf]
  simp only [bne_self_eq_false,Fd,if_false]
  exact wpAny_pure (h p.toList q1 q2)
theorem nY {fin:Bool} {Q:Bool->Shared->Prop}:∀ {xs ys:List Value} {ns ms:List Int},IntsAre xs ns->IntsAre ys ms->∀ (i:Nat) (b:Bool),fin=decide (ns.length<ms.length)->Q (bp ns ms) s->
  KatLex prog w A b fin Q (xs.zip ys) i s
 | _,_,_,_,.nil,.nil,i,b,e,h=>by subst e; exact h
 | _,_,_,_,.nil,.cons m u r,i,b,e,h=>by
  subst e; rw [Il]; refine kat_nil ?_; simpa using (show Q true s from h)
 | _,_,_,_,.cons n t r,.nil,i,b,e,h=>by
  subst e; rw [HN]; refine kat_nil ?_; simpa using (show Q false s from h)
 | _,_,_,_,.cons n t r,.cons m u r',i,b,e,h=>by
  rw [FG]
  refine kat_cons (wpAny_eqBool_int ?_)
  rw [bo] at h
  by_cases hn:n=m
  ·rw [if_pos hn] at h
   rw [show (n == m)=true by simp [hn]]
   exact kat_yes (nY r r' (i+1) b (by rw [e]; simp) h)
  ·rw [if_neg hn] at h
   rw [show (n == m)=false by simp [hn]]
   refine kat_no ?_
   cases (b && i == 0) with
   | true=>exact oneLt_int h
   | false=>exact kat_one _ _ (lt_int h)
end
theorem dv (a:List Int):∀ b,bp a b=true->bp b a=false:=by
 induction a with
 | nil=>intro b h; cases b<;>first | rfl | cases h
 | cons x xs ih=>
  intro b h
  cases b with
  | nil=>cases h
  | cons y ys=>
   rw [bo] at h ⊢
   by_cases e:x=y
   ·rw [if_pos e] at h; rw [if_pos e.symm]; exact ih ys h
   ·rw [if_neg e] at h; rw [if_neg (Ff e)]
    have:=of_decide_eq_true h
    exact decide_eq_false (by lia)
theorem lI (a:List Int):∀ b c,bp a b=false->bp b c=false->bp a c=false:=by
 induction a with
 | nil=>
  intro b c h1 h2
  cases b with
  | nil=>exact h2
  | cons y ys=>cases h1
 | cons x xs ih=>
  intro b c h1 h2
  cases c with
  | nil=>rfl
  | cons z zs=>
   cases b with
   | nil=>cases h2
   | cons y ys=>
    rw [bo] at h1 h2 ⊢
    by_cases e:x=y
    ·subst e
     rw [if_pos rfl] at h1
     by_cases e2:x=z
     ·subst e2; rw [if_pos rfl] at h2 ⊢; exact ih ys zs h1 h2
     ·rw [if_neg e2] at h2 ⊢; exact h2
    ·rw [if_neg e] at h1
     have h1:=of_decide_eq_false h1
     by_cases e2:y=z
     ·subst e2; rw [if_neg e]; exact decide_eq_false h1
     ·rw [if_neg e2] at h2
      have h2:=of_decide_eq_false h2
      rw [if_neg (by lia)]; exact decide_eq_false (by lia)
end HT
namespace L2
open PySem PySem.Spec PyProof.Rows PySem.W
section
variable {X:Cx}
theorem nZ {f:Nat->V} {g:Nat->Value}:∀ {p:List Nat},(∀ i∈p,RelV (f i) (g i))->Vals (p.map f) (p.map g)
 | [],_=>.nil
 | i::p,h=>.cons (h i (.head _)) (nZ λ j hj=>h j (.tail _ hj))
end
section
variable {X:Cx}
end
end L2
namespace HT
open PySem PyProof.Rows PySem.W L2
section
variable {prog:Program} {w:World} {A:Around} {E:Value->Shared->Prop} {s:Shared}
end
theorem xk {vs:List Value} {ns:List Int} (h:IntsAre vs ns):∀ {i:Nat},i<vs.length->∃ t,vs.getD i E3=.int (ns.getD i 0) t:=by
 induction h with
 | nil=>intro i hi; cases hi
 | cons n t h ih=>
  intro i hi
  cases i with
  | zero=>exact ⟨t,rfl⟩
  | succ i=>
   obtain ⟨t',e⟩:=ih (i:=i) (by simpa using hi)
   exact ⟨t',by simpa using e⟩
end HT
namespace L2
open PySem PySem.Spec PyProof.Rows PySem.W
theorem n0 {α:Type} (xs:List α) (d:α):(Eu xs.length).map (λ i=>xs.getD i d)=xs:=by
 apply Iz
 ·simp
 ·intro i h1 h2
  simp [h2]
section
variable {X:Cx}
end
end L2
namespace L2
open PySem PySem.Spec PyProof.Rows
section
variable {X:Cx} {pins:List (Addr×Obj)} {σ:St} {H:Hp} {s:Shared}
end
section
variable {κ:Type} [DecidableEq κ]
noncomputable def gZ (kvs:List (κ×V)) (k:κ):Option V:=(kvs.find? λ kv=>decide (kv.1=k)).map (·.2)
noncomputable def iz (kvs:List (κ×V)) (k:κ) (v:V):List (κ×V):=
 if (kvs.any λ kv=>decide (kv.1=k))=true then kvs.map (λ kv=>if kv.1=k then (kv.1,v) else kv) else kvs++[(k,v)]
theorem gm {p:κ×V} {r:List (κ×V)} {k:κ} (e:p.1=k):gZ (p::r) k=some p.2:=by simp [gZ,Gf,e]
theorem dB {p:κ×V} {r:List (κ×V)} {k:κ} (e:¬ p.1=k):gZ (p::r) k=gZ r k:=by simp [gZ,Gf,e]
theorem iA (k:κ):∀ kvs:List (κ×V),(kvs.any λ kv=>decide (kv.1=k))=(gZ kvs k).isSome
 | []=>rfl
 | p::r=>by
  rw [Jx]
  by_cases e:p.1=k
  ·simp only [gm e,decide_eq_true e,JL,Option.isSome_some]
  ·rw [dB e,decide_eq_false e,Hl]; exact iA k r
theorem fL (kvs:List (κ×V)) (k:κ) (v:V):(iz kvs k v).length<=kvs.length+1:=by
 unfold iz
 split
 ·rw [Ed]; lia
 ·rw [ED,EM,E4]; lia
theorem n5 {kvs:List (κ×V)} {k:κ} (v:V) (h:gZ kvs k=none):iz kvs k v=kvs++[(k,v)]:=by
 unfold iz
 rw [iA,h]
 exact if_neg (by decide)
theorem RelO.isSome_eq {o:Option V} {u:Option Value} (r:RelO o u):o.isSome=u.isSome:=by
 cases o with
 | none=>cases u with
  | none=>rfl
  | some _=>exact (show False from r).elim
 | some _=>cases u with
  | none=>exact (show False from r).elim
  | some _=>rfl
theorem RelO.getD {o:Option V} {u:Option Value} {d:V} {d':Value} (r:RelO o u) (rd:RelV d d'):RelV (o.getD d) (u.getD d'):=by
 cases o with
 | none=>cases u with
  | none=>exact rd
  | some _=>exact (show False from r).elim
 | some _=>cases u with
  | none=>exact (show False from r).elim
  | some _=>exact r
theorem KV.val {kvs:List (κ×V)} {vs:List (κ×Value)} (r:KV kvs vs) (k:κ):RelO (gZ kvs k) (valueAt vs k):=by
 unfold KV at r
 induction r with
 | nil=>exact Et
 | @cons p q ps qs h t ih=>
  obtain ⟨h1,h2⟩:=h
  by_cases e:p.1=k
  ·have e':q.1=k:=h1.symm.trans e
   have b:valueAt (q::qs) k=some q.2:=by simp [valueAt,Gf,e']
   rw [gm e,b]; exact h2
  ·have e':¬ q.1=k:=λ z=>e (h1.trans z)
   have b:valueAt (q::qs) k=valueAt qs k:=by simp [valueAt,Gf,e']
   rw [dB e,b]; exact ih
theorem KV.any {kvs:List (κ×V)} {vs:List (κ×Value)} (r:KV kvs vs) (k:κ):(kvs.any λ kv=>decide (kv.1=k))=vs.any λ kv=>decide (kv.1=k):=by
 unfold KV at r
 induction r with
 | nil=>rfl
 | cons h t ih=>rw [Jx,Jx,ih,h.1]
theorem KV.repl {kvs:List (κ×V)} {vs:List (κ×Value)} (r:KV kvs vs) (k:κ) {y:V} (ry:RelV y u) :
  KV (kvs.map λ kv=>if kv.1=k then (kv.1,y) else kv) (vs.map λ kv=>if kv.1=k then (kv.1,u) else kv):=by
 unfold KV at r ⊢
 induction r with
 | nil=>exact .nil
 | @cons p q ps qs h t ih=>
  rw [EU,EU]
  refine .cons ?_ ih
  obtain ⟨h1,h2⟩:=h
  by_cases e:p.1=k
  ·rw [if_pos e,if_pos (h1.symm.trans e)]; exact ⟨h1,ry⟩
  ·rw [if_neg e,if_neg (λ z=>e (h1.trans z))]; exact ⟨h1,h2⟩
theorem KV.put {kvs:List (κ×V)} {vs:List (κ×Value)} (r:KV kvs vs) (k:κ) {y:V} (ry:RelV y u):KV (iz kvs k y) (stored vs k u):=by
 unfold iz stored
 rw [r.any k]
 by_cases e:(vs.any λ kv=>decide (kv.1=k))=true
 ·rw [if_pos e,if_pos e]; exact r.repl k ry
 ·rw [if_neg e,if_neg e]; exact Ma r ⟨rfl,ry⟩
theorem KV.length {kvs:List (κ×V)} {vs:List (κ×Value)} (r:KV kvs vs):kvs.length=vs.length:=HY r
end
theorem qP {w:World} {k:Key} (r:RelV (kV k) u):(aJ P w).is k u=true:=by
 cases k with
 | inl i=>obtain ⟨t,e⟩:=(show ∃ t,u=GV i t from r); subst e; exact mz P w i t
 | inr x=>obtain ⟨t,e⟩:=(show ∃ t,u=HM x t from r); subst e; exact mB P w x t
theorem lJ {P:Program} {w:World}:∀ {ks:List Key} {us:List Value},Vals (ks.map kV) us->ItemsAre (aJ P w) ks us
 | [],_,r=>by rw [GW] at r; cases r; exact .nil
 | k::ks,_,r=>by
  rw [EU] at r
  cases r with
  | cons h t=>exact .cons (qP h) (lJ t)
noncomputable abbrev KT (H:Hp):List (List Key×V)->List (List Key×Addr×Value)->Prop:=Paired λ p q=>p.1=q.1/\H q.2.1=some (.tup (p.1.map kV))/\RelV p.2 q.2.2
theorem KT.val {H:Hp} {kvs:List (List Key×V)} {xs:List (List Key×Addr×Value)} (r:KT H kvs xs) (k:List Key):RelO (gZ kvs k) ((atKey xs k).map (·.2)):=by
 induction r with
 | nil=>exact Et
 | @cons p q ps qs h t ih=>
  obtain ⟨h1,_,h2⟩:=h
  by_cases e:p.1=k
  ·have e':q.1=k:=h1.symm.trans e
   have b:atKey (q::qs) k=some q.2:=by simp [atKey,Gf,e']
   rw [gm e,b]; exact h2
  ·have e':¬ q.1=k:=λ z=>e (h1.trans z)
   have b:atKey (q::qs) k=atKey qs k:=by simp [atKey,Gf,e']
   rw [dB e,b]; exact ih
theorem KT.repl {H:Hp} {kvs:List (List Key×V)} {xs:List (List Key×Addr×Value)} (r:KT H kvs xs) (k:List Key) {y:V} (ry:RelV y u) :
  KT H (kvs.map λ kv=>if kv.1=k then (kv.1,y) else kv) (xs.map (putAt k u)):=by
 induction r with
 | nil=>exact .nil
 | @cons p q ps qs h t ih=>
  rw [EU,EU]
  refine .cons ?_ ih
  obtain ⟨h1,h2,h3⟩:=h
  unfold putAt
  by_cases e:p.1=k
  ·rw [if_pos e,if_pos (h1.symm.trans e)]; exact ⟨h1,h2,ry⟩
  ·rw [if_neg e,if_neg (λ z=>e (h1.trans z))]; exact ⟨h1,h2,h3⟩
theorem KT.put {H:Hp} {kvs:List (List Key×V)} {xs:List (List Key×Addr×Value)} (r:KT H kvs xs) (k:List Key) {b:Addr} {y:V} (hb:H b=some (.tup (k.map kV))) (ry:RelV y u) :
  KT H (iz kvs k y) (storedH xs k b u):=by
 have e:(kvs.any λ kv=>decide (kv.1=k))=(atKey xs k).isSome:=by
  rw [iA,(r.val k).isSome_eq,Option.isSome_map]
 unfold iz storedH
 rw [e]
 by_cases q:(atKey xs k).isSome=true
 ·rw [if_pos q,if_pos q]; exact r.repl k ry
 ·rw [if_neg q,if_neg q]; exact Ma r ⟨rfl,hb,ry⟩
theorem KT.keeps {H:Hp} {kvs:List (List Key×V)} {xs:List (List Key×Addr×Value)} (r:KT H kvs xs) (ht:∀ b ys,H b=some (.tup ys)->H' b=some (.tup ys)):KT H' kvs xs:=
 Paired.mapP r λ _ _ z=>⟨z.1,ht _ _ z.2.1,z.2.2⟩
section
variable {P:Program} {w:World} {H:Hp} {h:Heap} {a:Addr}
theorem zQ {u:HO} (ok:HOk P w H h) (e:Rd H a u):ObjOk P w H h a u:=e.ok ok
theorem uu {kvs:List (Key×V)} (ok:HOk P w H h) (e:Rd H a (.dK kvs)):kvs.length<=sizeLine/\(a == sysModules)=false/\∃ vs,KV kvs vs/\h.DictOf (aJ P w) a vs:=
 show ObjOk P w H h a (.dK kvs) from zQ ok e
theorem xl {kvs:List (Key×V)} (ok:HOk P w H h) (e:H a=some (.dK kvs)):kvs.length<=sizeLine/\(a == sysModules)=false/\∃ vs,KV kvs vs/\h.DictOf (aJ P w) a vs:=uu ok (.inl e)
theorem qQ {ks:List Key} (ok:HOk P w H h) (e:H a=some (.tup (ks.map kV))):(tupleKind (aJ P w)).is h ks a:=by
 obtain ⟨_,its,r,o,h1,h2,n,h3⟩:=(show ObjOk P w H h a (.tup (ks.map kV)) from ok a _ e)
 exact ⟨o,its.toArray,n,h1,h2,h3,by simpa using lJ r⟩
theorem xm {kvs:List (List Key×V)} (ok:HOk P w H h) (e:Rd H a (.dT kvs)):kvs.length<=sizeLine/\(a == sysModules)=false/\
  ∃ xs,KT H kvs xs/\h.DictOfH (tupleKind (aJ P w)) a xs:=by
 obtain ⟨z,y,xs,r,o,es,ep,h1,h2,h3,h4,h5⟩:=(show ObjOk P w H h a (.dT kvs) from zQ ok e)
 refine ⟨z,y,xs,r,o,es,ep,h1,h2,h3,h4,λ x hx=>?_,h5⟩
 have all:∀ {l:List (List Key×V)} {m:List (List Key×Addr×Value)},KT H l m->∀ x∈m,(tupleKind (aJ P w)).is h x.1 x.2.1:=by
  intro l m q
  induction q with
  | nil=>intro x hx; exact nomatch hx
  | @cons p q ps qs hq t ih=>
   intro x hx
   rcases Er.mp hx with e | hx
   ·subst e
    exact qQ ok (by rw [<-hq.1]; exact hq.2.1)
   ·exact ih x hx
 exact all r x hx
theorem Cr {kvs:List (List Key×V)} (ok:HOk P w H h) (e:H a=some (.dT kvs)):kvs.length<=sizeLine/\(a == sysModules)=false/\
  ∃ xs,KT H kvs xs/\h.DictOfH (tupleKind (aJ P w)) a xs:=xm ok (.inl e)
end
noncomputable def DGet (H:Hp) (a:Addr) (y:V) (r:Option V):Prop:=
 (∃ kvs k,Rd H a (.dK kvs)/\y=kV k/\r=gZ kvs k)\/∃ kvs k b,Rd H a (.dT kvs)/\y=.ref b/\H b=some (.tup (k.map kV))/\r=gZ kvs k
noncomputable def DPut (H:Hp) (a:Addr) (y v:V) (H':Hp):Prop:=
 (∃ kvs k,H a=some (.dK kvs)/\y=kV k/\kvs.length<sizeLine/\H'=upd H a (.dK (iz kvs k v)))\/
 ∃ kvs k b,H a=some (.dT kvs)/\y=.ref b/\H b=some (.tup (k.map kV))/\kvs.length<sizeLine/\H'=upd H a (.dT (iz kvs k v))
theorem DGet.t {H:Hp} {b:Addr} {kvs:List (List Key×V)} {k:List Key} (e:H a=some (.dT kvs)) (eb:H b=some (.tup (k.map kV))):DGet H a (.ref b) (gZ kvs k):=.inr ⟨kvs,k,b,.inl e,rfl,eb,rfl⟩
theorem DPut.t {H:Hp} {b:Addr} {kvs:List (List Key×V)} {k:List Key} (e:H a=some (.dT kvs)) (eb:H b=some (.tup (k.map kV))) (hl:kvs.length<sizeLine) :
  DPut H a (.ref b) v (upd H a (.dT (iz kvs k v))):=.inr ⟨kvs,k,b,e,rfl,eb,hl,rfl⟩
section
variable {X:Cx} {pins:List (Addr×Obj)} {σ:St} {H:Hp} {s:Shared} {a:Addr} {y v:V} {u r:Value} {o:Option V} {A:Around} {E:Value->Shared->Prop}
theorem Inv.big (I:Inv X pins σ H s):sysModules<s.heap.objs.size:=by
 have h:mainGlobals<s.heap.objs.size:=(I.mod.glob.keeps I.bk).lt
 exact GZ (by decide) h
theorem kh {h':Heap} {ob:HO} (I:Inv X pins σ H s) (mu:Mut (H a)) (hs:FT a s.heap h') (he:∃ q,h'.get? a=some q) (new:ObjOk X.prog X.w (upd H a ob) h' a ob) :
  Inv X pins σ (upd H a ob) { s with heap:=h',toks:=t' }:=
 I.write (x:=a) (e:=a) mu (.inl rfl) (λ b q hb z=>(hs.2 b hb).trans z) he new
theorem qR {w:World} {h':Heap} {kvs:List (Key×V)} {vs:List (Key×Value)} (z:kvs.length<=sizeLine) (hd:(a == sysModules)=false) (rel:KV kvs vs) (dd:h'.DictOf (aJ P w) a vs) :
  ObjOk P w H' h' a (.dK kvs):=⟨z,hd,vs,rel,dd⟩
theorem qS {Q:Unit->Shared->Prop} (hu:A.units+1<cLine) (I:Inv X pins σ H s) (g:DPut H a y v H') (ry:RelV y u) (rv:RelV v r) (h:∀ s',Inv X pins σ H' s'->Q () s') :
  wpAny (model X.prog X.w) A (setItem (.ref a) u r) Q E s:=by
 rcases g with ⟨kvs,k,e,ey,l,eH⟩ | ⟨kvs,k,b,e,ey,eb,l,eH⟩
 ·subst ey eH
  obtain ⟨z,hd,vs,rel,dd⟩:=xl I.hok e
  have hz:vs.length<=sizeLine:=by rw [<-rel.length]; exact z
  have hl:(iz kvs k v).length<=sizeLine:=by have:=fL kvs k v; lia
  refine wpAny_setItem_pairs (hsz:=hz) (qP ry) dd λ h' dd' hs=>h _ ?_
  have he:∃ q,h'.get? a=some q:=let ⟨q,_,_,hq,_⟩:=dd'; ⟨q,hq⟩
  exact kh I (by rw [e]; exact Et) hs he (qR hl hd (rel.put k rv) dd')
 ·subst ey eH
  cases (show u=EG b from ry)
  obtain ⟨z,hd,xs,rel,dd⟩:=Cr I.hok e
  have hz:xs.length<=sizeLine:=by rw [<-HY rel]; exact z
  have hl:(iz kvs k v).length<=sizeLine:=by have:=fL kvs k v; lia
  refine wpAny_setItem_heap (hsz:=hz) (tupleKind_room_in1 hu) (qQ I.hok eb) dd λ h' dd' hs=>h _ ?_
  obtain ⟨q,es,ep,hq,h2,h3,h4,_,h5⟩:=dd'
  refine kh I (by rw [e]; exact Et) hs ⟨q,hq⟩ ⟨hl,hd,_,(rel.put k eb rv).keeps λ c ys ec=>?_,q,es,ep,hq,h2,h3,h4,h5⟩
  rw [aq (jp ec e (λ z=>nomatch z))]
  exact ec
end
section
variable {X:Cx} {pins:List (Addr×Obj)} {σ:St} {H:Hp} {s:Shared} {a:Addr} {kvs:List (Key×V)} {k:Key} {u:Value} {A:Around} {E:Value->Shared->Prop}
theorem Cs (I:Inv X pins σ H s) (e:Rd H a (.dK kvs)) (h:∀ t s',Inv X pins σ H s'->Q (.int kvs.length t) s'):wpAny (model X.prog X.w) A (call (.builtin "len") [.ref a]) Q E s:=by
 obtain ⟨z,hd,vs,rel,dd⟩:=uu I.hok e
 refine call_len_dict hd dd (by rw [<-rel.length]; rw [sizeLine_eq] at z; lia) ?_
 rw [<-rel.length]
 exact h _ _ (I.tok _)
end
noncomputable def xn (td ty tv:TE):TS:=λ D σ H=>tv σ H λ v H1=>td σ H1 λ x H2=>ty σ H2 λ y H3=>∃ a H4,x=.ref a/\DPut H3 a y v H4/\D.nx σ H4
section
variable {X:Cx} {o i e value:Expr} {pos pos' tpos:Pos} {td ty tv:TE}
theorem xo (hu:X.A.units+1<cLine) (ho:PE X o td) (hi:PE X i ty) (hv:PE X value tv) (hs:swapsWith value (some (.Subscript o i pos')) pos.line X.env=pure false) :
  PS X (.Assign [.Subscript o i pos'] value pos) (xn td ty tv):=by
 intro pins s σ H D I h
 refine wpAny_Assign_Subscript (thn (hv pins s σ H _ I h) λ r s1 ⟨v,H1,I1,rv,q1⟩=>thn (ho pins s1 σ H1 _ I1 q1) λ u s2 ⟨x,H2,I2,rx,q2⟩=>thn (hi pins s2 σ H2 _ I2 q2) λ iv s3 ⟨y,H3,I3,ry,a,H4,ex,g,q3⟩=>?_) hs
 subst ex
 obtain rfl:u=EG a:=rx
 exact qS hu I3 g ry rv λ s4 I4=>⟨σ,H4,I4,q3⟩
end
theorem uv {w:World} {H:Hp} (h:Heap) (hb:sysModules<h.objs.size):ObjOk P w H (h.push { cls:=.type "dict",data:=.dict #[] }) h.objs.size (.dK []):=
 ⟨EI _,beq_eq_false_iff_ne.mpr (Ff (Eo hb)),[],.nil,KR h⟩
theorem uw {w:World} {H:Hp} (h:Heap) (hb:sysModules<h.objs.size):ObjOk P w H (h.push { cls:=.type "dict",data:=.dict #[] }) h.objs.size (.dT []):=
 ⟨EI _,beq_eq_false_iff_ne.mpr (Ff (Eo hb)),[],.nil,_,#[],0,Ek _ rfl,⟨rfl,rfl,rfl⟩,rfl,rfl,GG⟩
noncomputable def qT:TE:=λ _ H Q=>∀ p,H p=none->Q (.ref p) (upd H p (.dK []))
noncomputable def qU:TE:=λ _ H Q=>∀ p,H p=none->Q (.ref p) (upd H p (.dT []))
section
variable {X:Cx} {pos:Pos}
theorem ux:PE X (.Dict [] [] pos) qT:=λ pins s σ H Q I h=>
 wpAny_Dict_empty ⟨.ref s.heap.objs.size,_,I.laid (a:=s.heap.objs.size) (o:=.dK []) (t':=s.toks) (λ _ _ q=>Ec _ q) (Eh _) (uv s.heap I.big),rfl,h _ (I.hok.fresh (Eh _))⟩
theorem uy:PE X (.Dict [] [] pos) qU:=λ pins s σ H Q I h=>
 wpAny_Dict_empty ⟨.ref s.heap.objs.size,_,I.laid (a:=s.heap.objs.size) (o:=.dT []) (t':=s.toks) (λ _ _ q=>Ec _ q) (Eh _) (uw s.heap I.big),rfl,h _ (I.hok.fresh (Eh _))⟩
end
noncomputable def cD (kvs more:List (Key×V)):List (Key×V):=more.foldl (λ acc kv=>iz acc kv.1 kv.2) kvs
theorem KV.merge:∀ {more:List (Key×V)} {rs:List (Key×Value)} {kvs:List (Key×V)} {vs:List (Key×Value)},KV more rs->KV kvs vs->KV (cD kvs more) (merged vs rs):=by
 intro more rs kvs vs r
 unfold KV at r
 induction r generalizing kvs vs with
 | nil=>intro q; exact q
 | @cons p q ps qs h t ih=>
  intro r0
  have e:KV (iz kvs p.1 p.2) (stored vs q.1 q.2):=by
   have:=r0.put p.1 h.2
   rw [<-h.1]; exact this
  exact ih e
theorem gp:∀ (more kvs:List (Key×V)),(cD kvs more).length<=kvs.length+more.length
 | [],kvs=>by show kvs.length<=kvs.length+0; lia
 | p::r,kvs=>by
  have h1:=gp r (iz kvs p.1 p.2)
  have h2:=fL kvs p.1 p.2
  show (cD (iz kvs p.1 p.2) r).length<=_
  rw [EM]; lia
structure M2 (X:Cx) (o:Expr) (m:Str) (apos:Pos) (e f:Expr) (cpos:Pos):Prop where
 base:attributeBase o m X.env (eval o X.env)=eval o X.env
 few:((backTo cpos (starEach [e,f] X.env)).all (λ x=>!x.1) && (backToKw cpos (keywordEach [] X.env)).all (λ x=>x.1.isSome)
  && decide (([e,f]:List Expr).length+([]:List Keyword).length+(if ([]:List Keyword).isEmpty then 0 else 1)<30))=true
 line:(apos.endLine == cpos.line)=true
 trees:backTo cpos (starEach [e,f] X.env)=[(false,eval e X.env),(false,eval f X.env)]
noncomputable def IsD (H:Hp) (a:Addr):Prop:=(∃ kvs,Rd H a (.dK kvs))\/∃ kvs,Rd H a (.dT kvs)
theorem vE {H:Hp} {s:Shared} (I:Inv X pins σ H s) (d:IsD H a) :
  s.TypeIs (.ref a) "dict"/\(∀ b,EG a=.ref b->∃ ob,s.heap.get? b=some ob/\ob.dict=none)/\(a == sysModules)=false:=by
 rcases d with ⟨kvs,e⟩ | ⟨kvs,e⟩
 ·obtain ⟨_,hd,vs,_,dd⟩:=uu I.hok e
  refine ⟨dd.typeIs,λ b q=>?_,hd⟩
  cases q
  obtain ⟨ob,_,_,h1,h2,_⟩:=dd
  exact ⟨ob,h1,h2.2.1⟩
 ·obtain ⟨_,hd,xs,_,dd⟩:=xm I.hok e
  refine ⟨dd.typeIs,λ b q=>?_,hd⟩
  cases q
  obtain ⟨ob,_,_,h1,h2,_⟩:=dd
  exact ⟨ob,h1,h2.2.1⟩
section
variable {X:Cx} {pins:List (Addr×Obj)} {σ:St} {H:Hp} {s:Shared} {a:Addr} {y d:V} {u r:Value} {o:Option V} {A:Around} {E:Value->Shared->Prop}
theorem zR (hu:A.units+1<cLine) (I:Inv X pins σ H s) (g:DGet H a y o) (ry:RelV y u) (rd:RelV d r) (h:∀ w' s',Inv X pins σ H s'->RelV (o.getD d) w'->Q w' s') :
  wpAny (model X.prog X.w) A (call (.builtin "dict.get") [.ref a,u,r]) Q E s:=by
 rcases g with ⟨kvs,k,e,ey,l⟩ | ⟨kvs,k,b,e,ey,eb,l⟩
 ·subst ey
  obtain ⟨z,hd,vs,rel,dd⟩:=uu I.hok e
  refine call_meetsIn Hu dd.typeIs Jf (IJ _ _ _) (meets_dict_get_default (aJ X.prog X.w) a (qP ry) hd r) ⟨_,dd.mapOf,h _ _ (I.tok _) ?_⟩
  rw [l]
  exact (rel.val k).getD rd
 ·subst ey
  cases (show u=EG b from ry)
  obtain ⟨z,hd,xs,rel,dd⟩:=xm I.hok e
  refine call_meetsIn Hu dd.typeIs Jf (IJ _ _ _) (meetsH_dict_get_default (tupleKind (aJ X.prog X.w)) a b hd r) ⟨tupleKind_room_in1 hu,k,xs,qQ I.hok eb,dd,h _ _ (I.tok _) ?_⟩
  rw [l]
  exact (rel.val k).getD rd
end
noncomputable def qV (td ty tx:TE):TE:=λ σ H Q=>td σ H λ x H1=>∃ a,x=.ref a/\IsD H1 a/\ty σ H1 λ y H2=>tx σ H2 λ z H3=>∃ o,DGet H3 a y o/\Q (o.getD z) H3
section
variable {X:Cx} {o e f:Expr} {apos cpos:Pos} {td ty tx:TE}
theorem uz (hu:X.A.units+1<cLine) (ho:PE X o td) (he:PE X e ty) (hf:PE X f tx) (m:M2 X o "get" apos e f cpos):PE X (.Call (.Attribute o "get" apos) [e,f] [] cpos) (qV td ty tx):=by
 intro pins s σ H Q I h
 refine wpAny_Call_method m.base m.few m.line Gu Hu PySem.F.type_dict_get (thn (ho pins s σ H _ I h) λ u s1 ⟨x,H1,I1,rx,a,ex,d,q1⟩=>?_)
 subst ex
 obtain rfl:u=EG a:=rx
 obtain ⟨t1,t2,_⟩:=vE I1 d
 refine ⟨t1,t2,?_⟩
 rw [m.trees]
 refine FB rfl (GL (FZ (thn (he pins s1 σ H1 _ I1 q1) λ iv s2 ⟨y,H2,I2,ry,q2⟩=>
  FZ (thn (hf pins s2 σ H2 _ I2 q2) λ fv s3 ⟨z,H3,I3,rz,ov,g,q3⟩=>He ?_))))
 exact zR hu I3 g ry rz λ w' s4 I4 rw'=>⟨_,H3,I4,rw',q3⟩
end
section
variable {X:Cx} {pins:List (Addr×Obj)} {σ:St} {H:Hp} {s:Shared} {a:Addr} {kvs:List (Key×V)} {A:Around} {E:Value->Shared->Prop}
end
section
variable {X:Cx} {pins:List (Addr×Obj)} {σ:St} {H:Hp} {s:Shared} {a:Addr} {y:V} {u:Value} {A:Around} {E:Value->Shared->Prop}
end
section
variable {X:Cx} {o i value:Expr} {td ty tv:TE} {pos pos':Pos}
theorem xp:QE X (.Dict [] [] pos) qT:=⟨ux⟩
theorem qW (hu:X.A.units+1<cLine) (ho:QE X o td) (hi:QE X i ty) (hv:QE X value tv) (hs:swapsWith value (some (.Subscript o i pos')) pos.line X.env=pure false:=by rfl) :
  QS X (.Assign [.Subscript o i pos'] value pos) (xn td ty tv):=⟨xo hu ho.out hi.out hv.out hs⟩
end
noncomputable def itN (os:List Nat):Nat->Nat->Nat
 | 0,i=>i
 | k+1,i=>os.getD (itN os k i) 0
noncomputable def Rb (os:List Nat) (i j:Nat):Prop:=∃ k,j=itN os k i
noncomputable def DT (os:List Nat) (a:Nat):Prop:=os.getD a 0≠a/\∀ a',a'<a->¬ Rb os a' a
noncomputable def sm (f:Nat->Nat):Nat->Nat
 | 0=>0
 | n+1=>sm f n+f n
open Classical in
noncomputable def ld (os:List Nat) (a:Nat):Nat:=if DT os a then 1 else 0
theorem gq {xs:List Nat} (h:xs.Nodup) (hb:∀ x∈xs,x<n):xs.length<=n:=by
 rcases Gd n xs.length with g | g
 ·have:=(qG (ys:=Eu n) h (λ x hx=>FI.mpr (hb x hx)) (by rw [FC]; lia)).length_eq
  rw [FC] at this
  lia
 ·exact g
noncomputable def bk (at_:Nat) (s:pe):pe:=(s.1,s.2.1,if s.2.2<=at_ then s.2.2 else s.2.2 - 1)
end L2
namespace HT
open PySem PyProof.Rows PySem.W L2
section
variable {prog:Program} {w:World} {A:Around} {E:Value->Shared->Prop} {s:Shared} {a kS:Addr} {vs ks:List Value} {e e1:Nat} {P:Mr->Shared->Prop}
end
end HT
namespace L2
open PySem PySem.Spec PyProof.Rows PySem.W
section
variable {X:Cx} {N frs:List Str} {x qual:Str} {ix:List Nat} {scope:Scope} {cl:List (Str×Addr)} {A:Around} {f c' C:Addr}
end
section
variable {X:Cx} {N frs:List Str} {x:Str} {ix:List Nat} {scope:Scope} {cl:List (Str×Addr)} {A:Around} {cc P:Addr} {pins:List (Addr×Obj)} {σ:St} {H:Hp} {s:Shared} {params:Arguments} {body:Expr} {lpos:Pos}
section
variable {te:TE} {t:TA} {p p2 pos pos2 kpos:Pos} {e a:Expr} {k:Nat} {qual:Str}
end
end
section
variable {P:Program} {w:World} {K:Ee} {mg:Str->Option Value} {base:Heap}
end
section
variable {X:Cx} {o:Expr} {to:TE} {pos apos cpos:Pos}
end
end L2
namespace L2
open PySem PySem.Spec PyProof.Rows
section
variable {X:Cx}
end
inductive Kd (H:Hp):V->Prop where
 | non:Kd H .non
 | bl (b:Bool):Kd H (.bl b)
 | int (i:Int):Kd H (.int i)
 | str (y:Str):Kd H (.str y)
 | lst {a:Addr} {xs:List V} (e:H a=some (.lst xs)):Kd H (.ref a)
 | tup {a:Addr} {xs:List V} (e:H a=some (.tup xs)):Kd H (.ref a)
section
variable {K:Ee} {H:Hp} {Q:VK}
end
section
variable {H:Hp} {n w:Nat}
end
section
variable {H H1 H2:Hp}
end
section
variable {H H1:Hp} {p a:Addr} {o:HO}
end
section
variable {H H1:Hp} {x:V} {os:List Nat} {a:Addr} {xs:List V}
end
section
variable {rss:List (List Nat)} {f m l:Nat} {x y:List Nat}
end
section
variable {rss:List (List Nat)}
noncomputable def DU (rss:List (List Nat)) (f a:Nat):Prop:=∀ i,f<=i->i+1<f+a->brk rss (i+1)=false
noncomputable def Ct (rss:List (List Nat)):Nat->List Nat->Prop
 | _,[]=>True
 | f,a::r=>DU rss f a/\Ct rss (f+a) r
end
noncomputable def sS (xs ys:List Nat) (w:Nat×Nat):Nat:=if w.1=0 then xs.getD w.2 0 else ys.getD w.2 0
section
variable {X:Cx} {pos:Pos}
end
section
variable {X:Cx} {tg a b c:Expr} {t:TA} {p pos:Pos}
end
noncomputable def cs:Nat->List Nat->List Nat
 | f,[]=>[f]
 | f,a::r=>f::cs (f+a) r
noncomputable def Fl (e C:Addr) (H:Hp) (h0 h:Heap):Prop:=
 ∃ oe vs T oT ts a0,h.get? e=some oe/\oe.cls=.ref C/\oe.data=.fields vs/\vs[0]? = some a0/\vs[1]? = some (.ref T)/\T≠e/\h.get? T=some oT/\oT.data=.fields ts/\ts[3]? = some .none/\
  H e=none/\H T=none/\h0.get? e=none/\h0.get? T=none
section
variable {X:Cx} {pins:List (Addr×Obj)} {σ:St} {H:Hp} {s:Shared} {h':Heap}
end
noncomputable abbrev XW:=Addr->St->Hp->Prop
noncomputable abbrev TX:=Ends->XW->St->Hp->Prop
noncomputable def XP (X:Cx) (pins:List (Addr×Obj)) (Ex:XW) (ev:Value) (s':Shared):Prop:=
  ∃ e C σ' H',ev=.ref e/\Ex C σ' H'/\
    ((∃ s0 vs,Inv X pins σ' H' s0/\Heap.MadeExcOf s0.heap s'.heap e (.ref C) vs/\s'={ s0 with heap:=s'.heap })\/
     (Inv X pins σ' H' s'/\∃ hb:Heap,Fl e C H' hb s'.heap/\(∀ b o,X.s₀.heap.get? b=some o->∃ o',hb.get? b=some o')/\∀ p∈X.pn++pins,∃ o',hb.get? p.1=some o'))
noncomputable abbrev TEX:=St->Hp->VK->(Addr->Hp->Prop)->Prop
section
variable {X:Cx} {st:Stmt} {sts s1 s2:List Stmt} {T1 T2:TX} {c e:Expr} {es:List Expr} {tA:TT} {te:TE} {t:TA} {pos p:Pos} {x:Str} {i:Nat}
noncomputable def DV (i:Nat) (te:TEX):TX:=λ D Ex σ H=>te σ H (λ v H1=>D.nx (σ.set i (some v)) H1) λ C H1=>Ex C σ H1
variable {tx:TEX}
end
section
variable {X:Cx} {pins:List (Addr×Obj)} {σ:St} {H:Hp} {s:Shared} {h':Heap}
end
section
variable {P:Program} {w:World} {K:Ee} {mg:Str->Option Value} {base:Heap}
end
end L2
namespace L2
open PySem PySem.Spec PyProof.Rows PySem.W
section
variable {prog:Program} {w:World} {A:Around} {E:Value->Shared->Prop} {h:Heap} {g:Array GenState} {d:Drawn} {t:Nat} {os:OsState} {K:Frag} {a C:Addr} {o:Obj} {vs:Array Value}
end
section
variable {X:Cx}
end
section
variable {X:Cx} {e:Expr} {es:List Expr} {t:TA} {np cpos pos p:Pos} {x:Str} {C:Addr}
end
section
variable {X:Cx} {pins:List (Addr×Obj)} {σ:St} {H:Hp} {s:Shared}
end
section
variable {X:Cx} {body suite:List Stmt} {b0:Stmt} {tb:TX} {ts:TS} {n x:Str} {i:Nat} {C:Addr} {np hpos pos:Pos}
end
end L2
namespace L2
open PySem PySem.Spec PyProof.Rows
section
variable {X:Cx} {v:Expr} {te:TE} {a b:Str} {p1 p2 p3 pos:Pos} {j1 j3:Nat}
end
section
variable {D:Ends} {Ex:XW} {σ:St} {H:Hp} {Q:VK} {K:Ee} {i:Nat} {C:Addr}
theorem xq {te:TEX} (h:te σ H (λ v H1=>D.nx (σ.set i (some v)) H1) λ C H1=>Ex C σ H1):DV i te D Ex σ H:=h
end
section
variable {X:Cx}
end
section
variable {H H1:Hp} {x:V} {n:Nat}
end
end L2
namespace HT
open PySem PyProof.Rows PySem.W L2
noncomputable def lt2 (k m:List Int×List Int):Bool:=if k.1=m.1 then bp k.2 m.2 else bp k.1 m.1
theorem iQ:∀ (a b:List Int),bp a b=false->bp b a=false->a=b
 | [],[],_,_=>rfl
 | [],y::b,h,_=>by cases h
 | x::a,[],_,h=>by cases h
 | x::a,y::b,h1,h2=>by
  rw [bo] at h1 h2
  by_cases g:x=y
  ·subst g
   rw [if_pos rfl] at h1 h2
   rw [iQ a b h1 h2]
  ·rw [if_neg g] at h1
   rw [if_neg (Ff g)] at h2
   have:=of_decide_eq_false h1
   have:=of_decide_eq_false h2
   lia
theorem uA (a b:List Int×List Int) (h:lt2 a b=true):lt2 b a=false:=by
 unfold lt2 at *
 by_cases g:a.1=b.1
 ·rw [if_pos g] at h
  rw [if_pos g.symm]
  exact dv _ _ h
 ·rw [if_neg g] at h
  rw [if_neg (Ff g)]
  exact dv _ _ h
theorem xr (a b c:List Int×List Int) (h1:lt2 a b=false) (h2:lt2 b c=false):lt2 a c=false:=by
 obtain ⟨a1,a2⟩:=a
 obtain ⟨b1,b2⟩:=b
 obtain ⟨c1,c2⟩:=c
 unfold lt2 at *
 dsimp only at *
 by_cases g:a1=b1
 ·subst g
  rw [if_pos rfl] at h1
  by_cases g':a1=c1
  ·rw [if_pos g'] at h2 ⊢
   exact lI _ _ _ h1 h2
  ·rw [if_neg g'] at h2 ⊢
   exact h2
 ·rw [if_neg g] at h1
  by_cases g':b1=c1
  ·subst g'
   rw [if_neg g]
   exact h1
  ·rw [if_neg g'] at h2
   have h3:=lI _ _ _ h1 h2
   by_cases g2:a1=c1
   ·subst g2
    exact absurd (iQ _ _ h1 h2) g
   ·rw [if_neg g2]; exact h3
theorem zS (ks:List (List Int×List Int)):Lt (λ i j=>lt2 (ks.getD i ([],[])) (ks.getD j ([],[]))):=⟨λ i j h=>uA _ _ h,λ i j k h1 h2=>xr _ _ _ h1 h2⟩
theorem kl (prog:Program) (w:World):∀ {xs:List Value} {ns:List Int},IntsAre xs ns->ItemsAre (intKind prog w) ns xs
 | _,_,.nil=>.nil
 | _,_,.cons n t r=>.cons (by simp [intKind,Kh]) (kl prog w r)
section
variable {prog:Program} {w:World} {A:Around} {E:Value->Shared->Prop} {s:Shared}
theorem xt {x y q q':Addr} {its its2 jts jts2:Array Value} {us2:List Value} {k m:List Int×List Int} {Q:Bool->Shared->Prop} (hu:A.units<cLine) (hx:IsTup s.heap x its) (hy:IsTup s.heap y its2) (ex:its.toList=.ref q::us) (ey:its2.toList=.ref q'::us2) (hi:IntsAre us k.2) (hj:IntsAre us2 m.2)
  (hq:IsTup s.heap q jts) (hq':IsTup s.heap q' jts2) (iq:IntsAre jts.toList k.1) (iq':IntsAre jts2.toList m.1) (h:Q (lt2 k m) s) :
  wpAny (model prog w) A (keyLt' (tuples' false) (.ref x) (.ref y)) Q E s:=by
 obtain ⟨o,ho,hc,n,hd⟩:=id hx
 obtain ⟨o2,ho2,hc2,n2,hd2⟩:=id hy
 refine kat_lt ho hd ho2 hd2 ?_
 rw [ex,ey,FG]
 obtain ⟨ov,hov,hcv,nv,hdv⟩:=id hq
 obtain ⟨ov2,hov2,hcv2,nv2,hdv2⟩:=id hq'
 refine kat_cons (wpAny_eqBool_tuple (knd:=intKind prog w) hu ⟨ov,jts,nv,hov,hcv,hdv,kl prog w iq⟩ ⟨ov2,jts2,nv2,hov2,hcv2,hdv2,kl prog w iq'⟩ ?_)
 unfold lt2 at h
 by_cases g:k.1=m.1
 ·rw [if_pos g] at h
  rw [decide_eq_true g]
  refine kat_yes (nY hi hj 1 false ?_ h)
  have e1:its.size=its.toList.length:=rfl
  have e2:its2.size=its2.toList.length:=rfl
  rw [e1,e2,ex,ey,EM,EM,<-hi.length,<-hj.length]
  simp
 ·rw [if_neg g] at h
  rw [decide_eq_false g]
  refine kat_no ?_
  exact kat_one _ _ (oP hq hq' iq iq' hu h)
theorem uB {vs fs:List Value} {Q:SortKind->Shared->Prop} (h2:2<=vs.length) (hl:vs.length=fs.length) (t:KatTups s.heap vs fs) (hf:∀ f∈fs,∃ q its,f=.ref q/\IsTup s.heap q its)
  (h:Q (tuples' false) s):wpAny (model prog w) A (keyKind' vs.toArray) Q E s:=by
 refine kat_kind (T:=G5 "tuple") t (by lia) (λ v hv=>?_) rfl h
 obtain ⟨q,its,rfl,o,ho,hc,_⟩:=hf v hv
 rw [<-hc]
 exact (Looks.ld ho).andThen .now
theorem n6:∀ {vs:List Value} {fs:List Value},vs.length=fs.length->(∀ (i:Nat) v f,vs[i]? = some v->fs[i]? = some f->∃ a its us,v=.ref a/\IsTup s.heap a its/\its.toList=f::us)->KatTups s.heap vs fs
 | [],[],_,_=>.nil
 | v::vs,f::fs,hl,h=>by
  have k1:=n6 (vs:=vs) (fs:=fs) (by simpa using hl) (λ i v r e1 e2=>h (i+1) v r (by simpa using e1) (by simpa using e2))
  obtain ⟨a,its,us,rfl,⟨o,ho,hc,n,hd⟩,hi⟩:=h 0 v f rfl rfl
  obtain ⟨its'⟩:=its
  simp only at hi
  subst hi
  exact KatTups.cons (f:=f) ho hc hd (by simp) k1
end
end HT
namespace L2
open PySem PySem.Spec PyProof.Rows
section
variable {X:Cx}
end
section
variable {X:Cx} {o e value:Expr} {es:List Expr} {f m x:Str} {pos pos' tpos apos p:Pos} {ta tv:TE} {t:TA} {C g:Addr} {CX:CXT} {k:Nat} {fd:FuncData} {ps:List Str} {sp:Sp} {E:XK}
end
section
variable {K:Ee} {σ:St} {H:Hp} {Q:VK} {D:Ends} {ta tv:TE} {t:TA} {f m:Str} {C:Addr} {sp:Sp} {E:XK} {a dx:Addr} {fs:List (Str×V)} {v:V}
end
noncomputable def qX (x:V) (d:PyData):Prop:=(x=.non/\d=.none)\/(∃ b,x=.bl b/\d=.bool b)\/(∃ i:Int,x=.int i/\d=.int i)\/(∃ y,x=.str y/\d=.str y/\IE y=true)
noncomputable def DatE:Nat->Hp->V->PyData->Prop
 | 0,_,x,d=>qX x d
 | n+1,H,x,d=>qX x d\/(∃ a xs ds,x=.ref a/\d=.list ds/\H a=some (.lst xs)/\xs.length=ds.length/\∀ (i:Nat) u e,xs[i]? = some u->ds[i]? = some e->DatE n H u e)\/
  (∃ a xs ds,x=.ref a/\d=.tuple ds/\H a=some (.tup xs)/\xs.length=ds.length/\∀ (i:Nat) u e,xs[i]? = some u->ds[i]? = some e->DatE n H u e)
theorem DatE.leaf {H:Hp} {x:V} {d:PyData} (h:qX x d):∀ {n:Nat},DatE n H x d
 | 0=>h
 | n+1=>.inl h
theorem DatE.int {H:Hp} {n:Nat} (i:Int):DatE n H (.int i) (.int i):=DatE.leaf (.inr (.inr (.inl ⟨i,rfl,rfl⟩)))
theorem DatE.str {H:Hp} {n:Nat} {y:Str} (h:IE y=true):DatE n H (.str y) (.str y):=DatE.leaf (.inr (.inr (.inr ⟨y,rfl,rfl,h⟩)))
theorem DatE.lst {H:Hp} {n:Nat} {a:Addr} {xs:List V} {ds:List PyData} (e:H a=some (.lst xs)) (hl:xs.length=ds.length) (h:∀ (i:Nat) u e,xs[i]? = some u->ds[i]? = some e->DatE n H u e):DatE (n+1) H (.ref a) (.list ds):=
 .inr (.inl ⟨a,xs,ds,rfl,rfl,e,hl,h⟩)
theorem DatE.tup {H:Hp} {n:Nat} {a:Addr} {xs:List V} {ds:List PyData} (e:H a=some (.tup xs)) (hl:xs.length=ds.length) (h:∀ (i:Nat) u e,xs[i]? = some u->ds[i]? = some e->DatE n H u e):DatE (n+1) H (.ref a) (.tuple ds):=
 .inr (.inr ⟨a,xs,ds,rfl,rfl,e,hl,h⟩)
theorem DatE.facts {H:Hp}:∀ {n:Nat} {x:V} {d:PyData},DatE n H x d->d.canLay0=true/\d.depth<=n
 | n,x,d,h=>by
  have hint:qX x d->d.canLay0=true/\d.depth<=n:=by
   rintro (⟨rfl,rfl⟩ | ⟨b,rfl,rfl⟩ | ⟨i,rfl,rfl⟩ | ⟨y,rfl,rfl,hy⟩)
   ·exact ⟨rfl,EI _⟩
   ·exact ⟨rfl,EI _⟩
   ·exact ⟨rfl,EI _⟩
   ·exact ⟨hy,EI _⟩
  match n,h with
  | 0,h=>exact hint h
  | n+1,h=>
   rcases h with h | ⟨a,xs,ds,rfl,rfl,ha,hl,hi⟩ | ⟨a,xs,ds,rfl,rfl,ha,hl,hi⟩
   ·exact hint h
   ·have hd:∀ d∈ds,d.canLay0=true/\d.depth<=n:=λ d hd=>by
     obtain ⟨i,e⟩:=GM hd
     have hlt:=bQ e
     exact DatE.facts (hi i (xs[i]'(by lia)) d (Ef _) e)
    exact ⟨qJ (P:=K3) (PA:=Kb) rfl (λ _ _=>rfl) λ d h=>(hd d h).1,Kw (fJ λ d h=>(hd d h).2)⟩
   ·have hd:∀ d∈ds,d.canLay0=true/\d.depth<=n:=λ d hd=>by
     obtain ⟨i,e⟩:=GM hd
     have hlt:=bQ e
     exact DatE.facts (hi i (xs[i]'(by lia)) d (Ef _) e)
    exact ⟨qJ (P:=K3) (PA:=Kb) rfl (λ _ _=>rfl) λ d h=>(hd d h).1,Kw (fJ λ d h=>(hd d h).2)⟩
section
variable {X:Cx} {pins:List (Addr×Obj)} {σ:St} {H:Hp} {s:Shared}
theorem DatE.reads (I:Inv X pins σ H s):∀ {n:Nat} {x:V} {d:PyData} {v:Value},DatE n H x d->RelV x v->∃ as,Reads s.heap v d as
 | n,x,d,v,h,r=>by
  have hint:qX x d->∃ as,Reads s.heap v d as:=by
   rintro (⟨rfl,rfl⟩ | ⟨b,rfl,rfl⟩ | ⟨i,rfl,rfl⟩ | ⟨y,rfl,rfl,_⟩)
   ·cases r; exact ⟨_,.none⟩
   ·cases r; exact ⟨_,.bool b⟩
   ·obtain ⟨t,rfl⟩:=r; exact ⟨_,.int i t⟩
   ·obtain ⟨t,rfl⟩:=r; exact ⟨_,.str y t⟩
  match n,h with
  | 0,h=>exact hint h
  | n+1,h=>
   rcases h with h | ⟨a,xs,ds,rfl,rfl,ha,hl,hi⟩ | ⟨a,xs,ds,rfl,rfl,ha,hl,hi⟩
   ·exact hint h
   ·cases r
    obtain ⟨its,m,rv,ho,hz⟩:=I.lst ha
    obtain ⟨as,h1⟩:=fK (R:=DatE n H) (λ x v d h r=>DatE.reads I h r) rv hl hi
    exact ⟨_,.list ho rfl rfl (by simpa using h1)⟩
   ·cases r
    obtain ⟨its,rv,⟨ob,ho,hc,m,hd⟩,hz⟩:=I.tuple (MK ha)
    obtain ⟨as,h1⟩:=fK (R:=DatE n H) (λ x v d h r=>DatE.reads I h r) rv hl hi
    exact ⟨_,.tuple ho hc hd (by simpa using h1)⟩
noncomputable def Dr:R2:=λ x y H Q=>∃ (n:Nat) (d e:PyData),DatE n H x d/\DatE n H y e/\n<=32/\Q (.bl (!PyData.eqv d e)) H
theorem Cu (hu:X.A.units+64<cLine):QOp X (compareOp .NotEq) Dr:=by
 refine ⟨λ pins s σ H x y v u Q I rx ry h=>?_⟩
 obtain ⟨n,d,e,hd,he,hn,q⟩:=h
 obtain ⟨as,r1⟩:=hd.reads I rx
 obtain ⟨bs,r2⟩:=he.reads I ry
 have f1:=hd.facts
 have f2:=he.facts
 exact LU r1 r2 f1.1 f2.1 (by have:=Nat.min_le_left d.depth e.depth; have:=f1.2; lia) X.prog X.w X.xe _ ⟨.bl _,H,I,rfl,q⟩
end
section
variable {H:Hp} {Q:VK} {x y:V} {n:Nat} {d e:PyData}
theorem qY (h1:DatE n H x d) (h2:DatE n H y d) (hn:n<=32) (h:Q (.bl false) H):Dr x y H Q:=⟨n,d,d,h1,h2,hn,by rw [Mg d h1.facts.1]; exact h⟩
end
end L2
namespace HT
open PySem PyProof.Rows PySem.W L2
section
variable {prog:Program} {w:World} {A:Around} {E:Value->Shared->Prop} {s:Shared}
end
end HT
namespace L2
open PySem PySem.Spec PyProof.Rows PySem.W
section
variable {X:Cx} {e:Expr} {t:TA} {p pos kpos cp:Pos} {k:Nat} {j:Nat}
theorem zT {s:Shared} {Q:List Value->Shared->Prop} {a:Expr} (h:wpAny (model X.prog X.w) X.A (eval a X.env) (λ v s'=>Q [v] s') E s) :
  wpAny (model X.prog X.w) X.A (evalAll ((backToKw pos (keywordEach [⟨some x,a,kpos⟩] X.env)).map (·.2))) Q E s:=by
 show wpAny _ _ (evalAll ((do let v <-eval a X.env; standAt pos; pure v)::[])) _ _ s
 exact wpAny_evalAll_cons (wpAny_bind (wpAny_mono h (λ v s' hq=>wpAny_bind (wpAny_standAt (wpAny_pure (wpAny_evalAll_nil hq)))) λ _ _ z=>z))
end
end L2
namespace L2
open PySem PySem.Spec PyProof.Rows
noncomputable abbrev PR:=Option (Nat×Nat)
structure HW where
 ps:List PR
 hd:PR
 mks:List Nat
 en:List Nat
 pt:Nat
noncomputable def fm (ps:List PR):List (Nat×Nat):=ps.filterMap id
section
variable {qs:List (Nat×Nat)} {b:Nat} {st:HW}
end
section
variable {qs:List (Nat×Nat)} {b:Nat} {st:HW}
end
section
variable (pa:Addr) (hv v:V) (ma ea:Addr) (n m:Int)
end
section
variable {C:Addr} {H H1:Hp} {w pa ma ea:Addr} {vs:List V} {hv:V} {st:HW}
end
noncomputable def hw0 (qs:List (Nat×Nat)) (b:Nat):HW:=⟨qs.map some,none,(Eu b).map λ f=>gj (qs.map MC) f,(Eu b).map λ f=>gj (qs.map MC) (f+1),0⟩
end L2
namespace HT
open PySem PyProof.Rows PySem.W L2
section
open PySem.SeqAt
open PySem.AutoSeq1 (wpAny_loadPart')
open PySem.MeetsSeq PySem.MeetsSeq2 PySem.MeetsSeq3
end
section
variable {prog:Program} {w:World} {A:Around} {E:Value->Shared->Prop} {s:Shared}
end
end HT
namespace L2
open PySem PySem.Spec PyProof.Rows
section
variable {X:Cx}
end
noncomputable abbrev HP:=List Nat×Nat
noncomputable def hlt (x y:HP):Bool:=HT.lt2 (aY x.1,[(x.2:Int)]) (aY y.1,[(y.2:Int)])
noncomputable def hd (L:List (List (List Nat))) (ms:List Nat) (i:Nat):Option HP:=((L.getD i [])[ms.getD i 0]?).map λ r=>(r,i)
section
variable {prog:Program} {w:World} {A:Around} {R:Result->Shared->Prop} {s:Shared} {scope:Scope}
end
section
variable {X:Cx} {N tgs frs:List Str} {ix:List Nat} {scope:Scope} {cl:List (Str×Addr)}
end
section
variable {K:Ee} {g g2:TG} {wi2:TI} {te:TE} {σ0:St} {H:Hp} {R:List V->Hp->Prop}
end
inductive RMv where
 | take (p:Nat)
 | move (p q:Nat)
 | lay (p:Nat)
section
variable {H H1:Hp} {v y:V} {d:PyData}
variable {vs us rs:List V} {ds:List PyData}
end
section
variable (ta:Addr) (hv v:V) (pa:Addr) (n m:Int)
end
section
variable {C:Addr} {H H1:Hp} {w ta pa:Addr} {ps:List Addr} {us:List V} {hv:V} {ms:List RMv} {d:Nat}
end
section
variable {X:Cx} {e:Expr} {es:List Expr} {t:TA} {pos p:Pos} {x:Str} {C f:Addr}
end
end L2
namespace HT
open PySem PySem.Spec PyProof.Rows PySem.W L2
section
variable {prog:Program} {w:World} {A:Around} {E:Value->Shared->Prop} {s:Shared}
end
end HT
namespace L2
open PySem PySem.Spec PyProof.Rows
theorem jJ:∀ {ys:List Str} {us:List Value},Vals (ys.map MM) us->StrsAre us ys
 | [],_,h=>by cases h; exact .nil
 | y::ys,_,h=>by
  cases h with
  | cons rv r=>obtain ⟨t,rfl⟩:=rv; exact .cons y t (jJ r)
section
variable {X:Cx}
end
noncomputable def DW (s:List V×V):List V:=(s.1++[s.2]).filter (λ v=>decide (v≠V.non))
noncomputable def turn (r:List Nat):List Nat:=r.take 1++(r.drop 1).reverse
noncomputable def Pr (H:Hp) (v:V):Option (List Nat×Nat)->Prop
 | none=>v=.non
 | some x=>∃ t r,v=.ref t/\H t=some (.tup [.ref r,.int ((x.2:Nat):Int)])/\H r=some (.tup (NV x.1))/\x.1.length<=3
section
variable {H H1:Hp} {v y z:V} {d e:Option (List Nat×Nat)}
variable {vs us rs:List V}
end
section
variable {C:Addr} {H H1:Hp} {w ta pa:Addr} {ps:List Addr} {us:List V} {hv:V} {ms:List RMv} {d:Nat}
end
noncomputable def PrAt (H:Hp) (vs:List V) (ds:List (List Nat×Nat)):Prop:=vs.length=ds.length/\∀ (i:Nat) v d,vs[i]? = some v->ds[i]? = some d->Pr H v (some d)
section
variable {H H1:Hp} {vs us:List V} {ds:List (List Nat×Nat)} {v:V} {d:List Nat×Nat}
theorem PrAt.nil:PrAt H [] []:=⟨rfl,λ i v d a=>by simp at a⟩
theorem PrAt.snoc (h:PrAt H vs ds) (hv:Pr H v (some d)):PrAt H (vs++[v]) (ds++[d]):=by
 refine ⟨by simp [h.1],λ i w e a b=>?_⟩
 rcases aL a with ⟨l,a⟩ | ⟨l,a⟩
 ·rcases aL b with ⟨_,b⟩ | ⟨l',b⟩
  ·exact h.2 i w e a b
  ·have:=h.1; lia
 ·rcases aL b with ⟨l',b⟩ | ⟨_,b⟩
  ·have:=h.1; lia
  ·rw [a,b]; exact hv
end
section
variable {X:Cx} {e:Expr} {te:TE} {pos p1 p2 p3 p4 p5:Pos} {j j':Nat}
end
end L2
namespace HT
open PySem PyProof.Rows PySem.W L2
section
variable {prog:Program} {w:World} {A:Around} {E:Value->Shared->Prop}
noncomputable def Ds (f:Nat->Int) (d v:Value) (n:Nat):Prop:=n=0/\v=d\/∃ (i:Nat) (t:Tok),i<n/\v=.int (f i) t/\∀ m,m<n->f m<=f i
theorem qZ {I:Addr} {wr:List Addr} {P:Nat->Value->Prop} {St:Nat->Heap->Prop} {d:Value} {R:Result->Shared->Prop} (f:Nat->Int) (W:Walks prog w A.in1 I fp wr n P St) (hf:∀ i v,P i v->∃ t,v=.int (f i) t) (hSf:S∉fp) :
  ∀ (k j:Nat) (s:Shared) (vb:List Value) (c:Nat),n - j=k->j<=n->St j s.heap->s.heap.get? S=some (seqObj "list" vb.toArray c)->
   (vb=[]/\j=0\/∃ (i:Nat) (t:Tok),i<j/\vb=[.int (f i) t,.int (f i) t]/\∀ m,m<j->f m<=f i)->
   (∀ v h' tk,Ds f d v n->(∀ b o,b∉wr->b≠S->s.heap.get? b=some o->h'.get? b=some o)->R (.ok (.ret v)) { s with heap:=h',toks:=tk })->
   codeAny (model prog w) A (.builtin "max.loop" ⟨[.ref I,.none,.ref S],[(E1 "default",d)]⟩) R s:=by
 have hSw:S∉wr:=λ z=>hSf (W.sub _ z)
 have nm:(toString "max"++toString ".loop" : String) = "max.loop":=by decide
 intro k
 induction k with
 | zero=>
  intro j s vb c hk hj hst hS hb hR
  have hin:j=n:=by lia
  refine codeAny_builtin Jg ?_
  rw [Fz FN _]
  show wpAny _ A.in1 (seqItems? (.ref S) >>= _) _ _ s
  refine wpAny_bind (wpAny_seqItems hS rfl ?_)
  show wpAny _ A.in1 (tryCatch (pyNext (.ref I)) _ >>= _) _ _ s
  refine wpAny_bind (wpAny_tryCatch (W.done s _ _ (hin▸hst) λ h' tk kp=>?_))
  have hS1:=kp S _ hSw hS
  rcases hb with ⟨rfl,h0⟩ | ⟨i,t,hi,rfl,hm⟩
  ·refine wpAny_bind (wpAny_rule (wpAny_pure ?_))
   exact hR d _ tk (.inl ⟨by lia,rfl⟩) λ b o q1 q2 e=>kp b o q1 e
  ·show wpAny _ A.in1 (updateSeq S (λ _=>#[]) >>= _) _ _ _
   refine wpAny_bind ?_
   refine wpAny_updateSeq hS1 rfl (wpAny_bind (wpAny_letGo (wpAny_pure ?_)))
   exact hR _ _ tk (.inr ⟨i,t,by lia,rfl,λ m q=>hm m (by lia)⟩) λ b o q1 q2 e=>(FA _ _ (Ff q2)).trans (kp b o q1 e)
 | succ k ih=>
  intro j s vb c hk hj hst hS hb hR
  have hlt:j<n:=by lia
  refine codeAny_builtin Jg ?_
  rw [Fz FN _]
  show wpAny _ A.in1 (seqItems? (.ref S) >>= _) _ _ s
  refine wpAny_bind (wpAny_seqItems hS rfl ?_)
  show wpAny _ A.in1 (tryCatch (pyNext (.ref I)) _ >>= _) _ _ s
  refine wpAny_bind (wpAny_tryCatch (W.item j s _ _ hlt hst λ v h' tk hP st1 kp=>?_))
  obtain ⟨tv,rfl⟩:=hf j v hP
  have hS1:=kp S _ hSw hS
  have upd1:∀ (g:Array Value->Array Value) b (o:Obj),b≠S->h'.get? b=some o->(h'.update S (Fu g)).get? b=some o:=λ g b o q e=>(FA _ _ (Ff q)).trans e
  rcases hb with ⟨rfl,h0⟩ | ⟨i,t,hi,rfl,hm⟩
  ·show wpAny _ A.in1 (updateSeq S (λ _=>#[.int (f j) tv,.int (f j) tv]) >>= _) _ _ _
   refine wpAny_bind ?_
   refine wpAny_updateSeq hS1 rfl ?_
   rw [nm]
   obtain ⟨c1,hc1⟩:∃ c1,(h'.update S (Fu λ _=>#[.int (f j) tv,.int (f j) tv])).get? S=some (seqObj "list" [GV (f j) tv,GV (f j) tv].toArray c1):=⟨_,get?_update_seq hS1 λ _=>#[.int (f j) tv,.int (f j) tv]⟩
   refine wpAny_pure ⟨plainId_quiet FN _,ih (j+1) _ _ c1 (by lia) hlt (W.frame _ _ _ st1 λ b q o e=>upd1 _ b o (λ z=>hSf (z▸q)) e) hc1 (.inr ⟨j,tv,by lia,rfl,λ m q=>?_⟩) λ v2 h2 tk2 q2 k2=>?_⟩
   ·have:m=j:=by lia
    rw [this]; exact Mb _
   ·exact hR v2 h2 tk2 q2 λ b o q3 q4 e=>k2 b o q3 q4 (upd1 _ b o q4 (kp b o q3 e))
  ·show wpAny _ A.in1 (tryCatch (holding [.int (f j) tv,.int (f j) tv] (richCompare .Gt (.int (f j) tv) (.int (f i) t) >>= _)) _ >>= _) _ _ _
   refine wpAny_bind (wpAny_tryCatch (wpAny_holding (wpAny_bind (Ld (prog:=prog) (w:=w) (A:=A.in1) (P:=λ i v=>∃ t,v=.int (f i) t) f (λ i v z=>z) j i _ _ _ _ _ ⟨tv,rfl⟩ ⟨t,rfl⟩ ?_))))
   refine wpAny_bind (wpAny_holding (wpAny_truthy_bool ?_))
   refine wpAny_bind (wpAny_letGo (wpAny_pure ?_))
   by_cases hg:f j > f i
   ·simp only [hg,decide_true,if_true]
    refine wpAny_bind ?_
    refine wpAny_updateSeq hS1 rfl (wpAny_bind (wpAny_letGo ?_))
    rw [nm]
    obtain ⟨c1,hc1⟩:∃ c1,(h'.update S (Fu λ _=>#[.int (f j) tv,.int (f j) tv])).get? S=some (seqObj "list" [GV (f j) tv,GV (f j) tv].toArray c1):=⟨_,get?_update_seq hS1 λ _=>#[.int (f j) tv,.int (f j) tv]⟩
    refine wpAny_pure ⟨plainId_quiet FN _,ih (j+1) _ _ c1 (by lia) hlt (W.frame _ _ _ st1 λ b q o e=>upd1 _ b o (λ z=>hSf (z▸q)) e) hc1 (.inr ⟨j,tv,by lia,rfl,λ m q=>?_⟩) λ v2 h2 tk2 q2 k2=>?_⟩
    ·by_cases e:m=j
     ·rw [e]; exact Mb _
     ·have:=hm m (by lia); lia
    ·exact hR v2 h2 tk2 q2 λ b o q3 q4 e=>k2 b o q3 q4 (upd1 _ b o q4 (kp b o q3 e))
   ·simp only [hg,decide_false,Fd,if_false]
    refine wpAny_bind (wpAny_letGo ?_)
    rw [nm]
    refine wpAny_pure ⟨plainId_quiet FN _,ih (j+1) _ _ c (by lia) hlt st1 hS1 (.inr ⟨i,t,by lia,rfl,λ m q=>?_⟩) λ v2 h2 tk2 q2 k2=>?_⟩
    ·by_cases e:m=j
     ·rw [e]; lia
     ·exact hm m (by lia)
    ·exact hR v2 h2 tk2 q2 λ b o q3 q4 e=>k2 b o q3 q4 (kp b o q3 e)
theorem lK (a v:Value):argsOk "max" ⟨[a],[(E1 "default",v)]⟩:=by unfold argsOk; kernel_rfl
theorem xu {s:Shared} {d:Value} (f:Nat->Int) (hh:A.handled=none) (hl:s.heap.IsList l its.toArray) (hf:∀ (i:Nat) (v:Value),its[i]? = some v->∃ t,v=.int (f i) t)
  (h:∀ v h' tk,Ds f d v its.length->(∀ b o,s.heap.get? b=some o->h'.get? b=some o)->Q v { s with heap:=h',toks:=tk }) :
  wpAny (model prog w) A (call (.builtin "max") [.ref l] [(E1 "default",d)]) Q E s:=by
 have nm:(toString "max"++toString ".loop" : String) = "max.loop":=by decide
 have hll:l<s.heap.objs.size:=by obtain ⟨_,e,_⟩:=id hl; exact Ei e
 refine kmk_tree PySem.F.kind_max PySem.F.plain_max PySem.F.entry_max (lK _ _) ?_
 show wpAny _ A.in1 (HS "max" ["key","default"] 0 ⟨[],[(E1 "default",d)]⟩ >>= _) _ _ s
 refine wpAny_bind (wpAny_of_eq (show HS "max" ["key","default"] 0 ⟨[],[(E1 "default",d)]⟩=pure [none,some d] from rfl) ?_)
 refine wpAny_bind (wpAny_pure ?_)
 refine wpAny_bind (wpAny_pyIter_list hl ?_)
 refine wpAny_bind (wpAny_newList ?_ (EI _))
 rw [nm]
 have hS:(s.heap.push { cls:=.type "list_iterator",data:=.fields #[.ref l,.int 0 0] }).objs.size=s.heap.objs.size+1:=size_push' ..
 have W:=KI (prog:=prog) (w:=w) (A:=A.in1) hh s.heap.objs.size l (Eo hll) its.toArray
 have ez:its.toArray.size=its.length:=Ew ..
 rw [ez] at W
 have hll1:((s.heap.push { cls:=.type "list_iterator",data:=.fields #[.ref l,.int 0 0] }).push (seqObj "list" #[] 0)).IsList l its.toArray:=by
  obtain ⟨o,e,r⟩:=hl
  exact ⟨o,Ec _ (Ec _ e),r⟩
 have hf1:∀ (i:Nat) (v:Value),its.toArray[i]? = some v->∃ t,v=.int (f i) t:=λ i v hv=>hf i v (by simpa using hv)
 refine wpAny_pure ⟨plainId_quiet FN _,qZ f W hf1 (S:=(s.heap.push { cls:=.type "list_iterator",data:=.fields #[.ref l,.int 0 0] }).objs.size) ?_ its.length 0 _ [] 0 (by lia) (EI _) ⟨⟨_,Ec _ (Ek _ rfl),rfl,rfl⟩,hll1⟩ (Ek _ rfl) (.inl ⟨rfl,rfl⟩) λ v h' tk q kp=>?_⟩
 ·rw [hS]
  intro z
  simp only [Er,ER,or_false] at z
  rcases z with z | z
  ·exact absurd z (IB _)
  ·rw [<-z] at hll; exact absurd hll (Ho (Je _))
 ·refine h v h' tk q λ b o e=>kp b o ?_ ?_ (Ec _ (Ec _ e))
  ·intro z
   have e2:b=s.heap.objs.size:=by simpa using z
   exact absurd (e2▸Ei e) (E7 _)
  ·rw [hS]
   have:=Ei e
   exact Eo (FV this)
end
end HT
namespace L2
open PySem PySem.Spec PyProof.Rows PySem.W
section
variable {X:Cx}
theorem xw:QIx X CW:=⟨za⟩
theorem vF:QC X (.builtin "ord") (λ xs H Q=>∃ x,xs=[.str x]/\x.length=1/\Q (.int (x.cps.getD 0 0:Nat)) H):=⟨tH⟩
theorem fj:QC X (.builtin "len") (λ xs H Q=>∃ z,xs=[.str z]/\z.length<=sizeLine/\Q (.int z.length) H):=⟨k4⟩
theorem mW (hg:Gl X x) (hm:X.mg x=some u) (r:RelV v u) (hd:(x == ("__debug__" : Str))=false:=by decide):QE X (.Name x pos) (tC v):=⟨v9 hg hm r hd⟩
noncomputable def Its (z:Str):It:=⟨λ i _=>i<z.cps.size,λ i H x H'=>H'=H/\∃ c,z.cps[i]? = some c/\x=.str ⟨#[c]⟩,λ i _=>i=z.cps.size⟩
theorem n8 {w:World} {K:Ee} {T:String} (hT:["enumerate","zip","dict_itemiterator","dict_reverseitemiterator","odict_iterator","itertools.zip_longest","itertools.pairwise"].contains T=false) (it:Addr) (z:Str) (t:Tok)
  (W:∀ A:Around,A.handled=none->Walks P w A it [it] [it] z.cps.size (SignAt z) (λ i h=>h.IsStrIter it T z t i))
  (hself:∀ (A:Around) (i:Nat) (s:Shared) (Q:Value->Shared->Prop) (E:Value->Shared->Prop),s.heap.IsStrIter it T z t i->Q (.ref it) s->wpAny (model P w) A (pyIter (.ref it)) Q E s) :
  Turn P w K tg (Its z) [it] it (λ i h=>h.IsStrIter it T z t i) where
 mem:=by simp
 obj:=λ i h st b hb=>by
  have e:b=it:=by simpa using hb
  subst e
  obtain ⟨o,e,c,d⟩:=st
  exact ⟨o,e,λ v q=>by rw [d] at q; cases q⟩
 keep:=λ i h h' st k=>by
  obtain ⟨o,e,r⟩:=st
  exact ⟨o,k it (by simp) o e,r⟩
 item:=by
  intro X hP hw hK hc i pins s σ H E I hf st hg
  subst hP hw hK
  obtain ⟨f0,f1,f2,f3,f4,f5⟩:=hf it (by simp)
  refine (W X.A (I.ok.hd hc)).item i s _ _ hg st λ v h' tk hv st' kk=>?_
  obtain ⟨c,u,hcc,rfl⟩:=hv
  have I1:Inv X pins σ H { s with heap:=h',toks:=tk }:=I.turned (λ b o hb e=>kk b o (by simpa using hb) e) f0 f1 f3 f4 f5
  obtain ⟨o,e,cl,d⟩:=id st'
  exact ⟨_,rfl,mD (s:={ s with heap:=h',toks:=tk }) e cl d hT ⟨.str ⟨#[c]⟩,H,I1,⟨u,rfl⟩,⟨rfl,c,hcc,rfl⟩,st',λ b hb=>(hf b hb).1⟩⟩
 done:=by
  intro X hP hw hK hc i pins s σ H E I hf st hg
  subst hP hw hK
  obtain ⟨f0,f1,f2,f3,f4,f5⟩:=hf it (by simp)
  have e:i=z.cps.size:=hg
  subst e
  exact (W X.A (I.ok.hd hc)).done s _ _ st λ h' tk kk=>⟨rfl,I.turned (λ b o hb e=>kk b o (by simpa using hb) e) f0 f1 f3 f4 f5⟩
 self:=λ A i s Q E st h=>hself A i s Q E st h
noncomputable def Dt (te:TE):TI:=λ σ H R=>te σ H λ x H1=>∃ z,x=.str z/\R (Its z) H1
theorem zU {te:TE} (hl:QE X e te):QI X tg e (Dt te):=by
 refine ⟨λ pins s σ H R I h=>?_⟩
 refine thn (hl.out pins s σ H _ I h) λ v s1 ⟨x,H1,I1,r1,q1⟩=>?_
 obtain ⟨z,rfl,q⟩:=q1
 obtain ⟨t,rfl⟩:=r1
 have fin:∀ (T:String) (o:Obj),(s1.heap.push o).IsStrIter s1.heap.objs.size T z t 0->Turn X.prog X.w X.K tg (Its z) [s1.heap.objs.size] s1.heap.objs.size (λ i h=>h.IsStrIter s1.heap.objs.size T z t i)->
   PIE X pins σ tg R (.ref s1.heap.objs.size) { s1 with heap:=s1.heap.push o }:=by
  intro T o h0 hT
  refine ⟨s1.heap.objs.size,[s1.heap.objs.size],_,_,H1,rfl,I1.kept (t':=s1.toks) λ b ob e=>Ec _ e,hT,h0,λ b hb=>?_,q⟩
  have e:b=s1.heap.objs.size:=by simpa using hb
  subst e
  exact I1.fpOk (Eh _) (I1.hok.fresh (Eh _))
 cases ha:z.cps.all (· < 128)
 ·exact wpAny_pyIter_wide ha (fin "str_iterator" _ ⟨_,Ek _ rfl,rfl,rfl⟩ (n8 (by decide) _ z t (λ A hh=>Walks.strWide hh _ z t) λ A i s Q E st h=>wpAny_pyIter_striter_wide st h))
 ·exact wpAny_pyIter_ascii ha (fin "str_ascii_iterator" _ ⟨_,Ek _ rfl,rfl,rfl⟩ (n8 (by decide) _ z t (λ A hh=>Walks.strAscii hh _ z t) λ A i s Q E st h=>wpAny_pyIter_striter_ascii st h))
theorem Cv {H:Hp} {te:TE} {R:It->Hp->Prop} (h:te σ H λ x H1=>∃ z,x=.str z/\R (Its z) H1):Dt te σ H R:=h
variable {o e:Expr} {to:TE} {t:TA} {apos cpos:Pos}
noncomputable def zV (K:Ee) (d:Int) (t:TA):TE:=λ σ H Q=>t σ H λ vs H1=>∃ (l:Addr) (ns:List Int),vs=[.ref l]/\SqL K H1 l (ns.map ML)/\∀ m:Int,(ns=[]/\m=d\/m∈ns/\∀ a∈ns,a<=m)->Q (.int m) H1
theorem q8 {K:Ee} {p kpos cp:Pos} {d:Int} (hc:X.calm=true) (hg:Gl X "max") (hm:X.mg "max" = none) (ha:QA X [e] t) (hn:bz e=true:=by rfl) (hK:X.K=K:=by rfl):QE X (.Call (.Name "max" p) [e] [⟨some "default",.Constant (.int d) j cp,kpos⟩] pos) (zV K d t):=by
 subst hK
 refine ⟨λ pins s σ H Q I h=>?_⟩
 refine wpAny_Call_Name_kw (eG I hg hm (by decide +kernel:bootBuiltins "max" = some (.builtin "max")) ?_)
 have he1:starEach [e] X.env=[(false,eval e X.env)]:=aB hn
 refine callWith_kw (thn (ha.out pos pins s σ H _ I h) λ us s1 hu=>?_) (by rw [he1]; rfl) (by rw [he1]; rfl)
 obtain ⟨vs,H1,I1,r1,l,ns,rfl,hq,q⟩:=hu
 obtain ⟨u,rfl,ru⟩:=ft r1
 cases ru
 refine zT (wpAny_Constant_int ?_)
 obtain ⟨its,rv,pl,hz⟩:=I1.list hq
 have hi:=bR rv
 have hl:its.length=ns.length:=hi.length
 refine HT.xu (λ i=>ns.getD i 0) (I.ok.hd hc) (s:={ s1 with toks:=s1.toks+1 }) pl.isList (λ i v hv=>?_) λ v h' tk hmx kp=>?_
 ·obtain ⟨t1,e1⟩:=HT.xk hi (i:=i) (EE.mp hv).1
  rw [Ej,hv] at e1
  exact ⟨t1,e1⟩
 ·have I2:Inv X pins σ H1 { s1 with heap:=h',toks:=tk }:=I1.kept (t':=tk) kp
  rcases hmx with ⟨h0,rfl⟩ | ⟨i,t1,hi1,rfl,hm1⟩
  ·exact ⟨.int d,H1,I2,⟨_,rfl⟩,q d (.inl ⟨List.eq_nil_of_length_eq_zero (by lia),rfl⟩)⟩
  ·refine ⟨.int (ns.getD i 0),H1,I2,⟨t1,rfl⟩,q _ (.inr ⟨?_,λ a ha=>?_⟩)⟩
   ·rw [Ej,Ef (by lia)]
    exact EQ _
   ·obtain ⟨m,hm2,rfl⟩:=Gk.mp ha
    have:=hm1 m (by lia)
    dsimp only at this
    rw [Ej (l:=ns) (i:=m),Ef hm2] at this
    exact this
theorem Cw {K:Ee} {d:Int} {H:Hp} {Q:VK} (h:t σ H λ vs H1=>∃ (l:Addr) (ns:List Int),vs=[.ref l]/\SqL K H1 l (ns.map ML)/\∀ m:Int,(ns=[]/\m=d\/m∈ns/\∀ a∈ns,a<=m)->Q (.int m) H1):zV K d t σ H Q:=h
end
section
variable {X:Cx}
end
theorem zW {tb:List (Int×Nat)} (hb:∀ z∈tb,1<=z.2/\z.2<=60) {z w:Int×Nat} {x y:Int} (hz:tb[i]? = some z) (hw:tb[j]? = some w) (hx:(bF tb)[i]? = some x) (hy:(bF tb)[j]? = some y) :
  x<y↔z.1*(w.2:Int)<w.1*(z.2:Int):=by
 unfold bF at hx hy
 rw [El,hz] at hx
 rw [El,hw] at hy
 have ex:z.1*((fH (tb.map (·.2)) / z.2:Nat):Int)=x:=EO hx
 have ey:w.1*((fH (tb.map (·.2)) / w.2:Nat):Int)=y:=EO hy
 clear hx hy
 have hzm:=EN hz
 have hwm:=EN hw
 have d1:z.2∣fH (tb.map (·.2)):=nO (Es.mpr ⟨z,hzm,rfl⟩)
 have d2:w.2∣fH (tb.map (·.2)):=nO (Es.mpr ⟨w,hwm,rfl⟩)
 have hL:0<fH (tb.map (·.2)):=nP λ b h=>by
  obtain ⟨z,hz,rfl⟩:=Es.mp h
  exact hb z hz
 have p1:=(hb z hzm).1
 have p2:=(hb w hwm).1
 generalize fH (tb.map (·.2))=L at *
 obtain ⟨k,rfl⟩:=d1
 obtain ⟨l,hl⟩:=d2
 rw [IK _ (by lia)] at ex
 rw [hl,IK _ (by lia)] at ey
 subst ex ey
 have hk:0<k:=IL hL
 have hl0:0<l:=IL (hl▸hL)
 have hc:(z.2:Int)*(k:Int)=(w.2:Int)*(l:Int):=by rw [<-GR,<-GR,hl]
 have zp:(0:Int)<z.2:=by lia
 have wp:(0:Int)<w.2:=by lia
 have kp:(0:Int)<k:=by lia
 have hzk:(0:Int)<(z.2:Int)*(k:Int):=Km zp kp
 -- both sides times z.2*w.2
 have e1:z.1*(k:Int)*((z.2:Int)*(w.2:Int))=z.1*(w.2:Int)*((z.2:Int)*(k:Int)):=by
  simp only [Lh,LV,Kc]
 have e2:w.1*(l:Int)*((z.2:Int)*(w.2:Int))=w.1*(z.2:Int)*((z.2:Int)*(k:Int)):=by
  rw [hc]
  simp only [Lh,LV,Kc]
 constructor
 ·intro h
  have:=HU h (Km zp wp)
  rw [e1,e2] at this
  exact Ii this (JN hzk)
 ·intro h
  have:=HU h hzk
  rw [<-e1,<-e2] at this
  exact Ii this (JN (Km zp wp))
theorem zX:∀ (a b:List Nat) (m:Nat),(∀ c∈a,97<=c)->(∀ c∈b,97<=c)->a.length<=m->b.length<=m->
  HT.bp (a.map (λ c=>((c:Nat):Int) - 96)++EB (m - a.length) 0) (b.map (λ c=>((c:Nat):Int) - 96)++EB (m - b.length) 0)=decide (a<b)
 | [],[],m,_,_,_,_=>by
  have e:∀ n,HT.bp (EB n (0:Int)) (EB n 0)=false:=λ n=>by
   induction n with
   | zero=>rfl
   | succ n ih=>rw [Fi,HT.bo,if_pos rfl]; exact ih
  simp only [GW,KF]
  rw [e]
  exact (decide_eq_false (List.lt_irrefl _)).symm
 | [],c::b,m,_,hb,_,hm=>by
  obtain ⟨k,rfl⟩:∃ k,m=k+1:=⟨m - 1,by simp at hm; lia⟩
  have:=hb c (EJ ..)
  show HT.bp (EB (k+1) 0) (((c:Int) - 96)::_)=_
  rw [Fi,HT.bo,if_neg (by lia),decide_eq_true (by lia)]
  exact (decide_eq_true (List.nil_lt_cons c b)).symm
 | c::a,[],m,ha,_,hm,_=>by
  obtain ⟨k,rfl⟩:∃ k,m=k+1:=⟨m - 1,by simp at hm; lia⟩
  have:=ha c (EJ ..)
  show HT.bp (((c:Int) - 96)::_) (EB (k+1) 0)=_
  rw [Fi,HT.bo,if_neg (by lia),decide_eq_false (by lia)]
  exact (decide_eq_false (λ h=>nomatch h)).symm
 | c::a,d::b,m,ha,hb,h1,h2=>by
  obtain ⟨k,rfl⟩:∃ k,m=k+1:=⟨m - 1,by simp at h1; lia⟩
  have ih:=zX a b k (λ x h=>ha x (EH _ h)) (λ x h=>hb x (EH _ h)) (by simpa using h1) (by simpa using h2)
  have e1:k+1 - (c::a).length=k - a.length:=by simp
  have e2:k+1 - (d::b).length=k - b.length:=by simp
  rw [e1,e2,EU,EU,Kx,Kx,HT.bo]
  by_cases e:c=d
  ·subst e
   rw [if_pos rfl,ih]
   congr 1
   apply propext
   rw [Jk]
   constructor
   ·exact λ h=>.inr ⟨rfl,h⟩
   ·rintro (h | ⟨_,h⟩)
    ·exact absurd h (E7 _)
    ·exact h
  ·rw [if_neg (by lia)]
   congr 1
   apply propext
   rw [Jk]
   constructor
   ·intro h; exact .inl (by lia)
   ·rintro (h | ⟨h,_⟩)
    ·lia
    ·exact absurd h e
end L2
namespace HT
open PySem PyProof.Rows PySem.W L2
noncomputable def RawD (h:Heap) (d:Addr) (es:Array DictEntry) (ep:Nat):Prop:=∃ o,h.get? d=some o/\o.ExactDict/\o.data=.dict es ep
theorem RawD.at {g:Heap} {es:Array DictEntry} (x:RawD h d es ep) (k:∀ o,h.get? d=some o->g.get? d=some o):RawD g d es ep:=by
 obtain ⟨o,e,r⟩:=x
 exact ⟨o,k o e,r⟩
noncomputable abbrev dC (e:DictEntry):Obj:={ cls:=.type "tuple",data:=.seq #[e.key,e.val] }
noncomputable abbrev bT (own fl ok ov:Value) (d:Addr) (i n ep:Nat):Obj:={ cls:=.type "dict_itemiterator",dict:=none,data:=.fields #[own,fl,.ref d,.int i 0,.int n 0,.int ep 0,ok,ov],slots:=#[] }
noncomputable def Ri (h:Heap) (it d S:Addr) (i n ep:Nat):Prop:=∃ own fl ok ov,h.get? it=some (bT own fl ok ov d i n ep)/\(own=.none/\fl=.bool false\/∃ (a:Addr) (b:Bool) (oa:Obj),own=rawInt a/\fl=.bool b/\h.get? a=some oa/\a≠it/\a≠S)
theorem Ri.at {g:Heap} (x:Ri h it d S i n ep) (k:∀ b o,b≠S->h.get? b=some o->g.get? b=some o) (hI:it≠S):Ri g it d S i n ep:=by
 obtain ⟨own,fl,ok,ov,e,c⟩:=x
 refine ⟨own,fl,ok,ov,k _ _ hI e,?_⟩
 rcases c with c | ⟨a,b,oa,e1,e2,e3,e4,e5⟩
 ·exact .inl c
 ·exact .inr ⟨a,b,oa,e1,e2,k _ _ e5 e3,e4,e5⟩
section
variable {prog:Program} {w:World} {A:Around} {E:Value->Shared->Prop} {s:Shared}
theorem uC {es:Array DictEntry} {x:DictEntry} {Q:Option Value->Shared->Prop} (hi:Ri s.heap it d S i es.size ep) (hS:S<s.heap.objs.size) (hD:RawD s.heap d es ep) (hx:es[i]? = some x)
  (h:∀ g,Ri g it d S (i+1) es.size ep->g.get? s.heap.objs.size=some (dC x)->(∀ b o,b≠it->s.heap.get? b=some o->g.get? b=some o)->Q (some (.ref s.heap.objs.size)) { s with heap:=g }) :
  wpAny (model prog w) A (pyNext (.ref it)) Q E s:=by
 obtain ⟨h0,gn,dr,tk,os⟩:=s
 obtain ⟨own,fl,ok,ov,hit,hown⟩:=hi
 obtain ⟨o,ho,_,hd⟩:=hD
 have ty:Li ⟨h0,gn,dr,tk,os⟩ (.ref it) "dict_itemiterator":=⟨_,hit,rfl⟩
 have itl:it<h0.objs.size:=Ei hit
 unfold pyNext
 refine wpAny_bind (wpAny_attempt (wpAny_callSpecial?_slot (name:=E1 "__next__") ty Fq (wpAny_call_entry Fq ty G0 ?_ (GU _))))
 refine wpAny_bind (wpAny_pure (wpAny_bind (wpAny_bind ?_)))
 first | refine wpAny_bind (wpAny_typeNameOfWhole_itemiter ty (wpAny_pure ?_)) | refine wpAny_bind (wpAny_typeNameOf_itemiter ty (wpAny_pure ?_))
 refine wpAny_bind (wpAny_fieldsOf hit rfl ?_)
 simp only [show GH "dict_itemiterator" = true by decide,if_true]
 show wpAny _ _ (if (EG d == E3)=true then _ else _) _ _ _
 rw [if_neg (show ¬ ((EG d == E3)=true) from EF)]
 refine wpAny_bind (wpAny_pure (wpAny_bind (wpAny_dictEntries ho hd ?_)))
 rw [if_neg (by simp)]
 refine wpAny_bind (wpAny_pure (wpAny_bind (wpAny_dictEpoch ho hd ?_)))
 rw [if_neg (by simp)]
 refine wpAny_pure ?_
 simp only [show ¬ ((i:Int)<0) from by lia,if_false,FL,hx]
 refine wpAny_bind ?_
 first | refine wpAny_bind (wpAny_typeNameOfWhole_itemiter ty (wpAny_pure ?_)) | refine wpAny_bind (wpAny_typeNameOf_itemiter ty (wpAny_pure ?_))
 refine wpAny_bind (wpAny_isOneOf_itemiter ty ?_)
 show wpAny _ _ (setField (.ref it) 3 (rawInt ((i:Int)+1)) >>= _) _ _ ⟨h0,gn,dr,tk,os⟩
 refine wpAny_bind (wpAny_setField_rec hit (by simp) λ h1 f1 sb1=>?_)
 have sb1:FT it h0 h1:=sb1
 have f1:h1.get? it=some (bT own fl ok ov d (i+1) es.size ep):=by
  have e:((i+1:Nat):Int)=(i:Int)+1:=by lia
  unfold bT; rw [e]; simpa [rawInt] using f1
 have ty1:Li ⟨h1,gn,dr,tk,os⟩ (.ref it) "dict_itemiterator":=⟨_,f1,rfl⟩
 refine wpAny_bind (wpAny_holding (wpAny_bind (wpAny_isOneOf_itemiter ty1 (wpAny_bind (wpAny_isOneOf_itemiter ty1 ?_)))))
 show wpAny _ _ (Hr (.ref it) 6 x.key x.val) _ _ ⟨h1,gn,dr,tk,os⟩
 unfold Hr
 refine wpAny_bind (wpAny_newTuple ?_)
 have f2:(h1.push (dC x)).get? it=some (bT own fl ok ov d (i+1) es.size ep):=Ec _ f1
 have ez:h1.objs.size=h0.objs.size:=sb1.1
 have t2:(h1.push (dC x)).get? h0.objs.size=some (dC x):=by rw [<-ez]; exact Ek _ rfl
 have k2:∀ b o,b≠it->h0.get? b=some o->(h1.push (dC x)).get? b=some o:=λ b o nb e=>Ec _ (sb1.extBut b o nb e)
 show wpAny _ _ (G7 (.ref it) >>= _) _ _ ⟨h1.push (dC x),gn,dr,tk,os⟩
 rw [ez]
 generalize h1.push (dC x)=h2 at f2 t2 k2
 refine wpAny_bind ?_
 unfold G7
 have nit:h0.objs.size≠it:=ES itl
 rcases hown with ⟨rfl,rfl⟩ | ⟨a,b,oa,rfl,rfl,ha,hai,haS⟩
 ·refine wpAny_bind (wpAny_field f2 rfl (x:=.none) rfl (wpAny_pure ?_))
  simp only [if_true]
  refine wpAny_bind (wpAny_field f2 rfl (x:=ok) rfl (wpAny_bind (wpAny_field f2 rfl (x:=ov) rfl ?_)))
  refine wpAny_bind (wpAny_setField_rec f2 (by simp) λ h3 f3 sb3=>?_)
  have sb3:FT it h2 h3:=sb3
  have f3:h3.get? it=some (bT .none (.bool false) x.key ov d (i+1) es.size ep):=f3
  refine wpAny_bind (wpAny_setField_rec f3 (by simp) λ h4 f4 sb4=>?_)
  have sb4:FT it h3 h4:=sb4
  have f4:h4.get? it=some (bT .none (.bool false) x.key x.val d (i+1) es.size ep):=f4
  refine wpAny_bind (wpAny_setField_rec f4 (by simp) λ h5 f5 sb5=>?_)
  have sb5:FT it h4 h5:=sb5
  have f5:h5.get? it=some (bT (rawInt h0.objs.size) (.bool false) x.key x.val d (i+1) es.size ep):=f5
  refine wpAny_bind (wpAny_setField_rec f5 (by simp) λ h6 f6 sb6=>?_)
  have sb6:FT it h5 h6:=sb6
  have f6:h6.get? it=some (bT (rawInt h0.objs.size) (.bool false) x.key x.val d (i+1) es.size ep):=f6
  have k6:∀ b o,b≠it->h2.get? b=some o->h6.get? b=some o:=λ b o nb e=>sb6.extBut b o nb (sb5.extBut b o nb (sb4.extBut b o nb (sb3.extBut b o nb e)))
  refine wpAny_bind (wpAny_letGo (wpAny_pure (wpAny_pure ⟨_,rfl,wpAny_pure (h h6 ?_ (k6 _ _ nit t2) λ b o nb e=>k6 b o nb (k2 b o nb e))⟩)))
  exact ⟨_,_,_,_,f6,.inr ⟨h0.objs.size,false,_,rfl,rfl,k6 _ _ nit t2,nit,ES hS⟩⟩
 ·have ha2:h2.get? a=some oa:=k2 a oa hai ha
  refine wpAny_bind (wpAny_field f2 rfl (x:=rawInt a) rfl ?_)
  show wpAny _ _ (loadIfAlive ((a:Int).toNat) >>= _) _ _ _
  rw [FL]
  refine wpAny_bind (kdx_alive ha2 ?_)
  simp only [Option.isNone_some,Fd,if_false]
  refine wpAny_bind (wpAny_field f2 rfl (x:=.bool b) rfl ?_)
  have fin:∀ h3:Heap,h3.get? it=some (bT (rawInt a) (.bool true) ok ov d (i+1) es.size ep)->FT it h2 h3->Q (some (.ref h0.objs.size)) ⟨h3,gn,dr,tk,os⟩:=λ h3 f3 sb3=>
   h h3 ⟨_,_,_,_,f3,.inr ⟨a,true,oa,rfl,rfl,sb3.extBut _ _ hai ha2,hai,haS⟩⟩ (sb3.extBut _ _ nit t2) λ c o nb e=>sb3.extBut c o nb (k2 c o nb e)
  cases b with
  | true=>
   rw [if_neg (show ¬ ((Gi true != Gi true)=true) from EF)]
   refine wpAny_pure ?_
   simp only [Fd,if_false]
   exact wpAny_pure (wpAny_pure ⟨_,rfl,wpAny_pure (fin h2 f2 (Mw _ _))⟩)
  | false=>
   rw [if_pos (show (Gi false != Gi true)=true from rfl)]
   refine wpAny_bind (wpAny_setField_rec f2 (by simp) λ h3 f3 sb3=>wpAny_pure ?_)
   simp only [Fd,if_false]
   exact wpAny_pure (wpAny_pure ⟨_,rfl,wpAny_pure (fin h3 f3 sb3)⟩)
theorem xx {es:Array DictEntry} {Q:Option Value->Shared->Prop} (hh:A.handled=none) (hi:Ri s.heap it d S i es.size ep) (hD:RawD s.heap d es ep) (hx:es[i]? = none)
  (h:∀ g,L7 it s.heap g->Q none { s with heap:=g }):wpAny (model prog w) A (pyNext (.ref it)) Q E s:=by
 obtain ⟨own,fl,ok,ov,hit,_⟩:=hi
 obtain ⟨o,ho,_,hd⟩:=hD
 have ty:s.TypeIs (.ref it) "dict_itemiterator":=⟨_,hit,rfl⟩
 unfold pyNext
 refine wpAny_bind (wpAny_attempt (wpAny_callSpecial?_slot (name:=E1 "__next__") ty Fq (wpAny_call_entry Fq ty G0 ?_ (GU _))))
 refine wpAny_bind (wpAny_pure (wpAny_bind (wpAny_bind ?_)))
 first | refine wpAny_bind (wpAny_typeNameOfWhole_itemiter ty (wpAny_pure ?_)) | refine wpAny_bind (wpAny_typeNameOf_itemiter ty (wpAny_pure ?_))
 refine wpAny_bind (wpAny_fieldsOf hit rfl ?_)
 simp only [show GH "dict_itemiterator" = true by decide,if_true]
 show wpAny _ _ (if (EG d == E3)=true then _ else _) _ _ s
 rw [if_neg (show ¬ ((EG d == E3)=true) from EF)]
 refine wpAny_bind (wpAny_pure (wpAny_bind (wpAny_dictEntries ho hd ?_)))
 rw [if_neg (by simp)]
 refine wpAny_bind (wpAny_pure (wpAny_bind (wpAny_dictEpoch ho hd ?_)))
 rw [if_neg (by simp)]
 refine wpAny_pure ?_
 simp only [show ¬ ((i:Int)<0) from by lia,if_false,FL,hx]
 refine wpAny_bind ?_
 first | refine wpAny_bind (wpAny_typeNameOfWhole_itemiter ty (wpAny_pure ?_)) | refine wpAny_bind (wpAny_typeNameOf_itemiter ty (wpAny_pure ?_))
 show wpAny _ _ (setField (.ref it) 2 .none >>= _) _ _ s
 refine wpAny_bind (wpAny_setField hit rfl (by simp) ?_)
 show wpAny _ _ (newExc (.type "StopIteration") [] >>= _) _ _ _
 refine wpAny_bind ?_
 simp only [newExc,newTuple]
 refine wpAny_bind (wpAny_newObj_type ?_ (by size_fits))
 refine wpAny_bind (m:=firstArgMember _ _) (wpAny_of_eq (a:=E3) (by first | rfl | (simp only [firstArgMember]; rfl)) (wpAny_newObj_type ?_ (by size_fits)))
 simp only [raiseNew]
 refine wpAny_bind (wpAny_handled ?_)
 rw [show A.in1.handled=none from hh]
 refine wpAny_bind (wpAny_pure (wpAny_throw ?_))
 refine wpAny_bind (wpAny_isInstance (T:="StopIteration") (b:=true) ⟨_,Ek _ rfl,rfl⟩ isSubtype_stop ?_)
 exact wpAny_pure (h _ (((HG ..).extBut.push _).push _))
noncomputable def mX (es:Array DictEntry) (lo:Addr) (h:Heap) (as:List Addr):Prop:=(∀ a∈as,lo<a)/\as.Nodup/\∀ (j:Nat) (a:Addr),as[j]? = some a->∃ x,es[j]? = some x/\h.get? a=some (dC x)
theorem uD {I:Addr} {es:Array DictEntry} {R:Result->Shared->Prop} (hh:A.handled=none) (hSI:S<I) (hdS:d≠S) (hdI:d≠I) (hn:es.size<=sizeLine) (res:Value) {h0:Heap}
  (hR:∀ g tk acc c as,(∀ b o,b≠S->b≠I->h0.get? b=some o->g.get? b=some o)->g.get? S=some (seqObj "list" acc c)->as.length=es.size->mX es I g as->acc.toList=as.map EG->R (.ok (.ret res)) { s with heap:=g,toks:=tk }) :
  ∀ (k i:Nat) (h:Heap) (tk c:Nat) (acc:Array Value) (as:List Addr),es.size - i=k->i<=es.size->Ri h I d S i es.size ep->RawD h d es ep->(∀ b o,b≠S->b≠I->h0.get? b=some o->h.get? b=some o)->
   h.get? S=some (seqObj "list" acc c)->acc.toList=as.map EG->as.length=i->mX es I h as->I<h.objs.size->(∀ a∈as,a<h.objs.size)->
   codeAny (model prog w) A (.builtin "list.extend.loop" ⟨[.ref S,.ref I,res],[]⟩) R { s with heap:=h,toks:=tk }:=by
 have ne:S≠I:=Eo hSI
 intro k
 induction k with
 | zero=>
  intro i h tk c acc as hk hi hst hD kp hS hacc hal hP hIs hlt
  refine codeAny_builtin Iu ?_
  rw [Fz FS _]
  show wpAny _ A.in1 (pyNext (.ref I) >>= _) _ _ _
  refine wpAny_bind (xx (s:={ s with heap:=h,toks:=tk }) (A:=A.in1) hh hst hD (by simp; lia) λ g eb=>?_)
  refine wpAny_pure (hR g tk acc c as (λ b o q1 q2 e=>eb b o q2 (kp b o q1 q2 e)) (eb S _ ne hS) (by lia) ⟨hP.1,hP.2.1,λ j a hj=>?_⟩ hacc)
  obtain ⟨x,e1,e2⟩:=hP.2.2 j a hj
  exact ⟨x,e1,eb a _ (ES (hP.1 a (EN hj))) e2⟩
 | succ k ih=>
  intro i h tk c acc as hk hi hst hD kp hS hacc hal hP hIs hlt
  have hl:i<es.size:=by lia
  have hsz:acc.size=i:=by rw [<-FD,hacc,Ed,hal]
  have hSl:S<h.objs.size:=Ei hS
  refine codeAny_builtin Iu ?_
  rw [Fz FS _]
  show wpAny _ A.in1 (pyNext (.ref I) >>= _) _ _ _
  refine wpAny_bind (uC (s:={ s with heap:=h,toks:=tk }) hst hSl hD (x:=es[i]) (by simp [hl]) λ g st1 t1 k1=>?_)
  dsimp only at t1 k1 ⊢
  have hS1:=k1 S _ ne hS
  have up:∀ b o,b≠S->g.get? b=some o->(g.update S (Fu (·.push (EG h.objs.size)))).get? b=some o:=λ b o nb e=>(FA _ _ (Ff nb)).trans e
  have nS:h.objs.size≠S:=ES hSl
  have t2:=up _ _ nS t1
  show wpAny _ A.in1 (updateSeq S (·.push (EG h.objs.size)) >>= _) _ _ _
  refine wpAny_bind (wpAny_updateSeq hS1 rfl (wpAny_pure ⟨plainId_quiet FS _,ih (i+1) _ tk _ (acc.push (EG h.objs.size)) (as++[h.objs.size]) (by lia) hl (st1.at up (Ff ne)) (hD.at λ o e=>up d o hdS (k1 d o hdI e))
   (λ b o q1 q2 e=>up b o q1 (k1 b o q2 (kp b o q1 q2 e))) (FQ _ hS1 rfl) (by rw [Array.toList_push,hacc,EA]; rfl) (by rw [ED,hal]; rfl) ⟨λ a ha=>?_,?_,λ j a hj=>?_⟩ ?_ λ a ha=>?_⟩) (by rw [hsz]; lia) (by show (acc.push (EG h.objs.size)).size<=sizeLine+1; rw [Array.size_push,hsz]; lia))
  ·rcases EX.mp ha with q | q
   ·exact hP.1 a q
   ·rw [EL.mp q]; exact hIs
  ·refine GD.mpr ⟨hP.2.1,Hc _ _,λ a ha b hb e=>?_⟩
   rw [EL.mp hb] at e
   exact absurd (e▸hlt a ha) (E7 _)
  ·by_cases q:j<as.length
   ·rw [E2 q] at hj
    obtain ⟨x,e1,e2⟩:=hP.2.2 j a hj
    have ga:=hP.1 a (EN hj)
    exact ⟨x,e1,up a _ (ES (GZ hSI ga)) (k1 a _ (ES ga) e2)⟩
   ·have q2:=(EE.mp hj).1
    have ej:j=as.length:=by simp at q2; lia
    subst ej
    have ea:h.objs.size=a:=by simpa using hj
    subst ea
    exact ⟨es[i],by rw [hal]; simp [hl],t2⟩
  ·exact GZ hIs (Ei t2)
  ·rcases EX.mp ha with q | q
   ·exact GZ (hlt a q) (Ei t2)
   ·rw [EL.mp q]; exact Ei t2
theorem uE {v:Addr} {es:Array DictEntry} (hv:s.heap.IsItemsView v d) (hD:RawD s.heap d es ep)
  (hQ:Q (.ref s.heap.objs.size) { s with heap:=s.heap.push (bT .none (.bool false) .none .none d 0 es.size ep) }):wpAny (model prog w) A (pyIter (.ref v)) Q E s:=by
 obtain ⟨ov,hov,_,hdv⟩:=id hv
 obtain ⟨o,ho,_,hd⟩:=hD
 refine wpAny_pyIter_slot hv.typeIs HK (wpAny_call_entry HK hv.typeIs PySem.F.entry_dict_items_iter ?_ (PySem.F.args_dict_items_iter_1 _))
 unfold Builtin.«dict_items.__iter__»
 refine wpAny_bind (wpAny_pure (wpAny_bind ?_))
 unfold Lw
 refine wpAny_bind (wpAny_field hov hdv (x:=.ref d) rfl (wpAny_pure (wpAny_bind ?_)))
 unfold KS
 refine wpAny_bind (wpAny_dictEntries ho hd (wpAny_bind (wpAny_dictEpoch ho hd ?_)))
 simp only [show GH "dict_itemiterator" = true by decide,if_true]
 refine wpAny_newObj_type (wpAny_pure ⟨_,rfl,"dict_itemiterator",_,⟨_,Ek _ rfl,rfl⟩,Fq.lookup,?_⟩) (by simp only [sizeOk,G8,Ew,ED,EM,E4,sizeLine_eq]; lia)
 unfold bT at hQ
 simpa [rawInt,G8] using hQ
theorem mY {v:Addr} {es:Array DictEntry} {Q:List Value->Shared->Prop} (hh:A.handled=none) (hv:s.heap.IsItemsView v d) (hD:RawD s.heap d es ep) (hn:es.size<=sizeLine)
  (h:∀ g tk as,(∀ b o,s.heap.get? b=some o->g.get? b=some o)->as.length=es.size->mX es s.heap.objs.size g as->Q (as.map EG) { s with heap:=g,toks:=tk }):wpAny (model prog w) A (collect (.ref v)) Q E s:=by
 have hvl:v<s.heap.objs.size:=by obtain ⟨_,e,_⟩:=hv; exact Ei e
 have hdl:d<s.heap.objs.size:=by obtain ⟨_,e,_⟩:=hD; exact Ei e
 unfold collect
 refine wpAny_bind (wpAny_runValue (codeAny_builtin PySem.F.entry_proto_collect ?_))
 rw [Fz PySem.F.plain_proto_collect _]
 show wpAny _ A.in1 (newList [] >>= λ l=>again (.builtin "list.__iadd__" ⟨[l,.ref v],[]⟩)) _ _ s
 refine wpAny_bind (wpAny_newObj_type ?_)
 refine wpAny_pure ⟨plainId_quiet IM _,codeAny_builtin PySem.F.entry_list_iadd ?_⟩
 rw [Fz IM _]
 show wpAny _ A.in1 (HV (.ref s.heap.objs.size) (.ref v) (.ref s.heap.objs.size)) _ _ _
 -- the list at S,the iterator behind it
 have key:∀ (h1:Heap) (c1 tk:Nat),(∀ b o,b≠s.heap.objs.size->((s.heap.push (seqObj "list" #[] 0)).push (bT .none (.bool false) .none .none d 0 es.size ep)).get? b=some o->h1.get? b=some o)->h1.get? s.heap.objs.size=some (seqObj "list" #[] c1)->
   codeAny (model prog w) A (.builtin "list.extend.loop" ⟨[.ref s.heap.objs.size,.ref (s.heap.push (seqObj "list" #[] 0)).objs.size,.ref s.heap.objs.size],[]⟩)
    (λ q s'=>∃ g tk acc c as,q=.ok (.ret (.ref s.heap.objs.size))/\s'={ s with heap:=g,toks:=tk }/\(∀ b o,s.heap.get? b=some o->g.get? b=some o)/\g.get? s.heap.objs.size=some (seqObj "list" acc c)/\as.length=es.size/\mX es s.heap.objs.size g as/\acc.toList=as.map EG) { s with heap:=h1,toks:=tk }:=by
  intro h1 c1 tk hk1 hS1
  have eI:(s.heap.push (seqObj "list" #[] 0)).objs.size=s.heap.objs.size+1:=size_push' ..
  have hI:=hk1 (s.heap.push (seqObj "list" #[] 0)).objs.size _ (by rw [eI]; exact IB _) (Ek _ rfl)
  have hd1:RawD h1 d es ep:=hD.at λ o e=>hk1 d o (Eo hdl) (Ec _ (Ec _ e))
  refine uD (s:=s) (h0:=s.heap) (ep:=ep) hh (by rw [eI]; exact IA _) (Eo hdl) (by rw [eI]; exact Eo (FV hdl)) hn _ (λ g tk2 acc c as kp tS hl hP hacc=>?_)
   es.size 0 h1 tk c1 #[] [] (by lia) (EI _) ⟨_,_,_,_,hI,.inl ⟨rfl,rfl⟩⟩ hd1 (λ b o q1 q2 e=>hk1 b o q1 (Ec _ (Ec _ e))) hS1 rfl rfl ⟨λ a ha=>(nomatch ha),GG,λ j a hj=>by simp at hj⟩ (Ei hI) (λ a ha=>nomatch ha)
  exact ⟨g,tk2,acc,c,as,rfl,rfl,λ b o e=>kp b o (Eo (Ei e)) (by rw [eI]; exact Eo (FV (Ei e))) e,tS,hl,⟨λ a ha=>GZ (by rw [eI]; exact IA _) (hP.1 a ha),hP.2⟩,hacc⟩
 have fin:∀ s',(∃ g tk acc c as,s'={ s with heap:=g,toks:=tk }/\(∀ b o,s.heap.get? b=some o->g.get? b=some o)/\g.get? s.heap.objs.size=some (seqObj "list" acc c)/\as.length=es.size/\mX es s.heap.objs.size g as/\acc.toList=as.map EG)->
   wpAny (model prog w) A (match EG s.heap.objs.size with
   | EG a=>do
    match (<-load a).data with
     | MA xs _=>pure xs.toList
     | _=>unsupported "internal:collect"
   | _=>unsupported "internal:collect") Q E s':=by
  rintro s' ⟨g,tk,acc,c,as,rfl,kp,tS,hl,hP,hacc⟩
  show wpAny _ A (load s.heap.objs.size >>= _) _ _ _
  refine wpAny_bind (wpAny_load tS (wpAny_pure ?_))
  show Q acc.toList _
  rw [hacc]
  exact h g tk as kp hl hP
 have hv1:(s.heap.push (seqObj "list" #[] 0)).IsItemsView v d:=by
  obtain ⟨o,e,r⟩:=hv
  exact ⟨o,Ec _ e,r⟩
 have hD1:RawD (s.heap.push (seqObj "list" #[] 0)) d es ep:=hD.at λ o e=>Ec _ e
 have hS0:(s.heap.push (seqObj "list" #[] 0)).get? s.heap.objs.size=some (seqObj "list" #[] 0):=Ek _ rfl
 show wpAny _ _ _ _ _ { s with heap:=s.heap.push (seqObj "list" #[] 0) }
 unfold HV
 refine wpAny_bind (wpAny_typeOf (T:="dict_items") (s:={ s with heap:=s.heap.push (seqObj "list" #[] 0) }) hv1.typeIs ?_)
 have n1:IF (.ref s.heap.objs.size) (.ref v)=false:=by simp [IF,ES hvl]
 simp only [n1,show (G5 "dict_items" == G5 "list")=false by decide,show (G5 "dict_items" == G5 "tuple")=false by decide,La,Fd,if_false]
 refine wpAny_bind (uE (s:={ s with heap:=s.heap.push (seqObj "list" #[] 0) }) hv1 hD1 ?_)
 have hS1:=Ec (bT .none (.bool false) .none .none d 0 es.size ep) hS0
 refine wpAny_bind (wpAny_holding (kdx_hint (let ⟨o,ho,hc,_⟩:=hv1; ⟨o,Ec _ ho,hc⟩) ?_))
 have fin2:∀ (q:Result) s',(∃ g tk acc c as,q=.ok (.ret (.ref s.heap.objs.size))/\s'={ s with heap:=g,toks:=tk }/\(∀ b o,s.heap.get? b=some o->g.get? b=some o)/\g.get? s.heap.objs.size=some (seqObj "list" acc c)/\as.length=es.size/\mX es s.heap.objs.size g as/\acc.toList=as.map EG)->q=.ok (.ret (.ref s.heap.objs.size))/\∃ g tk acc c as,s'={ s with heap:=g,toks:=tk }/\(∀ b o,s.heap.get? b=some o->g.get? b=some o)/\g.get? s.heap.objs.size=some (seqObj "list" acc c)/\as.length=es.size/\mX es s.heap.objs.size g as/\acc.toList=as.map EG:=by
  rintro q s' ⟨g,tk,acc,c,as,e,r⟩
  exact ⟨e,g,tk,acc,c,as,r⟩
 refine wpAny_ite_split (λ _=>?_) (λ _=>wpAny_pure ⟨plainId_quiet FS _,codeAny_mono (key _ 0 s.toks (λ b o _ e=>e) hS1) λ q s' hq=>by obtain ⟨rfl,r⟩:=fin2 q s' hq; exact fin s' r⟩)
 refine wpAny_bind (wpAny_rule (wpAny_bind ?_))
 show wpAny _ _ (updateSeq s.heap.objs.size (·.push .none) >>= λ _=>updateSeq s.heap.objs.size (·.pop)) _ _ _
 refine wpAny_bind (wpAny_updateSeq hS1 rfl ?_)
 have hS2:=FQ (Fu (·.push E3)) hS1 rfl
 refine wpAny_updateSeq (hz:=by seq_fits) hS2 rfl ?_
 have hS3:=FQ (Fu (·.pop)) hS2 rfl
 refine wpAny_pure ⟨plainId_quiet FS _,codeAny_mono (key _ _ s.toks (λ b o nb e=>?_) hS3) λ q s' hq=>by obtain ⟨rfl,r⟩:=fin2 q s' hq; exact fin s' r⟩
 exact (FA _ _ (Ff nb)).trans ((FA _ _ (Ff nb)).trans e)
end
section
variable {prog:Program} {w:World} {A:Around} {E:Value->Shared->Prop} {s:Shared}
theorem mZ {v:Value} 
  (h:wpAny (model prog w) A.in1 (collect v) (λ vs s1=>vs.length<64/\∃ (κ:SortKind) (lt:Nat->Nat->Bool),Lt lt/\
   (∀ h' (Q':SortKind->Shared->Prop),2<=vs.length->(∀ b o,s1.heap.get? b=some o->h'.get? b=some o)->Q' κ { s1 with heap:=h' }->wpAny (model prog w) A.in1.in1 (keyKind' vs.toArray) Q' (λ _ _=>False) { s1 with heap:=h' })/\
   (∀ h' i j (Q':Bool->Shared->Prop),i<vs.length->j<vs.length->(∀ b o,s1.heap.get? b=some o->h'.get? b=some o)->Q' (lt i j) { s1 with heap:=h' }->
    wpAny (model prog w) A.in1.in1 (keyLt' κ (vs.getD i E3) (vs.getD j E3)) Q' (λ _ _=>False) { s1 with heap:=h' })/\
   ∀ p:List Nat,p.Perm (Eu vs.length)->p.Pairwise (Ah lt)->Q (.ref s1.heap.objs.size) { s1 with heap:=sortedHeap (s1.heap.push (seqObj "list" vs.toArray 0)) s1.heap.objs.size vs (E8 (p.map λ i=>vs.getD i E3)) }) E s) :
  wpAny (model prog w) A (call (.builtin "sorted") [v]) Q E s:=by
 refine Calls.call_function_entry kind_sorted plain_sorted entry_sorted (args_sorted1 _) ?_
 unfold Builtin.«sorted»
 refine wpAny_bind (m:=checkCount "sorted" 1 1 _) (wpAny_pure ?_)
 refine wpAny_bind (wpAny_mono h (λ vs s1 hv=>?_) λ _ _ z=>z)
 obtain ⟨h64,κ,lt,hL,hk,hc,hq⟩:=hv
 refine wpAny_bind (wpAny_newList ?_ (by rw [sizeLine_eq]; lia))
 have hoL:(s1.heap.push (seqObj "list" vs.toArray 0)).get? s1.heap.objs.size=some (seqObj "list" vs.toArray 0):=Ek _ rfl
 have ne:∀ b o,s1.heap.get? b=some o->b≠s1.heap.objs.size:=λ b o q=>Eo (Ei q)
 show wpAny _ _ _ _ _ { s1 with heap:=s1.heap.push (seqObj "list" vs.toArray 0) }
 refine wpAny_bind (wpAny_holding (wpAny_call_entry slot_list_sort ⟨_,hoL,rfl⟩ entry_list_sort (kg (s:={ s1 with heap:=s1.heap.push (seqObj "list" vs.toArray 0) }) hoL h64 hL
  (λ h' Q' h2 k q=>hk h' Q' h2 (λ b o e=>k b o (ne b o e) (Ec _ e)) q) (λ h' i j Q' hi hj k q=>hc h' i j Q' hi hj (λ b o e=>k b o (ne b o e) (Ec _ e)) q) λ p a1 a2=>⟨_,rfl,?_⟩) (args_list_sort _)))
 exact wpAny_pure ⟨_,rfl,hq p a1 a2⟩
theorem q9 {es:Array DictEntry} (hD:RawD s.heap d es ep) (hd:(d == sysModules)=false)
  (h:Q (.ref s.heap.objs.size) { s with heap:=s.heap.push { cls:=.type "dict_items",data:=.fields #[.ref d] } }):wpAny (model prog w) A (call (.builtin "dict.items") [.ref d]) Q E s:=by
 obtain ⟨o,ho,hx,_⟩:=hD
 have ty:s.TypeIs (.ref d) "dict":=⟨o,ho,hx.1⟩
 refine wpAny_call_entry IN ty PySem.F.entry_dict_items ?_ (PySem.F.args_dict_items_1 _)
 unfold Builtin.«dict.items»
 refine wpAny_bind ?_
 unfold Ml
 refine wpAny_bind (wpAny_notOrdered_dict ty ?_)
 show wpAny _ _ (pure d) _ _ s
 refine wpAny_pure ?_
 show wpAny _ _ (Jl d >>= _) _ _ s
 unfold Jl
 rw [if_neg (by rw [hd]; exact EF)]
 exact wpAny_bind (wpAny_pure (wpAny_bind (wpAny_newObj_type (wpAny_pure ⟨_,rfl,h⟩))))
end
end HT
namespace L2
open PySem PySem.Spec PyProof.Rows PySem.W
noncomputable def dw:Hp->List (Addr×HO)->Hp
 | H,[]=>H
 | H,(a,o)::r=>upd (dw H r) a o
theorem gr {H:Hp} {b:Addr}:∀ {ts:List (Addr×HO)},(∀ p∈ts,p.1≠b)->dw H ts b=H b
 | [],_=>rfl
 | (a,o)::r,h=>by
  show upd (dw H r) a o b=H b
  rw [aq (Ff (h (a,o) (EJ ..)))]
  exact gr λ p hp=>h p (EH _ hp)
theorem lL {H:Hp} {b:Addr} {u:HO}:∀ {ts:List (Addr×HO)},(ts.map (·.1)).Nodup->(b,u)∈ts->dw H ts b=some u
 | [],_,h=>nomatch h
 | (a,o)::r,hn,h=>by
  rw [EU,Fn] at hn
  show upd (dw H r) a o b=some u
  rcases Er.mp h with e | e
  ·cases e; exact ab
  ·have:b≠a:=λ z=>hn.1 (by rw [<-z]; exact Es.mpr ⟨(b,u),e,rfl⟩)
   rw [aq this]
   exact lL hn.2 e
theorem iR {H:Hp} {b:Addr} {u:HO}:∀ {ts:List (Addr×HO)},dw H ts b=some u->(b,u)∈ts\/((∀ p∈ts,p.1≠b)/\H b=some u)
 | [],h=>.inr ⟨λ p hp=>(nomatch hp),h⟩
 | (a,o)::r,h=>by
  by_cases e:b=a
  ·subst e
   rw [show dw H ((b,o)::r) b=some o from ab] at h
   cases h
   exact .inl (EJ ..)
  ·have h2:dw H r b=some u:=by rw [<-h]; show _=upd (dw H r) a o b; rw [aq e]
   rcases iR h2 with q | ⟨q1,q2⟩
   ·exact .inl (EH _ q)
   ·refine .inr ⟨λ p hp=>?_,q2⟩
    rcases Er.mp hp with z | z
    ·rw [z]; exact Ff e
    ·exact q1 p z
section
variable {X:Cx} {pins:List (Addr×Obj)} {σ:St} {H:Hp} {s:Shared} {h':Heap}
theorem Inv.laidAll {ts:List (Addr×HO)} (I:Inv X pins σ H s) (k:∀ b u,s.heap.get? b=some u->h'.get? b=some u) (hp:∀ p∈ts,s.heap.objs.size<=p.1) (new:∀ p∈ts,ObjOk X.prog X.w (dw H ts) h' p.1 p.2) :
  Inv X pins σ (dw H ts) { s with heap:=h',toks:=t' }:=by
 have fr:∀ p∈ts,H p.1=none:=λ p q=>I.hok.fresh (hp p q)
 have old:∀ b u,H b=some u->dw H ts b=some u:=λ b u e=>by rw [gr λ p q z=>by rw [<-z,fr p q] at e; cases e]; exact e
 refine I.un (H':=dw H ts) ⟨λ b u q _ _ _=>k b u q,λ b u q _ _ _=>⟨u.slots,k b u q⟩,λ b u q n _=>?_,λ b u q _=>⟨u,k b u q⟩,λ b xs q=>old _ _ q,λ b u xs q=>old _ _ q,λ b ps q=>⟨#[],by rw [old _ _ q]; simp⟩⟩ λ b u e=>?_
 ·rw [gr λ p hm z=>absurd (Ei q) (by rw [<-z]; exact Ho (hp p hm))]; exact n
 ·rcases iR e with q | ⟨_,q⟩
  ·exact new (b,u) q
  ·exact (I.hok b u q).stay (λ c v _ z=>k c v z) (λ c z=>old _ _ z) λ c xs z=>old _ _ z
end
theorem lM {α β:Type} {R:α->β->Prop} {xs:List α} {ys:List β} (h:Paired R xs ys):∀ {j:Nat} {x:α} {y:β},xs[j]? = some x->ys[j]? = some y->R x y:=by
 induction h with
 | nil=>intro j x y h1 _; simp at h1
 | cons h t ih=>
  intro j x y h1 h2
  cases j with
  | zero=>simp at h1 h2; rw [<-h1,<-h2]; exact h
  | succ j=>exact ih (by simpa using h1) (by simpa using h2)
noncomputable def g9 (r:List Int):List Key:=r.map Fo
theorem m4 (r:List Int):(g9 r).map kV=r.map ML:=by
 unfold g9
 rw [E6]
 rfl
theorem km {a b:List Int} (h:g9 a=g9 b):a=b:=by
 unfold g9 at h
 exact JS (λ x y e=>Jb e) |>.mp h
section
variable {X:Cx} {o e f:Expr} {td ty tx:TE} {pos apos cpos p:Pos}
theorem n9:QE X (.Dict [] [] pos) qU:=⟨uy⟩
theorem kn (hu:X.A.units+1<cLine) (ho:QE X o td) (he:QE X e ty) (hf:QE X f tx) (hbase:attributeBase o ("get" : Str) X.env (eval o X.env)=eval o X.env:=by rfl) (hline:(apos.endLine == cpos.line)=true:=by rfl) (hn:bz e=true:=by rfl) (hn2:bz f=true:=by rfl) :
  QE X (.Call (.Attribute o "get" apos) [e,f] [] cpos) (qV td ty tx):=by
 have e1:starEach [e,f] X.env=[(false,eval e X.env),(false,eval f X.env)]:=by rw [aB hn,aB hn2]; rfl
 exact ⟨uz hu ho.out he.out hf.out ⟨hbase,by rw [e1]; rfl,hline,by rw [e1]; rfl⟩⟩
noncomputable def ra (td:TE):TE:=λ σ H Q=>td σ H λ x H1=>∃ (a:Addr) (ps:List (List Int×Int)),x=.ref a/\H1 a=some (.dT (ps.map λ q=>(g9 q.1,ML q.2)))/\ps.length<64/\
 ∀ (d:Addr) (as qs:List Addr) (zs:List (List Int×Int)) H',H1 d=none->Same H1 H'->H' d=some (.lst (as.map MP))->as.length=zs.length->qs.length=zs.length->zs.Perm ps->zs.Pairwise (λ y z=>HT.bp z.1 y.1=false)->
  (∀ (i:Nat) a q z,as[i]? = some a->qs[i]? = some q->zs[i]? = some z->H' a=some (.tup [.ref q,.int z.2])/\H' q=some (.tup (z.1.map ML)))->Q (.ref d) H'
theorem xy {y z:List Int×Int} (h:HT.lt2 (z.1,[z.2]) (y.1,[y.2])=false):HT.bp z.1 y.1=false:=by
 unfold HT.lt2 at h
 by_cases g:z.1=y.1
 ·rw [g]
  cases q:HT.bp y.1 y.1 with
  | false=>rfl
  | true=>exact absurd (HT.dv _ _ q) (by rw [q]; exact Bool.noConfusion)
 ·rw [if_neg g] at h; exact h
theorem rb (hc:X.calm=true) (hu:X.A.units+64<cLine) (hg:Gl X "sorted") (hm:X.mg "sorted" = none) (ho:QE X o td) (hbase:attributeBase o ("items" : Str) X.env (eval o X.env)=eval o X.env:=by rfl) (hline:(apos.endLine == cpos.line)=true:=by rfl) :
  QE X (.Call (.Name "sorted" p) [.Call (.Attribute o "items" apos) [] [] cpos] [] pos) (ra td):=by
 refine ⟨λ pins s σ H Q I h=>?_⟩
 refine Call_ (eG I hg hm (by decide +kernel:bootBuiltins "sorted" = some (.builtin "sorted")) (FB rfl (GL ?_)))
 refine FZ (wpAny_Call_method0_late hbase hline (thn (ho.out pins s σ H _ I h) λ v s1 ⟨x,H1,I1,rx,q1⟩=>?_))
 obtain ⟨a,ps,rfl,ha,h64,q⟩:=q1
 obtain rfl:v=EG a:=rx
 obtain ⟨z,hd,xs,rel,ob,es,ep,e1,e2,e3,e4,e5⟩:=(show ObjOk X.prog X.w H1 s1.heap a (.dT _) from I1.hok a _ ha)
 have hD:HT.RawD s1.heap a es ep:=⟨ob,e1,e2,e3⟩
 refine ⟨"dict","dict.items",Gu,IN,PySem.F.type_dict_items,⟨ob,e1,e2.1⟩,λ b w'=>by cases w'; exact ⟨ob,e1,e2.2.1⟩,FB rfl (HF ?_)⟩
 refine HT.q9 hD hd (He ?_)
 have I2:Inv X pins σ H1 { s1 with heap:=s1.heap.push { cls:=.type "dict_items",data:=.fields #[.ref a] } }:=I1.kept (t':=s1.toks) λ b u w'=>Ec _ w'
 have lxs:xs.length=ps.length:=by have:=rel.length; rw [Ed] at this; exact this.symm
 have les:es.size=ps.length:=by rw [<-FD,e4,Ed,lxs]
 -- the j-th entry
 have ent:∀ (j:Nat) x,es[j]? = some x->∃ z k,ps[j]? = some z/\x.key=.ref k/\RelV (.int z.2) x.val/\H1 k=some (.tup (z.1.map ML)):=by
  intro j x hx
  rw [<-Ht,e4,El] at hx
  obtain ⟨y,hy,rfl⟩:=FM.mp hx
  have hj:j<ps.length:=by rw [<-lxs]; exact (EE.mp hy).1
  have hz:(ps.map λ q=>(g9 q.1,ML q.2))[j]? = some (g9 ps[j].1,ML ps[j].2):=by rw [El]; simp [hj]
  obtain ⟨r1,r2,r3⟩:=lM rel hz hy
  exact ⟨ps[j],y.2.1,by simp [hj],rfl,r3,by rw [r2,m4]⟩
 refine HT.mZ ?_
 refine HT.mY (s:={ s1 with heap:=s1.heap.push { cls:=.type "dict_items",data:=.fields #[.ref a] } }) (I.ok.hd hc) ⟨_,Ek _ rfl,rfl,rfl⟩ (hD.at λ o' w'=>Ec _ w') (by rw [les,sizeLine_eq]; lia) λ g tk as kp hl hP=>?_
 have hlp:as.length=ps.length:=by rw [hl,les]
 -- the new tuples,tracked
 obtain ⟨qs,hql,hqs⟩:∃ qs:List Addr,qs.length=as.length/\∀ (j:Nat) b q,as[j]? = some b->qs[j]? = some q->∃ z,ps[j]? = some z/\H1 q=some (.tup (z.1.map ML))/\∃ t,g.get? b=some { cls:=.type "tuple",data:=.seq #[.ref q,.int z.2 t] }:=by
  have sS:∀ j:Nat,∃ q:Addr,∀ b,as[j]? = some b->∃ z,ps[j]? = some z/\H1 q=some (.tup (z.1.map ML))/\∃ t,g.get? b=some { cls:=.type "tuple",data:=.seq #[.ref q,.int z.2 t] }:=λ j=>by
   cases eb:as[j]? with
   | none=>exact ⟨0,λ b w'=>nomatch w'⟩
   | some b=>
    obtain ⟨x,x1,x2⟩:=hP.2.2 j b eb
    obtain ⟨z,k,z1,z2,⟨t,z3⟩,z4⟩:=ent j x x1
    refine ⟨k,λ b' w'=>?_⟩
    cases w'
    unfold HT.dC at x2
    rw [z2,z3] at x2
    exact ⟨z,z1,z4,t,x2⟩
  refine ⟨(Eu as.length).map λ j=>(sS j).choose,by simp,λ j b q w1 w2=>?_⟩
  have hj:=(EE.mp w1).1
  rw [El,FE hj] at w2
  have:=EO w2
  subst this
  exact (sS j).choose_spec b w1
 have fresh:∀ b∈as,s1.heap.objs.size<=b:=λ b hb=>by
  have:=hP.1 b hb
  rw [show (s1.heap.push { cls:=.type "dict_items",data:=.fields #[.ref a] }).objs.size=s1.heap.objs.size+1 from size_push' ..] at this
  exact E5 (Nat.lt_of_succ_lt this)
 have kp1:∀ b u,s1.heap.get? b=some u->g.get? b=some u:=λ b u w'=>kp b u (Ec _ w')
 let ts:List (Addr×HO):=(Eu as.length).map λ j=>(as.getD j 0,.tup [.ref (qs.getD j 0),.int (ps.getD j ([],0)).2])
 have gd:∀ j,j<as.length->as[j]? = some (as.getD j 0)/\qs[j]? = some (qs.getD j 0)/\ps[j]? = some (ps.getD j ([],0)):=λ j hj=>by
  refine ⟨?_,?_,?_⟩
  ·rw [Ej,Ef hj]; rfl
  ·rw [Ej,Ef (by lia)]; rfl
  ·rw [Ej,Ef (by lia)]; rfl
 have tsn:(ts.map (·.1)).Nodup:=by
  have e:ts.map (·.1)=as:=by
   show ((Eu as.length).map _).map _=as
   rw [E6]
   exact n0 as 0
  rw [e]; exact hP.2.1
 have tsm:∀ p∈ts,∃ j,j<as.length/\p=(as.getD j 0,.tup [.ref (qs.getD j 0),.int (ps.getD j ([],0)).2]):=λ p hp=>by
  obtain ⟨j,hj,e⟩:=Es.mp hp
  exact ⟨j,FI.mp hj,e.symm⟩
 have I3:Inv X pins σ (dw H1 ts) { s1 with heap:=g,toks:=tk }:=by
  refine I1.laidAll kp1 (λ p hp=>?_) λ p hp=>?_
  ·obtain ⟨j,hj,rfl⟩:=tsm p hp
   exact fresh _ (EN (gd j hj).1)
  ·obtain ⟨j,hj,rfl⟩:=tsm p hp
   obtain ⟨z,z1,z2,t,z3⟩:=hqs j _ _ (gd j hj).1 (gd j hj).2.1
   rw [(gd j hj).2.2] at z1
   cases z1
   exact ⟨by show 2<=sizeLine; decide,[.ref (qs.getD j 0),.int (ps.getD j ([],0)).2 t],.cons rfl (.cons ⟨t,rfl⟩ .nil),_,z3,rfl,_,rfl⟩
 have sm:Same H1 (dw H1 ts):=λ b u w'=>by
  rw [gr λ p hp z=>?_]
  ·exact w'
  ·obtain ⟨j,hj,rfl⟩:=tsm p hp
   have:=I1.hok.fresh (fresh _ (EN (gd j hj).1))
   have z2:as.getD j 0=b:=z
   rw [z2,w'] at this
   cases this
 have tnew:∀ j,j<as.length->dw H1 ts (as.getD j 0)=some (.tup [.ref (qs.getD j 0),.int (ps.getD j ([],0)).2]):=λ j hj=>lL tsn (Es.mpr ⟨j,FI.mpr hj,rfl⟩)
 have tkey:∀ j,j<as.length->dw H1 ts (qs.getD j 0)=some (.tup ((ps.getD j ([],0)).1.map ML)):=λ j hj=>by
  obtain ⟨z,z1,z2,_⟩:=hqs j _ _ (gd j hj).1 (gd j hj).2.1
  rw [(gd j hj).2.2] at z1
  cases z1
  exact sm _ _ z2
 have lm:(as.map EG).length=as.length:=Ed _
 have get:∀ i,i<as.length->(as.map EG).getD i E3=.ref (as.getD i 0):=λ i hi=>by
  rw [Ej,Ej,El,Ef hi]; rfl
 have tup:∀ (h':Heap),(∀ b o,g.get? b=some o->h'.get? b=some o)->∀ i,i<as.length->∃ us jts,IsTup h' (as.getD i 0) (.ref (qs.getD i 0)::us).toArray/\IntsAre us [(ps.getD i ([],0)).2]/\IsTup h' (qs.getD i 0) jts/\IntsAre jts.toList (ps.getD i ([],0)).1:=λ h' hk i hi=>by
  obtain ⟨its,r1,⟨o1,ho1,hc1⟩,_⟩:=I3.tuple (MK (tnew i hi))
  obtain ⟨jts,r2,⟨o2,ho2,hc2⟩,_⟩:=I3.tuple (MK (tkey i hi))
  cases r1 with
  | cons rv r1=>
   cases rv
   exact ⟨_,jts.toArray,⟨o1,hk _ _ ho1,hc1⟩,bR (ns:=[(ps.getD i ([],0)).2]) r1,⟨o2,hk _ _ ho2,hc2⟩,bR r2⟩
 refine ⟨by rw [lm]; lia,tuples' false,λ i j=>HT.lt2 ((ps.map λ z=>(z.1,[z.2])).getD i ([],[])) ((ps.map λ z=>(z.1,[z.2])).getD j ([],[])),HT.zS _,λ h' Q' h2 k hQ=>?_,λ h' i j Q' hi hj k hQ=>?_,λ p hp hs=>?_⟩
 ·refine HT.uB (fs:=qs.map EG) h2 (by rw [lm,Ed,hql]) (HT.n6 (by rw [lm,Ed,hql]) (λ i v f w1 w2=>?_)) (λ f hf=>?_) hQ
  ·rw [El] at w1 w2
   obtain ⟨b,eb,rfl⟩:=FM.mp w1
   obtain ⟨c,ec,rfl⟩:=FM.mp w2
   have hi:=(EE.mp eb).1
   obtain ⟨us,jts,t1,_⟩:=tup h' k i hi
   have x1:=(gd i hi).1
   rw [eb] at x1
   have x2:=(gd i hi).2.1
   rw [ec] at x2
   rw [EO x1,EO x2]
   exact ⟨_,_,us,rfl,t1,rfl⟩
  ·obtain ⟨c,hqm,rfl⟩:=Es.mp hf
   obtain ⟨i,hi,rfl⟩:=JB hqm
   obtain ⟨us,jts,_,_,t2,_⟩:=tup h' k i (by lia)
   have x2:=(gd i (by lia)).2.1
   rw [Ef hi] at x2
   rw [EO x2]
   exact ⟨_,jts,rfl,t2⟩
 ·rw [lm] at hi hj
  obtain ⟨us,jts,t1,i1,t2,i2⟩:=tup h' k i hi
  obtain ⟨us',jts',t1',i1',t2',i2'⟩:=tup h' k j hj
  rw [get i hi,get j hj]
  have ki:(ps.map λ z=>(z.1,[z.2])).getD i ([],[])=((ps.getD i ([],0)).1,[(ps.getD i ([],0)).2]):=by rw [Ej,El,(gd i hi).2.2]; rfl
  have kj:(ps.map λ z=>(z.1,[z.2])).getD j ([],[])=((ps.getD j ([],0)).1,[(ps.getD j ([],0)).2]):=by rw [Ej,El,(gd j hj).2.2]; rfl
  dsimp only at hQ
  rw [ki,kj] at hQ
  exact HT.xt (show X.A.units+1+1<cLine by lia) t1 t1' rfl rfl i1 i1' t2 t2' i2 i2' hQ
 ·have hoL:(g.push (seqObj "list" (as.map EG).toArray 0)).get? g.objs.size=some (seqObj "list" (as.map EG).toArray 0):=Ek _ rfl
  obtain ⟨c,hcc⟩:=sortedHeap_at (out:=E8 (p.map λ i=>(as.map EG).getD i E3)) hoL
  have hpl:=hp.length_eq
  rw [FC,lm] at hpl
  rw [lm] at hp
  have pm:∀ i∈p,i<as.length:=λ i hi=>FI.mp (hp.mem_iff.mp hi)
  refine ⟨.ref g.objs.size,_,I3.laid (t':=tk) (λ b o' w'=>?_) (Eh _) (show ObjOk X.prog X.w _ _ _ (.lst ((p.map λ i=>as.getD i 0).map MP)) from ⟨?_,_,c,?_,hcc⟩),rfl,?_⟩
  ·have hlt:=Ei w'
   rw [sortedHeap_old (Eo hlt) (by rw [size_push']; exact FV hlt)]
   exact Ec _ w'
  ·rw [Ed,Ed,hpl,sizeLine_eq]; lia
  ·rw [E6]
   refine nZ λ i hi=>?_
   rw [get i (pm i hi)]
   rfl
  have fr3:dw H1 ts g.objs.size=none:=I3.hok.fresh (Eh _)
  have smn:Same (dw H1 ts) (upd (dw H1 ts) g.objs.size (.lst ((p.map λ i=>as.getD i 0).map MP))):=λ b u w'=>by rw [aq (ak w' fr3)]; exact w'
  have fr1:H1 g.objs.size=none:=by
   cases w9:H1 g.objs.size with
   | none=>rfl
   | some u=>have:=sm _ _ w9; rw [fr3] at this; cases this
  refine q g.objs.size (p.map λ i=>as.getD i 0) (p.map λ i=>qs.getD i 0) (p.map λ i=>ps.getD i ([],0)) _ fr1 (λ b u w'=>smn _ _ (sm b u w')) ab (by simp) (by simp) ?_ ?_ ?_
  ·have:=hp.map (λ i=>ps.getD i ([],0))
   rw [hlp,n0] at this
   exact this
  ·rw [Hi]
   refine hs.imp_of_mem λ {i j} hi hj hA=>?_
   have e9:=hA.1
   have ki:(ps.map λ z=>(z.1,[z.2])).getD i ([],[])=((ps.getD i ([],0)).1,[(ps.getD i ([],0)).2]):=by rw [Ej,El,(gd i (pm i hi)).2.2]; rfl
   have kj:(ps.map λ z=>(z.1,[z.2])).getD j ([],[])=((ps.getD j ([],0)).1,[(ps.getD j ([],0)).2]):=by rw [Ej,El,(gd j (pm j hj)).2.2]; rfl
   simp only [ki,kj] at e9
   exact xy e9
  ·intro i b c z w1 w2 w3
   rw [El] at w1 w2 w3
   obtain ⟨j,ej,rfl⟩:=FM.mp w1
   rw [ej] at w2 w3
   cases w2
   cases w3
   have hj:=pm j (EN ej)
   exact ⟨smn _ _ (tnew j hj),smn _ _ (tkey j hj)⟩
theorem zY {H:Hp} {Q:VK} (h:td σ H λ x H1=>∃ (a:Addr) (ps:List (List Int×Int)),x=.ref a/\H1 a=some (.dT (ps.map λ q=>(g9 q.1,ML q.2)))/\ps.length<64/\
 ∀ (d:Addr) (as qs:List Addr) (zs:List (List Int×Int)) H',H1 d=none->Same H1 H'->H' d=some (.lst (as.map MP))->as.length=zs.length->qs.length=zs.length->zs.Perm ps->zs.Pairwise (λ y z=>HT.bp z.1 y.1=false)->
  (∀ (i:Nat) a q z,as[i]? = some a->qs[i]? = some q->zs[i]? = some z->H' a=some (.tup [.ref q,.int z.2])/\H' q=some (.tup (z.1.map ML)))->Q (.ref d) H'):ra td σ H Q:=h
end
end L2
namespace HT
open PySem PyProof.Rows PySem.W L2
section
variable {prog:Program} {w:World} {A:Around} {E:Value->Shared->Prop} {s:Shared}
theorem stored {es es1:Array (Int×Value)} {t t1:SetTable} (ho:h.get? a=some o) (hd:o.data=.set es ep t):(h.update a (Mh es1 t1)).get? a=some { o with data:=.set es1 (ep+1) t1 }:=by
 have:=FQ (Mh es1 t1) ho (by rw [putSet_of es1 t1 hd]; rfl)
 rw [putSet_of es1 t1 hd] at this
 exact this
end
section
variable {prog:Program} {w:World} {A:Around} {E:Value->Shared->Prop} {s:Shared}
end
section
variable {prog:Program} {w:World} {A:Around} {E:Value->Shared->Prop} {s:Shared}
end
section
variable {prog:Program} {w:World} {A:Around} {E:Value->Shared->Prop} {s:Shared}
end
end HT
namespace L2
open PySem PySem.Spec PyProof.Rows PySem.W
section
variable {X:Cx} {e:Expr} {t:TA} {p p2 pos pos2:Pos} {pins:List (Addr×Obj)} {σ:St} {H:Hp} {s:Shared}
end
section
variable {X:Cx}
end
theorem Bd {H:Hp} {Q:VK} (h:∀ p,H p=none->Q (.ref p) (upd H p (.dT []))):qU σ H Q:=h
theorem Be {td ty tx:TE} {H:Hp} {Q:VK} (h:td σ H λ x H1=>∃ a,x=.ref a/\IsD H1 a/\ty σ H1 λ y H2=>tx σ H2 λ z H3=>∃ o,DGet H3 a y o/\Q (o.getD z) H3):qV td ty tx σ H Q:=h
theorem Cy {td ty tv:TE} {H:Hp} (h:tv σ H λ v H1=>td σ H1 λ x H2=>ty σ H2 λ y H3=>∃ a H4,x=.ref a/\DPut H3 a y v H4/\D.nx σ H4):xn td ty tv D σ H:=h
noncomputable abbrev dTf (q:List Int×Int):List Key×V:=(g9 q.1,ML q.2)
noncomputable def Cn (bs:List (List Int)) (ps:List (List Int×Int)):Prop:=(ps.map (·.1)).Nodup/\(∀ r,r∈ps.map (·.1)↔r∈bs)/\∀ p∈ps,p.2=(bs.count p.1:Int)
theorem Cn.nil:Cn [] []:=⟨GG,λ r=>by simp,λ p h=>nomatch h⟩
theorem iS {r:List Int}:∀ {ps:List (List Int×Int)},(r∉ps.map (·.1)->gZ (ps.map dTf) (g9 r)=none)/\∀ n,(ps.map (·.1)).Nodup->(r,n)∈ps->gZ (ps.map dTf) (g9 r)=some (.int n)
 | []=>⟨λ _=>rfl,λ n _ h=>nomatch h⟩
 | p::ps=>by
  have ih:=iS (r:=r) (ps:=ps)
  refine ⟨λ h=>?_,λ n hn h=>?_⟩
  ·rw [EU,dB (λ e=>h (by rw [<-km e]; exact EJ ..))]
   exact ih.1 λ z=>h (EH _ z)
  ·rw [EU,Fn] at hn
   rcases Er.mp h with e | e
   ·subst e; rw [EU,gm rfl]
   ·have ne:¬ (dTf p).1=g9 r:=λ z=>hn.1 (by rw [km z]; exact Es.mpr ⟨_,e,rfl⟩)
    rw [EU,dB ne]
    exact ih.2 n hn.2 e
theorem Cn.step {bs:List (List Int)} {ps:List (List Int×Int)} (h:Cn bs ps) (r:List Int):∃ (m:Int) (ps':List (List Int×Int)),(gZ (ps.map dTf) (g9 r)).getD (.int 0)=.int m/\iz (ps.map dTf) (g9 r) (.int (m+1))=ps'.map dTf/\Cn (bs++[r]) ps'/\ps'.length<=ps.length+1:=by
 obtain ⟨h1,h2,h3⟩:=h
 by_cases hr:r∈ps.map (·.1)
 ·obtain ⟨⟨r',n⟩,hm,rfl⟩:=Es.mp hr
  have hv:=(iS (r:=r') (ps:=ps)).2 n h1 hm
  refine ⟨n,ps.map λ p=>if p.1=r' then (p.1,n+1) else p,by rw [hv]; rfl,?_,⟨?_,λ q=>?_,λ p hp=>?_⟩,by simp⟩
  ·unfold iz
   rw [if_pos (by rw [iA,hv]; rfl),E6,E6]
   apply Fj
   intro p hp
   by_cases e:p.1=r'
   ·simp [Lj,dTf,e]
   ·have:¬ g9 p.1=g9 r':=λ z=>e (km z)
    simp [Lj,dTf,e,this]
  ·have:(ps.map λ p=>if p.1=r' then (p.1,n+1) else p).map (·.1)=ps.map (·.1):=by
    rw [E6]; apply Fj; intro p _; show (if p.1=r' then (p.1,n+1) else p).1=p.1; split<;>rfl
   rw [this]; exact h1
  ·have:(ps.map λ p=>if p.1=r' then (p.1,n+1) else p).map (·.1)=ps.map (·.1):=by
    rw [E6]; apply Fj; intro p _; show (if p.1=r' then (p.1,n+1) else p).1=p.1; split<;>rfl
   rw [this,h2 q,EX,EL]
   constructor
   ·exact .inl
   ·rintro (z | rfl)
    ·exact z
    ·exact (h2 _).mp hr
  ·obtain ⟨p0,hp0,rfl⟩:=Es.mp hp
   have c0:=h3 p0 hp0
   by_cases e:p0.1=r'
   ·have e5:=h3 _ hm
    simp only [e,if_true]
    have e6:n=(bs.count r':Int):=e5
    rw [GC,Iv,e6]
    lia
   ·rw [if_neg e,GC,c0]
    have:[r'].count p0.1=0:=Ga.mpr (by simpa using e)
    rw [this]
    simp
 ·have hv:=(iS (r:=r) (ps:=ps)).1 hr
  have hb:r∉bs:=λ z=>hr ((h2 r).mpr z)
  refine ⟨0,ps++[(r,1)],by rw [hv]; rfl,?_,⟨?_,λ q=>?_,λ p hp=>?_⟩,by simp⟩
  ·rw [n5 _ hv,EA]; rfl
  ·rw [EA,GD]
   exact ⟨h1,Hc _ _,λ a ha b hb' e=>by
    have e2:b=r:=EL.mp hb'
    exact hr (by rw [<-e2,<-e]; exact ha)⟩
  ·rw [EA,EX,h2 q,EX]; exact MH
  ·rcases EX.mp hp with z | z
   ·have ne:p.1≠r:=λ e=>hr (by rw [<-e]; exact Es.mpr ⟨p,z,rfl⟩)
    have:[r].count p.1=0:=Ga.mpr (by simpa using ne)
    rw [GC,this,h3 p z]
    simp
   ·rw [EL.mp z]
    show (1:Int)=_
    rw [GC,Iv,Ga.mpr hb]
    rfl
noncomputable def Bgs (bs:List (List Int)) (zs:List (List Int×Int)):Prop:=(zs.map (·.1)).Pairwise (λ a b=>HT.bp a b=true)/\(∀ r,r∈zs.map (·.1)↔r∈bs)/\∀ p∈zs,p.2=(bs.count p.1:Int)
theorem Cn.bgs {bs:List (List Int)} {ps zs:List (List Int×Int)} (h:Cn bs ps) (hp:zs.Perm ps) (hs:zs.Pairwise λ y z=>HT.bp z.1 y.1=false):Bgs bs zs:=by
 have hm:(zs.map (·.1)).Perm (ps.map (·.1)):=hp.map _
 refine ⟨?_,λ r=>by rw [hm.mem_iff,h.2.1 r],λ p hq=>h.2.2 p (hp.mem_iff.mp hq)⟩
 have nd:(zs.map (·.1)).Nodup:=hm.symm.nodup h.1
 have hs':(zs.map (·.1)).Pairwise λ y z=>HT.bp z y=false:=by rw [Hi]; exact hs
 refine (hs'.and nd).imp λ {a b} q=>?_
 cases e:HT.bp a b with
 | true=>rfl
 | false=>exact absurd (HT.iQ a b e q.1) q.2
noncomputable def Du (K:Frag) (P:Params) (d:Addr) (kfs:List (Str×Addr)):Prop:=
 ∃ (ts:List Tok) (ep:Nat),ts.length=kfs.length/\K.lookup d=some ⟨.type "dict",none,.dict ((kfs.zip ts).map λ p=>(⟨GI P p.1.1,.str p.1.1 p.2,.ref p.1.2⟩:DictEntry)).toArray ep,#[]⟩
noncomputable def DX (d:Addr) (kfs:List (Str×Addr)):R2:=λ x y H Q=>∃ z f,x=.ref d/\y=.str z/\kfs.lookup z=some f/\Q (.ref f) H
theorem og {P:Params} {z:Str} {f:Addr}:∀ (kfs:List (Str×Addr)) (ts:List Tok),ts.length=kfs.length->kfs.lookup z=some f->
  (((kfs.zip ts).map λ p=>(⟨GI P p.1.1,.str p.1.1 p.2,.ref p.1.2⟩:DictEntry)).find? λ e=>FW z e.key).map (·.val)=some (.ref f)
 | [],_,_,h=>by cases h
 | (y,g)::kfs,[],hl,_=>by cases hl
 | (y,g)::kfs,t::ts,hl,h=>by
  rw [FG,EU,Gf]
  rw [Gr] at h
  by_cases e:z=y
  ·subst e
   rw [beq_self_eq_true] at h
   cases h
   have:FW z (HM z t)=true:=by simp [FW]
   simp only [this]
   rfl
  ·rw [beq_false_of_ne e] at h
   have:FW z (HM y t)=false:=by
    simp only [FW]
    first
     | exact beq_false_of_ne e
     | exact beq_false_of_ne (Ff e)
     | simpa using e
     | simpa using Ff e
   simp only [this]
   exact og kfs ts (by simpa using hl) h
section
variable {X:Cx}
theorem Cz {kfs:List (Str×Addr)} (hd:Du X.K X.w.params d kfs):QIx X (DX d kfs):=by
 refine ⟨λ value slice pins s σ H x y v u Q I rx ry h hs=>?_⟩
 obtain ⟨z,f,rfl,rfl,hl,q⟩:=h
 cases rx
 obtain ⟨t,rfl⟩:=ry
 obtain ⟨ts,ep,hts,hK⟩:=hd
 have ho:=I.kIn _ _ hK
 have hm:s.heap.MapOf (Hn X.prog X.w) d (λ k=>findBy (Hn X.prog X.w).is ((kfs.zip ts).map λ p=>(⟨GI X.w.params p.1.1,.str p.1.1 p.2,.ref p.1.2⟩:DictEntry)).toArray k):=by
  refine ⟨_,_,ep,ho,⟨rfl,rfl,rfl⟩,rfl,λ e he=>?_,λ _=>rfl⟩
  obtain ⟨p,hp,rfl⟩:=Es.mp (List.mem_toArray.mp he)
  exact ⟨p.1.1,by simp [Hn,FW],rfl⟩
 refine subscriptTail_builtinR (x:=.ref f) hm.typeIs slot_dict_getitem.lookup (wpAny_getItem_of (Q:=λ r s'=>r=.ref f/\EP X pins σ Q r s') (knd:=Hn X.prog X.w) (k:=z) (by simp [Hn,FW]) hm (v:=.ref f) ?_ ⟨rfl,.ref f,H,I.tok _,rfl,q⟩) hs
 show findBy _ _ _=_
 unfold findBy
 rw [List.find?_toArray]
 exact og kfs ts hts hl
noncomputable def vG (R:V->Sp->Prop) (E:XK) (tf:TE) (t:TA):TE:=λ σ H Q=>tf σ H λ v H1=>∃ sp,R v sp/\t σ H1 λ vs H2=>sp vs H2 Q E
theorem uF {R:V->Sp->Prop} {E:XK} {tf:TE} {t:TA} {p:Pos} {es:List Expr} (hf:QE X (.Name x p) tf)
  (hR:∀ v sp,R v sp->∃ f fd ps CX k,v=.ref f/\FnOk X.prog X.w X.K X.mg X.base CX k f fd ps sp/\Room k X.A/\Gm X.K (.ref f)=true/\Binds X.K fd ps []/\jC CX X E)
  (ha:QA X (e::es) t) (hn:(e::es).all bz=true:=by rfl):QE X (.Call (.Name x p) (e::es) [] pos) (vG R E tf t):=by
 rw [Hm,Fy] at hn
 refine ⟨λ pins s σ H Q I h=>?_⟩
 refine wpAny_Call_Name_kw (thn (hf.out pins s σ H _ I h) λ u s1 hu=>?_)
 obtain ⟨v,H1,I1,ru,sp,hr,q⟩:=hu
 obtain ⟨f,fd,ps,CX,k,rfl,F,hro,hk,hb,hx⟩:=hR v sp hr
 cases ru
 refine JI (h₀:=X.base) I1.ok.mod.kin hk (thn (ha.out pos pins s1 σ H1 _ I1 q) λ us s2 hu=>?_) (aB hn.1) (gb hn.2)
 obtain ⟨vs,H2,I2,r,q⟩:=hu
 exact ⟨I2.kIn,vq (dvs:=[]) (ds:=[]) F hro hb .nil hx I2 r (by rw [Fh]; exact q)⟩
theorem Bf {R:V->Sp->Prop} {E:XK} {tf:TE} {t:TA} {H:Hp} {Q:VK} (h:tf σ H λ v H1=>∃ sp,R v sp/\t σ H1 λ vs H2=>sp vs H2 Q E):vG R E tf t σ H Q:=h
noncomputable def xz (K:Frag):V->List V->Hp->VK->Prop:=λ x xs H Q=>∃ z l ys,x=.str z/\xs=[.ref l]/\SqL K H l (ys.map MM)/\(ys.map (·.length)).sum+ys.length*z.length<=16777216/\Q (.str (Ky z ys)) H
theorem xA:MtR X "str.join" (xz X.K):=by
 intro pins s σ H x xs v us Q I rx rs h
 obtain ⟨z,l,ys,rfl,rfl,hq,hs,q⟩:=h
 obtain ⟨t,rfl⟩:=rx
 obtain ⟨u,rfl,ru⟩:=ft rs
 cases ru
 obtain ⟨its,rv,pl,hz⟩:=I.list hq
 exact join_list pl.isList (jJ (by simpa using rv)) hs λ t' k=>⟨.str (Ky z ys),H,I.tok k,⟨_,rfl⟩,q⟩
variable {o e:Expr} {to:TE} {t:TA} {apos cpos:Pos}
theorem xB {K:Ee} (ho:QE X o to) (ha:QA X [e] t) (hbase:attributeBase o ("join" : Str) X.env (eval o X.env)=eval o X.env:=by rfl) (hline:(apos.endLine == cpos.line)=true:=by rfl) (hn:bz e=true:=by rfl) (hK:X.K=K:=by rfl) :
  QE X (.Call (.Attribute o "join" apos) [e] [] cpos) (tBM K "str" (xz K) to t):=by subst hK; exact ⟨qf PySem.F.plainAttrs_str PySem.F.slot_str_join PySem.F.type_str_join xA ho.out ha.out hbase hline hn⟩
end
section
variable {X:Cx} {pins:List (Addr×Obj)} {σ:St} {H:Hp} {s:Shared}
variable {N frs:List Str} {x qual:Str} {ix:List Nat} {scope:Scope} {cl:List (Str×Addr)} {params:Arguments} {body:Expr}
section
variable {te:TE} {t:TA} {p pos kpos lpos:Pos} {e:Expr} {k:Nat} {cc P:Addr}
end
end
end L2
namespace L2
open PySem PySem.Spec PyProof.Rows
section
variable {qs:List (Nat×Nat)} {b:Nat} {st:HW}
end
noncomputable def sT (c:Nat) (xs:List (List Nat)):List Nat:=xs.map λ r=>r.getD c 0
theorem block (c:Nat):∀ {ys:List (List Nat)} (_:(sT c ys).Pairwise (·<=·)) (g:Nat),(ys.drop (gj (sT c ys) g)).take ((sT c ys).count g)=ys.filter λ r=>decide (r.getD c 0=g)
 | [],_,g=>by simp
 | r::ys,h,g=>by
  have h':(r.getD c 0::sT c ys).Pairwise (·<=·):=h
  rw [List.pairwise_cons] at h'
  have ih:=block c h'.2 g
  have e1:sT c (r::ys)=r.getD c 0::sT c ys:=rfl
  rw [e1,List.filter_cons]
  generalize hf:r.getD c 0=f at h'
  have hl:gj (f::sT c ys) g=(if f<g then 1 else 0)+gj (sT c ys) g:=by
   unfold gj
   rw [IC]
   by_cases q:f<g
   ·rw [if_pos (by simpa using q),if_pos q]; lia
   ·rw [if_neg (by simpa using q),if_neg q]; lia
  rcases Hg f g with q | q | q
  ·rw [hl,if_pos q,if_neg (by simpa using Eo q),List.count_cons_of_ne (by simpa using Eo q),LO 1,List.drop_succ_cons]
   exact ih
  ·subst q
   have z:gj (sT c ys) f=0:=by
    unfold gj
    rw [List.countP_eq_zero]
    intro x hx
    have:=h'.1 x hx
    simpa using this
   rw [z] at ih
   rw [hl,if_neg (E7 _),z,if_pos (by simp),List.count_cons_self,G6,List.take_succ_cons]
   rw [G6] at ih
   rw [ih]
  ·have z:(f::sT c ys).count g=0:=by
    rw [Ga]
    intro hx
    rcases Er.mp hx with e | e
    ·lia
    ·have:=h'.1 g e; lia
   rw [z,G9,if_neg (by simpa using ES q)]
   symm
   rw [Jh]
   intro x hx
   have:=h'.1 (x.getD c 0) (Es.mpr ⟨x,hx,rfl⟩)
   simp only [decide_eq_true_eq]
   lia
noncomputable def zZ (td ty tx:TE):TE:=λ σ H Q=>td σ H λ x H1=>∃ a,x=.ref a/\IsD H1 a/\ty σ H1 λ y H2=>tx σ H2 λ z H3=>∃ kvs k,H3 a=some (.dK kvs)/\y=kV k/\kvs.length<sizeLine/\
 (∀ v,gZ kvs k=some v->Q v H3)/\(gZ kvs k=none->Q z (upd H3 a (.dK (kvs++[(k,z)]))))
section
variable {X:Cx} {o e f:Expr} {td ty tx:TE} {pos apos cpos p:Pos}
theorem Bg {H:Hp} {Q:VK} (h:∀ p,H p=none->Q (.ref p) (upd H p (.dK []))):qT σ H Q:=h
theorem xC (ho:QE X o td) (he:QE X e ty) (hf:QE X f tx) (hbase:attributeBase o ("setdefault" : Str) X.env (eval o X.env)=eval o X.env:=by rfl) (hline:(apos.endLine == cpos.line)=true:=by rfl) (hn:bz e=true:=by rfl) (hn2:bz f=true:=by rfl) :
  QE X (.Call (.Attribute o "setdefault" apos) [e,f] [] cpos) (zZ td ty tx):=by
 have e1:starEach [e,f] X.env=[(false,eval e X.env),(false,eval f X.env)]:=by rw [aB hn,aB hn2]; rfl
 have m:M2 X o "setdefault" apos e f cpos:=⟨hbase,by rw [e1]; rfl,hline,by rw [e1]; rfl⟩
 refine ⟨λ pins s σ H Q I h=>?_⟩
 refine wpAny_Call_method m.base m.few m.line Gu HL PySem.F.type_dict_setdefault (thn (ho.out pins s σ H _ I h) λ u s1 ⟨x,H1,I1,rx,a,ex,d,q1⟩=>?_)
 subst ex
 obtain rfl:u=EG a:=rx
 obtain ⟨t1,t2,_⟩:=vE I1 d
 refine ⟨t1,t2,?_⟩
 rw [m.trees]
 refine FB rfl (GL (FZ (thn (he.out pins s1 σ H1 _ I1 q1) λ iv s2 ⟨y,H2,I2,ry,q2⟩=>
  FZ (thn (hf.out pins s2 σ H2 _ I2 q2) λ fv s3 ⟨z,H3,I3,rz,kvs,k,ea,ey,hl,g1,g2⟩=>He ?_))))
 subst ey
 obtain ⟨hz,hd,vs,rel,dd⟩:=xl I3.hok ea
 have hz':vs.length<=sizeLine:=by rw [<-rel.length]; exact hz
 have rv:=rel.val k
 refine call_meetsIn HL dd.typeIs PySem.F.entry_dict_setdefault (PySem.F.args_dict_setdefault_3 _ _ _) (kt_meets_setdefault (aJ X.prog X.w) a (qP ry) hd fv) ⟨vs,dd,hz',λ v hv=>?_,λ hv h' dd' hs=>?_⟩
 ·rw [hv] at rv
  cases e:gZ kvs k with
  | none=>rw [e] at rv; exact absurd rv id
  | some x=>rw [e] at rv; exact ⟨x,H3,I3.tok _,rv,g1 x e⟩
 ·rw [hv] at rv
  cases e:gZ kvs k with
  | some x=>rw [e] at rv; exact absurd rv id
  | none=>
   have he:∃ q,h'.get? a=some q:=let ⟨q,_,_,hq,_⟩:=dd'; ⟨q,hq⟩
   have rp:=rel.put k rz
   rw [n5 z e] at rp
   exact ⟨z,_,kh I3 (by rw [ea]; exact Et) hs he (qR (by rw [ED]; exact hl) hd rp dd'),rz,g2 e⟩
theorem CA {H:Hp} {Q:VK} (h:td σ H λ x H1=>∃ a,x=.ref a/\IsD H1 a/\ty σ H1 λ y H2=>tx σ H2 λ z H3=>∃ kvs k,H3 a=some (.dK kvs)/\y=kV k/\kvs.length<sizeLine/\
 (∀ v,gZ kvs k=some v->Q v H3)/\(gZ kvs k=none->Q z (upd H3 a (.dK (kvs++[(k,z)]))))):zZ td ty tx σ H Q:=h
end
noncomputable def ItV (d:Addr) (kvs:List (Key×V)) (o:Obj):It:=
 ⟨λ i H=>i<kvs.length/\H d=some (.frz o (.dK kvs)),λ i H x H'=>H'=H/\∃ k,kvs[i]? = some (k,x),λ i H=>i=kvs.length/\H d=some (.frz o (.dK kvs))⟩
theorem vH {w:World} {H:Hp} {kvs:List (Key×V)} {es:Array DictEntry} (ho:o.data=.dict es ep) (ok:HOk P w H h) (e:H d=some (.frz o (.dK kvs))):∃ vs,KV kvs vs/\h.DictAt (aJ P w) d vs ep:=by
 obtain ⟨h0,_,_,vs,rel,o',es',ep',h1,h2,h3,h4,h5,h6⟩:=(show ObjOk P w H h d (.frz o (.dK kvs)) from ok d _ e)
 rw [h0] at h1
 cases h1
 rw [ho] at h3
 cases h3
 exact ⟨vs,rel,o,es,h0,h2,ho,h4,h5,h6⟩
theorem rc {w:World} {K:Ee} (d it:Addr) (kvs:List (Key×V)) (o:Obj) {es:Array DictEntry} (ho:o.data=.dict es ep) :
  Turn P w K tg (ItV d kvs o) [it] it (λ i h=>h.IsValIter it d i kvs.length ep) where
 mem:=by simp
 obj:=λ i h st b hb=>by
  have e:b=it:=by simpa using hb
  subst e
  obtain ⟨o,e,c,d⟩:=st
  exact ⟨o,e,λ v q=>by rw [d] at q; cases q⟩
 keep:=λ i h h' st k=>by
  obtain ⟨o,e,r⟩:=st
  exact ⟨o,k it (by simp) o e,r⟩
 item:=by
  intro X hP hw hK hc i pins s σ H E I hf st hg
  subst hP hw hK
  obtain ⟨f0,f1,f2,f3,f4,f5⟩:=hf it (by simp)
  obtain ⟨vs,rel,dd⟩:=vH ho I.hok hg.2
  have hl:=rel.length
  rw [hl] at st
  have hi:i<vs.length:=by rw [<-hl]; exact hg.1
  have hx:vs[i]? = some (vs[i].1,vs[i].2):=by rw [Ef hi]
  refine wpAny_pyNext_values_item st dd hx λ h' hit' hs'=>?_
  have I1:Inv X pins σ H { s with heap:=h',toks:=s.toks }:=I.turned (λ b o hb e=>(hs'.2 b hb).trans e) f0 f1 f3 f4 f5
  obtain ⟨o',e,cl,dt⟩:=id hit'
  have hk:kvs[i]? = some (kvs[i]'hg.1):=Ef hg.1
  have pr:=lM rel hk hx
  refine ⟨_,rfl,mD (s:={ s with heap:=h',toks:=s.toks }) e cl dt (by decide) ⟨(kvs[i]'hg.1).2,H,I1,pr.2,⟨rfl,_,hk⟩,?_,λ b hb=>(hf b hb).1⟩⟩
  rw [hl]; exact hit'
 done:=by
  intro X hP hw hK hc i pins s σ H E I hf st hg
  subst hP hw hK
  obtain ⟨f0,f1,f2,f3,f4,f5⟩:=hf it (by simp)
  obtain ⟨vs,rel,dd⟩:=vH ho I.hok hg.2
  have hl:=rel.length
  rw [hl] at st
  exact wpAny_pyNext_values_end (I.ok.hd hc) st dd (Ge (by rw [hg.1,hl]; exact Eh _)) λ h' kk=>⟨rfl,I.turned (t':=s.toks) (λ b o hb e=>kk b o hb e) f0 f1 f3 f4 f5⟩
 self:=λ A i s Q E st h=>wpAny_pyIter_valiter st h
section
variable {X:Cx} {o tg:Expr} {td:TE} {pos apos cpos p:Pos}
noncomputable def z7 (td:TE):TI:=λ σ H R=>td σ H λ x H1=>∃ a kvs,x=.ref a/\H1 a=some (.dK kvs)/\∀ ob,R (ItV a kvs ob) (upd H1 a (.frz ob (.dK kvs)))
theorem xD (ho:QE X o td) (hbase:attributeBase o ("values" : Str) X.env (eval o X.env)=eval o X.env:=by rfl) (hline:(apos.endLine == cpos.line)=true:=by rfl) :
  QI X tg (.Call (.Attribute o "values" apos) [] [] cpos) (z7 td):=by
 refine ⟨λ pins s σ H R I h=>?_⟩
 refine wpAny_Call_method0_late hbase hline (thn (ho.out pins s σ H _ I h) λ v s1 ⟨x,H1,I1,rx,q1⟩=>?_)
 obtain ⟨a,kvs,rfl,ha,q⟩:=q1
 obtain rfl:v=EG a:=rx
 obtain ⟨hz,hd,vs,rel,dd⟩:=xl I1.hok ha
 obtain ⟨ob,es,ep,e1,e2,e3,e4,e5,e6⟩:=id dd
 refine ⟨"dict","dict.values",Gu,IG,PySem.F.type_dict_values,⟨ob,e1,e2.1⟩,λ b w'=>by cases w'; exact ⟨ob,e1,e2.2.1⟩,FB rfl (HF ?_)⟩
 refine call_meetsIn IG dd.typeIs PySem.F.entry_dict_values (PySem.F.args_dict_values_1 _) (meets_dict_values (aJ X.prog X.w) a hd) ⟨⟨vs,dd⟩,?_⟩
 have g1:(s1.heap.push { cls:=.type "dict_values",data:=.fields #[.ref a] }).get? a=some ob:=Ec _ e1
 have d1:(s1.heap.push { cls:=.type "dict_values",data:=.fields #[.ref a] }).DictAt (aJ X.prog X.w) a vs ep:=⟨ob,es,g1,e2,e3,e4,e5,e6⟩
 have hvw:(s1.heap.push { cls:=.type "dict_values",data:=.fields #[.ref a] }).IsValuesView s1.heap.objs.size a:=⟨_,Ek _ rfl,rfl,rfl⟩
 refine wpAny_pyIter_values (s:={ s1 with heap:=s1.heap.push { cls:=.type "dict_values",data:=.fields #[.ref a] } }) hvw d1 ?_
 have I2:Inv X pins σ H1 { s1 with heap:=((s1.heap.push { cls:=.type "dict_values",data:=.fields #[.ref a] }).push { cls:=.type "dict_valueiterator",data:=.fields #[.ref a,.int 0 0,.int vs.length 0,.int ep 0] }),toks:=s1.toks }:=I1.kept (t':=s1.toks) λ b u w'=>Ec _ (Ec _ w')
 have g2:((s1.heap.push { cls:=.type "dict_values",data:=.fields #[.ref a] }).push { cls:=.type "dict_valueiterator",data:=.fields #[.ref a,.int 0 0,.int vs.length 0,.int ep 0] }).get? a=some ob:=Ec _ g1
 have I3:=kh (t':=s1.toks) (ob:=.frz ob (.dK kvs)) I2 (a:=a) (by rw [ha]; exact Et) (h':=((s1.heap.push { cls:=.type "dict_values",data:=.fields #[.ref a] }).push { cls:=.type "dict_valueiterator",data:=.fields #[.ref a,.int 0 0,.int vs.length 0,.int ep 0] })) ⟨rfl,λ b _=>rfl⟩ ⟨_,g2⟩ ⟨g2,hz,hd,vs,rel,ob,es,ep,g2,e2,e3,e4,e5,e6⟩
 have hn:H1 (s1.heap.push { cls:=.type "dict_values",data:=.fields #[.ref a] }).objs.size=none:=I1.hok.fresh (by rw [size_push']; exact Je _)
 have hnu:upd H1 a (.frz ob (.dK kvs)) (s1.heap.push { cls:=.type "dict_values",data:=.fields #[.ref a] }).objs.size=none:=by rw [aq (ak ha hn).symm]; exact hn
 refine ⟨_,[(s1.heap.push { cls:=.type "dict_values",data:=.fields #[.ref a] }).objs.size],_,_,_,rfl,I3,rc a _ kvs ob e3,⟨_,Ek _ rfl,rfl,by rw [rel.length]; rfl⟩,λ b hb=>?_,q ob⟩
 have e:b=(s1.heap.push { cls:=.type "dict_values",data:=.fields #[.ref a] }).objs.size:=by simpa using hb
 subst e
 exact I1.fpOk (by rw [size_push']; exact Je _) hnu
theorem CB {H:Hp} {R:It->Hp->Prop} (h:td σ H λ x H1=>∃ a kvs,x=.ref a/\H1 a=some (.dK kvs)/\∀ ob,R (ItV a kvs ob) (upd H1 a (.frz ob (.dK kvs)))):z7 td σ H R:=h
noncomputable def CC:List V->Hp->VK->Prop:=λ xs H Q=>∃ a kvs,xs=[MP a]/\H a=some (.dK kvs)/\Q (.int (kvs.length:Nat)) H
theorem re:QC X (.builtin "len") CC:=by
 refine ⟨λ pins s σ H xs us Q I r h=>?_⟩
 obtain ⟨a,kvs,rfl,ha,q⟩:=h
 obtain ⟨u,rfl,ru⟩:=ft r
 cases ru
 exact Cs I (.inl ha) λ t s' I'=>⟨.int (kvs.length:Nat),H,I',⟨t,rfl⟩,q⟩
end
end L2
namespace HT
open PySem PyProof.Rows PySem.W L2
section
variable {prog:Program} {w:World} {A:Around} {E:Value->Shared->Prop} {s:Shared}
theorem rf:typeLookup (.type "list") "keys" = pure none:=by rw [typeLookup_type,builtinLookup_eq_fast]; kernel_rfl
theorem xE {xs:Array Value} {Q:Option Value->Shared->Prop} (hx:s.heap.get? a=some o) (hc:o.cls=.type "list") (hdat:o.data=.seq xs k) (hd:o.dict=none) (hA:A.handled=none)
  (h:∀ h' tk e,Heap.NewExcOf s.heap h' e "AttributeError"->Q none { s with heap:=h',toks:=tk }):wpAny (model prog w) A (getAttr? (.ref a) "keys") Q E s:=by
 obtain ⟨c,dct,dat,sl⟩:=o
 simp only at hc hdat hd
 subst hc hdat hd
 obtain ⟨hp,g,d,tk,os⟩:=s
 have hT:∀ tk',(⟨hp,g,d,tk',os⟩:Shared).TypeIs (.ref a) "list":=λ _=>⟨_,hx,rfl⟩
 have f1:=sub_AttributeError
 have f3:=Gy.lookup
 have f4:=Gy.bind (.ref a)
 have f5:=am_list_getattr_none
 unfold getAttr? getAttrBy? getAttrBy
 repeat (any_goals (first | assumption | exact hT _ | ((with_reducible show wpAny _ _ (call (Value.builtin "list.__getattribute__") _ _) _ _ _); refine call_meets Gy (hT _) am_entry_list_getattribute (PySem.F.args_list_getattribute_2 _ _) (meets_getattribute_miss_list a xs k sl "keys" _ rf (by decide)) ⟨hx,hA,λ h' tk' e hx'=>?_⟩) | wp_step))
 obtain ⟨t',u',he⟩:=hx'.there
 show wpAny _ _ (getattributeRaised _ _ _ _ _ _ _) _ _ _
 unfold getattributeRaised
 repeat (any_goals (first | assumption | wp_step))
 exact h _ _ _ hx'.of
theorem lN:entryFor table "dict.update.loop" = some Builtin.«dict.update.loop»:=entryFor_of_tree (by kernel_rfl)
theorem gs:plainId "dict.update.loop" = true:=by decide +kernel
theorem ph {k v:Value} {Q:List Value->Shared->Prop} (hp:s.heap.IsTuple p #[k,v]) (h:Q [k,v] s):wpAny (model prog w) A (Ji (.ref p)) Q E s:=by
 obtain ⟨o,ho,hc,n,hd⟩:=hp
 unfold Ji
 refine wpAny_bind (wpAny_typeOf ⟨o,ho,hc⟩ ?_)
 rw [if_pos (by decide)]
 exact wpAny_bind (wpAny_seqItems ho hd (wpAny_pure h))
theorem uG {R:Result->Shared->Prop} {I:Addr} {wr:List Addr} {P:Nat->Value->Prop} {St:Nat->Heap->Prop} {rs:List (Key×Value)} {pa:Nat->Addr} (W:Walks prog w A.in1 I fp wr n P St) (hSf:S∉fp) (hn:rs.length=n) (hb:n<=sizeLine) (hv:∀ i v,P i v->v=.ref (pa i)) :
  ∀ (k i:Nat) (s:Shared),n - i=k->i<=n->St i s.heap->(∀ j,j<n->pa j≠S/\pa j∉wr/\∃ ku,(aJ prog w).is (rs.getD j (.inl 0,.none)).1 ku=true/\s.heap.IsTuple (pa j) #[ku,(rs.getD j (.inl 0,.none)).2])->
   s.heap.DictOf (aJ prog w) S (merged [] (rs.take i))->
   (∀ g tk,(∀ b o,b≠S->b∉wr->s.heap.get? b=some o->g.get? b=some o)->g.DictOf (aJ prog w) S (merged [] rs)->R (.ok (.ret .none)) { s with heap:=g,toks:=tk })->
   codeAny (model prog w) A (.builtin "dict.update.loop" ⟨[.ref S,.ref I,rawInt i,.none],[]⟩) R s:=by
 have hSw:S∉wr:=λ z=>hSf (W.sub _ z)
 have at':∀ {h g:Heap} {kvs:List (Key×Value)},h.DictOf (aJ prog w) S kvs->(∀ o,h.get? S=some o->g.get? S=some o)->g.DictOf (aJ prog w) S kvs:=λ x e=>let ⟨o,es,ep,ho,r⟩:=x; ⟨o,es,ep,e _ ho,r⟩
 intro k
 induction k with
 | zero=>
  intro i s hk hi hst hT hS hR
  have hin:i=n:=by lia
  subst hin
  refine codeAny_builtin lN ?_
  rw [Fz gs _]
  show wpAny _ A.in1 (pyNext (.ref I) >>= _) _ _ s
  refine wpAny_bind (W.done s _ _ hst λ g tk kp=>?_)
  rw [Em (by lia)] at hS
  exact wpAny_bind (wpAny_pure (wpAny_pure (hR g tk (λ b o _ q e=>kp b o q e) (at' hS λ o e=>kp S o hSw e))))
 | succ k ih=>
  intro i s hk hi hst hT hS hR
  have hlt:i<n:=by lia
  refine codeAny_builtin lN ?_
  rw [Fz gs _]
  show wpAny _ A.in1 (pyNext (.ref I) >>= _) _ _ s
  refine wpAny_bind (W.item i s _ _ hlt hst λ v g tk hP st1 kp=>?_)
  obtain rfl:=hv i v hP
  obtain ⟨p1,p2,ku,p3,p4⟩:=hT i hlt
  have hS1:=at' hS λ o e=>kp S o hSw e
  have tup:∀ {g':Heap} {x:Addr} {vs:Array Value},s.heap.IsTuple x vs->(∀ o,s.heap.get? x=some o->g'.get? x=some o)->g'.IsTuple x vs:=λ y e=>let ⟨o,ho,r⟩:=y; ⟨o,e _ ho,r⟩
  have p4g:g.IsTuple (pa i) #[ku,(rs.getD i (.inl 0,.none)).2]:=tup p4 λ o e=>kp _ o p2 e
  refine wpAny_bind (wpAny_holding ?_)
  refine wpAny_bind (wpAny_tryCatch (ph (s:={ s with heap:=g,toks:=tk }) p4g ?_))
  have hget:rs[i]? = some (rs.getD i (.inl 0,.none)):=by rw [Ej,Ef (by lia)]; rfl
  have hsz:(merged [] (rs.take i)).length<=sizeLine:=by
   have:=merged_length_le ([]:List (Key×Value)) (rs.take i)
   rw [EV] at this
   simp only [E4] at this
   lia
  refine wpAny_holding (wpAny_dictSet_pairs (hsz:=hsz) (s:={ s with heap:=g,toks:=tk }) p3 hS1 λ g2 hS2 sb=>?_)
  rw [<-merged_take_succ [] rs i _ hget] at hS2
  refine wpAny_pure ⟨plainId_quiet gs _,ih (i+1) _ (by lia) hlt (W.frame _ _ _ st1 λ c hc o e=>?_) (λ j hj=>?_) hS2 λ g3 tk3 k3 hS3=>?_⟩
  ·exact (sb.2 c (λ z=>hSf (z▸hc))).trans e
  ·obtain ⟨q1,q2,kj,q3,q4⟩:=hT j hj
   exact ⟨q1,q2,kj,q3,tup q4 λ o e=>(sb.2 _ q1).trans (kp _ o q2 e)⟩
  ·exact hR g3 tk3 (λ c o q1 q2 e=>k3 c o q1 q2 ((sb.2 c q1).trans (kp c o q2 e))) hS3
theorem pi {rs:List (Key×Value)} {pa:Nat->Addr} (hh:A.handled=none) (hl:s.heap.IsList l its.toArray) (hdn:∀ o,s.heap.get? l=some o->o.dict=none) (hv:∀ (i:Nat) v,its[i]? = some v->v=.ref (pa i)) (hn:rs.length=its.length) (hb:its.length<=sizeLine)
  (hT:∀ j,j<its.length->∃ ku,(aJ prog w).is (rs.getD j (.inl 0,.none)).1 ku=true/\s.heap.IsTuple (pa j) #[ku,(rs.getD j (.inl 0,.none)).2])
  (h:∀ g tk,g.DictOf (aJ prog w) s.heap.objs.size (merged [] rs)->(∀ b o,s.heap.get? b=some o->g.get? b=some o)->Q (.ref s.heap.objs.size) { s with heap:=g,toks:=tk }) :
  wpAny (model prog w) A (call (.type "dict") [.ref l]) Q E s:=by
 refine callType_codes (Q₁:=λ obj s₁=>obj=.ref s.heap.objs.size/\s₁={ s with heap:=s.heap.push { cls:=.type "dict",data:=.dict #[] } }) PySem.F.kt_called_dict (PySem.F.kt_typeCall_dict_1 _) PySem.F.entry_dict_init (kt_code_dict_new _ ⟨rfl,rfl⟩) ?_
 rintro obj s₁ ⟨rfl,rfl⟩
 have hnew:(s.heap.push { cls:=.type "dict",data:=.dict #[] }).DictOf (aJ prog w) s.heap.objs.size []:=KR s.heap
 refine ⟨hnew.typeIs,PySem.F.args_dict_init_2 _ _,?_⟩
 obtain ⟨ol,hol,hcl,nl,hdl⟩:=id hl
 have hol1:(s.heap.push { cls:=.type "dict",data:=.dict #[] }).get? l=some ol:=Ec _ hol
 have hlS:l<s.heap.objs.size:=Ei hol
 unfold Builtin.«dict.__init__»
 refine wpAny_bind ?_
 unfold LW
 refine wpAny_bind (wpAny_notOrdered_dict hnew.typeIs ?_)
 show wpAny _ _ (pure (s.heap.objs.size,[EG l])) _ _ _
 refine wpAny_pure ?_
 show wpAny _ _ (IP "dict.__init__" s.heap.objs.size (.ref l) [] .none) _ _ _
 unfold IP
 refine wpAny_bind (wpAny_typeOf (T:="list") ⟨ol,hol1,hcl⟩ ?_)
 rw [if_pos (by decide)]
 refine wpAny_bind (xE (s:={ s with heap:=s.heap.push { cls:=.type "dict",data:=.dict #[] } }) hol1 hcl hdl (hdn ol hol) hh λ h1 tk1 e1 x1=>?_)
 rw [if_pos (show (none:Option Value).isNone=true from rfl)]
 have kp1:∀ b o,s.heap.get? b=some o->h1.get? b=some o:=λ b o e=>x1.keeps b o (Ec _ e)
 have hl1:h1.IsList l its.toArray:=⟨ol,kp1 _ _ hol,hcl,nl,hdl⟩
 have hS1:h1.DictOf (aJ prog w) s.heap.objs.size []:=let ⟨o,es,ep,ho,r⟩:=hnew; ⟨o,es,ep,x1.keeps _ _ ho,r⟩
 have hSl:s.heap.objs.size<h1.objs.size:=let ⟨o,_,_,ho,_⟩:=hS1; Ei ho
 have hll:l<h1.objs.size:=Ei (kp1 _ _ hol)
 refine wpAny_bind (wpAny_rule ?_)
 refine wpAny_bind (wpAny_pyIter_list (s:={ s with heap:=h1,toks:=tk1 }) hl1 (wpAny_pure ⟨plainId_quiet gs _,?_⟩))
 have hh3:A.in1.in1.handled=none:=by simp [hh]
 have ez:its.toArray.size=its.length:=Ew ..
 have hSf:s.heap.objs.size∉[h1.objs.size,l]:=by
  intro z
  simp only [Er,ER,or_false] at z
  rcases z with z | z
  ·exact absurd z (Eo hSl)
  ·exact absurd z (ES hlS)
 refine uG (pa:=pa) (rs:=rs) (KI hh3 _ l (Eo hll) its.toArray) hSf (by rw [hn,ez]) (by rw [ez]; exact hb) (λ i v e=>hv i v (by simpa using e)) (its.toArray.size - 0) 0 _ (by lia) (EI _) ⟨⟨_,Ek _ rfl,rfl,rfl⟩,hl1.push _⟩ (λ j hj=>?_) ?_ λ g tk kp hG=>⟨rfl,h g tk hG λ b o e=>?_⟩
 ·rw [ez] at hj
  obtain ⟨ku,k1,o,ho,k2⟩:=hT j hj
  have hlt:=Ei ho
  refine ⟨Eo hlt,λ z=>?_,ku,k1,o,Ec _ (kp1 _ _ ho),k2⟩
  have e0:pa j=h1.objs.size:=by simpa using z
  rw [e0] at hlt
  exact absurd hlt (Mi.mpr (E5 hSl))
 ·obtain ⟨o,es,ep,ho,r⟩:=hS1
  exact ⟨o,es,ep,Ec _ ho,r⟩
 ·have hlt:=Ei e
  exact kp b o (Eo hlt) (λ z=>absurd ((by simpa using z:b=h1.objs.size)▸hlt) (Mi.mpr (E5 hSl))) (Ec _ (kp1 _ _ e))
end
end HT
namespace L2
open PySem PySem.Spec PyProof.Rows
section
variable {X:Cx}
noncomputable def z8 (K:Ee):List V->Hp->VK->Prop:=λ xs H Q=>∃ (l:Addr) (ps:List Addr) (kvs:List (Key×V)),xs=[.ref l]/\H l=some (.lst (ps.map MP))/\ps.length=kvs.length/\(∀ (i:Nat) p kv,ps[i]? = some p->kvs[i]? = some kv->H p=some (.tup [kV kv.1,kv.2]))/\∀ d,H d=none->Q (.ref d) (upd H d (.dK (cD [] kvs)))
theorem uH {K:Ee} (hc:X.calm=true) (hK:X.K=K:=by rfl):QC X (.type "dict") (z8 K):=by
 refine ⟨λ pins s σ H xs us Q I r h=>?_⟩
 obtain ⟨l,ps,kvs,rfl,hl,hlen,hp,q⟩:=h
 obtain ⟨u,rfl,ru⟩:=ft r
 cases ru
 obtain ⟨hz,its,n,rv,e1⟩:=(show ObjOk X.prog X.w H s.heap l (.lst (ps.map MP)) from I.hok l _ hl)
 have hil:its.length=kvs.length:=by have:=rv.length; rw [Ed] at this; lia
 have hit:∀ (i:Nat) v,its[i]? = some v->v=.ref (ps.getD i 0):=λ i v e=>by
  have hi:=(EE.mp e).1
  have hip:i<ps.length:=by lia
  have e2:(ps.map MP)[i]? = some (MP ps[i]):=by rw [El,Ef hip]; rfl
  obtain ⟨u,hu,ru⟩:=rv.get e2
  rw [e] at hu
  cases hu
  rw [Ej,Ef hip]
  exact ru
 have sS:∀ i:Nat,∃ z:Key×Value,i<kvs.length->(∃ ku,(aJ X.prog X.w).is z.1 ku=true/\s.heap.IsTuple (ps.getD i 0) #[ku,z.2])/\∀ kv,kvs[i]? = some kv->kv.1=z.1/\RelV kv.2 z.2:=λ i=>by
  by_cases hi:i<kvs.length
  ·have hip:i<ps.length:=by lia
   obtain ⟨_,its2,rv2,pt⟩:=(show ObjOk X.prog X.w H s.heap ps[i] (.tup [kV kvs[i].1,kvs[i].2]) from I.hok _ _ (hp i _ _ (Ef hip) (Ef hi)))
   cases rv2 with
   | cons r1 rr=>
    cases rr with
    | cons r2 rr=>
     cases rr
     rename_i ku vu
     refine ⟨(kvs[i].1,vu),λ _=>⟨⟨ku,qP r1,?_⟩,λ kv e=>?_⟩⟩
     ·rw [Ej,Ef hip]
      exact pt
     ·rw [Ef hi] at e
      cases e
      exact ⟨rfl,r2⟩
  ·exact ⟨(.inl 0,.none),λ z=>absurd z hi⟩
 obtain ⟨rs,hrl,hrs⟩:∃ rs:List (Key×Value),rs.length=kvs.length/\∀ i,i<kvs.length->(∃ ku,(aJ X.prog X.w).is (rs.getD i (.inl 0,.none)).1 ku=true/\s.heap.IsTuple (ps.getD i 0) #[ku,(rs.getD i (.inl 0,.none)).2])/\∀ kv,kvs[i]? = some kv->kv.1=(rs.getD i (.inl 0,.none)).1/\RelV kv.2 (rs.getD i (.inl 0,.none)).2:=by
  refine ⟨(Eu kvs.length).map λ i=>(sS i).choose,by rw [Ed,FC],λ i hi=>?_⟩
  have e:((Eu kvs.length).map λ i=>(sS i).choose).getD i (.inl 0,.none)=(sS i).choose:=by
   rw [Ej,El,FE hi]; rfl
  rw [e]
  exact (sS i).choose_spec hi
 have rel:KV kvs rs:=by
  have go:∀ (as:List (Key×V)) (bs:List (Key×Value)),as.length=bs.length->(∀ (i:Nat) a b,as[i]? = some a->bs[i]? = some b->a.1=b.1/\RelV a.2 b.2)->KV as bs:=by
   intro as
   induction as with
   | nil=>intro bs h _; cases bs with
    | nil=>exact .nil
    | cons b bs=>cases h
   | cons a as ih=>
    intro bs h g
    cases bs with
    | nil=>cases h
    | cons b bs=>exact .cons (g 0 a b rfl rfl) (ih bs (by simpa using h) λ i x y e1 e2=>g (i+1) x y e1 e2)
  refine go kvs rs hrl.symm λ i a b e1 e2=>?_
  have hi:=(EE.mp e1).1
  have:=(hrs i hi).2 a e1
  rw [Ej,e2] at this
  exact this
 refine HT.pi (pa:=λ i=>ps.getD i 0) (rs:=rs) (I.ok.hd hc) ⟨_,e1,rfl,n,rfl⟩ (λ o e=>by rw [e1] at e; cases e; rfl) hit (by lia) (by have:=rv.length; lia) (λ j hj=>(hrs j (by lia)).1) λ g tk hG kp=>?_
 have hm:=KV.merge rel (Paired.nil:KV [] [])
 refine ⟨.ref s.heap.objs.size,_,I.laid (t':=tk) (o:=.dK (cD [] kvs)) kp (Eh _) (qR ?_ ?_ hm hG),rfl,q _ (I.hok.fresh (Eh _))⟩
 ·have:=gp kvs []
  have:=rv.length
  rw [Ed] at this
  simp only [E4] at *
  rw [Ed] at hz
  lia
 ·have:=I.big
  exact beq_eq_false_iff_ne.mpr (ES this)
end
section
variable {X:Cx} {N tgs frs:List Str} {ix:List Nat} {scope:Scope} {cl:List (Str×Addr)} {xc:Str}
theorem uI {iy:Nat} {te:TE} (hN:X.N.Nodup) (hy:X.N[iy]? = some y) (hx:Loc X.env.scope y) (c:CompOkC X N tgs frs ix scope cl xc) (hc:X.calm=true) (hi:PI X tg iter wi)
  (hg:∀ fp C s H,PG (aG X N scope cl xc fp C s H) tg g) (he:∀ fp C s H,PE (aG X N scope cl xc fp C s H) elt te) (hcd:∀ fp C s H,PT (aG X N scope cl xc fp C s H) cnd tc)
  (hs:∀ x,foldedSetIterable iter X.env x=pure x:=by intro _; rfl)
  (hsw:swapsWith (.ListComp elt [⟨tg,iter,[cnd],0⟩] scope pos) (some (.Name y py)) spos.line X.env=pure true:=by rfl)
  (hf:X.fn y=true\/X.env.scope.names.lookup y=some .local:=by first | exact .inl rfl | exact .inr rfl | assumption) :
  PS X (.Assign [.Name y py] (.ListComp elt [⟨tg,iter,[cnd],0⟩] scope pos) spos) (pD (iM wi g tc te tgs ix) (fq iy)):=by
 intro pins s σ H Dn I h
 rw [exec_Assign_Name_used _ _ _ _ hsw]
 refine wpAny_bind (wpAny_standAt (wpAny_bind ?_))
 show wpAny _ X.A (do let _ <-comprehension (.ListComp elt [⟨tg,iter,[cnd],0⟩] scope pos) scope X.env _ (newList []) false (eval iter X.env) (some (assign (.Name y py) X.env))) _ _ s
 refine wpAny_bind (wpAny_mono (wpAny_comprehension_free (use:=some (assign (.Name y py) X.env)) (Q:=λ _ s'=>SP X pins Dn .next s') rfl hs c.clos c.kind c.names (thn (hi pins s σ H _ I h) λ xv s1 h1=>thn h1 λ itv s2 h2=>?_)) (λ _ s' hq=>wpAny_pure (wpAny_pure hq)) λ _ _ e=>e)
 obtain ⟨it,fp,tn,J,H2,rfl,I2,T,st2,f2,W,⟨m0,w0⟩,turn⟩:=h2
 have hfl:∀ b∈fp,b<s2.heap.objs.size:=λ b hb=>by
  obtain ⟨o,e,_⟩:=T.obj _ _ st2 b hb
  exact Ei e
 have hcn:∀ x a,cl.lookup x=some a->X.env.cells.lookup x=some a:=c.cls.get
 refine wpAny_newObj_type (jH c.cells c.push ?_)
 dsimp only
 generalize hH2:s2.heap.push { cls:=.type "list",dict:=none,data:=.seq ([]:List Value).toArray }=G2
 have hC:G2.objs.size=s2.heap.objs.size+1:=by rw [<-hH2,Fg]
 have hns0:((G2.push { cls:=.type "dict",data:=.dict #[] }).push { cls:=.type "cell",data:=.cell none }).Ns G2.objs.size (λ _=>none):=(L8 G2 (.type "dict")).keeps λ b o e=>Ec _ e
 have hcel0:((G2.push { cls:=.type "dict",data:=.dict #[] }).push { cls:=.type "cell",data:=.cell none }).IsCell (G2.objs.size+1) none:=by
  have:=Ek (G2.push { cls:=.type "dict",data:=.dict #[] }) (o:={ cls:=.type "cell",data:=.cell none }) rfl
  rw [Fg] at this
  exact ⟨_,this,rfl⟩
 have old:∀ b o,s2.heap.get? b=some o->((G2.push { cls:=.type "dict",data:=.dict #[] }).push { cls:=.type "cell",data:=.cell none }).get? b=some o:=λ b o e=>Ec _ (Ec _ (hH2▸Ec _ e))
 have hacc0:((G2.push { cls:=.type "dict",data:=.dict #[] }).push { cls:=.type "cell",data:=.cell none }).get? s2.heap.objs.size=some (ax [] 0):=Ec _ (Ec _ (hH2▸Ek _ rfl))
 show codeAny (model X.prog X.w) X.A (.compStart (.ListComp elt [⟨tg,iter,[cnd],0⟩] scope pos) 0 (.ref it) (.ref s2.heap.objs.size) (compEnvC scope ((xc,G2.objs.size+1)::cl) G2.objs.size X.env)) (compPost (model X.prog X.w) X.A X.xe (some (assign (.Name y py) X.env)) (λ _ s'=>SP X pins Dn .next s') (.ref s2.heap.objs.size) G2.objs.size) { s2 with heap:=(G2.push { cls:=.type "dict",data:=.dict #[] }).push { cls:=.type "cell",data:=.cell none } }
 generalize (G2.push { cls:=.type "dict",data:=.dict #[] }).push { cls:=.type "cell",data:=.cell none }=h1 at hns0 hcel0 old hacc0 ⊢
 generalize hCC:G2.objs.size=C at *
 generalize hDD:s2.heap.objs.size=D at *
 have hDC:D≠C:=by lia
 have hCle:D<=C:=by lia
 have hns1:=hns0
 have hacc:=hacc0
 have cellD:∀ x a,X.env.cells.lookup x=some a->a<D:=λ x a e=>by
  obtain ⟨v,q⟩:=I2.cell x a e
  exact hDD▸q.lt
 have fpc:∀ {H':Hp} {us:List Value} {k:Nat},(∀ b∈fp,H' b=none)->∀ b∈fp,mt (aG X N scope cl xc fp C s2 H2) [(D,ax us k)] H' b:=λ {H' us k} hn b hb=>by
  have lb:=hfl b hb
  refine ⟨hn b hb,?_,λ z=>?_,.inl hb,λ x a e z=>?_,λ p hp=>?_⟩
  ·exact Eo (Ez lb hCle)
  ·rcases Er.mp (I2.stkSub b z) with e | e
   ·exact (f2 b hb).2.1 e
   ·exact (f2 b hb).2.2.1 e
  ·rcases eL e with ⟨_,e2⟩ | ⟨_,e1⟩
   ·exact absurd z (by rw [e2]; exact ES (Ez lb (Io hCle)))
   ·exact (f2 b hb).2.2.2.2.1 x a (hcn x a e1) z
  ·have:p=(D,ax us k):=by simpa [aG] using hp
   rw [this]; exact ES lb
 have D_fs:D∉(aG X N scope cl xc fp C s2 H2).fs:=λ z=>by
  rcases Er.mp (I2.stkSub D z) with e | e
  ·exact absurd I2.lt (by rw [<-e,hDD]; exact E7 _)
  ·exact I2.nofs (Fc hDD) e
 have I3:=lv (tk:=s2.toks) (pins':=[(D,ax [] 0)]) c I2 f2 (λ b hb=>hDD▸hfl b hb) (hDD▸hCle:s2.heap.objs.size<=C) hns1 old hcel0 (λ p hp=>by
  have e:p=(D,ax [] 0):=by simpa using hp
  subst e
  exact ⟨hacc,Fc hDD,hDC,λ v z=>by cases z⟩)
 have tn3:tn 0 h1:=T.keep _ _ _ st2 λ b _ o e=>old b o e
 have loop:codeAny (model X.prog X.w) X.A (.compLoop (.ListComp elt [⟨tg,iter,[cnd],0⟩] scope pos) 0 (.ref it) (.ref D) (compEnvC scope ((xc,C+1)::cl) C X.env))
   (compPost (model X.prog X.w) X.A X.xe (some (assign (.Name y py) X.env)) (λ _ s'=>SP X pins Dn .next s') (.ref D) C) { s2 with heap:=h1,toks:=s2.toks }:=by
  refine dA (λ n s'=>∃ i xs us k σc H',Inv (aG X N scope cl xc fp C s2 H2) [(D,ax us k)] σc H' s'/\tn i s'.heap/\(∀ b∈fp,H' b=none)/\Vals xs us/\W i n xs σc H') ?_ m0
   ⟨0,[],[],0,_,H2,I3,tn3,λ b hb=>(f2 b hb).1,.nil,w0⟩
  rintro n s4 ⟨i,xs,us,k,σ4,H4,I4,tn4,fr4,rv,w4⟩
  obtain ⟨hsz,tt⟩:=turn i n xs σ4 H4 w4
  rcases tt with ⟨stop,fin⟩ | ⟨go,step⟩
  ·refine thn (T.done (aG X N scope cl xc fp C s2 H2) rfl rfl rfl hc i _ s4 σ4 H4 _ I4 (fpc fr4) tn4 stop) λ r s5 ⟨hr,I5⟩=>?_
   subst hr
   obtain ⟨m,ns,_⟩:=I5.loc
   have J1:Inv X pins σ H4 s5:=I2.call' I5.os I5.base I5.hok I5.bare λ b hb=>⟨(f2 b hb).2.2.2.1,(f2 b hb).2.1,(f2 b hb).2.2.2.2.1,(f2 b hb).2.2.2.2.2⟩
   have big:∀ a,D<=a->a≠X.env.locals/\(a∈X.ex\/X.s₀.heap.objs.size<=a)/\(∀ x y,X.env.cells.lookup x=some y->y≠a)/\∀ p∈X.pn++pins,p.1≠a:=λ a ha=>by
    obtain ⟨q0,q1,q2,q3,q4,q5⟩:=I2.fpOk (b:=a) (H':=λ _=>none) (hDD▸ha) rfl
    exact ⟨q1,q3,q4,q5⟩
   have nfs:∀ a,D<=a->a∉X.fs:=λ a ha=>I2.nofs (hDD▸ha)
   obtain ⟨b1,b2,b3,b4⟩:=big C hCle
   obtain ⟨p1,p2,p3,p4,p5⟩:=I5.pin (D,ax us k) (by simp)
   obtain ⟨d1,d2,d3,d4⟩:=big D (Eh _)
   have J3:Inv X pins σ (upd H4 D (.lst xs)) s5:=J1.adopt p2 d1 d2 d3 d4 ⟨E5 hsz,us,k,rv,p1⟩
   obtain ⟨oC,esC,epC,hoC,hdC,rC⟩:=id ns
   have hHC:(upd H4 D (.lst xs)) C=none:=by rw [aq (Ff hDC)]; exact I5.free
   have J4:Inv X (pins++[(C,oC)]) σ (upd H4 D (.lst xs)) s5:=J3.pins_of λ p hp=>by
    rcases EX.mp hp with z | z
    ·exact J3.pin p (Eg _ z)
    ·have e:p=(C,oC):=by simpa using z
     subst e
     exact ⟨hoC,hHC,b1,nfs C hCle,λ v z=>by rw [hdC] at z; cases z⟩
   show wpAny _ X.A (assign (.Name y py) X.env (.ref D)) _ _ s5
   refine wpAny_assign_Name (cT J4 hN hy hx (v:=.ref D) rfl (λ s6 J5=>?_) hf)
   have hC6:=(J5.pin (C,oC) (Eg _ (Eg _ (by simp)))).1
   refine ⟨m,⟨oC,esC,epC,hC6,hdC,rC⟩,λ h' sb=>?_⟩
   have J6:Inv X pins (σ.set iy (some (.ref D))) (upd H4 D (.lst xs)) s6:=J5.unpinned
   have J7:Inv X pins (σ.set iy (some (.ref D))) (upd H4 D (.lst xs)) { s6 with heap:=h' }:=J6.turned (t':=s6.toks) (λ b o hb e=>sb.extBut b o hb e) hHC b1 b2 b3 b4
   exact ⟨_,_,J7,fin D p2⟩
  ·refine thn (T.item (aG X N scope cl xc fp C s2 H2) rfl rfl rfl hc i _ s4 σ4 H4 _ I4 (fpc fr4) tn4 go) λ r s5 ⟨u,hr,h5⟩=>?_
   subst hr
   refine thn h5 λ _ s6 ⟨x,H6,I6,r6,y6,tn6,fr6⟩=>?_
   have I6':=I6.pinned (fpc fr6) (T.obj _ _ tn6)
   refine thn (hg fp C s2 H2 _ s6 σ4 H6 x u _ I6' r6 (step x H6 y6)) λ _ s7 ⟨σ7,H7,I7,q7⟩=>?_
   refine thn (hcd fp C s2 H2 _ s7 σ7 H7 _ I7 q7) λ b s7' ⟨H7',I7',q7'⟩=>?_
   cases b with
   | false=>
    rw [if_neg (by decide)] at q7' ⊢
    obtain ⟨m',hm,w8⟩:=q7'
    have tn8:tn (i+1) s7'.heap:=T.keep _ _ _ tn6 λ b hb o e=>(I7'.pin (b,o) (Eg _ (Eg _ (aD hb e)))).1
    have fr8:∀ b∈fp,H7' b=none:=λ b hb=>by
     obtain ⟨o,e,d⟩:=T.obj _ _ tn6 b hb
     exact (I7'.pin (b,o) (Eg _ (Eg _ (aD hb e)))).2.1
    exact ⟨m',hm,i+1,xs,us,k,σ7,H7',I7'.unpinned,tn8,fr8,rv,w8⟩
   | true=>
    rw [if_pos rfl] at q7' ⊢
    refine thn (he fp C s2 H2 _ s7' σ7 H7' _ I7' q7') λ yv s8 ⟨y,H8,I8,r8,m',hm,w8⟩=>?_
    obtain ⟨p1,p2,p3,p4,p5⟩:=I8.pin (D,ax us k) (by simp [aG])
    have hsz':us.toArray.size<=sizeLine:=by simp; rw [<-rv.length]; exact E5 hsz
    refine wpAny_list_append_plain (hsz:=hsz') ⟨k,p1⟩ λ h' pl sb=>?_
    have tn8:tn (i+1) s8.heap:=T.keep _ _ _ tn6 λ b hb o e=>(I8.pin (b,o) (Eg _ (Eg _ (aD hb e)))).1
    have fr8:∀ b∈fp,H8 b=none:=λ b hb=>by
     obtain ⟨o,e,d⟩:=T.obj _ _ tn6 b hb
     exact (I8.pin (b,o) (Eg _ (Eg _ (aD hb e)))).2.1
    have I9:Inv (aG X N scope cl xc fp C s2 H2) [] σ7 H8 s8:=I8.pins_of λ p hp=>nomatch hp
    have I10:Inv (aG X N scope cl xc fp C s2 H2) [] σ7 H8 { s8 with heap:=h' }:=I9.turned (t':=s8.toks) (it:=D) (λ b o hb e=>sb.extBut b o hb e) p2 p3 (.inr (Fc hDD))
     (λ x a e=>by
      rcases eL e with ⟨_,e2⟩ | ⟨_,e1⟩
      ·rw [e2]; exact ES (J9 hCle)
      ·exact Eo (cellD x a (hcn x a e1))) (λ p hp=>by simp [aG] at hp)
    obtain ⟨k',pl⟩:=pl
    have eu:us.toArray.push yv=(us++[yv]).toArray:=by simp
    rw [eu] at pl
    have I11:Inv (aG X N scope cl xc fp C s2 H2) [(D,ax (us++[yv]) k')] σ7 H8 { s8 with heap:=h' }:=I10.pins_of λ p hp=>by
     have e:p=(D,ax (us++[yv]) k'):=by simpa using hp
     subst e
     exact ⟨pl,p2,p3,p4,λ v z=>by cases z⟩
    exact ⟨m',hm,i+1,xs++[y],us++[yv],k',σ7,H8,I11,T.keep _ _ _ tn8 λ b hb o e=>sb.extBut b o (Eo (hfl b hb)) e,fr8,rv.append (.cons r8 .nil),w8⟩
 exact codeAny_compStart_list loop (T.self _ 0 _ _ _ tn3 loop)
theorem uJ {te:TE} (hN:X.N.Nodup) (hy:X.N[i]? = some y) (hx:Loc X.env.scope y) (c:CompOkC X N tgs frs ix scope cl xc) (hc:X.calm=true) (hi:QI X tg iter wi)
  (hg:∀ fp C s H,QG (aG X N scope cl xc fp C s H) tg g) (he:∀ fp C s H,QE (aG X N scope cl xc fp C s H) elt te) (hcd:∀ fp C s H,QT (aG X N scope cl xc fp C s H) cnd tc)
  (hs:∀ x,foldedSetIterable iter X.env x=pure x:=by intro _; rfl)
  (hsw:swapsWith (.ListComp elt [⟨tg,iter,[cnd],0⟩] scope pos) (some (.Name y py)) spos.line X.env=pure true:=by rfl)
  (hf:X.fn y=true\/X.env.scope.names.lookup y=some .local:=by first | exact .inl rfl | exact .inr rfl | assumption) :
  QS X (.Assign [.Name y py] (.ListComp elt [⟨tg,iter,[cnd],0⟩] scope pos) spos) (pD (iM wi g tc te tgs ix) (fq i)):=
 ⟨uI hN hy hx c hc hi.out (λ fp C s H=>(hg fp C s H).out) (λ fp C s H=>(he fp C s H).out) (λ fp C s H=>(hcd fp C s H).out) hs hsw hf⟩
end
noncomputable def Par {α:Type} (os:List α):Prop:=∃ x∈os,∃ y∈os,x≠y
theorem gu {α:Type} {ks os:List α} (hn:ks.Nodup) (hm:∀ k,k∈ks↔k∈os):1<ks.length↔Par os:=by
 constructor
 ·intro h
  match ks,hn,hm,h with
  | a::b::r,hn,hm,_=>exact ⟨a,(hm a).mp (by simp),b,(hm b).mp (by simp),λ e=>by rw [Fn] at hn; exact hn.1 (by simp [e])⟩
 ·rintro ⟨x,hx,y,hy,hne⟩
  match ks,hm with
  | [],hm=>exact absurd ((hm x).mpr hx) (by simp)
  | [a],hm=>exact absurd ((EL.mp ((hm x).mpr hx)).trans (EL.mp ((hm y).mpr hy)).symm) hne
  | a::b::r,_=>simp
theorem rg {α β:Type} {f:α->β} {os:List α} (hf:∀ a b,f a=f b->a=b):Par (os.map f)↔Par os:=by
 constructor
 ·rintro ⟨x,hx,y,hy,h⟩
  obtain ⟨a,ha,rfl⟩:=Es.mp hx
  obtain ⟨b,hb,rfl⟩:=Es.mp hy
  exact ⟨a,ha,b,hb,λ e=>h (by rw [e])⟩
 ·rintro ⟨x,hx,y,hy,h⟩
  exact ⟨f x,Es.mpr ⟨x,hx,rfl⟩,f y,Es.mpr ⟨y,hy,rfl⟩,λ e=>h (hf _ _ e)⟩
theorem xF {os:List Nat} (h:∀ o∈os,o<b):gi (cnt os b)=true↔Par os:=by
 have e:(ug (cnt os b)).length=((Eu b).filter λ f=>decide (0<os.count f)).length:=by
  unfold ug cnt; rw [GS,Ed]; rfl
 unfold gi
 rw [decide_eq_true_iff,e]
 refine gu (Kv.filter _) λ k=>?_
 rw [Fa,FI,decide_eq_true_iff,List.count_pos_iff]
 exact ⟨λ h=>h.2,λ hk=>⟨h k hk,hk⟩⟩
open Classical in
theorem uK (kvs:List (Key×V)) (k:Key) (v:V):(iz kvs k v).map (·.1)=if k∈kvs.map (·.1) then kvs.map (·.1) else kvs.map (·.1)++[k]:=by
 unfold iz
 have e:(kvs.any λ kv=>decide (kv.1=k))=true↔k∈kvs.map (·.1):=by
  rw [List.any_eq_true,Es]
  exact ⟨λ⟨x,hx,h⟩=>⟨x,hx,of_decide_eq_true h⟩,λ⟨x,hx,h⟩=>⟨x,hx,decide_eq_true h⟩⟩
 by_cases h:k∈kvs.map (·.1)
 ·rw [if_pos h,if_pos (e.mpr h),E6]
  refine Fj λ x _=>?_
  show (if x.1=k then (x.1,v) else x).1=x.1
  split<;>rfl
 ·rw [if_neg h,if_neg (λ z=>h (e.mp z)),EA]; rfl
theorem jK:∀ (more kvs:List (Key×V)),(kvs.map (·.1)).Nodup->((cD kvs more).map (·.1)).Nodup/\∀ k,k∈(cD kvs more).map (·.1)↔k∈kvs.map (·.1)\/k∈more.map (·.1)
 | [],kvs,h=>⟨h,λ k=>by simp [cD]⟩
 | x::more,kvs,h=>by
  have e:=uK kvs x.1 x.2
  have h1:((iz kvs x.1 x.2).map (·.1)).Nodup:=by
   rw [e]
   split
   ·exact h
   ·rename_i hn
    exact GD.mpr ⟨h,by simp,λ a ha b hb=>λ z=>hn (by rw [<-EL.mp hb,<-z]; exact ha)⟩
  obtain ⟨a,b⟩:=jK more (iz kvs x.1 x.2) h1
  refine ⟨a,λ k=>?_⟩
  have b':=b k
  rw [e] at b'
  show k∈(cD (iz kvs x.1 x.2) more).map (·.1)↔_
  rw [b',EU,Er]
  split
  ·rename_i hx
   constructor
   ·rintro (h | h)
    ·exact .inl h
    ·exact .inr (.inr h)
   ·rintro (h | rfl | h)
    ·exact .inl h
    ·exact .inl hx
    ·exact .inr h
  ·rw [EX,EL]
   constructor
   ·rintro ((h | h) | h)
    ·exact .inl h
    ·exact .inr (.inl h)
    ·exact .inr (.inr h)
   ·rintro (h | h | h)
    ·exact .inl (.inl h)
    ·exact .inl (.inr h)
    ·exact .inr h
theorem merge_par {os:List Nat} {v:Nat->V}:1<(cD [] (os.map λ (o:Nat)=>((Fo (o:Int):Key),v o))).length↔Par os:=by
 obtain ⟨a,b⟩:=jK (os.map λ (o:Nat)=>((Fo (o:Int):Key),v o)) [] GG
 have:=gu (os:=os.map λ (o:Nat)=>(Fo (o:Int):Key)) a λ k=>by
  rw [b k,E6]
  simp
 rw [Ed] at this
 rw [this]
 exact rg λ x y e=>by have:=Jb e; lia
noncomputable def kys:List Nat->List Nat:=λ os=>os.foldl (λ acc x=>if x∈acc then acc else acc++[x]) []
theorem ko (os:List Nat) (x:Nat):kys (os++[x])=if x∈kys os then kys os else kys os++[x]:=by unfold kys; rw [J8]; rfl
theorem m5:∀ os:List Nat,(kys os.reverse).Nodup/\∀ k,k∈kys os.reverse↔k∈os
 | []=>⟨GG,λ k=>MH⟩
 | x::os=>by
  obtain ⟨a,b⟩:=m5 os
  rw [Im,ko]
  split
  ·rename_i h
   exact ⟨a,λ k=>by rw [b k,Er]; exact ⟨.inr,λ z=>z.elim (λ e=>e▸(b x).mp h) id⟩⟩
  ·rename_i h
   refine ⟨GD.mpr ⟨a,by simp,λ y hy z hz e=>h (by rw [<-EL.mp hz,<-e]; exact hy)⟩,λ k=>?_⟩
   rw [EX,EL,Er,b k]
   exact ⟨λ z=>z.elim .inr .inl,λ z=>z.elim .inr .inl⟩
theorem gv (os:List Nat):(kys os).Nodup:=by have:=(m5 os.reverse).1; rwa [Jt] at this
theorem kys_mem {os:List Nat} :k∈kys os↔k∈os:=by have:=(m5 os.reverse).2 k; rw [Jt] at this; rw [this,Hs]
theorem kys_par {os:List Nat}:1<(kys os).length↔Par os:=gu (gv os) λ _=>kys_mem
noncomputable def mw (k f:Nat) (g:List (List Nat)):List (List Nat):=g.filter λ r=>decide (r.getD k 0=f)
noncomputable def bW (k:Nat) (g:List (List Nat)):List (List (List Nat)):=(kys (bw g k)).map λ f=>mw k f g
noncomputable def m6 (k:Nat) (G:List (List (List Nat))):List (List (List Nat)):=G.flatMap λ g=>(bW k g).filter λ s=>decide (1<s.length)
noncomputable def mvG (k:Nat) (g:List (List Nat)):Int:=if 1<(kys (bw g k)).length then (g.length:Int) else 0
noncomputable def sU (rss:List (List Nat)):Nat->List (List (List Nat))
 | 0=>[rss]
 | k+1=>m6 k (sU rss k)
noncomputable def mvL (rss:List (List Nat)) (k:Nat):Int:=((sU rss k).map (mvG k)).sum
noncomputable def mx (rss:List (List Nat)) (n:Nat):Int:=((Eu n).map (mvL rss)).sum
noncomputable def eF (rss:List (List Nat)) (k:Nat) (p:List Nat):List (List Nat):=rss.filter λ r=>decide (r.take k=p)
noncomputable def pfx (rss:List (List Nat)):Nat->List (List Nat)
 | 0=>[[]]
 | k+1=>(pfx rss k).flatMap λ p=>((kys (bw (eF rss k p) k)).filter λ f=>decide (1<(eF rss (k+1) (p++[f])).length)).map λ f=>p++[f]
theorem kq (rss:List (List Nat)):∀ k,∀ p∈pfx rss k,p.length=k
 | 0,p,h=>by rw [EL.mp h]; rfl
 | k+1,p,h=>by
  obtain ⟨q,hq,hp⟩:=IH.mp h
  obtain ⟨f,_,rfl⟩:=Es.mp hp
  rw [ED,kq rss k q hq]; rfl
theorem lO {p:List Nat} {f w:Nat} (hr:r.length=w) (hk:k<w) (hp:p.length=k):r.take (k+1)=p++[f]↔r.take k=p/\r.getD k 0=f:=by
 have e:r.take (k+1)=r.take k++[r.getD k 0]:=by
  rw [EC,Ef (by lia),Ej,Ef (by lia)]; rfl
 rw [e]
 constructor
 ·intro h
  obtain ⟨h1,h2⟩:=KU h (by rw [EV,hp]; lia)
  exact ⟨h1,(Jy h2).1⟩
 ·rintro ⟨h1,h2⟩; rw [h1,h2]
theorem lP {w f:Nat} {p:List Nat} (hw:∀ r∈rss,r.length=w) (hk:k<w) (hp:p.length=k):eF rss (k+1) (p++[f])=mw k f (eF rss k p):=by
 unfold eF mw
 rw [List.filter_filter]
 refine Hj λ r hr=>?_
 rw [<-Bool.decide_and,decide_eq_decide,lO (hw r hr) hk hp]
 exact ⟨λ h=>⟨h.2,h.1⟩,λ h=>⟨h.2,h.1⟩⟩
theorem kr {rss:List (List Nat)} {w:Nat} (hw:∀ r∈rss,r.length=w):∀ k,k<=w->sU rss k=(pfx rss k).map (eF rss k)
 | 0,_=>by
  show [rss]=[eF rss 0 []]
  unfold eF
  rw [List.filter_eq_self.mpr λ r _=>by simp]
 | k+1,hk=>by
  show m6 k (sU rss k)=_
  rw [kr hw k (by lia),pfx,List.map_flatMap]
  unfold m6
  rw [List.flatMap_map]
  have go:∀ (l:List (List Nat)),(∀ p∈l,p.length=k)->(l.flatMap λ p=>(bW k (eF rss k p)).filter λ s=>decide (1<s.length))=l.flatMap λ p=>LX (eF rss (k+1)) (((kys (bw (eF rss k p) k)).filter λ f=>decide (1<(eF rss (k+1) (p++[f])).length)).map λ f=>p++[f]):=λ l=>by
   induction l with
   | nil=>intro _; rfl
   | cons p l ih=>
    intro hl
    rw [Ip,Ip,ih λ q hq=>hl q (EH _ hq)]
    congr 1
    have hp:=hl p (EJ ..)
    unfold bW
    rw [GS,E6]
    have e1:∀ f,eF rss (k+1) (p++[f])=mw k f (eF rss k p):=λ f=>lP hw (by lia) hp
    have e2:(Mc ((λ s=>decide (1<s.length))∘λ f=>mw k f (eF rss k p)) (kys (bw (eF rss k p) k)))=Mc (λ f=>decide (1<(eF rss (k+1) (p++[f])).length)) (kys (bw (eF rss k p) k)):=Hj λ f _=>by rw [e1 f]; rfl
    rw [e2]
    exact Fj λ f _=>(e1 f).symm
  exact go _ (kq rss k)
theorem iT {rss:List (List Nat)}:∀ k,(pfx rss k).Nodup
 | 0=>by simp [pfx]
 | k+1=>by
  rw [pfx]
  refine List.pairwise_flatMap.mpr ⟨λ p hp=>?_,(iT k).imp_of_mem λ {p q} hp hq hne x hx y hy e=>?_⟩
  ·exact Hi.mpr (((gv _).filter _).imp λ {a b} h e=>h (by have:=IQ e; exact (Jy this).1))
  ·obtain ⟨f,_,rfl⟩:=Es.mp hx
   obtain ⟨g,_,rfl⟩:=Es.mp hy
   exact hne (KU e (by rw [kq rss k p hp,kq rss k q hq])).1
theorem rh {rss:List (List Nat)} {w:Nat} (hw:∀ r∈rss,r.length=w):∀ k,k<=w->∀ p:List Nat,p.length=k->1<(eF rss k p).length->p∈pfx rss k
 | 0,_,p,hp,_=>by rw [FK.mp hp]; exact EL.mpr rfl
 | k+1,hk,p,hp,h=>by
  obtain ⟨q,f,rfl⟩:∃ q f,p=q++[f]:=⟨p.dropLast,p.getLast (λ z=>by rw [z] at hp; cases hp),(List.dropLast_concat_getLast _).symm⟩
  have hq:q.length=k:=by rw [ED] at hp; simpa using hp
  have e:=lP (f:=f) hw (by lia) hq
  rw [e] at h
  have h1:(mw k f (eF rss k q)).length<=(eF rss k q).length:=Fv ..
  rw [pfx]
  refine IH.mpr ⟨q,rh hw k (by lia) q hq (by lia),Es.mpr ⟨f,Fa.mpr ⟨kys_mem.mpr ?_,by rw [e]; exact decide_eq_true h⟩,rfl⟩⟩
  obtain ⟨r,hr⟩:=HD (show 0<(mw k f (eF rss k q)).length by lia)
  obtain ⟨h2,h3⟩:=Fa.mp hr
  exact Es.mpr ⟨r,h2,of_decide_eq_true h3⟩
theorem oh:∀ {l:List Int},(∀ x∈l,x=0)->l.sum=0
 | [],_=>rfl
 | x::l,h=>by rw [FH,h x (EJ ..),oh λ y hy=>h y (EH _ hy)]; rfl
theorem rj {A B:List Int} (h:A.Perm B):A.sum=B.sum:=by
 induction h with
 | nil=>rfl
 | cons x _ ih=>rw [FH,FH,ih]
 | swap x y l=>simp only [FH]; lia
 | trans _ _ h1 h2=>exact h1.trans h2
theorem iU {α:Type} [BEq α] [LawfulBEq α] {f:α->Int}:∀ {A B:List α},A.Nodup->B.Nodup->(∀ p,f p≠0->(p∈A↔p∈B))->(A.map f).sum=(B.map f).sum
 | [],B,_,_,h=>by
  rw [oh (l:=B.map f) λ x hx=>?_]; rfl
  obtain ⟨p,hp,rfl⟩:=Es.mp hx
  exact GT λ z=>nomatch (h p z).mpr hp
 | a::A,B,hA,hB,h=>by
  rw [Fn] at hA
  by_cases hz:f a=0
  ·rw [EU,FH,hz,G1]
   refine iU hA.2 hB λ p hp=>?_
   rw [<-h p hp,Er]
   exact ⟨.inr,λ z=>z.elim (λ e=>absurd (e▸hz) hp) id⟩
  ·have ha:a∈B:=(h a hz).mp (EJ ..)
   have hp:=Jr ha
   have hB':=hp.nodup_iff.mp hB
   rw [Fn] at hB'
   have hs:(B.map f).sum=((a::B.erase a).map f).sum:=rj (hp.map f)
   rw [hs,EU,EU,FH,FH]
   congr 1
   refine iU hA.2 hB'.2 λ p hp'=>?_
   have hq:=h p hp'
   rw [hp.mem_iff,Er,Er] at hq
   constructor
   ·intro z
    exact (hq.mp (.inr z)).elim (λ e=>absurd (e▸z) hA.1) id
   ·intro z
    exact (hq.mpr (.inr z)).elim (λ e=>absurd (e▸z) hB'.1) id
end L2
set_option maxHeartbeats 0
namespace Fs
open PySem PySem.Spec PyProof.Rows L2
local macro_rules
 | `(tactic| walk_at "s")=>`(tactic| exact ⟨rfl,rfl,rfl,by decide +kernel,rfl,by decide +kernel,by decide +kernel⟩)
local macro_rules
 | `(tactic| nofun)=>do
  let q ←("C0 C1 BU C2 BV BW DD BX D9 C3 DF C4 BY BZ Ea DG DH DI A1 C9 Ca Da A2 A3 Eb C5 Db Cb A4 Cc DJ B1 C6 B2 C7 C8 DE jW DM DN Cd Cg Df A9 Dp Ck A7 Ba Bb Bc Dq Do Cj Di Dj DR Ci zB A6 Dh Co Cl Cq DP bK Cv Cw Bd Be Cy zY Bf Bg CA CB".splitOn " ").foldrM (fun n (a:Lean.TSyntax `tactic)=>`(tactic| first | (with_reducible refine $(Lean.mkIdent (Ms n)) ?_) | $a:tactic)) (←`(tactic| fail))
  `(tactic| (repeat (first | $q:tactic | (with_reducible refine xq ?_; dsimp only [Gs]) | (with_reducible refine tU ?_; dsimp only [Gs]) | ((with_reducible show Bm _ _ _ _); refine ⟨_,rfl,?_⟩) | (with_reducible refine B0 ?c ?_; (case c=>first | (show (0:Int)<_; omega) | exact B3 (by omega) (by omega) | exact DK (by omega) (by omega) | exact B4 (by omega) (by omega) (by omega) | exact B5 (by omega) (by omega) | exact B6 (by omega) (by omega) | exact DL (by decide) (by decide) (by decide))) | (with_reducible refine ze (by first | assumption | exact ab) ?_; refine ⟨_,rfl,?_⟩) | (with_reducible refine wM (by first | assumption | exact ab) ?_; refine ⟨_,rfl,?_⟩) | (with_reducible refine wN (by first | assumption | exact ab) ?_; refine ⟨_,rfl,?_⟩; dsimp only [Int.reduceToNat,Gs]) | (with_reducible refine wU ?_; dsimp only [Gs]) | ((with_reducible show By _ _ _ _ _ _); refine ⟨_,rfl,?_⟩))))
def top (i:Nat):Stmt:=EK.main.body.getD i (.Pass ⟨0,0,0,0⟩)
noncomputable abbrev kw:Stmt:=top 1
noncomputable abbrev cX:Stmt:=top 2
noncomputable abbrev m7:Stmt:=top 3
noncomputable abbrev eM:Stmt:=top 4
noncomputable abbrev fM:Stmt:=top 5
noncomputable abbrev ce:Stmt:=top 7
noncomputable abbrev cf:Stmt:=top 8
noncomputable abbrev cE:Stmt:=top 10
noncomputable abbrev rk:Stmt:=top 15
noncomputable abbrev cF:Stmt:=top 16
noncomputable abbrev cG:Stmt:=top 17
noncomputable abbrev cY:Stmt:=top 19
noncomputable abbrev iV:Stmt:=top 20
noncomputable abbrev cg:Stmt:=top 23
noncomputable abbrev cZ:Stmt:=top 24
noncomputable abbrev cH:Stmt:=top 25
noncomputable abbrev dD:Stmt:=top 26
noncomputable abbrev gK:Stmt:=top 27
noncomputable abbrev fN:Stmt:=top 28
noncomputable abbrev iW:Stmt:=top 29
noncomputable abbrev eO:Stmt:=top 31
noncomputable abbrev dE:Stmt:=top 32
noncomputable abbrev eP:Stmt:=top 33
noncomputable abbrev dF:Stmt:=top 36
noncomputable abbrev rm:Stmt:=top 38
noncomputable abbrev rn:Stmt:=top 39
noncomputable abbrev rq:Stmt:=top 40
noncomputable abbrev rA:Stmt:=top 41
noncomputable abbrev kx:Stmt:=top 42
noncomputable abbrev kz:Stmt:=top 43
noncomputable abbrev gL:Stmt:=top 44
noncomputable abbrev rB:Stmt:=top 45
noncomputable abbrev xG:Stmt:=top 46
noncomputable abbrev rD:Stmt:=top 47
noncomputable abbrev rE:Stmt:=top 48
noncomputable abbrev rF:Stmt:=top 49
noncomputable abbrev eQ:Stmt:=top 50
noncomputable abbrev dG:Stmt:=top 51
noncomputable abbrev fO:Stmt:=top 52
noncomputable abbrev xH:Stmt:=top 53
noncomputable abbrev c6:Stmt:=top 54
noncomputable abbrev pj:Stmt:=top 55
set_option genSizeOfSpec false in
set_option genInjectivity false in
structure Ad where
 kO:Addr
 kL:FuncData
 dm:Addr
 dh:FuncData
 nk:Addr
 nj:FuncData
 fe:Addr
 e7:FuncData
 fU:Addr
 fR:FuncData
 cr:Addr
 cm:FuncData
 cn:Addr
 cj:FuncData
 cN:Addr
 cJ:FuncData
 sL:Addr
 sD:FuncData
 cP:Addr
 cL:FuncData
 cO:Addr
 cK:FuncData
 dn:Addr
 di:FuncData
 jg:Addr
 jd:FuncData
 cq:Addr
 ck:FuncData
 dj:Addr
 de:FuncData
 cQ:Addr
 cM:FuncData
 dQ:Addr
 dN:FuncData
 gU:Addr
 gS:FuncData
 fW:Addr
 fT:FuncData
 ji:Addr
 jf:FuncData
 bX:Addr
 e8:FuncData
 bO:Addr
 dJ:FuncData
 bY:Addr
 fc:FuncData
 dP:Addr
 dM:FuncData
 sM:Addr
 sE:FuncData
 sI:Addr
 sw:FuncData
 sK:Addr
 sy:FuncData
 sG:Addr
 su:FuncData
 kQ:Addr
 kN:FuncData
 kP:Addr
 kM:FuncData
 gT:Addr
 gR:FuncData
 sN:Addr
 sF:FuncData
 yn:Addr
 yk:FuncData
 sJ:Addr
 sx:FuncData
 jh:Addr
 je:FuncData
 sH:Addr
 sv:FuncData
 ff:Addr
 fb:FuncData
 dO:Addr
 dL:FuncData
 fV:Addr
 fS:FuncData
 ym:Addr
 yj:FuncData
 dk:Addr
 df:FuncData
 yo:Addr
 yl:FuncData
 wd:World
 gQ:Addr
 ia:Addr
 fX:Tok
structure Tx (K:Ee) (mg:Str->Option Value) (t:Ad):Prop where
 ve:mg "counts" = some (.ref t.kO)
 oA:Fun K "counts" "counts" kw t.kO t.kL
 vc:Binds K t.kL ["row","base"] []
 fC:mg "many_columns" = some (.ref t.dm)
 db:Fun K "many_columns" "many_columns" cX t.dm t.dh
 fz:Binds K t.dh ["rows"] []
 yq:mg "tally" = some (.ref t.nk)
 sr:Fun K "tally" "tally" m7 t.nk t.nj
 yi:Binds K t.nj ["rows","base"] []
 mo:mg "beginnings" = some (.ref t.fe)
 hJ:Fun K "beginnings" "beginnings" eM t.fe t.e7
 mh:Binds K t.e7 ["rows","column"] []
 nr:mg "is_parted" = some (.ref t.fU)
 i4:Fun K "is_parted" "is_parted" fM t.fU t.fR
 ng:Binds K t.fR ["often"] []
 im:mg "many_goings_on" = some (.ref t.cr)
 eh:Fun K "many_goings_on" "many_goings_on" ce t.cr t.cm
 ik:Binds K t.cm ["longer"] []
 il:mg "ahead_of_first" = some (.ref t.cn)
 ee:Fun K "ahead_of_first" "ahead_of_first" cf t.cn t.cj
 ij:Binds K t.cj ["lists"] []
 jk:mg "ahead_of_last" = some (.ref t.cN)
 eV:Fun K "ahead_of_last" "ahead_of_last" cE t.cN t.cJ
 i7:Binds K t.cJ ["tally"] []
 AR:mg "runs" = some (.ref t.sL)
 vT:Fun K "runs" "runs" rk t.sL t.sD
 AH:Binds K t.sD ["rows"] []
 jm:mg "merging_round" = some (.ref t.cP)
 eY:Fun K "merging_round" "merging_round" cF t.cP t.cL
 ja:Binds K t.cL ["lengths"] []
 jl:mg "ahead_of_runs" = some (.ref t.cO)
 eX:Fun K "ahead_of_runs" "ahead_of_runs" cG t.cO t.cK
 i8:Binds K t.cK ["lengths"] []
 fD:mg "many_figures" = some (.ref t.dn)
 dc:Fun K "many_figures" "many_figures" cY t.dn t.di
 fA:Binds K t.di ["n","base"] []
 mq:mg "figures" = some (.ref t.jg)
 i3:Fun K "figures" "figures" iV t.jg t.jd
 mi:Binds K t.jd ["n","base","many"] []
 eC:mg "common_measure" = some (.ref t.cq)
 ci:Fun K "common_measure" "common_measure" cg t.cq t.ck
 eB:Binds K t.ck ["one","other"] []
 fB:mg "least_bottom" = some (.ref t.dj)
 da:Fun K "least_bottom" "least_bottom" cZ t.dj t.de
 fy:Binds K t.de ["parts"] []
 jo:mg "whole_numbers" = some (.ref t.cQ)
 eZ:Fun K "whole_numbers" "whole_numbers" cH t.cQ t.cM
 jc:Binds K t.cM ["parts"] []
 gB:mg "number_rows" = some (.ref t.dQ)
 dH:Fun K "number_rows" "number_rows" dD t.dQ t.dN
 gA:Binds K t.dN ["numbers","base"] []
 jQ:mg "text_row" = some (.ref t.gU)
 gP:Fun K "text_row" "text_row" gK t.gU t.gS
 jP:Binds K t.gS ["text","columns"] []
 nw:mg "text_rows" = some (.ref t.fW)
 i6:Fun K "text_rows" "text_rows" fN t.fW t.fT
 ni:Binds K t.fT ["texts"] []
 jn:mg "spelled" = some (.ref t.ji)
 gz:Fun K "spelled" "spelled" iW t.ji t.jf
 jb:Binds K t.jf ["kind","keys","base"] []
 vW:mg "last_ahead" = some (.ref t.bX)
 hV:Fun K "last_ahead" "last_ahead" eO t.bX t.e8
 mj:Binds K t.e8 ["rows","base"] []
 vf:mg "first_ahead" = some (.ref t.bO)
 gx:Fun K "first_ahead" "first_ahead" dE t.bO t.dJ
 kJ:Binds K t.dJ ["rows","base"] []
 vX:mg "runs_ahead" = some (.ref t.bY)
 hZ:Fun K "runs_ahead" "runs_ahead" eP t.bY t.fc
 mn:Binds K t.fc ["rows","base"] []
 dR:mg "moves_ahead" = some (.ref t.dP)
 cx:Fun K "moves_ahead" "moves_ahead" dF t.dP t.dM
 dI:Binds K t.dM ["kind","keys","base"] []
 AS:mg "_law_tape" = some (.ref t.sM)
 vU:Fun K "_law_tape" "_law_tape" rm t.sM t.sE
 AI:Binds K t.sE ["_law_script","_law_k"] []
 bg:mg "_law_draw" = some (.ref t.sI)
 bc:Fun K "_law_draw" "_law_draw" rn t.sI t.sw
 bf:Binds K t.sw ["_law_tape_here","_law_many_here"] []
 AQ:mg "_law_many" = some (.ref t.sK)
 vS:Fun K "_law_many" "_law_many" rq t.sK t.sy
 AG:Binds K t.sy ["_law_tape_here","_law_k"] []
 AL:mg "_law_base" = some (.ref t.sG)
 vP:Fun K "_law_base" "_law_base" rA t.sG t.su
 AC:Binds K t.su ["_law_tape_here"] []
 oF:mg "_law_number" = some (.ref t.kQ)
 kI:Fun K "_law_number" "_law_number" kx t.kQ t.kN
 oD:Binds K t.kN ["_law_tape_here"] []
 vg:mg "_law_lowest" = some (.ref t.kP)
 oB:Fun K "_law_lowest" "_law_lowest" kz t.kP t.kM
 vd:Binds K t.kM ["_law_top","_law_bottom"] []
 pB:mg "_law_fraction" = some (.ref t.gT)
 jN:Fun K "_law_fraction" "_law_fraction" gL t.gT t.gR
 pA:Binds K t.gR ["_law_tape_here"] []
 AT:mg "_law_text" = some (.ref t.sN)
 vV:Fun K "_law_text" "_law_text" rB t.sN t.sF
 AJ:Binds K t.sF ["_law_tape_here"] []
 CU:mg "_law_key" = some (.ref t.yn)
 AB:Fun K "_law_key" "_law_key" xG t.yn t.yk
 CT:Binds K t.yk ["_law_tape_here","_law_kind"] []
 AO:mg "_law_keys" = some (.ref t.sJ)
 vR:Fun K "_law_keys" "_law_keys" rD t.sJ t.sx
 AF:Binds K t.sx ["_law_tape_here","_law_kind","_law_many_here"] []
 oG:mg "_law_same" = some (.ref t.jh)
 jO:Fun K "_law_same" "_law_same" rE t.jh t.je
 oE:Binds K t.je ["_law_found","_law_due_here"] []
 AM:mg "_law_case" = some (.ref t.sH)
 vQ:Fun K "_law_case" "_law_case" rF t.sH t.sv
 AD:Binds K t.sv ["_law_tape_here","_law_k"] []
 mr:mg "_law_last_moves" = some (.ref t.ff)
 hX:Fun K "_law_last_moves" "_law_last_moves" eQ t.ff t.fb
 ml:Binds K t.fb ["_law_rows"] []
 kR:mg "_law_first_moves" = some (.ref t.dO)
 gy:Fun K "_law_first_moves" "_law_first_moves" dG t.dO t.dL
 kK:Binds K t.dL ["_law_rows"] []
 nt:mg "_law_run_moves" = some (.ref t.fV)
 i5:Fun K "_law_run_moves" "_law_run_moves" fO t.fV t.fS
 nh:Binds K t.fS ["_law_rows"] []
 AN:mg "_law_due" = some (.ref t.ym)
 yh:Fun K "_law_due" "_law_due" xH t.ym t.yj
 AE:Binds K t.yj ["_law_rows"] []
 jz:mg "_law_longer_right" = some (.ref t.dk)
 fx:Fun K "_law_longer_right" "_law_longer_right" c6 t.dk t.df
 jy:Binds K t.df ["_law_kind","_law_keys_here","_law_base_here"] []
 D8:mg "law" = some (.ref t.yo)
 CS:Fun K "law" "law" pj t.yo t.yl
 D7:Binds K t.yl ["_law_script"] []
 pC:mg "abs" = none
 sP:mg "all" = none
 bG:mg "bool" = none
 oI:mg "dict" = none
 cR:mg "enumerate" = none
 gC:mg "int" = none
 ag:mg "isinstance" = none
 bH:mg "len" = none
 bZ:mg "list" = none
 ny:mg "max" = none
 nz:mg "min" = none
 sQ:mg "ord" = none
 bx:mg "range" = none
 iC:mg "sorted" = none
 fY:mg "str" = none
 jA:mg "sum" = none
 aZ:mg "tuple" = none
 sR:mg "zip" = none
 yp:mg "AHEAD" = some (.ref t.gQ)
 sO:Du K t.wd.params t.gQ [("last",t.bX),("first",t.bO),("runs",t.bY)]
 AK:mg "WAYS" = some (.ref t.ia)
 oH:∀ H,SqT K H t.ia [.str "last",.str "first",.str "runs"]
 nn:mg "TEXT_BASE" = some (.int 27 t.fX)
theorem rG:bootBuiltins "abs" = some (.builtin "abs"):=by decide +kernel
theorem vI:bootBuiltins "all" = some (.builtin "all"):=by decide +kernel
theorem br:bootBuiltins "bool" = some (.type "bool"):=by decide +kernel
theorem xI:bootBuiltins "dict" = some (.type "dict"):=by decide +kernel
theorem eR:bootBuiltins "int" = some (.type "int"):=by decide +kernel
theorem ad:bootBuiltins "isinstance" = some (.builtin "isinstance"):=by decide +kernel
theorem aX:bootBuiltins "len" = some (.builtin "len"):=by decide +kernel
theorem bN:bootBuiltins "list" = some (.type "list"):=by decide +kernel
theorem vJ:bootBuiltins "max" = some (.builtin "max"):=by decide +kernel
theorem oi:bootBuiltins "min" = some (.builtin "min"):=by decide +kernel
theorem vK:bootBuiltins "ord" = some (.builtin "ord"):=by decide +kernel
theorem dX:bootBuiltins "str" = some (.type "str"):=by decide +kernel
theorem iX:bootBuiltins "sum" = some (.builtin "sum"):=by decide +kernel
theorem aU:bootBuiltins "tuple" = some (.type "tuple"):=by decide +kernel
theorem sc_counts:FnScope ["row","base","often","figure"] ["row","base"] (am kw):=by walk_at "s"
theorem iY:FnScope ["rows"] ["rows"] (am cX):=by walk_at "s"
theorem uL:FnScope ["rows","base"] ["rows","base"] (am m7):=by walk_at "s"
theorem sc_beginnings:FnScope ["rows","column","often","row","beginning"] ["rows","column"] (am eM):=by walk_at "s"
theorem lQ:FnScope ["often"] ["often"] (am fM):=by walk_at "s"
theorem sc_many_goings_on:FnScope ["longer","many","beginning","rows_with_it","shorter"] ["longer"] (am ce):=by walk_at "s"
theorem sc_ahead_of_first:FnScope ["lists","steps","moves","column","goings_on","beginning","many"] ["lists"] (am cf):=by walk_at "s"
theorem sc_ahead_of_last:FnScope ["tally","columns"] ["tally"] (am cE):=by walk_at "s"
theorem sc_runs:FnScope ["rows","lengths","place","row"] ["rows"] (am rk):=by walk_at "s"
theorem sc_merging_round:FnScope ["lengths","steps","behind","first","at","both","last"] ["lengths"] (am cF):=by walk_at "s"
theorem sc_ahead_of_runs:FnScope ["lengths","steps","stretches","done"] ["lengths"] (am cG):=by walk_at "s"
theorem sc_many_figures:FnScope ["n","base","many","rest"] ["n","base"] (am cY):=by walk_at "s"
theorem sc_figures:FnScope ["n","base","many","lowest_first","rest","turn"] ["n","base","many"] (am iV):=by walk_at "s"
theorem sc_common_measure:FnScope ["one","other","greater","less"] ["one","other"] (am cg):=by walk_at "s"
theorem sc_least_bottom:FnScope ["parts","least","top","bottom"] ["parts"] (am cZ):=by walk_at "s"
theorem sc_whole_numbers:FnScope ["parts","least"] ["parts"] (am cH):=by walk_at "s"
theorem sc_number_rows:FnScope ["numbers","base","least","columns"] ["numbers","base"] (am dD):=by walk_at "s"
theorem sc_text_row:FnScope ["text","columns","before_first","letters"] ["text","columns"] (am gK):=by walk_at "s"
theorem sc_text_rows:FnScope ["texts","columns"] ["texts"] (am fN):=by walk_at "s"
theorem pk:FnScope ["kind","keys","base"] ["kind","keys","base"] (am iW):=by walk_at "s"
theorem kA:FnScope ["rows","base"] ["rows","base"] (am eO):=by walk_at "s"
theorem ju:FnScope ["rows","base"] ["rows","base"] (am dE):=by walk_at "s"
theorem kB:FnScope ["rows","base"] ["rows","base"] (am eP):=by walk_at "s"
theorem sc_moves_ahead:FnScope ["kind","keys","base","by","rows","told","way","ahead"] ["kind","keys","base"] (am dF):=by walk_at "s"
theorem sc_tape:FnScope ["_law_script","_law_k","_law_cell","_law_digits"] ["_law_script","_law_k"] (am rm):=by walk_at "s"
theorem sc_draw:FnScope ["_law_tape_here","_law_many_here","_law_found","_law_once"] ["_law_tape_here","_law_many_here"] (am rn):=by walk_at "s"
theorem sc_many:FnScope ["_law_tape_here","_law_k","_law_more"] ["_law_tape_here","_law_k"] (am rq):=by walk_at "s"
theorem xJ:FnScope ["_law_tape_here"] ["_law_tape_here"] (am rA):=by walk_at "s"
theorem sc_number:FnScope ["_law_tape_here","_law_kind"] ["_law_tape_here"] (am kx):=by walk_at "s"
theorem sc_lowest:FnScope ["_law_top","_law_bottom","_law_one","_law_other"] ["_law_top","_law_bottom"] (am kz):=by walk_at "s"
theorem sc_fraction:FnScope ["_law_tape_here","_law_top"] ["_law_tape_here"] (am gL):=by walk_at "s"
theorem sc_text:FnScope ["_law_tape_here","_law_kind","_law_letters","_law_size"] ["_law_tape_here"] (am rB):=by walk_at "s"
theorem z9:FnScope ["_law_tape_here","_law_kind"] ["_law_tape_here","_law_kind"] (am xG):=by walk_at "s"
theorem sc_keys:FnScope ["_law_tape_here","_law_kind","_law_many_here","_law_keys_here","_law_turn","_law_key_here"] ["_law_tape_here","_law_kind","_law_many_here"] (am rD):=by walk_at "s"
theorem rH:FnScope ["_law_found","_law_due_here"] ["_law_found","_law_due_here"] (am rE):=by walk_at "s"
theorem sc_case:FnScope ["_law_tape_here","_law_k","_law_kind","_law_many_here"] ["_law_tape_here","_law_k"] (am rF):=by walk_at "s"
theorem sc_last_moves:FnScope ["_law_rows","_law_columns"] ["_law_rows"] (am eQ):=by walk_at "s"
theorem sc_first_moves:FnScope ["_law_rows","_law_groups","_law_moves","_law_k","_law_further","_law_group","_law_found","_law_row"] ["_law_rows"] (am dG):=by walk_at "s"
theorem sc_run_moves:FnScope ["_law_rows","_law_lengths","_law_k","_law_row","_law_moves","_law_pairs"] ["_law_rows"] (am fO):=by walk_at "s"
theorem Aa:FnScope ["_law_rows"] ["_law_rows"] (am xH):=by walk_at "s"
theorem sc_longer_right:FnScope ["_law_kind","_law_keys_here","_law_base_here","_law_handed"] ["_law_kind","_law_keys_here","_law_base_here"] (am c6):=by walk_at "s"
theorem sc_law:FnScope ["_law_script","_law_k","_law_kind","_law_keys_here","_law_base_here","_law_kept","_law_due_here","_law_turn","_law_found"] ["_law_script"] (am pj):=by walk_at "s"
section
variable {P:Program} {w:World} {K:Ee} {mg:Str->Option Value} {base:Heap} {t:Ad}
theorem fk (r:List Nat):NV r=(aY r).map ML:=gh r
section
variable {K:Ee} {H:Hp} {Q:VK}
theorem rJ {lo hi:Option Int} (h1:H a=some (.lst xs)) (h:∀ p H',Same H H'->H' p=some (.lst (mG xs lo hi))->Q (.ref p) H'):BQ K (.ref a) lo hi H Q:=⟨a,xs,rfl,MJ h1,λ p hp=>h p _ ((MN H).new hp) ab⟩
end
theorem aN (T:Tx K mg t):FnOk P t.wd K mg base CX0 1 t.sI t.sw ["_law_tape_here","_law_many_here"] wY:=by
 refine T.bc.okQ sc_draw (λ vs H Q E h=>?_) (λ cdv A outer s H vs Q E hr h=>?_)
 ·obtain ⟨p,m,rfl,_⟩:=h
  rfl
 ·obtain ⟨p,m,rfl,⟨a,b,hp,ha,hb⟩,hm,hm2,k⟩:=h
  have fin:∀ (x:Int) H',St2 p H H'->Q (.int (x % m)) H':=λ x H' S=>by
   have:=k (x % m).toNat H' (by rw [JC (Gz _ (by lia))]; exact JT _ hm) S
   rw [JC (Gz _ (by lia))] at this
   exact this
  refine ⟨_,(ac (aR (az mN (ba (bE (K:=K)) (qv 0) ae) ae (au _)) (ac (av (i:=2) sc_draw.nd rfl (En rfl) (ay gG (ba (bE (K:=K)) (qv 0) ae) (qv 1)))
   (ac (qk (ay fG (ba (bE (K:=K)) (qv 0) ae) (qv 1)) (qv 0) ae)
   (ai (ao (qv 2))))) aE)
   (ac (qk (ay gG (ay cS (ay fF (ba (bE (K:=K)) (qv 0) ae) ae) ae) ae) (qv 0) ae)
   (ac (av (i:=3) sc_draw.nd rfl (En rfl) (ay gG (ay fF (ba (bE (K:=K)) (qv 0) ae) (ay cS (ay gG (ba (bE (K:=K)) (qv 0) ae) ae) ae)) ae))
   (ai (ao (ay gG (ay gG (ay fF (qv 3) (ay cS (ay gG (qv 3) ae) ae)) ae) (qv 1))))))),?_⟩
  rw [show L2.aK ["_law_tape_here","_law_many_here","_law_found","_law_once"] [MP p,ML m]=[some (MP p),some (ML m),none,none] from rfl]
  nofun
  refine aW (λ h0=>?_) (λ h0=>?_)
  ·nofun
   exact fin _ _ (Tp2.mk (KW ha (by lia)) hb)
  ·nofun
   exact fin _ _ (Tp2.mk ha (Gz _ (by lia)))
theorem xK (T:Tx K mg t):FnOk P t.wd K mg base CX0 1 t.sM t.sE ["_law_script","_law_k"] (wX K):=by
 refine T.vU.okQ sc_tape (λ vs H Q E h=>?_) (λ cdv A outer s H vs Q E hr h=>?_)
 ·obtain ⟨a,ns,k,rfl,_⟩:=h
  rfl
 ·obtain ⟨a,ns,k,rfl,hS,hk,q⟩:=h
  refine ⟨_,(ac (av (i:=2) sc_tape.nd rfl (En rfl) ae)
   (ac (aR (az Ce (qv 1) (af (bv (K:=K)) (by rfl) T.bH aX (ah (qv 0) aa)) (au _)) (ai (av (i:=2) sc_tape.nd rfl (En rfl) (ba (bE (K:=K)) (qv 0) (qv 1)))) aE)
   (ac (av (i:=3) sc_tape.nd rfl (En rfl) (ay fF (af qo (by rfl) T.pC rG (ah (qv 2) aa)) (aM ll (by rfl) T.gC eR (ah (aH DO (af qo (by rfl) T.pC rG (ah (qv 2) aa)) (ay o3 ae ae) (au _)) aa))))
   (ai (ao (aO (ah (qv 3) (ah (ay gG (ay fF (ay gG (ay cS (ay cS (qv 2) (ay fF ae (qv 1))) ae) ae) ae) ae) aa)))))))),?_⟩
  rw [show L2.aK ["_law_script","_law_k","_law_cell","_law_digits"] [MP a,ML k]=[some (MP a),some (ML k),none,none] from rfl]
  nofun
  refine bj hS ?_
  nofun
  refine aW (λ h0=>?_) (λ h0=>?_)
  ·nofun
   have hlt:k.toNat<ns.length:=by rw [Ed] at h0; lia
   have hget:atI (ns.map ML) k=some (ML ns[k.toNat]):=by
    have e:k=(k.toNat:Int):=by lia
    have:=bJ (xs:=ns.map ML) (j:=k.toNat) (v:=ML ns[k.toNat]) (by simp [hlt])
    rw [<-e] at this; exact this
   refine cb hS hget ?_
   generalize ns[k.toNat]=cell
   nofun
   exact ⟨aF (by simp),λ p hp=>q p _ hp ((MN H).new hp) ⟨_,_,ab,K4 (by split<;>lia) (by (repeat' split)<;>lia),Gz _ (by lia)⟩⟩
  ·nofun
   exact ⟨aF (by simp),λ p hp=>q p _ hp ((MN H).new hp) ⟨_,_,ab,K4 (by split<;>lia) (by (repeat' split)<;>lia),Gz _ (by lia)⟩⟩
noncomputable def xL:Sp:=λ vs H Q _=>∃ (p:Addr) (k:Int),vs=[.ref p,.int k]/\Tp2 H p/\∀ (r:Nat) H',r<=60->St2 p H H'->Q (.int r) H'
theorem xM (T:Tx K mg t):FnOk P t.wd K mg base CX0 2 t.sK t.sy ["_law_tape_here","_law_k"] xL:=by
 refine T.vS.okQ sc_many (λ vs H Q E h=>?_) (λ cdv A outer s H vs Q E hr h=>?_)
 ·obtain ⟨p,k,rfl,_⟩:=h
  rfl
 ·obtain ⟨p,kk,rfl,hT,k⟩:=h
  refine ⟨_,(ac (av (i:=2) sc_many.nd rfl (En rfl) (ba (bE (K:=K)) (aO (ah (ay cS ae (aj (aN T) (hr.mono (by decide)) rfl T.bg T.bc.kp T.bf aA (ah (qv 0) (ah ae aa)))) (ah ae aa))) (aM ll (by rfl) T.gC eR (ah (bb (aH gD (qv 1) ae (au _)) (bA (aH gD (aj (aN T) (hr.mono (by decide)) rfl T.bg T.bc.kp T.bf aA (ah (qv 0) (ah ae aa))) ae (au _)))) aa))))
   (ai (ao (ba (bE (K:=K)) (aO (ah ae (ah ae (ah ae (ah ae (ah ae (ah ae (ah ae (ah (qv 2) aa))))))))) (aj (aN T) (hr.mono (by decide)) rfl T.bg T.bc.kp T.bf aA (ah (qv 0) (ah ae aa))))))),?_⟩
  rw [show L2.aK ["_law_tape_here","_law_k","_law_more"] [MP p,ML kk]=[some (MP p),some (ML kk),none] from rfl]
  nofun
  refine ⟨p,6,rfl,hT,by decide,by decide,λ r1 H1 a1 S1=>?_⟩
  nofun
  refine ⟨aF (by simp),λ q hq=>?_⟩
  have nq:=S1.tape.ne hq
  have S2:=S1.new (o:=.lst [ML (7+(r1:Int)),ML 60]) hq
  have tq:(upd H1 q (.lst [ML (7+(r1:Int)),ML 60])) q=some (.lst [ML (7+(r1:Int)),ML 60]):=ab
  generalize upd H1 q (.lst [ML (7+(r1:Int)),ML 60])=H2 at S2 tq
  nofun
  apply Dl (α:=Nat) (S:=λ m H3=>St2 p H H3/\m<=60)
  case hA=>
   intro key
   have sS:∀ (r:Int) H3,0<=r->r<2->St2 p H2 H3->∃ (n:Nat),atI [ML (7+(r1:Int)),ML 60] r=some (ML n)/\n<=60:=λ r H3 h0 h1 _=>by
    obtain ⟨v,e,hv⟩:=cz (xs:=[ML (7+(r1:Int)),ML 60]) h0 h1
    simp only [Er,ER,or_false] at hv
    rcases hv with rfl | rfl
    ·exact ⟨7+r1,by rw [e]; rfl,by lia⟩
    ·exact ⟨60,e,by lia⟩
   refine aW (λ h1=>?_) (λ h1=>?_)
   ·nofun
    refine ⟨p,3,rfl,S2.tape,by decide,by decide,λ r2 H3 a2 S3=>?_⟩
    nofun
    obtain ⟨n,e,hn⟩:=sS (if decide (ML (r2:Int)=ML 0)=true then 1 else 0) H3 (by split<;>lia) (by split<;>lia) S3
    refine cb (MJ (S3.keep q _ tq nq)) e ?_
    nofun
    exact key n H3 ⟨S2.trans S3,hn⟩
   ·nofun
    obtain ⟨n,hn⟩:∃ n:Nat,(7+(r1:Int))=n:=⟨7+r1,by lia⟩
    rw [hn]
    exact key n H2 ⟨S2,by lia⟩
  case hB=>
   rintro n H3 ⟨S3,hn⟩
   nofun
   refine ⟨aF (by simp),λ q2 hq2=>?_⟩
   have nq2:=S3.tape.ne hq2
   nofun
   refine ⟨p,8,rfl,(S3.new hq2).tape,by decide,by decide,λ r3 H4 a3 S4=>?_⟩
   obtain ⟨v,e,hv⟩:=cz (xs:=[ML 0,ML 1,ML 2,ML 3,ML 4,ML 5,ML 6,ML (n:Int)]) (r:=(r3:Int)) (by lia) (by simp only [EM,E4]; lia)
   refine cb (MJ (S4.keep q2 _ ab nq2)) e ?_
   simp only [Er,ER,or_false] at hv
   have S:=(S3.new (o:=.lst [ML 0,ML 1,ML 2,ML 3,ML 4,ML 5,ML 6,ML (n:Int)]) hq2).trans S4
   rcases hv with rfl | rfl | rfl | rfl | rfl | rfl | rfl | rfl
   ·exact k 0 H4 (by lia) S
   ·exact k 1 H4 (by lia) S
   ·exact k 2 H4 (by lia) S
   ·exact k 3 H4 (by lia) S
   ·exact k 4 H4 (by lia) S
   ·exact k 5 H4 (by lia) S
   ·exact k 6 H4 (by lia) S
   ·exact k n H4 hn S
noncomputable def xN:Sp:=λ vs H Q _=>∃ (p:Addr),vs=[.ref p]/\Tp2 H p/\∀ (b:Nat) H',2<=b->b<=64->St2 p H H'->Q (.int b) H'
theorem xO (T:Tx K mg t):FnOk P t.wd K mg base CX0 2 t.sG t.su ["_law_tape_here"] xN:=by
 refine T.vP.okQ xJ (λ vs H Q E h=>?_) (λ cdv A outer s H vs Q E hr h=>?_)
 ·obtain ⟨p,rfl,_⟩:=h
  rfl
 ·obtain ⟨p,rfl,hT,k⟩:=h
  refine ⟨_,(ai (ao (ba (bE (K:=K)) (aO (ah ae (ah ae (ah ae (ah ae (ah ae (ah (ay cS ae (aj (aN T) (hr.mono (by decide)) rfl T.bg T.bc.kp T.bf aA (ah (qv 0) (ah ae aa)))) aa))))))) (aj (aN T) (hr.mono (by decide)) rfl T.bg T.bc.kp T.bf aA (ah (qv 0) (ah ae aa)))))),?_⟩
  rw [show L2.aK ["_law_tape_here"] [MP p]=[some (MP p)] from rfl]
  nofun
  refine ⟨p,63,rfl,hT,by decide,by decide,λ r1 H1 a1 S1=>?_⟩
  nofun
  refine ⟨aF (by simp),λ q hq=>?_⟩
  nofun
  refine ⟨p,6,rfl,(S1.new hq).tape,by decide,by decide,λ r3 H4 a3 S4=>?_⟩
  obtain ⟨v,e,hv⟩:=cz (xs:=[ML 2,ML 3,ML 10,ML 16,ML 64,ML (2+(r1:Int))]) (r:=(r3:Int)) (by lia) (by simp only [EM,E4]; lia)
  refine cb (MJ (S4.keep q _ ab (S1.tape.ne hq))) e ?_
  have S:=(S1.new (o:=.lst [ML 2,ML 3,ML 10,ML 16,ML 64,ML (2+(r1:Int))]) hq).trans S4
  simp only [Er,ER,or_false] at hv
  rcases hv with rfl | rfl | rfl | rfl | rfl | rfl
  ·exact k 2 H4 (by lia) (by lia) S
  ·exact k 3 H4 (by lia) (by lia) S
  ·exact k 10 H4 (by lia) (by lia) S
  ·exact k 16 H4 (by lia) (by lia) S
  ·exact k 64 H4 (by lia) (by lia) S
  ·exact k (2+r1) H4 (by lia) (by lia) S
noncomputable def SmAt:Nat->Hp->V->V->Prop
 | 0,_,x,y=>Sc x/\y=x
 | n+1,H,x,y=>(Sc x/\y=x)\/(∃ a c xs ys,x=.ref a/\y=.ref c/\H a=some (.lst xs)/\H c=some (.lst ys)/\xs.length=ys.length/\xs.length<=200/\∀ (i:Nat) u v,xs[i]? = some u->ys[i]? = some v->SmAt n H u v)\/
  (∃ a c xs ys,x=.ref a/\y=.ref c/\H a=some (.tup xs)/\H c=some (.tup ys)/\xs.length=ys.length/\xs.length<=200/\∀ (i:Nat) u v,xs[i]? = some u->ys[i]? = some v->SmAt n H u v)
theorem SmAt.same {H H1:Hp} (s:Same H H1):∀ {n:Nat} {x y:V},SmAt n H x y->SmAt n H1 x y
 | 0,_,_,h=>h
 | n+1,_,_,h=>by
  rcases h with h | ⟨a,c,xs,ys,rfl,rfl,ha,hc,hl,hz,hi⟩ | ⟨a,c,xs,ys,rfl,rfl,ha,hc,hl,hz,hi⟩
  ·exact .inl h
  ·exact .inr (.inl ⟨a,c,xs,ys,rfl,rfl,s _ _ ha,s _ _ hc,hl,hz,λ i u v e1 e2=>SmAt.same s (hi i u v e1 e2)⟩)
  ·exact .inr (.inr ⟨a,c,xs,ys,rfl,rfl,s _ _ ha,s _ _ hc,hl,hz,λ i u v e1 e2=>SmAt.same s (hi i u v e1 e2)⟩)
theorem SmAt.int {H:Hp} (n:Nat) (i:Int):SmAt n H (.int i) (.int i):=by
 cases n with
 | zero=>exact ⟨.inr (.inr (.inl ⟨i,rfl⟩)),rfl⟩
 | succ n=>exact .inl ⟨.inr (.inr (.inl ⟨i,rfl⟩)),rfl⟩
theorem SmAt.sc {H:Hp} (n:Nat) {x:V} (h:Sc x):SmAt n H x x:=by
 cases n with
 | zero=>exact ⟨h,rfl⟩
 | succ n=>exact .inl ⟨h,rfl⟩
theorem lR {K:Ee} {H:Hp} {Q:VK} (s:H p=some (.tup xs)) (h:Q (.bl false) H):pE K [.ref p,.ty "list"] H Q:=⟨_,_,_,_,rfl,.tup s,rfl,h⟩
noncomputable def CD (n:Nat):Sp:=λ vs H Q _=>∃ x y,vs=[x,y]/\SmAt n H x y/\∀ H',Same H H'->Q (.bl true) H'
noncomputable def CF:Sp:=λ vs H Q _=>∃ x,vs=[x,x]/\Sc x/\∀ H',Same H H'->Q (.bl true) H'
noncomputable def CG (n:Nat):Sp:=λ vs H Q _=>∃ x y,vs=[x,y]/\((∃ a c xs ys,x=.ref a/\y=.ref c/\H a=some (.lst xs)/\H c=some (.lst ys)/\xs.length=ys.length/\xs.length<=200/\∀ (i:Nat) u v,xs[i]? = some u->ys[i]? = some v->SmAt n H u v)\/
  (∃ a c xs ys,x=.ref a/\y=.ref c/\H a=some (.tup xs)/\H c=some (.tup ys)/\xs.length=ys.length/\xs.length<=200/\∀ (i:Nat) u v,xs[i]? = some u->ys[i]? = some v->SmAt n H u v))/\∀ H',Same H H'->Q (.bl true) H'
theorem oj (T:Tx K mg t) (n:Nat):FnOk P t.wd K mg base CX0 (n+1) t.jh t.je ["_law_found","_law_due_here"] CF:=by
  refine T.jO.okQ rH (λ vs H Q E h=>?_) (λ cdv A outer s H vs Q E hr h=>?_)
  ·obtain ⟨x,rfl,_⟩:=h
   rfl
  ·obtain ⟨x,rfl,hsc,k⟩:=h
   rcases hsc with rfl | ⟨b9,rfl⟩ | ⟨i9,rfl⟩ | ⟨x9,rfl⟩
   ·refine ⟨_,(ac (aR (az ib (qv 1) dW (au _)) (ai (ao (aH ib (qv 0) dW (au _)))) aE)
   (ac (aR (bB (af (gH (K:=K)) (by rfl) T.ag ad (ah (qv 1) (ah (bt (ah (ar rfl T.bZ bN (v:=.ty "list") rfl) (ah (ar rfl T.aZ aU (v:=.ty "tuple") rfl) aa))) aa)))) (ac cu
   (ai cu)) aE)
   (ac (aR (bB (af (aI (K:=K)) (by rfl) T.ag ad (ah (qv 1) (ah (ar rfl T.bG br (v:=.ty "bool") rfl) aa)))) (ai (ao (bb (af (aI (K:=K)) (by rfl) T.ag ad (ah (qv 0) (ah (ar rfl T.bG br (v:=.ty "bool") rfl) aa))) (bA (aH gD (qv 0) (qv 1) (au _)))))) aE)
   (ac (aR (bB (af (aI (K:=K)) (by rfl) T.ag ad (ah (qv 1) (ah (ar rfl T.fY dX (v:=.ty "str") rfl) aa)))) (ai (ao (bb (af (aI (K:=K)) (by rfl) T.ag ad (ah (qv 0) (ah (ar rfl T.fY dX (v:=.ty "str") rfl) aa))) (bA (aH gD (qv 0) (qv 1) (au _)))))) aE)
   (ai (ao (bb (af (aI (K:=K)) (by rfl) T.ag ad (ah (qv 0) (ah (ar rfl T.gC eR (v:=.ty "int") rfl) aa))) (bb (jE (af (aI (K:=K)) (by rfl) T.ag ad (ah (qv 0) (ah (ar rfl T.bG br (v:=.ty "bool") rfl) aa)))) (bA (aH gD (qv 0) (qv 1) (au _))))))))))),?_⟩
    rw [show L2.aK ["_law_found","_law_due_here"] [V.non,V.non]=[some (V.non),some (V.non)] from rfl]
    nofun
    refine dU rfl ?_
    nofun
    rw [decide_eq_true rfl]
    exact k _ (MN H)
   ·refine ⟨_,(ac (aR (az ib (qv 1) dW (au _)) (ai (ao (aH ib (qv 0) dW (au _)))) aE)
   (ac (aR (bB (af (gH (K:=K)) (by rfl) T.ag ad (ah (qv 1) (ah (bt (ah (ar rfl T.bZ bN (v:=.ty "list") rfl) (ah (ar rfl T.aZ aU (v:=.ty "tuple") rfl) aa))) aa)))) (ac cu
   (ai cu)) aE)
   (ac (aR (bB (af (aI (K:=K)) (by rfl) T.ag ad (ah (qv 1) (ah (ar rfl T.bG br (v:=.ty "bool") rfl) aa)))) (ai (ao (bb (af (aI (K:=K)) (by rfl) T.ag ad (ah (qv 0) (ah (ar rfl T.bG br (v:=.ty "bool") rfl) aa))) (bA (aH gD (qv 0) (qv 1) (au _)))))) aE)
   (ac (aR (bB (af (aI (K:=K)) (by rfl) T.ag ad (ah (qv 1) (ah (ar rfl T.fY dX (v:=.ty "str") rfl) aa)))) (ai (ao (bb (af (aI (K:=K)) (by rfl) T.ag ad (ah (qv 0) (ah (ar rfl T.fY dX (v:=.ty "str") rfl) aa))) (bA (aH gD (qv 0) (qv 1) (au _)))))) aE)
   (ai (ao (bb (af (aI (K:=K)) (by rfl) T.ag ad (ah (qv 0) (ah (ar rfl T.gC eR (v:=.ty "int") rfl) aa))) (bb (jE (af (aI (K:=K)) (by rfl) T.ag ad (ah (qv 0) (ah (ar rfl T.bG br (v:=.ty "bool") rfl) aa)))) (bA (aH gD (qv 0) (qv 1) (au _))))))))))),?_⟩
    rw [show L2.aK ["_law_found","_law_due_here"] [V.bl b9,V.bl b9]=[some (V.bl b9),some (V.bl b9)] from rfl]
    nofun
    refine bV (λ h=>by cases h) ?_
    nofun
    refine ⟨aF (by simp),λ tp htp=>?_⟩
    nofun
    refine j9 ab (.inr (.inl ⟨_,rfl⟩)) ?_
    nofun
    rw [decide_eq_true rfl]
    exact k _ ((MN H).new htp)
   ·refine ⟨_,(ac (aR (az ib (qv 1) dW (au _)) (ai (ao (aH ib (qv 0) dW (au _)))) aE)
   (ac (aR (bB (af (gH (K:=K)) (by rfl) T.ag ad (ah (qv 1) (ah (bt (ah (ar rfl T.bZ bN (v:=.ty "list") rfl) (ah (ar rfl T.aZ aU (v:=.ty "tuple") rfl) aa))) aa)))) (ac cu
   (ai cu)) aE)
   (ac (aR (bB (af (aI (K:=K)) (by rfl) T.ag ad (ah (qv 1) (ah (ar rfl T.bG br (v:=.ty "bool") rfl) aa)))) (ai (ao (bb (af (aI (K:=K)) (by rfl) T.ag ad (ah (qv 0) (ah (ar rfl T.bG br (v:=.ty "bool") rfl) aa))) (bA (aH gD (qv 0) (qv 1) (au _)))))) aE)
   (ac (aR (bB (af (aI (K:=K)) (by rfl) T.ag ad (ah (qv 1) (ah (ar rfl T.fY dX (v:=.ty "str") rfl) aa)))) (ai (ao (bb (af (aI (K:=K)) (by rfl) T.ag ad (ah (qv 0) (ah (ar rfl T.fY dX (v:=.ty "str") rfl) aa))) (bA (aH gD (qv 0) (qv 1) (au _)))))) aE)
   (ai (ao (bb (af (aI (K:=K)) (by rfl) T.ag ad (ah (qv 0) (ah (ar rfl T.gC eR (v:=.ty "int") rfl) aa))) (bb (jE (af (aI (K:=K)) (by rfl) T.ag ad (ah (qv 0) (ah (ar rfl T.bG br (v:=.ty "bool") rfl) aa)))) (bA (aH gD (qv 0) (qv 1) (au _))))))))))),?_⟩
    rw [show L2.aK ["_law_found","_law_due_here"] [ML i9,ML i9]=[some (ML i9),some (ML i9)] from rfl]
    nofun
    refine bV (λ h=>by cases h) ?_
    nofun
    refine ⟨aF (by simp),λ tp htp=>?_⟩
    nofun
    refine j9 ab (.inr (.inr (.inl ⟨_,rfl⟩))) ?_
    nofun
    rw [decide_eq_true rfl]
    exact k _ ((MN H).new htp)
   ·refine ⟨_,(ac (aR (az ib (qv 1) dW (au _)) (ai (ao (aH ib (qv 0) dW (au _)))) aE)
   (ac (aR (bB (af (gH (K:=K)) (by rfl) T.ag ad (ah (qv 1) (ah (bt (ah (ar rfl T.bZ bN (v:=.ty "list") rfl) (ah (ar rfl T.aZ aU (v:=.ty "tuple") rfl) aa))) aa)))) (ac cu
   (ai cu)) aE)
   (ac (aR (bB (af (aI (K:=K)) (by rfl) T.ag ad (ah (qv 1) (ah (ar rfl T.bG br (v:=.ty "bool") rfl) aa)))) (ai (ao (bb (af (aI (K:=K)) (by rfl) T.ag ad (ah (qv 0) (ah (ar rfl T.bG br (v:=.ty "bool") rfl) aa))) (bA (aH gD (qv 0) (qv 1) (au _)))))) aE)
   (ac (aR (bB (af (aI (K:=K)) (by rfl) T.ag ad (ah (qv 1) (ah (ar rfl T.fY dX (v:=.ty "str") rfl) aa)))) (ai (ao (bb (af (aI (K:=K)) (by rfl) T.ag ad (ah (qv 0) (ah (ar rfl T.fY dX (v:=.ty "str") rfl) aa))) (bA (aH gD (qv 0) (qv 1) (au _)))))) aE)
   (ai (ao (bb (af (aI (K:=K)) (by rfl) T.ag ad (ah (qv 0) (ah (ar rfl T.gC eR (v:=.ty "int") rfl) aa))) (bb (jE (af (aI (K:=K)) (by rfl) T.ag ad (ah (qv 0) (ah (ar rfl T.bG br (v:=.ty "bool") rfl) aa)))) (bA (aH gD (qv 0) (qv 1) (au _))))))))))),?_⟩
    rw [show L2.aK ["_law_found","_law_due_here"] [MM x9,MM x9]=[some (MM x9),some (MM x9)] from rfl]
    nofun
    refine bV (λ h=>by cases h) ?_
    nofun
    refine ⟨aF (by simp),λ tp htp=>?_⟩
    nofun
    refine j9 ab (.inr (.inr (.inr ⟨_,rfl⟩))) ?_
    nofun
    rw [decide_eq_true rfl]
    exact k _ ((MN H).new htp)
theorem uM (T:Tx K mg t) (n:Nat) (recN:Tx K mg t->FnOk P t.wd K mg base CX0 (n+1) t.jh t.je ["_law_found","_law_due_here"] (CD n)):FnOk P t.wd K mg base CX0 (n+1+1) t.jh t.je ["_law_found","_law_due_here"] (CG n):=by
  refine T.jO.okQ rH (λ vs H Q E h=>?_) (λ cdv A outer s H vs Q E hr h=>?_)
  ·obtain ⟨x,y,rfl,_⟩:=h
   rfl
  ·obtain ⟨x,y,rfl,h,k⟩:=h
   rcases h with ⟨a,c,xs,ys,rfl,rfl,ta,tc,hl,hz,hi⟩ | ⟨a,c,xs,ys,rfl,rfl,ta,tc,hl,hz,hi⟩
   ·refine ⟨_,(ac (aR (az ib (qv 1) dW (au _)) (ai (ao (aH ib (qv 0) dW (au _)))) aE)
   (ac (aR (bB (af (gH (K:=K)) (by rfl) T.ag ad (ah (qv 1) (ah (bt (ah (ar rfl T.bZ bN (v:=.ty "list") rfl) (ah (ar rfl T.aZ aU (v:=.ty "tuple") rfl) aa))) aa)))) (ac (aR (QW.qt (wR (az A5 (af (aI (K:=K)) (by rfl) T.ag ad (ah (qv 0) (ah (ar rfl T.bZ bN (v:=.ty "list") rfl) aa))) (af (aI (K:=K)) (by rfl) T.ag ad (ah (qv 1) (ah (ar rfl T.bZ bN (v:=.ty "list") rfl) aa))) (au _)) (qi (az A5 (af (aI (K:=K)) (by rfl) T.ag ad (ah (qv 0) (ah (ar rfl T.aZ aU (v:=.ty "tuple") rfl) aa))) (af (aI (K:=K)) (by rfl) T.ag ad (ah (qv 1) (ah (ar rfl T.aZ aU (v:=.ty "tuple") rfl) aa))) (au _))))) (ai (ao o0)) aE)
   (ai (ao (bb (aH gD (af (bv (K:=K)) (by rfl) T.bH aX (ah (qv 0) aa)) (af (bv (K:=K)) (by rfl) T.bH aX (ah (qv 1) aa)) (au _)) (bA (af (vy (K:=K) rfl) (by rfl) T.sP vI (ah (bu (N:=["_law_one","_law_other"]) (tgs:=["_law_one","_law_other"]) (frs:=[]) (ix:=[]) ⟨rfl,by decide +kernel,rfl,by decide +kernel,rfl,rfl,Et,Et,rfl⟩ rfl (zA (K:=K) rfl T.sR (ah (qv 0) (ah (qv 1) aa))) (λ _ _ _ _=>(cV (K:=K) (n:=2) rfl (aC (ap (i:=0) (by show EZ (["_law_one","_law_other"]:List Str); decide +kernel) rfl (En rfl)) (aC (ap (i:=1) (by show EZ (["_law_one","_law_other"]:List Str); decide +kernel) rfl (En rfl)) bL)))) (λ _ _ _ _=>(aj (recN T) (hr.mono (by first | decide | lia)) rfl T.oG T.jO.kp T.oE aA (ah (qv 0) (ah (qv 1) aa))))) aa))))))) aE)
   (ac (aR (bB (af (aI (K:=K)) (by rfl) T.ag ad (ah (qv 1) (ah (ar rfl T.bG br (v:=.ty "bool") rfl) aa)))) (ai (ao (bb (af (aI (K:=K)) (by rfl) T.ag ad (ah (qv 0) (ah (ar rfl T.bG br (v:=.ty "bool") rfl) aa))) (bA (aH (wW (K:=K) hr.units0) (qv 0) (qv 1) (au _)))))) aE)
   (ac (aR (bB (af (aI (K:=K)) (by rfl) T.ag ad (ah (qv 1) (ah (ar rfl T.fY dX (v:=.ty "str") rfl) aa)))) (ai (ao (bb (af (aI (K:=K)) (by rfl) T.ag ad (ah (qv 0) (ah (ar rfl T.fY dX (v:=.ty "str") rfl) aa))) (bA (aH (wW (K:=K) hr.units0) (qv 0) (qv 1) (au _)))))) aE)
   (ai (ao (bb (af (aI (K:=K)) (by rfl) T.ag ad (ah (qv 0) (ah (ar rfl T.gC eR (v:=.ty "int") rfl) aa))) (bb (jE (af (aI (K:=K)) (by rfl) T.ag ad (ah (qv 0) (ah (ar rfl T.bG br (v:=.ty "bool") rfl) aa)))) (bA (aH (wW (K:=K) hr.units0) (qv 0) (qv 1) (au _))))))))))),?_⟩
    rw [show L2.aK ["_law_found","_law_due_here"] [MP a,MP c]=[some (MP a),some (MP c)] from rfl]
    nofun
    refine bV (λ h=>by cases h) ?_
    nofun
    refine ⟨aF (by simp),λ tp htp=>?_⟩
    have s1:=(MN H).new (o:=.tup [V.ty "list",V.ty "tuple"]) htp
    have ttp:(upd H tp (.tup [V.ty "list",V.ty "tuple"])) tp=some (.tup [V.ty "list",V.ty "tuple"]):=ab
    generalize upd H tp (.tup [V.ty "list",V.ty "tuple"])=H1 at s1 ttp
    have ta1:=s1 _ _ ta
    have tc1:=s1 _ _ tc
    nofun
    refine uj tc1 ttp ?_
    nofun
    refine nI ta1 ?_
    nofun
    refine nI tc1 ?_
    nofun
    refine jX rfl ?_
    nofun
    refine nV ta1 ?_
    nofun
    refine nV tc1 ?_
    nofun
    refine jX rfl ?_
    nofun
    refine bj (MJ ta1) ?_
    nofun
    refine bj (MJ tc1) ?_
    nofun
    refine dU (by rw [hl]) ?_
    nofun
    refine ⟨a,c,rfl,⟨_,MJ ta1⟩,⟨_,MJ tc1⟩,ir (n:=xs.length) (λ i ys σ H2=>Same H1 H2/\ys=EB i (V.bl true)/\∃ v w,σ=[v,w]) (al (by lia)) (λ i ys σ H2 h=>by rw [h.2.1,FF]) ⟨MN _,rfl,none,none,rfl⟩ ?_ ?_ ?_ ?_⟩
    ·rintro i zs σ H2 hi ⟨s2,_⟩
     exact ⟨_,_,xs[i],ys[i]'(by lia),MJ (s2 _ _ ta1),MJ (s2 _ _ tc1),by simp [hi],Ef _⟩
    ·rintro zs σ H2 ⟨s2,_⟩
     exact ⟨_,_,MJ (s2 _ _ ta1),MJ (s2 _ _ tc1),.inl (Eh _)⟩
    ·rintro i x zs σ H2 H3 hi' ⟨s2,rfl,v,w,rfl⟩ ⟨p,x1,y1,rfl,hp,rfl,hx1,hy1⟩
     have hx2:=hx1 _ (MJ (s2 _ _ ta1))
     have hy2:=hy1 _ (MJ (s2 _ _ tc1))
     refine bU ab ?_
     dsimp only [Gs]
     nofun
     refine ⟨_,_,rfl,(hi i x1 y1 hx2 hy2).same ((s1.trans s2).new hp),λ H4 s4=>?_⟩
     exact MO hi' ⟨(s2.new hp).trans s4,by rw [Ju],_,_,rfl⟩
    ·rintro zs σ H2 ⟨s2,rfl,v,w,rfl⟩ l hl
     nofun
     rw [<-G3]
     refine vw (MJ ab) ?_
     have ea:(EB xs.length true).all id=true:=by rw [FO]; intro x hx; rw [G4 hx]; rfl
     rw [ea]
     exact k _ ((s1.trans s2).new hl)
   ·refine ⟨_,(ac (aR (az ib (qv 1) dW (au _)) (ai (ao (aH ib (qv 0) dW (au _)))) aE)
   (ac (aR (bB (af (gH (K:=K)) (by rfl) T.ag ad (ah (qv 1) (ah (bt (ah (ar rfl T.bZ bN (v:=.ty "list") rfl) (ah (ar rfl T.aZ aU (v:=.ty "tuple") rfl) aa))) aa)))) (ac (aR (QW.qt (wR (az A5 (af (aI (K:=K)) (by rfl) T.ag ad (ah (qv 0) (ah (ar rfl T.bZ bN (v:=.ty "list") rfl) aa))) (af (aI (K:=K)) (by rfl) T.ag ad (ah (qv 1) (ah (ar rfl T.bZ bN (v:=.ty "list") rfl) aa))) (au _)) (qi (az A5 (af (aI (K:=K)) (by rfl) T.ag ad (ah (qv 0) (ah (ar rfl T.aZ aU (v:=.ty "tuple") rfl) aa))) (af (aI (K:=K)) (by rfl) T.ag ad (ah (qv 1) (ah (ar rfl T.aZ aU (v:=.ty "tuple") rfl) aa))) (au _))))) (ai (ao o0)) aE)
   (ai (ao (bb (aH gD (af (bv (K:=K)) (by rfl) T.bH aX (ah (qv 0) aa)) (af (bv (K:=K)) (by rfl) T.bH aX (ah (qv 1) aa)) (au _)) (bA (af (vy (K:=K) rfl) (by rfl) T.sP vI (ah (bu (N:=["_law_one","_law_other"]) (tgs:=["_law_one","_law_other"]) (frs:=[]) (ix:=[]) ⟨rfl,by decide +kernel,rfl,by decide +kernel,rfl,rfl,Et,Et,rfl⟩ rfl (xa (K:=K) rfl T.sR (ah (qv 0) (ah (qv 1) aa))) (λ _ _ _ _=>(cV (K:=K) (n:=2) rfl (aC (ap (i:=0) (by show EZ (["_law_one","_law_other"]:List Str); decide +kernel) rfl (En rfl)) (aC (ap (i:=1) (by show EZ (["_law_one","_law_other"]:List Str); decide +kernel) rfl (En rfl)) bL)))) (λ _ _ _ _=>(aj (recN T) (hr.mono (by first | decide | lia)) rfl T.oG T.jO.kp T.oE aA (ah (qv 0) (ah (qv 1) aa))))) aa))))))) aE)
   (ac (aR (bB (af (aI (K:=K)) (by rfl) T.ag ad (ah (qv 1) (ah (ar rfl T.bG br (v:=.ty "bool") rfl) aa)))) (ai (ao (bb (af (aI (K:=K)) (by rfl) T.ag ad (ah (qv 0) (ah (ar rfl T.bG br (v:=.ty "bool") rfl) aa))) (bA (aH (wT (K:=K) hr.units0) (qv 0) (qv 1) (au _)))))) aE)
   (ac (aR (bB (af (aI (K:=K)) (by rfl) T.ag ad (ah (qv 1) (ah (ar rfl T.fY dX (v:=.ty "str") rfl) aa)))) (ai (ao (bb (af (aI (K:=K)) (by rfl) T.ag ad (ah (qv 0) (ah (ar rfl T.fY dX (v:=.ty "str") rfl) aa))) (bA (aH (wT (K:=K) hr.units0) (qv 0) (qv 1) (au _)))))) aE)
   (ai (ao (bb (af (aI (K:=K)) (by rfl) T.ag ad (ah (qv 0) (ah (ar rfl T.gC eR (v:=.ty "int") rfl) aa))) (bb (jE (af (aI (K:=K)) (by rfl) T.ag ad (ah (qv 0) (ah (ar rfl T.bG br (v:=.ty "bool") rfl) aa)))) (bA (aH (wT (K:=K) hr.units0) (qv 0) (qv 1) (au _))))))))))),?_⟩
    rw [show L2.aK ["_law_found","_law_due_here"] [MP a,MP c]=[some (MP a),some (MP c)] from rfl]
    nofun
    refine bV (λ h=>by cases h) ?_
    nofun
    refine ⟨aF (by simp),λ tp htp=>?_⟩
    have s1:=(MN H).new (o:=.tup [V.ty "list",V.ty "tuple"]) htp
    have ttp:(upd H tp (.tup [V.ty "list",V.ty "tuple"])) tp=some (.tup [V.ty "list",V.ty "tuple"]):=ab
    generalize upd H tp (.tup [V.ty "list",V.ty "tuple"])=H1 at s1 ttp
    have ta1:=s1 _ _ ta
    have tc1:=s1 _ _ tc
    nofun
    refine uk tc1 ttp ?_
    nofun
    refine lR ta1 ?_
    nofun
    refine lR tc1 ?_
    nofun
    refine jX rfl ?_
    nofun
    refine nH ta1 ?_
    nofun
    refine nH tc1 ?_
    nofun
    refine jX rfl ?_
    nofun
    refine iH (MK ta1) ?_
    nofun
    refine iH (MK tc1) ?_
    nofun
    refine dU (by rw [hl]) ?_
    nofun
    refine ⟨a,c,rfl,⟨_,MK ta1⟩,⟨_,MK tc1⟩,ir (n:=xs.length) (λ i ys σ H2=>Same H1 H2/\ys=EB i (V.bl true)/\∃ v w,σ=[v,w]) (al (by lia)) (λ i ys σ H2 h=>by rw [h.2.1,FF]) ⟨MN _,rfl,none,none,rfl⟩ ?_ ?_ ?_ ?_⟩
    ·rintro i zs σ H2 hi ⟨s2,_⟩
     exact ⟨_,_,xs[i],ys[i]'(by lia),MK (s2 _ _ ta1),MK (s2 _ _ tc1),by simp [hi],Ef _⟩
    ·rintro zs σ H2 ⟨s2,_⟩
     exact ⟨_,MK (s2 _ _ ta1),Eh _⟩
    ·rintro i x zs σ H2 H3 hi' ⟨s2,rfl,v,w,rfl⟩ ⟨p,x1,y1,rfl,hp,rfl,hx1,hy1⟩
     have hx2:=hx1 _ (MK (s2 _ _ ta1))
     have hy2:=hy1 _ (MK (s2 _ _ tc1))
     refine bU ab ?_
     dsimp only [Gs]
     nofun
     refine ⟨_,_,rfl,(hi i x1 y1 hx2 hy2).same ((s1.trans s2).new hp),λ H4 s4=>?_⟩
     exact MO hi' ⟨(s2.new hp).trans s4,by rw [Ju],_,_,rfl⟩
    ·rintro zs σ H2 ⟨s2,rfl,v,w,rfl⟩ l hl
     nofun
     rw [<-G3]
     refine vw (MJ ab) ?_
     have ea:(EB xs.length true).all id=true:=by rw [FO]; intro x hx; rw [G4 hx]; rfl
     rw [ea]
     exact k _ ((s1.trans s2).new hl)
theorem CH {fd:FuncData} {ps:List Str} {sp sp':Sp} (F:FnOk P t.wd K mg base CX0 k f fd ps sp) (G:FnOk P t.wd K mg base CX0 k f fd ps sp'):FnOk P t.wd K mg base CX0 k f fd ps (λ vs H Q E=>sp vs H Q E\/sp' vs H Q E):=
 ⟨λ vs H Q E h=>h.elim (F.len vs H Q E) (G.len vs H Q E),λ A outer s H args us vs Q E hr he hb hv h=>h.elim (F.run A outer s H args us vs Q E hr he hb hv) (G.run A outer s H args us vs Q E hr he hb hv)⟩
theorem om (T:Tx K mg t):∀ n:Nat,FnOk P t.wd K mg base CX0 (n+1) t.jh t.je ["_law_found","_law_due_here"] (CD n)
 | 0=>(oj T 0).imp λ vs H Q E ⟨x,y,e,⟨h,h'⟩,k⟩=>⟨x,by rw [e,h'],h,k⟩
 | n+1=>(CH (oj T (n+1)) (uM T n λ T=>om T n)).imp λ vs H Q E ⟨x,y,e,h,k⟩=>by
  rcases h with ⟨h,h'⟩ | h | h
  ·exact .inl ⟨x,by rw [e,h'],h,k⟩
  ·exact .inr ⟨x,y,e,.inl h,k⟩
  ·exact .inr ⟨x,y,e,.inr h,k⟩
theorem rK (T:Tx K mg t):FnOk P t.wd K mg base CX0 3 t.jh t.je ["_law_found","_law_due_here"] (CD 2):=om T 2
theorem xP {K:Ee} {H:Hp} {Q:VK} (s:H p=some (.lst xs)\/H p=some (.tup xs)) (h:Q (.int xs.length) H):zf K [.ref p] H Q:=s.elim (λ s=>bj (MJ s) h) (λ s=>iH (MK s) h)
noncomputable def RowsT (H:Hp) (ps:List Addr) (rss:List (List Nat)):Prop:=ps.length=rss.length/\∀ (i:Nat) p r,ps[i]? = some p->rss[i]? = some r->H p=some (.tup (NV r))
theorem RowsT.same {H:Hp} {ps:List Addr} (h:RowsT H ps rss) (e:Same H H1):RowsT H1 ps rss:=⟨h.1,λ i p z a c=>e _ _ (h.2 i p z a c)⟩
noncomputable def uN (rss:List (List Nat)) (w b:Nat):Prop:=∀ r∈rss,r.length=w/\∀ x∈r,x<b
theorem rL {w:Nat} (h:uN rss w b) (hr:rss[i]? = some r) (hc:c<w):r[c]? = some (r.getD c 0)/\(bw rss c)[i]? = some (r.getD c 0):=by
 have hl:=(h r (EN hr)).1
 constructor
 ·have:c<r.length:=by lia
  simp [this]
 ·unfold bw
  rw [El,hr]; rfl
theorem Ab {w:Nat} (h:uN rss w b) (hc:c<w):∀ o∈bw rss c,o<b:=λ o ho=>by
 obtain ⟨r,hr,rfl⟩:=Es.mp ho
 obtain ⟨h1,h2⟩:=h r hr
 have:c<r.length:=by lia
 apply h2
 rw [Ej,Ef this]
 exact EQ this
theorem kC (rss:List (List Nat)) (c:Nat):(bw rss c).length=rss.length:=by simp [bw]
noncomputable def uO:Sp:=λ vs H Q _=>∃ (a:Addr) (os:List Nat) (b:Nat),vs=[.ref a,.int b]/\(H a=some (.lst (NV os))/\True)/\(∀ o∈os,o<b)/\os.length<=200/\b<=64/\∀ (l:Addr) H',H l=none->Same H H'->H' l=some (.lst (NV (cnt os b)))->Q (.ref l) H'
theorem rM (T:Tx K mg t):FnOk P t.wd K mg base CX0 1 t.kO t.kL ["row","base"] uO:=by
 refine T.oA.okQ sc_counts (λ vs H Q E h=>?_) (λ cdv A outer s H vs Q E hr h=>?_)
 ·obtain ⟨a,os,b,rfl,_⟩:=h
  rfl
 ·obtain ⟨a,os,b,rfl,ta,hob,hol,hb,k⟩:=h
  obtain ⟨ta,_⟩:=ta
  ·refine ⟨_,(ac (av (i:=2) sc_counts.nd rfl (En rfl) (ay zo (aO (ah ae aa)) (qv 1)))
   (ac (bP ET rfl (bq (K:=K) (qv 0)) (ap (i:=3) sc_counts.nd rfl (En rfl)) (ai (uc (K:=K) (qv 2) (qv 3) ae)))
   (ai (ao (qv 2))))),?_⟩
   rw [show L2.aK ["row","base","often","figure"] [MP a,ML b]=[some (MP a),some (ML b),none,none] from rfl]
   nofun
   refine ⟨aF (by simp),λ q0 hq0=>?_⟩
   have s2:=(MN H).new (o:=.lst [ML 0]) hq0
   have t0:(upd H q0 (.lst [ML 0])) q0=some (.lst [ML 0]):=ab
   generalize upd H q0 (.lst [ML 0])=H2 at s2 t0
   nofun
   refine ⟨q0,_,_,rfl,rfl,t0,by lia,by lia,aF (by simp; lia),λ m hm=>?_⟩
   have efl:(EB ((b:Nat):Int).toNat [ML 0]).flatten=NV (cnt [] b):=by
    show (EB b [ML 0]).flatten=_
    rw [List.flatten_replicate_singleton,NV,L2.cnt,E6]
    apply Iz (by simp)
    intro i h1 h2
    simp
   rw [efl]
   have hmn:H m=none:=s2.free hm
   have s3:=s2.new (o:=.lst (NV (cnt [] b))) hm
   have tm:(upd H2 m (.lst (NV (cnt [] b)))) m=some (.lst (NV (cnt [] b))):=ab
   generalize upd H2 m (.lst (NV (cnt [] b)))=H3 at s3 tm
   nofun
   refine ⟨a,rfl,⟨_,MJ (s3 _ _ ta)⟩,dz (a:=a) (xs:=NV os) (λ i σ H'=>Same H H'/\H' m=some (.lst (NV (cnt (os.take i) b)))/\∃ v,σ=[some (MP a),some (ML b),some (MP m),v]) ⟨s3,tm,none,rfl⟩ (λ i σ H' _ h=>MJ (h.1 _ _ ta)) ?_ ?_⟩
   ·rintro i x σ H4 hx ⟨s4,tm4,v,rfl⟩
    obtain ⟨o,rfl,ho,hom,hi⟩:=aT hx
    have hlt:=hob o hom
    nofun
    refine ⟨m,_,_,_,rfl,rfl,MJ tm4,by lia,vB (j6 hlt),?_⟩
    nofun
    refine ⟨_,_,rfl,rfl,?_⟩
    refine qh tm4 (zC rfl (by rw [aQ,fI]; exact hlt)) ?_
    refine ⟨s4.own hmn,?_,_,rfl⟩
    rw [ab,EC,ho]
    show some (HO.lst ((NV (cnt (os.take i) b)).set o (ML ((((os.take i).count o+1:Nat)):Int))))=some (HO.lst (NV (cnt (os.take i++[o]) b)))
    rw [qA,ud hlt]
   ·rintro σ H4 ⟨s4,tm4,v,rfl⟩
    rw [Em (by rw [aQ]; exact Eh _)] at tm4
    nofun
    exact k m H4 hmn s4 tm4
noncomputable def uP:Sp:=λ vs H Q _=>∃ (a:Addr) (os:List Nat),vs=[.ref a]/\(H a=some (.lst (NV os))\/False)/\os.length<=64/\∀ H',Same H H'->Q (.bl (gi os)) H'
theorem lS {os:List Nat} {o:Nat} (h:os[i]? = some o):ug (os.take (i+1))=ug (os.take i)++(if 0<o then [o] else []):=by
 unfold ug
 rw [EC,h,Gb]
 congr 1
 simp only [Lg]
 split<;>simp_all
theorem uQ (os:List Nat) (i:Nat):(ug (os.take i)).length<=i:=by
 refine Fb (Fv _ _) ?_
 rw [EV]; lia
theorem lT (T:Tx K mg t):FnOk P t.wd K mg base CX0 1 t.fU t.fR ["often"] uP:=by
 refine T.i4.okQ lQ (λ vs H Q E h=>?_) (λ cdv A outer s H vs Q E hr h=>?_)
 ·obtain ⟨a,os,rfl,_⟩:=h
  rfl
 ·obtain ⟨a,os,rfl,ha,hol,k⟩:=h
  have e9:decide (((ug os).length:Int) > 1)=gi os:=by
   unfold gi
   exact decide_eq_decide.mpr (by lia)
  rcases ha with ta | ta
  ·refine ⟨_,(ai (ao (aH mN (af (bv (K:=K)) (by rfl) T.bH aX (ah (j5 (N:=["many"]) (tgs:=["many"]) (frs:=[]) (ix:=[]) ⟨rfl,by decide +kernel,rfl,by decide +kernel,rfl,rfl,Et,Et,rfl⟩ rfl (bq (K:=K) (qv 0)) (λ _ _ _ _=>(ap (i:=0) (by show EZ (["many"]:List Str); decide +kernel) rfl (En rfl))) (λ _ _ _ _=>(qv 0)) (λ _ _ _ _=>(az mN (qv 0) ae (au _)))) aa)) ae (au _)))),?_⟩
   rw [show L2.aK ["often"] [MP a]=[some (MP a)] from rfl]
   nofun
   refine ⟨a,rfl,⟨_,MJ ta⟩,lw (a:=a) (vs:=NV os) (λ i ys σ H'=>H'=H/\ys=NV (ug (os.take i))/\∃ v,σ=[v]) (by rw [aQ]; exact al (by lia)) (λ i ys σ H' h=>by rw [h.2.1,aQ]; exact uQ os i) (λ i ys σ H' h=>by rw [h.1]; exact MJ ta) ⟨rfl,rfl,none,rfl⟩ ?_ ?_⟩
   ·rintro i ys σ H' x hx ⟨rfl,rfl,v,rfl⟩
    have hil:=bQ hx
    obtain ⟨o,rfl,ho,_,_⟩:=aT hx
    nofun
    refine aW (λ g=>?_) (λ g=>?_)
    ·nofun
     refine MO hil ⟨rfl,?_,_,rfl⟩
     rw [bS,lS ho,if_pos (by lia)]
    ·refine MO hil ⟨rfl,?_,_,rfl⟩
     rw [lS ho,if_neg (by lia),Fh]
   ·rintro ys σ H' ⟨rfl,rfl,v,rfl⟩ l hl
    rw [Em (by rw [aQ]; exact Eh _)]
    nofun
    refine bj (MJ ab) ?_
    rw [aQ]
    nofun
    rw [e9]
    exact k _ ((MN H').new hl)
  ·exact ta.elim
noncomputable def Ac (K:Ee):Sp:=λ vs H Q _=>∃ (a:Addr) (ps:List Addr) (rss:List (List Nat)) (w:Nat),vs=[.ref a]/\H a=some (.lst (ps.map MP))/\ps.length=rss.length/\(∀ p,ps[0]? = some p->∃ zs,(H p=some (.lst zs)\/H p=some (.tup zs))/\zs.length=w)/\Q (.int ((if rss=[] then 0 else w:Nat):Int)) H
theorem eS (T:Tx K mg t):FnOk P t.wd K mg base CX0 1 t.dm t.dh ["rows"] (Ac K):=by
 refine T.db.okQ iY (λ vs H Q E h=>?_) (λ cdv A outer s H vs Q E hr h=>?_)
 ·obtain ⟨a,ps,rss,w,rfl,_⟩:=h
  rfl
 ·obtain ⟨a,ps,rss,w,rfl,ta,hl,hw,k⟩:=h
  refine ⟨_,(ac (aR (lc (jZ (K:=K) (qv 0))) (ai (ao ae)) aE)
   (ai (ao (af (bv (K:=K)) (by rfl) T.bH aX (ah (ba (bE (K:=K)) (qv 0) ae) aa))))),?_⟩
  rw [show L2.aK ["rows"] [MP a]=[some (MP a)] from rfl]
  nofun
  refine ⟨_,Dk (MJ ta),?_⟩
  cases ps with
  | nil=>
   have:rss=[]:=FK.mp hl.symm
   rw [if_pos this] at k
   nofun
   exact k
  | cons p r=>
   have:rss≠[]:=λ z=>by rw [z] at hl; simp at hl
   rw [if_neg this] at k
   obtain ⟨zs,hz,hzl⟩:=hw p rfl
   refine bK ?_
   nofun
   refine cb (MJ ta) (v:=MP p) (bJ (j:=0) rfl) ?_
   nofun
   refine ⟨p,zs,rfl,hz.elim (λ h=>.inl (MJ h)) (λ h=>.inr (MK h)),?_⟩
   rw [hzl]
   nofun
   exact k
noncomputable def xQ (K:Ee):Sp:=λ vs H Q _=>∃ (a:Addr) (ps:List Addr) (rss:List (List Nat)) (w b:Nat),vs=[.ref a,.int b]/\H a=some (.lst (ps.map MP))/\RowsT H ps rss/\uN rss w b/\rss.length<=61/\w<=200/\b<=64/\
 ∀ (l:Addr) (qs:List Addr) H',H l=none->(∀ q∈qs,H q=none)->l∉qs->Same H H'->H' l=some (.lst (qs.map MP))->LsAt H' qs (cA rss w b)->Q (.ref l) H'
theorem uR (T:Tx K mg t):FnOk P t.wd K mg base CX0 2 t.nk t.nj ["rows","base"] (xQ K):=by
 refine T.sr.okQ uL (λ vs H Q E h=>?_) (λ cdv A outer s H vs Q E hr h=>?_)
 ·obtain ⟨a,ps,rss,w,b,rfl,_⟩:=h
  rfl
 ·obtain ⟨a,ps,rss,w,b,rfl,ta,hR,hG,hn,hw,hb,k⟩:=h
  have hpl:ps.length=rss.length:=hR.1
  have hW:(if rss=[] then 0 else w)<=w:=by split<;>lia
  have hcols:∀ p,ps[0]? = some p->∃ zs,(H p=some (.lst zs)\/H p=some (.tup zs))/\zs.length=w:=λ p hp=>by
   have h0:0<rss.length:=by rw [<-hpl]; exact bQ hp
   have hl:=(hG rss[0] (EQ h0)).1
   have e0:rss[0]? = some rss[0]:=by simp
   exact ⟨_,.inr (hR.2 0 p _ hp e0),by rw [aQ]; exact hl⟩
  ·refine ⟨_,(ai (ao (ua (xc:="column") (N:=["column","rows","base"]) (tgs:=["column"]) (frs:=["rows","base"]) (ix:=[0,1]) ⟨rfl,λ _=>rfl,λ _=>rfl,rfl,by decide +kernel,rfl,rfl,⟨⟨rfl,rfl,_,rfl,rfl⟩,⟨rfl,rfl,_,rfl,rfl⟩,Et⟩,by decide +kernel,⟨rfl,rfl,Et⟩,rfl⟩ rfl (bD rfl T.bx (ah (aj (eS T) (hr.mono (by decide)) rfl T.fC T.db.kp T.fz aA (ah (qv 0) aa)) aa)) (λ _ _ _ _=>(ap (i:=0) (by show EZ (["column","rows","base"]:List Str); decide +kernel) rfl (Gh rfl))) (λ _ _ _ _=>(aj (rM T) (hr.mono (by decide)) rfl T.ve T.oA.kp T.vc aA (ah (bu (N:=["row","column"]) (tgs:=["row"]) (frs:=["column"]) (ix:=[0]) ⟨rfl,by decide +kernel,rfl,by decide +kernel,rfl,rfl,⟨⟨rfl,rfl,_,rfl,rfl⟩,Et⟩,⟨rfl,Et⟩,rfl⟩ rfl (bq (K:=K) (qv 1)) (λ _ _ _ _=>(ap (i:=0) (by show EZ (["row","column"]:List Str); decide +kernel) rfl (En rfl))) (λ _ _ _ _=>(ba (lj (K:=K)) (qv 0) (qv 1)))) (ah (qv 2) aa))))))),?_⟩
   rw [show L2.aK ["rows","base"] [MP a,ML b]=[some (MP a),some (ML b)] from rfl]
   nofun
   refine ⟨a,ps,rss,w,rfl,ta,hpl,hcols,?_⟩
   nofun
   refine ⟨_,rfl,by lia,by lia,j4 (n:=if rss=[] then 0 else w) (λ i ys σ H'=>Same H H'/\(∃ qs:List Addr,ys=qs.map MP/\qs.length=i/\LsAt H' qs ((cA rss w b).take i)/\∀ q∈qs,H q=none)/\∃ v,σ=[v,some (MP a),some (ML b)]) (al (by lia)) (λ i ys σ H' h=>by obtain ⟨_,⟨qs,rfl,e,_⟩,_⟩:=h; rw [Ed,e]) ⟨MN _,⟨[],rfl,rfl,LsAt.nil,λ q h=>nomatch h⟩,none,rfl⟩ ?_ ?_⟩
   ·rintro c ys σ H1 hc ⟨s1,⟨qs,rfl,hql,hQ,hfr⟩,v,rfl⟩
    have hcw:c<w:=by lia
    rw [G1]
    nofun
    refine ⟨a,rfl,⟨_,MJ (s1 _ _ ta)⟩,cv (a:=a) (vs:=ps.map MP) (λ i ys σ H'=>H'=H1/\i<=rss.length/\ys=NV ((bw rss c).take i)/\∃ v,σ=[v,some (ML c)]) (by rw [Ed,hpl]; exact al (by lia)) (λ i ys σ H' h=>by rw [h.2.2.1,aQ,EV,kC]; lia) (λ i ys σ H' h=>by rw [h.1]; exact MJ (s1 _ _ ta)) ⟨rfl,EI _,rfl,none,rfl⟩ ?_ ?_⟩
    ·rintro i ys σ H' x hx ⟨rfl,_,rfl,v,rfl⟩
     have hil:=bQ hx
     obtain ⟨p,rfl,hp,_,hi⟩:=aT hx
     have hir:i<rss.length:=by rw [<-hpl]; exact hi
     have er:rss[i]? = some rss[i]:=by simp [hir]
     obtain ⟨g1,g2⟩:=rL hG er hcw
     nofun
     refine qg (MK (s1 _ _ (hR.2 i p _ hp er))) (wZ rfl g1) ?_
     refine MO hil ⟨rfl,hir,?_,_,rfl⟩
     rw [bS,EC,g2]; rfl
    ·rintro ys σ H' ⟨rfl,_,rfl,v,rfl⟩ z hz
     rw [Em (by rw [kC,Ed,hpl]; exact Eh _)]
     have s2:=s1.new (o:=.lst (NV (bw rss c))) hz
     have tz:(upd H' z (.lst (NV (bw rss c)))) z=some (.lst (NV (bw rss c))):=ab
     have s12:=(MN H').new (o:=.lst (NV (bw rss c))) hz
     generalize upd H' z (.lst (NV (bw rss c)))=H2 at s2 tz s12
     nofun
     refine ⟨z,bw rss c,b,rfl,⟨tz,trivial⟩,Ab hG hcw,by rw [kC]; lia,hb,λ l H3 hl s3 tl=>?_⟩
     refine MO hc ⟨s2.trans s3,⟨qs++[l],by rw [EA]; rfl,by simp [hql],?_,λ q hq=>?_⟩,_,rfl⟩
     ·rw [o8 hc]
      exact (hQ.same (s12.trans s3)).snoc tl
     ·rcases EX.mp hq with g | g
      ·exact hfr q g
      ·rw [EL.mp g]; exact s2.free hl
   ·rintro ys σ H1 ⟨s1,⟨qs,rfl,hql,hQ,hfr⟩,v,rfl⟩ l hl
    rw [Em (by rw [iN]; exact Eh _)] at hQ
    refine k l qs _ (s1.free hl) hfr (λ hq=>?_) (s1.new hl) ab (hQ.same ((MN H1).new hl))
    obtain ⟨ns,_,e⟩:=hQ.some hq
    rw [hl] at e; cases e
noncomputable def xR:Sp:=λ vs H Q _=>∃ (a:Addr) (ps:List Addr) (tss:List (List Nat)),vs=[.ref a]/\((H a=some (.lst (ps.map MP))/\LsAt H ps tss)\/(False/\RowsT H ps tss))/\tss.length<=200/\(∀ r∈tss,r.length<=64)/\
 ∀ (t l:Addr) H',H l=none->H t=none->Same H H'->H' t=some (.tup [.ref l,.int (qI tss:Nat)])->H' l=some (.lst (NV (cB tss)))->Q (.ref t) H'
theorem rN (tss:List (List Nat)):(cB tss).length<=tss.length:=by rw [<-lz]; exact lA _
theorem ic (T:Tx K mg t):FnOk P t.wd K mg base CX0 2 t.cN t.cJ ["tally"] xR:=by
 refine T.eV.okQ sc_ahead_of_last (λ vs H Q E h=>?_) (λ cdv A outer s H vs Q E hr h=>?_)
 ·obtain ⟨a,ps,tss,rfl,_⟩:=h
  rfl
 ·obtain ⟨a,ps,tss,rfl,hR,hn,hr',k⟩:=h
  rcases hR with ⟨ta,hR⟩ | ⟨ta,hR⟩
  ·have hpl:ps.length=tss.length:=hR.1
   refine ⟨_,(ac (xf (i:=1) (N:=["column","tally"]) (tgs:=["column"]) (frs:=["tally"]) (ix:=[0])  sc_ahead_of_last.nd rfl (En rfl) ⟨rfl,by decide +kernel,rfl,by decide +kernel,rfl,rfl,⟨⟨rfl,rfl,_,rfl,rfl⟩,Et⟩,⟨rfl,Et⟩,rfl⟩ rfl (qD rfl T.bx (ah (ay eK (af (bv (K:=K)) (by rfl) T.bH aX (ah (qv 0) aa)) ae) (ah (la li ae) (ah (la li ae) aa)))) (λ _ _ _ _=>(ap (i:=0) (by show EZ (["column","tally"]:List Str); decide +kernel) rfl (En rfl))) (λ _ _ _ _=>(qv 0)) (λ _ _ _ _=>(bB (aj (lT T) (hr.mono (by decide)) rfl T.nr T.i4.kp T.ng aA (ah (ba (bE (K:=K)) (qv 1) (qv 0)) aa)))))
   (ai (ao (bt (ah (qv 1) (ah (af (iJ (K:=K) rfl) (by rfl) T.jA iX (ah (bu (N:=["column","tally"]) (tgs:=["column"]) (frs:=["tally"]) (ix:=[0]) ⟨rfl,by decide +kernel,rfl,by decide +kernel,rfl,rfl,⟨⟨rfl,rfl,_,rfl,rfl⟩,Et⟩,⟨rfl,Et⟩,rfl⟩ rfl (bq (K:=K) (qv 1)) (λ _ _ _ _=>(ap (i:=0) (by show EZ (["column","tally"]:List Str); decide +kernel) rfl (En rfl))) (λ _ _ _ _=>(af (iJ (K:=K) rfl) (by rfl) T.jA iX (ah (ba (bE (K:=K)) (qv 1) (qv 0)) aa)))) aa)) aa)))))),?_⟩
   rw [show L2.aK ["tally","columns"] [MP a]=[some (MP a),none] from rfl]
   nofun
   refine bj (MJ ta) ?_
   rw [Ed,hpl]
   nofun
   refine ⟨_,rfl,by lia,iO (n:=tss.length) (λ i ys σ H'=>Same H H'/\ys=NV (ly tss i)/\∃ v,σ=[v,some (MP a)]) (al (by lia)) (λ i ys σ H' h=>by rw [h.2.1,aQ]; exact lA i) ⟨MN _,rfl,none,rfl⟩ (λ i ys σ H' hi _=>hi) (λ ys σ H' _=>Eh _) ?_ ?_⟩
   ·rintro i x ys σ H1o H1 hi ⟨s1,rfl,v,rfl⟩ ⟨rfl,rfl⟩
    have esc:=pc hi
    have hcm:tss.length - 1 - i<tss.length:=by lia
    generalize tss.length - 1 - i=c at hcm esc
    have hcp:c<ps.length:=by lia
    have eg:tss.getD c []=tss[c]:=by rw [Ej,Ef hcm]; rfl
    rw [eg] at esc
    nofun
    refine cb (MJ (s1 _ _ ta)) (v:=MP ps[c]) (bJ (by rw [El]; simp [hcp])) ?_
    refine ⟨ps[c],tss[c],rfl,.inl (s1 _ _ (hR.2 c _ _ (by simp [hcp]) (by simp [hcm]))),hr' _ (EQ hcm),λ H2 s2=>?_⟩
    nofun
    by_cases hp:gi tss[c]=true
    ·rw [if_pos hp] at esc ⊢
     nofun
     refine MO hi ⟨s1.trans s2,?_,_,rfl⟩
     rw [bS,esc]
    ·rw [if_neg hp] at esc ⊢
     refine MO hi ⟨s1.trans s2,?_,_,rfl⟩
     rw [esc,Fh]
   rintro ys σ H1 ⟨s1,rfl,v,rfl⟩ l hl
   rw [lz]
   have hcl:=rN tss
   have hln:H l=none:=s1.free hl
   have s2:=s1.new (o:=.lst (NV (cB tss))) hl
   have tl:(upd H1 l (.lst (NV (cB tss)))) l=some (.lst (NV (cB tss))):=ab
   generalize upd H1 l (.lst (NV (cB tss)))=H2 at s2 tl
   nofun
   refine ⟨l,rfl,⟨_,MJ tl⟩,cv (a:=l) (vs:=NV (cB tss)) (λ i ys σ H'=>H'=H2/\i<=(cB tss).length/\ys=NV (((cB tss).map λ c=>(tss.getD c []).sum).take i)/\∃ v,σ=[v,some (MP a)]) (by rw [aQ]; exact al (by lia)) (λ i ys σ H' h=>by rw [h.2.2.1,aQ,EV,Ed]; lia) (λ i ys σ H' h=>by rw [h.1]; exact MJ tl) ⟨rfl,EI _,rfl,none,rfl⟩ ?_ ?_⟩
   ·rintro i ys σ H' x hx ⟨rfl,_,rfl,v,rfl⟩
    have hil:=bQ hx
    obtain ⟨c,rfl,hc,hcmm,hi⟩:=aT hx
    have hcm:=qH hcmm
    have hcp:c<ps.length:=by lia
    have eg:tss.getD c []=tss[c]:=by rw [Ej,Ef hcm]; rfl
    nofun
    refine cb (MJ (s2 _ _ ta)) (v:=MP ps[c]) (bJ (by rw [El]; simp [hcp])) ?_
    nofun
    refine gW (ns:=tss[c].map λ x:Nat=>(x:Int)) (MJ (by rw [<-gh]; exact s2 _ _ (hR.2 c _ _ (by simp [hcp]) (by simp [hcm])))) ?_
    rw [cC]
    refine MO hil ⟨rfl,hi,?_,_,rfl⟩
    rw [bS,EC,El,hc]
    show _=NV (_++[(tss.getD c []).sum])
    rw [eg]
   rintro ys σ H' ⟨rfl,_,rfl,v,rfl⟩ z hz
   rw [Em (by rw [aQ,Ed]; exact Eh _)]
   have s3:=s2.new (o:=.lst (NV ((cB tss).map λ c=>(tss.getD c []).sum))) hz
   have tl3:(upd H' z (.lst (NV ((cB tss).map λ c=>(tss.getD c []).sum)))) l=some (.lst (NV (cB tss))):=by rw [aq (ak tl hz)]; exact tl
   have tz:(upd H' z (.lst (NV ((cB tss).map λ c=>(tss.getD c []).sum)))) z=some (.lst (NV ((cB tss).map λ c=>(tss.getD c []).sum))):=ab
   generalize upd H' z (.lst (NV ((cB tss).map λ c=>(tss.getD c []).sum)))=H3 at s3 tl3 tz
   nofun
   refine gW (ns:=((cB tss).map λ c=>(tss.getD c []).sum).map λ x:Nat=>(x:Int)) (MJ (by rw [<-gh]; exact tz)) ?_
   rw [cC]
   nofun
   exact ⟨aF (by simp),λ t ht=>k t l _ hln (s3.free ht) (s3.new ht) ab (by rw [aq (ak tl3 ht)]; exact tl3)⟩
  ·exact ta.elim
noncomputable def bgs (rss:List (List Nat)) (c:Nat):List (List Int):=rss.map λ r=>aY (r.take c)
noncomputable def PairsAt (H:Hp) (as qs:List Addr) (zs:List (List Int×Int)):Prop:=as.length=zs.length/\qs.length=zs.length/\∀ (i:Nat) a q z,as[i]? = some a->qs[i]? = some q->zs[i]? = some z->H a=some (.tup [.ref q,.int z.2])/\H q=some (.tup (z.1.map ML))
theorem PairsAt.same {H:Hp} {zs:List (List Int×Int)} (h:PairsAt H as qs zs) (s:Same H H'):PairsAt H' as qs zs:=⟨h.1,h.2.1,λ i a q z e1 e2 e3=>⟨s _ _ (h.2.2 i a q z e1 e2 e3).1,s _ _ (h.2.2 i a q z e1 e2 e3).2⟩⟩
theorem uS (h:rss[i]? = some r):bgs (rss.take (i+1)) c=bgs (rss.take i) c++[aY (r.take c)]:=by
 unfold bgs
 rw [EC,h,EA]
 rfl
theorem vL:(g9 (aY r)).map kV=NV r:=by rw [m4,gh]; rfl
noncomputable def Ae (K:Ee):Sp:=λ vs H Q _=>∃ (a:Addr) (ps:List Addr) (rss:List (List Nat)) (c w:Nat),vs=[.ref a,.int c]/\H a=some (.lst (ps.map MP))/\RowsT H ps rss/\(∀ r∈rss,r.length=w)/\c<=w/\w<=200/\rss.length<=61/\
 ∀ (d:Addr) (as qs:List Addr) (zs:List (List Int×Int)) H',H d=none->Same H H'->H' d=some (.lst (as.map MP))->PairsAt H' as qs zs->Bgs (bgs rss c) zs->Q (.ref d) H'
theorem kD (T:Tx K mg t):FnOk P t.wd K mg base CX0 1 t.fe t.e7 ["rows","column"] (Ae K):=by
 refine T.hJ.okQ sc_beginnings (λ vs H Q E h=>?_) (λ cdv A outer s H vs Q E hr h=>?_)
 ·obtain ⟨a,ps,rss,c,w,rfl,_⟩:=h
  rfl
 ·obtain ⟨a,ps,rss,c,w,rfl,ta,hR,hw,hcw,hw1,hn,q⟩:=h
  have hpl:ps.length=rss.length:=hR.1
  have fin:∀ (o:Addr) (H1:Hp) (cs:List (List Int×Int)) (Q':VK),H o=none->Same H H1->H1 o=some (.dT (cs.map dTf))->Cn (bgs rss c) cs->cs.length<=rss.length->(∀ v H2,Q v H2->Q' v H2)->∃ (a:Addr) (ps:List (List Int×Int)),MP o=.ref a/\H1 a=some (.dT (ps.map λ q=>(g9 q.1,ML q.2)))/\ps.length<64/\
    ∀ (d:Addr) (as qs:List Addr) (zs:List (List Int×Int)) H',H1 d=none->Same H1 H'->H' d=some (.lst (as.map MP))->as.length=zs.length->qs.length=zs.length->zs.Perm ps->zs.Pairwise (λ y z=>HT.bp z.1 y.1=false)->
     (∀ (i:Nat) a q z,as[i]? = some a->qs[i]? = some q->zs[i]? = some z->H' a=some (.tup [.ref q,.int z.2])/\H' q=some (.tup (z.1.map ML)))->Q' (.ref d) H':=λ o H1 cs Q' ho s1 to hC hl hQ=>
   ⟨o,cs,rfl,to,by lia,λ d as qs zs H' hd s2 td l1 l2 hp hs hz=>hQ _ _ (q d as qs zs H' (s1.free hd) (s1.trans s2) td ⟨l1,l2,hz⟩ (hC.bgs hp hs))⟩
  ·refine ⟨_,(ac (av (i:=2) sc_beginnings.nd rfl (En rfl) n9)
   (ac (bP ET rfl (bq (K:=K) (qv 0)) (ap (i:=3) sc_beginnings.nd rfl (En rfl)) (ac (av (i:=4) sc_beginnings.nd rfl (En rfl) (aM (cW (K:=K)) (by rfl) T.aZ aU (ah (ip vD (qv 3) qj (gF (qv 1))) aa)))
   (ai (qW (qc hr) (qv 2) (qv 4) (ay cS (kn (qc hr) (qv 2) (qv 4) ae) ae)))))
   (ai (ao (rb rfl hr.units rfl T.iC (qv 2)))))),?_⟩
   rw [show L2.aK ["rows","column","often","row","beginning"] [MP a,ML c]=[some (MP a),some (ML c),none,none,none] from rfl]
   nofun
   intro o ho
   have s1:=(MN H).new (o:=.dT []) ho
   have to:(upd H o (.dT [])) o=some (.dT (([]:List (List Int×Int)).map dTf)):=ab
   generalize upd H o (.dT [])=H1 at s1 to
   nofun
   refine ⟨a,rfl,⟨_,MJ (s1 _ _ ta)⟩,dz (a:=a) (xs:=ps.map MP) (λ i σ H2=>Same H H2/\(∃ cs:List (List Int×Int),H2 o=some (.dT (cs.map dTf))/\Cn (bgs (rss.take i) c) cs/\cs.length<=i)/\∃ v x,σ=[some (MP a),some (ML c),some (MP o),v,x]) ⟨s1,⟨[],to,by rw [G9]; exact Cn.nil,Eh _⟩,_,_,rfl⟩ (λ i σ H2 _ h=>MJ (h.1 _ _ ta)) ?_ ?_⟩
   ·rintro i x σ H2 hx ⟨s2,⟨cs,to2,hC,hcl⟩,v,x',rfl⟩
    obtain ⟨p,rfl,hp,_,hi⟩:=aT hx
    have hir:i<rss.length:=by lia
    have er:rss[i]? = some rss[i]:=by simp [hir]
    have tp:=s2 _ _ (hR.2 i p rss[i] hp er)
    have hrl:rss[i].length=w:=hw _ (EQ _)
    rw [uS er]
    generalize rss[i]=r at tp hrl
    nofun
    refine ⟨_,rfl,p,_,rfl,tp,λ b H3 s3 tb=>?_⟩
    rw [qC _ _ (by lia)] at tb
    have to3:=s3 _ _ to2
    nofun
    refine ⟨b,_,rfl,.inr ⟨MK tb,?_⟩⟩
    nofun
    refine ⟨o,rfl,.inr ⟨_,.inl to3⟩,?_⟩
    nofun
    obtain ⟨m,cs',e1,e2,hC',hl'⟩:=hC.step (aY (r.take c))
    refine ⟨_,DGet.t to3 (k:=g9 (aY (r.take c))) (by rw [vL]; exact tb),?_⟩
    rw [e1]
    nofun
    refine ⟨o,_,rfl,DPut.t to3 (k:=g9 (aY (r.take c))) (by rw [vL]; exact tb) (by rw [Ed]; exact al (by lia)),?_⟩
    rw [e2]
    exact ⟨(s2.trans s3).own ho,⟨cs',ab,hC',by lia⟩,_,_,rfl⟩
   ·rintro σ H2 ⟨s2,⟨cs,to2,hC,hcl⟩,v,x',rfl⟩
    rw [Ed] at hC hcl
    rw [Em (by lia)] at hC
    nofun
    exact fin o H2 cs _ ho s2 to2 hC (by lia) λ _ _ z=>z
theorem TrAt.nil {H:Hp}:TrAt H [] []:=⟨rfl,λ i q s h=>by simp at h⟩
theorem iB (h:rss[i]? = some r):rss.getD i []=r:=by rw [Ej,h]; rfl
noncomputable def Af:Sp:=λ vs H Q _=>∃ (a:Addr) (ps:List Addr) (rss:List (List Nat)),vs=[.ref a]/\H a=some (.lst (ps.map MP))/\RowsT H ps rss/\rss.length<=61/\∀ (l:Addr) H',H l=none->Same H H'->H' l=some (.lst (NV (bI rss rss.length)))->Q (.ref l) H'
theorem xS (T:Tx K mg t):FnOk P t.wd K mg base CX0 1 t.sL t.sD ["rows"] Af:=by
 refine T.vT.okQ sc_runs (λ vs H Q E h=>?_) (λ cdv A outer s H vs Q E hr h=>?_)
 ·obtain ⟨a,ps,rss,rfl,_⟩:=h
  rfl
 ·obtain ⟨a,ps,rss,rfl,ta,hR,hn,k⟩:=h
  have hpl:ps.length=rss.length:=hR.1
  refine ⟨_,(ac (av (i:=1) sc_runs.nd rfl (En rfl) (aO aa))
   (ac (bP ET rfl (lr (K:=K) rfl T.cR (ah (qv 0) aa)) (cV (K:=K) (n:=2) rfl (aC (ap (i:=2) sc_runs.nd rfl (En rfl)) (aC (ap (i:=3) sc_runs.nd rfl (En rfl)) bL))) (ai (aR (QW.qt (nJ (az mN (qv 2) ae (au _)) (j0 (az (zK (K:=K) hr.units0) (aM (cW (K:=K)) (by rfl) T.aZ aU (ah (ba (bE (K:=K)) (qv 0) (ay eK (qv 2) ae)) aa)) (aM (cW (K:=K)) (by rfl) T.aZ aU (ah (qv 3) aa)) (au _))))) (ai (ul (K:=K) (qv 1) (la li ae) ae)) (ai (bM (bC (K:=K) (qv 1) (ah ae aa)))))))
   (ai (ao (qv 1))))),?_⟩
  rw [show L2.aK ["rows","lengths","place","row"] [MP a]=[some (MP a),none,none,none] from rfl]
  nofun
  refine ⟨aF (by simp),λ l hl=>?_⟩
  have s1:=(MN H).new (o:=.lst []) hl
  have tl:(upd H l (.lst [])) l=some (.lst (NV (bI rss 0))):=ab
  generalize upd H l (.lst [])=H1 at s1 tl
  nofun
  refine ⟨a,rfl,⟨_,MJ (s1 _ _ ta)⟩,mO (n:=rss.length) (λ i σ H'=>Same H H'/\H' l=some (.lst (NV (bI rss i)))/\∃ v w,σ=[some (MP a),some (MP l),v,w]) ⟨s1,tl,none,none,rfl⟩ ?_ ?_ ?_ ?_⟩
  ·rintro i σ H2 hi ⟨s2,_⟩
   have hip:i<ps.length:=by lia
   exact ⟨_,_,MJ (s2 _ _ ta),by rw [El,Ef hip]; rfl⟩
  ·rintro σ H2 ⟨s2,_⟩
   exact ⟨_,MJ (s2 _ _ ta),by rw [Ed]; exact hpl⟩
  ·rintro i x σ H2 H3 hi ⟨s2,t2,v,w,rfl⟩ ⟨q,x1,rfl,hq,rfl,hx1⟩
   have hx2:=hx1 _ (MJ (s2 _ _ ta))
   obtain ⟨p,rfl,hp,hpm,hip⟩:=aT hx2
   refine bU ab ?_
   dsimp only [Gs]
   have s3:=s2.new (o:=.tup [ML (i:Nat),MP p]) hq
   have t3:(upd H2 q (.tup [ML (i:Nat),MP p])) l=some (.lst (NV (bI rss i))):=by rw [aq (ak t2 hq)]; exact t2
   generalize upd H2 q (.tup [ML (i:Nat),MP p])=H3 at s3 t3
   have hlr:=gk rss i
   nofun
   refine aW (λ g=>?_) (λ g=>?_)
   ·have hi0:0<i:=by lia
    have e1:(i:Int) - 1=((i - 1:Nat):Int):=by lia
    have hip1:i - 1<ps.length:=by lia
    have ei:rss[i]? = some rss[i]:=by simp [hi]
    have ei1:rss[i - 1]? = some (rss[i - 1]'(by lia)):=Ef _
    have tp:=s3 _ _ (hR.2 i p rss[i] hp ei)
    have tp1:=s3 _ _ (hR.2 (i - 1) ps[i - 1] _ (by simp [hip1]) ei1)
    nofun
    rw [e1]
    refine cb (MJ (s3 _ _ ta)) (v:=MP ps[i - 1]) (bJ (by rw [El,Ef hip1]; rfl)) ?_
    nofun
    refine ⟨_,_,rfl,.inr ⟨MK tp1,?_⟩⟩
    nofun
    refine ⟨p,_,rfl,.inr ⟨MK tp,?_⟩⟩
    refine vC (ns:=aY _) (ms:=aY _) (MK (by rw [<-fk]; exact tp1)) (MK (by rw [<-fk]; exact tp)) ?_
    have ev:HT.eD (aY (rss[i - 1]'(by lia))) (aY rss[i])=!brk rss i:=by
     rw [HT.lB]
     unfold brk lxt
     rw [iB ei,iB ei1]
    rw [ev]
    nofun
    cases hb:brk rss i with
    | false=>
     nofun
     obtain ⟨i',rfl⟩:∃ i',i=i'+1:=⟨i - 1,by lia⟩
     obtain ⟨ys,z,ez⟩:=qL (lG rss i')
     have er:bI rss (i'+1+1)=ys++[z+1]:=by rw [bI,if_pos ⟨hi0,hb⟩,ez,lF]
     rw [ez] at t3
     refine ⟨l,_,ML (z:Nat),rfl,rfl,MJ t3,by rw [<-bS,List.getLast?_concat],?_⟩
     nofun
     refine ⟨_,_,rfl,rfl,?_⟩
     refine qh t3 (j:=ys.length) (by rw [aQ,ED,FR]; unfold ixN; rw [if_neg (by decide),if_pos (by lia)]; congr 1; lia) ?_
     refine ⟨s3.own hl,?_,_,_,rfl⟩
     rw [ab,er]
     show some (HO.lst ((NV (ys++[z])).set ys.length (ML ((z+1:Nat):Int))))=_
     rw [qA]
     simp
    | true=>
     refine bK ?_
     nofun
     refine ⟨bm t3,?_⟩
     nofun
     refine aP t3 (by rw [aQ]; exact al (by lia)) ?_
     refine ⟨s3.own hl,?_,_,_,rfl⟩
     rw [ab,bI,if_neg (λ z=>by rw [hb] at z; exact Bool.noConfusion z.2)]
     exact congrArg (λ z=>some (HO.lst z)) (bS (bI rss i) 1)
   ·have hi0:i=0:=by lia
    subst hi0
    nofun
    refine ⟨bm t3,?_⟩
    nofun
    refine aP t3 (by rw [aQ]; exact al (by lia)) ?_
    refine ⟨s3.own hl,?_,_,_,rfl⟩
    rw [ab]
    have e1:bI rss (0+1)=[1]:=by show (if 0<0/\brk rss 0=false then xi (bI rss 0) else bI rss 0++[1])=[1]; rw [if_neg (by lia)]; rfl
    rw [e1]; rfl
  ·rintro σ H2 ⟨s2,t2,v,w,rfl⟩
   nofun
   exact k l H2 hl s2 t2
noncomputable def xT:Sp:=λ vs H Q _=>∃ (a:Addr) (ls:List Nat),vs=[.ref a]/\(H a=some (.lst (NV ls))\/False)/\ls.length<=200/\
 ∀ (t st bh:Addr) (qs:List Addr) H',H st=none->H bh=none->Same H H'->H' t=some (.tup [.ref st,.ref bh])->H' st=some (.lst (qs.map MP))->TrAt H' qs (rnd 0 ls).1->H' bh=some (.lst (NV (rnd 0 ls).2))->Q (.ref t) H'
theorem rO (h:2*i<ls.length):(∃ a b r,ls.drop (2*i)=a::b::r/\ls.drop (2*(i+1))=r)\/∃ a,ls.drop (2*i)=[a]/\ls.drop (2*(i+1))=[]:=by
 have hd:ls.drop (2*(i+1))=(ls.drop (2*i)).drop 2:=by rw [List.drop_drop]; congr 1
 have hl:(ls.drop (2*i)).length=ls.length - 2*i:=GK ..
 rw [hd]
 generalize ls.drop (2*i)=rem at hl
 match rem,hl with
 | [],hl=>simp at hl; lia
 | [a],_=>exact .inr ⟨a,rfl,rfl⟩
 | a::b::r,_=>exact .inl ⟨a,b,r,rfl,rfl⟩
theorem ie (T:Tx K mg t):FnOk P t.wd K mg base CX0 1 t.cP t.cL ["lengths"] xT:=by
 refine T.eY.okQ sc_merging_round (λ vs H Q E h=>?_) (λ cdv A outer s H vs Q E hr h=>?_)
 ·obtain ⟨a,ls,rfl,_⟩:=h
  rfl
 ·obtain ⟨a,ls,rfl,hta,hn,k⟩:=h
  rcases hta with ta | ta
  ·refine ⟨_,(ac (av (i:=1) sc_merging_round.nd rfl (En rfl) (aO aa))
   (ac (av (i:=2) sc_merging_round.nd rfl (En rfl) (aO aa))
   (ac (av (i:=3) sc_merging_round.nd rfl (En rfl) ae)
   (ac (bP ET rfl (lD rfl T.bx (ah ae (ah (af (bv (K:=K)) (by rfl) T.bH aX (ah (qv 0) aa)) (ah ae aa)))) (ap (i:=4) sc_merging_round.nd rfl (En rfl)) (ac (av (i:=5) sc_merging_round.nd rfl (En rfl) (ip (zq (K:=K)) (qv 0) (gF (qv 4)) (gF (ay cS (qv 4) ae))))
   (ac (av (i:=6) sc_merging_round.nd rfl (En rfl) (ay cS (qv 3) (af (iJ (K:=K) rfl) (by rfl) T.jA iX (ah (qv 5) aa))))
   (ac (aR (az gD (af (bv (K:=K)) (by rfl) T.bH aX (ah (qv 5) aa)) ae (au _)) (ai (bM (bC (K:=K) (qv 1) (ah (bt (ah (qv 3) (ah (ay cS (qv 3) (ba (bE (K:=K)) (qv 5) ae)) (ah (qv 6) aa)))) aa)))) aE)
   (ac (bM (bC (K:=K) (qv 2) (ah (ay eK (qv 6) (qv 3)) aa)))
   (ai (av (i:=3) sc_merging_round.nd rfl (En rfl) (qv 6))))))))
   (ai (ao (bt (ah (qv 1) (ah (qv 2) aa))))))))),?_⟩
   rw [show L2.aK ["lengths","steps","behind","first","at","both","last"] [MP a]=[some (MP a),none,none,none,none,none,none] from rfl]
   nofun
   refine ⟨aF (by simp),λ st hst=>?_⟩
   have s1:=(MN H).new (o:=.lst []) hst
   have ts1:(upd H st (.lst [])) st=some (.lst (([]:List Addr).map MP)):=ab
   generalize upd H st (.lst [])=H1 at s1 ts1
   nofun
   refine ⟨aF (by simp),λ bh hbh=>?_⟩
   have hbn:H bh=none:=s1.free hbh
   have hsb:st≠bh:=ak ts1 hbh
   have s2:=s1.new (o:=.lst []) hbh
   have ts2:(upd H1 bh (.lst [])) st=some (.lst (([]:List Addr).map MP)):=by rw [aq hsb]; exact ts1
   have tb2:(upd H1 bh (.lst [])) bh=some (.lst (NV [])):=ab
   generalize upd H1 bh (.lst [])=H2 at s2 ts2 tb2
   nofun
   refine bj (MJ (s2 _ _ ta)) ?_
   rw [aQ]
   nofun
   refine ⟨ls.length,rfl,by lia,mO (n:=(ls.length+1) / 2) (λ i σ H'=>Same H H'/\(∃ (ss:List pe) (qs:List Addr) (bs:List Nat) (f:Nat),H' st=some (.lst (qs.map MP))/\TrAt H' qs ss/\H' bh=some (.lst (NV bs))/\(rnd 0 ls).1=ss++(rnd f (ls.drop (2*i))).1/\(rnd 0 ls).2=bs++(rnd f (ls.drop (2*i))).2/\∃ v4 v5 v6,σ=[some (MP a),some (MP st),some (MP bh),some (ML (f:Nat)),v4,v5,v6])) ⟨s2,[],[],[],0,ts2,TrAt.nil,tb2,rfl,rfl,_,_,_,rfl⟩ (λ i σ H' hi _=>hi) (λ σ H' _=>Eh _) ?_ ?_⟩
   ·rintro i x σ H3o H3 hi ⟨s3,ss,qs,bs,f,ts3,T3,tb3,e1,e2,v4,v5,v6,rfl⟩ ⟨rfl,rfl⟩
    have h2i:2*i<ls.length:=by lia
    have hlen:=kc 0 ls
    have hsl:ss.length<=ls.length:=by have:=congrArg Hk e1; rw [ED] at this; lia
    have hbl:bs.length<=ls.length:=by have:=congrArg Hk e2; rw [ED] at this; lia
    have hql:qs.length=ss.length:=T3.1
    have ek:((2*i:Nat):Int)+2=((2*i+2:Nat):Int):=by lia
    nofun
    refine ⟨_,rfl,?_⟩
    nofun
    rw [ek]
    refine ⟨_,rfl,?_⟩
    refine rJ (s3 _ _ ta) λ z H4 s4 tz=>?_
    rw [qM ls h2i] at tz
    have ts4:=s4 _ _ ts3
    have T4:=T3.same s4
    have tb4:=s4 _ _ tb3
    rcases rO h2i with ⟨p,q,r,er,er'⟩ | ⟨p,er,er'⟩
    ·rw [er,ka] at e1 e2
     rw [er] at tz
     have etk:(p::q::r).take 2=[p,q]:=rfl
     rw [etk] at tz
     nofun
     refine gW (ns:=[p,q].map λ x:Nat=>(x:Int)) (MJ (by rw [<-gh]; exact tz)) ?_
     rw [cC]
     have es:(f:Int)+(([p,q].sum:Nat):Int)=((f+p+q:Nat):Int):=by simp; lia
     nofun
     rw [es]
     nofun
     refine bj (MJ tz) ?_
     nofun
     refine dU rfl ?_
     nofun
     refine ⟨bm ts4,?_⟩
     nofun
     have ep:(f:Int)+((p:Nat):Int)=((f+p:Nat):Int):=by lia
     rw [ep]
     refine ⟨aF (by simp),λ u hu=>?_⟩
     have s5:=(MN H4).new (o:=.tup [ML (f:Nat),ML ((f+p:Nat):Int),ML ((f+p+q:Nat):Int)]) hu
     have tu:(upd H4 u (.tup [ML (f:Nat),ML ((f+p:Nat):Int),ML ((f+p+q:Nat):Int)])) u=some (.tup [ML (f:Nat),ML ((f+p:Nat):Int),ML ((f+p+q:Nat):Int)]):=ab
     generalize upd H4 u (.tup [ML (f:Nat),ML ((f+p:Nat):Int),ML ((f+p+q:Nat):Int)])=H5 at s5 tu
     nofun
     refine aP (s5 _ _ ts4) (by rw [Ed,hql]; exact al (by lia)) ?_
     have s6:=(s3.trans (s4.trans s5)).own (o:=.lst (qs.map MP++[MP u])) hst
     have ts6:(upd H5 st (.lst (qs.map MP++[MP u]))) st=some (.lst ((qs++[u]).map MP)):=by rw [ab,EA]; rfl
     have tb6:(upd H5 st (.lst (qs.map MP++[MP u]))) bh=some (.lst (NV bs)):=by rw [aq (Ff hsb)]; exact s5 _ _ tb4
     have T6:TrAt (upd H5 st (.lst (qs.map MP++[MP u]))) (qs++[u]) (ss++[(f,f+p,f+p+q)]):=((T4.same s5).snoc tu).own (s5 _ _ ts4)
     generalize upd H5 st (.lst (qs.map MP++[MP u]))=H6 at s6 ts6 tb6 T6
     nofun
     refine ⟨bm tb6,?_⟩
     have ed:((f+p+q:Nat):Int) - ((f:Nat):Int)=((p+q:Nat):Int):=by lia
     nofun
     rw [ed]
     refine aP tb6 (by rw [aQ]; exact al (by lia)) ?_
     rw [bS]
     nofun
     refine ⟨s6.own hbn,ss++[(f,f+p,f+p+q)],qs++[u],bs++[p+q],f+p+q,by rw [aq hsb]; exact ts6,T6.own tb6,ab,?_,?_,_,_,_,rfl⟩
     ·rw [er',Hf]; exact e1
     ·rw [er',Hf]; exact e2
    ·rw [er,kb] at e1 e2
     rw [er] at tz
     have etk:[p].take 2=[p]:=rfl
     rw [etk] at tz
     nofun
     refine gW (ns:=[p].map λ x:Nat=>(x:Int)) (MJ (by rw [<-gh]; exact tz)) ?_
     rw [cC]
     have es:(f:Int)+(([p].sum:Nat):Int)=((f+p:Nat):Int):=by simp
     nofun
     rw [es]
     nofun
     refine bj (MJ tz) ?_
     nofun
     refine bV (λ z=>absurd (ML.inj z) (by show ¬ (((1:Nat):Int)=2); decide)) ?_
     nofun
     refine ⟨bm tb4,?_⟩
     have ed:((f+p:Nat):Int) - ((f:Nat):Int)=((p:Nat):Int):=by lia
     nofun
     rw [ed]
     refine aP tb4 (by rw [aQ]; exact al (by lia)) ?_
     rw [bS]
     nofun
     refine ⟨(s3.trans s4).own hbn,ss,qs,bs++[p],f+p,by rw [aq hsb]; exact ts4,T4.own tb4,ab,?_,?_,_,_,_,rfl⟩
     ·rw [er',gJ]; exact e1
     ·rw [er',gJ,Fh]; exact e2
   ·rintro σ H3 ⟨s3,ss,qs,bs,f,ts3,T3,tb3,e1,e2,v4,v5,v6,rfl⟩
    have ed:ls.drop (2*((ls.length+1) / 2))=[]:=List.drop_of_length_le (by lia)
    rw [ed,gJ,Fh] at e1 e2
    rw [<-e1] at T3
    rw [<-e2] at tb3
    nofun
    refine ⟨aF (by simp),λ t ht=>?_⟩
    exact k t st bh qs _ hst hbn (s3.new ht) ab (by rw [aq (ak ts3 ht)]; exact ts3) (T3.same ((MN H3).new ht)) (by rw [aq (ak tb3 ht)]; exact tb3)
  ·exact ta.elim
noncomputable def dY (ss:List pe):Int:=(ss.map λ s=>((s.2.2:Nat):Int) - ((s.1:Nat):Int)).sum
noncomputable def uT:Sp:=λ vs H Q _=>∃ (a:Addr) (ls:List Nat),vs=[.ref a]/\(H a=some (.lst (NV ls))\/False)/\ls.length<=200/\
 ∀ (t st:Addr) (qs:List Addr) H',H st=none->Same H H'->H' t=some (.tup [.ref st,.int (dY (gX ls))])->H' st=some (.lst (qs.map MP))->TrAt H' qs (gX ls)->Q (.ref t) H'
theorem ig (T:Tx K mg t):FnOk P t.wd K mg base CX0 2 t.cO t.cK ["lengths"] uT:=by
 refine T.eX.okQ sc_ahead_of_runs (λ vs H Q E h=>?_) (λ cdv A outer s H vs Q E hr h=>?_)
 ·obtain ⟨a,ls,rfl,_⟩:=h
  rfl
 ·obtain ⟨a,ls,rfl,hta,hn,k⟩:=h
  refine ⟨_,(ac (av (i:=1) sc_ahead_of_runs.nd rfl (En rfl) (aO aa))
   (ac (av (i:=2) sc_ahead_of_runs.nd rfl (En rfl) (qv 0))
   (ac (gf ET (az mN (af (bv (K:=K)) (by rfl) T.bH aX (ah (qv 2) aa)) ae (au _)) (ac (mP (aj (ie T) (hr.mono (by decide)) rfl T.jm T.eY.kp T.ja aA (ah (qv 2) aa)) (cV (K:=K) (n:=2) rfl (aC (ap (i:=3) sc_ahead_of_runs.nd rfl (En rfl)) (aC (ap (i:=2) sc_ahead_of_runs.nd rfl (En rfl)) bL))))
   (ai (bM (lu (K:=K) (qv 1) (ah (qv 3) aa))))))
   (ai (ao (bt (ah (qv 1) (ah (af (iJ (K:=K) rfl) (by rfl) T.jA iX (ah (bu (N:=["first","middle","last"]) (tgs:=["first","middle","last"]) (frs:=[]) (ix:=[]) ⟨rfl,by decide +kernel,rfl,by decide +kernel,rfl,rfl,Et,Et,rfl⟩ rfl (bq (K:=K) (qv 1)) (λ _ _ _ _=>(cV (K:=K) (n:=3) rfl (aC (ap (i:=0) (by show EZ (["first","middle","last"]:List Str); decide +kernel) rfl (En rfl)) (aC (ap (i:=1) (by show EZ (["first","middle","last"]:List Str); decide +kernel) rfl (En rfl)) (aC (ap (i:=2) (by show EZ (["first","middle","last"]:List Str); decide +kernel) rfl (En rfl)) bL))))) (λ _ _ _ _=>(ay eK (qv 2) (qv 0)))) aa)) aa)))))))),?_⟩
  rw [show L2.aK ["lengths","steps","stretches","done"] [MP a]=[some (MP a),none,none,none] from rfl]
  nofun
  refine ⟨aF (by simp),λ st hst=>?_⟩
  have s1:=(MN H).new (o:=.lst []) hst
  have ts1:(upd H st (.lst [])) st=some (.lst (([]:List Addr).map MP)):=ab
  generalize upd H st (.lst [])=H1 at s1 ts1
  nofun
  refine ⟨λ m σ H'=>∃ (xs:List Nat) (sp:Addr) (ss:List pe) (qs:List Addr),m=xs.length/\Same H H'/\(H' sp=some (.lst (NV xs))\/False)/\sp≠st/\H' st=some (.lst (qs.map MP))/\TrAt H' qs ss/\gX ls=ss++gX xs/\ss.length+xs.length<=200/\∃ v3,σ=[some (MP a),some (MP st),some (MP sp),v3],⟨_,ls,a,[],[],rfl,s1,.inl (s1 _ _ (hta.elim id FU)),hta.elim (λ h=>ak h hst) (λ h=>h.elim),ts1,TrAt.nil,rfl,by simpa using hn,_,rfl⟩,?_⟩
  rintro m σ H2 ⟨xs,sp,ss,qs,rfl,s2,hsp,hne,ts2,T2,eA,hl,v3,rfl⟩
  nofun
  refine xP (hsp.imp id FU) ?_
  rw [aQ]
  nofun
  refine aW (λ g=>?_) (λ g=>?_)
  ·refine ⟨_,λ _ _ z=>z,?_⟩
   have hg:1<xs.length:=by lia
   obtain ⟨r1,r2⟩:=kc 0 xs
   nofun
   refine ⟨sp,xs,rfl,hsp,by lia,λ t d bh us H3 hd hbh s3 tt td T3 tb=>?_⟩
   refine bU tt ?_
   dsimp only [Gs]
   have ts3:=s3 _ _ ts2
   have hul:us.length=(rnd 0 xs).1.length:=T3.1
   have hql:qs.length=ss.length:=T2.1
   nofun
   refine ⟨bm ts3,?_⟩
   nofun
   refine lC ts3 td (aF (by rw [Ed,Ed]; lia)) ?_
   rw [<-EA]
   have hbs:bh≠st:=λ e=>by rw [e,ts2] at hbh; cases hbh
   rw [lE hg] at eA
   refine ⟨(rnd 0 xs).2.length,by lia,(rnd 0 xs).2,bh,ss++(rnd 0 xs).1,qs++us,rfl,(s2.trans s3).own hst,.inl (by rw [aq hbs]; exact tb),hbs,ab,((T2.same s3).app T3).own ts3,by rw [Hf]; exact eA,by rw [ED]; lia,_,rfl⟩
  ·have hg:¬ 1<xs.length:=by lia
   rw [nX hg,Fh] at eA
   rw [<-eA] at T2
   have hql:qs.length=(gX ls).length:=T2.1
   have hal:(gX ls).length<=200:=by rw [eA]; lia
   nofun
   refine ⟨st,rfl,⟨_,MJ ts2⟩,cv (a:=st) (vs:=qs.map MP) (λ i ys σ H'=>H'=H2/\i<=qs.length/\ys=(((gX ls).map λ s=>((s.2.2:Nat):Int) - ((s.1:Nat):Int)).take i).map ML/\∃ v w u,σ=[v,w,u]) (by rw [Ed]; exact al (by lia)) (λ i ys σ H' h=>by rw [h.2.2.1,Ed,EV,Ed]; lia) (λ i ys σ H' h=>by rw [h.1]; exact MJ ts2) ⟨rfl,EI _,rfl,none,none,none,rfl⟩ ?_ ?_⟩
   ·rintro i ys σ H' x hx ⟨rfl,_,rfl,v,w,u,rfl⟩
    have hil:=bQ hx
    obtain ⟨q,rfl,hq,_,hi⟩:=aT hx
    have hia:i<(gX ls).length:=by lia
    have tq:=T2.2 i q _ hq (Ef hia)
    refine nW tq ?_
    dsimp only [Gs]
    nofun
    refine MO hil ⟨rfl,hi,?_,_,_,_,rfl⟩
    rw [EC,El,Ef hia,EA]; rfl
   rintro ys σ H' ⟨e',_,rfl,v,w,u,rfl⟩ z hz
   subst e'
   rw [Em (by rw [Ed,Ed]; lia)]
   have s3:=s2.new (o:=.lst (((gX ls).map λ s=>((s.2.2:Nat):Int) - ((s.1:Nat):Int)).map ML)) hz
   have s23:=(MN H').new (o:=.lst (((gX ls).map λ s=>((s.2.2:Nat):Int) - ((s.1:Nat):Int)).map ML)) hz
   have tz:(upd H' z (.lst (((gX ls).map λ s=>((s.2.2:Nat):Int) - ((s.1:Nat):Int)).map ML))) z=some (.lst (((gX ls).map λ s=>((s.2.2:Nat):Int) - ((s.1:Nat):Int)).map ML)):=ab
   generalize upd H' z (.lst (((gX ls).map λ s=>((s.2.2:Nat):Int) - ((s.1:Nat):Int)).map ML))=H3 at s3 s23 tz
   nofun
   refine gW (MJ tz) ?_
   nofun
   refine ⟨aF (by simp),λ t ht=>?_⟩
   have ts3:=s23 _ _ ts2
   exact k t st qs _ hst (s3.new ht) ab (by rw [aq (ak ts3 ht)]; exact ts3) ((T2.same s23).same ((MN H3).new ht))
noncomputable def rP:Sp:=λ vs H Q _=>∃ (n b m:Nat),vs=[.int n,.int b,.int m]/\2<=b/\b<=64/\m<=900/\n<b ^ m/\∀ p H',H p=none->Same H H'->H' p=some (.tup ((dg n b m).map ML))->Q (.ref p) H'
theorem jL (T:Tx K mg t):FnOk P t.wd K mg base CX0 1 t.jg t.jd ["n","base","many"] rP:=by
 refine T.i3.okQ sc_figures (λ vs H Q E h=>?_) (λ cdv A outer s H vs Q E hr h=>?_)
 ·obtain ⟨n,b,m,rfl,_⟩:=h
  rfl
 ·obtain ⟨n,b,m,rfl,hb,hb2,hm,hn,q⟩:=h
  refine ⟨_,(ac (av (i:=3) sc_figures.nd rfl (En rfl) (aO aa))
   (ac (av (i:=4) sc_figures.nd rfl (En rfl) (qv 0))
   (ac (bP ET rfl (bD rfl T.bx (ah (qv 2) aa)) (ap (i:=5) sc_figures.nd rfl (En rfl)) (ac (bM (bC (K:=K) (qv 3) (ah (ay gG (qv 4) (qv 1)) aa)))
   (ai (lh (i:=4) sc_figures.nd rfl (En rfl) (qv 1) qm))))
   (ac (aR (az mN (qv 4) ae (au _)) (ai cu) aE)
   (ai (ao (aM (cW (K:=K)) (by rfl) T.aZ aU (ah (zt (K:=K) (qv 3)) aa)))))))),?_⟩
  rw [show L2.aK ["n","base","many","lowest_first","rest","turn"] [ML n,ML b,ML m]=[some (ML n),some (ML b),some (ML m),none,none,none] from rfl]
  nofun
  refine ⟨aF (by simp),λ l hl=>?_⟩
  nofun
  refine ⟨m,rfl,by lia,by lia,dq (λ i σ H'=>Same H H'/\H' l=some (.lst ((Eu i).map λ j=>ML ((n / b ^ j % b:Nat):Int)))/\∃ v,σ=[some (ML n),some (ML b),some (ML m),some (MP l),some (ML ((n / b ^ i:Nat):Int)),v]) ⟨(MN H).new hl,ab,none,by simp⟩ ?_ ?_⟩
  ·rintro i σ H' hi ⟨sm,hL,v,rfl⟩
   nofun
   refine ⟨bm hL,?_⟩
   nofun
   refine aP hL (by rw [Ed,FC]; exact al (by lia)) ?_
   nofun
   have e1:((n / b ^ i:Nat):Int) / (b:Int)=((n / b ^ (i+1):Nat):Int):=by rw [<-dvp,FY (n / b ^ i)]
   rw [e1]
   refine ⟨sm.own hl,?_,_,rfl⟩
   rw [ab,Hz,EA,EU,GW,II (n / b ^ i)]
  ·rintro σ H' ⟨sm,hL,v,rfl⟩
   have hz:n / b ^ (m:Int).toNat=0:=Nat.div_eq_of_lt hn
   nofun
   refine bV (by rw [hz]; decide) ?_
   nofun
   refine ⟨l,_,rfl,MJ hL,λ r hr0=>?_⟩
   nofun
   refine iI (MJ ab) λ p hp=>?_
   refine q p _ ((sm.new hr0).free hp) ((sm.new hr0).new hp) ?_
   rw [ab]
   have:=zw n b m
   rw [<-this]; rfl
noncomputable def CI:Sp:=λ vs H Q _=>∃ (m n:Nat),vs=[.int m,.int n]/\Q (.int ((Gn m n:Nat):Int)) H
theorem dy (T:Tx K mg t):FnOk P t.wd K mg base CX0 1 t.cq t.ck ["one","other"] CI:=by
 refine T.ci.okQ sc_common_measure (λ vs H Q E h=>?_) (λ cdv A outer s H vs Q E hr h=>?_)
 ·obtain ⟨m,n,rfl,_⟩:=h
  rfl
 ·obtain ⟨m,n,rfl,q⟩:=h
  refine ⟨_,(ac (nK rfl sc_common_measure.nd (i:=2) (j:=3) rfl rfl (by decide) rfl rfl (ah (qv 0) (ah (qv 1) aa)))
   (ac (gf ET (az mN (qv 3) ae (au _)) (ai (nK rfl sc_common_measure.nd (i:=2) (j:=3) rfl rfl (by decide) rfl rfl (ah (qv 3) (ah (ay gG (qv 2) (qv 3)) aa)))))
   (ai (ao (qv 2))))),?_⟩
  rw [show L2.aK ["one","other","greater","less"] [ML m,ML n]=[some (ML m),some (ML n),none,none] from rfl]
  nofun
  refine ⟨λ c σ H'=>H'=H/\∃ (g l:Nat),σ=[some (ML m),some (ML n),some (ML g),some (ML l)]/\Gn g l=Gn m n/\l=c,⟨n,rfl,m,n,rfl,rfl,rfl⟩,?_⟩
  rintro c σ H' ⟨rfl,g,l,rfl,e,rfl⟩
  nofun
  refine aW (λ h1=>?_) (λ h1=>?_)
  ·refine ⟨_,λ _ _ z=>z,?_⟩
   nofun
   have hl:0<l:=by lia
   rw [<-II]
   exact ⟨g % l,KY _ hl,rfl,l,g % l,rfl,by rw [nQ hl,e],rfl⟩
  ·have hl:l=0:=by lia
   subst hl
   rw [JU] at e
   nofun
   rw [e]; exact q
noncomputable def xU:Sp:=λ vs H Q _=>∃ (n b:Nat),vs=[.int n,.int b]/\2<=b/\b<=64/\n<2 ^ 199/\∀ m:Nat,n<b ^ m->(0<m->b ^ (m - 1)<=n)->m<201->Q (.int m) H
theorem eT (T:Tx K mg t):FnOk P t.wd K mg base CX0 1 t.dn t.di ["n","base"] xU:=by
 refine T.dc.okQ sc_many_figures (λ vs H Q E h=>?_) (λ cdv A outer s H vs Q E hr h=>?_)
 ·obtain ⟨n,b,rfl,_⟩:=h
  rfl
 ·obtain ⟨n,b,rfl,hb,hb2,hn,q⟩:=h
  refine ⟨_,(ac (av (i:=2) sc_many_figures.nd rfl (En rfl) ae)
   (ac (av (i:=3) sc_many_figures.nd rfl (En rfl) (qv 0))
   (ac (gf ET (az mN (qv 3) ae (au _)) (ac (lh (i:=3) sc_many_figures.nd rfl (En rfl) (qv 1) qm)
   (ai (lh (i:=2) sc_many_figures.nd rfl (En rfl) ae ql))))
   (ai (ao (qv 2)))))),?_⟩
  rw [show L2.aK ["n","base","many","rest"] [ML n,ML b]=[some (ML n),some (ML b),none,none] from rfl]
  nofun
  refine ⟨λ m σ H'=>H'=H/\∃ (pl:Nat),σ=[some (ML n),some (ML b),some (ML pl),some (ML ((n / b ^ pl:Nat):Int))]/\(0<pl->b ^ (pl - 1)<=n)/\2 ^ pl<=2*n+1/\n / b ^ pl=m,⟨n,rfl,0,by simp,by lia,by lia,by simp⟩,?_⟩
  rintro m σ H' ⟨rfl,pl,rfl,h1,h2,rfl⟩
  nofun
  refine aW (λ h3=>?_) (λ h3=>?_)
  ·refine ⟨_,λ _ _ z=>z,?_⟩
   nofun
   have hpos:0<n / b ^ pl:=IX.mp h3
   have e1:((n / b ^ pl:Nat):Int) / (b:Int)=((n / b ^ (pl+1):Nat):Int):=by rw [<-dvp,FY (n / b ^ pl)]
   have e2:(pl:Int)+1=((pl+1:Nat):Int):=by lia
   rw [e1,e2]
   have hlt:n / b ^ (pl+1)<n / b ^ pl:=by
    rw [<-dvp]
    exact Nat.div_lt_self hpos (by lia)
   exact ⟨n / b ^ (pl+1),hlt,rfl,pl+1,rfl,λ _=>by rw [HR]; exact (KJ.mp hpos).2,tW hb hpos,rfl⟩
  ·have hz:n / b ^ pl=0:=Nat.eq_zero_of_not_pos λ h=>h3 (IX.mpr h)
   nofun
   refine q pl ?_ h1 ?_
   ·rcases Nat.div_eq_zero_iff.mp hz with h | h
    ·exact absurd h (ES (L5 (by lia)))
    ·exact h
   ·have h4:2 ^ pl<2 ^ 201:=Fe h2 (by lia)
    exact (Nat.pow_lt_pow_iff_right (by decide)).mp h4
noncomputable def Few (ns:List Int):Prop:=ns.length<=200/\∀ x∈ns,-(2 ^ 190)<x/\x<2 ^ 190
noncomputable def Ag (K:Ee):Sp:=λ vs H Q _=>∃ (a:Addr) (ns:List Int) (b:Nat),vs=[.ref a,.int b]/\(SqL K H a (ns.map ML)\/SqT K H a (ns.map ML))/\2<=b/\b<=64/\Few ns/\
 ∀ (l:Addr) (ps:List Addr) (zs:List Nat) (m:Nat) H',H l=none->Same H H'->H' l=some (.lst (ps.map MP))->RowsAt H' ps b m zs->Spelt ns b zs m->Q (.ref l) H'
theorem fw (T:Tx K mg t):FnOk P t.wd K mg base CX0 2 t.dQ t.dN ["numbers","base"] (Ag K):=by
 refine T.dH.okQ sc_number_rows (λ vs H Q E h=>?_) (λ cdv A outer s H vs Q E hr h=>?_)
 ·obtain ⟨a,ns,b,rfl,_⟩:=h
  rfl
 ·obtain ⟨a,ns,b,rfl,hs,hb,hb2,⟨hlen,hbd⟩,q⟩:=h
  rcases hs with hs | hs
  ·refine ⟨_,(ac (aR (lc (jZ (K:=K) (qv 0))) (ai (ao (aO aa))) aE)
   (ac (av (i:=2) sc_number_rows.nd rfl (Gh rfl) (af (qr (K:=K) rfl) (by rfl) T.nz oi (ah (qv 0) aa)))
   (ac (av (i:=3) sc_number_rows.nd rfl (Gh rfl) (aj (eT T) (hr.mono (by decide)) rfl T.fD T.dc.kp T.fA aA (ah (ay eK (af (qu (K:=K) rfl) (by rfl) T.ny vJ (ah (qv 0) aa)) (qv 2)) (ah (qv 1) aa))))
   (ai (ao (bu (N:=["number","base","least","columns"]) (tgs:=["number"]) (frs:=["base","least","columns"]) (ix:=[1,2,3]) ⟨rfl,by decide +kernel,rfl,by decide +kernel,rfl,rfl,⟨⟨rfl,rfl,_,rfl,rfl⟩,⟨rfl,rfl,_,rfl,rfl⟩,⟨rfl,rfl,_,rfl,rfl⟩,Et⟩,⟨rfl,rfl,rfl,Et⟩,rfl⟩ rfl (bq (K:=K) (qv 0)) (λ _ _ _ _=>(ap (i:=0) (by show EZ (["number","base","least","columns"]:List Str); decide +kernel) rfl (En rfl))) (λ _ _ _ _=>(aj (jL T) (hr.mono (by decide)) rfl T.mq T.i3.kp T.mi aA (ah (ay eK (qv 0) (qv 2)) (ah (qv 1) (ah (qv 3) aa))))))))))),?_⟩
   rw [show L2.aK ["numbers","base","least","columns"] [MP a,ML b]=[some (MP a),some (ML b),none,none] from rfl]
   nofun
   refine ⟨_,Dk hs,?_⟩
   by_cases h0:ns=[]
   ·subst h0
    nofun
    exact ⟨aF (by simp),λ l hl=>q l [] [] 0 _ hl ((MN H).new hl) (by rw [ab]; rfl) ⟨rfl,λ i p z e=>by simp at e⟩ (.inl ⟨rfl,rfl,rfl⟩)⟩
   ·have he:(ns.map ML).isEmpty=false:=by cases ns with | nil=>exact absurd rfl h0 | cons x r=>rfl
    rw [he]
    refine bK ?_
    nofun
    refine qw (.inl hs) h0 λ lo lo1 lo2=>?_
    nofun
    refine qx (.inl hs) h0 λ hi hi1 hi2=>?_
    nofun
    have hd:hi - lo=(((hi - lo).toNat:Nat):Int):=by have:=lo2 hi hi1; lia
    rw [hd]
    refine ⟨(hi - lo).toNat,b,rfl,hb,hb2,by have:=hbd hi hi1; have:=hbd lo lo1; lia,λ m m1 m2 m3=>?_⟩
    nofun
    refine ⟨a,rfl,⟨_,hs⟩,cv (a:=a) (vs:=ns.map ML) (λ i ys σ H'=>Same H H'/\(∃ ps:List Addr,ys=ps.map MP/\ps.length=i/\i<=ns.length/\RowsAt H' ps b m ((ns.map λ x=>(x - lo).toNat).take i))/\∃ v,σ=[v,some (ML b),some (ML lo),some (ML m)]) (by rw [Ed]; exact al (by lia)) (λ i ys σ H' h=>by obtain ⟨_,⟨ps,rfl,e,_⟩,_⟩:=h; rw [Ed,e]) (λ i ys σ H' h=>h.1.seq hs) ⟨MN _,⟨[],rfl,rfl,EI _,rfl,λ i p z h=>by simp at h⟩,none,rfl⟩ ?_ ?_⟩
    ·rintro i ys σ H' x hx ⟨sm,⟨ps,rfl,hpl,_,hR⟩,v,rfl⟩
     obtain ⟨z,rfl,hz,hzm,hi'⟩:=aT hx
     nofun
     have h1:=lo2 z hzm
     have h2:=hi2 z hzm
     have ez:z - lo=(((z - lo).toNat:Nat):Int):=by lia
     rw [ez]
     refine ⟨(z - lo).toNat,b,m,rfl,hb,hb2,by lia,by lia,λ p H2 hp sm2 t2=>?_⟩
     refine MO (by rw [Ed]; exact hi') ⟨sm.trans sm2,⟨ps++[p],by rw [EA]; rfl,by simp [hpl],hi',?_⟩,_,rfl⟩
     have et:(ns.map λ x=>(x - lo).toNat).take (i+1)=(ns.map λ x=>(x - lo).toNat).take i++[(z - lo).toNat]:=by rw [EC,El,hz]; rfl
     rw [et]
     exact (hR.same sm2).snoc t2
    ·rintro ys σ H' ⟨sm,⟨ps,rfl,hpl,_,hR⟩,v,rfl⟩ l hl
     rw [Em (by simp)] at hR
     exact q l ps _ m _ (sm.free hl) (sm.new hl) ab (hR.same ((MN _).new hl)) (.inr ⟨lo,hi,lo1,hi1,λ x hx=>⟨lo2 x hx,hi2 x hx⟩,rfl,m1,m2,m3⟩)
  ·refine ⟨_,(ac (aR (lc (jZ (K:=K) (qv 0))) (ai (ao (aO aa))) aE)
   (ac (av (i:=2) sc_number_rows.nd rfl (Gh rfl) (af (qr (K:=K) rfl) (by rfl) T.nz oi (ah (qv 0) aa)))
   (ac (av (i:=3) sc_number_rows.nd rfl (Gh rfl) (aj (eT T) (hr.mono (by decide)) rfl T.fD T.dc.kp T.fA aA (ah (ay eK (af (qu (K:=K) rfl) (by rfl) T.ny vJ (ah (qv 0) aa)) (qv 2)) (ah (qv 1) aa))))
   (ai (ao (bu (N:=["number","base","least","columns"]) (tgs:=["number"]) (frs:=["base","least","columns"]) (ix:=[1,2,3]) ⟨rfl,by decide +kernel,rfl,by decide +kernel,rfl,rfl,⟨⟨rfl,rfl,_,rfl,rfl⟩,⟨rfl,rfl,_,rfl,rfl⟩,⟨rfl,rfl,_,rfl,rfl⟩,Et⟩,⟨rfl,rfl,rfl,Et⟩,rfl⟩ rfl (jF (K:=K) (qv 0)) (λ _ _ _ _=>(ap (i:=0) (by show EZ (["number","base","least","columns"]:List Str); decide +kernel) rfl (En rfl))) (λ _ _ _ _=>(aj (jL T) (hr.mono (by decide)) rfl T.mq T.i3.kp T.mi aA (ah (ay eK (qv 0) (qv 2)) (ah (qv 1) (ah (qv 3) aa))))))))))),?_⟩
   rw [show L2.aK ["numbers","base","least","columns"] [MP a,ML b]=[some (MP a),some (ML b),none,none] from rfl]
   nofun
   refine ⟨_,DS hs,?_⟩
   by_cases h0:ns=[]
   ·subst h0
    nofun
    exact ⟨aF (by simp),λ l hl=>q l [] [] 0 _ hl ((MN H).new hl) (by rw [ab]; rfl) ⟨rfl,λ i p z e=>by simp at e⟩ (.inl ⟨rfl,rfl,rfl⟩)⟩
   ·have he:(ns.map ML).isEmpty=false:=by cases ns with | nil=>exact absurd rfl h0 | cons x r=>rfl
    rw [he]
    refine bK ?_
    nofun
    refine qw (.inr hs) h0 λ lo lo1 lo2=>?_
    nofun
    refine qx (.inr hs) h0 λ hi hi1 hi2=>?_
    nofun
    have hd:hi - lo=(((hi - lo).toNat:Nat):Int):=by have:=lo2 hi hi1; lia
    rw [hd]
    refine ⟨(hi - lo).toNat,b,rfl,hb,hb2,by have:=hbd hi hi1; have:=hbd lo lo1; lia,λ m m1 m2 m3=>?_⟩
    nofun
    refine ⟨a,rfl,⟨_,hs⟩,gg (a:=a) (vs:=ns.map ML) (λ i ys σ H'=>Same H H'/\(∃ ps:List Addr,ys=ps.map MP/\ps.length=i/\i<=ns.length/\RowsAt H' ps b m ((ns.map λ x=>(x - lo).toNat).take i))/\∃ v,σ=[v,some (ML b),some (ML lo),some (ML m)]) (by rw [Ed]; exact al (by lia)) (λ i ys σ H' h=>by obtain ⟨_,⟨ps,rfl,e,_⟩,_⟩:=h; rw [Ed,e]) (λ i ys σ H' h=>h.1.tup hs) ⟨MN _,⟨[],rfl,rfl,EI _,rfl,λ i p z h=>by simp at h⟩,none,rfl⟩ ?_ ?_⟩
    ·rintro i ys σ H' x hx ⟨sm,⟨ps,rfl,hpl,_,hR⟩,v,rfl⟩
     obtain ⟨z,rfl,hz,hzm,hi'⟩:=aT hx
     nofun
     have h1:=lo2 z hzm
     have h2:=hi2 z hzm
     have ez:z - lo=(((z - lo).toNat:Nat):Int):=by lia
     rw [ez]
     refine ⟨(z - lo).toNat,b,m,rfl,hb,hb2,by lia,by lia,λ p H2 hp sm2 t2=>?_⟩
     refine MO (by rw [Ed]; exact hi') ⟨sm.trans sm2,⟨ps++[p],by rw [EA]; rfl,by simp [hpl],hi',?_⟩,_,rfl⟩
     have et:(ns.map λ x=>(x - lo).toNat).take (i+1)=(ns.map λ x=>(x - lo).toNat).take i++[(z - lo).toNat]:=by rw [EC,El,hz]; rfl
     rw [et]
     exact (hR.same sm2).snoc t2
    ·rintro ys σ H' ⟨sm,⟨ps,rfl,hpl,_,hR⟩,v,rfl⟩ l hl
     rw [Em (by simp)] at hR
     exact q l ps _ m _ (sm.free hl) (sm.new hl) ab (hR.same ((MN _).new hl)) (.inr ⟨lo,hi,lo1,hi1,λ x hx=>⟨lo2 x hx,hi2 x hx⟩,rfl,m1,m2,m3⟩)
noncomputable def xV (K:Ee):Sp:=λ vs H Q _=>∃ (a:Addr) (ps:List Addr) (tb:List (Int×Nat)),vs=[.ref a]/\(∀ z∈tb,1<=z.2/\z.2<=60)/\
 ((SqL K H a (ps.map MP)/\PartsT H ps tb)\/(SqT K H a (ps.map MP)/\PartsT H ps tb))/\Q (.int ((fH (tb.map (·.2)):Nat):Int)) H
theorem eU (T:Tx K mg t):FnOk P t.wd K mg base CX0 2 t.dj t.de ["parts"] (xV K):=by
 refine T.da.okQ sc_least_bottom (λ vs H Q E h=>?_) (λ cdv A outer s H vs Q E hr h=>?_)
 ·obtain ⟨a,ps,tb,rfl,_⟩:=h
  rfl
 ·obtain ⟨a,ps,tb,rfl,hb,hs,q⟩:=h
  have hbs:∀ b∈tb.map (·.2),1<=b/\b<=60:=λ b h=>by
   obtain ⟨z,hz,rfl⟩:=Es.mp h
   exact hb z hz
  have hpos:∀ i,0<fH ((tb.map (·.2)).take i):=λ i=>nP λ b h=>hbs b (List.mem_of_mem_take h)
  rcases hs with ⟨hs,hP⟩ | ⟨hs,hP⟩
  ·refine ⟨_,(ac (av (i:=1) sc_least_bottom.nd rfl (En rfl) ae)
   (ac (bP ET rfl (bq (K:=K) (qv 0)) (cV (K:=K) (n:=2) rfl (aC (ap (i:=2) sc_least_bottom.nd rfl (En rfl)) (aC (ap (i:=3) sc_least_bottom.nd rfl (En rfl)) bL))) (ai (av (i:=1) sc_least_bottom.nd rfl (En rfl) (ay fF (ay fG (qv 1) (aj (dy T) (hr.mono (by decide)) rfl T.eC T.ci.kp T.eB aA (ah (qv 1) (ah (qv 3) aa)))) (qv 3)))))
   (ai (ao (qv 1))))),?_⟩
   rw [show L2.aK ["parts","least","top","bottom"] [MP a]=[some (MP a),none,none,none] from rfl]
   nofun
   refine ⟨a,rfl,⟨_,hs⟩,dz (a:=a) (xs:=ps.map MP) (λ i σ H'=>H'=H/\∃ v w,σ=[some (MP a),some (ML ((fH ((tb.map (·.2)).take i):Nat):Int)),v,w]) ⟨rfl,none,none,rfl⟩ (λ i σ H' _ ⟨e,_⟩=>by rw [e]; exact hs) ?_ ?_⟩
   ·rintro i x σ H' hx ⟨rfl,v,w,rfl⟩
    rw [El] at hx
    cases e:ps[i]? with
    | none=>rw [e] at hx; cases hx
    | some p=>
     rw [e] at hx
     obtain rfl:MP p=x:=EO hx
     have hi:i<tb.length:=by rw [<-hP.1]; exact (EE.mp e).1
     have hz:=hP.2 i p tb[i] e (by simp [hi])
     have hb2:=hb tb[i] (EQ hi)
     have hget:(tb.map (·.2))[i]? = some tb[i].2:=by simp [hi]
     have hl:=lp _ i _ hget
     have hp0:=hpos i
     generalize fH ((tb.map (·.2)).take i)=L at hl hp0 ⊢
     rw [hl]
     generalize tb[i].2=c at hb2 hz ⊢
     refine ⟨p,_,rfl,MK hz,rfl,_,_,rfl,?_⟩
     nofun
     refine ⟨_,_,rfl,?_⟩
     nofun
     refine ⟨rfl,?_⟩
     have hg1:0<Gn L c:=IR _ hp0
     have hg2:Gn L c<=c:=Ig (by lia) (Iq L c)
     have hst:=nL L c
     nofun
     refine ⟨L,c,rfl,?_⟩
     generalize Gn L c=g at hg1 hg2 hst ⊢
     have e:(L:Int) / (g:Int)*(c:Int)=((GN L c:Nat):Int):=by rw [<-hst,GR,FY]
     nofun
     rw [e]
     exact ⟨rfl,_,_,rfl⟩
   ·rintro σ H' ⟨rfl,v,w,rfl⟩
    nofun
    have el:(tb.map (·.2)).take (ps.map MP).length=tb.map (·.2):=Em (by simp [hP.1])
    rw [el]
    exact q
  ·refine ⟨_,(ac (av (i:=1) sc_least_bottom.nd rfl (En rfl) ae)
   (ac (bP ET rfl (jF (K:=K) (qv 0)) (cV (K:=K) (n:=2) rfl (aC (ap (i:=2) sc_least_bottom.nd rfl (En rfl)) (aC (ap (i:=3) sc_least_bottom.nd rfl (En rfl)) bL))) (ai (av (i:=1) sc_least_bottom.nd rfl (En rfl) (ay fF (ay fG (qv 1) (aj (dy T) (hr.mono (by decide)) rfl T.eC T.ci.kp T.eB aA (ah (qv 1) (ah (qv 3) aa)))) (qv 3)))))
   (ai (ao (qv 1))))),?_⟩
   rw [show L2.aK ["parts","least","top","bottom"] [MP a]=[some (MP a),none,none,none] from rfl]
   nofun
   refine ⟨a,rfl,⟨_,hs⟩,pO (a:=a) (xs:=ps.map MP) (λ i σ H'=>H'=H/\∃ v w,σ=[some (MP a),some (ML ((fH ((tb.map (·.2)).take i):Nat):Int)),v,w]) ⟨rfl,none,none,rfl⟩ (λ i σ H' _ ⟨e,_⟩=>by rw [e]; exact hs) ?_ ?_⟩
   ·rintro i x σ H' hx ⟨rfl,v,w,rfl⟩
    rw [El] at hx
    cases e:ps[i]? with
    | none=>rw [e] at hx; cases hx
    | some p=>
     rw [e] at hx
     obtain rfl:MP p=x:=EO hx
     have hi:i<tb.length:=by rw [<-hP.1]; exact (EE.mp e).1
     have hz:=hP.2 i p tb[i] e (by simp [hi])
     have hb2:=hb tb[i] (EQ hi)
     have hget:(tb.map (·.2))[i]? = some tb[i].2:=by simp [hi]
     have hl:=lp _ i _ hget
     have hp0:=hpos i
     generalize fH ((tb.map (·.2)).take i)=L at hl hp0 ⊢
     rw [hl]
     generalize tb[i].2=c at hb2 hz ⊢
     refine ⟨p,_,rfl,MK hz,rfl,_,_,rfl,?_⟩
     nofun
     refine ⟨_,_,rfl,?_⟩
     nofun
     refine ⟨rfl,?_⟩
     have hg1:0<Gn L c:=IR _ hp0
     have hg2:Gn L c<=c:=Ig (by lia) (Iq L c)
     have hst:=nL L c
     nofun
     refine ⟨L,c,rfl,?_⟩
     generalize Gn L c=g at hg1 hg2 hst ⊢
     have e:(L:Int) / (g:Int)*(c:Int)=((GN L c:Nat):Int):=by rw [<-hst,GR,FY]
     nofun
     rw [e]
     exact ⟨rfl,_,_,rfl⟩
   ·rintro σ H' ⟨rfl,v,w,rfl⟩
    nofun
    have el:(tb.map (·.2)).take (ps.map MP).length=tb.map (·.2):=Em (by simp [hP.1])
    rw [el]
    exact q
noncomputable def uU (K:Ee):Sp:=λ vs H Q _=>∃ (a:Addr) (ps:List Addr) (tb:List (Int×Nat)),vs=[.ref a]/\tb.length<=200/\(∀ z∈tb,1<=z.2/\z.2<=60)/\(∀ z∈tb,-(10 ^ 18)<z.1/\z.1<10 ^ 18)/\
 ((SqL K H a (ps.map MP)/\PartsT H ps tb)\/(SqT K H a (ps.map MP)/\PartsT H ps tb))/\∀ l,H l=none->Q (.ref l) (upd H l (.lst ((bF tb).map ML)))
theorem ii (T:Tx K mg t):FnOk P t.wd K mg base CX0 3 t.cQ t.cM ["parts"] (uU K):=by
 refine T.eZ.okQ sc_whole_numbers (λ vs H Q E h=>?_) (λ cdv A outer s H vs Q E hr h=>?_)
 ·obtain ⟨a,ps,tb,rfl,_⟩:=h
  rfl
 ·obtain ⟨a,ps,tb,rfl,hlen,hb,ht,hs,q⟩:=h
  rcases hs with ⟨hs,hP⟩ | ⟨hs,hP⟩
  ·refine ⟨_,(ac (av (i:=1) sc_whole_numbers.nd rfl (Gh rfl) (aj (eU T) (hr.mono (by decide)) rfl T.fB T.da.kp T.fy aA (ah (qv 0) aa)))
   (ai (ao (bu (N:=["top","bottom","least"]) (tgs:=["top","bottom"]) (frs:=["least"]) (ix:=[1]) ⟨rfl,by decide +kernel,rfl,by decide +kernel,rfl,rfl,⟨⟨rfl,rfl,_,rfl,rfl⟩,Et⟩,⟨rfl,Et⟩,rfl⟩ rfl (bq (K:=K) (qv 0)) (λ _ _ _ _=>(cV (K:=K) (n:=2) rfl (aC (ap (i:=0) (by show EZ (["top","bottom","least"]:List Str); decide +kernel) rfl (En rfl)) (aC (ap (i:=1) (by show EZ (["top","bottom","least"]:List Str); decide +kernel) rfl (En rfl)) bL)))) (λ _ _ _ _=>(ay fF (qv 0) (ay fG (qv 2) (qv 1)))))))),?_⟩
   rw [show L2.aK ["parts","least"] [MP a]=[some (MP a),none] from rfl]
   nofun
   refine ⟨a,ps,tb,rfl,hb,.inl ⟨hs,hP⟩,?_⟩
   nofun
   refine ⟨a,rfl,⟨_,hs⟩,cv (a:=a) (vs:=ps.map MP) (λ i ys σ H'=>H'=H/\i<=tb.length/\ys=((bF tb).take i).map ML/\∃ v w,σ=[v,w,some (ML ((fH (tb.map (·.2)):Nat):Int))]) (by rw [Ed,hP.1]; exact al (by lia)) (λ i ys σ H' h=>by rw [h.2.2.1,Ed,EV,cy]; lia) (λ i ys σ H' h=>by rw [h.1]; exact hs) ⟨rfl,EI _,rfl,none,none,rfl⟩ ?_ ?_⟩
   ·rintro i ys σ H' x hx ⟨rfl,_,rfl,v,w,rfl⟩
    have hil:=(EE.mp hx).1
    obtain ⟨p,rfl,hp,_,hi⟩:=aT hx
    have hit:i<tb.length:=by rw [<-hP.1]; exact hi
    have hz:=hP.2 i p tb[i] hp (by simp [hit])
    have hb1:=hb tb[i] (EQ hit)
    have ht1:=ht tb[i] (EQ hit)
    have et:(bF tb).take (i+1)=(bF tb).take i++[tb[i].1*((fH (tb.map (·.2)) / tb[i].2:Nat):Int)]:=by
     rw [EC]
     unfold bF
     rw [El]
     simp [hit]
    rw [et]
    generalize fH (tb.map (·.2))=L
    generalize tb[i]=z at hz hb1 ht1
    refine bU hz ?_
    dsimp only [Gs]
    nofun
    refine MO hil ⟨rfl,hit,?_,_,_,rfl⟩
    rw [EA,FY]
    rfl
   ·rintro ys σ H' ⟨rfl,_,rfl,v,w,rfl⟩ l hl
    rw [Em (by rw [cy,Ed,hP.1]; exact Eh _)]
    exact q l hl
  ·refine ⟨_,(ac (av (i:=1) sc_whole_numbers.nd rfl (Gh rfl) (aj (eU T) (hr.mono (by decide)) rfl T.fB T.da.kp T.fy aA (ah (qv 0) aa)))
   (ai (ao (bu (N:=["top","bottom","least"]) (tgs:=["top","bottom"]) (frs:=["least"]) (ix:=[1]) ⟨rfl,by decide +kernel,rfl,by decide +kernel,rfl,rfl,⟨⟨rfl,rfl,_,rfl,rfl⟩,Et⟩,⟨rfl,Et⟩,rfl⟩ rfl (jF (K:=K) (qv 0)) (λ _ _ _ _=>(cV (K:=K) (n:=2) rfl (aC (ap (i:=0) (by show EZ (["top","bottom","least"]:List Str); decide +kernel) rfl (En rfl)) (aC (ap (i:=1) (by show EZ (["top","bottom","least"]:List Str); decide +kernel) rfl (En rfl)) bL)))) (λ _ _ _ _=>(ay fF (qv 0) (ay fG (qv 2) (qv 1)))))))),?_⟩
   rw [show L2.aK ["parts","least"] [MP a]=[some (MP a),none] from rfl]
   nofun
   refine ⟨a,ps,tb,rfl,hb,.inr ⟨hs,hP⟩,?_⟩
   nofun
   refine ⟨a,rfl,⟨_,hs⟩,gg (a:=a) (vs:=ps.map MP) (λ i ys σ H'=>H'=H/\i<=tb.length/\ys=((bF tb).take i).map ML/\∃ v w,σ=[v,w,some (ML ((fH (tb.map (·.2)):Nat):Int))]) (by rw [Ed,hP.1]; exact al (by lia)) (λ i ys σ H' h=>by rw [h.2.2.1,Ed,EV,cy]; lia) (λ i ys σ H' h=>by rw [h.1]; exact hs) ⟨rfl,EI _,rfl,none,none,rfl⟩ ?_ ?_⟩
   ·rintro i ys σ H' x hx ⟨rfl,_,rfl,v,w,rfl⟩
    have hil:=(EE.mp hx).1
    obtain ⟨p,rfl,hp,_,hi⟩:=aT hx
    have hit:i<tb.length:=by rw [<-hP.1]; exact hi
    have hz:=hP.2 i p tb[i] hp (by simp [hit])
    have hb1:=hb tb[i] (EQ hit)
    have ht1:=ht tb[i] (EQ hit)
    have et:(bF tb).take (i+1)=(bF tb).take i++[tb[i].1*((fH (tb.map (·.2)) / tb[i].2:Nat):Int)]:=by
     rw [EC]
     unfold bF
     rw [El]
     simp [hit]
    rw [et]
    generalize fH (tb.map (·.2))=L
    generalize tb[i]=z at hz hb1 ht1
    refine bU hz ?_
    dsimp only [Gs]
    nofun
    refine MO hil ⟨rfl,hit,?_,_,_,rfl⟩
    rw [EA,FY]
    rfl
   ·rintro ys σ H' ⟨rfl,_,rfl,v,w,rfl⟩ l hl
    rw [Em (by rw [cy,Ed,hP.1]; exact Eh _)]
    exact q l hl
theorem Ai {α:Type} {xs:List α} {r:Int} (h0:0<=r) (h1:r<xs.length):∃ v,atI xs r=some v/\v∈xs:=by
 have hl:r.toNat<xs.length:=by lia
 have e:r=(r.toNat:Int):=by lia
 refine ⟨xs[r.toNat],?_,EQ _⟩
 have q:=bJ (xs:=xs) (j:=r.toNat) (v:=xs[r.toNat]) (by simp [hl])
 rw [<-e] at q
 exact q
noncomputable def Ltr (n:Nat) (z:Str):Prop:=z.length<=n/\∀ c∈z.cps.toList,97<=c/\c<=122
theorem Ltr.cat (h:Ltr n x) (g:Ltr m y):Ltr (n+m) (x++y):=by
 have e:(x++y).cps=x.cps++y.cps:=rfl
 refine ⟨?_,λ c hc=>?_⟩
 ·show (x++y).cps.size<=_
  rw [e,Array.size_append]
  exact Nat.add_le_add h.1 g.1
 ·rw [e,Array.toList_append] at hc
  rcases EX.mp hc with q | q
  ·exact h.2 c q
  ·exact g.2 c q
theorem Ltr.mono (h:Ltr n z) (g:n<=m):Ltr m z:=⟨Fb h.1 g,h.2⟩
instance {n:Nat} {z:Str}:Decidable (Ltr n z):=by unfold Ltr; exact inferInstance
theorem DY:(EB ((n:Nat):Int).toNat [ML 0]).flatten=(EB n (0:Int)).map ML:=by
 rw [FL,G3]
 induction n with
 | zero=>rfl
 | succ n ih=>rw [Fi,GB,ih,Fi]; rfl
noncomputable def rQ (m:Nat) (z:Str):List Int:=z.cps.toList.map (λ c=>((c:Nat):Int) - 96)++EB (m - z.length) 0
noncomputable def TRows (H:Hp) (ps:List Addr) (zs:List Str) (m:Nat):Prop:=ps.length=zs.length/\∀ (i:Nat) (p:Addr) (z:Str),ps[i]? = some p->zs[i]? = some z->H p=some (.tup ((rQ m z).map ML))
theorem TRows.same {H:Hp} {ps:List Addr} {zs:List Str} (h:TRows H ps zs m) (s:Same H H'):TRows H' ps zs m:=⟨h.1,λ i p z e1 e2=>s _ _ (h.2 i p z e1 e2)⟩
theorem TRows.snoc {H:Hp} {ps:List Addr} {zs:List Str} (h:TRows H ps zs m) (hp:H p=some (.tup ((rQ m z).map ML))):TRows H (ps++[p]) (zs++[z]) m:=by
 refine ⟨by simp [h.1],λ i p' z' e1 e2=>?_⟩
 by_cases hi:i<ps.length
 ·rw [E2 hi] at e1
  rw [E2 (by rw [<-h.1]; exact hi)] at e2
  exact h.2 i p' z' e1 e2
 ·have hl:=(EE.mp e1).1
  have e:i=ps.length:=by simp at hl; lia
  subst e
  rw [EY (Eh _)] at e1
  rw [h.1,EY (Eh _)] at e2
  simp at e1 e2
  rw [<-e1,<-e2]; exact hp
noncomputable def Aj:Sp:=λ vs H Q _=>∃ (z:Str) (m:Nat),vs=[.str z,.int m]/\Ltr 30 z/\z.length<=m/\m<=30/\∀ p H',H p=none->Same H H'->H' p=some (.tup ((rQ m z).map ML))->Q (.ref p) H'
theorem iZ (T:Tx K mg t):FnOk P t.wd K mg base CX0 1 t.gU t.gS ["text","columns"] Aj:=by
 refine T.gP.okQ sc_text_row (λ vs H Q E h=>?_) (λ cdv A outer s H vs Q E hr h=>?_)
 ·obtain ⟨z,m,rfl,_⟩:=h
  rfl
 ·obtain ⟨z,m,rfl,hz,hzm,hm,k⟩:=h
  have hzs:z.cps.size=z.length:=rfl
  refine ⟨_,(ac (av (i:=2) sc_text_row.nd rfl (Gh rfl) (ay eK (af vF (by rfl) T.sQ vK (ah bn aa)) ae))
   (ac (qp (i:=3) (N:=["letter","before_first"]) (tgs:=["letter"]) (frs:=["before_first"]) (ix:=[2])  sc_text_row.nd rfl (En rfl) ⟨rfl,by decide +kernel,rfl,by decide +kernel,rfl,rfl,⟨⟨rfl,rfl,_,rfl,rfl⟩,Et⟩,⟨rfl,Et⟩,rfl⟩ rfl (zU (qv 0)) (λ _ _ _ _=>(ap (i:=0) (by show EZ (["letter","before_first"]:List Str); decide +kernel) rfl (En rfl))) (λ _ _ _ _=>(ay eK (af vF (by rfl) T.sQ vK (ah (qv 0) aa)) (qv 1))))
   (ai (ao (aM (cW (K:=K)) (by rfl) T.aZ aU (ah (ay wS (qv 3) (ay zo (aO (ah ae aa)) (ay eK (qv 1) (af fj (by rfl) T.bH aX (ah (qv 0) aa))))) aa)))))),?_⟩
  rw [show L2.aK ["text","columns","before_first","letters"] [MM z,ML m]=[some (MM z),some (ML m),none,none] from rfl]
  nofun
  refine ⟨_,rfl,by decide +kernel,?_⟩
  nofun
  have e97:(((E1 "a").cps.getD 0 0:Nat):Int) - 1=96:=by decide +kernel
  rw [e97]
  refine ⟨z,rfl,ir (n:=z.cps.size) (λ i ys σ H'=>H'=H/\ys=((z.cps.toList.take i).map (λ c=>((c:Nat):Int) - 96)).map ML/\i<=z.cps.size/\∃ v,σ=[v,some (ML 96)]) (al (by have:=hz.1; lia)) (λ i ys σ H' h=>by obtain ⟨_,rfl,hi,_⟩:=h; simp; lia) ⟨rfl,rfl,EI _,none,rfl⟩ (λ i ys σ H' hi h=>hi) (λ ys σ H' h=>rfl) ?_ ?_⟩
  ·rintro i x ys σ H1 H2 hi ⟨rfl,rfl,_,v,rfl⟩ ⟨rfl,c,hc,rfl⟩
   nofun
   refine ⟨_,rfl,rfl,?_⟩
   nofun
   refine MO hi ⟨rfl,?_,hi,_,rfl⟩
   have ec:z.cps.toList[i]? = some c:=by rw [Ht]; exact hc
   rw [EC,ec,EA,EA]
   rfl
  ·rintro ys σ H1 ⟨rfl,rfl,_,v,rfl⟩ a ha
   rw [Em (by simp)]
   have t1:(upd H1 a (.lst ((z.cps.toList.map (λ c=>((c:Nat):Int) - 96)).map ML))) a=some (.lst ((z.cps.toList.map (λ c=>((c:Nat):Int) - 96)).map ML)):=ab
   have s1:=(MN H1).new (o:=.lst ((z.cps.toList.map (λ c=>((c:Nat):Int) - 96)).map ML)) ha
   generalize upd H1 a (.lst ((z.cps.toList.map (λ c=>((c:Nat):Int) - 96)).map ML))=H2 at t1 s1
   nofun
   refine ⟨aF (by simp),λ b hb=>?_⟩
   have t2:(upd H2 b (.lst [ML 0])) a=some (.lst ((z.cps.toList.map (λ c=>((c:Nat):Int) - 96)).map ML)):=by rw [aq (ak t1 hb)]; exact t1
   have s2:=s1.new (o:=.lst [ML 0]) hb
   have tb:(upd H2 b (.lst [ML 0])) b=some (.lst [ML 0]):=ab
   generalize upd H2 b (.lst [ML 0])=H3 at t2 s2 tb
   nofun
   refine ⟨z,rfl,aF (by lia),?_⟩
   nofun
   have em:(m:Int) - (z.length:Int)=((m - z.length:Nat):Int):=by lia
   rw [em]
   refine ⟨b,_,_,rfl,rfl,tb,by lia,by lia,aF (by simp only [EM,E4,FL]; lia),λ d hd=>?_⟩
   rw [DY]
   have t3:(upd H3 d (.lst ((EB (m - z.length) (0:Int)).map ML))) a=some (.lst ((z.cps.toList.map (λ c=>((c:Nat):Int) - 96)).map ML)):=by rw [aq (ak t2 hd)]; exact t2
   have s3:=s2.new (o:=.lst ((EB (m - z.length) (0:Int)).map ML)) hd
   have td:(upd H3 d (.lst ((EB (m - z.length) (0:Int)).map ML))) d=some (.lst ((EB (m - z.length) (0:Int)).map ML)):=ab
   generalize upd H3 d (.lst ((EB (m - z.length) (0:Int)).map ML))=H4 at t3 s3 td
   refine ⟨a,d,_,_,rfl,rfl,t3,td,aF (by rw [Ed,Ed,Ed,FF,FD]; lia),λ e he=>?_⟩
   have eq1:(z.cps.toList.map (λ c=>((c:Nat):Int) - 96)).map ML++(EB (m - z.length) (0:Int)).map ML=(rQ m z).map ML:=by unfold rQ; rw [<-EA]
   rw [eq1]
   have s4:=s3.new (o:=.lst ((rQ m z).map ML)) he
   have te:(upd H4 e (.lst ((rQ m z).map ML))) e=some (.lst ((rQ m z).map ML)):=ab
   generalize upd H4 e (.lst ((rQ m z).map ML))=H5 at s4 te
   refine iI (MJ te) λ f hf=>?_
   nofun
   exact k f _ (s4.free hf) (s4.new hf) ab
noncomputable def yu (zs:List Str) (m:Nat):Prop:=(∀ z∈zs,z.length<=m)/\(zs=[]/\m=0\/∃ z∈zs,z.length=m)
noncomputable def xW (K:Ee):Sp:=λ vs H Q _=>∃ (a:Addr) (zs:List Str),vs=[.ref a]/\(SqL K H a (zs.map MM)\/SqT K H a (zs.map MM))/\zs.length<=200/\(∀ z∈zs,Ltr 30 z)/\∀ (l:Addr) (ps:List Addr) (m:Nat) H',H l=none->Same H H'->H' l=some (.lst (ps.map MP))->TRows H' ps zs m->yu zs m->m<=30->Q (.ref l) H'
theorem lU (T:Tx K mg t):FnOk P t.wd K mg base CX0 2 t.fW t.fT ["texts"] (xW K):=by
 refine T.i6.okQ sc_text_rows (λ vs H Q E h=>?_) (λ cdv A outer s H vs Q E hr h=>?_)
 ·obtain ⟨a,zs,rfl,_⟩:=h
  rfl
 ·obtain ⟨a,zs,rfl,hs,hlen,hL,q⟩:=h
  rcases hs with hs | hs
  ·refine ⟨_,(ac (av (i:=1) sc_text_rows.nd rfl (Gh rfl) (q8 (K:=K) rfl rfl T.ny (ah (bu (N:=["text"]) (tgs:=["text"]) (frs:=[]) (ix:=[]) ⟨rfl,by decide +kernel,rfl,by decide +kernel,rfl,rfl,Et,Et,rfl⟩ rfl (bq (K:=K) (qv 0)) (λ _ _ _ _=>(ap (i:=0) (by show EZ (["text"]:List Str); decide +kernel) rfl (En rfl))) (λ _ _ _ _=>(af fj (by rfl) T.bH aX (ah (qv 0) aa)))) aa)))
   (ai (ao (bu (N:=["text","columns"]) (tgs:=["text"]) (frs:=["columns"]) (ix:=[1]) ⟨rfl,by decide +kernel,rfl,by decide +kernel,rfl,rfl,⟨⟨rfl,rfl,_,rfl,rfl⟩,Et⟩,⟨rfl,Et⟩,rfl⟩ rfl (bq (K:=K) (qv 0)) (λ _ _ _ _=>(ap (i:=0) (by show EZ (["text","columns"]:List Str); decide +kernel) rfl (En rfl))) (λ _ _ _ _=>(aj (iZ T) (hr.mono (by decide)) rfl T.jQ T.gP.kp T.jP aA (ah (qv 0) (ah (qv 1) aa)))))))),?_⟩
   rw [show L2.aK ["texts","columns"] [MP a]=[some (MP a),none] from rfl]
   nofun
   refine ⟨a,rfl,⟨_,hs⟩,cv (a:=a) (vs:=zs.map MM) (λ i ys σ H'=>H'=H/\ys=((zs.take i).map λ z=>((z.length:Nat):Int)).map ML/\i<=zs.length/\∃ v,σ=[v]) (by rw [Ed]; exact al (by lia)) (λ i ys σ H' h=>by obtain ⟨_,rfl,hi,_⟩:=h; simp; lia) (λ i ys σ H' h=>by rw [h.1]; exact hs) ⟨rfl,rfl,EI _,none,rfl⟩ ?_ ?_⟩
   ·rintro i ys σ H' x hx ⟨rfl,rfl,_,v,rfl⟩
    obtain ⟨z,rfl,hz,hzm,hi'⟩:=aT hx
    nofun
    refine ⟨z,rfl,aF (by have:=(hL z hzm).1; lia),?_⟩
    refine MO (by rw [Ed]; exact hi') ⟨rfl,?_,hi',_,rfl⟩
    rw [EC,hz,EA,EA]
    rfl
   ·rintro ys σ H' ⟨rfl,rfl,_,v,rfl⟩ l0 hl0
    rw [Em (by simp)]
    have t0:(upd H' l0 (.lst ((zs.map λ z=>((z.length:Nat):Int)).map ML))) l0=some (.lst ((zs.map λ z=>((z.length:Nat):Int)).map ML)):=ab
    have s0:=(MN H').new (o:=.lst ((zs.map λ z=>((z.length:Nat):Int)).map ML)) hl0
    generalize upd H' l0 (.lst ((zs.map λ z=>((z.length:Nat):Int)).map ML))=H1 at t0 s0
    nofun
    refine ⟨l0,_,rfl,MJ t0,λ mm hmm=>?_⟩
    obtain ⟨m,rfl,hM⟩:∃ m:Nat,mm=m/\yu zs m:=by
     rcases hmm with ⟨h0,rfl⟩ | ⟨h1,h2⟩
     ·have e0:zs=[]:=JD.mp h0
      exact ⟨0,rfl,by rw [e0]; exact λ z h=>(nomatch h),.inl ⟨e0,rfl⟩⟩
     ·obtain ⟨z,hz,rfl⟩:=Es.mp h1
      refine ⟨z.length,rfl,λ y hy=>?_,.inr ⟨z,hz,rfl⟩⟩
      have:=h2 _ (Es.mpr ⟨y,hy,rfl⟩)
      lia
    have hm:m<=30:=by
     rcases hM.2 with ⟨_,rfl⟩ | ⟨z,hz,rfl⟩
     ·lia
     ·exact (hL z hz).1
    nofun
    refine ⟨a,rfl,⟨_,s0.seq hs⟩,cv (a:=a) (vs:=zs.map MM) (λ i ys σ H2=>Same H' H2/\(∃ ps:List Addr,ys=ps.map MP/\ps.length=i/\i<=zs.length/\TRows H2 ps (zs.take i) m)/\∃ v,σ=[v,some (ML m)]) (by rw [Ed]; exact al (by lia)) (λ i ys σ H2 h=>by obtain ⟨_,⟨ps,rfl,e,_⟩,_⟩:=h; rw [Ed,e]) (λ i ys σ H2 h=>h.1.seq hs) ⟨s0,⟨[],rfl,rfl,EI _,rfl,λ i p z h=>by simp at h⟩,none,rfl⟩ ?_ ?_⟩
    ·rintro i ys σ H2 x hx ⟨sm,⟨ps,rfl,hpl,_,hR⟩,v,rfl⟩
     obtain ⟨z,rfl,hz,hzm,hi'⟩:=aT hx
     nofun
     refine ⟨z,m,rfl,hL z hzm,hM.1 z hzm,hm,λ p H3 hp sm2 t2=>?_⟩
     refine MO (by rw [Ed]; exact hi') ⟨sm.trans sm2,⟨ps++[p],by rw [EA]; rfl,by simp [hpl],hi',?_⟩,_,rfl⟩
     have et:zs.take (i+1)=zs.take i++[z]:=by rw [EC,hz]; rfl
     rw [et]
     exact (hR.same sm2).snoc t2
    ·rintro ys σ H2 ⟨sm,⟨ps,rfl,hpl,_,hR⟩,v,rfl⟩ l hl
     rw [Em (by simp)] at hR
     exact q l ps m _ (sm.free hl) (sm.new hl) ab (hR.same ((MN _).new hl)) hM hm
  ·refine ⟨_,(ac (av (i:=1) sc_text_rows.nd rfl (Gh rfl) (q8 (K:=K) rfl rfl T.ny (ah (bu (N:=["text"]) (tgs:=["text"]) (frs:=[]) (ix:=[]) ⟨rfl,by decide +kernel,rfl,by decide +kernel,rfl,rfl,Et,Et,rfl⟩ rfl (jF (K:=K) (qv 0)) (λ _ _ _ _=>(ap (i:=0) (by show EZ (["text"]:List Str); decide +kernel) rfl (En rfl))) (λ _ _ _ _=>(af fj (by rfl) T.bH aX (ah (qv 0) aa)))) aa)))
   (ai (ao (bu (N:=["text","columns"]) (tgs:=["text"]) (frs:=["columns"]) (ix:=[1]) ⟨rfl,by decide +kernel,rfl,by decide +kernel,rfl,rfl,⟨⟨rfl,rfl,_,rfl,rfl⟩,Et⟩,⟨rfl,Et⟩,rfl⟩ rfl (jF (K:=K) (qv 0)) (λ _ _ _ _=>(ap (i:=0) (by show EZ (["text","columns"]:List Str); decide +kernel) rfl (En rfl))) (λ _ _ _ _=>(aj (iZ T) (hr.mono (by decide)) rfl T.jQ T.gP.kp T.jP aA (ah (qv 0) (ah (qv 1) aa)))))))),?_⟩
   rw [show L2.aK ["texts","columns"] [MP a]=[some (MP a),none] from rfl]
   nofun
   refine ⟨a,rfl,⟨_,hs⟩,gg (a:=a) (vs:=zs.map MM) (λ i ys σ H'=>H'=H/\ys=((zs.take i).map λ z=>((z.length:Nat):Int)).map ML/\i<=zs.length/\∃ v,σ=[v]) (by rw [Ed]; exact al (by lia)) (λ i ys σ H' h=>by obtain ⟨_,rfl,hi,_⟩:=h; simp; lia) (λ i ys σ H' h=>by rw [h.1]; exact hs) ⟨rfl,rfl,EI _,none,rfl⟩ ?_ ?_⟩
   ·rintro i ys σ H' x hx ⟨rfl,rfl,_,v,rfl⟩
    obtain ⟨z,rfl,hz,hzm,hi'⟩:=aT hx
    nofun
    refine ⟨z,rfl,aF (by have:=(hL z hzm).1; lia),?_⟩
    refine MO (by rw [Ed]; exact hi') ⟨rfl,?_,hi',_,rfl⟩
    rw [EC,hz,EA,EA]
    rfl
   ·rintro ys σ H' ⟨rfl,rfl,_,v,rfl⟩ l0 hl0
    rw [Em (by simp)]
    have t0:(upd H' l0 (.lst ((zs.map λ z=>((z.length:Nat):Int)).map ML))) l0=some (.lst ((zs.map λ z=>((z.length:Nat):Int)).map ML)):=ab
    have s0:=(MN H').new (o:=.lst ((zs.map λ z=>((z.length:Nat):Int)).map ML)) hl0
    generalize upd H' l0 (.lst ((zs.map λ z=>((z.length:Nat):Int)).map ML))=H1 at t0 s0
    nofun
    refine ⟨l0,_,rfl,MJ t0,λ mm hmm=>?_⟩
    obtain ⟨m,rfl,hM⟩:∃ m:Nat,mm=m/\yu zs m:=by
     rcases hmm with ⟨h0,rfl⟩ | ⟨h1,h2⟩
     ·have e0:zs=[]:=JD.mp h0
      exact ⟨0,rfl,by rw [e0]; exact λ z h=>(nomatch h),.inl ⟨e0,rfl⟩⟩
     ·obtain ⟨z,hz,rfl⟩:=Es.mp h1
      refine ⟨z.length,rfl,λ y hy=>?_,.inr ⟨z,hz,rfl⟩⟩
      have:=h2 _ (Es.mpr ⟨y,hy,rfl⟩)
      lia
    have hm:m<=30:=by
     rcases hM.2 with ⟨_,rfl⟩ | ⟨z,hz,rfl⟩
     ·lia
     ·exact (hL z hz).1
    nofun
    refine ⟨a,rfl,⟨_,s0.tup hs⟩,gg (a:=a) (vs:=zs.map MM) (λ i ys σ H2=>Same H' H2/\(∃ ps:List Addr,ys=ps.map MP/\ps.length=i/\i<=zs.length/\TRows H2 ps (zs.take i) m)/\∃ v,σ=[v,some (ML m)]) (by rw [Ed]; exact al (by lia)) (λ i ys σ H2 h=>by obtain ⟨_,⟨ps,rfl,e,_⟩,_⟩:=h; rw [Ed,e]) (λ i ys σ H2 h=>h.1.tup hs) ⟨s0,⟨[],rfl,rfl,EI _,rfl,λ i p z h=>by simp at h⟩,none,rfl⟩ ?_ ?_⟩
    ·rintro i ys σ H2 x hx ⟨sm,⟨ps,rfl,hpl,_,hR⟩,v,rfl⟩
     obtain ⟨z,rfl,hz,hzm,hi'⟩:=aT hx
     nofun
     refine ⟨z,m,rfl,hL z hzm,hM.1 z hzm,hm,λ p H3 hp sm2 t2=>?_⟩
     refine MO (by rw [Ed]; exact hi') ⟨sm.trans sm2,⟨ps++[p],by rw [EA]; rfl,by simp [hpl],hi',?_⟩,_,rfl⟩
     have et:zs.take (i+1)=zs.take i++[z]:=by rw [EC,hz]; rfl
     rw [et]
     exact (hR.same sm2).snoc t2
    ·rintro ys σ H2 ⟨sm,⟨ps,rfl,hpl,_,hR⟩,v,rfl⟩ l hl
     rw [Em (by simp)] at hR
     exact q l ps m _ (sm.free hl) (sm.new hl) ab (hR.same ((MN _).new hl)) hM hm
theorem map_some {α β:Type} {f:α->β} {xs:List α} {y:β} (h:(xs.map f)[i]? = some y):∃ x,xs[i]? = some x/\y=f x:=by
 rw [El] at h
 cases e:xs[i]? with
 | none=>rw [e] at h; cases h
 | some x=>rw [e] at h; exact ⟨x,rfl,(EO h).symm⟩
theorem Ak {bs:List (List Int)} {ps:List (List Int×Int)} (h:Cn bs ps) (r:List Int):(gZ (ps.map dTf) (g9 r)).getD (.int 0)=.int (bs.count r:Nat):=by
 obtain ⟨h1,h2,h3⟩:=h
 by_cases hr:r∈ps.map (·.1)
 ·obtain ⟨⟨r',n⟩,hm,rfl⟩:=Es.mp hr
  rw [(iS (r:=r') (ps:=ps)).2 n h1 hm]
  have e:=h3 _ hm
  have e2:n=(bs.count r':Int):=e
  rw [e2]; rfl
 ·rw [(iS (r:=r) (ps:=ps)).1 hr,Ga.mpr λ z=>hr ((h2 r).mpr z)]
  rfl
theorem Al (xs:List V):mG xs none (some (-1))=xs.dropLast:=by
 unfold mG
 rw [HT.nE,G6,JQ,Jm]
 congr 1
 first
  | rfl
  | (unfold HT.sIx; simp; lia)
  | (unfold HT.sIx; split<;>lia)
theorem m8 (r:List Int):(g9 r).map kV=r.map ML:=by rw [m4]
noncomputable def cI (zs:List (List Int×Int)):List (List Int):=zs.map λ z=>z.1.dropLast
noncomputable def DZ:Sp:=λ vs H Q _=>∃ (a:Addr) (as qs:List Addr) (zs:List (List Int×Int)),vs=[.ref a]/\H a=some (.lst (as.map MP))/\PairsAt H as qs zs/\zs.length<=61/\(∀ z∈zs,z.1.length<=201)/\
 ∀ (o:Addr) (cs:List (List Int×Int)) H',H o=none->Same H H'->H' o=some (.dT (cs.map dTf))->Cn (cI zs) cs->Q (.ref o) H'
theorem gM (T:Tx K mg t):FnOk P t.wd K mg base CX0 1 t.cr t.cm ["longer"] DZ:=by
 refine T.eh.okQ sc_many_goings_on (λ vs H Q E h=>?_) (λ cdv A outer s H vs Q E hr h=>?_)
 ·obtain ⟨a,as,qs,zs,rfl,_⟩:=h
  rfl
 ·obtain ⟨a,as,qs,zs,rfl,ta,hP,hn,hw,k⟩:=h
  refine ⟨_,(ac (av (i:=1) sc_many_goings_on.nd rfl (En rfl) n9)
   (ac (bP ET rfl (bq (K:=K) (qv 0)) (cV (K:=K) (n:=2) rfl (aC (ap (i:=2) sc_many_goings_on.nd rfl (En rfl)) (aC (ap (i:=3) sc_many_goings_on.nd rfl (En rfl)) bL))) (ac (av (i:=4) sc_many_goings_on.nd rfl (En rfl) (aM (cW (K:=K)) (by rfl) T.aZ aU (ah (ip vD (qv 2) qj (gF (la li ae))) aa)))
   (ai (qW (qc hr) (qv 1) (qv 4) (ay cS (kn (qc hr) (qv 1) (qv 4) ae) ae)))))
   (ai (ao (qv 1))))),?_⟩
  rw [show L2.aK ["longer","many","beginning","rows_with_it","shorter"] [MP a]=[some (MP a),none,none,none,none] from rfl]
  nofun
  intro o ho
  have s1:=(MN H).new (o:=.dT []) ho
  have to:(upd H o (.dT [])) o=some (.dT (([]:List (List Int×Int)).map dTf)):=ab
  generalize upd H o (.dT [])=H1 at s1 to
  nofun
  refine ⟨a,rfl,⟨_,MJ (s1 _ _ ta)⟩,dz (a:=a) (xs:=as.map MP) (λ i σ H2=>Same H H2/\(∃ cs:List (List Int×Int),H2 o=some (.dT (cs.map dTf))/\Cn (cI (zs.take i)) cs/\cs.length<=i)/\∃ u v x,σ=[some (MP a),some (MP o),u,v,x]) ⟨s1,⟨[],to,by rw [G9]; exact Cn.nil,Eh _⟩,_,_,_,rfl⟩ (λ i σ H2 _ h=>MJ (h.1 _ _ ta)) ?_ ?_⟩
  ·rintro i x σ H2 hx ⟨s2,⟨cs,to2,hC,hcl⟩,u,v,x',rfl⟩
   obtain ⟨p,rfl,hp,_,hi⟩:=aT hx
   have hiz:i<zs.length:=by rw [<-hP.1]; exact hi
   have hiq:i<qs.length:=by rw [hP.2.1]; exact hiz
   have ez:zs[i]? = some zs[i]:=by simp [hiz]
   obtain ⟨tp,tq⟩:=hP.2.2 i p _ _ hp (Ef hiq) ez
   have tp:=s2 _ _ tp
   have tq:=s2 _ _ tq
   have es:cI (zs.take (i+1))=cI (zs.take i)++[zs[i].1.dropLast]:=by
    unfold cI
    rw [EC,ez,EA]; rfl
   rw [es]
   generalize qs[i]=q at tp tq
   generalize zs[i]=z at tp tq
   nofun
   refine bU tp ?_
   nofun
   refine ⟨_,rfl,q,_,rfl,tq,λ b H3 s3 tb=>?_⟩
   rw [Al,<-Ke] at tb
   have to3:=s3 _ _ to2
   nofun
   refine ⟨b,_,rfl,.inr ⟨MK tb,?_⟩⟩
   nofun
   refine ⟨o,rfl,.inr ⟨_,.inl to3⟩,?_⟩
   nofun
   obtain ⟨m,cs',e1,e2,hC',hl'⟩:=hC.step z.1.dropLast
   refine ⟨_,DGet.t to3 (k:=g9 z.1.dropLast) (by rw [m8]; exact tb),?_⟩
   rw [e1]
   nofun
   refine ⟨o,_,rfl,DPut.t to3 (k:=g9 z.1.dropLast) (by rw [m8]; exact tb) (by rw [Ed]; exact al (by lia)),?_⟩
   rw [e2]
   exact ⟨(s2.trans s3).own ho,⟨cs',ab,hC',by lia⟩,_,_,_,rfl⟩
  ·rintro σ H2 ⟨s2,⟨cs,to2,hC,hcl⟩,u,v,x',rfl⟩
   rw [Ed] at hC hcl
   rw [Em (by rw [hP.1]; exact Eh _)] at hC
   nofun
   exact k o cs H2 ho s2 to2 hC
noncomputable def pp (zs zs':List (List Int×Int)):Int:=(zs.map λ z=>if 1<(cI zs').count z.1 then z.2 else 0).sum
noncomputable def dZ (zss:List (List (List Int×Int))):Int:=((Eu (zss.length - 1)).map λ c=>pp (zss.getD c []) (zss.getD (c+1) [])).sum
noncomputable def BegsAt (H:Hp) (ds:List Addr) (zss:List (List (List Int×Int))):Prop:=ds.length=zss.length/\∀ (i:Nat) d zs,ds[i]? = some d->zss[i]? = some zs->∃ as qs,H d=some (.lst (as.map MP))/\PairsAt H as qs zs
theorem BegsAt.same {H H':Hp} {ds:List Addr} {zss:List (List (List Int×Int))} (h:BegsAt H ds zss) (s:Same H H'):BegsAt H' ds zss:=⟨h.1,λ i d zs e1 e2=>let ⟨as,qs,a,b⟩:=h.2 i d zs e1 e2; ⟨as,qs,s _ _ a,b.same s⟩⟩
noncomputable def D0:Sp:=λ vs H Q _=>∃ (a:Addr) (ds:List Addr) (zss:List (List (List Int×Int))),vs=[.ref a]/\H a=some (.lst (ds.map MP))/\BegsAt H ds zss/\zss.length<=201/\0<zss.length/\(∀ zs∈zss,zs.length<=61/\∀ z∈zs,z.1.length<=201)/\
 ∀ (t:Addr) (n:Int) H',Same H H'->H' t=some (.tup [.int n,.int (dZ zss)])->Q (.ref t) H'
theorem uV {f:Nat->Int} (h:Nat):(((Eu n).map f).take (h+1)).sum=(((Eu n).map f).take h).sum+(if h<n then f h else 0):=by
 rw [EC,Gw,El]
 by_cases g:h<n
 ·rw [FE g,if_pos g]; simp
 ·rw [Ge (by simpa using g),if_neg g]; simp
theorem gN (T:Tx K mg t):FnOk P t.wd K mg base CX0 2 t.cn t.cj ["lists"] D0:=by
 refine T.ee.okQ sc_ahead_of_first (λ vs H Q E h=>?_) (λ cdv A outer s H vs Q E hr h=>?_)
 ·obtain ⟨a,ds,zss,rfl,_⟩:=h
  rfl
 ·obtain ⟨a,ds,zss,rfl,ta,hB,hn,hp,hw,k⟩:=h
  refine ⟨_,(ac (av (i:=1) sc_ahead_of_first.nd rfl (En rfl) ae)
   (ac (av (i:=2) sc_ahead_of_first.nd rfl (En rfl) ae)
   (ac (bP ET rfl (bD rfl T.bx (ah (ay eK (af (bv (K:=K)) (by rfl) T.bH aX (ah (qv 0) aa)) ae) aa)) (ap (i:=3) sc_ahead_of_first.nd rfl (En rfl)) (ac (av (i:=4) sc_ahead_of_first.nd rfl (En rfl) (aj (gM T) (hr.mono (by decide)) rfl T.im T.eh.kp T.ik aA (ah (ba (bE (K:=K)) (qv 0) (ay cS (qv 3) ae)) aa)))
   (ai (bP ET rfl (bq (K:=K) (ba (bE (K:=K)) (qv 0) (qv 3))) (cV (K:=K) (n:=2) rfl (aC (ap (i:=5) sc_ahead_of_first.nd rfl (En rfl)) (aC (ap (i:=6) sc_ahead_of_first.nd rfl (En rfl)) bL))) (ai (aR (az mN (kn (qc hr) (qv 4) (aM (cW (K:=K)) (by rfl) T.aZ aU (ah (qv 5) aa)) ae) ae (au _)) (ac (lh (i:=1) sc_ahead_of_first.nd rfl (En rfl) ae ql)
   (ai (lh (i:=2) sc_ahead_of_first.nd rfl (En rfl) (qv 6) ql))) aE))))))
   (ai (ao (bt (ah (qv 1) (ah (qv 2) aa)))))))),?_⟩
  rw [show L2.aK ["lists","steps","moves","column","goings_on","beginning","many"] [MP a]=[some (MP a),none,none,none,none,none,none] from rfl]
  nofun
  refine bj (MJ ta) ?_
  rw [Ed,hB.1]
  nofun
  generalize hN:zss.length - 1=N at *
  have eN:((zss.length:Nat):Int) - 1=((N:Nat):Int):=by lia
  rw [eN]
  refine ⟨_,rfl,by lia,by lia,dq (n:=N) (λ i σ H'=>Same H H'/\∃ (st:Int) (v1 v2 v3 v4:Option V),σ=[some (MP a),some (ML st),some (ML ((((Eu N).map λ c=>pp (zss.getD c []) (zss.getD (c+1) [])).take i).sum)),v1,v2,v3,v4]) ⟨MN _,0,_,_,_,_,rfl⟩ ?_ ?_⟩
  ·rintro c σ H1 hc ⟨s1,st,v1,v2,v3,v4,rfl⟩
   rw [uV,if_pos hc]
   generalize (((Eu N).map λ c=>pp (zss.getD c []) (zss.getD (c+1) [])).take c).sum=mv
   have h1:c+1<zss.length:=by lia
   have h0:c<zss.length:=by lia
   have e1:zss[c+1]? = some zss[c+1]:=by simp [h1]
   have e0:zss[c]? = some zss[c]:=by simp [h0]
   have d1:ds[c+1]? = some (ds[c+1]'(by rw [hB.1]; exact h1)):=by simp [hB.1,h1]
   have d0:ds[c]? = some (ds[c]'(by rw [hB.1]; exact h0)):=by simp [hB.1,h0]
   obtain ⟨as1,qs1,t1,P1⟩:=(hB.same s1).2 _ _ _ d1 e1
   obtain ⟨as0,qs0,t0,P0⟩:=(hB.same s1).2 _ _ _ d0 e0
   obtain ⟨w1,w1'⟩:=hw zss[c+1] (EQ h1)
   obtain ⟨w0,w0'⟩:=hw zss[c] (EQ h0)
   have g1:zss.getD (c+1) []=zss[c+1]:=by rw [Ej,e1]; rfl
   have g0:zss.getD c []=zss[c]:=by rw [Ej,e0]; rfl
   rw [g1,g0]
   generalize zss[c+1]=z1 at P1 w1 w1'
   generalize zss[c]=z0 at P0 w0 w0'
   generalize ds[c+1]'(by rw [hB.1]; exact h1)=p1 at d1 t1
   generalize ds[c]'(by rw [hB.1]; exact h0)=p0 at d0 t0
   nofun
   have ec:(0:Int)+((c:Nat):Int)+1=((c+1:Nat):Int):=by lia
   have ec0:(0:Int)+((c:Nat):Int)=((c:Nat):Int):=by lia
   rw [ec]
   refine cb (MJ (s1 _ _ ta)) (v:=MP p1) (bJ (by rw [El,d1]; rfl)) ?_
   refine ⟨p1,as1,qs1,z1,rfl,t1,P1,w1,w1',λ o cs H2 ho s2 to hC=>?_⟩
   nofun
   rw [ec0]
   refine cb (MJ ((s1.trans s2) _ _ ta)) (v:=MP p0) (bJ (by rw [El,d0]; rfl)) ?_
   refine ⟨p0,rfl,⟨_,MJ (s2 _ _ t0)⟩,dz (a:=p0) (xs:=as0.map MP) (λ i σ H'=>Same H2 H'/\∃ (st:Int) (v3 v4:Option V),σ=[some (MP a),some (ML st),some (ML (mv+((z0.map λ z=>if 1<(cI z1).count z.1 then z.2 else 0).take i).sum)),some (ML c),some (MP o),v3,v4]) ⟨MN _,st,v3,v4,by simp⟩ (λ i σ H' _ h=>MJ (h.1 _ _ (s2 _ _ t0))) ?_ ?_⟩
   ·rintro i x σ H3 hx ⟨s3,st,v3,v4,rfl⟩
    obtain ⟨p,rfl,hp,_,hi⟩:=aT hx
    have hiz:i<z0.length:=by rw [<-P0.1]; exact hi
    have hiq:i<qs0.length:=by rw [P0.2.1]; exact hiz
    have ez:z0[i]? = some z0[i]:=by simp [hiz]
    obtain ⟨tp,tq⟩:=((P0.same s2).same s3).2.2 i p _ _ hp (Ef hiq) ez
    have es:((z0.map λ z=>if 1<(cI z1).count z.1 then z.2 else 0).take (i+1)).sum=((z0.map λ z=>if 1<(cI z1).count z.1 then z.2 else 0).take i).sum+(if 1<(cI z1).count z0[i].1 then z0[i].2 else 0):=by
     rw [EC,Gw,El,ez]; simp
    rw [es]
    generalize ((z0.map λ z=>if 1<(cI z1).count z.1 then z.2 else 0).take i).sum=S
    generalize qs0[i]=q at tp tq
    generalize z0[i]=z at tp tq
    refine bU tp ?_
    nofun
    refine ⟨o,rfl,.inr ⟨_,.inl (s3 _ _ to)⟩,?_⟩
    nofun
    refine ⟨q,_,rfl,.inr ⟨MK tq,?_⟩⟩
    nofun
    refine ⟨_,DGet.t (s3 _ _ to) (k:=g9 z.1) (by rw [m8]; exact tq),?_⟩
    rw [Ak hC]
    nofun
    refine aW (λ g=>?_) (λ g=>?_)
    ·rw [if_pos (by lia)]
     nofun
     rw [Jz]
     exact ⟨s3,_,_,_,rfl⟩
    ·rw [if_neg (by lia)]
     nofun
     rw [JV]
     exact ⟨s3,_,_,_,rfl⟩
   ·rintro σ H3 ⟨s3,st,v3,v4,rfl⟩
    rw [Em (by rw [Ed,Ed,P0.1]; exact Eh _)]
    exact ⟨(s1.trans s2).trans s3,_,_,_,_,_,rfl⟩
  ·rintro σ H1 ⟨s1,st,v1,v2,v3,v4,rfl⟩
   rw [Em (by simp)]
   nofun
   refine ⟨aF (by simp),λ t ht=>?_⟩
   refine k t st _ (s1.new ht) ?_
   rw [ab]
   unfold dZ
   rw [hN]
noncomputable def eE (rss:List (List Nat)) (w b:Nat):Nat:=qI (cA rss w b)
noncomputable def fP (rss:List (List Nat)):Int:=dY (gX (bI rss rss.length))
noncomputable def BgF (rss:List (List Nat)) (w:Nat) (zss:List (List (List Int×Int))):Prop:=zss.length=(if rss=[] then 0 else w)+1/\∀ (c:Nat) zs,zss[c]? = some zs->Bgs (bgs rss c) zs
noncomputable def Rws (H:Hp) (l:Addr) (rss:List (List Nat)) (w b:Nat):Prop:=(∃ ps:List Addr,H l=some (.lst (ps.map MP))/\RowsT H ps rss)/\uN rss w b/\rss.length<=61/\w<=200/\b<=64
theorem Rws.same {H H':Hp} {l:Addr} {rss:List (List Nat)} {w b:Nat} (h:Rws H l rss w b) (s:Same H H'):Rws H' l rss w b:=let ⟨⟨ps,a,r⟩,x⟩:=h; ⟨⟨ps,s _ _ a,r.same s⟩,x⟩
noncomputable def CJ:Sp:=λ vs H Q _=>∃ (a:Addr) (rss:List (List Nat)) (w b:Nat),vs=[.ref a,.int b]/\Rws H a rss w b/\∀ H',Same H H'->Q (.int (eE rss w b:Nat)) H'
theorem rR {w:Nat}:∀ r∈cA rss w b,r.length=b:=λ r hr=>by
 unfold cA at hr
 obtain ⟨c,_,rfl⟩:=Es.mp hr
 exact fI ..
theorem kE (T:Tx K mg t):FnOk P t.wd K mg base CX0 3 t.bX t.e8 ["rows","base"] CJ:=by
 refine T.hV.okQ kA (λ vs H Q E h=>?_) (λ cdv A outer s H vs Q E hr h=>?_)
 ·obtain ⟨a,rss,w,b,rfl,_⟩:=h
  rfl
 ·obtain ⟨a,rss,w,b,rfl,⟨⟨ps,ta,hR⟩,hG,hn,hw,hb⟩,k⟩:=h
  refine ⟨_,(ai (ao (ba (lj (K:=K)) (aj (ic T) (hr.mono (by decide)) rfl T.jk T.eV.kp T.i7 aA (ah (aj (uR T) (hr.mono (by decide)) rfl T.yq T.sr.kp T.yi aA (ah (qv 0) (ah (qv 1) aa))) aa)) ae))),?_⟩
  rw [show L2.aK ["rows","base"] [MP a,ML b]=[some (MP a),some (ML b)] from rfl]
  nofun
  refine ⟨a,ps,rss,w,b,rfl,ta,hR,hG,hn,hw,hb,λ l qs H1 hl _ _ s1 tl hQ=>?_⟩
  nofun
  refine ⟨l,qs,cA rss w b,rfl,.inl ⟨tl,hQ⟩,by rw [iN]; split<;>lia,λ r hr=>by rw [rR r hr]; exact hb,λ t l2 H2 hl2 ht s2 tt tl2=>?_⟩
  nofun
  exact k H2 (s1.trans s2)
theorem gq {α:Type} [BEq α] [LawfulBEq α]:∀ {xs ys:List α},xs.Nodup->(∀ x∈xs,x∈ys)->xs.length<=ys.length
 | [],_,_,_=>EI _
 | x::xs,ys,hn,h=>by
  rw [Fn] at hn
  have hx:x∈ys:=h x (EJ ..)
  have ih:=gq (xs:=xs) (ys:=ys.erase x) hn.2 λ z hz=>(Js λ e=>hn.1 (by rw [<-e]; exact hz)).mpr (h z (EH _ hz))
  rw [ID hx] at ih
  have:=List.length_pos_of_mem hx
  rw [EM]
  lia
theorem xX {bs:List (List Int)} {zs:List (List Int×Int)} (h:Bgs bs zs):zs.length<=bs.length:=by
 have hn:(zs.map (·.1)).Nodup:=h.1.imp λ {a b} e z=>by
  rw [z] at e
  have:=HT.dv _ _ e
  rw [e] at this; cases this
 have:=gq hn λ r hr=>(h.2.1 r).mp hr
 rwa [Ed] at this
noncomputable def CK:Sp:=λ vs H Q _=>∃ (a:Addr) (rss:List (List Nat)) (w b:Nat),vs=[.ref a,.int b]/\Rws H a rss w b/\∀ zss H',BgF rss w zss->Same H H'->Q (.int (dZ zss)) H'
theorem jv (T:Tx K mg t):FnOk P t.wd K mg base CX0 3 t.bO t.dJ ["rows","base"] CK:=by
 refine T.gx.okQ ju (λ vs H Q E h=>?_) (λ cdv A outer s H vs Q E hr h=>?_)
 ·obtain ⟨a,rss,w,b,rfl,_⟩:=h
  rfl
 ·obtain ⟨a,rss,w,b,rfl,⟨⟨ps,ta,hR⟩,hG,hn,hw,hb⟩,k⟩:=h
  refine ⟨_,(ai (ao (ba (lj (K:=K)) (aj (gN T) (hr.mono (by decide)) rfl T.il T.ee.kp T.ij aA (ah (bu (N:=["column","rows"]) (tgs:=["column"]) (frs:=["rows"]) (ix:=[0]) ⟨rfl,by decide +kernel,rfl,by decide +kernel,rfl,rfl,⟨⟨rfl,rfl,_,rfl,rfl⟩,Et⟩,⟨rfl,Et⟩,rfl⟩ rfl (bD rfl T.bx (ah (ay cS (aj (eS T) (hr.mono (by decide)) rfl T.fC T.db.kp T.fz aA (ah (qv 0) aa)) ae) aa)) (λ _ _ _ _=>(ap (i:=0) (by show EZ (["column","rows"]:List Str); decide +kernel) rfl (En rfl))) (λ _ _ _ _=>(aj (kD T) (hr.mono (by decide)) rfl T.mo T.hJ.kp T.mh aA (ah (qv 1) (ah (qv 0) aa))))) aa)) ae))),?_⟩
  rw [show L2.aK ["rows","base"] [MP a,ML b]=[some (MP a),some (ML b)] from rfl]
  nofun
  have hpl:ps.length=rss.length:=hR.1
  have hcols:∀ p,ps[0]? = some p->∃ zs,(H p=some (.lst zs)\/H p=some (.tup zs))/\zs.length=w:=λ p hp=>by
   have h0:0<rss.length:=by rw [<-hpl]; exact bQ hp
   have hl:=(hG rss[0] (EQ h0)).1
   have e0:rss[0]? = some rss[0]:=by simp
   exact ⟨_,.inr (hR.2 0 p _ hp e0),by rw [aQ]; exact hl⟩
  refine ⟨a,ps,rss,w,rfl,ta,hpl,hcols,?_⟩
  nofun
  have hW:(if rss=[] then 0 else w)<=w:=by split<;>lia
  have hW2:∀ r∈rss,r.length=(if rss=[] then 0 else w):=λ r hr=>by rw [(hG r hr).1,if_neg (λ z=>by rw [z] at hr; cases hr)]
  have hk:∀ zss H',BgF rss w zss->Same H H'->Q (.int (dZ zss)) H':=k
  unfold BgF at hk
  generalize (if rss=[] then 0 else w)=W at hW hW2 hk
  have eW:((W:Nat):Int)+1=((W+1:Nat):Int):=by lia
  rw [eW]
  refine ⟨_,rfl,by lia,by lia,j4 (n:=W+1) (λ i ys σ H'=>Same H H'/\(∃ (qs:List Addr) (zss:List (List (List Int×Int))),ys=qs.map MP/\qs.length=i/\BegsAt H' qs zss/\∀ (c:Nat) zs,zss[c]? = some zs->Bgs (bgs rss c) zs)/\∃ v,σ=[v,some (MP a)]) (al (by lia)) (λ i ys σ H' h=>by obtain ⟨_,⟨qs,zss,rfl,e,_⟩,_⟩:=h; rw [Ed,e]) ⟨MN _,⟨[],[],rfl,rfl,⟨rfl,λ i d zs h=>by simp at h⟩,λ c zs h=>by simp at h⟩,none,rfl⟩ ?_ ?_⟩
  ·rintro c ys σ H1 hc ⟨s1,⟨qs,zss,rfl,hql,hB,hz⟩,v,rfl⟩
   rw [G1]
   nofun
   refine ⟨a,ps,rss,c,W,rfl,s1 _ _ ta,hR.same s1,hW2,by lia,by lia,by lia,λ d as qs' zs H2 hd s2 td hP hb'=>?_⟩
   refine MO hc ⟨s1.trans s2,⟨qs++[d],zss++[zs],by rw [EA]; rfl,by simp [hql],⟨by simp [hB.1],λ i d' z' e1 e2=>?_⟩,λ c' z' e2=>?_⟩,_,rfl⟩
   ·rcases aL e1 with ⟨l,e1⟩ | ⟨l,e1⟩
    ·rcases aL e2 with ⟨_,e2⟩ | ⟨l',e2⟩
     ·exact (hB.same s2).2 i d' z' e1 e2
     ·have:=hB.1; lia
    ·rcases aL e2 with ⟨l',e2⟩ | ⟨_,e2⟩
     ·have:=hB.1; lia
     ·rw [e1,e2]; exact ⟨as,qs',td,hP⟩
   ·rcases aL e2 with ⟨_,e2⟩ | ⟨l',e2⟩
    ·exact hz c' z' e2
    ·have h1:=hB.1
     have:c'=c:=by lia
     rw [this,e2]; exact hb'
  ·rintro ys σ H1 ⟨s1,⟨qs,zss,rfl,hql,hB,hz⟩,v,rfl⟩ l hl
   have s2:=s1.new (o:=.lst (qs.map MP)) hl
   have hB2:=hB.same ((MN H1).new (o:=.lst (qs.map MP)) hl)
   have tl:(upd H1 l (.lst (qs.map MP))) l=some (.lst (qs.map MP)):=ab
   generalize upd H1 l (.lst (qs.map MP))=H2 at s2 hB2 tl
   have hzl:zss.length=W+1:=by rw [<-hB.1]; exact hql
   nofun
   refine ⟨l,qs,zss,rfl,tl,hB2,by lia,by lia,λ zs hzs=>?_,λ t n H3 s3 tt=>?_⟩
   ·obtain ⟨c,hc,e⟩:=JB hzs
    have hb':=hz c zs (by rw [Ef hc,e])
    refine ⟨Fb (xX hb') (by unfold bgs; rw [Ed]; exact hn),λ z hz'=>?_⟩
    have hm:=(hb'.2.1 z.1).mp (Es.mpr ⟨z,hz',rfl⟩)
    unfold bgs at hm
    obtain ⟨r,hr,er⟩:=Es.mp hm
    rw [<-er]
    unfold aY
    rw [Ed,EV]
    have:=hW2 r hr
    lia
   ·nofun
    exact hk zss H3 ⟨hzl,hz⟩ (s2.trans s3)
noncomputable def CL:Sp:=λ vs H Q _=>∃ (a:Addr) (rss:List (List Nat)) (w b:Nat),vs=[.ref a,.int b]/\Rws H a rss w b/\∀ H',Same H H'->Q (.int (fP rss)) H'
theorem kF (T:Tx K mg t):FnOk P t.wd K mg base CX0 3 t.bY t.fc ["rows","base"] CL:=by
 refine T.hZ.okQ kB (λ vs H Q E h=>?_) (λ cdv A outer s H vs Q E hr h=>?_)
 ·obtain ⟨a,rss,w,b,rfl,_⟩:=h
  rfl
 ·obtain ⟨a,rss,w,b,rfl,⟨⟨ps,ta,hR⟩,hG,hn,hw,hb⟩,k⟩:=h
  refine ⟨_,(ai (ao (ba (lj (K:=K)) (aj (ig T) (hr.mono (by decide)) rfl T.jl T.eX.kp T.i8 aA (ah (aj (xS T) (hr.mono (by decide)) rfl T.AR T.vT.kp T.AH aA (ah (qv 0) aa)) aa)) ae))),?_⟩
  rw [show L2.aK ["rows","base"] [MP a,ML b]=[some (MP a),some (ML b)] from rfl]
  nofun
  refine ⟨a,ps,rss,rfl,ta,hR,hn,λ l H1 hl s1 tl=>?_⟩
  nofun
  refine ⟨l,_,rfl,.inl tl,Fb (gk _ _) (by lia),λ t st qs H2 hst s2 tt _ _=>?_⟩
  nofun
  exact k H2 (s1.trans s2)
noncomputable def Am (K:Ee) (t:Ad):V->Sp->Prop:=λ v sp=>(v=.ref t.bX/\sp=CJ)\/(v=.ref t.bO/\sp=CK)\/(v=.ref t.bY/\sp=CL)
noncomputable def MvL (H:Hp) (l:Addr) (n1 n2 n3:Int):Prop:=∃ t1 t2 t3:Addr,H l=some (.lst [.ref t1,.ref t2,.ref t3])/\H t1=some (.tup [.str "last",.int n1])/\H t2=some (.tup [.str "first",.int n2])/\H t3=some (.tup [.str "runs",.int n3])
inductive Kd
 | nu (ns:List Int)
 | pa (tb:List (Int×Nat))
 | te (zs:List Str)
noncomputable def Kd.name:Kd->Str
 | .nu _=>"number"
 | .pa _=>"part"
 | .te _=>"text"
noncomputable def Kd.len:Kd->Nat
 | .nu ns=>ns.length
 | .pa tb=>tb.length
 | .te zs=>zs.length
noncomputable def Kd.ok:Kd->Prop
 | .nu ns=>ns.length<=61/\∀ x∈ns,-(10 ^ 18)<x/\x<10 ^ 18
 | .pa tb=>tb.length<=61/\(∀ z∈tb,1<=z.2/\z.2<=60)/\∀ z∈tb,-(10 ^ 18)<z.1/\z.1<10 ^ 18
 | .te zs=>zs.length<=61/\∀ z∈zs,Ltr 30 z
noncomputable def KAt (H:Hp):Kd->List V->Prop
 | .nu ns,vs=>vs=ns.map ML
 | .pa tb,vs=>∃ qs:List Addr,vs=qs.map MP/\PartsT H qs tb
 | .te zs,vs=>vs=zs.map MM
theorem KAt.same {H H':Hp} {k:Kd} {vs:List V} (h:KAt H k vs) (s:Same H H'):KAt H' k vs:=by
 cases k with
 | nu ns=>exact h
 | pa tb=>obtain ⟨qs,e,p⟩:=h; exact ⟨qs,e,p.same s⟩
 | te zs=>exact h
theorem Kd.ok.le {k:Kd} (h:k.ok):k.len<=61:=by cases k<;>exact h.1
noncomputable def dgN (n b m:Nat):List Nat:=(Eu m).map λ j=>n / b ^ (m - 1 - j) % b
theorem xY (n b m:Nat):(dgN n b m).length=m:=by simp [dgN]
theorem An (n b m:Nat):aY (dgN n b m)=dg n b m:=by
 unfold aY dgN dg
 rw [E6]; rfl
theorem Ao (hb:2<=b):∀ x∈dgN n b m,x<b:=λ x hx=>by
 unfold dgN at hx
 obtain ⟨j,_,rfl⟩:=Es.mp hx
 exact KY _ (by lia)
noncomputable def trN (m:Nat) (z:Str):List Nat:=z.cps.toList.map (λ c=>c - 96)++EB (m - z.length) 0
theorem Ap (h:Ltr 30 z):aY (trN m z)=rQ m z:=by
 unfold aY trN rQ
 rw [EA,E6,G3]
 congr 1
 apply Fj
 intro c hc
 have:=h.2 c hc
 show ((c - 96:Nat):Int)=(c:Int) - 96
 lia
theorem xZ (h:z.length<=m):(trN m z).length=m:=by
 unfold trN
 rw [ED,Ed,FF]
 have e:z.cps.toList.length=z.length:=by simp [KD]
 lia
theorem Aq (h:Ltr 30 z):∀ x∈trN m z,x<27:=λ x hx=>by
 unfold trN at hx
 rcases EX.mp hx with hx | hx
 ·obtain ⟨c,hc,rfl⟩:=Es.mp hx
  have:=h.2 c hc
  lia
 ·have:=G4 hx
  lia
noncomputable def Ar (ns:List Int) (b:Nat) (rss:List (List Nat)) (w:Nat):Prop:=∃ zs,Spelt ns b zs w/\rss=zs.map λ z=>dgN z b w
noncomputable def Kd.rows (b:Nat) (rss:List (List Nat)) (w by':Nat):Kd->Prop
 | .nu ns=>Ar ns b rss w/\by'=b
 | .pa tb=>Ar (bF tb) b rss w/\by'=b
 | .te zs=>(yu zs w/\w<=30/\rss=zs.map (trN w))/\by'=27
theorem on {H:Hp} {ps:List Addr} (h:RowsAt H ps b m zs):RowsT H ps (zs.map λ z=>dgN z b m):=by
 refine ⟨by rw [Ed]; exact h.1,λ i p r e1 e2=>?_⟩
 obtain ⟨z,hz,rfl⟩:=map_some e2
 rw [fk,An]
 exact h.2 i p z e1 hz
theorem rS {H:Hp} {ps:List Addr} {zs:List Str} (h:TRows H ps zs m) (hL:∀ z∈zs,Ltr 30 z):RowsT H ps (zs.map (trN m)):=by
 refine ⟨by rw [Ed]; exact h.1,λ i p r e1 e2=>?_⟩
 obtain ⟨z,hz,rfl⟩:=map_some e2
 rw [fk,Ap (hL z (EN hz))]
 exact h.2 i p z e1 hz
theorem lV {ns:List Int} {w:Nat} (h:Ar ns b rss w) (hb:2<=b):uN rss w b/\rss.length=ns.length/\w<=200:=by
 obtain ⟨zs,hS,rfl⟩:=h
 refine ⟨λ r hr=>?_,by rw [Ed]; exact hS.len,by have:=hS.few; lia⟩
 obtain ⟨z,_,rfl⟩:=Es.mp hr
 exact ⟨xY ..,Ao hb⟩
theorem Kd.rows.good {k:Kd} {w by':Nat} (h:k.rows b rss w by') (hk:k.ok) (hb:2<=b) (hb2:b<=64):uN rss w by'/\rss.length=k.len/\w<=200/\by'<=64:=by
 cases k with
 | nu ns=>obtain ⟨h,rfl⟩:=h; obtain ⟨a,c,d⟩:=lV h hb; exact ⟨a,c,d,hb2⟩
 | pa tb=>obtain ⟨h,rfl⟩:=h; obtain ⟨a,c,d⟩:=lV h hb; exact ⟨a,c.trans (cy tb),d,hb2⟩
 | te zs=>
  obtain ⟨⟨hM,hm,rfl⟩,rfl⟩:=h
  refine ⟨λ r hr=>?_,Ed ..,by lia,by decide⟩
  obtain ⟨z,hz,rfl⟩:=Es.mp hr
  exact ⟨xZ (hM.1 z hz),Aq (hk.2 z hz)⟩
noncomputable def As (K:Ee):Sp:=λ vs H Q _=>∃ (k:Kd) (us:List V) (a:Addr) (b:Nat),vs=[.str k.name,.ref a,.int b]/\(H a=some (.lst us)\/H a=some (.tup us))/\KAt H k us/\k.ok/\2<=b/\b<=64/\
 ∀ (t l:Addr) (ps:List Addr) (rss:List (List Nat)) (w by':Nat) H',Same H H'->H' t=some (.tup [.int by',.ref l])->H' l=some (.lst (ps.map MP))->RowsT H' ps rss->k.rows b rss w by'->Q (.ref t) H'
theorem lW {K:Ee} {H:Hp} {us:List V} (h:H a=some (.lst us)\/H a=some (.tup us)):SqL K H a us\/SqT K H a us:=h.elim (λ h=>.inl (MJ h)) λ h=>.inr (MK h)
theorem gO (T:Tx K mg t):FnOk P t.wd K mg base CX0 4 t.ji t.jf ["kind","keys","base"] (As K):=by
 refine T.gz.okQ pk (λ vs H Q E h=>?_) (λ cdv A outer s H vs Q E hr h=>?_)
 ·obtain ⟨k,us,a,b,rfl,_⟩:=h
  rfl
 ·obtain ⟨k,us,a,b,rfl,ta,hA,hk,hb,hb2,q⟩:=h
  refine ⟨_,(ac (aR (az gD (qv 0) bn (au _)) (ai (ao (bt (ah (mW (v:=.int 27) rfl T.nn ⟨_,rfl⟩) (ah (aj (lU T) (hr.mono (by decide)) rfl T.nw T.i6.kp T.ni aA (ah (qv 1) aa)) aa))))) aE)
   (ac (aR (az gD (qv 0) bn (au _)) (ai (ao (bt (ah (qv 2) (ah (aj (fw T) (hr.mono (by decide)) rfl T.gB T.dH.kp T.gA aA (ah (aj (ii T) (hr.mono (by decide)) rfl T.jo T.eZ.kp T.jc aA (ah (qv 1) aa)) (ah (qv 2) aa))) aa))))) aE)
   (ai (ao (bt (ah (qv 2) (ah (aj (fw T) (hr.mono (by decide)) rfl T.gB T.dH.kp T.gA aA (ah (qv 1) (ah (qv 2) aa))) aa))))))),?_⟩
  rw [show L2.aK ["kind","keys","base"] [MM k.name,MP a,ML b]=[some (MM k.name),some (MP a),some (ML b)] from rfl]
  cases k with
  | nu ns=>
   obtain rfl:us=ns.map ML:=hA
   nofun
   refine bV (show ¬ MM (E1 "number")=MM (E1 "text") by decide) ?_
   nofun
   refine bV (show ¬ MM (E1 "number")=MM (E1 "part") by decide) ?_
   nofun
   refine ⟨a,ns,b,rfl,lW ta,hb,hb2,⟨by have:=hk.1; lia,λ x hx=>by have:=hk.2 x hx; lia⟩,λ l ps zs m H' hl sm tl hR hS=>?_⟩
   nofun
   exact ⟨aF (by simp),λ t ht=>q t l ps _ m b _ (sm.new ht) ab (by rw [aq (ak tl ht)]; exact tl) (on (hR.same ((MN _).new ht))) ⟨⟨zs,hS,rfl⟩,rfl⟩⟩
  | pa tb=>
   obtain ⟨qs,rfl,hP⟩:=hA
   nofun
   refine bV (show ¬ MM (E1 "part")=MM (E1 "text") by decide) ?_
   nofun
   refine dU rfl ?_
   nofun
   refine ⟨a,qs,tb,rfl,by have:=hk.1; lia,hk.2.1,hk.2.2,ta.elim (λ h=>.inl ⟨MJ h,hP⟩) (λ h=>.inr ⟨MK h,hP⟩),λ l0 hl0=>?_⟩
   have sm0:=(MN H).new (o:=.lst ((bF tb).map ML)) hl0
   have t0:(upd H l0 (.lst ((bF tb).map ML))) l0=some (.lst ((bF tb).map ML)):=ab
   generalize upd H l0 (.lst ((bF tb).map ML))=H0 at sm0 t0
   nofun
   refine ⟨l0,bF tb,b,rfl,.inl (MJ t0),hb,hb2,⟨by rw [cy]; have:=hk.1; lia,qz hk.2.1 hk.2.2⟩,λ l ps zs m H' hl sm tl hR hS=>?_⟩
   nofun
   exact ⟨aF (by simp),λ t ht=>q t l ps _ m b _ ((sm0.trans sm).new ht) ab (by rw [aq (ak tl ht)]; exact tl) (on (hR.same ((MN _).new ht))) ⟨⟨zs,hS,rfl⟩,rfl⟩⟩
  | te zs=>
   obtain rfl:us=zs.map MM:=hA
   nofun
   refine dU rfl ?_
   nofun
   refine ⟨a,zs,rfl,lW ta,by have:=hk.1; lia,hk.2,λ l ps m H' hl sm tl hR hM hm=>?_⟩
   nofun
   exact ⟨aF (by simp),λ t ht=>q t l ps _ m 27 _ (sm.new ht) ab (by rw [aq (ak tl ht)]; exact tl) (rS (hR.same ((MN _).new ht)) hk.2) ⟨⟨hM,hm,rfl⟩,rfl⟩⟩
noncomputable def CM (k:Kd) (b:Nat) (n1 n2 n3:Int):Prop:=∃ (rss:List (List Nat)) (w by':Nat) (zss:List (List (List Int×Int))),k.rows b rss w by'/\BgF rss w zss/\n1=(eE rss w by':Nat)/\n2=dZ zss/\n3=fP rss
noncomputable def D1 (K:Ee):Sp:=λ vs H Q _=>∃ (k:Kd) (us:List V) (a:Addr) (b:Nat),vs=[.str k.name,.ref a,.int b]/\(H a=some (.lst us)\/H a=some (.tup us))/\KAt H k us/\k.ok/\2<=b/\b<=64/\
 ∀ (l:Addr) (n1 n2 n3:Int) H',H l=none->Same H H'->MvL H' l n1 n2 n3->CM k b n1 n2 n3->Q (.ref l) H'
theorem c9 (T:Tx K mg t):FnOk P t.wd K mg base CX0 5 t.dP t.dM ["kind","keys","base"] (D1 K):=by
 refine T.cx.okQ sc_moves_ahead (λ vs H Q E h=>?_) (λ cdv A outer s H vs Q E hr h=>?_)
 ·obtain ⟨k,us,a,b,rfl,_⟩:=h
  rfl
 ·obtain ⟨k,us,a,b,rfl,ta,hA,hk,hb,hb2,q⟩:=h
  refine ⟨_,(ac (mP (aj (gO T) (hr.mono (by decide)) rfl T.jn T.gz.kp T.jb aA (ah (qv 0) (ah (qv 1) (ah (qv 2) aa)))) (cV (K:=K) (n:=2) rfl (aC (ap (i:=3) sc_moves_ahead.nd rfl (En rfl)) (aC (ap (i:=4) sc_moves_ahead.nd rfl (En rfl)) bL))))
   (ac (av (i:=5) sc_moves_ahead.nd rfl (En rfl) (aO aa))
   (ac (bP ET rfl (jF (K:=K) (mW (v:=.ref t.ia) rfl T.AK rfl)) (ap (i:=6) sc_moves_ahead.nd rfl (En rfl)) (ac (av (i:=7) sc_moves_ahead.nd rfl (En rfl) (ba (Cz T.sO) (mW (v:=.ref t.gQ) rfl T.yp rfl) (qv 6)))
   (ai (bM (bC (K:=K) (qv 5) (ah (bt (ah (qv 6) (ah (uF (R:=Am K t) (qv 7) (λ v sp h=>by
     rcases h with ⟨rfl,rfl⟩ | ⟨rfl,rfl⟩ | ⟨rfl,rfl⟩
     ·exact ⟨_,_,_,_,_,rfl,kE T,hr.mono (by decide),T.hV.kp,T.mj,aA⟩
     ·exact ⟨_,_,_,_,_,rfl,jv T,hr.mono (by decide),T.gx.kp,T.kJ,aA⟩
     ·exact ⟨_,_,_,_,_,rfl,kF T,hr.mono (by decide),T.hZ.kp,T.mn,aA⟩) (ah (qv 4) (ah (qv 3) aa))) aa))) aa))))))
   (ai (ao (qv 5)))))),?_⟩
  rw [show L2.aK ["kind","keys","base","by","rows","told","way","ahead"] [MM k.name,MP a,ML b]=[some (MM k.name),some (MP a),some (ML b),none,none,none,none,none] from rfl]
  nofun
  refine ⟨k,us,a,b,rfl,ta,hA,hk,hb,hb2,λ p0 l ps rss w by' H1 s1 tt tl hR hr=>?_⟩
  obtain ⟨hG,hrl,hw,hby⟩:=hr.good hk hb hb2
  have hrn:rss.length<=61:=by rw [hrl]; exact hk.le
  refine bU tt ?_
  nofun
  refine ⟨aF (by simp),λ o ho=>?_⟩
  have hW:Rws H1 l rss w by':=⟨⟨ps,tl,hR⟩,hG,hrn,hw,hby⟩
  have s2:=s1.new (o:=.lst []) ho
  have hW:=hW.same ((MN H1).new (o:=.lst []) ho)
  have hon:H o=none:=s1.free ho
  have hlo:l≠o:=ak tl ho
  have to:(upd H1 o (.lst [])) o=some (.lst (([]:List Addr).map MP)):=ab
  generalize upd H1 o (.lst [])=H2 at s2 hW to
  nofun
  refine ⟨t.ia,rfl,⟨_,T.oH _⟩,pO (a:=t.ia) (xs:=[.str "last",.str "first",.str "runs"]) (λ i σ H'=>Same H H'/\Rws H' l rss w by'/\(∃ (ts:List Addr),H' o=some (.lst (ts.map MP))/\ts.length=i/\(∀ t1,ts[0]? = some t1->H' t1=some (.tup [.str "last",.int (eE rss w by':Nat)]))/\(∀ t2,ts[1]? = some t2->∃ zss,BgF rss w zss/\H' t2=some (.tup [.str "first",.int (dZ zss)]))/\(∀ t3,ts[2]? = some t3->H' t3=some (.tup [.str "runs",.int (fP rss)])))/\∃ v1 v2,σ=[some (MM k.name),some (MP a),some (ML b),some (ML by'),some (MP l),some (MP o),v1,v2]) ⟨s2,hW,⟨[],to,rfl,λ _ h=>by simp at h,λ _ h=>by simp at h,λ _ h=>by simp at h⟩,_,_,rfl⟩ (λ i σ H' _ _=>T.oH _) ?_ ?_⟩
  ·rintro i x σ H3 hx ⟨s3,hW3,⟨ts,to3,hts,h1,h2,h3⟩,v1,v2,rfl⟩
   have put:∀ (x:V) (H4:Hp) (D:Ends),Same H3 H4->True:=λ _ _ _ _=>trivial
   have wrest:∀ (H4 H5:Hp) (xs:List V),Same H3 H4->(∀ c u,c≠o->H4 c=some u->H5 c=some u)->Rws H5 l rss w by':=λ H4 H5 xs s4 k=>by
    obtain ⟨⟨ps',a1,a2⟩,a3⟩:=hW3.same s4
    have to4:=s4 _ _ to3
    exact ⟨⟨ps',k _ _ hlo a1,a2.1,λ i p r e1 e2=>k _ _ (jp (a2.2 i p r e1 e2) to4 (by intro c; cases c)) (a2.2 i p r e1 e2)⟩,a3⟩
   match i,hx with
   | 0,hx=>
    cases hx
    nofun
    refine ⟨_,_,rfl,rfl,rfl,?_⟩
    nofun
    refine ⟨bm to3,?_⟩
    nofun
    refine ⟨CJ,.inl ⟨rfl,rfl⟩,?_⟩
    nofun
    refine ⟨l,rss,w,by',rfl,hW3,λ H4 s4=>?_⟩
    nofun
    refine ⟨aF (by simp),λ q1 hq1=>?_⟩
    have s5:=s4.new (o:=.tup [.str "last",.int (eE rss w by':Nat)]) hq1
    have tq:(upd H4 q1 (.tup [.str "last",.int (eE rss w by':Nat)])) q1=some (.tup [.str "last",.int (eE rss w by':Nat)]):=ab
    generalize upd H4 q1 (.tup [.str "last",.int (eE rss w by':Nat)])=H5 at s5 tq
    nofun
    have to5:=s5 _ _ to3
    refine aP to5 (by rw [Ed,hts]; decide) ?_
    have hne:q1≠o:=λ z=>by rw [z,to5] at tq; cases tq
    have hk:∀ c u ys,c≠o->H5 c=some u->(upd H5 o ys) c=some u:=λ c u ys hc e=>by rw [aq hc]; exact e
    obtain rfl:=FK.mp hts
    exact ⟨(s3.trans s5).own hon,wrest H5 _ [] s5 λ c u hc e=>hk c u _ hc e,⟨[q1],ab,rfl,λ t1 e=>by cases e; exact hk _ _ _ hne tq,λ _ h=>by simp at h,λ _ h=>by simp at h⟩,_,_,rfl⟩
   | 1,hx=>
    cases hx
    nofun
    refine ⟨_,_,rfl,rfl,rfl,?_⟩
    nofun
    refine ⟨bm to3,?_⟩
    nofun
    refine ⟨CK,.inr (.inl ⟨rfl,rfl⟩),?_⟩
    nofun
    refine ⟨l,rss,w,by',rfl,hW3,λ zss H4 hz s4=>?_⟩
    nofun
    refine ⟨aF (by simp),λ q1 hq1=>?_⟩
    have s5:=s4.new (o:=.tup [.str "first",.int (dZ zss)]) hq1
    have tq:(upd H4 q1 (.tup [.str "first",.int (dZ zss)])) q1=some (.tup [.str "first",.int (dZ zss)]):=ab
    generalize upd H4 q1 (.tup [.str "first",.int (dZ zss)])=H5 at s5 tq
    nofun
    have to5:=s5 _ _ to3
    refine aP to5 (by rw [Ed,hts]; decide) ?_
    have hne:q1≠o:=λ z=>by rw [z,to5] at tq; cases tq
    have hk:∀ c u ys,c≠o->H5 c=some u->(upd H5 o ys) c=some u:=λ c u ys hc e=>by rw [aq hc]; exact e
    match ts,hts with
    | [t1],_=>
     exact ⟨(s3.trans s5).own hon,wrest H5 _ [] s5 λ c u hc e=>hk c u _ hc e,⟨[t1,q1],ab,rfl,λ t1 e=>by cases e; exact hk _ _ _ (jp (h1 _ rfl) to3 (by intro c; cases c)) (s5 _ _ (h1 _ rfl)),λ t2 e=>by cases e; exact ⟨zss,hz,hk _ _ _ hne tq⟩,λ _ h=>by simp at h⟩,_,_,rfl⟩
   | 2,hx=>
    cases hx
    nofun
    refine ⟨_,_,rfl,rfl,rfl,?_⟩
    nofun
    refine ⟨bm to3,?_⟩
    nofun
    refine ⟨CL,.inr (.inr ⟨rfl,rfl⟩),?_⟩
    nofun
    refine ⟨l,rss,w,by',rfl,hW3,λ H4 s4=>?_⟩
    nofun
    refine ⟨aF (by simp),λ q1 hq1=>?_⟩
    have s5:=s4.new (o:=.tup [.str "runs",.int (fP rss)]) hq1
    have tq:(upd H4 q1 (.tup [.str "runs",.int (fP rss)])) q1=some (.tup [.str "runs",.int (fP rss)]):=ab
    generalize upd H4 q1 (.tup [.str "runs",.int (fP rss)])=H5 at s5 tq
    nofun
    have to5:=s5 _ _ to3
    refine aP to5 (by rw [Ed,hts]; decide) ?_
    have hne:q1≠o:=λ z=>by rw [z,to5] at tq; cases tq
    have hk:∀ c u ys,c≠o->H5 c=some u->(upd H5 o ys) c=some u:=λ c u ys hc e=>by rw [aq hc]; exact e
    match ts,hts with
    | [t1,t2],_=>
     exact ⟨(s3.trans s5).own hon,wrest H5 _ [] s5 λ c u hc e=>hk c u _ hc e,⟨[t1,t2,q1],ab,rfl,λ t1 e=>by cases e; exact hk _ _ _ (jp (h1 _ rfl) to3 (by intro c; cases c)) (s5 _ _ (h1 _ rfl)),λ t2 e=>by
      cases e
      obtain ⟨zss,hz,e2⟩:=h2 _ rfl
      exact ⟨zss,hz,hk _ _ _ (jp e2 to3 (by intro c; cases c)) (s5 _ _ e2)⟩,λ t3 e=>by cases e; exact hk _ _ _ hne tq⟩,_,_,rfl⟩
   | i+3,hx=>simp at hx
  ·rintro σ H3 ⟨s3,hW3,⟨ts,to3,hts,h1,h2,h3⟩,v1,v2,rfl⟩
   nofun
   match ts,hts with
   | [t1,t2,t3],_=>
    obtain ⟨zss,hz,e2⟩:=h2 t2 rfl
    exact q o _ _ _ H3 hon s3 ⟨t1,t2,t3,to3,h1 t1 rfl,e2,h3 t3 rfl⟩ ⟨rss,w,by',zss,hr,hz,rfl,rfl,rfl⟩
noncomputable def CN:Sp:=λ vs H Q _=>∃ (p:Addr),vs=[.ref p]/\Tp2 H p/\∀ (n:Int) H',-(10 ^ 18)<n->n<10 ^ 18->St2 p H H'->Q (.int n) H'
theorem lX (T:Tx K mg t):FnOk P t.wd K mg base CX0 2 t.kQ t.kN ["_law_tape_here"] CN:=by
 refine T.kI.okQ sc_number (λ vs H Q E h=>?_) (λ cdv A outer s H vs Q E hr h=>?_)
 ·obtain ⟨p,rfl,_⟩:=h
  rfl
 ·obtain ⟨p,rfl,hT,k⟩:=h
  refine ⟨_,(ac (av (i:=1) sc_number.nd rfl (En rfl) (aj (aN T) (hr.mono (by decide)) rfl T.bg T.bc.kp T.bf aA (ah (qv 0) (ah ae aa))))
   (ac (aR (az Ce (qv 1) ae (au _)) (ai (ao (ay eK (aj (aN T) (hr.mono (by decide)) rfl T.bg T.bc.kp T.bf aA (ah (qv 0) (ah ae aa))) ae))) aE)
   (ac (aR (az gD (qv 1) ae (au _)) (ai (ao (ay fF (ay eK (ay eK (ay o3 ae ae) ae) (aj (aN T) (hr.mono (by decide)) rfl T.bg T.bc.kp T.bf aA (ah (qv 0) (ah ae aa)))) (ba (bE (K:=K)) (aO (ah ae (ah (la li ae) aa))) (aj (aN T) (hr.mono (by decide)) rfl T.bg T.bc.kp T.bf aA (ah (qv 0) (ah ae aa))))))) aE)
   (ac (aR (az gD (qv 1) ae (au _)) (ai (ao (ay cS (ay o3 ae ae) (aj (aN T) (hr.mono (by decide)) rfl T.bg T.bc.kp T.bf aA (ah (qv 0) (ah ae aa)))))) aE)
   (ai (ao (ay fF (ay cS (ay fF (aj (aN T) (hr.mono (by decide)) rfl T.bg T.bc.kp T.bf aA (ah (qv 0) (ah (ay o3 ae ae) aa))) (ay o3 ae ae)) (aj (aN T) (hr.mono (by decide)) rfl T.bg T.bc.kp T.bf aA (ah (qv 0) (ah (ay o3 ae ae) aa)))) (ba (bE (K:=K)) (aO (ah ae (ah (la li ae) aa))) (aj (aN T) (hr.mono (by decide)) rfl T.bg T.bc.kp T.bf aA (ah (qv 0) (ah ae aa))))))))))),?_⟩
  rw [show L2.aK ["_law_tape_here","_law_kind"] [MP p]=[some (MP p),none] from rfl]
  nofun
  refine ⟨p,8,rfl,hT,by decide,by decide,λ r H1 a S1=>?_⟩
  have turn:∀ (x:Int) (H2 H3:Hp) (q:Addr) (r2:Nat) (Q':VK),0<=x->x<10 ^ 18->(∀ v H',Q v H'->Q' v H')->St2 p H H2->H2 q=none->(r2:Int)<2->St2 p (upd H2 q (.lst [.int 1,.int (-1)])) H3->(∃ v,atI [ML 1,ML (-1)] r2=some v/\∃ z:Int,v=.int z/\Q' (.int (x*z)) H3):=λ x H2 H3 q r2 Q' h0 h1 hQ S2 hq hr S3=>by
   have S:=(S2.new (o:=.lst [.int 1,.int (-1)]) hq).trans S3
   have hr2:r2<2:=by lia
   match r2,hr2 with
   | 0,_=>exact ⟨_,rfl,1,rfl,hQ _ _ (k _ _ (by lia) (by lia) S)⟩
   | 1,_=>exact ⟨_,rfl,-1,rfl,hQ _ _ (k _ _ (by lia) (by lia) S)⟩
  nofun
  refine aW (λ g=>?_) (λ g=>?_)
  ·nofun
   refine ⟨p,12,rfl,S1.tape,by decide,by decide,λ r2 H2 a2 S2=>?_⟩
   nofun
   exact k _ _ (by lia) (by lia) (S1.trans S2)
  nofun
  refine aW (λ g2=>?_) (λ g2=>?_)
  ·nofun
   refine ⟨p,3,rfl,S1.tape,by decide,by decide,λ r2 H2 a2 S2=>?_⟩
   nofun
   refine ⟨aF (by simp),λ q hq=>?_⟩
   have nq:=(S1.trans S2).tape.ne hq
   nofun
   refine ⟨p,2,rfl,((S1.trans S2).new hq).tape,by decide,by decide,λ r4 H4 a4 S4=>?_⟩
   obtain ⟨v,e,z,rfl,hz⟩:=turn (10 ^ 18 - 1 - (r2:Int)) H2 H4 q r4 _ (by lia) (by lia) (λ _ _ z=>z) (S1.trans S2) hq a4 S4
   refine cb (MJ (S4.keep q _ ab nq)) e ?_
   nofun
   exact hz
  nofun
  refine aW (λ g3=>?_) (λ g3=>?_)
  ·nofun
   refine ⟨p,3,rfl,S1.tape,by decide,by decide,λ r2 H2 a2 S2=>?_⟩
   nofun
   exact k (10 ^ 17+(r2:Int)) _ (by lia) (by lia) (S1.trans S2)
  ·nofun
   refine ⟨p,_,rfl,S1.tape,by decide,by decide,λ r2 H2 a2 S2=>?_⟩
   have a2:(r2:Int)<10 ^ 9:=a2
   nofun
   refine ⟨p,_,rfl,(S1.trans S2).tape,by decide,by decide,λ r3 H3 a3 S3=>?_⟩
   have a3:(r3:Int)<10 ^ 9:=a3
   nofun
   refine ⟨aF (by simp),λ q hq=>?_⟩
   have nq:=((S1.trans S2).trans S3).tape.ne hq
   nofun
   refine ⟨p,2,rfl,(((S1.trans S2).trans S3).new hq).tape,by decide,by decide,λ r4 H4 a4 S4=>?_⟩
   obtain ⟨v,e,z,rfl,hz⟩:=turn ((r2:Int)*10 ^ 9+(r3:Int)) H3 H4 q r4 _ (by lia) (by lia) (λ _ _ z=>z) ((S1.trans S2).trans S3) hq a4 S4
   refine cb (MJ (S4.keep q _ ab nq)) e ?_
   nofun
   exact B0 (show CMul ((r2:Int)*10 ^ 9+(r3:Int)) z from En ⟨by lia,by lia⟩) hz
noncomputable def CO:Sp:=λ vs H Q _=>∃ (t:Int) (c:Nat),vs=[.int t,.int c]/\1<=c/\c<=60/\-(10 ^ 18)<t/\t<10 ^ 18/\∀ (q:Addr) (t':Int) (c':Nat),-(10 ^ 18)<t'->t'<10 ^ 18->1<=c'->c'<=60->H q=none->Q (.ref q) (upd H q (.tup [.int t',.int c']))
theorem rT (T:Tx K mg t):FnOk P t.wd K mg base CX0 1 t.kP t.kM ["_law_top","_law_bottom"] CO:=by
 refine T.oB.okQ sc_lowest (λ vs H Q E h=>?_) (λ cdv A outer s H vs Q E hr h=>?_)
 ·obtain ⟨x,c,rfl,_⟩:=h
  rfl
 ·obtain ⟨x,c,rfl,h1,h60,hx1,hx2,q⟩:=h
  refine ⟨_,(ac (nK rfl sc_lowest.nd (i:=2) (j:=3) rfl rfl (by decide) rfl rfl (ah (af qo (by rfl) T.pC rG (ah (qv 0) aa)) (ah (qv 1) aa)))
   (ac (gf ET (az mN (qv 3) ae (au _)) (ai (nK rfl sc_lowest.nd (i:=2) (j:=3) rfl rfl (by decide) rfl rfl (ah (qv 3) (ah (ay gG (qv 2) (qv 3)) aa)))))
   (ai (ao (bt (ah (ay fG (qv 0) (qv 2)) (ah (ay fG (qv 1) (qv 2)) aa))))))),?_⟩
  rw [show L2.aK ["_law_top","_law_bottom","_law_one","_law_other"] [ML x,ML c]=[some (ML x),some (ML c),none,none] from rfl]
  nofun
  have ea:(if x<0 then -x else x)=((x.natAbs:Nat):Int):=by split<;>lia
  try rw [ea]
  refine ⟨λ m σ H'=>H'=H/\∃ (g l:Nat),σ=[some (ML x),some (ML c),some (ML g),some (ML l)]/\Gn g l=Gn x.natAbs c/\l=m,⟨c,rfl,x.natAbs,c,rfl,rfl,rfl⟩,?_⟩
  rintro m σ H' ⟨rfl,g,l,rfl,e,rfl⟩
  nofun
  refine aW (λ h1=>?_) (λ h1=>?_)
  ·refine ⟨_,λ _ _ z=>z,?_⟩
   nofun
   have hl:0<l:=by lia
   rw [<-II]
   exact ⟨g % l,KY _ hl,rfl,l,g % l,rfl,by rw [nQ hl,e],rfl⟩
  ·have hl:l=0:=by lia
   subst hl
   rw [JU] at e
   have hd1:g∣x.natAbs:=by rw [e]; exact Ks ..
   have hd2:g∣c:=by rw [e]; exact Iq ..
   have hg:0<g:=Nat.pos_of_dvd_of_pos hd2 (by lia)
   nofun
   have hgc:g<=c:=Ig (by lia) hd2
   have hlog:oX x (g:Int):=⟨by lia,Fe (Kz _) (by lia)⟩
   have hlog2:oX (c:Int) (g:Int):=⟨by lia,Fe (Kz _) (by lia)⟩
   refine B0 hlog ?_
   nofun
   refine ⟨aF (by simp),λ p hp=>?_⟩
   rw [<-FY]
   refine q p _ _ ?_ ?_ (Nat.div_pos hgc hg) (Fb (KN ..) h60) hp
   ·have:x<=x / (g:Int)\/0<=x / (g:Int):=by
     rcases LY x 0 with h | h
     ·left
      rw [Int.le_ediv_iff_mul_le (by lia)]
      have:x*(g:Int)<=x*1:=Int.mul_le_mul_of_nonpos_left (by lia) (by lia)
      lia
     ·right; exact KW h (by lia)
    lia
   ·have:x / (g:Int)<=x\/x / (g:Int)<0:=by
     rcases LY x 0 with h | h
     ·right; exact Int.ediv_neg_of_neg_of_pos h (by lia)
     ·left; exact Int.ediv_le_self _ h
    lia
noncomputable def At:Sp:=λ vs H Q _=>∃ (p:Addr),vs=[.ref p]/\Tp2 H p/\∀ (q:Addr) (t':Int) (c':Nat) H',-(10 ^ 18)<t'->t'<10 ^ 18->1<=c'->c'<=60->St2 p H H'->H q=none->H' q=some (.tup [.int t',.int c'])->Q (.ref q) H'
theorem m9 (T:Tx K mg t):FnOk P t.wd K mg base CX0 3 t.gT t.gR ["_law_tape_here"] At:=by
 refine T.jN.okQ sc_fraction (λ vs H Q E h=>?_) (λ cdv A outer s H vs Q E hr h=>?_)
 ·obtain ⟨p,rfl,_⟩:=h
  rfl
 ·obtain ⟨p,rfl,hT,k⟩:=h
  refine ⟨_,(ac (av (i:=1) sc_fraction.nd rfl (En rfl) (ba (bE (K:=K)) (aO (ah (ay eK (aj (aN T) (hr.mono (by decide)) rfl T.bg T.bc.kp T.bf aA (ah (qv 0) (ah ae aa))) ae) (ah (aj (lX T) (hr.mono (by decide)) rfl T.oF T.kI.kp T.oD aA (ah (qv 0) aa)) aa))) (aM ll (by rfl) T.gC eR (ah (aH gD (aj (aN T) (hr.mono (by decide)) rfl T.bg T.bc.kp T.bf aA (ah (qv 0) (ah ae aa))) ae (au _)) aa))))
   (ai (ao (aj (rT T) (hr.mono (by decide)) rfl T.vg T.oB.kp T.vd aA (ah (qv 1) (ah (ba (bE (K:=K)) (aO (ah ae (ah ae (ah ae (ah ae (ah (ay cS ae (aj (aN T) (hr.mono (by decide)) rfl T.bg T.bc.kp T.bf aA (ah (qv 0) (ah ae aa)))) aa)))))) (aj (aN T) (hr.mono (by decide)) rfl T.bg T.bc.kp T.bf aA (ah (qv 0) (ah ae aa)))) aa)))))),?_⟩
  rw [show L2.aK ["_law_tape_here","_law_top"] [MP p]=[some (MP p),none] from rfl]
  nofun
  refine ⟨p,40,rfl,hT,by decide,by decide,λ r1 H1 a1 S1=>?_⟩
  nofun
  refine ⟨p,rfl,S1.tape,λ n H2 n1 n2 S2=>?_⟩
  nofun
  refine ⟨aF (by simp),λ q hq=>?_⟩
  have nq:=(S1.trans S2).tape.ne hq
  have S3:=(S1.trans S2).new (o:=.lst [ML ((r1:Int) - 12),ML n]) hq
  have tq:(upd H2 q (.lst [ML ((r1:Int) - 12),ML n])) q=some (.lst [ML ((r1:Int) - 12),ML n]):=ab
  generalize upd H2 q (.lst [ML ((r1:Int) - 12),ML n])=H3 at S3 tq
  nofun
  refine ⟨p,6,rfl,S3.tape,by decide,by decide,λ r2 H4 a2 S4=>?_⟩
  nofun
  obtain ⟨v,e,hv⟩:=cz (xs:=[ML ((r1:Int) - 12),ML n]) (r:=if decide (ML (r2:Int)=ML 0)=true then 1 else 0) (by split<;>lia) (by simp only [EM,E4]; split<;>lia)
  refine cb (MJ (S4.keep q _ tq nq)) e ?_
  obtain ⟨top,rfl,ht1,ht2⟩:∃ z:Int,v=.int z/\-(10 ^ 18)<z/\z<10 ^ 18:=by
   simp only [Er,ER,or_false] at hv
   rcases hv with rfl | rfl
   ·exact ⟨_,rfl,by lia,by lia⟩
   ·exact ⟨_,rfl,n1,n2⟩
  nofun
  refine ⟨p,60,rfl,(S3.trans S4).tape,by decide,by decide,λ r3 H5 a3 S5=>?_⟩
  nofun
  refine ⟨aF (by simp),λ q2 hq2=>?_⟩
  have S35:=(S3.trans S4).trans S5
  have nq2:=S35.tape.ne hq2
  have S6:=S35.new (o:=.lst [ML 1,ML 2,ML 3,ML 4,ML (1+(r3:Int))]) hq2
  have tq2:(upd H5 q2 (.lst [ML 1,ML 2,ML 3,ML 4,ML (1+(r3:Int))])) q2=some (.lst [ML 1,ML 2,ML 3,ML 4,ML (1+(r3:Int))]):=ab
  generalize upd H5 q2 (.lst [ML 1,ML 2,ML 3,ML 4,ML (1+(r3:Int))])=H6 at S6 tq2
  nofun
  refine ⟨p,5,rfl,S6.tape,by decide,by decide,λ r4 H7 a4 S7=>?_⟩
  nofun
  obtain ⟨v,e,hv⟩:=cz (xs:=[ML 1,ML 2,ML 3,ML 4,ML (1+(r3:Int))]) (r:=(r4:Int)) (by lia) (by simp only [EM,E4]; lia)
  refine cb (MJ (S7.keep q2 _ tq2 nq2)) e ?_
  obtain ⟨c,rfl,hc1,hc2⟩:∃ c:Nat,v=.int c/\1<=c/\c<=60:=by
   simp only [Er,ER,or_false] at hv
   rcases hv with rfl | rfl | rfl | rfl | rfl
   ·exact ⟨1,rfl,by lia,by lia⟩
   ·exact ⟨2,rfl,by lia,by lia⟩
   ·exact ⟨3,rfl,by lia,by lia⟩
   ·exact ⟨4,rfl,by lia,by lia⟩
   ·exact ⟨1+r3,by simp,by lia,by lia⟩
  refine ⟨top,c,rfl,hc1,hc2,ht1,ht2,λ z x c' h1 h2 h3 h4 hz=>?_⟩
  have S:=S6.trans S7
  exact k z x c' _ h1 h2 h3 h4 (S.new hz) (S.free hz) ab
theorem Dv:∀ {zs:List Str},(∀ y∈zs,Ltr 1 y)->(zs.map (·.length)).sum<=zs.length
 | [],_=>Eh _
 | y::zs,h=>by
  have h1:=(h y (EJ ..)).1
  have ih:=Dv (zs:=zs) λ x hx=>h x (EH _ hx)
  rw [EU,FH,EM]
  lia
theorem uW {zs:List Str} (h:∀ y∈zs,Ltr 1 y):Ltr zs.length (Ky "" zs):=by
 show Ltr _ (Mx "" zs)
 rw [StrLaws.glued_eq_join]
 induction zs with
 | nil=>exact ⟨Eh _,λ c hc=>by cases hc⟩
 | cons y zs ih=>
  have hy:=h y (EJ ..)
  have ih:=ih λ x hx=>h x (EH _ hx)
  match zs,ih with
  | [],_=>exact hy
  | x::zs,ih=>
   have e:MD "" (y::x::zs)=y++E1 ""++MD "" (x::zs):=rfl
   rw [e]
   have h0:Ltr 0 (E1 ""):=by decide +kernel
   have:=(hy.cat h0).cat ih
   exact this.mono (by simp only [EM]; lia)
noncomputable def CP:Sp:=λ vs H Q _=>∃ (p:Addr),vs=[.ref p]/\Tp2 H p/\∀ z H',Ltr 30 z->St2 p H H'->Q (.str z) H'
theorem Au {K:Ee} {H:Hp} {Q:VK} {ys:List Str} (h:SqL K H l (ys.map MM)) (hs:(ys.map (·.length)).sum+ys.length*z.length<=16777216) (q:Q (.str (Ky z ys)) H):xz K (.str z) [.ref l] H Q:=⟨z,l,ys,rfl,rfl,h,hs,q⟩
theorem x6 (T:Tx K mg t):FnOk P t.wd K mg base CX0 2 t.sN t.sF ["_law_tape_here"] CP:=by
 refine T.vV.okQ sc_text (λ vs H Q E h=>?_) (λ cdv A outer s H vs Q E hr h=>?_)
 ·obtain ⟨p,rfl,_⟩:=h
  rfl
 ·obtain ⟨p,rfl,hT,k⟩:=h
  refine ⟨_,(ac (av (i:=1) sc_text.nd rfl (En rfl) (aj (aN T) (hr.mono (by decide)) rfl T.bg T.bc.kp T.bf aA (ah (qv 0) (ah ae aa))))
   (ac (aR (az Ce (qv 1) ae (au _)) (ai (ao (ba (bE (K:=K)) (aO (ah bn (ah bn (ah bn (ah bn (ah bn (ah bn (ah bn (ah bn (ah bn aa)))))))))) (aj (aN T) (hr.mono (by decide)) rfl T.bg T.bc.kp T.bf aA (ah (qv 0) (ah ae aa)))))) aE)
   (ac (av (i:=2) sc_text.nd rfl (Gh rfl) (ba (bE (K:=K)) (aO (ah bn (ah bn aa))) (ay gG (qv 1) ae)))
   (ac (av (i:=3) sc_text.nd rfl (En rfl) (ba (bE (K:=K)) (aO (ah (aj (aN T) (hr.mono (by decide)) rfl T.bg T.bc.kp T.bf aA (ah (qv 0) (ah ae aa))) (ah (aj (aN T) (hr.mono (by decide)) rfl T.bg T.bc.kp T.bf aA (ah (qv 0) (ah ae aa))) aa))) (aM ll (by rfl) T.gC eR (ah (aH gD (aj (aN T) (hr.mono (by decide)) rfl T.bg T.bc.kp T.bf aA (ah (qv 0) (ah ae aa))) ae (au _)) aa))))
   (ai (ao (xB (K:=K) bn (ah (bu (N:=["_law_turn","_law_tape_here","_law_letters"]) (tgs:=["_law_turn"]) (frs:=["_law_tape_here","_law_letters"]) (ix:=[0,2]) ⟨rfl,by decide +kernel,rfl,by decide +kernel,rfl,rfl,⟨⟨rfl,rfl,_,rfl,rfl⟩,⟨rfl,rfl,_,rfl,rfl⟩,Et⟩,⟨rfl,rfl,Et⟩,rfl⟩ rfl (bD rfl T.bx (ah (qv 3) aa)) (λ _ _ _ _=>(ap (i:=0) (by show EZ (["_law_turn","_law_tape_here","_law_letters"]:List Str); decide +kernel) rfl (En rfl))) (λ _ _ _ _=>(ba xw (qv 2) (aj (aN T) (hr.mono (by decide)) rfl T.bg T.bc.kp T.bf aA (ah (qv 1) (ah (af fj (by rfl) T.bH aX (ah (qv 2) aa)) aa)))))) aa)))))))),?_⟩
  rw [show L2.aK ["_law_tape_here","_law_kind","_law_letters","_law_size"] [MP p]=[some (MP p),none,none,none] from rfl]
  nofun
  refine ⟨p,6,rfl,hT,by decide,by decide,λ r H1 a1 S1=>?_⟩
  nofun
  refine aW (λ g=>?_) (λ g=>?_)
  ·nofun
   refine ⟨aF (by simp),λ q hq=>?_⟩
   nofun
   have nq:=S1.tape.ne hq
   refine ⟨p,9,rfl,(S1.new hq).tape,by decide,by decide,λ r2 H2 a2 S2=>?_⟩
   obtain ⟨v,e,hv⟩:=cz (xs:=[MM "",MM "a",MM "ab",MM "aa",MM "b",MM "z",MM "abc",MM "aab",MM "az"]) (r:=(r2:Int)) (by lia) a2
   refine cb (MJ (S2.keep q _ ab nq)) e ?_
   obtain ⟨z,rfl,hz⟩:∃ z,v=MM z/\Ltr 30 z:=by
    simp only [Er,ER,or_false] at hv
    rcases hv with rfl | rfl | rfl | rfl | rfl | rfl | rfl | rfl | rfl<;>exact ⟨_,rfl,by decide +kernel⟩
   nofun
   exact k z H2 hz ((S1.new hq).trans S2)
  nofun
  refine ⟨aF (by simp),λ q hq=>?_⟩
  nofun
  obtain ⟨v,e,hv⟩:=cz (xs:=[MM "ab",MM "abcdefghijklmnopqrstuvwxyz"]) (r:=(r:Int) % 2) (Gz _ (by decide)) (JT _ (by decide))
  refine cb (MJ ab) e ?_
  obtain ⟨z,rfl,hz0,hz1,hzc⟩:∃ z,v=MM z/\0<z.length/\z.length<=26/\∀ c∈z.cps.toList,97<=c/\c<=122:=by
   simp only [Er,ER,or_false] at hv
   rcases hv with rfl | rfl<;>exact ⟨_,rfl,by decide +kernel,by decide +kernel,by decide +kernel⟩
  have S2:=S1.new (o:=.lst [MM "ab",MM "abcdefghijklmnopqrstuvwxyz"]) hq
  generalize upd H1 q (.lst [MM "ab",MM "abcdefghijklmnopqrstuvwxyz"])=H2 at S2
  clear e hv
  nofun
  refine ⟨p,5,rfl,S2.tape,by decide,by decide,λ r3 H3 a3 S3=>?_⟩
  nofun
  refine ⟨p,21,rfl,S3.tape,by decide,by decide,λ r4 H4 a4 S4=>?_⟩
  have S24:=(S2.trans S3).trans S4
  nofun
  refine ⟨aF (by simp),λ q2 hq2=>?_⟩
  have nq2:=S24.tape.ne hq2
  have S5:=S24.new (o:=.lst [ML (r3:Int),ML (r4:Int)]) hq2
  have tq2:(upd H4 q2 (.lst [ML (r3:Int),ML (r4:Int)])) q2=some (.lst [ML (r3:Int),ML (r4:Int)]):=ab
  generalize upd H4 q2 (.lst [ML (r3:Int),ML (r4:Int)])=H5 at S5 tq2
  nofun
  refine ⟨p,4,rfl,S5.tape,by decide,by decide,λ r5 H6 a5 S6=>?_⟩
  nofun
  obtain ⟨v,e,hv⟩:=cz (xs:=[ML (r3:Int),ML (r4:Int)]) (r:=if decide (ML (r5:Int)=ML 0)=true then 1 else 0) (by split<;>lia) (by simp only [EM,E4]; split<;>lia)
  refine cb (MJ (S6.keep q2 _ tq2 nq2)) e ?_
  obtain ⟨n,rfl,hn⟩:∃ n:Nat,v=ML n/\n<=20:=by
   simp only [Er,ER,or_false] at hv
   rcases hv with rfl | rfl
   ·exact ⟨_,rfl,by lia⟩
   ·exact ⟨_,rfl,by lia⟩
  have S7:=S5.trans S6
  clear e hv
  nofun
  refine ⟨rfl,?_⟩
  nofun
  refine ⟨_,rfl,by lia,by lia,j4 (n:=n) (λ i ys σ H'=>St2 p H H'/\(∃ zs:List Str,ys=zs.map MM/\zs.length=i/\∀ y∈zs,Ltr 1 y)/\∃ v,σ=[v,some (MP p),some (MM z)]) (al (by lia)) (λ i ys σ H' h=>by obtain ⟨_,⟨zs,rfl,e,_⟩,_⟩:=h; rw [Ed,e]) ⟨S7,⟨[],rfl,rfl,λ y h=>nomatch h⟩,none,rfl⟩ ?_ ?_⟩
  ·rintro i ys σ H' hi ⟨S8,⟨zs,rfl,hzl,hzs⟩,v,rfl⟩
   nofun
   refine ⟨z,rfl,aF (by lia),?_⟩
   nofun
   refine ⟨p,_,rfl,S8.tape,by lia,by lia,λ r6 H7 a6 S9=>?_⟩
   obtain ⟨cc,ec,hm⟩:=Ai (xs:=z.cps.toList) (r:=(r6:Int)) (by lia) (by rw [show z.cps.toList.length=z.length by simp [KD]]; exact a6)
   refine ⟨_,_,cc,rfl,rfl,aF (by lia),ec,?_⟩
   refine MO hi ⟨S8.trans S9,⟨zs++[⟨#[cc]⟩],by rw [EA]; rfl,by simp [hzl],λ y hy=>?_⟩,_,rfl⟩
   rcases EX.mp hy with h | h
   ·exact hzs y h
   ·rw [EL.mp h]
    refine ⟨Eh _,λ c hc=>?_⟩
    have e2:c=cc:=by simpa using hc
    rw [e2]
    exact hzc _ hm
  ·rintro ys σ H' ⟨S8,⟨zs,rfl,hzl,hzs⟩,v,rfl⟩ l hl
   nofun
   refine Au (MJ ab) ?_ ?_
   ·have:=Dv hzs
    have e0:(E1 "").length=0:=by decide +kernel
    rw [e0]
    lia
   nofun
   exact k _ _ ((uW hzs).mono (by lia)) (S8.new hl)
noncomputable def KeyV (kind:Str) (H:Hp) (v:V):Prop:=(kind = "number"/\∃ n:Int,v=.int n/\-(10 ^ 18)<n/\n<10 ^ 18)\/(kind = "part"/\∃ (q:Addr) (z:Int×Nat),v=.ref q/\H q=some (.tup [.int z.1,.int z.2])/\(1<=z.2/\z.2<=60)/\-(10 ^ 18)<z.1/\z.1<10 ^ 18)\/(kind = "text"/\∃ z:Str,v=.str z/\Ltr 30 z)
theorem KeyV.keep {kind:Str} {H:Hp} (h:KeyV kind H v) (s:∀ b xs,H b=some (.tup xs)->H' b=some (.tup xs)):KeyV kind H' v:=by
 rcases h with h | ⟨e,q,z,e2,e3,r⟩ | h
 ·exact .inl h
 ·exact .inr (.inl ⟨e,q,z,e2,s _ _ e3,r⟩)
 ·exact .inr (.inr h)
theorem gw {H:Hp} (S:St2 p H H') (T:Tp2 H p):∀ b xs,H b=some (.tup xs)->H' b=some (.tup xs):=λ b xs e=>S.keep b _ e (λ z=>by
 obtain ⟨x,y,e2,_⟩:=T
 rw [z,e2] at e
 cases e)
theorem na {kind:Str} {H:Hp} (hk:kind = "number"\/kind = "part"\/kind = "text") (h:∀ v∈xs,KeyV kind H v) (hl:xs.length<=61):∃ k:Kd,k.name=kind/\KAt H k xs/\k.ok:=by
 rcases hk with rfl | rfl | rfl
 ·have:∃ ns:List Int,xs=ns.map ML/\∀ x∈ns,-(10 ^ 18)<x/\x<10 ^ 18:=by
   clear hl
   induction xs with
   | nil=>exact ⟨[],rfl,λ x h=>nomatch h⟩
   | cons v r ih=>
    obtain ⟨ns,rfl,hn⟩:=ih λ u hu=>h u (EH _ hu)
    rcases h v (EJ ..) with ⟨_,n,rfl,b⟩ | ⟨e,_⟩ | ⟨e,_⟩
    ·exact ⟨n::ns,rfl,λ x hx=>by
      rcases Er.mp hx with rfl | hx
      ·exact b
      ·exact hn x hx⟩
    ·exact absurd e (by decide)
    ·exact absurd e (by decide)
  obtain ⟨ns,rfl,hn⟩:=this
  exact ⟨.nu ns,rfl,rfl,by rw [Ed] at hl; exact hl,hn⟩
 ·have:∃ (qs:List Addr) (tb:List (Int×Nat)),xs=qs.map MP/\PartsT H qs tb/\(∀ z∈tb,1<=z.2/\z.2<=60)/\∀ z∈tb,-(10 ^ 18)<z.1/\z.1<10 ^ 18:=by
   clear hl
   induction xs with
   | nil=>exact ⟨[],[],rfl,⟨rfl,λ i p z h=>by simp at h⟩,λ x h=>(nomatch h),λ x h=>(nomatch h)⟩
   | cons v r ih=>
    obtain ⟨qs,tb,rfl,hP,h1,h2⟩:=ih λ u hu=>h u (EH _ hu)
    rcases h v (EJ ..) with ⟨e,_⟩ | ⟨_,q,z,rfl,e3,b1,b2⟩ | ⟨e,_⟩
    ·exact absurd e (by decide)
    ·refine ⟨q::qs,z::tb,rfl,⟨by simp [hP.1],λ i p y e1 e2=>?_⟩,λ x hx=>?_,λ x hx=>?_⟩
     ·cases i with
      | zero=>simp at e1 e2; rw [<-e1,<-e2]; exact e3
      | succ i=>exact hP.2 i p y (by simpa using e1) (by simpa using e2)
     ·rcases Er.mp hx with rfl | hx
      ·exact b1
      ·exact h1 x hx
     ·rcases Er.mp hx with rfl | hx
      ·exact b2
      ·exact h2 x hx
    ·exact absurd e (by decide)
  obtain ⟨qs,tb,rfl,hP,h1,h2⟩:=this
  exact ⟨.pa tb,rfl,⟨qs,rfl,hP⟩,by rw [Ed,hP.1] at hl; exact hl,h1,h2⟩
 ·have:∃ zs:List Str,xs=zs.map MM/\∀ x∈zs,Ltr 30 x:=by
   clear hl
   induction xs with
   | nil=>exact ⟨[],rfl,λ x h=>nomatch h⟩
   | cons v r ih=>
    obtain ⟨ns,rfl,hn⟩:=ih λ u hu=>h u (EH _ hu)
    rcases h v (EJ ..) with ⟨e,_⟩ | ⟨e,_⟩ | ⟨_,n,rfl,b⟩
    ·exact absurd e (by decide)
    ·exact absurd e (by decide)
    ·exact ⟨n::ns,rfl,λ x hx=>by
      rcases Er.mp hx with rfl | hx
      ·exact b
      ·exact hn x hx⟩
  obtain ⟨ns,rfl,hn⟩:=this
  exact ⟨.te ns,rfl,rfl,by rw [Ed] at hl; exact hl,hn⟩
noncomputable def x8:Sp:=λ vs H Q _=>∃ (p:Addr) (kind:Str),vs=[.ref p,.str kind]/\Tp2 H p/\(kind = "number"\/kind = "part"\/kind = "text")/\∀ v H',KeyV kind H' v->St2 p H H'->Q v H'
theorem Av (T:Tx K mg t):FnOk P t.wd K mg base CX0 4 t.yn t.yk ["_law_tape_here","_law_kind"] x8:=by
 refine T.AB.okQ z9 (λ vs H Q E h=>?_) (λ cdv A outer s H vs Q E hr h=>?_)
 ·obtain ⟨p,kind,rfl,_⟩:=h
  rfl
 ·obtain ⟨p,kind,rfl,hT,hkind,k⟩:=h
  refine ⟨_,(ac (aR (az gD (qv 1) bn (au _)) (ai (ao (aj (lX T) (hr.mono (by decide)) rfl T.oF T.kI.kp T.oD aA (ah (qv 0) aa)))) aE)
   (ac (aR (az gD (qv 1) bn (au _)) (ai (ao (aj (m9 T) (hr.mono (by decide)) rfl T.pB T.jN.kp T.pA aA (ah (qv 0) aa)))) aE)
   (ai (ao (aj (x6 T) (hr.mono (by decide)) rfl T.AT T.vV.kp T.AJ aA (ah (qv 0) aa)))))),?_⟩
  rw [show L2.aK ["_law_tape_here","_law_kind"] [MP p,MM kind]=[some (MP p),some (MM kind)] from rfl]
  nofun
  rcases hkind with hk | hk | hk
  ·refine dU (by rw [hk]) ?_
   nofun
   refine ⟨p,rfl,hT,λ n H1 n1 n2 S1=>?_⟩
   exact k _ _ (.inl ⟨hk,n,rfl,n1,n2⟩) S1
  ·refine bV (by rw [hk]; decide) ?_
   nofun
   refine dU (by rw [hk]) ?_
   nofun
   refine ⟨p,rfl,hT,λ q t c H1 h1 h2 h3 h4 S1 hq tq=>?_⟩
   exact k _ _ (.inr (.inl ⟨hk,q,(t,c),rfl,tq,⟨h3,h4⟩,h1,h2⟩)) S1
  ·refine bV (by rw [hk]; decide) ?_
   nofun
   refine bV (by rw [hk]; decide) ?_
   nofun
   refine ⟨p,rfl,hT,λ z H1 hz S1=>?_⟩
   exact k _ _ (.inr (.inr ⟨hk,z,rfl,hz⟩)) S1
noncomputable def uX:Sp:=λ vs H Q _=>∃ (p:Addr) (kind:Str) (n:Nat),vs=[.ref p,.str kind,.int n]/\Tp2 H p/\(kind = "number"\/kind = "part"\/kind = "text")/\n<=60/\
 ∀ (l:Addr) (xs:List V) H',xs.length=n->(∀ v∈xs,KeyV kind H' v)->St2 p H H'->H l=none->l≠p->H' l=some (.lst xs)->Q (.ref l) H'
theorem ya (T:Tx K mg t):FnOk P t.wd K mg base CX0 5 t.sJ t.sx ["_law_tape_here","_law_kind","_law_many_here"] uX:=by
 refine T.vR.okQ sc_keys (λ vs H Q E h=>?_) (λ cdv A outer s H vs Q E hr h=>?_)
 ·obtain ⟨p,kind,n,rfl,_⟩:=h
  rfl
 ·obtain ⟨p,kind,n,rfl,hT,hkind,hn,k⟩:=h
  refine ⟨_,(ac (av (i:=3) sc_keys.nd rfl (En rfl) (aO aa))
   (ac (bP ET rfl (bD rfl T.bx (ah (qv 2) aa)) (ap (i:=4) sc_keys.nd rfl (En rfl)) (ac (av (i:=5) sc_keys.nd rfl (En rfl) (aj (Av T) (hr.mono (by decide)) rfl T.CU T.AB.kp T.CT aA (ah (qv 0) (ah (qv 1) aa))))
   (ac (aR (QW.qt (nJ (az (qB (K:=K) hr.units0) (qv 3) (aO aa) (au _)) (j0 (az gD (aj (aN T) (hr.mono (by decide)) rfl T.bg T.bc.kp T.bf aA (ah (qv 0) (ah ae aa))) ae (au _))))) (ai (av (i:=5) sc_keys.nd rfl (En rfl) (ba (bE (K:=K)) (qv 3) (aj (aN T) (hr.mono (by decide)) rfl T.bg T.bc.kp T.bf aA (ah (qv 0) (ah (af (bv (K:=K)) (by rfl) T.bH aX (ah (qv 3) aa)) aa)))))) aE)
   (ai (bM (bC (K:=K) (qv 3) (ah (qv 5) aa)))))))
   (ai (ao (qv 3))))),?_⟩
  rw [show L2.aK ["_law_tape_here","_law_kind","_law_many_here","_law_keys_here","_law_turn","_law_key_here"] [MP p,MM kind,ML n]=[some (MP p),some (MM kind),some (ML n),none,none,none] from rfl]
  nofun
  refine ⟨aF (by simp),λ l hl=>?_⟩
  have S1:=(St2.refl hT).new (o:=.lst []) hl
  have tl1:(upd H l (.lst [])) l=some (.lst []):=ab
  have hlp:l≠p:=hT.ne hl
  generalize upd H l (.lst [])=H1 at S1 tl1
  nofun
  refine ⟨_,rfl,by lia,by lia,dq (n:=n) (λ i σ H3=>St2 p H H3/\(∃ xs:List V,H3 l=some (.lst xs)/\xs.length=i/\∀ v∈xs,KeyV kind H3 v)/\∃ v w,σ=[some (MP p),some (MM kind),some (ML n),some (MP l),v,w]) ⟨S1,⟨[],tl1,rfl,λ v h=>nomatch h⟩,_,_,rfl⟩ ?_ ?_⟩
  ·rintro i σ H3 hi ⟨S3,⟨xs,tl3,hxl,hK⟩,v0,w0,rfl⟩
   nofun
   refine ⟨p,kind,rfl,S3.tape,hkind,λ v1 H7 kv1 S4=>?_⟩
   have S7:=S3.trans S4
   have tl7:=S4.keep _ _ tl3 hlp
   have K7:∀ v∈xs,KeyV kind H7 v:=λ v hv=>(hK v hv).keep (gw S4 S3.tape)
   clear S4 tl3 hK S3
   nofun
   apply Dl (α:=V) (S:=λ v H7=>St2 p H H7/\H7 l=some (.lst xs)/\(∀ u∈xs,KeyV kind H7 u)/\KeyV kind H7 v)
   case hA=>
    intro key
    refine ⟨aF (by simp),λ d hd=>?_⟩
    have S8:=(St2.refl S7.tape).new (o:=.lst []) hd
    have sm8:=(MN H7).new (o:=.lst []) hd
    have td:(upd H7 d (.lst [])) d=some (.lst []):=ab
    generalize upd H7 d (.lst [])=H8 at S8 sm8 td
    have tl8:=sm8 _ _ tl7
    have K8:∀ u∈xs,KeyV kind H8 u:=λ u hu=>(K7 u hu).keep λ b ys e=>sm8 _ _ e
    have kv8:KeyV kind H8 v1:=kv1.keep λ b ys e=>sm8 _ _ e
    have S78:=S7.trans S8
    refine ⟨l,d,xs,rfl,rfl,MJ tl8,MJ td,?_⟩
    by_cases hx0:xs=[]
    rotate_left 1
    ·rw [decide_eq_false hx0]
     have hxp:0<xs.length:=Ft.mpr hx0
     nofun
     refine ⟨p,3,rfl,S78.tape,by decide,by decide,λ r2 H9 a1 S9=>?_⟩
     have tl9:=S9.keep _ _ tl8 hlp
     have K9:∀ u∈xs,KeyV kind H9 u:=λ u hu=>(K8 u hu).keep (gw S9 S78.tape)
     have kv9:KeyV kind H9 v1:=kv8.keep (gw S9 S78.tape)
     nofun
     refine aW (λ g=>?_) (λ g=>?_)
     ·nofun
      refine bj (MJ tl9) ?_
      nofun
      refine ⟨p,_,rfl,S9.tape,by lia,by lia,λ r3 HA c1 SA=>?_⟩
      obtain ⟨u,e1,hu⟩:=cz (xs:=xs) (r:=(r3:Int)) (by lia) c1
      have tlA:=SA.keep _ _ tl9 hlp
      have KA:∀ u∈xs,KeyV kind HA u:=λ u hu=>(K9 u hu).keep (gw SA S9.tape)
      refine cb (MJ tlA) e1 ?_
      have ku:=KA u hu
      nofun
      exact key u HA ⟨S78.trans (S9.trans SA),tlA,KA,ku⟩
     ·nofun
      exact key v1 H9 ⟨S78.trans S9,tl9,K9,kv9⟩
    ·rw [decide_eq_true hx0]
     nofun
     exact key v1 H8 ⟨S78,tl8,K8,kv8⟩
   case hB=>
    clear S7 tl7 K7 kv1
    rintro v2 H8 ⟨S8,tl8,K8,kv8⟩
    refine ⟨bm tl8,?_⟩
    nofun
    refine aP tl8 (al (by lia)) ?_
    have tt:∀ b ys,H8 b=some (.tup ys)->(upd H8 l (.lst (xs++[v2]))) b=some (.tup ys):=λ b ys e=>by
     rw [aq (λ z=>by rw [z,tl8] at e; cases e)]; exact e
    refine ⟨S8.own hl hlp,⟨xs++[v2],ab,by simp [hxl],λ u hu=>?_⟩,_,_,rfl⟩
    rcases EX.mp hu with h | h
    ·exact (K8 u h).keep tt
    ·rw [EL.mp h]; exact kv8.keep tt
  ·rintro σ H3 ⟨S3,⟨xs,tl3,hxl,hK⟩,v0,w0,rfl⟩
   nofun
   exact k l xs H3 hxl hK S3 hl hlp tl3
noncomputable def uY:Sp:=λ vs H Q _=>∃ (p:Addr) (k:Int),vs=[.ref p,.int k]/\Tp2 H p/\
 ∀ (q l:Addr) (kind:Str) (xs:List V) (b:Nat) H',(kind = "number"\/kind = "part"\/kind = "text")->H' q=some (.tup [.str kind,.ref l,.int b])->H' l=some (.lst xs)->xs.length<=60->(∀ v∈xs,KeyV kind H' v)->2<=b->b<=64->l≠p->H l=none->St2 p H H'->Q (.ref q) H'
theorem yb (T:Tx K mg t):FnOk P t.wd K mg base CX0 6 t.sH t.sv ["_law_tape_here","_law_k"] uY:=by
 refine T.vQ.okQ sc_case (λ vs H Q E h=>?_) (λ cdv A outer s H vs Q E hr h=>?_)
 ·obtain ⟨p,kk,rfl,_⟩:=h
  rfl
 ·obtain ⟨p,kk,rfl,hT,k⟩:=h
  refine ⟨_,(ac (av (i:=2) sc_case.nd rfl (En rfl) (ba (bE (K:=K)) (aO (ah bn (ah bn (ah bn aa)))) (aj (aN T) (hr.mono (by decide)) rfl T.bg T.bc.kp T.bf aA (ah (qv 0) (ah ae aa)))))
   (ac (av (i:=3) sc_case.nd rfl (En rfl) (aj (xM T) (hr.mono (by decide)) rfl T.AQ T.vS.kp T.AG aA (ah (qv 0) (ah (qv 1) aa))))
   (ac (aR (az gD (qv 2) bn (au _)) (ai (av (i:=3) sc_case.nd rfl (En rfl) (af (vx rfl) (by rfl) T.nz oi (ah (qv 3) (ah ae aa))))) aE)
   (ai (ao (bt (ah (qv 2) (ah (aj (ya T) (hr.mono (by decide)) rfl T.AO T.vR.kp T.AF aA (ah (qv 0) (ah (qv 2) (ah (qv 3) aa)))) (ah (aj (xO T) (hr.mono (by decide)) rfl T.AL T.vP.kp T.AC aA (ah (qv 0) aa)) aa))))))))),?_⟩
  rw [show L2.aK ["_law_tape_here","_law_k","_law_kind","_law_many_here"] [MP p,ML kk]=[some (MP p),some (ML kk),none,none] from rfl]
  nofun
  refine ⟨aF (by simp),λ q hq=>?_⟩
  have S1:=(St2.refl hT).new (o:=.lst [MM "number",MM "part",MM "text"]) hq
  have tq:(upd H q (.lst [MM "number",MM "part",MM "text"])) q=some (.lst [MM "number",MM "part",MM "text"]):=ab
  have nq:=hT.ne hq
  generalize upd H q (.lst [MM "number",MM "part",MM "text"])=H1 at S1 tq
  nofun
  refine ⟨p,3,rfl,S1.tape,by decide,by decide,λ r H2 a2 S2=>?_⟩
  obtain ⟨v,e,hv⟩:=cz (xs:=[MM "number",MM "part",MM "text"]) (r:=(r:Int)) (by lia) a2
  refine cb (MJ (S2.keep q _ tq nq)) e ?_
  obtain ⟨kind,rfl,hk⟩:∃ kind,v=MM kind/\(kind = "number"\/kind = "part"\/kind = "text"):=by
   simp only [Er,ER,or_false] at hv
   rcases hv with rfl | rfl | rfl
   ·exact ⟨_,rfl,.inl rfl⟩
   ·exact ⟨_,rfl,.inr (.inl rfl)⟩
   ·exact ⟨_,rfl,.inr (.inr rfl)⟩
  clear e hv
  have S12:=S1.trans S2
  nofun
  refine ⟨p,kk,rfl,S12.tape,λ m H3 hm S3=>?_⟩
  have S13:=S12.trans S3
  have fin:∀ (l:Addr) (xs:List V) (b:Nat) (H4 H5:Hp) (z:Addr),xs.length<=60->(∀ v∈xs,KeyV kind H4 v)->St2 p H3 H4->H3 l=none->l≠p->H4 l=some (.lst xs)->2<=b->b<=64->St2 p H4 H5->H5 z=none->Q (.ref z) (upd H5 z (.tup [.str kind,.ref l,.int b])):=λ l xs b H4 H5 z hxl hK S4 hl hlp tl hb hb2 S5 hz=>by
   have tl5:=S5.keep _ _ tl hlp
   have hK5:∀ v∈xs,KeyV kind H5 v:=λ v hv=>(hK v hv).keep (gw S5 S4.tape)
   have S15:=S13.trans (S4.trans S5)
   have sm:=(MN H5).new (o:=.tup [.str kind,.ref l,.int b]) hz
   exact k z l kind xs b _ hk ab (sm _ _ tl5) hxl (λ v hv=>(hK5 v hv).keep λ b ys e=>sm _ _ e) hb hb2 hlp (S13.free hl) (S15.new hz)
  nofun
  by_cases hpt:kind = "part"
  ·refine dU (by rw [hpt]) ?_
   nofun
   obtain ⟨n,en,hn⟩:∃ n:Nat,(if (20:Int)<(m:Int) then 20 else (m:Int))=(n:Int)/\n<=60:=by
    split
    ·exact ⟨20,rfl,by decide⟩
    ·exact ⟨m,rfl,hm⟩
   rw [en]
   refine ⟨p,kind,n,rfl,S13.tape,hk,hn,λ l xs H4 hxl hK S4 hl hlp tl=>?_⟩
   nofun
   refine ⟨p,rfl,S4.tape,λ b H5 hb hb2 S5=>?_⟩
   nofun
   exact ⟨aF (by simp),λ z hz=>fin l xs b H4 H5 z (by lia) hK S4 hl hlp tl hb hb2 S5 hz⟩
  ·refine bV (λ z=>hpt (MM.inj z)) ?_
   nofun
   refine ⟨p,kind,m,rfl,S13.tape,hk,hm,λ l xs H4 hxl hK S4 hl hlp tl=>?_⟩
   nofun
   refine ⟨p,rfl,S4.tape,λ b H5 hb hb2 S5=>?_⟩
   nofun
   exact ⟨aF (by simp),λ z hz=>fin l xs b H4 H5 z (by lia) hK S4 hl hlp tl hb hb2 S5 hz⟩
theorem uZ {t m':Nat} (hb:2<=b) (h1:t<b ^ m) (h2:0<m->b ^ (m - 1)<=t) (h3:t<b ^ m') (h4:0<m'->b ^ (m' - 1)<=t):m=m':=by
 rcases Hg m m' with h | h | h
 ·have:=Jv (n:=b) (by lia) (show m<=m' - 1 by lia)
  have:=h4 (by lia)
  lia
 ·exact h
 ·have:=Jv (n:=b) (by lia) (show m'<=m - 1 by lia)
  have:=h2 (by lia)
  lia
theorem pq {ns:List Int} {m':Nat} {zs':List Nat} (hb:2<=b) (h:Spelt ns b zs m) (h':Spelt ns b zs' m'):zs=zs'/\m=m':=by
 rcases h with ⟨rfl,rfl,rfl⟩ | ⟨lo,hi,a1,a2,a3,rfl,a4,a5,_⟩
 ·rcases h' with ⟨_,rfl,rfl⟩ | ⟨lo,hi,a1,_⟩
  ·exact ⟨rfl,rfl⟩
  ·cases a1
 ·rcases h' with ⟨rfl,_,_⟩ | ⟨lo',hi',c1,c2,c3,rfl,c4,c5,_⟩
  ·cases a1
  ·have e1:lo=lo':=by have:=(a3 lo' c1).1; have:=(c3 lo a1).1; lia
   have e2:hi=hi':=by have:=(a3 hi' c2).2; have:=(c3 hi a2).2; lia
   subst e1 e2
   exact ⟨rfl,uZ hb a4 a5 c4 c5⟩
theorem lY {ns:List Int} {w w':Nat} {rss':List (List Nat)} (hb:2<=b) (h:Ar ns b rss w) (h':Ar ns b rss' w'):rss=rss'/\w=w':=by
 obtain ⟨zs,hS,rfl⟩:=h
 obtain ⟨zs',hS',rfl⟩:=h'
 obtain ⟨rfl,rfl⟩:=pq hb hS hS'
 exact ⟨rfl,rfl⟩
theorem rV {zs:List Str} {m':Nat} (h:yu zs m) (h':yu zs m'):m=m':=by
 rcases h.2 with ⟨rfl,rfl⟩ | ⟨z,hz,e⟩
 ·rcases h'.2 with ⟨_,rfl⟩ | ⟨z,hz,_⟩
  ·rfl
  ·cases hz
 ·rcases h'.2 with ⟨rfl,_⟩ | ⟨z',hz',e'⟩
  ·cases hz
  ·have:=h.1 z' hz'; have:=h'.1 z hz; lia
theorem Kd.rows.uniq {k:Kd} {w w' c':Nat} {rss':List (List Nat)} (hb:2<=b) (h:k.rows b rss w c) (h':k.rows b rss' w' c'):rss=rss'/\w=w'/\c=c':=by
 cases k with
 | nu ns=>
  obtain ⟨h,rfl⟩:=h
  obtain ⟨h',rfl⟩:=h'
  obtain ⟨rfl,rfl⟩:=lY hb h h'
  exact ⟨rfl,rfl,rfl⟩
 | pa tb=>
  obtain ⟨h,rfl⟩:=h
  obtain ⟨h',rfl⟩:=h'
  obtain ⟨rfl,rfl⟩:=lY hb h h'
  exact ⟨rfl,rfl,rfl⟩
 | te zs=>
  obtain ⟨⟨h,_,rfl⟩,rfl⟩:=h
  obtain ⟨⟨h',_,rfl⟩,rfl⟩:=h'
  obtain rfl:=rV h h'
  exact ⟨rfl,rfl,rfl⟩
theorem fQ {a b:List Nat} (h:aY a=aY b):a=b:=(JS (λ x y e=>by have e:(x:Int)=(y:Int):=e; lia)).mp h
theorem fo (p:List Nat):(aY p).map Ja=p:=by
 unfold aY
 rw [E6]
 conv=>rhs; rw [<-List.map_id p]
 exact Fj λ x _=>rfl
theorem rW (rss:List (List Nat)) (c:Nat) (p:List Nat):(bgs rss c).count (aY p)=(eF rss c p).length:=by
 unfold bgs eF
 rw [HX,GS,Ed]
 congr 1
 refine Hj λ r _=>?_
 show (aY (r.take c) == aY p)=decide (r.take c=p)
 by_cases h:r.take c=p
 ·rw [h,decide_eq_true rfl]; exact beq_self_eq_true _
 ·rw [decide_eq_false h]; exact beq_eq_false_iff_ne.mpr λ z=>h (fQ z)
theorem lZ {bs:List (List Int)} {zs:List (List Int×Int)} (h:Bgs bs zs):(zs.map (·.1)).Nodup:=h.1.imp λ {a b} e z=>by
 rw [z] at e
 have:=HT.dv _ _ e
 rw [e] at this; cases this
theorem u4 {w:Nat} {zs':List (List Int×Int)} {p:List Nat} (hw:∀ r∈rss,r.length=w) (hc:c<w) (hp:p.length=c) (b1:Bgs (bgs rss (c+1)) zs'):1<(cI zs').count (aY p)↔Par (bw (eF rss c p) c):=by
 have dl:∀ q:List Nat,q.length=w->(aY (q.take (c+1))).dropLast=aY (q.take c):=λ q hq=>by
  unfold aY
  rw [<-Ke,Jm,EV,List.take_take]
  congr 2
  lia
 have e1:(cI zs').count (aY p)=((zs'.map (·.1)).filter λ q=>q.dropLast == aY p).length:=by
  unfold cI
  rw [HX,GS,GS,Ed,Ed]; rfl
 have e2:(bw (eF rss c p) c).map (λ f=>aY (p++[f]))=(eF rss c p).map λ r=>aY (r.take (c+1)):=by
  unfold bw
  rw [E6]
  refine Fj λ r hr=>?_
  obtain ⟨h1,h2⟩:=Fa.mp hr
  show aY (p++[r.getD c 0])=_
  rw [(lO (hw r h1) hc hp).mpr ⟨of_decide_eq_true h2,rfl⟩]
 rw [e1,<-rg (f:=λ f=>aY (p++[f])) λ a b e=>(Jy (IQ (fQ e))).1,e2]
 refine gu ((lZ b1).filter _) λ q=>?_
 rw [Fa,b1.2.1 q,Es]
 constructor
 ·rintro ⟨h1,h2⟩
  obtain ⟨r,hr,rfl⟩:=Es.mp h1
  refine ⟨r,Fa.mpr ⟨hr,decide_eq_true ?_⟩,rfl⟩
  rw [dl r (hw r hr)] at h2
  exact fQ (eq_of_beq h2)
 ·rintro ⟨r,hr,rfl⟩
  obtain ⟨h1,h2⟩:=Fa.mp hr
  refine ⟨Es.mpr ⟨r,h1,rfl⟩,?_⟩
  rw [dl r (hw r h1),of_decide_eq_true h2]
  exact beq_self_eq_true _
theorem rX {w:Nat} {zs zs':List (List Int×Int)} (hw:∀ r∈rss,r.length=w) (hc:c<w) (b0:Bgs (bgs rss c) zs) (b1:Bgs (bgs rss (c+1)) zs'):pp zs zs'=mvL rss c:=by
 have hz:∀ z∈zs,∃ r∈rss,z.1=aY (r.take c):=λ z h=>by
  obtain ⟨r,hr,e⟩:=Es.mp ((b0.2.1 z.1).mp (Es.mpr ⟨z,h,rfl⟩))
  exact ⟨r,hr,e.symm⟩
 have hl:∀ r∈rss,(r.take c).length=c:=λ r hr=>by rw [EV,hw r hr]; lia
 have e0:mvL rss c=((pfx rss c).map λ p=>mvG c (eF rss c p)).sum:=by
  unfold mvL
  rw [kr hw c (by lia),E6]; rfl
 have e1:pp zs zs'=((zs.map λ z=>z.1.map Ja).map λ p=>mvG c (eF rss c p)).sum:=by
  unfold pp
  rw [E6]
  congr 1
  refine Fj λ z h=>?_
  obtain ⟨r,hr,e⟩:=hz z h
  have e2:=b0.2.2 z h
  rw [e] at e2
  rw [rW] at e2
  show (if 1<(cI zs').count z.1 then z.2 else 0)=mvG c (eF rss c (z.1.map Ja))
  rw [e,fo,e2]
  have h1:=u4 hw hc (hl r hr) b1
  have h2:=kys_par (os:=bw (eF rss c (r.take c)) c)
  unfold mvG
  by_cases h3:Par (bw (eF rss c (r.take c)) c)
  ·rw [if_pos (h1.mpr h3),if_pos (h2.mpr h3)]
  ·rw [if_neg (λ z=>h3 (h1.mp z)),if_neg (λ z=>h3 (h2.mp z))]
 rw [e0,e1]
 refine iU ?_ (iT c) λ p hp=>?_
 ·rw [show (zs.map λ z=>z.1.map Ja)=(zs.map (·.1)).map (LX Ja) by rw [E6]; rfl]
  refine Hi.mpr ((lZ b0).imp_of_mem λ {a b} ha hb hne e=>hne ?_)
  obtain ⟨z,h,rfl⟩:=Es.mp ha
  obtain ⟨y,g,rfl⟩:=Es.mp hb
  obtain ⟨r,hr,e3⟩:=hz z h
  obtain ⟨q,hq,e4⟩:=hz y g
  rw [e3,e4,fo,fo] at e
  rw [e3,e4,e]
 ·unfold mvG at hp
  have h3:Par (bw (eF rss c p) c):=kys_par.mp (GT λ z=>hp (if_neg z))
  obtain ⟨x,hx,y,hy,hne⟩:=h3
  obtain ⟨r,hr,rfl⟩:=Es.mp hx
  obtain ⟨q,hq,rfl⟩:=Es.mp hy
  have h4:1<(eF rss c p).length:=by
   match e:eF rss c p,hr,hq with
   | [a],hr,hq=>exact absurd (by rw [EL.mp hr,EL.mp hq]) hne
   | a::b::l,_,_=>simp
  obtain ⟨h5,h6⟩:=Fa.mp hr
  have h7:r.take c=p:=of_decide_eq_true h6
  refine ⟨λ _=>rh hw c (by lia) p (by rw [<-h7]; exact hl r h5) h4,λ _=>?_⟩
  obtain ⟨z,hz1,hz2⟩:=Es.mp ((b0.2.1 (aY p)).mpr (Es.mpr ⟨r,h5,by rw [h7]⟩))
  exact Es.mpr ⟨z,hz1,by rw [show z.1=_ from hz2,fo]⟩
noncomputable def ncl (rss:List (List Nat)) (w:Nat):Nat:=if rss=[] then 0 else w
theorem pv {w:Nat} {zss:List (List (List Int×Int))} (hG:uN rss w b) (h:BgF rss w zss):dZ zss=mx rss (ncl rss w):=by
 unfold dZ mx
 have hl:zss.length - 1=ncl rss w:=by rw [h.1]; unfold ncl; lia
 rw [hl]
 congr 1
 refine Fj λ c hc=>?_
 have hc:=FI.mp hc
 have hcw:c<w:=by unfold ncl at hc; split at hc<;>lia
 have g:∀ d,d<zss.length->zss[d]? = some (zss.getD d []):=λ d hd=>by rw [Ej,Ef hd]; rfl
 exact rX (λ r hr=>(hG r hr).1) hcw (h.2 c _ (g c (by lia))) (h.2 (c+1) _ (g (c+1) (by lia)))
noncomputable def Aw (rss:List (List Nat)) (w:Nat):List Nat:=(Eu (ncl rss w)).filter λ c=>decide (1<(kys (bw rss c)).length)
theorem rY {w:Nat} (hG:uN rss w b):eE rss w b=(Aw rss w).length*rss.length:=by
 have hb:∀ c,c<w->∀ o∈bw rss c,o<b:=λ c hc o ho=>by
  obtain ⟨r,hr,rfl⟩:=Es.mp ho
  obtain ⟨h1,h2⟩:=hG r hr
  have:c<r.length:=by lia
  show r.getD c 0<b
  rw [Ej,Ef this]
  exact h2 _ (EQ this)
 have hn:∀ c,c<ncl rss w->c<w:=λ c h=>by unfold ncl at h; split at h<;>lia
 have eg:∀ c,c<ncl rss w->(cA rss w b).getD c []=cnt (bw rss c) b:=λ c hc=>by
  unfold cA
  rw [Ej,El,FE (by exact hc)]; rfl
 have e1:cB (cA rss w b)=(Aw rss w).reverse:=by
  unfold cB Aw
  rw [iN,<-List.filter_reverse]
  refine Hj λ c hc=>?_
  have hc:c<ncl rss w:=FI.mp (Hs.mp hc)
  rw [eg c hc]
  have h1:=xF (hb c (hn c hc))
  have h2:=kys_par (os:=bw rss c)
  by_cases h3:Par (bw rss c)
  ·rw [h1.mpr h3,decide_eq_true (h2.mpr h3)]
  ·rw [decide_eq_false (λ z=>h3 (h2.mp z))]
   exact Bool.eq_false_iff.mpr λ z=>h3 (h1.mp z)
 unfold eE qI
 rw [e1]
 have e2:((Aw rss w).reverse.map λ c=>((cA rss w b).getD c []).sum)=EB (Aw rss w).length rss.length:=by
  refine List.eq_replicate_iff.mpr ⟨by simp,λ x hx=>?_⟩
  obtain ⟨c,hc,rfl⟩:=Es.mp hx
  have hc:c<ncl rss w:=FI.mp (Fa.mp (Hs.mp hc)).1
  rw [eg c hc,xg (hb c (hn c hc))]
  unfold bw; rw [Ed]
 rw [e2,List.sum_replicate_nat]
theorem oo {H:Hp} {e0:Addr} {ps:List Addr} {w:Nat} (te:H e0=some (.tup [])) (hR:RowsT H ps rss) (hG:uN rss w b):∃ (q:Addr) (zs:List V),atI (ps.map MP++[MP e0]) 0=some (MP q)/\H q=some (.tup zs)/\zs.length=ncl rss w:=by
 cases ps with
 | nil=>
  have h0:rss=[]:=FK.mp hR.1.symm
  exact ⟨e0,[],bJ (j:=0) rfl,te,by unfold ncl; rw [if_pos h0]; rfl⟩
 | cons p ps=>
  cases rss with
  | nil=>cases hR.1
  | cons r rss=>exact ⟨p,_,bJ (j:=0) rfl,hR.2 0 p r rfl rfl,by rw [aQ,(hG r (EJ ..)).1]; unfold ncl; rw [if_neg (by simp)]⟩
theorem vM (rss:List (List Nat)) (w:Nat):ncl rss w<=w:=by unfold ncl; split<;>lia
noncomputable def jw (rss:List (List Nat)) (i:Nat):List Nat:=(Eu i).filter λ c=>decide (1<(kys (bw rss c)).length)
theorem pw (rss:List (List Nat)) (i:Nat):jw rss (i+1)=jw rss i++(if 1<(kys (bw rss i)).length then [i] else []):=by
 unfold jw
 rw [Hz,Gb]
 congr 1
 split<;>simp_all
theorem l6 (rss:List (List Nat)) (i:Nat):(jw rss i).length<=i:=by
 have:=Fv (λ c=>decide (1<(kys (bw rss c)).length)) (Eu i)
 rw [FC] at this
 exact this
noncomputable def u5 (rss:List (List Nat)) (c:Nat):List (Key×V):=(bw rss c).map λ (o:Nat)=>((Fo (o:Int):Key),V.bl true)
noncomputable def CQ:Sp:=λ vs H Q _=>∃ (a:Addr) (rss:List (List Nat)) (w b:Nat),vs=[.ref a]/\Rws H a rss w b/\∀ H',Same H H'->Q (.int (eE rss w b:Nat)) H'
theorem kG (T:Tx K mg t):FnOk P t.wd K mg base CX0 1 t.ff t.fb ["_law_rows"] CQ:=by
 refine T.hX.okQ sc_last_moves (λ vs H Q E h=>?_) (λ cdv A outer s H vs Q E hr h=>?_)
 ·obtain ⟨a,rss,w,b,rfl,_⟩:=h
  rfl
 ·obtain ⟨a,rss,w,b,rfl,⟨⟨ps,ta,hR⟩,hG,hn,hw,hb⟩,k⟩:=h
  have hpl:ps.length=rss.length:=hR.1
  have hnw:=vM rss w
  refine ⟨_,(ac (uJ (i:=1) (xc:="_law_k") (N:=["_law_k","_law_rows"]) (tgs:=["_law_k"]) (frs:=["_law_rows"]) (ix:=[0])  sc_last_moves.nd rfl (En rfl) ⟨rfl,λ _=>rfl,λ _=>rfl,rfl,by decide +kernel,rfl,rfl,⟨⟨rfl,rfl,_,rfl,rfl⟩,Et⟩,by decide +kernel,⟨rfl,Et⟩,rfl⟩ rfl (bD rfl T.bx (ah (af (bv (K:=K)) (by rfl) T.bH aX (ah (ba (bE (K:=K)) (ay wS (qv 0) (aO (ah (bt aa) aa))) ae) aa)) aa)) (λ _ _ _ _=>(ap (i:=0) (by show EZ (["_law_k","_law_rows"]:List Str); decide +kernel) rfl (Gh rfl))) (λ _ _ _ _=>(qv 0)) (λ _ _ _ _=>(az mN (af re (by rfl) T.bH aX (ah (aM (uH (K:=K) rfl) (by rfl) T.oI xI (ah (bu (N:=["_law_row","_law_k"]) (tgs:=["_law_row"]) (frs:=["_law_k"]) (ix:=[0]) ⟨rfl,by decide +kernel,rfl,by decide +kernel,rfl,rfl,⟨⟨rfl,rfl,_,rfl,rfl⟩,Et⟩,⟨rfl,Et⟩,rfl⟩ rfl (bq (K:=K) (qv 1)) (λ _ _ _ _=>(ap (i:=0) (by show EZ (["_law_row","_law_k"]:List Str); decide +kernel) rfl (En rfl))) (λ _ _ _ _=>(bt (ah (ba (lj (K:=K)) (qv 0) (qv 1)) (ah o0 aa))))) aa)) aa)) ae (au _))))
   (ai (ao (ay fF (af (bv (K:=K)) (by rfl) T.bH aX (ah (qv 1) aa)) (af (bv (K:=K)) (by rfl) T.bH aX (ah (qv 0) aa)))))),?_⟩
  rw [show L2.aK ["_law_rows","_law_columns"] [MP a]=[some (MP a),none] from rfl]
  nofun
  refine ⟨aF (by simp),λ e0 he0=>?_⟩
  have s1:=(MN H).new (o:=.tup []) he0
  have te:(upd H e0 (.tup [])) e0=some (.tup []):=ab
  generalize upd H e0 (.tup [])=H1 at s1 te
  nofun
  refine ⟨aF (by simp),λ z0 hz0=>?_⟩
  have s2:=s1.new (o:=.lst [MP e0]) hz0
  have s12:=(MN H1).new (o:=.lst [MP e0]) hz0
  have tz0:(upd H1 z0 (.lst [MP e0])) z0=some (.lst [MP e0]):=ab
  generalize upd H1 z0 (.lst [MP e0])=H2 at s2 s12 tz0
  nofun
  refine ⟨a,z0,_,_,rfl,rfl,s2 _ _ ta,tz0,E5 (al (by rw [Ed]; simp; lia)),λ cl hcl=>?_⟩
  have s3:=s2.new (o:=.lst (ps.map MP++[MP e0])) hcl
  have s23:=(MN H2).new (o:=.lst (ps.map MP++[MP e0])) hcl
  have tcl:(upd H2 cl (.lst (ps.map MP++[MP e0]))) cl=some (.lst (ps.map MP++[MP e0])):=ab
  generalize upd H2 cl (.lst (ps.map MP++[MP e0]))=H3 at s3 s23 tcl
  obtain ⟨q,zs,hq1,hq2,hq3⟩:=oo (s23 _ _ (s12 _ _ te)) (hR.same s3) hG
  nofun
  refine cb (MJ tcl) (v:=MP q) hq1 ?_
  nofun
  refine iH (MK hq2) ?_
  rw [hq3]
  nofun
  refine ⟨_,rfl,by lia,by lia,iO (n:=ncl rss w) (λ i ys σ H'=>Same H H'/\ys=NV (jw rss i)/\∃ v,σ=[v,some (MP a)]) (al (by lia)) (λ i ys σ H' h=>by rw [h.2.1,aQ]; exact l6 rss i) ⟨s3,rfl,none,rfl⟩ (λ i ys σ H' hi _=>hi) (λ ys σ H' _=>Eh _) ?_ ?_⟩
  ·rintro c x ys σ H4o H4 hc ⟨s4,rfl,v,rfl⟩ ⟨rfl,rfl⟩
   have hcw:c<w:=by lia
   rw [G1]
   nofun
   refine ⟨a,rfl,⟨_,MJ (s4 _ _ ta)⟩,cv (a:=a) (vs:=ps.map MP) (λ i ys σ H'=>Same H4 H'/\(∃ qs:List Addr,ys=qs.map MP/\qs.length=i/\∀ (j:Nat) q kv,qs[j]? = some q->(u5 rss c)[j]? = some kv->H' q=some (.tup [kV kv.1,kv.2]))/\∃ v,σ=[v,some (ML c)]) (by rw [Ed,hpl]; exact al (by lia)) (λ i ys σ H' h=>by obtain ⟨_,⟨qs,rfl,e,_⟩,_⟩:=h; rw [Ed,e]) (λ i ys σ H' h=>MJ (h.1 _ _ (s4 _ _ ta))) ⟨MN _,⟨[],rfl,rfl,λ j q kv e=>by simp at e⟩,none,rfl⟩ ?_ ?_⟩
   ·rintro i ys σ H5 x hx ⟨s5,⟨qs,rfl,hql,hQ⟩,v,rfl⟩
    have hil:=bQ hx
    obtain ⟨p,rfl,hp,_,hi⟩:=aT hx
    have hir:i<rss.length:=by rw [<-hpl]; exact hi
    have er:rss[i]? = some rss[i]:=by simp [hir]
    obtain ⟨g1,g2⟩:=rL hG er hcw
    nofun
    refine qg (MK (s5 _ _ (s4 _ _ (hR.2 i p _ hp er)))) (wZ rfl g1) ?_
    nofun
    refine ⟨aF (by simp),λ t1 ht1=>?_⟩
    refine MO hil ⟨s5.new ht1,⟨qs++[t1],by rw [EA]; rfl,by simp [hql],λ j q kv e1 e2=>?_⟩,_,rfl⟩
    rcases aL e1 with ⟨l',e1⟩ | ⟨l',e1⟩
    ·have:=hQ j q kv e1 e2
     rw [aq (ak this ht1)]; exact this
    ·rw [l',hql] at e2
     unfold u5 at e2
     rw [El,g2] at e2
     cases e2
     rw [e1]; exact ab
   ·rintro ys σ H5 ⟨s5,⟨qs,rfl,hql,hQ⟩,v,rfl⟩ z hz
    rw [Ed,hpl] at hql
    have s6:=s5.new (o:=.lst (qs.map MP)) hz
    have s56:=(MN H5).new (o:=.lst (qs.map MP)) hz
    have tz:(upd H5 z (.lst (qs.map MP))) z=some (.lst (qs.map MP)):=ab
    generalize upd H5 z (.lst (qs.map MP))=H6 at s6 s56 tz
    nofun
    refine ⟨z,qs,u5 rss c,rfl,tz,by rw [hql]; unfold u5; rw [Ed,kC],λ j q kv e1 e2=>s56 _ _ (hQ j q kv e1 e2),λ d hd=>?_⟩
    have s7:=s6.new (o:=.dK (cD [] (u5 rss c))) hd
    have td:(upd H6 d (.dK (cD [] (u5 rss c)))) d=some (.dK (cD [] (u5 rss c))):=ab
    generalize upd H6 d (.dK (cD [] (u5 rss c)))=H7 at s7 td
    nofun
    refine ⟨d,_,rfl,td,?_⟩
    nofun
    have hpar:1<(cD [] (u5 rss c)).length↔1<(kys (bw rss c)).length:=merge_par.trans kys_par.symm
    have esc:=pw rss c
    by_cases hp:1<(kys (bw rss c)).length
    ·refine dU (by have:=hpar.mpr hp; lia) ?_
     rw [if_pos hp] at esc
     nofun
     refine MO hc ⟨s4.trans s7,?_,_,rfl⟩
     rw [bS,esc]
    ·refine bV (by have:=λ z=>hp (hpar.mp z); lia) ?_
     rw [if_neg hp] at esc
     refine MO hc ⟨s4.trans s7,?_,_,rfl⟩
     rw [esc,Fh]
  ·rintro ys σ H4 ⟨s4,rfl,v,rfl⟩ l hl
   have s5:=s4.new (o:=.lst (NV (jw rss (ncl rss w)))) hl
   have tl:(upd H4 l (.lst (NV (jw rss (ncl rss w))))) l=some (.lst (NV (jw rss (ncl rss w)))):=ab
   generalize upd H4 l (.lst (NV (jw rss (ncl rss w))))=H5 at s5 tl
   nofun
   refine bj (MJ tl) ?_
   nofun
   refine bj (MJ (s5 _ _ ta)) ?_
   have e:=rY hG
   rw [aQ,Ed,hpl]
   have hpc:=l6 rss (ncl rss w)
   nofun
   have e2:(((jw rss (ncl rss w)).length:Nat):Int)*((rss.length:Nat):Int)=((eE rss w b:Nat):Int):=by
    rw [e,GR]; rfl
   rw [e2]
   exact k H5 s5
noncomputable def RwL (H:Hp) (l:Addr) (g:List (List Nat)):Prop:=∃ ps:List Addr,H l=some (.lst (ps.map MP))/\RowsT H ps g
theorem RwL.same {H H':Hp} {l:Addr} {g:List (List Nat)} (h:RwL H l g) (s:Same H H'):RwL H' l g:=let ⟨ps,a,r⟩:=h; ⟨ps,s _ _ a,r.same s⟩
theorem RwL.keep {H:Hp} {g:List (List Nat)} (h:RwL H l g) (hl:∀ o,H l=some o->H' l=some o) (ht:∀ b ys,H b=some (.tup ys)->H' b=some (.tup ys)):RwL H' l g:=
 let ⟨ps,a,r⟩:=h; ⟨ps,hl _ a,r.1,λ i p q e1 e2=>ht _ _ (r.2 i p q e1 e2)⟩
noncomputable def GrpAt (H:Hp) (ls:List Addr) (G:List (List (List Nat))):Prop:=ls.length=G.length/\∀ (i:Nat) l g,ls[i]? = some l->G[i]? = some g->RwL H l g
theorem GrpAt.same {H H':Hp} {ls:List Addr} {G:List (List (List Nat))} (h:GrpAt H ls G) (s:Same H H'):GrpAt H' ls G:=⟨h.1,λ i l g e1 e2=>(h.2 i l g e1 e2).same s⟩
theorem GrpAt.app {H:Hp} {ls ls':List Addr} {G G':List (List (List Nat))} (h:GrpAt H ls G) (h':GrpAt H ls' G'):GrpAt H (ls++ls') (G++G'):=by
 refine ⟨by rw [ED,ED,h.1,h'.1],λ i l g e1 e2=>?_⟩
 by_cases hi:i<ls.length
 ·rw [E2 hi] at e1
  rw [E2 (by rw [<-h.1]; exact hi)] at e2
  exact h.2 i l g e1 e2
 ·rw [EY (by lia)] at e1
  rw [EY (by rw [<-h.1]; lia),<-h.1] at e2
  exact h'.2 _ l g e1 e2
noncomputable def kvG (k:Nat) (g:List (List Nat)) (as:List Addr):List (Key×V):=(kys (bw g k)).zipWith (λ (f:Nat) a=>((Fo (f:Int):Key),MP a)) as
noncomputable def DicAt (H0 H:Hp) (d:Addr) (k:Nat) (g:List (List Nat)) (as:List Addr):Prop:=H d=some (.dK (kvG k g as))/\as.length=(kys (bw g k)).length/\as.Nodup/\(∀ a∈as,H0 a=none/\a≠d)/\∀ (j:Nat) a f,as[j]? = some a->(kys (bw g k))[j]? = some f->RwL H a (mw k f g)
theorem rZ {f:Nat}:∀ {fs:List Nat} {as:List Addr},as.length=fs.length->(f∉fs->gZ (fs.zipWith (λ (f:Nat) a=>((Fo (f:Int):Key),MP a)) as) (Fo (f:Int))=none)/\(f∈fs->∃ (j:Nat) (a:Addr),as[j]? = some a/\fs[j]? = some f/\gZ (fs.zipWith (λ (f:Nat) a=>((Fo (f:Int):Key),MP a)) as) (Fo (f:Int))=some (.ref a))
 | [],_,_=>⟨λ _=>by rw [List.zipWith_nil_left]; rfl,λ h=>nomatch h⟩
 | x::fs,[],h=>by cases h
 | x::fs,a::as,h=>by
  obtain ⟨i1,i2⟩:=rZ (f:=f) (fs:=fs) (as:=as) (by simpa using h)
  rw [List.zipWith_cons_cons]
  by_cases hx:x=f
  ·subst hx
   exact ⟨λ hn=>absurd (EJ ..) hn,λ _=>⟨0,a,rfl,rfl,gm rfl⟩⟩
  ·have hne:¬ (Fo (x:Int):Key)=Fo (f:Int):=λ e=>hx (by have:=Jb e; lia)
   refine ⟨λ hn=>?_,λ hm=>?_⟩
   ·rw [dB hne]; exact i1 λ z=>hn (EH _ z)
   ·obtain ⟨j,b,e1,e2,e3⟩:=i2 ((Er.mp hm).elim (λ e=>absurd e.symm hx) id)
    exact ⟨j+1,b,e1,e2,by rw [dB hne]; exact e3⟩
theorem l7 (g:List (List Nat)) (r:List Nat) (k:Nat):bw (g++[r]) k=bw g k++[r.getD k 0]:=by unfold bw; rw [EA]; rfl
theorem l8 (g:List (List Nat)) (r:List Nat) (k f:Nat):mw k f (g++[r])=mw k f g++(if r.getD k 0=f then [r] else []):=by
 unfold mw
 rw [Gb]
 congr 1
 split<;>simp_all
theorem r9 {g:List (List Nat)} {f:Nat} (h:f∉kys (bw g k)):mw k f g=[]:=by
 refine Jh.mpr λ r hr z=>h (kys_mem.mpr (Es.mpr ⟨r,hr,of_decide_eq_true z⟩))
theorem vN (os:List Nat):(kys os).length<=os.length:=gq (gv os) λ x hx=>kys_mem.mp hx
theorem oq (g:List (List Nat)) (k:Nat):(bw g k).length=g.length:=by unfold bw; rw [Ed]
theorem l9 {H:Hp} {ps:List Addr} {g:List (List Nat)} (h:RowsT H ps g) (ht:∀ b ys,H b=some (.tup ys)->H' b=some (.tup ys)) (hp:H p=some (.tup (NV r))):RowsT H' (ps++[p]) (g++[r]):=by
 refine ⟨by rw [ED,ED,h.1]; rfl,λ i q s e1 e2=>ht _ _ ?_⟩
 rcases aL e1 with ⟨l1,e1⟩ | ⟨l1,e1⟩
 ·rcases aL e2 with ⟨_,e2⟩ | ⟨l2,e2⟩
  ·exact h.2 i q s e1 e2
  ·have:=h.1; lia
 ·rcases aL e2 with ⟨l2,e2⟩ | ⟨_,e2⟩
  ·have:=h.1; lia
  ·rw [e1,e2]; exact hp
theorem DicAt.old {H0 H:Hp} {f:Nat} {g:List (List Nat)} {ps:List Addr} (h:DicAt H0 H d k g as) (hf:r.getD k 0=f) (hm:f∈kys (bw g k)) (ej:as[j]? = some a) (ef:(kys (bw g k))[j]? = some f) (hp:H p=some (.tup (NV r))) (ta:H a=some (.lst (ps.map MP))) (hps:RowsT H ps (mw k f g)) :
  DicAt H0 (upd H a (.lst (ps.map MP++[.ref p]))) d k (g++[r]) as:=by
 obtain ⟨h1,h2,h3,h4,h5⟩:=h
 have e:kys (bw (g++[r]) k)=kys (bw g k):=by rw [l7,ko,hf,if_pos hm]
 have had:=(h4 a (EN ej)).2
 have tk:∀ b ys,H b=some (.tup ys)->upd H a (.lst (ps.map MP++[.ref p])) b=some (.tup ys):=λ b ys e=>by rw [aq (jp e ta (by intro c; cases c))]; exact e
 refine ⟨by rw [aq had.symm]; unfold kvG at *; rw [e]; exact h1,by rw [e]; exact h2,h3,h4,λ j' a' f' e1 e2=>?_⟩
 rw [e] at e2
 rw [l8,hf]
 by_cases ha:a'=a
 ·subst ha
  have hj:j'=j:=(Kg (bQ e1) h3).mp (e1.trans ej.symm)
  subst hj
  rw [ef] at e2
  cases e2
  rw [if_pos rfl]
  exact ⟨ps++[p],by rw [ab,EA]; rfl,l9 hps tk hp⟩
 ·have hne:f≠f':=λ z=>by
   subst z
   have hj:j'=j:=(Kg (bQ e2) (gv _)).mp (e2.trans ef.symm)
   subst hj
   rw [ej] at e1
   exact ha (EO e1).symm
  rw [if_neg hne,Fh]
  exact (h5 j' a' f' e1 e2).keep (λ o eo=>by rw [aq ha]; exact eo) tk
theorem DicAt.new {H0 H:Hp} {q:Addr} {f:Nat} {g:List (List Nat)} (h:DicAt H0 H d k g as) (hf:r.getD k 0=f) (hm:f∉kys (bw g k)) (hq:H q=none) (hq0:H0 q=none) (hp:H p=some (.tup (NV r))) :
  DicAt H0 (upd (upd (upd H q (.lst [])) d (.dK (kvG k g as++[((Fo (f:Int):Key),.ref q)]))) q (.lst ([]++[.ref p]))) d k (g++[r]) (as++[q]):=by
 obtain ⟨h1,h2,h3,h4,h5⟩:=h
 have hqd:q≠d:=(ak h1 hq).symm
 have e:kys (bw (g++[r]) k)=kys (bw g k)++[f]:=by rw [l7,ko,hf,if_neg hm]
 have hqa:∀ a∈as,a≠q:=λ a ha=>by
  obtain ⟨j,hj⟩:=GM ha
  have hjl:j<(kys (bw g k)).length:=by rw [<-h2]; exact bQ hj
  obtain ⟨ps,e1,_⟩:=h5 j a _ hj (Ef hjl)
  exact ak e1 hq
 have tk:∀ b ys,H b=some (.tup ys)->(upd (upd (upd H q (.lst [])) d (.dK (kvG k g as++[((Fo (f:Int):Key),.ref q)]))) q (.lst ([]++[.ref p]))) b=some (.tup ys):=λ b ys e=>by
  have n1:=ak e hq
  have n2:b≠d:=jp e h1 (by intro c; cases c)
  rw [aq n1,aq n2,aq n1]; exact e
 refine ⟨?_,by rw [e,ED,ED,h2]; rfl,?_,λ a ha=>?_,λ j' a' f' e1 e2=>?_⟩
 ·rw [aq hqd.symm,ab]
  congr 2
  unfold kvG
  rw [e,List.zipWith_append (by rw [h2])]
  rfl
 ·exact GD.mpr ⟨h3,by simp,λ x hx y hy z=>hqa x hx (by rw [z]; exact EL.mp hy)⟩
 ·rcases EX.mp ha with ha | ha
  ·exact h4 a ha
  ·rw [EL.mp ha]; exact ⟨hq0,hqd⟩
 ·rw [e] at e2
  rw [l8,hf]
  rcases aL e1 with ⟨l1,e1⟩ | ⟨l1,e1⟩
  ·rcases aL e2 with ⟨_,e2⟩ | ⟨l2,e2⟩
   ·have hne:f≠f':=λ z=>hm (by rw [z]; exact EN e2)
    rw [if_neg hne,Fh]
    have ha:=EN e1
    exact (h5 j' a' f' e1 e2).keep (λ o eo=>by rw [aq (hqa _ ha),aq (h4 _ ha).2,aq (hqa _ ha)]; exact eo) tk
   ·lia
  ·rcases aL e2 with ⟨l2,e2⟩ | ⟨_,e2⟩
   ·lia
   ·rw [e1,e2,if_pos rfl,r9 hm]
    exact ⟨[p],by rw [ab]; rfl,l9 (ps:=[]) (g:=[]) ⟨rfl,λ i p r h=>by simp at h⟩ tk hp⟩
theorem yc:∀ p∈pfx rss (k+1),p∈rss.map (·.take (k+1)):=λ p hp=>by
 rw [pfx] at hp
 obtain ⟨q,_,hp⟩:=IH.mp hp
 obtain ⟨f,hf,rfl⟩:=Es.mp hp
 have h1:=of_decide_eq_true (Fa.mp hf).2
 obtain ⟨r,hr⟩:=HD (show 0<(eF rss (k+1) (q++[f])).length by lia)
 obtain ⟨h2,h3⟩:=Fa.mp hr
 exact Es.mpr ⟨r,h2,of_decide_eq_true h3⟩
theorem sd {w:Nat} (hw:∀ r∈rss,r.length=w) (k:Nat) (hk:k<=w):(sU rss k).length<=rss.length+1/\∀ g∈sU rss k,g.length<=rss.length/\∀ r∈g,r∈rss:=by
 rw [kr hw k hk]
 refine ⟨?_,λ g hg=>?_⟩
 ·rw [Ed]
  cases k with
  | zero=>rw [pfx]; simp
  | succ k=>
   have:=gq (iT (rss:=rss) (k+1)) yc
   rw [Ed] at this
   lia
 ·obtain ⟨p,_,rfl⟩:=Es.mp hg
  exact ⟨Fv ..,λ r hr=>(Fa.mp hr).1⟩
noncomputable def D2:Sp:=λ vs H Q _=>∃ (a:Addr) (rss:List (List Nat)) (w b:Nat),vs=[.ref a]/\Rws H a rss w b/\∀ H',Same H H'->Q (.int (mx rss (ncl rss w))) H'
theorem u6 {rss:List (List Nat)} {G:List (List (List Nat))} (k i:Nat) {g:List (List Nat)} (e:G[i]? = some g):((G.take (i+1)).map (mvG k)).sum=((G.take i).map (mvG k)).sum+mvG k g:=by
 rw [EC,e,EA,Gw]
 show _+[mvG k g].sum=_
 rw [JW]
theorem se {G:List (List (List Nat))} (k i:Nat) {g:List (List Nat)} (e:G[i]? = some g):m6 k (G.take (i+1))=m6 k (G.take i)++(bW k g).filter λ s=>decide (1<s.length):=by
 unfold m6
 rw [EC,e,JE]
 congr 1
 show List.flatMap _ [g]=_
 rw [Ip,List.flatMap_nil,Fh]
theorem sf (k:Nat) (G:List (List (List Nat))) (i:Nat):(m6 k (G.take i)).length<=(m6 k G).length:=by
 have:m6 k G=m6 k (G.take i)++m6 k (G.drop i):=by unfold m6; rw [<-JE,List.take_append_drop]
 rw [this,ED]; lia
theorem sg (rss:List (List Nat)) (k:Nat):mx rss (k+1)=mx rss k+mvL rss k:=by
 unfold mx
 rw [Hz,EA,Gw]
 show _+[mvL rss k].sum=_
 rw [JW]
noncomputable def my (as:List Addr) (P:List (List (List Nat))):List Addr:=((as.zip P).filter λ z=>decide (1<z.2.length)).map (·.1)
theorem sh {H:Hp}:∀ {as:List Addr} {P:List (List (List Nat))},GrpAt H as P->GrpAt H (my as P) (P.filter λ s=>decide (1<s.length))
 | [],P,h=>by
  have:P=[]:=FK.mp h.1.symm
  subst this
  exact ⟨rfl,λ i l g e=>by simp [my] at e⟩
 | a::as,[],h=>by cases h.1
 | a::as,s::P,h=>by
  have ih:=sh (as:=as) (P:=P) ⟨by simpa using h.1,λ i l g e1 e2=>h.2 (i+1) l g e1 e2⟩
  have h0:=h.2 0 a s rfl rfl
  unfold my at *
  rw [FG]
  by_cases hs:1<s.length
  ·rw [Hd (by exact decide_eq_true hs),Hd (by exact decide_eq_true hs),EU]
   exact GrpAt.app (ls:=[a]) (G:=[s]) ⟨rfl,λ i l g e1 e2=>by
    cases i with
    | zero=>cases e1; cases e2; exact h0
    | succ i=>simp at e1⟩ ih
  ·rw [IS (by simpa using hs),IS (by simpa using hs)]
   exact ih
theorem ot {P:List (List (List Nat))}:∀ a∈my as P,a∈as:=λ a h=>by
 obtain ⟨z,hz,rfl⟩:=Es.mp h
 exact (Hw (Fa.mp hz).1).1
theorem si {P:List (List (List Nat))} {s:List (List Nat)} (e1:as[i]? = some a) (e2:P[i]? = some s):my (as.take (i+1)) (P.take (i+1))=my (as.take i) (P.take i)++(if 1<s.length then [a] else []):=by
 unfold my
 have hz:(as.zip P)[i]? = some (a,s):=List.getElem?_zip_eq_some.mpr ⟨e1,e2⟩
 have tz:∀ i,(as.take i).zip (P.take i)=(as.zip P).take i:=λ i=>by unfold List.zip; rw [List.take_zipWith]
 rw [tz,tz,EC,hz,Gb,EA]
 congr 1
 by_cases h:1<s.length
 ·rw [if_pos h]; simp [h]
 ·rw [if_neg h]; simp [h]
theorem ou (as:List Addr) (P:List (List (List Nat))):(my as P).length<=as.length:=by
 unfold my
 rw [Ed]
 have:=Fv (λ z=>decide (1<z.2.length)) (as.zip P)
 rw [List.length_zip] at this
 lia
theorem GrpAt.keep {H H':Hp} {ls:List Addr} {G:List (List (List Nat))} (h:GrpAt H ls G) (hl:∀ l∈ls,∀ o,H l=some o->H' l=some o) (ht:∀ b ys,H b=some (.tup ys)->H' b=some (.tup ys)):GrpAt H' ls G:=⟨h.1,λ i l g e1 e2=>(h.2 i l g e1 e2).keep (hl l (EN e1)) ht⟩
theorem yd {g:List (List Nat)} {z:Key×V} (hl:as.length=(kys (bw g k)).length) (h:(kvG k g as)[m]? = some z):∃ (f:Nat) (a:Addr),(kys (bw g k))[m]? = some f/\as[m]? = some a/\z.2=.ref a:=by
 unfold kvG at h
 obtain ⟨f,a,e1,e2,e3⟩:=List.getElem?_zipWith_eq_some.mp h
 exact ⟨f,a,e1,e2,by rw [<-e3]⟩
theorem jx (T:Tx K mg t):FnOk P t.wd K mg base CX0 1 t.dO t.dL ["_law_rows"] D2:=by
 refine T.gy.okQ sc_first_moves (λ vs H Q E h=>?_) (λ cdv A outer s H vs Q E hr h=>?_)
 ·obtain ⟨a,rss,w,b,rfl,_⟩:=h
  rfl
 ·obtain ⟨a,rss,w,b,rfl,⟨⟨ps,ta,hR⟩,hG,hn,hw,hb⟩,kk⟩:=h
  have hpl:ps.length=rss.length:=hR.1
  have hnw:=vM rss w
  have hwl:∀ r∈rss,r.length=w:=λ r hr=>(hG r hr).1
  refine ⟨_,(ac (av (i:=1) sc_first_moves.nd rfl (En rfl) (aO (ah (qv 0) aa)))
   (ac (av (i:=2) sc_first_moves.nd rfl (En rfl) ae)
   (ac (bP ET rfl (bD rfl T.bx (ah (af (bv (K:=K)) (by rfl) T.bH aX (ah (ba (bE (K:=K)) (ay wS (qv 0) (aO (ah (bt aa) aa))) ae) aa)) aa)) (ap (i:=3) sc_first_moves.nd rfl (En rfl)) (ac (av (i:=4) sc_first_moves.nd rfl (En rfl) (aO aa))
   (ac (bP ET rfl (bq (K:=K) (qv 1)) (ap (i:=5) sc_first_moves.nd rfl (En rfl)) (ac (av (i:=6) sc_first_moves.nd rfl (En rfl) xp)
   (ac (bP ET rfl (bq (K:=K) (qv 5)) (ap (i:=7) sc_first_moves.nd rfl (En rfl)) (ai (bM (bC (K:=K) (xC (qv 6) (ba (lj (K:=K)) (qv 7) (qv 3)) (aO aa)) (ah (qv 7) aa)))))
   (ac (av (i:=2) sc_first_moves.nd rfl (En rfl) (ay cS (qv 2) (ay fF (af (bv (K:=K)) (by rfl) T.bH aX (ah (qv 5) aa)) (aM ll (by rfl) T.gC eR (ah (aH mN (af re (by rfl) T.bH aX (ah (qv 6) aa)) ae (au _)) aa)))))
   (ai (bM (lu (K:=K) (qv 4) (ah (j5 (N:=["_law_some"]) (tgs:=["_law_some"]) (frs:=[]) (ix:=[]) ⟨rfl,by decide +kernel,rfl,by decide +kernel,rfl,rfl,Et,Et,rfl⟩ rfl (xD (qv 6)) (λ _ _ _ _=>(ap (i:=0) (by show EZ (["_law_some"]:List Str); decide +kernel) rfl (En rfl))) (λ _ _ _ _=>(qv 0)) (λ _ _ _ _=>(az mN (af (bv (K:=K)) (by rfl) T.bH aX (ah (qv 0) aa)) ae (au _)))) aa))))))))
   (ai (av (i:=1) sc_first_moves.nd rfl (En rfl) (qv 4))))))
   (ai (ao (qv 2)))))),?_⟩
  rw [show L2.aK ["_law_rows","_law_groups","_law_moves","_law_k","_law_further","_law_group","_law_found","_law_row"] [MP a]=[some (MP a),none,none,none,none,none,none,none] from rfl]
  nofun
  refine ⟨aF (by simp),λ g0 hg0=>?_⟩
  have s0:=(MN H).new (o:=.lst [MP a]) hg0
  have tg0:(upd H g0 (.lst [MP a])) g0=some (.lst [MP a]):=ab
  generalize upd H g0 (.lst [MP a])=H0 at s0 tg0
  nofun
  refine ⟨aF (by simp),λ e0 he0=>?_⟩
  have s1:=s0.new (o:=.tup []) he0
  have s01:=(MN H0).new (o:=.tup []) he0
  have te:(upd H0 e0 (.tup [])) e0=some (.tup []):=ab
  generalize upd H0 e0 (.tup [])=H1 at s1 s01 te
  nofun
  refine ⟨aF (by simp),λ z0 hz0=>?_⟩
  have s2:=s1.new (o:=.lst [MP e0]) hz0
  have s12:=(MN H1).new (o:=.lst [MP e0]) hz0
  have tz0:(upd H1 z0 (.lst [MP e0])) z0=some (.lst [MP e0]):=ab
  generalize upd H1 z0 (.lst [MP e0])=H2 at s2 s12 tz0
  nofun
  refine ⟨a,z0,_,_,rfl,rfl,s2 _ _ ta,tz0,E5 (al (by rw [Ed]; simp; lia)),λ cl hcl=>?_⟩
  have s3:=s2.new (o:=.lst (ps.map MP++[MP e0])) hcl
  have s23:=(MN H2).new (o:=.lst (ps.map MP++[MP e0])) hcl
  have tcl:(upd H2 cl (.lst (ps.map MP++[MP e0]))) cl=some (.lst (ps.map MP++[MP e0])):=ab
  generalize upd H2 cl (.lst (ps.map MP++[MP e0]))=H3 at s3 s23 tcl
  have s03:=s01.trans (s12.trans s23)
  obtain ⟨q,zs,hq1,hq2,hq3⟩:=oo (s23 _ _ (s12 _ _ te)) (hR.same s3) hG
  nofun
  refine cb (MJ tcl) (v:=MP q) hq1 ?_
  nofun
  refine iH (MK hq2) ?_
  rw [hq3]
  nofun
  refine ⟨_,rfl,by lia,by lia,dq (n:=ncl rss w) (λ k σ H'=>Same H H'/\∃ (gl:Addr) (ls:List Addr) (v3 v4 v5 v6 v7:Option V),H' gl=some (.lst (ls.map MP))/\GrpAt H' ls (sU rss k)/\σ=[some (MP a),some (MP gl),some (ML (mx rss k)),v3,v4,v5,v6,v7]) ⟨s3,g0,[a],_,_,_,_,_,s03 _ _ tg0,⟨rfl,λ i l g e1 e2=>?_⟩,rfl⟩ ?_ ?_⟩
  ·cases i with
   | zero=>cases e1; cases e2; exact ⟨ps,s3 _ _ ta,hR.same s3⟩
   | succ i=>simp at e1
  ·rintro k σ H4 hk ⟨s4,gl,ls,v3,v4,v5,v6,v7,tgl,hGr,rfl⟩
   have hkw:k<w:=by lia
   obtain ⟨hgl1,hgl2⟩:=sd hwl k (by lia)
   have hgl3:=(sd hwl (k+1) (by lia)).1
   have hgs:sU rss (k+1)=m6 k (sU rss k):=rfl
   rw [hgs] at hgl3
   have hls:=hGr.1
   have hfir:=sg rss k
   unfold mvL at hfir
   generalize sU rss k=G at hGr hgl1 hgl2 hgl3 hls hgs hfir
   rw [G1]
   nofun
   refine ⟨aF (by simp),λ fu hfu=>?_⟩
   have s5:=(MN H4).new (o:=.lst []) hfu
   have tfu:(upd H4 fu (.lst [])) fu=some (.lst []):=ab
   generalize upd H4 fu (.lst [])=H5 at s5 tfu
   have hgf:gl≠fu:=ak tgl hfu
   nofun
   refine ⟨gl,rfl,⟨_,MJ (s5 _ _ tgl)⟩,dz (a:=gl) (xs:=ls.map MP) (λ i σ H'=>Same H4 H'/\∃ (fs:List Addr) (v5 v6 v7:Option V),H' fu=some (.lst (fs.map MP))/\GrpAt H' fs (m6 k (G.take i))/\(∀ f∈fs,f≠fu)/\σ=[some (MP a),some (MP gl),some (ML (mx rss k+((G.take i).map (mvG k)).sum)),some (ML (k:Nat)),some (MP fu),v5,v6,v7]) ⟨s5,[],_,_,_,tfu,⟨rfl,λ i l g e=>by simp at e⟩,(λ f h=>nomatch h),by rw [G9,GW,LZ,JV]⟩ (λ i σ H' _ h=>MJ (h.1 _ _ tgl)) ?_ ?_⟩
   ·rintro i x σ H6 hx ⟨s6,fs,v5,v6,v7,tfs,hFs,hff,rfl⟩
    obtain ⟨l,rfl,hl,_,hil⟩:=aT hx
    have hiG:i<G.length:=by lia
    have eg:G[i]? = some G[i]:=Ef hiG
    obtain ⟨qs,tl,hQ⟩:=(hGr.2 i l _ hl eg).same s6
    obtain ⟨hg1,hg2⟩:=hgl2 G[i] (EQ hiG)
    have emv:=u6 (rss:=rss) k i eg
    have egr:=se k i eg
    have hgle:=sf k G i
    have hgle1:=sf k G (i+1)
    generalize G[i]=g at eg hQ hg1 hg2 emv egr
    have hql:qs.length=g.length:=hQ.1
    nofun
    refine λ d hd=>?_
    have s7:=(MN H6).new (o:=.dK []) hd
    have hD0:DicAt H6 (upd H6 d (.dK [])) d k [] []:=⟨ab,rfl,GG,(λ a h=>nomatch h),λ j a f e=>by simp at e⟩
    generalize upd H6 d (.dK [])=H7 at s7 hD0
    nofun
    refine ⟨l,rfl,⟨_,MJ (s7 _ _ tl)⟩,dz (a:=l) (xs:=qs.map MP) (λ j σ H'=>Same H6 H'/\∃ (as:List Addr) (v7:Option V),DicAt H6 H' d k (g.take j) as/\σ=[some (MP a),some (MP gl),some (ML (mx rss k+((G.take i).map (mvG k)).sum)),some (ML (k:Nat)),some (MP fu),some (MP l),some (MP d),v7]) ⟨s7,[],_,by rw [G9]; exact hD0,rfl⟩ (λ j σ H' _ h=>MJ (h.1 _ _ tl)) ?_ ?_⟩
    ·rintro j x σ H8 hx ⟨s8,as,v7,hD,rfl⟩
     obtain ⟨p,rfl,hp,_,hjl⟩:=aT hx
     have hjg:j<g.length:=by lia
     have er:g[j]? = some g[j]:=Ef hjg
     have tp:=s8 _ _ (hQ.2 j p _ hp er)
     have hrl:g[j].length=w:=hwl _ (hg2 _ (EQ hjg))
     have et:g.take (j+1)=g.take j++[g[j]]:=by rw [EC,er]; rfl
     generalize g[j]=r at er tp hrl et
     have efr:r[k]? = some (r.getD k 0):=by rw [Ej,Ef (by lia)]; rfl
     have hkl:(kvG k (g.take j) as).length<=61:=by
      unfold kvG
      rw [JF]
      have h1:=vN (bw (g.take j) k)
      rw [oq,EV] at h1
      lia
     nofun
     refine ⟨d,rfl,.inl ⟨_,.inl hD.1⟩,?_⟩
     nofun
     refine qg (MK tp) (wZ rfl efr) ?_
     nofun
     refine ⟨aF (by simp),λ q hq=>?_⟩
     have hqd:q≠d:=(ak hD.1 hq).symm
     generalize hf:r.getD k 0=f at efr
     obtain ⟨i1,i2⟩:=rZ (f:=f) (fs:=kys (bw (g.take j) k)) (as:=as) hD.2.1
     refine ⟨kvG k (g.take j) as,Fo (f:Int),by rw [aq hqd.symm]; exact hD.1,rfl,al (by lia),λ v hv=>?_,λ hv=>?_⟩
     ·have hm:f∈kys (bw (g.take j) k):=GT λ z=>by rw [show gZ (kvG k (g.take j) as) (Fo (f:Int))=none from i1 z] at hv; cases hv
      obtain ⟨m,a',e1,e2,e3⟩:=i2 hm
      have ev:v=.ref a':=EO (hv.symm.trans e3)
      subst ev
      obtain ⟨us,ta',hU⟩:=hD.2.2.2.2 m a' f e1 e2
      have ha':=hD.2.2.2.1 a' (EN e1)
      have hqa:a'≠q:=ak ta' hq
      have sq:=(MN H8).new (o:=.lst []) hq
      have hD':DicAt H6 (upd H8 q (.lst [])) d k (g.take j) as:=⟨sq _ _ hD.1,hD.2.1,hD.2.2.1,hD.2.2.2.1,λ j a f e1 e2=>(hD.2.2.2.2 j a f e1 e2).same sq⟩
      have hul:us.length<=61:=by
       rw [hU.1]
       have h1:(mw k f (g.take j)).length<=(g.take j).length:=Fv ..
       rw [EV] at h1
       lia
      refine ⟨bm (sq _ _ ta'),?_⟩
      nofun
      refine aP (sq _ _ ta') (by rw [Ed]; exact al (by lia)) ?_
      refine ⟨(s8.trans sq).own ha'.1,as,_,?_,rfl⟩
      rw [et]
      exact hD'.old hf hm e1 e2 (sq _ _ tp) (sq _ _ ta') (hU.same sq)
     ·have hm:f∉kys (bw (g.take j) k):=λ z=>by
       obtain ⟨m,a',_,_,e3⟩:=i2 z
       rw [show gZ (kvG k (g.take j) as) (Fo (f:Int))=some (.ref a') from e3] at hv; cases hv
      have hq6:H6 q=none:=s8.free hq
      have hd6:H6 d=none:=hd
      have tq:(upd (upd H8 q (.lst [])) d (.dK (kvG k (g.take j) as++[((Fo (f:Int):Key),MP q)]))) q=some (.lst []):=by rw [aq hqd]; exact ab
      refine ⟨bm tq,?_⟩
      nofun
      refine aP tq (by exact al (by decide)) ?_
      refine ⟨(((s8.new hq).own hd6)).own hq6,as++[q],_,?_,rfl⟩
      rw [et]
      exact hD.new hf hm hq hq6 tp
    ·rintro σ H8 ⟨s8,as,v7,hD,rfl⟩
     rw [Ed,Em (by lia)] at hD
     obtain ⟨h1,h2,h3,h4,h5⟩:=hD
     have hkl:(kys (bw g k)).length<=61:=by
      have h1:=vN (bw g k)
      rw [oq] at h1
      lia
     nofun
     refine bj (MJ (s8 _ _ tl)) ?_
     nofun
     refine ⟨d,_,rfl,h1,?_⟩
     nofun
     have ekl:(kvG k g as).length=(kys (bw g k)).length:=by unfold kvG; rw [JF]; lia
     rw [ekl,Ed,hql]
     have hmv:(g.length:Int)*(if decide ((1:Int)<((kys (bw g k)).length:Nat))=true then 1 else 0)=mvG k g:=by
      unfold mvG
      by_cases h:1<(kys (bw g k)).length
      ·rw [if_pos (by rw [decide_eq_true_iff]; lia),if_pos h,L1]
      ·rw [if_neg (by rw [decide_eq_true_iff]; lia),if_neg h,Int.mul_zero]
     rw [hmv]
     have tfs8:=s8 _ _ tfs
     have hd6:H6 d=none:=hd
     have hfd:fu≠d:=ak tfs hd6
     refine ⟨bm tfs8,?_⟩
     nofun
     refine ⟨d,_,rfl,h1,λ ob=>?_⟩
     have hpm:∀ m f,(kys (bw g k))[m]? = some f->(bW k g)[m]? = some (mw k f g):=λ m f e=>by unfold bW; rw [El,e]; rfl
     have hpl2:(bW k g).length=as.length:=by unfold bW; rw [Ed,h2]
     refine iO (n:=as.length) (λ m ys σ H'=>H'=upd H8 d (.frz ob (.dK (kvG k g as)))/\ys=(my (as.take m) ((bW k g).take m)).map MP/\∃ v,σ=[v]) (al (by lia)) (λ m ys σ H' h=>by rw [h.2.1,Ed]; exact Fb (ou _ _) (by rw [EV]; lia)) ⟨rfl,rfl,none,rfl⟩ (λ m ys σ H' hm h=>⟨by rw [ekl,<-h2]; exact hm,by rw [h.1]; exact ab⟩) (λ ys σ H' h=>⟨by rw [ekl,<-h2],by rw [h.1]; exact ab⟩) ?_ ?_
     ·rintro m x ys σ H9o H9 hm ⟨rfl,rfl,v,rfl⟩ ⟨rfl,ky,hky⟩
      obtain ⟨f,a',e1,e2,e3⟩:=yd h2 hky
      have e3:x=.ref a':=e3
      subst e3
      obtain ⟨us,tus,hU⟩:=h5 m a' f e2 e1
      have had:=(h4 a' (EN e2)).2
      have est:=si e2 (hpm m f e1)
      nofun
      refine bj (MJ (by rw [aq had]; exact tus)) ?_
      rw [Ed,hU.1]
      nofun
      by_cases h:1<(mw k f g).length
      ·refine dU (by lia) ?_
       rw [if_pos h] at est
       nofun
       refine MO hm ⟨rfl,?_,_,rfl⟩
       rw [est,EA]; rfl
      ·refine bV (by lia) ?_
       rw [if_neg h,Fh] at est
       refine MO hm ⟨rfl,?_,_,rfl⟩
       rw [est]
     rintro ys σ H9 ⟨rfl,rfl,v,rfl⟩ z hz
     rw [Em (Eh as.length),Em (Fc hpl2)]
     have hz8:H8 z=none/\z≠d:=by
      by_cases hzd:z=d
      ·rw [hzd,ab] at hz; cases hz
      ·rw [aq hzd] at hz; exact ⟨hz,hzd⟩
     have hfz:fu≠z:=ak tfs8 hz8.1
     have tfu10:(upd (upd H8 d (.frz ob (.dK (kvG k g as)))) z (.lst ((my as (bW k g)).map MP))) fu=some (.lst (fs.map MP)):=by rw [aq hfz,aq hfd]; exact tfs8
     have hsl:=ou as (bW k g)
     have hFl:=hFs.1
     nofun
     refine lC tfu10 ab (by rw [Ed,Ed]; exact E5 (al (by lia))) ?_
     have tk:∀ b ys,H8 b=some (.tup ys)->upd (upd (upd H8 d (.frz ob (.dK (kvG k g as)))) z (.lst ((my as (bW k g)).map MP))) fu (.lst (fs.map MP++(my as (bW k g)).map MP)) b=some (.tup ys):=λ b ys e=>by
      rw [aq (jp e tfs8 (by intro c; cases c)),aq (ak e hz8.1),aq (jp e h1 (by intro c; cases c))]; exact e
     have lk:∀ l o,l≠fu->l≠d->H8 l=some o->upd (upd (upd H8 d (.frz ob (.dK (kvG k g as)))) z (.lst ((my as (bW k g)).map MP))) fu (.lst (fs.map MP++(my as (bW k g)).map MP)) l=some o:=λ l o n1 n2 e=>by
      rw [aq n1,aq (ak e hz8.1),aq n2]; exact e
     have hA:GrpAt H8 as (bW k g):=⟨hpl2.symm,λ j a' s e1 e2=>by
      have hj:j<(kys (bw g k)).length:=by rw [<-h2]; exact bQ e1
      have ef:=Ef hj
      rw [hpm j _ ef] at e2
      cases e2
      exact h5 j a' _ e1 ef⟩
     refine ⟨(((s6.trans s8).own (s6.free hd6)).new hz).own hfu,fs++my as (bW k g),some (MP l),some (MP d),v7,by rw [ab,EA],?_,λ f hf=>?_,?_⟩
     ·rw [egr]
      refine GrpAt.app ((hFs.same s8).keep (λ l hl o e=>lk l o (hff l hl) (λ z=>?_) e) tk) ((sh hA).keep (λ l hl o e=>?_) tk)
      ·obtain ⟨jj,hj⟩:=GM hl
       have hjl:jj<(m6 k (G.take i)).length:=by rw [<-hFl]; exact bQ hj
       obtain ⟨us,tus,_⟩:=hFs.2 jj l _ hj (Ef hjl)
       rw [z,hd6] at tus; cases tus
      ·have hm:=h4 l (ot l hl)
       exact lk l o (λ z=>by rw [z,tfs] at hm; cases hm.1) hm.2 e
     ·rcases EX.mp hf with hf | hf
      ·exact hff f hf
      ·have hm:=h4 f (ot f hf)
       exact λ z=>by rw [z,tfs] at hm; cases hm.1
     ·rw [emv,Jz]
   ·rintro σ H6 ⟨s6,fs,v5,v6,v7,tfs,hFs,hff,rfl⟩
    rw [Ed,Em (by lia)] at hFs
    nofun
    refine ⟨s4.trans s6,fu,fs,some (ML (k:Nat)),some (MP fu),v5,v6,v7,tfs,by rw [hgs]; exact hFs,?_⟩
    rw [Ed,Em (by lia),hfir]
  ·rintro σ H4 ⟨s4,gl,ls,v3,v4,v5,v6,v7,tgl,hGr,rfl⟩
   nofun
   exact kk H4 s4
noncomputable def md (ls:List Nat):List (List Nat):=(Eu ((ls.length+1) / 2)).map λ i=>(ls.drop (2*i)).take 2
theorem ow (a b:Nat) (r:List Nat):md (a::b::r)=[a,b]::md r:=by
 unfold md
 rw [show ((a::b::r).length+1) / 2=(r.length+1) / 2+1 by simp only [EM]; lia,List.range_succ_eq_map,EU,E6]
 congr 1
theorem ox (a:Nat):md [a]=[[a]]:=by simp [md,Hz]
theorem u7 (ls:List Nat):(md ls).length=(ls.length+1) / 2:=by unfold md; rw [Ed,FC]
theorem sj (ls:List Nat) (i:Nat) (h:i<(ls.length+1) / 2):(md ls).take (i+1)=(md ls).take i++[(ls.drop (2*i)).take 2]:=by
 rw [EC]
 congr 1
 unfold md
 rw [El,FE h]; rfl
theorem u8 (f:Nat) (ls:List Nat):(md ls).map KB=(rnd f ls).2:=by
 induction f,ls using rnd.induct with
 | case1 f a b r ih=>rw [ka,ow,EU,ih]; simp
 | case2 f a=>rw [kb,ox]; simp
 | case3 f=>rw [gJ]; rfl
noncomputable def kH (ps:List (List Nat)):List Nat:=(ps.filter λ p=>decide (p.length=2)).map KB
theorem ye (f:Nat) (ls:List Nat):dY (rnd f ls).1=((kH (md ls)).sum:Nat):=by
 induction f,ls using rnd.induct with
 | case1 f a b r ih=>
  rw [ka,ow]
  unfold dY kH at *
  rw [EU,FH,ih,Hd (by rfl),EU,FH]
  simp only [FH,LZ]
  lia
 | case2 f a=>rw [kb,ox]; simp [dY,kH]
 | case3 f=>rw [gJ]; rfl
theorem nc (h:1<ls.length):dY (gX ls)=((kH (md ls)).sum:Nat)+dY (gX (rnd 0 ls).2):=by
 rw [lE h,<-ye 0]
 unfold dY
 rw [EA,Gw]
theorem pz (h:¬ 1<ls.length):dY (gX ls)=0:=by rw [nX h]; rfl
theorem sk (ps:List (List Nat)) (p:List Nat):kH (ps++[p])=kH ps++(if p.length=2 then [p.sum] else []):=by
 unfold kH
 rw [Gb,EA]
 congr 1
 split<;>simp_all
theorem u9 (ps:List (List Nat)):(kH ps).length<=ps.length:=by unfold kH; rw [Ed]; exact Fv ..
theorem yf (ls:List Nat):∀ p∈md ls,p.length<=2:=λ p hp=>by
 obtain ⟨i,_,rfl⟩:=Es.mp hp
 rw [EV]; lia
noncomputable def D3:Sp:=λ vs H Q _=>∃ (a:Addr) (rss:List (List Nat)) (w b:Nat),vs=[.ref a]/\Rws H a rss w b/\∀ H',Same H H'->Q (.int (fP rss)) H'
theorem me (T:Tx K mg t):FnOk P t.wd K mg base CX0 1 t.fV t.fS ["_law_rows"] D3:=by
 refine T.i5.okQ sc_run_moves (λ vs H Q E h=>?_) (λ cdv A outer s H vs Q E hr h=>?_)
 ·obtain ⟨a,rss,w,b,rfl,_⟩:=h
  rfl
 ·obtain ⟨a,rss,w,b,rfl,⟨⟨ps,ta,hR⟩,hG,hn,hw,hb⟩,k⟩:=h
  have hpl:ps.length=rss.length:=hR.1
  refine ⟨_,(ac (av (i:=1) sc_run_moves.nd rfl (Gh rfl) (aO aa))
   (ac (bP ET rfl (lr (K:=K) rfl T.cR (ah (qv 0) aa)) (cV (K:=K) (n:=2) rfl (aC (ap (i:=2) sc_run_moves.nd rfl (En rfl)) (aC (ap (i:=3) sc_run_moves.nd rfl (En rfl)) bL))) (ai (aR (QW.qt (nJ (az mN (qv 2) ae (au _)) (j0 (az (zK (K:=K) hr.units0) (ba (bE (K:=K)) (qv 0) (ay eK (qv 2) ae)) (qv 3) (au _))))) (ai (qk (ay cS (ba (bE (K:=K)) (qv 1) (la li ae)) ae) (qv 1) (la li ae))) (ai (bM (bC (K:=K) (qv 1) (ah ae aa)))))))
   (ac (av (i:=4) sc_run_moves.nd rfl (En rfl) ae)
   (ac (gf ET (az mN (af (bv (K:=K)) (by rfl) T.bH aX (ah (qv 1) aa)) ae (au _)) (ac (qp (i:=5) (N:=["_law_k","_law_lengths"]) (tgs:=["_law_k"]) (frs:=["_law_lengths"]) (ix:=[1])  sc_run_moves.nd rfl (En rfl) ⟨rfl,by decide +kernel,rfl,by decide +kernel,rfl,rfl,⟨⟨rfl,rfl,_,rfl,rfl⟩,Et⟩,⟨rfl,Et⟩,rfl⟩ rfl (lD rfl T.bx (ah ae (ah (af (bv (K:=K)) (by rfl) T.bH aX (ah (qv 1) aa)) (ah ae aa)))) (λ _ _ _ _=>(ap (i:=0) (by show EZ (["_law_k","_law_lengths"]:List Str); decide +kernel) rfl (En rfl))) (λ _ _ _ _=>(ip (zq (K:=K)) (qv 1) (gF (qv 0)) (gF (ay cS (qv 0) ae)))))
   (ac (av (i:=4) sc_run_moves.nd rfl (En rfl) (ay cS (qv 4) (af (iJ (K:=K) rfl) (by rfl) T.jA iX (ah (j5 (N:=["_law_pair"]) (tgs:=["_law_pair"]) (frs:=[]) (ix:=[]) ⟨rfl,by decide +kernel,rfl,by decide +kernel,rfl,rfl,Et,Et,rfl⟩ rfl (bq (K:=K) (qv 5)) (λ _ _ _ _=>(ap (i:=0) (by show EZ (["_law_pair"]:List Str); decide +kernel) rfl (En rfl))) (λ _ _ _ _=>(af (iJ (K:=K) rfl) (by rfl) T.jA iX (ah (qv 0) aa))) (λ _ _ _ _=>(az gD (af (bv (K:=K)) (by rfl) T.bH aX (ah (qv 0) aa)) ae (au _)))) aa))))
   (ai (av (i:=1) sc_run_moves.nd rfl (Gh rfl) (bu (N:=["_law_pair"]) (tgs:=["_law_pair"]) (frs:=[]) (ix:=[]) ⟨rfl,by decide +kernel,rfl,by decide +kernel,rfl,rfl,Et,Et,rfl⟩ rfl (bq (K:=K) (qv 5)) (λ _ _ _ _=>(ap (i:=0) (by show EZ (["_law_pair"]:List Str); decide +kernel) rfl (En rfl))) (λ _ _ _ _=>(af (iJ (K:=K) rfl) (by rfl) T.jA iX (ah (qv 0) aa)))))))))
   (ai (ao (qv 4))))))),?_⟩
  rw [show L2.aK ["_law_rows","_law_lengths","_law_k","_law_row","_law_moves","_law_pairs"] [MP a]=[some (MP a),none,none,none,none,none] from rfl]
  nofun
  refine ⟨aF (by simp),λ l hl=>?_⟩
  have s1:=(MN H).new (o:=.lst []) hl
  have tl:(upd H l (.lst [])) l=some (.lst (NV (bI rss 0))):=ab
  generalize upd H l (.lst [])=H1 at s1 tl
  nofun
  refine ⟨a,rfl,⟨_,MJ (s1 _ _ ta)⟩,mO (n:=rss.length) (λ i σ H'=>Same H H'/\H' l=some (.lst (NV (bI rss i)))/\∃ v w,σ=[some (MP a),some (MP l),v,w,none,none]) ⟨s1,tl,none,none,rfl⟩ ?_ ?_ ?_ ?_⟩
  ·rintro i σ H2 hi ⟨s2,_⟩
   have hip:i<ps.length:=by lia
   exact ⟨_,_,MJ (s2 _ _ ta),by rw [El,Ef hip]; rfl⟩
  ·rintro σ H2 ⟨s2,_⟩
   exact ⟨_,MJ (s2 _ _ ta),by rw [Ed]; exact hpl⟩
  ·rintro i x σ H2 H3 hi ⟨s2,t2,v,w,rfl⟩ ⟨q,x1,rfl,hq,rfl,hx1⟩
   have hx2:=hx1 _ (MJ (s2 _ _ ta))
   obtain ⟨p,rfl,hp,hpm,hip⟩:=aT hx2
   refine bU ab ?_
   dsimp only [Gs]
   have s3:=s2.new (o:=.tup [ML (i:Nat),MP p]) hq
   have t3:(upd H2 q (.tup [ML (i:Nat),MP p])) l=some (.lst (NV (bI rss i))):=by rw [aq (ak t2 hq)]; exact t2
   generalize upd H2 q (.tup [ML (i:Nat),MP p])=H3 at s3 t3
   have hlr:=gk rss i
   nofun
   refine aW (λ g=>?_) (λ g=>?_)
   ·have hi0:0<i:=by lia
    have e1:(i:Int) - 1=((i - 1:Nat):Int):=by lia
    have hip1:i - 1<ps.length:=by lia
    have ei:rss[i]? = some rss[i]:=by simp [hi]
    have ei1:rss[i - 1]? = some (rss[i - 1]'(by lia)):=Ef _
    have tp:=s3 _ _ (hR.2 i p rss[i] hp ei)
    have tp1:=s3 _ _ (hR.2 (i - 1) ps[i - 1] _ (by simp [hip1]) ei1)
    nofun
    rw [e1]
    refine cb (MJ (s3 _ _ ta)) (v:=MP ps[i - 1]) (bJ (by rw [El,Ef hip1]; rfl)) ?_
    nofun
    refine vC (ns:=aY _) (ms:=aY _) (MK (by rw [<-fk]; exact tp1)) (MK (by rw [<-fk]; exact tp)) ?_
    have ev:HT.eD (aY (rss[i - 1]'(by lia))) (aY rss[i])=!brk rss i:=by
     rw [HT.lB]
     unfold brk lxt
     rw [iB ei,iB ei1]
    rw [ev]
    nofun
    cases hb:brk rss i with
    | false=>
     nofun
     obtain ⟨i',rfl⟩:∃ i',i=i'+1:=⟨i - 1,by lia⟩
     obtain ⟨ys,z,ez⟩:=qL (lG rss i')
     have er:bI rss (i'+1+1)=ys++[z+1]:=by rw [bI,if_pos ⟨hi0,hb⟩,ez,lF]
     rw [ez] at t3
     refine cb (MJ t3) (v:=ML (z:Nat)) (w5 (by rw [<-bS,ED,FR,HR,EY (Eh _),Nat.sub_self]; rfl)) ?_
     nofun
     refine qh t3 (j:=ys.length) (by rw [aQ,ED,FR]; unfold ixN; rw [if_neg (by decide),if_pos (by lia)]; congr 1; lia) ?_
     refine ⟨s3.own hl,?_,_,_,rfl⟩
     rw [ab,er]
     show some (HO.lst ((NV (ys++[z])).set ys.length (ML ((z+1:Nat):Int))))=_
     rw [qA]
     simp
    | true=>
     refine bK ?_
     nofun
     refine ⟨bm t3,?_⟩
     nofun
     refine aP t3 (by rw [aQ]; exact al (by lia)) ?_
     refine ⟨s3.own hl,?_,_,_,rfl⟩
     rw [ab,bI,if_neg (λ z=>by rw [hb] at z; exact Bool.noConfusion z.2)]
     exact congrArg (λ z=>some (HO.lst z)) (bS (bI rss i) 1)
   ·have hi0:i=0:=by lia
    subst hi0
    nofun
    refine ⟨bm t3,?_⟩
    nofun
    refine aP t3 (by rw [aQ]; exact al (by lia)) ?_
    refine ⟨s3.own hl,?_,_,_,rfl⟩
    rw [ab]
    have e1:bI rss (0+1)=[1]:=by show (if 0<0/\brk rss 0=false then xi (bI rss 0) else bI rss 0++[1])=[1]; rw [if_neg (by lia)]; rfl
    rw [e1]; rfl
  ·rintro σ H2 ⟨s2,t2,v,w,rfl⟩
   have hrl:=gk rss rss.length
   have hk:∀ H',Same H H'->Q (.int (dY (gX (bI rss rss.length)))) H':=k
   generalize bI rss rss.length=ls at t2 hrl hk
   nofun
   refine ⟨λ m σ H'=>∃ (xs:List Nat) (lg:Addr) (mv:Int) (v5:Option V),m=xs.length/\Same H H'/\H' lg=some (.lst (NV xs))/\mv+dY (gX xs)=dY (gX ls)/\xs.length<=61/\σ=[some (MP a),some (MP lg),v,w,some (ML mv),v5],⟨_,ls,l,0,_,rfl,s2,t2,G1 _,by lia,rfl⟩,?_⟩
   rintro m σ H3 ⟨xs,lg,mv,v5,rfl,s3,t3,hmv,hxl,rfl⟩
   nofun
   refine bj (MJ t3) ?_
   rw [aQ]
   nofun
   refine aW (λ g=>?_) (λ g=>?_)
   ·refine ⟨_,λ _ _ z=>z,?_⟩
    have hg:1<xs.length:=by lia
    obtain ⟨r1,r2⟩:=kc 0 xs
    rw [nc hg] at hmv
    have hp2:=u7 xs
    have hple:=yf xs
    nofun
    refine bj (MJ t3) ?_
    rw [aQ]
    nofun
    refine ⟨xs.length,rfl,by lia,ir (n:=(xs.length+1) / 2) (λ i ys σ H'=>Same H3 H'/\(∃ qs:List Addr,ys=qs.map MP/\qs.length=i/\LsAt H' qs ((md xs).take i))/\∃ u,σ=[u,some (MP lg)]) (al (by lia)) (λ i ys σ H' h=>by obtain ⟨_,⟨qs,rfl,e,_⟩,_⟩:=h; rw [Ed,e]) ⟨MN _,⟨[],rfl,rfl,LsAt.nil⟩,none,rfl⟩ (λ i ys σ H' hi _=>hi) (λ ys σ H' _=>Eh _) ?_ ?_⟩
    ·rintro i x ys σ H4o H4 hi ⟨s4,⟨qs,rfl,hql,hQ⟩,u,rfl⟩ ⟨rfl,rfl⟩
     have h2i:2*i<xs.length:=by lia
     have ek:((2*i:Nat):Int)+2=((2*i+2:Nat):Int):=by lia
     nofun
     refine ⟨_,rfl,?_⟩
     nofun
     rw [ek]
     refine ⟨_,rfl,?_⟩
     refine rJ (s4 _ _ t3) λ z H5 s5 tz=>?_
     rw [qM xs h2i] at tz
     refine MO hi ⟨s4.trans s5,⟨qs++[z],by rw [EA]; rfl,by simp [hql],?_⟩,_,rfl⟩
     rw [sj xs i hi]
     exact (hQ.same s5).snoc tz
    rintro ys σ H4 ⟨s4,⟨qs,rfl,hql,hQ⟩,u,rfl⟩ pr hpr
    rw [Em (by lia)] at hQ
    have s5:=s4.new (o:=.lst (qs.map MP)) hpr
    have s45:=(MN H4).new (o:=.lst (qs.map MP)) hpr
    have tpr:(upd H4 pr (.lst (qs.map MP))) pr=some (.lst (qs.map MP)):=ab
    have hQ:=hQ.same s45
    generalize upd H4 pr (.lst (qs.map MP))=H5 at s5 tpr hQ
    have hxr:(rnd 0 xs).2=(md xs).map KB:=(u8 0 xs).symm
    generalize md xs=P2 at hQ hmv hp2 hple hxr
    nofun
    refine ⟨pr,rfl,⟨_,MJ tpr⟩,lw (a:=pr) (vs:=qs.map MP) (λ i ys σ H'=>H'=H5/\ys=NV (kH (P2.take i))/\∃ u,σ=[u]) (by rw [Ed]; exact al (by lia)) (λ i ys σ H' h=>by rw [h.2.1,aQ]; exact Fb (u9 _) (by rw [EV]; lia)) (λ i ys σ H' h=>by rw [h.1]; exact MJ tpr) ⟨rfl,rfl,none,rfl⟩ ?_ ?_⟩
    ·rintro i ys σ H6 x hx ⟨rfl,rfl,u,rfl⟩
     have hil:=bQ hx
     obtain ⟨z,rfl,hz,_,hi⟩:=aT hx
     have hip:i<P2.length:=by lia
     have ep:=Ef hip
     have tz:=hQ.2 i z _ hz ep
     have est:kH (P2.take (i+1))=kH (P2.take i)++(if P2[i].length=2 then [P2[i].sum] else []):=by rw [EC,ep]; exact sk _ _
     nofun
     refine bj (MJ tz) ?_
     rw [aQ]
     nofun
     by_cases h:P2[i].length=2
     ·refine dU (by rw [h]; rfl) ?_
      rw [if_pos h] at est
      nofun
      refine gW (ns:=P2[i].map λ x:Nat=>(x:Int)) (MJ (by rw [<-gh]; exact tz)) ?_
      rw [cC]
      refine MO hil ⟨rfl,?_,_,rfl⟩
      rw [bS,est]
     ·refine bV (λ z=>h (by have:=ML.inj z; lia)) ?_
      rw [if_neg h,Fh] at est
      refine MO hil ⟨rfl,?_,_,rfl⟩
      rw [est]
    rintro ys σ H6 ⟨rfl,rfl,u,rfl⟩ sm hsm
    rw [Ed,Em (by lia)]
    have s6:=s5.new (o:=.lst (NV (kH P2))) hsm
    have s56:=(MN H6).new (o:=.lst (NV (kH P2))) hsm
    have tsm:(upd H6 sm (.lst (NV (kH P2)))) sm=some (.lst (NV (kH P2))):=ab
    generalize upd H6 sm (.lst (NV (kH P2)))=H7 at s6 s56 tsm
    nofun
    refine gW (ns:=(kH P2).map λ x:Nat=>(x:Int)) (MJ (by rw [<-gh]; exact tsm)) ?_
    rw [cC]
    nofun
    refine ⟨pr,rfl,⟨_,MJ (s56 _ _ tpr)⟩,cv (a:=pr) (vs:=qs.map MP) (λ i ys σ H'=>H'=H7/\ys=NV ((P2.map KB).take i)/\i<=P2.length/\∃ u,σ=[u]) (by rw [Ed]; exact al (by lia)) (λ i ys σ H' h=>by rw [h.2.1,aQ,EV,Ed]; have:=h.2.2.1; lia) (λ i ys σ H' h=>by rw [h.1]; exact MJ (s56 _ _ tpr)) ⟨rfl,rfl,EI _,none,rfl⟩ ?_ ?_⟩
    ·rintro i ys σ H8 x hx ⟨rfl,rfl,_,u,rfl⟩
     have hil:=bQ hx
     obtain ⟨z,rfl,hz,_,hi⟩:=aT hx
     have hip:i<P2.length:=by lia
     have ep:=Ef hip
     have tz:=s56 _ _ (hQ.2 i z _ hz ep)
     nofun
     refine gW (ns:=P2[i].map λ x:Nat=>(x:Int)) (MJ (by rw [<-gh]; exact tz)) ?_
     rw [cC]
     refine MO hil ⟨rfl,?_,hip,_,rfl⟩
     rw [bS,EC,El,ep]; rfl
    rintro ys σ H8 ⟨rfl,rfl,_,u,rfl⟩ nl hnl
    rw [Ed,Em (by rw [Ed]; lia)]
    refine ⟨(rnd 0 xs).2.length,by lia,(rnd 0 xs).2,nl,mv+((kH P2).sum:Nat),_,rfl,(s3.trans s6).new hnl,by rw [ab,hxr],by rw [<-hmv,Jz],by lia,rfl⟩
   ·have hg:¬ 1<xs.length:=by lia
    rw [pz hg,JV] at hmv
    nofun
    rw [hmv]
    exact hk H3 s3
theorem Ax (h:Ltr n z):IE z=true:=by
 unfold IE
 rw [<-Array.all_toList]
 exact FO.mpr λ c hc=>decide_eq_true (by have:=h.2 c hc; lia)
theorem yg {kind:Str} {H:Hp} (h:KeyV kind H v):∃ d,DatE 1 H v d:=by
 rcases h with ⟨_,n,rfl,_⟩ | ⟨_,q,z,rfl,e,_⟩ | ⟨_,z,rfl,hz⟩
 ·exact ⟨_,DatE.int n⟩
 ·refine ⟨.tuple [.int z.1,.int z.2],DatE.tup e rfl λ i u d e1 e2=>?_⟩
  match i,e1,e2 with
  | 0,e1,e2=>cases e1; cases e2; exact DatE.int _
  | 1,e1,e2=>cases e1; cases e2; exact DatE.int _
  | i+2,e1,e2=>simp at e1
 ·exact ⟨_,DatE.str (Ax hz)⟩
theorem oy {kind:Str} {H:Hp}:∀ {us:List V},(∀ v∈us,KeyV kind H v)->∃ ds:List PyData,us.length=ds.length/\∀ (i:Nat) u e,us[i]? = some u->ds[i]? = some e->DatE 1 H u e
 | [],_=>⟨[],rfl,λ i u e h=>by simp at h⟩
 | v::us,h=>by
  obtain ⟨d,hd⟩:=yg (h v (EJ ..))
  obtain ⟨ds,hl,hds⟩:=oy (us:=us) λ x hx=>h x (EH _ hx)
  refine ⟨d::ds,by simp [hl],λ i u e e1 e2=>?_⟩
  cases i with
  | zero=>simp at e1 e2; rw [<-e1,<-e2]; exact hd
  | succ i=>exact hds i u e (by simpa using e1) (by simpa using e2)
theorem D4 {G:Prop} {S B:Hp->Prop} (hA:(∀ H,S H->B H)->G) (hB:∀ H,S H->B H):G:=hA hB
noncomputable def KL (kind:Str) (H:Hp) (l:Addr) (us:List V):Prop:=H l=some (.lst us)/\us.length<=60/\∀ v∈us,KeyV kind H v
theorem KL.same {kind:Str} {H:Hp} {us:List V} (h:KL kind H l us) (s:Same H H1):KL kind H1 l us:=⟨s _ _ h.1,h.2.1,λ v hv=>(h.2.2 v hv).keep λ b xs e=>s _ _ e⟩
theorem MvL.same {H:Hp} {n1 n2 n3:Int} (h:MvL H l n1 n2 n3) (s:Same H H1):MvL H1 l n1 n2 n3:=let ⟨t1,t2,t3,a,b,c,d⟩:=h; ⟨t1,t2,t3,s _ _ a,s _ _ b,s _ _ c,s _ _ d⟩
theorem sn {H:Hp} {x y:Addr} {u:Str} {n:Int} (h1:H x=some (.tup [.str u,.int n])) (h2:H y=some (.tup [.str u,.int n])):SmAt 1 H (.ref x) (.ref y):=by
 refine .inr (.inr ⟨x,y,_,_,rfl,rfl,h1,h2,rfl,by simp,λ i a b e1 e2=>?_⟩)
 rw [e1] at e2; cases e2
 match i,e1 with
 | 0,e1=>cases e1; exact SmAt.sc 0 (.inr (.inr (.inr ⟨_,rfl⟩)))
 | 1,e1=>cases e1; exact SmAt.int 0 _
 | i+2,e1=>simp at e1
theorem MvL.sm {H:Hp} {c:Addr} {n1 n2 n3:Int} (h1:MvL H l n1 n2 n3) (h2:MvL H c n1 n2 n3):SmAt 2 H (.ref l) (.ref c):=by
 obtain ⟨t1,t2,t3,a,b1,b2,b3⟩:=h1
 obtain ⟨u1,u2,u3,e,d1,d2,d3⟩:=h2
 refine .inr (.inl ⟨l,c,_,_,rfl,rfl,a,e,rfl,by simp,λ i x y e1 e2=>?_⟩)
 match i,e1,e2 with
 | 0,e1,e2=>cases e1; cases e2; exact sn b1 d1
 | 1,e1,e2=>cases e1; cases e2; exact sn b2 d2
 | 2,e1,e2=>cases e1; cases e2; exact sn b3 d3
 | i+3,e1,e2=>simp at e1
noncomputable def D5:Sp:=λ vs H Q _=>∃ (a:Addr) (rss:List (List Nat)) (w b:Nat),vs=[.ref a]/\Rws H a rss w b/\∀ (l:Addr) H',Same H H'->MvL H' l (eE rss w b:Nat) (mx rss (ncl rss w)) (fP rss)->Q (.ref l) H'
theorem vO (T:Tx K mg t):FnOk P t.wd K mg base CX0 2 t.ym t.yj ["_law_rows"] D5:=by
 refine T.yh.okQ Aa (λ vs H Q E h=>?_) (λ cdv A outer s H vs Q E hr h=>?_)
 ·obtain ⟨a,rss,w,b,rfl,_⟩:=h
  rfl
 ·obtain ⟨a,rss,w,b,rfl,hW,k⟩:=h
  refine ⟨_,(ai (ao (aO (ah (bt (ah bn (ah (aj (kG T) (hr.mono (by decide)) rfl T.mr T.hX.kp T.ml aA (ah (qv 0) aa)) aa))) (ah (bt (ah bn (ah (aj (jx T) (hr.mono (by decide)) rfl T.kR T.gy.kp T.kK aA (ah (qv 0) aa)) aa))) (ah (bt (ah bn (ah (aj (me T) (hr.mono (by decide)) rfl T.nt T.i5.kp T.nh aA (ah (qv 0) aa)) aa))) aa)))))),?_⟩
  rw [show L2.aK ["_law_rows"] [MP a]=[some (MP a)] from rfl]
  nofun
  refine ⟨a,rss,w,b,rfl,hW,λ H1 s1=>?_⟩
  nofun
  refine ⟨aF (by simp),λ t1 ht1=>?_⟩
  have s2:=s1.new (o:=.tup [.str "last",.int (eE rss w b:Nat)]) ht1
  have tt1:(upd H1 t1 (.tup [.str "last",.int (eE rss w b:Nat)])) t1=some (.tup [.str "last",.int (eE rss w b:Nat)]):=ab
  generalize upd H1 t1 (.tup [.str "last",.int (eE rss w b:Nat)])=H2 at s2 tt1
  nofun
  refine ⟨a,rss,w,b,rfl,hW.same s2,λ H3 s3=>?_⟩
  nofun
  refine ⟨aF (by simp),λ t2 ht2=>?_⟩
  have s4:=s3.new (o:=.tup [.str "first",.int (mx rss (ncl rss w))]) ht2
  have tt2:(upd H3 t2 (.tup [.str "first",.int (mx rss (ncl rss w))])) t2=some (.tup [.str "first",.int (mx rss (ncl rss w))]):=ab
  generalize upd H3 t2 (.tup [.str "first",.int (mx rss (ncl rss w))])=H4 at s4 tt2
  nofun
  refine ⟨a,rss,w,b,rfl,hW.same (s2.trans s4),λ H5 s5=>?_⟩
  nofun
  refine ⟨aF (by simp),λ t3 ht3=>?_⟩
  have s6:=s5.new (o:=.tup [.str "runs",.int (fP rss)]) ht3
  have tt3:(upd H5 t3 (.tup [.str "runs",.int (fP rss)])) t3=some (.tup [.str "runs",.int (fP rss)]):=ab
  generalize upd H5 t3 (.tup [.str "runs",.int (fP rss)])=H6 at s6 tt3
  nofun
  refine ⟨aF (by simp),λ l hl=>?_⟩
  have s7:=(MN H6).new (o:=.lst [MP t1,MP t2,MP t3]) hl
  exact k l _ ((s2.trans (s4.trans s6)).new hl) ⟨t1,t2,t3,ab,s7 _ _ (s6 _ _ (s4 _ _ tt1)),s7 _ _ (s6 _ _ tt2),s7 _ _ tt3⟩
theorem oz {k:Kd} {w by':Nat} {n1 n2 n3:Int} (hb:2<=b) (hb2:b<=64) (hk:k.ok) (hr:k.rows b rss w by') (h:CM k b n1 n2 n3):n1=(eE rss w by':Nat)/\n2=mx rss (ncl rss w)/\n3=fP rss:=by
 obtain ⟨rss',w',c',zss,r,g,rfl,rfl,rfl⟩:=h
 obtain ⟨rfl,rfl,rfl⟩:=r.uniq hb hr
 exact ⟨rfl,pv (r.good hk hb hb2).1 g,rfl⟩
noncomputable def D6:Sp:=λ vs H Q _=>∃ (kind:Str) (l:Addr) (us:List V) (b:Nat),vs=[.str kind,.ref l,.int b]/\(kind = "number"\/kind = "part"\/kind = "text")/\KL kind H l us/\us≠[]/\2<=b/\b<=64/\∀ H',Same H H'->Q (.bl true) H'
theorem i0 (T:Tx K mg t):FnOk P t.wd K mg base CX0 6 t.dk t.df ["_law_kind","_law_keys_here","_law_base_here"] D6:=by
 refine T.fx.okQ sc_longer_right (λ vs H Q E h=>?_) (λ cdv A outer s H vs Q E hr h=>?_)
 ·obtain ⟨kind,l,us,b,rfl,_⟩:=h
  rfl
 ·obtain ⟨kind,l,us,b,rfl,hkind,hKL,hne,hb,hb2,k⟩:=h
  refine ⟨_,(ac (av (i:=3) sc_longer_right.nd rfl (En rfl) (aM (j2 (K:=K)) (by rfl) T.bZ bN (ah (qv 1) aa)))
   (ac (bM (aj (c9 T) (hr.mono (by decide)) rfl T.dR T.cx.kp T.dI aA (ah (qv 0) (ah (qv 3) (ah (qv 2) aa)))))
   (ac (bM (bC (K:=K) (qv 3) (ah (ba (bE (K:=K)) (qv 1) ae) aa)))
   (ac (bM (o7 (K:=K) (qv 3)))
   (ai (ao (aj (rK T) (hr.mono (by decide)) rfl T.oG T.jO.kp T.oE aA (ah (aj (c9 T) (hr.mono (by decide)) rfl T.dR T.cx.kp T.dI aA (ah (qv 0) (ah (qv 3) (ah (qv 2) aa)))) (ah (aj (vO T) (hr.mono (by decide)) rfl T.AN T.yh.kp T.AE aA (ah (aM (j2 (K:=K)) (by rfl) T.bZ bN (ah (ba (lj (K:=K)) (aj (gO T) (hr.mono (by decide)) rfl T.jn T.gz.kp T.jb aA (ah (qv 0) (ah (qv 3) (ah (qv 2) aa)))) ae) aa)) aa)) aa))))))))),?_⟩
  rw [show L2.aK ["_law_kind","_law_keys_here","_law_base_here","_law_handed"] [MM kind,MP l,ML b]=[some (MM kind),some (MP l),some (ML b),none] from rfl]
  nofun
  refine gc (.inl (MJ hKL.1)) λ hd hhd=>?_
  have s1:=(MN H).new (o:=.lst us) hhd
  have thd:(upd H hd (.lst us)) hd=some (.lst us):=ab
  generalize upd H hd (.lst us)=H1 at s1 thd
  have KL1:=hKL.same s1
  obtain ⟨kd,hkd,hA,hok⟩:=na hkind KL1.2.2 (by have:=hKL.2.1; lia)
  nofun
  refine ⟨kd,us,hd,b,by rw [hkd]; rfl,.inl thd,hA,hok,hb,hb2,λ l1 n1 n2 n3 H2 hl1 s2 hM1 hT1=>?_⟩
  have thd2:=s2 _ _ thd
  nofun
  refine ⟨bm thd2,?_⟩
  nofun
  obtain ⟨u0,ur,rfl⟩:∃ u0 ur,us=u0::ur:=by
   cases us with
   | nil=>exact absurd rfl hne
   | cons u0 ur=>exact ⟨u0,ur,rfl⟩
  refine cb (MJ (s2 _ _ KL1.1)) (v:=u0) (bJ (j:=0) rfl) ?_
  nofun
  have hul:(u0::ur).length<=60:=hKL.2.1
  refine aP thd2 (al (by lia)) ?_
  have s3:=(s1.trans s2).own (o:=.lst (u0::ur++[u0])) hhd
  have thd3:(upd H2 hd (.lst (u0::ur++[u0]))) hd=some (.lst (u0::ur++[u0])):=ab
  generalize upd H2 hd (.lst (u0::ur++[u0]))=H3 at s3 thd3
  nofun
  refine ⟨bm thd3,hd,_,rfl,rfl,thd3,?_⟩
  have s4:=s3.own (o:=.lst (u0::ur++[u0]).reverse) hhd
  have thd4:(upd H3 hd (.lst (u0::ur++[u0]).reverse)) hd=some (.lst (u0::ur++[u0]).reverse):=ab
  generalize upd H3 hd (.lst (u0::ur++[u0]).reverse)=H4 at s4 thd4
  have hK4:∀ v∈(u0::ur++[u0]).reverse,KeyV kind H4 v:=λ v hv=>by
   rw [Hs] at hv
   have hv':v∈u0::ur:=by
    rcases EX.mp hv with h | h
    ·exact h
    ·rw [EL.mp h]; exact EJ ..
   exact (hKL.2.2 v hv').keep λ b xs e=>s4 _ _ e
  have hl4:(u0::ur++[u0]).reverse.length<=61:=by rw [GO,ED]; simp only [EM,E4] at *; lia
  generalize (u0::ur++[u0]).reverse=vs at thd4 hK4 hl4
  obtain ⟨kd4,hkd4,hA4,hok4⟩:=na hkind hK4 hl4
  nofun
  refine ⟨kd4,vs,hd,b,by rw [hkd4]; rfl,.inl thd4,hA4,hok4,hb,hb2,λ l5 m1 m2 m3 H5 hl5 s5 hM5 hT5=>?_⟩
  nofun
  refine ⟨kd4,vs,hd,b,by rw [hkd4]; rfl,.inl (s5 _ _ thd4),hA4.same s5,hok4,hb,hb2,λ p6 rl ps rss w by' H6 s6 t6 trl hR hr=>?_⟩
  obtain ⟨hG,hrl,hw,hby⟩:=hr.good hok4 hb hb2
  have hrn:rss.length<=61:=by rw [hrl]; exact hok4.le
  nofun
  refine gc (.inl (MJ trl)) λ cp hcp=>?_
  have s7:=(MN H6).new (o:=.lst (ps.map MP)) hcp
  have tcp:(upd H6 cp (.lst (ps.map MP))) cp=some (.lst (ps.map MP)):=ab
  generalize upd H6 cp (.lst (ps.map MP))=H7 at s7 tcp
  nofun
  refine ⟨cp,rss,w,by',rfl,⟨⟨ps,tcp,hR.same s7⟩,hG,hrn,hw,hby⟩,λ ld H8 s8 hM8=>?_⟩
  obtain ⟨rfl,rfl,rfl⟩:=oz hb hb2 hok4 hr hT5
  nofun
  refine ⟨_,_,rfl,MvL.sm (hM5.same (s6.trans (s7.trans s8))) hM8,λ H9 s9=>?_⟩
  exact k H9 (s4.trans (s5.trans (s6.trans (s7.trans (s8.trans s9)))))
noncomputable def va (K:Ee):Sp:=λ vs H Q _=>∃ (a:Addr) (ns:List Int),vs=[.ref a]/\SqL K H a (ns.map ML)/\ns.length<=63/\∀ H',Q (.bl true) H'
theorem Ay (T:Tx K mg t):FnOk P t.wd K mg base CX0 7 t.yo t.yl ["_law_script"] (va K):=by
 refine T.CS.okQ sc_law (λ vs H Q E h=>?_) (λ cdv A outer s H vs Q E hr h=>?_)
 ·obtain ⟨a,ns,rfl,_⟩:=h
  rfl
 ·obtain ⟨a,ns,rfl,hS,hlen,k⟩:=h
  refine ⟨_,(ac (bP ET rfl (bD rfl T.bx (ah (ay cS ae (af (vx rfl) (by rfl) T.nz oi (ah ae (ah (af (bv (K:=K)) (by rfl) T.bH aX (ah (qv 0) aa)) aa)))) aa)) (ap (i:=1) sc_law.nd rfl (En rfl)) (ac (mP (aj (yb T) (hr.mono (by decide)) rfl T.AM T.vQ.kp T.AD aA (ah (aj (xK T) (hr.mono (by decide)) rfl T.AS T.vU.kp T.AI aA (ah (qv 0) (ah (qv 1) aa))) (ah (qv 1) aa))) (cV (K:=K) (n:=3) rfl (aC (ap (i:=2) sc_law.nd rfl (En rfl)) (aC (ap (i:=3) sc_law.nd rfl (En rfl)) (aC (ap (i:=4) sc_law.nd rfl (En rfl)) bL)))))
   (ac (av (i:=5) sc_law.nd rfl (En rfl) (aM (j2 (K:=K)) (by rfl) T.bZ bN (ah (qv 3) aa)))
   (ac (av (i:=6) sc_law.nd rfl (En rfl) (aj (vO T) (hr.mono (by decide)) rfl T.AN T.yh.kp T.AE aA (ah (aM (j2 (K:=K)) (by rfl) T.bZ bN (ah (ba (lj (K:=K)) (aj (gO T) (hr.mono (by decide)) rfl T.jn T.gz.kp T.jb aA (ah (qv 2) (ah (qv 3) (ah (qv 4) aa)))) ae) aa)) aa)))
   (ac (aR (QW.qt (nJ (az (qB (K:=K) hr.units0) (qv 3) (aO aa) (au _)) (j0 (lc (bB (aj (i0 T) (hr.mono (by decide)) rfl T.jz T.fx.kp T.jy aA (ah (qv 2) (ah (qv 3) (ah (qv 4) aa))))))))) (ai (ao o0)) aE)
   (ai (bP ET rfl (bD rfl T.bx (ah ae aa)) (ap (i:=7) sc_law.nd rfl (En rfl)) (ac (av (i:=8) sc_law.nd rfl (En rfl) (aj (c9 T) (hr.mono (by decide)) rfl T.dR T.cx.kp T.dI aA (ah (qv 2) (ah (ba (bE (K:=K)) (aO (ah (qv 3) (ah (aM (cW (K:=K)) (by rfl) T.aZ aU (ah (qv 3) aa)) aa))) (qv 7)) (ah (qv 4) aa)))))
   (ac (aR (QW.qt (wR (lc (bB (aj (rK T) (hr.mono (by decide)) rfl T.oG T.jO.kp T.oE aA (ah (qv 8) (ah (qv 6) aa))))) (qi (az (Cu hr.units) (qv 3) (qv 5) (au _))))) (ai (ao o0)) aE)
   (ai (bM (bC (K:=K) (qv 8) (ah (bt (ah bn (ah ae aa))) aa)))))))))))))
   (ai (ao o0))),?_⟩
  rw [show L2.aK ["_law_script","_law_k","_law_kind","_law_keys_here","_law_base_here","_law_kept","_law_due_here","_law_turn","_law_found"] [MP a]=[some (MP a),none,none,none,none,none,none,none,none] from rfl]
  nofun
  refine bj hS ?_
  nofun
  have hml:(LX ML ns).length=ns.length:=Ed ..
  refine ⟨_,rfl,by (repeat' split)<;>lia,by (repeat' split)<;>lia,dq (λ i σ H'=>Same H H'/\∃ v1 v2 v3 v4 v5 v6 v7 v8,σ=[some (MP a),v1,v2,v3,v4,v5,v6,v7,v8]) ⟨MN _,_,_,_,_,_,_,_,_,rfl⟩ ?_ ?_⟩
  ·rintro i σ H' hi ⟨sm,v1,v2,v3,v4,v5,v6,v7,v8,rfl⟩
   nofun
   refine ⟨a,ns,_,rfl,sm.seq hS,by lia,λ p H1 hp0 same T1=>?_⟩
   have hpn:H p=none:=sm.free hp0
   nofun
   refine ⟨p,_,rfl,T1,λ q l kind xs b H2 hkind tq tl hxl hK hb hb2 hlp hl0 S2=>?_⟩
   have M2:Same H H2:=λ c u e=>S2.keep c u (same c u (sm c u e)) (ak e hpn)
   refine nW tq ?_
   clear tq S2 T1 same hp0 hl0 hlp
   have KL2:KL kind H2 l xs:=⟨tl,hxl,hK⟩
   obtain ⟨kd,hkd,hA,hok⟩:=na hkind hK (by lia)
   nofun
   refine gc (.inl (MJ tl)) λ kp hkp=>?_
   have s3:=(MN H2).new (o:=.lst xs) hkp
   have tkp:(upd H2 kp (.lst xs)) kp=some (.lst xs):=ab
   generalize upd H2 kp (.lst xs)=H3 at s3 tkp
   nofun
   refine ⟨kd,xs,l,b,by rw [hkd]; rfl,.inl (s3 _ _ tl),hA.same s3,hok,hb,hb2,λ p4 rl ps rss w by' H4 s4 t4 trl hR hr=>?_⟩
   obtain ⟨hG,hrl,hw,hby⟩:=hr.good hok hb hb2
   have hrn:rss.length<=61:=by rw [hrl]; exact hok.le
   nofun
   refine gc (.inl (MJ trl)) λ cp hcp=>?_
   have s5:=(MN H4).new (o:=.lst (ps.map MP)) hcp
   have tcp:(upd H4 cp (.lst (ps.map MP))) cp=some (.lst (ps.map MP)):=ab
   generalize upd H4 cp (.lst (ps.map MP))=H5 at s5 tcp
   nofun
   refine ⟨cp,rss,w,by',rfl,⟨⟨ps,tcp,hR.same s5⟩,hG,hrn,hw,hby⟩,λ ld H6 s6 hM6=>?_⟩
   have s36:=s4.trans (s5.trans s6)
   have s26:=s3.trans s36
   have M6:=M2.trans s26
   have KL6:=KL2.same s26
   have tkp6:=s36 _ _ tkp
   have hA6:=hA.same s26
   have td:∀ {n1 n2 n3:Int},CM kd b n1 n2 n3->n1=(eE rss w by':Nat)/\n2=mx rss (ncl rss w)/\n3=fP rss:=λ h=>oz hb hb2 hok hr h
   nofun
   apply D4 (S:=λ H7=>Same H6 H7)
   case hA=>
    intro key
    refine ⟨aF (by simp),λ d hd=>?_⟩
    have s7:=(MN H6).new (o:=.lst []) hd
    have tnil:(upd H6 d (.lst [])) d=some (.lst []):=ab
    generalize upd H6 d (.lst [])=H7 at s7 tnil
    refine ⟨l,d,xs,rfl,rfl,MJ (s7 _ _ KL6.1),MJ tnil,?_⟩
    by_cases hx0:xs=[]
    ·rw [decide_eq_true hx0]
     nofun
     exact key H7 s7
    ·rw [decide_eq_false hx0]
     nofun
     refine ⟨kind,l,xs,b,rfl,hkind,KL6.same s7,hx0,hb,hb2,λ H8 s8=>?_⟩
     nofun
     exact key H8 (s7.trans s8)
   case hB=>
    intro H7 s7
    have KL7:=KL6.same s7
    have tkp7:=s7 _ _ tkp6
    have hA7:=hA6.same s7
    have hM7:=hM6.same s7
    have M7:=M6.trans s7
    nofun
    refine ⟨_,rfl,by decide,by decide,dq (n:=2) (λ j σ H'=>Same H7 H'/\∃ v7 v8,σ=[some (MP a),some (ML (0+(i:Int))),some (MM kind),some (MP l),some (ML b),some (MP kp),some (MP ld),v7,v8]) ⟨MN _,_,_,rfl⟩ ?_ ?_⟩
    ·rintro j σ H8 hj ⟨s8,v7,v8,rfl⟩
     nofun
     refine iI (MJ (s8 _ _ KL7.1)) λ tu htu=>?_
     have s9:=s8.new (o:=.tup xs) htu
     have ttu:(upd H8 tu (.tup xs)) tu=some (.tup xs):=ab
     generalize upd H8 tu (.tup xs)=H9 at s9 ttu
     nofun
     refine ⟨aF (by simp),λ lt hlt=>?_⟩
     have sA:=s9.new (o:=.lst [MP l,MP tu]) hlt
     have s9A:=(MN H9).new (o:=.lst [MP l,MP tu]) hlt
     have tlt:(upd H9 lt (.lst [MP l,MP tu])) lt=some (.lst [MP l,MP tu]):=ab
     generalize upd H9 lt (.lst [MP l,MP tu])=HA at sA s9A tlt
     nofun
     obtain ⟨u,e,hu⟩:=cz (xs:=[MP l,MP tu]) (r:=(0+(j:Int))) (by lia) (by simp only [EM,E4]; lia)
     refine cb (MJ tlt) e ?_
     have hu':∃ c,u=MP c/\(HA c=some (.lst xs)\/HA c=some (.tup xs)):=by
      simp only [Er,ER,or_false] at hu
      rcases hu with rfl | rfl
      ·exact ⟨l,rfl,.inl (sA _ _ KL7.1)⟩
      ·exact ⟨tu,rfl,.inr (s9A _ _ ttu)⟩
     obtain ⟨c,rfl,hc⟩:=hu'
     nofun
     refine ⟨kd,xs,c,b,by rw [hkd]; rfl,hc,hA7.same sA,hok,hb,hb2,λ lf n1 n2 n3 HB hlf sB hMB hTB=>?_⟩
     obtain ⟨rfl,rfl,rfl⟩:=td hTB
     have s7B:=sA.trans sB
     nofun
     refine ⟨_,_,rfl,MvL.sm hMB (hM7.same s7B),λ HC sC=>?_⟩
     have s7C:=s7B.trans sC
     have KLC:=KL7.same s7C
     obtain ⟨ds,hdl,hds⟩:=oy KLC.2.2
     nofun
     refine qY (DatE.lst KLC.1 hdl hds) (DatE.lst (s7C _ _ tkp7) hdl hds) (by decide) ?_
     nofun
     obtain ⟨t1,t2,t3,tlf,_⟩:=hMB.same sC
     refine ⟨bm tlf,?_⟩
     nofun
     refine ⟨aF (by simp),λ tt htt=>?_⟩
     nofun
     refine aP (((MN HC).new htt) _ _ tlf) (al (by simp)) ?_
     exact ⟨(s7C.new htt).own (sA.free hlf),_,_,rfl⟩
    ·rintro σ H8 ⟨s8,v7,v8,rfl⟩
     exact ⟨M7.trans s8,_,_,_,_,_,_,_,_,rfl⟩
  ·rintro σ H' ⟨sm,v1,v2,v3,v4,v5,v6,v7,v8,rfl⟩
   nofun
   exact k _
end
theorem jM {α:Type} {P:List α->Prop} (h:∀ x0:α,P [x0]):∀ us:List α,us.length=1->P us
 | [x0],_=>h x0
theorem mf {α:Type} {P:List α->Prop} (h:∀ x0 x1:α,P [x0,x1]):∀ us:List α,us.length=2->P us
 | [x0,x1],_=>h x0 x1
theorem Az {α:Type} {P:List α->Prop} (h:∀ x0 x1 x2:α,P [x0,x1,x2]):∀ us:List α,us.length=3->P us
 | [x0,x1,x2],_=>h x0 x1 x2
theorem AA {l:IW} {w:World} {K:Ee} {mg:Str->Option Value} {fa f0 f1 f2 f3 f4 f5 f6 f7 f8 f9 f10 f11 f12 f13 f14 f15 f16 f17 f18 f19 f20 f21 f22 f23 f24 f25 f26 f27 f28 f29 f30 f31 f32 f33 f34 f35 f36 f37 f38 f39 f40 f41:Addr} {d0 d1 d2 d3 d4 d5 d6 d7 d8 d9 d10 d11 d12 d13 d14 d15 d16 d17 d18 d19 d20 d21 d22 d23 d24 d25 d26 d27 d28 d29 d30 d31 d32 d33 d34 d35 d36 d37 d38 d39 d40:FuncData} (X:K.In h) (G:h.Ns mainGlobals mg) (hfa:mg "law" = some (.ref fa))
  (a0:Ep K mainGlobals "counts" = some (some (.ref f0))) (F0:Fun K "counts" "counts" kw f0 d0)
  (a1:Ep K mainGlobals "many_columns" = some (some (.ref f1))) (F1:Fun K "many_columns" "many_columns" cX f1 d1)
  (a2:Ep K mainGlobals "tally" = some (some (.ref f2))) (F2:Fun K "tally" "tally" m7 f2 d2)
  (a3:Ep K mainGlobals "beginnings" = some (some (.ref f3))) (F3:Fun K "beginnings" "beginnings" eM f3 d3)
  (a4:Ep K mainGlobals "is_parted" = some (some (.ref f4))) (F4:Fun K "is_parted" "is_parted" fM f4 d4)
  (a5:Ep K mainGlobals "many_goings_on" = some (some (.ref f5))) (F5:Fun K "many_goings_on" "many_goings_on" ce f5 d5)
  (a6:Ep K mainGlobals "ahead_of_first" = some (some (.ref f6))) (F6:Fun K "ahead_of_first" "ahead_of_first" cf f6 d6)
  (a7:Ep K mainGlobals "ahead_of_last" = some (some (.ref f7))) (F7:Fun K "ahead_of_last" "ahead_of_last" cE f7 d7)
  (a8:Ep K mainGlobals "runs" = some (some (.ref f8))) (F8:Fun K "runs" "runs" rk f8 d8)
  (a9:Ep K mainGlobals "merging_round" = some (some (.ref f9))) (F9:Fun K "merging_round" "merging_round" cF f9 d9)
  (a10:Ep K mainGlobals "ahead_of_runs" = some (some (.ref f10))) (F10:Fun K "ahead_of_runs" "ahead_of_runs" cG f10 d10)
  (a11:Ep K mainGlobals "many_figures" = some (some (.ref f11))) (F11:Fun K "many_figures" "many_figures" cY f11 d11)
  (a12:Ep K mainGlobals "figures" = some (some (.ref f12))) (F12:Fun K "figures" "figures" iV f12 d12)
  (a13:Ep K mainGlobals "common_measure" = some (some (.ref f13))) (F13:Fun K "common_measure" "common_measure" cg f13 d13)
  (a14:Ep K mainGlobals "least_bottom" = some (some (.ref f14))) (F14:Fun K "least_bottom" "least_bottom" cZ f14 d14)
  (a15:Ep K mainGlobals "whole_numbers" = some (some (.ref f15))) (F15:Fun K "whole_numbers" "whole_numbers" cH f15 d15)
  (a16:Ep K mainGlobals "number_rows" = some (some (.ref f16))) (F16:Fun K "number_rows" "number_rows" dD f16 d16)
  (a17:Ep K mainGlobals "text_row" = some (some (.ref f17))) (F17:Fun K "text_row" "text_row" gK f17 d17)
  (a18:Ep K mainGlobals "text_rows" = some (some (.ref f18))) (F18:Fun K "text_rows" "text_rows" fN f18 d18)
  (a19:Ep K mainGlobals "spelled" = some (some (.ref f19))) (F19:Fun K "spelled" "spelled" iW f19 d19)
  (a20:Ep K mainGlobals "last_ahead" = some (some (.ref f20))) (F20:Fun K "last_ahead" "last_ahead" eO f20 d20)
  (a21:Ep K mainGlobals "first_ahead" = some (some (.ref f21))) (F21:Fun K "first_ahead" "first_ahead" dE f21 d21)
  (a22:Ep K mainGlobals "runs_ahead" = some (some (.ref f22))) (F22:Fun K "runs_ahead" "runs_ahead" eP f22 d22)
  (a23:Ep K mainGlobals "moves_ahead" = some (some (.ref f23))) (F23:Fun K "moves_ahead" "moves_ahead" dF f23 d23)
  (a24:Ep K mainGlobals "_law_tape" = some (some (.ref f24))) (F24:Fun K "_law_tape" "_law_tape" rm f24 d24)
  (a25:Ep K mainGlobals "_law_draw" = some (some (.ref f25))) (F25:Fun K "_law_draw" "_law_draw" rn f25 d25)
  (a26:Ep K mainGlobals "_law_many" = some (some (.ref f26))) (F26:Fun K "_law_many" "_law_many" rq f26 d26)
  (a27:Ep K mainGlobals "_law_base" = some (some (.ref f27))) (F27:Fun K "_law_base" "_law_base" rA f27 d27)
  (a28:Ep K mainGlobals "_law_number" = some (some (.ref f28))) (F28:Fun K "_law_number" "_law_number" kx f28 d28)
  (a29:Ep K mainGlobals "_law_lowest" = some (some (.ref f29))) (F29:Fun K "_law_lowest" "_law_lowest" kz f29 d29)
  (a30:Ep K mainGlobals "_law_fraction" = some (some (.ref f30))) (F30:Fun K "_law_fraction" "_law_fraction" gL f30 d30)
  (a31:Ep K mainGlobals "_law_text" = some (some (.ref f31))) (F31:Fun K "_law_text" "_law_text" rB f31 d31)
  (a32:Ep K mainGlobals "_law_key" = some (some (.ref f32))) (F32:Fun K "_law_key" "_law_key" xG f32 d32)
  (a33:Ep K mainGlobals "_law_keys" = some (some (.ref f33))) (F33:Fun K "_law_keys" "_law_keys" rD f33 d33)
  (a34:Ep K mainGlobals "_law_same" = some (some (.ref f34))) (F34:Fun K "_law_same" "_law_same" rE f34 d34)
  (a35:Ep K mainGlobals "_law_case" = some (some (.ref f35))) (F35:Fun K "_law_case" "_law_case" rF f35 d35)
  (a36:Ep K mainGlobals "_law_last_moves" = some (some (.ref f36))) (F36:Fun K "_law_last_moves" "_law_last_moves" eQ f36 d36)
  (a37:Ep K mainGlobals "_law_first_moves" = some (some (.ref f37))) (F37:Fun K "_law_first_moves" "_law_first_moves" dG f37 d37)
  (a38:Ep K mainGlobals "_law_run_moves" = some (some (.ref f38))) (F38:Fun K "_law_run_moves" "_law_run_moves" fO f38 d38)
  (a39:Ep K mainGlobals "_law_due" = some (some (.ref f39))) (F39:Fun K "_law_due" "_law_due" xH f39 d39)
  (a40:Ep K mainGlobals "_law_longer_right" = some (some (.ref f40))) (F40:Fun K "_law_longer_right" "_law_longer_right" c6 f40 d40)
  (a41:Ep K mainGlobals "law" = some (some (.ref f41)))
  {oc41 kV41 dc41 pm41 cd41 ct41:Value} {od41 an41:Option Addr} {sl41:Array (Option Value)}
  (l41:K.lookup f41=some ⟨oc41,od41,.func (GF "law" "law" (iG pj) (fE pj) (am pj) .none kV41 dc41 pm41 an41 cd41 ct41),sl41⟩) (c41:HH K cd41 "law" = true) (k41:Gm K (.ref f41)=true)
  (pC:Ep K mainGlobals "abs" = some none)
  (sP:Ep K mainGlobals "all" = some none)
  (bG:Ep K mainGlobals "bool" = some none)
  (oI:Ep K mainGlobals "dict" = some none)
  (cR:Ep K mainGlobals "enumerate" = some none)
  (gC:Ep K mainGlobals "int" = some none)
  (ag:Ep K mainGlobals "isinstance" = some none)
  (bH:Ep K mainGlobals "len" = some none)
  (bZ:Ep K mainGlobals "list" = some none)
  (ny:Ep K mainGlobals "max" = some none)
  (nz:Ep K mainGlobals "min" = some none)
  (sQ:Ep K mainGlobals "ord" = some none)
  (bx:Ep K mainGlobals "range" = some none)
  (iC:Ep K mainGlobals "sorted" = some none)
  (fY:Ep K mainGlobals "str" = some none)
  (jA:Ep K mainGlobals "sum" = some none)
  (aZ:Ep K mainGlobals "tuple" = some none)
  (sR:Ep K mainGlobals "zip" = some none)
  {gQ:Addr} {q0_AHEAD q1_AHEAD q2_AHEAD:Tok} {ep_AHEAD:Nat} (ag_AHEAD:Ep K mainGlobals "AHEAD" = some (some (.ref gQ))) (at_AHEAD:K.lookup gQ=some ⟨.type "dict",none,.dict #[⟨GI w.params "last",.str "last" q0_AHEAD,.ref f20⟩,⟨GI w.params "first",.str "first" q1_AHEAD,.ref f21⟩,⟨GI w.params "runs",.str "runs" q2_AHEAD,.ref f22⟩] ep_AHEAD,#[]⟩)
  {ia:Addr} {q0_WAYS q1_WAYS q2_WAYS:Tok} {ep_WAYS:Nat} {od_WAYS:Option Addr} {sl_WAYS:Array (Option Value)} (ag_WAYS:Ep K mainGlobals "WAYS" = some (some (.ref ia))) (at_WAYS:K.lookup ia=some ⟨.type "tuple",od_WAYS,.seq #[.str "last" q0_WAYS,.str "first" q1_WAYS,.str "runs" q2_WAYS] ep_WAYS,sl_WAYS⟩)
  {fX:Tok} (ag_TEXT_BASE:Ep K mainGlobals "TEXT_BASE" = some (some (.int 27 fX))) :
  ∃ fd:FuncData,(∀ (s:Shared) (v:Value),BindsTo s fd ⟨[v],[]⟩ [("_law_script",v)])/\∀ base:Heap,K.In base->base.Ns mainGlobals mg->FnOk l.prog w K mg base CX0 7 fa fd ["_law_script"] (va K):=by
 have e:=hfa.symm.trans (Ey X G a41)
 cases e
 have b0:=F0.binds (ps:=["row","base"]) λ _ _ _ _ _ _=>mf (λ _ _=>rfl)
 have b1:=F1.binds (ps:=["rows"]) λ _ _ _ _ _ _=>jM (λ _=>rfl)
 have b2:=F2.binds (ps:=["rows","base"]) λ _ _ _ _ _ _=>mf (λ _ _=>rfl)
 have b3:=F3.binds (ps:=["rows","column"]) λ _ _ _ _ _ _=>mf (λ _ _=>rfl)
 have b4:=F4.binds (ps:=["often"]) λ _ _ _ _ _ _=>jM (λ _=>rfl)
 have b5:=F5.binds (ps:=["longer"]) λ _ _ _ _ _ _=>jM (λ _=>rfl)
 have b6:=F6.binds (ps:=["lists"]) λ _ _ _ _ _ _=>jM (λ _=>rfl)
 have b7:=F7.binds (ps:=["tally"]) λ _ _ _ _ _ _=>jM (λ _=>rfl)
 have b8:=F8.binds (ps:=["rows"]) λ _ _ _ _ _ _=>jM (λ _=>rfl)
 have b9:=F9.binds (ps:=["lengths"]) λ _ _ _ _ _ _=>jM (λ _=>rfl)
 have b10:=F10.binds (ps:=["lengths"]) λ _ _ _ _ _ _=>jM (λ _=>rfl)
 have b11:=F11.binds (ps:=["n","base"]) λ _ _ _ _ _ _=>mf (λ _ _=>rfl)
 have b12:=F12.binds (ps:=["n","base","many"]) λ _ _ _ _ _ _=>Az (λ _ _ _=>rfl)
 have b13:=F13.binds (ps:=["one","other"]) λ _ _ _ _ _ _=>mf (λ _ _=>rfl)
 have b14:=F14.binds (ps:=["parts"]) λ _ _ _ _ _ _=>jM (λ _=>rfl)
 have b15:=F15.binds (ps:=["parts"]) λ _ _ _ _ _ _=>jM (λ _=>rfl)
 have b16:=F16.binds (ps:=["numbers","base"]) λ _ _ _ _ _ _=>mf (λ _ _=>rfl)
 have b17:=F17.binds (ps:=["text","columns"]) λ _ _ _ _ _ _=>mf (λ _ _=>rfl)
 have b18:=F18.binds (ps:=["texts"]) λ _ _ _ _ _ _=>jM (λ _=>rfl)
 have b19:=F19.binds (ps:=["kind","keys","base"]) λ _ _ _ _ _ _=>Az (λ _ _ _=>rfl)
 have b20:=F20.binds (ps:=["rows","base"]) λ _ _ _ _ _ _=>mf (λ _ _=>rfl)
 have b21:=F21.binds (ps:=["rows","base"]) λ _ _ _ _ _ _=>mf (λ _ _=>rfl)
 have b22:=F22.binds (ps:=["rows","base"]) λ _ _ _ _ _ _=>mf (λ _ _=>rfl)
 have b23:=F23.binds (ps:=["kind","keys","base"]) λ _ _ _ _ _ _=>Az (λ _ _ _=>rfl)
 have b24:=F24.binds (ps:=["_law_script","_law_k"]) λ _ _ _ _ _ _=>mf (λ _ _=>rfl)
 have b25:=F25.binds (ps:=["_law_tape_here","_law_many_here"]) λ _ _ _ _ _ _=>mf (λ _ _=>rfl)
 have b26:=F26.binds (ps:=["_law_tape_here","_law_k"]) λ _ _ _ _ _ _=>mf (λ _ _=>rfl)
 have b27:=F27.binds (ps:=["_law_tape_here"]) λ _ _ _ _ _ _=>jM (λ _=>rfl)
 have b28:=F28.binds (ps:=["_law_tape_here"]) λ _ _ _ _ _ _=>jM (λ _=>rfl)
 have b29:=F29.binds (ps:=["_law_top","_law_bottom"]) λ _ _ _ _ _ _=>mf (λ _ _=>rfl)
 have b30:=F30.binds (ps:=["_law_tape_here"]) λ _ _ _ _ _ _=>jM (λ _=>rfl)
 have b31:=F31.binds (ps:=["_law_tape_here"]) λ _ _ _ _ _ _=>jM (λ _=>rfl)
 have b32:=F32.binds (ps:=["_law_tape_here","_law_kind"]) λ _ _ _ _ _ _=>mf (λ _ _=>rfl)
 have b33:=F33.binds (ps:=["_law_tape_here","_law_kind","_law_many_here"]) λ _ _ _ _ _ _=>Az (λ _ _ _=>rfl)
 have b34:=F34.binds (ps:=["_law_found","_law_due_here"]) λ _ _ _ _ _ _=>mf (λ _ _=>rfl)
 have b35:=F35.binds (ps:=["_law_tape_here","_law_k"]) λ _ _ _ _ _ _=>mf (λ _ _=>rfl)
 have b36:=F36.binds (ps:=["_law_rows"]) λ _ _ _ _ _ _=>jM (λ _=>rfl)
 have b37:=F37.binds (ps:=["_law_rows"]) λ _ _ _ _ _ _=>jM (λ _=>rfl)
 have b38:=F38.binds (ps:=["_law_rows"]) λ _ _ _ _ _ _=>jM (λ _=>rfl)
 have b39:=F39.binds (ps:=["_law_rows"]) λ _ _ _ _ _ _=>jM (λ _=>rfl)
 have b40:=F40.binds (ps:=["_law_kind","_law_keys_here","_law_base_here"]) λ _ _ _ _ _ _=>Az (λ _ _ _=>rfl)
 have F41:=vv (st:=pj) l41 c41 k41
 have b41:=F41.binds (ps:=["_law_script"]) λ _ _ _ _ _ _=>jM (λ _=>rfl)
 have T:Tx K mg ⟨_,_,_,_,_,_,_,_,_,_,_,_,_,_,_,_,_,_,_,_,_,_,_,_,_,_,_,_,_,_,_,_,_,_,_,_,_,_,_,_,_,_,_,_,_,_,_,_,_,_,_,_,_,_,_,_,_,_,_,_,_,_,_,_,_,_,_,_,_,_,_,_,_,_,_,_,_,_,_,_,_,_,_,_,w,_,_,_⟩:=⟨Ey X G a0,F0,b0,Ey X G a1,F1,b1,Ey X G a2,F2,b2,Ey X G a3,F3,b3,Ey X G a4,F4,b4,Ey X G a5,F5,b5,Ey X G a6,F6,b6,Ey X G a7,F7,b7,Ey X G a8,F8,b8,Ey X G a9,F9,b9,Ey X G a10,F10,b10,Ey X G a11,F11,b11,Ey X G a12,F12,b12,Ey X G a13,F13,b13,Ey X G a14,F14,b14,Ey X G a15,F15,b15,Ey X G a16,F16,b16,Ey X G a17,F17,b17,Ey X G a18,F18,b18,Ey X G a19,F19,b19,Ey X G a20,F20,b20,Ey X G a21,F21,b21,Ey X G a22,F22,b22,Ey X G a23,F23,b23,Ey X G a24,F24,b24,Ey X G a25,F25,b25,Ey X G a26,F26,b26,Ey X G a27,F27,b27,Ey X G a28,F28,b28,Ey X G a29,F29,b29,Ey X G a30,F30,b30,Ey X G a31,F31,b31,Ey X G a32,F32,b32,Ey X G a33,F33,b33,Ey X G a34,F34,b34,Ey X G a35,F35,b35,Ey X G a36,F36,b36,Ey X G a37,F37,b37,Ey X G a38,F38,b38,Ey X G a39,F39,b39,Ey X G a40,F40,b40,Ey X G a41,F41,b41,EW X G pC,EW X G sP,EW X G bG,EW X G oI,EW X G cR,EW X G gC,EW X G ag,EW X G bH,EW X G bZ,EW X G ny,EW X G nz,EW X G sQ,EW X G bx,EW X G iC,EW X G fY,EW X G jA,EW X G aZ,EW X G sR,Ey X G ag_AHEAD,⟨[q0_AHEAD,q1_AHEAD,q2_AHEAD],ep_AHEAD,rfl,at_AHEAD⟩,Ey X G ag_WAYS,λ H=>.inr ⟨_,_,_,at_WAYS,rfl,rfl,(by show 3<=sizeLine; decide),(.cons ⟨_,rfl⟩ (.cons ⟨_,rfl⟩ (.cons ⟨_,rfl⟩ .nil)))⟩,Ey X G ag_TEXT_BASE⟩
 exact ⟨_,λ s v=>.of_eq rfl,λ base _ _=>Ay T⟩
theorem A8 {l:IW} {loose:List Str} {XP:(Str->Option Value)->Heap->Prop} {YP:World->Heap->Prop} {d:DefRec} {K:Params->Ee} (hn:l.most=some 63) (hdf:d.params.defaults=[])
  (hY:∀ (w:World) (h:Heap),YP w h->(K w.params).In h)
  (F:∀ (w:World) (mg:Str->Option Value) (fa:Addr) (h:Heap),(K w.params).In h->h.Ns mainGlobals mg->mg d.name=some (.ref fa)->
   ∃ fd:FuncData,(∀ (s:Shared) (u:Value),BindsTo s fd ⟨[u],[]⟩ [("_law_script",u)])/\∀ base:Heap,(K w.params).In base->base.Ns mainGlobals mg->FnOk l.prog w (K w.params) mg base CX0 7 fa fd ["_law_script"] (va (K w.params))) :
  Lb q loose XP YP l.row.toRowW d [] (λ f vs=>KH f vs):=
 L2.wJ (n:=63) (k:=7) (x:="_law_script") (CX:=λ _=>CX0) (sp:=λ w=>va (K w.params)) hn (by decide) hdf ⟨rfl,by decide,by decide,rfl⟩ hY F (λ _ _ a ns hl _ hS=>⟨a,ns,rfl,hS,hl,λ _=>rfl⟩) λ _ _ _ _ _ z=>z
end Fs
open PySem PySem.W PyProof.Rows
set_option maxRecDepth 100000 in
set_option maxHeartbeats 0 in
theorem PySem.Challenge.cw_figuresort_k45_moves_told_ahead_holds : PySem.Challenge.rw_figuresort_k45_moves_told_ahead.Holds := by
 w_on; refine holds_law Fs.Bl λ said=>?_
 refine holds_open (q:=Fs.vwF) (loose:=Fs.loF) (Xt:=Fs.xtF) (XP:=XL Fs.vwF []) (YP:=Hook.says Fs.kT) Fs.Bk (Hook.of Fs.kT) (Hook.keeps Fs.kT) (λ s e=>xl_of s (Jw.mp e).1) XL.keeps (by rfl) (by rfl) (by rfl) (λ s e=>recFacts_of (Jw.mp e).2) (by rfl) said (by decide +kernel) ⟨rfl,rfl,rfl,rfl,rfl,by decide +kernel⟩ ?hw ?hc
 (case hw=>w_witness2)
 delta Fs.kT
 k_fill
 refine Fs.A8 (l:=E9) rfl rfl (λ w h Y=>PySem.W.kIn_of Y) ?F
 case F=>
  intro w mg fa h KX G hmg
  refine' Fs.AA KX G hmg ?a0 ?F0 ?a1 ?F1 ?a2 ?F2 ?a3 ?F3 ?a4 ?F4 ?a5 ?F5 ?a6 ?F6 ?a7 ?F7 ?a8 ?F8 ?a9 ?F9 ?a10 ?F10 ?a11 ?F11 ?a12 ?F12 ?a13 ?F13 ?a14 ?F14 ?a15 ?F15 ?a16 ?F16 ?a17 ?F17 ?a18 ?F18 ?a19 ?F19 ?a20 ?F20 ?a21 ?F21 ?a22 ?F22 ?a23 ?F23 ?a24 ?F24 ?a25 ?F25 ?a26 ?F26 ?a27 ?F27 ?a28 ?F28 ?a29 ?F29 ?a30 ?F30 ?a31 ?F31 ?a32 ?F32 ?a33 ?F33 ?a34 ?F34 ?a35 ?F35 ?a36 ?F36 ?a37 ?F37 ?a38 ?F38 ?a39 ?F39 ?a40 ?F40 ?a41 ?l41 ?c41 ?k41 ?pC ?sP ?bG ?oI ?cR ?gC ?ag ?bH ?bZ ?ny ?nz ?sQ ?bx ?iC ?fY ?jA ?aZ ?sR ?ag_AHEAD ?at_AHEAD ?ag_WAYS ?at_WAYS ?ag_TEXT_BASE
  iterate 2 all_goals (first | k_is | exact L2.vv (by k_is) (by k_is) (by k_is) | skip)
  all_goals kernel_rfl
