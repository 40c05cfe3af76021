import PyProof.Rows.All
import Wide.All
import OpenK.AllK
import Wide.FinOn
import Lean
import PyProof.EqAt
import PyProof.EqKinds
import PyProof.TupleCall
import PyProof.NeKinds
import PySem.Challenge.RW_tracebook_k32_refused_ones
local macro_rules | `(tactic| trivial) => `(tactic| decide +kernel)
def T9 {α:Type} {a:α} {q:Prop}:a=a\/q:=Or.inl rfl
open Array renaming length_toList->MB,getElem?_eq_getElem->MC,getElem?_toList->MY,getElem?_eq_some_iff->NH,getD_eq_getD_getElem?->N1,getElem?_eq_none->N5,toList_inj->R3
open Array.Perm renaming refl->Pj
open Bool renaming false_ne_true->Mj,false_eq_true->MU,eq_iff_iff->NQ,and_eq_true->NT,not_eq_true'->Pp
open Classical renaming byContradiction->OP,not_forall->PB,not_imp->Qq
open Exists renaming intro->SG
open False renaming elim->Nd
open ForInStep renaming yield->Pc
open Int renaming toNat_natCast->Nx,emod_nonneg->QT,add_mul_emod_self_left->QV,toNat->Rq,toNat_of_nonneg->Tf
open Int.ofNat renaming inj->RH
open List renaming getElem?_eq_getElem->LO,getElem?_eq_some_iff->LQ,mem_of_getElem?->LR,getD_eq_getElem?_getD->LS,length_map->LV,range->LX,mem_singleton->LY,mem_cons_of_mem->L4,mem_cons_self->L8,mem_range->L9,mem_append->Mb,replicate->Md,size_toArray->Mf,mem_map->Ml,getElem?_map->Mn,mem_cons->Mp,length_append->Mq,getElem?_of_mem->Mr,pairwise_iff_getElem->Mw,map_cons->My,all_eq_true->Mz,take_add_one->MA,getElem?_eq_none->MD,length_take->MF,getElem?_append_left->MG,take_length->MJ,length_cons->MN,getElem?_append_right->MS,take_of_length_le->MT,nodup_cons->MX,idxOf_lt_length_of_mem->MZ,length_range->M4,map_append->M8,length_pos_iff->M9,lookup_cons->Nh,mem_filter->Nj,mem_append_right->Nk,getElem_mem->Nr,toArray->Ny,getElem?_take_of_lt->Nz,replicate_succ->NC,mem_append_left->NJ,getElem?_set_self->NM,append_nil->NR,pairwise_map->NW,length_set->NY,getElem?_set_ne->N2,filterMap_cons->N6,ext_getElem?->Oa,length_singleton->Oe,length_filter_le->Og,replicate_succ'->Om,getElem?_replicate->Oq,map_map->Ox,flatten_cons->Oz,not_mem_nil->OG,find?_cons->OT,eq_of_mem_replicate->OZ,getElem?_range->O1,length_eq_zero_iff->O3,nodup_range->O5,pairwise_lt_range->O9,pairwise_cons->Pa,take_append_drop->Pe,lookup_cons_self->Ph,range_succ->Pm,mem_of_mem_drop->Px,mem_of_mem_take->Py,drop_eq_getElem_cons->PJ,any_eq_true->PQ,lookup->PV,map_congr_left->PX,any_cons->P2,length_nil->P4,filter_cons_of_neg->Qc,any_eq_false->Qh,append_assoc->Qj,eraseIdxIfInBounds_toArray->Qk,nodup_nil->Qt,length_drop->QC,length->QJ,map_id->QK,getElem_of_mem->QL,length_zip->QM,getElem_idxOf->Q0,filter_append->Q5,map_replicate->Q6,getElem?_zip_eq_some->Ra,mem_of_find?_eq_some->Rc,nodup_append->Ro,idxOf_lt_length_iff->Rp,find?_range_eq_some->Rw,find?_range_eq_none->Rx,all_cons->RG,filter_cons_of_pos->RP,getElem_inj->RS,perm_middle->R1,of_mem_zip->Sk,forIn_cons->Sn,mem_iff_getElem->SV,length_reverse->S6,filter_sublist->Tc,flatMap_append->Td,flatten_append->Th,map_take->Tq,map_drop->Tr,map_nil->TK
open List.Pairwise renaming filter->QE
open Nat renaming le_refl->Ma,ne_of_lt->Mc,lt_of_lt_of_le->Mm,lt_or_ge->Mu,mod_lt->Mv,mod_eq_of_lt->MH,zero_le->MI,le_trans->M7,lt_trichotomy->Ni,mul_le_mul_left->Nm,dvd_of_mod_eq_zero->Np,div_lt_of_lt_mul->Nq,lt_succ_of_lt->NG,lt_of_le_of_lt->NL,add_mul_mod_self_left->NS,div_eq_of_lt->NU,eq_zero_or_pos->NZ,add_mul_div_left->N3,mul_pos->Oc,add_zero->Of,mul_succ->Oh,mod_add_mod->Oi,eq_of_beq_eq_true->Oj,lt_irrefl->Oo,le_of_lt->Ou,add_comm->Ov,mul_comm->Ow,zero_add->Oy,le_succ->OB,beq->OE,ne_of_gt->OH,add_mod_mod->OX,div_add_mod->OY,mul_zero->Pk,zero_mod->Pl,add_assoc->Pu,mul_le_mul_right->Pz,eq_of_mul_eq_mul_left->PK,lt_succ_self->PM,le_of_not_lt->PN,le_add_right->PR,succ_mul->PY,mul_assoc->Qb,le_mul_of_pos_right->Qd,mul_left_comm->Qp,zero_mul->Qx,le_of_eq->QZ,mod_self->Q4,add_sub_of_le->Ry,mul_add->RO,succ_le_succ->RX,div_div_eq_div_mul->Sb,not_lt_zero->Ss,mod_add_div->SD,zero_div->SE,add_mod->Tb,add_mul->Te,div_pos->Tg,lt_trans->TL,one_mul->T6
open Ne renaming symm->NI
open Option renaming getD_some->OF,map_eq_some_iff->O7
open Option.some renaming inj->ME
open Or renaming inl->L7,inr->Qf
open PyProof.Rows renaming boot_isinstance->Mg,callWith_type1->Nt,boot_list->NP,boot_sorted->NX,IntsAre->OC,boot_all->Pn,boot_any->Qy,assignInOrder_cons->QX,AllBare->RD,mirror_perm->RM,boot_range->RQ,subscriptTail_builtinR->R7,entry_list_sort->Sz,slot_list_sort->S3,args_list_sort->S4,Constant_none->Tj,listUpdate_at->Tt,plain_sorted->TN,entry_sorted->TQ,args_sorted1->TR,kind_sorted->T4,seqEpoch_at->T5
open PyProof.Rows.F renaming plain_set_update_loop->Qa,entry_set_update_loop->RK
open PyProof.Rows.SortSt renaming mk'->Tx
open PySem renaming wpAny_bind->LP,Shared->LU,wpAny_pure->LZ,boot_len->Me,Program->Mh,sizeLine->Mx,mainGlobals->MO,Around->MP,starEach->MR,sizeLine_eq->MW,wpAny_holding->M1,FuncData->Na,wpAny_mono->Nc,Paired->Nl,codeAny_builtin->Nu,wpAny_loadPart'->ND,SetTable->N0,wpAny_call_entry->N4,wpAny_truthy_bool->N7,wpAny_newObj_type->N8,mem_of_lookup->N9,wpAny_field->Ob,Builtin->OD,codeAny_mono->OI,wpAny_Call_Name_kw->OJ,plainId_quiet->OL,codeAny_call_builtin->OQ,wpAny_passesOwn->OR,wpAny_setState_of->OW,wpAny_callSpecial?_slot->O4,call_meets->O6,wpAny_execs_nil->Pb,wpAny_attempt->Pq,wpAny_loadPart_at->Pr,wpAny_standAt->P0,ExceptHandler->P5,wpAny_setField_rec->P8,wpAny_pyIter_list->Qg,plainObj_wpAny_Assign_Attribute->Qi,GenState->Qr,NameKind->Qs,ZipApart->Qu,Within->QW,tupleKind_room_in1->Q1,wpAny_typeOf->Q3,wpAny_loadPart->Q8,BindsTo->Q9,Result->Rj,wpAny_call->Rm,wpAny_comprehension_free->Rn,wpAny_newList->RL,wpAny_execs_cons->RT,wpAny_lookBehind->RV,pastItsLine_dict->RW,wpAny_pyIter_zip->RY,wpAny_isInstance->RZ,wpAny_askSetting->R4,richCompare_meets_room->R9,wpAny_nextOf_list_item->Sa,wpAny_isTrue_Compare1->Se,Keyword->Sj,wpAny_pyNext_zip_item->So,codeAny_of_tree->Sv,builtinLookup_eq_fast->Sw,typeIs_int->SN,PlainAttrs->SO,intKind_is->SQ,wpAny_pyNext_zip_end->SU,IsPair->SX,wpAny_setField->SY,entryFor_alias->S0,wpAny_seqItems->S1,wpAny_runValue->S2,wpAny_isSubtype_exc->Ta,wpAny_rule->Tu,wpAny_nsSet1->Tz,seqIndex_neg->TJ,seqIndex_of->TZ,putSet_of->T3,PassesOwn->T8
open PySem.Around renaming under_plainId->Nf,under->TC
open PySem.Builtin.Dict renaming updateFrom->RI
open PySem.Builtin.List renaming listTooLong->OS,listExtendWith->Pg,listSameRef->Rt
open PySem.Builtin.Range renaming rangeSize->RE
open PySem.Builtin.SmallTypes renaming ownedTupleIsFree->NV,nextOf->PD
open PySem.Calls renaming call_function_entry->PF,Name_function_global->QU,callWith_builtin->R8,evalArgs_plain->SS
open PySem.Code renaming quiet_builtin->P6,isFrame->TF
open PySem.Data renaming cell->To,fields->TY
open PySem.EntryCells renaming newEntry->S7
open PySem.F renaming plainAttrs_list->Mi,slot_list_append->MK,type_list_append->ML,slot_list_index->O2,attrBase_ValueError->Pd,called_set->Pf,excBase_ValueError->Pw,slot_zip_getattribute->P7,type_list_index->Qe,plain_list_iadd->Qn,slot_zip_next->QP,slot_list_insert->Rz,type_list_insert->RA,entry_proto_collect->Sx,plain_proto_collect->Sy,slot_list_pop->SH,type_list_pop->SJ
open PySem.Heap renaming get?_push_of_some->LW,lt_size->L5,get?_push_size->Mo,get?_update_other->Nb,get?_update_self->NB,size_push->OO,SameBut->O0,get?_push_ne->Qo,get?_update_ne->QQ,size_update->R5,get?_none_of_le->SR
open PySem.Heap.Ns1 renaming of_empty->Rl
open PySem.Heap.SameBut renaming update->S9
open PySem.NameKind renaming free->Od,cell->QF
open PySem.Obj renaming mapSeq->NO,data_mapFields->Q2,putSet->Rr,isFreed_of_fields->Sr,mapFields->Tp
open PySem.Paired renaming length->RC
open PySem.PassesOwn renaming never->L6
open PySem.SeqAt renaming EqAt->Tv
open PySem.SeqAt.EqAt renaming same->Sl
open PySem.SetTable renaming below->MV,insertAt->OU,toList_insertAt->OV,bits->P9,turns->Qv,fits->QI,grown->Rb,fill->RJ,runEnd->Su,probeStart->S8,layClean->Tw,probe->T7
open PySem.SetTable.below renaming go->Ql
open PySem.SetTable.layClean renaming free->O8
open PySem.SetTable.probe renaming go->Qm
open PySem.Shared renaming TypeIs->Ts
open PySem.Str renaming ofString->Nn
open PySem.Value renaming ref->Ms,none->Ng,int->Ol,bool->SK,type->SM,str->Ti,float->TX
open PySem.W renaming Frag->LN,exmOne->Mt,emptyDict->MM,fnOf->MQ,findIn->M5,keepIn->M6,kitOne->Nv,codeIn->Nw,kia_one->NA,hasDictIn->NF,looks_findIn->NK,Looks->Ot,instObj->OA,nsIn->OM,mg_of->ON,excIn->Po,any_some->PL,looks_clsIn->PU,kas_descPart->PZ,callWith_K->P1,kas_desc->Qw,plainGet->Qz,kas_rev->QD,clsIn->QG,looks_mroIn->QN,kas_count->QR,InstAt->Q7,methodObj->Rf,plainOver->Rg,set_plain->Rh,kas_tail3->Ru,kas_place->Rv,mroIn->RF,kas_sort->RN,handedIn->RU,cellsFrom_some->R6,takerIn->Sf,makesIn->Sg,isFn->Si,OpenLaw->Sm,kas_asc->SA,lookIn->SW,findObj_own->S5,kas_rev_size->TU
open PySem.W.Looks renaming here->QY
open PySem.Within renaming cons->Ri
open PySem.pickOrder renaming go->TM
open Sum renaming inr->RB,inl->Sd
open Sum.inl renaming inj->TV
open True renaming intro->NN
set_option Elab.async false
set_option linter.all false
set_option maxRecDepth 100000
local macro_rules|`(tactic|lia)=>`(tactic|first|lia +ring|omega)
set_option hygiene false
local macro_rules|`(tactic|exists $t)=>`(tactic|refine $t (fun vs H Q E h=>?_) (fun cdv A outer s H vs Q E hr h=>?_))
set_option hygiene true
namespace L2
open PySem PySem.Spec PyProof.Rows
abbrev Key:=Sum Int Str
def qa:Key->Value->Bool
 | .inl k,v=>Value.isInt k v
 | .inr x,v=>Value.isStrOf x v
def LI (w:World):Key->Int
 | .inl k=>hashInt k
 | .inr x=>hashStr w x
def cR:∀ {k:Key} {v:Value},qa k v=true->(∃ i t,k=Sd i/\v=Ol i t)\/(∃ x t,k=RB x/\v=Ti x t)
 | .inl i,v,h=>by
  obtain ⟨t,e⟩:=Value.isInt_shape (k:=i) (v:=v) h;exact .inl ⟨i,t,rfl,e⟩
 | .inr x,v,h=>by
  obtain ⟨t,e⟩:=Value.isStrOf_shape (x:=x) (v:=v) h;exact .inr ⟨x,t,rfl,e⟩
def EJ (i:Int) (t:Tok):qa (.inl i) (.int i t)=true:=by simp [qa,Value.isInt]
def Er (x:Str) (t:Tok):qa (.inr x) (.str x t)=true:=by simp [qa,Value.isStrOf]
def JP (a b:Int):decide ((Sd a:Key)=Sd b)=(a == b):=by
 by_cases e:a=b
 ·subst e;simp
 ·have h:¬ (Sd a:Key)=Sd b:=fun q=>e (TV q);rw [decide_eq_false h];exact (beq_eq_false_iff_ne.mpr e).symm
def Kt (a b:Str):decide ((RB a:Key)=RB b)=decide (a=b):=by
 by_cases e:a=b
 ·subst e;simp
 ·have h:¬ (RB a:Key)=RB b:=fun q=>e (RB.inj q);rw [decide_eq_false h,decide_eq_false e]
def JX (a:Int) (b:Str):decide ((Sd a:Key)=RB b)=false:=decide_eq_false (fun q=>nomatch q)
def J4 (a:Str) (b:Int):decide ((RB a:Key)=Sd b)=false:=decide_eq_false (fun q=>nomatch q)
def cC (prog:Mh) (w:World):PySem.KeyKind prog w Key where
 is:=qa
 hash:=LI w
 inj:=fun v a b ha hb=>by
  rcases cR ha with ⟨i,t,rfl,rfl⟩|⟨x,t,rfl,rfl⟩
  ·rcases cR hb with ⟨j,u,rfl,e⟩|⟨y,u,rfl,e⟩
   ·injection e with e1 _;rw [e1]
   ·exact nomatch e
  ·rcases cR hb with ⟨j,u,rfl,e⟩|⟨y,u,rfl,e⟩
   ·exact nomatch e
   ·injection e with e1 _;rw [e1]
 byValue:=fun k v h=>by
  rcases cR h with ⟨i,t,rfl,rfl⟩|⟨x,t,rfl,rfl⟩ <;> rfl
 pyHash:=fun hv h=>by
  rcases cR hv with ⟨i,t,rfl,rfl⟩|⟨x,t,rfl,rfl⟩
  ·exact wpAny_pyHash_int h
  ·exact wpAny_pyHash_str h
 eqBool:=fun hu hv h=>by
  rcases cR hu with ⟨i,t,rfl,rfl⟩|⟨x,t,rfl,rfl⟩
  ·rcases cR hv with ⟨j,u,rfl,rfl⟩|⟨y,u,rfl,rfl⟩
   ·rw [JP] at h;exact wpAny_eqBool_int h
   ·rw [JX] at h;exact SeqAt.EqAt.int_str i t y u _ _ _ _ h
  ·rcases cR hv with ⟨j,u,rfl,rfl⟩|⟨y,u,rfl,rfl⟩
   ·rw [J4] at h;exact SeqAt.EqAt.str_int x t j u _ _ _ _ h
   ·rw [Kt] at h;exact wpAny_eqBool_str h
 «strs»:=fun k x t v h=>by
  rcases cR h with ⟨i,u,rfl,e⟩|⟨y,u,rfl,e⟩
  ·exact nomatch e
  ·injection e with e1 _;subst e1;cases v <;> rfl
def AA (prog:Mh) (w:World) (i:Int) (t:Tok):(cC prog w).is (.inl i) (.int i t)=true:=EJ i t
def AO (prog:Mh) (w:World) (x:Str) (t:Tok):(cC prog w).is (.inr x) (.str x t)=true:=Er x t
inductive V where
 | non|bl (b:Bool)|int (i:Int)|str (x:Str)|byt (b:Array UInt8)|flt (b:UInt64)|ref (a:Addr)|ty (n:String)
 deriving DecidableEq
def RelV:V->Value->Prop
 | .non,u=>u=Ng
 | .bl b,u=>u=SK b
 | .int i,u=>∃ t,u=Ol i t
 | .str x,u=>∃ t,u=Ti x t
 | .byt b,u=>∃ t,u=Value.bytes b t
 | .flt b,u=>∃ t,u=TX b t
 | .ref a,u=>u=Ms a
 | .ty n,u=>u=SM n
abbrev Vals:List V->List Value->Prop:=Nl RelV
def Vals.length {xs:List V} {us:List Value} (r:Vals xs us):xs.length=us.length:=RC r
def Vals.get:∀ {xs:List V} {us:List Value} {i:Nat} {x:V},Vals xs us->xs[i]?=some x->∃ u,us[i]?=some u/\RelV x u
 | _,_,_,_,.nil,e=>by simp at e
 | _,_,0,_,.cons r _,e=>by simp at e;subst e;exact ⟨_,rfl,r⟩
 | _,_,i+1,x,.cons _ t,e=>by
  obtain ⟨u,h1,h2⟩:=Vals.get (i:=i) (x:=x) t (by simpa using e)
  exact ⟨u,by simpa using h1,h2⟩
def Vals.set {x:V} {u:Value} (r:RelV x u):∀ {xs:List V} {us:List Value} (i:Nat),Vals xs us->Vals (xs.set i x) (us.set i u)
 | _,_,_,.nil=>.nil
 | _,_,0,.cons _ t=>.cons r t
 | _,_,i+1,.cons q t=>.cons q (Vals.set r i t)
def Vals.append:∀ {xs ys:List V} {us ws:List Value},Vals xs us->Vals ys ws->Vals (xs++ys) (us++ws)
 | _,_,_,_,.nil,s=>s
 | _,_,_,_,.cons r t,s=>.cons r (Vals.append t s)
def Vals.take:∀ {xs:List V} {us:List Value} (n:Nat),Vals xs us->Vals (xs.take n) (us.take n)
 | _,_,0,_=>.nil
 | _,_,_+1,.nil=>.nil
 | _,_,n+1,.cons r t=>.cons r (Vals.take n t)
def Vals.drop:∀ {xs:List V} {us:List Value} (n:Nat),Vals xs us->Vals (xs.drop n) (us.drop n)
 | _,_,0,r=>r
 | _,_,_+1,.nil=>.nil
 | _,_,n+1,.cons _ t=>Vals.drop n t
def fG:Option V->Option Value->Prop
 | some v,some u=>RelV v u
 | none,none=>True
 | _,_=>False
def KV {κ:Type}:List (κ×V)->List (κ×Value)->Prop:=Nl fun (p:κ×V) (q:κ×Value)=>p.1=q.1/\RelV p.2 q.2
def kV:Key->V
 | .inl i=>.int i
 | .inr x=>.str x
inductive HO where
  | lst (xs:List V)
  | tup (xs:List V)
  | dK (kvs:List (Key×V))|dT (kvs:List (List Key×V))
  | set (S:Int->Bool) (n:Nat)
  | ins (C dx:Addr) (fs:List (Str×V))
  | own (x:Addr)
  | xd (fs:List (Str×V))
  | met (f x:Addr)
  | rng (lo hi:Int)
  | frz (o:Obj) (u:HO)
  | tbl (ps:Array Value)
  | ext (φ:Heap->Prop)
abbrev Hp:=Addr->Option HO
def upd (H:Hp) (a:Addr) (o:HO):Hp:=fun b=>if b=a then some o else H b
def ar {H:Hp} {a:Addr} {o:HO}:upd H a o a=some o:=by unfold upd;rw [if_pos rfl]
def aA {H:Hp} {a b:Addr} {o:HO} (h:b≠a):upd H a o b=H b:=by unfold upd;rw [if_neg h]
def A9 {H:Hp} {a:Addr} {o u:HO}:upd (upd H a o) a u=upd H a u:=by
 funext b;unfold upd;split <;> rfl
def Lk {H:Hp} {a b:Addr} {o u:HO} (h:H a=some o) (h':H b=some u) (d:o≠u):a≠b:=by
 intro e;subst e;rw [h] at h';exact d (ME h')
def aS {H:Hp} {a b:Addr} {o:HO} (h:H a=some o) (h':H b=none):a≠b:=by
 intro e;subst e;rw [h] at h';cases h'
section
variable (P:Mh) (w:World)
def bB (H:Hp) (h:Heap) (a:Addr):HO->Prop
 | .lst xs=>xs.length<=Mx/\∃ (its:List Value) (n:Nat),Vals xs its/\h.get? a=some { cls:=.type "list",data:=.seq its.toArray n }
 | .tup xs=>xs.length<=Mx/\∃ its:List Value,Vals xs its/\IsTup h a its.toArray
 | .dK kvs=>kvs.length<=Mx/\(a == sysModules)=false/\∃ vs,KV kvs vs/\h.DictOf (cC P w) a vs
 | .dT kvs=>kvs.length<=Mx/\(a == sysModules)=false/\∃ xs:List (List Key×Addr×Value),
   Nl (fun (p:List Key×V) (q:List Key×Addr×Value)=>p.1=q.1/\H q.2.1=some (.tup (p.1.map kV))/\RelV p.2 q.2.2) kvs xs /\
   ∃ o es ep,h.get? a=some o/\o.ExactDict/\o.data=.dict es ep/\es.toList=xs.map (entryOfKey (tupleKind (cC P w)))/\(xs.map (·.1)).Nodup
 | .set S n=>h.SetOf (intKind P w) a S n
 | .ins C dx fs=>H dx=some (.own a)/\fs.length<=1000/\dx≠a/\h.get? a=some (OA C dx) /\
   ∃ mA,h.Ns1 dx mA/\(∀ f,fG (fs.lookup f) (mA f))/\QW mA (fs.map (·.1))
 | .own _=>∃ o,h.get? a=some o
 | .xd fs=>∃ mA,h.Ns1 a mA/\∀ f,fG (fs.lookup f) (mA f)
 | .rng lo hi=>∃ t u v,h.get? a=some { cls:=.type "range",data:=.fields #[.int lo t,.int hi u,.int 1 v] }
 | .frz o u=>h.get? a=some o/\bB H h a u
 | .tbl ps=>h.get? a=some { cls:=.none,data:=.fields ps }
 | .met f x=>h.get? a=some (Rf (.ref f) (.ref x))
 | .ext φ=>φ h/\(∃ o,h.get? a=some o)/\∀ h1 h2:Heap,φ h1->(∀ o,h1.get? a=some o->h2.get? a=some o)->φ h2
def HOk (H:Hp) (h:Heap):Prop:=∀ a o,H a=some o->bB P w H h a o
end
section
variable {P:Mh} {w:World} {H H':Hp} {h h':Heap} {a:Addr} {o:HO}
def bB.lt (x:bB P w H h a o):a<h.objs.size:=by
 cases o with
 | lst xs=>obtain ⟨_,_,_,_,e⟩:=x;exact L5 e
 | tup xs=>obtain ⟨_,_,_,p⟩:=x;exact p.lt
 | dK kvs=>obtain ⟨_,_,_,_,o,_,_,e,_⟩:=x;exact L5 e
 | dT kvs=>obtain ⟨_,_,_,_,o,_,_,e,_⟩:=x;exact L5 e
 | set S n=>obtain ⟨o,_,_,_,e,_⟩:=x;exact L5 e
 | ins C dx fs=>obtain ⟨_,_,_,e,_⟩:=x;exact L5 e
 | own y=>obtain ⟨_,e⟩:=x;exact L5 e
 | xd fs=>obtain ⟨_,⟨_,_,_,e,_⟩,_⟩:=x;exact L5 e
 | rng lo hi=>obtain ⟨_,_,_,e⟩:=x;exact L5 e
 | frz ob u=>obtain ⟨e,_⟩:=x;exact L5 e
 | tbl ps=>exact L5 (show h.get? a=some _ from x)
 | met f y=>exact L5 (show h.get? a=some _ from x)
 | ext φ=>obtain ⟨_,⟨_,e⟩,_⟩:=x;exact L5 e
def Paired.cb {α β:Type} {F G:α->β->Prop}:∀ {l₁:List α} {l₂:List β},Nl F l₁ l₂->(∀ a b,F a b->G a b)->Nl G l₁ l₂
 | _,_,.nil,_=>.nil
 | _,_,.cons r t,f=>.cons (f _ _ r) (Paired.cb t f)
def bB.kQ (x:bB P w H h a o) (k:∀ b u,(b=a\/H b=some (.own a))->h.get? b=some u->h'.get? b=some u)
  (ho:∀ b,H b=some (.own a)->H' b=some (.own a)) (ht:∀ b xs,H b=some (.tup xs)->H' b=some (.tup xs)):bB P w H' h' a o:=by
 induction o with
 | lst xs=>obtain ⟨z,its,n,r,e⟩:=x;exact ⟨z,its,n,r,k _ _ (.inl rfl) e⟩
 | tup xs=>obtain ⟨z,its,r,ob,e,c⟩:=x;exact ⟨z,its,r,ob,k _ _ (.inl rfl) e,c⟩
 | dK kvs=>obtain ⟨z,y,vs,r,ob,es,ep,e,c⟩:=x;exact ⟨z,y,vs,r,ob,es,ep,k _ _ (.inl rfl) e,c⟩
 | dT kvs =>
  obtain ⟨z,y,xs,r,ob,es,ep,e,c⟩:=x;exact ⟨z,y,xs,Paired.cb r fun p q z=>⟨z.1,ht _ _ z.2.1,z.2.2⟩,ob,es,ep,k _ _ (.inl rfl) e,c⟩
 | set S n=>obtain ⟨ob,es,ep,t,e,c⟩:=x;exact ⟨ob,es,ep,t,k _ _ (.inl rfl) e,c⟩
 | ins C dx fs =>
  obtain ⟨d,z,ne,e,mA,⟨od,es,ep,e2,c⟩,r⟩:=x;exact ⟨ho _ d,z,ne,k _ _ (.inl rfl) e,mA,⟨od,es,ep,k _ _ (.inr d) e2,c⟩,r⟩
 | own y=>obtain ⟨ob,e⟩:=x;exact ⟨ob,k _ _ (.inl rfl) e⟩
 | xd fs=>obtain ⟨mA,⟨od,es,ep,e,c⟩,r⟩:=x;exact ⟨mA,⟨od,es,ep,k _ _ (.inl rfl) e,c⟩,r⟩
 | rng lo hi=>obtain ⟨t,u,v,e⟩:=x;exact ⟨t,u,v,k _ _ (.inl rfl) e⟩
 | frz ob u ih=>obtain ⟨e,q⟩:=x;exact ⟨k _ _ (.inl rfl) e,ih q⟩
 | tbl ps =>
  have e:h.get? a=some { cls:=.none,data:=.fields ps }:=x;show h'.get? a=some { cls:=.none,data:=.fields ps };exact k a _ (.inl rfl) e
 | met f y =>
  have e:h.get? a=some (Rf (.ref f) (.ref y)):=x;show h'.get? a=some (Rf (.ref f) (.ref y));exact k a _ (.inl rfl) e
 | ext φ=>obtain ⟨p,⟨o,e⟩,st⟩:=x;exact ⟨st _ _ p fun o q=>k _ _ (.inl rfl) q,⟨o,k _ _ (.inl rfl) e⟩,st⟩
def HOk.lt (x:HOk P w H h) (e:H a=some o):a<h.objs.size:=(x a o e).lt
def HOk.fresh (x:HOk P w H h) (e:h.objs.size<=a):H a=none:=by
 cases q:H a with
 | none=>rfl
 | some u=>exact absurd (Mm (x.lt q) e) (Oo _)
def HOk.kept (x:HOk P w H h) (k:∀ b u,h.get? b=some u->h'.get? b=some u):HOk P w H h':=fun a o e =>
 (x a o e).kQ (fun b u _ q=>k b u q) (fun _ q=>q) fun _ _ q=>q
def HOk.laid (x:HOk P w H h) (k:∀ b u,h.get? b=some u->h'.get? b=some u) (hp:h.objs.size<=a) (new:bB P w (upd H a o) h' a o):HOk P w (upd H a o) h':=fun b u e=>by
 have hn:=x.fresh hp
 by_cases hb:b=a
 ·subst hb;rw [ar] at e;cases e;exact new
 ·rw [aA hb] at e;exact (x b u e).kQ (fun c v _ q=>k c v q) (fun c q=>by rw [aA (aS q hn)];exact q) fun c xs q=>by rw [aA (aS q hn)];exact q
end
def Rd (H:Hp) (a:Addr) (u:HO):Prop:=H a=some u\/∃ o,H a=some (.frz o u)
def Rd.of {H:Hp} {a:Addr} {u:HO} (h:H a=some u):Rd H a u:=.inl h
def Rd.ok {P:Mh} {w:World} {H:Hp} {h:Heap} {a:Addr} {u:HO} (r:Rd H a u) (x:HOk P w H h):bB P w H h a u:=by
 rcases r with r|⟨o,r⟩
 ·exact x a u r
 ·obtain ⟨_,q⟩:=x a _ r;exact q
def Mut:Option HO->Prop
 | some (.lst _)=>True
 | some (.dK _)=>True
 | some (.dT _)=>True
 | some (.set _ _)=>True
 | some (.ins _ _ _)=>True
 | some (.ext _)=>True
 | _=>False
section
variable {P:Mh} {w:World} {H:Hp} {h h':Heap} {x e:Addr} {o':HO}
def HOk.write (ok:HOk P w H h) (mu:Mut (H x)) (he:e=x\/H e=some (.own x)) (k:∀ b u,b≠e->h.get? b=some u->h'.get? b=some u) (heo:∃ u,h'.get? e=some u)
  (new:bB P w (upd H x o') h' x o'):HOk P w (upd H x o') h':=fun b u q=>by
 have nown:∀ c y,H c=some (.own y)->c≠x:=fun c y r z=>by subst z;rw [r] at mu;exact mu
 have ntup:∀ c xs,H c=some (.tup xs)->c≠x:=fun c xs r z=>by subst z;rw [r] at mu;exact mu
 by_cases hb:b=x
 ·subst hb;rw [ar] at q;cases q;exact new
 ·rw [aA hb] at q
  by_cases hbe:b=e
  ·have q':H b=some (.own x):=by
    rcases he with z|z
    ·exact absurd (hbe.trans z) hb
    ·rw [hbe];exact z
   rw [q] at q';cases q';obtain ⟨v,hv⟩:=heo;exact ⟨v,by rw [hbe];exact hv⟩
  ·refine (ok b u q).kQ (fun c v hc r=>k c v ?_ r) (fun c r=>by rw [aA (nown c b r)];exact r) fun c xs r=>by rw [aA (ntup c xs r)];exact r
   rcases hc with rfl|hc
   ·exact hbe
   ·rintro rfl;rcases he with z|z
    ·exact nown c b hc z
    ·rw [hc] at z;cases z;exact hb rfl
end
structure Un (fs ex:List Addr) (H H':Hp) (h h':Heap):Prop where
 keep:∀ b o,h.get? b=some o->H b=none->b∉fs->b∉ex->h'.get? b=some o
 slot:∀ b o,h.get? b=some o->H b=none->b∈fs->b∉ex->∃ sl,h'.get? b=some { o with slots:=sl }
 free:∀ b o,h.get? b=some o->H b=none->b∉ex->H' b=none
 there:∀ b o,h.get? b=some o->b∉ex->∃ o',h'.get? b=some o'
 gh:∀ b xs,H b=some (.tup xs)->H' b=some (.tup xs)
 fU:∀ b o u,H b=some (.frz o u)->H' b=some (.frz o u)
 gj:∀ b ps,H b=some (.tbl ps)->∃ more,H' b=some (.tbl (ps++more))
section
variable {fs fs' ex ex':List Addr} {H H1 H2:Hp} {h h1 h2 h':Heap} {a x e:Addr} {o:HO}
def Un.any (u:Un fs ex H H1 h h1) {b:Addr} {ob:Obj} (q:h.get? b=some ob) (n:H b=none) (hx:b∉ex):∃ sl,h1.get? b=some { ob with slots:=sl }:=by
 by_cases hb:b∈fs
 ·exact u.slot b ob q n hb hx
 ·exact ⟨ob.slots,u.keep b ob q n hb hx⟩
def Un.trans (a:Un fs ex H H1 h h1) (b:Un fs ex H1 H2 h1 h2):Un fs ex H H2 h h2 where
 keep:=fun c ob q n hc hx=>b.keep c ob (a.keep c ob q n hc hx) (a.free c ob q n hx) hc hx
 slot:=fun c ob q n hc hx=>by
  obtain ⟨sl,e1⟩:=a.slot c ob q n hc hx;obtain ⟨sl',e2⟩:=b.slot c _ e1 (a.free c ob q n hx) hc hx;exact ⟨sl',e2⟩
 free:=fun c ob q n hx=>by
  obtain ⟨o',e1⟩:=a.there c ob q hx;exact b.free c o' e1 (a.free c ob q n hx) hx
 there:=fun c ob q hx=>by
  obtain ⟨o',e1⟩:=a.there c ob q hx;exact b.there c o' e1 hx
 gh:=fun c xs q=>b.gh c xs (a.gh c xs q)
 fU:=fun c ob xs q=>b.fU c ob xs (a.fU c ob xs q)
 gj:=fun c ps q=>by
  obtain ⟨m1,e1⟩:=a.gj c ps q;obtain ⟨m2,e2⟩:=b.gj c _ e1;exact ⟨m1++m2,by rw [e2,Array.append_assoc]⟩
def Un.kept (k:∀ b u,h.get? b=some u->h'.get? b=some u):Un fs ex H H h h' :=
 ⟨fun b ob q _ _ _=>k b ob q,fun b ob q _ _ _=>⟨ob.slots,k b ob q⟩,fun _ _ _ n _=>n,fun b ob q _=>⟨ob,k b ob q⟩,fun _ _ q=>q,fun _ _ _ q=>q,fun _ ps q=>⟨#[],by rw [q];simp⟩⟩
def Un.refl:Un fs ex H H h h:=Un.kept fun _ _ q=>q
def Un.laid (k:∀ b u,h.get? b=some u->h'.get? b=some u) (hp:h.objs.size<=a) (hn:H a=none):Un fs ex H (upd H a o) h h' where
 keep:=fun b u q _ _ _=>k b u q
 slot:=fun b u q _ _ _=>⟨u.slots,k b u q⟩
 free:=fun b u q n _=>by rw [aA (Mc (Mm (L5 q) hp))];exact n
 there:=fun b u q _=>⟨u,k b u q⟩
 gh:=fun b xs q=>by rw [aA (aS q hn)];exact q
 fU:=fun b u xs q=>by rw [aA (aS q hn)];exact q
 gj:=fun b ps q=>⟨#[],by rw [aA (aS q hn),q];simp⟩
def Un.write (mu:Mut (H x)) (he:e=x\/H e=some (.own x)) (k:∀ b u,b≠e->h.get? b=some u->h'.get? b=some u) (heo:∃ u,h'.get? e=some u):Un fs ex H (upd H x o) h h':=by
 have hx:∀ b,H b=none->b≠x:=fun b n z=>by subst z;rw [n] at mu;exact mu
 have hb:∀ b,H b=none->b≠e:=fun b n z=>by
  subst z;rcases he with r|r
  ·exact hx b n r
  ·rw [n] at r;cases r
 have hm:∀ b u,H b=some u->¬ Mut (some u)->b≠x:=fun b u q nm z=>by subst z;rw [q] at mu;exact nm mu
 refine ⟨fun b u q n _ _=>k b u (hb b n) q,fun b u q n _ _=>⟨u.slots,k b u (hb b n) q⟩,fun b u q n _=>by rw [aA (hx b n)];exact n,fun b u q _=>?_,
  fun b xs q=>by rw [aA (hm b _ q fun z=>z)];exact q,fun b u xs q=>by rw [aA (hm b _ q fun z=>z)];exact q,fun b ps q=>⟨#[],by rw [aA (hm b _ q fun z=>z),q];simp⟩⟩
 by_cases hbe:b=e
 ·subst hbe;exact heo
 ·exact ⟨u,k b u hbe q⟩
def Un.mono (u:Un fs ex H H1 h h1) (hs:∀ b∈fs,b∈fs') (hx:∀ b∈ex,b∈ex'):Un fs' ex' H H1 h h1 :=
 ⟨fun b ob q n hb he=>u.keep b ob q n (fun z=>hb (hs b z)) fun z=>he (hx b z),fun _ _ q n _ he=>u.any q n fun z=>he (hx _ z),fun b ob q n he=>u.free b ob q n fun z=>he (hx b z),fun b ob q he=>u.there b ob q fun z=>he (hx b z),u.gh,u.fU,u.gj⟩
end
def trk (h:Heap) (H:Hp):List Addr:=(LX h.objs.size).filter fun a=>(H a).isSome
def mQ (h:Heap) (H:Hp):Heap:=PySem.W.hideAll h (trk h H)
def DY (h:Heap) (H:Hp):(mQ h H).objs.size=h.objs.size:=PySem.W.hideAll_size _ _
def GZ {h:Heap} {H:Hp} {b:Addr} {o:Obj} (e:h.get? b=some o) (n:H b=none):(mQ h H).get? b=some o :=
 PySem.W.hideAll_get _ e fun hm=>by
  have q:(H b).isSome=true:=(Nj.mp hm).2;rw [n] at q;simp at q
def Jj {h:Heap} {H:Hp} {b:Addr} {o:Obj} (e:(mQ h H).get? b=some o):h.get? b=some o/\H b=none:=by
 have e':h.get? b=some o:=PySem.W.of_hideAll (trk h H) e;refine ⟨e',?_⟩;cases q:H b with
 | none=>rfl
 | some x =>
  have hm:b∈trk h H:=Nj.mpr ⟨L9.mpr (L5 e'),by simp [q]⟩
  have z:(mQ h H).get? b=none:=PySem.W.hideAll_none (trk h H) hm;rw [z] at e;cases e
structure Mod (K:LN) (mg:Str->Option Value) (base:Heap):Prop where
 kin:K.In base
 glob:base.Ns MO mg
 blt:∃ mb,base.Ns builtinsNs mb/\∀ x:Str,x ≠ "__name__" -> mb x=bootBuiltins x
 nolimit:base.NoLimit
structure Cx where
 prog:Mh
 w:World
 K:LN
 mg:Str->Option Value
 base:Heap
 A:MP
 N:List Str
 s₀:LU
 H₀:Hp
 env:Env
 outer:List Env
 stack:List Env
 ex:List Addr
 fn:Str->Bool
 calm:Bool
 pn:List (Addr×Obj)
 xe:Value->LU->Prop
def frs (l:List Env):List Addr:=l.filterMap (·.frame)
abbrev Cx.fs (X:Cx):List Addr:=frs X.outer
def Vis (sc:Scope) (x:Str):Prop:=sc.names.lookup x=some .local\/sc.names.lookup x=some .cell\/sc.names.lookup x=some .free
def Loc (sc:Scope) (x:Str):Prop:=sc.names.lookup x=some .local\/sc.names.lookup x=some .cell
def Look (env:Env) (h:Heap) (m:Str->Option Value) (x:Str) (u:Value):Prop :=
 (env.kindOf x=some .local/\m x=some u)\/((env.kindOf x=some .cell\/env.kindOf x=some .free)/\∃ c,env.cells.lookup x=some c/\h.IsCell c (some u))
structure Cx.Ok (X:Cx):Prop where
 mod:Mod X.K X.mg X.base
 kind:X.env.scope.kind=.function
 glob:X.env.globals=MO
 blt:X.env.builtins=builtinsNs
 above:X.s₀.heap.objs.size<=X.env.locals
 inj:∀ x y c,X.env.cells.lookup x=some c->X.env.cells.lookup y=some c->x=y
 has:∀ x,(X.env.kindOf x=some .cell\/X.env.kindOf x=some .free)->∃ c,X.env.cells.lookup x=some c
 cab:∀ x c,X.fn x=true->X.env.cells.lookup x=some c->X.s₀.heap.objs.size<=c
 hd:X.calm=true->X.A.handled=none
 frames:X.A.frames=some X.stack
 stk:X.stack=X.outer\/(X.stack=X.env :: X.outer/\X.env.frame=some X.env.locals)
 exf:∀ b∈X.ex,b≠X.env.locals/\∀ x c,X.env.cells.lookup x=some c->c≠b
 bs:∀ b o,X.base.get? b=some o->X.s₀.heap.get? b=some o/\X.H₀ b=none
 bsz:X.base.objs.size<=X.s₀.heap.objs.size
 u6:∀ b o,X.base.get? b=some o->b∉X.ex
 rD:∀ b∈X.ex,b∉X.fs
 eK:X.s₀.heap.FunFrames X.base X.outer
 frf:∀ b∈X.fs,X.H₀ b=none
structure Inv (X:Cx) (pins:List (Addr×Obj)) (σ:List (Option V)) (H:Hp) (s:LU):Prop where
 ok:X.Ok
 os:s.os=X.s₀.os
 bare:RD s.gens
 base:Un X.fs X.ex X.H₀ H X.s₀.heap s.heap
 loc:∃ m,s.heap.Ns X.env.locals m/\∀ (i:Nat) (x:Str) (v:V),X.N[i]?=some x->σ[i]?=some (some v)->Vis X.env.scope x->∃ u,RelV v u/\Look X.env s.heap m x u
 cell:∀ x c,X.env.cells.lookup x=some c->∃ v,s.heap.IsCell c v
 free:H X.env.locals=none
 eD:∀ x c,X.env.cells.lookup x=some c->H c=none
 pin:∀ p∈X.pn++pins,s.heap.get? p.1=some p.2/\H p.1=none/\p.1≠X.env.locals/\p.1∉X.fs/\∀ v,p.2.data≠.cell v
 hok:HOk X.prog X.w H s.heap
 len:σ.length=X.N.length
section
variable {X:Cx} {pins:List (Addr×Obj)} {σ:List (Option V)} {H H':Hp} {s:LU} {h':Heap}
def Cx.Ok.LG (ok:X.Ok) {b:Addr} {o:Obj} (e:X.base.get? b=some o):b∉X.fs:=fun hb=>by
 have:=(ok.eK.mem hb).1;rw [e] at this;cases this
def Inv.bs (I:Inv X pins σ H s):∀ b o,X.base.get? b=some o->s.heap.get? b=some o/\H b=none:=fun b o e =>
 ⟨I.base.keep b o (I.ok.bs b o e).1 (I.ok.bs b o e).2 (I.ok.LG e) (I.ok.u6 b o e),I.base.free b o (I.ok.bs b o e).1 (I.ok.bs b o e).2 (I.ok.u6 b o e)⟩
def Inv.bk (I:Inv X pins σ H s):∀ b o,X.base.get? b=some o->s.heap.get? b=some o:=fun b o e=>(I.bs b o e).1
def Inv.mod (I:Inv X pins σ H s):Mod X.K X.mg X.base:=I.ok.mod
def Inv.kIn (I:Inv X pins σ H s):X.K.In s.heap:=I.ok.mod.kin.keeps I.bk
def Inv.lt (I:Inv X pins σ H s):X.env.locals<s.heap.objs.size:=let ⟨_,hn,_⟩:=I.loc;hn.lt
def Inv.sz (I:Inv X pins σ H s):X.s₀.heap.objs.size<=s.heap.objs.size:=M7 I.ok.above (Ou I.lt)
def Inv.Lz (I:Inv X pins σ H s) {a:Addr} (h:s.heap.objs.size<=a):a∉X.fs:=fun hb=>by
 obtain ⟨_,o,ho,_⟩:=I.ok.eK.mem hb;exact absurd (Mm (L5 ho) (M7 I.sz h)) (Oo _)
def Inv.cne (I:Inv X pins σ H s):∀ x c,X.env.cells.lookup x=some c->c≠X.env.locals:=fun x c e z=>by
 obtain ⟨v,o,ho,hd⟩:=I.cell x c e;obtain ⟨m,⟨o',es,ep,ho',hd',_⟩,_⟩:=I.loc;rw [z,ho'] at ho;cases ho;rw [hd'] at hd;cases hd
def Inv.eK (I:Inv X pins σ H s):s.heap.FunFrames X.base X.outer:=by
 have all:∀ (l:List Env),(∀ b∈frs l,b∈X.fs)->X.s₀.heap.FunFrames X.base l->s.heap.FunFrames X.base l:=by
  intro l
  induction l with
  | nil=>intro _ _;trivial
  | cons env r ih =>
   intro hs hl;obtain ⟨hk,⟨L,o,hf,hn,ho,hd⟩,hr⟩:=hl;have hL:L∈X.fs:=hs L (by unfold frs;rw [N6,hf];exact L8)
   obtain ⟨sl,e⟩:=I.base.slot L o ho (I.ok.frf L hL) hL fun z=>I.ok.rD L z hL;exact ⟨hk,⟨L,_,hf,hn,e,hd⟩,ih (fun b hb=>hs b (by unfold frs;rw [N6,hf];exact L4 _ hb)) hr⟩
 exact all X.outer (fun _ hb=>hb) I.ok.eK
def Inv.stack (I:Inv X pins σ H s):s.heap.FunFrames X.base X.stack:=by
 rcases I.ok.stk with e|⟨e,hf⟩
 ·rw [e];exact I.eK
 ·rw [e];obtain ⟨m,hn,_⟩:=I.loc;refine .cons (by rw [I.ok.kind];decide) hf hn ?_ I.eK
  exact SR (M7 I.ok.bsz I.ok.above)
def Inv.uc (I:Inv X pins σ H s):∀ b∈frs X.stack,b∈X.env.locals :: X.fs:=fun b hb=>by
 rcases I.ok.stk with e|⟨e,hf⟩
 ·rw [e] at hb;exact L4 _ hb
 ·rw [e] at hb;unfold frs at hb;rw [N6,hf] at hb;exact hb
def Inv.Be (I:Inv X pins σ H s):∀ b∈frs X.stack,H b=none:=fun b hb=>by
 rcases Mp.mp (I.uc b hb) with e|hb
 ·rw [e];exact I.free
 ·obtain ⟨_,o,ho,_⟩:=I.ok.eK.mem hb;exact I.base.free b o ho (I.ok.frf b hb) fun z=>I.ok.rD b z hb
def Inv.step {g':Array Qr} {t':Nat} {d':Drawn} {ch:List Addr} (I:Inv X pins σ H s)
  (hch:∀ b∈ch,(b∈X.ex\/X.s₀.heap.objs.size<=b)/\b≠X.env.locals/\(∀ x c,X.env.cells.lookup x=some c->c≠b)/\∀ p∈X.pn++pins,p.1≠b)
  (keep:∀ b o,b≠X.env.locals->b∉X.fs->b∉ch->s.heap.get? b=some o->H b=none->h'.get? b=some o)
  (slot:∀ b o,b≠X.env.locals->b∈X.fs->b∉ch->s.heap.get? b=some o->H b=none->∃ sl,h'.get? b=some { o with slots:=sl }) (free:∀ b o,b∉ch->s.heap.get? b=some o->H b=none->H' b=none)
  (there:∀ b o,b∉ch->s.heap.get? b=some o->∃ o',h'.get? b=some o')
  (gh:∀ b xs,H b=some (.tup xs)->H' b=some (.tup xs)) (fU:∀ b o u,H b=some (.frz o u)->H' b=some (.frz o u)) (gj:∀ b ps,H b=some (.tbl ps)->∃ more,H' b=some (.tbl (ps++more)))
  (ns:∀ m,s.heap.Ns X.env.locals m->h'.Ns X.env.locals m) (hok:HOk X.prog X.w H' h') (hg:RD g') :
  Inv X pins σ H' { s with heap:=h',gens:=g',drawn:=d',toks:=t' }:=by
 have neL:∀ b o,X.s₀.heap.get? b=some o->b≠X.env.locals:=fun b o e=>Mc (Mm (L5 e) I.ok.above);have neC:∀ b o,X.s₀.heap.get? b=some o->b∉X.ex->b∉ch:=fun b o e hx hb=>by
  rcases (hch b hb).1 with z|z
  ·exact hx z
  ·exact absurd (Mm (L5 e) z) (Oo _)
 have cellK:∀ x c,X.env.cells.lookup x=some c->∀ v,s.heap.IsCell c v->h'.IsCell c v:=fun x c e v ⟨o,ho,hd⟩=>by
  have nch:c∉ch:=fun z=>(hch c z).2.2.1 x c e rfl
  by_cases hc:c∈X.fs
  ·obtain ⟨sl,q⟩:=slot c o (I.cne x c e) hc nch ho (I.eD x c e);exact ⟨_,q,hd⟩
  ·exact ⟨o,keep c o (I.cne x c e) hc nch ho (I.eD x c e),hd⟩
 refine ⟨I.ok,I.os,hg,⟨fun b o e n hb hx=>?_,fun b o e n hb hx=>?_,fun b o e n hx=>?_,fun b o e hx=>?_,fun b xs e=>gh b xs (I.base.gh b xs e),fun b o xs e=>fU b o xs (I.base.fU b o xs e),fun b ps e=>?_⟩,?_,fun x c e=>?_,?_,fun x c e=>?_,fun p hp=>?_,hok,I.len⟩
 ·exact keep b o (neL b o e) hb (neC b o e hx) (I.base.keep b o e n hb hx) (I.base.free b o e n hx)
 ·obtain ⟨sl,e1⟩:=I.base.slot b o e n hb hx;obtain ⟨sl',e2⟩:=slot b _ (neL b o e) hb (neC b o e hx) e1 (I.base.free b o e n hx);exact ⟨sl',e2⟩
 ·obtain ⟨o',e1⟩:=I.base.there b o e hx;exact free b o' (neC b o e hx) e1 (I.base.free b o e n hx)
 ·obtain ⟨o',e1⟩:=I.base.there b o e hx;exact there b o' (neC b o e hx) e1
 ·obtain ⟨m1,e1⟩:=I.base.gj b ps e;obtain ⟨m2,e2⟩:=gj b _ e1;exact ⟨m1++m2,by rw [e2,Array.append_assoc]⟩
 ·obtain ⟨m,hn,hl⟩:=I.loc;refine ⟨m,ns m hn,fun i x v e1 e2 e3=>?_⟩;obtain ⟨u,r,l⟩:=hl i x v e1 e2 e3;refine ⟨u,r,?_⟩;rcases l with l|⟨k,c,e,z⟩
  ·exact .inl l
  ·exact .inr ⟨k,c,e,cellK x c e _ z⟩
 ·obtain ⟨v,z⟩:=I.cell x c e;exact ⟨v,cellK x c e v z⟩
 ·obtain ⟨m,⟨o,_,_,ho,_⟩,_⟩:=I.loc;exact free _ o (fun z=>(hch _ z).2.1 rfl) ho I.free
 ·obtain ⟨v,o,ho,hd⟩:=I.cell x c e;exact free c o (fun z=>(hch c z).2.2.1 x c e rfl) ho (I.eD x c e)
 ·obtain ⟨e,n,ne,nf,d⟩:=I.pin p hp;have nch:p.1∉ch:=fun z=>(hch p.1 z).2.2.2 p hp rfl;exact ⟨keep p.1 p.2 ne nf nch e n,free p.1 p.2 nch e n,ne,nf,d⟩
def Inv.un {t':Nat} (I:Inv X pins σ H s) (u:Un X.fs [] H H' s.heap h') (hok:HOk X.prog X.w H' h'):Inv X pins σ H' { s with heap:=h',toks:=t' }:=by
 obtain ⟨m,⟨o,es,ep,ho,r⟩,_⟩:=id I.loc;obtain ⟨sl,hL⟩:=u.any ho I.free (by simp)
 exact I.step (g':=s.gens) (d':=s.drawn) (ch:=[]) (fun _ z=>nomatch z) (fun b o _ hb _ e n=>u.keep b o e n hb (by simp)) (fun b o _ hb _ e n=>u.slot b o e n hb (by simp)) (fun b o _ e n=>u.free b o e n (by simp)) (fun b o _ e=>u.there b o e (by simp)) u.gh u.fU u.gj (fun m' hm=>by
  obtain ⟨o',es',ep',ho',r'⟩:=hm;rw [ho] at ho';cases ho';exact ⟨_,es',ep',hL,r'⟩) hok I.bare
def Inv.call {g':Array Qr} {t':Nat} {d':Drawn} {ch:List Addr} (I:Inv X pins σ H s) (u:Un (frs X.stack) ch H H' s.heap h') (hok:HOk X.prog X.w H' h') (hg:RD g')
  (hch:∀ b∈ch,(b∈X.ex\/X.s₀.heap.objs.size<=b)/\b≠X.env.locals/\(∀ x c,X.env.cells.lookup x=some c->c≠b)/\∀ p∈X.pn++pins,p.1≠b) :
  Inv X pins σ H' { s with heap:=h',gens:=g',drawn:=d',toks:=t' }:=by
 obtain ⟨m,⟨o,es,ep,ho,r⟩,_⟩:=id I.loc;obtain ⟨sl,hL⟩:=u.any ho I.free fun z=>(hch _ z).2.1 rfl;exact I.step (ch:=ch) hch (fun b o hL hb hc e n=>u.keep b o e n (fun z=>(Mp.mp (I.uc b z)).elim hL hb) hc) (fun b o _ _ hc e n=>u.any e n hc) (fun b o hc e n=>u.free b o e n hc) (fun b o hc e=>u.there b o e hc) u.gh u.fU u.gj (fun m' hm=>by
  obtain ⟨o',es',ep',ho',r'⟩:=hm;rw [ho] at ho';cases ho';exact ⟨_,es',ep',hL,r'⟩) hok hg
def Inv.turned {t':Nat} {it:Addr} (I:Inv X pins σ H s) (k:∀ b o,b≠it->s.heap.get? b=some o->h'.get? b=some o) (hn:H it=none) (hL:it≠X.env.locals)
  (h1:it∈X.ex\/X.s₀.heap.objs.size<=it) (h2:∀ x c,X.env.cells.lookup x=some c->c≠it) (h3:∀ p∈X.pn++pins,p.1≠it):Inv X pins σ H { s with heap:=h',toks:=t' }:=by
 have nit:∀ b u,H b=some u->b≠it:=fun b u e z=>by rw [z,hn] at e;cases e
 refine I.step (g':=s.gens) (d':=s.drawn) (ch:=[it]) (fun b hb=>?_) (fun b o _ _ hc e _=>k b o (fun z=>hc (by simp [z])) e) (fun b o _ _ hc e _=>⟨o.slots,k b o (fun z=>hc (by simp [z])) e⟩) (fun _ _ _ _ n=>n)
  (fun b o hc e=>⟨o,k b o (fun z=>hc (by simp [z])) e⟩) (fun _ _ e=>e) (fun _ _ _ e=>e) (fun b ps e=>⟨#[],by rw [e];simp⟩) (fun m hm=>?_) (fun b u e=>?_) I.bare
 ·have e:b=it:=by simpa using hb
  subst e;exact ⟨h1,hL,h2,h3⟩
 ·obtain ⟨o,es,ep,ho,r⟩:=hm;exact ⟨o,es,ep,k _ o (NI hL) ho,r⟩
 ·refine (I.hok b u e).kQ (fun c v hc q=>k c v ?_ q) (fun _ q=>q) fun _ _ q=>q;rcases hc with z|z
  ·rw [z];exact nit b u e
  ·exact nit c _ z
def Inv.tok (I:Inv X pins σ H s) (t:Nat):Inv X pins σ H { s with toks:=t }:=I.un (h':=s.heap) (t':=t) Un.refl I.hok
def Inv.kept {t':Nat} (I:Inv X pins σ H s) (k:∀ b u,s.heap.get? b=some u->h'.get? b=some u):Inv X pins σ H { s with heap:=h',toks:=t' }:=I.un (Un.kept k) (I.hok.kept k)
def Inv.laid {a:Addr} {o:HO} {t':Nat} (I:Inv X pins σ H s) (k:∀ b u,s.heap.get? b=some u->h'.get? b=some u) (hp:s.heap.objs.size<=a) (new:bB X.prog X.w (upd H a o) h' a o) :
  Inv X pins σ (upd H a o) { s with heap:=h',toks:=t' }:=I.un (Un.laid k hp (I.hok.fresh hp)) (I.hok.laid k hp new)
def Inv.write {x e:Addr} {o:HO} {t':Nat} (I:Inv X pins σ H s) (mu:Mut (H x)) (he:e=x\/H e=some (.own x)) (k:∀ b u,b≠e->s.heap.get? b=some u->h'.get? b=some u) (heo:∃ u,h'.get? e=some u)
  (new:bB X.prog X.w (upd H x o) h' x o):Inv X pins σ (upd H x o) { s with heap:=h',toks:=t' }:=I.un (Un.write mu he k heo) (I.hok.write mu he k heo new)
def Inv.Bs {pins':List (Addr×Obj)} (I:Inv X pins σ H s) (h:∀ p∈pins',s.heap.get? p.1=some p.2/\H p.1=none/\p.1≠X.env.locals/\p.1∉X.fs/\∀ v,p.2.data≠.cell v):Inv X pins' σ H s :=
 ⟨I.ok,I.os,I.bare,I.base,I.loc,I.cell,I.free,I.eD,fun p hp=>(Mb.mp hp).elim (fun z=>I.pin p (NJ _ z)) (h p),I.hok,I.len⟩
def rC {N:List Str} (hN:N.Nodup) {i j:Nat} {x:Str} (a:N[i]?=some x) (b:N[j]?=some x):i=j:=by
 obtain ⟨h1,e1⟩:=LQ.mp a;obtain ⟨h2,e2⟩:=LQ.mp b;exact (RS hN).mp (e1.trans e2.symm)
def vv {M:Model} {A:MP} {E:Value->LU->Prop} {i:Nat} {x:Str} {v:V} {u:Value} {Q:Unit->LU->Prop} (I:Inv X pins σ H s) (hN:X.N.Nodup) (hi:X.N[i]?=some x) (hx:Loc X.env.scope x) (r:RelV v u)
  (h:∀ s',Inv X pins (σ.set i (some v)) H s'->(∃ a,O0 a s.heap s'.heap/\(a=X.env.locals\/X.env.cells.lookup x=some a))->Q () s') (hf:X.fn x=true\/X.env.scope.names.lookup x=some .local:=by first|exact .inl rfl|exact .inr rfl|assumption):wpAny M A (storeName X.env x u) Q E s:=by
 obtain ⟨m,hn,hl⟩:=id I.loc;have hcls:(X.env.scope.kind == .class || (X.env.scope.kind == .module && X.env.locals != X.env.globals))=false:=by rw [I.ok.kind];rfl
 have hiσ:i<σ.length:=by rw [I.len];exact (LQ.mp hi).1
 have cne:=I.cne;have tracked:∀ {a:Addr} {h':Heap},(∃ o,s.heap.get? a=some o/\H a=none)->O0 a s.heap h'->HOk X.prog X.w H h':=fun {a h'} ha hs b ob e=>by
  obtain ⟨_,_,hfree⟩:=ha;refine (I.hok b ob e).kQ (fun c w' hc q=>(hs.2 c ?_).trans q) (fun _ q=>q) fun _ _ q=>q;rintro rfl;rcases hc with rfl|hc
  ·rw [hfree] at e;cases e
  ·rw [hfree] at hc;cases hc
 rcases hx with hk|hk
 ·refine wpAny_storeName_local hk hn (fun h' hn' hs=>?_) hcls;obtain ⟨oL,_,_,hoL,_⟩:=id hn;refine h _ ⟨I.ok,I.os,I.bare,⟨fun b o e n hb hx=>?_,fun b o e n hb hx=>?_,I.base.free,fun b o e hx=>?_,I.base.gh,I.base.fU,I.base.gj⟩,⟨_,hn',fun j y v' e1 e2 e3=>?_⟩,fun y c e=>?_,I.free,I.eD,fun p hp=>?_,tracked ⟨oL,hoL,I.free⟩ hs,by simpa using I.len⟩ ⟨_,hs,.inl rfl⟩
  ·exact (hs.2 b (Mc (Mm (L5 e) I.ok.above))).trans (I.base.keep b o e n hb hx)
  ·obtain ⟨sl,e1⟩:=I.base.slot b o e n hb hx;exact ⟨sl,(hs.2 b (Mc (Mm (L5 e) I.ok.above))).trans e1⟩
  ·obtain ⟨o',e1⟩:=I.base.there b o e hx;exact ⟨o',(hs.2 b (Mc (Mm (L5 e) I.ok.above))).trans e1⟩
  ·by_cases hj:j=i
   ·subst hj;rw [hi] at e1;cases e1;rw [NM hiσ] at e2;cases e2;exact ⟨u,r,.inl ⟨hk,by simp⟩⟩
   ·rw [N2 (NI hj)] at e2;obtain ⟨u',r',q⟩:=hl j y v' e1 e2 e3;refine ⟨u',r',?_⟩;rcases q with ⟨k,e⟩|⟨k,c,e,z⟩
    ·refine .inl ⟨k,?_⟩;have:y≠x:=fun e=>hj (rC hN e1 (e ▸ hi));simp [this,e]
    ·exact .inr ⟨k,c,e,z.sameBut hs (cne y c e)⟩
  ·obtain ⟨w',z⟩:=I.cell y c e;exact ⟨w',z.sameBut hs (cne y c e)⟩
  ·obtain ⟨e,n,ne,nf,d⟩:=I.pin p hp;exact ⟨(hs.2 p.1 ne).trans e,n,ne,nf,d⟩
 ·have hfn:X.fn x=true:=by
   rcases hf with z|z
   ·exact z
   ·rw [z] at hk;cases hk
  obtain ⟨c,hc⟩:=I.ok.has x (.inl hk);obtain ⟨w',z⟩:=I.cell x c hc;refine wpAny_storeName_cell I.ok.kind hk hc z (fun h' hc' hs=>?_);obtain ⟨oc,hoc,hocd⟩:=id z;refine h { s with heap:=h' } ⟨I.ok,I.os,I.bare,⟨fun b o e n hb hx=>?_,fun b o e n hb hx=>?_,I.base.free,fun b o e hx=>?_,I.base.gh,I.base.fU,I.base.gj⟩,⟨m,hn.sameBut hs (NI (cne x c hc)),fun j y v' e1 e2 e3=>?_⟩,fun y c' e=>?_,I.free,I.eD,fun p hp=>?_,tracked ⟨oc,hoc,I.eD x c hc⟩ hs,by simpa using I.len⟩ ⟨c,hs,.inr hc⟩
  ·exact (hs.2 b (Mc (Mm (L5 e) (I.ok.cab x c hfn hc)))).trans (I.base.keep b o e n hb hx)
  ·obtain ⟨sl,e1⟩:=I.base.slot b o e n hb hx;exact ⟨sl,(hs.2 b (Mc (Mm (L5 e) (I.ok.cab x c hfn hc)))).trans e1⟩
  ·obtain ⟨o',e1⟩:=I.base.there b o e hx;exact ⟨o',(hs.2 b (Mc (Mm (L5 e) (I.ok.cab x c hfn hc)))).trans e1⟩
  ·by_cases hj:j=i
   ·subst hj;rw [hi] at e1;cases e1;rw [NM hiσ] at e2;cases e2;exact ⟨u,r,.inr ⟨.inl hk,c,hc,hc'⟩⟩
   ·rw [N2 (NI hj)] at e2;obtain ⟨u',r',q⟩:=hl j y v' e1 e2 e3;refine ⟨u',r',?_⟩;rcases q with q|⟨k,c',e,z'⟩
    ·exact .inl q
    ·refine .inr ⟨k,c',e,z'.sameBut hs ?_⟩;rintro rfl;exact hj (rC hN e1 (I.ok.inj _ _ _ e hc ▸ hi))
  ·by_cases hcc:c'=c
   ·subst hcc;exact ⟨_,hc'⟩
   ·obtain ⟨w2,z2⟩:=I.cell y c' e;exact ⟨w2,z2.sameBut hs hcc⟩
  ·obtain ⟨e,n,ne,nf,d⟩:=I.pin p hp;refine ⟨(hs.2 p.1 ?_).trans e,n,ne,nf,d⟩;intro q;rw [q,hoc] at e;have q':oc=p.2:=ME e;exact d w' (by rw [<- q'];exact hocd)
def kJ {M:Model} {A:MP} {E:Value->LU->Prop} {i:Nat} {x:Str} {v:V} {u:Value} {Q:Unit->LU->Prop} (I:Inv X pins σ H s) (hN:X.N.Nodup) (hi:X.N[i]?=some x) (hx:Loc X.env.scope x) (r:RelV v u)
  (h:∀ s',Inv X pins (σ.set i (some v)) H s'->Q () s') (hf:X.fn x=true\/X.env.scope.names.lookup x=some .local:=by first|exact .inl rfl|exact .inr rfl|assumption):wpAny M A (storeName X.env x u) Q E s :=
 vv I hN hi hx r (fun s' I' _=>h s' I') hf
def Inv.HP {s':LU} {ch:List Addr} (I:Inv X pins σ H s) (ho:s'.os=s.os) (u:Un (frs X.stack) ch H H' s.heap s'.heap) (hok:HOk X.prog X.w H' s'.heap) (hg:RD s'.gens)
  (hch:∀ b∈ch,(b∈X.ex\/X.s₀.heap.objs.size<=b)/\b≠X.env.locals/\(∀ x c,X.env.cells.lookup x=some c->c≠b)/\∀ p∈X.pn++pins,p.1≠b):Inv X pins σ H' s':=by
 obtain ⟨h',g',d',t',o'⟩:=s';have e:o'=s.os:=ho;subst e;exact I.call (g':=g') (t':=t') (d':=d') u hok hg hch
end
abbrev XK:=Value->Option Addr->Hp->Prop
abbrev St:=List (Option V)
abbrev VK:=V->Hp->Prop
abbrev TE:=St->Hp->VK->Prop
abbrev TT:=St->Hp->(Bool->Hp->Prop)->Prop
abbrev TA:=St->Hp->(List V->Hp->Prop)->Prop
structure Ends where
 nx:St->Hp->Prop
 rt:VK
 bk:St->Hp->Prop:=fun _ _=>False
 ct:St->Hp->Prop:=fun _ _=>False
abbrev TS:=Ends->St->Hp->Prop
def EP (X:Cx) (pins:List (Addr×Obj)) (σ:St) (Q:VK) (u:Value) (s':LU):Prop:=∃ v H',Inv X pins σ H' s'/\RelV v u/\Q v H'
def TP (X:Cx) (pins:List (Addr×Obj)) (σ:St) (Q:Bool->Hp->Prop) (b:Bool) (s':LU):Prop:=∃ H',Inv X pins σ H' s'/\Q b H'
def AP (X:Cx) (pins:List (Addr×Obj)) (σ:St) (Q:List V->Hp->Prop) (us:List Value) (s':LU):Prop:=∃ vs H',Inv X pins σ H' s'/\Vals vs us/\Q vs H'
def SP (X:Cx) (pins:List (Addr×Obj)) (D:Ends) (f:Flow) (s':LU):Prop :=
 match f with
 | .next=>∃ σ' H',Inv X pins σ' H' s'/\D.nx σ' H'
 | .brk=>∃ σ' H',Inv X pins σ' H' s'/\D.bk σ' H'
 | .cont=>∃ σ' H',Inv X pins σ' H' s'/\D.ct σ' H'
 | .ret u=>∃ v σ' H',Inv X pins σ' H' s'/\RelV v u/\D.rt v H'
def PE (X:Cx) (e:Expr) (t:TE):Prop :=
 ∀ (pins:List (Addr×Obj)) (s:LU) (σ:St) (H:Hp) (Q:VK),Inv X pins σ H s->t σ H Q->wpAny (model X.prog X.w) X.A (eval e X.env) (EP X pins σ Q) X.xe s
def PT (X:Cx) (e:Expr) (t:TT):Prop :=
 ∀ (pins:List (Addr×Obj)) (s:LU) (σ:St) (H:Hp) (Q:Bool->Hp->Prop),Inv X pins σ H s->t σ H Q->wpAny (model X.prog X.w) X.A (isTrue e X.env (eval e X.env)) (TP X pins σ Q) X.xe s
def PW (X:Cx) (e:Expr) (t:TT):Prop :=
 ∀ (whole:Sem Value) (pins:List (Addr×Obj)) (s:LU) (σ:St) (H:Hp) (Q:Bool->Hp->Prop),Inv X pins σ H s->t σ H Q->wpAny (model X.prog X.w) X.A (isTrue e X.env whole) (TP X pins σ Q) X.xe s
def PW.pt {X:Cx} {e:Expr} {t:TT} (h:PW X e t):PT X e t:=h _
def PA (X:Cx) (es:List Expr) (t:TA):Prop :=
 ∀ (pos:Pos) (pins:List (Addr×Obj)) (s:LU) (σ:St) (H:Hp) (Q:List V->Hp->Prop),Inv X pins σ H s->t σ H Q->wpAny (model X.prog X.w) X.A (spliced (backTo pos (MR es X.env))) (AP X pins σ Q) X.xe s
def PS (X:Cx) (st:Stmt) (t:TS):Prop :=
 ∀ (pins:List (Addr×Obj)) (s:LU) (σ:St) (H:Hp) (D:Ends),Inv X pins σ H s->t D σ H->wpAny (model X.prog X.w) X.A (exec st X.env) (SP X pins D) X.xe s
def PSs (X:Cx) (st:List Stmt) (t:TS):Prop :=
 ∀ (pins:List (Addr×Obj)) (s:LU) (σ:St) (H:Hp) (D:Ends),Inv X pins σ H s->t D σ H->wpAny (model X.prog X.w) X.A (execs st X.env) (SP X pins D) X.xe s
def thn {α:Type} {t:Sem α} {Q Q':α->LU->Prop} {M:Model} {A:MP} {E:Value->LU->Prop} {s:LU} (h:wpAny M A t Q E s) (hQ:∀ a s,Q a s->Q' a s):wpAny M A t Q' E s:=Nc h hQ fun _ _ x=>x
section
variable {X:Cx}
def Cw (i:Nat):TE:=fun σ H Q=>∃ v,σ[i]?=some (some v)/\Q v H
def tC (v:V):TE:=fun _ H Q=>Q v H
def KO {i:Nat} {x:Str} {pos:Pos} (hN:X.N[i]?=some x) (hv:Vis X.env.scope x) (hd:(x == ("__debug__" : Str))=false:=by decide) (hcd:(x == ("__classdict__" : Str))=false:=by decide):PE X (.Name x pos) (Cw i):=by
 intro pins s σ H Q I h;obtain ⟨v,e,h⟩:=h;obtain ⟨m,hn,hl⟩:=I.loc;obtain ⟨u,r,l⟩:=hl i x v hN e hv;have fin:EP X pins σ Q u s:=⟨v,H,I,r,h⟩;rcases l with ⟨hk,hm⟩|⟨hk,c,hc,hcell⟩
 ·exact wpAny_Name (wpAny_loadName_local I.ok.kind hk hn hm fin) hd
 ·rcases hk with hk|hk
  ·exact wpAny_Name (wpAny_loadName_cell I.ok.kind hk hc hcell fin) hd
  ·exact wpAny_Name (wpAny_loadName_free I.ok.kind hk hc hcell fin hcd) hd
def ag {i j pos}:PE X (.Constant (.int i) j pos) (tC (.int i)):=fun _ _ _ H _ I h=>wpAny_Constant_int ⟨.int i,H,I.tok _,⟨_,rfl⟩,h⟩
def gL {b j pos}:PE X (.Constant (.bool b) j pos) (tC (.bl b)):=fun _ _ _ H _ I h=>Constant_bool ⟨.bl b,H,I,rfl,h⟩
def yu {j pos}:PE X (.Constant .none j pos) (tC .non):=fun _ _ _ H _ I h=>Tj ⟨.non,H,I,rfl,h⟩
def bG {x j pos}:PE X (.Constant (.str x) j pos) (tC (.str x)):=fun _ _ _ H _ I h=>Calls.Constant_str ⟨.str x,H,I.tok _,⟨_,rfl⟩,h⟩
def Gl (X:Cx) (x:Str):Prop:=X.env.kindOf x=some .globalImplicit
def i7 {E:Value->LU->Prop} {pins:List (Addr×Obj)} {s:LU} {σ:St} {H:Hp} {x:Str} {u:Value} {pos:Pos} {Q:Value->LU->Prop} (I:Inv X pins σ H s) (hg:Gl X x) (hm:X.mg x=some u) (h:Q u s)
  (hd:(x == ("__debug__" : Str))=false:=by decide):wpAny (model X.prog X.w) X.A (eval (.Name x pos) X.env) Q E s :=
 QU I.ok.kind hg (Calls.loadGlobal_global (by rw [I.ok.glob];exact I.mod.glob.keeps I.bk) hm h) hd
def iT {E:Value->LU->Prop} {pins:List (Addr×Obj)} {s:LU} {σ:St} {H:Hp} {x:Str} {u:Value} {pos:Pos} {Q:Value->LU->Prop} (I:Inv X pins σ H s) (hg:Gl X x) (hm:X.mg x=none) (hv:bootBuiltins x=some u) (h:Q u s)
  (hn:x ≠ "__name__":=by decide) (hd:(x == ("__debug__" : Str))=false:=by decide):wpAny (model X.prog X.w) X.A (eval (.Name x pos) X.env) Q E s:=by
 obtain ⟨mb,h1,h2⟩:=I.mod.blt;exact QU I.ok.kind hg (Calls.loadGlobal_builtin (by rw [I.ok.glob];exact I.mod.glob.keeps I.bk) hm (by rw [I.ok.blt];exact h1.keeps I.bk) ((h2 x hn).trans hv) h) hd
def cB {x:Str} {v:V} {u:Value} {pos:Pos} (hg:Gl X x) (hm:X.mg x=some u) (r:RelV v u) (hd:(x == ("__debug__" : Str))=false:=by decide):PE X (.Name x pos) (tC v) :=
 fun _ _ _ H _ I h=>i7 I hg hm ⟨v,H,I,r,h⟩ hd
def ug {x:Str} {v:V} {u:Value} {pos:Pos} (hg:Gl X x) (hm:X.mg x=none) (hv:bootBuiltins x=some u) (r:RelV v u) (hn:x ≠ "__name__":=by decide) (hd:(x == ("__debug__" : Str))=false:=by decide):PE X (.Name x pos) (tC v) :=
 fun _ _ _ H _ I h=>iT I hg hm hv ⟨v,H,I,r,h⟩ hn hd
variable {a b:Expr} {ta tb:TE} {pos:Pos}
def PC (X:Cx) (op:CmpOp) (a b:Expr) (t:TE):Prop :=
 ∀ (pins:List (Addr×Obj)) (s:LU) (σ:St) (H:Hp) (Q:VK),Inv X pins σ H s->t σ H Q ->
  wpAny (model X.prog X.w) X.A (eval a X.env) (fun v s₁=>wpAny (model X.prog X.w) X.A (eval b X.env) (fun u s₂=>wpAny (model X.prog X.w) X.A (compareOp op v u) (EP X pins σ Q) X.xe s₂) X.xe s₁) X.xe s
def G9 (b:Expr) {op:CmpOp} (h:op≠.In) (h2:op≠.NotIn):behindInMarks op b=false:=by
 have e1:(op == CmpOp.In)=false:=by cases op <;> first|rfl|exact absurd rfl h
 have e2:(op == CmpOp.NotIn)=false:=by cases op <;> first|rfl|exact absurd rfl h2
 cases b <;> simp [behindInMarks,e1,e2]
def JY (ta:TE):TE:=fun σ H Q=>ta σ H fun x H1=>Q (.bl (decide (x=.non))) H1
def HL (ta:TE):TE:=fun σ H Q=>ta σ H fun x H1=>Q (.bl (!decide (x=.non))) H1
def RelV.zI {x:V} {v:Value} (r:RelV x v):(v == Ng)=decide (x=.non):=by
 cases x with
 | non=>cases r;rfl
 | bl _=>cases r;rfl
 | int _=>obtain ⟨t,rfl⟩:=r;rfl
 | str _=>obtain ⟨t,rfl⟩:=r;rfl
 | byt _=>obtain ⟨t,rfl⟩:=r;rfl
 | flt _=>obtain ⟨t,rfl⟩:=r;rfl
 | ref _=>cases r;rfl
 | ty _=>cases r;rfl
def xY {j pos'} (ha:PE X a ta):PC X .Is a (.Constant .none j pos') (JY ta):=by
 intro pins s σ H Q I h;refine thn (ha pins s σ H _ I h) fun v s1 ⟨x,H1,I1,r1,q1⟩=>?_;exact Tj (is_none_gen ⟨.bl _,H1,I1,by rw [r1.zI];rfl,q1⟩)
def qg {j pos'} (ha:PE X a ta):PC X .IsNot a (.Constant .none j pos') (HL ta):=by
 intro pins s σ H Q I h;refine thn (ha pins s σ H _ I h) fun v s1 ⟨x,H1,I1,r1,q1⟩=>?_;exact Tj (isnot_none_gen ⟨.bl _,H1,I1,by rw [r1.zI];rfl,q1⟩)
def tB (t:TE):TT:=fun σ H Q=>t σ H fun x H1=>∃ c,x=.bl c/\Q c H1
def jz {op:CmpOp} {t:TE} (h:PC X op a b t) (h1:behindInMarks op b=false:=by first|exact G9 _ (by decide) (by decide)|rfl):PT X (.Compare a [op] [b] pos) (tB t):=by
 intro pins s σ H Q I hw;refine Se (thn (h pins s σ H _ I hw) fun v s1 h1=>thn h1 fun u s2 h2=>thn h2 fun c s3 ⟨x,H1,I1,r1,q1⟩=>?_) h1;obtain ⟨d,rfl,q⟩:=q1;cases r1;exact N7 ⟨H1,I1,q⟩
def fW {e:Expr} {t:TE} (h:PE X e t) (he:∀ whole,isTrue e X.env whole=(do let v <- whole;standAt e.pos;holding [v] (truthy v)):=by intro _;rfl):PT X e (tB t):=by
 intro pins s σ H Q I hw;refine isTrue_plain (thn (h pins s σ H _ I hw) fun v s1 ⟨x,H1,I1,r1,q1⟩=>?_) (he _);obtain ⟨d,rfl,q⟩:=q1;cases r1;exact N7 ⟨H1,I1,q⟩
variable {tA tB':TT} {rest:List Expr}
def J0 (t u:TT):TT:=fun σ H Q=>t σ H fun c H1=>if c=true then u σ H1 Q else Q false H1
def tOr (t u:TT):TT:=fun σ H Q=>t σ H fun c H1=>if c=true then Q true H1 else u σ H1 Q
def Ko (t:TT):TT:=fun σ H Q=>t σ H fun c H1=>Q (!c) H1
def d8 (ha:PT X a tA):PW X (.BoolOp .And [a] pos) tA:=by
 intro wh pins s σ H Q I h;refine isTrue_and (thn (ha pins s σ H Q I h) fun c s1 e=>?_);cases c with
 | true=>exact isTrue_and_nil e
 | false=>exact e
def gq (ha:PT X a tA):PW X (.BoolOp .Or [a] pos) tA:=by
 intro wh pins s σ H Q I h;refine isTrue_or (thn (ha pins s σ H Q I h) fun c s1 e=>?_);cases c with
 | false=>exact isTrue_or_nil e
 | true=>exact e
def dy (ha:PT X a tA) (hb:PW X (.BoolOp .And (b :: rest) pos) tB'):PW X (.BoolOp .And (a :: b :: rest) pos) (J0 tA tB'):=by
 intro wh pins s σ H Q I h;refine isTrue_and (thn (ha pins s σ H _ I h) fun c s1 ⟨H1,I1,q1⟩=>?_);cases c with
 | true=>exact hb wh pins s1 σ H1 Q I1 q1
 | false=>exact ⟨H1,I1,q1⟩
def gG (ha:PT X a tA) (hb:PW X (.BoolOp .Or (b :: rest) pos) tB'):PW X (.BoolOp .Or (a :: b :: rest) pos) (tOr tA tB'):=by
 intro wh pins s σ H Q I h;refine isTrue_or (thn (ha pins s σ H _ I h) fun c s1 ⟨H1,I1,q1⟩=>?_);cases c with
 | true=>exact ⟨H1,I1,q1⟩
 | false=>exact hb wh pins s1 σ H1 Q I1 q1
def sC (ha:PT X a tA):PT X (.UnaryOp .Not a pos) (Ko tA):=by
 intro pins s σ H Q I h;exact isTrue_not (ha pins s σ H (fun c H1=>Q (!c) H1) I h)
def HR (ta tb:TE):TE:=fun σ H Q=>ta σ H fun x H1=>∃ c,x=.bl c/\if c=true then tb σ H1 Q else Q (.bl false) H1
def KC (ta tb:TE):TE:=fun σ H Q=>ta σ H fun x H1=>∃ c,x=.bl c/\if c=true then Q (.bl true) H1 else tb σ H1 Q
def lV {op} {t:TE} (h:PE X a t):PE X (.BoolOp op [a] pos) t:=fun pins s σ H Q I hw=>BoolOp_one (h pins s σ H Q I hw)
def jx (ha:PE X a ta) (hb:PE X (.BoolOp .And (b :: rest) pos) tb):PE X (.BoolOp .And (a :: b :: rest) pos) (HR ta tb):=by
 intro pins s σ H Q I h;refine BoolOp_and (thn (ha pins s σ H _ I h) fun v s1 ⟨x,H1,I1,r1,q1⟩=>?_);obtain ⟨c,rfl,q1⟩:=q1;cases r1;refine N7 ?_;cases c with
 | true=>exact hb pins s1 σ H1 Q I1 q1
 | false=>exact ⟨.bl false,H1,I1,rfl,q1⟩
def HM (ha:PE X a ta) (hb:PE X (.BoolOp .Or (b :: rest) pos) tb):PE X (.BoolOp .Or (a :: b :: rest) pos) (KC ta tb):=by
 intro pins s σ H Q I h;refine BoolOp_or (thn (ha pins s σ H _ I h) fun v s1 ⟨x,H1,I1,r1,q1⟩=>?_);obtain ⟨c,rfl,q1⟩:=q1;cases r1;refine N7 ?_;cases c with
 | false=>exact hb pins s1 σ H1 Q I1 q1
 | true=>exact ⟨.bl true,H1,I1,rfl,q1⟩
end
def SqL (K:LN) (H:Hp) (a:Addr) (xs:List V):Prop :=
 Rd H a (.lst xs) \/
  ∃ (o:Obj) (its:Array Value) (n:Nat),K.lookup a=some o/\o.cls=.type "list" /\ o.dict=none/\o.data=.seq its n/\its.size<=Mx/\Vals xs its.toList
def SqT (K:LN) (H:Hp) (a:Addr) (xs:List V):Prop :=
 Rd H a (.tup xs) \/
  ∃ (o:Obj) (its:Array Value) (n:Nat),K.lookup a=some o/\o.cls=.type "tuple" /\ o.data=.seq its n/\its.size<=Mx/\Vals xs its.toList
def LB:Value->Option V
 | .none=>some .non
 | .bool b=>some (.bl b)
 | .int i _=>some (.int i)
 | .str x _=>some (.str x)
 | .bytes b _=>some (.byt b)
 | .float b _=>some (.flt b)
 | .ref a=>some (.ref a)
 | .type n=>some (.ty n)
 | _=>none
def RelV.abs {x:V} {u:Value} (r:RelV x u):LB u=some x:=by
 cases x with
 | non=>cases r;rfl
 | bl _=>cases r;rfl
 | int _=>obtain ⟨t,rfl⟩:=r;rfl
 | str _=>obtain ⟨t,rfl⟩:=r;rfl
 | byt _=>obtain ⟨t,rfl⟩:=r;rfl
 | flt _=>obtain ⟨t,rfl⟩:=r;rfl
 | ref _=>cases r;rfl
 | ty _=>cases r;rfl
def RelV.inj {x y:V} {u:Value} (r:RelV x u) (q:RelV y u):x=y:=ME (r.abs.symm.trans q.abs)
def Vals.inj:∀ {xs ys:List V} {us:List Value},Vals xs us->Vals ys us->xs=ys
 | _,_,_,.nil,.nil=>rfl
 | _,_,_,.cons r t,.cons r' t'=>by rw [r.inj r',Vals.inj t t']
section
variable {X:Cx} {pins:List (Addr×Obj)} {σ:St} {H:Hp} {s:LU} {a:Addr} {xs ys:List V}
def SqL.of {K:LN} (h:H a=some (.lst xs)):SqL K H a xs:=.inl (.inl h)
def SqT.of {K:LN} (h:H a=some (.tup xs)):SqT K H a xs:=.inl (.inl h)
def Inv.list (I:Inv X pins σ H s) (h:SqL X.K H a xs):∃ its:List Value,Vals xs its/\PlainL s.heap a its.toArray/\xs.length<=Mx:=by
 rcases h with h|⟨o,its,n,hk,hc,hd,hs,hz,r⟩
 ·obtain ⟨z,its,n,r,e⟩:=h.ok I.hok;exact ⟨its,r,⟨_,n,e,rfl,rfl,rfl⟩,z⟩
 ·refine ⟨its.toList,r,⟨o,n,I.kIn a o hk,hc,hd,by simpa using hs⟩,?_⟩
  have e:=r.length;simp only [MB] at e;lia
def Inv.tuple (I:Inv X pins σ H s) (h:SqT X.K H a xs):∃ its:List Value,Vals xs its/\IsTup s.heap a its.toArray/\xs.length<=Mx:=by
 rcases h with h|⟨o,its,n,hk,hc,hs,hz,r⟩
 ·obtain ⟨z,its,r,p⟩:=h.ok I.hok;exact ⟨its,r,p,z⟩
 ·refine ⟨its.toList,r,⟨o,I.kIn a o hk,hc,n,by simpa using hs⟩,?_⟩
  have e:=r.length;simp only [MB] at e;lia
def Inv.jf (I:Inv X pins σ H s) (h:SqL X.K H a xs) (h':SqL X.K H a ys):xs=ys:=by
 obtain ⟨its,r,⟨o,n,e,_,_,d⟩,_⟩:=I.list h;obtain ⟨its',r',⟨o',n',e',_,_,d'⟩,_⟩:=I.list h';rw [e] at e';cases e';rw [d] at d';injection d' with d1 _;have:its=its':=by simpa using congrArg Array.toList d1
 subst this;exact r.inj r'
def Inv.vo (I:Inv X pins σ H s) (h:SqT X.K H a xs) (h':SqT X.K H a ys):xs=ys:=by
 obtain ⟨its,r,⟨o,e,_,n,d⟩,_⟩:=I.tuple h;obtain ⟨its',r',⟨o',e',_,n',d'⟩,_⟩:=I.tuple h';rw [e] at e';cases e';rw [d] at d';injection d' with d1 _;have:its=its':=by simpa using congrArg Array.toList d1
 subst this;exact r.inj r'
end
abbrev Cx.fX (X:Cx) (E:Value->LU->Prop):Cx:={ X with xe:=E }
abbrev Cx.nox (X:Cx):Cx:=X.fX fun _ _=>False
def Cx.Ok.fX {X:Cx} (ok:X.Ok) (E:Value->LU->Prop):(X.fX E).Ok :=
 ⟨ok.mod,ok.kind,ok.glob,ok.blt,ok.above,ok.inj,ok.has,ok.cab,ok.hd,ok.frames,ok.stk,ok.exf,ok.bs,ok.bsz,ok.u6,ok.rD,ok.eK,ok.frf⟩
def Cx.Ok.dI {X:Cx} {E:Value->LU->Prop} (ok:(X.fX E).Ok):X.Ok :=
 ⟨ok.mod,ok.kind,ok.glob,ok.blt,ok.above,ok.inj,ok.has,ok.cab,ok.hd,ok.frames,ok.stk,ok.exf,ok.bs,ok.bsz,ok.u6,ok.rD,ok.eK,ok.frf⟩
section
variable {X:Cx} {pins:List (Addr×Obj)} {σ:St} {H:Hp} {s:LU} {E:Value->LU->Prop}
def Inv.fX (I:Inv X pins σ H s) (E:Value->LU->Prop):Inv (X.fX E) pins σ H s:=⟨I.ok.fX E,I.os,I.bare,I.base,I.loc,I.cell,I.free,I.eD,I.pin,I.hok,I.len⟩
def Inv.dI (I:Inv (X.fX E) pins σ H s):Inv X pins σ H s:=⟨I.ok.dI,I.os,I.bare,I.base,I.loc,I.cell,I.free,I.eD,I.pin,I.hok,I.len⟩
def SP.dI {D:Ends} {f:Flow} {s':LU} (h:SP (X.fX E) pins D f s'):SP X pins D f s':=by
 cases f with
 | next=>obtain ⟨σ',H',I,q⟩:=h;exact ⟨σ',H',I.dI,q⟩
 | brk=>obtain ⟨σ',H',I,q⟩:=h;exact ⟨σ',H',I.dI,q⟩
 | cont=>obtain ⟨σ',H',I,q⟩:=h;exact ⟨σ',H',I.dI,q⟩
 | ret u=>obtain ⟨v,σ',H',I,r,q⟩:=h;exact ⟨v,σ',H',I.dI,r,q⟩
def PSs.nox {st:List Stmt} {t:TS} (h:PSs X.nox st t):PSs X st t:=fun pins s σ H D I hw =>
 Nc (h pins s σ H D (I.fX _) hw) (fun _ _ q=>q.dI) fun _ _ z=>Nd z
end
section
variable {X:Cx} {st:Stmt} {rest:List Stmt} {t u:TS} {e:Expr} {te:TE} {pos:Pos}
def HW:TS:=fun D σ H=>D.nx σ H
def J3 (t u:TS):TS:=fun D σ H=>t { D with nx:=u D } σ H
def aE:PSs X [] HW:=fun _ _ σ H _ I h=>Pb ⟨σ,H,I,h⟩
def ae (h1:PS X st t) (h2:PSs X rest u):PSs X (st :: rest) (J3 t u):=by
 intro pins s σ H D I h;refine RT (thn (h1 pins s σ H { D with nx:=u D } I h) fun f s1 q=>?_);cases f with
 | next =>
  obtain ⟨σ',H',I',q⟩:=q;exact h2 pins s1 σ' H' D I' q
 | ret v=>exact q
 | brk=>exact q
 | cont=>exact q
def af (h1:PS X st t):PSs X [st] t:=by
 intro pins s σ H D I h;refine RT (thn (h1 pins s σ H D I h) fun f s1 q=>?_);cases f with
 | next=>exact Pb q
 | ret v=>exact q
 | brk=>exact q
 | cont=>exact q
def Inv.quiet {pins:List (Addr×Obj)} {σ:St} {H:Hp} {s:LU} (I:Inv X pins σ H s):interactive X.env=false:=by simp [interactive,I.ok.kind]
def HB (te:TE):TS:=fun D σ H=>te σ H fun _ H1=>D.nx σ H1
def a7 (he:PE X e te) (hs:swapsWith e none pos.line X.env=pure false:=by rfl):PS X (.Expr e pos) (HB te):=by
 intro pins s σ H D I h;exact wpAny_Expr_any (thn (he pins s σ H _ I h) fun v s1 ⟨x,H1,I1,r1,q1⟩=>⟨σ,H1,I1,q1⟩) I.quiet hs
def KU (te:TE):TS:=fun D σ H=>te σ H D.rt
def aN (he:PE X e te):PS X (.Return (some e) pos) (KU te):=by
 intro pins s σ H D I h;exact wpAny_Return_some (thn (he pins s σ H _ I h) fun v s1 ⟨x,H1,I1,r1,q1⟩=>⟨x,σ,H1,I1,r1,q1⟩)
def F8 (c:TT) (t u:TS):TS:=fun D σ H=>c σ H fun b H1=>if b=true then t D σ H1 else u D σ H1
def aQ {c:Expr} {a b:List Stmt} {tc:TT} (hc:PT X c tc) (ha:PSs X a t) (hb:PSs X b u):PS X (.If c a b pos) (F8 tc t u):=by
 intro pins s σ H D I h;refine wpAny_If (thn (hc pins s σ H _ I h) fun d s1 ⟨H1,I1,q1⟩=>?_);cases d with
 | true=>exact ha pins s1 σ H1 D I1 q1
 | false=>exact hb pins s1 σ H1 D I1 q1
def Fg:TS:=fun _ _ _=>False
def cV:PS X st Fg:=fun _ _ _ _ _ _ h=>h.elim
def ju {sts:List Stmt}:PSs X sts Fg:=fun _ _ _ _ _ _ h=>h.elim
end
abbrev TG:=V->St->Hp->(St->Hp->Prop)->Prop
abbrev TGs:=List V->St->Hp->(St->Hp->Prop)->Prop
def PG (X:Cx) (target:Expr) (t:TG):Prop :=
 ∀ (pins:List (Addr×Obj)) (s:LU) (σ:St) (H:Hp) (v:V) (u:Value) (Q:St->Hp->Prop),Inv X pins σ H s->RelV v u->t v σ H Q ->
  wpAny (model X.prog X.w) X.A (assign target X.env u) (fun _ s'=>∃ σ' H',Inv X pins σ' H' s'/\Q σ' H') X.xe s
def PGs (X:Cx) (ts:List Expr) (t:TGs):Prop :=
 ∀ (pins:List (Addr×Obj)) (s:LU) (σ:St) (H:Hp) (vs:List V) (us:List Value) (Q:St->Hp->Prop),Inv X pins σ H s->Vals vs us->t vs σ H Q ->
  wpAny (model X.prog X.w) X.A (assignInOrder ((assignEach ts X.env).map (·.2)) us) (fun _ s'=>∃ σ' H',Inv X pins σ' H' s'/\Q σ' H') X.xe s
abbrev Dt:=V->V->V->Hp->(Hp->Prop)->Prop
def JN (X:Cx) (t:Dt):Prop :=
 ∀ (pins:List (Addr×Obj)) (s:LU) (σ:St) (H:Hp) (o i v:V) (ov iv u:Value) (Q:Hp->Prop),Inv X pins σ H s->RelV o ov->RelV i iv->RelV v u->t o i v H Q ->
  wpAny (model X.prog X.w) X.A (setItem ov iv u) (fun _ s'=>∃ H',Inv X pins σ H' s'/\Q H') X.xe s
section
variable {X:Cx} {pos:Pos}
def iF (i:Nat):TG:=fun v σ H Q=>Q (σ.set i (some v)) H
def aJ {i:Nat} {x:Str} (hN:X.N.Nodup) (hi:X.N[i]?=some x) (hx:Loc X.env.scope x) (hf:X.fn x=true\/X.env.scope.names.lookup x=some .local:=by first|exact .inl rfl|exact .inr rfl|assumption):PG X (.Name x pos) (iF i):=by
 intro pins s σ H v u Q I r h;exact wpAny_assign_Name (kJ I hN hi hx r (fun s' I'=>⟨_,H,I',h⟩) hf)
def Cu:TGs:=fun vs σ H Q=>vs=[]/\Q σ H
def mW (t:TG) (u:TGs):TGs:=fun vs σ H Q=>∃ v r,vs=v :: r/\t v σ H fun σ' H'=>u r σ' H' Q
def uj:PGs X [] Cu:=by
 intro pins s σ H vs us Q I r h;obtain ⟨e,h⟩:=h;subst e;cases r;exact assignInOrder_nil ⟨σ,H,I,h⟩
def ja {e:Expr} {es:List Expr} {t:TG} {u:TGs} (h1:PG X e t) (h2:PGs X es u)
  (hs:(assignEach (e :: es) X.env).map (·.2)=assign e X.env :: (assignEach es X.env).map (·.2):=by rfl):PGs X (e :: es) (mW t u):=by
 intro pins s σ H vs us Q I r h;obtain ⟨v,vr,e1,h⟩:=h;subst e1;cases r with
 | cons r rr =>
  rw [hs];refine QX (thn (h1 pins s σ H _ _ _ I r h) fun _ s1 ⟨σ1,H1,I1,q1⟩=>?_);exact h2 pins s1 σ1 H1 _ _ Q I1 rr q1
def B6 (K:LN) (n:Nat) (t:TGs):TG:=fun v σ H Q=>∃ a xs,v=.ref a/\SqT K H a xs/\xs.length=n/\t xs σ H Q
def yJ {es:List Expr} {k:Nat} {t:TGs} {n:Nat} (hc:X.calm=true) (h:PGs X es t)
  (hn:(assignEach es X.env).length=n:=by rfl) (hst:(assignEach es X.env).findIdx? (·.1)=none:=by rfl):PG X (.Tuple es k pos) (B6 X.K n t):=by
 intro pins s σ H v u Q I r hw;obtain ⟨a,xs,e1,hq,hl,hw⟩:=hw;subst e1;cases r;obtain ⟨its,rv,ht,hz⟩:=I.tuple hq;refine assign_Tuple_tuple (I.ok.hd hc) ht (by simp [hn,<- hl,rv.length]) hst fun h' hx=>?_
 have I1:Inv X pins σ H { s with heap:=h' }:=I.kept (t':=s.toks) fun b o e=>hx b o (Mc (L5 e)) e;exact h pins _ σ H xs _ Q I1 (by simpa using rv) hw
def JU (to ti:TE) (t:Dt):TG:=fun v σ H Q=>to σ H fun o H1=>ti σ H1 fun i H2=>t o i v H2 fun H3=>Q σ H3
def l8 {o i:Expr} {to ti:TE} {t:Dt} (ho:PE X o to) (hi:PE X i ti) (hs:JN X t)
  (ha:∀ v,assign (.Subscript o i pos) X.env v=(do
   let ov <- holding [v] (eval o X.env)
   let iv <- holding [v,ov] (eval i X.env)
   standAt pos
   holding [v,ov,iv] (setItem ov iv v)
   release [v,ov,iv] []):=by intro _;rfl):PG X (.Subscript o i pos) (JU to ti t):=by
 intro pins s σ H v u Q I r h;rw [ha];refine LP (M1 (thn (ho pins s σ H _ I h) fun ov s1 ⟨x,H1,I1,r1,q1⟩=>?_));refine LP (M1 (thn (hi pins s1 σ H1 _ I1 q1) fun iv s2 ⟨y,H2,I2,r2,q2⟩=>?_));refine LP (P0 (LP (M1 (thn (hs pins s2 σ H2 x y v ov iv u _ I2 r1 r2 r q2) fun _ s3 ⟨H3,I3,q3⟩=>?_))));exact wpAny_release ⟨σ,H3,I3,q3⟩
def DD (te:TE) (g:TG):TS:=fun D σ H=>te σ H fun x H1=>g x σ H1 D.nx
def mf {tg e:Expr} {te:TE} {g:TG} (he:PE X e te) (hg:PG X tg g) (hs:swapsWithSole [tg] e pos.line X.env=pure false:=by rfl) (hw:swappedStores [tg] e X.env=pure none:=by rfl)
  (h1:(assignEach [tg] X.env).map (·.2)=[assign tg X.env]:=by rfl):PS X (.Assign [tg] e pos) (DD te g):=by
 intro pins s σ H D I h;refine wpAny_Assign_stores (thn (he pins s σ H _ I h) fun v s1 ⟨x,H1,I1,r1,q1⟩=>?_) hs hw;rw [h1];exact thn (hg pins s1 σ H1 x v _ I1 r1 q1) fun _ s2 q=>q
def av {i:Nat} {x:Str} {e:Expr} {te:TE} {pos':Pos} (hN:X.N.Nodup) (hi:X.N[i]?=some x) (hx:Loc X.env.scope x) (he:PE X e te) (hs:swapsWith e (some (.Name x pos')) pos.line X.env=pure false:=by rfl) (hf:X.fn x=true\/X.env.scope.names.lookup x=some .local:=by first|exact .inl rfl|exact .inr rfl|assumption) :
  PS X (.Assign [.Name x pos'] e pos) (DD te (iF i)):=by
 intro pins s σ H D I h;refine wpAny_Assign_Name (thn (he pins s σ H _ I h) fun v s1 ⟨y,H1,I1,r1,q1⟩=>?_) hs;exact kJ I1 hN hi hx r1 (fun s2 I2=>⟨_,H1,I2,q1⟩) hf
def Km (i j:Nat) (ta:TA):TS:=fun D σ H=>ta σ H fun vs H1=>∃ v w,vs=[v,w]/\D.nx ((σ.set i (some v)).set j (some w)) H1
def DQ {i j:Nat} {x y:Str} {a b:Expr} {ta:TA} {px py pt:Pos} {kt k2 pt2} (hc:X.calm=true) (hN:X.N.Nodup) (hi:X.N[i]?=some x) (hj:X.N[j]?=some y) (hij:i≠j)
  (hx:X.env.scope.names.lookup x=some .local) (hy:X.env.scope.names.lookup y=some .local) (ha:PA X [a,b] ta)
  (hw:swappedStores [.Tuple [.Name x px,.Name y py] kt pt] (.Tuple [a,b] k2 pt2) X.env=pure (some [x,y]))
  (hs:swapsWithSole [.Tuple [.Name x px,.Name y py] kt pt] (.Tuple [a,b] k2 pt2) pos.line X.env=pure false:=by rfl) :
  PS X (.Assign [.Tuple [.Name x px,.Name y py] kt pt] (.Tuple [a,b] k2 pt2) pos) (Km i j ta):=by
 intro pins s σ H D I h;rw [exec_Assign_arm];refine LP (P0 ?_);rw [hs];refine LP (LZ ?_);rw [if_neg (by decide)]
 refine LP (Tuple_ (thn (ha _ pins s σ H _ I h) fun us s1 ⟨vs,H1,I1,r1,q1⟩=>?_));obtain ⟨v,w,e1,q1⟩:=q1;subst e1;obtain ⟨u1,u2,rfl,rv,rw'⟩:∃ u1 u2,us=[u1,u2]/\RelV v u1/\RelV w u2:=by
  cases r1 with
  | cons p q =>
   cases q with
   | cons p' q' =>
    cases q';exact ⟨_,_,rfl,p,p'⟩
 refine N8 ?_ (by show 2<=Mx;decide)
 have I2:Inv X pins σ H1 { s1 with heap:=s1.heap.push { cls:=.type "tuple",data:=.seq [u1,u2].toArray } }:=I1.kept (t':=s1.toks) fun b o e=>LW _ e;rw [hw];refine LP (LZ ?_);show wpAny (model X.prog X.w) X.A (do rule "assign.swapped-stores";let items <- unpackItems (.ref s1.heap.objs.size) 2 none;assignInOrder [fun v=>bindName X.env y v,fun v=>bindName X.env x v] items.reverse;pure Flow.next) _ _ _;refine LP (Tu (LP (unpackItems_tuple (items:=#[u1,u2]) (I.ok.hd hc) (IsTup.new s1.heap _) fun h' hx'=>?_)));have I3:=I2.kept (h':=h') (t':=s1.toks) fun b o e=>hx' b o (Mc (L5 e)) e;show wpAny _ _ (assignInOrder [fun v=>bindName X.env y v,fun v=>bindName X.env x v] [u2,u1] >>= fun _=>pure Flow.next) _ _ _;refine LP (QX (wpAny_bindName (kJ I3 hN hj (.inl hy) rw' (fun s2 I4=>?_) (.inr hy))));refine QX (wpAny_bindName (kJ I4 hN hi (.inl hx) rv (fun s3 I5=>assignInOrder_nil (LZ ?_)) (.inr hx)));rw [List.set_comm _ _ (NI hij)] at I5;exact ⟨_,H1,I5,q1⟩
def EI (c:TT) (tb:TS):TS:=fun D σ H=>∃ W:Nat->St->Hp->Prop,(∃ m,W m σ H)/\∀ m σ H,W m σ H ->
 c σ H fun b H1=>if b=true then ∃ N:St->Hp->Prop,(∀ σ' H',N σ' H'->∃ m',m' < m/\W m' σ' H')/\tb { D with nx:=N,ct:=N,bk:=D.nx } σ H1 else D.nx σ H1
def i5 {c:Expr} {body:List Stmt} {tc:TT} {tb:TS} (hp:T8 (model X.prog X.w) X.A X.env X.xe) (hc:PT X c tc) (hb:PSs X body tb):PS X (.While c body [] pos) (EI tc tb):=by
 intro pins s σ H D I h;obtain ⟨W,⟨m0,w0⟩,turn⟩:=h;refine wpAny_While (codeAny_whileLoop (fun n s'=>∃ σ' H',Inv X pins σ' H' s'/\W n σ' H') ?_ m0 ⟨σ,H,I,w0⟩);rintro n s1 ⟨σ1,H1,I1,w1⟩;refine OR hp (thn (hc pins s1 σ1 H1 _ I1 (turn n σ1 H1 w1)) fun b s2 ⟨H2,I2,q2⟩=>?_);cases b with
 | true =>
  obtain ⟨N,hN,q2⟩:=q2;rw [if_pos rfl];refine OR hp (thn (hb pins s2 σ1 H2 _ I2 q2) fun f s3 q3=>?_);cases f with
  | next =>
   obtain ⟨σ3,H3,I3,n3⟩:=q3;obtain ⟨m',hm,w3⟩:=hN σ3 H3 n3;exact ⟨m',hm,σ3,H3,I3,w3⟩
  | cont =>
   obtain ⟨σ3,H3,I3,n3⟩:=q3;obtain ⟨m',hm,w3⟩:=hN σ3 H3 n3;exact ⟨m',hm,σ3,H3,I3,w3⟩
  | brk=>exact q3
  | ret v=>exact q3
 | false =>
  rw [if_neg Mj];exact Pb ⟨σ1,H2,I2,q2⟩
end
structure It where
 go:Nat->Hp->Prop
 yld:Nat->Hp->V->Hp->Prop
 stop:Nat->Hp->Prop
def kL (X:Cx) (pins:List (Addr×Obj)) (H:Hp) (b:Addr):Prop :=
 H b=none/\b≠X.env.locals/\b∉X.fs/\(b∈X.ex\/X.s₀.heap.objs.size<=b)/\(∀ x c,X.env.cells.lookup x=some c->c≠b)/\∀ p∈X.pn++pins,p.1≠b
def Inv.vb {X:Cx} {pins:List (Addr×Obj)} {σ:St} {H H':Hp} {s:LU} {b:Addr} (I:Inv X pins σ H s) (hb:s.heap.objs.size<=b) (hn:H' b=none):kL X pins H' b:=by
 refine ⟨hn,OH (Mm I.lt hb),I.Lz hb,.inr (M7 I.sz hb),fun x c e z=>?_,fun p hp z=>?_⟩
 ·obtain ⟨v,q⟩:=I.cell x c e;exact absurd (Mm q.lt (by rw [z];exact hb)) (Oo _)
 ·exact absurd (Mm (L5 (I.pin p hp).1) (by rw [z];exact hb)) (Oo _)
structure Turn (P:Mh) (w:World) (K:LN) (tg:Expr) (J:It) (fp:List Addr) (it:Addr) (tn:Nat->Heap->Prop):Prop where
 mem:it∈fp
 obj:∀ i h,tn i h->∀ b∈fp,∃ o,h.get? b=some o/\∀ v,o.data≠.cell v
 keep:∀ i h h',tn i h->(∀ b∈fp,∀ o,h.get? b=some o->h'.get? b=some o)->tn i h'
 item:∀ (X:Cx),X.prog=P->X.w=w->X.K=K->X.calm=true->∀ (i:Nat) (pins:List (Addr×Obj)) (s:LU) (σ:St) (H:Hp) (E:Value->LU->Prop),Inv X pins σ H s->(∀ b∈fp,kL X pins H b)->tn i s.heap->J.go i H ->
  wpAny (model P w) X.A (pyNext (.ref it)) (fun r s1=>∃ u,r=some u /\
   wpAny (model P w) X.A (letOwnedTupleGo tg (.ref it) u) (fun _ s2=>∃ x H',Inv X pins σ H' s2/\RelV x u/\J.yld i H x H'/\tn (i+1) s2.heap/\∀ b∈fp,H' b=none) E s1) E s
 done:∀ (X:Cx),X.prog=P->X.w=w->X.K=K->X.calm=true->∀ (i:Nat) (pins:List (Addr×Obj)) (s:LU) (σ:St) (H:Hp) (E:Value->LU->Prop),Inv X pins σ H s->(∀ b∈fp,kL X pins H b)->tn i s.heap->J.stop i H ->
  wpAny (model P w) X.A (pyNext (.ref it)) (fun r s1=>r=none/\Inv X pins σ H s1) E s
 self:∀ (A:MP) (i:Nat) (s:LU) (Q:Value->LU->Prop) (E:Value->LU->Prop),tn i s.heap->Q (.ref it) s->wpAny (model P w) A (pyIter (.ref it)) Q E s
abbrev TI:=St->Hp->(It->Hp->Prop)->Prop
def PIE (X:Cx) (pins:List (Addr×Obj)) (σ:St) (tg:Expr) (R:It->Hp->Prop) (itv:Value) (s2:LU):Prop :=
 ∃ (it:Addr) (fp:List Addr) (tn:Nat->Heap->Prop) (J:It) (H':Hp),itv=.ref it/\Inv X pins σ H' s2/\Turn X.prog X.w X.K tg J fp it tn/\tn 0 s2.heap/\(∀ b∈fp,kL X pins H' b)/\R J H'
def PI (X:Cx) (tg iter:Expr) (wi:TI):Prop :=
 ∀ (pins:List (Addr×Obj)) (s:LU) (σ:St) (H:Hp) (R:It->Hp->Prop),Inv X pins σ H s->wi σ H R ->
  wpAny (model X.prog X.w) X.A (eval iter X.env) (fun v s1=>wpAny (model X.prog X.w) X.A (pyIter v) (PIE X pins σ tg R) X.xe s1) X.xe s
def HE {M:Model} {A:MP} {E:Value->LU->Prop} {s:LU} {tg:Expr} {it:Addr} {u:Value} {o:Obj} {n:String} {vs:Array Value} {Q:Unit->LU->Prop} (ho:s.heap.get? it=some o) (hc:o.cls=.type n) (hd:o.data=.fields vs)
  (hn:["enumerate","zip","dict_itemiterator","dict_reverseitemiterator","odict_iterator","itertools.zip_longest","itertools.pairwise"].contains n=false) (hQ:Q () s):wpAny M A (letOwnedTupleGo tg (.ref it) u) Q E s:=by
 unfold letOwnedTupleGo;cases tg <;> first
  | exact LZ hQ
  | (cases u <;> first
    | exact LZ hQ
    | (refine LP (wpAny_load ho ?_)
       rw [hc,hd];show wpAny M A (if (["enumerate","zip","dict_itemiterator","dict_reverseitemiterator","odict_iterator","itertools.zip_longest","itertools.pairwise"].contains n && vs[0]? == some (rawInt _))=true then _ else _) Q E s;rw [if_neg (by intro h;rw [hn,Bool.false_and] at h;cases h)]
       exact LZ hQ))
def Itl (K:LN) (a:Addr):It :=
 ⟨fun i H=>∃ xs x,SqL K H a xs/\xs[i]?=some x,fun i H x H'=>H'=H/\∀ xs,SqL K H a xs->xs[i]?=some x,fun i H=>∃ xs,SqL K H a xs/\xs.length<=i⟩
def Itr (lo:Int) (n:Nat):It:=⟨fun i _=>i<n,fun i H x H'=>H'=H/\x=.int (lo+i),fun i _=>n<=i⟩
def EF {P:Mh} {w:World} {K:LN} {tg:Expr} (a it:Addr):Turn P w K tg (Itl K a) [it] it (fun i h=>h.IsListIter it a i) where
 mem:=by simp
 obj:=fun i h st b hb=>by
  have e:b=it:=by simpa using hb
  subst e;obtain ⟨o,e,c,d⟩:=st;exact ⟨o,e,fun v z=>by rw [d] at z;cases z⟩
 keep:=fun i h h' st k=>st.at fun o e=>k it (by simp) o e
 item:=by
  intro X hP hw hK hc i pins s σ H E I hf st hg;subst hP hw hK;obtain ⟨xs,x,hq,hx⟩:=hg;obtain ⟨its,rv,p,hz⟩:=I.list hq;obtain ⟨u,hu,ru⟩:=rv.get hx;obtain ⟨f0,f1,f2,f3,f4,f5⟩:=hf it (by simp)
  refine wpAny_pyNext_list_item st p.isList (x:=u) (by simpa using hu) fun h' st' sb=>?_
  have I1:Inv X pins σ H { s with heap:=h' }:=I.turned (t':=s.toks) (fun b o hb e=>(sb.2 b hb).trans e) f0 f1 f3 f4 f5;obtain ⟨o,e,c,d⟩:=id st';exact ⟨u,rfl,HE (s:={ s with heap:=h' }) e c d (by decide) ⟨x,H,I1,ru,⟨rfl,fun ys hy=>by rw [I.jf hy hq];exact hx⟩,st',fun b hb=>(hf b hb).1⟩⟩
 done:=by
  intro X hP hw hK hc i pins s σ H E I hf st hg;subst hP hw hK;obtain ⟨xs,hq,hx⟩:=hg;obtain ⟨its,rv,p,hz⟩:=I.list hq;obtain ⟨f0,f1,f2,f3,f4,f5⟩:=hf it (by simp)
  have hl:=rv.length;exact wpAny_pyNext_list_end (I.ok.hd hc) st p.isList (by simp;lia) fun h' eb=>⟨rfl,I.turned (t':=s.toks) (fun b o hb e=>eb b o hb e) f0 f1 f3 f4 f5⟩
 self:=fun _ _ _ _ _ st h=>wpAny_pyIter_listiter st h
def CJ {P:Mh} {w:World} {K:LN} {tg:Expr} (it:Addr) (lo:Int) (n:Nat):Turn P w K tg (Itr lo n) [it] it (fun i h=>IsRangeIter h it (lo+(i:Nat) * 1) ((n:Int) - (i:Nat)) 1) where
 mem:=by simp
 obj:=fun i h st b hb=>by
  have e:b=it:=by simpa using hb
  subst e;exact ⟨_,st,fun v z=>by
   have z':TY _=To v:=z;cases z'⟩
 keep:=fun i h h' st k=>k it (by simp) _ st
 item:=by
  intro X hP hw hK hc i pins s σ H E I hf st hg;subst hP hw hK;obtain ⟨f0,f1,f2,f3,f4,f5⟩:=hf it (by simp)
  have W:=Walks.range (prog:=X.prog) (w:=X.w) (I.ok.hd hc) it lo 1 n;refine W.item i s _ _ hg st fun v h' tk hv st' kk=>?_;obtain ⟨t,rfl⟩:=hv;have I1:Inv X pins σ H { s with heap:=h',toks:=tk }:=I.turned (fun b o hb e=>kk b o (by simpa using hb) e) f0 f1 f3 f4 f5
  refine ⟨_,rfl,HE (s:={ s with heap:=h',toks:=tk }) (n:="range_iterator") st' rfl rfl (by decide) ⟨.int (lo+i),H,I1,⟨t,?_⟩,⟨rfl,rfl⟩,st',fun b hb=>(hf b hb).1⟩⟩
  rw [Int.mul_one]
 done:=by
  intro X hP hw hK hc i pins s σ H E I hf st hg;subst hP hw hK;obtain ⟨f0,f1,f2,f3,f4,f5⟩:=hf it (by simp)
  exact wpAny_pyNext_range_end (I.ok.hd hc) st (by have:n<=i:=hg;lia) fun h' eb=>⟨rfl,I.turned (t':=s.toks) (fun b o hb e=>eb b o hb e) f0 f1 f3 f4 f5⟩
 self:=fun _ _ _ _ _ st h=>wpAny_pyIter_rangeiter st h
section
variable {X:Cx} {tg:Expr}
def BO (K:LN) (tl:TE):TI:=fun σ H R=>tl σ H fun x H1=>∃ a,x=.ref a/\(∃ xs,SqL K H1 a xs)/\R (Itl K a) H1
def IU {l:Expr} {tl:TE} (hl:PE X l tl):PI X tg l (BO X.K tl):=by
 intro pins s σ H R I h;refine thn (hl pins s σ H _ I h) fun v s1 ⟨x,H1,I1,r1,q1⟩=>?_;obtain ⟨a,e,⟨xs,hq⟩,q⟩:=q1;subst e;cases r1;obtain ⟨its,rv,p,hz⟩:=I1.list hq;refine Qg p.isList ?_;refine ⟨s1.heap.objs.size,[s1.heap.objs.size],_,_,H1,rfl,I1.kept (t':=s1.toks) fun b o e=>LW _ e,EF a _,⟨_,Mo _ rfl,rfl,rfl⟩,fun b hb=>?_,q⟩;have e:b=s1.heap.objs.size:=by simpa using hb
 subst e;exact I1.vb (Ma _) (I1.hok.fresh (Ma _))
def zZ {pins:List (Addr×Obj)} {σ:St} {H:Hp} {s:LU} {R:It->Hp->Prop} {E:Value->LU->Prop} {lo hi:Int} {t u v:Tok} {tk:Nat} (I:Inv X pins σ H s) (h1:-(2 ^ 62)<=lo) (h2:lo<2 ^ 62) (h3:-(2 ^ 62)<=hi) (h4:hi<2 ^ 62)
  (q:R (Itr lo (hi - lo).toNat) H):wpAny (model X.prog X.w) X.A (pyIter (.ref s.heap.objs.size)) (PIE X pins σ tg R) E { s with heap:=s.heap.push { cls:=.type "range",data:=.fields #[.int lo t,.int hi u,.int 1 v] },toks:=tk }:=by
 refine wpAny_pyIter_range (IsRange.new ..) (small_one h1 h2 h3 h4) ?_;have I1:Inv X pins σ H { s with heap:=s.heap.push { cls:=.type "range",data:=.fields #[.int lo t,.int hi u,.int 1 v] },toks:=tk }:=I.kept fun b o e=>LW _ e;refine ⟨(s.heap.push { cls:=.type "range",data:=.fields #[.int lo t,.int hi u,.int 1 v] }).objs.size,[(s.heap.push { cls:=.type "range",data:=.fields #[.int lo t,.int hi u,.int 1 v] }).objs.size],_,_,H,rfl,
  I1.kept (t':=tk) fun b o e=>LW _ e,CJ _ lo (hi - lo).toNat,?_,fun b hb=>?_,q⟩
 ·have e1:lo+((0:Nat):Int) * 1=lo:=by simp
  have e2:(((hi - lo).toNat:Nat):Int) - ((0:Nat):Int)=RE lo hi 1:=by rw [rangeSize_one];split <;> lia
  show IsRangeIter _ _ (lo+((0:Nat):Int) * 1) ((((hi - lo).toNat:Nat):Int) - ((0:Nat):Int)) 1;rw [e1,e2];exact Mo _ rfl
 ·have e:b=(s.heap.push { cls:=.type "range",data:=.fields #[.int lo t,.int hi u,.int 1 v] }).objs.size:=by simpa using hb
  subst e;exact I1.vb (Ma _) (I1.hok.fresh (Ma _))
def Cp (ta:TA):TI:=fun σ H R=>ta σ H fun vs H1=>∃ j:Int,vs=[.int j]/\-(2 ^ 62)<=j/\j<2 ^ 62/\R (Itr 0 j.toNat) H1
def B5 (ta:TA):TI:=fun σ H R=>ta σ H fun vs H1=>∃ i j:Int,vs=[.int i,.int j]/\(-(2 ^ 62)<=i/\i<2 ^ 62/\-(2 ^ 62)<=j/\j<2 ^ 62)/\R (Itr i (j - i).toNat) H1
def EB {a:Expr} {ta:TA} {p pos:Pos} (hg:Gl X "range") (hm:X.mg "range" = none) (ha:PA X [a] ta) (hs:MR [a] X.env=[(false,eval a X.env)]:=by rfl):PI X tg (.Call (.Name "range" p) [a] [] pos) (Cp ta):=by
 intro pins s σ H R I h;refine Call_ (iT I hg hm boot_range (Nt (thn (ha pos pins s σ H _ I h) fun us s1 ⟨vs,H1,I1,r1,q1⟩=>?_) hs rfl));obtain ⟨j,e,q1,q2,q⟩:=q1;subst e;cases r1 with
 | cons r rr =>
  cases rr;obtain ⟨t,rfl⟩:=r;exact call_range_1 (zZ I1 (by lia) (by lia) q1 q2 (by simpa using q))
def DO {a b:Expr} {ta:TA} {p pos:Pos} (hg:Gl X "range") (hm:X.mg "range" = none) (ha:PA X [a,b] ta) (hs:MR [a,b] X.env=[(false,eval a X.env),(false,eval b X.env)]:=by rfl) (hs2:MR [b] X.env=[(false,eval b X.env)]:=by rfl) :
  PI X tg (.Call (.Name "range" p) [a,b] [] pos) (B5 ta):=by
 intro pins s σ H R I h;refine Call_ (iT I hg hm boot_range (Nt (thn (ha pos pins s σ H _ I h) fun us s1 ⟨vs,H1,I1,r1,q1⟩=>?_) (by rw [hs,hs2]) (by rw [hs2];rfl)))
 obtain ⟨i,j,e,⟨q1,q2,q3,q4⟩,q⟩:=q1;subst e;cases r1 with
 | cons r rr =>
  cases rr with
  | cons r' rr =>
   cases rr;obtain ⟨t,rfl⟩:=r;obtain ⟨t',rfl⟩:=r';exact call_range_2 (zZ I1 q1 q2 q3 q4 q)
def J1 (wi:TI) (g:TG) (tb:TS):TS:=fun D σ H=>wi σ H fun J H1=>∃ W:Nat->Nat->St->Hp->Prop,(∃ m,W 0 m σ H1)/\∀ i m σ H,W i m σ H ->
 (J.stop i H/\D.nx σ H)\/(J.go i H/\∃ N:St->Hp->Prop,(∀ σ' H',N σ' H'->∃ m',m' < m/\W (i+1) m' σ' H')/\∀ x H',J.yld i H x H'->g x σ H' fun σ2 H2=>tb { D with nx:=N,ct:=N,bk:=D.nx } σ2 H2)
def ma (fp:List Addr) (h:Heap):List (Addr×Obj):=fp.filterMap fun b=>(h.get? b).map fun o=>(b,o)
def jO {fp:List Addr} {h:Heap} {b:Addr} {o:Obj} (hb:b∈fp) (e:h.get? b=some o):(b,o)∈ma fp h:=List.mem_filterMap.mpr ⟨b,hb,by rw [e];rfl⟩
def DJ {fp:List Addr} {h:Heap} {p:Addr×Obj} (hp:p∈ma fp h):p.1∈fp/\h.get? p.1=some p.2:=by
 obtain ⟨b,hb,e⟩:=List.mem_filterMap.mp hp;cases q:h.get? b with
 | none=>rw [q] at e;cases e
 | some o =>
  rw [q] at e;have e':(b,o)=p:=ME e;subst e';exact ⟨hb,q⟩
def Inv.pinned {pins:List (Addr×Obj)} {σ:St} {H:Hp} {s:LU} {fp:List Addr} (I:Inv X pins σ H s) (hf:∀ b∈fp,kL X pins H b) (ho:∀ b∈fp,∃ o,s.heap.get? b=some o/\∀ v,o.data≠.cell v):Inv X (pins++ma fp s.heap) σ H s :=
 I.Bs fun p hp=>(Mb.mp hp).elim (fun z=>I.pin p (Nk _ z)) fun z=>by
  obtain ⟨hb,e⟩:=DJ z;obtain ⟨f0,f1,f2,_⟩:=hf p.1 hb;obtain ⟨o,e',d⟩:=ho p.1 hb;rw [e] at e';cases e';exact ⟨e,f0,f1,f2,d⟩
def Inv.nC {pins pl:List (Addr×Obj)} {σ:St} {H:Hp} {s:LU} (I:Inv X (pins++pl) σ H s):Inv X pins σ H s:=I.Bs fun p hp=>I.pin p (Nk _ (NJ _ hp))
def a8 {iter:Expr} {body:List Stmt} {wi:TI} {g:TG} {tb:TS} {pos:Pos} (hp:T8 (model X.prog X.w) X.A X.env X.xe) (hc:X.calm=true) (hi:PI X tg iter wi) (hg:PG X tg g) (hb:PSs X body tb)
  (hs:∀ x,foldedSetIterable iter X.env x=pure x:=by intro _;rfl):PS X (.For tg iter body [] pos) (J1 wi g tb):=by
 intro pins s σ H D I h;refine wpAny_For (thn (hi pins s σ H _ I h) fun v s1 h1=>thn h1 fun itv s2 h2=>?_) hs;obtain ⟨it,fp,tn,J,H2,e,I2,T,st2,f2,W,⟨m0,w0⟩,turn⟩:=h2;subst e;have stat:∀ {H':Hp},(∀ b∈fp,H' b=none)->∀ b∈fp,kL X pins H' b:=fun hn b hb=>⟨hn b hb,(f2 b hb).2⟩;refine codeAny_forLoop_any (fun n s'=>∃ i σ' H',Inv X pins σ' H' s'/\tn i s'.heap/\(∀ b∈fp,H' b=none)/\W i n σ' H') ?_ m0 ⟨0,σ,H2,I2,st2,fun b hb=>(f2 b hb).1,w0⟩;rintro n s3 ⟨i,σ3,H3,I3,st3,fr3,w3⟩;rcases turn i n σ3 H3 w3 with ⟨stop,qn⟩|⟨go,N,hN,step⟩
 ·refine OR hp (thn (T.done X rfl rfl rfl hc i pins s3 σ3 H3 X.xe I3 (stat fr3) st3 stop) fun r s4 ⟨hr,I4⟩=>?_);subst hr;exact Pb ⟨σ3,H3,I4,qn⟩
 ·refine OR hp (thn (T.item X rfl rfl rfl hc i pins s3 σ3 H3 X.xe I3 (stat fr3) st3 go) fun r s4 ⟨u,hr,h4⟩=>?_);subst hr;refine OR hp (thn h4 fun _ s5 ⟨x,H5,I5,r5,y5,st5,fr5⟩=>?_);have I5':=I5.pinned (stat fr5) (T.obj _ _ st5);refine OR hp (thn (hg _ s5 σ3 H5 x u _ I5' r5 (step x H5 y5)) fun _ s6 ⟨σ6,H6,I6,q6⟩=>?_);refine OR hp (thn (hb _ s6 σ6 H6 _ I6 q6) fun f s7 q7=>?_);have again:∀ {σ7:St} {H7:Hp},Inv X (pins++ma fp s5.heap) σ7 H7 s7->N σ7 H7->∃ m,m<n/\∃ i σ' H',Inv X pins σ' H' s7/\tn i s7.heap/\(∀ b∈fp,H' b=none)/\W i m σ' H':=fun {σ7 H7} I7 n7=>by
   obtain ⟨m',hm,w7⟩:=hN σ7 H7 n7;refine ⟨m',hm,i+1,σ7,H7,I7.nC,T.keep _ _ _ st5 fun b hb o e=>(I7.pin (b,o) (Nk _ (Nk _ (jO hb e)))).1,fun b hb=>?_,w7⟩;obtain ⟨o,e,d⟩:=T.obj _ _ st5 b hb;exact (I7.pin (b,o) (Nk _ (Nk _ (jO hb e)))).2.1
  cases f with
  | next=>obtain ⟨σ7,H7,I7,n7⟩:=q7;exact again I7 n7
  | cont=>obtain ⟨σ7,H7,I7,n7⟩:=q7;exact again I7 n7
  | brk=>obtain ⟨σ7,H7,I7,q7⟩:=q7;exact ⟨σ7,H7,I7.nC,q7⟩
  | ret v=>obtain ⟨x7,σ7,H7,I7,r7,q7⟩:=q7;exact ⟨x7,σ7,H7,I7.nC,r7,q7⟩
end
def rP {K:LN} {a:Addr} {xs:List V} {g:TG} {tb:TS} {D:Ends} {σ:St} {H:Hp} (Pv:Nat->St->Hp->Prop) (h0:Pv 0 σ H) (hl:∀ i σ H,i<=xs.length->Pv i σ H->SqL K H a xs)
  (hs:∀ i x σ H,xs[i]?=some x->Pv i σ H->g x σ H fun σ2 H2=>tb { D with nx:=Pv (i+1),ct:=Pv (i+1),bk:=D.nx } σ2 H2) (hd:∀ σ H,Pv xs.length σ H->D.nx σ H) :
  ∃ W:Nat->Nat->St->Hp->Prop,(∃ m,W 0 m σ H)/\∀ i m σ H,W i m σ H ->
   ((Itl K a).stop i H/\D.nx σ H)\/((Itl K a).go i H/\∃ N:St->Hp->Prop,(∀ σ' H',N σ' H'->∃ m',m' < m/\W (i+1) m' σ' H')/\∀ x H',(Itl K a).yld i H x H'->g x σ H' fun σ2 H2=>tb { D with nx:=N,ct:=N,bk:=D.nx } σ2 H2):=by
 refine ⟨fun i m σ H=>m=xs.length - i/\i<=xs.length/\Pv i σ H,⟨xs.length,by simp,MI _,h0⟩,?_⟩
 rintro i m σ H ⟨rfl,hi,p⟩;have q:=hl i σ H hi p
 by_cases hlt:i<xs.length
 ·refine .inr ⟨⟨xs,xs[i],q,by simp [hlt]⟩,Pv (i+1),fun σ' H' p'=>⟨xs.length - (i+1),by lia,rfl,hlt,p'⟩,fun x H' y=>?_⟩
  obtain ⟨e,y⟩:=y;subst e;exact hs i x σ _ (y xs q) p
 ·have e:i=xs.length:=by lia
  subst e;exact .inl ⟨⟨xs,q,Ma _⟩,hd σ H p⟩
def Em {lo:Int} {n:Nat} {g:TG} {tb:TS} {D:Ends} {σ:St} {H:Hp} (Pv:Nat->St->Hp->Prop) (h0:Pv 0 σ H)
  (hs:∀ i σ H,i<n->Pv i σ H->g (.int (lo+i)) σ H fun σ2 H2=>tb { D with nx:=Pv (i+1),ct:=Pv (i+1),bk:=D.nx } σ2 H2) (hd:∀ σ H,Pv n σ H->D.nx σ H) :
  ∃ W:Nat->Nat->St->Hp->Prop,(∃ m,W 0 m σ H)/\∀ i m σ H,W i m σ H ->
   ((Itr lo n).stop i H/\D.nx σ H)\/((Itr lo n).go i H/\∃ N:St->Hp->Prop,(∀ σ' H',N σ' H'->∃ m',m' < m/\W (i+1) m' σ' H')/\∀ x H',(Itr lo n).yld i H x H'->g x σ H' fun σ2 H2=>tb { D with nx:=N,ct:=N,bk:=D.nx } σ2 H2):=by
 refine ⟨fun i m σ H=>m=n - i/\i<=n/\Pv i σ H,⟨n,by simp,MI _,h0⟩,?_⟩
 rintro i m σ H ⟨rfl,hi,p⟩
 by_cases hlt:i<n
 ·refine .inr ⟨hlt,Pv (i+1),fun σ' H' p'=>⟨n - (i+1),by lia,rfl,hlt,p'⟩,fun x H' y=>?_⟩
  obtain ⟨e,y⟩:=y;subst e y;exact hs i σ _ hlt p
 ·have e:i=n:=by lia
  subst e;exact .inl ⟨Ma _,hd σ H p⟩
abbrev R2:=V->V->Hp->VK->Prop
def OpR (X:Cx) (f:Value->Value->Sem Value) (r:R2):Prop :=
 ∀ (pins:List (Addr×Obj)) (s:LU) (σ:St) (H:Hp) (x y:V) (v u:Value) (Q:VK),Inv X pins σ H s->RelV x v->RelV y u->r x y H Q ->
  wpAny (model X.prog X.w) X.A (f v u) (EP X pins σ Q) X.xe s
def cA (X:Cx) (f:Value) (r:List V->Hp->VK->Prop):Prop :=
 ∀ (pins:List (Addr×Obj)) (s:LU) (σ:St) (H:Hp) (xs:List V) (us:List Value) (Q:VK),Inv X pins σ H s->Vals xs us->r xs H Q ->
  wpAny (model X.prog X.w) X.A (call f us) (EP X pins σ Q) X.xe s
def tOp (r:R2) (ta tb:TE):TE:=fun σ H Q=>ta σ H fun x H1=>tb σ H1 fun y H2=>r x y H2 Q
def rI (C:Int->Int->Prop) (g:Int->Int->V):R2:=fun x y H Q=>∃ i j,x=.int i/\y=.int j/\C i j/\Q (g i j) H
def rI0 (g:Int->Int->V):R2:=fun x y H Q=>∃ i j,x=.int i/\y=.int j/\Q (g i j) H
section
variable {X:Cx} {a b c:Expr} {ta tb tc:TE} {pos:Pos}
def Hs (ha:PE X a ta) (hb:PE X b tb) {pins:List (Addr×Obj)} {s:LU} {σ:St} {H:Hp} {R:V->V->Hp->Prop} (I:Inv X pins σ H s)
  (h:ta σ H fun x H1=>tb σ H1 fun y H2=>R x y H2) {Q:Value->LU->Prop} {f:Value->Value->Sem Value}
  (hf:∀ v u s2 x y H2,Inv X pins σ H2 s2->RelV x v->RelV y u->R x y H2->wpAny (model X.prog X.w) X.A (f v u) Q X.xe s2) :
  wpAny (model X.prog X.w) X.A (eval a X.env) (fun v s₁=>wpAny (model X.prog X.w) X.A (eval b X.env) (fun u s₂=>wpAny (model X.prog X.w) X.A (f v u) Q X.xe s₂) X.xe s₁) X.xe s:=by
 refine thn (ha pins s σ H _ I h) fun v s1 ⟨x,H1,I1,r1,q1⟩=>?_;refine thn (hb pins s1 σ H1 _ I1 q1) fun u s2 ⟨y,H2,I2,r2,q2⟩=>?_;exact hf v u s2 x y H2 I2 r1 r2 q2
def au {op:Operator} {r:R2} (ho:OpR X (binaryOp op) r) (ha:PE X a ta) (hb:PE X b tb):PE X (.BinOp a op b pos) (tOp r ta tb):=by
 intro pins s σ H Q I h;exact wpAny_BinOp (Hs ha hb I h fun v u s2 x y H2 I2 rx ry q=>ho pins s2 σ H2 x y v u Q I2 rx ry q)
def opI {f:Value->Value->Sem Value} {C:Int->Int->Prop} {g:Int->Int->Int}
  (rule:∀ (i j:Int) (t u:Tok) (s:LU) (Q:Value->LU->Prop) (E:Value->LU->Prop),C i j->Q (.int (g i j) s.toks) { s with toks:=s.toks+1 }->wpAny (model X.prog X.w) X.A (f (.int i t) (.int j u)) Q E s) :
  OpR X f (rI C fun i j=>.int (g i j)):=by
 intro pins s σ H x y v u Q I rx ry h;obtain ⟨i,j,rfl,rfl,hc,q⟩:=h;obtain ⟨t,rfl⟩:=rx;obtain ⟨t',rfl⟩:=ry;exact rule i j t t' s _ _ hc ⟨.int (g i j),H,I.tok _,⟨_,rfl⟩,q⟩
def Kr {f:Value->Value->Sem Value} {g:Int->Int->Int}
  (rule:∀ (i j:Int) (t u:Tok) (s:LU) (Q:Value->LU->Prop) (E:Value->LU->Prop),Q (.int (g i j) s.toks) { s with toks:=s.toks+1 }->wpAny (model X.prog X.w) X.A (f (.int i t) (.int j u)) Q E s) :
  OpR X f (rI0 fun i j=>.int (g i j)):=by
 intro pins s σ H x y v u Q I rx ry h;obtain ⟨i,j,rfl,rfl,q⟩:=h;obtain ⟨t,rfl⟩:=rx;obtain ⟨t',rfl⟩:=ry;exact rule i j t t' s _ _ ⟨.int (g i j),H,I.tok _,⟨_,rfl⟩,q⟩
def BR {f:Value->Value->Sem Value} {g:Int->Int->Bool}
  (rule:∀ (i j:Int) (t u:Tok) (s:LU) (Q:Value->LU->Prop) (E:Value->LU->Prop),Q (.bool (g i j)) s->wpAny (model X.prog X.w) X.A (f (.int i t) (.int j u)) Q E s) :
  OpR X f (rI0 fun i j=>.bl (g i j)):=by
 intro pins s σ H x y v u Q I rx ry h;obtain ⟨i,j,rfl,rfl,q⟩:=h;obtain ⟨t,rfl⟩:=rx;obtain ⟨t',rfl⟩:=ry;exact rule i j t t' s _ _ ⟨.bl (g i j),H,I,rfl,q⟩
def GC (i j:Int):Prop:=0<j/\j<1073741824
def LC (i j:Int):Prop:=0<=j/\j<=1000000/\i.natAbs<2 ^ 64
def CC (i j:Int):Prop:=(-(2 ^ 64)<i/\i<2 ^ 64)\/(-(2 ^ 64)<j/\j<2 ^ 64)
def CC.ok {i j:Int} (h:CC i j):IntMulOk i j:=by
 rcases h with ⟨h1,h2⟩|⟨h1,h2⟩
 ·exact .of_left (intBits_le_64 h1 h2)
 ·exact .of_right (intBits_le_64 h1 h2)
def bj:OpR X (binaryOp .Add) (rI0 fun i j=>.int (i+j)):=Kr fun _ _ _ _ _ _ _ q=>add_int q
def fP:OpR X (binaryOp .Sub) (rI0 fun i j=>.int (i - j)):=Kr fun _ _ _ _ _ _ _ q=>sub_int q
def bU:OpR X (binaryOp .Mult) (rI CC fun i j=>.int (i * j)):=opI fun _ _ _ _ _ _ _ hc q=>mul_int q hc.ok
def bq:OpR X (binaryOp .FloorDiv) (rI GC fun i j=>.int (i / j)):=opI fun i j _ _ _ _ _ hc q=>by
 have h1:(0:Int)<j:=hc.1;have h2:j<1073741824:=hc.2;exact floordiv_int (by lia) (by rw [Int.fdiv_eq_ediv_of_nonneg i (by lia)];exact q) (.inl (PyProof.noPylong_small (by lia)))
def aV:OpR X (binaryOp .Mod) (rI (fun _ j=>0<j) fun i j=>.int (i % j)):=opI fun i j _ _ _ _ _ hc q=>by
 have h1:(0:Int)<j:=hc;exact mod_int' (by lia) (by rw [Int.fmod_eq_emod_of_nonneg i (by lia)];exact q)
def Kj:OpR X (binaryOp .Pow) (rI LC fun i j=>.int (i ^ j.toNat)):=opI fun _ _ _ _ _ _ _ hc q=>pow_int_small hc.1 hc.2.1 hc.2.2 q
end
def Kh:V->V->Bool
 | .non,.non=>true | .non,.int _=>true | .int _,.non=>true | .non,.bl _=>true | .bl _,.non=>true | .non,.str _=>true | .str _,.non=>true
 | .int _,.int _=>true | .bl _,.bl _=>true | .str _,.str _=>true | .byt _,.byt _=>true
 | .int _,.str _=>true | .str _,.int _=>true | .bl _,.str _=>true | .str _,.bl _=>true
 | _,_=>false
def rEq:R2:=fun x y H Q=>Kh x y=true/\Q (.bl (decide (x=y))) H
def rNe:R2:=fun x y H Q=>Kh x y=true/\Q (.bl (!decide (x=y))) H
def BA {i j:Int}:decide (V.int i=V.int j)=(i == j):=by
 rw [NQ];simp
def DW {i j:Bool}:decide (V.bl i=V.bl j)=(i == j):=by
 rw [NQ];simp
def A0 {i j:Str}:decide (V.str i=V.str j)=(i == j):=by
 rw [NQ];simp
def BE {i j:Array UInt8}:decide (V.byt i=V.byt j)=(i.toList == j.toList):=by
 rw [NQ];cases i;cases j;simp
section
variable {X:Cx} {a b c:Expr} {ta tb tc:TE} {pos:Pos}
def bM {pins:List (Addr×Obj)} {σ:St} {H:Hp} {s:LU} {Q:VK} {k k':Bool} (I:Inv X pins σ H s) (q:Q (.bl k) H) (e:k=k'):EP X pins σ Q (.bool k') s:=by
 subst e;exact ⟨.bl k,H,I,rfl,q⟩
def bL:OpR X (compareOp .Eq) rEq:=by
 intro pins s σ H x y v u Q I rx ry h;obtain ⟨hs,q⟩:=h;cases x with
 | non =>
  cases rx;cases y with
  | non=>cases ry;exact PySem.EqNone.eq_none_none (bM I q (by simp))
  | bl j=>cases ry;exact PySem.EqNone.eq_none_bool (bM I q (by simp))
  | int j=>obtain ⟨t',rfl⟩:=ry;exact PySem.EqNone.eq_none_int (bM I q (by simp))
  | str j=>obtain ⟨t',rfl⟩:=ry;exact PySem.EqNone.eq_none_str (bM I q (by simp))
  | _=>exact absurd (show false=true from hs) Mj
 | bl i =>
  cases rx;cases y with
  | non=>cases ry;exact PySem.EqNone.eq_bool_none (bM I q (by simp))
  | bl j=>cases ry;exact eq_bool (bM I q DW)
  | str j=>obtain ⟨t',rfl⟩:=ry;exact PySem.EqMixed.eq_bool_str (bM I q (by simp))
  | _=>exact absurd (show false=true from hs) Mj
 | int i =>
  obtain ⟨t,rfl⟩:=rx;cases y with
  | non=>cases ry;exact PySem.EqNone.eq_int_none (bM I q (by simp))
  | int j=>obtain ⟨t',rfl⟩:=ry;exact eq_int (bM I q BA)
  | str j=>obtain ⟨t',rfl⟩:=ry;exact PySem.EqMixed.eq_int_str (bM I q (by simp))
  | _=>exact absurd (show false=true from hs) Mj
 | str i =>
  obtain ⟨t,rfl⟩:=rx;cases y with
  | non=>cases ry;exact PySem.EqNone.eq_str_none (bM I q (by simp))
  | bl j=>cases ry;exact PySem.EqMixed.eq_str_bool (bM I q (by simp))
  | int j=>obtain ⟨t',rfl⟩:=ry;exact PySem.EqMixed.eq_str_int (bM I q (by simp))
  | str j=>obtain ⟨t',rfl⟩:=ry;exact eq_str (bM I q A0)
  | _=>exact absurd (show false=true from hs) Mj
 | byt i =>
  obtain ⟨t,rfl⟩:=rx;cases y with
  | byt j=>obtain ⟨t',rfl⟩:=ry;exact PySem.W.eq_bytes (bM I q BE)
  | _=>exact absurd (show false=true from hs) Mj
 | _=>cases y <;> exact absurd (show false=true from hs) Mj
def dM:OpR X (compareOp .NotEq) rNe:=by
 intro pins s σ H x y v u Q I rx ry h;obtain ⟨hs,q⟩:=h;cases x with
 | non =>
  cases rx;cases y with
  | non=>cases ry;exact PySem.EqNone.ne_none_none (bM I q (by simp))
  | bl j=>cases ry;exact PySem.EqNone.ne_none_bool (bM I q (by simp))
  | int j=>obtain ⟨t',rfl⟩:=ry;exact PySem.EqNone.ne_none_int (bM I q (by simp))
  | str j=>obtain ⟨t',rfl⟩:=ry;exact PySem.EqNone.ne_none_str (bM I q (by simp))
  | _=>exact absurd (show false=true from hs) Mj
 | bl i =>
  cases rx;cases y with
  | non=>cases ry;exact PySem.EqNone.ne_bool_none (bM I q (by simp))
  | bl j=>cases ry;exact ne_bool (bM I q (congrArg not DW))
  | str j=>obtain ⟨t',rfl⟩:=ry;exact PySem.EqMixed.ne_bool_str (bM I q (by simp))
  | _=>exact absurd (show false=true from hs) Mj
 | int i =>
  obtain ⟨t,rfl⟩:=rx;cases y with
  | non=>cases ry;exact PySem.EqNone.ne_int_none (bM I q (by simp))
  | int j=>obtain ⟨t',rfl⟩:=ry;exact ne_int (bM I q (congrArg not BA))
  | str j=>obtain ⟨t',rfl⟩:=ry;exact PySem.EqMixed.ne_int_str (bM I q (by simp))
  | _=>exact absurd (show false=true from hs) Mj
 | str i =>
  obtain ⟨t,rfl⟩:=rx;cases y with
  | non=>cases ry;exact PySem.EqNone.ne_str_none (bM I q (by simp))
  | bl j=>cases ry;exact PySem.EqMixed.ne_str_bool (bM I q (by simp))
  | int j=>obtain ⟨t',rfl⟩:=ry;exact PySem.EqMixed.ne_str_int (bM I q (by simp))
  | str j=>obtain ⟨t',rfl⟩:=ry;exact ne_str (bM I q (congrArg not A0))
  | _=>exact absurd (show false=true from hs) Mj
 | byt i =>
  obtain ⟨t,rfl⟩:=rx;cases y with
  | byt j=>obtain ⟨t',rfl⟩:=ry;exact PySem.W.ne_bytes (bM I q (congrArg not BE))
  | _=>exact absurd (show false=true from hs) Mj
 | _=>cases y <;> exact absurd (show false=true from hs) Mj
def eA:OpR X (compareOp .Lt) (rI0 fun i j=>.bl (decide (i<j))):=BR fun _ _ _ _ _ _ _ q=>lt_int q
def Lx:OpR X (compareOp .LtE) (rI0 fun i j=>.bl (decide (i<=j))):=BR fun _ _ _ _ _ _ _ q=>le_int q
def fK:OpR X (compareOp .Gt) (rI0 fun i j=>.bl (decide (j<i))):=BR fun _ _ _ _ _ _ _ q=>gt_int q
def lr:OpR X (compareOp .GtE) (rI0 fun i j=>.bl (decide (j<=i))):=BR fun _ _ _ _ _ _ _ q=>ge_int q
def aB (b:Expr) {op:CmpOp} (h:op≠.In:=by decide) (h2:op≠.NotIn:=by decide):behindInMarks op b=false:=by
 have e1:(op == CmpOp.In)=false:=by cases op <;> first|rfl|exact absurd rfl h
 have e2:(op == CmpOp.NotIn)=false:=by cases op <;> first|rfl|exact absurd rfl h2
 cases b <;> simp [behindInMarks,e1,e2]
def dz {op:CmpOp} {r:R2} (ho:OpR X (compareOp op) r) (ha:PE X a ta) (hb:PE X b tb) (hm:behindInMarks op b=false):PE X (.Compare a [op] [b] pos) (tOp r ta tb):=by
 intro pins s σ H Q I h;exact wpAny_Compare1 (Hs ha hb I h fun v u s2 x y H2 I2 rx ry q=>ho pins s2 σ H2 x y v u Q I2 rx ry q) hm
def HF (t:TE):TT:=fun σ H Q=>t σ H fun x H'=>∃ k,x=.bl k/\Q k H'
def ax {op:CmpOp} {r:R2} (ho:OpR X (compareOp op) r) (ha:PE X a ta) (hb:PE X b tb) (hm:behindInMarks op b=false):PT X (.Compare a [op] [b] pos) (HF (tOp r ta tb)):=by
 intro pins s σ H Q I h;refine Se (thn (ha pins s σ H _ I h) fun v s1 ⟨x,H1,I1,r1,q1⟩=>thn (hb pins s1 σ H1 _ I1 q1) fun u s2 ⟨y,H2,I2,r2,q2⟩ =>
  thn (ho pins s2 σ H2 x y v u _ I2 r1 r2 q2) fun c s3 ⟨z,H3,I3,r3,k,e,q3⟩=>?_) hm
 subst e;cases r3;exact N7 ⟨H3,I3,q3⟩
def tK:(Mx:Nat)<2 ^ 63:=by rw [MW];decide
def vals1 {x:V} {us:List Value} (r:Vals [x] us):∃ u,us=[u]/\RelV x u:=by
 cases r with
 | cons r1 r2=>cases r2;exact ⟨_,rfl,r1⟩
def vals2 {x y:V} {us:List Value} (r:Vals [x,y] us):∃ u w',us=[u,w']/\RelV x u/\RelV y w':=by
 cases r with
 | cons r1 r2 =>
  cases r2 with
  | cons r3 r4=>cases r4;exact ⟨_,_,rfl,r1,r3⟩
end
structure ur (h:Heap) (x dx C:Addr) (mA:Str->Option Value):Prop where
 obj:h.get? x=some (OA C dx)
 ns:h.Ns1 dx mA
 ne:dx≠x
def oZ {h:Heap} {dx:Addr} {mA:Str->Option Value} (n:h.Ns1 dx mA):∃ od,h.get? dx=some od/\∀ name,SW name od=some (mA name):=by
 obtain ⟨o,es,ep,ho,hd,hk,_,hm⟩:=n;refine ⟨o,ho,fun name=>?_⟩;have e:=hm name;unfold nsFind findBy at e;rw [<- Array.find?_toList] at e;unfold SW;rw [hd];dsimp only
 split
 ·rename_i y q
  rw [q] at e;exact congrArg some e
 ·rename_i q
  rw [q] at e;have a:es.toList.any (·.refKey)=false:=by
   rw [Qh];intro y hy;obtain ⟨z,t,hkey⟩:=hk y (Array.mem_toList_iff.mp hy);simp [DictEntry.refKey,hkey]
  have a':¬ es.toList.any (·.refKey)=true:=by rw [a];exact Mj
  rw [if_neg a'];exact congrArg some e
def ur.look {h:Heap} {x dx C:Addr} {mA:Str->Option Value} (I:ur h x dx C mA):∃ od,Q7 h x (OA C dx) C (some od)/\∀ name,SW name od=some (mA name) :=
 let ⟨od,ho,hl⟩:=oZ I.ns
 ⟨od,⟨I.obj,rfl,rfl,ho⟩,hl⟩
section
variable {prog:Mh} {w:World} {A:MP} {E:Value->LU->Prop} {s:LU} {K:LN} {x dx C f:Addr} {mA:Str->Option Value} {name:Str} {v:Value}
def get_map {expr:Bool} {Q:Value->LU->Prop} (X:K.In s.heap) (I:ur s.heap x dx C mA) (hg:Qz K C name=true) (hh:NF K C=true)
  (ha:M5 K (.ref C) name=some none) (hv:mA name=some v) (hv':RU v=true) (h:Q v { s with toks:=s.toks+1 }) :
  wpAny (model prog w) A (getAttr (.ref x) name expr) Q E s:=by
 obtain ⟨od,J,hl⟩:=I.look;exact PySem.W.get_value X J (PySem.W.plainGet_of hg).1 (S5 hh ha rfl (by rw [hl,hv])) hv' h
def Ir {ns:List Str} {Q:Unit->LU->Prop} (X:K.In s.heap) (I:ur s.heap x dx C mA)
  (hs:M5 K (.ref C) "__setattr__" = some (some (.builtin "object.__setattr__"))) (hp:Rg K C=true) (ht:Sf K C name=some none) (hh:NF K C=true)
  (hw:QW mA ns) (hsz:ns.length<=Mx)
  (h:∀ h',ur h' x dx C (fun y=>if y=name then some v else mA y)->O0 dx s.heap h'->Q () { s with heap:=h',toks:=s.toks+2 }) :
  wpAny (model prog w) A (setAttr (.ref x) name v) Q E s:=by
 obtain ⟨od,J,hl⟩:=I.look;refine Rh X J hs (PySem.W.osa_open (s:={ s with toks:=s.toks+1 }) (r:=none) X J hp ht fun b=>?_);obtain ⟨cd,hc,hd'⟩:=PL hh;have hx:s.heap.get? x=some ⟨.ref C,some dx,.plain,#[]⟩:=I.obj;refine LP (LZ (LP (LP (Q8 hx (LP (QY (s:={ s with toks:=s.toks+1 }) (PU X hc) ?_))))));rw [hd'];refine LZ (a:=some dx) (LP (LZ (LP ?_)));refine Tz (s:={ s with toks:=s.toks+1 }) I.ns fun h' hn2 hs2=>?_;obtain ⟨oD,esD,epD,hoD,hdD,hcD⟩:=hn2.count (Ri name v hw);refine LP (RV hoD (by rw [hdD];exact RW (M7 hcD (by rw [MN];lia))) ?_)
 exact LZ (h _ ⟨(hs2.2 _ (NI I.ne)).trans I.obj,hn2,I.ne⟩ hs2)
def Ge {R:Rj->LU->Prop} {vs:List Value} {kw:List (Str×Value)} (X:K.In s.heap) (hm:Sg K C=true)
  (hi:M5 K (.ref C) "__init__" = some (some (.ref f))) (hf:PySem.W.typeIn K (.ref f)=some (.type "function"))
  (h:codeAny (model prog w) (A.under (.builtin "type.__call__" ⟨.ref C :: vs,kw⟩)) (.call (.ref f) ⟨.ref (s.heap.objs.size+1) :: vs,kw⟩) (PySem.W.InitBack (s.heap.objs.size+1) R)
   { s with heap:=(s.heap.push MM).push (OA C s.heap.objs.size) }) :
  codeAny (model prog w) A (.call (.ref C) ⟨vs,kw⟩) R s:=by
 obtain ⟨hh,g,d,t,os⟩:=s;exact PySem.W.make_core (PySem.W.makes_of X hm) (NK X hi) (fun self=>PySem.W.bind_fn X self hf) (.inl rfl) h
end
def d4 (f:Str) (v:V):List (Str×V)->List (Str×V)
 | []=>[(f,v)]
 | (g,x) :: r=>if g=f then (g,v) :: r else (g,x) :: d4 f v r
def gv (f g:Str) (v:V):∀ fs:List (Str×V),(d4 f v fs).lookup g=if g=f then some v else fs.lookup g
 | []=>by
  show PV g [(f,v)]=_
  by_cases h:g=f
  ·have hb:(g == f)=true:=beq_iff_eq.mpr h;simp only [PV,hb,if_pos h]
  ·have hb:(g == f)=false:=beq_eq_false_iff_ne.mpr h;simp only [PV,hb,if_neg h]
 | (k,x) :: r=>by
  have ih:=gv f g v r;rw [show d4 f v ((k,x) :: r)=(if k=f then (k,v) :: r else (k,x) :: d4 f v r) from rfl]
  by_cases hk:k=f
  ·rw [if_pos hk]
   by_cases h:g=k
   ·have hb:(g == k)=true:=beq_iff_eq.mpr h;simp only [PV,hb,if_pos (h.trans hk)]
   ·have hb:(g == k)=false:=beq_eq_false_iff_ne.mpr h;simp only [PV,hb,if_neg (fun e:g=f=>h (e.trans hk.symm))]
  ·rw [if_neg hk]
   by_cases h:g=k
   ·have hb:(g == k)=true:=beq_iff_eq.mpr h;simp only [PV,hb,if_neg (fun e:g=f=>hk (h.symm.trans e))]
   ·have hb:(g == k)=false:=beq_eq_false_iff_ne.mpr h;simp only [PV,hb];exact ih
def oS (f:Str) (v:V):∀ fs:List (Str×V),f∈(d4 f v fs).map (·.1)/\∀ g,g∈fs.map (·.1)->g∈(d4 f v fs).map (·.1)
 | []=>⟨by simp [d4],fun g h=>by simp at h⟩
 | (k,x) :: r=>by
  obtain ⟨i1,i2⟩:=oS f v r;rw [show d4 f v ((k,x) :: r)=(if k=f then (k,v) :: r else (k,x) :: d4 f v r) from rfl]
  by_cases hk:k=f
  ·rw [if_pos hk];subst hk;exact ⟨by simp,fun g h=>by simpa using h⟩
  ·rw [if_neg hk];refine ⟨?_,fun g h=>?_⟩
   ·rw [My];exact L4 _ i1
   ·rw [My] at h ⊢;rcases Mp.mp h with e|e
    ·exact Mp.mpr (.inl e)
    ·exact L4 _ (i2 g e)
def qY (f:Str) (v:V):∀ fs:List (Str×V),(d4 f v fs).length<=fs.length+1
 | []=>by simp [d4]
 | (k,x) :: r=>by
  have ih:=qY f v r;rw [show d4 f v ((k,x) :: r)=(if k=f then (k,v) :: r else (k,x) :: d4 f v r) from rfl]
  by_cases hk:k=f
  ·rw [if_pos hk,MN,MN];lia
  ·rw [if_neg hk,MN,MN];lia
def fG.some_of {v:V} {o:Option Value} (r:fG (some v) o):∃ u,o=some u/\RelV v u:=by
 cases o with
 | none=>exact (show False from r).elim
 | some u=>exact ⟨u,rfl,r⟩
def fG.none_of {o:Option Value} (r:fG none o):o=none:=by
 cases o with
 | none=>rfl
 | some u=>exact (show False from r).elim
def vM {v:V} {u:Value} (r:RelV v u):RU u=true:=by
 cases v with
 | non=>cases (show u=Ng from r);rfl
 | bl b=>cases (show u=SK b from r);rfl
 | int i=>obtain ⟨t,e⟩:=(show ∃ t,u=Ol i t from r);cases e;rfl
 | str x=>obtain ⟨t,e⟩:=(show ∃ t,u=Ti x t from r);cases e;rfl
 | byt b=>obtain ⟨t,e⟩:=(show ∃ t,u=Value.bytes b t from r);cases e;rfl
 | flt b=>obtain ⟨t,e⟩:=(show ∃ t,u=TX b t from r);cases e;rfl
 | ref a=>cases (show u=Ms a from r);rfl
 | ty n=>cases (show u=SM n from r);rfl
section
variable {P:Mh} {w:World} {H H':Hp} {h h':Heap} {a C dx:Addr} {fs fs':List (Str×V)}
def uW (hok:HOk P w H h) (e:H a=some (.ins C dx fs)):∃ mA,ur h a dx C mA/\(∀ f,fG (fs.lookup f) (mA f))/\QW mA (fs.map (·.1))/\fs.length<=1000/\H dx=some (.own a):=by
 obtain ⟨d,z,ne,ob,mA,n,r,q⟩:=(show bB P w H h a (.ins C dx fs) from hok a _ e);exact ⟨mA,⟨ob,n,ne⟩,r,q,z,d⟩
end
structure Cls (K:LN) (C:Addr):Prop where
 pg:Qz K C Str.empty=true
 hd:NF K C=true
 po:Rg K C=true
 sa:M5 K (.ref C) "__setattr__" = some (some (.builtin "object.__setattr__"))
def Cls.get {K:LN} {C:Addr} (c:Cls K C) (f:Str):Qz K C f=true:=c.pg
def bP (K:LN) (C:Addr) (f:Str):Prop:=M5 K (.ref C) f=some none
def bP.Lq {K:LN} {C:Addr} {f:Str} (n:bP K C f):Sf K C f=some none:=by
 unfold Sf;rw [show M5 K (.ref C) f=some none from n];rfl
section
variable {X:Cx} {pins:List (Addr×Obj)} {σ:St} {H:Hp} {s:LU} {a C dx:Addr} {fs:List (Str×V)} {f:Str} {v:V} {A:MP} {E:Value->LU->Prop}
def C0 {b:Bool} {Q:Value->LU->Prop} (I:Inv X pins σ H s) (e:H a=some (.ins C dx fs)) (c:Cls X.K C) (n:bP X.K C f) (l:fs.lookup f=some v)
  (h:∀ u s',Inv X pins σ H s'->RelV v u->Q u s'):wpAny (model X.prog X.w) A (getAttr (.ref a) f b) Q E s:=by
 obtain ⟨mA,O,r,_,_,_⟩:=uW I.hok e;obtain ⟨u,hu,ru⟩:=fG.some_of (v:=v) (o:=mA f) (by rw [<- l];exact r f)
 exact get_map I.kIn O (c.get f) c.hd n hu (vM ru) (h u _ (I.tok _) ru)
def Ce {y:V} {u:Value} {Q:Unit->LU->Prop} (I:Inv X pins σ H s) (e:H a=some (.ins C dx fs)) (c:Cls X.K C) (n:bP X.K C f) (hl:fs.length<1000) (ry:RelV y u)
  (h:∀ s',Inv X pins σ (upd H a (.ins C dx (d4 f y fs))) s'->Q () s'):wpAny (model X.prog X.w) A (setAttr (.ref a) f u) Q E s:=by
 obtain ⟨mA,O,r,wi,_,ho⟩:=uW I.hok e;have hz:(fs.map (·.1)).length<=Mx:=by rw [LV,MW];lia
 refine Ir I.kIn O c.sa c.po n.Lq c.hd wi hz fun h' O' sb=>h _ ?_;have hd:∃ o,h'.get? dx=some o:=let ⟨o,_,_,e',_⟩:=O'.ns;⟨o,e'⟩;refine I.write (x:=a) (e:=dx) (by rw [e];exact NN) (.inr ho) (fun b q hb z=>(sb.2 b hb).trans z) hd ?_
 refine ⟨by rw [aA O.ne];exact ho,?_,O.ne,O'.obj,_,O'.ns,fun g=>?_,fun g hg=>?_⟩
 ·have:=qY f y fs;lia
 ·show fG ((d4 f y fs).lookup g) (if g=f then some u else mA g);rw [gv]
  by_cases q:g=f
  ·rw [if_pos q,if_pos q];exact ry
  ·rw [if_neg q,if_neg q];exact r g
 ·by_cases q:g=f
  ·rw [q];exact (oS f y fs).1
  ·refine (oS f y fs).2 g (wi g fun z=>hg ?_);show (if g=f then some u else mA g)=none;rw [if_neg q];exact z
def Inv.made (I:Inv X pins σ H s):Inv X pins σ (upd (upd H s.heap.objs.size (.own (s.heap.objs.size+1))) (s.heap.objs.size+1) (.ins C s.heap.objs.size []))
  { s with heap:=(s.heap.push MM).push (OA C s.heap.objs.size) }:=by
 have e1:(s.heap.push MM).get? s.heap.objs.size=some MM:=Mo s.heap rfl;have e2:((s.heap.push MM).push (OA C s.heap.objs.size)).get? (s.heap.objs.size+1)=some (OA C s.heap.objs.size):=by
  have:=Mo (s.heap.push MM) (o:=OA C s.heap.objs.size) rfl
  rwa [OO] at this
 have e3:(s.heap.push MM).Ns s.heap.objs.size (fun _=>none):=⟨MM,#[],_,e1,rfl,(fun e he=>absurd he (by simp)),fun _=>rfl⟩
 have I1:=I.laid (a:=s.heap.objs.size) (o:=.own (s.heap.objs.size+1)) (h':=s.heap.push MM) (t':=s.toks) (fun b u q=>LW _ q) (Ma _) ⟨_,e1⟩;refine I1.laid (a:=s.heap.objs.size+1) (o:=.ins C s.heap.objs.size []) (t':=s.toks) (fun b u q=>LW _ q) (QZ (OO _ _)) ?_;have ne:s.heap.objs.size≠s.heap.objs.size+1:=Mc (PM _);refine ⟨by rw [aA ne,ar],MI _,ne,e2,fun _=>none,(Rl e3).at fun o q=>LW _ q,fun _=>NN,fun y hy=>absurd rfl hy⟩
def Bm {prog:Mh} {w:World} {env:Env} {e:Expr} {f:Str} {pos:Pos} {s:LU} {Q:Value->LU->Prop} (hb:attributeBase e f env (eval e env)=eval e env)
  (h:wpAny (model prog w) A (eval e env) (fun o s₁=>wpAny (model prog w) A (getAttr o f true) Q E s₁) E s):wpAny (model prog w) A (eval (.Attribute e f pos) env) Q E s :=
 Attribute_any_ h (by rw [arm_eval_Attribute,hb])
end
def GB (K:LN) (ta:TE) (f:Str):TE:=fun σ H Q=>ta σ H fun x H1=>∃ a C dx fs v,x=.ref a/\H1 a=some (.ins C dx fs)/\Cls K C/\bP K C f/\fs.lookup f=some v/\Q v H1
def Hi (K:LN) (ta tv:TE) (f:Str):TS:=fun D σ H=>tv σ H fun y H1=>ta σ H1 fun x H2=>∃ a C dx fs,x=.ref a/\H2 a=some (.ins C dx fs)/\Cls K C/\bP K C f/\fs.length<1000 /\
 D.nx σ (upd H2 a (.ins C dx (d4 f y fs)))
section
variable {X:Cx} {o e value:Expr} {f:Str} {pos pos' tpos:Pos} {ta tv:TE}
def JK (he:PE X e ta) (hb:attributeBase e f X.env (eval e X.env)=eval e X.env):PE X (.Attribute e f pos) (GB X.K ta f):=by
 intro pins s σ H Q I h;refine Bm hb (thn (he pins s σ H _ I h) fun u s1 ⟨x,H1,I1,rx,a,C,dx,fs,v,ex,ea,c,n,l,q⟩=>?_);subst ex;obtain rfl:u=Ms a:=rx;exact C0 I1 ea c n l fun u' s2 I2 ru=>⟨v,H1,I2,ru,q⟩
def KR (ha:PE X o ta) (hv:PE X value tv) (hs:swapsWith value (some (.Attribute o f pos')) pos.line X.env=pure false):PS X (.Assign [.Attribute o f pos'] value pos) (Hi X.K ta tv f):=by
 intro pins s σ H D I h;refine Qi (thn (hv pins s σ H _ I h) fun u s1 ⟨y,H1,I1,ry,q⟩=>thn (ha pins s1 σ H1 _ I1 q) fun ov s2 ⟨x,H2,I2,rx,a,C,dx,fs,ex,ea,c,n,l,q2⟩=>?_) hs;subst ex;obtain rfl:ov=Ms a:=rx;exact Ce I2 ea c n l ry fun s3 I3=>⟨σ,_,I3,q2⟩
end
section
variable {X:Cx} {pins:List (Addr×Obj)} {σ:St} {H:Hp} {s:LU} {A:MP} {E:Value->LU->Prop} {Q:Value->LU->Prop} {c:Value} {b:Bool}
inductive gU (K:LN) (H:Hp):V->Value->Prop where
 | non:gU K H .non (.type "NoneType")
 | bl (x:Bool):gU K H (.bl x) (.type "bool")
 | int (i:Int):gU K H (.int i) (.type "int")
 | str (x:Str):gU K H (.str x) (.type "str")
 | flt (x:UInt64):gU K H (.flt x) (.type "float")
 | lst {a:Addr} {xs:List V} (e:H a=some (.lst xs)):gU K H (.ref a) (.type "list")
 | frz {a:Addr} {o:Obj} {xs:List V} (e:H a=some (.frz o (.lst xs))):gU K H (.ref a) (.type "list")
 | tup {a:Addr} {xs:List V} (e:H a=some (.tup xs)):gU K H (.ref a) (.type "tuple")
 | dK {a:Addr} {kvs:List (Key×V)} (e:H a=some (.dK kvs)):gU K H (.ref a) (.type "dict")
 | dT {a:Addr} {kvs:List (List Key×V)} (e:H a=some (.dT kvs)):gU K H (.ref a) (.type "dict")
 | ins {a C dx:Addr} {fs:List (Str×V)} (e:H a=some (.ins C dx fs)) (cl:Cls K C) (ha:M5 K (.ref C) "__class__" = some (some (.builtin "object.__class__")))
   (hn:PySem.W.specialIn K (.builtin "object.__class__") "__get__" = some (some (.builtin "getset_descriptor.__get__"))) (htk:PySem.W.takesIn K (.builtin "object.__class__")=some true)
   (hm:RF K C (.type "object")=some true):gU K H (.ref a) (.ref C)
def Ff {x:V} {u t:Value} (I:Inv X pins σ H s) (rx:RelV x u) (ty:gU X.K H x t) (e:Nv X.K t c=some b) (h:∀ tk,Q (.bool b) { s with toks:=tk }) :
  wpAny (model X.prog X.w) A (call (.builtin "isinstance") [u,c]) Q E s:=by
 cases ty with
 | non=>cases (show u=Ng from rx);exact NA PySem.W.kitx_none I.kIn NN e (fun z=>nomatch z) h
 | bl y=>cases (show u=SK y from rx);exact NA PySem.W.kitx_bool I.kIn NN e (fun z=>nomatch z) h
 | int i=>obtain ⟨t,q⟩:=(show ∃ t,u=Ol i t from rx);cases q;exact NA PySem.W.kitx_int I.kIn NN e (fun z=>nomatch z) h
 | str y=>obtain ⟨t,q⟩:=(show ∃ t,u=Ti y t from rx);cases q;exact NA PySem.W.kitx_str I.kIn NN e (fun z=>nomatch z) h
 | flt y=>obtain ⟨t,q⟩:=(show ∃ t,u=TX y t from rx);cases q;exact NA PySem.W.kitx_float I.kIn NN e (fun z=>nomatch z) h
 | @lst a xs ea =>
  cases (show u=Ms a from rx);obtain ⟨_,_,n,_,h1⟩:=(show bB X.prog X.w H s.heap a (.lst xs) from I.hok a _ ea);exact NA PySem.W.kitx_list I.kIn ⟨_,h1,rfl⟩ e (fun z=>nomatch z) h
 | @frz a ob xs ea =>
  cases (show u=Ms a from rx);obtain ⟨_,_,_,n,_,h1⟩:=(show bB X.prog X.w H s.heap a (.frz ob (.lst xs)) from I.hok a _ ea);exact NA PySem.W.kitx_list I.kIn ⟨_,h1,rfl⟩ e (fun z=>nomatch z) h
 | @tup a xs ea =>
  cases (show u=Ms a from rx);obtain ⟨_,_,_,p⟩:=(show bB X.prog X.w H s.heap a (.tup xs) from I.hok a _ ea);obtain ⟨o,h1,h2,_⟩:=p;exact NA PySem.W.kitx_tuple I.kIn ⟨o,h1,h2⟩ e (fun z=>nomatch z) h
 | @dK a kvs ea =>
  cases (show u=Ms a from rx);obtain ⟨_,_,vs,_,p⟩:=(show bB X.prog X.w H s.heap a (.dK kvs) from I.hok a _ ea);obtain ⟨o,es,ep,h1,h2,_⟩:=p;exact NA PySem.W.kitx_dict I.kIn ⟨o,h1,h2.1⟩ e (fun z=>nomatch z) h
 | @dT a kvs ea =>
  cases (show u=Ms a from rx);obtain ⟨_,_,xs,_,o,es,ep,h1,h2,_⟩:=(show bB X.prog X.w H s.heap a (.dT kvs) from I.hok a _ ea);exact NA PySem.W.kitx_dict I.kIn ⟨o,h1,h2.1⟩ e (fun z=>nomatch z) h
 | @ins a C dx fs ea cl ha hn htk hm =>
  cases (show u=Ms a from rx);obtain ⟨mA,O,_⟩:=uW I.hok ea;obtain ⟨od,J,_⟩:=O.look;exact NA (PySem.W.kitx_own (cl.get _) cl.hd ha hn htk hm) I.kIn J e (fun z=>nomatch z) h
end
structure bY (k:Nat) (A:MP):Prop where
 hd:A.handled=none
 dp:A.depth+3 * k+5<recursionLimit
 un:A.units+16 * k+200<cLine
def bY.mono {j k:Nat} {A:MP} (r:bY k A) (h:j<=k):bY j A:=⟨r.hd,by have:=r.dp;lia,by have:=r.un;lia⟩
def bY.deeper {k:Nat} {A:MP} (r:bY (k+1) A) (env:Env):bY k (A.deeper env) :=
 ⟨r.hd,by have:=r.dp;show A.depth+1+3 * k+5<_;lia,by have:=r.un;show A.units+3+16 * k+200<_;lia⟩
def bY.in1 {k:Nat} {A:MP} (r:bY (k+1) A):bY k A.in1 :=
 ⟨r.hd,by have:=r.dp;show A.depth+3 * k+5<_;lia,by have:=r.un;show A.units+1+16 * k+200<_;lia⟩
def Cd {A:MP} {C:Addr} {us:List Value} {kw:List (Str×Value)}:(A.under (.builtin "type.__call__" ⟨.ref C :: us,kw⟩)).depth=A.depth+1:=by
 first|rfl|simp [TC,Code.weight,Code.isCreation,Code.isGuard,Code.isCaller,Code.frames,TF,guardIds]
def CA {A:MP} {C:Addr} {us:List Value} {kw:List (Str×Value)}:(A.under (.builtin "type.__call__" ⟨.ref C :: us,kw⟩)).units=A.units+1:=by
 first|rfl|simp [TC,Code.cUnits,Code.frames,TF]
def bY.make {k:Nat} {A:MP} (r:bY (k+1) A) (C:Addr) (us:List Value) (kw:List (Str×Value)):bY k (A.under (.builtin "type.__call__" ⟨.ref C :: us,kw⟩)) :=
 ⟨r.hd,by have:=r.dp;rw [Cd];lia,by have:=r.un;rw [CA];lia⟩
def bY.depth {k:Nat} {A:MP} (r:bY k A):A.depth<recursionLimit:=by have:=r.dp;lia
def bY.units {k:Nat} {A:MP} (r:bY k A):A.units+64<cLine:=by have:=r.un;lia
def ui:TA:=fun _ H Q=>Q [] H
def m7 (ta:TE) (tr:TA):TA:=fun σ H Q=>ta σ H fun x H1=>tr σ H1 fun xs H2=>Q (x :: xs) H2
section
variable {X:Cx} {e:Expr} {es:List Expr} {te:TE} {t:TA} {pos:Pos}
def aa:PA X [] ui:=fun _ _ _ _ H Q I h=>Calls.spliced_nil ⟨[],H,I,.nil,h⟩
def uw (ha:PE X e te) (hr:PA X es t) (hs:MR (e :: es) X.env=(false,eval e X.env) :: MR es X.env:=by rfl):PA X (e :: es) (m7 te t):=by
 intro pos pins s σ H Q I h;rw [hs];show wpAny _ _ (spliced ((false,eval e X.env) :: backTo pos (MR es X.env))) _ _ s;refine Calls.spliced_cons (thn (ha pins s σ H _ I h) fun u s1 ⟨x,H1,I1,r1,q1⟩=>?_);exact thn (hr pos pins s1 σ H1 _ I1 q1) fun us s2 ⟨xs,H2,I2,r2,q2⟩=>⟨x :: xs,H2,I2,.cons r1 r2,q2⟩
def JG (t:TA):TE:=fun σ H Q=>t σ H fun xs H1=>xs.length<=Mx/\∀ p,H1 p=none->Q (.ref p) (upd H1 p (.tup xs))
def zC (t:TA):TE:=fun σ H Q=>t σ H fun xs H1=>xs.length<=Mx/\∀ p,H1 p=none->Q (.ref p) (upd H1 p (.lst xs))
def t9 {x1} (h:PA X es t):PE X (.Tuple es x1 pos) (JG t):=by
 intro pins s σ H Q I hq;refine wpAny_Tuple_spliced (thn (h pos pins s σ H _ I hq) fun us s1 ⟨xs,H1,I1,r,z,q⟩=>⟨by rw [<- r.length];exact z,?_⟩)
 have hf:H1 s1.heap.objs.size=none:=I1.hok.fresh (Ma _);refine ⟨.ref s1.heap.objs.size,upd H1 s1.heap.objs.size (.tup xs),I1.laid (t':=s1.toks) (fun b u e=>LW _ e) (Ma _) ?_,rfl,q _ hf⟩;exact ⟨z,us,r,⟨_,Mo _ rfl,rfl,_,rfl⟩⟩
def aW (h:PA X es t):PE X (.List es pos) (zC t):=by
 intro pins s σ H Q I hq;refine wpAny_List_spliced (thn (h pos pins s σ H _ I hq) fun us s1 ⟨xs,H1,I1,r,z,q⟩=>⟨by rw [<- r.length];exact z,?_⟩)
 have hf:H1 s1.heap.objs.size=none:=I1.hok.fresh (Ma _);refine ⟨.ref s1.heap.objs.size,upd H1 s1.heap.objs.size (.lst xs),I1.laid (t':=s1.toks) (fun b u e=>LW _ e) (Ma _) ?_,rfl,q _ hf⟩;exact ⟨z,us,0,r,Mo _ rfl⟩
end
abbrev Sp:=List V->Hp->VK->XK->Prop
abbrev CXT:=List Env->Hp->LU->XK->Value->LU->Prop
structure lO (P:Mh) (w:World) (K:LN) (mg:Str->Option Value) (base:Heap) (A:MP) (outer:List Env) (s:LU) (H:Hp):Prop where
 frames:A.frames=some outer
 mod:Mod K mg base
 bs:∀ b o,base.get? b=some o->s.heap.get? b=some o/\H b=none
 bsz:base.objs.size<=s.heap.objs.size
 eK:s.heap.FunFrames base outer
 frf:∀ b∈frs outer,H b=none
 hok:HOk P w H s.heap
 bare:RD s.gens
def CE (outer:List Env) (P:Mh) (w:World) (H:Hp) (s:LU) (Q:VK) (u:Value) (s':LU):Prop :=
 ∃ v H',s'.os=s.os/\RD s'.gens/\Un (frs outer) [] H H' s.heap s'.heap/\HOk P w H' s'.heap/\RelV v u/\Q v H'
def CR (CX:CXT) (outer:List Env) (P:Mh) (w:World) (H:Hp) (s:LU) (Q:VK) (E:XK) (r:Rj) (s':LU):Prop :=
 match r with
 | .ok (.ret u)=>CE outer P w H s Q u s'
 | .ok _=>False
 | .error e=>CX outer H s E e s'
structure aH (P:Mh) (w:World) (K:LN) (mg:Str->Option Value) (base:Heap) (CX:CXT) (k:Nat) (f:Addr) (fd:Na) (ps:List Str) (sp:Sp):Prop where
 len:∀ vs H Q E,sp vs H Q E->vs.length=ps.length
 run:∀ (A:MP) (outer:List Env) (s:LU) (H:Hp) (args:Args) (us:List Value) (vs:List V) (Q:VK) (E:XK),bY k A->lO P w K mg base A outer s H->Q9 s fd args (ps.zip us)->Vals vs us->sp vs H Q E ->
  codeAny (model P w) A (.call (.ref f) args) (CR CX outer P w H s Q E) s
def aH.mono {P:Mh} {w:World} {K:LN} {mg:Str->Option Value} {base:Heap} {CX:CXT} {j k:Nat} {f:Addr} {fd:Na} {ps:List Str} {sp:Sp} (F:aH P w K mg base CX j f fd ps sp) (h:j<=k) :
  aH P w K mg base CX k f fd ps sp:=⟨F.len,fun A outer s H args us vs Q E hr=>F.run A outer s H args us vs Q E (hr.mono h)⟩
def lO.make {P:Mh} {w:World} {K:LN} {mg:Str->Option Value} {base:Heap} {A:MP} {outer:List Env} {s:LU} {H:Hp} (e:lO P w K mg base A outer s H) (C:Addr) (us:List Value) (kw:List (Str×Value)) :
  lO P w K mg base (A.under (.builtin "type.__call__" ⟨.ref C :: us,kw⟩)) outer s H:=⟨by first|exact e.frames|(simpa [TC,Code.envs,TF,pushEnvs] using e.frames),e.mod,e.bs,e.bsz,e.eK,e.frf,e.hok,e.bare⟩
def lO.in1 {P:Mh} {w:World} {K:LN} {mg:Str->Option Value} {base:Heap} {A:MP} {outer:List Env} {s:LU} {H:Hp} (e:lO P w K mg base A outer s H) :
  lO P w K mg base A.in1 outer s H:=⟨e.frames,e.mod,e.bs,e.bsz,e.eK,e.frf,e.hok,e.bare⟩
section
variable {X:Cx} {pins:List (Addr×Obj)} {σ:St} {H:Hp} {s s':LU}
def Inv.Dd (I:Inv X pins σ H s):lO X.prog X.w X.K X.mg X.base X.A X.stack s H :=
 ⟨I.ok.frames,I.ok.mod,I.bs,M7 I.ok.bsz I.sz,I.stack,I.Be,I.hok,I.bare⟩
def Inv.after {Q:VK} {u:Value} (I:Inv X pins σ H s) (h:CE X.stack X.prog X.w H s Q u s'):EP X pins σ Q u s':=by
 obtain ⟨v,H',os,bare,un,hok,r,q⟩:=h;obtain ⟨hh,g,d,t,os'⟩:=s';obtain rfl:os'=s.os:=os;exact ⟨v,H',I.call (h':=hh) (g':=g) (d':=d) (t':=t) (ch:=[]) un hok bare (fun b z=>absurd z (by simp)),r,q⟩
end
def mJ (sp:Sp) (dvs:List V) (E:XK) (t:TA):TE:=fun σ H Q=>t σ H fun vs H1=>sp (vs++dvs) H1 Q E
def DC (C:Addr) (sp:Sp) (dvs:List V) (E:XK) (t:TA):TE:=fun σ H Q=>t σ H fun vs H1=>∀ x dx,H1 x=none->H1 dx=none->dx≠x ->
 sp (.ref x :: (vs++dvs)) (upd (upd H1 dx (.own x)) x (.ins C dx [])) (fun v H2=>v=.non/\Q (.ref x) H2) E
def Binds (K:LN) (fd:Na) (ps:List Str) (ds:List Value):Prop :=
 ∀ (s:LU) (us:List Value),K.In s.heap->(us++ds).length=ps.length->Q9 s fd ⟨us,[]⟩ (ps.zip (us++ds))
def Binds.all {K:LN} {fd:Na} {ps:List Str} (h:∀ us:List Value,us.length=ps.length->bindArgs fd ⟨us,[]⟩=pure (ps.zip us)):Binds K fd ps []:=fun s us _ hl=>by
 rw [NR] at hl ⊢;exact .of_eq (h us hl)
def Passes (CX:CXT) (X:Cx) (E:XK):Prop:=∀ (pins:List (Addr×Obj)) (σ:St) (H:Hp) (s:LU) (e:Value) (s':LU),Inv X pins σ H s->CX X.stack H s E e s'->X.xe e s'
section
variable {X:Cx} {CX:CXT} {k:Nat} {f C:Addr} {fd:Na} {ps:List Str} {sp:Sp} {dvs:List V} {ds:List Value} {E:XK} {x m:Str} {p pos apos:Pos} {e o:Expr} {es:List Expr} {ta:TE} {t:TA}
def Ka {pins:List (Addr×Obj)} {σ:St} {H:Hp} {s:LU} {Q:VK} {us:List Value} {vs:List V} (F:aH X.prog X.w X.K X.mg X.base CX k f fd ps sp) (hr:bY k X.A) (hb:Binds X.K fd ps ds) (hd:Vals dvs ds) (hx:Passes CX X E)
  (I:Inv X pins σ H s) (r:Vals vs us) (h:sp (vs++dvs) H Q E):wpAny (model X.prog X.w) X.A (call (.ref f) us) (EP X pins σ Q) X.xe s:=by
 have r2:Vals (vs++dvs) (us++ds):=r.append hd;have hl:(us++ds).length=ps.length:=by rw [<- r2.length];exact F.len _ _ _ _ h
 refine Rm (OI (F.run X.A X.stack s H ⟨us,[]⟩ (us++ds) (vs++dvs) Q E hr I.Dd (hb s us I.kIn hl) r2 h) fun r s' hq=>?_);cases r with
 | error e=>exact hx pins σ H s e s' I hq
 | ok fl =>
  cases fl with
  | ret u=>exact I.after hq
  | next=>exact Nd hq
  | brk=>exact Nd hq
  | cont=>exact Nd hq
def qp (F:aH X.prog X.w X.K X.mg X.base CX k f fd ps sp) (hr:bY k X.A) (hg:Gl X x) (hm:X.mg x=some (.ref f)) (hk:M6 X.K (.ref f)=true) (hb:Binds X.K fd ps ds) (hd:Vals dvs ds) (hx:Passes CX X E)
  (ha:PA X (e :: es) t) (hdb:(x == ("__debug__" : Str))=false:=by decide) (he:MR (e :: es) X.env=(false,eval e X.env) :: MR es X.env:=by rfl) (hpl:(backTo pos (MR es X.env)).any (·.1)=false:=by rfl) :
  PE X (.Call (.Name x p) (e :: es) [] pos) (mJ sp dvs E t):=by
 intro pins s σ H Q I h;refine OJ (i7 I hg hm ?_ hdb);refine P1 (h₀:=X.base) I.ok.mod.kin hk (thn (ha pos pins s σ H _ I h) fun us s1 ⟨vs,H1,I1,r,q⟩=>⟨I1.kIn,?_⟩) he hpl;exact Ka F hr hb hd hx I1 r q
structure Mk (K:LN) (C f:Addr):Prop where
 makes:Sg K C=true
 init:M5 K (.ref C) "__init__" = some (some (.ref f))
 fn:Si K (.ref f)=true
 kp:M6 K (.ref C)=true
def GP {pins:List (Addr×Obj)} {σ:St} {H:Hp} {s:LU} {Q:VK} {us:List Value} {vs:List V} (M:Mk X.K C f) (F:aH X.prog X.w X.K X.mg X.base CX k f fd ps sp) (hr:bY (k+1) X.A) (hb:Binds X.K fd ps ds) (hd:Vals dvs ds)
  (hx:Passes CX X E) (I:Inv X pins σ H s) (r:Vals vs us)
  (h:∀ x dx,H x=none->H dx=none->dx≠x->sp (.ref x :: (vs++dvs)) (upd (upd H dx (.own x)) x (.ins C dx [])) (fun v H2=>v=.non/\Q (.ref x) H2) E) :
  wpAny (model X.prog X.w) X.A (call (.ref C) us) (EP X pins σ Q) X.xe s:=by
 have hq:=h (s.heap.objs.size+1) s.heap.objs.size (I.hok.fresh (OB _)) (I.hok.fresh (Ma _)) (Mc (PM _));have I2:=Inv.made (C:=C) I;have r2:Vals (V.ref (s.heap.objs.size+1) :: (vs++dvs)) (Ms (s.heap.objs.size+1) :: (us++ds)):=.cons rfl (r.append hd);have hl:(Ms (s.heap.objs.size+1) :: us++ds).length=ps.length:=by
  have e:=r2.length;rw [F.len _ _ _ _ hq] at e;exact e.symm
 refine Rm (Ge (f:=f) I.kIn M.makes M.init (beq_iff_eq.mp M.fn) (OI (F.run _ X.stack _ _ ⟨Ms (s.heap.objs.size+1) :: us,[]⟩ (Ms (s.heap.objs.size+1) :: (us++ds)) _ _ E (hr.make C us [])
  (I2.Dd.make C us []) (hb _ (Ms (s.heap.objs.size+1) :: us) I2.kIn hl) r2 hq) fun r s' hq'=>?_))
 cases r with
 | error e=>exact hx pins σ _ _ e s' I2 hq'
 | ok fl =>
  cases fl with
  | ret u =>
   obtain ⟨v,H',I3,rv,ev,q3⟩:=I2.after hq';subst ev;exact ⟨rv,⟨V.ref (s.heap.objs.size+1),H',I3,rfl,q3⟩⟩
  | next=>exact Nd hq'
  | brk=>exact Nd hq'
  | cont=>exact Nd hq'
def JA (M:Mk X.K C f) (F:aH X.prog X.w X.K X.mg X.base CX k f fd ps sp) (hr:bY (k+1) X.A) (hg:Gl X x) (hm:X.mg x=some (.ref C)) (hb:Binds X.K fd ps ds) (hd:Vals dvs ds) (hx:Passes CX X E)
  (ha:PA X (e :: es) t) (hdb:(x == ("__debug__" : Str))=false:=by decide) (he:MR (e :: es) X.env=(false,eval e X.env) :: MR es X.env:=by rfl) (hpl:(backTo pos (MR es X.env)).any (·.1)=false:=by rfl) :
  PE X (.Call (.Name x p) (e :: es) [] pos) (DC C sp dvs E t):=by
 intro pins s σ H Q I h;refine OJ (i7 I hg hm ?_ hdb);refine P1 (h₀:=X.base) I.ok.mod.kin M.kp (thn (ha pos pins s σ H _ I h) fun us s1 ⟨vs,H1,I1,r,q⟩=>⟨I1.kIn,?_⟩) he hpl;exact GP M F hr hb hd hx I1 r q
end
section
variable {X:Cx} {CX:CXT} {k:Nat} {f C:Addr} {fd:Na} {ps ks:List Str} {sp:Sp} {E:XK} {x m:Str} {p pos apos kpos:Pos} {e o:Expr} {es:List Expr} {kws:List Sj} {te ta:TE} {t tk:TA} {nm:Option Str}
structure pY (K:LN) (fd:Na) (ps ks:List Str) (g:List Value->List Value->List Value) (gV:List V->List V->List V):Prop where
 to:∀ (s:LU) (us ws:List Value),K.In s.heap->(g us ws).length=ps.length->Q9 s fd ⟨us,ks.zip ws⟩ (ps.zip (g us ws))
 rel:∀ {vs:List V} {us:List Value} {zs:List V} {ws:List Value},Vals vs us->Vals zs ws->Vals (gV vs zs) (g us ws)
variable {g:List Value->List Value->List Value} {gV:List V->List V->List V}
end
structure aK (N P:List Str) (sc:Scope):Prop where
 kind:sc.kind=.function
 co:sc.isCoroutine=false
 gen:sc.isGenerator=false
 nd:N.Nodup
 pre:N.take P.length=P
 par:∀ x∈P,sc.names.lookup x=some .local\/sc.names.lookup x=some .cell
 Kx:∀ y∈sc.names,y.2≠.free
def wc {kindOf:Str->Option Qs} {x:Str}:∀ {binds:List (Str×Value)} {m:Str->Option Value},(∀ v,(x,v)∉binds)->bindL kindOf binds m x=m x
 | [],_,_=>rfl
 | (n,v) :: r,m,h=>by
  unfold bindL;rw [wc fun w hw=>h w (L4 _ hw)]
  split
  ·have:x≠n:=by rintro rfl;exact h v L8
   simp [this]
  ·rfl
def vG {kindOf:Str->Option Qs} {x:Str}:∀ {binds:List (Str×Value)} {m:Str->Option Value},(∀ v,(x,v)∉binds)->bindC kindOf binds m x=m x
 | [],_,_=>rfl
 | (n,v) :: r,m,h=>by
  unfold bindC;rw [vG fun w hw=>h w (L4 _ hw)]
  split
  ·rfl
  ·have:x≠n:=by rintro rfl;exact h v L8
   simp [this]
def vY {kindOf:Str->Option Qs} {x:Str} {v:Value}:∀ {P:List Str} {vs:List Value} {i:Nat} {m:Str->Option Value},P.Nodup->P[i]?=some x->vs[i]?=some v->kindOf x=some .local ->
  bindL kindOf (P.zip vs) m x=some v
 | [],_,_,_,_,h,_,_=>by simp at h
 | _ :: _,[],_,_,_,_,h,_=>by simp at h
 | p :: P,w :: vs,0,m,nd,h1,h2,hk=>by
  simp at h1 h2;subst h1;subst h2;show bindL kindOf ((p,w) :: P.zip vs) m p=_;unfold bindL;rw [wc fun v hv=>(MX.mp nd).1 (Sk hv).1,if_pos hk];simp
 | p :: P,w :: vs,i+1,m,nd,h1,h2,hk=>by
  show bindL kindOf ((p,w) :: P.zip vs) m x=_;unfold bindL;exact vY (i:=i) (MX.mp nd).2 (by simpa using h1) (by simpa using h2) hk
def wk {kindOf:Str->Option Qs} {x:Str} {v:Value}:∀ {P:List Str} {vs:List Value} {i:Nat} {m:Str->Option Value},P.Nodup->P[i]?=some x->vs[i]?=some v->kindOf x≠some .local ->
  bindC kindOf (P.zip vs) m x=some v
 | [],_,_,_,_,h,_,_=>by simp at h
 | _ :: _,[],_,_,_,_,h,_=>by simp at h
 | p :: P,w :: vs,0,m,nd,h1,h2,hk=>by
  simp at h1 h2;subst h1;subst h2;show bindC kindOf ((p,w) :: P.zip vs) m p=_;unfold bindC;rw [vG fun v hv=>(MX.mp nd).1 (Sk hv).1,if_neg hk];simp
 | p :: P,w :: vs,i+1,m,nd,h1,h2,hk=>by
  show bindC kindOf ((p,w) :: P.zip vs) m x=_;unfold bindC;exact wk (i:=i) (MX.mp nd).2 (by simpa using h1) (by simpa using h2) hk
def start (N:List Str) (vs:List V):St:=vs.map some++Md (N.length - vs.length) none
def iu (CX:CXT) (P:Mh) (w:World) (K:LN) (mg:Str->Option Value) (base:Heap) (N:List Str) (qual:Str) (scope:Scope) (f:Addr) (cd:Value) (A:MP) (outer:List Env) (s:LU) (H:Hp) (E:XK):Cx where
 prog:=P
 w:=w
 K:=K
 mg:=mg
 base:=base
 A:=A.deeper (envOfC qual scope s.heap.objs.size f cd)
 N:=N
 s₀:=s
 H₀:=H
 env:=envOfC qual scope s.heap.objs.size f cd
 outer:=outer
 stack:=envOfC qual scope s.heap.objs.size f cd :: outer
 ex:=[]
 calm:=true
 fn:=fun _=>true
 pn:=[]
 xe:=fun e s'=>wpAny (model P w) (A.deeper (envOfC qual scope s.heap.objs.size f cd)) (leaving (envOfC qual scope s.heap.objs.size f cd) e) (fun _ s''=>CX outer H s E e s'') (fun e' s''=>CX outer H s E e' s'') s'
def zK {sc:Scope} {n:Nat} {x:Str} (h:sc.names.lookup x=some .cell):∃ c,(cellsFrom n sc.names []).lookup x=some c:=by
 have q:=R6 sc.names n [] (.inl h);exact Option.isSome_iff_exists.mp q
def DU {CX:CXT} {P:Mh} {w:World} {K:LN} {mg:Str->Option Value} {base:Heap} {N ps:List Str} {qual:Str} {scope:Scope} {f:Addr} {cd:Value} {A:MP} {outer:List Env} {s s1:LU} {H:Hp} {E:XK} {us:List Value} {vs:List V}
  (S:aK N ps scope) (hd:A.handled=none) (e0:lO P w K mg base A outer s H) (hl:vs.length=ps.length) (r:Vals vs us)
  (x:InCallC s s.heap.objs.size (bindL (envOfC qual scope s.heap.objs.size f cd).kindOf (ps.zip us) fun _=>none) (cellsFrom (s.heap.objs.size+1) scope.names []) (bindC (envOfC qual scope s.heap.objs.size f cd).kindOf (ps.zip us) fun _=>none) s1) :
  Inv (iu CX P w K mg base N qual scope f cd A outer s H E) [] (start N vs) H s1:=by
 have hpl:ps.length<=N.length:=by have:=congrArg QJ S.pre;rw [MF] at this;lia
 obtain ⟨h1,tk,rfl,hk⟩:=x.done;have noA:∀ b:Addr,b∉(iu CX P w K mg base N qual scope f cd A outer s H E).ex:=fun b z=>absurd (show b∈([]:List Addr) from z) (by simp)
 refine ⟨⟨e0.mod,S.kind,rfl,rfl,Ma _,fun y z c h1 h2=>?_,fun y hy=>?_,fun y c _ h=>?_,fun _=>hd,Around.frames_deeper e0.frames,.inr ⟨rfl,rfl⟩,fun b z=>absurd z (noA b),e0.bs,e0.bsz,fun b _ _=>noA b,fun b z=>absurd z (noA b),e0.eK,e0.frf⟩,
  rfl,e0.bare,Un.kept hk,⟨_,x.toInCall.ns,fun i y v h1 h2 h3=>?_⟩,fun y c h=>⟨_,x.cell y c h⟩,e0.hok.fresh (Ma _),fun y c h=>?_,fun p hp=>absurd (show p∈([]:List (Addr×Obj)) from hp) (by simp),e0.hok.kept hk,?_⟩
 ·exact name_of_addr x.apart (N9 h1) (N9 h2)
 ·have hy:scope.names.lookup y=some .cell\/scope.names.lookup y=some .free:=hy;rcases hy with hy|hy
  ·exact zK hy
  ·exact absurd rfl (S.Kx _ (N9 hy))
 ·exact Ou (x.above y c (N9 h))
 ·have hi:i<vs.length:=by
   unfold start at h2
   by_cases hi:i<vs.length
   ·exact hi
   ·rw [MS (by simpa using hi)] at h2
    rw [Oq] at h2
    split at h2 <;> cases h2
  have ha:vs[i]?=some v:=by
   unfold start at h2;rw [MG (by simpa using hi),Mn] at h2
   cases e:vs[i]? with
   | none=>rw [e] at h2;cases h2
   | some a=>rw [e] at h2;cases h2;rfl
  obtain ⟨u,hu,rv⟩:=r.get ha;have hp:ps[i]?=some y:=by
   rw [<- S.pre,Nz (by lia)];exact h1
  have ndP:ps.Nodup:=by rw [<- S.pre];exact S.nd.sublist (List.take_sublist _ _)
  refine ⟨u,rv,?_⟩;rcases S.par y (LR hp) with k|k
  ·exact .inl ⟨k,vY ndP hp hu k⟩
  ·obtain ⟨c,e⟩:=zK (n:=s.heap.objs.size+1) k;refine .inr ⟨.inl k,c,e,?_⟩;have q:=x.cell y c e;rw [wk ndP hp hu (by show scope.names.lookup y≠_;rw [k];decide)] at q
   exact q
 ·exact e0.hok.fresh (Ou (x.above y c (N9 h)))
 ·unfold start;show _=N.length;rw [Mq,LV,List.length_replicate];lia
def xR {CX:CXT} {P:Mh} {w:World} {K:LN} {mg:Str->Option Value} {base:Heap} {k:Nat} {f:Addr} {name qual:Str} {params:Arguments} {body:List Stmt} {scope:Scope} {dV kV doc pm cdv ct oc:Value} {an od:Option Addr}
  {osl:Array (Option Value)} {N ps:List Str} {sp:Sp} (lk:K.lookup f=some ⟨oc,od,.func (MQ name qual params body scope dV kV doc pm an cdv ct),osl⟩) (hcd:Nw K cdv qual=true) (S:aK N ps scope)
  (len:∀ vs H Q E,sp vs H Q E->vs.length=ps.length)
  (hbody:∀ (A:MP) (outer:List Env) (s:LU) (H:Hp) (vs:List V) (Q:VK) (E:XK),bY k (A.deeper (envOfC qual scope s.heap.objs.size f cdv))->sp vs H Q E ->
   ∃ t,PSs (iu CX P w K mg base N qual scope f cdv A outer s H E) body t/\t { nx:=fun _ H'=>Q .non H',rt:=Q } (start N vs) H) :
  aH P w K mg base CX (k+1) f (MQ name qual params body scope dV kV doc pm an cdv ct) ps sp:=by
 refine ⟨len,fun A outer s H args us vs Q E hr e0 hb r hsp=>?_⟩;have hl:=len _ _ _ _ hsp;have KX:K.In s.heap:=e0.mod.kin.keeps fun b o e=>(e0.bs b o e).1;have lim:s.heap.NoLimit:=e0.mod.nolimit.keeps fun b o e=>(e0.bs b o e).1;have hkind:∀ y∈ps.zip us,scope.names.lookup y.1=some .local\/(scope.names.lookup y.1=some .cell/\((cellsFrom (s.heap.objs.size+1) scope.names []).lookup y.1).isSome=true):=fun ⟨n,v⟩ hy=>by
  rcases S.par n (Sk hy).1 with q|q
  ·exact .inl q
  ·exact .inr ⟨q,R6 _ _ _ (.inl q)⟩
 refine codeAny_call_function hr.depth (KX _ _ lk) rfl S.co S.gen rfl (PySem.W.codeRec_of KX hcd) (hb _ _ _ _ ?_);refine wpAny_newFunctionEnv_cells S.kind hkind fun env he s1 x=>?_;subst he;refine ⟨lim.keeps x.toInCall.keep,codeAny_func ?_⟩;obtain ⟨t,ht,hq⟩:=hbody A outer s H vs Q E (hr.deeper _) hsp;have I:Inv (iu CX P w K mg base N qual scope f cdv A outer s H E) [] (start N vs) H s1:=DU S hr.hd e0 hl r x;refine Nc (ht [] s1 (start N vs) H _ I hq) (fun fl s' hs=>?_) fun e s' hs=>hs;have fin:∀ {σ':St} {H':Hp} {v:V} {u:Value},Inv (iu CX P w K mg base N qual scope f cdv A outer s H E) [] σ' H' s'->RelV v u->Q v H'->CE outer P w H s Q u s' :=
  fun {σ' H' v u} J rv q=>⟨v,H',J.os,J.bare,J.base,J.hok,rv,q⟩
 cases fl with
 | ret u =>
  obtain ⟨v,σ',H',J,rv,q⟩:=hs;exact fin J rv q
 | next =>
  obtain ⟨σ',H',J,q⟩:=hs;exact fin (v:=V.non) (u:=Ng) J rfl q
 | brk =>
  obtain ⟨_,_,_,q⟩:=hs;exact Nd q
 | cont =>
  obtain ⟨_,_,_,q⟩:=hs;exact Nd q
section
variable {X:Cx} {x:Str} {p pos:Pos} {e:Expr} {es:List Expr} {t:TA} {id T:String} {r:List V->Hp->VK->Prop}
def tCB (r:List V->Hp->VK->Prop) (t:TA):TE:=fun σ H Q=>t σ H fun vs H1=>r vs H1 Q
def Gx (hc:cA X (.builtin id) r) (hg:Gl X x) (hm:X.mg x=none) (hv:bootBuiltins x=some (.builtin id)) (ha:PA X (e :: es) t) (hn:x ≠ "__name__":=by decide) (hdb:(x == ("__debug__" : Str))=false:=by decide)
  (he:MR (e :: es) X.env=(false,eval e X.env) :: MR es X.env:=by rfl) (hpl:(backTo pos (MR es X.env)).any (·.1)=false:=by rfl):PE X (.Call (.Name x p) (e :: es) [] pos) (tCB r t):=by
 intro pins s σ H Q I h;refine OJ (iT I hg hm hv ?_ hn hdb);exact PyProof.Rows.callWith_builtin1 (thn (ha pos pins s σ H _ I h) fun us s1 ⟨vs,H1,I1,r1,q1⟩=>hc pins s1 σ H1 vs us Q I1 r1 q1) he hpl
def EV (hc:cA X (.type T) r) (hg:Gl X x) (hm:X.mg x=none) (hv:bootBuiltins x=some (.type T)) (ha:PA X (e :: es) t) (hn:x ≠ "__name__":=by decide) (hdb:(x == ("__debug__" : Str))=false:=by decide)
  (he:MR (e :: es) X.env=(false,eval e X.env) :: MR es X.env:=by rfl) (hpl:(backTo pos (MR es X.env)).any (·.1)=false:=by rfl):PE X (.Call (.Name x p) (e :: es) [] pos) (tCB r t):=by
 intro pins s σ H Q I h;refine OJ (iT I hg hm hv ?_ hn hdb);exact Nt (thn (ha pos pins s σ H _ I h) fun us s1 ⟨vs,H1,I1,r1,q1⟩=>hc pins s1 σ H1 vs us Q I1 r1 q1) he hpl
end
end L2
namespace HT
open PySem PyProof.Rows
section
open PySem.SeqAt
open PySem.AutoSeq1 (wpAny_loadPart')
open PySem.MeetsSeq PySem.MeetsSeq2 PySem.MeetsSeq3
end
section
variable {prog:Mh} {w:World} {A:MP} {E:Value->LU->Prop} {s:LU}
def sIx (n d:Nat):Option Int->Nat
 | none=>d
 | some v=>if v<0 then (v+(n:Int)).toNat else min v.toNat n
def FT (n d:Nat):sIx n d none=d:=rfl
def IQ (n d k:Nat):sIx n d (some (k:Int))=min k n:=by
 show (if (k:Int)<0 then ((k:Int)+(n:Int)).toNat else min (k:Int).toNat n)=min k n;rw [if_neg (by lia),Nx]
end
end HT
namespace L2
open PySem PySem.Spec PyProof.Rows
abbrev TO:=St->Hp->(Option Int->Hp->Prop)->Prop
def PO (X:Cx) (e:Option Expr) (t:TO):Prop :=
 ∀ (pins:List (Addr×Obj)) (s:LU) (σ:St) (H:Hp) (Q:Option Int->Hp->Prop),Inv X pins σ H s->t σ H Q ->
  wpAny (model X.prog X.w) X.A (evalPart e X.env) (fun u s'=>∃ o H',Inv X pins σ H' s'/\IsPart u o/\Q o H') X.xe s
def Bv:TO:=fun _ H Q=>Q none H
def HN (t:TE):TO:=fun σ H Q=>t σ H fun x H1=>∃ i,x=.int i/\Q (some i) H1
section
variable {X:Cx} {e:Expr} {te:TE} {lo hi:Option Expr} {tl th:TO} {pos p2:Pos}
def uq:PO X none Bv:=by
 intro pins s σ H Q I h;rw [evalPart_none];exact LZ ⟨none,H,I,.none,h⟩
def u9 (h:PE X e te):PO X (some e) (HN te):=by
 intro pins s σ H Q I hw;rw [evalPart_some];refine thn (h pins s σ H _ I hw) fun u s1 ⟨x,H1,I1,r1,q1⟩=>?_;obtain ⟨i,rfl,q⟩:=q1;obtain ⟨t,rfl⟩:=r1;exact ⟨some i,H1,I1,.int i t,q⟩
def SlR (X:Cx) (r:V->Option Int->Option Int->Hp->VK->Prop):Prop :=
 ∀ (pins:List (Addr×Obj)) (s:LU) (σ:St) (H:Hp) (x:V) (v vl vu:Value) (lo hi:Option Int) (sl:Addr) (Q:VK),Inv X pins σ H s->RelV x v->s.heap.IsSliceOf sl vl vu .none->IsPart vl lo->IsPart vu hi->r x lo hi H Q ->
  ∃ T id,typeLookup (.type T) "__getitem__" = pure (some (.builtin id))/\s.TypeIs v T/\wpAny (model X.prog X.w) X.A (getItem v (.ref sl)) (EP X pins σ Q) X.xe s
def tSl (r:V->Option Int->Option Int->Hp->VK->Prop) (te:TE) (tl th:TO):TE:=fun σ H Q=>te σ H fun x H1=>tl σ H1 fun l H2=>th σ H2 fun u H3=>r x l u H3 Q
def q9 {r:V->Option Int->Option Int->Hp->VK->Prop} (hr:SlR X r) (he:PE X e te) (hl:PO X lo tl) (hu:PO X hi th):PE X (.Subscript e (.Slice lo hi none p2) pos) (tSl r te tl th):=by
 intro pins s σ H Q I h;refine Subscript_ (thn (he pins s σ H _ I h) fun v s1 ⟨x,H1,I1,r1,q1⟩=>?_);refine wpAny_Slice (thn (hl pins s1 σ H1 _ I1 q1) fun vl s2 ⟨l,H2,I2,pl,q2⟩=>thn (hu pins s2 σ H2 _ I2 q2) fun vu s3 ⟨u,H3,I3,pu,q3⟩=>?_);rw [evalPart_none];refine LZ ?_;have I4:Inv X pins σ H3 { s3 with heap:=s3.heap.push { cls:=.type "slice",data:=.fields #[vl,vu,.none] } }:=I3.kept (t':=s3.toks) fun b ob q=>LW _ q;obtain ⟨T,id,hT,ht,hg⟩:=hr pins { s3 with heap:=s3.heap.push { cls:=.type "slice",data:=.fields #[vl,vu,.none] } } σ H3 x v vl vu l u s3.heap.objs.size Q I4 r1 (Heap.IsSliceOf.new ..) pl pu q3;show wpAny (model X.prog X.w) X.A (subscriptTail e (.Slice lo hi none p2) v (.ref s3.heap.objs.size)) (EP X pins σ Q) X.xe { s3 with heap:=s3.heap.push { cls:=.type "slice",data:=.fields #[vl,vu,.none] } };exact tail_any (ops:=[.ref s3.heap.objs.size,v]) ht hT hg (by with_unfolding_all rfl)
def rm (xs:List V) (lo hi:Option Int):List V:=(xs.drop (HT.sIx xs.length 0 lo)).take (HT.sIx xs.length xs.length hi - HT.sIx xs.length 0 lo)
def Ao (xs:List V) (lo hi:Option Int):(rm xs lo hi).length<=xs.length:=by
 unfold rm;rw [MF,QC];lia
end
def ixN (n:Nat) (i:Int):Option Nat:=if 0<=i then (if i<n then some i.toNat else none) else if -(n:Int)<=i then some (i+n).toNat else none
def atI {α:Type} (xs:List α) (i:Int):Option α:=(ixN xs.length i).bind fun j=>xs[j]?
def BG {n:Nat} {i:Int} {j:Nat} (h:ixN n i=some j):seqIndex? i n=some j/\j<n/\-(n:Int)<=i/\i<n:=by
 unfold ixN at h
 by_cases h0:0<=i
 ·rw [if_pos h0] at h
  by_cases h1:i<n
  ·rw [if_pos h1] at h;have e:i.toNat=j:=ME h;exact ⟨by rw [TZ h0 h1,e],by lia,by lia,h1⟩
  ·rw [if_neg h1] at h;cases h
 ·rw [if_neg h0] at h
  by_cases h1:-(n:Int)<=i
  ·rw [if_pos h1] at h;have e:(i+n).toNat=j:=ME h;exact ⟨by rw [TJ (by lia) h1,e],by lia,h1,by lia⟩
  ·rw [if_neg h1] at h;cases h
def Bg {α:Type} {xs:List α} {i:Int} {v:α} (h:atI xs i=some v):∃ j,seqIndex? i xs.length=some j/\xs[j]?=some v/\j<xs.length/\-(xs.length:Int)<=i/\i<xs.length:=by
 unfold atI at h;cases e:ixN xs.length i with
 | none=>rw [e] at h;cases h
 | some j =>
  rw [e] at h;obtain ⟨h1,h2,h3,h4⟩:=BG e;exact ⟨j,h1,h,h2,h3,h4⟩
def f9 {α:Type} {xs:List α} {j:Nat} {v:α} (h:xs[j]?=some v):atI xs (j:Int)=some v:=by
 have hj:j<xs.length:=(LQ.mp h).1;have e:ixN xs.length (j:Int)=some j:=by
  unfold ixN;rw [if_pos (by lia),if_pos (by lia)];simp
 unfold atI;rw [e];exact h
def IH (b:Expr):Prop:=∀ o i,subscripted b false o i=operate [o,i] (getItem o i)
def IxR (X:Cx) (r:R2):Prop :=
 ∀ (value slice:Expr) (pins:List (Addr×Obj)) (s:LU) (σ:St) (H:Hp) (x y:V) (v u:Value) (Q:VK),Inv X pins σ H s->RelV x v->RelV y u->r x y H Q ->
  subscripted slice false v u=operate [v,u] (getItem v u)->wpAny (model X.prog X.w) X.A (subscriptTail value slice v u) (EP X pins σ Q) X.xe s
def MtR (X:Cx) (id:String) (r:V->List V->Hp->VK->Prop):Prop :=
 ∀ (pins:List (Addr×Obj)) (s:LU) (σ:St) (H:Hp) (x:V) (xs:List V) (v:Value) (us:List Value) (Q:VK),Inv X pins σ H s->RelV x v->Vals xs us->r x xs H Q ->
  wpAny (model X.prog X.w) X.A (call (.builtin id) (v :: us)) (EP X pins σ Q) X.xe s
section
variable {X:Cx} {a b:Expr} {ta tb:TE} {pos:Pos}
def aw {r:R2} (hr:IxR X r) (ha:PE X a ta) (hb:PE X b tb) (hs:IH b):PE X (.Subscript a b pos) (tOp r ta tb):=by
 intro pins s σ H Q I h;exact Subscript_ (Hs ha hb I h fun v u s2 x y H2 I2 rx ry q=>hr a b pins s2 σ H2 x y v u Q I2 rx ry q (hs _ _))
def qZ (K:LN):R2:=fun x y H Q=>∃ p xs i v,x=.ref p/\y=.int i/\SqL K H p xs/\atI xs i=some v/\Q v H
def GF (K:LN):R2:=fun x y H Q=>∃ p xs i v,x=.ref p/\y=.int i/\SqT K H p xs/\atI xs i=some v/\Q v H
def Jw:IxR X (qZ X.K):=by
 intro value slice pins s σ H x y v u Q I rx ry h hs;obtain ⟨p,xs,i,z,rfl,rfl,hq,he,q⟩:=h;cases rx;obtain ⟨t,rfl⟩:=ry;obtain ⟨its,r,pl,hz⟩:=I.list hq;obtain ⟨j,h1,h2,h3,h4,h5⟩:=Bg he;obtain ⟨w,ew,rw'⟩:=r.get h2;have hl:=r.length;have hn:=tK;have fin:EP X pins σ Q w s:=⟨z,H,I,rw',q⟩
 by_cases h0:0<=i
 ·have hj:i.toNat=j:=by
   rw [TZ h0 h5] at h1;exact ME h1
  exact item_listR pl.isList h0 (by lia) (by rw [hj];simpa using ew) fin hs
 ·have hj:(i+(its.toArray.size:Int)).toNat=j:=by
   rw [TJ (by lia) h4] at h1
   rw [Mf,<- hl];exact ME h1
  exact R7 (x:=w) pl.isList.typeIs slot_list_getitem.lookup
   (wpAny_getItem_list_neg (Q:=fun r s'=>r=w/\EP X pins σ Q r s') pl.isList (by lia) (by rw [Mf] <;> lia) (by lia) (by rw [hj];simpa using ew) ⟨rfl,fin⟩) hs
def KL:IxR X (GF X.K):=by
 intro value slice pins s σ H x y v u Q I rx ry h hs;obtain ⟨p,xs,i,z,rfl,rfl,hq,he,q⟩:=h;cases rx;obtain ⟨t,rfl⟩:=ry;obtain ⟨its,r,pl,hz⟩:=I.tuple hq;obtain ⟨j,h1,h2,h3,h4,h5⟩:=Bg he;obtain ⟨w,ew,rw'⟩:=r.get h2;have hl:=r.length;have hn:=tK;have fin:EP X pins σ Q w s:=⟨z,H,I,rw',q⟩;exact R7 (x:=w) pl.typeIs slot_tuple_getitem.lookup
  (getItem_tuple (j:=j) (Q:=fun r s'=>r=w/\EP X pins σ Q r s') pl (by lia) (by lia) (by rw [Mf,<- hl];exact h1) (by simpa using ew) ⟨rfl,fin⟩) hs
def Dw (its:List Value) (n j:Nat) (u:Value):NO (·.setIfInBounds j u) { cls:=.type "list",data:=.seq its.toArray n }={ cls:=.type "list",data:=.seq (its.set j u).toArray n }:=by
 simp [NO]
def Inv.lst {pins:List (Addr×Obj)} {σ:St} {H:Hp} {s:LU} {p:Addr} {xs:List V} (I:Inv X pins σ H s) (h:H p=some (.lst xs)) :
  ∃ (its:List Value) (n:Nat),Vals xs its/\s.heap.get? p=some { cls:=.type "list",data:=.seq its.toArray n }/\xs.length<=Mx:=by
 obtain ⟨z,its,n,r,e⟩:=I.hok p _ h;exact ⟨its,n,r,e,z⟩
def Inv.KH {pins:List (Addr×Obj)} {σ:St} {H:Hp} {s:LU} {p:Addr} {xs ys:List V} {its its':List Value} {n n':Nat} {f:Obj->Obj} (I:Inv X pins σ H s) (h:H p=some (.lst xs))
  (ho:s.heap.get? p=some { cls:=.type "list",data:=.seq its.toArray n }) (hf:f { cls:=.type "list",data:=.seq its.toArray n }={ cls:=.type "list",data:=.seq its'.toArray n' }) (r:Vals ys its') (hz:ys.length<=Mx) (t:Nat) :
  Inv X pins σ (upd H p (.lst ys)) { s with heap:=s.heap.update p f,toks:=t }:=by
 have e:(s.heap.update p f).get? p=some { cls:=.type "list",data:=.seq its'.toArray n' }:=by
  rw [NB f ho (by rw [hf] <;> rfl),hf]
 refine I.write (x:=p) (e:=p) (by rw [h];trivial) (.inl rfl) (fun b u hb q=>(Nb _ _ (NI hb)).trans q) ⟨_,e⟩ ?_
 exact ⟨hz,its',n',r,e⟩
def HU:V->V->V->Hp->(Hp->Prop)->Prop:=fun o i v H Q=>∃ p xs k j,o=.ref p/\i=.int k/\H p=some (.lst xs)/\ixN xs.length k=some j/\Q (upd H p (.lst (xs.set j v)))
def set_list:JN X HU:=by
 intro pins s σ H o i v ov iv u Q I ro ri rv h;obtain ⟨p,xs,k,j,rfl,rfl,hp,hj,q⟩:=h;cases ro;obtain ⟨t,rfl⟩:=ri;obtain ⟨its,n,r,ho,hz⟩:=I.lst hp;obtain ⟨h1,h2,h3,h4⟩:=BG hj;have hl:=r.length;have hn:=tK;have I':Inv X pins σ (upd H p (.lst (xs.set j v))) { s with heap:=s.heap.update p (NO (·.setIfInBounds j u)) } :=
  I.KH hp ho (Dw its n j u) (r.set rv j) (by rw [NY];exact hz) s.toks
 by_cases h0:0<=k
 ·have hk:k.toNat=j:=by
   rw [TZ h0 h4] at h1;exact ME h1
  exact PySem.W.ki_setAt ho h0 (by lia) (by rw [Mf,<- hl];exact h4) (by rw [hk];exact ⟨_,I',q⟩)
 ·have hk:(k+(its.toArray.size:Int)).toNat=j:=by
   rw [TJ (by lia) h3] at h1
   rw [Mf,<- hl];exact ME h1
  exact PySem.W.ki_setBack ho (by lia) (by rw [Mf,<- hl];exact h3) (by lia) (by rw [hk];exact ⟨_,I',q⟩)
def zU (lo hi:Option Int) (n:Nat):(sliceBounds lo hi none n).1=((HT.sIx n 0 lo:Nat):Int)/\(sliceBounds lo hi none n).2.1=((HT.sIx n n hi:Nat):Int)/\(sliceBounds lo hi none n).2.2=1:=by
 refine ⟨?_,?_,rfl⟩
 ·cases lo with
  | none=>simp [sliceBounds,HT.sIx]
  | some i =>
   simp only [sliceBounds,HT.sIx,Option.getD_none,show (1:Int) > 0 by decide,if_true]
   by_cases h:i<0
   ·simp only [h,if_true] <;> lia
   ·simp only [h,if_false] <;> lia
 ·cases hi with
  | none=>simp [sliceBounds,HT.sIx]
  | some i =>
   simp only [sliceBounds,HT.sIx,Option.getD_none,show (1:Int) > 0 by decide,if_true]
   by_cases h:i<0
   ·simp only [h,if_true] <;> lia
   ·simp only [h,if_false] <;> lia
def wZ (its:List Value) (lo hi:Option Int):slicePick its.toArray lo hi none=((its.drop (HT.sIx its.length 0 lo)).take (HT.sIx its.length its.length hi - HT.sIx its.length 0 lo)).toArray:=by
 obtain ⟨h1,h2,h3⟩:=zU lo hi its.toArray.size;unfold slicePick;rw [h1,h2,h3];simp only [sliceRange_one,pick_run,Mf] <;> rfl
def C6 (K:LN):V->Option Int->Option Int->Hp->VK->Prop:=fun x lo hi H Q=>∃ a xs,x=.ref a/\SqL K H a xs/\∀ p,H p=none->Q (.ref p) (upd H p (.lst (rm xs lo hi)))
def II:SlR X (C6 X.K):=by
 intro pins s σ H x v vl vu lo hi sl Q I rx hs pl pu h;obtain ⟨a,xs,rfl,hx,q⟩:=h;cases rx;obtain ⟨its,r,ht,hz⟩:=I.list hx;have hlen:=r.length;refine ⟨"list",_,slot_list_getitem.lookup,ht.isList.typeIs,?_⟩;refine wpAny_getItem_list_slice ht.isList hs pl pu .none (by simp) ?_ (by rw [Mf] <;> lia)
 rw [wZ,<- hlen];refine ⟨.ref s.heap.objs.size,_,I.laid (t':=s.toks) (o:=.lst (rm xs lo hi)) (fun b ob q=>LW _ q) (Ma _) ?_,rfl,q _ (I.hok.fresh (Ma _))⟩;exact ⟨M7 (Ao xs lo hi) hz,_,0,(r.drop (HT.sIx xs.length 0 lo)).take (HT.sIx xs.length xs.length hi - HT.sIx xs.length 0 lo),Mo _ rfl⟩
def jr:V->Bool
 | .non=>true
 | .bl _=>true
 | .int _=>true
 | .str _=>true
 | _=>false
def eqV:V->V->Bool
 | .non,.non=>true
 | .bl a,.bl b=>a == b
 | .bl a,.int b=>(if a then 1 else 0) == b
 | .int a,.bl b=>a == (if b then 1 else 0)
 | .int a,.int b=>a == b
 | .str a,.str b=>a == b
 | _,_=>false
def tD {A:MP} {s:LU} {y x:V} {u v:Value} (ry:RelV y u) (rx:RelV x v) (fy:jr y=true) (fx:jr x=true):Tv A s u v (eqV y x):=by
 cases y with
 | non =>
  cases ry;cases x with
  | non=>cases rx;exact Sl _
  | bl b=>cases rx;exact SeqAt.EqAt.none_bool b
  | int b=>obtain ⟨t,rfl⟩:=rx;exact SeqAt.EqAt.none_int b t
  | str b=>obtain ⟨t,rfl⟩:=rx;exact SeqAt.EqAt.none_str b t
  | _=>exact absurd (show false=true from fx) Mj
 | bl a =>
  cases ry;cases x with
  | non=>cases rx;exact SeqAt.EqAt.bool_none a
  | bl b=>cases rx;exact SeqAt.EqAt.bool_bool a b
  | int b=>obtain ⟨t,rfl⟩:=rx;exact SeqAt.EqAt.bool_int a b t
  | str b=>obtain ⟨t,rfl⟩:=rx;exact SeqAt.EqAt.bool_str a b t
  | _=>exact absurd (show false=true from fx) Mj
 | int a =>
  obtain ⟨t',rfl⟩:=ry;cases x with
  | non=>cases rx;exact SeqAt.EqAt.int_none a t'
  | bl b=>cases rx;exact SeqAt.EqAt.int_bool a t' b
  | int b=>obtain ⟨t,rfl⟩:=rx;exact SeqAt.EqAt.int_int a t' b t
  | str b=>obtain ⟨t,rfl⟩:=rx;exact SeqAt.EqAt.int_str a t' b t
  | _=>exact absurd (show false=true from fx) Mj
 | str a =>
  obtain ⟨t',rfl⟩:=ry;cases x with
  | non=>cases rx;exact SeqAt.EqAt.str_none a t'
  | bl b=>cases rx;exact SeqAt.EqAt.str_bool a t' b
  | int b=>obtain ⟨t,rfl⟩:=rx;exact SeqAt.EqAt.str_int a t' b t
  | str b=>obtain ⟨t,rfl⟩:=rx;exact SeqAt.EqAt.str_str a t' b t
  | _=>exact absurd (show false=true from fx) Mj
 | _=>exact absurd (show false=true from fy) Mj
def eqU (x:V) (u:Value):Bool:=match u with
 | .none=>eqV .non x
 | .bool b=>eqV (.bl b) x
 | .int i _=>eqV (.int i) x
 | .str z _=>eqV (.str z) x
 | _=>false
def Fm {x y:V} {u:Value} (r:RelV y u) (f:jr y=true):eqU x u=eqV y x:=by
 cases y with
 | non=>cases r;rfl
 | bl b=>cases r;rfl
 | int i=>obtain ⟨t,rfl⟩:=r;rfl
 | str z=>obtain ⟨t,rfl⟩:=r;rfl
 | _=>exact absurd (show false=true from f) Mj
def vf {x:V}:∀ {xs:List V} {us:List Value},Vals xs us->xs.all jr=true->us.any (eqU x)=xs.any fun y=>eqV y x
 | _,_,.nil,_=>rfl
 | y :: xs,u :: us,.cons r t,f=>by
  rw [RG,NT] at f;rw [P2,P2,Fm r f.1,vf t f.2]
def rU {A:MP} {s:LU} {x:V} {v:Value} (rx:RelV x v) (fx:jr x=true):∀ {xs:List V} {us:List Value},Vals xs us->xs.all jr=true->∀ u∈us,Tv A s u v (eqU x u)
 | _,_,.nil,_=>fun u hu=>by cases hu
 | y :: xs,u :: us,.cons r t,f=>fun u' hu=>by
  rw [RG,NT] at f;rcases Mp.mp hu with rfl|hu
  ·rw [Fm r f.1];exact tD r rx f.1 fx
  ·exact rU rx fx t f.2 u' hu
def inV (x:V) (xs:List V):Bool:=xs.any fun y=>eqV y x
def rIn (K:LN) (neg:Bool):R2:=fun x y H Q=>∃ p xs,y=.ref p/\(SqL K H p xs\/SqT K H p xs)/\jr x=true/\xs.all jr=true/\Q (.bl (if neg then !inV x xs else inV x xs)) H
def xX:OpR X (compareOp .NotIn) (rIn X.K true):=by
 intro pins s σ H x y v u Q I rx ry h;obtain ⟨p,xs,rfl,hq,fx,fs,q⟩:=h;cases ry;rcases hq with hq|hq
 ·obtain ⟨its,r,pl,hz⟩:=I.list hq;refine SeqAt.notIn_listAt (eqU x) pl.isList (fun w hw=>rU rx fx r fs w (by simpa using hw)) ⟨.bl _,H,I,rfl,?_⟩
  rw [show its.toArray.any (eqU x)=its.any (eqU x) by simp,vf r fs]
  exact q
 ·obtain ⟨its,r,pl,hz⟩:=I.tuple hq;refine SeqAt.notIn_tupleAt (eqU x) pl (fun w hw=>rU rx fx r fs w (by simpa using hw)) ⟨.bl _,H,I,rfl,?_⟩
  rw [show its.toArray.any (eqU x)=its.any (eqU x) by simp,vf r fs]
  exact q
def yY:cA X (.builtin "len") (fun xs H Q=>∃ p ys,xs=[.ref p]/\(SqL X.K H p ys\/SqT X.K H p ys)/\Q (.int ys.length) H):=by
 intro pins s σ H xs us Q I r h;obtain ⟨p,ys,rfl,hq,q⟩:=h;obtain ⟨u,rfl,rx⟩:=vals1 r;cases rx;have hn:=tK;rcases hq with hq|hq
 ·obtain ⟨its,r',pl,hz⟩:=I.list hq;have hlen:=r'.length;exact Calls.call_len_list pl.isList (by simp only [Mf] <;> lia) ⟨.int ys.length,H,I.tok _,⟨s.toks+1,by rw [Mf,hlen]⟩,q⟩
 ·obtain ⟨its,r',pl,hz⟩:=I.tuple hq;have hlen:=r'.length;exact len_tuple pl (by simp only [Mf] <;> lia) ⟨.int ys.length,H,I.tok _,⟨s.toks+1,by rw [Mf,hlen]⟩,q⟩
def yV:cA X (.type "list") (fun xs H Q=>∃ p ys,xs=[.ref p]/\(SqL X.K H p ys\/SqT X.K H p ys)/\∀ l,H l=none->Q (.ref l) (upd H l (.lst ys))):=by
 intro pins s σ H xs us Q I r h;obtain ⟨p,ys,rfl,hq,q⟩:=h;obtain ⟨u,rfl,rx⟩:=vals1 r;cases rx;have fin:∀ (its:List Value),Vals ys its->ys.length<=Mx->∀ (h':Heap) (c':Nat),(∀ b o',s.heap.get? b=some o'->h'.get? b=some o') ->
   h'.get? s.heap.objs.size=some { cls:=.type "list",dict:=none,data:=.seq its.toArray c',slots:=#[] }->EP X pins σ Q (.ref s.heap.objs.size) { s with heap:=h' }:=fun its r' hz h' c' kp e =>
  ⟨.ref s.heap.objs.size,_,I.laid (t':=s.toks) kp (Ma _) (show bB X.prog X.w _ h' _ (.lst ys) from ⟨hz,its,c',r',e⟩),rfl,q _ (I.hok.fresh (Ma _))⟩
 rcases hq with hq|hq
 ·obtain ⟨its,r',pl,hz⟩:=I.list hq;have hlen:=r'.length;obtain ⟨o,ho,hc,n,hd⟩:=pl.isList;exact call_list_seq p (.inl rfl) ho hc hd (fun h' c' kp e=>fin its r' hz h' c' kp e) (by simp only [Mf] <;> lia)
 ·obtain ⟨its,r',pl,hz⟩:=I.tuple hq;have hlen:=r'.length;obtain ⟨o,ho,hc,n,hd⟩:=pl;exact call_list_seq p (.inr rfl) ho hc hd (fun h' c' kp e=>fin its r' hz h' c' kp e) (by simp only [Mf] <;> lia)
def tyV (K:LN) (T:String) (x:V) (H:Hp):Prop:=match x with
 | .str _=>T = "str"
 | .int _=>T = "int"
 | .ref p=>(T = "list" /\ ∃ xs,SqL K H p xs)\/(T = "tuple" /\ ∃ o,K.lookup p=some o/\o.cls=.type "tuple" /\ o.dict=none) \/
   (T = "dict" /\ ((∃ kvs,H p=some (.dK kvs))\/∃ kvs,H p=some (.dT kvs)))\/(T = "set" /\ ∃ S n,H p=some (.set S n))
 | _=>False
def EL {pins:List (Addr×Obj)} {σ:St} {H:Hp} {s:LU} {T:String} {x:V} {v:Value} (I:Inv X pins σ H s) (r:RelV x v) (ty:tyV X.K T x H) :
  s.TypeIs v T/\∀ a,v=.ref a->∃ ob,s.heap.get? a=some ob/\ob.dict=none:=by
 cases x with
 | str z =>
  obtain ⟨t,rfl⟩:=r;cases (show T = "str" from ty);exact ⟨typeIs_str s z t,fun _ e=>nomatch e⟩
 | int i =>
  obtain ⟨t,rfl⟩:=r;cases (show T = "int" from ty);exact ⟨SN s i t,fun _ e=>nomatch e⟩
 | ref p =>
  cases r;rcases ty with ⟨rfl,xs,hq⟩|⟨rfl,o,hk,hc,hd⟩|⟨rfl,hk⟩|⟨rfl,S,n,hk⟩
  ·obtain ⟨its,_,pl,_⟩:=I.list hq;refine ⟨pl.isList.typeIs,fun a e=>?_⟩;cases e;obtain ⟨o,n,e,c,hd,_⟩:=pl;exact ⟨o,e,hd⟩
  ·refine ⟨⟨o,I.kIn p o hk,hc⟩,fun a e=>?_⟩;cases e;exact ⟨o,I.kIn _ o hk,hd⟩
  ·have z:∃ o,s.heap.get? p=some o/\o.ExactDict:=by
    rcases hk with ⟨kvs,hk⟩|⟨kvs,hk⟩
    ·obtain ⟨_,_,_,_,o,_,_,e,ex,_⟩:=I.hok p _ hk;exact ⟨o,e,ex⟩
    ·obtain ⟨_,_,_,_,o,_,_,e,ex,_⟩:=I.hok p _ hk;exact ⟨o,e,ex⟩
   obtain ⟨o,e,ex⟩:=z;refine ⟨⟨o,e,ex.1⟩,fun a e2=>?_⟩;cases e2;exact ⟨o,e,ex.2.1⟩
  ·obtain ⟨o,_,_,_,e,ex,_⟩:=I.hok p _ hk;refine ⟨⟨o,e,ex.1⟩,fun a e2=>?_⟩;cases e2;exact ⟨o,e,ex.2.1⟩
 | _=>exact Nd ty
def Gu (K:LN) (T:String) (r:V->List V->Hp->VK->Prop) (to:TE):TE:=fun σ H Q=>to σ H fun x H1=>tyV K T x H1/\r x [] H1 Q
def tBM (K:LN) (T:String) (r:V->List V->Hp->VK->Prop) (to:TE) (t:TA):TE:=fun σ H Q=>to σ H fun x H1=>tyV K T x H1/\t σ H1 fun xs H2=>r x xs H2 Q
variable {o e:Expr} {es:List Expr} {to:TE} {t:TA} {name:Str} {apos cpos:Pos} {T id:String} {r:V->List V->Hp->VK->Prop}
def JH (pa:SO T) (slot:Slot T name id) (hty:typeOf (.builtin id)=pure (.type "method_descriptor")) (hm:MtR X id r) (ho:PE X o to)
  (hbase:attributeBase o name X.env (eval o X.env)=eval o X.env:=by rfl) (hline:(apos.endLine == cpos.line)=true:=by rfl):PE X (.Call (.Attribute o name apos) [] [] cpos) (Gu X.K T r to):=by
 intro pins s σ H Q I h;refine wpAny_Call_method0_late hbase hline (thn (ho pins s σ H _ I h) fun v s1 ⟨x,H1,I1,r1,ty,q1⟩=>?_);obtain ⟨h1,h2⟩:=EL I1 r1 ty;exact ⟨T,id,pa,slot,hty,h1,h2,R8 rfl (PySem.evalArgs_none (hm pins s1 σ H1 x [] v [] Q I1 r1 .nil q1))⟩
def K4 (pa:SO T) (slot:Slot T name id) (hty:typeOf (.builtin id)=pure (.type "method_descriptor")) (hm:MtR X id r) (ho:PE X o to) (ha:PA X (e :: es) t)
  (hbase:attributeBase o name X.env (eval o X.env)=eval o X.env:=by rfl)
  (hfew:((backTo cpos (MR (e :: es) X.env)).all (fun x=>!x.1) && (backToKw cpos (keywordEach [] X.env)).all (fun x=>x.1.isSome)
   && decide ((e :: es).length+([]:List Sj).length+(if ([]:List Sj).isEmpty then 0 else 1)<30))=true:=by rfl)
  (hline:(apos.endLine == cpos.line)=true:=by rfl) (hs:MR (e :: es) X.env=(false,eval e X.env) :: MR es X.env:=by rfl) (hplain:(backTo cpos (MR es X.env)).any (·.1)=false:=by rfl) :
  PE X (.Call (.Attribute o name apos) (e :: es) [] cpos) (tBM X.K T r to t):=by
 intro pins s σ H Q I h;refine wpAny_Call_method_late hbase hfew hline rfl (thn (ho pins s σ H _ I h) fun v s1 ⟨x,H1,I1,r1,ty,q1⟩=>?_);obtain ⟨h1,h2⟩:=EL I1 r1 ty;refine ⟨T,id,pa,slot,hty,h1,h2,?_⟩;have hA:=ha cpos pins s1 σ H1 _ I1 q1;rw [hs] at hA ⊢;refine R8 (by show (false || (backTo cpos (MR es X.env)).any (·.1))=false;rw [hplain] <;> rfl) (SS ?_)
 exact thn hA fun us s2 ⟨vs,H2,I2,r2,q2⟩=>hm pins s2 σ H2 x vs v us Q I2 r1 r2 q2
/- xs.append(e),list.index on a module's tuple .. are MtR facts of 06m -/
end
def MtM (X:Cx) (id:String) (r:V->List V->Hp->VK->Prop):Prop :=
 ∀ (pins:List (Addr×Obj)) (s:LU) (σ:St) (H:Hp) (x:V) (xs:List V) (v:Value) (us:List Value) (Q:VK),Inv X pins σ H s->RelV x v->Vals xs us->r x xs H Q ->
  wpAny (model X.prog X.w) X.A (call (.builtin id) (v :: us)) (EP X pins σ Q) X.xe s
def Vals.one {x:V} {us:List Value} (h:Vals [x] us):∃ u,us=[u]/\RelV x u:=by
 cases h with
 | cons r t=>cases t;exact ⟨_,rfl,r⟩
def Vals.two {x y:V} {us:List Value} (h:Vals [x,y] us):∃ u v,us=[u,v]/\RelV x u/\RelV y v:=by
 cases h with
 | cons r t =>
  cases t with
  | cons q e=>cases e;exact ⟨_,_,rfl,r,q⟩
def Vals.zero:∀ {us:List Value},Vals [] us->us=[]
 | _,.nil=>rfl
def Vals.dropLast {xs:List V} {us:List Value} (h:Vals xs us):Vals xs.dropLast us.dropLast:=by
 induction h with
 | nil=>exact .nil
 | cons r t ih =>
  cases t with
  | nil=>exact .nil
  | cons q t'=>exact .cons r ih
def Vals.eraseIdx:∀ {xs:List V} {us:List Value} (i:Nat),Vals xs us->Vals (xs.eraseIdx i) (us.eraseIdx i)
 | _,_,_,.nil=>.nil
 | _,_,0,.cons _ t=>t
 | _,_,i+1,.cons r t=>.cons r (Vals.eraseIdx i t)
def Vals.reverse {xs:List V} {us:List Value} (h:Vals xs us):Vals xs.reverse us.reverse:=by
 induction h with
 | nil=>exact .nil
 | cons r t ih=>rw [List.reverse_cons,List.reverse_cons];exact Vals.append ih (.cons r .nil)
def Vals.rep {xs:List V} {us:List Value} (h:Vals xs us):∀ k:Nat,Vals (Md k xs).flatten (Md k us).flatten
 | 0=>.nil
 | k+1=>by
  rw [NC,NC,Oz,Oz];exact Vals.append h (Vals.rep h k)
def Di {α:Type} (l:List α):l.eraseIdx (l.length - 1)=l.dropLast:=by
 induction l with
 | nil=>rfl
 | cons a r ih =>
  cases r with
  | nil=>rfl
  | cons b r =>
   have e:(a :: b :: r).length - 1=((b :: r).length - 1)+1:=by
    have h1:(a :: b :: r).length=r.length+2:=rfl;have h2:(b :: r).length=r.length+1:=rfl;lia
   rw [e,List.eraseIdx_cons_succ,ih]
   all_goals rfl
def ow {α:Type}:∀ (l:List α) (i:Nat),(l.eraseIdx i).length<=l.length
 | [],_=>Ma _
 | _ :: _,0=>OB _
 | _ :: r,i+1=>RX (ow r i)
def foldl_rep (its:List Value):∀ (k:Nat) (acc:List Value),
  List.foldl (fun x1 x2=>x1++x2) acc.toArray (Md k its.toArray)=(acc++(Md k its).flatten).toArray
 | 0,acc=>by simp
 | k+1,acc=>by
  have e:acc.toArray++its.toArray=(acc++its).toArray:=by simp
  have e2:(acc++its)++(Md k its).flatten=acc++(Md (k+1) its).flatten:=by
   rw [NC,Oz,Qj]
  rw [<- e2,<- foldl_rep its k (acc++its),<- e,NC,List.foldl_cons]
section
variable {X:Cx} {pins:List (Addr×Obj)} {σ:St} {H:Hp} {s:LU} {l b:Addr} {xs ys zs:List V}
def Inv.uH {its its':List Value} {n:Nat} {f:Array Value->Array Value} {t':Nat} (I:Inv X pins σ H s) (hH:H l=some (.lst xs))
  (e:s.heap.get? l=some { cls:=.type "list",data:=.seq its.toArray n }) (hf:f its.toArray=its'.toArray) (hv:Vals ys its') (hz:ys.length<=Mx) :
  Inv X pins σ (upd H l (.lst ys)) { s with heap:=s.heap.update l (NO f),toks:=t' }:=by
 have q:=PySem.IsL.update e f;rw [hf] at q;refine I.write (x:=l) (e:=l) (by rw [hH];exact trivial) (.inl rfl) (fun b' u hb hu=>(Nb s.heap (NO f) (NI hb)).trans hu) ⟨_,q⟩ ?_
 exact ⟨hz,its',_,hv,q⟩
def Inv.JJ {its:List Value} {t':Nat} (I:Inv X pins σ H s) (hv:Vals ys its) (hz:ys.length<=Mx) :
  Inv X pins σ (upd H s.heap.objs.size (.lst ys)) { s with heap:=s.heap.push { cls:=.type "list",data:=.seq its.toArray },toks:=t' } :=
 I.laid (fun _ _ q=>LW _ q) (Ma _) ⟨hz,its,0,hv,Mo _ rfl⟩
def Inv.fresh (I:Inv X pins σ H s):H s.heap.objs.size=none:=I.hok.fresh (Ma _)
def Inv.kq (I:Inv X pins σ H s) (hH:H l=some (.lst xs)):xs.length<=Mx/\∃ (its:List Value) (n:Nat),Vals xs its/\xs.length=its.length/\s.heap.get? l=some { cls:=.type "list",data:=.seq its.toArray n }:=by
 obtain ⟨z,its,n,r,e⟩:=I.hok l _ hH;exact ⟨z,its,n,r,r.length,e⟩
def y7 {n:Nat} (h:n<=Mx):OS n=false:=by
 unfold OS;exact decide_eq_false (by lia)
end
section
variable {X:Cx}
def qt:V->List V->Hp->VK->Prop:=fun x vs H Q=>∃ l xs y,x=.ref l/\vs=[y]/\H l=some (.lst xs)/\xs.length<Mx/\Q .non (upd H l (.lst (xs++[y])))
def cz:MtM X "list.append" qt:=by
 intro pins s σ H x vs v us Q I rx rv h;obtain ⟨l,xs,y,rfl,rfl,hH,hz,q⟩:=h;cases rx;obtain ⟨u,rfl,ru⟩:=rv.one;obtain ⟨z,its,n,r,hl,e⟩:=I.kq hH;refine O6 F.slot_list_append ⟨_,e,rfl⟩ F.entry_list_append (F.args_list_append_2 _ _) (PySem.list_append l its.toArray n u (by rw [Mf];lia)) ⟨e,?_⟩
 refine ⟨.non,_,I.uH (its':=its++[u]) hH e (by simp) (r.append (.cons ru .nil)) ?_,rfl,q⟩
 rw [Mq,Oe];lia
def BC:V->List V->Hp->VK->Prop:=fun x vs H Q=>∃ l b xs zs,x=.ref l/\vs=[.ref b]/\H l=some (.lst xs)/\H b=some (.lst zs)/\xs.length+zs.length<=Mx/\Q .non (upd H l (.lst (xs++zs)))
def DK:MtM X "list.extend" BC:=by
 intro pins s σ H x vs v us Q I rx rv h;obtain ⟨l,b,xs,zs,rfl,rfl,hH,hB,hz,q⟩:=h;cases rx;obtain ⟨u,rfl,ru⟩:=rv.one;cases ru;obtain ⟨z,its,n,r,hl,e⟩:=I.kq hH;obtain ⟨z2,its2,n2,r2,hl2,e2⟩:=I.kq hB;have hsz:its.toArray.size+its2.toArray.size<=Mx:=by rw [Mf,Mf];lia
 have hlong:¬ (!its.toArray.isEmpty && OS (its.toArray.size+its2.toArray.size))=true:=by
  rw [y7 hsz,Bool.and_false];exact Mj
 refine O6 F.slot_list_extend ⟨_,e,rfl⟩ F.entry_list_extend (F.args_list_extend_2 _ _)
  (AutoSeq1.list_extend_list_list_0 l its.toArray n b its2.toArray n2 hlong (by rw [Mf];lia) (by lia)) ⟨e,e2,?_⟩
 refine ⟨.non,_,I.uH (its':=its++its2) hH e (by simp) (r.append r2) ?_,rfl,q⟩
 rw [Mq];lia
def LH:V->List V->Hp->VK->Prop:=fun x vs H Q=>∃ l xs y,x=.ref l/\vs=[]/\H l=some (.lst xs)/\xs[xs.length - 1]?=some y/\Q y (upd H l (.lst xs.dropLast))
def Ki:MtM X "list.pop" LH:=by
 intro pins s σ H x vs v us Q I rx rv h;obtain ⟨l,xs,y,rfl,rfl,hH,hy,q⟩:=h;cases rx;have hus:=rv.zero;subst hus;obtain ⟨z,its,n,r,hl,e⟩:=I.kq hH;obtain ⟨u,hu,ru⟩:=r.get hy;have hy':its.toArray[its.toArray.size - 1]?=some u:=by
  show its.toArray[its.length - 1]?=some u;rw [<- MY,<- hl];exact hu
 refine O6 F.slot_list_pop ⟨_,e,rfl⟩ F.entry_list_pop (F.args_list_pop_1 _) (MeetsSeq.list_pop_last l its.toArray n u hy' (by rw [Mf];lia)) ⟨e,?_⟩
 refine ⟨y,_,I.uH (its':=its.dropLast) hH e ?_ r.dropLast ?_,ru,q⟩
 ·show its.toArray.eraseIdxIfInBounds (its.toArray.size - 1)=its.dropLast.toArray;rw [Mf,Qk,Di]
 ·rw [List.length_dropLast];lia
def JM:V->List V->Hp->VK->Prop:=fun x vs H Q=>∃ l xs i k y,x=.ref l/\vs=[.int i]/\H l=some (.lst xs)/\-(2 ^ 63)<=i/\i<2 ^ 63/\seqIndex? i xs.length=some k/\xs[k]?=some y/\Q y (upd H l (.lst (xs.eraseIdx k)))
def Gf:MtM X "list.pop" JM:=by
 intro pins s σ H x vs v us Q I rx rv h;obtain ⟨l,xs,i,k,y,rfl,rfl,hH,h1,h2,hk,hy,q⟩:=h;cases rx;obtain ⟨u,rfl,ru⟩:=rv.one;obtain ⟨t,rfl⟩:=ru;obtain ⟨z,its,n,r,hl,e⟩:=I.kq hH;obtain ⟨w,hw,rw'⟩:=r.get hy;refine O6 F.slot_list_pop ⟨_,e,rfl⟩ F.entry_list_pop (F.args_list_pop_2 _ _)
  (MeetsSeq.list_pop_at l its.toArray n i t k w (fitsIndex_both h1 h2) (by rw [Mf,<- hl];exact hk) (by rw [<- MY];exact hw) (by rw [Mf];lia)) ⟨e,?_⟩
 refine ⟨y,_,I.uH (its':=its.eraseIdx k) hH e ?_ (r.eraseIdx k) ?_,rw',q⟩
 ·show its.toArray.eraseIdxIfInBounds k=(its.eraseIdx k).toArray;rw [Qk]
 ·have:=ow xs k;lia
def G7:V->List V->Hp->VK->Prop:=fun x vs H Q=>∃ l xs,x=.ref l/\vs=[]/\H l=some (.lst xs)/\Q .non (upd H l (.lst xs.reverse))
def DA:MtM X "list.reverse" G7:=by
 intro pins s σ H x vs v us Q I rx rv h;obtain ⟨l,xs,rfl,rfl,hH,q⟩:=h;cases rx;have hus:=rv.zero;subst hus;obtain ⟨z,its,n,r,hl,e⟩:=I.kq hH;refine O6 F.slot_list_reverse ⟨_,e,rfl⟩ F.entry_list_reverse (F.args_list_reverse_1 _) (AutoSeq1.list_reverse_list_0 l its.toArray n (by rw [Mf];lia)) ⟨e,?_⟩
 refine ⟨.non,_,I.uH (its':=its.reverse) hH e (by simp) r.reverse ?_,rfl,q⟩
 rw [S6];lia
def F6:R2:=fun x y H Q=>∃ l b xs zs,x=.ref l/\y=.ref b/\H l=some (.lst xs)/\H b=some (.lst zs)/\xs.length+zs.length<=Mx/\∀ p,H p=none->Q (.ref p) (upd H p (.lst (xs++zs)))
def kS:OpR X (binaryOp .Add) F6:=by
 intro pins s σ H x y v u Q I rx ry h;obtain ⟨l,b,xs,zs,rfl,rfl,hH,hB,hz,q⟩:=h;cases rx;cases ry;obtain ⟨z,its,n,r,hl,e⟩:=I.kq hH;obtain ⟨z2,its2,n2,r2,hl2,e2⟩:=I.kq hB;refine PySem.P.add_list e e2 ?_ (by rw [Mf,Mf];lia)
 have ea:its.toArray++its2.toArray=(its++its2).toArray:=by simp
 rw [ea];exact ⟨.ref _,_,I.JJ (t':=s.toks) (r.append r2) (by rw [Mq];lia),rfl,q _ I.fresh⟩
def LL:R2:=fun x y H Q=>∃ l k xs,x=.ref l/\y=.int k/\H l=some (.lst xs)/\-(2 ^ 63)<=k/\k<2 ^ 63/\xs.length * k.toNat<=Mx /\
 ∀ p,H p=none->Q (.ref p) (upd H p (.lst (Md k.toNat xs).flatten))
def len_rep {α:Type} (xs:List α) (k:Nat):(Md k xs).flatten.length=k * xs.length:=by
 induction k with
 | zero=>simp
 | succ k ih=>rw [NC,Oz,Mq,ih,PY,Ov]
def Fq:OpR X (binaryOp .Mult) LL:=by
 intro pins s σ H x y v u Q I rx ry h;obtain ⟨l,k,xs,rfl,rfl,hH,h1,h2,hz,q⟩:=h;cases rx;obtain ⟨t,rfl⟩:=ry;obtain ⟨z,its,n,r,hl,e⟩:=I.kq hH;have hlen:its.toArray.size * k.toNat<=Mx:=by rw [Mf,<- hl];exact hz
 have hcap:¬ its.toArray.size * k.toNat > (2 ^ 63 - 1) / 8:=by
  have:(Mx:Nat)<=(2 ^ 63 - 1) / 8:=by decide
  lia
 have hfit:¬ (!Builtin.List.listFitsIndex k)=true:=by
  rw [fitsIndex_both h1 h2];exact Mj
 have hlong:¬ OS (its.toArray.size * k.toNat)=true:=by
  rw [y7 hlen];exact Mj
 have hnew:List.foldl (fun x1 x2=>x1++x2) #[] (Md (if its.toArray.isEmpty=true then 0 else k.toNat) its.toArray)=(Md k.toNat its).flatten.toArray:=by
  have f0:∀ m:Nat,List.foldl (fun x1 x2=>x1++x2) #[] (Md m its.toArray)=(Md m its).flatten.toArray:=fun m=>by
   have:=foldl_rep its m [];rw [List.nil_append] at this;exact this
  rw [f0];cases its with
  | nil=>simp
  | cons a r'=>rw [if_neg (by simp)]
 refine wpAny_binaryOp_repeat_ref (T:="list") (U:="int") (by decide) ⟨_,e,rfl⟩ (fun s'=>SN s' k t) noFill_list_mul F.fills_int_mul F.slot_int_rmul repeat_list F.slot_int_index.lookup
  (O6 F.slot_int_rmul (SN s k t) F.entry_int_rmul (F.args_int_rmul_2 _ _) (int___rmul___int_list k t l its.toArray n)
   ⟨e,rfl,⟨_,e,rfl⟩,O6 F.slot_list_mul ⟨_,e,rfl⟩ F.entry_list_mul (F.args_list_mul_2 _ _) (AutoListH.list___mul___list_int_3 l its.toArray n k t hfit hcap hlong) ⟨e,?_⟩⟩)
 rw [hnew];exact ⟨.ref _,_,I.JJ (t':=s.toks) (r.rep k.toNat) (by rw [len_rep,Ow];exact hz),rfl,q _ I.fresh⟩
end
section
variable {prog:Mh} {w:World} {A:MP} {E:Value->LU->Prop} {s:LU}
end
section
variable {X:Cx}
end
end L2
namespace Att
open PySem PySem.W PySem.Calls PyProof.Rows
def rY {P:Params} {h:Heap}:∀ (ns:List Int) (vs:List Value),WellAll P h vs (ns.map WData.int)->OC vs ns:=by
 intro ns
 induction ns with
 | nil =>
  intro vs w;rw [TK] at w;cases w;exact .nil
 | cons n ns ih =>
  intro vs w;rw [My] at w;cases w with
  | cons a b =>
   cases a;exact .cons _ _ (ih _ b)
def ES {l:OpenLaw} {n:Nat} (hn:l.most=some n) {P:Params} {h:Heap} {args:List WData} {vals:List Value}
  (hpre:l.row.toRowW.claim.pre args=true) (hwl:WellAll P h vals args) :
  ∃ a vs ns,vals=[Ms a]/\args=[WData.list (ns.map WData.int)]/\h.get? a=some { cls:=.type "list",data:=.seq vs.toArray }/\OC vs ns/\ns.length<=n:=by
 have hsh:WShape.hasAll [] args [.list .int]=true:=(pre_splitW hpre).1;have hc:l.pre.holds [] { args:=args }=true:=(pre_splitW hpre).2;obtain ⟨d,r,rfl,h1,h2⟩:=hasAllW_cons hsh;obtain rfl:=hasAllW_nil h2;obtain ⟨xs,rfl,h3⟩:=hasW_list h1;obtain ⟨ns,rfl⟩:=items_int h3;have hlen:ns.length<=n:=by
  unfold OpenLaw.pre at hc;have h4:(WTm.not (.lt (.lit (.int (n:Int))) (.len (.arg 0)))).holds [] { args:=[.list (ns.map .int)] }=true:=by
   have h4:=(holds_andW hc).1;rw [hn] at h4;exact h4
  have h5:=condW_of h4 (w_not (w_lt w_lit (w_len_list (w_arg rfl))));rw [LV] at h5;refine PN fun q=>?_;have q':(n:Int)<((ns.length:Nat):Int):=by lia
  first
   | (rw [decide_eq_true q'] at h5;exact absurd h5 (by decide))
   | (simp at h5;lia)
 cases hwl with
 | cons w1 w2 =>
  cases w2;cases w1 with
  | list ho hall=>exact ⟨_,_,ns,rfl,rfl,ho,rY ns _ hall,hlen⟩
def EN (l:OpenLaw) (args:List WData):l.row.toRowW.claim.post args (.bool true) args=true :=
 postW_of (r:=l.row.toRowW) (X:=(true == true))
  (show WShape.has [] (.bool true) .bool=true by first|rfl|decide|simp [WShape.has,WShape.arms,WShape.armsAll])
  (show (WTm.eq .res (.lit (.bool true))).value [] { args:=args,res:=some (.bool true),after:=args }=some (.bool (true == true)) from w_eq_bool (w_res rfl) w_lit) rfl
def AJ {l:OpenLaw} {n:Nat} {q:Mh} {loose:List Str} {XP:(Str->Option Value)->Heap->Prop} {YP:World->Heap->Prop} {d:DefRec}
  (hn:l.most=some n) (hdf:d.params.defaults=[])
  (call:∀ (w:World) (s₀ s₁:LU) (mg mb:Str->Option Value) (fa:Addr) (o:Obj) (pm cd doc:Value) (a:Addr) (vs:List Value) (ns:List Int),
   Ground q loose [] XP w s₀ mg mb s₁.heap->YP w s₁.heap ->
   s₁.heap.get? fa=some o->o.data=.func (docDef d.name d.params d.body d.scope pm cd doc)->s₁.heap.CodeRec cd d.name->mg d.name=some (.ref fa) ->
   s₁.heap.get? a=some { cls:=.type "list",data:=.seq vs.toArray }->OC vs ns->ns.length<=n->s₁.gens=#[] ->
   codeAny (model l.prog w) callerA (.call (.ref fa) ⟨[.ref a],[]⟩) (fun r s'=>r=.ok (.ret (.bool true))/\OldK s₁.heap s'.heap/\s'.os=s₁.os/\RD s'.gens) s₁) :
  WalkO q loose XP YP l.row.toRowW d [] (fun f vs=>PySem.call f vs):=by
 intro w s₀ s₁ mg mb G Y fa o pm cd doc dV kV ho hd hcd hD hmg hg args vals as hpre hlay hrd hwl hlo;obtain rfl:dV=.none:=Dflts.none hD hdf;obtain rfl:kV=.none:=Dflts.noKw hD;obtain ⟨a,vs,ns,rfl,rfl,hobj,hints,hlen⟩:=ES hn hpre hwl;refine enter_call (OI (call w s₀ s₁ mg mb fa o pm cd doc a vs ns G Y ho (fd_plain hd) hcd hmg hobj hints hlen hg) fun r s' hq=>?_);obtain ⟨rfl,h2,h3,h4⟩:=hq;exact ⟨.inl ⟨.bool true,.bool true,[],rfl,fun _=>rfl,.bool true,EN l _,fun _=>⟨List.Pairwise.nil,fun _ hm=>(nomatch hm)⟩⟩,h2,h3,h4⟩
section
variable {prog:Mh} {w:World} {A:MP} {E:Value->LU->Prop} {s:LU} {K:Frag}
end
end Att
namespace L2
open PySem PySem.Spec PyProof.Rows
def vF:∀ {vs:List Value} {ns:List Int},OC vs ns->Vals (ns.map V.int) vs
 | _,_,.nil=>.nil
 | _,_,.cons n t h=>.cons ⟨t,rfl⟩ (vF h)
def Gj (H:Hp):Prop:=∀ b,H b=none\/∃ o xs,H b=some (.frz o (.lst xs))
def Gn {P:Mh} {w:World} {K:LN} {mg mb:Str->Option Value} {CX:CXT} {k:Nat} {fa a:Addr} {fd:Na} {x:Str} {sp:Sp} {s₁:LU} {vs:List Value} {ns:List Int}
  (KX:K.In s₁.heap) (hns:s₁.heap.Ns MO mg) (hb:s₁.heap.Ns builtinsNs mb) (hbb:∀ x:Str,x ≠ "__name__" -> mb x=bootBuiltins x) (hlim:s₁.heap.NoLimit) (hg:s₁.gens=#[])
  (ha:s₁.heap.get? a=some { cls:=.type "list",data:=.seq vs.toArray }) (hi:OC vs ns) (hl:ns.length<=Mx) (hr:bY k callerA)
  (F:∀ base:Heap,K.In base->base.Ns MO mg->aH P w K mg base CX k fa fd [x] sp) (hbind:∀ (s:LU) (u:Value),Q9 s fd ⟨[u],[]⟩ [(x,u)])
  (hsp:∀ H:Hp,Gj H->SqL K H a (ns.map V.int)->sp [.ref a] H (fun v _=>v=.bl true) fun _ _ _=>False)
  (hCX:∀ H e s',CX [] H s₁ (fun _ _ _=>False) e s'->False) :
  codeAny (model P w) callerA (.call (.ref fa) ⟨[.ref a],[]⟩) (fun r s'=>r=.ok (.ret (.bool true))/\OldK s₁.heap s'.heap/\s'.os=s₁.os/\RD s'.gens) s₁:=by
 have rv:=vF hi;have lenV:=hi.length;have core:∀ H:Hp,Gj H->SqL K H a (ns.map V.int)->HOk P w H s₁.heap->(∀ b,H b≠none->b=a)->(H a≠none->K.lookup a=none) ->
   codeAny (model P w) callerA (.call (.ref fa) ⟨[.ref a],[]⟩) (fun r s'=>r=.ok (.ret (.bool true))/\OldK s₁.heap s'.heap/\s'.os=s₁.os/\RD s'.gens) s₁:=by
  intro H hO hS hok hA hK;have base_of:∀ {b:Addr} {o:Obj},s₁.heap.get? b=some o->H b=none->(mQ s₁.heap H).get? b=some o:=fun e n=>GZ e n;have noA:∀ {b:Addr} {o:Obj} {es:Array DictEntry} {ep:Nat},s₁.heap.get? b=some o->o.data=.dict es ep->H b=none:=fun {b o es ep} e d=>by
   cases q:H b with
   | none=>rfl
   | some u =>
    have e':b=a:=hA b (by rw [q];simp)
    subst e';rw [ha] at e;cases e;have d':Data.seq vs.toArray _=Data.dict es ep:=d;cases d'
  have nsK:∀ {b:Addr} {m:Str->Option Value},s₁.heap.Ns b m->(mQ s₁.heap H).Ns b m:=fun {b m} ⟨o,es,ep,e,d,r⟩=>⟨o,es,ep,base_of e (noA e d),d,r⟩;have hKb:K.In (mQ s₁.heap H):=fun b o e=>base_of (KX b o e) (by
   cases q:H b with
   | none=>rfl
   | some u =>
    have e':b=a:=hA b (by rw [q];simp)
    subst e';rw [hK (by rw [q];simp)] at e;cases e)
  have hM:Mod K mg (mQ s₁.heap H):=⟨hKb,nsK hns,⟨mb,nsK hb,hbb⟩,let ⟨mc,h1,h2⟩:=hlim;⟨mc,nsK h1,h2⟩⟩;have e0:lO P w K mg (mQ s₁.heap H) callerA [] s₁ H:=⟨rfl,hM,fun b o e=>Jj e,QZ (DY _ _),trivial,fun b hb=>absurd (show b∈([]:List Addr) from hb) (by simp),hok,.of_eq hg⟩
  refine OI ((F _ hKb (nsK hns)).run callerA [] s₁ H ⟨[.ref a],[]⟩ [.ref a] [.ref a] _ _ hr e0 (hbind s₁ (.ref a)) (.cons rfl .nil) (hsp H hO hS)) fun r s' h=>?_;cases r with
  | error e=>exact (hCX H e s' h).elim
  | ok fl =>
   cases fl with
   | next=>exact Nd h
   | brk=>exact Nd h
   | cont=>exact Nd h
   | ret u =>
    obtain ⟨v,H',os,bare,un,hok',r',q⟩:=h;have q':v=.bl true:=q;subst q';obtain rfl:u=SK true:=r';refine ⟨rfl,OldK.of_keep fun b o e=>?_,os,bare⟩;cases q:H b with
    | none=>exact un.keep b o e q (by intro z;exact absurd (show b∈([]:List Addr) from z) (by simp)) (by simp)
    | some u =>
     rcases hO b with z|⟨ob,xs,z⟩
     ·rw [q] at z;cases z
     ·have z2:=un.fU b ob _ z;obtain ⟨e1,_⟩:=hok b _ z;obtain ⟨e2,_⟩:=hok' b _ z2;rw [e] at e1;cases e1;exact e2
 cases hk:K.lookup a with
 | some o =>
  have e:=KX a o hk;rw [ha] at e;cases e;refine core (fun _=>none) (fun _=>.inl rfl) (.inr ⟨_,vs.toArray,_,hk,rfl,rfl,rfl,by rw [Mf,lenV];exact hl,by simpa using rv⟩) (fun b u z=>by have z':(none:Option HO)=some u:=z;cases z') (fun b z=>absurd rfl z) fun z=>absurd rfl z
 | none =>
  refine core (fun b=>if b=a then some (.frz { cls:=.type "list",data:=.seq vs.toArray } (.lst (ns.map V.int))) else none) (fun b=>?_) (.inl (.inr ⟨{ cls:=.type "list",data:=.seq vs.toArray },if_pos rfl⟩)) (fun b u z=>?_) (fun b z=>?_) fun _=>hk
  ·by_cases hb:b=a
   ·exact .inr ⟨_,_,if_pos hb⟩
   ·exact .inl (if_neg hb)
  ·by_cases hb:b=a
   ·have z':=(if_pos hb).symm.trans z;cases z';subst hb;exact ⟨ha,by rw [LV];exact hl,vs,_,rv,ha⟩
   ·have z':=(if_neg hb).symm.trans z;cases z'
  ·by_cases hb:b=a
   ·exact hb
   ·exact absurd (if_neg hb) z
def Iw {l:Sm} {n k:Nat} {q:Mh} {loose:List Str} {XP:(Str->Option Value)->Heap->Prop} {YP:World->Heap->Prop} {d:DefRec} {K:Params->LN} {CX:World->CXT} {sp:World->Sp} {x:Str}
  (hn:l.most=some n) (hn2:n<=Mx) (hdf:d.params.defaults=[]) (hr:bY k callerA)
  (hY:∀ (w:World) (h:Heap),YP w h->(K w.params).In h)
  (F:∀ (w:World) (mg:Str->Option Value) (fa:Addr) (h:Heap),(K w.params).In h->h.Ns MO mg->mg d.name=some (.ref fa) ->
   ∃ fd:Na,(∀ (s:LU) (u:Value),Q9 s fd ⟨[u],[]⟩ [(x,u)]) /\
    ∀ base:Heap,(K w.params).In base->base.Ns MO mg->aH l.prog w (K w.params) mg base (CX w) k fa fd [x] (sp w))
  (hsp:∀ (w:World) (H:Hp) (a:Addr) (ns:List Int),ns.length<=n->Gj H->SqL (K w.params) H a (ns.map V.int)->sp w [.ref a] H (fun v _=>v=.bl true) fun _ _ _=>False)
  (hCX:∀ (w:World) (H:Hp) (s:LU) (e:Value) (s':LU),CX w [] H s (fun _ _ _=>False) e s'->False) :
  PySem.W.WalkO q loose XP YP l.row.toRowW d [] (fun f vs=>PySem.call f vs):=by
 refine Att.AJ hn hdf fun w s₀ s₁ mg mb fa o pm cd doc a vs ns G Y ho hd hcd hmg hobj hints hlen hg=>?_;have KX:=hY w _ Y;obtain ⟨fd,hb,hF⟩:=F w mg fa _ KX G.T.g hmg;exact Gn KX G.T.g G.T.b G.T.builtins G.T.nolimit hg hobj hints (M7 hlen hn2) hr hF hb (fun H hO hS=>hsp w H a ns hlen hO hS) fun H e s'=>hCX w H s₁ e s'
def inClass (s:Stmt) (j:Nat):Stmt:=match s with
 | .ClassDef _ _ _ body _ _ _ _ _ _ _=>body.getD j (.Pass ⟨0,0,0,0⟩)
 | _=>.Pass ⟨0,0,0,0⟩
def bR (s:Stmt):Arguments:=match s with
 | .FunctionDef _ a _ _ _ _ _ _ _ _=>a
 | _=>{ posonlyargs:=[],args:=[],vararg:=none,kwonlyargs:=[],kw_defaults:=[],kwarg:=none,defaults:=[] }
def bC (s:Stmt):List Stmt:=match s with
 | .FunctionDef _ _ b _ _ _ _ _ _ _=>b
 | _=>[]
def ak (s:Stmt):Scope:=match s with
 | .FunctionDef _ _ _ _ _ _ sc _ _ _=>sc
 | _=>{ kind:=.function,names:=[],isGenerator:=false,isCoroutine:=false }
abbrev CX0:CXT:=fun _ _ _ _ _ _=>False
abbrev E0:XK:=fun _ _ _=>False
def B8 {X:Cx}:Passes CX0 X E0:=fun _ _ _ _ _ _ _ h=>h.elim
structure Fun (K:LN) (x qual:Str) (st:Stmt) (f:Addr) (fd:Na):Prop where
 ex:∃ (oc:Value) (od:Option Addr) (kV doc pm:Value) (an:Option Addr) (cdv ct:Value) (osl:Array (Option Value)),
  fd=MQ x qual (bR st) (bC st) (ak st) .none kV doc pm an cdv ct/\K.lookup f=some ⟨oc,od,.func fd,osl⟩/\Nw K cdv qual=true
 kp:M6 K (.ref f)=true
section
variable {P:Mh} {w:World} {K:LN} {mg:Str->Option Value} {base:Heap}
def Fun.ok {x qual:Str} {st:Stmt} {f:Addr} {fd:Na} {N ps:List Str} {k:Nat} {sp:Sp} (F:Fun K x qual st f fd) (S:aK N ps (ak st)) (len:∀ vs H Q E,sp vs H Q E->vs.length=ps.length)
  (hbody:∀ (cdv:Value) (A:MP) (outer:List Env) (s:LU) (H:Hp) (vs:List V) (Q:VK) (E:XK),bY k (A.deeper (envOfC qual (ak st) s.heap.objs.size f cdv))->sp vs H Q E ->
   ∃ t,PSs (iu CX0 P w K mg base N qual (ak st) f cdv A outer s H E).nox (bC st) t/\t { nx:=fun _ H'=>Q .non H',rt:=Q } (start N vs) H):aH P w K mg base CX0 (k+1) f fd ps sp:=by
 obtain ⟨oc,od,kV,doc,pm,an,cdv,ct,osl,rfl,lk,hcd⟩:=F.ex;refine xR lk hcd S len fun A outer s H vs Q E hr hsp=>?_;obtain ⟨t,h,q⟩:=hbody cdv A outer s H vs Q E hr hsp;exact ⟨t,h.nox,q⟩
def lU {x qual:Str} {st:Stmt} {f:Addr} {oc:Value} {od an:Option Addr} {osl:Array (Option Value)} {kV doc pm cdv ct:Value} (l:K.lookup f=some ⟨oc,od,.func (MQ x qual (bR st) (bC st) (ak st) .none kV doc pm an cdv ct),osl⟩)
  (c:Nw K cdv qual=true) (k:M6 K (.ref f)=true):Fun K x qual st f (MQ x qual (bR st) (bC st) (ak st) .none kV doc pm an cdv ct):=⟨⟨oc,od,kV,doc,pm,an,cdv,ct,osl,rfl,l,c⟩,k⟩
end
def eN {A:MP} {k:Nat} (hr:bY k A):A.units+1<cLine:=NL (Nat.add_le_add_left (by decide:1<=64) _) hr.units
def Fl {n:Nat} (h:n<=1000):n<Mx:=NL h (by decide)
section
variable {X:Cx}
def pv (i:Nat) {x:Str} {pos:Pos} (hN:X.N[i]?=some x:=by rfl) (hv:Vis X.env.scope x:=by first|exact L7 rfl|exact Qf (L7 rfl)|exact Qf (Qf rfl)) (hd:(x == ("__debug__" : Str))=false:=by decide)
  (hcd:(x == ("__classdict__" : Str))=false:=by decide):PE X (.Name x pos) (Cw i):=KO hN hv hd hcd
end
def fc {A B:Prop} (h:B):if false=true then A else B:=by
 rw [if_neg Mj];exact h
def oo {A B:Prop} (h:A):if true=true then A else B:=by
 rw [if_pos rfl];exact h
def aj (H H':Hp):Prop:=∀ b o,H b=some o->H' b=some o
def aj.refl (H:Hp):aj H H:=fun _ _ h=>h
def aj.trans {H H1 H2:Hp} (a:aj H H1) (b:aj H1 H2):aj H H2:=fun c o h=>b c o (a c o h)
def aj.free {H H':Hp} (e:aj H H') {l:Addr} (h:H' l=Option.none):H l=Option.none:=by
 cases q:H l with
 | none=>rfl
 | some o =>
  rw [e l o q] at h;cases h
def aj.seq {K:LN} {H H':Hp} {a:Addr} {xs:List V} (e:aj H H') (h:SqL K H a xs):SqL K H' a xs:=by
 rcases h with (h|⟨o,h⟩)|h
 ·exact .inl (.inl (e _ _ h))
 ·exact .inl (.inr ⟨o,e _ _ h⟩)
 ·exact .inr h
def iG (env:Env):List (Str×Qs)->List (Str×Addr)->List (Str×Addr)
 | [],acc=>acc
 | (n,k) :: r,acc=>iG env r (if k == .free then (n,(env.cells.lookup n).getD 0) :: acc else acc)
def zW (env:Env):∀ (l:List (Str×Qs)) (acc:List (Str×Addr)),(∀ x∈l,x.2=.free->∃ c,env.cells.lookup x.1=some c) ->
  (forIn l acc (fun x r=>if (x.snd == Od)=true then (do let c <- cellOf env x.fst;pure (Pc ((x.fst,c) :: r))) else pure (Pc r)):Sem (List (Str×Addr)))=pure (iG env l acc)
 | [],acc,_=>rfl
 | (n,k) :: r,acc,h=>by
  rw [Sn];have ih:=zW env r;unfold iG
  by_cases hk:(k == Od)=true
  ·obtain ⟨c,hc⟩:=h (n,k) L8 (by simpa using hk)
   have e:cellOf env n=pure c:=by unfold cellOf;rw [hc]
   have hc':env.cells.lookup n=some c:=hc;dsimp only;rw [if_pos hk,if_pos hk,e,hc'];exact ih _ fun x hx=>h x (L4 _ hx)
  ·dsimp only;rw [if_neg hk,if_neg hk];exact ih _ fun x hx=>h x (L4 _ hx)
def By {scope:Scope} {env:Env} (h:∀ x∈scope.names,x.2=.free->∃ c,env.cells.lookup x.1=some c):closureFor scope env=pure (iG env scope.names []):=by
 simp only [closureFor];rw [zW env scope.names [] h];rfl
def yq {env:Env}:∀ (l:List (Str×Qs)) (acc:List (Str×Addr)),(∀ x∈l,x.2=.free->∃ c,env.cells.lookup x.1=some c)->(∀ x c,acc.lookup x=some c->env.cells.lookup x=some c) ->
  ∀ x c,(iG env l acc).lookup x=some c->env.cells.lookup x=some c
 | [],acc,_,ha=>ha
 | (n,k) :: r,acc,h,ha=>by
  unfold iG;refine yq r _ (fun x hx=>h x (L4 _ hx)) fun x c e=>?_
  by_cases hk:(k == Od)=true
  ·rw [if_pos hk] at e;obtain ⟨c',hc⟩:=h (n,k) L8 (by simpa using hk)
   have hc':env.cells.lookup n=some c':=hc;rw [Nh] at e
   split at e
   ·rename_i q
    have q':x=n:=by simpa using q
    subst q';rw [hc'] at e ⊢
    simpa using e
   ·exact ha x c e
  ·rw [if_neg hk] at e;exact ha x c e
def vC {env:Env}:∀ (l:List (Str×Qs)) (acc:List (Str×Addr)) (x:Str),(∃ c,acc.lookup x=some c)->∃ c,(iG env l acc).lookup x=some c
 | [],_,_,h=>h
 | (n,k) :: r,acc,x,h=>by
  unfold iG;refine vC r _ x ?_
  by_cases hk:(k == Od)=true
  ·rw [if_pos hk,Nh]
   split
   ·exact ⟨_,rfl⟩
   ·exact h
  ·rw [if_neg hk];exact h
def rE {env:Env}:∀ (l:List (Str×Qs)) (acc:List (Str×Addr)) (x:Str),(x,Od)∈l->∃ c,(iG env l acc).lookup x=some c
 | (n,k) :: r,acc,x,h=>by
  unfold iG;rcases Mp.mp h with e|h
  ·cases e;refine vC r _ _ ?_;rw [if_pos (by rfl),Nh]
   simp
  ·exact rE r _ x h
def oV {env:Env}:∀ {names:List (Str×Qs)} {x:Str},names.lookup x=some .free ->
  (names.map fun (n,k)=>if (k == Od && env.scope.kind == .function && env.kindOf n == some .cell) then (n,QF) else (n,k)).lookup x=some .cell \/
  (names.map fun (n,k)=>if (k == Od && env.scope.kind == .function && env.kindOf n == some .cell) then (n,QF) else (n,k)).lookup x=some .free
 | [],_,h=>by simp at h
 | (n,k) :: r,x,h=>by
  rw [My]
  by_cases hx:(x == n)=true
  ·rw [Nh,hx] at h;dsimp only at h ⊢;cases h
   split
   ·rw [Nh,hx];exact .inl rfl
   ·rw [Nh,hx];exact .inr rfl
  ·have hx':(x == n)=false:=by simpa using hx
   rw [Nh,hx'] at h;have ih:=oV (env:=env) (names:=r) (x:=x) h;dsimp only at h ⊢
   split
   ·rw [Nh,hx'];exact ih
   ·rw [Nh,hx'];exact ih
def n5 {env:Env}:∀ {names:List (Str×Qs)} {x:Str},
  ((names.map fun (n,k)=>if (k == Od && env.scope.kind == .function && env.kindOf n == some .cell) then (n,QF) else (n,k)).lookup x=some .cell \/
  (names.map fun (n,k)=>if (k == Od && env.scope.kind == .function && env.kindOf n == some .cell) then (n,QF) else (n,k)).lookup x=some .free) ->
  (x,Od)∈names\/(x,QF)∈names
 | [],_,h=>by simp at h
 | (n,k) :: r,x,h=>by
  rw [My] at h
  by_cases hx:(x == n)=true
  ·have q':x=n:=by simpa using hx
   dsimp only at h
   split at h
   ·rename_i hc
    have:k=Od:=by
     cases k <;> simp_all
    subst this q';exact .inl L8
   ·rw [Nh,hx] at h;dsimp only at h;subst q';rcases h with h|h
    ·cases h;exact .inr L8
    ·cases h;exact .inl L8
  ·have hx':(x == n)=false:=by simpa using hx
   have ih:=n5 (env:=env) (names:=r) (x:=x);dsimp only at h
   split at h
   ·rw [Nh,hx'] at h;exact (ih h).elim (fun z=>.inl (L4 _ z)) fun z=>.inr (L4 _ z)
   ·rw [Nh,hx'] at h;exact (ih h).elim (fun z=>.inl (L4 _ z)) fun z=>.inr (L4 _ z)
def ng (own:List Str) (fr:List Nat) (N:List Str):List Str:=own++fr.map fun i=>(N[i]?).getD ("" : Str)
def dq (own:List Str) (fr:List Nat) (σ:St):St:=own.map (fun _=>none)++fr.map fun i=>(σ[i]?).join
def cU (X:Cx) (scope:Scope) (own:List Str) (fr:List Nat) (C:Addr) (s₂:LU) (H₂:Hp) (fp:List Addr):Cx :=
 { X with N:=ng own fr X.N,s₀:=s₂,H₀:=H₂,env:=compEnvC scope (iG X.env scope.names []) C X.env,outer:=X.stack,ex:=fp,fn:=fun _=>false,pn:=[],xe:=fun _ _=>False }
structure bT (sc:Scope) (N:List Str) (scope:Scope) (own:List Str) (fr:List Nat):Prop where
 kind:scope.kind=.function
 E5:∀ y∈scope.names,y.2≠.cell
 names:∀ y∈scope.names,y.2=.local->scope.names.lookup y.1=some .local
 free:∀ y∈scope.names,y.2=.free->sc.names.lookup y.1=some .cell\/sc.names.lookup y.1=some .free
 fr0:∀ i∈fr,(N[i]?.bind fun x=>scope.names.lookup x)=some .free
 nd:(ng own fr N).Nodup
def bT.fr {sc:Scope} {N:List Str} {scope:Scope} {own:List Str} {fr:List Nat} (S:bT sc N scope own fr):∀ i∈fr,∃ x,N[i]?=some x/\scope.names.lookup x=some .free:=fun i hi=>by
 have q:=S.fr0 i hi;cases e:N[i]? with
 | none=>rw [e] at q;cases q
 | some x=>rw [e] at q;exact ⟨x,rfl,q⟩
section
variable {X:Cx} {scope:Scope} {own:List Str} {fr:List Nat} {pins:List (Addr×Obj)} {σ:St} {H₂:Hp} {s₂:LU} {fp:List Addr} {C D:Addr} {h₁:Heap} {m:Str->Option Value} {tk:Nat}
def bT.cells (S:bT X.env.scope X.N scope own fr) (ok:X.Ok):∀ x∈scope.names,x.2=.free->∃ c,X.env.cells.lookup x.1=some c:=fun x hx hf=>ok.has x.1 (S.free x hx hf)
def DF {i:Nat} {v:V} (h:(dq own fr σ)[i]?=some (some v)):∃ j,own.length<=i/\fr[i - own.length]?=some j/\σ[j]?=some (some v):=by
 unfold dq at h
 by_cases hi:i<own.length
 ·rw [MG (by simpa using hi),Mn] at h
  cases e:own[i]? with
  | none=>rw [e] at h;cases h
  | some a=>rw [e] at h;cases h
 ·rw [MS (by simpa using hi),Mn,LV] at h
  cases e:fr[i - own.length]? with
  | none=>rw [e] at h;cases h
  | some j =>
   rw [e] at h;refine ⟨j,by lia,rfl,?_⟩
   have h':(σ[j]?).join=some v:=by simpa using h
   cases q:σ[j]? with
   | none=>rw [q] at h';cases h'
   | some o=>rw [q] at h';exact congrArg some h'
def Fy (S:bT X.env.scope X.N scope own fr) (I:Inv X pins σ H₂ s₂) (f2:∀ b∈fp,kL X pins H₂ b) (fo:∀ b∈fp,b<s₂.heap.objs.size)
  (hC:s₂.heap.objs.size<=C) (hD:s₂.heap.objs.size<=D) (hDC:D≠C) (old:∀ b o,s₂.heap.get? b=some o->h₁.get? b=some o) (hns:h₁.Ns C m) (new:∃ n,h₁.get? D=some { cls:=.type "list",data:=.seq #[] n }) :
  Inv (cU X scope own fr C s₂ H₂ fp) [] (dq own fr σ) (upd H₂ D (.lst [])) { s₂ with heap:=h₁,toks:=tk }:=by
 have hk:=S.cells I.ok;have sub:=yq (env:=X.env) scope.names [] hk (fun x c e=>by cases e)
 have fl:∀ x c,(iG X.env scope.names []).lookup x=some c->∃ v,s₂.heap.IsCell c v:=fun x c e=>I.cell x c (sub x c e);have okX:(cU X scope own fr C s₂ H₂ fp).Ok:=by
  refine ⟨I.ok.mod,S.kind,I.ok.glob,I.ok.blt,hC,fun x y c e1 e2=>I.ok.inj x y c (sub x c e1) (sub y c e2),fun x hx=>?_,fun x c hf=>absurd hf (by intro z;cases z),I.ok.hd,I.ok.frames,.inl rfl,fun b hb=>⟨?_,fun x c e z=>?_⟩,
   I.bs,M7 I.ok.bsz I.sz,fun b o e hb=>?_,fun b hb=>?_,I.stack,I.Be⟩
  ·rcases n5 hx with z|z
   ·exact rE _ _ _ z
   ·exact absurd rfl (S.E5 _ z)
  ·exact Mc (Mm (fo b hb) hC)
  ·exact (f2 b hb).2.2.2.2.1 x c (sub x c e) z
  ·obtain ⟨_,_,_,f3,_⟩:=f2 b hb;rcases f3 with z|z
   ·exact I.ok.u6 b o e z
   ·exact absurd (Mm (L5 (I.ok.bs b o e).1) z) (Oo _)
  ·obtain ⟨_,f1,f2',_⟩:=f2 b hb;intro z;rcases Mp.mp (I.uc b z) with q|q
   ·exact f1 q
   ·exact f2' q
 have frH:∀ a,s₂.heap.objs.size<=a->H₂ a=none:=fun a h=>I.hok.fresh h;refine ⟨okX,rfl,I.bare,Un.laid old hD (frH D hD),⟨m,hns,fun i x v e1 e2 e3=>?_⟩,fun x c e=>?_,?_,fun x c e=>?_,fun p hp=>absurd (show p∈([]:List (Addr×Obj)) from hp) (by simp),I.hok.laid old hD ?_,?_⟩
 ·obtain ⟨j,hi,hj,hv⟩:=DF e2;have hx:X.N[j]?=some x:=by
   obtain ⟨y,hy,_⟩:=S.fr j (LR hj);have e1':(ng own fr X.N)[i]?=some x:=e1;unfold ng at e1';rw [MS hi,Mn,hj] at e1';have e1'':(X.N[j]?).getD ("" : Str)=x:=by simpa using e1'
   rw [hy] at e1'' ⊢;exact congrArg some e1''
  obtain ⟨y,hy,hfree⟩:=S.fr j (LR hj);rw [hx] at hy;cases hy;have hkind:X.env.kindOf x=some .cell\/X.env.kindOf x=some .free:=S.free _ (N9 hfree) rfl;obtain ⟨mo,hno,hlo⟩:=I.loc;obtain ⟨u,r,l⟩:=hlo j x v hx hv (hkind.elim (fun z=>.inr (.inl z)) fun z=>.inr (.inr z));refine ⟨u,r,.inr ⟨oV hfree,?_⟩⟩;obtain ⟨c,hc⟩:=rE (env:=X.env) scope.names [] x (N9 hfree);refine ⟨c,hc,?_⟩;have hc':=sub x c hc;rcases l with ⟨k,_⟩|⟨_,c',e,o,z1,z2⟩
  ·rcases hkind with z|z
   ·rw [k] at z;cases z
   ·rw [k] at z;cases z
  ·rw [hc'] at e;cases e;exact ⟨o,old _ _ z1,z2⟩
 ·obtain ⟨v,o,z1,z2⟩:=fl x c e;exact ⟨v,o,old _ _ z1,z2⟩
 ·show (upd H₂ D (.lst [])) C=none;rw [aA (NI hDC)];exact frH C hC
 ·obtain ⟨v,o,z1,z2⟩:=fl x c e;rw [aA (Mc (Mm (L5 z1) hD))];exact I.eD x c (sub x c e)
 ·obtain ⟨n,e⟩:=new;exact ⟨MI _,[],n,.nil,e⟩
 ·show (dq own fr σ).length=(ng own fr X.N).length;simp [dq,ng]
end
def PIf (X:Cx) (ifs:List Expr) (t:TT):Prop :=
 ∀ (pins:List (Addr×Obj)) (s:LU) (σ:St) (H:Hp) (Q:Bool->Hp->Prop),Inv X pins σ H s->t σ H Q ->
  wpAny (model X.prog X.w) X.A (forIn ifs true fun c r=>if r=true then (do let ok <- isTrue c X.env (eval c X.env);pure (Pc ok)) else pure (Pc r)) (TP X pins σ Q) X.xe s
def Hv:TT:=fun _ H Q=>Q true H
def b6 {X:Cx}:PIf X [] Hv:=fun _ _ _ H _ I h=>wpAny_tests_nil ⟨H,I,h⟩
def Jm {X:Cx} {c:Expr} {t:TT} (h:PT X c t):PIf X [c] t:=fun pins s σ H Q I hw=>wpAny_tests_one (h pins s σ H Q I hw)
section
variable {prog:Mh} {w:World} {A:MP} {R:Rj->LU->Prop} {s:LU}
def DH {elt target iter:Expr} {ifs:List Expr} {scope:Scope} {pos:Pos} {it acc:Value} {env:Env} (J:Nat->LU->Prop)
  (turn:∀ n s,J n s->wpAny (model prog w) A (pyNext it) (fun r s₁=>match r with
   | none=>R (.ok .next) s₁
   | some v=>wpAny (model prog w) A (letOwnedTupleGo target it v) (fun _ s₂=>wpAny (model prog w) A (assign target env v) (fun _ s₃ =>
     wpAny (model prog w) A (forIn ifs true fun c r=>if r=true then (do let ok <- isTrue c env (eval c env);pure (Pc ok)) else pure (Pc r)) (fun ok s₄ =>
      if ok=true then wpAny (model prog w) A (eval elt env) (fun x s₅=>wpAny (model prog w) A (call (.builtin "list.append") [acc,x]) (fun _ s₆=>∃ m,m<n/\J m s₆) (fun _ _=>False) s₅) (fun _ _=>False) s₄
      else ∃ m,m<n/\J m s₄) (fun _ _=>False) s₃) (fun _ _=>False) s₂) (fun _ _=>False) s₁) (fun _ _=>False) s)
  (n:Nat) (h:J n s):codeAny (model prog w) A (.compLoop (.ListComp elt [⟨target,iter,ifs,0⟩] scope pos) 0 it acc env) R s:=by
 refine codeAny_loop rfl J (fun n s hJ=>?_) n h;show wpAny _ A ((compTurn (.ListComp elt [⟨target,iter,ifs,0⟩] scope pos) 0 it acc env).onRaise (fun x=>(do noteFrame x env;theTreesLotGoes x))) _ _ s;have nf:∀ {x:Value} {s':LU},False->notedBy (model prog w) A env (fun e s'=>R (.error e) s') x s':=fun z=>z.elim;refine wpAny_noted ?_;rw [compTurn_list];refine LP (P0 (LP (Nc (turn n s hJ) (fun r s₁ h₁=>?_) fun _ _ z=>nf z)));cases r with
 | none=>exact LZ h₁
 | some v =>
  refine LP (Nc h₁ (fun _ s₂ h₂=>?_) fun _ _ z=>nf z);refine LP (Nc h₂ (fun _ s₃ h₃=>?_) fun _ _ z=>nf z);refine LP (Nc h₃ (fun ok s₄ h₄=>?_) fun _ _ z=>nf z);cases ok with
  | false=>exact LZ ⟨rfl,h₄⟩
  | true =>
   refine LP (LP (Nc h₄ (fun x s₅ h₅=>?_) fun _ _ z=>nf z));exact LP (Nc h₅ (fun _ s₆ h₆=>LZ (LZ ⟨rfl,h₆⟩)) fun _ _ z=>nf z)
end
def xH (own:List Str) (fr:List Nat) (wi:TI) (g:TG) (tt:TT) (te:TE):TE:=fun σ H Q=>wi σ H fun J H1=>∀ D,H1 D=none ->
 ∃ W:Nat->Nat->St->Hp->Prop,(∃ m,W 0 m (dq own fr σ) (upd H1 D (.lst [])))/\∀ i m σ' H',W i m σ' H' ->
  (J.stop i H'/\Q (.ref D) H')\/(J.go i H'/\∀ x H2,J.yld i H' x H2->g x σ' H2 fun σ2 H3=>tt σ2 H3 fun ok H4 =>
   if ok=true then te σ2 H4 fun y H5=>∃ ys,H5 D=some (.lst ys)/\ys.length<Mx/\∃ m',m' < m/\W (i+1) m' σ2 (upd H5 D (.lst (ys++[y]))) else ∃ m',m' < m/\W (i+1) m' σ2 H4)
section
variable {X:Cx} {elt tg iter:Expr} {ifs:List Expr} {scope:Scope} {pos:Pos} {own:List Str} {fr:List Nat} {wi:TI} {g:TG} {tt:TT} {te:TE}
def vU {pins:List (Addr×Obj)} {s:LU} {σ:St} {H:Hp} {Q:VK} {RR:Value->Addr->Rj->LU->Prop} (hc:X.calm=true) (S:bT X.env.scope X.N scope own fr) (hi:PI X tg iter wi)
  (hb:∀ C s₂ H₂ fp,PG (cU X scope own fr C s₂ H₂ fp) tg g/\PIf (cU X scope own fr C s₂ H₂ fp) ifs tt/\PE (cU X scope own fr C s₂ H₂ fp) elt te)
  (I:Inv X pins σ H s) (h:xH own fr wi g tt te σ H Q)
  (hRR:∀ D C s' H' m',Inv X pins σ H' s'->Q (.ref D) H'->kL X pins H' C->s'.heap.Ns C m'->RR (.ref D) C (.ok .next) s') :
  wpAny (model X.prog X.w) X.A (eval iter X.env) (fun v s₁=>wpAny (model X.prog X.w) X.A (pyIter v) (fun it s₂=>wpAny (model X.prog X.w) X.A (newList []) (fun acc s₃ =>
   wpAny (model X.prog X.w) X.A (newFunctionEnv scope X.env.globals (iG X.env scope.names []) [] X.env.qual none .none (some X.env)) (fun cenv s₄ =>
    codeAny (model X.prog X.w) X.A (.compStart (.ListComp elt [⟨tg,iter,ifs,0⟩] scope pos) 0 it acc { cenv with scope:=relabel scope X.env }) (RR acc cenv.locals) s₄) X.xe s₃) X.xe s₂) X.xe s₁) X.xe s:=by
 refine thn (hi pins s σ H _ I h) fun v s1 h1=>thn h1 fun itv s2 h2=>?_;obtain ⟨it,fp,tn,J,H2,e,I2,T,st2,f2,hq⟩:=h2;subst e;refine N8 (wpAny_newFunctionEnv S.E5 (by intro y hy;simp at hy) (fun h₁ hns₁ hsb₁=>?_) S.kind)
 dsimp only at hns₁ hsb₁ ⊢;have hD:=I2.hok.fresh (Ma s2.heap.objs.size);obtain ⟨W,⟨m0,w0⟩,turn⟩:=hq s2.heap.objs.size hD;generalize hH2:s2.heap.push { cls:=.type "list",dict:=none,data:=.seq ([]:List Value).toArray }=G at hns₁ hsb₁ ⊢;have hG:G.objs.size=s2.heap.objs.size+1:=by rw [<- hH2,OO]
 have hDC:s2.heap.objs.size≠G.objs.size:=by rw [hG];exact Mc (PM _)
 have hC:s2.heap.objs.size<=G.objs.size:=by rw [hG];exact OB _
 have old:∀ b o,s2.heap.get? b=some o->h₁.get? b=some o:=fun b o e =>
  hsb₁.extBut b o (by rw [hG];exact Mc (NG (L5 e))) (LW _ (hH2 ▸ LW _ e))
 have new:h₁.get? s2.heap.objs.size=some { cls:=.type "list",data:=.seq #[] 0 }:=hsb₁.extBut _ _ hDC (LW _ (hH2 ▸ Mo _ rfl));have fo:∀ b∈fp,b<s2.heap.objs.size:=fun b hb'=>let ⟨o,e,_⟩:=T.obj 0 _ st2 b hb';L5 e;have I4:Inv (cU X scope own fr G.objs.size s2 H2 fp) [] (dq own fr σ) (upd H2 s2.heap.objs.size (.lst [])) { s2 with heap:=h₁,toks:=s2.toks+([]:List (Str×Value)).length } :=
  Fy S I2 f2 fo hC (Ma _) hDC old hns₁ ⟨_,new⟩
 obtain ⟨hg,ht,he⟩:=hb G.objs.size s2 H2 fp;have fpX:∀ {H':Hp},(∀ b∈fp,H' b=none)->∀ b∈fp,kL (cU X scope own fr G.objs.size s2 H2 fp) [] H' b:=fun {H'} hn b hb'=>by
  refine ⟨hn b hb',Mc (Mm (fo b hb') hC),I4.ok.rD b hb',.inl hb',(I4.ok.exf b hb').2,fun p hp=>absurd (show p∈([]:List (Addr×Obj)) from hp) (by simp)⟩
 have fr0:∀ b∈fp,(upd H2 s2.heap.objs.size (.lst [])) b=none:=fun b hb'=>by
  rw [aA (Mc (fo b hb'))];exact (f2 b hb').1
 have tn0:tn 0 h₁:=T.keep _ _ _ st2 fun b hb' o e=>old b o e;have loop:codeAny (model X.prog X.w) X.A (.compLoop (.ListComp elt [⟨tg,iter,ifs,0⟩] scope pos) 0 (.ref it) (.ref s2.heap.objs.size) (compEnvC scope (iG X.env scope.names []) G.objs.size X.env))
   (RR (.ref s2.heap.objs.size) G.objs.size) { s2 with heap:=h₁,toks:=s2.toks+([]:List (Str×Value)).length }:=by
  refine DH (fun n s'=>∃ i σ' H',Inv (cU X scope own fr G.objs.size s2 H2 fp) [] σ' H' s'/\tn i s'.heap/\(∀ b∈fp,H' b=none)/\W i n σ' H') ?_ m0 ⟨0,_,_,I4,tn0,fr0,w0⟩;rintro n s3 ⟨i,σ3,H3,I3,st3,fr3,w3⟩;have nfp:∀ {H':Hp} {s':LU} {σ':St} {pl:List (Addr×Obj)},Inv (cU X scope own fr G.objs.size s2 H2 fp) pl σ' H' s'->pl=ma fp s'.heap->True:=fun _ _=>trivial;rcases turn i n σ3 H3 w3 with ⟨stop,qn⟩|⟨go,step⟩
  ·refine thn (T.done (cU X scope own fr G.objs.size s2 H2 fp) rfl rfl rfl hc i [] s3 σ3 H3 (fun _ _=>False) I3 (fpX fr3) st3 stop) fun r s4 ⟨hr,I5⟩=>?_;subst hr;have IX:Inv X pins σ H3 s4:=I2.HP (ch:=fp) I5.os I5.base I5.hok I5.bare fun b hb'=>let ⟨_,f1,_,f3,f4,f5⟩:=f2 b hb';⟨f3,f1,f4,f5⟩;obtain ⟨m',hn',_⟩:=I5.loc;exact hRR _ _ _ _ m' IX qn (I2.vb hC I5.free) hn'
  ·refine thn (T.item (cU X scope own fr G.objs.size s2 H2 fp) rfl rfl rfl hc i [] s3 σ3 H3 (fun _ _=>False) I3 (fpX fr3) st3 go) fun r s4 ⟨u,hr,h4⟩=>?_;subst hr;refine thn h4 fun _ s5 ⟨x,H5,I5,r5,y5,st5,fr5⟩=>?_;have I5':=I5.pinned (fpX fr5) (T.obj _ _ st5);refine thn (hg _ s5 σ3 H5 x u _ I5' r5 (step x H5 y5)) fun _ s6 ⟨σ6,H6,I6,q6⟩=>?_;have again:∀ {s7:LU} {σ7:St} {H7:Hp} {m':Nat},Inv (cU X scope own fr G.objs.size s2 H2 fp) ([]++ma fp s5.heap) σ7 H7 s7->m' < n->W (i+1) m' σ7 H7 ->
     ∃ m,m<n/\∃ i σ' H',Inv (cU X scope own fr G.objs.size s2 H2 fp) [] σ' H' s7/\tn i s7.heap/\(∀ b∈fp,H' b=none)/\W i m σ' H':=fun {s7 σ7 H7 m'} I7 hm w7=>by
    refine ⟨m',hm,i+1,σ7,H7,I7.nC,T.keep _ _ _ st5 fun b hb' o e=>(I7.pin (b,o) (Nk _ (Nk _ (jO hb' e)))).1,fun b hb'=>?_,w7⟩;obtain ⟨o,e,d⟩:=T.obj _ _ st5 b hb';exact (I7.pin (b,o) (Nk _ (Nk _ (jO hb' e)))).2.1
   refine thn (ht _ s6 σ6 H6 _ I6 q6) fun ok s7 ⟨H7,I7,q7⟩=>?_;cases ok with
   | false =>
    rw [if_neg Mj] at q7 ⊢;obtain ⟨m',hm,w7⟩:=q7;exact again I7 hm w7
   | true =>
    rw [if_pos rfl] at q7 ⊢;refine thn (he _ s7 σ6 H7 _ I7 q7) fun y s8 ⟨yv,H8,I8,r8,q8⟩=>?_;obtain ⟨ys,hy,hl,m',hm,w8⟩:=q8;refine thn (cz _ s8 σ6 H8 (.ref s2.heap.objs.size) [yv] _ [y] (fun _ H9=>H9=upd H8 s2.heap.objs.size (.lst (ys++[yv]))) I8 rfl (.cons r8 .nil) ⟨_,ys,yv,rfl,rfl,hy,hl,rfl⟩) fun _ s9 ⟨_,H9,I9,_,e9⟩=>?_;subst e9;exact again I9 hm w8
 exact codeAny_compStart_list loop (T.self X.A 0 _ _ _ tn0 loop)
def dP (hc:X.calm=true) (S:bT X.env.scope X.N scope own fr) (hi:PI X tg iter wi)
  (hb:∀ C s₂ H₂ fp,PG (cU X scope own fr C s₂ H₂ fp) tg g/\PIf (cU X scope own fr C s₂ H₂ fp) ifs tt/\PE (cU X scope own fr C s₂ H₂ fp) elt te)
  (hs:∀ x,foldedSetIterable iter X.env x=pure x:=by intro _;rfl):PE X (.ListComp elt [⟨tg,iter,ifs,0⟩] scope pos) (xH own fr wi g tt te):=by
 intro pins s σ H Q I h;rw [eval_ListComp];refine Rn (use:=none) rfl hs (By (S.cells I.ok)) S.kind S.names ?_;refine vU (RR:=fun acc C=>compPost (model X.prog X.w) X.A X.xe none (EP X pins σ Q) acc C) hc S hi hb I h ?_;intro D C s' H' m' I' q f hn;obtain ⟨f0,f1,f2,f3,f4,f5⟩:=f;exact ⟨m',hn,fun h' sb=>⟨.ref D,H',I'.turned (t':=s'.toks) (fun b o hb e=>(sb.2 b hb).trans e) f0 f1 f3 f4 f5,rfl,q⟩⟩
def dJ {i:Nat} {y:Str} {py jb:Pos} (hc:X.calm=true) (hN:X.N.Nodup) (hi':X.N[i]?=some y) (hy:Loc X.env.scope y) (S:bT X.env.scope X.N scope own fr) (hi:PI X tg iter wi)
  (hb:∀ C s₂ H₂ fp,PG (cU X scope own fr C s₂ H₂ fp) tg g/\PIf (cU X scope own fr C s₂ H₂ fp) ifs tt/\PE (cU X scope own fr C s₂ H₂ fp) elt te)
  (hsw:swapsWith (.ListComp elt [⟨tg,iter,ifs,0⟩] scope pos) (some (.Name y py)) jb.line X.env=pure true)
  (hs:∀ x,foldedSetIterable iter X.env x=pure x:=by intro _;rfl) (hf:X.fn y=true\/X.env.scope.names.lookup y=some .local:=by first|exact .inl rfl|exact .inr rfl|assumption) :
  PS X (.Assign [.Name y py] (.ListComp elt [⟨tg,iter,ifs,0⟩] scope pos) jb) (DD (xH own fr wi g tt te) (iF i)):=by
 intro pins s σ H D I h;rw [exec_Assign_Name_used _ _ _ _ hsw];refine LP (P0 (LP ?_));show wpAny _ X.A (do let _ <- comprehension (.ListComp elt [⟨tg,iter,ifs,0⟩] scope pos) scope X.env _ (newList []) false (eval iter X.env) (some (assign (.Name y py) X.env))) _ _ s;refine LP (Nc (Rn (use:=some (assign (.Name y py) X.env)) (Q:=fun _ s'=>SP X pins D .next s') rfl hs (By (S.cells I.ok)) S.kind S.names ?_) (fun _ s' hq=>LZ (LZ hq)) fun _ _ e=>e);refine vU (RR:=fun acc C=>compPost (model X.prog X.w) X.A X.xe (some (assign (.Name y py) X.env)) (fun _ s'=>SP X pins D .next s') acc C) hc S hi hb I h ?_;intro D' C s' H' m' I' q f hn;show wpAny _ _ (assign (.Name y py) X.env (.ref D')) _ _ _;refine wpAny_assign_Name (vv I' hN hi' hy (v:=.ref D') rfl (fun s2 I2 ⟨a,sb,ha⟩=>?_) hf);obtain ⟨f0,f1,f2,f3,f4,f5⟩:=f;have hCa:C≠a:=by
  rcases ha with e|e
  ·rw [e];exact f1
  ·exact fun z=>f4 y a e z.symm
 refine ⟨m',hn.sameBut sb hCa,fun h' sb'=>?_⟩;exact ⟨_,H',I2.turned (t':=s2.toks) (fun b o hb e=>(sb'.2 b hb).trans e) f0 f1 f3 f4 f5,q⟩
end
class Rep (α:Type) where
 is:LN->Hp->V->α->Prop
 mono:∀ {K:LN} {H H':Hp} {v:V} {a:α},aj H H'->is K H v a->is K H' v a
instance:Rep Int:=⟨fun _ _ v a=>v=.int a,fun _ h=>h⟩
instance:Rep Nat:=⟨fun _ _ v a=>v=.int (a:Int),fun _ h=>h⟩
instance:Rep Bool:=⟨fun _ _ v a=>v=.bl a,fun _ h=>h⟩
def Paired.get {α β:Type} {F:α->β->Prop}:∀ {l₁:List α} {l₂:List β} {i:Nat} {b:β},Nl F l₁ l₂->l₂[i]?=some b->∃ a,l₁[i]?=some a/\F a b
 | _,_,_,_,.nil,e=>by simp at e
 | _,_,0,_,.cons r _,e=>by simp at e;subst e;exact ⟨_,rfl,r⟩
 | _,_,i+1,b,.cons _ t,e=>by
  obtain ⟨a,h1,h2⟩:=Paired.get (i:=i) (b:=b) t (by simpa using e)
  exact ⟨a,by simpa using h1,h2⟩
def Paired.getL {α β:Type} {F:α->β->Prop}:∀ {l₁:List α} {l₂:List β} {i:Nat} {a:α},Nl F l₁ l₂->l₁[i]?=some a->∃ b,l₂[i]?=some b/\F a b
 | _,_,_,_,.nil,e=>by simp at e
 | _,_,0,_,.cons r _,e=>by simp at e;subst e;exact ⟨_,rfl,r⟩
 | _,_,i+1,b,.cons _ t,e=>by
  obtain ⟨a,h1,h2⟩:=Paired.getL (i:=i) (a:=b) t (by simpa using e)
  exact ⟨a,by simpa using h1,h2⟩
def Paired.app {α β:Type} {F:α->β->Prop}:∀ {l₁ l₃:List α} {l₂ l₄:List β},Nl F l₁ l₂->Nl F l₃ l₄->Nl F (l₁++l₃) (l₂++l₄)
 | _,_,_,_,.nil,s=>s
 | _,_,_,_,.cons r t,s=>.cons r (Paired.app t s)
def Paired.xt {α β:Type} {F:α->β->Prop}:∀ {l₁:List α} {l₂:List β} (n:Nat),Nl F l₁ l₂->Nl F (l₁.take n) (l₂.take n)
 | _,_,0,_=>.nil
 | _,_,_+1,.nil=>.nil
 | _,_,n+1,.cons r t=>.cons r (Paired.xt n t)
def Paired.xp {α β:Type} {F:α->β->Prop}:∀ {l₁:List α} {l₂:List β} (n:Nat),Nl F l₁ l₂->Nl F (l₁.drop n) (l₂.drop n)
 | _,_,0,r=>r
 | _,_,_+1,.nil=>.nil
 | _,_,n+1,.cons _ t=>Paired.xp n t
def Paired.of_map {α β γ:Type} {F:α->β->Prop} {f:γ->α} {g:γ->β} (h:∀ c,F (f c) (g c)):∀ l:List γ,Nl F (l.map f) (l.map g)
 | []=>.nil
 | c :: r=>.cons (h c) (Paired.of_map h r)
instance {α:Type} [Rep α]:Rep (List α) :=
 ⟨fun K H v l=>∃ p xs,v=.ref p/\SqL K H p xs/\Nl (Rep.is K H) xs l,fun e ⟨p,xs,h1,h2,h3⟩=>⟨p,xs,h1,e.seq h2,Paired.cb h3 fun _ _ q=>Rep.mono e q⟩⟩
def aj.tup {K:LN} {H H':Hp} {a:Addr} {xs:List V} (e:aj H H') (h:SqT K H a xs):SqT K H' a xs:=by
 rcases h with (h|⟨o,h⟩)|h
 ·exact .inl (.inl (e _ _ h))
 ·exact .inl (.inr ⟨o,e _ _ h⟩)
 ·exact .inr h
instance {α β:Type} [Rep α] [Rep β]:Rep (α×β) :=
 ⟨fun K H v l=>∃ p x y,v=.ref p/\SqT K H p [x,y]/\Rep.is K H x l.1/\Rep.is K H y l.2,fun e ⟨p,x,y,h1,h2,h3,h4⟩=>⟨p,x,y,h1,e.tup h2,Rep.mono e h3,Rep.mono e h4⟩⟩
abbrev At {α:Type} [Rep α] (K:LN) (H:Hp) (v:V) (a:α):Prop:=Rep.is K H v a
def Bc {K:LN} {H:Hp} {p:Addr} {ns:List Int} (h:SqL K H p (ns.map V.int)):At K H (.ref p) ns:=⟨p,_,rfl,h,by
 have q:=Paired.of_map (F:=fun (v:V) (a:Int)=>v=.int a) (f:=V.int) (g:=id) (fun _=>rfl) ns;rw [QK] at q;exact q⟩
def iZ {K:LN} {H:Hp} {v:V} {ns:List Nat} (h:At K H v ns):∃ p,v=.ref p/\SqL K H p (ns.map fun (n:Nat)=>V.int (n:Int)):=by
 obtain ⟨p,xs,rfl,hS,hP⟩:=h;refine ⟨p,rfl,?_⟩;have e:xs=ns.map fun (n:Nat)=>V.int (n:Int):=by
  clear hS
  induction hP with
  | nil=>rfl
  | cons r _ ih=>rw [My,<- ih];exact congrArg (· :: _) r
 rw [<- e];exact hS
def At.item {α:Type} [Rep α] {K:LN} {H:Hp} {v:V} {l:List α} {i:Nat} {a:α} (h:At K H v l) (e:l[i]?=some a):∃ p xs x,v=.ref p/\SqL K H p xs/\atI xs (i:Int)=some x/\At K H x a:=by
 obtain ⟨p,xs,rfl,hS,hP⟩:=h;obtain ⟨x,hx,r⟩:=Paired.get hP e;exact ⟨p,xs,x,rfl,hS,f9 hx,r⟩
def At.len {α:Type} [Rep α] {K:LN} {H:Hp} {v:V} {l:List α} (h:At K H v l):∃ p xs,v=.ref p/\SqL K H p xs/\xs.length=l.length:=by
 obtain ⟨p,xs,rfl,hS,hP⟩:=h;exact ⟨p,xs,rfl,hS,hP.length⟩
class bS (α:Type) [Rep α] [DecidableEq α] where
 depth:Nat
 inj:∀ {X:Cx} {pins:List (Addr×Obj)} {σ:St} {H:Hp} {s:LU} {x:V} {a b:α},Inv X pins σ H s->At X.K H x a->At X.K H x b->a=b
 eq:∀ {X:Cx} {pins:List (Addr×Obj)} {σ:St} {H:Hp} {s:LU} {A:MP} {x y:V} {u v:Value} {a b:α},Inv X pins σ H s->At X.K H x a->At X.K H y b->RelV x u->RelV y v->A.units+depth<cLine ->
  Tv A s u v (decide (a=b))
instance:bS Int where
 depth:=0
 inj:=fun _ h h'=>by cases h;cases h';rfl
 eq:=fun {X pins σ H s A x y u v a b} _ hx hy ru rv _=>by
  cases hx;cases hy;have q:=tD (A:=A) (s:=s) ru rv rfl rfl;have e:eqV (.int a) (.int b)=decide (a=b):=rfl;rw [e] at q;exact q
instance:bS Nat where
 depth:=0
 inj:=fun _ h h'=>by
  have q:=(show _=V.int _ from h).symm.trans (show _=V.int _ from h');injection q with q;exact RH q
 eq:=fun {X pins σ H s A x y u v a b} _ hx hy ru rv _=>by
  cases hx;cases hy;have q:=tD (A:=A) (s:=s) ru rv rfl rfl;have e:eqV (.int (a:Int)) (.int (b:Int))=decide (a=b):=by
   show decide ((a:Int)=(b:Int))=decide (a=b);exact decide_eq_decide.mpr Int.ofNat_inj
  rw [e] at q;exact q
def Hn {A:MP} {n:Nat} (h:A.units+(n+1)<cLine):A.in1.units+n<cLine:=by
 show A.units+1+n<cLine;lia
def mH {X:Cx} {pins:List (Addr×Obj)} {σ:St} {H:Hp} {s:LU} {α:Type} [Rep α] [DecidableEq α] [bS α] (I:Inv X pins σ H s) :
  ∀ {xs:List V} {as bs:List α},Nl (Rep.is X.K H) xs as->Nl (Rep.is X.K H) xs bs->as=bs
 | _,_,_,.nil,.nil=>rfl
 | _,_,_,.cons r t,.cons r' t'=>by rw [bS.inj I r r',mH I t t']
def range_all {α:Type} [DecidableEq α]:∀ (as bs:List α),as.length=bs.length->((LX as.length).all fun j=>decide (as[j]?=bs[j]?))=decide (as=bs):=by
 intro as bs hl;rw [NQ];simp only [Mz,L9,decide_eq_true_eq];constructor
 ·intro h;refine Oa fun i=>?_
  by_cases hi:i<as.length
  ·exact h i hi
  ·rw [MD (by lia),MD (by lia)]
 ·intro h i _;rw [h]
def uT {X:Cx} {pins:List (Addr×Obj)} {σ:St} {H:Hp} {s:LU} {A:MP} {α:Type} [Rep α] [DecidableEq α] [bS α] {p q:Addr} {xs ys:List V} {as bs:List α}
  (I:Inv X pins σ H s) (h1:SqL X.K H p xs) (r1:Nl (Rep.is X.K H) xs as) (h2:SqL X.K H q ys) (r2:Nl (Rep.is X.K H) ys bs) (hu:A.units+(bS.depth α+1)<cLine) (hl:as.length=bs.length) :
  ∃ its its2:List Value,s.heap.IsList p its.toArray/\s.heap.IsList q its2.toArray/\its.toArray.size=its2.toArray.size/\its.toArray.size=as.length /\
   ∀ j (h1:j<its.toArray.size) (h2:j<its2.toArray.size),Tv A.in1 s its.toArray[j] its2.toArray[j] (decide (as[j]?=bs[j]?)):=by
 obtain ⟨its,v1,p1,_⟩:=I.list h1;obtain ⟨its2,v2,p2,_⟩:=I.list h2;have e1:=v1.length;have e2:=v2.length;have e3:=r1.length;have e4:=r2.length;refine ⟨its,its2,p1.isList,p2.isList,by simp;lia,by simp;lia,fun j h1 h2=>?_⟩
 have h1':j<its.length:=by simpa using h1
 have h2':j<its2.length:=by simpa using h2
 have hx:j<xs.length:=by lia
 have hy:j<ys.length:=by lia
 obtain ⟨u,hu1,ru⟩:=v1.get (i:=j) (x:=xs[j]) (by simp [hx])
 obtain ⟨v,hv1,rv⟩:=v2.get (i:=j) (x:=ys[j]) (by simp [hy])
 obtain ⟨a,ha,ra⟩:=Paired.getL r1 (i:=j) (a:=xs[j]) (by simp [hx])
 obtain ⟨b,hb,rb⟩:=Paired.getL r2 (i:=j) (a:=ys[j]) (by simp [hy])
 have eu:its.toArray[j]=u:=by
  have:its[j]?=some its[j]:=by simp [h1']
  rw [this] at hu1
  simpa using hu1
 have ev:its2.toArray[j]=v:=by
  have:its2[j]?=some its2[j]:=by simp [h2']
  rw [this] at hv1
  simpa using hv1
 rw [eu,ev,ha,hb];have z:=bS.eq (A:=A.in1) I ra rb ru rv (Hn hu);have e:decide (some a=some b)=decide (a=b):=by simp
 rw [e];exact z
instance {α:Type} [Rep α] [DecidableEq α] [bS α]:bS (List α) where
 depth:=bS.depth α+1
 inj:=fun {X pins σ H s x a b} I h h'=>by
  obtain ⟨p,xs,e,h1,r1⟩:=h;obtain ⟨q,ys,e',h2,r2⟩:=h';subst e;cases e';have:=I.jf h1 h2;subst this;exact mH I r1 r2
 eq:=fun {X pins σ H s A x y u v a b} I hx hy ru rv hu=>by
  obtain ⟨p,xs,e,h1,r1⟩:=hx;obtain ⟨q,ys,e',h2,r2⟩:=hy;subst e e';cases (show u=Ms p from ru);cases (show v=Ms q from rv)
  by_cases hpq:p=q
  ·subst hpq;have:=I.jf h1 h2;subst this;have:=mH I r1 r2;subst this;rw [decide_eq_true rfl];exact Sl _
  ·refine SeqAt.EqAt.of_refs hpq ?_;have hu0:A.units<cLine:=by lia
   by_cases hl:a.length=b.length
   ·obtain ⟨its,its2,l1,l2,e1,e2,he⟩:=uT (A:=A) I h1 r1 h2 r2 hu hl;have z:=SeqAt.RcAt.lists l1 l2 e1 hu0 he;rw [e2,range_all a b hl] at z;exact z
   ·obtain ⟨its,v1,p1,_⟩:=I.list h1;obtain ⟨its2,v2,p2,_⟩:=I.list h2;have e1:=v1.length;have e2:=v2.length;have e3:=r1.length;have e4:=r2.length;rw [decide_eq_false (fun z=>hl (by rw [z]))]
    exact SeqAt.RcAt.lists_lengths p1.isList p2.isList (by simp;lia) hu0
def KP {X:Cx} (α:Type) [Rep α] [DecidableEq α] [bS α] (hu:X.A.units+64<cLine) (hd:bS.depth α<=32:=by decide) :
  OpR X (compareOp .Eq) (fun x y H Q=>∃ as bs:List α,At X.K H x as/\At X.K H y bs/\Q (.bl (decide (as=bs))) H):=by
 intro pins s σ H x y u v Q I ru rv h;obtain ⟨as,bs,⟨p,xs,e,h1,r1⟩,⟨q,ys,e',h2,r2⟩,hq⟩:=h;subst e e';cases (show u=Ms p from ru);cases (show v=Ms q from rv);have hu0:X.A.units<cLine:=by lia
 by_cases hl:as.length=bs.length
 ·obtain ⟨its,its2,l1,l2,e1,e2,he⟩:=uT (A:=X.A) I h1 r1 h2 r2 (by lia) hl
  refine SeqAt.eq_listAt l1 l2 e1 hu0 he ?_;rw [e2,range_all as bs hl];exact ⟨.bl _,H,I,rfl,hq⟩
 ·obtain ⟨its,v1,p1,_⟩:=I.list h1;obtain ⟨its2,v2,p2,_⟩:=I.list h2;have e1:=v1.length;have e2:=v2.length;have e3:=r1.length;have e4:=r2.length;rw [decide_eq_false (fun z=>hl (by rw [z]))] at hq
  exact SeqAt.eq_list_lengthsAt p1.isList p2.isList (by simp;lia) hu0 ⟨.bl false,H,I,rfl,hq⟩
def Kf {X:Cx} (α:Type) [Rep α] [DecidableEq α] [bS α] (hu:X.A.units+64<cLine) (hd:bS.depth α<=32:=by decide) :
  OpR X (compareOp .NotEq) (fun x y H Q=>∃ as bs:List α,At X.K H x as/\At X.K H y bs/\Q (.bl (!decide (as=bs))) H):=by
 intro pins s σ H x y u v Q I ru rv h;obtain ⟨as,bs,⟨p,xs,e,h1,r1⟩,⟨q,ys,e',h2,r2⟩,hq⟩:=h;subst e e';cases (show u=Ms p from ru);cases (show v=Ms q from rv);have hu0:X.A.units<cLine:=by lia
 have fin:∀ k:Bool,Q (.bl k) H->SK k≠Value.notImplemented/\EP X pins σ Q (.bool k) s:=fun k z=>⟨(fun z=>nomatch z),.bl k,H,I,rfl,z⟩
 by_cases hl:as.length=bs.length
 ·obtain ⟨its,its2,l1,l2,e1,e2,he⟩:=uT (A:=X.A) I h1 r1 h2 r2 (by lia) hl
  obtain ⟨⟨cls,dd,data,sl⟩,ho,hc,n,hd'⟩:=id l1;obtain ⟨⟨cls2,dd2,data2,sl2⟩,ho2,hc2,n2,hd2⟩:=id l2;simp only at hc hd' hc2 hd2;subst hc hd' hc2 hd2;have hq':=fin _ hq;rw [<- range_all as bs hl,<- e2] at hq';exact R9 (op:=.NotEq) ⟨_,ho,rfl⟩ ⟨_,ho2,rfl⟩ F.slot_list_ne F.entry_list_ne (F.args_list_ne_2 _ _) (SeqAt.list_neAt p q _ _ n n2 dd dd2 sl sl2 e1 _) ⟨ho,ho2,he,hq'⟩ hu0
 ·obtain ⟨its,v1,p1,_⟩:=I.list h1;obtain ⟨its2,v2,p2,_⟩:=I.list h2;have e1:=v1.length;have e2:=v2.length;have e3:=r1.length;have e4:=r2.length;rw [decide_eq_false (fun z=>hl (by rw [z]))] at hq
  obtain ⟨⟨cls,dd,data,sl⟩,ho,hc,n,hd'⟩:=id p1.isList;obtain ⟨⟨cls2,dd2,data2,sl2⟩,ho2,hc2,n2,hd2⟩:=id p2.isList;simp only at hc hd' hc2 hd2;subst hc hd' hc2 hd2;exact R9 (op:=.NotEq) ⟨_,ho,rfl⟩ ⟨_,ho2,rfl⟩ F.slot_list_ne F.entry_list_ne (F.args_list_ne_2 _ _) (SeqAt.list_ne_lengthsAt p q _ _ n n2 dd dd2 sl sl2 (by simp;lia)) ⟨ho,ho2,fin _ hq⟩ hu0
def AE {X:Cx}:cA X (.builtin "isinstance") (fun xs H Q=>∃ x n t b,xs=[x,.ty n]/\gU X.K H x t/\Nv X.K t (.type n)=some b/\Q (.bl b) H):=by
 intro pins s σ H xs us Q I r h;obtain ⟨x,n,t,b,rfl,ty,e,q⟩:=h;obtain ⟨u,v,rfl,ru,rv⟩:=r.two;cases (show v=SM n from rv);exact Ff I ru ty e fun tk=>⟨.bl b,H,I.tok tk,rfl,q⟩
structure Df (K:LN) (mg:Str->Option Value) (x:Str) (st:Stmt) (ps:List Str) where
 f:Addr
 fd:Na
 fn:Fun K x x st f fd
 bd:Binds K fd ps []
 nm:mg x=some (.ref f)
section
variable {X:Cx} {x:Str} {st:Stmt} {ps:List Str} {k:Nat} {sp:Sp} {p pos:Pos} {e:Expr} {es:List Expr} {t:TA}
def K6 (d:Df X.K X.mg x st ps) (G:aH X.prog X.w X.K X.mg X.base CX0 k d.f d.fd ps sp) (hr:bY k X.A) (hg:Gl X x) (ha:PA X (e :: es) t) (hdb:(x == ("__debug__" : Str))=false:=by decide)
  (he:MR (e :: es) X.env=(false,eval e X.env) :: MR es X.env:=by rfl) (hpl:(backTo pos (MR es X.env)).any (·.1)=false:=by rfl) :
  PE X (.Call (.Name x p) (e :: es) [] pos) (mJ sp [] E0 t):=qp G hr hg d.nm d.fn.kp d.bd .nil B8 ha hdb he hpl
end
def Df.ok {P:Mh} {w:World} {K:LN} {mg:Str->Option Value} {base:Heap} {x:Str} {st:Stmt} {N ps:List Str} {k:Nat} {sp:Sp} (d:Df K mg x st ps) (S:aK N ps (ak st)) (len:∀ vs H Q E,sp vs H Q E->vs.length=ps.length)
  (hbody:∀ (cdv:Value) (A:MP) (outer:List Env) (s:LU) (H:Hp) (vs:List V) (Q:VK) (E:XK),bY k (A.deeper (envOfC x (ak st) s.heap.objs.size d.f cdv))->sp vs H Q E ->
   ∃ t,PSs (iu CX0 P w K mg base N x (ak st) d.f cdv A outer s H E).nox (bC st) t/\t { nx:=fun _ H'=>Q .non H',rt:=Q } (start N vs) H):aH P w K mg base CX0 (k+1) d.f d.fd ps sp :=
 d.fn.ok S len hbody
def ay {H:Hp} {p:Addr} (h:H p=none) (o:HO):aj H (upd H p o):=fun b u q=>by rw [aA (aS q h)];exact q
def small {n:Nat} (h:n<=1000):n<=Mx:=Ou (Fl h)
def isB (x:V) (H:Hp) (QB:Bool->Hp->Prop):Prop:=∃ k,x=.bl k/\QB k H
abbrev isF (K:LN) (f:Str) (x:V) (H1:Hp) (Q:VK):Prop:=∃ a C dx fs v,x=.ref a/\H1 a=some (.ins C dx fs)/\Cls K C/\bP K C f/\fs.lookup f=some v/\Q v H1
def isI (x:V) (H:Hp) (QO:Option Int->Hp->Prop):Prop:=∃ i,x=.int i/\QO (some i) H
def lA (g:TG) (t:TS) (D:Ends) (σ:St):It->Hp->Prop:=fun J H1=>∃ W:Nat->Nat->St->Hp->Prop,(∃ m,W 0 m σ H1)/\∀ i m σ H,W i m σ H ->
  (J.stop i H/\D.nx σ H)\/(J.go i H/\∃ N:St->Hp->Prop,(∀ σ' H',N σ' H'->∃ m',m' < m/\W (i+1) m' σ' H')/\∀ x H',J.yld i H x H'->g x σ H' fun σ2 H2=>t { D with nx:=N,ct:=N,bk:=D.nx } σ2 H2)
def ji (own:List Str) (fr:List Nat) (g:TG) (tt:TT) (ta:TE) (σ:St) (Q:VK):It->Hp->Prop:=fun J H1=>∀ d,H1 d=none->∃ W:Nat->Nat->St->Hp->Prop,(∃ m,W 0 m (dq own fr σ) (upd H1 d (.lst [])))/\∀ i m σ' H',W i m σ' H' ->
  (J.stop i H'/\Q (.ref d) H')\/(J.go i H'/\∀ x H2,J.yld i H' x H2->g x σ' H2 fun σ2 H3=>tt σ2 H3 fun ok H4 =>
   if ok=true then ta σ2 H4 fun y H5=>∃ ys,H5 d=some (.lst ys)/\ys.length<Mx/\∃ m',m' < m/\W (i+1) m' σ2 (upd H5 d (.lst (ys++[y]))) else ∃ m',m' < m/\W (i+1) m' σ2 H4)
def pP (K:LN) (x:V) (H:Hp) (R:It->Hp->Prop):Prop:=∃ a,x=.ref a/\(∃ xs,SqL K H a xs)/\R (Itl K a) H
def Dm (vs:List V) (H:Hp) (R:It->Hp->Prop):Prop:=∃ j:Int,vs=[.int j]/\-(2 ^ 62)<=j/\j<2 ^ 62/\R (Itr 0 j.toNat) H
section
variable {σ:St} {H:Hp} {Q:VK} {QB:Bool->Hp->Prop} {D:Ends} {K:LN} {t u:TS} {ta tb tc:TE} {g:TG} {i:Nat} {v x y:V} {tt tu:TT} {tA:TA} {a b:Int}
def tW (h:D.nx σ H):HW D σ H:=h
def xM (h:ta σ H fun x H1=>g x σ H1 D.nx):DD ta g D σ H:=h
def oA {QS:St->Hp->Prop} (h:QS (σ.set i (some v)) H):iF i v σ H QS:=h
def sg (h:ta σ H fun _ H1=>D.nx σ H1):HB ta D σ H:=h
def xB (h:ta σ H D.rt):KU ta D σ H:=h
def HZ (h:tt σ H fun b H1=>if b=true then t D σ H1 else u D σ H1):F8 tt t u D σ H:=h
def dA (J:St->Hp->Prop) (main:∀ N:St->Hp->Prop,(∀ σ' H',J σ' H'->N σ' H')->tt σ H fun b H1=>if b=true then t { D with nx:=N } σ H1 else u { D with nx:=N } σ H1)
  (key:∀ σ' H',J σ' H'->D.nx σ' H'):F8 tt t u D σ H:=main D.nx key
def xA (e:σ[i]?=some (some v)) (h:Q v H):Cw i σ H Q:=⟨v,e,h⟩
def r_C (h:Q v H):tC v σ H Q:=h
def C9 {r:R2} (h:ta σ H fun x H1=>tb σ H1 fun y H2=>r x y H2 Q):tOp r ta tb σ H Q:=h
def xI {f:Int->Int->V} (h:Q (f a b) H):rI0 f (.int a) (.int b) H Q:=⟨a,b,rfl,rfl,h⟩
def rG {C:Int->Int->Prop} {f:Int->Int->V} (c:C a b) (h:Q (f a b) H):rI C f (.int a) (.int b) H Q:=⟨a,b,rfl,rfl,c,h⟩
def sX (h:Q (.bl (decide (a=b))) H):rEq (.int a) (.int b) H Q:=⟨rfl,by
 have e:decide (V.int a=V.int b)=decide (a=b):=decide_eq_decide.mpr ⟨fun z=>by injection z,fun z=>by rw [z]⟩
 rw [e];exact h⟩
def si (h:Q (.bl (!decide (a=b))) H):rNe (.int a) (.int b) H Q:=⟨rfl,by
 have e:decide (V.int a=V.int b)=decide (a=b):=decide_eq_decide.mpr ⟨fun z=>by injection z,fun z=>by rw [z]⟩
 rw [e];exact h⟩
def sY (h:ta σ H fun x H'=>isB x H' QB):HF ta σ H QB:=h
def Dx (h:ta σ H fun x H1=>isB x H1 QB):tB ta σ H QB:=h
def BW {c:Bool} (h:QB c H):isB (.bl c) H QB:=⟨c,rfl,h⟩
def xQ (h:tt σ H fun c H1=>if c=true then tu σ H1 QB else QB false H1):J0 tt tu σ H QB:=h
def Dv (h:tt σ H fun c H1=>if c=true then QB true H1 else tu σ H1 QB):tOr tt tu σ H QB:=h
def xx (h:tt σ H fun c H1=>QB (!c) H1):Ko tt σ H QB:=h
def sR (h:ta σ H fun x H1=>isB x H1 fun c H1=>if c=true then tb σ H1 Q else Q (.bl false) H1):HR ta tb σ H Q:=h
def xK (h:ta σ H fun x H1=>isB x H1 fun c H1=>if c=true then Q (.bl true) H1 else tb σ H1 Q):KC ta tb σ H Q:=h
def xq {QA:List V->Hp->Prop} (h:QA [] H):ui σ H QA:=h
def ud {QA:List V->Hp->Prop} (h:ta σ H fun x H1=>tA σ H1 fun xs H2=>QA (x :: xs) H2):m7 ta tA σ H QA:=h
def DE {r:List V->Hp->VK->Prop} (h:tA σ H fun vs H1=>r vs H1 Q):tCB r tA σ H Q:=h
def sU {sp:Sp} {E:XK} (h:tA σ H fun vs H1=>sp (vs++[]) H1 Q E):mJ sp [] E tA σ H Q:=h
def bo (h:tA σ H fun xs H1=>xs.length<=Mx/\∀ p,H1 p=none->Q (.ref p) (upd H1 p (.lst xs))):zC tA σ H Q:=h
def qr (h:tA σ H fun xs H1=>xs.length<=Mx/\∀ p,H1 p=none->Q (.ref p) (upd H1 p (.tup xs))):JG tA σ H Q:=h
def xw (h:ta σ H fun x H1=>Q (.bl (decide (x=.non))) H1):JY ta σ H Q:=h
def t6 (h:ta σ H fun x H1=>Q (.bl (!decide (x=.non))) H1):HL ta σ H Q:=h
def xD {wi:TI} (h:wi σ H (lA g t D σ)):J1 wi g t D σ H:=h
def p6 {R:It->Hp->Prop} (h:ta σ H fun x H1=>pP K x H1 R):BO K ta σ H R:=h
def qu {R:It->Hp->Prop} (h:tA σ H fun vs H1=>Dm vs H1 R):Cp tA σ H R:=h
def t5 {own:List Str} {fr:List Nat} {wi:TI} (h:wi σ H (ji own fr g tt ta σ Q)):xH own fr wi g tt ta σ H Q:=h
def Cq {r:V->Option Int->Option Int->Hp->VK->Prop} {tl th:TO} (h:ta σ H fun x H1=>tl σ H1 fun l H2=>th σ H2 fun u H3=>r x l u H3 Q):tSl r ta tl th σ H Q:=h
def mU {QO:Option Int->Hp->Prop} (h:QO none H):Bv σ H QO:=h
def sG {QO:Option Int->Hp->Prop} (h:ta σ H fun x H1=>isI x H1 QO):HN ta σ H QO:=h
def ub {QO:Option Int->Hp->Prop} (h:QO (some a) H):isI (.int a) H QO:=⟨a,rfl,h⟩
def Dg {T:String} {r:V->List V->Hp->VK->Prop} (h:ta σ H fun x H1=>tyV K T x H1/\tA σ H1 fun xs H2=>r x xs H2 Q):tBM K T r ta tA σ H Q:=h
def xN {f:Str} (h:ta σ H fun x H1=>isF K f x H1 Q):GB K ta f σ H Q:=h
def sx {C:Addr} {sp:Sp} {dvs:List V} {E:XK} (h:tA σ H fun vs H1=>∀ x dx,H1 x=none->H1 dx=none->dx≠x->sp (.ref x :: (vs++dvs)) (upd (upd H1 dx (.own x)) x (.ins C dx [])) (fun v H2=>v=.non/\Q (.ref x) H2) E):DC C sp dvs E tA σ H Q:=h
def sh {f:Str} (h:tb σ H fun y H1=>ta σ H1 fun x H2=>∃ a C dx fs,x=.ref a/\H2 a=some (.ins C dx fs)/\Cls K C/\bP K C f/\fs.length<1000/\D.nx σ (upd H2 a (.ins C dx (d4 f y fs)))):Hi K ta tb f D σ H:=h
def cM {α:Type} [Rep α] {l:List α} {n:Nat} {c:α} (h:At K H v l) (e:a=(n:Int)) (hn:l[n]?=some c) (q:∀ w,At K H w c->Q w H):qZ K v (.int a) H Q:=by
 obtain ⟨p,xs,x,rfl,hS,hx,hc⟩:=h.item hn;subst e;exact ⟨p,xs,_,x,rfl,rfl,hS,hx,q x hc⟩
def gH {l:List Nat} {n c:Nat} (h:At K H v l) (e:a=(n:Int)) (hn:l[n]?=some c) (q:Q (.int (c:Int)) H):qZ K v (.int a) H Q :=
 cM h e hn fun w hw=>by cases (show w=V.int (c:Int) from hw);exact q
def jR {l:List Int} {n:Nat} {c:Int} (h:At K H v l) (e:a=(n:Int)) (hn:l[n]?=some c) (q:Q (.int c) H):qZ K v (.int a) H Q :=
 cM h e hn fun w hw=>by cases (show w=V.int c from hw);exact q
def bW {n:Nat} (e:a=(n:Int)) (hn:n<=1000000) (Pv:Nat->St->Hp->Prop) (h0:Pv 0 σ H)
  (hs:∀ i σ' H',i<n->Pv i σ' H'->g (.int (i:Int)) σ' H' fun σ2 H2=>t { D with nx:=Pv (i+1),ct:=Pv (i+1),bk:=D.nx } σ2 H2) (hd:∀ σ' H',Pv n σ' H'->D.nx σ' H') :
  Dm [.int a] H (lA g t D σ):=by
 subst e;refine ⟨n,rfl,by lia,by lia,?_⟩
 have z:((n:Int)).toNat=n:=by lia
 show lA g t D σ (Itr 0 (n:Int).toNat) H;rw [z];exact Em Pv h0 (fun i σ' H' hi p=>by rw [Int.zero_add];exact hs i σ' H' hi p) hd
def dB {α:Type} [Rep α] {l:List α} (h:At K H v l) (Pv:Nat->St->Hp->Prop) (h0:Pv 0 σ H) (hl:∀ i σ' H',Pv i σ' H'->aj H H')
  (hs:∀ i c w σ' H',l[i]?=some c->At K H' w c->Pv i σ' H'->g w σ' H' fun σ2 H2=>t { D with nx:=Pv (i+1),ct:=Pv (i+1),bk:=D.nx } σ2 H2) (hd:∀ σ' H',Pv l.length σ' H'->D.nx σ' H') :
  pP K v H (lA g t D σ):=by
 obtain ⟨p,xs,rfl,hS,hP⟩:=h;refine ⟨p,rfl,⟨xs,hS⟩,rP (K:=K) (a:=p) (xs:=xs) Pv h0 (fun i σ' H' _ q=>(hl i σ' H' q).seq hS) (fun i x σ' H' hx q=>?_) (fun σ' H' q=>?_)⟩
 ·obtain ⟨c,hc,r⟩:=Paired.getL hP hx;exact hs i c x σ' H' hc (Rep.mono (hl i σ' H' q) r) q
 ·rw [hP.length] at q;exact hd σ' H' q
def del (H:Hp) (d:Addr):Hp:=fun a=>if a=d then none else H a
def eB {H:Hp} {d b:Addr} (h:b≠d):del H d b=H b:=if_neg h
def kN {H H':Hp} {d:Addr} (e:aj H H'):aj (del H d) (del H' d):=fun b o h=>by
 by_cases hb:b=d
 ·rw [hb] at h;have z:del H d d=none:=if_pos rfl;rw [z] at h;cases h
 ·rw [eB hb] at h ⊢;exact e b o h
def gZ {H:Hp} {d:Addr} {o:HO}:aj (del H d) (del (upd H d o) d):=fun b u h=>by
 by_cases hb:b=d
 ·rw [hb] at h;have z:del H d d=none:=if_pos rfl;rw [z] at h;cases h
 ·rw [eB hb] at h ⊢;rw [aA hb];exact h
def ky {H:Hp} {d:Addr}:aj (del H d) H:=fun b u h=>by
 by_cases hb:b=d
 ·rw [hb] at h;have z:del H d d=none:=if_pos rfl;rw [z] at h;cases h
 ·rw [eB hb] at h;exact h
def AZ {β:Type} [Rep β] {J:It} {n:Nat} {own:List Str} {fr:List Nat} (Src:Nat->V->Hp->Prop) (acc:Nat->List β) (Sh:St->Prop)
  (hgo:∀ i H',i<n->aj H H'->J.go i H') (hst:∀ H',aj H H'->J.stop n H') (hy:∀ i H' x H2,i<n->aj H H'->J.yld i H' x H2->H2=H'/\Src i x H')
  (hz:n<=100000) (ha0:acc 0=[]) (hal:∀ i,i<=n->(acc i).length<=i) (h0:Sh (dq own fr σ))
  (turn:∀ i w σ' H' (d:Addr) (R:St->V->Hp->Prop) (R0:St->Hp->Prop),i<n->aj H H'->Src i w H'->Sh σ' ->
   (∀ σ2 y b H5,Sh σ2->aj H' H5->At K (del H5 d) y b->acc (i+1)=acc i++[b]->R σ2 y H5)->(∀ σ2 H5,Sh σ2->aj H' H5->acc (i+1)=acc i->R0 σ2 H5)->(∃ ys,H' d=some (.lst ys)) ->
   g w σ' H' fun σ2 H3=>tt σ2 H3 fun ok H4=>if ok=true then ta σ2 H4 (R σ2) else R0 σ2 H4)
  (fin:∀ d H',H d=none->aj H H'->(∃ ys,H' d=some (.lst ys)/\Nl (Rep.is K (del H' d)) ys (acc n))->Q (.ref d) H') (d:Addr) (hd:H d=none) :
  ∃ W:Nat->Nat->St->Hp->Prop,(∃ m,W 0 m (dq own fr σ) (upd H d (.lst [])))/\∀ i m σ' H',W i m σ' H' ->
   (J.stop i H'/\Q (.ref d) H')\/(J.go i H'/\∀ x H2,J.yld i H' x H2->g x σ' H2 fun σ2 H3=>tt σ2 H3 fun ok H4 =>
    if ok=true then ta σ2 H4 fun y H5=>∃ ys,H5 d=some (.lst ys)/\ys.length<Mx/\∃ m',m' < m/\W (i+1) m' σ2 (upd H5 d (.lst (ys++[y]))) else ∃ m',m' < m/\W (i+1) m' σ2 H4):=by
 refine ⟨fun i m σ' H'=>m=n - i/\i<=n/\Sh σ'/\aj H H'/\∃ ys,H' d=some (.lst ys)/\Nl (Rep.is K (del H' d)) ys (acc i),⟨n,rfl,MI _,h0,ay hd _,[],ar,by rw [ha0];exact .nil⟩,?_⟩
 rintro i m σ' H' ⟨rfl,hi,hsh,hs,ys,hys,hp⟩
 by_cases hlt:i<n
 ·refine .inr ⟨hgo i H' hlt hs,fun x H2 hx=>?_⟩;obtain ⟨rfl,hsrc⟩:=hy i H' x H2 hlt hs hx;refine turn i x σ' H2 d _ _ hlt hs hsrc hsh (fun σ2 y b H5 h1 h2 h3 h4=>?_) (fun σ2 H5 h1 h2 h4=>?_) ⟨ys,hys⟩
  ·have hl:=hp.length;have hl2:=hal i hi;refine ⟨ys,h2 _ _ hys,NL (show ys.length<=100000 by lia) (by rw [MW];decide),n - (i+1),by lia,rfl,hlt,h1,fun b' o e=>?_,ys++[y],ar,?_⟩
   ·rw [aA (aS e hd)];exact h2 _ _ (hs _ _ e)
   ·rw [h4];exact Paired.app (Paired.cb hp fun _ _ q=>Rep.mono gZ (Rep.mono (kN h2) q)) (.cons (Rep.mono gZ h3) .nil)
  ·refine ⟨n - (i+1),by lia,rfl,hlt,h1,hs.trans h2,ys,h2 _ _ hys,?_⟩
   rw [h4];exact Paired.cb hp fun _ _ q=>Rep.mono (kN h2) q
 ·have e:i=n:=by lia
  subst e;exact .inl ⟨hst H' hs,fin d H' hd hs ⟨ys,hys,hp⟩⟩
def oy {α β:Type} [Rep α] [Rep β] {l:List α} {own:List Str} {fr:List Nat} (h:At K H v l) (hz:l.length<=100000) (acc:Nat->List β) (Sh:St->Prop) (ha0:acc 0=[]) (hal:∀ i,i<=l.length->(acc i).length<=i) (h0:Sh (dq own fr σ))
  (turn:∀ i c w σ' H' (d:Addr) (R:St->V->Hp->Prop) (R0:St->Hp->Prop),l[i]?=some c->aj H H'->At K H' w c->Sh σ' ->
   (∀ σ2 y b H5,Sh σ2->aj H' H5->At K (del H5 d) y b->acc (i+1)=acc i++[b]->R σ2 y H5)->(∀ σ2 H5,Sh σ2->aj H' H5->acc (i+1)=acc i->R0 σ2 H5)->(∃ ys,H' d=some (.lst ys)) ->
   g w σ' H' fun σ2 H3=>tt σ2 H3 fun ok H4=>if ok=true then ta σ2 H4 (R σ2) else R0 σ2 H4)
  (fin:∀ d H',H d=none->aj H H'->(∃ ys,H' d=some (.lst ys)/\Nl (Rep.is K (del H' d)) ys (acc l.length))->Q (.ref d) H') :
  pP K v H (ji own fr g tt ta σ Q):=by
 obtain ⟨p,xs,rfl,hS,hP⟩:=h;have hl:=hP.length;refine ⟨p,rfl,⟨xs,hS⟩,AZ (J:=Itl K p) (n:=l.length) (fun i w H'=>∃ c,l[i]?=some c/\At K H' w c) acc Sh (fun i H' hi e=>⟨xs,xs[i]'(by lia),e.seq hS,by simp [hl,hi]⟩) (fun H' e=>⟨xs,e.seq hS,QZ hl⟩)
  (fun i H' x H2 hi e hy=>?_) hz ha0 hal h0 (fun i w σ' H' d R R0 hi e ⟨c,hc,hw⟩=>turn i c w σ' H' d R R0 hc e hw) fin⟩
 obtain ⟨e1,e2⟩:=hy;have z:=e2 xs (e.seq hS);obtain ⟨c,hc,r⟩:=Paired.getL hP z;exact ⟨e1,c,hc,Rep.mono e r⟩
def nh (K:LN) {β:Type} [Rep β] {n:Nat} {own:List Str} {fr:List Nat} (e:a=(n:Int)) (hz:n<=100000) (acc:Nat->List β) (Sh:St->Prop) (ha0:acc 0=[]) (hal:∀ i,i<=n->(acc i).length<=i) (h0:Sh (dq own fr σ))
  (turn:∀ i σ' H' (d:Addr) (R:St->V->Hp->Prop) (R0:St->Hp->Prop),i<n->aj H H'->Sh σ' ->
   (∀ σ2 y b H5,Sh σ2->aj H' H5->At K (del H5 d) y b->acc (i+1)=acc i++[b]->R σ2 y H5)->(∀ σ2 H5,Sh σ2->aj H' H5->acc (i+1)=acc i->R0 σ2 H5)->(∃ ys,H' d=some (.lst ys)) ->
   g (.int (i:Int)) σ' H' fun σ2 H3=>tt σ2 H3 fun ok H4=>if ok=true then ta σ2 H4 (R σ2) else R0 σ2 H4)
  (fin:∀ d H',H d=none->aj H H'->(∃ ys,H' d=some (.lst ys)/\Nl (Rep.is K (del H' d)) ys (acc n))->Q (.ref d) H') :
  Dm [.int a] H (ji own fr g tt ta σ Q):=by
 subst e;refine ⟨n,rfl,by lia,by lia,?_⟩
 have z:((n:Int)).toNat=n:=by lia
 show ji own fr g tt ta σ Q (Itr 0 (n:Int).toNat) H;rw [z];refine AZ (J:=Itr 0 n) (n:=n) (fun i w _=>w=.int (i:Int)) acc Sh (fun i H' hi _=>hi) (fun H' _=>Ma n) (fun i H' x H2 hi e hy=>?_) hz ha0 hal h0 (fun i w σ' H' d R R0 hi e hw=>?_) fin
 ·obtain ⟨e1,e2⟩:=hy;exact ⟨e1,by rw [e2,Int.zero_add]⟩
 ·subst hw;exact turn i σ' H' d R R0 hi e
def iV {α β:Type} [Rep α] [Rep β] {l:List α} {own:List Str} {fr:List Nat} (h:At K H v l) (hz:l.length<=100000) (acc:Nat->List β) (Sh:St->Prop) (ha0:acc 0=[]) (hal:∀ i,i<=l.length->(acc i).length<=i) (h0:Sh (dq own fr σ))
  (turn:∀ i c w σ' H' (d:Addr) (R:St->V->Hp->Prop) (R0:St->Hp->Prop),l[i]?=some c->aj H H'->At K H' w c->Sh σ' ->
   (∀ σ2 y b H5,Sh σ2->aj H' H5->At K (del H5 d) y b->acc (i+1)=acc i++[b]->R σ2 y H5)->(∀ σ2 H5,Sh σ2->aj H' H5->acc (i+1)=acc i->R0 σ2 H5)->(∃ ys,H' d=some (.lst ys)) ->
   g w σ' H' fun σ2 H3=>tt σ2 H3 fun ok H4=>if ok=true then ta σ2 H4 (R σ2) else R0 σ2 H4)
  (fin:∀ d H',aj H H'->At K H' (.ref d) (acc l.length)->Q (.ref d) H') :
  pP K v H (ji own fr g tt ta σ Q) :=
 oy h hz acc Sh ha0 hal h0 turn fun d H' _ hs ⟨ys,hys,hp⟩=>fin d H' hs ⟨d,ys,rfl,SqL.of hys,Paired.cb hp fun _ _ q=>Rep.mono ky q⟩
def jv (K:LN) {β:Type} [Rep β] {n:Nat} {own:List Str} {fr:List Nat} (e:a=(n:Int)) (hz:n<=100000) (acc:Nat->List β) (Sh:St->Prop) (ha0:acc 0=[]) (hal:∀ i,i<=n->(acc i).length<=i) (h0:Sh (dq own fr σ))
  (turn:∀ i σ' H' (d:Addr) (R:St->V->Hp->Prop) (R0:St->Hp->Prop),i<n->aj H H'->Sh σ' ->
   (∀ σ2 y b H5,Sh σ2->aj H' H5->At K (del H5 d) y b->acc (i+1)=acc i++[b]->R σ2 y H5)->(∀ σ2 H5,Sh σ2->aj H' H5->acc (i+1)=acc i->R0 σ2 H5)->(∃ ys,H' d=some (.lst ys)) ->
   g (.int (i:Int)) σ' H' fun σ2 H3=>tt σ2 H3 fun ok H4=>if ok=true then ta σ2 H4 (R σ2) else R0 σ2 H4)
  (fin:∀ d H',aj H H'->At K H' (.ref d) (acc n)->Q (.ref d) H') :
  Dm [.int a] H (ji own fr g tt ta σ Q) :=
 nh K e hz acc Sh ha0 hal h0 turn fun d H' _ hs ⟨ys,hys,hp⟩=>fin d H' hs ⟨d,ys,rfl,SqL.of hys,Paired.cb hp fun _ _ q=>Rep.mono ky q⟩
def sP (h:QB true H):Hv σ H QB:=h
def tw {A B:Prop} (h:A):if true=true then A else B:=oo h
end
def aU {c A B:Prop} [Decidable c] (h1:c->A) (h2:¬ c->B):if decide c=true then A else B:=by
 by_cases h:c
 ·rw [decide_eq_true h];exact oo (h1 h)
 ·rw [decide_eq_false h];exact fc (h2 h)
def bH {c A B:Prop} [Decidable c] (h1:¬ c->A) (h2:c->B):if (!decide c)=true then A else B:=by
 by_cases h:c
 ·rw [decide_eq_true h];exact fc (h2 h)
 ·rw [decide_eq_false h];exact oo (h1 h)
def Gr {β:Type} [Rep β] (K:LN) (H:Hp) (d:Addr) (l:List β):Prop:=∃ ys,H d=some (.lst ys)/\Nl (Rep.is K (del H d)) ys l
section
variable {β:Type} [Rep β] {K:LN} {H H':Hp} {d:Addr} {l:List β} {y:V} {b:β} {Q:VK}
def Gr.at (h:Gr K H d l):At K H (.ref d) l:=by
 obtain ⟨ys,h1,h2⟩:=h;exact ⟨d,ys,rfl,SqL.of h1,Paired.cb h2 fun _ _ q=>Rep.mono ky q⟩
def Gr.mono (s:aj H H') (h:Gr K H d l):Gr K H' d l:=by
 obtain ⟨ys,h1,h2⟩:=h;exact ⟨ys,s _ _ h1,Paired.cb h2 fun _ _ q=>Rep.mono (kN s) q⟩
def Gr.is (h:Gr K H d l):∃ ys,H d=some (.lst ys):=let ⟨ys,h1,_⟩:=h;⟨ys,h1⟩
def Gr.ty (h:Gr K H d l):tyV K "list" (.ref d) H:=by
 obtain ⟨ys,h1,_⟩:=h;exact .inl ⟨rfl,_,SqL.of h1⟩
def fR (h:Gr K H d l) (hl:l.length<=100000) (hy:At K (del H d) y b) (q:∀ H',Gr K H' d (l++[b])->(∀ a o,a≠d->H a=some o->H' a=some o)->(∀ a,a≠d->H' a=H a)->Q .non H'):qt (.ref d) [y] H Q:=by
 obtain ⟨ys,h1,h2⟩:=h;have e:=h2.length;refine ⟨d,ys,y,rfl,rfl,h1,NL (show ys.length<=100000 by lia) (by rw [MW];decide),?_⟩
 refine q _ ⟨_,ar,Paired.app (Paired.cb h2 fun _ _ z=>Rep.mono gZ z) (.cons (Rep.mono gZ hy) .nil)⟩ (fun a o ha z=>by rw [aA ha];exact z) fun a ha=>aA ha
def aj.but {H₀:Hp} (hd:H₀ d=none) (s:aj H₀ H) (k:∀ a o,a≠d->H a=some o->H' a=some o):aj H₀ H':=fun a o z=>k a o (aS z hd) (s a o z)
end
def cut {α:Type} (l:List α) (lo hi:Option Int):List α:=(l.drop (HT.sIx l.length 0 lo)).take (HT.sIx l.length l.length hi - HT.sIx l.length 0 lo)
def IF {α:Type} [Rep α] {K:LN} {H:Hp} {v:V} {Q:VK} {l:List α} {lo hi:Option Int} (h:At K H v l) (q:∀ p H',aj H H'->H p=none->At K H' (.ref p) (cut l lo hi)->Q (.ref p) H'):C6 K v lo hi H Q:=by
 obtain ⟨p,xs,rfl,hS,hP⟩:=h;refine ⟨p,xs,rfl,hS,fun d hd=>q d _ (ay hd _) hd ⟨d,_,rfl,SqL.of ar,?_⟩⟩;have e:=hP.length;unfold rm cut;rw [e];exact Paired.xt _ (Paired.xp _ (Paired.cb hP fun _ _ z=>Rep.mono (ay hd _) z))
def E1 {H:Hp} {d p:Addr} (hd:∃ ys,H d=some (.lst ys)) (hp:H p=none):p≠d:=fun e=>by
 obtain ⟨ys,hd⟩:=hd;rw [e,hd] at hp;cases hp
def J6 (K:LN):List V->Hp->VK->Prop:=fun xs H Q=>∃ p ys,xs=[.ref p]/\(SqL K H p ys\/SqT K H p ys)/\Q (.int ys.length) H
def C1 (K:LN):List V->Hp->VK->Prop:=fun xs H Q=>∃ p ys,xs=[.ref p]/\(SqL K H p ys\/SqT K H p ys)/\∀ l,H l=none->Q (.ref l) (upd H l (.lst ys))
def Ih (K:LN):List V->Hp->VK->Prop:=fun xs H Q=>∃ x n t b,xs=[x,.ty n]/\gU K H x t/\Nv K t (.type n)=some b/\Q (.bl b) H
def JF (α:Type) [Rep α] [DecidableEq α] (K:LN):R2:=fun x y H Q=>∃ as bs:List α,At K H x as/\At K H y bs/\Q (.bl (decide (as=bs))) H
def JW (α:Type) [Rep α] [DecidableEq α] (K:LN):R2:=fun x y H Q=>∃ as bs:List α,At K H x as/\At K H y bs/\Q (.bl (!decide (as=bs))) H
section
variable {K:LN} {H:Hp} {Q:VK} {v x y:V} {α:Type} [Rep α] {l:List α}
def cy (h:At K H v l) (q:Q (.int (l.length:Int)) H):J6 K [v] H Q:=by
 obtain ⟨p,xs,rfl,hS,e⟩:=h.len;exact ⟨p,xs,rfl,.inl hS,by rw [e];exact q⟩
def Fh {n:String} {t:Value} {b:Bool} (ty:gU K H x t) (e:Nv K t (.type n)=some b) (q:Q (.bl b) H):Ih K [x,.ty n] H Q:=⟨x,n,t,b,rfl,ty,e,q⟩
def K3 [DecidableEq α] {as bs:List α} (ha:At K H x as) (hb:At K H y bs) (q:Q (.bl (decide (as=bs))) H):JF α K x y H Q:=⟨as,bs,ha,hb,q⟩
def nt [DecidableEq α] {as bs:List α} (ha:At K H x as) (hb:At K H y bs) (q:Q (.bl (!decide (as=bs))) H):JW α K x y H Q:=⟨as,bs,ha,hb,q⟩
end
section
variable {X:Cx} (K:LN) (hK:X.K=K) {e l o value:Expr} {ta tv tl:TE} {f:Str} {pos pos':Pos}
include hK
def ah:IxR X (qZ K):=by subst hK;exact Jw
def ke:IxR X (GF K):=by subst hK;exact KL
def cK (he:PE X e ta) (hb:attributeBase e f X.env (eval e X.env)=eval e X.env):PE X (.Attribute e f pos) (GB K ta f):=by subst hK;exact JK he hb
def qf (ha:PE X o ta) (hv:PE X value tv) (hs:swapsWith value (some (.Attribute o f pos')) pos.line X.env=pure false):PS X (.Assign [.Attribute o f pos'] value pos) (Hi K ta tv f):=by subst hK;exact KR ha hv hs
def aY {tg:Expr} (hl:PE X l tl):PI X tg l (BO K tl):=by subst hK;exact IU hl
def rd:SlR X (C6 K):=by subst hK;exact II
def aT:cA X (.builtin "len") (J6 K):=by subst hK;exact yY
def ic:cA X (.type "list") (C1 K):=by subst hK;exact yV
def pq:cA X (.builtin "isinstance") (Ih K):=by subst hK;exact AE
def ID (α:Type) [Rep α] [DecidableEq α] [bS α] (hu:X.A.units+64<cLine) (hd:bS.depth α<=32:=by decide) :
  OpR X (compareOp .Eq) (JF α K):=by subst hK;exact KP α hu hd
def iW (α:Type) [Rep α] [DecidableEq α] [bS α] (hu:X.A.units+64<cLine) (hd:bS.depth α<=32:=by decide) :
  OpR X (compareOp .NotEq) (JW α K):=by subst hK;exact Kf α hu hd
def JL {T id:String} {name:Str} {r:V->List V->Hp->VK->Prop} {to:TE} {t:TA} {e:Expr} {es:List Expr} {apos cpos:Pos} (pa:SO T) (slot:Slot T name id) (hty:typeOf (.builtin id)=pure (.type "method_descriptor")) (hm:MtR X id r) (ho:PE X o to) (ha:PA X (e :: es) t)
  (hbase:attributeBase o name X.env (eval o X.env)=eval o X.env:=by rfl)
  (hfew:((backTo cpos (MR (e :: es) X.env)).all (fun x=>!x.1) && (backToKw cpos (keywordEach [] X.env)).all (fun x=>x.1.isSome)
   && decide ((e :: es).length+([]:List Sj).length+(if ([]:List Sj).isEmpty then 0 else 1)<30))=true:=by rfl)
  (hline:(apos.endLine == cpos.line)=true:=by rfl) (hs:MR (e :: es) X.env=(false,eval e X.env) :: MR es X.env:=by rfl) (hplain:(backTo cpos (MR es X.env)).any (·.1)=false:=by rfl) :
  PE X (.Call (.Attribute o name apos) (e :: es) [] cpos) (tBM K T r to t):=by subst hK;exact K4 pa slot hty hm ho ha hbase hfew hline hs hplain
def BI {T id:String} {name:Str} {r:V->List V->Hp->VK->Prop} {to:TE} {apos cpos:Pos} (pa:SO T) (slot:Slot T name id) (hty:typeOf (.builtin id)=pure (.type "method_descriptor")) (hm:MtR X id r) (ho:PE X o to)
  (hbase:attributeBase o name X.env (eval o X.env)=eval o X.env:=by rfl) (hline:(apos.endLine == cpos.line)=true:=by rfl):PE X (.Call (.Attribute o name apos) [] [] cpos) (Gu K T r to):=by subst hK;exact JH pa slot hty hm ho hbase hline
end
section
variable {X:Cx} {pins:List (Addr×Obj)} {σ:St} {H:Hp} {s:LU} {h':Heap} {t':Nat} {fp:List Addr} {p:Addr} {o:HO}
def Inv.vZ (I:Inv X pins σ H s) (hf:∀ b∈fp,kL X pins H b) (k:∀ b ob,b∉fp->s.heap.get? b=some ob->h'.get? b=some ob) (hp:s.heap.objs.size<=p) (new:bB X.prog X.w (upd H p o) h' p o) :
  Inv X pins σ (upd H p o) { s with heap:=h',toks:=t' }:=by
 have hn:=I.hok.fresh hp;have lt:∀ {b:Addr} {ob:Obj},s.heap.get? b=some ob->b≠p:=fun e=>Mc (Mm (L5 e) hp);have nofp:∀ b u,H b=some u->b∉fp:=fun b u e hb=>by rw [(hf b hb).1] at e;cases e
 refine I.step (g':=s.gens) (d':=s.drawn) (ch:=fp) (fun b hb=>let ⟨_,f1,_,f3,f4,f5⟩:=hf b hb;⟨f3,f1,f4,f5⟩) (fun b ob _ _ hc e _=>k b ob hc e) (fun b ob _ _ hc e _=>⟨ob.slots,k b ob hc e⟩)
  (fun b ob _ e n=>by rw [aA (lt e)];exact n) (fun b ob hc e=>⟨ob,k b ob hc e⟩) (fun b xs e=>by rw [aA (aS e hn)];exact e) (fun b ob u e=>by rw [aA (aS e hn)];exact e)
  (fun b ps e=>⟨#[],by rw [aA (aS e hn),e];simp⟩) (fun m hm=>?_) (fun b u e=>?_) I.bare
 ·obtain ⟨ob,es,ep,e,r⟩:=hm;exact ⟨ob,es,ep,k _ ob (fun hb=>(hf _ hb).2.1 rfl) e,r⟩
 ·by_cases hb:b=p
  ·subst hb;rw [ar] at e;cases e;exact new
  ·rw [aA hb] at e;refine (I.hok b u e).kQ (fun c v hc q=>k c v ?_ q) (fun c q=>by rw [aA (aS q hn)];exact q) fun c xs q=>by rw [aA (aS q hn)];exact q
   rcases hc with z|z
   ·rw [z];exact nofp b u e
   ·exact nofp c _ z
end
def Ite (K:LN) (a:Addr):It :=
 ⟨fun i H=>∃ xs x,SqL K H a xs/\xs[i]?=some x,fun i H v H'=>∃ p x,v=.ref p/\H p=none/\H'=upd H p (.tup [.int (i:Int),x])/\∀ xs,SqL K H a xs->xs[i]?=some x,fun i H=>∃ xs,SqL K H a xs/\xs.length<=i⟩
def Ed {P:Mh} {w:World} {K:LN} {es:List Expr} {kk:Nat} {tpos:Pos} (a e it:Addr) (hei:e≠it) :
  Turn P w K (.Tuple es kk tpos) (Ite K a) [e,it] e (fun i h=>(∃ old,IsEnum h e it i old)/\h.IsListIter it a i) where
 mem:=by simp
 obj:=fun i h st b hb=>by
  obtain ⟨⟨old,he⟩,o,e1,c,d⟩:=st;rcases Mp.mp hb with z|hb
  ·rw [z];exact ⟨_,he,fun v z=>by
    have z':TY _=To v:=z;cases z'⟩
  ·rw [LY.mp hb];exact ⟨o,e1,fun v z=>by rw [d] at z;cases z⟩
 keep:=fun i h h' st k=>⟨let ⟨old,he⟩:=st.1;⟨old,k e (by simp) _ he⟩,st.2.at fun o e=>k it (by simp) o e⟩
 item:=by
  intro X hP hw hK hc i pins s σ H E I hf st hg;subst hP hw hK;obtain ⟨xs,x,hq,hx⟩:=hg;obtain ⟨its,rv,p,hz⟩:=I.list hq;obtain ⟨u,hu,ru⟩:=rv.get hx;obtain ⟨⟨old,he⟩,hit⟩:=st;refine wpAny_pyNext_enum_item he hit p.isList (x:=u) (by simpa using hu) hei fun h' ho hit' hT hsz hk=>?_
  refine ⟨_,rfl,?_⟩;have I1:Inv X pins σ (upd H s.heap.objs.size (.tup [.int (i:Int),x])) { s with heap:=h',toks:=s.toks+1 } :=
   I.vZ hf (fun b ob hb q=>hk b ob (fun z=>hb (by simp [z])) (fun z=>hb (by simp [z])) q) (Ma _) ⟨by show 2<=Mx;decide,[.int i s.toks,u],.cons ⟨_,rfl⟩ (.cons ru .nil),⟨_,hT,rfl,_,rfl⟩⟩
  have fE:=hf e (by simp)
  have hlt:e<s.heap.objs.size:=L5 he;have hlt2:it<s.heap.objs.size:=by obtain ⟨_,z,_⟩:=hit;exact L5 z
  refine wpAny_letOwnedTupleGo_enum ho fun h2 he2 hs2=>?_;have nE:(upd H s.heap.objs.size (.tup [.int (i:Int),x])) e=none:=by rw [aA (Mc hlt)];exact fE.1
  refine ⟨.ref s.heap.objs.size,_,I1.turned (t':=s.toks+1) (fun b ob hb q=>(hs2.2 b hb).trans q) nE fE.2.1 fE.2.2.2.1 fE.2.2.2.2.1 fE.2.2.2.2.2,rfl,⟨_,x,rfl,I.hok.fresh (Ma _),rfl,fun ys hy=>by rw [I.jf hy hq];exact hx⟩,?_,fun b hb=>?_⟩
  ·refine ⟨⟨u,?_⟩,hit'.at fun o q=>(hs2.2 it (NI hei)).trans q⟩;have e1:((i+1:Nat):Int)=(i:Int)+1:=by lia
   rw [e1];exact he2
  ·have hb':b<s.heap.objs.size:=by
    rcases Mp.mp hb with z|hb
    ·rw [z];exact hlt
    ·rw [LY.mp hb];exact hlt2
   rw [aA (Mc hb')];exact (hf b hb).1
 done:=by
  intro X hP hw hK hc i pins s σ H E I hf st hg;subst hP hw hK;obtain ⟨xs,hq,hx⟩:=hg;obtain ⟨its,rv,p,hz⟩:=I.list hq;obtain ⟨⟨old,he⟩,hit⟩:=st;have hl:=rv.length;obtain ⟨f0,f1,f2,f3,f4,f5⟩:=hf it (by simp)
  exact wpAny_pyNext_enum_end (I.ok.hd hc) he hit p.isList (by simp;lia) fun h' eb=>⟨rfl,I.turned (t':=s.toks) (fun b o hb e=>eb b o hb e) f0 f1 f3 f4 f5⟩
 self:=fun _ _ _ _ _ st h=>by
  obtain ⟨⟨old,he⟩,_⟩:=st;exact wpAny_pyIter_enum he h
def GA (K:LN) (vs:List V) (H:Hp) (R:It->Hp->Prop):Prop:=∃ a xs,vs=[.ref a]/\SqL K H a xs/\R (Ite K a) H
def Dz (K:LN) (ta:TA):TI:=fun σ H R=>ta σ H fun vs H1=>GA K vs H1 R
def FZ {X:Cx} (K:LN) (hK:X.K=K) {tgs:List Expr} {kk:Nat} {tpos:Pos} {a:Expr} {ta:TA} {p pos:Pos} (hg:Gl X "enumerate") (hm:X.mg "enumerate" = none) (ha:PA X [a] ta) (hs:MR [a] X.env=[(false,eval a X.env)]:=by rfl) :
  PI X (.Tuple tgs kk tpos) (.Call (.Name "enumerate" p) [a] [] pos) (Dz K ta):=by
 subst hK;intro pins s σ H R I h;refine Call_ (iT I hg hm boot_enumerate (Nt (thn (ha pos pins s σ H _ I h) fun us s1 ⟨vs,H1,I1,r1,q1⟩=>?_) hs rfl));obtain ⟨l,xs,e,hS,q⟩:=q1;subst e;cases r1 with
 | cons r rr =>
  cases rr;cases (show _=Ms l from r);obtain ⟨its,rv,pl,hz⟩:=I1.list hS;refine call_enumerate_list pl.isList fun h' he hit hsz hk=>?_;refine wpAny_pyIter_enum he ?_;have I2:Inv X pins σ H1 { s1 with heap:=h' }:=I1.kept (t':=s1.toks) hk;refine ⟨s1.heap.objs.size+1,[s1.heap.objs.size+1,s1.heap.objs.size],_,_,H1,rfl,I2,Ed l _ _ (Nat.succ_ne_self _),⟨⟨.none,he⟩,hit⟩,fun b hb=>?_,q⟩;rcases Mp.mp hb with z|hb
  ·rw [z];exact I1.vb (OB _) (I1.hok.fresh (OB _))
  ·rw [LY.mp hb];exact I1.vb (Ma _) (I1.hok.fresh (Ma _))
def Bt:V->List V->Hp->VK->Prop:=fun x vs H Q=>∃ (l:Addr) (xs:List V) (k:Int) (y:V),x=.ref l/\vs=[.int k,y]/\H l=some (.lst xs)/\0<=k/\k.toNat<=xs.length/\xs.length<1000000/\Q .non (upd H l (.lst (xs.take k.toNat++y :: xs.drop k.toNat)))
def Ck (its:List Value) (u2:Value) (k:Int) (h0:0<=k) (hi:k.toNat<=its.length) :
  (fun xs:Array Value=>(xs.extract 0 (if k<0 then (k+(xs.size:Int)).toNat else min k.toNat xs.size)).push u2++xs.extract (if k<0 then (k+(xs.size:Int)).toNat else min k.toNat xs.size)) its.toArray=(its.take k.toNat++u2 :: its.drop k.toNat).toArray:=by
 have h1:¬ (k<0):=by lia
 have hm:min k.toNat its.toArray.size=k.toNat:=by rw [Mf];lia
 dsimp only;rw [if_neg h1,hm];simp;exact MT (by simp)
def vx {X:Cx}:MtM X "list.insert" Bt:=by
 intro pins s σ H x vs v us Q I rx rv h;obtain ⟨l,xs,k,y,rfl,rfl,hH,h0,hi,hl,q⟩:=h;cases rx;obtain ⟨u1,u2,rfl,r1,r2⟩:=rv.two;obtain ⟨t,rfl⟩:=(show ∃ t,u1=Ol k t from r1);obtain ⟨z,its,n,r,hl',e⟩:=I.kq hH;have hz2:its.toArray.size<=Mx:=by
  have e1:its.toArray.size=its.length:=Mf ..;lia
 have hfit:¬ (!Builtin.List.listFitsIndex k)=true:=by
  unfold Builtin.List.listFitsIndex;simp;lia
 have M3:=AutoSeq1.list_insert_list_int_val_1 l its.toArray n k t u2 hfit hz2;refine O6 F.slot_list_insert ⟨_,e,rfl⟩ F.entry_list_insert (F.args_list_insert_3 _ _ _) M3 ⟨e,?_⟩;have hv:Vals (xs.take k.toNat++y :: xs.drop k.toNat) (its.take k.toNat++u2 :: its.drop k.toNat):=(Vals.take k.toNat r).append (.cons r2 (Vals.drop k.toNat r));refine ⟨.non,_,I.uH (its':=its.take k.toNat++u2 :: its.drop k.toNat) hH e (Ck its u2 k h0 (by lia)) hv ?_,rfl,q⟩
 rw [Mq,MN,MF,QC,MW];lia
def DX:List V->Hp->VK->Prop:=fun xs H Q=>∃ j:Int,xs=[.int j]/\∀ p,H p=none->Q (.ref p) (upd H p (.rng 0 j))
def qS {X:Cx}:cA X (.type "range") DX:=by
 intro pins s σ H xs us Q I r h;obtain ⟨j,rfl,q⟩:=h;obtain ⟨u,rfl,ru⟩:=vals1 r;obtain ⟨t,rfl⟩:=(show ∃ t,u=Ol j t from ru);refine call_range_1 ?_;refine ⟨.ref s.heap.objs.size,_,I.laid (fun b u e=>LW _ e) (Ma _) ?_,rfl,q _ (I.hok.fresh (Ma _))⟩;exact ⟨_,_,_,Mo _ rfl⟩
def sJ:List V->Hp->VK->Prop:=fun xs H Q=>∃ (p:Addr) (n:Nat),xs=[.ref p]/\H p=some (.rng 0 (n:Int))/\n<=1000000/\∀ l,H l=none->Q (.ref l) (upd H l (.lst ((LX n).map fun (i:Nat)=>V.int (i:Int))))
def qU:∀ {xs:List V} {us:List Value},xs.length=us.length->(∀ (i:Nat) (x:V) (u:Value),xs[i]?=some x->us[i]?=some u->RelV x u)->Vals xs us
 | [],[],_,_=>.nil
 | [],_ :: _,h,_=>by cases h
 | _ :: _,[],h,_=>by cases h
 | x :: xs,u :: us,h,g=>.cons (g 0 x u rfl rfl) (qU (by simpa using h) fun i y v hy hv=>g (i+1) y v (by simpa using hy) (by simpa using hv))
def Ef {n:Nat} (h:n<=1000000):n<=Mx:=by rw [MW];lia
def mj {X:Cx} (hc:X.calm=true):cA X (.type "list") sJ:=by
 intro pins s σ H xs us Q I r h;obtain ⟨p,n,rfl,hp,hn,q⟩:=h;obtain ⟨u,rfl,ru⟩:=vals1 r;cases (show u=Ms p from ru);obtain ⟨t1,t2,t3,hr⟩:=(show bB X.prog X.w H s.heap p (.rng 0 (n:Int)) from I.hok p _ hp);have hs:RE 0 (n:Int) 1=n:=by rw [rangeSize_one];split <;> lia
 refine call_list_range (n:=n) (I.ok.hd hc) hr (small_one (by lia) (by lia) (by lia) (by lia)) (by exact_mod_cast hs) (by lia) fun h' tk acc c' hk hS hacc=>?_
 refine ⟨.ref s.heap.objs.size,_,I.laid hk (Ma _) ?_,rfl,q _ (I.hok.fresh (Ma _))⟩;obtain ⟨ha1,ha2⟩:=hacc;have hl:((LX n).map fun (i:Nat)=>V.int (i:Int)).length=acc.toList.length:=by simp;exact ha1.symm
 refine ⟨by simp;exact Ef hn,acc.toList,c',qU hl fun i x u hx hu=>?_,by simpa using hS⟩
 have hi:i<n:=by
  have:=(LQ.mp hx).1
  simpa using this
 obtain ⟨t,e⟩:=ha2 i u (by simpa using hu)
 have ex:x=V.int (i:Int):=by
  rw [Mn,O1 hi] at hx;exact (ME hx).symm
 rw [ex];exact ⟨t,by simpa using e⟩
section
variable {σ:St} {H:Hp} {Q:VK} {D:Ends} {K:LN} {t:TS} {ta tb:TE} {g:TG} {v w x y:V} {tA:TA} {a:Int}
def A6 {n:Int} (q:∀ p,H p=none->Q (.ref p) (upd H p (.rng 0 n))):DX [.int n] H Q:=⟨n,rfl,q⟩
def fA {l:List Nat}:Nl (Rep.is K H) (l.map fun (n:Nat)=>V.int (n:Int)) l:=by
 have q:=Paired.of_map (F:=fun (v:V) (a:Nat)=>v=.int (a:Int)) (f:=fun (n:Nat)=>V.int (n:Int)) (g:=id) (fun _=>rfl) l;rw [QK] at q;exact q
def qC {p:Addr} {n:Nat} (hp:H p=some (.rng 0 (n:Int))) (hn:n<=1000000) (q:∀ l H',H l=none->aj H H'->Gr K H' l (LX n)->Q (.ref l) H'):sJ [.ref p] H Q :=
 ⟨p,n,rfl,hp,hn,fun l hl=>q l _ hl (ay hl _) ⟨_,ar,fA⟩⟩
def sf {to ti:TE} {ts:Dt} {QS:St->Hp->Prop} (h:to σ H fun o H1=>ti σ H1 fun i H2=>ts o i v H2 fun H3=>QS σ H3):JU to ti ts v σ H QS:=h
def me {p:Addr} {xs:List V} {j:Nat} {QH:Hp->Prop} (hp:H p=some (.lst xs)) (e:a=(j:Int)) (hj:j<xs.length) (q:QH (upd H p (.lst (xs.set j v)))):HU (.ref p) (.int a) v H QH:=by
 subst e;refine ⟨p,xs,_,j,rfl,rfl,hp,?_,q⟩;unfold ixN;rw [if_pos (by lia),if_pos (by lia)]
 rfl
def isP (vs:List V) (H:Hp) (k:V->V->Hp->Prop):Prop:=∃ v w,vs=[v,w]/\k v w H
def xr {i j:Nat} (h:tA σ H fun vs H1=>isP vs H1 fun v w H1=>D.nx ((σ.set i (some v)).set j (some w)) H1):Km i j tA D σ H:=h
def sA {k:V->V->Hp->Prop} (h:k x y H):isP [x,y] H k:=⟨x,y,rfl,h⟩
def qb {R:It->Hp->Prop} (h:tA σ H fun vs H1=>GA K vs H1 R):Dz K tA σ H R:=h
def BL {α:Type} [Rep α] {l:List α} {ia ib:Nat} {H₀:Hp} (h:At K H₀ v l) (Pv:Nat->St->Hp->Prop) (h0:Pv 0 σ H) (hl:∀ i σ' H',Pv i σ' H'->aj H₀ H')
  (hs:∀ i c w σ' H' H'' p,l[i]?=some c->At K H₀ w c->Pv i σ' H'->H' p=none->H''=upd H' p (.tup [.int (i:Int),w])->aj H' H''->t { D with nx:=Pv (i+1),ct:=Pv (i+1),bk:=D.nx } ((σ'.set ia (some (.int (i:Int)))).set ib (some w)) H'')
  (hd:∀ σ' H',Pv l.length σ' H'->D.nx σ' H'):GA K [v] H (lA (B6 K 2 (mW (iF ia) (mW (iF ib) Cu))) t D σ):=by
 obtain ⟨p,xs,rfl,hS,hP⟩:=h;have hlen:=hP.length;refine ⟨p,xs,rfl,(hl 0 σ H h0).seq hS,fun i m σ' H'=>m=xs.length - i/\i<=xs.length/\Pv i σ' H',⟨xs.length,by simp,MI _,h0⟩,?_⟩
 rintro i m σ' H' ⟨rfl,hi,p0⟩;have q:=(hl i σ' H' p0).seq hS
 by_cases hlt:i<xs.length
 ·refine .inr ⟨⟨xs,xs[i],q,by simp [hlt]⟩,Pv (i+1),fun σ2 H2 p'=>⟨xs.length - (i+1),by lia,rfl,hlt,p'⟩,fun z H2 yl=>?_⟩
  obtain ⟨d,w,rfl,hd',rfl,hw⟩:=yl;have hx:=hw xs q;obtain ⟨c,hc,r⟩:=Paired.getL hP hx;refine ⟨d,[.int (i:Int),w],rfl,SqT.of ar,rfl,⟨_,_,rfl,⟨_,_,rfl,⟨rfl,?_⟩⟩⟩⟩;exact hs i c w σ' H' _ d hc r p0 hd' rfl (ay hd' _)
 ·have e:i=xs.length:=by lia
  subst e;exact .inl ⟨⟨xs,q,Ma _⟩,hd σ' H' (by rw [hlen] at p0;exact p0)⟩
end
def aO (r:List Nat):List V:=r.map fun (n:Nat)=>V.int (n:Int)
structure Tbl (H:Hp) (d:Addr) (rows:List (List Nat)) (ps:List Addr):Prop where
 top:H d=some (.lst (ps.map V.ref))
 nd:ps.Nodup
 ap:d∉ps
 len:ps.length=rows.length
 row:∀ (i:Nat) (p:Addr) (r:List Nat),ps[i]?=some p->rows[i]?=some r->H p=some (.lst (aO r))
section
variable {H H':Hp} {d:Addr} {rows:List (List Nat)} {ps:List Addr} {K:LN}
def Tbl.mono (s:aj H H') (h:Tbl H d rows ps):Tbl H' d rows ps:=⟨s _ _ h.top,h.nd,h.ap,h.len,fun i p r e1 e2=>s _ _ (h.row i p r e1 e2)⟩
def nX {α β:Type} {F:α->β->Prop}:∀ {xs:List α} {ys:List β},xs.length=ys.length->(∀ (i:Nat) (x:α) (y:β),xs[i]?=some x->ys[i]?=some y->F x y)->Nl F xs ys
 | [],[],_,_=>.nil
 | [],_ :: _,h,_=>by cases h
 | _ :: _,[],h,_=>by cases h
 | x :: xs,y :: ys,h,g=>.cons (g 0 x y rfl rfl) (nX (by simpa using h) fun i u v hu hv=>g (i+1) u v (by simpa using hu) (by simpa using hv))
def Tbl.at (h:Tbl H d rows ps):At K H (.ref d) rows:=by
 refine ⟨d,_,rfl,SqL.of h.top,nX (by rw [LV,h.len]) fun i x r hx hr=>?_⟩
 rw [Mn] at hx;cases e:ps[i]? with
 | none=>rw [e] at hx;cases hx
 | some p =>
  rw [e] at hx;have hx':x=V.ref p:=(ME hx).symm;rw [hx'];exact ⟨p,_,rfl,SqL.of (h.row i p r e hr),fA⟩
def Tbl.get (h:Tbl H d rows ps) {i:Nat} {r:List Nat} (e:rows[i]?=some r):∃ p,ps[i]?=some p/\H p=some (.lst (aO r)):=by
 have hi:i<ps.length:=by rw [h.len];exact (LQ.mp e).1
 exact ⟨ps[i],by simp [hi],h.row i _ r (by simp [hi]) e⟩
def Tbl.set (h:Tbl H d rows ps) {i j n:Nat} {p:Addr} {r:List Nat} (e:rows[i]?=some r) (hp:ps[i]?=some p):Tbl (upd H p (.lst ((aO r).set j (.int (n:Int))))) d (rows.set i (r.set j n)) ps:=by
 have hi:i<ps.length:=(LQ.mp hp).1;have mem:p∈ps:=LR hp;refine ⟨by rw [aA (fun z=>h.ap (by rw [z];exact mem))];exact h.top,h.nd,h.ap,by rw [NY];exact h.len,fun k q r' hq hr=>?_⟩
 by_cases hk:k=i
 ·subst hk;rw [hp] at hq;cases hq;rw [NM (by rw [<- h.len];exact hi)] at hr
  cases hr;rw [ar];unfold aO;rw [List.map_set]
 ·rw [N2 (NI hk)] at hr;have hne:q≠p:=fun z=>hk (by
   subst z;have h1:=(LQ.mp hq);have h2:=(LQ.mp hp);exact (RS h.nd).mp (h1.2.trans h2.2.symm))
  rw [aA hne];exact h.row k q r' hq hr
end
def mV {K:LN} {H:Hp} {v:V} {Q:VK} {σ:St} {rows:List (List Nat)} {x:Str} (h:At K H v rows) (hz:rows.length<=100000) (fin:∀ d H' ps,aj H H'->H d=none->(∀ p∈ps,H p=none)->Tbl H' d rows ps->Q (.ref d) H') :
  pP K v H (ji [x] [] (iF 0) Hv (tCB (C1 K) (m7 (Cw 0) ui)) σ Q):=by
 obtain ⟨p,xs,rfl,hS,hP⟩:=h;have hl:=hP.length;refine ⟨p,rfl,⟨xs,hS⟩,fun d hd=>?_⟩;refine ⟨fun i m σ' H'=>m=xs.length - i/\i<=xs.length/\(∃ y,σ'=[y])/\aj H H'/\∃ ps,(∀ p∈ps,H p=none)/\Tbl H' d (rows.take i) ps,⟨xs.length,rfl,MI _,⟨_,rfl⟩,ay hd _,[],by simp,⟨ar,Qt,by simp,by simp,fun i p r e _=>by simp at e⟩⟩,?_⟩
 rintro i m σ' H' ⟨rfl,hi,⟨y,rfl⟩,hs,ps,hps,T⟩
 by_cases hlt:i<xs.length
 ·refine .inr ⟨⟨xs,xs[i],hs.seq hS,by simp [hlt]⟩,fun z H2 yl=>?_⟩
  obtain ⟨rfl,hz'⟩:=yl;have hx:=hz' xs (hs.seq hS);obtain ⟨c,hc,r⟩:=Paired.getL hP hx;obtain ⟨q,e,hq⟩:=iZ (Rep.mono hs r);subst e;have tl:=T.len;have hci:i<rows.length:=(LQ.mp hc).1;rw [MF,Nat.min_eq_left (by lia)] at tl
  refine oA ?_;refine sP ?_;refine oo ?_;refine ⟨_,rfl,q,_,rfl,.inl hq,fun l hl'=>?_⟩;have nld:l≠d:=fun e=>by rw [e,T.top] at hl';cases hl'
  have hHl:H l=none:=hs.free hl';refine ⟨_,(by rw [aA nld.symm];exact T.top),?_,xs.length - (i+1),by lia,rfl,hlt,⟨_,rfl⟩,fun b o eb=>?_,ps++[l],fun p' hp'=>?_,?_⟩
  ·rw [LV,tl,MW];lia
  ·rw [aA (aS eb hd),aA (aS eb hHl)];exact hs b o eb
  ·rcases Mb.mp hp' with z|z
   ·exact hps p' z
   ·rw [LY.mp z];exact hHl
  ·have nlp:l∉ps:=fun z=>by
    obtain ⟨k,hk⟩:=Mr z;have hk':k<i:=by have:=(LQ.mp hk).1;lia
    have hr:(rows.take i)[k]?=some (rows[k]'(by lia)):=by rw [Nz hk'];simp
    have z1:=T.row k l _ hk hr;rw [z1] at hl';cases hl'
   refine ⟨by rw [ar,M8];rfl,?_,?_,?_,fun k p' r' hk hr=>?_⟩
   ·rw [Ro];exact ⟨T.nd,by simp,fun a ha b hb=>by rw [LY.mp hb];exact fun z=>nlp (z ▸ ha)⟩
   ·intro z;rcases Mb.mp z with z|z
    ·exact T.ap z
    ·exact nld (LY.mp z).symm
   ·rw [Mq,MF,Nat.min_eq_left (by lia)];simp;lia
   ·have nd':p'≠d:=fun z=>by
     rw [z] at hk;rcases Mb.mp (LR hk) with z' | z'
     ·exact T.ap z'
     ·exact nld (LY.mp z').symm
    rw [aA nd']
    by_cases hki:k<i
    ·rw [MG (by lia)] at hk
     have hr2:(rows.take i)[k]?=some r':=by
      rw [Nz (by lia)] at hr ⊢;exact hr
     have np:p'≠l:=fun z=>nlp (by rw [<- z];exact LR hk)
     rw [aA np];exact T.row k p' r' hk hr2
    ·have hk2:k<i+1:=by
      have:=(LQ.mp hr).1;rw [MF] at this;lia
     have ek:k=i:=by lia
     subst ek;rw [MS (by lia),tl,Nat.sub_self] at hk
     have e1:l=p':=by simpa using hk
     subst e1;rw [Nz (by lia),hc] at hr
     cases hr;rw [ar];unfold aO;rfl
 ·have e:i=xs.length:=by lia
  subst e;refine .inl ⟨⟨xs,hs.seq hS,Ma _⟩,?_⟩;rw [hl,MJ] at T;exact fin d H' ps hs hd hps T
def Wr (K:LN) {α:Type} [Rep α] (t:TE) (a:α):Prop:=∀ σ H Q,(∀ v H',aj H H'->At K H' v a->Q v H')->t σ H Q
def WrA (K:LN) {α:Type} [Rep α] (t:TA) (l:List α):Prop:=∀ σ H Q,(∀ vs H',aj H H'->Nl (Rep.is K H') vs l->Q vs H')->t σ H Q
section
variable {K:LN} {α:Type} [Rep α] {t:TE} {tA:TA} {a:α} {l:List α}
def DL {n:Nat} {i:Int} (e:i=(n:Int)):Wr K (tC (.int i)) n:=fun _ H _ q=>q _ H (aj.refl _) (by rw [e];rfl)
def iq:WrA K ui ([]:List α):=fun _ H _ q=>q [] H (aj.refl _) .nil
def uk (h:Wr K t a) (hr:WrA K tA l):WrA K (m7 t tA) (a :: l):=fun σ H Q q=>h σ H _ fun v H1 s1 a1=>hr σ H1 _ fun vs H2 s2 a2=>q _ H2 (s1.trans s2) (.cons (Rep.mono s2 a1) a2)
def El (h:WrA K tA l) (hz:l.length<=1000):Wr K (zC tA) l:=fun σ H Q q=>h σ H _ fun vs H1 s1 a1=>⟨by have:=a1.length;exact small (by lia),fun p hp=>q _ _ (s1.trans (ay hp _)) ⟨p,vs,rfl,SqL.of ar,Paired.cb a1 fun _ _ z=>Rep.mono (ay hp _) z⟩⟩
end
def Lb {K:LN} {α:Type} [Rep α] {H:Hp} {x y:V} {l r:List α} {Q:VK} (hx:∃ p xs,x=.ref p/\H p=some (.lst xs)/\Nl (Rep.is K H) xs l) (hy:∃ p xs,y=.ref p/\H p=some (.lst xs)/\Nl (Rep.is K H) xs r) (hz:l.length+r.length<=100000)
  (q:∀ d H',H d=none->aj H H'->At K H' (.ref d) (l++r)->Q (.ref d) H'):F6 x y H Q:=by
 obtain ⟨p,xs,rfl,h1,r1⟩:=hx;obtain ⟨p',ys,rfl,h2,r2⟩:=hy;have e1:=r1.length;have e2:=r2.length;refine ⟨p,p',xs,ys,rfl,rfl,h1,h2,by rw [MW];lia,fun d hd=>q d _ hd (ay hd _) ⟨d,_,rfl,SqL.of ar,Paired.app (Paired.cb r1 fun _ _ z=>Rep.mono (ay hd _) z) (Paired.cb r2 fun _ _ z=>Rep.mono (ay hd _) z)⟩⟩
def isStar:Expr->Bool
 | .Starred ..=>true
 | _=>false
def bz {e:Expr} {es:List Expr} {env:Env} (h:isStar e=false):MR (e :: es) env=(false,eval e env) :: MR es env:=by
 cases e <;> first|rfl|cases h
def cp {env:Env} {pos:Pos}:∀ {es:List Expr},es.all (fun e=>!isStar e)=true->(backTo pos (MR es env)).any (·.1)=false
 | [],_=>rfl
 | e :: es,h=>by
  rw [RG,NT] at h;rw [bz (by simpa using h.1)]
  have ih:=cp (env:=env) (pos:=pos) h.2;show (backTo pos ((false,eval e env) :: MR es env)).any (·.1)=false;unfold backTo at ih ⊢
  simpa using ih
def F7 {env:Env} {pos:Pos} {es:List Expr} (h:es.all (fun e=>!isStar e)=true) (hl:es.length<30):((backTo pos (MR es env)).all (fun x=>!x.1) && (backToKw pos (keywordEach [] env)).all (fun x=>x.1.isSome)
   && decide (es.length+([]:List Sj).length+(if ([]:List Sj).isEmpty then 0 else 1)<30))=true:=by
 have h1:=cp (env:=env) (pos:=pos) h;have h2:(backTo pos (MR es env)).all (fun x=>!x.1)=true:=by
  rw [Qh] at h1;rw [Mz];intro x hx;have:=h1 x hx
  simpa using this
 rw [h2];show (true && true && decide (es.length+0+0<30))=true
 simpa using hl
section
variable {X:Cx} {e o:Expr} {es:List Expr} {te:TE} {t:TA} {x:Str} {st:Stmt} {ps:List Str} {k:Nat} {sp:Sp} {p pos:Pos}
def paF (ha:PE X e te) (hr:PA X es t) (hn:isStar e=false:=by rfl):PA X (e :: es) (m7 te t):=uw ha hr (bz hn)
def aG (d:Df X.K X.mg x st ps) (G:aH X.prog X.w X.K X.mg X.base CX0 k d.f d.fd ps sp) (hr:bY k X.A) (hg:Gl X x) (ha:PA X (e :: es) t) (hn:isStar e=false:=by rfl) (hall:es.all (fun e=>!isStar e)=true:=by rfl) (hdb:(x == ("__debug__" : Str))=false:=by decide) :
  PE X (.Call (.Name x p) (e :: es) [] pos) (mJ sp [] E0 t):=K6 d G hr hg ha hdb (bz hn) (cp hall)
def az {id:String} {r:List V->Hp->VK->Prop} (hc:cA X (.builtin id) r) (hg:Gl X x) (hm:X.mg x=none) (hv:bootBuiltins x=some (.builtin id)) (ha:PA X (e :: es) t) (hn':isStar e=false:=by rfl) (hall:es.all (fun e=>!isStar e)=true:=by rfl) (hn:x ≠ "__name__":=by decide) (hdb:(x == ("__debug__" : Str))=false:=by decide) :
  PE X (.Call (.Name x p) (e :: es) [] pos) (tCB r t):=Gx hc hg hm hv ha hn hdb (bz hn') (cp hall)
def dk {T:String} {r:List V->Hp->VK->Prop} (hc:cA X (.type T) r) (hg:Gl X x) (hm:X.mg x=none) (hv:bootBuiltins x=some (.type T)) (ha:PA X (e :: es) t) (hn':isStar e=false:=by rfl) (hall:es.all (fun e=>!isStar e)=true:=by rfl) (hn:x ≠ "__name__":=by decide) (hdb:(x == ("__debug__" : Str))=false:=by decide) :
  PE X (.Call (.Name x p) (e :: es) [] pos) (tCB r t):=EV hc hg hm hv ha hn hdb (bz hn') (cp hall)
def cJ (K:LN) (hK:X.K=K) {T id:String} {name:Str} {r:V->List V->Hp->VK->Prop} {to:TE} {apos cpos:Pos} (pa:SO T) (slot:Slot T name id) (hty:typeOf (.builtin id)=pure (.type "method_descriptor")) (hm:MtR X id r) (ho:PE X o to) (ha:PA X (e :: es) t)
  (hbase:attributeBase o name X.env (eval o X.env)=eval o X.env:=by rfl) (hn:isStar e=false:=by rfl) (hall:es.all (fun e=>!isStar e)=true:=by rfl) (hl:(e :: es).length<30:=by decide) (hline:(apos.endLine == cpos.line)=true:=by rfl) :
  PE X (.Call (.Attribute o name apos) (e :: es) [] cpos) (tBM K T r to t) :=
 JL K hK pa slot hty hm ho ha hbase (F7 (by rw [RG,hn,hall];rfl) hl) hline (bz hn) (cp hall)
def a9 {tg a:Expr} {ta:TA} (hg:Gl X "range") (hm:X.mg "range" = none) (ha:PA X [a] ta) (hn:isStar a=false:=by rfl):PI X tg (.Call (.Name "range" p) [a] [] pos) (Cp ta):=EB hg hm ha (bz hn)
def yA (K:LN) (hK:X.K=K) {tgs:List Expr} {kk:Nat} {tpos:Pos} {a:Expr} {ta:TA} (hg:Gl X "enumerate") (hm:X.mg "enumerate" = none) (ha:PA X [a] ta) (hn:isStar a=false:=by rfl) :
  PI X (.Tuple tgs kk tpos) (.Call (.Name "enumerate" p) [a] [] pos) (Dz K ta):=FZ K hK hg hm ha (bz hn)
end
section
variable {X:Cx} {CX:CXT} {k:Nat} {f C:Addr} {fd:Na} {ps:List Str} {sp:Sp} {dvs:List V} {ds:List Value} {E:XK} {x:Str} {p pos:Pos} {e:Expr} {es:List Expr} {t:TA}
def FR (M:Mk X.K C f) (F:aH X.prog X.w X.K X.mg X.base CX k f fd ps sp) (hr:bY (k+1) X.A) (hg:Gl X x) (hm:X.mg x=some (.ref C)) (hb:Binds X.K fd ps ds) (hd:Vals dvs ds) (hx:Passes CX X E)
  (ha:PA X (e :: es) t) (hn:isStar e=false:=by rfl) (hall:es.all (fun e=>!isStar e)=true:=by rfl) (hdb:(x == ("__debug__" : Str))=false:=by decide):PE X (.Call (.Name x p) (e :: es) [] pos) (DC C sp dvs E t) :=
 JA M F hr hg hm hb hd hx ha hdb (bz hn) (cp hall)
end
section
variable {σ:St} {H H':Hp} {Q:VK} {K:LN} {a b:Nat}
def LM {n:Nat} (h:Q (.int ((@OfNat.ofNat Nat n (instOfNatNat n):Nat):Int)) H):tC (.int (@OfNat.ofNat Int n instOfNat)) σ H Q:=h
def KA (q:Q (.int ((a+b:Nat):Int)) H):rI0 (fun i j=>.int (i+j)) (.int (a:Int)) (.int (b:Int)) H Q:=⟨a,b,rfl,rfl,by
 have e:(a:Int)+(b:Int)=((a+b:Nat):Int):=by lia
 dsimp only;rw [e];exact q⟩
def J8 (h:a<18446744073709551616\/b<18446744073709551616) (q:Q (.int ((a * b:Nat):Int)) H):rI CC (fun i j=>.int (i * j)) (.int (a:Int)) (.int (b:Int)) H Q:=⟨a,b,rfl,rfl,by
 rcases h with h|h
 ·exact .inl ⟨by lia,by lia⟩
 ·exact .inr ⟨by lia,by lia⟩,by
 have e:(a:Int) * (b:Int)=((a * b:Nat):Int):=by push_cast;rfl
 dsimp only;rw [e];exact q⟩
def tR (h:0<b) (q:Q (.int ((a % b:Nat):Int)) H):rI (fun _ j=>0<j) (fun i j=>.int (i % j)) (.int (a:Int)) (.int (b:Int)) H Q:=⟨a,b,rfl,rfl,by lia,by
 have e:(a:Int) % (b:Int)=((a % b:Nat):Int):=by push_cast;rfl
 dsimp only;rw [e];exact q⟩
def Eb (h:0<b) (h2:b<1073741824) (q:Q (.int ((a / b:Nat):Int)) H):rI GC (fun i j=>.int (i / j)) (.int (a:Int)) (.int (b:Int)) H Q:=⟨a,b,rfl,rfl,⟨by lia,by lia⟩,by
 have e:(a:Int) / (b:Int)=((a / b:Nat):Int):=by push_cast;rfl
 dsimp only;rw [e];exact q⟩
def km {p q:Prop} [Decidable p] [Decidable q] (h:p↔q) {R:Bool->Prop} (z:R (decide q)):R (decide p):=by
 rw [decide_eq_decide.mpr h];exact z
def K0 (q:Q (.bl (decide (a=b))) H):rEq (.int (a:Int)) (.int (b:Int)) H Q:=sX (km (R:=fun k=>Q (.bl k) H) (by lia) q)
def Li (q:Q (.bl (!decide (a=b))) H):rNe (.int (a:Int)) (.int (b:Int)) H Q:=si (km (R:=fun k=>Q (.bl (!k)) H) (by lia) q)
def K7 (q:Q (.bl (decide (a<b))) H):rI0 (fun i j=>.bl (decide (i<j))) (.int (a:Int)) (.int (b:Int)) H Q:=⟨a,b,rfl,rfl,km (R:=fun k=>Q (.bl k) H) (by lia) q⟩
def Lg (q:Q (.bl (decide (b<a))) H):rI0 (fun i j=>.bl (decide (j<i))) (.int (a:Int)) (.int (b:Int)) H Q:=⟨a,b,rfl,rfl,km (R:=fun k=>Q (.bl k) H) (by lia) q⟩
def Lc (q:Q (.bl (decide (b<=a))) H):rI0 (fun i j=>.bl (decide (j<=i))) (.int (a:Int)) (.int (b:Int)) H Q:=⟨a,b,rfl,rfl,km (R:=fun k=>Q (.bl k) H) (by lia) q⟩
def bN {v:V} {l:List Nat} {n c:Nat} (h:At K H v l) (hn:l[n]?=some c) (q:Q (.int (c:Int)) H):qZ K v (.int (n:Int)) H Q:=gH h rfl hn q
end
section
variable {β:Type} [Rep β] {K:LN} {H H':Hp} {d:Addr} {l:List β} {y:V} {b:β} {Q:VK}
def Hj {k:Nat} (h:Gr K H d l) (hk:k<=l.length) (hl:l.length<=100000) (hy:At K (del H d) y b) (q:∀ H',Gr K H' d (l.take k++b :: l.drop k)->(∀ a o,a≠d->H a=some o->H' a=some o)->Q .non H'):Bt (.ref d) [.int (k:Int),y] H Q:=by
 obtain ⟨ys,h1,h2⟩:=h;have e:=h2.length;refine ⟨d,ys,k,y,rfl,rfl,h1,by lia,by lia,by lia,?_⟩
 refine q _ ⟨_,ar,?_⟩ (fun a o ha z=>by rw [aA ha];exact z)
 rw [Nx];exact Paired.app (Paired.xt k (Paired.cb h2 fun _ _ z=>Rep.mono gZ z)) (.cons (Rep.mono gZ hy) (Paired.xp k (Paired.cb h2 fun _ _ z=>Rep.mono gZ z)))
end
def Lr {H H':Hp} {d:Addr} (k:∀ a o,a≠d->H a=some o->H' a=some o):aj (del H d) (del H' d):=fun b o h=>by
 by_cases hb:b=d
 ·rw [hb] at h;have z:del H d d=none:=if_pos rfl;rw [z] at h;cases h
 ·rw [eB hb] at h ⊢;exact k b o hb h
def m5 {K:LN} {H:Hp} {p d:Addr} {l:List Nat} (h:Gr K H p l) (hne:p≠d):At K (del H d) (.ref p) l:=by
 obtain ⟨ys,hy,hP⟩:=h;refine ⟨p,ys,rfl,SqL.of (by rw [eB hne];exact hy),?_⟩
 exact Paired.cb hP fun _ _ z=>z
def K9 {K:LN} {H:Hp} {d:Addr} {rows:List (List Nat)} {ps:List Addr} {i:Nat} {p:Addr} {Q:VK} (h:Tbl H d rows ps) (hp:ps[i]?=some p) (q:Q (.ref p) H):qZ K (.ref d) (.int (i:Int)) H Q :=
 ⟨d,_,_,_,rfl,rfl,SqL.of h.top,f9 (by rw [Mn,hp];rfl),q⟩
def Hm {α:Type} (l:List α):cut l (some 1) none=l.drop 1:=by
 unfold cut;have e:HT.sIx l.length 0 (some 1)=min 1 l.length:=HT.IQ l.length 0 1;rw [e,HT.FT];cases l with
 | nil=>rfl
 | cons x r =>
  have:min 1 (x :: r).length=1:=by simp
  rw [this];exact MT (by simp)
def Gr.copy {α:Type} [Rep α] {K:LN} {H:Hp} {d:Addr} {l:List α} (h:Gr K H d l):∃ p xs,V.ref d=.ref p/\H p=some (.lst xs)/\Nl (Rep.is K H) xs l:=by
 obtain ⟨ys,h1,h2⟩:=h;exact ⟨d,ys,rfl,h1,Paired.cb h2 fun _ _ z=>Rep.mono ky z⟩
def dS {K:LN} {α:Type} [Rep α] {tA:TA} {l:List α} (h:WrA K tA l) (hz:l.length<=1000) {σ:St} {H:Hp} {Q:VK} (q:∀ d H',H d=none->aj H H'->Gr K H' d l->Q (.ref d) H'):zC tA σ H Q :=
 h σ H _ fun vs H1 s1 a1=>⟨by have:=a1.length;exact small (by lia),fun p hp=>q p _ (s1.free hp) (s1.trans (ay hp _)) ⟨vs,ar,Paired.cb a1 fun _ _ z=>Rep.mono (fun b o e=>by
  have hb:b≠p:=aS e hp;rw [eB hb,aA hb];exact e) z⟩⟩
def since (H H':Hp):Hp:=fun a=>match H a with
 | none=>H' a
 | some _=>none
section
variable {H H' H'':Hp} {a d:Addr} {rows:List (List Nat)} {ps:List Addr} {K:LN}
def nD (h:H a=none):since H H' a=H' a:=by unfold since;rw [h]
def Hd:aj (since H H') H':=fun b o h=>by
 unfold since at h
 split at h
 ·exact h
 ·cases h
def Tbl.since (h:Tbl H' d rows ps) (fd:H d=none) (fps:∀ p∈ps,H p=none):Tbl (since H H') d rows ps :=
 ⟨by rw [nD fd];exact h.top,h.nd,h.ap,h.len,fun i p r e1 e2=>by rw [nD (fps p (LR e1))];exact h.row i p r e1 e2⟩
end
def eZ {K:LN} {H H₀:Hp} {σ:St} {g:TG} {t:TS} {D:Ends} {v:V} {α:Type} [Rep α] {l:List α} (h:At K H₀ v l) (Pv:Nat->St->Hp->Prop) (h0:Pv 0 σ H) (hl:∀ i σ' H',Pv i σ' H'->aj H₀ H')
  (hs:∀ i c w σ' H',l[i]?=some c->At K H₀ w c->Pv i σ' H'->g w σ' H' fun σ2 H2=>t { D with nx:=Pv (i+1),ct:=Pv (i+1),bk:=D.nx } σ2 H2) (hd:∀ σ' H',Pv l.length σ' H'->D.nx σ' H') :
  pP K v H (lA g t D σ):=by
 obtain ⟨p,xs,rfl,hS,hP⟩:=h;refine ⟨p,rfl,⟨xs,(hl 0 σ H h0).seq hS⟩,rP (K:=K) (a:=p) (xs:=xs) Pv h0 (fun i σ' H' _ q=>(hl i σ' H' q).seq hS) (fun i x σ' H' hx q=>?_) (fun σ' H' q=>?_)⟩
 ·obtain ⟨c,hc,r⟩:=Paired.getL hP hx;exact hs i c x σ' H' hc r q
 ·rw [hP.length] at q;exact hd σ' H' q
def jc {c:TT} {t:TS} {D:Ends} {σ:St} {H:Hp} (W:Nat->St->Hp->Prop) (m:Nat) (h0:W m σ H)
  (hs:∀ m σ' H',W m σ' H'->c σ' H' fun b H1=>if b=true then ∃ N:St->Hp->Prop,(∀ σ2 H2,N σ2 H2->∃ m',m' < m/\W m' σ2 H2)/\t { D with nx:=N,ct:=N,bk:=D.nx } σ' H1 else D.nx σ' H1):EI c t D σ H:=⟨W,⟨m,h0⟩,hs⟩
def GV (K:LN):List V->Hp->VK->Prop:=fun xs H Q=>∃ (p:Addr) (bs:List Bool),xs=[.ref p]/\SqL K H p (bs.map V.bl)/\Q (.bl (bs.any id)) H
def GJ (K:LN):List V->Hp->VK->Prop:=fun xs H Q=>∃ (p:Addr) (bs:List Bool),xs=[.ref p]/\SqL K H p (bs.map V.bl)/\Q (.bl (bs.all id)) H
def o7:∀ {bs:List Bool} {its:List Value},Vals (bs.map V.bl) its->∀ (i:Nat) (v:Value),its[i]?=some v->∃ b,bs[i]?=some b/\v=.bool b
 | [],_,.nil,i,v,e=>by simp at e
 | b :: bs,_,.cons r t,0,v,e=>by
  simp at e;subst e;exact ⟨b,rfl,r⟩
 | b :: bs,_,.cons r t,i+1,v,e=>by
  obtain ⟨c,h1,h2⟩:=o7 (bs:=bs) t i v (by simpa using e)
  exact ⟨c,by simpa using h1,h2⟩
def De (bs:List Bool):((LX bs.length).any fun i=>(bs[i]?).getD false)=bs.any id:=by
 rw [NQ,PQ,PQ];constructor
 ·rintro ⟨i,hi,e⟩;have hi':=L9.mp hi;simp only [LO hi',OF] at e;exact ⟨_,Nr hi',e⟩
 ·rintro ⟨b,hb,e⟩;obtain ⟨i,hi,rfl⟩:=QL hb;exact ⟨i,L9.mpr hi,by simp only [LO hi,OF];exact e⟩
def BX (bs:List Bool):((LX bs.length).all fun i=>(bs[i]?).getD true)=bs.all id:=by
 rw [NQ,Mz,Mz];constructor
 ·intro h b hb;obtain ⟨i,hi,rfl⟩:=QL hb;have:=h i (L9.mpr hi);simp only [LO hi,OF] at this;exact this
 ·intro h i hi;have hi':=L9.mp hi;simp only [LO hi',OF];exact h _ (Nr hi')
def EY {X:Cx} (hc:X.calm=true):cA X (.builtin "any") (GV X.K):=by
 intro pins s σ H xs us Q I r h;obtain ⟨p,bs,rfl,hS,q⟩:=h;obtain ⟨u,rfl,ru⟩:=vals1 r;cases (show u=Ms p from ru);obtain ⟨its,rv,pl,hz⟩:=I.list hS;have hl:=pl.isList;have hlen:its.length=bs.length:=by have:=rv.length;simp at this;lia
 have hlt:p<s.heap.objs.size:=by obtain ⟨_,e,_⟩:=hl;exact L5 e
 refine call_any_walk (Qg hl ?_);refine ⟨s.heap.objs.size,[s.heap.objs.size,p],[s.heap.objs.size],its.toArray.size,_,_,fun i=>(bs[i]?).getD false,rfl,Walks.list (A:=X.A.in1) (I.ok.hd hc) _ p (Mc hlt) its.toArray,
  ⟨⟨_,Mo _ rfl,rfl,rfl⟩,hl.push _⟩,fun i v s' Q' E' hP hQ=>?_,fun h' tk hk=>?_⟩
 ·obtain ⟨b,e,rfl⟩:=o7 rv i v (by simpa using hP)
  simp only [e,OF] at hQ;exact N7 hQ
 ·have e:((LX its.toArray.size).any fun i=>(bs[i]?).getD false)=bs.any id:=by
   rw [Mf,hlen];exact De bs
  rw [e];exact ⟨.bl _,H,I.kept (t':=tk) (fun b x e=>hk b x (fun hm=>by rw [LY.mp hm] at e;exact Oo _ (L5 e)) (LW _ e)),rfl,q⟩
def DP {X:Cx} (hc:X.calm=true):cA X (.builtin "all") (GJ X.K):=by
 intro pins s σ H xs us Q I r h;obtain ⟨p,bs,rfl,hS,q⟩:=h;obtain ⟨u,rfl,ru⟩:=vals1 r;cases (show u=Ms p from ru);obtain ⟨its,rv,pl,hz⟩:=I.list hS;have hl:=pl.isList;have hlen:its.length=bs.length:=by have:=rv.length;simp at this;lia
 have hlt:p<s.heap.objs.size:=by obtain ⟨_,e,_⟩:=hl;exact L5 e
 refine call_all_walk (Qg hl ?_);refine ⟨s.heap.objs.size,[s.heap.objs.size,p],[s.heap.objs.size],its.toArray.size,_,_,fun i=>(bs[i]?).getD true,rfl,Walks.list (A:=X.A.in1) (I.ok.hd hc) _ p (Mc hlt) its.toArray,
  ⟨⟨_,Mo _ rfl,rfl,rfl⟩,hl.push _⟩,fun i v s' Q' E' hP hQ=>?_,fun h' tk hk=>?_⟩
 ·obtain ⟨b,e,rfl⟩:=o7 rv i v (by simpa using hP)
  simp only [e,OF] at hQ;exact N7 hQ
 ·have e:((LX its.toArray.size).all fun i=>(bs[i]?).getD true)=bs.all id:=by
   rw [Mf,hlen];exact BX bs
  rw [e];exact ⟨.bl _,H,I.kept (t':=tk) (fun b x e=>hk b x (fun hm=>by rw [LY.mp hm] at e;exact Oo _ (L5 e)) (LW _ e)),rfl,q⟩
def oE {X:Cx} (K:LN) (hK:X.K=K) (hc:X.calm=true):cA X (.builtin "any") (GV K):=by subst hK;exact EY hc
def lj {X:Cx} (K:LN) (hK:X.K=K) (hc:X.calm=true):cA X (.builtin "all") (GJ K):=by subst hK;exact DP hc
section
variable {σ:St} {H H':Hp} {Q:VK} {K:LN} {v:V}
def yZ {bs:List Bool} (h:At K H v bs):∃ p,v=.ref p/\SqL K H p (bs.map V.bl):=by
 obtain ⟨p,xs,rfl,hS,hP⟩:=h;refine ⟨p,rfl,?_⟩;have e:xs=bs.map V.bl:=by
  clear hS
  induction hP with
  | nil=>rfl
  | cons r _ ih=>rw [My,<- ih];exact congrArg (· :: _) r
 rw [<- e];exact hS
def C3 {bs:List Bool} (h:At K H v bs) (q:Q (.bl (bs.any id)) H):GV K [v] H Q:=by
 obtain ⟨p,rfl,hS⟩:=yZ h;exact ⟨p,bs,rfl,hS,q⟩
def uf {bs:List Bool} (h:At K H v bs) (q:Q (.bl (bs.all id)) H):GJ K [v] H Q:=by
 obtain ⟨p,rfl,hS⟩:=yZ h;exact ⟨p,bs,rfl,hS,q⟩
end
def kP:∀ {ns:List Int} {its:List Value},Vals (ns.map V.int) its->OC its ns
 | [],_,.nil=>.nil
 | n :: ns,_,.cons r t=>by
  obtain ⟨tk,e⟩:=(show ∃ tk,_=Ol n tk from r);subst e;exact .cons n tk (kP t)
def Fs:V->List V->Hp->VK->Prop:=fun x vs H Q=>∃ (l:Addr) (ns:List Int) (k:Int),x=.ref l/\vs=[.int k]/\H l=some (.lst (ns.map V.int))/\k∈ns/\Q (.int (ns.idxOf k:Nat)) H
def rf {X:Cx}:MtM X "list.index" Fs:=by
 intro pins s σ H x vs v us Q I rx rv h;obtain ⟨l,ns,k,rfl,rfl,hH,hk,q⟩:=h;cases rx;obtain ⟨u,rfl,ru⟩:=rv.one;obtain ⟨t,rfl⟩:=(show ∃ t,u=Ol k t from ru);obtain ⟨z,its,n,r,hl',e⟩:=I.kq hH;have hi:=kP r;have hlen:=hi.length;have hj:ns.idxOf k<ns.length:=Rp.mpr hk;have hz:ns.length<=Mx:=by simpa using z
 rw [MW] at hz;refine O6 O2 ⟨_,e,rfl⟩ PySem.F.entry_list_index (PySem.F.args_list_index_2 _ _)
  (SeqAt.list_indexAt l its.toArray n none #[] (.int k t) (isInt k) (ns.idxOf k) (by simpa [hlen] using hj) (by lia) ?_ ?_) ⟨e,fun y hy=>(eq_isInt k t hi y (by simpa using hy)).at _ _,⟨.int _,H,I.tok _,⟨_,rfl⟩,q⟩⟩
 ·show isInt k its[ns.idxOf k]=true;rw [isInt_at k hi _ (by lia) hj]
  simpa using Q0 hj
 ·intro j hjs hlt;show isInt k its[j]=false;rw [isInt_at k hi j (by simpa using hjs) (by lia)]
  exact ne_of_lt_idxOf hlt _
def vj {H:Hp} {Q:VK} {p:Addr} {r:List Nat} {k j:Nat} (h:H p=some (.lst (aO r))) (hk:r[j]?=some k) (hf:∀ i,i<j->r[i]?≠some k) (q:Q (.int (j:Int)) H):Fs (.ref p) [.int (k:Int)] H Q:=by
 have hj:j<r.length:=(LQ.mp hk).1;have e1:aO r=(r.map fun (n:Nat)=>(n:Int)).map V.int:=by
  unfold aO;rw [Ox];rfl
 have e2:(r.map fun (n:Nat)=>(n:Int)).idxOf (k:Int)=j:=by
  have hm:(k:Int)∈r.map fun (n:Nat)=>(n:Int):=Ml.mpr ⟨k,LR hk,rfl⟩;have hlt:=Rp.mpr hm;have hat:=Q0 hlt;rw [LV] at hlt;have hat':r[(r.map fun (n:Nat)=>(n:Int)).idxOf (k:Int)]?=some k:=by
   rw [LO hlt];rw [List.getElem_map] at hat;exact congrArg some (RH hat)
  rcases Ni ((r.map fun (n:Nat)=>(n:Int)).idxOf (k:Int)) j with z|z|z
  ·exact absurd hat' (hf _ z)
  ·exact z
  ·exfalso
   have:=ne_of_lt_idxOf z (by rw [LV];exact hj)
   rw [LO hj] at hk;have hk':=ME hk;simp [hk'] at this
 refine ⟨p,r.map fun (n:Nat)=>(n:Int),k,rfl,rfl,by rw [<- e1];exact h,Ml.mpr ⟨k,LR hk,rfl⟩,?_⟩
 rw [e2];exact q
def zT {α:Type} [Rep α] {K:LN} {H:Hp} {v:V} {Q:VK} {l:List α} {lo hi:Option Int} (h:At K H v l) (q:∀ p H',H p=none->aj H H'->Gr K H' p (cut l lo hi)->Q (.ref p) H'):C6 K v lo hi H Q:=by
 obtain ⟨p,xs,rfl,hS,hP⟩:=h;refine ⟨p,xs,rfl,hS,fun d hd=>q d _ hd (ay hd _) ⟨_,ar,?_⟩⟩;have e:=hP.length;have sm:aj H (del (upd H d (.lst (rm xs lo hi))) d):=fun b o z=>by
  have hb:b≠d:=aS z hd;rw [eB hb,aA hb];exact z
 unfold rm cut at *;rw [e] at sm ⊢;exact Paired.xt _ (Paired.xp _ (Paired.cb hP fun _ _ z=>Rep.mono sm z))
def CF:Expr->Option Int
 | .Constant (.int i) _ _=>some i
 | _=>none
def tj:List Expr->Option (List Int)
 | []=>some []
 | e :: es=>match CF e,tj es with
  | some i,some l=>some (i :: l)
  | _,_=>none
def JR:Expr->Option (List Int)
 | .List es _=>tj es
 | _=>none
def xG:List Expr->Option (List (List Int))
 | []=>some []
 | e :: es=>match JR e,xG es with
  | some i,some l=>some (i :: l)
  | _,_=>none
def qq:List Int->TA
 | []=>ui
 | i :: l=>m7 (tC (.int i)) (qq l)
def ua:List (List Int)->TA
 | []=>ui
 | r :: l=>m7 (zC (qq r)) (ua l)
def rH {X:Cx}:∀ {es:List Expr} (ns:List Int),tj es=some ns->PA X es (qq ns)
 | [],ns,h=>by cases h;exact aa
 | e :: es,ns,h=>by
  unfold tj at h
  split at h
  ·rename_i i l h1 h2
   cases h;cases e with
   | Constant c j pos =>
    cases c with
    | int k =>
     have hk:k=i:=by simpa [CF] using h1
     subst hk;exact uw ag (rH l h2) (bz rfl)
    | _=>simp [CF] at h1
   | _=>simp [CF] at h1
  ·cases h
def zy {X:Cx}:∀ {es:List Expr} (rs:List (List Int)),xG es=some rs->PA X es (ua rs)
 | [],rs,h=>by cases h;exact aa
 | e :: es,rs,h=>by
  unfold xG at h
  split at h
  ·rename_i i l h1 h2
   cases h;cases e with
   | List ls pos=>exact uw (aW (rH i h1)) (zy l h2) (bz rfl)
   | _=>simp [JR] at h1
  ·cases h
@[irreducible] def yw (es:List Expr) (ns:List Int):Bool:=decide (tj es=some ns)
@[irreducible] def ym (es:List Expr) (rs:List (List Int)):Bool:=decide (xG es=some rs)
def IE {X:Cx} {es:List Expr} (ns:List Int) (h:yw es ns=true):PA X es (qq ns):=rH ns (by unfold yw at h;exact of_decide_eq_true h)
def Io {X:Cx} {es:List Expr} (rs:List (List Int)) (h:ym es rs=true):PA X es (ua rs):=zy rs (by unfold ym at h;exact of_decide_eq_true h)
structure IsP (p:Prop):Prop where
 out:p
def mG {X:Cx} {es:List Expr} (ns:List Int) (h:yw es ns=true):IsP (PA X es (qq ns)):=⟨IE ns h⟩
def xU {X:Cx} {es:List Expr} (rs:List (List Int)) (h:ym es rs=true):IsP (PA X es (ua rs)):=⟨Io rs h⟩
section
variable {K:LN}
def kg:∀ (l:List Nat),WrA K (qq (l.map fun (n:Nat)=>(n:Int))) l
 | []=>iq
 | n :: l=>uk (DL rfl) (kg l)
def vm:∀ (rs:List (List Nat)),(∀ r∈rs,r.length<=1000)->WrA K (ua (rs.map fun r=>r.map fun (n:Nat)=>(n:Int))) rs
 | [],_=>iq
 | r :: rs,h=>uk (El (kg r) (h r L8)) (vm rs fun x hx=>h x (L4 _ hx))
end
def K2 {σ:St} {H:Hp} {Q:VK} {K:LN} {ta:TE} {T:String} {r:V->List V->Hp->VK->Prop} (h:ta σ H fun x H1=>tyV K T x H1/\r x [] H1 Q):Gu K T r ta σ H Q:=h
def lB:∀ {its:List Value} {ns:List Int},OC its ns->Vals (ns.map V.int) its
 | _,_,.nil=>.nil
 | _,_,.cons n t r=>.cons ⟨t,rfl⟩ (lB r)
def uo (K:LN):List V->Hp->VK->Prop:=fun xs H Q=>∃ (p:Addr) (ns:List Int),xs=[.ref p]/\SqL K H p (ns.map V.int)/\ns.length<64 /\
 ∀ (d:Addr) (ns':List Int),H d=none->ns'.Perm ns->ns'.Pairwise (·<=·)->Q (.ref d) (upd H d (.lst (ns'.map V.int)))
def yt {X:Cx}:cA X (.builtin "sorted") (uo X.K):=by
 intro pins s σ H xs us Q I r h;obtain ⟨p,ns,rfl,hS,h64,q⟩:=h;obtain ⟨u,rfl,ru⟩:=vals1 r;cases (show u=Ms p from ru);obtain ⟨its,rv,pl,hz⟩:=I.list hS;have hi:=kP rv;have hlen:=hi.length;refine sorted_ints pl.isList hi (by lia) fun out ns' a1 a2 a3=>?_
 obtain ⟨c,hc⟩:=sortedAll_at s.heap its out;have hn:H (s.heap.objs.size+1)=none:=I.hok.fresh (OB _);have hl':ns'.length=ns.length:=a2.length_eq;refine ⟨.ref (s.heap.objs.size+1),_,I.laid (o:=.lst (ns'.map V.int)) (fun b o e=>sortedAll_old e) (OB _) ⟨?_,out.toList,c,lB a1,?_⟩,rfl,q _ ns' hn a2 a3⟩
 ·rw [LV];exact small (by lia)
 ·simpa [seqObj] using hc
def pH {X:Cx} (K:LN) (hK:X.K=K):cA X (.builtin "sorted") (uo K):=by subst hK;exact yt
section
variable {σ:St} {H H':Hp} {Q:VK} {K:LN} {v:V}
def pU {ns':List Int} {l:List Nat} (h:ns'.Perm (l.map fun (n:Nat)=>(n:Int))):∃ l':List Nat,ns'=l'.map (fun (n:Nat)=>(n:Int))/\l'.Perm l:=by
 refine ⟨ns'.map Rq,?_,?_⟩
 ·rw [Ox];have e:∀ x∈ns',((fun (n:Nat)=>(n:Int)) ∘ Rq) x=x:=fun x hx=>by
   obtain ⟨n,_,rfl⟩:=Ml.mp (h.mem_iff.mp hx);rfl
  have:ns'.map ((fun (n:Nat)=>(n:Int)) ∘ Rq)=ns'.map id:=PX e;rw [this,QK]
 ·have:=h.map Rq;rw [Ox] at this;have e:(Rq ∘ fun (n:Nat)=>(n:Int))=id:=by funext n;rfl
  rw [e,QK] at this;exact this
def fk (l:List Nat):aO l=(l.map fun (n:Nat)=>(n:Int)).map V.int:=by
 unfold aO;rw [Ox];rfl
def zm {l:List Nat} (h:At K H v l) (hl:l.length<64) (q:∀ (d:Addr) (l':List Nat) (H':Hp),H d=none->aj H H'->l'.Perm l->l'.Pairwise (·<=·)->Gr K H' d l'->Q (.ref d) H'):uo K [v] H Q:=by
 obtain ⟨p,rfl,hS⟩:=iZ h;have hS':SqL K H p ((l.map fun (n:Nat)=>(n:Int)).map V.int):=by
  have e:=fk l;unfold aO at e;rw [<- e];exact hS
 refine ⟨p,_,rfl,hS',by rw [LV];exact hl,fun d ns' hd hp hs=>?_⟩
 obtain ⟨l',rfl,hp'⟩:=pU hp;have hs':l'.Pairwise (·<=·):=by
  rw [NW] at hs;exact hs.imp fun z=>by lia
 rw [<- fk];exact q d l' _ hd (ay hd _) hp' hs' ⟨_,ar,fA⟩
def Eu (l:List Nat):(l.map fun (n:Nat)=>V.int (n:Int)).all jr=true:=by
 rw [Mz];intro x hx;obtain ⟨n,_,rfl⟩:=Ml.mp hx;rfl
def BJ (x:Nat):∀ l:List Nat,inV (.int (x:Int)) (l.map fun (n:Nat)=>V.int (n:Int))=decide (x∈l)
 | []=>rfl
 | a :: l=>by
  have ih:=BJ x l;rw [My];simp only [inV] at ih ⊢;rw [P2,ih];have e1:eqV (V.int (a:Int)) (V.int (x:Int))=decide (x=a):=by
   show ((a:Int) == (x:Int))=decide (x=a);rw [NQ];simp;lia
  rw [e1,NQ];simp
def ql {l:List Nat} {x:Nat} (h:At K H v l) (q:Q (.bl (!decide (x∈l))) H):rIn K true (.int (x:Int)) v H Q:=by
 obtain ⟨p,rfl,hS⟩:=iZ h;refine ⟨p,_,rfl,.inl hS,rfl,Eu l,?_⟩;rw [BJ];exact q
end
def fO {X:Cx} (K:LN) (hK:X.K=K):OpR X (compareOp .NotIn) (rIn K true):=by subst hK;exact xX
def Kn {K:LN} {α:Type} [Rep α] {H:Hp} {x y:V} {l r:List α} {Q:VK} (hx:∃ p xs,x=.ref p/\H p=some (.lst xs)/\Nl (Rep.is K H) xs l) (hy:∃ p xs,y=.ref p/\H p=some (.lst xs)/\Nl (Rep.is K H) xs r) (hz:l.length+r.length<=100000)
  (q:∀ d H',H d=none->aj H H'->Gr K H' d (l++r)->Q (.ref d) H'):F6 x y H Q:=by
 obtain ⟨p,xs,rfl,h1,r1⟩:=hx;obtain ⟨p',ys,rfl,h2,r2⟩:=hy;have e1:=r1.length;have e2:=r2.length;have sm:∀ {d:Addr} {o:HO},H d=none->aj H (del (upd H d o) d):=fun {d o} hd b u z=>by
  have hb:b≠d:=aS z hd;rw [eB hb,aA hb];exact z
 refine ⟨p,p',xs,ys,rfl,rfl,h1,h2,by rw [MW];lia,fun d hd=>q d _ hd (ay hd _) ⟨_,ar,Paired.app (Paired.cb r1 fun _ _ z=>Rep.mono (sm hd) z) (Paired.cb r2 fun _ _ z=>Rep.mono (sm hd) z)⟩⟩
section
variable {X:Cx} {pins:List (Addr×Obj)} {σ:St} {H:Hp} {s:LU} {A:MP} {α β:Type} [Rep α] [DecidableEq α] [bS α] [Rep β] [DecidableEq β] [bS β]
def IW {p q:Addr} {x1 x2 y1 y2:V} {a c:α} {b d:β} (I:Inv X pins σ H s) (hp:SqT X.K H p [x1,x2]) (h1:At X.K H x1 a) (h2:At X.K H x2 b) (hq:SqT X.K H q [y1,y2]) (h3:At X.K H y1 c) (h4:At X.K H y2 d)
  (hu:A.units+(max (bS.depth α) (bS.depth β)+1)<cLine):SeqAt.RcAt A s (.ref p) (.ref q) (decide ((a,b)=(c,d))):=by
 obtain ⟨its,v1,t1,_⟩:=I.tuple hp;obtain ⟨its2,v2,t2,_⟩:=I.tuple hq;obtain ⟨u1,u2,rfl,r1,r2⟩:=v1.two;obtain ⟨w1,w2,rfl,r3,r4⟩:=v2.two;have e1:=bS.eq (A:=A.in1) I h1 h3 r1 r3 (by show A.units+1+_<_;lia)
 have e2:=bS.eq (A:=A.in1) I h2 h4 r2 r4 (by show A.units+1+_<_;lia)
 have z:=SeqAt.RcAt.tuples (A:=A) (e:=fun j=>if j=0 then decide (a=c) else decide (b=d)) t1 t2 (by lia) fun j hj1 hj2=>by
  have hj:j<2:=by simpa using hj1
  match j,hj with
  | 0,_=>exact e1
  | 1,_=>exact e2
 have ek:((LX (min (#[u1,u2]:Array Value).size (#[w1,w2]:Array Value).size)).all (fun j=>if j=0 then decide (a=c) else decide (b=d)) && (#[u1,u2]:Array Value).size == (#[w1,w2]:Array Value).size)=decide ((a,b)=(c,d)):=by
  have:(LX (min (#[u1,u2]:Array Value).size (#[w1,w2]:Array Value).size))=[0,1]:=rfl;rw [this,NQ];simp
 rw [<- ek];exact z
instance:bS (α×β) where
 depth:=max (bS.depth α) (bS.depth β)+1
 inj:=fun {X pins σ H s x a b} I h h'=>by
  obtain ⟨p,x1,x2,e,h1,h2,h3⟩:=h;obtain ⟨q,y1,y2,e',h4,h5,h6⟩:=h';subst e;cases e';have z:=I.vo h1 h4;cases z;exact Prod.ext (bS.inj I h2 h5) (bS.inj I h3 h6)
 eq:=fun {X pins σ H s A x y u v a b} I hx hy ru rv hu=>by
  obtain ⟨p,x1,x2,e,h1,h2,h3⟩:=hx;obtain ⟨q,y1,y2,e',h4,h5,h6⟩:=hy;subst e e';cases (show u=Ms p from ru);cases (show v=Ms q from rv)
  by_cases hpq:p=q
  ·subst hpq;have z:=I.vo h1 h4;cases z;have e1:a=b:=Prod.ext (bS.inj I h2 h5) (bS.inj I h3 h6);rw [decide_eq_true e1];exact Sl _
  ·exact SeqAt.EqAt.of_refs hpq (IW I h1 h2 h3 h4 h5 h6 hu)
end
section
variable {σ:St} {H:Hp} {Q:VK} {K:LN}
def qi {p:Addr} {xs:List V} {i:Nat} {x:V} (h:H p=some (.tup xs)) (hx:xs[i]?=some x) (q:Q x H):GF K (.ref p) (.int (i:Int)) H Q:=⟨p,xs,_,x,rfl,rfl,SqT.of h,f9 hx,q⟩
end
def D1 {X:Cx} (K:LN) (hK:X.K=K) {pos p1 p2:Pos} {i j k:Nat} {x y:Str} (hc:X.calm=true) (hN:X.N.Nodup) (hi:X.N[i]?=some x) (hx:Loc X.env.scope x) (hj:X.N[j]?=some y) (hy:Loc X.env.scope y)
  (hf:X.fn x=true\/X.env.scope.names.lookup x=some .local:=by first|exact .inl rfl|exact .inr rfl|assumption) (hf':X.fn y=true\/X.env.scope.names.lookup y=some .local:=by first|exact .inl rfl|exact .inr rfl|assumption) :
  PG X (.Tuple [.Name x p1,.Name y p2] k pos) (B6 K 2 (mW (iF i) (mW (iF j) Cu))):=by
 subst hK;exact yJ hc (ja (aJ hN hi hx hf) (ja (aJ hN hj hy hf') uj))
def A3 {K:LN} {α:Type} [Rep α] {H:Hp} {v:V} {Q:VK} {l:List α} (h:At K H v l) (q:∀ p H',H p=none->aj H H'->Gr K H' p l->Q (.ref p) H'):C1 K [v] H Q:=by
 obtain ⟨p,xs,rfl,hS,hP⟩:=h;refine ⟨p,xs,rfl,.inl hS,fun d hd=>q d _ hd (ay hd _) ⟨_,ar,Paired.cb hP fun _ _ z=>Rep.mono (fun b o z=>?_) z⟩⟩;have hb:b≠d:=aS z hd;rw [eB hb,aA hb];exact z
def dO {H:Hp} {p d:Addr} {o:HO} (h:H p=some o) (hd:H d=none):p≠d:=fun e=>by rw [e,hd] at h;cases h
section
variable {X:Cx} {pins:List (Addr×Obj)} {σ:St} {H:Hp} {s:LU} {h':Heap} {t':Nat} {fp:List Addr}
def Inv.EM (I:Inv X pins σ H s) (hf:∀ b∈fp,kL X pins H b) (k:∀ b ob,b∉fp->s.heap.get? b=some ob->h'.get? b=some ob):Inv X pins σ H { s with heap:=h',toks:=t' }:=by
 have nofp:∀ b u,H b=some u->b∉fp:=fun b u e hb=>by rw [(hf b hb).1] at e;cases e
 refine I.step (g':=s.gens) (d':=s.drawn) (ch:=fp) (fun b hb=>let ⟨_,f1,_,f3,f4,f5⟩:=hf b hb;⟨f3,f1,f4,f5⟩) (fun b ob _ _ hc e _=>k b ob hc e) (fun b ob _ _ hc e _=>⟨ob.slots,k b ob hc e⟩)
  (fun _ _ _ _ n=>n) (fun b ob hc e=>⟨ob,k b ob hc e⟩) (fun _ _ e=>e) (fun _ _ _ e=>e) (fun b ps e=>⟨#[],by rw [e];simp⟩) (fun m hm=>?_) (fun b u e=>?_) I.bare
 ·obtain ⟨ob,es,ep,e,r⟩:=hm;exact ⟨ob,es,ep,k _ ob (fun hb=>(hf _ hb).2.1 rfl) e,r⟩
 ·refine (I.hok b u e).kQ (fun c v hc q=>k c v ?_ q) (fun _ q=>q) fun _ _ q=>q;rcases hc with z|z
  ·rw [z];exact nofp b u e
  ·exact nofp c _ z
end
def IM {a b:Nat} (h:¬ a=b):@Ne Addr a b:=h
def wj (n l l':Nat) (h1:l<n) (h2:l' < n):Qu (n+4) (n+2) (n+3) n (n+1) l l':=by
 constructor <;> (refine IM ?_;lia)
def Itz (K:LN) (a b:Addr):It :=
 ⟨fun i H=>∃ xs x ys y,SqL K H a xs/\xs[i]?=some x/\SqL K H b ys/\ys[i]?=some y,fun i H v H'=>∃ p x y,v=.ref p/\H p=none/\H'=upd H p (.tup [x,y])/\(∀ xs,SqL K H a xs->xs[i]?=some x)/\∀ ys,SqL K H b ys->ys[i]?=some y,
  fun i H=>∃ xs ys,SqL K H a xs/\SqL K H b ys/\(xs.length<=i\/ys.length<=i)⟩
def Ht {P:Mh} {w:World} {K:LN} {es:List Expr} {kk:Nat} {tpos:Pos} (a b z TI TO i1 i2:Addr) (D:Qu z TI TO i1 i2 a b) :
  Turn P w K (.Tuple es kk tpos) (Itz K a b) [z,TI,TO,i1,i2] z (fun i h=>IsZip h z TI TO .none/\SX h TI (.ref i1) (.ref i2)/\(∃ c d,SX h TO c d)/\h.IsListIter i1 a i/\h.IsListIter i2 b i) where
 mem:=by simp
 obj:=fun i h st c hc=>by
  obtain ⟨hz,hTI,⟨u,v,hTO⟩,⟨o1,e1,_,d1⟩,o2,e2,_,d2⟩:=st;have hc':c=z\/c=TI\/c=TO\/c=i1\/c=i2:=by simpa using hc
  rcases hc' with rfl|rfl|rfl|rfl|rfl
  ·exact ⟨_,hz,fun v y=>by
    have y':TY _=To v:=y;cases y'⟩
  ·exact ⟨_,hTI,fun v y=>by
    have y':Data.seq _ _=To v:=y;cases y'⟩
  ·exact ⟨_,hTO,fun v y=>by
    have y':Data.seq _ _=To v:=y;cases y'⟩
  ·exact ⟨o1,e1,fun v y=>by rw [d1] at y;cases y⟩
  ·exact ⟨o2,e2,fun v y=>by rw [d2] at y;cases y⟩
 keep:=fun i h h' st k=>by
  obtain ⟨hz,hTI,⟨u,v,hTO⟩,h1,h2⟩:=st;exact ⟨k z (by simp) _ hz,k TI (by simp) _ hTI,⟨u,v,k TO (by simp) _ hTO⟩,h1.at fun o e=>k i1 (by simp) o e,h2.at fun o e=>k i2 (by simp) o e⟩
 item:=by
  intro X hP hw hK hc i pins s σ H E I hf st hg;subst hP hw hK;obtain ⟨xs,x,ys,y,hq,hx,hq2,hy⟩:=hg;obtain ⟨its,rv,p,_⟩:=I.list hq;obtain ⟨its2,rv2,p2,_⟩:=I.list hq2;obtain ⟨u,hu,ru⟩:=rv.get hx;obtain ⟨u2,hu2,ru2⟩:=rv2.get hy;obtain ⟨hz,hTI,⟨c,d,hTO⟩,h1,h2⟩:=st;have lz:z<s.heap.objs.size:=L5 hz;have lTI:TI<s.heap.objs.size:=L5 hTI;have lTO:TO<s.heap.objs.size:=L5 hTO;have l1:i1<s.heap.objs.size:=by obtain ⟨_,q,_⟩:=h1;exact L5 q
  have l2:i2<s.heap.objs.size:=by obtain ⟨_,q,_⟩:=h2;exact L5 q
  refine So D hz hTI hTO h1 h2 p.isList p2.isList (x:=u) (y:=u2) (by simpa using hu) (by simpa using hu2) fun h' a1 a2 a3 a4 a5 a6 hk=>?_
  refine ⟨_,rfl,?_⟩;have I1:Inv X pins σ (upd H s.heap.objs.size (.tup [x,y])) { s with heap:=h',toks:=s.toks } :=
   I.vZ hf (fun b ob hb q=>hk b ob (fun z=>hb (by simp [z])) (fun z=>hb (by simp [z])) (fun z=>hb (by simp [z])) (fun z=>hb (by simp [z])) q) (Ma _) ⟨by show 2<=Mx;decide,[u,u2],.cons ru (.cons ru2 .nil),⟨_,a5,rfl,_,rfl⟩⟩
  have fE:=hf z (by simp)
  refine wpAny_letOwnedTupleGo_zip a1 fun h2' hz2 hs2=>?_;have nE:(upd H s.heap.objs.size (.tup [x,y])) z=none:=by rw [aA (Mc lz)];exact fE.1
  refine ⟨.ref s.heap.objs.size,_,I1.turned (t':=s.toks) (fun b ob hb q=>(hs2.2 b hb).trans q) nE fE.2.1 fE.2.2.2.1 fE.2.2.2.2.1 fE.2.2.2.2.2,rfl,⟨_,x,y,rfl,I.hok.fresh (Ma _),rfl,fun zs hz=>by rw [I.jf hz hq];exact hx,fun zs hz=>by rw [I.jf hz hq2];exact hy⟩,?_,fun b hb=>?_⟩
  ·exact ⟨hz2,hs2.extBut _ _ D.TIz (hk _ _ D.TIz D.TITO D.TIi1 D.TIi2 hTI),⟨_,_,hs2.extBut _ _ D.TOz a2⟩,a3.extBut hs2.extBut D.i1z,a4.extBut hs2.extBut D.i2z⟩
  ·have hb2:b=z\/b=TI\/b=TO\/b=i1\/b=i2:=by simpa using hb
   have hb':b<s.heap.objs.size:=by rcases hb2 with rfl|rfl|rfl|rfl|rfl <;> assumption
   rw [aA (Mc hb')];exact (hf b hb).1
 done:=by
  intro X hP hw hK hc i pins s σ H E I hf st hg;subst hP hw hK;obtain ⟨xs,ys,hq,hq2,hx⟩:=hg;obtain ⟨its,rv,p,_⟩:=I.list hq;obtain ⟨its2,rv2,p2,_⟩:=I.list hq2;obtain ⟨hz,hTI,⟨c,d,hTO⟩,h1,h2⟩:=st;have e1:=rv.length;have e2:=rv2.length;refine SU (I.ok.hd hc) D hz hTI hTO h1 h2 p.isList p2.isList (by
   rcases hx with z|z
   ·exact .inl (by simp;lia)
   ·exact .inr (by simp;lia)) fun h' hk=>⟨rfl,I.EM (t':=s.toks) hf fun b ob hb q=>hk b ob (fun z=>hb (by simp [z])) (fun z=>hb (by simp [z])) (fun z=>hb (by simp [z])) (fun z=>hb (by simp [z])) q⟩
 self:=fun _ _ _ _ _ st h=>RY st.1 h
def Gy (K:LN) (vs:List V) (H:Hp) (R:It->Hp->Prop):Prop:=∃ a b xs ys,vs=[.ref a,.ref b]/\SqL K H a xs/\SqL K H b ys/\R (Itz K a b) H
def KG (K:LN) (ta:TA):TI:=fun σ H R=>ta σ H fun vs H1=>Gy K vs H1 R
def K1 {K:LN} {ta:TA} {σ:St} {H:Hp} {R:It->Hp->Prop} (h:ta σ H fun vs H1=>Gy K vs H1 R):KG K ta σ H R:=h
def Ik {X:Cx} (K:LN) (hK:X.K=K) {tgs:List Expr} {kk:Nat} {tpos:Pos} {a b:Expr} {ta:TA} {p pos:Pos} (hg:Gl X "zip") (hm:X.mg "zip" = none) (ha:PA X [a,b] ta) (hn:isStar a=false:=by rfl) (hn2:isStar b=false:=by rfl) :
  PI X (.Tuple tgs kk tpos) (.Call (.Name "zip" p) [a,b] [] pos) (KG K ta):=by
 subst hK;intro pins s σ H R I h;refine Call_ (iT I hg hm boot_zip (Nt (thn (ha pos pins s σ H _ I h) fun us s1 ⟨vs,H1,I1,r1,q1⟩=>?_) (bz hn) (cp (by simp [hn2]))))
 obtain ⟨l,l',xs,ys,e,hS,hS2,q⟩:=q1;subst e;cases r1 with
 | cons r rr =>
  cases rr with
  | cons r2 rr2 =>
   cases rr2;cases (show _=Ms l from r);cases (show _=Ms l' from r2);obtain ⟨its,rv,pl,_⟩:=I1.list hS;obtain ⟨its2,rv2,pl2,_⟩:=I1.list hS2;have lt1:l<s1.heap.objs.size:=by obtain ⟨_,z,_⟩:=pl.isList;exact L5 z
   have lt2:l' < s1.heap.objs.size:=by obtain ⟨_,z,_⟩:=pl2.isList;exact L5 z
   refine call_zip_2 pl.isList pl2.isList fun h' hz hTI hTO hi1 hi2 hsz hk=>?_;refine RY hz ?_;have I2:Inv X pins σ H1 { s1 with heap:=h' }:=I1.kept (t':=s1.toks) hk;have D:Qu (s1.heap.objs.size+4) (s1.heap.objs.size+2) (s1.heap.objs.size+3) s1.heap.objs.size (s1.heap.objs.size+1) l l':=by
    exact wj _ _ _ lt1 lt2
   refine ⟨s1.heap.objs.size+4,[s1.heap.objs.size+4,s1.heap.objs.size+2,s1.heap.objs.size+3,s1.heap.objs.size,s1.heap.objs.size+1],_,_,H1,rfl,I2,Ht l l' _ _ _ _ _ D,⟨hz,hTI,⟨_,_,hTO⟩,hi1,hi2⟩,fun b hb=>?_,q⟩;have hb2:b=s1.heap.objs.size+4\/b=s1.heap.objs.size+2\/b=s1.heap.objs.size+3\/b=s1.heap.objs.size\/b=s1.heap.objs.size+1:=by simpa using hb
   have hb':s1.heap.objs.size<=b:=by rcases hb2 with rfl|rfl|rfl|rfl|rfl <;> lia
   exact I1.vb hb' (I1.hok.fresh hb')
section
variable {prog:Mh} {w:World} {A:MP} {E:Value->LU->Prop}
variable {s:LU}
end
section
variable {X:Cx} {pos:Pos}
end
structure fQ (K:LN) (x qual:Str) (st:Stmt) (f:Addr) (fd:Na):Prop where
 ex:∃ (oc:Value) (od:Option Addr) (D:Addr) (kV doc pm:Value) (an:Option Addr) (cdv ct:Value) (osl:Array (Option Value)) (dc:Value) (dd:Option Addr) (n:Nat) (dsl:Array (Option Value)),
  fd=MQ x qual (bR st) (bC st) (ak st) (.ref D) kV doc pm an cdv ct/\K.lookup f=some ⟨oc,od,.func fd,osl⟩/\Nw K cdv qual=true/\K.lookup D=some ⟨dc,dd,.seq #[.none] n,dsl⟩
 kp:M6 K (.ref f)=true
section
variable {P:Mh} {w:World} {K:LN} {mg:Str->Option Value} {base:Heap} {x qual:Str} {st:Stmt} {f:Addr} {fd:Na} {ps:List Str}
def fQ.ok {N:List Str} {k:Nat} {sp:Sp} (F:fQ K x qual st f fd) (S:aK N ps (ak st)) (len:∀ vs H Q E,sp vs H Q E->vs.length=ps.length)
  (hbody:∀ (cdv:Value) (A:MP) (outer:List Env) (s:LU) (H:Hp) (vs:List V) (Q:VK) (E:XK),bY k (A.deeper (envOfC qual (ak st) s.heap.objs.size f cdv))->sp vs H Q E ->
   ∃ t,PSs (iu CX0 P w K mg base N qual (ak st) f cdv A outer s H E).nox (bC st) t/\t { nx:=fun _ H'=>Q .non H',rt:=Q } (start N vs) H):aH P w K mg base CX0 (k+1) f fd ps sp:=by
 obtain ⟨oc,od,D,kV,doc,pm,an,cdv,ct,osl,dc,dd,n,dsl,rfl,lk,hcd,_⟩:=F.ex;refine xR lk hcd S len fun A outer s H vs Q E hr hsp=>?_;obtain ⟨t,h,q⟩:=hbody cdv A outer s H vs Q E hr hsp;exact ⟨t,h.nox,q⟩
def fQ.to {s:LU} {args:Args} {bs:List (Str×Value)} (F:fQ K x qual st f fd) (KI:K.In s.heap)
  (h:∀ (D:Addr) (kV doc pm:Value) (an:Option Addr) (cdv ct:Value),∃ k:Option (Array Value)->Sem (List (Str×Value)),bindArgs (MQ x qual (bR st) (bC st) (ak st) (.ref D) kV doc pm an cdv ct) args=seqItems? (.ref D) >>= k/\k (some #[.none])=pure bs):Q9 s fd args bs:=by
 obtain ⟨oc,od,D,kV,doc,pm,an,cdv,ct,osl,dc,dd,n,dsl,rfl,lk,hcd,dl⟩:=F.ex;obtain ⟨k,h1,h2⟩:=h D kV doc pm an cdv ct;exact BindsTo.of_defaults (fd:=MQ x qual (bR st) (bC st) (ak st) (.ref D) kV doc pm an cdv ct) (T:=D) rfl (KI _ _ dl) rfl h1 h2
def d6 {D:Addr} {oc dc:Value} {od an dd:Option Addr} {osl dsl:Array (Option Value)} {kV doc pm cdv ct:Value} {n:Nat} (l:K.lookup f=some ⟨oc,od,.func (MQ x qual (bR st) (bC st) (ak st) (.ref D) kV doc pm an cdv ct),osl⟩)
  (d:K.lookup D=some ⟨dc,dd,.seq #[.none] n,dsl⟩) (c:Nw K cdv qual=true) (k:M6 K (.ref f)=true):fQ K x qual st f (MQ x qual (bR st) (bC st) (ak st) (.ref D) kV doc pm an cdv ct) :=
 ⟨⟨oc,od,D,kV,doc,pm,an,cdv,ct,osl,dc,dd,n,dsl,rfl,l,c,d⟩,k⟩
end
def byName {α:Type} (k:Nat) (us ws:List α):List α:=if us.length=k/\ws.length=1 then us++ws else []
def Cv {k:Nat} {vs zs:List V} {us ws:List Value} (r:Vals vs us) (rz:Vals zs ws):Vals (byName k vs zs) (byName k us ws):=by
 have h1:=r.length;have h2:=rz.length;unfold byName;rw [h1,h2]
 split
 ·exact r.append rz
 ·exact .nil
def m4 {K:LN} {fd:Na} {ps:List Str} {k:Nat} (hk:ps.length=k+1) (h:∀ (s:LU) (us:List Value),K.In s.heap->us.length=k->Q9 s fd ⟨us,[]⟩ (ps.zip (us++[.none]))):Binds K fd ps [.none]:=fun s us KI hl=>h s us KI (by
 rw [Mq,hk] at hl;have:([Ng]:List Value).length=1:=rfl;lia)
def mP {K:LN} {fd:Na} {ps:List Str} {y:Str} {k:Nat} (hk:ps.length=k+1) (h:∀ (s:LU) (us:List Value) (w:Value),K.In s.heap->us.length=k->Q9 s fd ⟨us,[(y,w)]⟩ (ps.zip (us++[w]))):pY K fd ps [y] (byName k) (byName k):=by
 refine ⟨fun s us ws KI hl=>?_,Cv⟩;unfold byName at hl ⊢
 split at hl
 ·rename_i c
  rw [if_pos c]
  match ws,c.2 with
  | [w],_=>exact h s us w KI c.1
 ·rw [hk] at hl;cases hl
structure DfD (K:LN) (mg:Str->Option Value) (x:Str) (st:Stmt) (ps:List Str) (y:Str) (k:Nat) where
 f:Addr
 fd:Na
 fn:fQ K x x st f fd
 bd:Binds K fd ps []
 bn:Binds K fd ps [.none]
 bk:pY K fd ps [y] (byName k) (byName k)
 nm:mg x=some (.ref f)
def DfD.ok {P:Mh} {w:World} {K:LN} {mg:Str->Option Value} {base:Heap} {x y:Str} {st:Stmt} {N ps:List Str} {k j:Nat} {sp:Sp} (d:DfD K mg x st ps y j) (S:aK N ps (ak st)) (len:∀ vs H Q E,sp vs H Q E->vs.length=ps.length)
  (hbody:∀ (cdv:Value) (A:MP) (outer:List Env) (s:LU) (H:Hp) (vs:List V) (Q:VK) (E:XK),bY k (A.deeper (envOfC x (ak st) s.heap.objs.size d.f cdv))->sp vs H Q E ->
   ∃ t,PSs (iu CX0 P w K mg base N x (ak st) d.f cdv A outer s H E).nox (bC st) t/\t { nx:=fun _ H'=>Q .non H',rt:=Q } (start N vs) H):aH P w K mg base CX0 (k+1) d.f d.fd ps sp :=
 d.fn.ok S len hbody
section
variable {X:Cx} {x y:Str} {st:Stmt} {ps:List Str} {k j:Nat} {sp:Sp} {p pos kpos:Pos} {e a:Expr} {es:List Expr} {t:TA} {te:TE}
def Lj (d:DfD X.K X.mg x st ps y j) (G:aH X.prog X.w X.K X.mg X.base CX0 k d.f d.fd ps sp) (hr:bY k X.A) (hg:Gl X x) (ha:PA X (e :: es) t) (hn:isStar e=false:=by rfl) (hall:es.all (fun e=>!isStar e)=true:=by rfl) (hdb:(x == ("__debug__" : Str))=false:=by decide) :
  PE X (.Call (.Name x p) (e :: es) [] pos) (mJ sp [] E0 t):=qp G hr hg d.nm d.fn.kp d.bd .nil B8 ha hdb (bz hn) (cp hall)
end
end L2
set_option Elab.async false
set_option linter.all false
set_option maxRecDepth 100000
namespace L2
open PySem PySem.Spec PyProof.Rows
section
variable (P:Mh) (w:World)
end
section
variable {P:Mh} {w:World} {H H':Hp} {h h':Heap} {a:Addr} {o:HO}
end
section
variable {P:Mh} {w:World} {H:Hp} {h h':Heap} {x e:Addr} {o':HO}
end
section
variable {fs fs' ex ex':List Addr} {H H1 H2:Hp} {h h1 h2 h':Heap} {a x e:Addr} {o:HO}
end
section
variable {X:Cx} {pins:List (Addr×Obj)} {σ:List (Option V)} {H H':Hp} {s:LU} {h':Heap}
end
section
variable {X:Cx}
variable {a b:Expr} {ta tb:TE} {pos:Pos}
variable {tA tB':TT} {rest:List Expr}
end
section
variable {X:Cx} {pins:List (Addr×Obj)} {σ:St} {H:Hp} {s:LU} {a:Addr} {xs ys:List V}
end
section
variable {X:Cx} {pins:List (Addr×Obj)} {σ:St} {H:Hp} {s:LU} {E:Value->LU->Prop}
end
section
variable {X:Cx} {st:Stmt} {rest:List Stmt} {t u:TS} {e:Expr} {te:TE} {pos:Pos}
end
section
variable {X:Cx} {pos:Pos}
end
section
variable {X:Cx} {tg:Expr}
end
section
variable {X:Cx} {a b c:Expr} {ta tb tc:TE} {pos:Pos}
end
section
variable {prog:Mh} {w:World} {A:MP} {E:Value->LU->Prop} {s:LU} {K:LN} {x dx C f:Addr} {mA:Str->Option Value} {name:Str} {v:Value}
end
section
variable {P:Mh} {w:World} {H H':Hp} {h h':Heap} {a C dx:Addr} {fs fs':List (Str×V)}
end
section
variable {X:Cx} {pins:List (Addr×Obj)} {σ:St} {H:Hp} {s:LU} {a C dx:Addr} {fs:List (Str×V)} {f:Str} {v:V} {A:MP} {E:Value->LU->Prop}
end
section
variable {X:Cx} {o e value:Expr} {f:Str} {pos pos' tpos:Pos} {ta tv:TE}
end
section
variable {X:Cx} {pins:List (Addr×Obj)} {σ:St} {H:Hp} {s:LU} {A:MP} {E:Value->LU->Prop} {Q:Value->LU->Prop} {c:Value} {b:Bool}
end
section
variable {X:Cx} {e:Expr} {es:List Expr} {te:TE} {t:TA} {pos:Pos}
end
section
variable {X:Cx} {pins:List (Addr×Obj)} {σ:St} {H:Hp} {s s':LU}
end
section
variable {X:Cx} {CX:CXT} {k:Nat} {f C:Addr} {fd:Na} {ps:List Str} {sp:Sp} {dvs:List V} {ds:List Value} {E:XK} {x m:Str} {p pos apos:Pos} {e o:Expr} {es:List Expr} {ta:TE} {t:TA}
end
section
variable {X:Cx} {CX:CXT} {k:Nat} {f C:Addr} {fd:Na} {ps ks:List Str} {sp:Sp} {E:XK} {x m:Str} {p pos apos kpos:Pos} {e o:Expr} {es:List Expr} {kws:List Sj} {te ta:TE} {t tk:TA} {nm:Option Str}
variable {g:List Value->List Value->List Value} {gV:List V->List V->List V}
end
section
variable {X:Cx} {x:Str} {p pos:Pos} {e:Expr} {es:List Expr} {t:TA} {id T:String} {r:List V->Hp->VK->Prop}
end
section
variable {κ:Type} [DecidableEq κ]
def cO (kvs:List (κ×V)) (k:κ):Option V:=(kvs.find? fun kv=>decide (kv.1=k)).map (·.2)
def putK (kvs:List (κ×V)) (k:κ) (v:V):List (κ×V) :=
 if (kvs.any fun kv=>decide (kv.1=k))=true then kvs.map (fun kv=>if kv.1=k then (kv.1,v) else kv) else kvs++[(k,v)]
def kD {p:κ×V} {r:List (κ×V)} {k:κ} (e:p.1=k):cO (p :: r) k=some p.2:=by simp [cO,OT,e]
def je {p:κ×V} {r:List (κ×V)} {k:κ} (e:¬ p.1=k):cO (p :: r) k=cO r k:=by simp [cO,OT,e]
def rK (k:κ):∀ kvs:List (κ×V),(kvs.any fun kv=>decide (kv.1=k))=(cO kvs k).isSome
 | []=>rfl
 | p :: r=>by
  rw [P2]
  by_cases e:p.1=k
  ·simp only [kD e,decide_eq_true e,Bool.true_or,Option.isSome_some]
  ·rw [je e,decide_eq_false e,Bool.false_or];exact rK k r
def lM (kvs:List (κ×V)) (k:κ) (v:V):(putK kvs k v).length<=kvs.length+1:=by
 unfold putK
 split
 ·rw [LV];lia
 ·rw [Mq,MN,P4];lia
def rM {kvs:List (κ×V)} {k:κ} (v:V) (h:cO kvs k=none):putK kvs k v=kvs++[(k,v)]:=by
 unfold putK;rw [rK,h];exact if_neg (by decide)
def fG.oI {o:Option V} {u:Option Value} (r:fG o u):o.isSome=u.isSome:=by
 cases o with
 | none=>cases u with
  | none=>rfl
  | some _=>exact (show False from r).elim
 | some _=>cases u with
  | none=>exact (show False from r).elim
  | some _=>rfl
def KV.val {kvs:List (κ×V)} {vs:List (κ×Value)} (r:KV kvs vs) (k:κ):fG (cO kvs k) (valueAt vs k):=by
 unfold KV at r
 induction r with
 | nil=>exact NN
 | @cons p q ps qs h t ih =>
  obtain ⟨h1,h2⟩:=h
  by_cases e:p.1=k
  ·have e':q.1=k:=h1.symm.trans e;have b:valueAt (q :: qs) k=some q.2:=by simp [valueAt,OT,e']
   rw [kD e,b];exact h2
  ·have e':¬ q.1=k:=fun z=>e (h1.trans z);have b:valueAt (q :: qs) k=valueAt qs k:=by simp [valueAt,OT,e']
   rw [je e,b];exact ih
def KV.any {kvs:List (κ×V)} {vs:List (κ×Value)} (r:KV kvs vs) (k:κ):(kvs.any fun kv=>decide (kv.1=k))=vs.any fun kv=>decide (kv.1=k):=by
 unfold KV at r
 induction r with
 | nil=>rfl
 | cons h t ih=>rw [P2,P2,ih,h.1]
def KV.G0 {kvs:List (κ×V)} {vs:List (κ×Value)} (r:KV kvs vs) (k:κ) {y:V} {u:Value} (ry:RelV y u) :
  KV (kvs.map fun kv=>if kv.1=k then (kv.1,y) else kv) (vs.map fun kv=>if kv.1=k then (kv.1,u) else kv):=by
 unfold KV at r ⊢
 induction r with
 | nil=>exact .nil
 | @cons p q ps qs h t ih =>
  rw [My,My];refine .cons ?_ ih;obtain ⟨h1,h2⟩:=h
  by_cases e:p.1=k
  ·rw [if_pos e,if_pos (h1.symm.trans e)];exact ⟨h1,ry⟩
  ·rw [if_neg e,if_neg (fun z=>e (h1.trans z))];exact ⟨h1,h2⟩
def KV.put {kvs:List (κ×V)} {vs:List (κ×Value)} (r:KV kvs vs) (k:κ) {y:V} {u:Value} (ry:RelV y u):KV (putK kvs k y) (stored vs k u):=by
 unfold putK stored;rw [r.any k]
 by_cases e:(vs.any fun kv=>decide (kv.1=k))=true
 ·rw [if_pos e,if_pos e];exact r.G0 k ry
 ·rw [if_neg e,if_neg e];exact Paired.snoc r ⟨rfl,ry⟩
def KV.length {kvs:List (κ×V)} {vs:List (κ×Value)} (r:KV kvs vs):kvs.length=vs.length:=RC r
end
def qj {P:Mh} {w:World} {k:Key} {u:Value} (r:RelV (kV k) u):(cC P w).is k u=true:=by
 cases k with
 | inl i=>obtain ⟨t,e⟩:=(show ∃ t,u=Ol i t from r);subst e;exact AA P w i t
 | inr x=>obtain ⟨t,e⟩:=(show ∃ t,u=Ti x t from r);subst e;exact AO P w x t
def vO {P:Mh} {w:World}:∀ {ks:List Key} {us:List Value},Vals (ks.map kV) us->ItemsAre (cC P w) ks us
 | [],_,r=>by rw [TK] at r;cases r;exact .nil
 | k :: ks,_,r=>by
  rw [My] at r;cases r with
  | cons h t=>exact .cons (qj h) (vO t)
abbrev KT (H:Hp):List (List Key×V)->List (List Key×Addr×Value)->Prop:=Nl fun p q=>p.1=q.1/\H q.2.1=some (.tup (p.1.map kV))/\RelV p.2 q.2.2
def KT.val {H:Hp} {kvs:List (List Key×V)} {xs:List (List Key×Addr×Value)} (r:KT H kvs xs) (k:List Key):fG (cO kvs k) ((atKey xs k).map (·.2)):=by
 induction r with
 | nil=>exact NN
 | @cons p q ps qs h t ih =>
  obtain ⟨h1,_,h2⟩:=h
  by_cases e:p.1=k
  ·have e':q.1=k:=h1.symm.trans e;have b:atKey (q :: qs) k=some q.2:=by simp [atKey,OT,e']
   rw [kD e,b];exact h2
  ·have e':¬ q.1=k:=fun z=>e (h1.trans z);have b:atKey (q :: qs) k=atKey qs k:=by simp [atKey,OT,e']
   rw [je e,b];exact ih
def KT.G0 {H:Hp} {kvs:List (List Key×V)} {xs:List (List Key×Addr×Value)} (r:KT H kvs xs) (k:List Key) {y:V} {u:Value} (ry:RelV y u) :
  KT H (kvs.map fun kv=>if kv.1=k then (kv.1,y) else kv) (xs.map (putAt k u)):=by
 induction r with
 | nil=>exact .nil
 | @cons p q ps qs h t ih =>
  rw [My,My];refine .cons ?_ ih;obtain ⟨h1,h2,h3⟩:=h;unfold putAt
  by_cases e:p.1=k
  ·rw [if_pos e,if_pos (h1.symm.trans e)];exact ⟨h1,h2,ry⟩
  ·rw [if_neg e,if_neg (fun z=>e (h1.trans z))];exact ⟨h1,h2,h3⟩
def KT.put {H:Hp} {kvs:List (List Key×V)} {xs:List (List Key×Addr×Value)} (r:KT H kvs xs) (k:List Key) {b:Addr} {y:V} {u:Value} (hb:H b=some (.tup (k.map kV))) (ry:RelV y u) :
  KT H (putK kvs k y) (storedH xs k b u):=by
 have e:(kvs.any fun kv=>decide (kv.1=k))=(atKey xs k).isSome:=by
  rw [rK,(r.val k).oI,Option.isSome_map]
 unfold putK storedH;rw [e]
 by_cases q:(atKey xs k).isSome=true
 ·rw [if_pos q,if_pos q];exact r.G0 k ry
 ·rw [if_neg q,if_neg q];exact Paired.snoc r ⟨rfl,hb,ry⟩
def KT.keeps {H H':Hp} {kvs:List (List Key×V)} {xs:List (List Key×Addr×Value)} (r:KT H kvs xs) (ht:∀ b ys,H b=some (.tup ys)->H' b=some (.tup ys)):KT H' kvs xs :=
 Paired.cb r fun _ _ z=>⟨z.1,ht _ _ z.2.1,z.2.2⟩
section
variable {P:Mh} {w:World} {H:Hp} {h:Heap} {a:Addr}
def HK {u:HO} (ok:HOk P w H h) (e:Rd H a u):bB P w H h a u:=e.ok ok
def xO {kvs:List (Key×V)} (ok:HOk P w H h) (e:Rd H a (.dK kvs)):kvs.length<=Mx/\(a == sysModules)=false/\∃ vs,KV kvs vs/\h.DictOf (cC P w) a vs :=
 show bB P w H h a (.dK kvs) from HK ok e
def BP {kvs:List (Key×V)} (ok:HOk P w H h) (e:H a=some (.dK kvs)):kvs.length<=Mx/\(a == sysModules)=false/\∃ vs,KV kvs vs/\h.DictOf (cC P w) a vs:=xO ok (.inl e)
def t8 {ks:List Key} (ok:HOk P w H h) (e:H a=some (.tup (ks.map kV))):(tupleKind (cC P w)).is h ks a:=by
 obtain ⟨_,its,r,o,h1,h2,n,h3⟩:=(show bB P w H h a (.tup (ks.map kV)) from ok a _ e);exact ⟨o,its.toArray,n,h1,h2,h3,by simpa using vO r⟩
def xv {kvs:List (List Key×V)} (ok:HOk P w H h) (e:Rd H a (.dT kvs)):kvs.length<=Mx/\(a == sysModules)=false /\
  ∃ xs,KT H kvs xs/\h.DictOfH (tupleKind (cC P w)) a xs:=by
 obtain ⟨z,y,xs,r,o,es,ep,h1,h2,h3,h4,h5⟩:=(show bB P w H h a (.dT kvs) from HK ok e);refine ⟨z,y,xs,r,o,es,ep,h1,h2,h3,h4,fun x hx=>?_,h5⟩;have all:∀ {l:List (List Key×V)} {m:List (List Key×Addr×Value)},KT H l m->∀ x∈m,(tupleKind (cC P w)).is h x.1 x.2.1:=by
  intro l m q
  induction q with
  | nil=>intro x hx;exact nomatch hx
  | @cons p q ps qs hq t ih =>
   intro x hx;rcases Mp.mp hx with e|hx
   ·subst e;exact t8 ok (by rw [<- hq.1];exact hq.2.1)
   ·exact ih x hx
 exact all r x hx
def Ld {kvs:List (List Key×V)} (ok:HOk P w H h) (e:H a=some (.dT kvs)):kvs.length<=Mx/\(a == sysModules)=false /\
  ∃ xs,KT H kvs xs/\h.DictOfH (tupleKind (cC P w)) a xs:=xv ok (.inl e)
end
def i6 (H:Hp) (a:Addr) (y:V) (r:Option V):Prop :=
 (∃ kvs k,Rd H a (.dK kvs)/\y=kV k/\r=cO kvs k)\/∃ kvs k b,Rd H a (.dT kvs)/\y=.ref b/\H b=some (.tup (k.map kV))/\r=cO kvs k
def oF (H:Hp) (a:Addr) (y v:V) (H':Hp):Prop :=
 (∃ kvs k,H a=some (.dK kvs)/\y=kV k/\kvs.length<Mx/\H'=upd H a (.dK (putK kvs k v))) \/
 ∃ kvs k b,H a=some (.dT kvs)/\y=.ref b/\H b=some (.tup (k.map kV))/\kvs.length<Mx/\H'=upd H a (.dT (putK kvs k v))
def i6.k {H:Hp} {a:Addr} {kvs:List (Key×V)} {k:Key} (e:H a=some (.dK kvs)):i6 H a (kV k) (cO kvs k):=.inl ⟨kvs,k,.inl e,rfl,rfl⟩
def i6.t {H:Hp} {a b:Addr} {kvs:List (List Key×V)} {k:List Key} (e:H a=some (.dT kvs)) (eb:H b=some (.tup (k.map kV))):i6 H a (.ref b) (cO kvs k):=.inr ⟨kvs,k,b,.inl e,rfl,eb,rfl⟩
def oF.k {H:Hp} {a:Addr} {kvs:List (Key×V)} {k:Key} {v:V} (e:H a=some (.dK kvs)) (hl:kvs.length<Mx):oF H a (kV k) v (upd H a (.dK (putK kvs k v))):=.inl ⟨kvs,k,e,rfl,hl,rfl⟩
def oF.t {H:Hp} {a b:Addr} {kvs:List (List Key×V)} {k:List Key} {v:V} (e:H a=some (.dT kvs)) (eb:H b=some (.tup (k.map kV))) (hl:kvs.length<Mx) :
  oF H a (.ref b) v (upd H a (.dT (putK kvs k v))):=.inr ⟨kvs,k,b,e,rfl,eb,hl,rfl⟩
section
variable {X:Cx} {pins:List (Addr×Obj)} {σ:St} {H:Hp} {s:LU} {a:Addr} {y v:V} {u r:Value} {o:Option V} {A:MP} {E:Value->LU->Prop}
def Inv.big (I:Inv X pins σ H s):sysModules<s.heap.objs.size:=by
 have h:MO<s.heap.objs.size:=(I.mod.glob.keeps I.bk).lt;exact TL (by decide) h
def EE {Q:Value->LU->Prop} (hu:A.units+1<cLine) (I:Inv X pins σ H s) (g:i6 H a y (some v)) (ry:RelV y u) (h:∀ w' s',Inv X pins σ H s'->RelV v w'->Q w' s') :
  wpAny (model X.prog X.w) A (getItem (.ref a) u) Q E s:=by
 rcases g with ⟨kvs,k,e,ey,l⟩|⟨kvs,k,b,e,ey,eb,l⟩
 ·subst ey;obtain ⟨z,hd,vs,rel,dd⟩:=xO I.hok e;obtain ⟨w',hw,rw'⟩:=fG.some_of (v:=v) (o:=valueAt vs k) (by rw [l];exact rel.val k)
  exact wpAny_getItem_of (qj ry) dd.mapOf hw (h w' _ (I.tok _) rw')
 ·subst ey;cases (show u=Ms b from ry);obtain ⟨z,hd,xs,rel,dd⟩:=xv I.hok e;obtain ⟨w',hw,rw'⟩:=fG.some_of (v:=v) (o:=(atKey xs k).map (·.2)) (by rw [l];exact rel.val k)
  obtain ⟨p,hp,hp2⟩:=O7.mp hw;refine wpAny_getItem_heap (Q1 hu) (t8 I.hok eb) dd hp ?_;rw [hp2];exact h w' _ (I.tok _) rw'
def IC {Q:Value->LU->Prop} (hu:A.units+1<cLine) (I:Inv X pins σ H s) (g:i6 H a y o) (ry:RelV y u) (h:∀ s',Inv X pins σ H s'->Q (.bool (!o.isSome)) s') :
  wpAny (model X.prog X.w) A (compareOp .NotIn u (.ref a)) Q E s:=by
 rcases g with ⟨kvs,k,e,ey,l⟩|⟨kvs,k,b,e,ey,eb,l⟩
 ·subst ey;obtain ⟨z,hd,vs,rel,dd⟩:=xO I.hok e;refine wpAny_notIn_of (qj ry) hd dd.mapOf ?_;rw [<- (rel.val k).oI,<- l];exact h _ (I.tok _)
 ·subst ey;cases (show u=Ms b from ry);obtain ⟨z,hd,xs,rel,dd⟩:=xv I.hok e;refine wpAny_notIn_heap (Q1 hu) (t8 I.hok eb) hd dd ?_;have q:=(rel.val k).oI;rw [Option.isSome_map] at q;rw [<- q,<- l];exact h _ (I.tok _)
def uR {h':Heap} {t':Nat} {ob:HO} (I:Inv X pins σ H s) (mu:Mut (H a)) (hs:O0 a s.heap h') (he:∃ q,h'.get? a=some q) (new:bB X.prog X.w (upd H a ob) h' a ob) :
  Inv X pins σ (upd H a ob) { s with heap:=h',toks:=t' } :=
 I.write (x:=a) (e:=a) mu (.inl rfl) (fun b q hb z=>(hs.2 b hb).trans z) he new
def yR {P:Mh} {w:World} {H':Hp} {h':Heap} {kvs:List (Key×V)} {vs:List (Key×Value)} (z:kvs.length<=Mx) (hd:(a == sysModules)=false) (rel:KV kvs vs) (dd:h'.DictOf (cC P w) a vs) :
  bB P w H' h' a (.dK kvs):=⟨z,hd,vs,rel,dd⟩
def Ea {H':Hp} {Q:Unit->LU->Prop} (hu:A.units+1<cLine) (I:Inv X pins σ H s) (g:oF H a y v H') (ry:RelV y u) (rv:RelV v r) (h:∀ s',Inv X pins σ H' s'->Q () s') :
  wpAny (model X.prog X.w) A (setItem (.ref a) u r) Q E s:=by
 rcases g with ⟨kvs,k,e,ey,l,eH⟩|⟨kvs,k,b,e,ey,eb,l,eH⟩
 ·subst ey eH;obtain ⟨z,hd,vs,rel,dd⟩:=BP I.hok e;have hz:vs.length<=Mx:=by rw [<- rel.length];exact z
  have hl:(putK kvs k v).length<=Mx:=by have:=lM kvs k v;lia
  refine wpAny_setItem_pairs (hsz:=hz) (qj ry) dd fun h' dd' hs=>h _ ?_;have he:∃ q,h'.get? a=some q:=let ⟨q,_,_,hq,_⟩:=dd';⟨q,hq⟩;exact uR I (by rw [e];exact NN) hs he (yR hl hd (rel.put k rv) dd')
 ·subst ey eH;cases (show u=Ms b from ry);obtain ⟨z,hd,xs,rel,dd⟩:=Ld I.hok e;have hz:xs.length<=Mx:=by rw [<- RC rel];exact z
  have hl:(putK kvs k v).length<=Mx:=by have:=lM kvs k v;lia
  refine wpAny_setItem_heap (hsz:=hz) (Q1 hu) (t8 I.hok eb) dd fun h' dd' hs=>h _ ?_;obtain ⟨q,es,ep,hq,h2,h3,h4,_,h5⟩:=dd';refine uR I (by rw [e];exact NN) hs ⟨q,hq⟩ ⟨hl,hd,_,(rel.put k eb rv).keeps fun c ys ec=>?_,q,es,ep,hq,h2,h3,h4,h5⟩
  rw [aA (Lk ec e (fun z=>nomatch z))];exact ec
end
section
variable {X:Cx} {pins:List (Addr×Obj)} {σ:St} {H:Hp} {s:LU} {a:Addr} {kvs:List (Key×V)} {k:Key} {u:Value} {A:MP} {E:Value->LU->Prop}
end
def JI (i:Expr):Prop:=∀ ov iv,subscripted i false ov iv=operate [ov,iv] (getItem ov iv)
def Jd {prog:Mh} {w:World} {A:MP} {E:Value->LU->Prop} {s:LU} {env:Env} {value slice:Expr} {pos:Pos} {T id:String} {Q:Value->LU->Prop}
  (hl:typeLookup (.type T) "__getitem__" = pure (some (.builtin id))) (hs:JI slice)
  (h:wpAny (model prog w) A (eval value env) (fun o s₁=>wpAny (model prog w) A (eval slice env) (fun i s₂=>s₂.TypeIs o T/\wpAny (model prog w) A (getItem o i) Q E s₂) E s₁) E s) :
  wpAny (model prog w) A (eval (.Subscript value slice pos) env) Q E s:=by
 refine Subscript_ (Nc h (fun o s₁ h₁=>Nc h₁ (fun i s₂ h₂=>?_) fun _ _ x=>x) fun _ _ x=>x);obtain ⟨hT,h₂⟩:=h₂;unfold subscriptTail;refine LP ?_;rw [getitemInPython_of_ne hT.not_modules];refine LP (wpAny_specialOf hT hl ?_);have fin:wpAny (model prog w) A (subscripted slice false o i) (fun r s₃=>wpAny (model prog w) A (letTemporaryGo value o r >>= fun _=>pure r) Q E s₃) E s₂:=by
  rw [hs o i];exact wpAny_operating (Nc h₂ (fun r s₃ h₃=>LP (wpAny_letTemporaryGo (LZ h₃))) fun _ _ x=>x)
 first
  | exact LZ (LP fin)
  | exact LP (LZ (LP fin))
  | exact LP fin
def Af {X:Cx} {pins:List (Addr×Obj)} {σ:St} {H:Hp} {s:LU} {a:Addr} {y:V} {o:Option V} (I:Inv X pins σ H s) (g:i6 H a y o):s.TypeIs (.ref a) "dict":=by
 rcases g with ⟨kvs,k,e,_,_⟩|⟨kvs,k,b,e,_,_,_⟩
 ·obtain ⟨_,_,vs,_,dd⟩:=xO I.hok e;exact dd.typeIs
 ·obtain ⟨_,_,xs,_,dd⟩:=xv I.hok e;exact dd.typeIs
def HH (td ty:TE):TE:=fun σ H Q=>td σ H fun x H1=>ty σ H1 fun y H2=>∃ a v,x=.ref a/\i6 H2 a y (some v)/\Q v H2
def A4 (ty td:TE):TE:=fun σ H Q=>ty σ H fun y H1=>td σ H1 fun x H2=>∃ a o,x=.ref a/\i6 H2 a y o/\Q (.bl (!o.isSome)) H2
def HD (td ty tv:TE):TS:=fun D σ H=>tv σ H fun v H1=>td σ H1 fun x H2=>ty σ H2 fun y H3=>∃ a H4,x=.ref a/\oF H3 a y v H4/\D.nx σ H4
section
variable {X:Cx} {o i e value:Expr} {pos pos' tpos:Pos} {td ty tv:TE}
def dQ (hu:X.A.units+1<cLine) (ho:PE X o td) (hi:PE X i ty) (hs:JI i):PE X (.Subscript o i pos) (HH td ty):=by
 intro pins s σ H Q I h;refine Jd PySem.F.slot_dict_getitem.lookup hs (thn (ho pins s σ H _ I h) fun u s1 ⟨x,H1,I1,rx,q1⟩=>thn (hi pins s1 σ H1 _ I1 q1) fun iv s2 ⟨y,H2,I2,ry,a,v,ex,g,q2⟩=>?_);subst ex;obtain rfl:u=Ms a:=rx;exact ⟨Af I2 g,EE hu I2 g ry fun w' s3 I3 rw'=>⟨v,H2,I3,rw',q2⟩⟩
def EA (hu:X.A.units+1<cLine) (hi:PE X i ty) (ho:PE X o td):PC X .NotIn i o (A4 ty td):=by
 intro pins s σ H Q I h;refine thn (hi pins s σ H _ I h) fun iv s1 ⟨y,H1,I1,ry,q1⟩=>thn (ho pins s1 σ H1 _ I1 q1) fun u s2 ⟨x,H2,I2,rx,a,ov,ex,g,q2⟩=>?_;subst ex;obtain rfl:u=Ms a:=rx;exact IC hu I2 g ry fun s3 I3=>⟨.bl (!ov.isSome),H2,I3,rfl,q2⟩
def Ba (hu:X.A.units+1<cLine) (ho:PE X o td) (hi:PE X i ty) (hv:PE X value tv) (hs:swapsWith value (some (.Subscript o i pos')) pos.line X.env=pure false) :
  PS X (.Assign [.Subscript o i pos'] value pos) (HD td ty tv):=by
 intro pins s σ H D I h;refine wpAny_Assign_Subscript (thn (hv pins s σ H _ I h) fun r s1 ⟨v,H1,I1,rv,q1⟩=>thn (ho pins s1 σ H1 _ I1 q1) fun u s2 ⟨x,H2,I2,rx,q2⟩=>thn (hi pins s2 σ H2 _ I2 q2) fun iv s3 ⟨y,H3,I3,ry,a,H4,ex,g,q3⟩=>?_) hs;subst ex;obtain rfl:u=Ms a:=rx;exact Ea hu I3 g ry rv fun s4 I4=>⟨σ,H4,I4,q3⟩
end
def ze {P:Mh} {w:World} {H:Hp} (h:Heap) (hb:sysModules<h.objs.size):bB P w H (h.push { cls:=.type "dict",data:=.dict #[] }) h.objs.size (.dK []) :=
 ⟨MI _,beq_eq_false_iff_ne.mpr (NI (Mc hb)),[],.nil,Heap.DictOf.new h⟩
def Ek:TE:=fun _ H Q=>∀ p,H p=none->Q (.ref p) (upd H p (.dK []))
section
variable {X:Cx} {pos:Pos}
def Gs:PE X (.Dict [] [] pos) Ek:=fun pins s σ H Q I h =>
 wpAny_Dict_empty ⟨.ref s.heap.objs.size,_,I.laid (a:=s.heap.objs.size) (o:=.dK []) (t':=s.toks) (fun _ _ q=>LW _ q) (Ma _) (ze s.heap I.big),rfl,h _ (I.hok.fresh (Ma _))⟩
end
def yr:List (TE×TE)->St->Hp->(List (V×V)->Hp->Prop)->Prop
 | [],_,H,Q=>Q [] H
 | (tk,tv) :: r,σ,H,Q=>tk σ H fun x H1=>tv σ H1 fun y H2=>yr r σ H2 fun ps H3=>Q ((x,y) :: ps) H3
abbrev VV:List (V×V)->List (Value×Value)->Prop:=Nl fun p q=>RelV p.1 q.1/\RelV p.2 q.2
def PPs (X:Cx) (pos:Pos) (keys:List (Option Expr)) (values:List Expr) (trs:List (TE×TE)):Prop :=
 ∀ (pins:List (Addr×Obj)) (s:LU) (σ:St) (H:Hp) (Q:List (V×V)->Hp->Prop),Inv X pins σ H s->yr trs σ H Q ->
  wpAny (model X.prog X.w) X.A (evalPairs (pairTrees keys values X.env pos)) (fun vs s'=>∃ ps H',Inv X pins σ H' s'/\VV ps vs/\Q ps H') X.xe s
def Ii {X:Cx} {pos:Pos}:PPs X pos [] [] []:=fun pins s σ H Q I h=>pairTrees_nil_walk ⟨[],H,I,.nil,h⟩
def Gm {X:Cx} {pos:Pos} {k v:Expr} {ks:List (Option Expr)} {vs:List Expr} {tk tv:TE} {trs:List (TE×TE)} (hk:PE X k tk) (hv:PE X v tv) (hr:PPs X pos ks vs trs) :
  PPs X pos (some k :: ks) (v :: vs) ((tk,tv) :: trs):=fun pins s σ H Q I h =>
 pairTrees_cons_walk (thn (hk pins s σ H _ I h) fun u s1 ⟨x,H1,I1,rx,q1⟩=>thn (hv pins s1 σ H1 _ I1 q1) fun w2 s2 ⟨y,H2,I2,ry,q2⟩ =>
  thn (hr pins s2 σ H2 _ I2 q2) fun ws s3 ⟨ps,H3,I3,rel,q3⟩=>⟨(x,y) :: ps,H3,I3,.cons ⟨rx,ry⟩ rel,q3⟩)
def gn (kvs more:List (Key×V)):List (Key×V):=more.foldl (fun acc kv=>putK acc kv.1 kv.2) kvs
def KV.merge:∀ {more:List (Key×V)} {rs:List (Key×Value)} {kvs:List (Key×V)} {vs:List (Key×Value)},KV more rs->KV kvs vs->KV (gn kvs more) (merged vs rs):=by
 intro more rs kvs vs r;unfold KV at r
 induction r generalizing kvs vs with
 | nil=>intro q;exact q
 | @cons p q ps qs h t ih =>
  intro r0;have e:KV (putK kvs p.1 p.2) (stored vs q.1 q.2):=by
   have:=r0.put p.1 h.2;rw [<- h.1];exact this
  exact ih e
def n0:∀ (more kvs:List (Key×V)),(gn kvs more).length<=kvs.length+more.length
 | [],kvs=>by show kvs.length<=kvs.length+0;lia
 | p :: r,kvs=>by
  have h1:=n0 r (putK kvs p.1 p.2);have h2:=lM kvs p.1 p.2;show (gn (putK kvs p.1 p.2) r).length<=_;rw [MN];lia
def sW {P:Mh} {w:World}:∀ {kvs:List (Key×V)} {ws:List (Value×Value)},VV (kvs.map fun kv=>(kV kv.1,kv.2)) ws->∃ rs,Carries (cC P w) ws rs/\KV kvs rs
 | [],_,r=>by rw [TK] at r;cases r;exact ⟨[],NN,.nil⟩
 | p :: kvs,_,r=>by
  rw [My] at r;cases r with
  | @cons a b as bs h t =>
   obtain ⟨rs,c,q⟩:=sW (P:=P) (w:=w) t;obtain ⟨b1,b2⟩:=b;exact ⟨(p.1,b2) :: rs,⟨qj h.1,rfl,c⟩,.cons ⟨rfl,h.2⟩ q⟩
def Ia (trs:List (TE×TE)):TE:=fun σ H Q=>∀ p,H p=none->yr trs σ (upd H p (.dK [])) fun ps H2=>H2 p=some (.dK [])/\∃ kvs:List (Key×V),ps=kvs.map (fun kv=>(kV kv.1,kv.2))/\kvs.length<=15/\Q (.ref p) (upd H2 p (.dK (gn [] kvs)))
def Ja {X:Cx} {pos:Pos} {keys:List (Option Expr)} {values:List Expr} {trs:List (TE×TE)} (h:PPs X pos keys values trs) (hall:keys.all (·.isSome)=true) (hl:keys.length=values.length) (h0:keys≠[])
  (h15:keys.length<=15):PE X (.Dict keys values pos) (Ia trs):=by
 intro pins s σ H Q I q;have hn:=I.hok.fresh (Ma s.heap.objs.size);have I1:=I.laid (a:=s.heap.objs.size) (o:=.dK []) (h':=s.heap.push { cls:=.type "dict",data:=.dict #[] }) (t':=s.toks) (fun _ _ q=>LW _ q) (Ma _) (ze s.heap I.big);refine wpAny_Dict_walk (knd:=cC X.prog X.w) hall hl h0 h15 (thn (h pins _ σ _ _ I1 (q _ hn)) fun ws s2 ⟨ps,H2,I2,rel,e,kvs,ep,lk,q2⟩=>?_);subst ep;obtain ⟨rs,c,rk⟩:=sW (P:=X.prog) (w:=X.w) rel;obtain ⟨z,hd,vs0,r0,dd⟩:=BP I2.hok e;cases r0;refine ⟨rs,c,dd,fun h' dd' hs=>⟨.ref s.heap.objs.size,_,?_,rfl,q2⟩⟩;have hz:(gn [] kvs).length<=Mx:=by
  have h1:=n0 kvs [];rw [P4] at h1;rw [MW];lia
 have he:∃ q,h'.get? s.heap.objs.size=some q:=let ⟨q,_,_,hq,_⟩:=dd';⟨q,hq⟩;exact uR I2 (by rw [e];exact NN) hs he (yR hz hd (rk.merge .nil) dd')
section
variable {X:Cx} {pins:List (Addr×Obj)} {σ:St} {H:Hp} {s:LU} {a:Addr} {y d:V} {u r:Value} {o:Option V} {A:MP} {E:Value->LU->Prop}
end
section
variable {X:Cx} {o e f:Expr} {apos cpos:Pos} {td ty tx:TE}
end
section
variable {X:Cx} {pins:List (Addr×Obj)} {σ:St} {H:Hp} {s:LU} {a:Addr} {kvs:List (Key×V)} {A:MP} {E:Value->LU->Prop}
end
section
variable {X:Cx} {pins:List (Addr×Obj)} {σ:St} {H:Hp} {s:LU} {a:Addr} {y:V} {u:Value} {A:MP} {E:Value->LU->Prop}
end
end L2
namespace Att
open PySem PySem.W PySem.Calls PyProof.Rows
section
variable {prog:Mh} {w:World} {A:MP} {E:Value->LU->Prop} {s:LU} {K:Frag}
end
end Att
namespace L2
open PySem PySem.Spec PyProof.Rows
section
variable {P:Mh} {w:World} {K:LN} {mg:Str->Option Value} {base:Heap}
end
section
variable {X:Cx}
end
section
variable {κ:Type} [DecidableEq κ]
def uU:∀ {l:List κ} {k:κ},l.Nodup->¬ k∈l->(l++[k]).Nodup
 | [],k,_,_=>by simp
 | a :: r,k,h,hk=>by
  obtain ⟨h1,h2⟩:=MX.mp h;show (a :: (r++[k])).Nodup;refine MX.mpr ⟨fun m=>?_,uU h2 fun m=>hk (Mp.mpr (Qf m))⟩;rcases Mb.mp m with q|q
  ·exact h1 q
  ·exact hk (Mp.mpr (L7 (LY.mp q).symm))
end
section
variable {K:LN} {H:Hp} {σ:St} {Q:VK} {g:TG} {tt:TT} {ta:TE} {own:List Str} {fr:List Nat}
def yi {J:It} {n:Nat} (W:Addr->Nat->St->Hp->List V->Prop) (hz:n<=100000)
  (hgo:∀ d i σ' H' ys,i<n->W d i σ' H' ys->J.go i H') (hst:∀ d σ' H' ys,W d n σ' H' ys->J.stop n H')
  (hal:∀ d i σ' H' ys,i<=n->W d i σ' H' ys->ys.length<=i) (h0:∀ d,H d=none->W d 0 (dq own fr σ) (upd H d (.lst [])) [])
  (turn:∀ d i σ' H' ys x H2 (R:St->V->Hp->Prop) (R0:St->Hp->Prop),H d=none->i<n->W d i σ' H' ys->H' d=some (.lst ys)->J.yld i H' x H2 ->
   (∀ σ2 y H5,H5 d=some (.lst ys)->W d (i+1) σ2 (upd H5 d (.lst (ys++[y]))) (ys++[y])->R σ2 y H5)->(∀ σ2 H5,H5 d=some (.lst ys)->W d (i+1) σ2 H5 ys->R0 σ2 H5) ->
   g x σ' H2 fun σ2 H3=>tt σ2 H3 fun ok H4=>if ok=true then ta σ2 H4 (R σ2) else R0 σ2 H4)
  (fin:∀ d σ' H' ys,H d=none->H' d=some (.lst ys)->W d n σ' H' ys->Q (.ref d) H'):ji own fr g tt ta σ Q J H:=by
 intro d hd;refine ⟨fun i m σ' H'=>m=n - i/\i<=n/\∃ ys,H' d=some (.lst ys)/\W d i σ' H' ys,⟨n,rfl,MI _,[],ar,h0 d hd⟩,?_⟩;rintro i m σ' H' ⟨rfl,hi,ys,hys,w⟩
 by_cases hlt:i<n
 ·refine .inr ⟨hgo d i σ' H' ys hlt w,fun x H2 hx=>turn d i σ' H' ys x H2 _ _ hd hlt w hys hx (fun σ2 y H5 h1 h2=>?_) (fun σ2 H5 h1 h2=>?_)⟩
  ·have hl:=hal d i σ' H' ys hi w;exact ⟨ys,h1,NL (show ys.length<=100000 by lia) (by rw [MW];decide),n - (i+1),by lia,rfl,hlt,_,ar,h2⟩
  ·exact ⟨n - (i+1),by lia,rfl,hlt,ys,h1,h2⟩
 ·have e:i=n:=by lia
  subst e;exact .inl ⟨hst d σ' H' ys w,fin d σ' H' ys hd hys w⟩
def pA {p:Addr} {xs:List V} (hz:xs.length<=100000) (W:Addr->Nat->St->Hp->List V->Prop) (hw:∀ d i σ' H' ys,W d i σ' H' ys->SqL K H' p xs) (hS:SqL K H p xs)
  (hal:∀ d i σ' H' ys,i<=xs.length->W d i σ' H' ys->ys.length<=i) (h0:∀ d,H d=none->W d 0 (dq own fr σ) (upd H d (.lst [])) [])
  (turn:∀ d i x σ' H' ys (R:St->V->Hp->Prop) (R0:St->Hp->Prop),H d=none->xs[i]?=some x->W d i σ' H' ys->H' d=some (.lst ys) ->
   (∀ σ2 y H5,H5 d=some (.lst ys)->W d (i+1) σ2 (upd H5 d (.lst (ys++[y]))) (ys++[y])->R σ2 y H5)->(∀ σ2 H5,H5 d=some (.lst ys)->W d (i+1) σ2 H5 ys->R0 σ2 H5) ->
   g x σ' H' fun σ2 H3=>tt σ2 H3 fun ok H4=>if ok=true then ta σ2 H4 (R σ2) else R0 σ2 H4)
  (fin:∀ d σ' H' ys,H d=none->H' d=some (.lst ys)->W d xs.length σ' H' ys->Q (.ref d) H'):pP K (.ref p) H (ji own fr g tt ta σ Q):=by
 refine ⟨p,rfl,⟨xs,hS⟩,yi (J:=Itl K p) (n:=xs.length) W hz (fun d i σ' H' ys hi w=>⟨xs,xs[i],hw d i σ' H' ys w,by simp [hi]⟩) (fun d σ' H' ys w=>⟨xs,hw d _ σ' H' ys w,Ma _⟩) hal h0 (fun d i σ' H' ys x H2 R R0 hd hi w hys hy=>?_) fin⟩
 obtain ⟨e1,e2⟩:=hy;subst e1;exact turn d i x σ' _ ys R R0 hd (e2 xs (hw d i σ' _ ys w)) w hys
end
def Tbl.nil {H:Hp} {d:Addr}:Tbl (upd H d (.lst [])) d [] []:=⟨ar,Qt,by simp,rfl,fun i p r e=>by simp at e⟩
def Tbl.snoc {H H5:Hp} {d p:Addr} {L:List (List Nat)} {ps:List Addr} {s:List Nat} (h:Tbl H d L ps) (hs:aj H H5) (hp:H5 p=some (.lst (aO s))) (hn:p∉ps) (hd:p≠d) :
  Tbl (upd H5 d (.lst (ps.map V.ref++[.ref p]))) d (L++[s]) (ps++[p]):=by
 refine ⟨?_,?_,?_,?_,fun i q r e1 e2=>?_⟩
 ·rw [ar,M8];rfl
 ·exact uU h.nd hn
 ·intro z;rcases Mb.mp z with z|z
  ·exact h.ap z
  ·exact hd (LY.mp z).symm
 ·rw [Mq,Mq,h.len];rfl
 ·have hl:=h.len;rcases Mu i ps.length with z|z
  ·rw [MG z] at e1;rw [MG (by lia)] at e2
   have hq:q≠d:=fun c=>h.ap (c ▸ LR e1);rw [aA hq];exact hs _ _ (h.row i q r e1 e2)
  ·rw [MS z] at e1;rw [MS (by lia)] at e2
   have i0:i - ps.length=0:=by
    rcases NZ (i - ps.length) with c|c
    ·exact c
    ·rw [MD (by simp;lia)] at e1;cases e1
   rw [i0] at e1;rw [show i - L.length=0 by lia] at e2
   cases e1;cases e2;rw [aA hd];exact hp
section
variable {H:Hp} {σ:St} {Q:VK} {td ty tv:TE}
def nk (k:Nat):Key:=Sd (k:Int)
def Ie (x y:V) (H:Hp) (Q:VK):Prop:=∃ a v,x=.ref a/\i6 H a y (some v)/\Q v H
def Bq (y x:V) (H:Hp) (Q:VK):Prop:=∃ a o,x=.ref a/\i6 H a y o/\Q (.bl (!o.isSome)) H
def Ig (x y v:V) (H:Hp) (D:Hp->Prop):Prop:=∃ a H4,x=.ref a/\oF H a y v H4/\D H4
def dR (h:td σ H fun x H1=>ty σ H1 fun y H2=>Ie x y H2 Q):HH td ty σ H Q:=h
def Ee (h:ty σ H fun y H1=>td σ H1 fun x H2=>Bq y x H2 Q):A4 ty td σ H Q:=h
def BH {D:Ends} (h:tv σ H fun v H1=>td σ H1 fun x H2=>ty σ H2 fun y H3=>Ig x y v H3 (D.nx σ)):HD td ty tv D σ H:=h
def eU {a:Addr} {k:Nat} {kvs:List (Key×V)} {v:V} (h:H a=some (.dK kvs)) (hv:cO kvs (nk k)=some v) (q:Q v H):Ie (.ref a) (.int (k:Int)) H Q :=
 ⟨a,v,rfl,by rw [<- hv];exact i6.k (k:=nk k) h,q⟩
def Ga {a:Addr} {k:Nat} {kvs:List (Key×V)} (h:H a=some (.dK kvs)) (q:Q (.bl (!(cO kvs (nk k)).isSome)) H):Bq (.int (k:Int)) (.ref a) H Q :=
 ⟨a,_,rfl,i6.k (k:=nk k) h,q⟩
def DZ {D:Hp->Prop} {a:Addr} {k:Nat} {kvs:List (Key×V)} {v:V} (h:H a=some (.dK kvs)) (hl:kvs.length<=100000) (q:D (upd H a (.dK (putK kvs (nk k) v)))):Ig (.ref a) (.int (k:Int)) v H D :=
 ⟨a,_,rfl,oF.k (k:=nk k) h (NL hl (by rw [MW];decide)),q⟩
def Ke (h:∀ p,H p=none->Q (.ref p) (upd H p (.dK []))):Ek σ H Q:=h
def Jv {tk:TE} (h:∀ p,H p=none->tk σ (upd H p (.dK [])) fun x H1=>tv σ H1 fun y H2=>H2 p=some (.dK [])/\∃ kvs:List (Key×V),[(x,y)]=kvs.map (fun kv=>(kV kv.1,kv.2))/\kvs.length<=15/\Q (.ref p) (upd H2 p (.dK (gn [] kvs)))):Ia [(tk,tv)] σ H Q:=h
def lT {a b:Nat} (h:nk a=nk b):a=b:=RH (TV h)
def iS (F:List Nat) (ps:List Addr):List (Key×V):=(F.zip ps).map fun x=>(nk x.1,V.ref x.2)
def Hu {F:List Nat} {ps:List Addr}:(iS F ps).length<=F.length:=by
 unfold iS;rw [LV,QM];lia
def pK:∀ {F:List Nat} {ps:List Addr} {f:Nat},f∉F->cO (iS F ps) (nk f)=none
 | [],_,_,_=>rfl
 | _ :: _,[],_,_=>rfl
 | a :: F,p :: ps,f,h=>by
  have h1:¬ nk a=nk f:=fun z=>h (by rw [lT z];exact L8)
  show cO ((nk a,V.ref p) :: iS F ps) (nk f)=none;rw [je h1];exact pK fun z=>h (L4 _ z)
def nv:∀ {F:List Nat} {ps:List Addr} {j f:Nat} {p:Addr},F.Nodup->F[j]?=some f->ps[j]?=some p->cO (iS F ps) (nk f)=some (.ref p)
 | [],_,_,_,_,_,h,_=>by simp at h
 | _ :: _,[],_,_,_,_,_,h=>by simp at h
 | a :: F,q :: ps,0,f,p,_,h1,h2=>by
  cases h1;cases h2;exact kD rfl
 | a :: F,q :: ps,j+1,f,p,nd,h1,h2=>by
  have h1':F[j]?=some f:=h1;have h2':ps[j]?=some p:=h2;obtain ⟨n1,n2⟩:=MX.mp nd;have h3:¬ nk a=nk f:=fun z=>n1 (by rw [lT z];exact LR h1')
  show cO ((nk a,V.ref q) :: iS F ps) (nk f)=_;rw [je h3];exact nv n2 h1' h2'
def IJ {F:List Nat} {ps:List Addr} {f:Nat} (nd:F.Nodup) (hl:ps.length=F.length):(cO (iS F ps) (nk f)).isSome=decide (f∈F):=by
 by_cases h:f∈F
 ·obtain ⟨j,hj⟩:=Mr h;have hj':j<ps.length:=by rw [hl];exact (LQ.mp hj).1
  rw [nv nd hj (LO hj'),decide_eq_true h];rfl
 ·rw [pK h,decide_eq_false h];rfl
def ER {F:List Nat} {ps:List Addr} {f:Nat} {p:Addr} (hl:ps.length=F.length) (h:f∉F):putK (iS F ps) (nk f) (.ref p)=iS (F++[f]) (ps++[p]):=by
 rw [rM _ (pK h)];unfold iS;rw [List.zip_append hl.symm,M8];rfl
end
section
variable {prog:Mh} {w:World} {A:MP} {s:LU} {R:Rj->LU->Prop}
variable {I:Addr} {fp wr:List Addr} {G:Array Qr->Array Qr->Prop} {n:Nat} {P:Nat->Value->Prop} {St:Nat->LU->Prop}
end
section
variable {prog:Mh} {w:World} {A:MP} {s:LU} {R:Rj->LU->Prop} {E:Value->LU->Prop}
variable {I:Addr} {fp wr:List Addr} {G:Array Qr->Array Qr->Prop} {n:Nat} {P:Nat->Value->Prop} {St:Nat->LU->Prop}
end
def Vals.getL {xs:List V} {us:List Value} (r:Vals xs us) {i:Nat} {x:V} {u:Value} (hx:xs[i]?=some x) (hu:us[i]?=some u):RelV x u:=by
 obtain ⟨u',hu',ru⟩:=r.get hx;rw [hu] at hu';cases hu';exact ru
section
variable {X:Cx} {pins:List (Addr×Obj)} {σ:St} {H:Hp} {s:LU} {a:Addr} {kvs:List (Key×V)} {ep:Nat}
end
def Jz {P:Mh} {w:World} {k:Key} {u:Value} (h:(cC P w).is k u=true):RelV (kV k) u:=by
 rcases cR h with ⟨i,t,rfl,rfl⟩|⟨x,t,rfl,rfl⟩
 ·exact ⟨t,rfl⟩
 ·exact ⟨t,rfl⟩
def KV.get {kvs:List (Key×V)} {vs:List (Key×Value)} (r:KV kvs vs) {i:Nat} {p:Key×V} (h:kvs[i]?=some p):∃ q,vs[i]?=some q/\p.1=q.1/\RelV p.2 q.2:=by
 unfold KV at r
 induction r generalizing i with
 | nil=>simp at h
 | @cons a b as bs hab t ih =>
  cases i with
  | zero=>cases h;exact ⟨b,rfl,hab⟩
  | succ i=>exact ih h
section
variable {P:Mh} {w:World} {σ:St} {H:Hp} {Q:VK} {td ty:TE} {tl:TE} {ta:TA} {K:LN}
end
def KW (f:Int->Int->Int):List V->Hp->VK->Prop:=fun xs H Q=>∃ a b:Int,xs=[.int a,.int b]/\Q (.int (f a b)) H
def DN {X:Cx} (hc:X.calm=true):cA X (.builtin "max") (KW fun a b=>max a b):=by
 intro pins s σ H xs us Q I r h;obtain ⟨a,b,rfl,q⟩:=h;obtain ⟨u,v,rfl,ru,rv⟩:=vals2 r;obtain ⟨t,rfl⟩:=(show ∃ t,u=Ol a t from ru);obtain ⟨t',rfl⟩:=(show ∃ t,v=Ol b t from rv);refine max_two_ints (I.ok.hd hc) fun h' tk k=>⟨.int (max a b),H,I.kept (t':=tk) k,?_,q⟩
 by_cases z:b > a
 ·rw [if_pos z];exact ⟨t',by rw [Int.max_eq_right (Int.le_of_lt z)]⟩
 ·rw [if_neg z];exact ⟨t,by rw [Int.max_eq_left (by lia)]⟩
section
variable {X:Cx} {CX:CXT} {k:Nat} {f C:Addr} {fd:Na} {ps:List Str} {sp:Sp} {m:Str} {pos apos:Pos} {e o:Expr} {es:List Expr} {ta:TE} {t:TA}
end
section
variable {σ:St} {H:Hp} {Q:VK} {K:LN}
def Ll {f:Int->Int->Int} {a b:Int} (q:Q (.int (f a b)) H):KW f [.int a,.int b] H Q:=⟨a,b,rfl,q⟩
def EG {a b:Int} (q:Q (.int (a+b)) H):rI0 (fun i j=>.int (i+j)) (.int a) (.int b) H Q:=⟨a,b,rfl,rfl,q⟩
def Ei {a b:Int} (h:0<b) (q:Q (.int (a % b)) H):rI (fun _ j=>0<j) (fun i j=>.int (i % j)) (.int a) (.int b) H Q:=⟨a,b,rfl,rfl,h,q⟩
def tN {a b:Int} (h:0<b) (h2:b<1073741824) (q:Q (.int (a / b)) H):rI GC (fun i j=>.int (i / j)) (.int a) (.int b) H Q:=⟨a,b,rfl,rfl,⟨by lia,by lia⟩,q⟩
end
def HX (vs:List V) (H:Hp) (R:It->Hp->Prop):Prop:=∃ i j:Int,vs=[.int i,.int j]/\(-(2 ^ 62)<=i/\i<2 ^ 62/\-(2 ^ 62)<=j/\j<2 ^ 62)/\R (Itr i (j - i).toNat) H
def Cn {X:Cx} {tg a b:Expr} {ta:TA} {p pos:Pos} (hg:Gl X "range") (hm:X.mg "range" = none) (ha:PA X [a,b] ta) (hn:isStar a=false:=by rfl) (hn2:isStar b=false:=by rfl):PI X tg (.Call (.Name "range" p) [a,b] [] pos) (B5 ta) :=
 DO hg hm ha (by rw [bz hn,bz hn2];rfl) (by rw [bz hn2];rfl)
section
variable {σ:St} {H:Hp} {Q:VK} {D:Ends} {g:TG} {t:TS} {tA:TA} {tt:TT} {ta:TE} {own:List Str} {fr:List Nat}
def Jt {R:It->Hp->Prop} (h:tA σ H fun vs H1=>HX vs H1 R):B5 tA σ H R:=h
end
section
variable {X:Cx} {scope:Scope} {own:List Str} {fr:List Nat} {pins:List (Addr×Obj)} {σ:St} {H₂:Hp} {s₂:LU} {fp:List Addr} {C D:Addr} {h₁:Heap} {m:Str->Option Value} {tk:Nat}
end
section
variable {X:Cx} {elt tg iter:Expr} {ifs:List Expr} {scope:Scope} {pos:Pos} {own:List Str} {fr:List Nat} {wi:TI} {g:TG} {tt:TT} {te:TE}
end
section
variable {K:LN} {H:Hp} {σ:St} {Q:VK} {tt:TT} {ta:TE} {own:List Str} {fr:List Nat}
def G5 {p p2:Addr} {xs ys:List V} {ia ib:Nat} (he:xs.length=ys.length) (hz:xs.length<=100000) (W:Addr->Nat->St->Hp->List V->Prop) (hw:∀ d i σ' H' zs,W d i σ' H' zs->SqL K H' p xs) (hw2:∀ d i σ' H' zs,W d i σ' H' zs->SqL K H' p2 ys) (hS:SqL K H p xs) (hS2:SqL K H p2 ys)
  (hal:∀ d i σ' H' zs,i<=xs.length->W d i σ' H' zs->zs.length<=i) (h0:∀ d,H d=none->W d 0 (dq own fr σ) (upd H d (.lst [])) [])
  (turn:∀ d i x y σ' H' H2 zs (R:St->V->Hp->Prop) (R0:St->Hp->Prop),H d=none->xs[i]?=some x->ys[i]?=some y->W d i σ' H' zs->H' d=some (.lst zs)->aj H' H2 ->
   (∀ σ2 y H5,H5 d=some (.lst zs)->W d (i+1) σ2 (upd H5 d (.lst (zs++[y]))) (zs++[y])->R σ2 y H5)->(∀ σ2 H5,H5 d=some (.lst zs)->W d (i+1) σ2 H5 zs->R0 σ2 H5) ->
   tt ((σ'.set ia (some x)).set ib (some y)) H2 fun ok H4=>if ok=true then ta ((σ'.set ia (some x)).set ib (some y)) H4 (R ((σ'.set ia (some x)).set ib (some y))) else R0 ((σ'.set ia (some x)).set ib (some y)) H4)
  (fin:∀ d σ' H' zs,H d=none->H' d=some (.lst zs)->W d xs.length σ' H' zs->Q (.ref d) H'):Gy K [.ref p,.ref p2] H (ji own fr (B6 K 2 (mW (iF ia) (mW (iF ib) Cu))) tt ta σ Q):=by
 refine ⟨p,p2,xs,ys,rfl,hS,hS2,yi (J:=Itz K p p2) (n:=xs.length) W hz (fun d i σ' H' zs hi w=>⟨xs,xs[i],ys,ys[i]'(by lia),hw d i σ' H' zs w,by simp [hi],hw2 d i σ' H' zs w,by simp [show i<ys.length by lia]⟩)
  (fun d σ' H' zs w=>⟨xs,ys,hw d _ σ' H' zs w,hw2 d _ σ' H' zs w,.inl (Ma _)⟩) hal h0 (fun d i σ' H' zs x H2 R R0 hd hi w hzs hy hR hR0=>?_) fin⟩
 obtain ⟨q,x',y',rfl,hq,rfl,e2,e3⟩:=hy;have hx:=e2 xs (hw d i σ' H' zs w);have hy:=e3 ys (hw2 d i σ' H' zs w);refine ⟨q,[x',y'],rfl,SqT.of ar,rfl,⟨_,_,rfl,⟨_,_,rfl,⟨rfl,?_⟩⟩⟩⟩;exact turn d i x' y' σ' H' _ zs R R0 hd hx hy w hzs (ay hq _) hR hR0
end
section
variable {X:Cx}
end
end L2
namespace L2
section
variable {α:Type} {us:List α}
def len0 (h:us.length=0):us=[]:=O3.mp h
def uv {n:Nat} (h:us.length=n+1):∃ a r,us=a :: r/\r.length=n:=by
 cases us with
 | nil=>simp at h
 | cons a r=>exact ⟨a,r,rfl,by simpa using h⟩
def Ho (h:us.length=1):∃ a,us=[a]:=by
 obtain ⟨a,r,rfl,h2⟩:=uv h;obtain rfl:=len0 h2;exact ⟨a,rfl⟩
def uX (h:us.length=2):∃ a b,us=[a,b]:=by
 obtain ⟨a,r,rfl,h2⟩:=uv h;obtain ⟨b,rfl⟩:=Ho h2;exact ⟨a,b,rfl⟩
def yo (h:us.length=3):∃ a b c,us=[a,b,c]:=by
 obtain ⟨a,r,rfl,h2⟩:=uv h;obtain ⟨b,c,rfl⟩:=uX h2;exact ⟨a,b,c,rfl⟩
def yj (h:us.length=4):∃ a b c d,us=[a,b,c,d]:=by
 obtain ⟨a,r,rfl,h2⟩:=uv h;obtain ⟨b,c,d,rfl⟩:=yo h2;exact ⟨a,b,c,d,rfl⟩
def Hr (h:us.length=5):∃ a b c d e,us=[a,b,c,d,e]:=by
 obtain ⟨a,r,rfl,h2⟩:=uv h;obtain ⟨b,c,d,e,rfl⟩:=yj h2;exact ⟨a,b,c,d,e,rfl⟩
def LF (h:us.length=6):∃ a b c d e f,us=[a,b,c,d,e,f]:=by
 obtain ⟨a,r,rfl,h2⟩:=uv h;obtain ⟨b,c,d,e,f,rfl⟩:=Hr h2;exact ⟨a,b,c,d,e,f,rfl⟩
end
end L2
namespace L2
open PySem PySem.Spec PyProof.Rows
def bB.there {P:Mh} {w:World} {H:Hp} {h:Heap} {a:Addr} {o:HO} (x:bB P w H h a o):∃ ob,h.get? a=some ob:=by
 cases o with
 | lst xs=>obtain ⟨_,_,_,_,e⟩:=x;exact ⟨_,e⟩
 | tup xs=>obtain ⟨_,_,_,ob,e,_⟩:=x;exact ⟨_,e⟩
 | dK kvs=>obtain ⟨_,_,_,_,o,_,_,e,_⟩:=x;exact ⟨_,e⟩
 | dT kvs=>obtain ⟨_,_,_,_,o,_,_,e,_⟩:=x;exact ⟨_,e⟩
 | set S n=>obtain ⟨o,_,_,_,e,_⟩:=x;exact ⟨_,e⟩
 | ins C dx fs=>obtain ⟨_,_,_,e,_⟩:=x;exact ⟨_,e⟩
 | own y=>exact x
 | xd fs=>obtain ⟨_,⟨_,_,_,e,_⟩,_⟩:=x;exact ⟨_,e⟩
 | rng lo hi=>obtain ⟨_,_,_,e⟩:=x;exact ⟨_,e⟩
 | frz ob u=>obtain ⟨e,_⟩:=x;exact ⟨_,e⟩
 | tbl ps=>exact ⟨_,(show h.get? a=some _ from x)⟩
 | met f y=>exact ⟨_,(show h.get? a=some _ from x)⟩
 | ext φ=>obtain ⟨_,e,_⟩:=x;exact e
def fH (h:Heap) (x T C:Addr) (d:Option Addr) (fl:Value):Prop:=∃ oe vs oT ts,h.get? x=some oe/\oe.cls=.ref C/\oe.dict=d/\oe.data=.fields vs/\vs[1]?=some (.ref T)/\T≠x/\h.get? T=some oT/\oT.data=.fields ts/\ts[3]?=some fl
abbrev lP (h:Heap) (x T C:Addr) (d:Option Addr):Prop:=fH h x T C d .none
def lI (h:Heap) (x C:Addr) (d:Option Addr):Prop:=∃ oe vs,h.get? x=some oe/\oe.cls=.ref C/\oe.dict=d/\oe.data=.fields vs/\vs[1]?=some .none
def tO (h:Heap) (b:Addr):Prop:=∃ o vs,h.get? b=some o/\o.data=.fields vs
def fH.iX {h:Heap} {x T C:Addr} {d:Option Addr} {fl:Value} (e:fH h x T C d fl):∀ b∈[x,T],tO h b:=fun b hb=>by
 obtain ⟨oe,vs,oT,ts,e1,_,_,e3,_,_,e6,e7,_⟩:=e;rcases Mp.mp hb with rfl|hb
 ·exact ⟨_,_,e1,e3⟩
 ·obtain rfl:=LY.mp hb;exact ⟨_,_,e6,e7⟩
def lI.iX {h:Heap} {x C:Addr} {d:Option Addr} (e:lI h x C d):∀ b∈[x],tO h b:=fun b hb=>by
 obtain ⟨oe,vs,e1,_,_,e3,_⟩:=e;obtain rfl:=LY.mp hb;exact ⟨_,_,e1,e3⟩
structure dN (l:List Env) (x:Addr) (ts:List Addr) (C:Addr) (d:Option Addr) (fl:Value) (T:Addr) (h h':Heap):Prop where
 keep:∀ b o,b∉frs l->b≠x->b∉ts->h.get? b=some o->h'.get? b=some o
 slot:∀ b o,b∈frs l->h.get? b=some o->∃ sl,h'.get? b=some { o with slots:=sl }
 exc:fH h' x T C d fl
 new:T∈ts\/h.get? T=none
def dN.on {l:List Env} {x T C:Addr} {ts:List Addr} {d:Option Addr} {f1 f2:Value} {h h1 h2:Heap} (a:dN l x ts C d f1 T h h1) (b:dN l x [T] C d f2 T h1 h2):dN l x ts C d f2 T h h2 where
 keep:=fun c o k1 k2 k3 q=>b.keep c o k1 k2 (fun z=>by
  rw [LY.mp z] at k3 q;exact a.new.elim k3 fun y=>by rw [y] at q;cases q) (a.keep c o k1 k2 k3 q)
 slot:=fun c o k q=>by
  obtain ⟨s1,q1⟩:=a.slot c o k q;obtain ⟨s2,q2⟩:=b.slot c _ k q1;exact ⟨s2,q2⟩
 exc:=b.exc
 new:=a.new
section
variable {M:Model} {A:MP} {E:Value->LU->Prop} {s:LU} {base:Heap} {env:Env} {outer:List Env} {L x T C:Addr} {d:Option Addr} {fl:Value} {Q:Unit->LU->Prop}
def uM (f:Array Value->Array Value) (o:Obj):(Tp f o).dict=o.dict:=by
 obtain ⟨oc,od,odt,osl⟩:=o;cases odt <;> rfl
def wu {head:Value} {hadNext:Bool} {oe:Obj} {vs:Array Value} (hfr:A.frames=some (env :: outer)) (hl:s.heap.FunFrames base (env :: outer)) (hf:env.frame=some L)
  (he:s.heap.get? x=some oe) (hc:oe.cls=.ref C) (hi:oe.dict=d) (hd:oe.data=.fields vs) (hz:1<vs.size) (h:∀ h' T,dN (env :: outer) x [] C d (rawInt L) T s.heap h'->Q () { s with heap:=h' }) :
  wpAny M A (frameOf env >>= fun a=>entryPlaceOf L hadNext >>= fun pl=>S7 head a .none (rawInt L) .none pl >>= fun b=>setField (.ref x) 1 b) Q E s:=by
 have nx:x∉frs (env :: outer):=fun hm=>by
  obtain ⟨_,o,ho,hn⟩:=hl.mem hm;rw [he] at ho;cases ho;exact hn vs hd
 refine LP (wpAny_frameOf_fun hfr hl hf fun h1 hs=>LP (wpAny_entryPlaceOf fun pl hpl=>?_));unfold S7 newFields;refine LP (N8 ?_ (hpl.sizeOk5 _ _ _ _ _));have h3:([head,.ref L,.none,rawInt L,.none]++(if pl.isEmpty then Md 6 Ng else pl)).toArray[3]?=some (rawInt L):=by simp
 generalize ([head,.ref L,.none,rawInt L,.none]++(if pl.isEmpty then Md 6 Ng else pl)).toArray=arr at h3;have e1:h1.get? x=some oe:=(hs.2.1 x nx).trans he;have nT:h1.objs.size≠x:=OH (L5 e1);have fresh:s.heap.get? h1.objs.size=none:=by
  cases q:s.heap.get? h1.objs.size with
  | none=>rfl
  | some o =>
   obtain ⟨sl,z⟩:=hs.2.2 _ _ q;exact absurd (L5 z) (Oo _)
 refine SY (LW _ e1) hd hz (h _ h1.objs.size ⟨fun b o k1 k2 _ q=>?_,fun b o k1 q=>?_,?_,.inr fresh⟩)
 ·rw [Nb _ _ (NI k2)];exact LW _ ((hs.2.1 b k1).trans q)
 ·obtain ⟨sl,z⟩:=hs.2.2 b o q;refine ⟨sl,?_⟩;rw [Nb _ _ (fun y=>nx (by rw [y];exact k1))]
  exact LW _ z
 ·have hd':=Q2 hd (·.setIfInBounds 1 (Ms h1.objs.size));exact ⟨_,_,_,arr,NB _ (LW _ e1) (Sr hd'),(Obj.cls_mapFields _ _).trans hc,(uM _ _).trans hi,hd',by simp [hz],nT,
   (Nb _ _ (NI nT)).trans (Mo h1 rfl),rfl,h3⟩
def tS (hfr:A.frames=some (env :: outer)) (hl:s.heap.FunFrames base (env :: outer)) (hf:env.frame=some L) (he:lI s.heap x C d)
  (h:∀ h' T,dN (env :: outer) x [] C d (rawInt L) T s.heap h'->Q () { s with heap:=h' }):wpAny M A (noteFrame (.ref x) env) Q E s:=by
 obtain ⟨oe,vs,e1,e2,e3,e4,e5⟩:=he;unfold noteFrame;simp only [hf];refine LP (Ob e1 e4 e5 ?_);rw [if_neg (by decide)]
 exact wu hfr hl hf e1 e2 e3 e4 (NH.mp e5).1 h
def yd (hfr:A.frames=some (env :: outer)) (hl:s.heap.FunFrames base (env :: outer)) (hf:env.frame=some L) (he:fH s.heap x T C d fl) (hne:fl≠rawInt L)
  (h:∀ h' T',dN (env :: outer) x [T] C d (rawInt L) T' s.heap h'->Q () { s with heap:=h' }):wpAny M A (noteFrame (.ref x) env) Q E s:=by
 obtain ⟨oe,vs,oT,ts,e1,e2,e3,e4,e5,e6,e7,e8,e9⟩:=he;unfold noteFrame;simp only [hf];refine LP (Ob e1 e4 e5 ?_);rw [if_pos (by simp)]
 refine LP (Ob e7 e8 e9 ?_);rw [if_neg (fun z=>hne (eq_of_beq z))];have hz:=(NH.mp e9).1;refine LP (SY e7 e8 hz ?_);have other:∀ b,b≠T->(s.heap.update T (Tp (·.setIfInBounds 3 Ng))).get? b=s.heap.get? b:=fun b hb=>Nb _ _ (NI hb);have norec:∀ b o,s.heap.get? b=some o->(∀ vs,o.data≠.fields vs)->b≠T:=fun b o q n z=>by
  rw [z,e7] at q;cases q;exact n ts e8
 refine wu hfr (hl.of_keeps fun b o q n=>⟨o,(other b (norec b o q n)).trans q,rfl⟩) hf ((other x (NI e6)).trans e1) e2 e3 e4 (NH.mp e5).1 fun h' T' F=>h h' T' ⟨fun b o k1 k2 k3 q=>?_,fun b o k1 q=>?_,F.exc,?_⟩
 ·exact F.keep b o k1 k2 (by simp) ((other b fun z=>k3 (z ▸ .head _)).trans q)
 ·obtain ⟨_,o',ho',hn⟩:=hl.mem k1;rw [q] at ho';cases ho';exact F.slot b o k1 ((other b (norec b o q hn)).trans q)
 ·rcases F.new with z|z
  ·simp at z
  ·by_cases y:T'=T
   ·exact .inl (y ▸ .head _)
   ·rw [other T' y] at z;exact .inr z
def uE (hfr:A.frames=some (env :: outer)) (hl:s.heap.FunFrames base (env :: outer)) (hf:env.frame=some L) (he:lP s.heap x T C d)
  (h:∀ h' T',dN (env :: outer) x [T] C d (rawInt L) T' s.heap h'->Q () { s with heap:=h' }):wpAny M A (noteFrame (.ref x) env) Q E s:=yd hfr hl hf he (by simp [rawInt]) h
def nB (hf:env.frame=some L) (he:fH s.heap x T C d (rawInt L)) (h:Q () s):wpAny M A (noteFrame (.ref x) env) Q E s:=by
 obtain ⟨oe,vs,oT,ts,e1,e2,e3,e4,e5,e6,e7,e8,e9⟩:=he;unfold noteFrame;simp only [hf];refine LP (Ob e1 e4 e5 ?_);rw [if_pos (by simp)]
 refine LP (Ob e7 e8 e9 ?_);rw [if_pos (by simp)]
 exact LZ h
def yc {l:List Env} {fr:Option Addr} (hl:s.heap.FunFrames base l) (he:fH s.heap x T C d fl)
  (h:∀ h',(∀ b,b≠T->h'.get? b=s.heap.get? b)->dN l x [T] C d (fr.elim .none fun f=>rawInt f) T s.heap h'->Q () { s with heap:=h' }):wpAny M A (setFlight (.ref x) fr) Q E s:=by
 obtain ⟨oe,vs,oT,ts,e1,e2,e3,e4,e5,e6,e7,e8,e9⟩:=he;unfold setFlight;refine LP (Ob e1 e4 e5 ?_);rw [if_pos (by simp)]
 have hz:=(NH.mp e9).1;have other:∀ b,b≠T->(s.heap.update T (Tp (·.setIfInBounds 3 (fr.elim Ng fun f=>rawInt f)))).get? b=s.heap.get? b:=fun b hb=>Nb _ _ (NI hb);refine SY e7 e8 hz (h _ other ⟨fun b o _ _ k3 q=>(other b fun z=>k3 (z ▸ .head _)).trans q,fun b o k1 q=>?_,?_,.inl (.head _)⟩)
 ·obtain ⟨_,o',ho',hn⟩:=hl.mem k1;refine ⟨o.slots,(other b fun z=>?_).trans q⟩;rw [z,e7] at ho';cases ho';exact hn ts e8
 ·exact ⟨oe,vs,_,_,(other x (NI e6)).trans e1,e2,e3,e4,e5,e6,NB _ e7 (Sr (Q2 e8 _)),Q2 e8 _,by simp [hz]⟩
def fj {l:List Env} (hl:s.heap.FunFrames base l) (he:fH s.heap x T C d fl) (h:∀ h',dN l x [T] C d .none T s.heap h'->Q () { s with heap:=h' }):wpAny M A (setFlight (.ref x) none) Q E s:=yc hl he fun h' _ F=>h h' F
def dN.eK {l:List Env} {ts:List Addr} {h h':Heap} (F:dN l x ts C d fl T h h') (hl:h.FunFrames base l):h'.FunFrames base l:=by
 have all:∀ m:List Env,(∀ b∈frs m,b∈frs l)->h.FunFrames base m->h'.FunFrames base m:=by
  intro m
  induction m with
  | nil=>intro _ _;trivial
  | cons e r ih =>
   intro hs ⟨hk,⟨L,o,hf,hn,ho,hd⟩,hr⟩;have e1:frs (e :: r)=L :: frs r:=by unfold frs;rw [N6,hf]
   rw [e1] at hs;obtain ⟨sl,q⟩:=F.slot L o (hs L (.head _)) ho;exact ⟨hk,⟨L,_,hf,hn,q,hd⟩,ih (fun b hb=>hs b (.tail _ hb)) hr⟩
 exact all l (fun _ z=>z) hl
def B9 (hfr:A.frames=some (env :: outer)) (hl:s.heap.FunFrames base (env :: outer)) (hf:env.frame=some L) (he:lP s.heap x T C d)
  (h:∀ h' T',dN (env :: outer) x [T] C d .none T' s.heap h'->Q () { s with heap:=h' }):wpAny M A (leaving env (.ref x)) Q E s:=by
 unfold leaving;exact LP (uE hfr hl hf he fun h1 T1 F1=>fj (s:={ s with heap:=h1 }) (F1.eK hl) F1.exc fun h2 F2=>h h2 T1 (F1.on F2))
def Ar (hfr:A.frames=some (env :: outer)) (hl:s.heap.FunFrames base (env :: outer)) (hf:env.frame=some L) (he:lI s.heap x C d)
  (h:∀ h' T',dN (env :: outer) x [] C d .none T' s.heap h'->Q () { s with heap:=h' }):wpAny M A (leaving env (.ref x)) Q E s:=by
 unfold leaving;exact LP (tS hfr hl hf he fun h1 T1 F1=>fj (s:={ s with heap:=h1 }) (F1.eK hl) F1.exc fun h2 F2=>h h2 T1 (F1.on F2))
def leave_held (hl:s.heap.FunFrames base (env :: outer)) (hf:env.frame=some L) (he:fH s.heap x T C d (rawInt L))
  (h:∀ h',dN (env :: outer) x [T] C d .none T s.heap h'->Q () { s with heap:=h' }):wpAny M A (leaving env (.ref x)) Q E s:=by
 unfold leaving;exact LP (nB hf he (fj hl he h))
def yO (hfr:A.frames=some (env :: outer)) (hl:s.heap.FunFrames base (env :: outer)) (hf:env.frame=some L) (he:fH s.heap x T C d fl)
  (h:∀ h' T',dN (env :: outer) x [T] C d (rawInt L) T' s.heap h'->Q () { s with heap:=h' }):wpAny M A (noteFrame (.ref x) env) Q E s:=by
 by_cases hne:fl=rawInt L
 ·subst hne;exact nB hf he (h s.heap T ⟨fun _ _ _ _ _ q=>q,fun b o _ q=>⟨o.slots,q⟩,he,.inl (.head _)⟩)
 ·exact yd hfr hl hf he hne h
def DS (hfr:A.frames=some (env :: outer)) (hl:s.heap.FunFrames base (env :: outer)) (hf:env.frame=some L) (he:fH s.heap x T C d fl)
  (h:∀ h' T',dN (env :: outer) x [T] C d .none T' s.heap h'->Q () { s with heap:=h' }):wpAny M A (leaving env (.ref x)) Q E s:=by
 unfold leaving;exact LP (yO hfr hl hf he fun h1 T1 F1=>fj (s:={ s with heap:=h1 }) (F1.eK hl) F1.exc fun h2 F2=>h h2 T1 (F1.on F2))
def En (hfr:A.frames=some (env :: outer)) (hl:s.heap.FunFrames base (env :: outer)) (hf:env.frame=some L) (he:lP s.heap x T C d)
  (h:∀ h' T',dN (env :: outer) x [T] C d .none T' s.heap h'->Q () { s with heap:=h' }):wpAny M A (noteFrame (.ref x) env) (fun _ s₂=>wpAny M A (setFlight (.ref x) none) Q E s₂) E s :=
 uE hfr hl hf he fun h1 T1 F1=>fj (s:={ s with heap:=h1 }) (F1.eK hl) F1.exc fun h2 F2=>h h2 T1 (F1.on F2)
end
structure Up (X:Cx) (pins:List (Addr×Obj)) (σ:St) (H:Hp) (s:LU) (x:Addr) (ts:List Addr):Prop where
 inv:Inv X pins σ H s
 fx:H x=none
 fT:∀ b∈ts,H b=none
 nx:X.s₀.heap.get? x=none
 nT:∀ b∈ts,X.s₀.heap.get? b=none
 px:∀ p∈X.pn++pins,p.1≠x/\p.1∉ts
section
variable {X:Cx} {pins:List (Addr×Obj)} {σ:St} {H H':Hp} {s s':LU} {x T C:Addr} {d:Option Addr} {fl:Value} {ts:List Addr} {h':Heap} {E:XK} {e:Value}
def Inv.fsF (I:Inv X pins σ H s):∀ b∈X.fs,H b=none:=fun b hb=>by
 obtain ⟨_,o,ho,_⟩:=I.ok.eK.mem hb;exact I.base.free b o ho (I.ok.frf b hb) fun z=>I.ok.rD b z hb
def Inv.o9 (I:Inv X pins σ H s) {b:Addr} (r:tO s.heap b):b≠X.env.locals/\(∀ y c,X.env.cells.lookup y=some c->c≠b)/\b∉frs X.stack/\b∉X.fs:=by
 obtain ⟨o,vs,ho,hd⟩:=r;refine ⟨fun z=>?_,fun y c e z=>?_,fun z=>?_,fun z=>?_⟩
 ·obtain ⟨m,⟨oL,es,ep,hoL,hdL,_⟩,_⟩:=I.loc;rw [<- z,ho] at hoL;cases hoL;rw [hd] at hdL;cases hdL
 ·obtain ⟨v,oc,hoc,hdc⟩:=I.cell y c e;rw [z,ho] at hoc;cases hoc;rw [hd] at hdc;cases hdc
 ·obtain ⟨_,o',ho',hnf⟩:=I.stack.mem z;rw [ho] at ho';cases ho';exact hnf vs hd
 ·obtain ⟨_,o',ho',hnf⟩:=I.eK.mem z;rw [ho] at ho';cases ho';exact hnf vs hd
def Inv.land {ch:List Addr} (I:Inv X pins σ H s)
  (hch:∀ b∈ch,X.s₀.heap.get? b=none/\b≠X.env.locals/\(∀ x c,X.env.cells.lookup x=some c->c≠b)/\∀ p∈X.pn++pins,p.1≠b) (hfr:∀ b∈ch,H b=none)
  (keep:∀ b o,b≠X.env.locals->b∉X.fs->b∉ch->s.heap.get? b=some o->h'.get? b=some o)
  (slot:∀ b o,b=X.env.locals\/b∈X.fs->s.heap.get? b=some o->∃ sl,h'.get? b=some { o with slots:=sl }):Inv X pins σ H { s with heap:=h' }:=by
 have neL:∀ b o,X.s₀.heap.get? b=some o->b≠X.env.locals:=fun b o e=>Mc (Mm (L5 e) I.ok.above);have neC:∀ b o,X.s₀.heap.get? b=some o->b∉ch:=fun b o e hb=>by rw [(hch b hb).1] at e;cases e
 have trk:∀ b u o,H b=some u->s.heap.get? b=some o->h'.get? b=some o:=fun b u o e q =>
  keep b o (fun z=>by rw [z,I.free] at e;cases e) (fun z=>by rw [I.fsF b z] at e;cases e) (fun z=>by rw [hfr b z] at e;cases e) q
 have any:∀ b o,b∉ch->s.heap.get? b=some o->∃ sl,h'.get? b=some { o with slots:=sl }:=fun b o hb q=>by
  by_cases z:b=X.env.locals\/b∈X.fs
  ·exact slot b o z q
  ·exact ⟨o.slots,keep b o (fun y=>z (.inl y)) (fun y=>z (.inr y)) hb q⟩
 have cellK:∀ x c,X.env.cells.lookup x=some c->∀ v,s.heap.IsCell c v->h'.IsCell c v:=fun x c e v ⟨o,ho,hd⟩=>by
  obtain ⟨sl,q⟩:=any c o (fun z=>(hch c z).2.2.1 x c e rfl) ho;exact ⟨_,q,hd⟩
 refine ⟨I.ok,I.os,I.bare,⟨fun b o e n hb hx=>keep b o (neL b o e) hb (neC b o e) (I.base.keep b o e n hb hx),fun b o e n hb hx=>?_,I.base.free,fun b o e hx=>?_,I.base.gh,I.base.fU,I.base.gj⟩,?_,fun x c e=>?_,I.free,I.eD,fun p hp=>?_,fun a o e=>?_,I.len⟩
 ·obtain ⟨sl,e1⟩:=I.base.slot b o e n hb hx;obtain ⟨sl',e2⟩:=slot b _ (.inr hb) e1;exact ⟨sl',e2⟩
 ·obtain ⟨o',e1⟩:=I.base.there b o e hx;obtain ⟨sl,q⟩:=any b o' (neC b o e) e1;exact ⟨_,q⟩
 ·obtain ⟨m,hn,hl⟩:=I.loc;obtain ⟨oL,es,ep,ho,r⟩:=hn;obtain ⟨sl,hL⟩:=slot _ oL (.inl rfl) ho;refine ⟨m,⟨_,es,ep,hL,r⟩,fun i x v e1 e2 e3=>?_⟩;obtain ⟨u,r,l⟩:=hl i x v e1 e2 e3;refine ⟨u,r,?_⟩;rcases l with l|⟨k,c,e,z⟩
  ·exact .inl l
  ·exact .inr ⟨k,c,e,cellK x c e _ z⟩
 ·obtain ⟨v,z⟩:=I.cell x c e;exact ⟨v,cellK x c e v z⟩
 ·obtain ⟨e,n,ne,nf,d⟩:=I.pin p hp;exact ⟨keep p.1 p.2 ne nf (fun z=>(hch p.1 z).2.2.2 p hp rfl) e,n,ne,nf,d⟩
 ·refine (I.hok a o e).kQ (fun b u hb q=>?_) (fun _ q=>q) fun _ _ q=>q;rcases hb with rfl|hb
  ·exact trk _ _ _ e q
  ·exact trk _ _ _ hb q
def Up.land (U:Up X pins σ H s x ts) (hex:X.ex=[]) (hd:∀ b∈x :: ts,tO s.heap b) (F:dN X.stack x ts C d fl T s.heap h'):Up X pins σ H { s with heap:=h' } x [T]:=by
 have I:=U.inv;have hch:∀ b∈x :: ts,X.s₀.heap.get? b=none/\H b=none/\∀ p∈X.pn++pins,p.1≠b:=fun b hb=>by
  rcases Mp.mp hb with rfl|hb
  ·exact ⟨U.nx,U.fx,fun p hp=>(U.px p hp).1⟩
  ·exact ⟨U.nT b hb,U.fT b hb,fun p hp z=>(U.px p hp).2 (z ▸ hb)⟩
 have J:Inv X pins σ H { s with heap:=h' }:=by
  refine I.land (ch:=x :: ts) (fun b hb=>⟨(hch b hb).1,(I.o9 (hd b hb)).1,(I.o9 (hd b hb)).2.1,(hch b hb).2.2⟩) (fun b hb=>(hch b hb).2.1) (fun b o h1 h2 h3 q=>?_) (fun b o hb q=>?_)
  ·exact F.keep b o (fun z=>(Mp.mp (I.uc b z)).elim h1 h2) (fun z=>h3 (z ▸ .head _)) (fun z=>h3 (.tail _ z)) q
  ·by_cases z:b∈frs X.stack
   ·exact F.slot b o z q
   ·have nr:b∉x :: ts:=fun y=>by
     obtain ⟨n1,_,_,n4⟩:=I.o9 (hd b y);exact hb.elim n1 n4
    exact ⟨o.slots,F.keep b o z (fun y=>nr (y ▸ .head _)) (fun y=>nr (.tail _ y)) q⟩
 have hor:=F.new;refine ⟨J,U.fx,fun b hb=>?_,U.nx,fun b hb=>?_,fun p hp=>⟨(U.px p hp).1,fun hb=>?_⟩⟩
 ·obtain rfl:=LY.mp hb;rcases hor with z|z
  ·exact U.fT _ z
  ·cases q:H b with
   | none=>rfl
   | some u=>obtain ⟨ob,e⟩:=(I.hok b u q).there;rw [z] at e;cases e
 ·obtain rfl:=LY.mp hb;rcases hor with z|z
  ·exact U.nT _ z
  ·cases q:X.s₀.heap.get? b with
   | none=>rfl
   | some o=>obtain ⟨ob,e⟩:=I.base.there b o q (by rw [hex];simp);rw [z] at e;cases e
 ·have hb':=LY.mp hb;rcases hor with z|z
  ·exact (U.px p hp).2 (hb' ▸ z)
  ·have e:=(I.pin p hp).1;rw [hb',z] at e;cases e
def CXR (P:Mh) (w:World):CXT:=fun outer H s E e s'=>∃ x T C d H',e=.ref x/\s'.os=s.os/\RD s'.gens/\Un (frs outer) [] H H' s.heap s'.heap/\HOk P w H' s'.heap/\s.heap.get? x=none/\s.heap.get? T=none /\
 H' x=none/\H' T=none/\lP s'.heap x T C d/\E (.ref C) d H'
def vX (I:Inv X pins σ H s) (hex:X.ex=[]) (h:CXR X.prog X.w X.stack H s E e s'):∃ x T C d H',e=.ref x/\lP s'.heap x T C d/\Up X pins σ H' s' x [T]/\E (.ref C) d H':=by
 obtain ⟨x,T,C,d,H',rfl,os,bare,un,hok,nx,nT,fx,fT,he,q⟩:=h;have nw:∀ b,s.heap.get? b=none->X.s₀.heap.get? b=none:=fun b n=>by
  cases q:X.s₀.heap.get? b with
  | none=>rfl
  | some o=>obtain ⟨ob,e⟩:=I.base.there b o q (by rw [hex];simp);rw [n] at e;cases e
 refine ⟨x,T,C,d,H',rfl,he,⟨I.HP (ch:=[]) os un hok bare (fun b z=>absurd z (by simp)),fx,fun b hb=>?_,nw _ nx,fun b hb=>?_,fun p hp=>⟨fun z=>?_,fun z=>?_⟩⟩,q⟩
 ·obtain rfl:=LY.mp hb;exact fT
 ·obtain rfl:=LY.mp hb;exact nw _ nT
 ·have e:=(I.pin p hp).1;rw [z,nx] at e;cases e
 ·have e:=(I.pin p hp).1;rw [LY.mp z,nT] at e;cases e
end
def Lets (X:Cx) (E:XK):Prop:=∀ (pins:List (Addr×Obj)) (σ:St) (H:Hp) (s:LU) (x C:Addr) (d:Option Addr),Up X pins σ H s x []->lI s.heap x C d->E (.ref C) d H->X.xe (.ref x) s
section
variable {P:Mh} {w:World} {K:LN} {mg:Str->Option Value} {base:Heap} {N:List Str} {qual:Str} {scope:Scope} {f:Addr} {cd:Value} {A:MP} {outer:List Env} {s:LU} {H:Hp} {E:XK}
def tF {pins:List (Addr×Obj)} {σ:St} {H':Hp} {s':LU} {x T C:Addr} {d:Option Addr} (U:Up (iu (CXR P w) P w K mg base N qual scope f cd A outer s H E) pins σ H' s' x [T]) (he:lP s'.heap x T C d) (q:E (.ref C) d H') :
  CXR P w outer H s E (.ref x) s' :=
 ⟨x,T,C,d,H',rfl,U.inv.os,U.inv.bare,U.inv.base,U.inv.hok,U.nx,U.nT T (.head _),U.fx,U.fT T (.head _),he,q⟩
end
abbrev bmV:List Value:=[.type "ValueError",.type "Exception",.type "BaseException",.type "object"]
abbrev pB:String:="ValueError.__new__"
def Jc {K:LN} {h:Heap} {C:Addr} {bmB:List Value} {newId:String} (X:K.In h) (q:Po K C bmB newId=true) :
  ∃ bm N nm qn bs hdct sn sub ab col dd k0 k1 k2 k3 k5 mN,h.get? C=some (excClassObj nm qn C N bs bm hdct sn sub ab col dd k0 k1 k2 k3 k5 newId)/\h.Ns N mN/\mN "__init__" = none/\OwnTail h bmB bm:=by
 unfold Po at q
 split at q
 ·rename_i dd cd sl ho
  split at q
  ·rename_i C' bm k0 k1 k2 k3 n k5 hm hs
   simp only [NT,beq_iff_eq,Pp] at q;obtain ⟨⟨⟨⟨⟨rfl,rfl⟩,hdel⟩,ht⟩,hok⟩,hni⟩:=q;obtain ⟨nm,bs,mro,ns,qn,hd,sn,sub,ab,col,del⟩:=cd;dsimp only at hm hdel hok hni;subst hm hdel;have hsl:sl=#[k0,k1,k2,k3,some (.builtin n),k5]:=by
    obtain ⟨l⟩:=sl;simp only at hs;rw [hs]
   subst hsl;exact ⟨bm,ns,nm,qn,bs,hd,sn,sub,ab,col,dd,k0,k1,k2,k3,k5,_,X _ _ ho,.of_isNs (PySem.W.isNs_of_in X hok),PySem.W.nsMap_none_of_in X hok hni,PySem.W.tail_of_in X ht⟩
  ·cases q
 ·cases q
section
variable {X:Cx} {E:XK} {C:Addr} {x:Str} {np cpos pos:Pos} {e:Expr} {es:List Expr} {ta:TA}
def zR (C:Addr) (E:XK) (ta:TA):TS:=fun _ σ H=>ta σ H fun vs H1=>vs.length<=Mx/\E (.ref C) none H1
def Inv.Ij {pins:List (Addr×Obj)} {σ:St} {H:Hp} {s:LU} {h':Heap} {e:Addr} {us:List Value} (I:Inv X pins σ H s) (hex:X.ex=[]) (m:Heap.MadeExcOf s.heap h' e (.ref C) us):Up X pins σ H { s with heap:=h' } e []/\lI h' e C none:=by
 obtain ⟨t,ht,_,_⟩:=m.there;refine ⟨⟨I.un (t':=s.toks) (Un.kept m.keeps) (I.hok.kept m.keeps),?_,fun b hb=>absurd hb (by simp),?_,fun b hb=>absurd hb (by simp),fun p hp=>⟨fun z=>?_,by simp⟩⟩,⟨_,_,ht,rfl,rfl,rfl,rfl⟩⟩
 ·cases q:H e with
  | none=>rfl
  | some u=>obtain ⟨ob,e1⟩:=(I.hok e u q).there;rw [m.new] at e1;cases e1
 ·cases q:X.s₀.heap.get? e with
  | none=>rfl
  | some o=>obtain ⟨ob,e1⟩:=I.base.there e o q (by rw [hex];simp);rw [m.new] at e1;cases e1
 ·have e1:=(I.pin p hp).1;rw [z,m.new] at e1;cases e1
def Hw (hL:Lets X E) (hex:X.ex=[]) (hcalm:X.calm=true) (hq:Po X.K C bmV pB=true) (hg:Gl X x) (hm:X.mg x=some (.ref C)) (ha:PA X (e :: es) ta)
  (hdb:(x == ("__debug__" : Str))=false:=by decide) (he:MR (e :: es) X.env=(false,eval e X.env) :: MR es X.env:=by rfl) (hpl:(backTo cpos (MR es X.env)).any (·.1)=false:=by rfl) :
  PS X (.Raise (some (.Call (.Name x np) (e :: es) [] cpos)) none pos) (zR C E ta):=by
 intro pins s σ H D I h;obtain ⟨bm,N,nm,qn,bs,hdct,sn,sub,ab,col,dd,k0,k1,k2,k3,k5,mN,hC,hN,hni,T⟩:=Jc I.mod.kin hq;have Fb:=Pw;refine wpAny_Raise_call_subU (C:=C) (nm:=nm) (q:=qn) (N:=N) (bs:=bs) (bm:=bm) (hdct:=hdct) (sn:=sn) (sub:=sub) (ab:=ab) (col:=col) (dd:=dd) (k0:=k0) (k1:=k1) (k2:=k2) (k3:=k3) (k5:=k5)
  Fb (by trivial) Fb (mN:=mN) (T.hasType Fb.hasBase) (I.ok.hd hcalm) (by rw [he];show (false || (backTo cpos (MR es X.env)).any (·.1))=false;rw [hpl];rfl) hni (i7 I hg hm ⟨rfl,?_⟩ hdb)
 have h0:=ha cpos pins s σ H _ I h;rw [he] at h0 ⊢;refine SS (thn h0 fun us s2 ⟨vs,H2,I2,r,z,q⟩=>⟨rfl,by rw [<- r.length];exact z,I2.bk _ _ hC,hN.keeps I2.bk,T.keeps I2.bk,fun h' e' m=>?_⟩)
 obtain ⟨U,hn⟩:=I2.Ij hex m;exact hL pins σ H2 _ e' C none U hn q
end
abbrev TXs:=Ends->(St->Hp->Addr->Option Addr->Prop)->St->Hp->Prop
abbrev TXe:=St->Hp->VK->(Hp->Addr->Option Addr->Prop)->Prop
def XP (X:Cx) (pins:List (Addr×Obj)) (Ex:St->Hp->Addr->Option Addr->Prop) (e:Value) (s':LU):Prop:=∃ x T C d σ' H',e=.ref x/\lP s'.heap x T C d/\Up X pins σ' H' s' x [T]/\Ex σ' H' C d
def PSx (X:Cx) (sts:List Stmt) (t:TXs):Prop :=
 ∀ (pins:List (Addr×Obj)) (s:LU) (σ:St) (H:Hp) (D:Ends) (Ex:St->Hp->Addr->Option Addr->Prop),Inv X pins σ H s->t D Ex σ H->wpAny (model X.prog X.w) X.A (execs sts X.env) (SP X pins D) (XP X pins Ex) s
def Kw (X:Cx) (st:Stmt) (t:TXs):Prop :=
 ∀ (pins:List (Addr×Obj)) (s:LU) (σ:St) (H:Hp) (D:Ends) (Ex:St->Hp->Addr->Option Addr->Prop),Inv X pins σ H s->t D Ex σ H->wpAny (model X.prog X.w) X.A (exec st X.env) (SP X pins D) (XP X pins Ex) s
def PEx (X:Cx) (e:Expr) (t:TXe):Prop :=
 ∀ (pins:List (Addr×Obj)) (s:LU) (σ:St) (H:Hp) (Q:VK) (Ex:Hp->Addr->Option Addr->Prop),Inv X pins σ H s->t σ H Q Ex->wpAny (model X.prog X.w) X.A (eval e X.env) (EP X pins σ Q) (XP X pins fun σ' H' C d=>σ'=σ/\Ex H' C d) s
section
variable {X:Cx} {pos:Pos}
def AY {st:Stmt} {t:TXs} (h:Kw X st t):PSx X [st] t:=by
 intro pins s σ H D Ex I q;refine RT (Nc (h pins s σ H D Ex I q) (fun f s1 z=>?_) fun _ _ z=>z);cases f with
 | next=>exact Pb z
 | ret v=>exact z
 | brk=>exact z
 | cont=>exact z
def Et (te:TXe):TXs:=fun D Ex σ H=>te σ H (fun _ H1=>D.nx σ H1) (fun H1 C d=>Ex σ H1 C d)
def zr {e:Expr} {te:TXe} (he:PEx X e te) (hs:swapsWith e none pos.line X.env=pure false:=by rfl):Kw X (.Expr e pos) (Et te):=by
 intro pins s σ H D Ex I h;refine wpAny_Expr_any (Nc (he pins s σ H _ _ I h) (fun v s1 ⟨x,H1,I1,r1,q1⟩=>⟨σ,H1,I1,q1⟩) fun e s1 ⟨x,T,C,d,σ',H',e1,e2,e3,e4,e5⟩=>⟨x,T,C,d,σ,H',e1,e2,?_,e5⟩) I.quiet hs;rw [<- e4];exact e3
def zg (sp:Sp) (t:TA):TXe:=fun σ H Q Ex=>t σ H fun vs H1=>sp vs H1 Q (fun c d H2=>∃ C,c=.ref C/\Ex H2 C d)
def FL {k:Nat} {f:Addr} {fd:Na} {ps:List Str} {sp:Sp} {x:Str} {p:Pos} {e:Expr} {es:List Expr} {t:TA} (F:aH X.prog X.w X.K X.mg X.base (CXR X.prog X.w) k f fd ps sp) (hex:X.ex=[]) (hr:bY k X.A) (hg:Gl X x) (hm:X.mg x=some (.ref f)) (hk:M6 X.K (.ref f)=true)
  (hb:Binds X.K fd ps []) (ha:PA X.nox (e :: es) t) (hdb:(x == ("__debug__" : Str))=false:=by decide) (he:MR (e :: es) X.env=(false,eval e X.env) :: MR es X.env:=by rfl) (hpl:(backTo pos (MR es X.env)).any (·.1)=false:=by rfl) :
  PEx X (.Call (.Name x p) (e :: es) [] pos) (zg sp t):=by
 intro pins s σ H Q Ex I h;refine OJ (i7 I hg hm ?_ hdb);refine P1 (h₀:=X.base) I.ok.mod.kin hk (Nc (ha pos pins s σ H _ (I.fX _) h) (fun us s1 ⟨vs,H1,I1',r,q⟩=>?_) fun _ _ z=>Nd z) he hpl;have I1:=I1'.dI;refine ⟨I1.kIn,?_⟩;have hl:(us++[]).length=ps.length:=by rw [NR,<- r.length];exact F.len _ _ _ _ q
 have hb':=hb s1 us I1.kIn hl;rw [NR] at hb';refine Rm (OI (F.run X.A X.stack s1 H1 ⟨us,[]⟩ us vs Q _ hr I1.Dd hb' r q) fun r s' hq=>?_);cases r with
 | error e =>
  have hq2:CXR X.prog X.w X.stack H1 s1 (fun c d H2=>∃ C,c=Ms C/\Ex H2 C d) e s':=hq;obtain ⟨x,T,C,d,H',rfl,he,U,C',hc,q⟩:=vX I1 hex hq2;cases hc;exact ⟨x,T,C,d,σ,H',rfl,he,U,rfl,q⟩
 | ok fl =>
  cases fl with
  | ret u=>exact I1.after hq
  | next=>exact Nd hq
  | brk=>exact Nd hq
  | cont=>exact Nd hq
end
def gC (x C:Addr) (d:Option Addr) (h:Heap):Prop:=∃ o vs,h.get? x=some o/\o.cls=.ref C/\o.dict=d/\o.data=.fields vs
abbrev fI (x C:Addr) (d:Option Addr:=none):HO:=.ext (gC x C d)
def JC {P:Mh} {w:World} {H:Hp} {h:Heap} {x C:Addr} {d:Option Addr} (e:gC x C d h):bB P w H h x (fI x C d):=by
 obtain ⟨o,vs,h1,h2,h3,h4⟩:=id e;exact ⟨e,⟨o,h1⟩,fun a b ⟨o,vs,h1,h2,h3,h4⟩ k=>⟨o,vs,k o h1,h2,h3,h4⟩⟩
def fH.isExc {h:Heap} {x T C:Addr} {d:Option Addr} {fl:Value} (e:fH h x T C d fl):gC x C d h:=by
 obtain ⟨oe,vs,_,_,e1,e2,e3,e4,_⟩:=e;exact ⟨oe,vs,e1,e2,e3,e4⟩
section
variable {X:Cx} {pins:List (Addr×Obj)} {σ:St} {H:Hp} {s:LU} {x T C:Addr} {ts:List Addr}
def Up.adopt (U:Up X pins σ H s x ts) {o:HO} (hr:tO s.heap x) (new:bB X.prog X.w (upd H x o) s.heap x o):Inv X pins σ (upd H x o) s:=by
 have I:=U.inv;obtain ⟨n1,n2,n3,n4⟩:=I.o9 hr;have nn:∀ b u,H b=some u->b≠x:=fun b u e z=>by rw [z,U.fx] at e;cases e
 refine ⟨I.ok,I.os,I.bare,⟨I.base.keep,I.base.slot,fun b ob e n hx=>?_,I.base.there,fun b xs e=>?_,fun b ob u e=>?_,fun b ps e=>?_⟩,I.loc,I.cell,?_,fun y c e=>?_,fun p hp=>?_,fun b u e=>?_,I.len⟩
 ·have:b≠x:=fun z=>by rw [z,U.nx] at e;cases e
  rw [aA this];exact I.base.free b ob e n hx
 ·have q:=I.base.gh b xs e;rw [aA (nn _ _ q)];exact q
 ·have q:=I.base.fU b ob u e;rw [aA (nn _ _ q)];exact q
 ·obtain ⟨m,q⟩:=I.base.gj b ps e;exact ⟨m,by rw [aA (nn _ _ q)];exact q⟩
 ·rw [aA n1.symm];exact I.free
 ·rw [aA (n2 y c e)];exact I.eD y c e
 ·obtain ⟨e,n,ne,nf,d⟩:=I.pin p hp;exact ⟨e,by rw [aA (U.px p hp).1];exact n,ne,nf,d⟩
 ·by_cases hb:b=x
  ·subst hb;rw [ar] at e;cases e;exact new
  ·rw [aA hb] at e;refine (I.hok b u e).kQ (fun c v _ q=>q) (fun c q=>by rw [aA (nn _ _ q)];exact q) fun c xs q=>by rw [aA (nn _ _ q)];exact q
def p8 {M:Model} {A:MP} {E:Value->LU->Prop} {i:Nat} {n:Str} {pos:Pos} {Q:Unit->LU->Prop} (I:Inv X pins σ H s) (hN:X.N.Nodup) (hi:X.N[i]?=some n) (hk:X.env.kindOf n=some .local)
  (h:∀ s',Inv X pins (σ.set i none) H s'->Q () s'):wpAny M A (do bindName X.env n .none;unbindBehindTheSuite X.env n pos) Q E s:=by
 obtain ⟨m,hn,hl⟩:=id I.loc;have hcls:(X.env.scope.kind == .class || (X.env.scope.kind == .module && X.env.locals != X.env.globals))=false:=by rw [I.ok.kind];rfl
 have hiσ:i<σ.length:=by rw [I.len];exact (LQ.mp hi).1
 have cne:=I.cne;refine wpAny_nameGoes_keeps hk hn hcls (fun h' v hn' hs=>?_);refine h _ ⟨I.ok,I.os,I.bare,⟨fun b o e n hb hx=>?_,fun b o e n hb hx=>?_,I.base.free,fun b o e hx=>?_,I.base.gh,I.base.fU,I.base.gj⟩,⟨_,hn',fun j y v' e1 e2 e3=>?_⟩,fun y c e=>?_,I.free,I.eD,fun p hp=>?_,fun b ob e=>?_,by simpa using I.len⟩
 ·exact (hs.2 b (Mc (Mm (L5 e) I.ok.above))).trans (I.base.keep b o e n hb hx)
 ·obtain ⟨sl,e1⟩:=I.base.slot b o e n hb hx;exact ⟨sl,(hs.2 b (Mc (Mm (L5 e) I.ok.above))).trans e1⟩
 ·obtain ⟨o',e1⟩:=I.base.there b o e hx;exact ⟨o',(hs.2 b (Mc (Mm (L5 e) I.ok.above))).trans e1⟩
 ·by_cases hj:j=i
  ·subst hj;rw [NM hiσ] at e2;cases e2
  ·rw [N2 (NI hj)] at e2;obtain ⟨u',r',q⟩:=hl j y v' e1 e2 e3;refine ⟨u',r',?_⟩;rcases q with ⟨k,e⟩|⟨k,c,e,z⟩
   ·refine .inl ⟨k,?_⟩;have:y≠n:=fun e=>hj (rC hN e1 (e ▸ hi));simp [this,e]
   ·exact .inr ⟨k,c,e,z.sameBut hs (cne y c e)⟩
 ·obtain ⟨w',z⟩:=I.cell y c e;exact ⟨w',z.sameBut hs (cne y c e)⟩
 ·obtain ⟨e,n,ne,nf,d⟩:=I.pin p hp;exact ⟨(hs.2 p.1 ne).trans e,n,ne,nf,d⟩
 ·refine (I.hok b ob e).kQ (fun c w' hc q=>(hs.2 c ?_).trans q) (fun _ q=>q) fun _ _ q=>q;rintro rfl;rcases hc with hc|hc
  ·rw [<- hc,I.free] at e;cases e
  ·rw [I.free] at hc;cases hc
end
abbrev Cx.iQ (X:Cx) (e:Value):Cx:={ X with A:=X.A.mark (some e),calm:=false,xe:=fun _ _=>False }
section
variable {X:Cx} {pins:List (Addr×Obj)} {σ:St} {H:Hp} {s:LU} {e:Value}
def Inv.iQ (I:Inv X pins σ H s) (e:Value):Inv (X.iQ e) pins σ H s :=
 ⟨⟨I.ok.mod,I.ok.kind,I.ok.glob,I.ok.blt,I.ok.above,I.ok.inj,I.ok.has,I.ok.cab,fun z=>Bool.noConfusion z,I.ok.frames,I.ok.stk,I.ok.exf,I.ok.bs,I.ok.bsz,I.ok.u6,I.ok.rD,I.ok.eK,I.ok.frf⟩,I.os,I.bare,I.base,I.loc,I.cell,I.free,I.eD,I.pin,I.hok,I.len⟩
def Inv.hX (I:Inv (X.iQ e) pins σ H s) (ok:X.Ok):Inv X pins σ H s:=⟨ok,I.os,I.bare,I.base,I.loc,I.cell,I.free,I.eD,I.pin,I.hok,I.len⟩
abbrev TH:=Ends->St->Hp->Addr->Option Addr->Prop
def PH (X:Cx) (hs:List P5) (t:TH):Prop:=∀ (pins:List (Addr×Obj)) (s:LU) (σ:St) (H:Hp) (D:Ends) (x T C:Addr) (d:Option Addr),Up X pins σ H s x [T]->lP s.heap x T C d->t D σ H C d->wpAny (model X.prog X.w) X.A (handleBy (.ref x) X.env hs) (SP X pins D) X.xe s
def LA:TH:=fun _ _ _ _ _=>False
def EO:PH X [] LA:=fun _ _ _ _ _ _ _ _ _ _ _ z=>Nd z
def hAs (K:LN) (B:Addr) (i:Nat) (ts:TS) (t:TH):TH:=fun D σ H C d=>(Mt K (.ref C) (.ref B)=some true/\∀ x,H x=none ->
 ts { nx:=fun σ2 H2=>D.nx (σ2.set i none) H2,rt:=D.rt,bk:=fun σ2 H2=>D.bk (σ2.set i none) H2,ct:=fun σ2 H2=>D.ct (σ2.set i none) H2 } (σ.set i (some (.ref x))) (upd H x (fI x C d))) \/
 (Mt K (.ref C) (.ref B)=some false/\t D σ H C d)
def hOf (K:LN) (B:Addr) (ts:TS) (t:TH):TH:=fun D σ H C d=>(Mt K (.ref C) (.ref B)=some true/\ts D σ H)\/(Mt K (.ref C) (.ref B)=some false/\t D σ H C d)
section
variable {x T C B:Addr} {d:Option Addr} {cn:Str} {np:Pos} {b:Bool}
def kX {name:Option Str} {su:List Stmt} {hp:Pos} {rest:List P5} {D:Ends} (U:Up X pins σ H s x [T]) (he:lP s.heap x T C d) (hg:Gl X cn) (hm:X.mg cn=some (.ref B)) (hdb:(cn == ("__debug__" : Str))=false) (hx:Mt X.K (.ref C) (.ref B)=some b)
  (h:if b=true then codeAny (model X.prog X.w) (X.A.mark (some (.ref x))) (.handlers (.ref x) [.ExceptHandler none name su hp] X.env) (fun r s₂=>match r with
     | .ok f=>(match name with
      | none=>SP X pins D f s₂
      | some n=>wpAny (model X.prog X.w) X.A (do bindName X.env n .none;unbindBehindTheSuite X.env n hp) (fun _ s₃=>SP X pins D f s₃) X.xe s₂)
     | .error x=>cameBackBy (model X.prog X.w) X.A X.env X.xe x s₂) s else wpAny (model X.prog X.w) X.A (handleBy (.ref x) X.env rest) (SP X pins D) X.xe s) :
  wpAny (model X.prog X.w) X.A (handleBy (.ref x) X.env (.ExceptHandler (some (.Name cn np)) name su hp :: rest)) (SP X pins D) X.xe s:=by
 have I2:=U.inv;refine wpAny_handleBy_cons (codeAny_handlers_test (Nc (Q:=fun c s'=>c=.ref B/\s'=s) (E:=fun _ _=>False) (show wpAny (model X.prog X.w) (X.A.mark (some (.ref x))) (eval (.Name cn np) X.env) _ _ _ from i7 (X:=X.iQ (.ref x)) (I2.iQ _) hg hm ⟨rfl,rfl⟩ hdb) (fun c s3 ⟨e1,e2⟩=>?_) fun _ _ z=>Nd z)) (by intro q;cases q)
 subst e1 e2;have LT:Ot (model X.prog X.w) s3.heap (typeOf (.ref x)) (.ref C):=by
  obtain ⟨o,vs,e1,e2,_⟩:=he.isExc;exact e2 ▸ (PySem.W.Looks.ld e1).andThen .now
 refine (PySem.W.exm_one I2.kIn LT hx).at ?_;cases b with
 | true=>exact h
 | false=>exact h
end
def HS {b₀:Stmt} {su:List Stmt} {cn n:Str} {np hp:Pos} {B:Addr} {i:Nat} {ts:TS} {rest:List P5} {t:TH} (hex:X.ex=[]) (hs:∀ e,PSs (X.iQ e) (b₀ :: su) ts) (hr:PH X rest t)
  (hg:Gl X cn) (hm:X.mg cn=some (.ref B)) (hN:X.N.Nodup) (hi:X.N[i]?=some n) (hk:X.env.kindOf n=some .local) (hdb:(cn == ("__debug__" : Str))=false:=by decide) :
  PH X (.ExceptHandler (some (.Name cn np)) (some n) (b₀ :: su) hp :: rest) (hAs X.K B i ts t):=by
 intro pins s1 σ' H' D x T C d U he q;rcases q with ⟨hm1,q⟩|⟨hm1,q⟩
 ·refine kX U he hg hm hdb hm1 ?_;rw [if_pos rfl];refine codeAny_handlers_suite_as ?_;refine fj U.inv.stack he fun h3 F3=>?_;have U3:=U.land hex he.iX F3;have he3:=F3.exc;have I3:=U3.adopt (he3.iX x (.head _)) (JC he3.isExc);refine kJ (X:=X.iQ (.ref x)) (v:=.ref x) (I3.iQ _) hN hi (.inl hk) rfl (fun s4 I4=>?_) (.inr hk);refine Nc (hs (.ref x) pins s4 _ _ _ I4 (q x U3.fx)) (fun f s5 z=>?_) fun _ _ z=>Nd z;have ok:=U.inv.ok;cases f with
  | next =>
   obtain ⟨σ6,H6,I6,q6⟩:=z;exact p8 (I6.hX ok) hN hi hk fun s7 I7=>⟨_,H6,I7,q6⟩
  | ret u =>
   obtain ⟨v,σ6,H6,I6,r6,q6⟩:=z;exact p8 (I6.hX ok) hN hi hk fun s7 I7=>⟨v,_,H6,I7,r6,q6⟩
  | brk =>
   obtain ⟨σ6,H6,I6,q6⟩:=z;exact p8 (I6.hX ok) hN hi hk fun s7 I7=>⟨_,H6,I7,q6⟩
  | cont =>
   obtain ⟨σ6,H6,I6,q6⟩:=z;exact p8 (I6.hX ok) hN hi hk fun s7 I7=>⟨_,H6,I7,q6⟩
 ·refine kX U he hg hm hdb hm1 ?_;rw [if_neg (by decide)]
  exact hr pins s1 σ' H' D x T C d U he q
def xu {b₀:Stmt} {su:List Stmt} {cn:Str} {np hp:Pos} {B:Addr} {ts:TS} {rest:List P5} {t:TH} (hex:X.ex=[]) (hs:∀ e,PSs (X.iQ e) (b₀ :: su) ts) (hr:PH X rest t)
  (hg:Gl X cn) (hm:X.mg cn=some (.ref B)) (hdb:(cn == ("__debug__" : Str))=false:=by decide) :
  PH X (.ExceptHandler (some (.Name cn np)) none (b₀ :: su) hp :: rest) (hOf X.K B ts t):=by
 intro pins s1 σ' H' D x T C d U he q;rcases q with ⟨hm1,q⟩|⟨hm1,q⟩
 ·refine kX U he hg hm hdb hm1 ?_;rw [if_pos rfl];refine codeAny_handlers_suite ?_;refine fj U.inv.stack he fun h3 F3=>?_;have I3:=(U.land hex he.iX F3).inv;refine Nc (hs (.ref x) pins _ _ _ _ (I3.iQ _) q) (fun f s5 z=>?_) fun _ _ z=>Nd z;have ok:=U.inv.ok;cases f with
  | next =>
   obtain ⟨σ6,H6,I6,q6⟩:=z;exact ⟨_,H6,I6.hX ok,q6⟩
  | ret u =>
   obtain ⟨v,σ6,H6,I6,r6,q6⟩:=z;exact ⟨v,_,H6,I6.hX ok,r6,q6⟩
  | brk =>
   obtain ⟨σ6,H6,I6,q6⟩:=z;exact ⟨_,H6,I6.hX ok,q6⟩
  | cont =>
   obtain ⟨σ6,H6,I6,q6⟩:=z;exact ⟨_,H6,I6.hX ok,q6⟩
 ·refine kX U he hg hm hdb hm1 ?_;rw [if_neg (by decide)]
  exact hr pins s1 σ' H' D x T C d U he q
def HQ (tb:TXs) (th:TH):TS:=fun D σ H=>tb D (fun σ' H' C d=>th D σ' H' C d) σ H
def Bp {body:List Stmt} {h₀:P5} {hs:List P5} {pos:Pos} {tb:TXs} {th:TH} (hex:X.ex=[]) (hb:PSx X body tb) (hh:PH X (h₀ :: hs) th) (hst:X.stack=X.env :: X.outer) (hfr:X.env.frame=some X.env.locals) :
  PS X (.Try body (h₀ :: hs) [] [] pos) (HQ tb th):=by
 intro pins s σ H D I h;refine wpAny_Try_except (Nc (hb pins s σ H D _ I h) (fun f s1 z=>?_) fun e s1 z=>?_)
 ·cases f with
  | next=>exact Pb z
  | ret v=>exact z
  | brk=>exact z
  | cont=>exact z
 obtain ⟨x,T,C,d,σ',H',rfl,he,U,q⟩:=z;have fr:X.A.frames=some (X.env :: X.outer):=by rw [<- hst];exact I.ok.frames
 have sk1:s1.heap.FunFrames X.base (X.env :: X.outer):=by rw [<- hst];exact U.inv.stack
 refine En (L:=X.env.locals) (outer:=X.outer) fr sk1 hfr he fun h2 T2 F2=>?_;rw [<- hst] at F2;exact hh pins _ σ' H' D x T2 C d (U.land hex he.iX F2) F2.exc q
def Kd (K:LN) (B:Addr) (i:Nat) (tb:TXs) (ts:TS):TS:=fun D σ H=>tb D (fun σ' H' C d=>Mt K (.ref C) (.ref B)=some true/\∀ x,H' x=none ->
 ts { nx:=fun σ2 H2=>D.nx (σ2.set i none) H2,rt:=D.rt,bk:=fun σ2 H2=>D.bk (σ2.set i none) H2,ct:=fun σ2 H2=>D.ct (σ2.set i none) H2 } (σ'.set i (some (.ref x))) (upd H' x (fI x C d))) σ H
def JE {body:List Stmt} {b₀:Stmt} {su:List Stmt} {cn n:Str} {np hp pos:Pos} {B:Addr} {i:Nat} {tb:TXs} {ts:TS} (hex:X.ex=[]) (hb:PSx X body tb) (hs:∀ e,PSs (X.iQ e) (b₀ :: su) ts)
  (hg:Gl X cn) (hm:X.mg cn=some (.ref B)) (hN:X.N.Nodup) (hi:X.N[i]?=some n) (hk:X.env.kindOf n=some .local) (hst:X.stack=X.env :: X.outer) (hfr:X.env.frame=some X.env.locals)
  (hdb:(cn == ("__debug__" : Str))=false:=by decide) :
  PS X (.Try body [.ExceptHandler (some (.Name cn np)) (some n) (b₀ :: su) hp] [] [] pos) (Kd X.K B i tb ts):=by
 intro pins s σ H D I h;have hb':PSx X body (fun D Ex σ H=>tb D (fun σ' H' C d=>Mt X.K (.ref C) (.ref B)=some true/\∀ x,H' x=none->ts { nx:=fun σ2 H2=>D.nx (σ2.set i none) H2,rt:=D.rt,bk:=fun σ2 H2=>D.bk (σ2.set i none) H2,ct:=fun σ2 H2=>D.ct (σ2.set i none) H2 } (σ'.set i (some (.ref x))) (upd H' x (fI x C d))) σ H/\∀ σ' H' C d,(Mt X.K (.ref C) (.ref B)=some true/\∀ x,H' x=none->ts { nx:=fun σ2 H2=>D.nx (σ2.set i none) H2,rt:=D.rt,bk:=fun σ2 H2=>D.bk (σ2.set i none) H2,ct:=fun σ2 H2=>D.ct (σ2.set i none) H2 } (σ'.set i (some (.ref x))) (upd H' x (fI x C d)))->Ex σ' H' C d):=fun pins s σ H D Ex I z =>
  Nc (hb pins s σ H D _ I z.1) (fun _ _ y=>y) fun e s1 ⟨x,T,C,d,σ',H',e1,e2,e3,e4⟩=>⟨x,T,C,d,σ',H',e1,e2,e3,z.2 _ _ _ _ e4⟩
 exact Bp hex hb' (HS hex hs EO hg hm hN hi hk hdb) hst hfr pins s σ H D I ⟨h,fun _ _ _ _ z=>.inl z⟩
end
section
variable {X:Cx} {x:Str} {st:Stmt} {ps:List Str} {k:Nat} {sp:Sp} {p pos:Pos} {e:Expr} {es:List Expr} {t:TA} {E:XK}
def iy (d:Df X.K X.mg x st ps) (G:aH X.prog X.w X.K X.mg X.base (CXR X.prog X.w) k d.f d.fd ps sp) (hr:bY k X.A) (hg:Gl X x) (hx:Passes (CXR X.prog X.w) X E) (ha:PA X (e :: es) t) (hn:isStar e=false:=by rfl) (hall:es.all (fun e=>!isStar e)=true:=by rfl) (hdb:(x == ("__debug__" : Str))=false:=by decide) :
  PE X (.Call (.Name x p) (e :: es) [] pos) (mJ sp [] E t):=qp G hr hg d.nm d.fn.kp d.bd .nil hx ha hdb (bz hn) (cp hall)
def BK (d:Df X.K X.mg x st ps) (G:aH X.prog X.w X.K X.mg X.base (CXR X.prog X.w) k d.f d.fd ps sp) (hex:X.ex=[]) (hr:bY k X.A) (hg:Gl X x) (ha:PA X.nox (e :: es) t) (hn:isStar e=false:=by rfl) (hall:es.all (fun e=>!isStar e)=true:=by rfl) (hdb:(x == ("__debug__" : Str))=false:=by decide) :
  PEx X (.Call (.Name x p) (e :: es) [] pos) (zg sp t):=FL G hex hr hg d.nm d.fn.kp d.bd ha hdb (bz hn) (cp hall)
def jw {C:Addr} {np cpos:Pos} (hL:Lets X E) (hex:X.ex=[]) (hcalm:X.calm=true) (hq:Po X.K C bmV pB=true) (hg:Gl X x) (hm:X.mg x=some (.ref C)) (ha:PA X (e :: es) t) (hn:isStar e=false:=by rfl) (hall:es.all (fun e=>!isStar e)=true:=by rfl)
  (hdb:(x == ("__debug__" : Str))=false:=by decide):PS X (.Raise (some (.Call (.Name x np) (e :: es) [] cpos)) none pos) (zR C E t):=Hw hL hex hcalm hq hg hm ha hdb (bz hn) (cp hall)
end
section
variable {K:LN} {B C:Addr} {i:Nat} {tb t u:TXs} {ts:TS} {D:Ends} {σ:St} {H:Hp} {c:TT} {te:TXe} {sp:Sp} {ta:TA} {Q:VK} {Ex:St->Hp->Addr->Option Addr->Prop} {Eh:Hp->Addr->Option Addr->Prop} {E:XK} {th:TH}
def Kq (h:tb D (fun σ' H' C d=>th D σ' H' C d) σ H):HQ tb th D σ H:=h
def Lh (h:tb D (fun σ' H' C d=>Mt K (.ref C) (.ref B)=some true/\∀ x,H' x=none ->
 ts { nx:=fun σ2 H2=>D.nx (σ2.set i none) H2,rt:=D.rt,bk:=fun σ2 H2=>D.bk (σ2.set i none) H2,ct:=fun σ2 H2=>D.ct (σ2.set i none) H2 } (σ'.set i (some (.ref x))) (upd H' x (fI x C d))) σ H):Kd K B i tb ts D σ H:=h
def Bw (h:te σ H (fun _ H1=>D.nx σ H1) (fun H1 C d=>Ex σ H1 C d)):Et te D Ex σ H:=h
def BM (h:ta σ H fun vs H1=>sp vs H1 Q (fun c d H2=>∃ C,c=.ref C/\Eh H2 C d)):zg sp ta σ H Q Eh:=h
def ki (h:ta σ H fun vs H1=>vs.length<=Mx/\E (.ref C) none H1):zR C E ta D σ H:=h
end
structure ck (K:LN) (C:Addr):Prop where
 cls:PySem.W.isClsIn K C=true
 ga:M5 K (.ref C) "__getattribute__" = some (some (.builtin "BaseException.__getattribute__"))
 gt:M5 K (.ref C) "__getattr__" = some none
 kc:M5 K (.ref C) "__class__" = some (some (.builtin "object.__class__"))
 gg:PySem.W.specialIn K (.builtin "object.__class__") "__get__" = some (some (.builtin "getset_descriptor.__get__"))
 tk:PySem.W.takesIn K (.builtin "object.__class__")=some true
 ob:RF K C (.type "object")=some true
 be:RF K C (.type "BaseException")=some true
section
open PySem.Calls PySem.Builtin PySem.Builtin.ObjectAttr PySem.Builtin.Getset_descriptor
variable {prog:Mh} {w:World} {A:MP} {E:Value->LU->Prop} {K:LN} {x C:Addr} {di:Option Addr} {h:Heap} {g:Array Qr} {d:Drawn} {t:Nat} {os:OsState}
def mr {M:Model} (e:gC x C di h):Ot M h (typeOf (.ref x)) (.ref C):=by
 obtain ⟨o,vs,e1,e2,_⟩:=e;exact e2 ▸ (PySem.W.Looks.ld e1).andThen .now
def F9 {M:Model} (X:K.In h) (c:ck K C):Ot M h (find (.ref x) (.ref C) "__class__") (.bind (.builtin "getset_descriptor.__get__") (.builtin "object.__class__")):=by
 have L1:=NK (M:=M) X c.kc;have L2:Ot M h (getOf (some (.builtin "object.__class__"))) (some (.builtin "getset_descriptor.__get__")):=PySem.W.looks_specialIn X c.gg;have L3:=PySem.W.looks_takesIn (M:=M) X c.tk;exact L1.andThen (L2.andThen ((show Ot M h (dataDescriptor? (some (.builtin "object.__class__")) (some (.builtin "getset_descriptor.__get__"))) (some (.builtin "getset_descriptor.__get__",.builtin "object.__class__")) from L3.andThen .now).andThen (PySem.W.Looks.tag .now)))
def wY {R:Rj->LU->Prop} {tp:Value} (X:K.In h) (c:ck K C) (e:gC x C di h) (hq:R (.ok (.ret (.ref C))) ⟨h,g,d,t,os⟩) :
  codeAny (model prog w) A (.call (.builtin "getset_descriptor.__get__") ⟨[.builtin "object.__class__",.ref x,tp],[]⟩) R ⟨h,g,d,t,os⟩:=by
 have L0:=mr (M:=model prog w) e;have L1:=QN (M:=model prog w) X c.ob;refine OQ PySem.W.KF.slot_gs.plain PySem.W.KF.entry_gs (PySem.W.KF.slot_gs.check _ _ _ _ _ _ _ _ PySem.W.KF.type_class (PySem.W.KF.args_gs _ _ _) ?_);unfold OD.«getset_descriptor.__get__» descrGet;rw [PySem.W.dga_obj];refine LP (LZ ?_);unfold descrGetter descrCheckInstance descrNameAndClass isInstance;simp only [PySem.W.KF.owner_class]
 repeat lk
 refine ⟨P6 _ (by trivial),Nu PySem.W.KF.entry_class ?_⟩
 unfold OD.«object.__class__» shownTypeOf
 repeat lk
 exact hq
def vJ {M:Model} {nameV:Value} {Q:Unit->LU->Prop} (X:K.In h) (c:ck K C) (e:gC x C di h) (hq:Q () ⟨h,g,d,t,os⟩):wpAny M A (checkBuiltinCall "BaseException.__getattribute__" ⟨[.ref x,nameV],[]⟩) Q E ⟨h,g,d,t,os⟩:=by
 have hk:builtinKind "BaseException.__getattribute__" = some .slot:=by trivial
 have hsplit:splitId "BaseException.__getattribute__" = some ("BaseException","__getattribute__"):=by trivial
 have ha:=F.args_bexc_ga (.ref x) nameV;have L0:=mr (M:=M) e;have L1:=QN (M:=M) X c.be;simp only [checkBuiltinCall,hk,hsplit];refine LP ?_;have L2:Ot M h (isInstance (.ref x) (.type "BaseException")) true:=L0.andThen L1;refine L2.at ?_
 repeat (first|assumption|wp_step)
def Eg {tk:Tok} {Q:Fin->LU->Prop} (X:K.In h) (c:ck K C) (e:gC x C di h) (hq:Q (.done (.ret (.ref C))) ⟨h,g,d,t,os⟩) :
  wpAny (model prog w) A (OD.«object.__getattribute__» ⟨[.ref x,.str "__class__" tk],[]⟩) Q E ⟨h,g,d,t,os⟩:=by
 have L0:=mr (M:=model prog w) e;have L1:=F9 (M:=model prog w) (x:=x) X c
 repeat (any_goals (first|assumption|with_reducible refine PySem.W.Looks.at (by assumption) ?_|wp_step))
 refine wY X c e ?_
 repeat (any_goals (first|assumption|wp_step))
def GS {tk:Tok} {R:Rj->LU->Prop} (X:K.In h) (c:ck K C) (e:gC x C di h) (hq:R (.ok (.ret (.ref C))) ⟨h,g,d,t,os⟩) :
  codeAny (model prog w) A (.call (.builtin "BaseException.__getattribute__") ⟨[.ref x,.str "__class__" tk],[]⟩) R ⟨h,g,d,t,os⟩ :=
 OQ Pd.ga.plain F.entry_bexc_ga (vJ X c e (Eg X c e hq))
def EW {Q:Option Value->LU->Prop} (X:K.In h) (c:ck K C) (e:gC x C di h) (hq:Q (some (.ref C)) ⟨h,g,d,t+1,os⟩):wpAny (model prog w) A (getAttr? (.ref x) "__class__") Q E ⟨h,g,d,t,os⟩:=by
 have L0:=mr (M:=model prog w) e;have L1:=NK (M:=model prog w) X c.ga;have L2:=NK (M:=model prog w) X c.gt;have f3:=Pd.ga.bind (.ref x);unfold getAttr? getAttrBy? getAttrBy;refine LP (wpAny_mkText (LP (Pq (M1 (LP (L0.at (LP (L1.at ?_))))))));show wpAny _ _ (getAttrByItsOwn _ _ _ _ _ _) _ _ _;unfold getAttrByItsOwn hookBefore;refine LP ?_;rw [if_pos (by rfl)]
 refine L2.at ?_;refine LP (Pq (M1 ?_));unfold callGetattribute
 repeat (any_goals (first|assumption|wp_step))
 refine GS X c e ?_
 repeat (any_goals (first|assumption|wp_step))
def FI (c:ck K C):PySem.W.KitX K (.ref x) (.ref C) (gC x C di) where
 ty:=fun _ _ _ e=>mr e
 it:=fun M h X e=>by
  have hc:(QG K C).isSome=true:=c.cls;unfold QG at hc
  split at hc
  ·rename_i ho
   intro A' Q' E' s' k q;unfold isType loadHead;exact LP (Q8 (k _ _ (X _ _ ho)) (LZ q))
  ·cases hc
 ne:=fun h tp dd its n sl X htp=>by
  refine Bool.eq_false_iff.mpr fun q=>?_;have e:C=tp:=Ms.inj (beq_iff_eq.mp q);subst e;have hc:(QG K C).isSome=true:=c.cls;unfold QG at hc
  split at hc
  ·rename_i ho
   have z:=(X _ _ ho).symm.trans htp;cases z
  ·cases hc
 ca:=fun {prog w A E Q s} X e k=>by
  obtain ⟨h,g,d,t,os⟩:=s;exact EW X c e k
end
def yF (K:LN) (xs:List V) (H:Hp) (Q:VK):Prop:=∃ (x C:Addr) (d:Option Addr) (c:V) (cv:Value) (b:Bool),xs=[.ref x,c]/\H x=some (fI x C d)/\ck K C/\RelV c cv/\(∀ u,RelV c u->u=cv)/\Nv K (.ref C) cv=some b/\Q (.bl b) H
def bJ {X:Cx} (K:LN) (hK:X.K=K):cA X (.builtin "isinstance") (yF K):=by
 subst hK;intro pins s σ H xs us Q I r h;obtain ⟨x,C,d,c,cv,b,rfl,hx,hc,r2,r3,e,q⟩:=h;obtain ⟨u,v,rfl,ru,rv⟩:=r.two;cases (show u=Ms x from ru);cases r3 v rv;obtain ⟨p,_,_⟩:=(show bB X.prog X.w H s.heap x (fI x C d) from I.hok x _ hx);exact NA (FI hc) I.kIn p e (fun z=>nomatch z) fun tk=>⟨.bl b,H,I.tok tk,rfl,q⟩
section
variable {K:LN} {H:Hp} {Q:VK} {x C D:Addr} {d:Option Addr} {b:Bool}
def G6 {n:String} (hx:H x=some (fI x C d)) (hc:ck K C) (e:Nv K (.ref C) (.type n)=some b) (q:Q (.bl b) H):yF K [.ref x,.ty n] H Q:=⟨x,C,d,.ty n,.type n,b,rfl,hx,hc,rfl,fun _ z=>z,e,q⟩
def cH (hx:H x=some (fI x C d)) (hc:ck K C) (e:Nv K (.ref C) (.ref D)=some b) (q:Q (.bl b) H):yF K [.ref x,.ref D] H Q:=⟨x,C,d,.ref D,.ref D,b,rfl,hx,hc,rfl,fun _ z=>z,e,q⟩
end
section
variable {M:Model} {A:MP} {E:Value->LU->Prop} {s:LU} {base:Heap} {env:Env} {l:List Env} {L x T C:Addr} {d:Option Addr}
def E6 (hf:env.frame=some L) (hl:s.heap.FunFrames base l) (he:fH s.heap x T C d (rawInt L)) (h:∀ h',(∀ b,b≠T->h'.get? b=s.heap.get? b)->fH h' x T C d (rawInt L)->E (.ref x) { s with heap:=h' }):cameBackBy M A env E (.ref x) s:=by
 show wpAny M A (do
  if (<- field (.ref x) 1) == .none then unsupported "frame.own-activation:exception-without-traceback"
  setFlight (.ref x) env.frame) (fun _ s''=>E (.ref x) s'') E s
 obtain ⟨oe,vs,oT,ts,e1,e2,e3,e4,e5,_⟩:=id he;refine LP (Ob e1 e4 e5 ?_);rw [if_neg (by simp),hf]
 exact yc hl he fun h' k F=>h h' k F.exc
end
section
variable {X:Cx} {pins:List (Addr×Obj)} {σ:St} {H:Hp} {s s':LU} {x T C:Addr} {d:Option Addr} {ts:List Addr} {h':Heap} {E:XK} {e:Value} {fl:Value}
inductive za (h:Heap) (x:Addr) (C:Addr) (d:Option Addr) (L:Addr):List Addr->Prop
 | new:lI h x C d->za h x C d L []
 | fly {T:Addr}:lP h x T C d->za h x C d L [T]
 | held {T:Addr}:fH h x T C d (rawInt L)->za h x C d L [T]
 | any {T:Addr} {fl:Value}:fH h x T C d fl->za h x C d L [T]
def XR (X:Cx) (E:XK) (e:Value) (s':LU):Prop:=∃ x ts C d σ H,e=.ref x/\Up X [] σ H s' x ts/\za s'.heap x C d X.env.locals ts/\E (.ref C) d H
def Up.bare (U:Up X pins σ H s x ts):Up X [] σ H s x ts:=by
 have I:=U.inv;exact ⟨⟨I.ok,I.os,I.bare,I.base,I.loc,I.cell,I.free,I.eD,fun p hp=>I.pin p (by rw [NR] at hp;exact NJ _ hp),I.hok,I.len⟩,U.fx,U.fT,U.nx,U.nT,fun p hp=>U.px p (by rw [NR] at hp;exact NJ _ hp)⟩
def Up.dI {F:Value->LU->Prop} (U:Up (X.fX F) pins σ H s x ts):Up X pins σ H s x ts:=⟨U.inv.dI,U.fx,U.fT,U.nx,U.nT,U.px⟩
def qc (U:Up X [] σ H s x [T]) (hst:X.stack=X.env :: X.outer) (hfr:X.env.frame=some X.env.locals) (hex:X.ex=[]) (he:fH s.heap x T C d (rawInt X.env.locals)) (q:E (.ref C) d H) :
  cameBackBy (model X.prog X.w) X.A X.env (XR X E) (.ref x) s:=by
 refine E6 hfr U.inv.stack he fun h' hk he'=>?_;refine ⟨x,[T],C,d,σ,H,rfl,?_,.held he',q⟩;obtain ⟨n1,n2,n3,n4⟩:=U.inv.o9 (he.iX T (.tail _ (.head _)));refine ⟨U.inv.land (ch:=[T]) (fun b hb=>?_) (fun b hb=>U.fT b hb) (fun b o h1 h2 h3 q=>(hk b fun z=>h3 (z ▸ .head _)).trans q) (fun b o hb q=>⟨o.slots,(hk b fun z=>?_).trans q⟩),U.fx,U.fT,U.nx,U.nT,U.px⟩
 ·obtain rfl:=LY.mp hb;exact ⟨U.nT _ (.head _),n1,n2,fun p hp z=>(U.px p hp).2 (by rw [z];exact .head _)⟩
 ·rw [z] at hb;exact hb.elim n1 n4
def FV (ok:X.Ok) (hst:X.stack=X.env :: X.outer) (hfr:X.env.frame=some X.env.locals) (hex:X.ex=[]):T8 (model X.prog X.w) X.A X.env (XR X E):=by
 rintro e s ⟨x,ts,C,d,σ,H,rfl,U,fl,q⟩;show wpAny _ _ (noteFrame (.ref x) X.env) _ _ s;have fr:X.A.frames=some (X.env :: X.outer):=by rw [<- hst];exact ok.frames
 have sk:s.heap.FunFrames X.base (X.env :: X.outer):=by rw [<- hst];exact U.inv.stack
 cases fl with
 | new he =>
  refine tS fr sk hfr he fun h' T F=>?_;rw [<- hst] at F;exact qc (U.land hex he.iX F) hst hfr hex F.exc q
 | fly he =>
  refine uE fr sk hfr he fun h' T F=>?_;rw [<- hst] at F;exact qc (U.land hex he.iX F) hst hfr hex F.exc q
 | held he=>exact nB hfr he (qc U hst hfr hex he q)
 | any he =>
  refine yO fr sk hfr he fun h' T F=>?_;rw [<- hst] at F;exact qc (U.land hex he.iX F) hst hfr hex F.exc q
end
section
variable {P:Mh} {w:World} {K:LN} {mg:Str->Option Value} {base:Heap} {N:List Str} {qual:Str} {scope:Scope} {f:Addr} {cd:Value} {A:MP} {outer:List Env} {s:LU} {H:Hp} {E:XK}
abbrev cxR (P:Mh) (w:World) (K:LN) (mg:Str->Option Value) (base:Heap) (N:List Str) (qual:Str) (scope:Scope) (f:Addr) (cd:Value) (A:MP) (outer:List Env) (s:LU) (H:Hp) (E:XK):Cx :=
 (iu (CXR P w) P w K mg base N qual scope f cd A outer s H E).fX (XR (iu (CXR P w) P w K mg base N qual scope f cd A outer s H E) E)
def la:Lets (cxR P w K mg base N qual scope f cd A outer s H E) E:=fun pins σ H' s' x C d U he q=>⟨x,[],C,d,σ,H',rfl,U.dI.bare,.new he,q⟩
def fJ:Passes (CXR P w) (cxR P w K mg base N qual scope f cd A outer s H E) E:=fun pins σ H1 s1 e s' I h=>by
 obtain ⟨x,T,C,d,H',rfl,he,U,q⟩:=vX I rfl h;exact ⟨x,[T],C,d,σ,H',rfl,U.dI.bare,.fly he,q⟩
def wg {e:Value} {s':LU} (h:XR (iu (CXR P w) P w K mg base N qual scope f cd A outer s H E) E e s'):(iu (CXR P w) P w K mg base N qual scope f cd A outer s H E).xe e s':=by
 obtain ⟨x,ts,C,d,σ,H',rfl,U,fl,q⟩:=h;cases fl with
 | new he=>exact Ar (L:=s.heap.objs.size) (outer:=outer) U.inv.ok.frames U.inv.stack rfl he fun h' T' F=>tF (U.land rfl he.iX F) F.exc q
 | fly he=>exact B9 (L:=s.heap.objs.size) (outer:=outer) U.inv.ok.frames U.inv.stack rfl he fun h' T' F=>tF (U.land rfl he.iX F) F.exc q
 | held he=>exact leave_held (L:=s.heap.objs.size) (outer:=outer) U.inv.stack rfl he fun h' F=>tF (U.land rfl he.iX F) F.exc q
 | any he=>exact DS (L:=s.heap.objs.size) (outer:=outer) U.inv.ok.frames U.inv.stack rfl he fun h' T' F=>tF (U.land rfl he.iX F) F.exc q
def Fun.okX {x qual:Str} {st:Stmt} {f:Addr} {fd:Na} {N ps:List Str} {k:Nat} {sp:Sp} (F:Fun K x qual st f fd) (S:aK N ps (ak st)) (len:∀ vs H Q E,sp vs H Q E->vs.length=ps.length)
  (hbody:∀ (cdv:Value) (A:MP) (outer:List Env) (s:LU) (H:Hp) (vs:List V) (Q:VK) (E:XK),bY k (A.deeper (envOfC qual (ak st) s.heap.objs.size f cdv))->sp vs H Q E ->
   ∃ t,((cxR P w K mg base N qual (ak st) f cdv A outer s H E).Ok->PSs (cxR P w K mg base N qual (ak st) f cdv A outer s H E) (bC st) t)/\t { nx:=fun _ H'=>Q .non H',rt:=Q } (start N vs) H):aH P w K mg base (CXR P w) (k+1) f fd ps sp:=by
 obtain ⟨oc,od,kV,doc,pm,an,cdv,ct,osl,rfl,lk,hcd⟩:=F.ex;refine xR lk hcd S len fun A outer s H vs Q E hr hsp=>?_;obtain ⟨t,h,q⟩:=hbody cdv A outer s H vs Q E hr hsp;refine ⟨t,fun pins s' σ H' D I z=>?_,q⟩;exact Nc (h (I.fX _).ok pins s' σ H' D (I.fX _) z) (fun _ _ y=>y.dI) fun _ _ y=>wg y
def aH.both {k:Nat} {f:Addr} {fd:Na} {ps:List Str} {sp1 sp2:Sp} (F1:aH P w K mg base CX0 k f fd ps sp1) (F2:aH P w K mg base (CXR P w) k f fd ps sp2):aH P w K mg base (CXR P w) k f fd ps (fun vs H Q E=>sp1 vs H Q E\/sp2 vs H Q E) :=
 ⟨fun vs H Q E h=>h.elim (F1.len vs H Q E) (F2.len vs H Q E),fun A outer s H args us vs Q E hr he hb hv h=>by
  rcases h with h|h
  ·refine OI (F1.run A outer s H args us vs Q E hr he hb hv h) fun r s' z=>?_;cases r with
   | error e=>exact Nd z
   | ok fl=>cases fl <;> exact z
  ·exact F2.run A outer s H args us vs Q E hr he hb hv h⟩
end
section
variable {X:Cx} {pos:Pos}
end
section
variable {σ:St} {H:Hp} {Q:VK} {D:Ends} {Ex:St->Hp->Addr->Option Addr->Prop} {Eh:Hp->Addr->Option Addr->Prop}
end
end L2
namespace L2
def Back (U N:St->Hp->Prop):Prop:=∀ σ' H',U σ' H'->N σ' H'
def tY {t u:TS} {D:Ends} {σ:St} {H:Hp} (h:∀ N:St->Hp->Prop,Back (u D) N->t { D with nx:=N } σ H):J3 t u D σ H:=h _ fun _ _ z=>z
def pe {U N:St->Hp->Prop} {σ:St} {H:Hp} (h:Back U N) (q:U σ H):N σ H:=h σ H q
end L2
namespace L2
open PySem PySem.Spec PyProof.Rows
section
variable {X:Cx} {k:Nat} {f C:Addr} {fd:Na} {ps:List Str} {sp:Sp} {x m:Str} {p pos apos:Pos} {e:Expr} {es:List Expr} {t:TA}
end
section
variable {X:Cx} {k:Nat} {f C:Addr} {fd:Na} {ps ks:List Str} {sp:Sp} {x:Str} {p pos kpos:Pos} {e a:Expr} {es:List Expr} {kws:List Sj} {t tk:TA} {te:TE} {g:List Value->List Value->List Value} {gV:List V->List V->List V}
end
section
variable {X:Cx} {pins:List (Addr×Obj)} {σ:St} {H:Hp} {s:LU} {A:MP} {α β:Type} [Rep α] [DecidableEq α] [bS α] [Rep β] [DecidableEq β] [bS β]
end
end L2
namespace PySem
open Sem (wp)
def IY:typeLookup (.type "zip") "__getattr__" = pure none:=am_miss_of_fast (by kernel_rfl)
def Iv:typeLookup (.type "zip") "keys" = pure none:=am_miss_of_fast (by kernel_rfl)
def Gi:entryFor table "zip.__getattribute__" = some OD.«object.__getattribute__» :=
 S0 (id':="object.__getattribute__") (by kernel_rfl) (by trivial) (by trivial) (by kernel_rfl)
def GO (z:Addr) (fs:Array Value) (u:Tok) :
  Meets (OD.«object.__getattribute__» ⟨[.ref z,.str "keys" u],[]⟩) (fun A R s=>s.heap.get? z=some { cls:=.type "zip",dict:=none,data:=.fields fs,slots:=#[] }/\raisesAttr (.ref z) "keys" A R s) :=
 Meets.of_wp fun prog w A R s hs=>by
  obtain ⟨hp,g,d,tk,os⟩:=s;obtain ⟨hx,hA,hs⟩:=hs;have hT:(⟨hp,g,d,tk,os⟩:LU).TypeIs (.ref z) "zip":=⟨_,hx,rfl⟩;have hk:=Iv;unfold OD.«object.__getattribute__»
  repeat (any_goals (first|assumption|wp_step))
  exact wpAny_raiseAttrError hA hs (attrMsg_fits (by trivial) (by trivial))
section
variable {prog:Mh} {w:World} {A:MP} {E:Value->LU->Prop} {s:LU}
def AN {z:Addr} {fs:Array Value} {Q:Option Value->LU->Prop} (hx:s.heap.get? z=some { cls:=.type "zip",dict:=none,data:=.fields fs,slots:=#[] }) (hA:A.handled=none)
  (h:∀ h' tk,(∀ b o,s.heap.get? b=some o->h'.get? b=some o)->Q none { s with heap:=h',toks:=tk }):wpAny (model prog w) A (getAttr? (.ref z) "keys") Q E s:=by
 obtain ⟨hp,g,d,tk,os⟩:=s;have hT:∀ tk',(⟨hp,g,d,tk',os⟩:LU).TypeIs (.ref z) "zip":=fun _=>⟨_,hx,rfl⟩;have f1:=sub_AttributeError;have f3:=P7.lookup;have f4:=P7.bind (.ref z);have f5:=IY;unfold getAttr? getAttrBy? getAttrBy
 repeat (any_goals (first|assumption|exact hT _|((with_reducible show wpAny _ _ (call (Value.builtin "zip.__getattribute__") _ _) _ _ _);refine O6 P7 (hT _) Gi (F.args_zip_getattribute_2 _ _) (GO z fs _) ⟨hx,hA,fun h' tk' e hn=>?_⟩)|wp_step))
 obtain ⟨t',u',he⟩:=hn.there;show wpAny _ _ (getattributeRaised _ _ _ _ _ _ _) _ _ _;unfold getattributeRaised
 repeat (any_goals (first|assumption|wp_step))
 exact h _ _ hn.keeps
end
end PySem
namespace PySem
open Sem (wp)
section
variable {prog:Mh} {w:World} {A:MP} {E:Value->LU->Prop} {s:LU}
abbrev gf (h:Heap) (z TI TO T:Addr) (b:Bool):Prop:=h.get? z=some { cls:=.type "zip",dict:=none,data:=.fields #[rawInt T,.bool b,.bool false,.ref TI,.ref TO],slots:=#[] }
def v5 {z TI TO T:Addr} {b:Bool} {oT:Obj} {Q:Bool->LU->Prop} (gz:gf s.heap z TI TO T b) (gT:s.heap.get? T=some oT)
  (h:∀ h',gf h' z TI TO T true->O0 z s.heap h'->Q false { s with heap:=h' }):wpAny (model prog w) A (NV (.ref z)) Q E s:=by
 unfold NV;refine LP (Ob gz rfl (x:=rawInt T) rfl ?_);have al:∀ {R:Option Obj->LU->Prop},R (some oT) s->wpAny (model prog w) A (loadIfAlive ((T:Int).toNat)) R E s:=fun {R} r=>by
  intro Γ q hΓ;show R (s.heap.get? ((T:Int).toNat)) s;rw [show ((T:Int).toNat)=T from Nx T,gT];exact r
 refine LP (al ?_);rw [if_neg (fun z=>nomatch z)];refine LP (Ob gz rfl (x:=.bool b) rfl ?_);cases b with
 | true =>
  rw [if_neg (by decide)]
  exact LZ (h _ gz ⟨rfl,fun _ _=>rfl⟩)
 | false =>
  rw [if_pos (by decide)]
  exact LP (P8 gz (by simp) fun h1 gz1 hs1=>LZ (h h1 gz1 hs1))
def xi {z TI TO T i1 i2 l1 l2:Addr} {k1 k2:Nat} {xs ys:Array Value} {x y:Value} {b:Bool} {oT:Obj} {Q:Value->LU->Prop} (D:Qu z TI TO i1 i2 l1 l2)
  (gz:gf s.heap z TI TO T b) (gT:s.heap.get? T=some oT) (gI:SX s.heap TI (.ref i1) (.ref i2))
  (g1:s.heap.IsListIter i1 l1 k1) (g2:s.heap.IsListIter i2 l2 k2) (gl1:s.heap.IsList l1 xs) (gl2:s.heap.IsList l2 ys) (gx:xs[k1]?=some x) (gy:ys[k2]?=some y)
  (hQ:∀ h',gf h' z TI TO T true->h'.IsListIter i1 l1 (k1+1)->h'.IsListIter i2 l2 (k2+1)->SX h' s.heap.objs.size x y ->
   (∀ c o,c≠z->c≠i1->c≠i2->s.heap.get? c=some o->h'.get? c=some o)->Q (.ref s.heap.objs.size) { s with heap:=h' }) :
  wpAny (model prog w) A (OD.«zip.__next__» ⟨[.ref z],[]⟩) (fun fin s'=>∃ v,fin=.done (.ret v)/\Q v s') E s:=by
 show wpAny _ _ (field (.ref z) 2 >>= _) _ _ _;refine LP (Ob gz rfl (x:=.bool false) rfl ?_);show wpAny _ _ (field (.ref z) 3 >>= _) _ _ _;refine LP (Ob gz rfl (x:=.ref TI) rfl ?_);refine LP (S1 gI rfl ?_);show wpAny _ _ (NV (.ref z) >>= _) _ _ _;refine LP (v5 gz gT fun h1 gz1 hs1=>?_);simp only [MU,if_false,List.forIn_toArray,Sn,List.forIn_nil];refine LP (LP (LP (M1 ?_)));show wpAny _ _ (PD (.ref i1) >>= _) _ _ _;refine LP (Sa (g1.extBut hs1.extBut D.i1z) (gl1.extBut hs1.extBut D.l1z) gx fun h2 g12 hs2=>LZ (LZ ?_));refine LP (LP (M1 ?_));show wpAny _ _ (PD (.ref i2) >>= _) _ _ _;refine LP (Sa ((g2.extBut hs1.extBut D.i2z).extBut hs2.extBut D.i12.symm) ((gl2.extBut hs1.extBut D.l2z).extBut hs2.extBut D.l2i1) gy fun h3 g23 hs3=>LZ (LZ (LZ ?_)));refine LP (wpAny_newTuple (LZ ⟨_,rfl,?_⟩) (show 2<=Mx by decide))
 have e1:h1.objs.size=s.heap.objs.size:=hs1.1;have e2:h2.objs.size=h1.objs.size:=hs2.1;have e3:h3.objs.size=h2.objs.size:=hs3.1;have ez:h3.objs.size=s.heap.objs.size:=e3.trans (e2.trans e1);have up:∀ c o,c≠z->c≠i1->c≠i2->s.heap.get? c=some o->h3.get? c=some o:=fun c o n1 n2 n3 q=>hs3.extBut _ _ n3 (hs2.extBut _ _ n2 (hs1.extBut _ _ n1 q));have q:=hQ (h3.push { cls:=.type "tuple",data:=.seq #[x,y] }) (LW _ (hs3.extBut _ _ D.i2z.symm (hs2.extBut _ _ D.i1z.symm gz1))) ((g12.extBut hs3.extBut D.i12).at fun o e=>LW _ e) (g23.at fun o e=>LW _ e)
  (by rw [<- ez];exact Mo _ rfl) fun c o n1 n2 n3 q=>LW _ (up c o n1 n2 n3 q)
 rw [<- ez] at q;exact q
def D2 {z TI TO T i1 i2 l1 l2:Addr} {k1 k2:Nat} {xs ys:Array Value} {x y:Value} {b:Bool} {oT:Obj} {Q:Option Value->LU->Prop} (D:Qu z TI TO i1 i2 l1 l2)
  (gz:gf s.heap z TI TO T b) (gT:s.heap.get? T=some oT) (gI:SX s.heap TI (.ref i1) (.ref i2))
  (g1:s.heap.IsListIter i1 l1 k1) (g2:s.heap.IsListIter i2 l2 k2) (gl1:s.heap.IsList l1 xs) (gl2:s.heap.IsList l2 ys) (gx:xs[k1]?=some x) (gy:ys[k2]?=some y)
  (hQ:∀ h',gf h' z TI TO T true->h'.IsListIter i1 l1 (k1+1)->h'.IsListIter i2 l2 (k2+1)->SX h' s.heap.objs.size x y ->
   (∀ c o,c≠z->c≠i1->c≠i2->s.heap.get? c=some o->h'.get? c=some o)->Q (some (.ref s.heap.objs.size)) { s with heap:=h' }) :
  wpAny (model prog w) A (pyNext (.ref z)) Q E s:=by
 have tz:s.TypeIs (.ref z) "zip":=⟨_,gz,rfl⟩;unfold pyNext;refine LP (Pq (O4 (name:=Nn "__next__") tz QP (N4 QP tz F.entry_zip_next ?_ (F.args_zip_next_1 _))));exact xi D gz gT gI g1 g2 gl1 gl2 gx gy fun h' a1 a2 a3 a4 a5=>LZ (hQ h' a1 a2 a3 a4 a5)
def yB {z TI TO T i1 i2 l1 l2:Addr} {k1:Nat} {xs:Array Value} {b:Bool} {oT:Obj} {Q:Fin->LU->Prop} (hh:A.handled=none) (D:Qu z TI TO i1 i2 l1 l2)
  (gz:gf s.heap z TI TO T b) (gT:s.heap.get? T=some oT) (gI:SX s.heap TI (.ref i1) (.ref i2))
  (g1:s.heap.IsListIter i1 l1 k1) (gl1:s.heap.IsList l1 xs) (gx:xs[k1]?=none)
  (hE:∀ h' e,(∀ c o,c≠z->c≠i1->c≠i2->s.heap.get? c=some o->h'.get? c=some o)->(∃ o,h'.get? e=some o/\o.cls=.type "StopIteration")->E (.ref e) { s with heap:=h' }) :
  wpAny (model prog w) A (OD.«zip.__next__» ⟨[.ref z],[]⟩) Q E s:=by
 show wpAny _ _ (field (.ref z) 2 >>= _) _ _ _;refine LP (Ob gz rfl (x:=.bool false) rfl ?_);show wpAny _ _ (field (.ref z) 3 >>= _) _ _ _;refine LP (Ob gz rfl (x:=.ref TI) rfl ?_);refine LP (S1 gI rfl ?_);show wpAny _ _ (NV (.ref z) >>= _) _ _ _;refine LP (v5 gz gT fun h1 gz1 hs1=>?_);simp only [MU,if_false,List.forIn_toArray,Sn,List.forIn_nil];refine LP (LP (LP (M1 ?_)));show wpAny _ _ (PD (.ref i1) >>= _) _ _ _;exact LP (wpAny_nextOf_list_end hh (g1.extBut hs1.extBut D.i1z) (gl1.extBut hs1.extBut D.l1z) gx fun h2 e hs2 he=>hE h2 e (fun c o n1 n2 n3 q=>hs2 _ _ n2 (hs1.extBut _ _ n1 q)) he)
def Gg {z TI TO T i1 i2 l1 l2:Addr} {k1:Nat} {xs:Array Value} {b:Bool} {oT:Obj} {Q:Option Value->LU->Prop} (hh:A.handled=none) (D:Qu z TI TO i1 i2 l1 l2)
  (gz:gf s.heap z TI TO T b) (gT:s.heap.get? T=some oT) (gI:SX s.heap TI (.ref i1) (.ref i2))
  (g1:s.heap.IsListIter i1 l1 k1) (gl1:s.heap.IsList l1 xs) (gx:xs[k1]?=none)
  (hQ:∀ h',(∀ c o,c≠z->c≠i1->c≠i2->s.heap.get? c=some o->h'.get? c=some o)->Q none { s with heap:=h' }):wpAny (model prog w) A (pyNext (.ref z)) Q E s:=by
 have tz:s.TypeIs (.ref z) "zip":=⟨_,gz,rfl⟩;unfold pyNext;refine LP (Pq (O4 (name:=Nn "__next__") tz QP (N4 QP tz F.entry_zip_next (yB hh D gz gT gI g1 gl1 gx fun h' e hk he=>?_) (F.args_zip_next_1 _))));obtain ⟨o,ho,hc⟩:=he;exact LP (RZ (T:="StopIteration") (b:=true) ⟨o,ho,hc⟩ isSubtype_stop (LZ (hQ _ hk)))
end
end PySem
namespace PySem
open Sem (wp)
def yL:entryFor table "dict.update.loop" = some OD.«dict.update.loop»:=entryFor_of_tree (by kernel_rfl)
def nj:plainId "dict.update.loop" = true:=by trivial
structure j6 (h:Heap) (z TI TO i1 i2 l1 l2:Addr) (i:Nat) (xs ys:Array Value):Prop where
 own:(IsZip h z TI TO .none/\∃ a b,SX h TO a b)\/∃ (T:Addr) (b:Bool) (oT:Obj),gf h z TI TO T b/\h.get? T=some oT/\T≠z/\T≠i1/\T≠i2
 ins:SX h TI (.ref i1) (.ref i2)
 it1:h.IsListIter i1 l1 i
 it2:h.IsListIter i2 l2 i
 ls1:h.IsList l1 xs
 ls2:h.IsList l2 ys
def j6.keep {h h':Heap} {z TI TO i1 i2 l1 l2 d:Addr} {i:Nat} {xs ys:Array Value} (Z:j6 h z TI TO i1 i2 l1 l2 i xs ys) (nz:z≠d) (nI:TI≠d) (nO:TO≠d) (n1:i1≠d) (n2:i2≠d) (n3:l1≠d) (n4:l2≠d)
  (k:∀ c o,c≠d->h.get? c=some o->h'.get? c=some o) (hd:∃ o,h'.get? d=some o):j6 h' z TI TO i1 i2 l1 l2 i xs ys where
 own:=by
  rcases Z.own with ⟨gz,a,b,gO⟩|⟨T,b,oT,gz,gT,t1,t2,t3⟩
  ·exact .inl ⟨k _ _ nz gz,a,b,k _ _ nO gO⟩
  ·by_cases e:T=d
   ·obtain ⟨o,ho⟩:=hd;exact .inr ⟨T,b,o,k _ _ nz gz,by rw [e];exact ho,t1,t2,t3⟩
   ·exact .inr ⟨T,b,oT,k _ _ nz gz,k _ _ e gT,t1,t2,t3⟩
 ins:=k _ _ nI Z.ins
 it1:=Z.it1.at fun o q=>k _ o n1 q
 it2:=Z.it2.at fun o q=>k _ o n2 q
 ls1:=Z.ls1.at fun o q=>k _ o n3 q
 ls2:=Z.ls2.at fun o q=>k _ o n4 q
section
variable {prog:Mh} {w:World} {A:MP} {E:Value->LU->Prop} {s:LU} {z TI TO i1 i2 l1 l2:Addr} {xs ys:Array Value}
def Co {i:Nat} {x y:Value} {Q:Option Value->LU->Prop} (D:Qu z TI TO i1 i2 l1 l2) (Z:j6 s.heap z TI TO i1 i2 l1 l2 i xs ys) (gx:xs[i]?=some x) (gy:ys[i]?=some y)
  (hQ:∀ h',j6 h' z TI TO i1 i2 l1 l2 (i+1) xs ys->SX h' s.heap.objs.size x y->(∀ c o,c≠z->c≠TO->c≠i1->c≠i2->s.heap.get? c=some o->h'.get? c=some o)->Q (some (.ref s.heap.objs.size)) { s with heap:=h' }) :
  wpAny (model prog w) A (pyNext (.ref z)) Q E s:=by
 have lt:∀ {c:Addr} {o:Obj},s.heap.get? c=some o->s.heap.objs.size≠c:=fun e=>OH (L5 e);rcases Z.own with ⟨gz,a,b,gO⟩|⟨T,b,oT,gz,gT,t1,t2,t3⟩
 ·refine So D gz Z.ins gO Z.it1 Z.it2 Z.ls1 Z.ls2 gx gy fun h' a1 a2 a3 a4 a5 a6 hk=>hQ h' ⟨.inr ⟨s.heap.objs.size,false,_,a1,a5,lt gz,?_,?_⟩,hk _ _ D.TIz D.TITO D.TIi1 D.TIi2 Z.ins,a3,a4,Z.ls1.at fun o e=>hk _ o D.l1z D.l1TO D.l1i1 D.l1i2 e,Z.ls2.at fun o e=>hk _ o D.l2z D.l2TO D.l2i1 D.l2i2 e⟩ a5 hk
  ·obtain ⟨_,e,_⟩:=Z.it1;exact lt e
  ·obtain ⟨_,e,_⟩:=Z.it2;exact lt e
 ·exact D2 D gz gT Z.ins Z.it1 Z.it2 Z.ls1 Z.ls2 gx gy fun h' a1 a2 a3 a4 hk=>hQ h' ⟨.inr ⟨T,true,oT,a1,hk _ _ t1 t2 t3 gT,t1,t2,t3⟩,hk _ _ D.TIz D.TIi1 D.TIi2 Z.ins,a2,a3,Z.ls1.at fun o e=>hk _ o D.l1z D.l1i1 D.l1i2 e,Z.ls2.at fun o e=>hk _ o D.l2z D.l2i1 D.l2i2 e⟩ a4 fun c o c1 _ c3 c4 e=>hk c o c1 c3 c4 e
def ET {i:Nat} {Q:Option Value->LU->Prop} (hh:A.handled=none) (D:Qu z TI TO i1 i2 l1 l2) (Z:j6 s.heap z TI TO i1 i2 l1 l2 i xs ys) (gx:xs[i]?=none)
  (hQ:∀ h',(∀ c o,c≠z->c≠TO->c≠i1->c≠i2->s.heap.get? c=some o->h'.get? c=some o)->Q none { s with heap:=h' }):wpAny (model prog w) A (pyNext (.ref z)) Q E s:=by
 rcases Z.own with ⟨gz,a,b,gO⟩|⟨T,b,oT,gz,gT,t1,t2,t3⟩
 ·exact SU hh D gz Z.ins gO Z.it1 Z.it2 Z.ls1 Z.ls2 (.inl gx) fun h' hk=>hQ h' hk
 ·exact Gg hh D gz gT Z.ins Z.it1 Z.ls1 gx fun h' hk=>hQ h' fun c o c1 _ c3 c4 e=>hk c o c1 c3 c4 e
end
section
variable {prog:Mh} {w:World} {A:MP} {E:Value->LU->Prop} {Kk:Type} [DecidableEq Kk] {knd:KeyKind prog w Kk} {d z TI TO i1 i2 l1 l2:Addr} {xs ys:Array Value} {kvs:List (Kk×Value)}
def JB {R:Rj->LU->Prop} (hh:A.handled=none) (D:Qu z TI TO i1 i2 l1 l2) (nz:z≠d) (nI:TI≠d) (nO:TO≠d) (n1:i1≠d) (n2:i2≠d) (n3:l1≠d) (n4:l2≠d) (hl:kvs.length=xs.size) (hz:kvs.length<=Mx)
  (hkv:∀ (i:Nat) (k:Kk) (v:Value),kvs[i]?=some (k,v)->∃ x,xs[i]?=some x/\knd.is k x=true/\ys[i]?=some v) :
  ∀ (m i:Nat) (j:Int) (s:LU),kvs.length - i=m->i<=kvs.length->j6 s.heap z TI TO i1 i2 l1 l2 i xs ys->s.heap.DictOf knd d (merged [] (kvs.take i)) ->
   (∀ h' t',h'.DictOf knd d (merged [] kvs)->(∀ c o,c≠d->c≠z->c≠TO->c≠i1->c≠i2->s.heap.get? c=some o->h'.get? c=some o)->R (.ok (.ret .none)) { s with heap:=h',toks:=t' }) ->
   codeAny (model prog w) A (.builtin "dict.update.loop" ⟨[.ref d,.ref z,rawInt j,.none],[]⟩) R s:=by
 intro m
 induction m with
 | zero =>
  intro i j s hm hi Z hd hR;have e:i=kvs.length:=by lia
  subst e;rw [MJ] at hd;refine Nu yL ?_;rw [Nf nj _];show wpAny _ A.in1 (pyNext (.ref z) >>= _) _ _ s;refine LP (ET (by simpa using hh) D Z (N5 (by lia)) fun h' hk=>?_)
  show wpAny _ A.in1 (Builtin.Dict.addKeywords d [] >>= _) _ _ _;refine LP (LZ (LZ (hR h' s.toks ?_ fun c o _ c1 c2 c3 c4 q=>hk c o c1 c2 c3 c4 q)));obtain ⟨o,es,ep,ho,rest⟩:=hd;exact ⟨o,es,ep,hk _ _ nz.symm nO.symm n1.symm n2.symm ho,rest⟩
 | succ m ih =>
  intro i j s hm hi Z hd hR;have hlt:i<kvs.length:=by lia
  obtain ⟨⟨k,v⟩,hg⟩:∃ p,kvs[i]?=some p:=⟨_,LO hlt⟩;obtain ⟨x,gx,kx,gy⟩:=hkv i k v hg;refine Nu yL ?_;rw [Nf nj _];show wpAny _ A.in1 (pyNext (.ref z) >>= _) _ _ s;refine LP (Co D Z gx gy fun h1 Z1 gp hk=>?_);show wpAny _ A.in1 (holding [Ms s.heap.objs.size] _ >>= _) _ _ _;refine LP (M1 ?_);refine LP (wpAny_tryCatch ?_);unfold Builtin.Dict.pairItems;refine LP (Q3 (T:="tuple") ⟨_,gp,rfl⟩ ?_);rw [if_pos (by decide)]
  refine LP (S1 gp rfl (LZ ?_));show wpAny _ A.in1 (holding [x,v] (dictSet d x v)) _ _ _;refine M1 ?_;have hd1:h1.DictOf knd d (merged [] (kvs.take i)):=by
   obtain ⟨o,es,ep,ho,rest⟩:=hd;exact ⟨o,es,ep,hk _ _ nz.symm nO.symm n1.symm n2.symm ho,rest⟩
  have ml:=merged_length_le ([]:List (Kk×Value)) (kvs.take i);have tl:(kvs.take i).length<=i:=List.length_take_le ..;refine wpAny_dictSet_pairs (s:={ s with heap:=h1 }) (hsz:=by rw [P4,Oy] at ml;lia) kx hd1 fun h2 hd2 hs2=>?_
  rw [<- merged_take_succ [] kvs i (k,v) hg] at hd2;have he:∃ o,h2.get? d=some o:=let ⟨o,_,_,ho,_⟩:=hd2;⟨o,ho⟩;refine LZ ⟨OL nj _,ih (i+1) (j+1) _ (by lia) hlt (Z1.keep nz nI nO n1 n2 n3 n4 (fun c o c1 q=>(hs2.2 c c1).trans q) he) hd2 fun h3 t3 hd3 hk3=>?_⟩
  exact hR h3 t3 hd3 fun c o c0 c1 c2 c3 c4 q=>hk3 c o c0 c1 c2 c3 c4 ((hs2.2 c c0).trans (hk c o c1 c2 c3 c4 q))
def xo {s:LU} {Q:Value->LU->Prop} (hh:A.handled=none) (D:Qu z TI TO i1 i2 l1 l2) (gz:IsZip s.heap z TI TO .none) (Z:j6 s.heap z TI TO i1 i2 l1 l2 0 xs ys) (hl:kvs.length=xs.size) (hz:kvs.length<=Mx)
  (hkv:∀ (i:Nat) (k:Kk) (v:Value),kvs[i]?=some (k,v)->∃ x,xs[i]?=some x/\knd.is k x=true/\ys[i]?=some v) (nd:(kvs.map (·.1)).Nodup) (gO:∃ o,s.heap.get? TO=some o)
  (h:∀ h' t',h'.DictOf knd s.heap.objs.size kvs->(∀ c o,c≠z->c≠TO->c≠i1->c≠i2->s.heap.get? c=some o->h'.get? c=some o)->Q (.ref s.heap.objs.size) { s with heap:=h',toks:=t' }) :
  wpAny (model prog w) A (call (.type "dict") [.ref z]) Q E s:=by
 refine callType_codes (Q₁:=fun obj s₁=>obj=.ref s.heap.objs.size/\s₁={ s with heap:=s.heap.push { cls:=.type "dict",data:=.dict #[] } }) F.kt_called_dict (F.kt_typeCall_dict_1 _) F.entry_dict_init (kt_code_dict_new _ ⟨rfl,rfl⟩) ?_;rintro obj s₁ ⟨rfl,rfl⟩;have anew:(s.heap.push { cls:=.type "dict",data:=.dict #[] }).DictOf knd s.heap.objs.size []:=Heap.DictOf.new s.heap;have lt:∀ {c:Addr} {o:Obj},s.heap.get? c=some o->c≠s.heap.objs.size:=fun e=>Mc (L5 e);have gz1:IsZip (s.heap.push { cls:=.type "dict",data:=.dict #[] }) z TI TO .none:=LW _ gz;have nz:=lt gz;have nI:=lt Z.ins;have nO:TO≠s.heap.objs.size:=let ⟨_,e⟩:=gO;lt e;have n1:i1≠s.heap.objs.size:=let ⟨_,e,_⟩:=Z.it1;lt e;have n2:i2≠s.heap.objs.size:=let ⟨_,e,_⟩:=Z.it2;lt e;have n3:l1≠s.heap.objs.size:=let ⟨_,e,_⟩:=Z.ls1;lt e;have n4:l2≠s.heap.objs.size:=let ⟨_,e,_⟩:=Z.ls2;lt e;refine ⟨anew.typeIs,F.args_dict_init_2 _ _,?_⟩;unfold OD.«dict.__init__»;refine LP ?_;unfold Builtin.Dict.selfAndRest;refine LP (wpAny_notOrdered_dict anew.typeIs ?_);show wpAny _ _ (pure (s.heap.objs.size,[Ms z])) _ _ _;refine LZ ?_;show wpAny _ _ (RI "dict.__init__" s.heap.objs.size (.ref z) [] .none) _ _ _;unfold RI;refine LP (Q3 (T:="zip") ⟨_,gz1,rfl⟩ ?_);rw [if_pos (by decide)]
 refine LP (AN gz1 (by simpa using hh) fun h1 t1 k1=>?_)
 rw [if_pos (show (none:Option Value).isNone=true from rfl)];refine LP (Tu ?_);refine LP (RY (k1 _ _ gz1) ?_);have up:∀ c o,s.heap.get? c=some o->h1.get? c=some o:=fun c o e=>k1 c o (LW _ e);have anew1:h1.DictOf knd s.heap.objs.size []:=by
  obtain ⟨o,es,ep,ho,rest⟩:=anew;exact ⟨o,es,ep,k1 _ _ ho,rest⟩
 have Z1:j6 h1 z TI TO i1 i2 l1 l2 0 xs ys:=Z.keep nz nI nO n1 n2 n3 n4 (fun c o _ e=>up c o e) (let ⟨o,_,_,ho,_⟩:=anew1;⟨o,ho⟩);refine LZ ⟨OL nj _,JB (by simpa using hh) D nz nI nO n1 n2 n3 n4 hl hz hkv kvs.length 0 0 _ rfl (MI _) Z1 anew1 fun h' t' hd' hk'=>?_⟩
 rw [merged_nil_of_nodup kvs nd] at hd';exact ⟨rfl,h h' t' hd' fun c o c1 c2 c3 c4 e=>hk' c o (lt e) c1 c2 c3 c4 (up c o e)⟩
end
end PySem
namespace L2
open PySem PySem.Spec PyProof.Rows
def DI:∀ {ks:List Key} {ys:List V} {us:List Value},Vals ys us->KV (ks.zip ys) (ks.zip us)
 | [],_,_,_=>by
  rw [List.zip_nil_left,List.zip_nil_left];exact Paired.nil
 | _ :: _,_,_,.nil=>Paired.nil
 | _ :: _,_,_,.cons r rr=>Paired.cons ⟨rfl,r⟩ (DI rr)
def yQ (K:LN) (vs:List V) (H:Hp) (Q:VK):Prop:=∃ (a b:Addr) (ks:List Key) (ys:List V),vs=[.ref a,.ref b]/\SqL K H a (ks.map kV)/\SqL K H b ys/\ks.length=ys.length/\ks.Nodup/\∀ d,H d=none->Q (.ref d) (upd H d (.dK (ks.zip ys)))
def xZ (K:LN) (ta:TA):TE:=fun σ H Q=>ta σ H fun vs H1=>yQ K vs H1 Q
def lH {K:LN} {ta:TA} {σ:St} {H:Hp} {Q:VK} (h:ta σ H fun vs H1=>yQ K vs H1 Q):xZ K ta σ H Q:=h
def j9 {X:Cx} (K:LN) (hK:X.K=K) (hc:X.calm=true) {a b:Expr} {ta:TA} {p p2 pos pos2:Pos} (hg1:Gl X "dict") (hm1:X.mg "dict" = none) (hg2:Gl X "zip") (hm2:X.mg "zip" = none) (ha:PA X [a,b] ta) (hn:isStar a=false:=by rfl) (hn2:isStar b=false:=by rfl) :
  PE X (.Call (.Name "dict" p) [.Call (.Name "zip" p2) [a,b] [] pos2] [] pos) (xZ K ta):=by
 subst hK;intro pins s σ H Q I h;refine Call_ (iT I hg1 hm1 PyProof.Rows.boot_dict (Nt ?_ (bz rfl) (cp rfl)));rw [bz rfl];show wpAny _ _ (spliced ((false,eval (.Call (.Name "zip" p2) [a,b] [] pos2) X.env) :: backTo pos (MR [] X.env))) _ _ s;refine Calls.spliced_cons ?_;refine Call_ (iT I hg2 hm2 boot_zip (Nt (thn (ha pos2 pins s σ H _ I h) fun us s1 ⟨vs,H1,I1,r1,q1⟩=>?_) (bz hn) (cp (by simp [hn2]))))
 obtain ⟨l,l',ks,ys,e,hS,hS2,hlen,hnd,q⟩:=q1;subst e;cases r1 with
 | cons r rr =>
  cases rr with
  | cons r2 rr2 =>
   cases rr2;cases (show _=Ms l from r);cases (show _=Ms l' from r2);obtain ⟨its,rv,pl,hz1⟩:=I1.list hS;obtain ⟨its2,rv2,pl2,hz2⟩:=I1.list hS2;have e1:=rv.length;have e2:=rv2.length;rw [LV] at e1 hz1;have zl:(ks.zip its2).length=ks.length:=by rw [QM];lia
   have zv:(ks.zip ys).length=ks.length:=by rw [QM];lia
   have lt1:l<s1.heap.objs.size:=by obtain ⟨_,z,_⟩:=pl.isList;exact L5 z
   have lt2:l' < s1.heap.objs.size:=by obtain ⟨_,z,_⟩:=pl2.isList;exact L5 z
   refine call_zip_2 pl.isList pl2.isList fun h' gz gI gO g1 g2 gs hk=>?_;refine Calls.spliced_nil ?_;refine xo (knd:=cC X.prog X.w) (kvs:=ks.zip its2) (s:={ s1 with heap:=h' }) (I.ok.hd hc) (wj _ _ _ lt1 lt2) gz ⟨.inl ⟨gz,_,_,gO⟩,gI,g1,g2,pl.isList.at fun o e=>hk _ o e,pl2.isList.at fun o e=>hk _ o e⟩ (by rw [zl];simpa using e1) (by rw [zl];exact hz1) (fun i k v e=>?_) ?_ ⟨_,gO⟩ fun h2 t2 hd hk2=>?_
   ·obtain ⟨z1,z2⟩:=Ra.mp e;obtain ⟨u,hu,ru⟩:=rv.get (show (ks.map kV)[i]?=some (kV k) by rw [Mn,z1];rfl)
    exact ⟨u,by simpa using hu,qj ru,by simpa using z2⟩
   ·rw [List.map_fst_zip (by lia)]
    exact hnd
   ·have gs':h'.objs.size=s1.heap.objs.size+5:=gs;have hp:s1.heap.objs.size<=h'.objs.size:=by rw [gs'];exact PR _ _
    refine ⟨.ref h'.objs.size,upd H1 h'.objs.size (.dK (ks.zip ys)),I1.laid (a:=h'.objs.size) (o:=.dK (ks.zip ys)) (fun b o e=>?_) hp (yR (by rw [zv];exact hz1) (beq_eq_false_iff_ne.mpr (NI (Mc (Mm I1.big hp)))) (DI rv2) hd),rfl,q _ (I1.hok.fresh hp)⟩
    have lb:=L5 e;exact hk2 b o (Mc (Mm lb (PR _ _))) (Mc (Mm lb (PR _ _))) (Mc lb) (Mc (Mm lb (PR _ _))) (hk b o e)
def d0 (R M:List Nat):List (Key×V):=(R.map nk).zip (aO M)
def gN:∀ {F M:List Nat} {j f c:Nat},F.Nodup->F[j]?=some f->M[j]?=some c->cO (d0 F M) (nk f)=some (.int (c:Int))
 | [],_,_,_,_,_,h,_=>by simp at h
 | _ :: _,[],_,_,_,_,_,h=>by simp at h
 | a :: F,q :: M,0,f,c,_,h1,h2=>by
  cases h1;cases h2;exact kD rfl
 | a :: F,q :: M,j+1,f,c,nd,h1,h2=>by
  have h1':F[j]?=some f:=h1;have h2':M[j]?=some c:=h2;obtain ⟨n1,n2⟩:=MX.mp nd;have h3:¬ nk a=nk f:=fun z=>n1 (by rw [lT z];exact LR h1')
  show cO ((nk a,V.int (q:Int)) :: d0 F M) (nk f)=_;rw [je h3];exact gN n2 h1' h2'
def zh:∀ {R:List Nat},R.Nodup->(R.map nk).Nodup
 | [],_=>Qt
 | a :: R,h=>by
  obtain ⟨h1,h2⟩:=MX.mp h;refine MX.mpr ⟨fun z=>?_,zh h2⟩;obtain ⟨b,hb,e⟩:=Ml.mp z;exact h1 (by rw [<- lT e];exact hb)
def Iy (R:List Nat):(R.map nk).map kV=aO R:=by
 unfold aO;rw [Ox];rfl
def BZ {K:LN} {H:Hp} {Q:VK} {x y:V} {R M:List Nat} (hR:At K H x R) (hM:At K H y M) (e:R.length=M.length) (nd:R.Nodup) (q:∀ d,H d=none->Q (.ref d) (upd H d (.dK (d0 R M)))):yQ K [x,y] H Q:=by
 obtain ⟨p,rfl,h1⟩:=iZ hR;obtain ⟨p2,rfl,h2⟩:=iZ hM;exact ⟨p,p2,R.map nk,aO M,rfl,by rw [Iy];exact h1,h2,by unfold aO;rw [LV,LV];exact e,zh nd,q⟩
section
variable {X:Cx} {k:Nat} {f:Addr} {Cs:Addr->Prop} {fd:Na} {ps:List Str} {sp:Sp} {m:Str} {pos apos:Pos} {e o:Expr} {es:List Expr} {ta:TE} {t:TA}
end
section
variable {X:Cx}
end
end L2
namespace L2
open PySem
def rJ {xs:Array Nat} {j:Nat} (hs:xs.toList.Pairwise (· < ·)):∀ (fuel lo hi:Nat),hi - lo<=fuel->lo<=hi->hi<=xs.size->(∀ (i y:Nat),i<lo->xs[i]?=some y->y<j)->(∀ (i y:Nat),hi<=i->xs[i]?=some y->j<=y) ->
  Ql xs j fuel lo hi<=xs.size/\(∀ (i y:Nat),i<Ql xs j fuel lo hi->xs[i]?=some y->y<j)/\∀ (i y:Nat),Ql xs j fuel lo hi<=i->xs[i]?=some y->j<=y
 | 0,lo,hi,h1,h2,h3,h4,h5=>by
  have e:lo=hi:=by lia
  subst e;exact ⟨h3,h4,h5⟩
 | fuel+1,lo,hi,h1,h2,h3,h4,h5=>by
  unfold Ql
  by_cases c:lo<hi
  ·rw [if_pos c];have hm:(lo+hi) / 2<xs.size:=by lia
   have get:=MC hm;have mono:∀ (a b x y:Nat),a<b->xs[a]?=some x->xs[b]?=some y->x<y:=fun a b x y hab ha hb=>by
    rw [<- MY] at ha hb;obtain ⟨ha1,rfl⟩:=LQ.mp ha;obtain ⟨hb1,rfl⟩:=LQ.mp hb;exact Mw.mp hs a b ha1 hb1 hab
   dsimp only;have gd:xs.getD ((lo+hi) / 2) j=xs[(lo+hi) / 2]:=by simp [Array.getD,hm]
   rw [gd]
   by_cases d:xs[(lo+hi) / 2]<j
   ·rw [if_pos d];refine rJ hs fuel _ _ (by lia) (by lia) h3 (fun i y hi' hy=>?_) h5
    rcases Mu i ((lo+hi) / 2) with z|z
    ·exact TL (mono _ _ _ _ z hy get) d
    ·have:i=(lo+hi) / 2:=by lia
     subst this;rw [get] at hy;cases hy;exact d
   ·rw [if_neg d];refine rJ hs fuel _ _ (by lia) (by lia) (by lia) h4 fun i y hi' hy=>?_
    rcases Mu ((lo+hi) / 2) i with z|z
    ·exact M7 (PN d) (Ou (mono _ _ _ _ z get hy))
    ·have:i=(lo+hi) / 2:=by lia
     subst this;rw [get] at hy;cases hy;exact PN d
  ·rw [if_neg c];have e:lo=hi:=by lia
   subst e;exact ⟨h3,h4,h5⟩
def rZ {xs:Array Nat} (hs:xs.toList.Pairwise (· < ·)) (j:Nat):MV xs j<=xs.size/\(∀ (i y:Nat),i<MV xs j->xs[i]?=some y->y<j)/\∀ (i y:Nat),MV xs j<=i->xs[i]?=some y->j<=y :=
 rJ hs _ _ _ (by lia) (MI _) (Ma _) (fun i y h=>absurd h (Ss _)) fun i y h hy=>by
  have:=(NH.mp hy).1;lia
def Hh {xs:Array Nat} (hs:xs.toList.Pairwise (· < ·)) {j:Nat} (hj:j∉xs.toList):(OU xs (MV xs j) j).toList.Pairwise (· < ·):=by
 obtain ⟨h1,h2,h3⟩:=rZ hs j;rw [OV];have a:∀ y∈xs.toList.take (MV xs j),y<j:=fun y hy=>by
  obtain ⟨i,hi⟩:=Mr hy;have hlt:i<MV xs j:=by
   have:=(LQ.mp hi).1;rw [MF] at this;lia
  rw [Nz hlt,MY] at hi;exact h2 i y hlt hi
 have b:∀ y∈xs.toList.drop (MV xs j),j<y:=fun y hy=>by
  obtain ⟨i,hi⟩:=Mr hy;rw [List.getElem?_drop,MY] at hi;have c:=h3 _ y (PR _ i) hi;have:y≠j:=fun e=>hj (by rw [<- e];exact Px hy)
  lia
 rw [List.pairwise_append];refine ⟨hs.sublist (List.take_sublist _ _),?_,fun x hx y hy=>?_⟩
 ·rw [Pa];exact ⟨b,hs.sublist (List.drop_sublist _ _)⟩
 ·rcases Mp.mp hy with rfl|hy
  ·exact a x hx
  ·exact TL (a x hx) (b y hy)
def BY {t:N0} (hs:t.place.toList.Pairwise (· < ·)) (hd:t.dummies=#[]) {j:Nat} (hj:j∉t.place.toList):t.slot j=.empty:=by
 unfold SetTable.slot;have:(t.place[MV t.place j]? == some j)=false:=by
  rw [beq_eq_false_iff_ne];intro e;rw [<- MY] at e;exact hj (LR e)
 rw [hd];simp only [this];rfl
def ED {t u:N0} (hm:t.mask=u.mask) (hp:t.place=u.place) (hd:t.dummies=u.dummies) (h:Int):t.freeSlot h=u.freeSlot h:=by
 have hs:∀ j,t.slot j=u.slot j:=fun j=>by unfold SetTable.slot;rw [hp,hd]
 have ha:∀ p,t.advance p=u.advance p:=fun p=>by unfold SetTable.advance;rw [hm]
 have go:∀ (f:Nat) (p:SetTable.Probe),Qm t (fun _=>h+1) h f p=Qm u (fun _=>h+1) h f p:=fun f=>by
  induction f with
  | zero=>intro p;rfl
  | succ f ih =>
   intro p;unfold Qm;rw [hs,ha,ih];simp only [ha,ih]
 unfold SetTable.freeSlot T7 S8;rw [hm,go]
def subs:Nat->Nat->List (List Nat)
 | 0,_=>[[]]
 | n+1,k=>subs n (k+1)++(subs n (k+1)).map (k :: ·)
def nF:∀ (n k:Nat) (l:List Nat),l.Pairwise (· < ·)->(∀ x∈l,k<=x/\x<k+n)->l∈subs n k
 | 0,k,[],_,_=>by unfold subs;simp
 | 0,k,x :: l,_,h=>by have:=h x L8;lia
 | n+1,k,l,hp,h=>by
  unfold subs;rw [Mb];cases l with
  | nil=>exact .inl (nF n (k+1) [] hp fun x hx=>by cases hx)
  | cons x l =>
   rw [Pa] at hp;rcases Mu k x with z|z
   ·refine .inl (nF n (k+1) _ (Pa.mpr hp) fun y hy=>?_);have:=h y hy;rcases Mp.mp hy with rfl|hy'
    ·lia
    ·have:=hp.1 y hy';lia
   ·have e:x=k:=by have:=h x L8;lia
    subst e;refine .inr (Ml.mpr ⟨l,nF n (x+1) l hp.2 fun y hy=>?_,rfl⟩);have:=h y (L4 _ hy);have:=hp.1 y hy;lia
def zG (l:List Nat):N0:={ mask:=7,place:=l.toArray,dummies:=#[],finger:=0,led:=true,moves:=0,plain:=true }
def D8 (l:List Nat) (h:Nat):Bool:=match (zG l).freeSlot (h:Int) with
 | some (j,false)=>decide (j<8) && !(l.contains j)
 | _=>false
def GD:(subs 8 0).all (fun l=>decide (4<l.length) || (LX 23).all (D8 l))=true:=by trivial
def Le {t:N0} (hm:t.mask=7) (hd:t.dummies=#[]) (hs:t.place.toList.Pairwise (· < ·)) (h8:∀ x∈t.place.toList,x<8) (h4:t.place.size<=4) {h:Nat} (h23:h<23):∃ j,t.freeSlot (h:Int)=some (j,false)/\j<8/\j∉t.place.toList:=by
 have m:=nF 8 0 _ hs fun x hx=>⟨MI _,by have:=h8 x hx;lia⟩
 have a:=Mz.mp GD _ m;rw [Bool.or_eq_true] at a;rcases a with a|a
 ·have:=of_decide_eq_true a;rw [MB] at this;lia
 ·have b:=Mz.mp a h (L9.mpr h23);unfold D8 at b;rw [<- ED (t:=t) (u:=zG t.place.toList) hm (by unfold zG;simp) hd] at b
  split at b
  ·rename_i j e
   rw [NT] at b;refine ⟨j,e,of_decide_eq_true b.1,fun z=>?_⟩;have:=b.2;rw [Pp] at this;rw [List.contains_eq_mem,decide_eq_false_iff_not] at this;exact this z
  ·cases b
def zo {h:Nat} (h23:h<23):P9 (h:Int)=h:=by
 unfold P9;have h64:(23:Int)<=2 ^ 64:=by decide
 rw [Int.emod_eq_of_lt (by lia) (by lia)]
 rfl
def IZ {t:N0} (hm:23<=t.mask+1) (hd:t.dummies=#[]) (hs:t.place.toList.Pairwise (· < ·)) {h:Nat} (h23:h<23) (hh:h∉t.place.toList):t.freeSlot (h:Int)=some (h,false):=by
 have e:=BY hs hd hh;unfold SetTable.freeSlot T7 S8;rw [zo h23,MH (show h<t.mask+1 by lia)]
 have f:10 * Qv t.mask=(10 * t.mask+149)+1:=by unfold Qv;lia
 rw [f];unfold Qm;dsimp only;rw [e];rfl
def FD {mask:Nat} {owner:Array (Option Nat)} {h:Nat} (hz:owner.size=mask+1) (hm:h<mask+1) (ho:owner.getD h none=none) (f p:Nat):O8 mask owner (f+1) h p=some h:=by
 unfold O8;have e1:owner.getD h (some 0)=none:=by
  have hl:h<owner.size:=by lia
  simp only [Array.getD,hl,dite_true] at ho ⊢;exact ho
 have e2:∃ k,Su mask h+1 - h=k+1:=⟨Su mask h - h,by unfold Su;split <;> lia⟩
 obtain ⟨k,e2⟩:=e2;rw [e2,List.range_succ_eq_map,OT];simp only [Of,e1,Option.isNone_none]
def at? (l:List Nat) (j:Nat):Option Nat:=if j∈l then some (l.idxOf j) else none
def uD (mask:Nat) (acc:Option (Array (Option Nat)×Nat)) (h:Int):Option (Array (Option Nat)×Nat):=do
 let (owner,k) <- acc
 let j <- O8 mask owner (Qv mask) (P9 h % (mask+1)) (P9 h)
 pure (owner.setIfInBounds j (some k),k+1)
def Bi {mask:Nat}:∀ (ks done:List Nat) (owner:Array (Option Nat)),owner.size=mask+1->(∀ k∈ks,k<23)->23<=mask+1->(done++ks).Nodup->(∀ j,j<mask+1->owner.getD j none=at? done j) ->
  ∃ owner',(ks.map fun (k:Nat)=>(k:Int)).foldl (uD mask) (some (owner,done.length))=some (owner',(done++ks).length)/\owner'.size=mask+1/\∀ j,j<mask+1->owner'.getD j none=at? (done++ks) j
 | [],done,owner,hz,_,_,_,ho=>⟨owner,by simp,hz,by simpa using ho⟩
 | k :: ks,done,owner,hz,hk,hm,nd,ho=>by
  have k23:=hk k L8;have kd:k∉done:=fun z=>by
   rw [Ro] at nd;exact nd.2.2 k z k L8 rfl
  have o1:owner.getD k none=none:=by rw [ho k (by lia)];unfold at?;rw [if_neg kd]
  have e:done++k :: ks=(done++[k])++ks:=by simp
  rw [e] at nd ⊢;have:=Bi ks (done++[k]) (owner.setIfInBounds k (some done.length)) (by rw [Array.size_setIfInBounds];exact hz) (fun x hx=>hk x (L4 _ hx)) hm nd fun j hj=>by
   rw [N1,Array.getElem?_setIfInBounds]
   by_cases c:k=j
   ·subst c;rw [if_pos rfl,if_pos (by lia)]
    unfold at?;rw [if_pos (by simp),List.idxOf_append,if_neg kd]
    simp
   ·rw [if_neg c,<- N1,ho j hj];unfold at?;have mm:(j∈done++[k])↔j∈done:=by
     rw [Mb,LY];exact ⟨fun z=>z.elim id fun z=>absurd z.symm c,.inl⟩
    by_cases d:j∈done
    ·rw [if_pos d,if_pos (mm.mpr d),List.idxOf_append,if_pos d]
    ·rw [if_neg d,if_neg fun z=>d (mm.mp z)]
  obtain ⟨owner',w1,w2,w3⟩:=this;refine ⟨owner',?_,w2,w3⟩;rw [My,List.foldl_cons];have st:uD mask (some (owner,done.length)) (k:Int)=some (owner.setIfInBounds k (some done.length),done.length+1):=by
   show (O8 mask owner (Qv mask) (P9 (k:Int) % (mask+1)) (P9 (k:Int))).bind _=_;rw [zo k23,MH (show k<mask+1 by lia),show Qv mask=(mask+14)+1 from rfl,FD hz (by lia) o1]
   rfl
  rw [st];rw [Mq] at w1;exact w1
def bZ (mask:Nat) (ks:List Nat):List Nat:=(LX (mask+1)).filter fun j=>decide (j∈ks)
def vq {mask:Nat} {ks:List Nat} (h:∀ k∈ks,k<mask+1) {j:Nat}:j∈bZ mask ks↔j∈ks:=by
 unfold bZ;rw [Nj,L9,decide_eq_true_iff];exact ⟨fun z=>z.2,fun z=>⟨h j z,z⟩⟩
def sr {mask:Nat} {ks:List Nat} (h:∀ k∈ks,k<mask+1) (nd:ks.Nodup):(bZ mask ks).Perm ks :=
 (List.perm_ext_iff_of_nodup (O5.filter _) nd).mpr fun _=>vq h
def yp {α β:Type} {f g:α->Option β}:∀ {l:List α},(∀ x∈l,f x=g x)->l.filterMap f=l.filterMap g
 | [],_=>rfl
 | x :: l,h=>by rw [N6,N6,h x L8,yp fun y hy=>h y (L4 _ hy)]
def GW {mask finger moves:Nat} {led plain:Bool} {ks:List Nat} (h23:∀ k∈ks,k<23) (hm:23<=mask+1) (nd:ks.Nodup) :
  SetTable.laid mask finger moves led plain (ks.map fun (k:Nat)=>(k:Int)).toArray=some ({ mask,place:=(bZ mask ks).toArray,dummies:=#[],finger,led,moves,plain },((bZ mask ks).map fun j=>ks.idxOf j).toArray):=by
 obtain ⟨owner,h1,h2,h3⟩:=Bi ks [] (Array.replicate (mask+1) none) (by simp) h23 hm (by simpa using nd) fun j hj=>by
  unfold at?;simp [N1,hj]
 have lc:Tw mask (ks.map fun (k:Nat)=>(k:Int)).toArray=some owner:=by
  unfold Tw;rw [List.foldl_toArray];have:(ks.map fun (k:Nat)=>(k:Int)).foldl (uD mask) (some (Array.replicate (mask+1) none,0))=some (owner,([]++ks).length):=h1;exact congrArg (Option.map (·.1)) this
 unfold SetTable.laid;rw [lc];have lv:((LX (mask+1)).filterMap fun j=>(owner.getD j none).map (j,·))=(bZ mask ks).map fun j=>(j,ks.idxOf j):=by
  unfold bZ;rw [<- List.filterMap_eq_map,List.filterMap_filter];refine yp fun j hj=>?_;rw [h3 j (L9.mp hj)];unfold at?;simp only [List.nil_append,decide_eq_true_eq]
  by_cases d:j∈ks
  ·rw [if_pos d,if_pos d];rfl
  ·rw [if_neg d,if_neg d];rfl
 show some _=some _;rw [lv,Ox,Ox]
 congr 2
 simp [Function.comp_def]
structure Good (led:Bool) (es:Array (Int×Value)) (t:N0) (ks:List Nat):Prop where
 plain:t.plain=true
 led:t.led=led
 dum:t.dummies=#[]
 size:t.place.size=es.size
 rise:t.place.toList.Pairwise (· < ·)
 keys:es.toList.map (·.1)=ks.map fun (k:Nat)=>(k:Int)
 nd:ks.Nodup
 lt:∀ k∈ks,k<23
 st:(t.mask=7/\es.size<=4/\∀ j∈t.place.toList,j<8)\/((t.mask=31/\es.size<=18\/t.mask=127)/\t.place.toList=ks)
def Good.len {led:Bool} {es:Array (Int×Value)} {t:N0} {ks:List Nat} (g:Good led es t ks):es.size=ks.length:=by
 have:=congrArg QJ g.keys;rw [LV,LV,MB] at this;exact this
def jW {ks:List Nat} (nd:ks.Nodup) (h:∀ k∈ks,k<23):ks.length<=23:=by
 have e:=(sr (mask:=22) h nd).length_eq;have:(bZ 22 ks).length<=23:=by
  unfold bZ;exact M7 (Og _ _) (by simp)
 lia
def AU {es:Array (Int×Value)} {ks:List Nat} (h:es.toList.map (·.1)=ks.map fun (k:Nat)=>(k:Int)) (p k:Nat) (x:Value):(OU es p ((k:Int),x)).toList.map (·.1)=(ks.take p++k :: ks.drop p).map fun (k:Nat)=>(k:Int):=by
 rw [OV,M8,My,Tq,Tr,h,M8,My,Tq,Tr]
def Ay {ks:List Nat} (p k:Nat):(ks.take p++k :: ks.drop p).Perm (k :: ks):=by
 have:=R1 (a:=k) (l₁:=ks.take p) (l₂:=ks.drop p);rw [Pe] at this;exact this
def Iz {ks:List Nat} (nd:ks.Nodup):ks.map (fun j=>ks.idxOf j)=LX ks.length:=by
 refine Oa fun i=>?_;rw [Mn];rcases Mu i ks.length with h|h
 ·rw [LO h,O1 h];show some (ks.idxOf ks[i])=_;rw [nd.idxOf_getElem i h]
 ·rw [MD h,MD (by rw [M4];exact h)]
  rfl
def tQ {led:Bool} {es:Array (Int×Value)} {t:N0} {ks:List Nat} {wanted M:Nat} (hp:t.plain=true) (hl:t.led=led) (hk:es.toList.map (·.1)=ks.map fun (k:Nat)=>(k:Int)) (nd:ks.Nodup) (lt:∀ k∈ks,k<23)
  (hM:SetTable.sizeAbove wanted - 1=M) (h2:M=31/\es.size<=18\/M=127):∃ es2 t2 ks2,relayAll t es wanted=(es2,t2,false)/\Good led es2 t2 ks2/\ks2.Perm ks:=by
 have n23:=jW nd lt;have m23:23<=M+1:=by lia
 have lt':∀ k∈ks,k<M+1:=fun k hk=>by have:=lt k hk;lia
 have pm:=sr lt' nd;have el:es.size=ks.length:=by
  have:=congrArg QJ hk;rw [LV,LV,MB] at this;exact this
 have ea:es.map (·.1)=(ks.map fun (k:Nat)=>(k:Int)).toArray:=by
  rw [<- hk];apply R3.mp;simp
 have nk:∀ (i:Nat) (e:Int×Value),es[i]?=some e->∃ k,ks[i]?=some k/\e.1=(k:Int):=fun i e he=>by
  have:=congrArg (fun l=>l[i]?) hk;rw [Mn,Mn,MY,he] at this;cases q:ks[i]? with
  | none=>rw [q] at this;cases this
  | some k=>rw [q] at this;exact ⟨k,rfl,ME this⟩
 have key:∀ (l:List Nat),(∀ j∈l,j∈ks)->((l.map fun j=>ks.idxOf j).filterMap (es[·]?)).map (·.1)=l.map fun (k:Nat)=>(k:Int):=fun l=>by
  induction l with
  | nil=>intro _;rfl
  | cons j l ih =>
   intro h;have hj:=h j L8;have il:ks.idxOf j<es.size:=by rw [el];exact MZ hj
   have he:=MC il;obtain ⟨k,hk1,hk2⟩:=nk _ _ he;have:k=j:=by
    rw [LO (MZ hj),Q0] at hk1;exact (ME hk1).symm
   subst this;rw [My,N6,he];show _ :: _=_ :: _;dsimp only;rw [hk2,ih fun x hx=>h x (L4 _ hx)]
 have k2:=key (bZ M ks) fun j hj=>(vq lt').mp hj;have l2:((((bZ M ks).map fun j=>ks.idxOf j).toArray).filterMap (es[·]?)).toList=(((bZ M ks).map fun j=>ks.idxOf j).filterMap (es[·]?)):=by simp
 have z2:((((bZ M ks).map fun j=>ks.idxOf j).toArray).filterMap (es[·]?)).size=(bZ M ks).length:=by
  rw [<- MB,l2];have:=congrArg QJ k2
  rwa [LV,LV] at this
 have c1:coversAll ((bZ M ks).map fun j=>ks.idxOf j).toArray es.size=true:=by
  unfold coversAll;rw [List.isPerm_iff,el,<- Iz nd];exact pm.map _
 refine ⟨(((bZ M ks).map fun j=>ks.idxOf j).toArray).filterMap (es[·]?),{ mask:=M,place:=(bZ M ks).toArray,dummies:=#[],finger:=t.finger,led:=t.led,moves:=t.movedTo M,plain:=t.plain },bZ M ks,?_,⟨hp,hl,rfl,?_,?_,?_,?_,?_,?_⟩,pm⟩
 ·unfold relayAll SetTable.relaid;rw [hM,ea,GW lt m23 nd];dsimp only;rw [c1];have f:QI { mask:=M,place:=(bZ M ks).toArray,dummies:=#[],finger:=t.finger,led:=t.led,moves:=t.movedTo M,plain:=t.plain } ((((bZ M ks).map fun j=>ks.idxOf j).toArray).filterMap (es[·]?)).size=true:=by
   unfold QI RJ;have:=pm.length_eq;rw [z2];simp;lia
  rw [f];rfl
 ·show (bZ M ks).toArray.size=_;rw [z2];simp
 ·show (bZ M ks).toArray.toList.Pairwise (· < ·);exact QE _ O9
 ·rw [l2];exact k2
 ·exact pm.nodup_iff.mpr nd
 ·exact fun k hk=>lt k (pm.mem_iff.mp hk)
 ·refine .inr ⟨?_,rfl⟩;rw [z2,pm.length_eq,<- el];exact h2
def Good.fresh (led:Bool):Good led #[] (.fresh 0 0 led) []:=⟨rfl,rfl,rfl,rfl,List.Pairwise.nil,rfl,Qt,(fun k hk=>by cases hk),.inl ⟨rfl,MI _,fun j hj=>by cases hj⟩⟩
def qL {α:Type} (xs:Array α) (p:Nat) (x:α):(OU xs p x).size=xs.size+1:=by
 have:=(SetTable.insertAt_perm xs p x).length_eq;rw [MB,MB,Array.size_push] at this;exact this
def Good.add {led:Bool} {es:Array (Int×Value)} {t:N0} {ks:List Nat} (g:Good led es t ks) {k:Nat} (hk:k<23) (hn:k∉ks) (x:Value) :
  ∃ es1 t1,layNew t es (k:Int) x=(es1,t1,false,false)/\t1.plain=true/\((t1.tooFull=false/\∃ ks1,Good led es1 t1 ks1/\ks1.Perm (k :: ks))\/(t1.tooFull=true/\∃ es2 t2 ks2,relayAll t1 es1 (Rb es1.size)=(es2,t2,false)/\Good led es2 t2 ks2/\ks2.Perm (k :: ks))):=by
 have el:=g.len;have nd1:(k :: ks).Nodup:=MX.mpr ⟨hn,g.nd⟩;have lt1:∀ y∈k :: ks,y<23:=fun y hy=>by
  rcases Mp.mp hy with rfl|hy
  ·exact hk
  ·exact g.lt y hy
 have l23:=jW nd1 lt1;rw [MN] at l23;obtain ⟨j,hf,hj,hb⟩:∃ j,t.freeSlot (k:Int)=some (j,false)/\j∉t.place.toList/\((t.mask=7/\es.size<=4/\(∀ y∈t.place.toList,y<8)/\j<8)\/((t.mask=31/\es.size<=18\/t.mask=127)/\t.place.toList=ks/\j=k)):=by
  rcases g.st with ⟨h1,h2,h3⟩|⟨h1,h2⟩
  ·obtain ⟨j,a,b,c⟩:=Le h1 g.dum g.rise h3 (by rw [g.size];exact h2) hk
   exact ⟨j,a,c,.inl ⟨h1,h2,h3,b⟩⟩
  ·have kp:k∉t.place.toList:=by rw [h2];exact hn
   exact ⟨k,IZ (by lia) g.dum g.rise hk kp,kp,.inr ⟨h1,h2,rfl⟩⟩
 have hput:t.put j=({ t with place:=OU t.place (MV t.place j) j,dummies:=#[] },MV t.place j):=by
  unfold SetTable.put;rw [g.dum];rfl
 have rise1:=Hh g.rise hj;have z1:=qL t.place (MV t.place j) j;have z2:=qL es (MV t.place j) ((k:Int),x);have keys1:=AU g.keys (MV t.place j) k x;have pm:=Ay (ks:=ks) (MV t.place j) k;generalize hP:OU t.place (MV t.place j) j=pl at hput rise1 z1;generalize hE:OU es (MV t.place j) ((k:Int),x)=es1 at z2 keys1;have fits:QI { t with place:=pl,dummies:=#[] } es1.size=true:=by
  unfold QI RJ;rw [NT];refine ⟨by simp [z1,z2,g.size],decide_eq_true ?_⟩
  show pl.size+0<=t.mask;rw [z1,g.size];lia
 have nd2:=pm.nodup_iff.mpr nd1;have lt2:∀ y∈ks.take (MV t.place j)++k :: ks.drop (MV t.place j),y<23:=fun y hy=>lt1 y (pm.mem_iff.mp hy);refine ⟨es1,{ t with place:=pl,dummies:=#[] },?_,g.plain,?_⟩
 ·unfold layNew;rw [hf];dsimp only;rw [hput];dsimp only;rw [hE];unfold SetTable.orStandIn;rw [fits];rfl
 ·have tf:SetTable.tooFull { t with place:=pl,dummies:=#[] }=decide ((es.size+1) * 5 >= t.mask * 3):=by
   unfold SetTable.tooFull RJ;show decide ((pl.size+0) * 5 >= t.mask * 3)=_;rw [z1,g.size]
  rw [tf]
  by_cases c:(es.size+1) * 5 >= t.mask * 3
  ·refine .inr ⟨decide_eq_true c,?_⟩;rcases hb with ⟨b1,b2,b3,b4⟩|⟨b1,b2,b3⟩
   ·have e5:es1.size=5:=by lia
    obtain ⟨es2,t2,ks2,w1,w2,w3⟩:=tQ (led:=led) (t:={ t with place:=pl,dummies:=#[] }) (wanted:=Rb es1.size) (M:=31) g.plain g.led keys1 nd2 lt2 (by rw [e5];decide) (.inl ⟨rfl,by lia⟩)
    exact ⟨es2,t2,ks2,w1,w2,w3.trans pm⟩
   ·rcases b1 with ⟨b1,b4⟩|b1
    ·have e5:es1.size=19:=by lia
     obtain ⟨es2,t2,ks2,w1,w2,w3⟩:=tQ (led:=led) (t:={ t with place:=pl,dummies:=#[] }) (wanted:=Rb es1.size) (M:=127) g.plain g.led keys1 nd2 lt2 (by rw [e5];decide) (.inr rfl)
     exact ⟨es2,t2,ks2,w1,w2,w3.trans pm⟩
    ·lia
  ·refine .inl ⟨decide_eq_false c,_,⟨g.plain,g.led,rfl,?_,rise1,keys1,nd2,lt2,?_⟩,pm⟩
   ·show pl.size=_;rw [z1,z2,g.size]
   ·rcases hb with ⟨b1,b2,b3,b4⟩|⟨b1,b2,b3⟩
    ·refine .inl ⟨b1,by lia,fun y hy=>?_⟩
     rw [<- hP,OV] at hy;have hy':y∈t.place.toList\/y=j:=by
      rcases Mb.mp hy with z|z
      ·exact .inl (Py z)
      ·rcases Mp.mp z with z|z
       ·exact .inr z
       ·exact .inl (Px z)
     rcases hy' with z|rfl
     ·exact b3 y z
     ·exact b4
    ·refine .inr ⟨?_,?_⟩
     ·show t.mask=31/\es1.size<=18\/t.mask=127;rcases b1 with ⟨b1,b4⟩|b1
      ·exact .inl ⟨b1,by lia⟩
      ·exact .inr b1
     ·show pl.toList=_;rw [<- hP,OV,b2,b3]
end L2
namespace L2
open PySem PySem.Spec PyProof.Rows
def bh (w:World):Bool:=w.params.followText "set-order"
def zf {k:Nat} (h:k<23):hashInt (k:Int)=(k:Int):=by
 have:∀ i:_root_.Fin 23,hashInt ((i.val:Nat):Int)=((i.val:Nat):Int):=by trivial
 exact this ⟨k,h⟩
def Nums (es:Array (Int×Value)):Prop:=∀ e∈es.toList,∃ (k:Nat) (tk:Tok),k<23/\e=((k:Int),Ol (k:Int) tk)
def Nums.elems {prog:Mh} {w:World} {es:Array (Int×Value)} (h:Nums es):ElemsOf (intKind prog w) es.toList:=fun e he=>by
 obtain ⟨k,tk,hk,rfl⟩:=h e he;exact ⟨⟨(k:Int),SQ _ _ _ _,(zf hk).symm⟩,rfl⟩
def Nums.perm {es es':Array (Int×Value)} (h:Nums es) (p:es'.toList.Perm es.toList):Nums es':=fun e he=>h e (p.mem_iff.mp he)
def Good.fits {led:Bool} {es:Array (Int×Value)} {t:N0} {ks:List Nat} (g:Good led es t ks):t.fits es.size=true:=by
 unfold QI RJ;have l:=g.len;have n:=jW g.nd g.lt;have z:=g.size;rw [g.dum,NT];refine ⟨by simp [z],decide_eq_true ?_⟩
 show t.place.size+0<=t.mask;rcases g.st with ⟨h1,h2,_⟩|⟨h1,_⟩ <;> lia
def eP (h:Heap) (a:Addr) (led:Bool) (ks:List Nat):Prop:=∃ o es ep t,h.get? a=some o/\o.ExactSet/\o.data=.set es ep t/\Nums es/\Good led es t ks
section
variable {prog:Mh} {w:World} {A:MP} {E:Value->LU->Prop} {s:LU}
def GI {a:Addr} {led:Bool} {ks:List Nat} {k:Nat} {tk:Tok} {Q:Bool->LU->Prop} (hk:k<23) (hS:eP s.heap a led ks)
  (h:∀ b h' ks',O0 a s.heap h'->eP h' a led ks'->(∀ x,x∈ks'↔x∈ks\/x=k)->Q b { s with heap:=h' }) :
  wpAny (model prog w) A (setAddHashed a (.int (k:Int) tk) (hashInt (k:Int))) Q E s:=by
 obtain ⟨o,es,ep,t,ho,hex,hd,hnum,g⟩:=hS;have l:=g.len;have n:=jW g.nd g.lt;have hb:es.size<scanBound:=by show es.size<4096;lia
 have hel:=hnum.elems (prog:=prog) (w:=w);have hmem:∀ j,j∈ks↔∃ e∈es.toList,(intKind prog w).is (j:Int) e.2=true:=fun j=>by
  have kk:=g.keys;constructor
  ·intro hj;have:(j:Int)∈es.toList.map (·.1):=by rw [kk];exact Ml.mpr ⟨j,hj,rfl⟩
   obtain ⟨e,he,e1⟩:=Ml.mp this;obtain ⟨k',tk',_,rfl⟩:=hnum e he;refine ⟨_,he,?_⟩;dsimp only at e1 ⊢;rw [e1];exact SQ _ _ _ _
  ·rintro ⟨e,he,q⟩;obtain ⟨k',tk',_,rfl⟩:=hnum e he;have e2:(j:Int)=(k':Int):=(intKind prog w).inj _ _ _ q (SQ _ _ _ _);have:(j:Int)∈ks.map fun (k:Nat)=>(k:Int):=by rw [<- kk,e2];exact Ml.mpr ⟨_,he,rfl⟩
   obtain ⟨j',hj',e3⟩:=Ml.mp this;have:j'=j:=by lia
   exact this ▸ hj'
 unfold setAddHashed setAddHashedIn;refine M1 (LP (OW ho hd g.fits ?_));dsimp only;rw [byScan_of rfl hb hel,if_pos rfl];unfold setAddByScan;refine LP (LP (Tu (LP (wpAny_setScan_of (knd:=intKind prog w) (SQ _ _ _ _) ho hd g.fits hel ?_))));cases hr:List.findIdx? (fun e=>(intKind prog w).is (k:Int) e.2) es.toList with
 | some j =>
  obtain ⟨hj,q,_⟩:=List.findIdx?_eq_some_iff_getElem.mp hr;have hin:k∈ks:=(hmem k).mpr ⟨_,Nr hj,q⟩;dsimp only;refine LZ (LZ ?_);exact h false s.heap ks (Heap.SameBut.refl a s.heap) ⟨o,es,ep,t,ho,hex,hd,hnum,g⟩ fun x=>⟨.inl,fun z=>z.elim id fun z=>z ▸ hin⟩
 | none =>
  have hn:k∉ks:=fun z=>by
   obtain ⟨e,he,q⟩:=(hmem k).mp z;have:=List.findIdx?_eq_none_iff.mp hr e he;rw [q] at this;cases this
  dsimp only;have lp:=layNew_perm t es (k:Int) (.int (k:Int) tk);obtain ⟨es1,t1,hl,hp1,alt⟩:=g.add hk hn (.int (k:Int) tk);rw [zf hk,hl];rw [hl,Array.toList_push] at lp;dsimp only at lp;have num1:Nums es1:=fun e he=>by
   rcases Mb.mp (lp.mem_iff.mp he) with z|z
   ·exact hnum e z
   ·exact ⟨k,tk,hk,LY.mp z⟩
  dsimp only;refine LP (LZ ?_);rw [hp1,if_pos rfl];refine LP ?_;rw [hashByValue_scannable 8 rfl];refine LZ ?_;rw [if_pos (show plainKind (Ol (k:Int) tk)=true from rfl)];have s1:es1.size<scanBound:=by
   have:=lp.length_eq;rw [MB,Mq,MB,Oe] at this;show es1.size<4096;lia
  have o1:(s.heap.update a (Rr es1 t1)).get? a=some { o with data:=.set es1 (ep+1) t1 }:=by
   have:=NB (Rr es1 t1) ho (by rw [T3 es1 t1 hd];rfl)
   rw [T3 es1 t1 hd] at this;exact this
  have b1:=S9 s.heap a (Rr es1 t1);have mm:∀ {ks':List Nat},ks'.Perm (k :: ks)->∀ x,x∈ks'↔x∈ks\/x=k:=fun p x=>by rw [p.mem_iff,Mp];exact Or.comm
  refine LP (wpAny_storeSet_of ho hd ?_ (fits_of_scanBound s1));rcases alt with ⟨tf,ks1,g1,p1⟩|⟨tf,es2,t2,ks2,hrl,g2,p2⟩
  ·rw [tf];refine LZ (LZ ?_);exact h true _ ks1 b1 ⟨_,es1,ep+1,t1,o1,hex,rfl,num1,g1⟩ (mm p1)
  ·have rp:=relayAll_perm t1 es1 (Rb es1.size);rw [tf,hrl];rw [hrl] at rp;dsimp only at rp;have s2:es2.size<scanBound:=by
    have:=rp.length_eq;rw [MB,MB] at this;show es2.size<4096;have:es1.size<4096:=s1;lia
   refine LP (LZ (LP (wpAny_storeSet_of o1 rfl ?_ (fits_of_scanBound s2))));have o2:((s.heap.update a (Rr es1 t1)).update a (Rr es2 t2)).get? a=some { o with data:=.set es2 (ep+1+1) t2 }:=by
    have:=NB (Rr es2 t2) o1 (by rw [T3 es2 t2 rfl];rfl)
    rw [T3 es2 t2 rfl] at this;exact this
   refine LZ (LZ ?_);exact h true _ ks2 (b1.trans (S9 _ a _)) ⟨_,es2,ep+1+1,t2,o2,hex,rfl,num1.perm rp,g2⟩ (mm p2)
def Ez {I:Addr} {fp wr:List Addr} {G:Array Qr->Array Qr->Prop} {n:Nat} {P:Nat->Value->Prop} {St:Nat->LU->Prop} {R:Rj->LU->Prop} (W:WalksS prog w A.in1 I fp wr G n P St) (a:Addr) (ha:a∉fp) {led:Bool}
  (val:Nat->Nat) (hval:∀ i v,P i v->∃ t,v=.int (val i:Int) t) (h23:∀ i,i<n->val i<23) :
  ∀ (k i:Nat) (s:LU) (ks:List Nat),n - i=k->i<=n->St i s->eP s.heap a led ks->(∀ x,x∈ks↔∃ j,j<i/\val j=x) ->
   (∀ s' ks',Moved (a :: wr) G s s'->eP s'.heap a led ks'->(∀ x,x∈ks'↔∃ j,j<n/\val j=x)->R (.ok (.ret .none)) s') ->
   codeAny (model prog w) A (.builtin "set.update.loop" ⟨[.ref a,.ref I],[]⟩) R s:=by
 have haw:a∉wr:=fun z=>ha (W.sub _ z);have up:∀ b∈wr,b∈a :: wr:=fun b hb=>L4 _ hb;have keepS:∀ {s s':LU} {ks:List Nat},Moved wr G s s'->eP s.heap a led ks->eP s'.heap a led ks:=fun hm ⟨o,es,ep,t,ho,r⟩=>⟨o,es,ep,t,hm.heap a _ haw ho,r⟩;intro k
 induction k with
 | zero =>
  intro i s ks hk hi hst hS hm hR;have e:i=n:=by lia
  subst e;refine Nu RK ?_;rw [Nf Qa _];show wpAny _ A.in1 (pyNext (.ref I) >>= _) _ _ s;refine LP (W.done s _ _ hst fun s' mv=>?_);exact LZ (hR s' ks (mv.mono up) (keepS mv hS) hm)
 | succ k ih =>
  intro i s ks hk hi hst hS hm hR;have il:i<n:=by lia
  refine Nu RK ?_;rw [Nf Qa _];show wpAny _ A.in1 (pyNext (.ref I) >>= _) _ _ s;refine LP (W.item i s _ _ il hst fun v s' hP hst' mv=>?_);obtain ⟨tk,rfl⟩:=hval i v hP;show wpAny _ A.in1 (holding [Ol (val i:Int) tk] (setAdd a (.int (val i:Int) tk)) >>= _) _ _ s';refine LP (M1 ?_);unfold setAdd;refine M1 (LP ((intKind prog w).pyHash (k:=(val i:Int)) (SQ _ _ _ _) ?_));refine GI (s:={ s' with toks:=s'.toks+1 }) (h23 i il) (show eP s'.heap a led ks from keepS mv hS) fun b h' ks' sb hS' hm'=>?_;refine LZ ⟨OL Qa _,ih (i+1) _ ks' (by lia) il (W.frame _ s' _ _ hst' (OB _) fun b hb o e=>?_) hS' (fun x=>?_) fun s'' ks'' mv' hS'' hm''=>?_⟩
  ·rw [sb.2 b (fun z=>ha (z ▸ hb))];exact e
  ·rw [hm' x,hm x];constructor
   ·rintro (⟨j,hj,e⟩|rfl)
    ·exact ⟨j,by lia,e⟩
    ·exact ⟨i,by lia,rfl⟩
   ·rintro ⟨j,hj,e⟩;rcases Mu j i with z|z
    ·exact .inl ⟨j,z,e⟩
    ·have:j=i:=by lia
     exact .inr (by rw [<- e,this])
  ·refine hR s'' ks'' (Moved.trans W.gtrans ((mv.mono up).then_heap (OB _) fun b o hb e=>?_) mv') hS'' hm'';rw [sb.2 b (fun z=>hb (z ▸ L8))];exact e
abbrev jC (w:World):Obj:={ cls:=.type "set",dict:=none,data:=.set #[] 0 (.fresh 0 0 (!bh w)) }
def E7 (x:Value) {Q:Value->LU->Prop} (h:Q (.ref s.heap.objs.size) { s with heap:=s.heap.push (jC w) }) :
  codeAny (model prog w) A (.call (.builtin "set.__new__") ⟨[.type "set",x],[]⟩) (wants Q E) s:=by
 refine Sv ?_;show wpAny _ A.in1 (do checkBuiltinCall "set.__new__" ⟨[.type "set",x],[]⟩;again (.builtin "set.__new__" ⟨[.type "set",x],[]⟩)) _ _ s;refine LP (wpAny_of_eq (F.newCall_set_1 x) (LZ ⟨OL F.plain_set_new _,Nu F.entry_set_new ?_⟩));rw [Nf F.plain_set_new _];unfold OD.«set.__new__» Builtin.Frozenset.newClass;have hsub:=sub_set_self;obtain ⟨hp,g,d,tk,os⟩:=s;dsimp only
 wp_walk
 refine R4 (LZ ?_);dsimp only;simp only [newObj];refine LP (wpAny_alloc (LZ ?_));exact LZ h
set_option maxHeartbeats 3200000 in
def CZ {l:Addr} {items:Array Value} {ns:List Nat} {Q:Value->LU->Prop} (hh:A.handled=none) (hl:s.heap.IsList l items) (hi:OC items.toList (ns.map fun (n:Nat)=>(n:Int))) (h23:∀ x∈ns,x<23)
  (h:∀ (h':Heap) (tk:Nat) (ks:List Nat),eP h' s.heap.objs.size (!bh w) ks->(∀ x,x∈ks↔x∈ns)->(∀ b o,b<s.heap.objs.size->s.heap.get? b=some o->h'.get? b=some o)->Q (.ref s.heap.objs.size) { s with heap:=h',toks:=tk }) :
  wpAny (model prog w) A (call (.type "set") [.ref l]) Q E s:=by
 have hz:items.size=ns.length:=by
  have:=hi.length;rw [MB,LV] at this;exact this
 obtain ⟨c,tl,hmro⟩:=Pf.mro;have hmade:=Pf.made;have hsub:=Pf.sub;refine Rm (Sv ?_);show wpAny _ _ (callAny (.type "set") _) _ _ _;refine LZ ⟨P6 _ (by trivial),Nu F.entry_type_call ?_⟩
 rw [Around.under_plain (weight_type_call_type "set" [.ref l] []) rfl];have h1:=Pf.notType;have h2:=Pf.canCreate;have hct:=F.typeCall_set_1 (.ref l)
 repeat (any_goals (first|assumption|wp_step))
 refine OI (E7 (.ref l) (E:=E) (Q:=fun obj s₁=>obj=.ref s.heap.objs.size/\s₁={ s with heap:=s.heap.push (jC w) }) ⟨rfl,rfl⟩) fun r s₁ hr=>?_;cases r with
 | error e=>exact hr
 | ok fl =>
  cases fl with
  | next=>exact hr.elim
  | brk=>exact hr.elim
  | cont=>exact hr.elim
  | ret obj =>
   obtain ⟨rfl,rfl⟩:=hr;have hS:(s.heap.push (jC w)).get? s.heap.objs.size=some (jC w):=Mo _ rfl;have hT:Ts { s with heap:=s.heap.push (jC w) } (.ref s.heap.objs.size) "set":=⟨_,hS,rfl⟩;have hli:=Pf.init.lookup;have hbi:=Pf.init.bind (.ref s.heap.objs.size)
   repeat (any_goals (first|assumption|wp_step))
   refine OI (OQ (R:=wants (fun r s₂=>r=.none/\∃ h' tk ks,s₂={ s with heap:=h',toks:=tk }/\eP h' s.heap.objs.size (!bh w) ks/\(∀ x,x∈ks↔x∈ns)/\∀ b o,b<s.heap.objs.size->s.heap.get? b=some o->h'.get? b=some o) E) Pf.init.plain F.entry_set_init (check_set_init_1 hT ?_)) fun r₂ s₂ hr₂=>?_
   ·have hlS:l<s.heap.objs.size:=by obtain ⟨_,ho,_⟩:=hl;exact L5 ho
    have hl1:(s.heap.push (jC w)).IsList l items:=hl.push _;obtain ⟨⟨lc,ld,ldt,lsl⟩,hol,hcl,nl,hdl⟩:=id hl1;simp only at hcl hdl;subst hcl;subst hdl;have hsls:=F.sub_list_set;have hslf:=F.sub_list_frozenset;have hne:(SM "list" == SM "dict")=false:=by decide
    unfold OD.«set.__init__» noKeywords Builtin.Frozenset.updateFrom;generalize hPI:pyIter=PI
    wp_walk
    subst hPI;refine Qg hl1 (LP (S2 ?_));have hh3:A.in1.in1.in1.handled=none:=by simp [hh]
    have z1:(s.heap.push (jC w)).objs.size=s.heap.objs.size+1:=OO ..;have hval:∀ (i:Nat) (v:Value),items[i]?=some v->∃ t,v=.int ((ns.getD i 0:Nat):Int) t:=fun i v hv=>by
     obtain ⟨t,e⟩:=IntsAre.int_at hi i v (by rw [MY];exact hv)
     refine ⟨t,?_⟩;rw [e,LS,LS,Mn];cases ns[i]? <;> rfl
    refine Ez (led:=!bh w) ((Walks.list hh3 _ l (by rw [z1];exact Mc (NG hlS)) items).toS) s.heap.objs.size (by rw [z1];simp only [Mp,OG,or_false,not_or];exact ⟨Mc (PM _),OH hlS⟩) (fun i=>ns.getD i 0) hval (fun i hil=>?_) (items.size - 0) 0 _ [] (by lia) (MI _)
     ⟨⟨_,Mo _ rfl,rfl,rfl⟩,(hl1.push _)⟩ ?hS0 (fun x=>?_) ?hR
    ·have:i<ns.length:=by lia
     rw [LS,LO this];exact h23 _ (Nr this)
    case hS0=>exact ⟨jC w,#[],0,.fresh 0 0 (!bh w),LW _ hS,⟨rfl,rfl,rfl⟩,rfl,(fun e he=>by cases he),Good.fresh _⟩
    ·exact ⟨(fun z=>by cases z),fun ⟨j,hj,_⟩=>absurd hj (Ss _)⟩
    case hR =>
     intro s' ks mv hS' hm;obtain ⟨h',g',d',tk',os'⟩:=s';have eg:g'=s.gens:=mv.gens;have ed:d'=s.drawn:=mv.drawn;have eo:os'=s.os:=mv.os;subst eg;subst ed;subst eo;refine LZ (LZ ⟨rfl,h',tk',ks,rfl,hS',fun x=>?_,fun b o hb e=>?_⟩)
     ·rw [hm x,hz];constructor
      ·rintro ⟨j,hj,e⟩;rw [LS,LO hj] at e;rw [<- show ns[j]=x from e];exact Nr hj
      ·intro hx;obtain ⟨j,hj,e⟩:=QL hx;exact ⟨j,hj,by rw [LS,LO hj];exact e⟩
     ·exact mv.heap b o (by rw [z1];simp only [Mp,OG,or_false,not_or];exact ⟨Mc hb,Mc (NG hb)⟩) (LW _ (LW _ e))
   ·cases r₂ with
    | error e=>exact hr₂
    | ok fl₂ =>
     cases fl₂ with
     | next=>exact hr₂.elim
     | brk=>exact hr₂.elim
     | cont=>exact hr₂.elim
     | ret r =>
      obtain ⟨rfl,h',tk,ks,rfl,hS',hm,hk'⟩:=hr₂
      repeat (any_goals (first|assumption|wp_step))
      exact h _ _ ks hS' hm hk'
end
def yG:entryFor table "set.__iter__" = some OD.«frozenset.__iter__»:=S0 (id':="frozenset.__iter__") (by kernel_rfl) rfl (by trivial) (by kernel_rfl)
def i8:Slot "set_iterator" "__next__" "set_iterator.__next__" :=
 .of (owner:="set_iterator") (n:="__next__") (by rw [typeLookup_type,Sw];kernel_rfl) (by trivial) (by trivial) (by trivial)
  (by first|exact .inl (by trivial)|exact .inr (by trivial)) (by rw [isSubtype_type];kernel_rfl)
def vN:entryFor table "set_iterator.__next__" = some OD.«set_iterator.__next__»:=entryFor_of_tree (by kernel_rfl)
def vI:Manifest.owners.lookup (String.ofList ['r','o','t','a','r','e','t','i','_','t','e','s'].reverse)=some Manifest.sig_set_iterator:=by kernel_rfl
def we (a:Value):argsOk "set_iterator.__next__" ⟨[a],[]⟩:=by
 unfold argsOk;rw [signature?_of (id:="set_iterator.__next__") (n:=['_','_','t','x','e','n','_','_']) (o:=['r','o','t','a','r','e','t','i','_','t','e','s']) (by kernel_rfl) vI];kernel_rfl
def cx (h:Heap) (it a:Addr) (slot i n ep:Nat):Prop:=h.get? it=some { cls:=.type "set_iterator",dict:=none,data:=.fields #[.int slot 0,.int i 0,.ref a,.int n 0,.int ep 0],slots:=#[] }
def Cf {α:Type} {l:List α} {i:Nat} (h:i<l.length):(l[i] :: l.eraseIdx i).Perm l:=by
 have e:l=l.take i++l[i] :: l.drop (i+1):=by rw [List.getElem_cons_drop,Pe]
 rw [List.eraseIdx_eq_take_drop_succ];exact R1.symm.trans (List.Perm.of_eq e.symm)
def Bx {α:Type} (next:Nat->Nat):∀ (fuel k:Nat) (left:List α) (out:Array α),fuel=left.length->(TM next fuel k left out).toList.Perm (out.toList++left)
 | 0,k,left,out,h=>by
  have:left=[]:=O3.mp h.symm;subst this;unfold TM;simp
 | fuel+1,k,left,out,h=>by
  unfold TM;have hl:next k % left.length<left.length:=Mv _ (by lia)
  rw [LO hl];dsimp only;refine (Bx next fuel (k+1) _ _ (by rw [List.length_eraseIdx,if_pos hl];lia)).trans ?_
  rw [Array.toList_push,Qj];exact List.Perm.append_left _ (Cf hl)
def Fe {α:Type} (next:Nat->Nat) (xs:Array α):(pickOrder next xs).toList.Perm xs.toList:=by
 have:=Bx next xs.size 0 xs.toList #[] (by simp)
 simpa [pickOrder] using this
def iC (h:Heap) (a:Addr) (es:Array (Int×Value)) (ep:Nat) (t:N0):Prop:=∃ o,h.get? a=some o/\o.ExactSet/\o.data=.set es ep t
def dH (w:World) (a:Addr) (es:Array (Int×Value)) (ep:Nat):Array (Int×Value):=if bh w=true then pickOrder (w.params.setOrder a ep) es else es
def wq {w:World} {a:Addr} {es:Array (Int×Value)} {ep:Nat}:(dH w a es ep).toList.Perm es.toList:=by
 unfold dH
 split
 ·exact Fe _ _
 ·exact List.Perm.refl _
def kZ {w:World} {a:Addr} {es:Array (Int×Value)} {ep:Nat}:(dH w a es ep).size=es.size:=by
 have:=(wq (w:=w) (a:=a) (es:=es) (ep:=ep)).length_eq
 rwa [MB,MB] at this
def slotAt (t:N0) (i:Nat):Nat:=if i=0 then 0 else t.place.getD (i - 1) 0+1
def below_at {led:Bool} {es:Array (Int×Value)} {t:N0} {ks:List Nat} (g:Good led es t ks) {i:Nat} (hi:i<=es.size):MV t.place (slotAt t i)=i:=by
 obtain ⟨h1,h2,h3⟩:=rZ g.rise (slotAt t i);have z:=g.size;have gd:∀ k,k<t.place.size->t.place[k]?=some (t.place.getD k 0):=fun k hk=>by
  rw [MC hk,N1,MC hk];rfl
 have mono:∀ (a b:Nat),a<b->b<t.place.size->t.place.getD a 0<t.place.getD b 0:=fun a b hab hb=>by
  have ha:=gd a (by lia)
  have hb':=gd b hb;rw [<- MY] at ha hb';obtain ⟨x1,x2⟩:=LQ.mp ha;obtain ⟨y1,y2⟩:=LQ.mp hb';rw [<- x2,<- y2];exact Mw.mp g.rise a b x1 y1 hab
 rcases Ni (MV t.place (slotAt t i)) i with c|c|c
 ·have q:=h3 (i - 1) _ (by lia) (gd (i - 1) (by lia))
  unfold slotAt at q;rw [if_neg (by lia)] at q
  lia
 ·exact c
 ·have q:=h2 i _ c (gd i (by lia))
  unfold slotAt at q
  split at q
  ·lia
  ·have:=mono (i - 1) i (by lia) (by lia)
   lia
section
variable {prog:Mh} {w:World} {A:MP} {E:Value->LU->Prop} {s:LU}
def cx.typeIs {it a:Addr} {slot i n ep:Nat} (x:cx s.heap it a slot i n ep):s.TypeIs (.ref it) "set_iterator":=⟨_,x,rfl⟩
def rB {Q:Bool->LU->Prop} (h:Q (bh w) s):wpAny (model prog w) A setsByText Q E s:=by
 unfold setsByText;exact LP (R4 (LZ h))
def Dy {a:Addr} {ep:Nat} {es:Array (Int×Value)} {t:N0} {ks:List Nat} {Q:Array (Int×Value)->LU->Prop} (g:Good (!bh w) es t ks) (hS:iC s.heap a es ep t) (ht:bh w=true) (hQ:Q (dH w a es ep) s):wpAny (model prog w) A (setWalk a) Q E s:=by
 obtain ⟨os,hos,hex,hds⟩:=id hS;unfold setWalk;refine LP (OW hos hds g.fits ?_);dsimp only;refine LP (rB ?_);rw [if_pos ht];refine LP (R4 (LZ ?_));unfold dH at hQ;rw [if_pos ht] at hQ;exact hQ
def v9 {a:Addr} {sl i ep:Nat} {es:Array (Int×Value)} {t:N0} {ks:List Nat} {Q:Option (Value×Nat)->LU->Prop} (g:Good (!bh w) es t ks) (hS:iC s.heap a es ep t) (hi:i<=es.size) (hsl:bh w=false->sl=slotAt t i)
  (hQ:Q ((dH w a es ep)[i]?.map fun e=>(e.2,if bh w=true then sl else slotAt t (i+1))) s):wpAny (model prog w) A (setNext a sl i ep) Q E s:=by
 obtain ⟨os,hos,hex,hds⟩:=id hS;unfold setNext;refine LP (OW hos hds g.fits ?_);dsimp only;refine LP (rB ?_);cases ht:bh w with
 | true =>
  rw [if_pos rfl,if_neg (by simp)]
  refine LP (Dy g hS ht (LZ ?_));rw [ht] at hQ
  simpa using hQ
 | false =>
  rw [if_neg Mj]
  split
  ·rename_i hdr
   have:(!t.plain && decide (es.size > 1))=true:=hdr;rw [g.plain] at this;cases this
  refine LP ?_;have hled:t.led=true:=by rw [g.led,ht];rfl
  show wpAny _ _ (if (!t.led && !es.isEmpty)=true then unsupported "set:maker-not-led" else pure ()) _ _ _;rw [if_neg (by rw [hled];exact Mj)]
  refine LZ (LZ ?_);rw [hsl ht,below_at g hi];rw [ht] at hQ;unfold dH at hQ;rw [ht,if_neg Mj,if_neg Mj] at hQ;rcases Mu i es.size with c|c
  ·have pl:i<t.place.size:=by rw [g.size];exact c
   rw [MC c] at hQ ⊢;rw [MC pl];have e1:slotAt t (i+1)=t.place[i]+1:=by
    unfold slotAt;rw [if_neg (by lia),Nat.add_sub_cancel,N1,MC pl]
    rfl
   rw [e1] at hQ;exact hQ
  ·rw [N5 c] at hQ ⊢;exact hQ
def Dk {it a:Addr} {i ep:Nat} {es:Array (Int×Value)} {t:N0} {ks:List Nat} {Q:Option Value->LU->Prop} (g:Good (!bh w) es t ks) (hne:a≠it) (hit:cx s.heap it a (slotAt t i) i es.size ep\/(bh w=true/\∃ sl,cx s.heap it a sl i es.size ep)) (hS:iC s.heap a es ep t) {e:Int×Value} (he:(dH w a es ep)[i]?=some e)
  (hQ:∀ h',(cx h' it a (slotAt t (i+1)) (i+1) es.size ep\/(bh w=true/\∃ sl,cx h' it a sl (i+1) es.size ep))->O0 it s.heap h'->Q (some e.2) { s with heap:=h' }) :
  wpAny (model prog w) A (pyNext (.ref it)) Q E s:=by
 obtain ⟨sl,hit',hsl⟩:∃ sl,cx s.heap it a sl i es.size ep/\(bh w=false->sl=slotAt t i):=by
  rcases hit with z|⟨z,sl,z'⟩
  ·exact ⟨_,z,fun _=>rfl⟩
  ·exact ⟨sl,z',fun c=>by rw [z] at c;cases c⟩
 have ho:=hit';unfold cx at ho;obtain ⟨os,hos,hex,hds⟩:=id hS;unfold pyNext;refine LP (Pq (O4 (name:=Nn "__next__") hit'.typeIs i8 (N4 i8 hit'.typeIs vN ?_ (we _))));show wpAny _ _ (fieldsOf (.ref it) >>= _) _ _ s;refine LP (wpAny_fieldsOf ho rfl ?_);dsimp only;refine LP (LP (OW hos hds g.fits (LZ ?_)));dsimp only;rw [if_neg (by simp)]
 have hi:i<es.size:=by
  have:=(NH.mp he).1
  rwa [kZ] at this
 rw [Nx,Nx,Nx];refine LP (v9 g hS (Ou hi) hsl ?_);rw [he];show wpAny _ _ (setField (Ms it) 0 _ >>= _) _ _ _;refine LP (P8 ho (by show 0<5;decide) fun h1 e1 b1=>?_)
 refine LP (P8 (s:={ s with heap:=h1 }) e1 (by show 1<5;decide) fun h2 e2 b2=>?_)
 refine LZ ⟨_,rfl,LZ (hQ h2 ?_ (b1.trans b2))⟩;cases ht:bh w with
 | true =>
  refine .inr ⟨rfl,sl,?_⟩;rw [ht] at e2;exact e2
 | false =>
  rw [ht] at e2;exact .inl e2
def DR {it a:Addr} {ep:Nat} {es:Array (Int×Value)} {t:N0} {ks:List Nat} {Q:Option Value->LU->Prop} (hh:A.handled=none) (g:Good (!bh w) es t ks) (hit:cx s.heap it a (slotAt t es.size) es.size es.size ep\/(bh w=true/\∃ sl,cx s.heap it a sl es.size es.size ep)) (hS:iC s.heap a es ep t)
  (hQ:∀ h',Heap.ExtBut it s.heap h'->Q none { s with heap:=h' }):wpAny (model prog w) A (pyNext (.ref it)) Q E s:=by
 obtain ⟨sl,hit',hsl⟩:∃ sl,cx s.heap it a sl es.size es.size ep/\(bh w=false->sl=slotAt t es.size):=by
  rcases hit with z|⟨z,sl,z'⟩
  ·exact ⟨_,z,fun _=>rfl⟩
  ·exact ⟨sl,z',fun c=>by rw [z] at c;cases c⟩
 have ho:=hit';unfold cx at ho;obtain ⟨os,hos,hex,hds⟩:=id hS;unfold pyNext;refine LP (Pq (O4 (name:=Nn "__next__") hit'.typeIs i8 (N4 i8 hit'.typeIs vN ?_ (we _))));show wpAny _ _ (fieldsOf (.ref it) >>= _) _ _ s;refine LP (wpAny_fieldsOf ho rfl ?_);dsimp only;refine LP (LP (OW hos hds g.fits (LZ ?_)));dsimp only;rw [if_neg (by simp)]
 rw [Nx,Nx,Nx];refine LP (v9 g hS (Ma _) hsl ?_);rw [N5 (by rw [kZ];exact Ma _)]
 show wpAny _ _ (setField (Ms it) 2 _ >>= _) _ _ _;refine LP (P8 ho (by show 2<5;decide) fun h1 e1 b1=>?_)
 refine LP ?_;simp only [newExc,newTuple];refine LP (N8 ?_ (by size_fits))
 refine LP (m:=firstArgMember _ _) (wpAny_of_eq (a:=Ng) (by first|rfl|(simp only [firstArgMember];rfl)) ?_)
 refine N8 ?_ (by size_fits)
 simp only [raiseNew];refine LP (wpAny_handled ?_);rw [show A.in1.handled=none from hh];refine LP (LZ (wpAny_throw ?_));refine LP (RZ (T:="StopIteration") (b:=true) ⟨_,Mo _ rfl,rfl⟩ isSubtype_stop ?_);exact LZ (hQ _ ((b1.extBut.push _).push _))
end
def sO:Slot "set_iterator" "__iter__" "set_iterator.__iter__" :=
 .of (owner:="set_iterator") (n:="__iter__") (by rw [typeLookup_type,Sw];kernel_rfl) (by trivial) (by trivial) (by trivial)
  (by first|exact .inl (by trivial)|exact .inr (by trivial)) (by rw [isSubtype_type];kernel_rfl)
def AQ:entryFor table "set_iterator.__iter__" = some OD.«dict_keyiterator.__iter__»:=S0 (id':="dict_keyiterator.__iter__") (by kernel_rfl) rfl (by trivial) (by kernel_rfl)
def Av (a:Value):argsOk "set_iterator.__iter__" ⟨[a],[]⟩:=by
 unfold argsOk;rw [signature?_of (id:="set_iterator.__iter__") (n:=['_','_','r','e','t','i','_','_']) (o:=['r','o','t','a','r','e','t','i','_','t','e','s']) (by kernel_rfl) vI];kernel_rfl
def mK (w:World) (h:Heap) (it a:Addr) (t:N0) (i n ep:Nat):Prop:=cx h it a (slotAt t i) i n ep\/(bh w=true/\∃ sl,cx h it a sl i n ep)
section
variable {prog:Mh} {w:World} {A:MP} {E:Value->LU->Prop} {s:LU}
def mK.typeIs {it a:Addr} {t:N0} {i n ep:Nat} (x:mK w s.heap it a t i n ep):s.TypeIs (.ref it) "set_iterator":=by
 rcases x with z|⟨_,sl,z⟩ <;> exact ⟨_,z,rfl⟩
def mK.keep {h h':Heap} {it a:Addr} {t:N0} {i n ep:Nat} (x:mK w h it a t i n ep) (k:∀ o,h.get? it=some o->h'.get? it=some o):mK w h' it a t i n ep:=by
 rcases x with z|⟨c,sl,z⟩
 ·exact .inl (k _ z)
 ·exact .inr ⟨c,sl,k _ z⟩
def iC.keep {h h':Heap} {a:Addr} {es:Array (Int×Value)} {ep:Nat} {t:N0} (x:iC h a es ep t) (k:∀ o,h.get? a=some o->h'.get? a=some o):iC h' a es ep t:=let ⟨o,ho,r⟩:=x;⟨o,k _ ho,r⟩
def Fp (hh:A.handled=none) (I a:Addr) (hne:a≠I) {ep:Nat} {es:Array (Int×Value)} {t:N0} {ks:List Nat} (g:Good (!bh w) es t ks) :
  Walks prog w A I [I,a] [I] es.size (fun i v=>∃ e,(dH w a es ep)[i]?=some e/\v=e.2) (fun i h=>mK w h I a t i es.size ep/\iC h a es ep t) where
 sub:=fun b hb=>by simp at hb;simp [hb]
 frame:=fun i h h' st hk=>⟨st.1.keep fun o e=>hk I (by simp) o e,st.2.keep fun o e=>hk a (by simp) o e⟩
 item:=fun i s Q E hi st hQ=>by
  have hl:i<(dH w a es ep).size:=by rw [kZ];exact hi
  refine Dk g hne st.1 st.2 (MC hl) fun h' it' sb=>?_;exact hQ _ h' s.toks ⟨_,MC hl,rfl⟩ ⟨it',st.2.keep fun o e=>(sb.2 a hne).trans e⟩ fun b o hb e=>(sb.2 b (fun z=>hb (by simp [z]))).trans e
 done:=fun s Q E st hQ=>DR hh g st.1 st.2 fun h' he=>hQ h' s.toks fun b o hb e=>he b o (fun z=>hb (by simp [z])) e
 self:=fun i s Q E st hQ=>by
  refine wpAny_pyIter_slot st.1.typeIs sO (N4 sO st.1.typeIs AQ ?_ (Av _));show wpAny _ _ (ret (.ref I)) _ _ s;exact LZ ⟨_,rfl,"set_iterator",_,st.1.typeIs,i8.lookup,hQ⟩
def B0 {a:Addr} {ep:Nat} {es:Array (Int×Value)} {t:N0} {ks:List Nat} {Q:Value->LU->Prop} (g:Good (!bh w) es t ks) (hS:iC s.heap a es ep t)
  (hQ:∀ h',mK w h' s.heap.objs.size a t 0 es.size ep->(∀ b o,s.heap.get? b=some o->h'.get? b=some o)->h'.objs.size=s.heap.objs.size+1->Q (.ref s.heap.objs.size) { s with heap:=h' }) :
  wpAny (model prog w) A (pyIter (.ref a)) Q E s:=by
 obtain ⟨os,hos,hex,hds⟩:=id hS;have hT:s.TypeIs (.ref a) "set":=⟨os,hos,hex.1⟩;refine wpAny_pyIter_slot hT F.slot_set_iter (N4 F.slot_set_iter hT yG ?_ (F.args_set_iter_1 _));unfold OD.«frozenset.__iter__» Builtin.Frozenset.slot0 slotArgs;simp only [List.isEmpty_nil,Bool.not_true,MU,↓reduceIte,bind_assoc,P4,bne_self_eq_false];unfold Builtin.Frozenset.addrOf Builtin.Frozenset.sizeOf setDrawn;refine LP (LZ ?_);dsimp only;refine LP (LZ ?_);refine LP (LP (wpAny_setEntries_of hos hds g.fits (LZ ?_)));refine LP (LP (OW hos hds g.fits ?_));dsimp only;refine LP (rB (LZ ?_));have dr:∀ b:Bool,(b && (!t.plain && decide (es.size > 1)))=false:=fun b=>by rw [g.plain];cases b <;> rfl
 split
 ·rename_i hc
  have:(!bh w && (!t.plain && decide (es.size > 1)))=true:=hc;rw [dr] at this;cases this
 refine LP (LZ ?_);refine LP (wpAny_setEpoch_of hos hds g.fits ?_);refine LP (N8 (LZ ⟨_,rfl,"set_iterator",_,⟨_,Mo _ rfl,rfl⟩,i8.lookup,?_⟩));exact hQ _ (.inl (Mo _ rfl)) (fun b o e=>LW _ e) (OO ..)
def Au {a:Addr} {ep:Nat} {es:Array (Int×Value)} {t:N0} {ks:List Nat} {Q:List Value->LU->Prop} (hh:A.handled=none) (g:Good (!bh w) es t ks) (hS:iC s.heap a es ep t)
  (hQ:∀ (h':Heap) (tk:Nat),s.heap.objs.size<=h'.objs.size->(∀ b o,s.heap.get? b=some o->h'.get? b=some o)->Q ((dH w a es ep).toList.map (·.2)) { s with heap:=h',toks:=tk }):wpAny (model prog w) A (collect (.ref a)) Q E s:=by
 have n23:=jW g.nd g.lt;have el:=g.len;obtain ⟨os,hos,hex,hds⟩:=id hS;have alt:a<s.heap.objs.size:=L5 hos;unfold collect;refine LP (S2 (Nu Sx ?_));rw [Nf Sy _];show wpAny _ A.in1 (newList [] >>= fun l=>again (.builtin "list.__iadd__" ⟨[l,.ref a],[]⟩)) _ _ s;refine LP (N8 ?_);refine LZ ⟨OL Qn _,Nu F.entry_list_iadd ?_⟩;rw [Nf Qn _];show wpAny _ A.in1 (Pg (.ref s.heap.objs.size) (.ref a) (.ref s.heap.objs.size)) _ _ _;generalize hp1:s.heap.push { cls:=.type "list",data:=.seq ([]:List Value).toArray }=h1;have o1:h1.get? s.heap.objs.size=some { cls:=.type "list",data:=.seq ([]:List Value).toArray }:=by rw [<- hp1];exact Mo _ rfl
 have k1:∀ b o,s.heap.get? b=some o->h1.get? b=some o:=fun b o e=>by rw [<- hp1];exact LW _ e
 have z1:h1.objs.size=s.heap.objs.size+1:=by rw [<- hp1];exact OO ..
 have hS1:iC h1 a es ep t:=hS.keep fun o e=>k1 _ _ e;unfold Pg;have hT1:Ts { s with heap:=h1 } (.ref a) "set":=⟨os,k1 _ _ hos,hex.1⟩;refine LP (Q3 hT1 ?_);have nS:Rt (.ref s.heap.objs.size) (.ref a)=false:=by
  have:s.heap.objs.size≠a:=OH alt;simp [Rt,this]
 rw [if_neg (by rw [nS];decide)]
 refine LP (B0 g hS1 fun h2 it2 k2 z2=>?_);have o2:=k2 _ _ o1;have hT2:Ts { s with heap:=h2 } (.ref a) "set":=⟨os,k2 _ _ (k1 _ _ hos),hex.1⟩;refine LP (M1 ?_);unfold Builtin.List.listLengthHint;refine LP (wpAny_specialOf hT2 F.slot_set_len.lookup ?_);generalize hid:("set.__len__" : String)=id0
 (fail_if_success (clear hid id0))
 wp_delta
 rw [show splitId id0=some ("set","__len__") from by subst hid;decide +kernel]
 subst hid;refine LP (RZ (b:=true) hT2 sub_set_self ?_);show wpAny _ _ (typeOf (.ref a) >>= _) _ _ _;refine LP (Q3 hT2 ?_);refine LZ ?_;show wpAny _ A.in1 (rule "list.extend.makes-room" >>= fun _=>Builtin.List.listTouch (.ref s.heap.objs.size) >>= fun _=>again (.builtin "list.extend.loop" ⟨[.ref s.heap.objs.size,.ref h1.objs.size,.ref s.heap.objs.size],[]⟩)) _ _ _;refine LP (Tu (LP ?_));show wpAny _ A.in1 (updateSeq s.heap.objs.size (·.push .none) >>= fun _=>updateSeq s.heap.objs.size (·.pop)) _ _ _;refine LP (wpAny_updateSeq o2 rfl ?_);have o3:=NB (NO (·.push Ng)) o2 rfl;refine wpAny_updateSeq (hz:=by seq_fits) o3 rfl ?_
 have o4:=NB (NO (·.pop)) o3 rfl;have k4:∀ b o,b≠s.heap.objs.size->h2.get? b=some o->((h2.update s.heap.objs.size (NO (·.push Ng))).update s.heap.objs.size (NO (·.pop))).get? b=some o :=
  fun b o hb e=>(Nb _ _ (NI hb)).trans ((Nb _ _ (NI hb)).trans e)
 have ne1:h1.objs.size≠s.heap.objs.size:=by rw [z1];exact OH (PM _)
 have ne2:a≠s.heap.objs.size:=Mc alt;have ne3:a≠h1.objs.size:=by rw [z1];exact Mc (NG alt)
 have W:=(Fp (prog:=prog) (A:=A.in1) (by simp [hh]) h1.objs.size a ne3 (ep:=ep) g).toS
 refine LZ ⟨OL F.plain_extend_loop _,codeAny_extend_loopS W (by rw [MW];lia) s.heap.objs.size (by simp only [Mp,OG,or_false,not_or];exact ⟨NI ne1,NI ne2⟩) _ es.size 0 _ _ _ rfl (MI _)
  ⟨it2.keep fun o e=>k4 _ _ ne1 e,(hS1.keep fun o e=>k2 _ _ e).keep fun o e=>k4 _ _ ne2 e⟩ o4 (ItemsOf.nil _) fun s' acc c' mv o5 items=>?_⟩
 obtain ⟨h',g',d',tk',os'⟩:=s';have eg:g'=s.gens:=mv.gens;have ed:d'=s.drawn:=mv.drawn;have eo:os'=s.os:=mv.os;subst eg;subst ed;subst eo;show wpAny _ A (load s.heap.objs.size >>= _) _ _ _;refine LP (wpAny_load o5 (LZ ?_));have ea:acc.toList=(dH w a es ep).toList.map (·.2):=by
  refine Oa fun j=>?_;rw [Mn,MY,MY];rcases Mu j acc.size with c|c
  ·have q:=MC c;obtain ⟨e,he,ev⟩:=items.2 j _ q;rw [q,he,ev];rfl
  ·rw [N5 c,N5 (by rw [kZ,<- items.1];exact c)]
   rfl
 rw [ea];refine hQ h' tk' (Ou (L5 o5)) fun b o e=>mv.heap b o ?_ (k4 b o ?_ (k2 _ _ (k1 _ _ e)))
 ·have:=L5 e;simp only [Mp,OG,or_false,not_or];exact ⟨Mc this,by rw [z1];exact Mc (NG this)⟩
 ·exact Mc (L5 e)
def vP:∀ {es:List (Int×Value)},(∀ e∈es,∃ (k:Nat) (tk:Tok),k<23/\e=((k:Int),Ol (k:Int) tk))->OC (es.map (·.2)) ((es.map fun e=>e.1.toNat).map fun (k:Nat)=>(k:Int))
 | [],_=>.nil
 | e :: es,h=>by
  obtain ⟨k,tk,_,rfl⟩:=h e L8;exact .cons _ _ (vP fun e he=>h e (L4 _ he))
def FO {es:List (Int×Value)} {ks:List Nat} (h:es.map (·.1)=ks.map fun (k:Nat)=>(k:Int)):es.map (fun e=>e.1.toNat)=ks:=by
 have:=congrArg (List.map Rq) h;rw [Ox,Ox] at this;have e:(Rq ∘ fun (k:Nat)=>(k:Int))=id:=by funext n;rfl
 rw [e,QK] at this;exact this
def BQ {a:Addr} {ks:List Nat} {Q:Value->LU->Prop} (hh:A.handled=none) (hS:eP s.heap a (!bh w) ks)
  (h:∀ (h':Heap) (tk:Nat) (d:Addr) (out:Array Value) (c:Nat) (l:List Nat),OC out.toList (l.map fun (k:Nat)=>(k:Int))->l.Perm ks->l.Pairwise (·<=·)->s.heap.objs.size<=d->h'.get? d=some (seqObj "list" out c)->(∀ b o,s.heap.get? b=some o->h'.get? b=some o)->Q (.ref d) { s with heap:=h',toks:=tk }) :
  wpAny (model prog w) A (call (.builtin "sorted") [.ref a]) Q E s:=by
 obtain ⟨o,es,ep,t,ho,hex,hd,hnum,g⟩:=hS;have n23:=jW g.nd g.lt;have el:=g.len;refine PF T4 TN TQ (TR _) ?_;unfold OD.«sorted»;refine LP (m:=checkCount "sorted" 1 1 _) (LZ ?_);refine LP (Au (by simp [hh]) g ⟨o,ho,hex,hd⟩ fun h1 tk1 kz k1=>?_)
 have wp:=wq (w:=w) (a:=a) (es:=es) (ep:=ep);have hI:=vP (es:=(dH w a es ep).toList) fun e he=>hnum e (wp.mem_iff.mp he);have kp:((dH w a es ep).toList.map fun e=>e.1.toNat).Perm ks:=by
  have:=wp.map fun e=>e.1.toNat
  rwa [FO g.keys] at this
 generalize (dH w a es ep).toList.map (fun e=>e.1.toNat)=kw at hI kp;generalize hv:(dH w a es ep).toList.map (·.2)=vs at hI;have vl:vs.length<64:=by
  have:=hI.length;rw [LV,kp.length_eq] at this;lia
 refine LP (RL ?_);have oL:(h1.push (seqObj "list" vs.toArray 0)).get? h1.objs.size=some (seqObj "list" vs.toArray 0):=Mo _ rfl;refine LP (M1 (N4 S3 ⟨_,oL,rfl⟩ Sz (list_sort_tree oL hI vl fun out ns' a1 a2 a3=>⟨_,rfl,?_⟩) (S4 _)));obtain ⟨c,hc⟩:=sortedHeap_at (out:=out) oL;obtain ⟨l,rfl,lp⟩:=pU a2;refine LZ ⟨_,rfl,h _ tk1 _ out c l a1 (lp.trans kp) ?_ kz hc fun b ob e=>?_⟩
 ·rw [NW] at a3;exact a3.imp fun z=>by lia
 ·have e1:=k1 _ _ e;rw [sortedHeap_old (Mc (L5 e1)) (by rw [OO];exact NG (L5 e1))]
  exact LW _ e1
end
def eP.there {h:Heap} {a:Addr} {led:Bool} {ks:List Nat} (x:eP h a led ks):∃ o,h.get? a=some o:=let ⟨o,_,_,_,ho,_⟩:=x;⟨o,ho⟩
def eP.nd {h:Heap} {a:Addr} {led:Bool} {ks:List Nat} (x:eP h a led ks):ks.Nodup/\∀ k∈ks,k<23:=let ⟨_,_,_,_,_,_,_,_,g⟩:=x;⟨g.nd,g.lt⟩
def eP.keep {h h':Heap} {a:Addr} {led:Bool} {ks:List Nat} (x:eP h a led ks) (k:∀ o,h.get? a=some o->h'.get? a=some o):eP h' a led ks:=let ⟨o,es,ep,t,ho,r⟩:=x;⟨o,es,ep,t,k _ ho,r⟩
abbrev iO (w:World) (a:Addr) (ks:List Nat):HO:=.ext fun h=>eP h a (!bh w) ks
def IA {P:Mh} {w:World} {H:Hp} {h:Heap} {a:Addr} {ks:List Nat} (e:eP h a (!bh w) ks):bB P w H h a (iO w a ks) :=
 ⟨e,e.there,fun _ _ x k=>x.keep k⟩
def Du (w:World) (K:LN):List V->Hp->VK->Prop:=fun xs H Q=>∃ (p:Addr) (ns:List Nat),xs=[.ref p]/\SqL K H p ((ns.map fun (n:Nat)=>(n:Int)).map V.int)/\(∀ x∈ns,x<23) /\
 ∀ (a:Addr) (ks:List Nat),H a=none->(∀ x,x∈ks↔x∈ns)->ks.Nodup->Q (.ref a) (upd H a (iO w a ks))
def Ep {X:Cx} (hc:X.calm=true):cA X (.type "set") (Du X.w X.K):=by
 intro pins s σ H xs us Q I r h;obtain ⟨p,ns,rfl,hS,h23,q⟩:=h;obtain ⟨u,rfl,ru⟩:=vals1 r;cases (show u=Ms p from ru);obtain ⟨its,rv,pl,hz⟩:=I.list hS;have hi:=kP rv;refine CZ (I.ok.hd hc) pl.isList (by simpa using hi) h23 fun h' tk ks hG hm hk=>?_
 exact ⟨.ref s.heap.objs.size,_,I.laid (o:=iO X.w s.heap.objs.size ks) (fun b o e=>hk b o (L5 e) e) (Ma _) (IA hG),rfl,q _ ks (I.hok.fresh (Ma _)) hm hG.nd.1⟩
def C7 {X:Cx} (K:LN) (hK:X.K=K) (w:World) (hw:X.w=w) (hc:X.calm=true):cA X (.type "set") (Du w K):=by subst hK;subst hw;exact Ep hc
def rS (w:World):List V->Hp->VK->Prop:=fun xs H Q=>∃ (a:Addr) (ks:List Nat),xs=[.ref a]/\H a=some (iO w a ks) /\
 ∀ (d:Addr) (l:List Nat),H d=none->l.Perm ks->l.Pairwise (·<=·)->Q (.ref d) (upd H d (.lst (aO l)))
def yN {X:Cx} (hc:X.calm=true):cA X (.builtin "sorted") (rS X.w):=by
 intro pins s σ H xs us Q I r h;obtain ⟨a,ks,rfl,hx,q⟩:=h;obtain ⟨u,rfl,ru⟩:=vals1 r;cases (show u=Ms a from ru);obtain ⟨p,_,_⟩:=(show bB X.prog X.w H s.heap a (iO X.w a ks) from I.hok a _ hx);have hG:eP s.heap a (!bh X.w) ks:=p;have n23:=jW hG.nd.1 hG.nd.2;refine BQ (I.ok.hd hc) hG fun h' tk d out c l a1 a2 a3 hd ho hk=>?_;have hn:H d=none:=I.hok.fresh hd;refine ⟨.ref d,_,I.laid (o:=.lst (aO l)) hk hd ⟨?_,out.toList,c,?_,?_⟩,rfl,q d l hn a2 a3⟩
 ·unfold aO;rw [LV,a2.length_eq];exact small (by lia)
 ·rw [fk];exact lB a1
 ·simpa [seqObj] using ho
def wK {X:Cx} (w:World) (hw:X.w=w) (hc:X.calm=true):cA X (.builtin "sorted") (rS w):=by subst hw;exact yN hc
section
variable {H:Hp} {Q:VK} {K:LN} {v:V} {w:World}
def KN {l:List Nat} (h:At K H v l) (h23:∀ x∈l,x<23) (q:∀ (a:Addr) (ks:List Nat),H a=none->(∀ x,x∈ks↔x∈l)->ks.Nodup->Q (.ref a) (upd H a (iO w a ks))):Du w K [v] H Q:=by
 obtain ⟨p,rfl,hS⟩:=iZ h;have e:=fk l;unfold aO at e;exact ⟨p,l,rfl,by rw [<- e];exact hS,h23,q⟩
def Ej {a:Addr} {ks:List Nat} (h:H a=some (iO w a ks)) (q:∀ (d:Addr) (l:List Nat),H d=none->l.Perm ks->l.Pairwise (·<=·)->Q (.ref d) (upd H d (.lst (aO l)))):rS w [.ref a] H Q:=⟨a,ks,rfl,h,q⟩
end
section
variable {X:Cx} {elt tg iter:Expr} {ifs:List Expr} {scope:Scope} {pos:Pos} {own:List Str} {fr:List Nat} {wi:TI} {g:TG} {tt:TT} {te:TE}
end
def pk:List Value->List Value
 | .ref _ :: r=>pk r
 | l=>l
def HV (K:LN) (C:Addr):Bool:=(QG K C).any fun cd=>pk cd.mro == bmV
def BV (K:LN) (C:Addr):Bool:=(K.lookup C).any fun o=>o.cls == .type "type" && (o.slots.toList.length == 6 && o.slots.toList[4]? == some (some (.builtin pB))) &&
 (match o.data with
  | .cls cd=>cd.mro.head? == some (.ref C) && (!cd.hasDel && PySem.W.tailIn K bmV cd.mro.tail)
  | _=>false)
structure iM (K:LN) (C f:Addr):Prop where
 ob:BV K C=true
 init:M5 K (.ref C) "__init__" = some (some (.ref f))
 fn:Si K (.ref f)=true
 sa:M5 K (.ref C) "__setattr__" = some (some (.builtin "object.__setattr__"))
 hd:NF K C=true
 ov:HV K C=true
 kp:M6 K (.ref C)=true
def oY {g:Str}:∀ {fs:List (Str×V)},g∉fs.map (·.1)->fs.lookup g=none
 | [],_=>rfl
 | (p1,p2) :: r,m=>by
  rw [Nh];have z:(g == p1)=false:=by
   rw [beq_eq_false_iff_ne];exact fun z=>m (by rw [z];exact .head _)
  rw [z];exact oY fun y=>m (.tail _ y)
def n8 (self:Value) (what:Str):∀ l:List Value,refuseLoop self what l=refuseLoop self what (pk l)
 | []=>rfl
 | v :: r=>by
  cases v with
  | ref c=>rw [refuseLoop_ref];exact n8 self what r
  | _=>rfl
def sM {v:Value}:∀ l:List Value,(pk l).contains v=true->l.contains v=true
 | [],h=>h
 | u :: r,h=>by
  cases u with
  | ref c=>rw [List.contains_cons,sM r h,Bool.or_true]
  | _=>exact h
def uZ {K:LN} {h:Heap} {C:Addr} (X:K.In h) (q:BV K C=true) :
  ∃ bm N nm qn bs hdct sn sub ab col dd k0 k1 k2 k3 k5,h.get? C=some (excClassObj nm qn C N bs bm hdct sn sub ab col dd k0 k1 k2 k3 k5 pB)/\OwnTail h bmV bm:=by
 obtain ⟨o,ho,q⟩:=PL q;obtain ⟨oc,od,odt,sl⟩:=o;simp only [NT,beq_iff_eq] at q;obtain ⟨⟨h1,h2,h3⟩,h4⟩:=q;subst h1;cases odt with
 | cls cd =>
  simp only [NT,beq_iff_eq,Pp] at h4;obtain ⟨h5,h6,h7⟩:=h4;obtain ⟨nm,bs,mro,ns,qn,hd,sn,sub,ab,col,del⟩:=cd;dsimp only at h5 h6 h7;subst h6;cases mro with
  | nil=>cases h5
  | cons m bm =>
   cases h5;obtain ⟨l⟩:=sl;obtain ⟨k0,k1,k2,k3,k4,k5,rfl⟩:=LF (us:=l) h2;cases h3;exact ⟨bm,ns,nm,qn,bs,hd,sn,sub,ab,col,od,k0,k1,k2,k3,k5,X _ _ ho,PySem.W.tail_of_in X h7⟩
 | _=>cases h4
abbrev qk (rest:List Value):Obj:={ cls:=.type "tuple",data:=.seq rest.toArray }
abbrev pM (C t:Addr):Obj:={ cls:=.ref C,data:=.fields #[.ref t,.none,.none,.none,.bool false,.none] }
section
variable {prog:Mh} {w:World} {A:MP} {K:LN} {C f:Addr} {R:Rj->LU->Prop} {h:Heap} {g:Array Qr} {d:Drawn} {t:Nat} {os:OsState}
def xh {rest:List Value} {Q:Fin->LU->Prop} {E:Value->LU->Prop} (X:K.In h) (c:iM K C f) (hz:rest.length<=Mx)
  (hq:wpAny (model prog w) A (call (.ref f) (.ref (h.objs.size+1) :: rest)) (fun r s'=>r=.none/\Q (.done (.ret (.ref (h.objs.size+1)))) s') E ⟨(h.push (qk rest)).push (pM C h.objs.size),g,d,t,os⟩) :
  wpAny (model prog w) A (OD.«type.__call__» ⟨.ref C :: rest,[]⟩) Q E ⟨h,g,d,t,os⟩:=by
 obtain ⟨bm,N,nm,qn,bs,hdct,sn,sub,ab,col,dd,k0,k1,k2,k3,k5,hC,T⟩:=uZ X c.ob;have Fb:=Pw;have hB:bmV.contains (.type "ValueError")=true:=by trivial
 have hi:=NK (M:=model prog w) X c.init;have hb:=fun self=>PySem.W.bind_fn (M:=model prog w) X self (beq_iff_eq.mp c.fn);have k:∀ b o,h.get? b=some o->((h.push { cls:=.type "tuple",data:=.seq rest.toArray }).push { cls:=.ref C,data:=.fields #[.ref h.objs.size,.none,.none,.none,.bool false,.none] }).get? b=some o:=fun b o e=>LW _ (LW _ e)
 repeat (first|with_reducible refine Pr hC ?_|with_reducible refine wpAny_madeBy_exc hC ?_|wp_step)
 refine codeAny_call_builtin_code (P6 _ Fb.quiet) (wpAny_check_new_subU Fb hB T hC (codeAny_exc_new_subU Fb hB Fb T hC ?_ hz));show wpAny _ _ _ _ _ _;have hC1:=k _ _ hC;have hx:((h.push { cls:=.type "tuple",data:=.seq rest.toArray }).push { cls:=.ref C,data:=.fields #[.ref h.objs.size,.none,.none,.none,.bool false,.none] }).get? (h.objs.size+1)=some { cls:=.ref C,data:=.fields #[.ref h.objs.size,.none,.none,.none,.bool false,.none] }:=by heap_get
 have hcC:(Ms C :: bm).contains (.ref C)=true:=by simp
 unfold isInstance
 repeat (first|with_reducible refine Pr hx ?_|(with_reducible refine Ta hC1 ?_;rw [hcC])|wp_step)
 show wpAny _ _ (typeLookup (.ref C) _) _ _ _;refine (hi.keeps k).at ?_;refine M1 (LP (((hb (.ref (h.objs.size+1))).keeps k).at ?_));refine LP (Nc hq (fun r s' hr=>?_) fun _ _ z=>z);obtain ⟨rfl,hQ⟩:=hr
 wp_walk
 exact hQ
def He {rest:List Value} (X:K.In h) (c:iM K C f) (hz:rest.length<=Mx)
  (hq:codeAny (model prog w) (A.under (.builtin "type.__call__" ⟨.ref C :: rest,[]⟩)) (.call (.ref f) ⟨.ref (h.objs.size+1) :: rest,[]⟩) (PySem.W.InitBack (h.objs.size+1) R) ⟨(h.push (qk rest)).push (pM C h.objs.size),g,d,t,os⟩) :
  codeAny (model prog w) A (.call (.ref C) ⟨rest,[]⟩) R ⟨h,g,d,t,os⟩:=by
 obtain ⟨bm,N,nm,qn,bs,hdct,sn,sub,ab,col,dd,k0,k1,k2,k3,k5,hC,T⟩:=uZ X c.ob;have f1:=tc_lookup;have f2:=tc_bind (.ref C);have hT:(⟨h,g,d,t,os⟩:LU).TypeIs (.ref C) "type":=⟨_,hC,rfl⟩;refine Sv ?_;show wpAny _ _ (callAny (.ref C) _) _ _ _
 repeat (any_goals (first|assumption|with_reducible refine Pr hC ?_|wp_step))
 refine ⟨rfl,?_⟩;refine codeAny_call_builtin_at (P6 _ (by trivial)) entry_typeCall (wpAny_check_type_call_sub hC (xh X c hz (Rm (OI hq fun r s' z=>?_))))
 rcases r with e|(_|_|_|_) <;> first|exact z|exact Nd z
end
section
variable {prog:Mh} {w:World} {A:MP} {E:Value->LU->Prop} {s:LU} {K:LN} {C x f:Addr} {name:Str} {v:Value}
def AX {R:Rj->LU->Prop} {ox:Obj} {od:Option Obj} {tk:Tok} (X:K.In s.heap) (I:Q7 s.heap x ox C od) (c:iM K C f) (ht:bP K C name)
  (h:∀ b,wpAny (model prog w) A.in1 (Builtin.ObjectAttr.storeInOwnDict (.ref x) (.ref C) (.str name tk) name v b)
   (fun fin s'=>match fin with | .done f=>R (.ok f) s' | .again c'=>c'.quiet=true/\codeAny (model prog w) A c' R s') (fun e s'=>R (.error e) s') s) :
  codeAny (model prog w) A (.call (.builtin "object.__setattr__") ⟨[.ref x,.str name tk,v],[]⟩) R s:=by
 have SF:=PySem.F.store_object;obtain ⟨cd,hc,ho⟩:=PL c.ov;have ho:pk cd.mro=bmV:=beq_iff_eq.mp ho;have hm:Ot (model prog w) s.heap (mroOf (.ref C)) cd.mro:=(PU X hc).andThen .now;have has:cd.mro.contains (.type "object")=true:=sM _ (by rw [ho];decide +kernel)
 have ne:¬ cd.mro.isEmpty=true:=fun z=>by
  rw [List.isEmpty_iff.mp z] at has;cases has
 have sub:Ot (model prog w) s.heap (isInstance (.ref x) (.type "object")) true:=I.type.andThen (QN X (by unfold RF;rw [hc,Option.bind_some,if_neg ne,has]))
 refine OQ SF.slot.plain SF.entry (@PySem.W.check_slot (model prog w) _ _ s "object.__setattr__" "object" "__setattr__" (.ref x) [.str name tk,v] [] _ SF.kind SF.split sub (SF.args (.ref x) (.str name tk) v) ?_);have L2:=NK (M:=model prog w) X (show M5 K (.ref C) name=some none from ht);have L3:Ot (model prog w) s.heap (Builtin.ObjectAttr.storeTaker? none) none:=.now;rw [PySem.W.osa_eq,refuse_eq];refine LP (LP (I.type.here (LP (hm.here ?_))));rw [n8,ho,PySem.F.store_ValueError.passes];exact LZ (LP (I.type.here (LP (L2.here (LP (L3.here (h _)))))))
def Gq {vs:Array Value} {sl:Array (Option Value)} {Q:Unit->LU->Prop} (X:K.In s.heap) (hx:s.heap.get? x=some ⟨.ref C,none,.fields vs,sl⟩) (c:iM K C f) (ht:bP K C name)
  (h:∀ h',h'.Ns1 s.heap.objs.size (fun y=>if y=name then some v else none)->O0 s.heap.objs.size ((s.heap.push MM).update x fun o=>{ o with dict:=some s.heap.objs.size }) h'->Q () { s with heap:=h',toks:=s.toks+2 }) :
  wpAny (model prog w) A (setAttr (.ref x) name v) Q E s:=by
 have I:Q7 s.heap x ⟨.ref C,none,.fields vs,sl⟩ C none:=⟨hx,rfl,rfl,NN⟩;refine Rh X I c.sa (AX (s:={ s with toks:=s.toks+1 }) X I c ht fun b=>?_);obtain ⟨cd,hc,hd'⟩:=PL c.hd;refine LP (LZ (LP (LP (Q8 hx (LP (QY (s:={ s with toks:=s.toks+1 }) (PU X hc) ?_))))));rw [hd'];have hx1:=LW MM hx;have ne:s.heap.objs.size≠x:=OH (L5 hx);have hn:((s.heap.push MM).update x fun o=>{ o with dict:=some s.heap.objs.size }).Ns s.heap.objs.size (fun _=>none) :=
  ⟨_,#[],_,(QQ _ _ _ _ ne).trans (Mo s.heap rfl),rfl,fun e he=>absurd he (by simp),fun _=>rfl⟩
 refine LP (wpAny_alloc (LP (wpAny_update hx1 ?_)));refine LZ (a:=some s.heap.objs.size) (LP (LZ (LP ?_)));refine Tz (Rl hn) fun h' hn2 hs2=>?_;obtain ⟨oD,esD,epD,hoD,hdD,hcD⟩:=hn2.count (Ri name v PySem.Within.nil);refine LP (RV hoD (by rw [hdD];exact RW (M7 hcD (by rw [MN,P4,MW];lia))) ?_)
 exact LZ (h _ hn2 hs2)
def G2 {vs:Array Value} {sl:Array (Option Value)} {dx:Addr} {mA:Str->Option Value} {ns:List Str} {Q:Unit->LU->Prop} (X:K.In s.heap) (hx:s.heap.get? x=some ⟨.ref C,some dx,.fields vs,sl⟩) (hn:s.heap.Ns1 dx mA) (hw:QW mA ns) (hz:ns.length<=Mx) (c:iM K C f) (ht:bP K C name)
  (h:∀ h',h'.Ns1 dx (fun y=>if y=name then some v else mA y)->O0 dx s.heap h'->Q () { s with heap:=h',toks:=s.toks+2 }) :
  wpAny (model prog w) A (setAttr (.ref x) name v) Q E s:=by
 obtain ⟨od,ho,_⟩:=oZ hn;have I:Q7 s.heap x ⟨.ref C,some dx,.fields vs,sl⟩ C (some od):=⟨hx,rfl,rfl,ho⟩;refine Rh X I c.sa (AX (s:={ s with toks:=s.toks+1 }) X I c ht fun b=>?_);obtain ⟨cd,hc,hd'⟩:=PL c.hd;refine LP (LZ (LP (LP (Q8 hx (LP (QY (s:={ s with toks:=s.toks+1 }) (PU X hc) ?_))))));rw [hd'];refine LZ (a:=some dx) (LP (LZ (LP ?_)));refine Tz (s:={ s with toks:=s.toks+1 }) hn fun h' hn2 hs2=>?_;obtain ⟨oD,esD,epD,hoD,hdD,hcD⟩:=hn2.count (Ri name v hw);refine LP (RV hoD (by rw [hdD];exact RW (M7 hcD (by rw [MN];lia))) ?_)
 exact LZ (h _ hn2 hs2)
end
def K5 (x C:Addr) (d:Option Addr) (h:Heap):Prop:=lI h x C d
abbrev dE (x C:Addr) (d:Option Addr):HO:=.ext (K5 x C d)
def Bj {P:Mh} {w:World} {H:Hp} {h:Heap} {x C:Addr} {d:Option Addr} (e:lI h x C d):bB P w H h x (dE x C d):=by
 obtain ⟨o,vs,h1,h2,h3,h4,h5⟩:=id e;exact ⟨e,⟨o,h1⟩,fun a b ⟨o,vs,h1,h2,h3,h4,h5⟩ k=>⟨o,vs,k o h1,h2,h3,h4,h5⟩⟩
def JT (dx:Addr) (fs:List (Str×V)) (h:Heap):Prop:=∃ mA,h.Ns1 dx mA/\∀ f,fG (fs.lookup f) (mA f)
abbrev xdO (dx:Addr) (fs:List (Str×V)):HO:=.ext (JT dx fs)
def yy {P:Mh} {w:World} {H:Hp} {h:Heap} {dx:Addr} {fs:List (Str×V)} (e:JT dx fs h):bB P w H h dx (xdO dx fs):=by
 obtain ⟨mA,⟨o,es,ep,h1,h2⟩,h3⟩:=id e;exact ⟨e,⟨o,h1⟩,fun a b ⟨mA,⟨o,es,ep,h1,h2⟩,h3⟩ k=>⟨mA,⟨o,es,ep,k o h1,h2⟩,h3⟩⟩
def Ji {H:Hp} {a n:Addr} {o u v:HO}:upd (upd (upd H n u) a o) n v=upd (upd H a o) n v:=by
 funext b
 unfold upd
 by_cases h1:b=n
 ·simp [h1]
 ·simp [h1]
def J5 (K:LN) (ta tv:TE) (f:Str):TS:=fun D σ H=>tv σ H fun y H1=>ta σ H1 fun x H2=>∃ a C i,x=.ref a/\iM K C i/\bP K C f /\
 ((H2 a=some (dE a C none)/\∀ dx,H2 dx=none->D.nx σ (upd (upd H2 a (dE a C (some dx))) dx (xdO dx [(f,y)]))) \/
  ∃ dx fs,H2 a=some (dE a C (some dx))/\H2 dx=some (xdO dx fs)/\fs.length<1000/\D.nx σ (upd H2 dx (xdO dx (d4 f y fs))))
section
variable {X:Cx} {pins:List (Addr×Obj)} {σ:St} {H:Hp} {s:LU} {a C i dx:Addr} {fs:List (Str×V)} {f:Str} {y:V} {u:Value} {A:MP} {E:Value->LU->Prop}
def Jr {Q:Unit->LU->Prop} (I:Inv X pins σ H s) (e:H a=some (dE a C none)) (c:iM X.K C i) (n:bP X.K C f) (ry:RelV y u)
  (h:∀ dx s',H dx=none->Inv X pins σ (upd (upd H a (dE a C (some dx))) dx (xdO dx [(f,y)])) s'->Q () s'):wpAny (model X.prog X.w) A (setAttr (.ref a) f u) Q E s:=by
 obtain ⟨⟨oe,vs,e1,e2,e3,e4,e5⟩,_,_⟩:=(show bB X.prog X.w H s.heap a (dE a C none) from I.hok a _ e);obtain ⟨oc,od,odt,sl⟩:=oe;dsimp only at e2 e3 e4;subst e2 e3 e4;refine Gq I.kIn e1 c n fun h' hn hs=>?_;have fr:=I.hok.fresh (Ma s.heap.objs.size);have nea:s.heap.objs.size≠a:=OH (L5 e1);have g1:(s.heap.push MM).get? s.heap.objs.size=some MM:=Mo s.heap rfl;have I1:=I.laid (a:=s.heap.objs.size) (o:=xdO s.heap.objs.size []) (h':=s.heap.push MM) (t':=s.toks+2) (fun b u q=>LW _ q) (Ma _)
  (yy ⟨fun _=>none,Rl ⟨MM,#[],_,g1,rfl,(fun e he=>absurd he (by simp)),fun _=>rfl⟩,fun _=>NN⟩)
 have ea:upd H s.heap.objs.size (xdO s.heap.objs.size []) a=some (dE a C none):=by rw [aA (NI nea)];exact e
 have g2:=NB (fun o:Obj=>{ o with dict:=some s.heap.objs.size }) (LW MM e1) rfl;have I2:=I1.write (x:=a) (e:=a) (o:=dE a C (some s.heap.objs.size)) (t':=s.toks+2) (h':=(s.heap.push MM).update a fun o=>{ o with dict:=some s.heap.objs.size }) (by rw [ea];exact NN) (.inl rfl) (fun b q hb z=>(Nb _ _ (NI hb)).trans z) ⟨_,g2⟩
  (Bj ⟨_,vs,g2,rfl,rfl,rfl,e5⟩)
 have en:upd (upd H s.heap.objs.size (xdO s.heap.objs.size [])) a (dE a C (some s.heap.objs.size)) s.heap.objs.size=some (xdO s.heap.objs.size []):=by rw [aA nea,ar]
 have I3:=I2.write (x:=s.heap.objs.size) (e:=s.heap.objs.size) (o:=xdO s.heap.objs.size [(f,y)]) (t':=s.toks+2) (h':=h') (by rw [en];exact NN) (.inl rfl) (fun b q hb z=>(hs.2 b hb).trans z) (let ⟨o,_,_,e',_⟩:=hn;⟨o,e'⟩)
  (yy ⟨_,hn,fun g=>by
   by_cases q:g=f
   ·subst q;rw [if_pos rfl,Ph];exact ry
   ·rw [if_neg q];have:PV g [(f,y)]=none:=by
     rw [Nh];have z:(g == f)=false:=by simpa using q
     rw [z];rfl
    rw [this];exact NN⟩)
 rw [Ji] at I3;exact h _ _ fr I3
def IG {Q:Unit->LU->Prop} (I:Inv X pins σ H s) (e:H a=some (dE a C (some dx))) (ed:H dx=some (xdO dx fs)) (hl:fs.length<1000) (c:iM X.K C i) (n:bP X.K C f) (ry:RelV y u)
  (h:∀ s',Inv X pins σ (upd H dx (xdO dx (d4 f y fs))) s'->Q () s'):wpAny (model X.prog X.w) A (setAttr (.ref a) f u) Q E s:=by
 obtain ⟨⟨oe,vs,e1,e2,e3,e4,e5⟩,_,_⟩:=(show bB X.prog X.w H s.heap a (dE a C (some dx)) from I.hok a _ e);obtain ⟨oc,od,odt,sl⟩:=oe;dsimp only at e2 e3 e4;subst e2 e3 e4;obtain ⟨⟨mA,hn,r⟩,_,_⟩:=(show bB X.prog X.w H s.heap dx (xdO dx fs) from I.hok dx _ ed);have wi:QW mA (fs.map (·.1)):=fun g hg=>by
  have z:=r g;cases q:fs.lookup g with
  | none=>rw [q] at z;exact absurd (fG.none_of z) hg
  | some v =>
   rcases Classical.em (g∈fs.map (·.1)) with m|m
   ·exact m
   ·rw [oY m] at q;cases q
 refine G2 I.kIn e1 hn wi (by rw [LV,MW];lia) c n fun h' hn' hs=>h _ ?_
 refine I.write (x:=dx) (e:=dx) (by rw [ed];exact NN) (.inl rfl) (fun b q hb z=>(hs.2 b hb).trans z) (let ⟨o,_,_,e',_⟩:=hn';⟨o,e'⟩) (yy ⟨_,hn',fun g=>?_⟩)
 rw [gv]
 by_cases q:g=f
 ·rw [if_pos q,if_pos q];exact ry
 ·rw [if_neg q,if_neg q];exact r g
def pX {o value:Expr} {pos pos':Pos} {ta tv:TE} (K:LN) (hK:X.K=K) (ha:PE X o ta) (hv:PE X value tv) (hs:swapsWith value (some (.Attribute o f pos')) pos.line X.env=pure false):PS X (.Assign [.Attribute o f pos'] value pos) (J5 K ta tv f):=by
 subst hK;intro pins s σ H D I h;refine Qi (thn (hv pins s σ H _ I h) fun u s1 ⟨y,H1,I1,ry,q⟩=>thn (ha pins s1 σ H1 _ I1 q) fun ov s2 ⟨x,H2,I2,rx,a,C,i,ex,c,n,q2⟩=>?_) hs;subst ex;obtain rfl:ov=Ms a:=rx;rcases q2 with ⟨e,q2⟩|⟨dx,fs,e,ed,hl,q2⟩
 ·exact Jr I2 e c n ry fun dx s3 hd I3=>⟨σ,_,I3,q2 dx hd⟩
 ·exact IG I2 e ed hl c n ry fun s3 I3=>⟨σ,_,I3,q2⟩
end
section
variable {prog:Mh} {w:World} {A:MP} {E:Value->LU->Prop} {s:LU} {env:Env} {C:Addr} {Q:Flow->LU->Prop}
def BS {N:Addr} {nm qn:Str} {bs bm:List Value} {hdct:Bool} {sn:List Str} {sub:List Value} {ab:Bool} {col:Option Bool} {dd:Option Addr} {k0 k1 k2 k3 k5:Option Value} {newId:String} {x:Sem Value} (hB:bm.contains (.type "BaseException")=true) (hh:A.handled=none)
  (h:wpAny (model prog w) A x (fun v s₁=>∃ e d,v=.ref e/\s₁.heap.get? C=some (excClassObj nm qn C N bs bm hdct sn sub ab col dd k0 k1 k2 k3 k5 newId)/\lI s₁.heap e C d/\E (.ref e) s₁) E s) :
  wpAny (model prog w) A (raiseStmt env (some x) none) Q E s:=by
 have hcB:(Ms C :: bm).contains (.type "BaseException")=true:=by rw [List.contains_cons,hB,Bool.or_true]
 unfold raiseStmt;refine LP (Nc h (fun v s₁ ⟨e,di,ev,hC,⟨oe,vs,he,hc,hd,hf,h1⟩,hE⟩=>?_) fun _ _ z=>z);subst ev;obtain ⟨hp,g,d,tk,os⟩:=s₁;obtain ⟨oc,od,odt,sl⟩:=oe;dsimp only at hc hd hf;subst hc hd hf
 repeat (first|with_reducible refine Pr hC ?_|with_reducible refine Pr he ?_|(with_reducible refine Ob he rfl h1 ?_)|(with_reducible refine Ta hC ?_;rw [hcB])|wp_step)
 exact wpAny_raiseNew_none hh hE
end
def A1 (C:Addr) (sp:Sp) (E:XK) (ta:TA):TS:=fun _ σ H=>ta σ H fun vs H1=>vs.length<=Mx/\∀ y,H1 y=none ->
 sp (.ref y :: vs) (upd H1 y (dE y C none)) (fun v H2=>v=.non/\∃ d,H2 y=some (dE y C d)/\E (.ref C) d (del H2 y)) E0
section
variable {X:Cx} {pins:List (Addr×Obj)} {σ:St} {H:Hp} {s:LU} {E:XK} {C:Addr}
def Inv.drop {n:Addr} {φ:Heap->Prop} (I:Inv X pins σ H s) (e:H n=some (.ext φ)) (nx:X.s₀.heap.get? n=none):Up X pins σ (del H n) s n []:=by
 have ne:∀ b,H b=none->del H n b=none:=fun b z=>by unfold del;split <;> first|rfl|exact z
 have nn:∀ b u,H b=some u->u≠.ext φ->del H n b=some u:=fun b u q z=>by
  rw [eB (fun y=>z (by rw [y,e] at q;cases q;rfl))];exact q
 refine ⟨⟨I.ok,I.os,I.bare,⟨I.base.keep,I.base.slot,fun b o q m hx=>ne b (I.base.free b o q m hx),I.base.there,fun b xs q=>nn b _ (I.base.gh b xs q) (by intro z;cases z),fun b o u q=>nn b _ (I.base.fU b o u q) (by intro z;cases z),fun b ps q=>?_⟩,
  I.loc,I.cell,ne _ I.free,fun x c q=>ne _ (I.eD x c q),fun p hp=>?_,fun b u q=>?_,I.len⟩,by unfold del;rw [if_pos rfl],fun b hb=>absurd hb (by simp),nx,fun b hb=>absurd hb (by simp),fun p hp=>⟨fun z=>?_,by simp⟩⟩
 ·obtain ⟨m,q⟩:=I.base.gj b ps q;exact ⟨m,nn b _ q (by intro z;cases z)⟩
 ·obtain ⟨a1,a2,a3⟩:=I.pin p hp;exact ⟨a1,ne _ a2,a3⟩
 ·have bn:b≠n:=fun z=>by unfold del at q;rw [if_pos z] at q;cases q
  rw [eB bn] at q;exact (I.hok b u q).kQ (fun _ _ _ z=>z) (fun c z=>nn c _ z (by intro y;cases y)) fun c xs z=>nn c _ z (by intro y;cases y)
 ·have q:=(I.pin p hp).2.1;rw [z,e] at q;cases q
def pT {k:Nat} {f:Addr} {fd:Na} {ps:List Str} {sp:Sp} {x:Str} {np cpos pos:Pos} {e:Expr} {es:List Expr} {ta:TA} (c:iM X.K C f) (F:aH X.prog X.w X.K X.mg X.base CX0 k f fd ps sp) (hb:Binds X.K fd ps []) (hr:bY (k+1) X.A)
  (hL:Lets X E) (hex:X.ex=[]) (hcalm:X.calm=true) (hg:Gl X x) (hm:X.mg x=some (.ref C)) (ha:PA X (e :: es) ta) (hn:isStar e=false:=by rfl) (hall:es.all (fun e=>!isStar e)=true:=by rfl) (hdb:(x == ("__debug__" : Str))=false:=by decide) :
  PS X (.Raise (some (.Call (.Name x np) (e :: es) [] cpos)) none pos) (A1 C sp E ta):=by
 intro pins s σ H D I h;obtain ⟨bm,N,nm,qn,bs,hdct,sn,sub,ab,col,dd,k0,k1,k2,k3,k5,hC,T⟩:=uZ I.mod.kin c.ob;have hB:=T.hasType Pw.hasBase;rw [arm_exec_Raise];refine LP (P0 (BS (C:=C) (nm:=nm) (qn:=qn) (N:=N) (bs:=bs) (bm:=bm) (hdct:=hdct) (sn:=sn) (sub:=sub) (ab:=ab) (col:=col) (dd:=dd) (k0:=k0) (k1:=k1) (k2:=k2) (k3:=k3) (k5:=k5) (newId:=pB) hB (I.ok.hd hcalm) ?_));refine LP (Nc (OJ (i7 I hg hm ?_ hdb)) (fun v s3 h3=>LP (P0 (LZ h3))) fun _ _ z=>z);refine P1 (h₀:=X.base) I.ok.mod.kin c.kp (thn (ha cpos pins s σ H _ I h) fun us s1 ⟨vs,H1,I1,r,hz,q⟩=>⟨I1.kIn,?_⟩) (bz hn) (cp hall);have fr:s1.heap.objs.size<=s1.heap.objs.size+1:=OB _;have hq:=q (s1.heap.objs.size+1) (I1.hok.fresh fr);have hx:((s1.heap.push (qk us)).push (pM C s1.heap.objs.size)).get? (s1.heap.objs.size+1)=some (pM C s1.heap.objs.size):=by heap_get
 have I2:Inv X pins σ (upd H1 (s1.heap.objs.size+1) (dE (s1.heap.objs.size+1) C none)) { s1 with heap:=(s1.heap.push (qk us)).push (pM C s1.heap.objs.size) } :=
  I1.laid (t':=s1.toks) (fun b u q=>LW _ (LW _ q)) fr (Bj ⟨_,_,hx,rfl,rfl,rfl,rfl⟩)
 have r2:Vals (V.ref (s1.heap.objs.size+1) :: vs) (Ms (s1.heap.objs.size+1) :: us):=.cons rfl r;have hl:(Ms (s1.heap.objs.size+1) :: us++[]).length=ps.length:=by
  have e:=r2.length;rw [F.len _ _ _ _ hq] at e;rw [NR];exact e.symm
 have hb':=hb _ (Ms (s1.heap.objs.size+1) :: us) I2.kIn hl;rw [NR] at hb';refine Rm (He I1.kIn c (show us.length<=Mx by rw [<- r.length];exact hz) (OI (F.run _ X.stack _ _ ⟨Ms (s1.heap.objs.size+1) :: us,[]⟩ (Ms (s1.heap.objs.size+1) :: us) _ _ _ (hr.make C us []) (I2.Dd.make C us []) hb' r2 hq) fun r s' hq'=>?_))
 cases r with
 | error e=>exact Nd hq'
 | ok fl =>
  cases fl with
  | ret u =>
   obtain ⟨v,H',I3,rv,ev,d,hy,qE⟩:=I2.after hq';subst ev;obtain ⟨hN,_,_⟩:=(show bB X.prog X.w H' s'.heap _ (dE (s1.heap.objs.size+1) C d) from I3.hok _ _ hy);exact ⟨rv,_,d,rfl,I3.bk _ _ hC,hN,hL pins σ _ s' _ C d (I3.drop hy (SR (M7 I1.sz fr))) hN qE⟩
  | next=>exact Nd hq'
  | brk=>exact Nd hq'
  | cont=>exact Nd hq'
end
section
open PySem.Calls PySem.Builtin PySem.Builtin.ObjectAttr
variable {prog:Mh} {w:World} {A:MP} {E:Value->LU->Prop} {K:LN} {x C dx:Addr} {di:Option Addr} {h:Heap} {g:Array Qr} {d:Drawn} {t:Nat} {os:OsState} {name:Str} {v:Value} {mA:Str->Option Value}
def Gb {M:Model} (X:K.In h) (e:gC x C (some dx) h) (hn:h.Ns1 dx mA) (hd:NF K C=true) (ha:bP K C name) (hv:mA name=some v):Ot M h (find (.ref x) (.ref C) name) (.value v):=by
 obtain ⟨⟨oc,od,odt,sl⟩,vs,e1,e2,e3,e4⟩:=e;dsimp only at e2 e3 e4;subst e2 e3 e4;obtain ⟨od,ho,hl⟩:=oZ hn;exact PySem.W.looks_find X (ox:=⟨.ref C,some dx,.fields vs,sl⟩) ⟨e1,rfl,rfl,ho⟩ (S5 hd ha rfl (by rw [hl,hv]))
def Jn {expr:Bool} {Q:Value->LU->Prop} (X:K.In h) (c:ck K C) (e:gC x C (some dx) h) (hn:h.Ns1 dx mA) (hd:NF K C=true) (ha:bP K C name) (hv:mA name=some v) (hv':RU v=true)
  (hq:Q v ⟨h,g,d,t+1,os⟩):wpAny (model prog w) A (getAttr (.ref x) name expr) Q E ⟨h,g,d,t,os⟩:=by
 have L0:=mr (M:=model prog w) e;have L1:=NK (M:=model prog w) X c.ga;have L2:=NK (M:=model prog w) X c.gt;have L3:=Gb (M:=model prog w) X e hn hd ha hv;have f3:=Pd.ga.bind (.ref x);have ho:=PySem.W.handedOut_of hv';unfold getAttr getAttrBy;refine LP (wpAny_mkText (M1 (LP (L0.at (LP (L1.at ?_))))));show wpAny _ _ (getAttrByItsOwn _ _ _ _ _ _) _ _ _;unfold getAttrByItsOwn hookBefore;refine LP ?_;rw [if_pos (by rfl)]
 refine L2.at ?_;refine LP (Pq (M1 ?_));unfold callGetattribute;rw [show (expr && onTheHeap (Value.builtin "BaseException.__getattribute__"))=false by cases expr <;> rfl,if_neg (by decide)]
 unfold boundAndCalled
 repeat (any_goals (first|assumption|wp_step))
 refine OQ Pd.ga.plain F.entry_bexc_ga (vJ X c e ?_)
 repeat (any_goals (first|assumption|with_reducible refine PySem.W.Looks.at (by assumption) ?_|wp_step))
end
def JZ (K:LN) (ta:TE) (f:Str):TE:=fun σ H Q=>ta σ H fun x H1=>∃ a C dx fs v,x=.ref a/\H1 a=some (fI a C (some dx))/\H1 dx=some (xdO dx fs)/\ck K C/\NF K C=true/\bP K C f/\fs.lookup f=some v/\Q v H1
def Bh {X:Cx} {e:Expr} {f:Str} {pos:Pos} {ta:TE} (K:LN) (hK:X.K=K) (he:PE X e ta) (hb:attributeBase e f X.env (eval e X.env)=eval e X.env):PE X (.Attribute e f pos) (JZ K ta f):=by
 subst hK;intro pins s σ H Q I h;refine Bm hb (thn (he pins s σ H _ I h) fun u s1 ⟨x,H1,I1,rx,a,C,dx,fs,v,ex,ea,ed,c,hd,n,l,q⟩=>?_);subst ex;obtain rfl:u=Ms a:=rx;obtain ⟨p,_,_⟩:=(show bB X.prog X.w H1 s1.heap a (fI a C (some dx)) from I1.hok a _ ea);obtain ⟨⟨mA,hn,r⟩,_,_⟩:=(show bB X.prog X.w H1 s1.heap dx (xdO dx fs) from I1.hok dx _ ed);obtain ⟨w',hw,rw'⟩:=fG.some_of (v:=v) (o:=mA f) (by rw [<- l];exact r f)
 obtain ⟨hh,g,d,t,os⟩:=s1;exact Jn I1.kIn c p hn hd n hw (vM rw') ⟨v,H1,I1.tok _,rw',q⟩
section
variable {K:LN} {σ:St} {H:Hp} {Q:VK} {D:Ends} {ta tv:TE} {tA:TA} {f:Str} {E:XK} {C:Addr} {sp:Sp}
def HG (h:ta σ H fun x H1=>∃ a C dx fs v,x=.ref a/\H1 a=some (fI a C (some dx))/\H1 dx=some (xdO dx fs)/\ck K C/\NF K C=true/\bP K C f/\fs.lookup f=some v/\Q v H1):JZ K ta f σ H Q:=h
def rQ (h:tA σ H fun vs H1=>vs.length<=Mx/\∀ y,H1 y=none ->
 sp (.ref y :: vs) (upd H1 y (dE y C none)) (fun v H2=>v=.non/\∃ d,H2 y=some (dE y C d)/\E (.ref C) d (del H2 y)) E0):A1 C sp E tA D σ H:=h
def oG (h:tv σ H fun y H1=>ta σ H1 fun x H2=>∃ a C i,x=.ref a/\iM K C i/\bP K C f /\
 ((H2 a=some (dE a C none)/\∀ dx,H2 dx=none->D.nx σ (upd (upd H2 a (dE a C (some dx))) dx (xdO dx [(f,y)]))) \/
  ∃ dx fs,H2 a=some (dE a C (some dx))/\H2 dx=some (xdO dx fs)/\fs.length<1000/\D.nx σ (upd H2 dx (xdO dx (d4 f y fs))))):J5 K ta tv f D σ H:=h
end
def Fld (H:Hp) (d:Option Addr) (l:List (Str×V)):Prop:=∃ dx fs,d=some dx/\H dx=some (xdO dx fs)/\∀ p∈l,fs.lookup p.1=some p.2
def Fld.mono {H H':Hp} {d:Option Addr} {l:List (Str×V)} (s:aj H H'):Fld H d l->Fld H' d l
 | ⟨dx,fs,e,h,k⟩=>⟨dx,fs,e,s _ _ h,k⟩
def xy (C:Addr) (ns:List Str):Sp:=fun vs H Q _=>∃ (x:Addr) (as:List V),vs=.ref x :: as/\as.length=ns.length/\H x=some (dE x C none) /\
 ∀ dx fs,H dx=none->(∀ p∈ns.zip as,fs.lookup p.1=some p.2)->Q .non (upd (upd H x (dE x C (some dx))) dx (xdO dx fs))
def rq {H:Hp} {E:XK} {C:Addr} {vs:List V} {ns:List Str} (hl:vs.length=ns.length) (hz:vs.length<=1000) (h:∀ d H2,aj H H2->Fld H2 d (ns.zip vs)->E (.ref C) d H2) :
  vs.length<=Mx/\∀ y,H y=none->xy C ns (.ref y :: vs) (upd H y (dE y C none)) (fun v H2=>v=.non/\∃ d,H2 y=some (dE y C d)/\E (.ref C) d (del H2 y)) E0:=by
 refine ⟨small hz,fun y hy=>⟨y,vs,rfl,hl,ar,fun dx fs hd hf=>⟨rfl,some dx,?_,?_⟩⟩⟩
 ·have ne:dx≠y:=fun z=>by rw [z,ar] at hd;cases hd
  rw [aA (NI ne),ar]
 ·have ne:dx≠y:=fun z=>by rw [z,ar] at hd;cases hd
  rw [aA ne] at hd;refine h _ _ (fun b o q=>?_) ⟨dx,fs,rfl,?_,hf⟩
  ·rw [eB (aS q hy),aA (aS q hd),aA (aS q hy),aA (aS q hy)];exact q
  ·rw [eB ne,ar]
def flagsOf (K:LN) (C:Addr) (Ds:List Addr):List (Option Bool):=Ds.map fun D=>Nv K (.ref C) (.ref D)
def tM (n k:Nat):List Bool:=(LX n).map fun i=>decide (i=k)
section
variable {P:Mh} {w:World} {K:LN} {mg:Str->Option Value} {base:Heap} {x qual:Str} {st:Stmt} {f:Addr} {fd:Na} {N ps:List Str} {k:Nat} {sp:Sp}
def fQ.okX (F:fQ K x qual st f fd) (S:aK N ps (ak st)) (len:∀ vs H Q E,sp vs H Q E->vs.length=ps.length)
  (hbody:∀ (cdv:Value) (A:MP) (outer:List Env) (s:LU) (H:Hp) (vs:List V) (Q:VK) (E:XK),bY k (A.deeper (envOfC qual (ak st) s.heap.objs.size f cdv))->sp vs H Q E ->
   ∃ t,((cxR P w K mg base N qual (ak st) f cdv A outer s H E).Ok->PSs (cxR P w K mg base N qual (ak st) f cdv A outer s H E) (bC st) t)/\t { nx:=fun _ H'=>Q .non H',rt:=Q } (start N vs) H):aH P w K mg base (CXR P w) (k+1) f fd ps sp:=by
 obtain ⟨oc,od,D,kV,doc,pm,an,cdv,ct,osl,dc,dd,n,dsl,rfl,lk,hcd,_⟩:=F.ex;refine xR lk hcd S len fun A outer s H vs Q E hr hsp=>?_;obtain ⟨t,h,q⟩:=hbody cdv A outer s H vs Q E hr hsp;exact ⟨t,fun pins s' σ H' D I z=>Nc (h (I.fX _).ok pins s' σ H' D (I.fX _) z) (fun _ _ y=>y.dI) fun _ _ y=>wg y,q⟩
end
section
variable {X:Cx} {x y:Str} {st:Stmt} {ps:List Str} {k j:Nat} {sp:Sp} {p pos:Pos} {e:Expr} {es:List Expr} {t:TA} {E:XK}
def oM (d:DfD X.K X.mg x st ps y j) (G:aH X.prog X.w X.K X.mg X.base (CXR X.prog X.w) k d.f d.fd ps sp) (hr:bY k X.A) (hg:Gl X x) (hx:Passes (CXR X.prog X.w) X E) (ha:PA X (e :: es) t) (hn:isStar e=false:=by rfl) (hall:es.all (fun e=>!isStar e)=true:=by rfl) (hdb:(x == ("__debug__" : Str))=false:=by decide) :
  PE X (.Call (.Name x p) (e :: es) [] pos) (mJ sp [] E t):=qp G hr hg d.nm d.fn.kp d.bd .nil hx ha hdb (bz hn) (cp hall)
end
def aH.orR {P:Mh} {w:World} {K:LN} {mg:Str->Option Value} {base:Heap} {k:Nat} {f:Addr} {fd:Na} {ps:List Str} {sp1 sp2:Sp} (F1:aH P w K mg base (CXR P w) k f fd ps sp1) (F2:aH P w K mg base (CXR P w) k f fd ps sp2):aH P w K mg base (CXR P w) k f fd ps (fun vs H Q E=>sp1 vs H Q E\/sp2 vs H Q E) :=
 ⟨fun vs H Q E h=>h.elim (F1.len vs H Q E) (F2.len vs H Q E),fun A outer s H args us vs Q E hr he hb hv h=>h.elim (F1.run A outer s H args us vs Q E hr he hb hv) (F2.run A outer s H args us vs Q E hr he hb hv)⟩
section
variable {prog:Mh} {w:World} {A:MP} {R:Rj->LU->Prop} {s:LU}
end
section
variable {X:Cx} {scope:Scope} {own:List Str} {fr fp:List Addr} {C:Addr} {s₂:LU} {H₂:Hp} {E:XK} {pins:List (Addr×Obj)} {σ:St}
end
section
variable {X:Cx} {elt tg iter:Expr} {ifs:List Expr} {scope:Scope} {pos:Pos} {own:List Str} {fr:List Nat} {wi:TI} {g:TG} {tt:TT} {te:TE}
end
end L2
namespace L2
open PySem PySem.W PyProof.Rows
def bx {α:Type} (lt:Nat->Nat->Bool):KasT α->α
 | .ret a=>a
 | .ask i j k=>bx lt (k (lt i j))
def gX {α β:Type} (lt:Nat->Nat->Bool) (f:α->KasT β):∀ t:KasT α,bx lt (t.bind f)=bx lt (f (bx lt t))
 | .ret _=>rfl
 | .ask i j k=>gX lt f (k (lt i j))
section
variable {lt:Nat->Nat->Bool}
def gS (lt:Nat->Nat->Bool) (p:Array Nat) (n:Nat):Prop:=∀ i j,i<=j->j<n->lt (p.getD j 0) (p.getD i 0)=false
def iR (lt:Nat->Nat->Bool) (p:Array Nat) (n:Nat):Prop:=∀ i j,i<=j->j<n->lt (p.getD i 0) (p.getD j 0)=false
structure jF (lt:Nat->Nat->Bool):Prop where
 irr:∀ a,lt a a=false
 as:∀ {a b},lt a b=true->lt b a=false
 tr:∀ {a b c},lt b a=false->lt c b=false->lt c a=false
def getD_eq {p:Array Nat} {i:Nat}:p.getD i 0=(p[i]?).getD 0:=by
 by_cases h:i<p.size <;> simp [Array.getD,h]
def rev_getD {p:Array Nat} {i j:Nat} (hj:j<=p.size) (k:Nat):(QD p i j).getD k 0=if i<=k/\k<j then p.getD (i+j - 1 - k) 0 else p.getD k 0:=by
 unfold QD;rw [getD_eq,getElem?_mirror_all hj]
 split <;> rw [getD_eq]
def zM {p:Array Nat} {k l:Nat} (hk:k<p.size) (hl:l<=k) (i:Nat):(bubble p k (k - l)).getD i 0=if i=l then p.getD k 0 else if l<i/\i<=k then p.getD (i - 1) 0 else p.getD i 0:=by
 rw [getD_eq,getElem?_bubble hk _ (by lia),show k - (k - l)=l from by lia]
 by_cases c:i=l
 ·rw [if_pos c,if_pos c,<- getD_eq]
 ·rw [if_neg c,if_neg c]
  by_cases c':l<i/\i<=k
  ·rw [if_pos c',if_pos c',<- getD_eq]
  ·rw [if_neg c',if_neg c',<- getD_eq]
def uh (W:jF lt) (p:Array Nat):∀ f n,1<=n->gS lt p n->n<=bx lt (SA p f n)/\bx lt (SA p f n)<=n+f/\gS lt p (bx lt (SA p f n)) /\
  (bx lt (SA p f n)<n+f->lt (p.getD (bx lt (SA p f n)) 0) (p.getD (bx lt (SA p f n) - 1) 0)=true)
 | 0,n,_,h=>⟨Ma _,Ma _,h,fun z=>absurd z (Oo _)⟩
 | f+1,n,h1,h=>by
  unfold SA;simp only [bx];cases e:lt (p.getD n 0) (p.getD (n - 1) 0) with
  | true =>
   simp only [if_true,bx];exact ⟨Ma _,by lia,h,fun _=>e⟩
  | false =>
   simp only [MU,if_false];have h':gS lt p (n+1):=fun i j hij hj=>by
    rcases Mu j n with c|c
    ·exact h i j hij c
    ·have:j=n:=by lia
     subst this;rcases Mu i j with c' | c'
     ·exact W.tr (h i (j - 1) (by lia) (by lia)) e
     ·have:i=j:=by lia
      subst this;exact W.irr _
   obtain ⟨a1,a2,a3,a4⟩:=uh W p f (n+1) (by lia) h'
   exact ⟨by lia,by lia,a3,fun z=>a4 (by lia)⟩
def Js {p:Array Nat} {n:Nat} (hn:n<=p.size) (h:iR lt p n):gS lt (QD p 0 n) n:=fun i j hij hj=>by
 rw [rev_getD hn,rev_getD hn,if_pos ⟨MI _,hj⟩,if_pos ⟨MI _,by lia⟩]
 exact h _ _ (by lia) (by lia)
def oW (lt:Nat->Nat->Bool) (p:Array Nat) (n q:Nat):Prop:=q<n/\∀ i j,n - (q+1)<=i->i<n->n - (q+1)<=j->j<n->lt (p.getD i 0) (p.getD j 0)=false
def yH {p:Array Nat} {n q:Nat} (hn:n<=p.size) (h:iR lt p n) (ha:oW lt p n q):iR lt (QD p (n - (q+1)) n) n:=fun i j hij hj=>by
 have hq:=ha.1;rw [rev_getD hn,rev_getD hn]
 by_cases ci:n - (q+1)<=i
 ·rw [if_pos ⟨ci,by lia⟩,if_pos ⟨by lia,hj⟩]
  exact ha.2 _ _ (by lia) (by lia) (by lia) (by lia)
 ·rw [if_neg (by lia)]
  by_cases cj:n - (q+1)<=j
  ·rw [if_pos ⟨cj,hj⟩];exact h _ _ (by lia) (by lia)
  ·rw [if_neg (by lia)]
   exact h _ _ hij hj
def lE (W:jF lt) {p:Array Nat} {n:Nat} (h1:1<=n) (h:iR lt p n) (e:lt (p.getD (n - 1) 0) (p.getD n 0)=false):iR lt p (n+1):=fun i j hij hj=>by
 rcases Mu j n with c|c
 ·exact h i j hij c
 ·have:j=n:=by lia
  subst this;rcases Mu i j with c' | c'
  ·exact W.tr e (h i (j - 1) (by lia) (by lia))
  ·have:i=j:=by lia
   subst this;exact W.irr _
def mZ (W:jF lt):∀ f (p:Array Nat) n q,1<=n->n+f<=p.size->iR lt p n->oW lt p n q ->
  (bx lt (Qw f p n q)).1.Perm p/\n<=(bx lt (Qw f p n q)).2.1/\(bx lt (Qw f p n q)).2.1<=n+f/\iR lt (bx lt (Qw f p n q)).1 (bx lt (Qw f p n q)).2.1 /\
   oW lt (bx lt (Qw f p n q)).1 (bx lt (Qw f p n q)).2.1 (bx lt (Qw f p n q)).2.2
 | 0,p,n,q,_,_,h,ha=>⟨Pj _,Ma _,Ma _,h,ha⟩
 | f+1,p,n,q,h1,hz,h,ha=>by
  unfold Qw;simp only [bx];cases e:lt (p.getD n 0) (p.getD (n - 1) 0) with
  | true =>
   simp only [if_true];have e':=W.as e;have one:∀ p':Array Nat,oW lt p' (n+1) 0:=fun p'=>⟨by lia,fun i j a b c d=>by
    have:i=n:=by lia
    have:j=n:=by lia
    subst i;subst j;exact W.irr _⟩
   split
   ·have hn:n<=p.size:=by lia
    have d1:=yH hn h ha;have hq:=ha.1;have d2:iR lt (QD p (n - (q+1)) n) (n+1):=lE W h1 d1 (by
     rw [rev_getD hn,rev_getD hn,if_pos ⟨by lia,by lia⟩,if_neg (by lia)]
     exact W.tr e' (ha.2 _ _ (by lia) (by lia) (by lia) (by lia)))
    obtain ⟨a1,a2,a3,a4,a5⟩:=mZ W f (QD p (n - (q+1)) n) (n+1) 0 (by lia) (by rw [TU];lia) d2 (one _)
    exact ⟨a1.trans (RM _ _ _ _),by lia,by lia,a4,a5⟩
   ·obtain ⟨a1,a2,a3,a4,a5⟩:=mZ W f p (n+1) 0 (by lia) (by lia) (lE W h1 h e') (one _)
    exact ⟨a1,by lia,by lia,a4,a5⟩
  | false =>
   simp only [MU,if_false];rw [bx];cases e2:lt (p.getD (n - 1) 0) (p.getD n 0) with
   | true =>
    simp only [if_true,bx];exact ⟨Pj _,Ma _,by lia,h,ha⟩
   | false =>
    simp only [MU,if_false];have hq:=ha.1;have al:oW lt p (n+1) (q+1):=⟨by lia,fun i j a b c d=>by
     rcases Mu i n with ci|ci <;> rcases Mu j n with cj|cj
     ·exact ha.2 _ _ (by lia) ci (by lia) cj
     ·have:j=n:=by lia
      subst this;exact W.tr e2 (ha.2 i (j - 1) (by lia) ci (by lia) (by lia))
     ·have:i=n:=by lia
      subst this;exact W.tr (ha.2 (i - 1) j (by lia) (by lia) (by lia) cj) e
     ·have:i=n:=by lia
      have:j=n:=by lia
      subst i;subst j;exact W.irr _⟩
    obtain ⟨a1,a2,a3,a4,a5⟩:=mZ W f p (n+1) (q+1) (by lia) (by lia) (lE W h1 h e2) al
    exact ⟨a1,by lia,by lia,a4,a5⟩
def zS (W:jF lt) {p:Array Nat} {n nrem:Nat} (h1:1<=n) (hn:n<=nrem) (hz:nrem<=p.size) (h:iR lt p n) :
  (bx lt (Ru n nrem p)).2.Perm p/\1<=(bx lt (Ru n nrem p)).1/\(bx lt (Ru n nrem p)).1<=nrem/\gS lt (bx lt (Ru n nrem p)).2 (bx lt (Ru n nrem p)).1:=by
 unfold Ru;rw [gX];simp only [bx];obtain ⟨a1,a2,a3,a4⟩:=uh W (QD p 0 n) (nrem - n) n h1 (Js (by lia) h)
 exact ⟨RM _ _ _ _,by lia,by lia,a3⟩
def pJ (W:jF lt) {p:Array Nat} {n nrem:Nat} (h1:1<=n) (hn:n+1<=nrem) (hz:nrem<=p.size) (h:iR lt p n) (e:lt (p.getD n 0) (p.getD (n - 1) 0)=true) :
  (bx lt (PZ n nrem p)).2.Perm p/\1<=(bx lt (PZ n nrem p)).1/\(bx lt (PZ n nrem p)).1<=nrem/\gS lt (bx lt (PZ n nrem p)).2 (bx lt (PZ n nrem p)).1:=by
 unfold PZ;rw [gX];obtain ⟨a1,a2,a3,a4,a5⟩:=mZ W (nrem - (n+1)) p (n+1) 0 (by lia) (by lia) (lE W h1 h (W.as e)) ⟨by lia,fun i j a b c d=>by
  have:i=n:=by lia
  have:j=n:=by lia
  subst i;subst j;exact W.irr _⟩
 generalize bx lt (Qw (nrem - (n+1)) p (n+1) 0)=r at a1 a2 a3 a4 a5;have sz:r.1.size=p.size:=a1.size_eq
 split
 ·obtain ⟨b1,b2,b3,b4⟩:=zS W (p:=QD r.1 (r.2.1 - (r.2.2+1)) r.2.1) (n:=r.2.1) (nrem:=nrem) (by lia) (by lia) (by rw [TU];lia) (yH (by lia) a4 a5)
  exact ⟨b1.trans ((RM _ _ _ _).trans a1),b2,b3,b4⟩
 ·obtain ⟨b1,b2,b3,b4⟩:=zS W (p:=r.1) (n:=r.2.1) (nrem:=nrem) (by lia) (by lia) (by lia) a4
  exact ⟨b1.trans a1,b2,b3,b4⟩
def Eo (W:jF lt) {p:Array Nat} {nrem:Nat} (h1:1<=nrem) (hz:nrem<=p.size) :
  (bx lt (QR nrem p)).2.Perm p/\1<=(bx lt (QR nrem p)).1/\(bx lt (QR nrem p)).1<=nrem/\gS lt (bx lt (QR nrem p)).2 (bx lt (QR nrem p)).1:=by
 unfold QR;rw [gX];obtain ⟨a1,a2,a3,a4⟩:=uh W p (nrem - 1) 1 (Ma _) (fun i j hij hj=>by
  have:i=0:=by lia
  have:j=0:=by lia
  subst i;subst j;exact W.irr _)
 generalize bx lt (SA p (nrem - 1) 1)=n at a1 a2 a3 a4
 split
 ·exact ⟨Pj _,a1,by show n<=nrem;lia,a3⟩
 ·rename_i hne
  have hlt:n+1<=nrem:=by
   have:n≠nrem:=fun q=>hne (by rw [q];exact beq_self_eq_true _)
   lia
  have e:=a4 (by lia)
  split
  ·rename_i h2
   simp only [bx];cases c:lt (p.getD 0 0) (p.getD (n - 1) 0) with
   | true =>
    simp only [if_true,bx];exact ⟨Pj _,a1,by lia,a3⟩
   | false =>
    simp only [MU,if_false];have all:∀ i j,i<n->j<n->lt (p.getD i 0) (p.getD j 0)=false:=fun i j hi hj =>
     W.tr (W.tr (a3 j (n - 1) (by lia) (by lia)) c) (a3 0 i (by lia) hi)
    have hn:n<=p.size:=by lia
    have d:iR lt (QD p 0 n) n:=fun i j hij hj=>by
     rw [rev_getD hn,rev_getD hn,if_pos ⟨MI _,by lia⟩,if_pos ⟨MI _,hj⟩]
     exact all _ _ (by lia) (by lia)
    have e':lt ((QD p 0 n).getD n 0) ((QD p 0 n).getD (n - 1) 0)=true:=by
     rw [rev_getD hn,rev_getD hn,if_neg (by lia),if_pos ⟨MI _,by lia⟩]
     cases z:lt (p.getD n 0) (p.getD (0+n - 1 - (n - 1)) 0) with
     | true=>rfl
     | false =>
      have:=W.tr (all (0+n - 1 - (n - 1)) (n - 1) (by lia) (by lia)) z
      rw [e] at this;cases this
    obtain ⟨b1,b2,b3,b4⟩:=pJ W (p:=QD p 0 n) a1 hlt (by rw [TU];exact hz) d e'
    exact ⟨b1.trans (RM _ _ _ _),b2,b3,b4⟩
  ·have:n=1:=by lia
   subst this;exact pJ W (Ma _) hlt hz (fun i j hij hj=>by
    have:i=0:=by lia
    have:j=0:=by lia
    subst i;subst j;exact W.irr _) e
def pV (W:jF lt) {p:Array Nat} {k:Nat} (h:gS lt p k):∀ f l r,r - l<=f->l<=r->r<=k->(∀ i,i<l->lt (p.getD k 0) (p.getD i 0)=false)->(∀ i,r<=i->i<k->lt (p.getD k 0) (p.getD i 0)=true) ->
  bx lt (Rv p k f l r)<=k/\(∀ i,i<bx lt (Rv p k f l r)->lt (p.getD k 0) (p.getD i 0)=false)/\∀ i,bx lt (Rv p k f l r)<=i->i<k->lt (p.getD k 0) (p.getD i 0)=true
 | 0,l,r,hf,hlr,hr,a,b=>by
  have:l=r:=by lia
  subst this;exact ⟨hr,a,b⟩
 | f+1,l,r,hf,hlr,hr,a,b=>by
  unfold Rv
  split
  ·have:l=r:=by lia
   subst this;exact ⟨hr,a,b⟩
  ·simp only [bx];cases c:lt (p.getD k 0) (p.getD ((l+r) / 2) 0) with
   | true =>
    simp only [if_true];exact pV W h f l ((l+r) / 2) (by lia) (by lia) (by lia) a fun i hi hk=>by
     cases z:lt (p.getD k 0) (p.getD i 0) with
     | true=>rfl
     | false =>
      have:=W.tr (h ((l+r) / 2) i hi hk) z;rw [c] at this;cases this
   | false =>
    simp only [MU,if_false];exact pV W h f ((l+r) / 2+1) r (by lia) (by lia) hr (fun i hi=>W.tr (h i ((l+r) / 2) (by lia) (by lia)) c) b
def BB (W:jF lt):∀ f (p:Array Nat) k,k+f<=p.size->gS lt p k->(bx lt (kas_bin f p k)).Perm p/\gS lt (bx lt (kas_bin f p k)) (k+f)
 | 0,p,k,_,h=>⟨Pj _,h⟩
 | f+1,p,k,hz,h=>by
  unfold kas_bin;rw [gX];obtain ⟨a1,a2,a3⟩:=pV W h k 0 k (by lia) (MI _) (Ma _) (fun i hi=>absurd hi (Ss _)) (fun i h1 h2=>by lia)
  generalize bx lt (Rv p k k 0 k)=l at a1 a2 a3;have hk:k<p.size:=by lia
  have h':gS lt (bubble p k (k - l)) (k+1):=fun i j hij hj=>by
   rw [zM hk a1,zM hk a1]
   by_cases ci:i=l
   ·rw [if_pos ci]
    by_cases cj:j=l
    ·rw [if_pos cj];exact W.irr _
    ·rw [if_neg cj,if_pos ⟨by lia,by lia⟩]
     exact W.as (a3 (j - 1) (by lia) (by lia))
   ·rw [if_neg ci]
    by_cases cj:j=l
    ·rw [if_pos cj,if_neg (by lia)]
     exact a2 i (by lia)
    ·rw [if_neg cj]
     by_cases c1:l<j
     ·rw [if_pos ⟨c1,by lia⟩]
      by_cases c2:l<i
      ·rw [if_pos ⟨c2,by lia⟩]
       exact h _ _ (by lia) (by lia)
      ·rw [if_neg (by lia)]
       exact h _ _ (by lia) (by lia)
     ·rw [if_neg (by lia),if_neg (by lia)]
      exact h _ _ hij (by lia)
  obtain ⟨b1,b2⟩:=BB W f (bubble p k (k - l)) (k+1) (by rw [bubble_size];lia) h'
  refine ⟨b1.trans (bubble_perm _ _ _),?_⟩;rw [show k+(f+1)=k+1+f from by lia]
  exact b2
def Hb (W:jF lt) {n:Nat} (h1:1<=n):(bx lt (RN n)).Perm (Ny (LX n))/\gS lt (bx lt (RN n)) n:=by
 unfold RN;rw [gX];have hs:(Ny (LX n)).size=n:=by simp
 obtain ⟨a1,a2,a3,a4⟩:=Eo W (p:=Ny (LX n)) h1 (QZ hs.symm);generalize bx lt (QR n (Ny (LX n)))=r at a1 a2 a3 a4;have sz:r.2.size=n:=a1.size_eq.trans hs
 split
 ·rename_i hlt
  have hm:max r.1 1=r.1:=by lia
  rw [hm];obtain ⟨b1,b2⟩:=BB W (n - r.1) r.2 r.1 (by lia) a4
  refine ⟨b1.trans a1,?_⟩;rw [show r.1+(n - r.1)=n from by lia] at b2
  exact b2
 ·have:r.1=n:=by lia
  rw [this] at a4;exact ⟨a1,a4⟩
end
end L2
namespace L2
open PySem PySem.W PyProof.Rows PySem.SeqAt
open AutoSeq1 (wpAny_loadPart')
open MeetsSeq MeetsSeq2 MeetsSeq3
def cq:List Int->List Int->Bool
 | [],[]=>false
 | [],_ :: _=>true
 | _ :: _,[]=>false
 | a :: as,b :: bs=>if a=b then cq as bs else decide (a<b)
def ints_get:∀ {vs:List Value} {ns:List Int},OC vs ns->∀ {i:Nat} {v:Value},vs[i]?=some v->∃ n t,v=.int n t/\ns[i]?=some n
 | _,_,.nil,i,v,h=>by simp at h
 | _,_,.cons n t r,0,v,h=>by
  simp at h;exact ⟨n,t,h.symm,rfl⟩
 | _,_,.cons n t r,i+1,v,h=>by
  simp at h;obtain ⟨m,u,e1,e2⟩:=ints_get r h;exact ⟨m,u,e1,by simpa using e2⟩
def Ec (l b:Addr) (items items2:Array Value) (n n2:Nat) (dd dd2:Option Addr) (sl sl2:Array (Option Value)) (xs ys:List Int) (hx:OC items.toList xs) (hy:OC items2.toList ys) (k:Nat) :
  ∀ i:Nat,items.size - i=k->i<=items.size->i<=items2.size->Meets (OD.«list.__eq__.loop» ⟨[.ref l,.ref b,rawInt i,rawInt 0],[]⟩)
   (fun A R s=>s.heap.get? l=some { cls:=.type "list",dict:=dd,data:=.seq items n,slots:=sl }/\s.heap.get? b=some { cls:=.type "list",dict:=dd2,data:=.seq items2 n2,slots:=sl2 } /\
    R (.ok (.ret (.bool (cq (xs.drop i) (ys.drop i))))) s):=by
 have lx:xs.length=items.size:=by have:=hx.length;rw [MB] at this;exact this.symm
 have ly:ys.length=items2.size:=by have:=hy.length;rw [MB] at this;exact this.symm
 induction k with
 | zero =>
  intro i hk h1 h2 prog w A R s h;obtain ⟨hp,g,d,tk,os⟩:=s;obtain ⟨hl,hb,h⟩:=h
  wp_walk using ND hl,ND hb
  have hi:i=items.size:=by lia
  have hi1:items[((i:Nat):Int).toNat]?=none:=by simp;lia
  rw [hi1];have hd:xs.drop i=[]:=by simp;lia
  rw [hd] at h;have e:cq [] (ys.drop i)=decide (items.size<items2.size):=by
   rcases Mu i ys.length with c|c
   ·rw [PJ c];show true=_;rw [eq_comm,decide_eq_true_iff];lia
   ·rw [List.drop_of_length_le c];show false=_;rw [eq_comm,decide_eq_false_iff_not];lia
  rw [e] at h
  wp_walk using ND hl,ND hb
  exact h
 | succ k ih =>
  intro i hk h1 h2 prog w A R s h;obtain ⟨hp,g,d,tk,os⟩:=s;obtain ⟨hl,hb,h⟩:=h
  wp_walk using ND hl,ND hb
  have hlt:i<items.size:=by lia
  have hi1:items[((i:Nat):Int).toNat]?=some items[i]:=by simp [hlt]
  have hdx:xs.drop i=xs[i] :: xs.drop (i+1):=PJ (by lia)
  rcases Mu i items2.size with hlt2|hge2
  ·have hi2:items2[((i:Nat):Int).toNat]?=some items2[i]:=by simp [hlt2]
   have hdy:ys.drop i=ys[i] :: ys.drop (i+1):=PJ (by lia)
   have hc:((i:Int)+1)=((i+1:Nat):Int):=by push_cast;rfl
   rw [hi1,hi2];obtain ⟨a,t,ea,ga⟩:=ints_get hx (i:=i) (v:=items[i]) (by simp [hlt])
   obtain ⟨c,u,ec,gc⟩:=ints_get hy (i:=i) (v:=items2[i]) (by simp [hlt2])
   have gxa:xs[i]=a:=by rw [LO (by lia)] at ga;exact ME ga
   have gyc:ys[i]=c:=by rw [LO (by lia)] at gc;exact ME gc
   rw [hdx,hdy,gxa,gyc] at h;rw [ea,ec];refine LP (EqAt.int_int a t c u prog w _ _ ?_)
   by_cases e:a=c
   ·have eb:(a == c)=true:=by simp [e]
    rw [eb];have h':R (.ok (.ret (.bool (cq (xs.drop (i+1)) (ys.drop (i+1)))))) ⟨hp,g,d,tk,os⟩:=by
     simp only [cq,if_pos e] at h;exact h
    wp_walk
    rw [hc];exact ⟨OL plain_eq_loop _,Nu entry_eq_loop (by
     rw [Nf plain_eq_loop _];exact ih (i+1) (by lia) (by lia) (by lia) prog w A R _ ⟨hl,hb,h'⟩)⟩
   ·have eb:(a == c)=false:=by simp [e]
    rw [eb];have h':R (.ok (.ret (.bool (decide (a<c))))) ⟨hp,g,d,tk,os⟩:=by
     simp only [cq,if_neg e] at h;exact h
    wp_walk using ND hl,ND hb
    rw [hi1,hi2,ea,ec];refine LP (wpAny_richCompare_same (SN _ a t) (SN _ c u) slot_int_lt (call_int_lt ⟨nofun,LZ ?_⟩));exact h'
  ·have hi2:items2[((i:Nat):Int).toNat]?=none:=by simp;lia
   rw [hi1,hi2];have hdy:ys.drop i=[]:=by simp;lia
   rw [hdx,hdy] at h;have e:decide (items.size<items2.size)=false:=by
    rw [decide_eq_false_iff_not];lia
   wp_walk using ND hl,ND hb
   show R (.ok (.ret (.bool (decide (items.size<items2.size))))) _;rw [e];exact h
def D9 (l b:Addr) (items items2:Array Value) (n n2:Nat) (dd dd2:Option Addr) (sl sl2:Array (Option Value)) (xs ys:List Int) (hx:OC items.toList xs) (hy:OC items2.toList ys) :
  Meets (OD.«list.__lt__» ⟨[.ref l,.ref b],[]⟩)
   (fun A R s=>s.heap.get? l=some { cls:=.type "list",dict:=dd,data:=.seq items n,slots:=sl }/\s.heap.get? b=some { cls:=.type "list",dict:=dd2,data:=.seq items2 n2,slots:=sl2 } /\
    R (.ok (.ret (.bool (cq xs ys)))) s):=by
 intro prog w A R s h;obtain ⟨hp,g,d,tk,os⟩:=s;obtain ⟨hl,hb,h⟩:=h;have f3:=AutoSeq1.sub_list_list
 wp_walk using ND hl,ND hb
 exact ⟨OL plain_eq_loop _,Nu entry_eq_loop (by
  rw [Nf plain_eq_loop _];exact Ec l b items items2 n n2 dd dd2 sl sl2 xs ys hx hy _ 0 rfl (MI _) (MI _) prog w A R _ ⟨hl,hb,by simpa using h⟩)⟩
section
variable {prog:Mh} {w:World} {A:MP} {E:Value->LU->Prop} {s:LU}
def yf {l b:Addr} {items items2:Array Value} {xs ys:List Int} (hl:s.heap.IsList l items) (hb:s.heap.IsList b items2) (hx:OC items.toList xs) (hy:OC items2.toList ys) {Q:Value->LU->Prop} (h:Q (.bool (cq xs ys)) s) :
  wpAny (model prog w) A (call (.builtin "list.__lt__") [.ref l,.ref b]) Q E s:=by
 obtain ⟨⟨cls,dd,data,sl⟩,ho,hc,n,hd⟩:=id hl;obtain ⟨⟨cls2,dd2,data2,sl2⟩,ho2,hc2,n2,hd2⟩:=id hb;simp only at hc hd hc2 hd2;subst hc hd hc2 hd2;exact O6 F.slot_list_lt ⟨_,ho,rfl⟩ F.entry_list_lt (F.args_list_lt_2 _ _) (D9 l b items items2 n n2 dd dd2 sl sl2 xs ys hx hy) ⟨ho,ho2,h⟩
def Ae {l b:Addr} {items items2:Array Value} {xs ys:List Int} (hl:s.heap.IsList l items) (hb:s.heap.IsList b items2) (hx:OC items.toList xs) (hy:OC items2.toList ys) (hu:A.units<cLine) {Q:Bool->LU->Prop} (h:Q (cq xs ys) s) :
  wpAny (model prog w) A (keyLt' oneType' (.ref l) (.ref b)) Q E s:=by
 rw [keyLt'_oneType,oneLt'_eq];simp only [if_true];obtain ⟨o,ho,hc,_⟩:=id hl;refine LP (wpAny_cRoomFor hu ?_);refine LP (wpAny_callSpecialIfBound?_slot (T:="list") ⟨o,ho,hc⟩ F.slot_list_lt (yf hl hb hx hy ?_));exact N7 h
end
def ye:∀ a:List Int,cq a a=false
 | []=>rfl
 | x :: a=>by simp only [cq,if_true];exact ye a
def A7:∀ {a b:List Int},cq a b=true->cq b a=false
 | [],[],h=>rfl
 | [],_ :: _,h=>rfl
 | _ :: _,[],h=>by simp [cq] at h
 | x :: a,y :: b,h=>by
  simp only [cq] at h ⊢
  by_cases e:x=y
  ·subst e;simp only [if_true] at h ⊢;exact A7 h
  ·rw [if_neg e] at h;rw [if_neg (NI e),decide_eq_false_iff_not];have:=of_decide_eq_true h;lia
def ya:∀ {a b:List Int},cq a b=false->cq b a=false->a=b
 | [],[],_,_=>rfl
 | [],_ :: _,h,_=>by simp [cq] at h
 | _ :: _,[],_,h=>by simp [cq] at h
 | x :: a,y :: b,h,h'=>by
  simp only [cq] at h h'
  by_cases e:x=y
  ·subst e;simp only [if_true] at h h';rw [ya h h']
  ·rw [if_neg e] at h;rw [if_neg (NI e)] at h';have:=of_decide_eq_false h;have:=of_decide_eq_false h';lia
def Bn:∀ {a b c:List Int},cq a b=true->cq b c=true->cq a c=true
 | _,[],[],_,h=>by simp [cq] at h
 | _,_ :: _,[],_,h=>by simp [cq] at h
 | [],_,_ :: _,_,_=>rfl
 | _ :: _,[],_ :: _,h,_=>by simp [cq] at h
 | x :: a,y :: b,z :: c,h,h'=>by
  simp only [cq] at h h' ⊢
  by_cases e:x=y
  ·subst e;rw [if_pos rfl] at h
   by_cases e2:x=z
   ·subst e2;rw [if_pos rfl] at h' ⊢;exact Bn h h'
   ·rw [if_neg e2] at h' ⊢;exact h'
  ·rw [if_neg e] at h;have u:=of_decide_eq_true h
   by_cases e2:y=z
   ·subst e2;rw [if_neg e];exact h
   ·rw [if_neg e2] at h';have v:=of_decide_eq_true h';rw [if_neg (by lia),decide_eq_true_iff]
    lia
def DG (f:Nat->List Int):jF fun i j=>cq (f i) (f j) where
 irr:=fun a=>ye _
 as:=fun h=>A7 h
 tr:=fun {a b c} h h'=>by
  cases z:cq (f c) (f a) with
  | false=>rfl
  | true =>
   cases u:cq (f a) (f b) with
   | true =>
    rw [Bn z u] at h';cases h'
   | false =>
    have:=ya h u;rw [this] at h';rw [h'] at z;cases z
end L2
namespace L2
open PySem PySem.W PySem.Spec PyProof.Rows
def InR {α:Type} (n:Nat) (G:α->Prop):KasT α->Prop
 | .ret a=>G a
 | .ask i j k=>i<n/\j<n/\∀ b,InR n G (k b)
def InR.bind {α β:Type} {n:Nat} {G:α->Prop} {G':β->Prop} {f:α->KasT β}:∀ {t:KasT α},InR n G t->(∀ a,G a->InR n G' (f a))->InR n G' (t.bind f)
 | .ret a,h,hf=>hf a h
 | .ask _ _ _,h,hf=>⟨h.1,h.2.1,fun b=>InR.bind (h.2.2 b) hf⟩
def Below (n:Nat) (p:Array Nat):Prop:=∀ i,p.getD i 0<n
def pL {n:Nat} {p:Array Nat} (h1:0<n):Below n p↔∀ x∈p,x<n:=by
 constructor
 ·intro h x hx;obtain ⟨i,hi,rfl⟩:=Array.mem_iff_getElem.mp hx;have:=h i;rw [getD_eq,MC hi] at this;exact this
 ·intro h i;rw [getD_eq]
  by_cases c:i<p.size
  ·rw [MC c];exact h _ (Array.getElem_mem c)
  ·rw [N5 (by lia)]
   exact h1
def tP {n:Nat} {p p':Array Nat} (h1:0<n) (hp:p'.Perm p) (h:Below n p):Below n p':=(pL h1).mpr fun x hx=>(pL h1).mp h x (hp.mem_iff.mp hx)
section
variable {n:Nat}
def jy {p:Array Nat} {i j:Nat} (h1:0<n) (h:Below n p):Below n (QD p i j):=tP h1 (RM _ _ _ _) h
def vc {p:Array Nat} (h:Below n p):∀ f k,InR n (fun _=>True) (SA p f k)
 | 0,k=>trivial
 | f+1,k=>⟨h _,h _,fun b=>by
  cases b with
  | true=>simp only [if_true];trivial
  | false=>simp only [MU,if_false];exact vc h f (k+1)⟩
def mE (h1:0<n):∀ f (p:Array Nat) k q,Below n p->InR n (fun r=>Below n r.1) (Qw f p k q)
 | 0,p,k,q,h=>h
 | f+1,p,k,q,h=>⟨h _,h _,fun b=>by
  cases b with
  | true =>
   simp only [if_true]
   split
   ·exact mE h1 f _ _ _ (jy h1 h)
   ·exact mE h1 f _ _ _ h
  | false =>
   simp only [MU,if_false];exact ⟨h _,h _,fun b=>by
    cases b with
    | true=>simp only [if_true];exact h
    | false=>simp only [MU,if_false];exact mE h1 f _ _ _ h⟩⟩
def zj (h1:0<n) {p:Array Nat} (h:Below n p) (k m:Nat):InR n (fun r=>Below n r.2) (Ru k m p) :=
 (vc (jy h1 h) _ _).bind fun _ _=>jy h1 h
def pO (h1:0<n) {p:Array Nat} (h:Below n p) (k m:Nat):InR n (fun r=>Below n r.2) (PZ k m p) :=
 (mE h1 _ _ _ _ h).bind fun r hr=>by
  split
  ·exact zj h1 (jy h1 hr) _ _
  ·exact zj h1 hr _ _
def D6 (h1:0<n) {p:Array Nat} (h:Below n p) (m:Nat):InR n (fun r=>Below n r.2) (QR m p) :=
 (vc h _ _).bind fun k _=>by
  split
  ·exact h
  ·split
   ·exact ⟨h _,h _,fun b=>by
     cases b with
     | true=>simp only [if_true];exact h
     | false=>simp only [MU,if_false];exact pO h1 (jy h1 h) _ _⟩
   ·exact pO h1 h _ _
def pC {p:Array Nat} (h:Below n p) (k:Nat):∀ f l r,InR n (fun _=>True) (Rv p k f l r)
 | 0,l,r=>trivial
 | f+1,l,r=>by
  unfold Rv
  split
  ·trivial
  ·exact ⟨h _,h _,fun b=>by
    cases b with
    | true=>simp only [if_true];exact pC h k f _ _
    | false=>simp only [MU,if_false];exact pC h k f _ _⟩
def Bo (h1:0<n):∀ f (p:Array Nat) k,Below n p->InR n (fun _=>True) (kas_bin f p k)
 | 0,p,k,h=>trivial
 | f+1,p,k,h=>(pC h k _ _ _).bind fun l _=>Bo h1 f _ _ (tP h1 (bubble_perm _ _ _) h)
def Gh (h1:0<n):InR n (fun _=>True) (RN n):=by
 unfold RN;refine (D6 h1 ((pL h1).mpr fun x hx=>by simpa using hx) n).bind fun r hr=>?_
 split
 ·exact Bo h1 _ _ _ hr
 ·trivial
end
def qK {α:Type} {cmp:Nat->Nat->(Bool->LU->Prop)->LU->Prop} {lt:Nat->Nat->Bool} {n:Nat} {s:LU} {G:α->Prop} (hc:∀ i j (C:Bool->LU->Prop),i<n->j<n->C (lt i j) s->cmp i j C s) {Q:α->LU->Prop}:∀ t:KasT α,InR n G t->Q (bx lt t) s->t.kasWp cmp Q s
 | .ret _,_,h=>h
 | .ask i j k,hr,h=>hc i j _ hr.1 hr.2.1 (qK hc (k (lt i j)) (hr.2.2 _) h)
section
variable {prog:Mh} {w:World} {A:MP} {E:Value->LU->Prop} {s:LU}
def Kp (h h':Heap) (a:Addr):Prop:=∀ b o,b≠a->h.get? b=some o->h'.get? b=some o
def xj {a:Addr} {vs:List Value} {n:Nat} {P:PySem.Fin->LU->Prop} {lt:Nat->Nat->Bool} (W:jF lt) (ho:s.heap.get? a=some (seqObj "list" vs.toArray n)) (h64:vs.length<64)
  (hT:∀ h',Kp s.heap h' a->∀ v∈vs,Looks (model prog w) h' (typeOf v) (.type "list"))
  (hk:∀ h',Kp s.heap h' a->∀ i j (C:Bool->LU->Prop),i<vs.length->j<vs.length->C (lt i j) { s with heap:=h' }->kas_ask prog w A oneType' vs i j C { s with heap:=h' })
  (h:∀ p:Array Nat,p.Perm (Ny (LX vs.length))->gS lt p vs.length->P (.done (.ret .none)) { s with heap:=sortedHeap s.heap a vs (Ny (p.toList.map fun i=>vs.getD i Ng)) }) :
  wpAny (model prog w) A (OD.«list.sort» ⟨[.ref a],[]⟩) P E s:=by
 rw [list_sort_plain];have ha:a<s.heap.objs.size:=L5 ho;refine LP (listItems_at ho rfl ?_);refine LP (Tt ho rfl ?_ (by rw [Mf,MW];lia) (MI _))
 obtain ⟨e1,ho1⟩:∃ e1,(s.heap.update a (NO fun _=>#[])).get? a=some (seqObj "list" #[] e1):=⟨_,get?_update_seq ho (fun _=>#[])⟩;refine LP (T5 ho1 rfl ?_);refine LP (wpAny_newTuple ?_ (by show vs.length<=_;rw [MW];lia))
 refine LP (RL ?_ (MI _));refine M1 ?_;have ho6:(((s.heap.update a (NO fun _=>#[])).push (seqObj "tuple" vs.toArray 0)).push (seqObj "list" #[] 0)).get? a=some (seqObj "list" #[] e1):=by
  rw [Qo _ _ _ (by rw [size_push',R5];exact Mc (NG ha)),Qo _ _ _ (by rw [R5];exact Mc ha)]
  exact ho1
 have kp:Kp s.heap (((s.heap.update a (NO fun _=>#[])).push (seqObj "tuple" vs.toArray 0)).push (seqObj "list" #[] 0)) a:=fun b o hb e =>
  LW _ (LW _ ((QQ _ _ _ _ hb).trans e))
 show wpAny (model prog w) A _ P E { s with heap:=((s.heap.update a (NO fun _=>#[])).push (seqObj "tuple" vs.toArray 0)).push (seqObj "list" #[] 0) };dsimp only;have hsz:vs.toArray.size=vs.length:=by simp
 by_cases h2:vs.toArray.size<2
 ·rw [if_pos h2,if_pos h2];refine LP (LZ ?_);rw [StateT.run_pure];refine LP (LZ ?_);dsimp only;refine LP (T5 ho6 rfl ?_);refine LP (Tt ho6 rfl ?_ (hsz2:=by rw [Array.size_map];show (pairsOf vs).size<=_;rw [pairsOf_size,MW];lia))
  simp only [bne_self_eq_false,MU,if_false];refine LZ ?_;have:=h (Ny (LX vs.length)) (Pj _) (fun i j hij hj=>by
   have:i=j:=by lia
   subst this;exact W.irr _)
  have e:(arrOf (Tx general' (vs.toArray.zip vs.toArray) #[] 7 none)).map (·.2)=Ny ((Ny (LX vs.length)).toList.map fun i=>vs.getD i Ng):=by
   have e1:(LX vs.length).map (fun i=>vs.getD i Ng)=vs:=by
    apply Oa;intro i;rw [Mn]
    by_cases c:i<vs.length
    ·rw [O1 c,LO c];simp [c]
    ·rw [MD (by simp;lia),MD (by lia)]
     rfl
   show (vs.toArray.zip vs.toArray).map (·.2)=Ny ((LX vs.length).map fun i=>vs.getD i Ng);rw [e1];apply R3.mp;rw [Array.toList_map,Array.toList_zip];exact List.map_snd_zip (Ma _)
  rw [e];exact this
 ·rw [if_neg h2,if_neg h2];refine LP (kas_kind (by lia) (hT _ kp) (by decide) (by decide) ?_)
  have est:Tx oneType' (vs.toArray.zip vs.toArray) #[] 7 none=kas_st oneType' (pairsOf vs) (Ny (LX vs.length)):=by
   have e:=kas_range (pairsOf vs);rw [pairsOf_size] at e;show Tx oneType' (pairsOf vs) #[] 7 none=Tx oneType' ((Ny (LX vs.length)).map (kas_item (pairsOf vs))) #[] 7 none;rw [e]
  have fin:=Hb W (n:=vs.length) (by lia)
  have ask:=qK (Q:=fun p s'=>p=bx lt (RN vs.length)/\s'={ s with heap:=((s.heap.update a (NO fun _=>#[])).push (seqObj "tuple" vs.toArray 0)).push (seqObj "list" #[] 0) }) (hk _ kp) (RN vs.length) (Gh (by lia)) ⟨rfl,rfl⟩
  rw [kas_ask_eq] at ask;have run:=kas_runs (E:=E) (Q:=fun _ st' s'=>s'={ s with heap:=((s.heap.update a (NO fun _=>#[])).push (seqObj "tuple" vs.toArray 0)).push (seqObj "list" #[] 0) }/\∃ p:Array Nat,p=bx lt (RN vs.length)/\p.size=vs.length/\arrOf st'=p.map (kas_item (pairsOf vs))/\failedOf st'=none)
   (by lia) h64 (fun p' st' s' a1 a2 a3 a4=>⟨a4.2,p',a4.1,a1,a2,a3⟩) ask
  rw [<- est] at run;refine LP (Nc run ?_ fun _ _ e=>e);rintro ⟨⟨⟩,st'⟩ s' ⟨es,p,ep,hp,har,hf⟩;dsimp only at es har hf;subst es;dsimp only;have hout:(arrOf st').map (·.2)=Ny (p.toList.map fun i=>vs.getD i Ng):=by
   apply R3.mp;rw [har,Array.map_map,Array.toList_map];exact PX fun i _=>by show (kas_item (pairsOf vs) i).2=_;rw [kas_item_eq]
  have hsz2:(Ny (p.toList.map fun i=>vs.getD i Ng)).size=vs.length:=by rw [Mf,LV,MB,hp]
  rw [hout];refine LP (T5 ho6 rfl ?_);refine LP (Tt ho6 rfl ?_ (MI _) (M7 (QZ hsz2) (by rw [MW];lia)))
  rw [hf];simp only [bne_self_eq_false,MU,if_false];subst ep;exact LZ (h _ fin.1 fin.2)
def Dh {l:Addr} {vs:List Value} {Q:Value->LU->Prop} {lt:Nat->Nat->Bool} (W:jF lt) (hl:s.heap.IsList l vs.toArray) (h64:vs.length<64)
  (hT:∀ h',(∀ b o,s.heap.get? b=some o->h'.get? b=some o)->∀ v∈vs,Looks (model prog w) h' (typeOf v) (.type "list"))
  (hk:∀ h',(∀ b o,s.heap.get? b=some o->h'.get? b=some o)->∀ i j (C:Bool->LU->Prop),i<vs.length->j<vs.length->C (lt i j) { s with heap:=h' }->kas_ask prog w A.in1.in1 oneType' vs i j C { s with heap:=h' })
  (h:∀ p:Array Nat,p.Perm (Ny (LX vs.length))->gS lt p vs.length->Q (.ref (s.heap.objs.size+1)) { s with heap:=sortedAll s.heap vs (Ny (p.toList.map fun i=>vs.getD i Ng)) }) :
  wpAny (model prog w) A (call (.builtin "sorted") [.ref l]) Q E s:=by
 refine PF T4 TN TQ (TR _) ?_;unfold OD.«sorted»;refine LP (m:=checkCount "sorted" 1 1 _) (LZ ?_);refine LP (collect_list hl ?_ (by rw [MW];lia))
 refine LP (RL ?_ (by rw [MW];lia))
 have hsz:((s.heap.push (seqObj "list" #[] 0)).update s.heap.objs.size (NO (·++vs.toArray))).objs.size=s.heap.objs.size+1:=by
  rw [R5,size_push']
 have hoL:(((s.heap.push (seqObj "list" #[] 0)).update s.heap.objs.size (NO (·++vs.toArray))).push (seqObj "list" vs.toArray 0)).get? (s.heap.objs.size+1)=some (seqObj "list" vs.toArray 0):=by
  rw [<- hsz];exact Mo _ rfl
 have keep:∀ b o,s.heap.get? b=some o->b≠s.heap.objs.size+1/\(((s.heap.push (seqObj "list" #[] 0)).update s.heap.objs.size (NO (·++vs.toArray))).push (seqObj "list" vs.toArray 0)).get? b=some o:=fun b o q=>by
  have hlt:b<s.heap.objs.size:=L5 q;refine ⟨Mc (NG hlt),?_⟩;rw [Qo _ _ _ (by rw [hsz];exact Mc (NG hlt)),QQ _ _ _ _ (Mc hlt),Qo _ _ _ (Mc hlt)]
  exact q
 show wpAny _ _ _ _ _ { s with heap:=((s.heap.push (seqObj "list" #[] 0)).update s.heap.objs.size (NO (·++vs.toArray))).push (seqObj "list" vs.toArray 0) };rw [hsz];refine LP (M1 (N4 S3 ⟨_,hoL,rfl⟩ Sz (xj W hoL h64 (fun h' k=>hT h' fun b o e=>k b o (keep b o e).1 (keep b o e).2) (fun h' k=>hk h' fun b o e=>k b o (keep b o e).1 (keep b o e).2) fun p a1 a2=>⟨_,rfl,?_⟩) (S4 _)));exact LZ ⟨_,rfl,h p a1 a2⟩
end
end L2
namespace L2
open PySem PySem.W PySem.Spec PyProof.Rows
def DB (a b:List Nat):Bool:=cq (a.map fun (n:Nat)=>(n:Int)) (b.map fun (n:Nat)=>(n:Int))
def vB (K:LN):List V->Hp->VK->Prop:=fun xs H Q=>∃ (p:Addr) (vs:List V) (L:List (List Nat)),xs=[.ref p]/\SqL K H p vs/\Nl (Rep.is K H) vs L/\L.length<64 /\
 ∀ (d:Addr) (zs:List (V×List Nat)),H d=none->zs.Perm (vs.zip L)->zs.Pairwise (fun a b=>DB b.2 a.2=false)->Q (.ref d) (upd H d (.lst (zs.map (·.1))))
def JS {X:Cx} {pins:List (Addr×Obj)} {s:LU} {σ:St} {H:Hp} {x:V} {u:Value} {r:List Nat} (I:Inv X pins σ H s) (hx:At X.K H x r) (ru:RelV x u) :
  ∃ (a:Addr) (items:Array Value),u=.ref a/\s.heap.IsList a items/\OC items.toList (r.map fun (n:Nat)=>(n:Int)):=by
 obtain ⟨p,rfl,hS⟩:=iZ hx;cases (show u=Ms p from ru);have hS':SqL X.K H p ((r.map fun (n:Nat)=>(n:Int)).map V.int):=by
  have e:=fk r;unfold aO at e;rw [<- e];exact hS
 obtain ⟨its,rv,pl,hz⟩:=I.list hS';exact ⟨p,its.toArray,rfl,pl.isList,by simpa using kP rv⟩
def lR {h h':Heap} {a:Addr} {items:Array Value} (hl:h.IsList a items) (k:∀ b o,h.get? b=some o->h'.get? b=some o):h'.IsList a items:=by
 obtain ⟨o,ho,r⟩:=hl;exact ⟨o,k _ _ ho,r⟩
def G3 {vs:List V} {L:List (List Nat)} (h:vs.length=L.length):(LX vs.length).map (fun i=>(vs.getD i .non,L.getD i []))=vs.zip L:=by
 apply Oa;intro i;rw [Mn]
 by_cases c:i<vs.length
 ·have c':i<L.length:=by lia
  rw [O1 c,LO (by simp;lia)]
  simp [c,c']
 ·rw [MD (by simp;lia),MD (by simp;lia)]
  rfl
def vQ {vs:List V} {its:List Value} (r:Vals vs its):∀ l:List Nat,(∀ i∈l,i<vs.length)->Vals (l.map fun i=>vs.getD i .non) (l.map fun i=>its.getD i Ng)
 | [],_=>.nil
 | i :: l,h=>by
  have hi:=h i L8;have hj:i<its.length:=by rw [<- r.length];exact hi
  refine .cons ?_ (vQ r l fun j hj=>h j (L4 _ hj));have e1:vs.getD i .non=vs[i]:=by simp [hi]
  have e2:its.getD i Ng=its[i]:=by simp [hj]
  show RelV (vs.getD i .non) (its.getD i Ng);rw [e1,e2];exact Vals.getL r (LO hi) (LO hj)
def y6 {lt:Nat->Nat->Bool} {p:Array Nat} {n:Nat} (hp:p.size=n) (h:gS lt p n):p.toList.Pairwise fun a b=>lt b a=false:=by
 rw [Mw];intro i j hi hj hij;have hi':i<p.size:=by simpa using hi
 have hj':j<p.size:=by simpa using hj
 have:=h i j (by lia) (by lia)
 rw [getD_eq,getD_eq,MC hi',MC hj'] at this
 simpa using this
def nY {X:Cx} (K:LN) (hK:X.K=K) (hu:X.A.units+64<cLine):cA X (.builtin "sorted") (vB K):=by
 subst hK;intro pins s σ H xs us Q I r h;obtain ⟨p,vs,L,rfl,hS,hP,h64,q⟩:=h;obtain ⟨u,rfl,ru⟩:=vals1 r;cases (show u=Ms p from ru);obtain ⟨its,rv,pl,hz⟩:=I.list hS;have hl1:=rv.length;have hl2:=hP.length;have row:∀ i,i<its.length->∃ (a:Addr) (items:Array Value),its.getD i Ng=.ref a/\s.heap.IsList a items/\OC items.toList ((L.getD i []).map fun (n:Nat)=>(n:Int)):=fun i hi=>by
  have hv:i<vs.length:=by lia
  have hL:i<L.length:=by lia
  have e1:its.getD i Ng=its[i]:=by simp [hi]
  have e2:L.getD i []=L[i]:=by simp [hL]
  obtain ⟨b,hb,rb⟩:=Paired.getL hP (LO hv);rw [LO hL] at hb;cases hb;rw [e1,e2];exact JS I rb (Vals.getL rv (LO hv) (LO hi))
 refine Dh (lt:=fun i j=>cq ((L.getD i []).map fun (n:Nat)=>(n:Int)) ((L.getD j []).map fun (n:Nat)=>(n:Int))) (DG fun i=>(L.getD i []).map fun (n:Nat)=>(n:Int)) pl.isList (by lia) (fun h' k v hv=>?_) (fun h' k i j C hi hj hC=>?_) fun pr a1 a2=>?_
 ·obtain ⟨i,hi⟩:=Mr hv;have hi':i<its.length:=(LQ.mp hi).1;obtain ⟨a,items,e,hl,_⟩:=row i hi';have ev:v=.ref a:=by
   rw [<- e,LS,hi];rfl
  subst ev;obtain ⟨o,ho,hc,_⟩:=lR hl k;exact fun A' Q' E' s' k' q'=>Q3 (T:="list") ⟨o,k' _ _ ho,hc⟩ q'
 ·obtain ⟨a,items,e,hl,hi1⟩:=row i hi;obtain ⟨b,items2,e2,hl2,hj1⟩:=row j hj;unfold kas_ask;rw [e,e2];exact Ae (lR hl k) (lR hl2 k) hi1 hj1 (by show X.A.units+1+1<cLine;lia) hC
 ·obtain ⟨c,hc⟩:=sortedAll_at s.heap its (Ny (pr.toList.map fun i=>its.getD i Ng));have hn:H (s.heap.objs.size+1)=none:=I.hok.fresh (OB _);have psz:pr.size=its.length:=by have:=a1.size_eq;simpa using this
  have pm:pr.toList.Perm (LX its.length):=by
   have:=a1.toList
   simpa using this
  have hin:∀ i∈pr.toList,i<vs.length:=fun i hi=>by
   have:=L9.mp (pm.mem_iff.mp hi);lia
  refine ⟨.ref (s.heap.objs.size+1),_,I.laid (o:=.lst ((pr.toList.map fun i=>(vs.getD i .non,L.getD i [])).map (·.1))) (fun b o e=>sortedAll_old e) (OB _) ⟨?_,_,c,?_,hc⟩,rfl,q _ (pr.toList.map fun i=>(vs.getD i .non,L.getD i [])) hn ?_ ?_⟩
  ·rw [LV,LV,MB,psz];exact small (by lia)
  ·rw [Ox];exact vQ rv pr.toList hin
  ·have:=pm.map fun i=>(vs.getD i V.non,L.getD i []);rw [<- hl1,G3 (by lia)] at this
   exact this
  ·rw [NW];exact y6 psz a2
def Rows (H H':Hp) (d:Addr) (L:List (List Nat)):Prop:=H d=none/\∃ ps:List Addr,H' d=some (.lst (ps.map V.ref))/\Nl (fun p r=>H p=none/\p≠d/\H' p=some (.lst (aO r))) ps L
def Rows.since {H0 H H':Hp} {d:Addr} {L:List (List Nat)} (s:aj H0 H) (h:Rows H H' d L):Rows H0 H' d L:=by
 obtain ⟨h1,ps,h2,h3⟩:=h;exact ⟨s.free h1,ps,h2,Paired.cb h3 fun _ _ z=>⟨s.free z.1,z.2⟩⟩
def Rows.mono {H H' H'':Hp} {d:Addr} {L:List (List Nat)} (s:aj H' H'') (h:Rows H H' d L):Rows H H'' d L:=by
 obtain ⟨h1,ps,h2,h3⟩:=h;exact ⟨h1,ps,s _ _ h2,Paired.cb h3 fun _ _ z=>⟨z.1,z.2.1,s _ _ z.2.2⟩⟩
def lJ {α β γ:Type} {F:α->γ->Prop} {G:β->γ->Prop} {f:β->α} (h:∀ b c,G b c->F (f b) c):∀ {l:List β} {m:List γ},Nl G l m->Nl F (l.map f) m
 | _,_,.nil=>.nil
 | _,_,.cons r t=>.cons (h _ _ r) (lJ h t)
def Rows.at {K:LN} {H H':Hp} {d:Addr} {L:List (List Nat)} (h:Rows H H' d L):At K H' (.ref d) L:=by
 obtain ⟨h1,ps,h2,h3⟩:=h;exact ⟨d,_,rfl,SqL.of h2,lJ (fun p r z=>⟨p,_,rfl,SqL.of z.2.2,fA⟩) h3⟩
def ux {F:Addr->List Nat->Prop} {ps:List Addr} {L:List (List Nat)} (hP:Nl F ps L) {zs:List (V×List Nat)} (hz:zs.Perm ((ps.map V.ref).zip L)):∃ ps',zs.map (·.1)=ps'.map V.ref/\Nl F ps' (zs.map (·.2)):=by
 have key:∀ {ps:List Addr} {L:List (List Nat)},Nl F ps L->∀ z∈(ps.map V.ref).zip L,∃ p,z.1=.ref p/\F p z.2:=by
  intro ps L h
  induction h with
  | nil=>intro z hz;simp at hz
  | cons r t ih =>
   intro z hz;rcases Mp.mp hz with e|e
   ·subst e;exact ⟨_,rfl,r⟩
   ·exact ih z e
 have all:∀ z∈zs,∃ p,z.1=.ref p/\F p z.2:=fun z h=>key hP z (hz.mem_iff.mp h)
 clear hz
 induction zs with
 | nil=>exact ⟨[],rfl,.nil⟩
 | cons z zs ih =>
  obtain ⟨ps',e,h⟩:=ih fun z h=>all z (L4 _ h);obtain ⟨p,e1,f1⟩:=all z L8;exact ⟨p :: ps',by rw [My,My,e1,e],.cons f1 h⟩
def qO:∀ {ps:List V} {L:List (List Nat)},ps.length=L.length->(ps.zip L).map (·.2)=L
 | [],[],_=>rfl
 | _ :: ps,_ :: L,h=>by
  rw [List.zip_cons_cons,My,qO (by simpa using h)]
def tq {K:LN} {H0 H:Hp} {Q:VK} {d:Addr} {L:List (List Nat)} (s0:aj H0 H) (h:Rows H0 H d L) (hl:L.length<64)
  (q:∀ (d':Addr) (L':List (List Nat)) (H':Hp),H d'=none->aj H H'->L'.Perm L->L'.Pairwise (fun a b=>DB b a=false)->Rows H0 H' d' L'->Q (.ref d') H'):vB K [.ref d] H Q:=by
 obtain ⟨h1,ps,h2,h3⟩:=h;refine ⟨d,_,L,rfl,SqL.of h2,lJ (fun p r z=>⟨p,_,rfl,SqL.of z.2.2,fA⟩) h3,hl,fun d' zs hd hz hs=>?_⟩;obtain ⟨ps',e,h'⟩:=ux h3 hz;have sm:=ay hd (.lst (zs.map (·.1)));have w:(upd H d' (.lst (zs.map (·.1)))) d'=some (.lst (zs.map (·.1))):=ar;rw [e] at w ⊢;rw [e] at sm;refine q d' (zs.map (·.2)) _ hd sm ?_ ?_ ⟨s0.free hd,ps',w,Paired.cb h' fun _ _ z=>⟨z.1,dO z.2.2 hd,sm _ _ z.2.2⟩⟩
 ·have:=hz.map (·.2)
  rwa [qO (by rw [LV];exact h3.length)] at this
 ·rw [NW];exact hs
def Rows.nil {H H':Hp} {d:Addr} (hd:H d=none) (h:H' d=some (.lst [])):Rows H H' d []:=⟨hd,[],h,.nil⟩
def Ag {H H5:Hp} {d dr:Addr} {L:List (List Nat)} {r:List Nat} {Q:VK} (h:Rows H H5 d L) (hl:L.length<=100000) (hr:H dr=none) (hn:dr≠d) (hr5:H5 dr=some (.lst (aO r)))
  (q:∀ H',Rows H H' d (L++[r])->(∀ a o,a≠d->H5 a=some o->H' a=some o)->Q .non H'):qt (.ref d) [.ref dr] H5 Q:=by
 obtain ⟨h1,ps,h2,h3⟩:=h;have e:=h3.length;refine ⟨d,_,_,rfl,rfl,h2,NL (show (ps.map V.ref).length<=100000 by rw [LV];lia) (by rw [MW];decide),?_⟩
 refine q _ ⟨h1,ps++[dr],by rw [ar];simp,Paired.app (Paired.cb h3 fun _ _ z=>⟨z.1,z.2.1,by rw [aA z.2.1];exact z.2.2⟩) (.cons ⟨hr,hn,by rw [aA hn];exact hr5⟩ .nil)⟩ fun a o ha z=>by rw [aA ha];exact z
def AV {H H5:Hp} {d b:Addr} {L M:List (List Nat)} {Q:VK} (h:Rows H H5 d L) (h':Rows H H5 b M) (hne:∀ r∈M,r≠[]) (hl:L.length+M.length<=100000)
  (q:∀ H',Rows H H' d (L++M)->(∀ a o,a≠d->H5 a=some o->H' a=some o)->Q .non H'):BC (.ref d) [.ref b] H5 Q:=by
 obtain ⟨h1,ps,h2,h3⟩:=h;obtain ⟨k1,qs,k2,k3⟩:=h';have e:=h3.length;have e':=k3.length;refine ⟨d,b,_,_,rfl,rfl,h2,k2,M7 (show (ps.map V.ref).length+(qs.map V.ref).length<=100000 by rw [LV,LV];lia) (by rw [MW];decide),?_⟩
 have hd:∀ (p:Addr) (r:List Nat),r∈M->H5 p=some (.lst (aO r))->p≠d:=fun p r hr hp q=>by
  subst q;rw [h2] at hp;have e1:=HO.lst.inj (ME hp);cases r with
  | nil=>exact hne _ hr rfl
  | cons a r =>
   cases ps with
   | nil=>cases e1
   | cons p ps=>cases e1
 have k3':Nl (fun p r=>H p=none/\p≠d/\H5 p=some (.lst (aO r))) qs M:=by
  have go:∀ {qs:List Addr} {M':List (List Nat)},(∀ r∈M',r∈M)->Nl (fun p r=>H p=none/\p≠b/\H5 p=some (.lst (aO r))) qs M'->Nl (fun p r=>H p=none/\p≠d/\H5 p=some (.lst (aO r))) qs M':=by
   intro qs M' hm hp
   induction hp with
   | nil=>exact .nil
   | cons r t ih=>exact .cons ⟨r.1,hd _ _ (hm _ L8) r.2.2,r.2.2⟩ (ih fun r hr=>hm r (L4 _ hr))
  exact go (fun r hr=>hr) k3
 refine q _ ⟨h1,ps++qs,by rw [ar];simp,Paired.app (Paired.cb h3 fun _ _ z=>⟨z.1,z.2.1,by rw [aA z.2.1];exact z.2.2⟩) (Paired.cb k3' fun _ _ z=>⟨z.1,z.2.1,by rw [aA z.2.1];exact z.2.2⟩)⟩ fun a o ha z=>by rw [aA ha];exact z
end L2
namespace L2
open PySem PySem.W PySem.Spec PyProof.Rows
section
variable {prog:Mh} {w:World} {A:MP} {E:Value->LU->Prop} {s:LU}
def wO {T:String} {r d:Addr} {n:Nat} {P:Nat->Value->Prop} {OK:Heap->Prop} {R:Rj->LU->Prop} (K:KdlSrc prog w T r d n P OK) (hh:A.handled=none) (hok:OK s.heap) (S:Addr) (hSr:S≠r) (hSd:S≠d) (c₀:Nat) (hS:s.heap.get? S=some { cls:=.type "list",data:=.seq #[] c₀ }) (hn:n<=Mx)
  (hR:∀ h' tk acc' c',(∀ b o,b≠S->s.heap.get? b=some o->h'.get? b=some o)->h'.get? S=some { cls:=.type "list",dict:=none,data:=.seq acc' c',slots:=#[] }->ItemsOf P acc' n->R (.ok (.ret (.ref S))) { s with heap:=h',toks:=tk }) :
  codeAny (model prog w) A (.builtin "list.__iadd__" ⟨[.ref S,.ref r],[]⟩) R s:=by
 refine Nu F.entry_list_iadd ?_;rw [Nf Qn _];show wpAny _ A.in1 (Pg (.ref S) (.ref r) (.ref S)) _ _ _;exact kdl_extend K hh hok S hSr hSd (.ref S) c₀ hS hR hn
def Ap {T:String} {r d:Addr} {n:Nat} {P:Nat->Value->Prop} {OK:Heap->Prop} (K:KdlSrc prog w T r d n P OK) {Q:List Value->LU->Prop} (hh:A.handled=none) (hok:OK s.heap) (hn:n<=Mx)
  (hQ:∀ (h':Heap) (tk:Nat) (vs:List Value),s.heap.objs.size<=h'.objs.size->(∀ b o,s.heap.get? b=some o->h'.get? b=some o)->vs.length=n->(∀ j v,vs[j]?=some v->P j v)->Q vs { s with heap:=h',toks:=tk }):wpAny (model prog w) A (collect (.ref r)) Q E s:=by
 unfold collect;refine LP (S2 (Nu Sx ?_));rw [Nf Sy _];show wpAny _ A.in1 (newList [] >>= fun l=>again (.builtin "list.__iadd__" ⟨[l,.ref r],[]⟩)) _ _ s;refine LP (N8 ?_);have hlt:=K.there _ hok;have hS:(s.heap.push { cls:=.type "list",data:=.seq #[] }).get? s.heap.objs.size=some { cls:=.type "list",data:=.seq #[] }:=Mo _ rfl;refine LZ ⟨OL Qn _,wO (s:={ s with heap:=s.heap.push { cls:=.type "list",data:=.seq #[] } }) K hh (K.keep _ _ hok fun b _ o e=>LW _ e) _ (OH hlt.1) (OH hlt.2) _ hS hn fun h' tk acc' c' hk hS' hacc=>?_⟩;show wpAny _ A (load s.heap.objs.size >>= _) _ _ _;refine LP (wpAny_load hS' (LZ ?_));exact hQ h' tk acc'.toList (Ou (L5 hS')) (fun b o e=>hk b o (Mc (L5 e)) (LW _ e)) (by rw [MB];exact hacc.1) fun j v e=>hacc.2 j v (by rw [<- MY];exact e)
def Cr {T:String} {r d:Addr} {n:Nat} {P:Nat->Value->Prop} {OK:Heap->Prop} (K:KdlSrc prog w T r d n P OK) {ks:List Nat} (hks:ks.length=n) (hP:∀ (j:Nat) (v:Value),P j v->∃ (k:Nat) (tk:Tok),ks[j]?=some k/\v=Ol (k:Int) tk) {Q:Value->LU->Prop} (hh:A.handled=none) (hok:OK s.heap) (hn:n<64)
  (h:∀ (h':Heap) (tk:Nat) (d:Addr) (out:Array Value) (c:Nat) (l:List Nat),OC out.toList (l.map fun (k:Nat)=>(k:Int))->l.Perm ks->l.Pairwise (·<=·)->s.heap.objs.size<=d->h'.get? d=some (seqObj "list" out c)->(∀ b o,s.heap.get? b=some o->h'.get? b=some o)->Q (.ref d) { s with heap:=h',toks:=tk }) :
  wpAny (model prog w) A (call (.builtin "sorted") [.ref r]) Q E s:=by
 refine PF T4 TN TQ (TR _) ?_;unfold OD.«sorted»;refine LP (m:=checkCount "sorted" 1 1 _) (LZ ?_);refine LP (Ap K (by simp [hh]) hok (by rw [MW];lia) fun h1 tk1 vs kz k1 vl hv=>?_)
 have hI:OC vs (ks.map fun (k:Nat)=>(k:Int)):=by
  have go:∀ (vs:List Value) (ks:List Nat),vs.length=ks.length->(∀ (j:Nat) (v:Value),vs[j]?=some v->∃ (k:Nat) (tk:Tok),ks[j]?=some k/\v=Ol (k:Int) tk)->OC vs (ks.map fun (k:Nat)=>(k:Int)):=by
   intro vs
   induction vs with
   | nil =>
    intro ks hl _;cases ks with
    | nil=>exact .nil
    | cons _ _=>simp at hl
   | cons v vs ih =>
    intro ks hl hv;cases ks with
    | nil=>simp at hl
    | cons k ks =>
     obtain ⟨k',tk,e1,e2⟩:=hv 0 v rfl;simp at e1;subst e1;subst e2;exact .cons _ _ (ih ks (by simpa using hl) fun j v e=>by simpa using hv (j+1) v (by simpa using e))
  exact go vs ks (by lia) fun j v e=>hP j v (hv j v e)
 refine LP (RL ?_);have oL:(h1.push (seqObj "list" vs.toArray 0)).get? h1.objs.size=some (seqObj "list" vs.toArray 0):=Mo _ rfl;refine LP (M1 (N4 S3 ⟨_,oL,rfl⟩ Sz (list_sort_tree oL hI (by lia) fun out ns' a1 a2 a3=>⟨_,rfl,?_⟩) (S4 _)))
 obtain ⟨c,hc⟩:=sortedHeap_at (out:=out) oL;obtain ⟨l,rfl,lp⟩:=pU a2;refine LZ ⟨_,rfl,h _ tk1 _ out c l a1 lp ?_ kz hc fun b ob e=>?_⟩
 ·rw [NW] at a3;exact a3.imp fun z=>by lia
 ·have e1:=k1 _ _ e;rw [sortedHeap_old (Mc (L5 e1)) (by rw [OO];exact NG (L5 e1))]
  exact LW _ e1
end
def zY:List V->Hp->VK->Prop:=fun xs H Q=>∃ (a:Addr) (kvs:List (Key×V)) (ks:List Nat),xs=[.ref a]/\H a=some (.dK kvs)/\kvs.map (·.1)=ks.map nk/\ks.length<64 /\
 ∀ (d:Addr) (l:List Nat),H d=none->l.Perm ks->l.Pairwise (·<=·)->Q (.ref d) (upd H d (.lst (aO l)))
def wG {X:Cx} (hc:X.calm=true):cA X (.builtin "sorted") zY:=by
 intro pins s σ H xs us Q I r h;obtain ⟨a,kvs,ks,rfl,hx,hk,h64,q⟩:=h;obtain ⟨u,rfl,ru⟩:=vals1 r;cases (show u=Ms a from ru);obtain ⟨z,hd,vs,rel,dd⟩:=BP I.hok hx;obtain ⟨ep,da⟩:=dd.dictAt;have kl:kvs.length=ks.length:=by have:=congrArg QJ hk;simpa using this
 have hl:=rel.length;refine Cr (kdl_dict (knd:=cC X.prog X.w) (kvs:=vs) (ep:=ep) hd) (ks:=ks) (by lia) (fun j v ⟨k,x,e,hk'⟩=>?_) (I.ok.hd hc) da (by lia) fun h' tk d out c l a1 a2 a3 hd' ho hk'=>?_
 ·have jl:j<kvs.length:=by rw [hl];exact (LQ.mp e).1
  obtain ⟨q',hq,e1,r1⟩:=rel.get (LO jl);rw [e] at hq;cases hq;have kj:j<ks.length:=by lia
  have ek:kvs[j].1=nk ks[j]:=by
   have:=congrArg (fun l=>l[j]?) hk;simp only [Mn,LO jl,LO kj,Option.map_some] at this;exact ME this
  have kr:=Jz hk';rw [show k=nk ks[j] from e1.symm.trans ek] at kr;obtain ⟨t,et⟩:=(show RelV (.int (ks[j]:Int)) v from kr);exact ⟨ks[j],t,LO kj,et⟩
 ·have hn:H d=none:=I.hok.fresh hd';refine ⟨.ref d,_,I.laid (o:=.lst (aO l)) hk' hd' ⟨?_,out.toList,c,?_,?_⟩,rfl,q d l hn a2 a3⟩
  ·unfold aO;rw [LV,a2.length_eq];exact small (by lia)
  ·rw [fk];exact lB a1
  ·simpa [seqObj] using ho
def Ey {H:Hp} {Q:VK} {a:Addr} {kvs:List (Key×V)} {ks:List Nat} (h:H a=some (.dK kvs)) (hk:kvs.map (·.1)=ks.map nk) (hl:ks.length<64)
  (q:∀ (d:Addr) (l:List Nat),H d=none->l.Perm ks->l.Pairwise (·<=·)->Q (.ref d) (upd H d (.lst (aO l)))):zY [.ref a] H Q:=⟨a,kvs,ks,rfl,h,hk,hl,q⟩
end L2
namespace L2
open PySem PySem.Spec PyProof.Rows
section
variable {K:LN} {h:Heap} {mg:Str->Option Value} {f:Addr} {od an:Option Addr} {sl:Array (Option Value)} {oc kV dc pm cd ct:Value} {x:Str} {st:Stmt} {fd:Na}
def bd1 {p1:Str} (hb:∀ u1:Value,bindArgs fd ⟨[u1],[]⟩=pure [(p1,u1)]:=by intros;rfl):Binds K fd [p1] []:=.all fun us hl=>by obtain ⟨u1,rfl⟩:=Ho hl;exact hb _
def df1 {p1:Str} (X:K.In h) (G:h.Ns MO mg) (a:OM K MO x=some (some (.ref f)):=by k_is) (l:K.lookup f=some ⟨oc,od,.func (MQ x x (bR st) (bC st) (ak st) .none kV dc pm an cd ct),sl⟩:=by k_is) (c:Nw K cd x=true:=by k_is) (k:M6 K (.ref f)=true:=by k_is)
  (hb:∀ u1:Value,bindArgs (MQ x x (bR st) (bC st) (ak st) .none kV dc pm an cd ct) ⟨[u1],[]⟩=pure [(p1,u1)]:=by intros;rfl):Df K mg x st [p1]:=⟨f,_,lU l c k,bd1 hb,ON X G a⟩
def bd2 {p1 p2:Str} (hb:∀ u1 u2:Value,bindArgs fd ⟨[u1,u2],[]⟩=pure [(p1,u1),(p2,u2)]:=by intros;rfl):Binds K fd [p1,p2] []:=.all fun us hl=>by obtain ⟨u1,u2,rfl⟩:=uX hl;exact hb _ _
def df2 {p1 p2:Str} (X:K.In h) (G:h.Ns MO mg) (a:OM K MO x=some (some (.ref f)):=by k_is) (l:K.lookup f=some ⟨oc,od,.func (MQ x x (bR st) (bC st) (ak st) .none kV dc pm an cd ct),sl⟩:=by k_is) (c:Nw K cd x=true:=by k_is) (k:M6 K (.ref f)=true:=by k_is)
  (hb:∀ u1 u2:Value,bindArgs (MQ x x (bR st) (bC st) (ak st) .none kV dc pm an cd ct) ⟨[u1,u2],[]⟩=pure [(p1,u1),(p2,u2)]:=by intros;rfl):Df K mg x st [p1,p2]:=⟨f,_,lU l c k,bd2 hb,ON X G a⟩
def bd3 {p1 p2 p3:Str} (hb:∀ u1 u2 u3:Value,bindArgs fd ⟨[u1,u2,u3],[]⟩=pure [(p1,u1),(p2,u2),(p3,u3)]:=by intros;rfl):Binds K fd [p1,p2,p3] []:=.all fun us hl=>by obtain ⟨u1,u2,u3,rfl⟩:=yo hl;exact hb _ _ _
def df3 {p1 p2 p3:Str} (X:K.In h) (G:h.Ns MO mg) (a:OM K MO x=some (some (.ref f)):=by k_is) (l:K.lookup f=some ⟨oc,od,.func (MQ x x (bR st) (bC st) (ak st) .none kV dc pm an cd ct),sl⟩:=by k_is) (c:Nw K cd x=true:=by k_is) (k:M6 K (.ref f)=true:=by k_is)
  (hb:∀ u1 u2 u3:Value,bindArgs (MQ x x (bR st) (bC st) (ak st) .none kV dc pm an cd ct) ⟨[u1,u2,u3],[]⟩=pure [(p1,u1),(p2,u2),(p3,u3)]:=by intros;rfl):Df K mg x st [p1,p2,p3]:=⟨f,_,lU l c k,bd3 hb,ON X G a⟩
def bd4 {p1 p2 p3 p4:Str} (hb:∀ u1 u2 u3 u4:Value,bindArgs fd ⟨[u1,u2,u3,u4],[]⟩=pure [(p1,u1),(p2,u2),(p3,u3),(p4,u4)]:=by intros;rfl):Binds K fd [p1,p2,p3,p4] []:=.all fun us hl=>by obtain ⟨u1,u2,u3,u4,rfl⟩:=yj hl;exact hb _ _ _ _
def df4 {p1 p2 p3 p4:Str} (X:K.In h) (G:h.Ns MO mg) (a:OM K MO x=some (some (.ref f)):=by k_is) (l:K.lookup f=some ⟨oc,od,.func (MQ x x (bR st) (bC st) (ak st) .none kV dc pm an cd ct),sl⟩:=by k_is) (c:Nw K cd x=true:=by k_is) (k:M6 K (.ref f)=true:=by k_is)
  (hb:∀ u1 u2 u3 u4:Value,bindArgs (MQ x x (bR st) (bC st) (ak st) .none kV dc pm an cd ct) ⟨[u1,u2,u3,u4],[]⟩=pure [(p1,u1),(p2,u2),(p3,u3),(p4,u4)]:=by intros;rfl):Df K mg x st [p1,p2,p3,p4]:=⟨f,_,lU l c k,bd4 hb,ON X G a⟩
def bd5 {p1 p2 p3 p4 p5:Str} (hb:∀ u1 u2 u3 u4 u5:Value,bindArgs fd ⟨[u1,u2,u3,u4,u5],[]⟩=pure [(p1,u1),(p2,u2),(p3,u3),(p4,u4),(p5,u5)]:=by intros;rfl):Binds K fd [p1,p2,p3,p4,p5] []:=.all fun us hl=>by obtain ⟨u1,u2,u3,u4,u5,rfl⟩:=Hr hl;exact hb _ _ _ _ _
def df5 {p1 p2 p3 p4 p5:Str} (X:K.In h) (G:h.Ns MO mg) (a:OM K MO x=some (some (.ref f)):=by k_is) (l:K.lookup f=some ⟨oc,od,.func (MQ x x (bR st) (bC st) (ak st) .none kV dc pm an cd ct),sl⟩:=by k_is) (c:Nw K cd x=true:=by k_is) (k:M6 K (.ref f)=true:=by k_is)
  (hb:∀ u1 u2 u3 u4 u5:Value,bindArgs (MQ x x (bR st) (bC st) (ak st) .none kV dc pm an cd ct) ⟨[u1,u2,u3,u4,u5],[]⟩=pure [(p1,u1),(p2,u2),(p3,u3),(p4,u4),(p5,u5)]:=by intros;rfl):Df K mg x st [p1,p2,p3,p4,p5]:=⟨f,_,lU l c k,bd5 hb,ON X G a⟩
end
section
variable {K:LN} {h:Heap} {mg:Str->Option Value} {f D:Addr} {od an dd:Option Addr} {sl dsl:Array (Option Value)} {oc kV dc pm cd ct dcl:Value} {x qual:Str} {st:Stmt} {fd:Na} {n:Nat}
def ToD (x qual:Str) (st:Stmt) (args:Args) (bs:List (Str×Value)):Prop:=∀ (D:Addr) (kV doc pm:Value) (an:Option Addr) (cdv ct:Value),∃ k:Option (Array Value)->Sem (List (Str×Value)),bindArgs (MQ x qual (bR st) (bC st) (ak st) (.ref D) kV doc pm an cdv ct) args=seqItems? (.ref D) >>= k/\k (some #[.none])=pure bs
def bc3 {p1 p2 p3:Str} (F:fQ K x qual st f fd) (hb:∀ u1 u2 u3:Value,ToD x qual st ⟨[u1,u2,u3],[]⟩ [(p1,u1),(p2,u2),(p3,u3)]:=by intros;intro _ _ _ _ _ _ _;exact ⟨_,rfl,rfl⟩):Binds K fd [p1,p2,p3] []:=fun s us KI hl=>by rw [NR] at hl ⊢;obtain ⟨u1,u2,u3,rfl⟩:=yo hl;exact F.to KI (hb _ _ _)
def bn3 {p1 p2 p3:Str} (F:fQ K x qual st f fd) (hb:∀ u1 u2:Value,ToD x qual st ⟨[u1,u2],[]⟩ [(p1,u1),(p2,u2),(p3,.none)]:=by intros;intro _ _ _ _ _ _ _;exact ⟨_,rfl,rfl⟩):Binds K fd [p1,p2,p3] [.none]:=m4 rfl fun s us KI hl=>by obtain ⟨u1,u2,rfl⟩:=uX hl;exact F.to KI (hb _ _)
def bk3 {p1 p2 p3:Str} (F:fQ K x qual st f fd) (hb:∀ u1 u2 u3:Value,ToD x qual st ⟨[u1,u2],[(p3,u3)]⟩ [(p1,u1),(p2,u2),(p3,u3)]:=by intros;intro _ _ _ _ _ _ _;exact ⟨_,rfl,rfl⟩):pY K fd [p1,p2,p3] [p3] (byName 2) (byName 2):=mP rfl fun s us w KI hl=>by obtain ⟨u1,u2,rfl⟩:=uX hl;exact F.to KI (hb _ _ w)
def dd3 {p1 p2 p3:Str} (X:K.In h) (G:h.Ns MO mg) (a:OM K MO x=some (some (.ref f)):=by k_is) (l:K.lookup f=some ⟨oc,od,.func (MQ x x (bR st) (bC st) (ak st) (.ref D) kV dc pm an cd ct),sl⟩:=by k_is) (e:K.lookup D=some ⟨dcl,dd,.seq #[.none] n,dsl⟩:=by k_is) (c:Nw K cd x=true:=by k_is) (k:M6 K (.ref f)=true:=by k_is)
  (ha:∀ u1 u2 u3:Value,ToD x x st ⟨[u1,u2,u3],[]⟩ [(p1,u1),(p2,u2),(p3,u3)]:=by intros;intro _ _ _ _ _ _ _;exact ⟨_,rfl,rfl⟩) (hb:∀ u1 u2:Value,ToD x x st ⟨[u1,u2],[]⟩ [(p1,u1),(p2,u2),(p3,.none)]:=by intros;intro _ _ _ _ _ _ _;exact ⟨_,rfl,rfl⟩) (hc:∀ u1 u2 u3:Value,ToD x x st ⟨[u1,u2],[(p3,u3)]⟩ [(p1,u1),(p2,u2),(p3,u3)]:=by intros;intro _ _ _ _ _ _ _;exact ⟨_,rfl,rfl⟩):DfD K mg x st [p1,p2,p3] p3 2:=⟨f,_,d6 l e c k,bc3 (d6 l e c k) ha,bn3 (d6 l e c k) hb,bk3 (d6 l e c k) hc,ON X G a⟩
def bc4 {p1 p2 p3 p4:Str} (F:fQ K x qual st f fd) (hb:∀ u1 u2 u3 u4:Value,ToD x qual st ⟨[u1,u2,u3,u4],[]⟩ [(p1,u1),(p2,u2),(p3,u3),(p4,u4)]:=by intros;intro _ _ _ _ _ _ _;exact ⟨_,rfl,rfl⟩):Binds K fd [p1,p2,p3,p4] []:=fun s us KI hl=>by rw [NR] at hl ⊢;obtain ⟨u1,u2,u3,u4,rfl⟩:=yj hl;exact F.to KI (hb _ _ _ _)
def bn4 {p1 p2 p3 p4:Str} (F:fQ K x qual st f fd) (hb:∀ u1 u2 u3:Value,ToD x qual st ⟨[u1,u2,u3],[]⟩ [(p1,u1),(p2,u2),(p3,u3),(p4,.none)]:=by intros;intro _ _ _ _ _ _ _;exact ⟨_,rfl,rfl⟩):Binds K fd [p1,p2,p3,p4] [.none]:=m4 rfl fun s us KI hl=>by obtain ⟨u1,u2,u3,rfl⟩:=yo hl;exact F.to KI (hb _ _ _)
def bk4 {p1 p2 p3 p4:Str} (F:fQ K x qual st f fd) (hb:∀ u1 u2 u3 u4:Value,ToD x qual st ⟨[u1,u2,u3],[(p4,u4)]⟩ [(p1,u1),(p2,u2),(p3,u3),(p4,u4)]:=by intros;intro _ _ _ _ _ _ _;exact ⟨_,rfl,rfl⟩):pY K fd [p1,p2,p3,p4] [p4] (byName 3) (byName 3):=mP rfl fun s us w KI hl=>by obtain ⟨u1,u2,u3,rfl⟩:=yo hl;exact F.to KI (hb _ _ _ w)
def dd4 {p1 p2 p3 p4:Str} (X:K.In h) (G:h.Ns MO mg) (a:OM K MO x=some (some (.ref f)):=by k_is) (l:K.lookup f=some ⟨oc,od,.func (MQ x x (bR st) (bC st) (ak st) (.ref D) kV dc pm an cd ct),sl⟩:=by k_is) (e:K.lookup D=some ⟨dcl,dd,.seq #[.none] n,dsl⟩:=by k_is) (c:Nw K cd x=true:=by k_is) (k:M6 K (.ref f)=true:=by k_is)
  (ha:∀ u1 u2 u3 u4:Value,ToD x x st ⟨[u1,u2,u3,u4],[]⟩ [(p1,u1),(p2,u2),(p3,u3),(p4,u4)]:=by intros;intro _ _ _ _ _ _ _;exact ⟨_,rfl,rfl⟩) (hb:∀ u1 u2 u3:Value,ToD x x st ⟨[u1,u2,u3],[]⟩ [(p1,u1),(p2,u2),(p3,u3),(p4,.none)]:=by intros;intro _ _ _ _ _ _ _;exact ⟨_,rfl,rfl⟩) (hc:∀ u1 u2 u3 u4:Value,ToD x x st ⟨[u1,u2,u3],[(p4,u4)]⟩ [(p1,u1),(p2,u2),(p3,u3),(p4,u4)]:=by intros;intro _ _ _ _ _ _ _;exact ⟨_,rfl,rfl⟩):DfD K mg x st [p1,p2,p3,p4] p4 3:=⟨f,_,d6 l e c k,bc4 (d6 l e c k) ha,bn4 (d6 l e c k) hb,bk4 (d6 l e c k) hc,ON X G a⟩
def bc5 {p1 p2 p3 p4 p5:Str} (F:fQ K x qual st f fd) (hb:∀ u1 u2 u3 u4 u5:Value,ToD x qual st ⟨[u1,u2,u3,u4,u5],[]⟩ [(p1,u1),(p2,u2),(p3,u3),(p4,u4),(p5,u5)]:=by intros;intro _ _ _ _ _ _ _;exact ⟨_,rfl,rfl⟩):Binds K fd [p1,p2,p3,p4,p5] []:=fun s us KI hl=>by rw [NR] at hl ⊢;obtain ⟨u1,u2,u3,u4,u5,rfl⟩:=Hr hl;exact F.to KI (hb _ _ _ _ _)
def bn5 {p1 p2 p3 p4 p5:Str} (F:fQ K x qual st f fd) (hb:∀ u1 u2 u3 u4:Value,ToD x qual st ⟨[u1,u2,u3,u4],[]⟩ [(p1,u1),(p2,u2),(p3,u3),(p4,u4),(p5,.none)]:=by intros;intro _ _ _ _ _ _ _;exact ⟨_,rfl,rfl⟩):Binds K fd [p1,p2,p3,p4,p5] [.none]:=m4 rfl fun s us KI hl=>by obtain ⟨u1,u2,u3,u4,rfl⟩:=yj hl;exact F.to KI (hb _ _ _ _)
def bk5 {p1 p2 p3 p4 p5:Str} (F:fQ K x qual st f fd) (hb:∀ u1 u2 u3 u4 u5:Value,ToD x qual st ⟨[u1,u2,u3,u4],[(p5,u5)]⟩ [(p1,u1),(p2,u2),(p3,u3),(p4,u4),(p5,u5)]:=by intros;intro _ _ _ _ _ _ _;exact ⟨_,rfl,rfl⟩):pY K fd [p1,p2,p3,p4,p5] [p5] (byName 4) (byName 4):=mP rfl fun s us w KI hl=>by obtain ⟨u1,u2,u3,u4,rfl⟩:=yj hl;exact F.to KI (hb _ _ _ _ w)
def dd5 {p1 p2 p3 p4 p5:Str} (X:K.In h) (G:h.Ns MO mg) (a:OM K MO x=some (some (.ref f)):=by k_is) (l:K.lookup f=some ⟨oc,od,.func (MQ x x (bR st) (bC st) (ak st) (.ref D) kV dc pm an cd ct),sl⟩:=by k_is) (e:K.lookup D=some ⟨dcl,dd,.seq #[.none] n,dsl⟩:=by k_is) (c:Nw K cd x=true:=by k_is) (k:M6 K (.ref f)=true:=by k_is)
  (ha:∀ u1 u2 u3 u4 u5:Value,ToD x x st ⟨[u1,u2,u3,u4,u5],[]⟩ [(p1,u1),(p2,u2),(p3,u3),(p4,u4),(p5,u5)]:=by intros;intro _ _ _ _ _ _ _;exact ⟨_,rfl,rfl⟩) (hb:∀ u1 u2 u3 u4:Value,ToD x x st ⟨[u1,u2,u3,u4],[]⟩ [(p1,u1),(p2,u2),(p3,u3),(p4,u4),(p5,.none)]:=by intros;intro _ _ _ _ _ _ _;exact ⟨_,rfl,rfl⟩) (hc:∀ u1 u2 u3 u4 u5:Value,ToD x x st ⟨[u1,u2,u3,u4],[(p5,u5)]⟩ [(p1,u1),(p2,u2),(p3,u3),(p4,u4),(p5,u5)]:=by intros;intro _ _ _ _ _ _ _;exact ⟨_,rfl,rfl⟩):DfD K mg x st [p1,p2,p3,p4,p5] p5 4:=⟨f,_,d6 l e c k,bc5 (d6 l e c k) ha,bn5 (d6 l e c k) hb,bk5 (d6 l e c k) hc,ON X G a⟩
end
section
variable {K:LN} {h:Heap} {mg:Str->Option Value} {f C D:Addr} {od an dd:Option Addr} {sl dsl:Array (Option Value)} {oc kV dc pm cd ct dcl:Value} {x qual:Str} {st:Stmt} {v:Value} {n:Nat}
def fnk (l:K.lookup f=some ⟨oc,od,.func (MQ x qual (bR st) (bC st) (ak st) .none kV dc pm an cd ct),sl⟩:=by k_is) (c:Nw K cd qual=true:=by k_is) (k:M6 K (.ref f)=true:=by k_is) :
  Fun K x qual st f (MQ x qual (bR st) (bC st) (ak st) .none kV dc pm an cd ct):=lU l c k
def mgk (X:K.In h) (G:h.Ns MO mg) (a:OM K MO x=some (some v):=by k_is):mg x=some v:=ON X G a
def mgz (X:K.In h) (G:h.Ns MO mg) (a:OM K MO x=some none:=by k_is):mg x=none:=PySem.W.mg_none_of X G a
def LD (a:Qz K C Str.empty=true:=by k_is) (b:NF K C=true:=by k_is) (c:Rg K C=true:=by k_is) (d:M5 K (.ref C) "__setattr__" = some (some (.builtin "object.__setattr__")):=by k_is):Cls K C:=⟨a,b,c,d⟩
def mkk (a:Sg K C=true:=by k_is) (b:M5 K (.ref C) "__init__" = some (some (.ref f)):=by k_is) (c:Si K (.ref f)=true:=by k_is) (d:M6 K (.ref C)=true:=by k_is):Mk K C f:=⟨a,b,c,d⟩
def Gw (a:BV K C=true:=by kernel_rfl) (b:M5 K (.ref C) "__init__" = some (some (.ref f)):=by k_is) (c:Si K (.ref f)=true:=by k_is) (d:M5 K (.ref C) "__setattr__" = some (some (.builtin "object.__setattr__")):=by k_is) (e:NF K C=true:=by k_is) (g:HV K C=true:=by kernel_rfl) (i:M6 K (.ref C)=true:=by k_is):iM K C f:=⟨a,b,c,d,e,g,i⟩
def uA (a:ck K C:=by refine' ⟨?_,?_,?_,?_,?_,?_,?_,?_⟩ <;> k_is):ck K C:=a
def mX (a:M5 K (.ref C) x=some none:=by k_is):bP K C x:=a
def krf {α:Type} {a b:α} (e:a=b:=by kernel_rfl):a=b:=e
end
def fsc {N P:List Str} {sc:Scope} (h1:sc.kind=.function) (h2:sc.isCoroutine=false) (h3:sc.isGenerator=false) (h5:N.take P.length=P) (h:N.Nodup/\(∀ x∈P,sc.names.lookup x=some .local\/sc.names.lookup x=some .cell)/\∀ y∈sc.names,y.2≠.free):aK N P sc:=⟨h1,h2,h3,h.1,h5,h.2.1,h.2.2⟩
def csc {sc:Scope} {N:List Str} {scope:Scope} {own:List Str} {fr:List Nat} (h1:scope.kind=.function) (h:(∀ y∈scope.names,y.2≠.cell)/\(∀ y∈scope.names,y.2=.local->scope.names.lookup y.1=some .local)/\(∀ y∈scope.names,y.2=.free->sc.names.lookup y.1=some .cell\/sc.names.lookup y.1=some .free)/\(∀ i∈fr,(N[i]?.bind fun x=>scope.names.lookup x)=some .free)/\(ng own fr N).Nodup):bT sc N scope own fr:=⟨h1,h.1,h.2.1,h.2.2.1,h.2.2.2.1,h.2.2.2.2⟩
section
variable {X:Cx}
end
end L2
namespace L2
open PySem PySem.W PySem.Spec PyProof.Rows
section
variable {X:Cx} {x y:Str} {st:Stmt} {ps:List Str} {k j:Nat} {sp:Sp} {p pos:Pos} {e:Expr} {es:List Expr} {t:TA} {E:XK}
end
def gM (l:List (Option V)) (i:Nat):Option V:=l.getD i none
end L2
set_option maxHeartbeats 4000000
namespace TB
open PySem L2
seal PE PA PS PSs PT PI PG PGs PO
local macro_rules | `(tactic| walk_at "rd1")=>`(tactic| with_reducible first
 | refine tY (fun _ _=>?_)|refine pe (by assumption) ?_|refine tW ?_|refine xM ?_|refine oA ?_|refine sg ?_|refine xB ?_|refine r_retN ?_|refine HZ ?_
 | refine r_C ?_|refine C9 ?_|refine r_un ?_|refine xI ?_|refine sX ?_|refine si ?_|refine sY ?_|refine Dx ?_|refine BW ?_
 | refine xQ ?_|refine Dv ?_|refine xx ?_|refine sR ?_|refine xK ?_|refine r_notV ?_|refine r_if ?_|refine xq ?_|refine ud ?_|refine DE ?_|refine sU ?_|refine bo ?_|refine qr ?_
 | refine xD ?_|refine p6 ?_|refine qu ?_|refine t5 ?_|refine Cq ?_|refine mU ?_|refine sG ?_|refine ub ?_|refine Dg ?_|refine xN ?_|refine sx ?_|refine sh ?_|refine xr ?_|refine sA ?_|refine sf ?_|refine qb ?_
 | refine xw ?_|refine t6 ?_|refine sP ?_|refine tw ?_|(refine' xA ?e ?_;(case e=>with_unfolding_all exact rfl)))
local macro_rules | `(tactic| walk_at "rs1")=>`(tactic| with_reducible first
 | refine tY (fun _ _=>?_)|refine pe (by assumption) ?_|refine tW ?_|refine xM ?_|refine oA ?_|refine sg ?_|refine xB ?_|refine r_retN ?_
 | refine r_C ?_|refine C9 ?_|refine r_un ?_|refine xI ?_|refine sX ?_|refine si ?_|refine sY ?_|refine Dx ?_|refine BW ?_
 | refine xQ ?_|refine Dv ?_|refine xx ?_|refine sR ?_|refine xK ?_|refine r_notV ?_|refine r_if ?_|refine xq ?_|refine ud ?_|refine DE ?_|refine sU ?_|refine bo ?_|refine qr ?_
 | refine xD ?_|refine p6 ?_|refine qu ?_|refine t5 ?_|refine Cq ?_|refine mU ?_|refine sG ?_|refine ub ?_|refine Dg ?_|refine xN ?_|refine sx ?_|refine sh ?_|refine xr ?_|refine sA ?_|refine sf ?_|refine qb ?_
 | refine xw ?_|refine t6 ?_|refine sP ?_|refine tw ?_|(refine' xA ?e ?_;(case e=>with_unfolding_all exact rfl)))
local macro_rules | `(tactic| walk_at "rs")=>`(tactic| repeat walk_at "rs1")
local macro_rules | `(tactic| walk_at "rd")=>`(tactic| repeat walk_at "rd1")
local macro_rules | `(tactic| walk_at "rw1")=>`(tactic| with_reducible first
 | refine tY (fun _ _=>?_)|refine pe (by assumption) ?_|refine tW ?_|refine xM ?_|refine oA ?_|refine sg ?_|refine xB ?_|refine r_retN ?_
 | refine r_C ?_|refine C9 ?_|refine r_un ?_|refine xI ?_|refine sX ?_|refine si ?_|refine sY ?_|refine Dx ?_|refine BW ?_
 | refine xQ ?_|refine Dv ?_|refine xx ?_|refine sR ?_|refine xK ?_|refine r_notV ?_|refine r_if ?_|refine xq ?_|refine ud ?_|refine DE ?_|refine sU ?_
 | refine xD ?_|refine p6 ?_|refine qu ?_|refine t5 ?_|refine Cq ?_|refine mU ?_|refine sG ?_|refine ub ?_|refine Dg ?_|refine xN ?_|refine sx ?_|refine sh ?_|refine xr ?_|refine sA ?_|refine sf ?_|refine qb ?_
 | refine xw ?_|refine t6 ?_|refine sP ?_|refine tw ?_|(refine' xA ?e ?_;(case e=>with_unfolding_all exact rfl)))
local macro_rules | `(tactic| walk_at "rw")=>`(tactic| repeat walk_at "rw1")
local macro_rules | `(tactic| walk_at "wr")=>`(tactic| repeat (first|exact iq|refine uk ?_ ?_|refine El ?_ (by decide)|exact DL rfl))
local macro_rules | `(tactic| walk_at "rn1")=>`(tactic| with_reducible first
 | refine tY (fun _ _=>?_)|refine pe (by assumption) ?_|refine tW ?_|refine xM ?_|refine oA ?_|refine sg ?_|refine xB ?_|refine r_retN ?_
 | refine LM ?_|refine r_C ?_|refine C9 ?_|refine r_un ?_|refine r_rU ?_|refine KA ?_|refine K0 ?_|refine Li ?_|refine K7 ?_|refine r_leN ?_|refine Lg ?_|refine Lc ?_
 | refine tR (by first|assumption|omega) ?_|refine Eb (by first|assumption|omega) (by first|assumption|omega) ?_|refine J8 (by omega) ?_
 | refine xI ?_|refine sX ?_|refine si ?_|refine sY ?_|refine Dx ?_|refine BW ?_
 | refine xQ ?_|refine Dv ?_|refine xx ?_|refine sR ?_|refine xK ?_|refine r_notV ?_|refine r_if ?_|refine xq ?_|refine ud ?_|refine DE ?_|refine sU ?_
 | refine xD ?_|refine p6 ?_|refine qu ?_|refine t5 ?_|refine Cq ?_|refine mU ?_|refine sG ?_|refine ub ?_|refine Dg ?_|refine K2 ?_|refine xN ?_|refine sx ?_|refine sh ?_|refine xr ?_|refine sA ?_|refine sf ?_|refine qb ?_
 | refine xw ?_|refine t6 ?_|refine sP ?_|refine tw ?_|(refine' xA ?e ?_;(case e=>with_unfolding_all exact rfl)))
local macro_rules | `(tactic| walk_at "rx1")=>`(tactic| first|walk_at "rn1" | refine bN (by assumption) (by rfl) ?_|refine cy (by assumption) ?_|refine r_in (by assumption) ?_|refine ql (by assumption) ?_)
local macro_rules | `(tactic| walk_at "rx")=>`(tactic| repeat walk_at "rx1")
local macro_rules | `(tactic| walk_at "ifs")=>`(tactic| with_reducible refine HZ ?_)
local macro_rules | `(tactic| walk_at "rn")=>`(tactic| repeat walk_at "rn1")
local macro_rules | `(tactic| walk_at "1") => `(tactic| (walk_at "rn";refine bo ?_;walk_at "rn"))
local macro_rules | `(tactic| walk_at "2") => `(tactic| (walk_at "rn";walk_at "ifs";walk_at "rn"))
local macro_rules | `(tactic| walk_at "3") => `(tactic| (walk_at "rx";walk_at "ifs";walk_at "rx"))
local macro_rules | `(tactic| walk_at "4") => `(tactic| (walk_at "rx";refine bo ?_;walk_at "rx"))
local macro_rules | `(tactic| walk_at "5") => `(tactic| (walk_at "rg";walk_at "ifs";walk_at "rg"))
local macro_rules | `(tactic| walk_at "6") => `(tactic| (walk_at "rg";refine bo ?_;walk_at "rg"))
local macro_rules | `(tactic| walk_at "7") => `(tactic| (walk_at "rn";refine qr ?_;walk_at "rn"))
local macro_rules | `(tactic| walk_at "8") => `(tactic| (refine fc ?_;walk_at "rx"))
local macro_rules | `(tactic| symm) => `(tactic| walk_at "rg")
local macro_rules | `(tactic| right) => `(tactic| walk_at "rd")
def top (i:Nat):Stmt:=PySem.Challenge.pw_tracebook_k32_refused_ones.main.body.getD i (.Pass ⟨0,0,0,0⟩)
abbrev mI:Stmt:=top 20
abbrev pQ:Stmt:=top 21
abbrev jK:Stmt:=top 22
abbrev vw:Stmt:=top 23
abbrev pR:Stmt:=top 24
abbrev mL:Stmt:=top 25
abbrev vA:Stmt:=top 26
abbrev kB:Stmt:=top 27
abbrev vD:Stmt:=top 28
abbrev A2:Stmt:=top 29
abbrev A5:Stmt:=top 30
abbrev qd:Stmt:=top 31
abbrev zQ:Stmt:=top 33
abbrev oq:Stmt:=top 35
abbrev vy:Stmt:=top 36
abbrev kF:Stmt:=top 37
abbrev vh:Stmt:=top 38
abbrev kH:Stmt:=top 39
abbrev oJ:Stmt:=top 40
abbrev A8:Stmt:=top 41
abbrev wo:Stmt:=top 42
abbrev mz:Stmt:=top 45
abbrev wm:Stmt:=top 47
abbrev jI:Stmt:=top 48
abbrev n9:Stmt:=top 49
abbrev qG:Stmt:=top 50
abbrev qR:Stmt:=top 51
abbrev pf:Stmt:=top 52
abbrev Bu:Stmt:=top 53
abbrev nq:Stmt:=top 54
abbrev pN:Stmt:=top 55
abbrev tI:Stmt:=top 56
abbrev yD:Stmt:=top 57
abbrev rX:Stmt:=top 59
abbrev qH:Stmt:=top 60
abbrev sZ:Stmt:=top 61
abbrev tZ:Stmt:=top 62
abbrev pb:Stmt:=top 63
abbrev v7:Stmt:=top 64
abbrev nu:Stmt:=top 65
abbrev qV:Stmt:=top 66
abbrev jh:Stmt:=top 67
abbrev nU:Stmt:=top 68
abbrev o6:Stmt:=top 69
abbrev jg:Stmt:=top 70
abbrev tH:Stmt:=top 71
abbrev vR:Stmt:=top 72
abbrev pG:Stmt:=top 73
abbrev lQ:Stmt:=top 74
abbrev n6:Stmt:=top 75
abbrev qD:Stmt:=top 76
abbrev vH:Stmt:=top 77
abbrev qT:Stmt:=top 78
abbrev sF:Stmt:=top 79
abbrev kI:Stmt:=top 80
abbrev qP:Stmt:=top 81
abbrev BU:Stmt:=top 82
abbrev ku:Stmt:=inClass (top 8) 0
abbrev oz:Stmt:=inClass (top 12) 0
abbrev mw:Stmt:=inClass (top 13) 0
abbrev pE:Stmt:=inClass (top 19) 0
def jq:aK ["table","rows","unit","backs"] ["table"] (ak mI):=fsc rfl rfl rfl rfl (by trivial)
def jG:aK ["rows","many","row"] ["rows"] (ak pQ):=fsc rfl rfl rfl rfl (by trivial)
def ef:aK ["rows","many","row","column"] ["rows"] (ak jK):=fsc rfl rfl rfl rfl (by trivial)
def tU:aK ["rows","thing"] ["rows"] (ak vw):=fsc rfl rfl rfl rfl (by trivial)
def nP:aK ["rows","thing","other"] ["rows","thing"] (ak pR):=fsc rfl rfl rfl rfl (by trivial)
def Aa:aK ["rows","unit"] ["rows","unit"] (ak mL):=fsc rfl rfl rfl rfl (by trivial)
def tL:aK ["rows","unit","thing","other"] ["rows","unit","thing"] (ak vA):=fsc rfl rfl rfl rfl (by trivial)
def dG:aK ["rows","many","one","two","three"] ["rows"] (ak kB):=fsc rfl rfl rfl rfl (by trivial)
def jM:aK ["group","things","reached","thing"] ["group","things"] (ak vD):=fsc rfl rfl rfl rfl (by trivial)
def xW:aK ["group","thing","many","left"] ["group","thing","many"] (ak A2):=fsc rfl rfl rfl rfl (by trivial)
def kK:aK ["group","thing","many","reached"] ["group","thing"] (ak A5):=fsc rfl rfl rfl rfl (by trivial)
def nA:aK ["group","orders","many"] ["group"] (ak qd):=fsc rfl rfl rfl rfl (by trivial)
def DM:aK ["group","thing","by"] ["group","thing","by"] (ak zQ):=fsc rfl rfl rfl rfl (by trivial)
def nV:aK ["group","some"] ["group","some"] (ak oq):=fsc rfl rfl rfl rfl (by trivial)
def tX:aK ["group","some"] ["group","some"] (ak vy):=fsc rfl rfl rfl rfl (by trivial)
def nR:aK ["group","some"] ["group","some"] (ak kF):=fsc rfl rfl rfl rfl (by trivial)
def yU:aK ["some"] ["some"] (ak vh):=fsc rfl rfl rfl rfl (by trivial)
def cW:aK ["group","some","one","other"] ["group","some"] (ak kH):=fsc rfl rfl rfl rfl (by trivial)
def eE:aK ["group","some","words","reached","place","thing","further","part"] ["group","some"] (ak oJ):=fsc rfl rfl rfl rfl (by trivial)
def m9:aK ["group","part","found","one","other"] ["group","part"] (ak A8):=fsc rfl rfl rfl rfl (by trivial)
def sy:aK ["group","part","by","thing"] ["group","part","by"] (ak wo):=fsc rfl rfl rfl rfl (by trivial)
def kU:aK ["many"] ["many"] (ak mz):=fsc rfl rfl rfl rfl (by trivial)
def jS:aK ["group","spokes","least"] ["group","spokes"] (ak wm):=fsc rfl rfl rfl rfl (by trivial)
def mh:aK ["part","marks","spokes"] ["part","marks","spokes"] (ak jI):=fsc rfl rfl rfl rfl (by trivial)
def c6:aK ["group","part","marks","spokes","many","mark","one","other"] ["group","part","marks","spokes"] (ak n9):=fsc rfl rfl rfl rfl (by trivial)
def eR:aK ["group","part","marks","spokes","found"] ["group","part","marks","spokes"] (ak qG):=fsc rfl rfl rfl rfl (by trivial)
def ix:aK ["group","part","by","thing"] ["group","part","by"] (ak qR):=fsc rfl rfl rfl rfl (by trivial)
def d9:aK ["group","part","marks","by","mark","thing"] ["group","part","marks","by"] (ak pf):=fsc rfl rfl rfl rfl (by trivial)
def rh:aK ["group","part","marks","thing","spokes"] ["group","part","marks","thing","spokes"] (ak Bu):=fsc rfl rfl rfl rfl (by trivial)
def cS:aK ["group","part","marks","thing","spokes","mark","steps","aim","origins","many","base","greater","found","own"] ["group","part","marks","thing","spokes"] (ak nq):=fsc rfl rfl rfl rfl (by trivial)
def jH:aK ["group","part","thing","steps"] ["group","part","thing"] (ak pN):=fsc rfl rfl rfl rfl (by trivial)
def fD:aK ["group","part","spokes","many","reached","found","thing","taken"] ["group","part","spokes"] (ak tI):=fsc rfl rfl rfl rfl (by trivial)
def ot:aK ["lists","found","some"] ["lists"] (ak yD):=fsc rfl rfl rfl rfl (by trivial)
def Ax:aK ["_law_script","_law_k"] ["_law_script","_law_k"] (ak rX):=fsc rfl rfl rfl rfl (by trivial)
def cE:aK ["_law_one","_law_two","_law_number","_law_some","_law_top","_law_steps","_law_room","_law_first","_law_second","_law_third"] ["_law_one","_law_two"] (ak qH):=fsc rfl rfl rfl rfl (by trivial)
def qX:aK ["_law_sizes_here","_law_number","_law_kinds"] ["_law_sizes_here","_law_number"] (ak sZ):=fsc rfl rfl rfl rfl (by trivial)
def eM:aK ["_law_many","_law_steps","_law_number","_law_units","_law_u","_law_found","_law_k"] ["_law_many","_law_steps","_law_number"] (ak tZ):=fsc rfl rfl rfl rfl (by trivial)
def cf:aK ["_law_place","_law_sizes_here","_law_kind_here","_law_units","_law_x","_law_y","_law_w"] ["_law_place","_law_sizes_here","_law_kind_here","_law_units"] (ak pb):=fsc rfl rfl rfl rfl (by trivial)
def ir:aK ["_law_one","_law_other","_law_sizes_here","_law_both","_law_x","_law_y","_law_w"] ["_law_one","_law_other","_law_sizes_here"] (ak v7):=fsc rfl rfl rfl rfl (by trivial)
def cc:aK ["_law_sizes_here","_law_turn","_law_end","_law_calm","_law_rows_here","_law_led","_law_i","_law_one","_law_row","_law_j","_law_other","_law_place"] ["_law_sizes_here","_law_turn","_law_end"] (ak nu):=fsc rfl rfl rfl rfl (by trivial)
def iK:aK ["_law_many","_law_number","_law_names_here","_law_k"] ["_law_many","_law_number"] (ak qV):=fsc rfl rfl rfl rfl (by trivial)
def bp:aK ["_law_script","_law_start","_law_one","_law_two","_law_sizes_here","_law_stirred","_law_kind_here","_law_units","_law_k","_law_calm","_law_turn","_law_end","_law_rows_here","_law_names_here","_law_row","_law_table","_law_a","_law_b","_law_thing"] ["_law_script","_law_start"] (ak jh):=fsc rfl rfl rfl rfl (by trivial)
def mD:aK ["_law_table","_law_a"] ["_law_table"] (ak nU):=fsc rfl rfl rfl rfl (by trivial)
def d7:aK ["_law_table","_law_some","_law_part","_law_k","_law_thing","_law_found"] ["_law_table","_law_some"] (ak o6):=fsc rfl rfl rfl rfl (by trivial)
def eT:aK ["_law_table","_law_units","_law_powers","_law_many"] ["_law_table"] (ak jg):=fsc rfl rfl rfl rfl (by trivial)
def fw:aK ["_law_script","_law_table","_law_cell_here","_law_some","_law_part","_law_way","_law_at"] ["_law_script","_law_table"] (ak tH):=fsc rfl rfl rfl rfl (by trivial)
def Dj:aK ["_law_script","_law_k"] ["_law_script","_law_k"] (ak vR):=fsc rfl rfl rfl rfl (by trivial)
def jJ:aK ["_law_script","_law_least","_law_cell_here","_law_way"] ["_law_script","_law_least"] (ak pG):=fsc rfl rfl rfl rfl (by trivial)
def iN:aK ["_law_script","_law_many","_law_marks_here","_law_cell_here","_law_way"] ["_law_script","_law_many"] (ak lQ):=fsc rfl rfl rfl rfl (by trivial)
def fZ:aK ["_law_table","_law_part","_law_k","_law_a","_law_b"] ["_law_table","_law_part"] (ak n6):=fsc rfl rfl rfl rfl (by trivial)
def iP:aK ["_law_table","_law_part","_law_marks_here","_law_spokes_here","_law_a","_law_b","_law_found"] ["_law_table","_law_part","_law_marks_here","_law_spokes_here"] (ak qD):=fsc rfl rfl rfl rfl (by trivial)
def mT:aK ["_law_table","_law_part","_law_marks_here","_law_spokes_here","_law_least","_law_mark"] ["_law_table","_law_part","_law_marks_here","_law_spokes_here"] (ak vH):=fsc rfl rfl rfl rfl (by trivial)
def yT:aK ["_law_group_here","_law_handed","_law_thing","_law_spokes_here","_law_which"] ["_law_group_here","_law_handed","_law_thing","_law_spokes_here","_law_which"] (ak qT):=fsc rfl rfl rfl rfl (by trivial)
def c9:aK ["_law_group_here","_law_handed","_law_thing","_law_spokes_here","_law_which","_law_found","e","_law_k"] ["_law_group_here","_law_handed","_law_thing","_law_spokes_here","_law_which"] (ak sF):=fsc rfl rfl rfl rfl (by trivial)
def cF:aK ["_law_met","_law_some","_law_names_here","_law_found"] ["_law_met"] (ak kI):=fsc rfl rfl rfl rfl (by trivial)
def ie:aK ["_law_group_here","_law_handed","_law_thing","_law_spokes_here","_law_which","_law_met","e"] ["_law_group_here","_law_handed","_law_thing","_law_spokes_here","_law_which"] (ak qP):=fsc rfl rfl rfl rfl (by trivial)
def eV:aK ["_law_script","_law_table","_law_part","_law_spokes_here","_law_marks_here","_law_thing","_law_due_here","_law_group_here","_law_handed","_law_which","_law_wanted"] ["_law_script"] (ak BU):=fsc rfl rfl rfl rfl (by trivial)
def qA:aK ["self","turner","thing"] ["self","turner","thing"] (ak ku):=fsc rfl rfl rfl rfl (by trivial)
def wN:aK ["self","one","two"] ["self","one","two"] (ak oz):=fsc rfl rfl rfl rfl (by trivial)
def tV:aK ["self","thing"] ["self","thing"] (ak mw):=fsc rfl rfl rfl rfl (by trivial)
def xa:aK ["self","rows","unit","backs"] ["self","rows","unit","backs"] (ak pE):=fsc rfl rfl rfl rfl (by trivial)
def nG:bT (ak mI) ["table","rows","unit","backs"] { kind:=.function,names:=[(".0",.local),("row",.local),("list",.globalImplicit)],isGenerator:=false,isCoroutine:=false,more:=[] } ["row"] []:=csc rfl (by trivial)
def nZ:bT (ak mL) ["rows","unit"] { kind:=.function,names:=[(".0",.local),("thing",.local),("back_of",.globalImplicit),("rows",.free),("unit",.free)],isGenerator:=false,isCoroutine:=false,more:=[] } ["thing"] [0,1]:=csc rfl (by trivial)
def r9:bT (ak qd) ["group","orders","many"] { kind:=.function,names:=[(".0",.local),("thing",.local),("order",.globalImplicit),("group",.free)],isGenerator:=false,isCoroutine:=false,more:=[] } ["thing"] [0]:=csc rfl (by trivial)
def tm:bT (ak qd) ["group","orders","many"] { kind:=.function,names:=[(".0",.local),("times",.local),("many",.free)],isGenerator:=false,isCoroutine:=false,more:=[] } ["times"] [2]:=csc rfl (by trivial)
def fL:bT (ak kF) ["group","some"] { kind:=.function,names:=[(".0",.local),("number",.local),("group",.free)],isGenerator:=false,isCoroutine:=false,more:=[] } ["number"] [0]:=csc rfl (by trivial)
def j8:bT (ak vh) ["some"] { kind:=.function,names:=[(".0",.local),("place",.local),("some",.free)],isGenerator:=false,isCoroutine:=false,more:=[] } ["place"] [0]:=csc rfl (by trivial)
def oU:bT (ak oJ) ["group","some","words","reached","place","thing","further","part"] { kind:=.function,names:=[(".0",.local),("thing",.local),("words",.free)],isGenerator:=false,isCoroutine:=false,more:=[] } ["thing"] [2]:=csc rfl (by trivial)
def fh:bT (ak jI) ["part","marks","spokes"] { kind:=.function,names:=[(".0",.local),("mark",.local),("spokes",.free)],isGenerator:=false,isCoroutine:=false,more:=[] } ["mark"] [2]:=csc rfl (by trivial)
def oh:bT (ak nq) ["group","part","marks","thing","spokes","mark","steps","aim","origins","many","base","greater","found","own"] { kind:=.function,names:=[(".0",.local),("one",.local),("origins",.free),("own",.free),("spokes",.free)],isGenerator:=false,isCoroutine:=false,more:=[] } ["one"] [8,13,4]:=csc rfl (by trivial)
def vp:bT (ak tI) ["group","part","spokes","many","reached","found","thing","taken"] { kind:=.function,names:=[(".0",.local),("marks",.local),("taken_on",.globalImplicit),("group",.free),("many",.free),("reached",.free),("thing",.free)],isGenerator:=false,isCoroutine:=false,more:=[] } ["marks"] [0,3,4,6]:=csc rfl (by trivial)
def vV:bT (ak tI) ["group","part","spokes","many","reached","found","thing","taken"] { kind:=.function,names:=[(".0",.local),("greater",.local),("ways",.local)],isGenerator:=false,isCoroutine:=false,more:=[] } ["greater","ways"] []:=csc rfl (by trivial)
def oa:bT (ak nu) ["_law_sizes_here","_law_turn","_law_end","_law_calm","_law_rows_here","_law_led","_law_i","_law_one","_law_row","_law_j","_law_other","_law_place"] { kind:=.function,names:=[(".0",.local),("_law_place",.local),("_law_turn",.free)],isGenerator:=false,isCoroutine:=false,more:=[] } ["_law_place"] [1]:=csc rfl (by trivial)
def lW:bT (ak jh) ["_law_script","_law_start","_law_one","_law_two","_law_sizes_here","_law_stirred","_law_kind_here","_law_units","_law_k","_law_calm","_law_turn","_law_end","_law_rows_here","_law_names_here","_law_row","_law_table","_law_a","_law_b","_law_thing"] { kind:=.function,names:=[(".0",.local),("_law_place",.local),("_law_turned",.globalImplicit),("_law_kind_here",.free),("_law_sizes_here",.free),("_law_units",.free)],isGenerator:=false,isCoroutine:=false,more:=[] } ["_law_place"] [6,4,7]:=csc rfl (by trivial)
def lX:bT (ak jh) ["_law_script","_law_start","_law_one","_law_two","_law_sizes_here","_law_stirred","_law_kind_here","_law_units","_law_k","_law_calm","_law_turn","_law_end","_law_rows_here","_law_names_here","_law_row","_law_table","_law_a","_law_b","_law_thing"] { kind:=.function,names:=[(".0",.local),("_law_row",.local),("list",.globalImplicit)],isGenerator:=false,isCoroutine:=false,more:=[] } ["_law_row"] []:=csc rfl (by trivial)
def lZ:bT (ak jg) ["_law_table","_law_units","_law_powers","_law_many"] { kind:=.function,names:=[(".0",.local),("_law_a",.local),("_law_unit_of",.globalImplicit),("_law_table",.free)],isGenerator:=false,isCoroutine:=false,more:=[] } ["_law_a"] [0]:=csc rfl (by trivial)
def l7:bT (ak jg) ["_law_table","_law_units","_law_powers","_law_many"] { kind:=.function,names:=[(".0",.local),("_law_a",.local),("_law_powers",.free),("_law_table",.free)],isGenerator:=false,isCoroutine:=false,more:=[] } ["_law_a"] [2,0]:=csc rfl (by trivial)
def mC:bT (ak lQ) ["_law_script","_law_many","_law_marks_here","_law_cell_here","_law_way"] { kind:=.function,names:=[(".0",.local),("_law_k",.local)],isGenerator:=false,isCoroutine:=false,more:=[] } ["_law_k"] []:=csc rfl (by trivial)
def kW:bT (ak kI) ["_law_met","_law_some","_law_names_here","_law_found"] { kind:=.function,names:=[(".0",.local),("_law_name",.local),("_law_truth",.local)],isGenerator:=false,isCoroutine:=false,more:=[] } ["_law_name","_law_truth"] []:=csc rfl (by trivial)
def zq:bT (ak BU) ["_law_script","_law_table","_law_part","_law_spokes_here","_law_marks_here","_law_thing","_law_due_here","_law_group_here","_law_handed","_law_which","_law_wanted"] { kind:=.function,names:=[(".0",.local),("_law_row",.local),("list",.globalImplicit)],isGenerator:=false,isCoroutine:=false,more:=[] } ["_law_row"] []:=csc rfl (by trivial)
set_option genInjectivity false in
set_option genSizeOf false in
structure Txt (K:LN) (mg:Str->Option Value) where
 jQ:Df K mg "group_of" mI ["table"]
 iH:Df K mg "check_size" pQ ["rows"]
 eO:Df K mg "check_strangers" jK ["rows"]
 kY:Df K mg "unit_of" vw ["rows"]
 iL:Df K mg "leaves_all" pR ["rows","thing"]
 j7:Df K mg "backs_of" mL ["rows","unit"]
 lD:Df K mg "back_of" vA ["rows","unit","thing"]
 fg:Df K mg "check_together" kB ["rows"]
 hZ:Df K mg "product" vD ["group","things"]
 kh:Df K mg "power" A2 ["group","thing","many"]
 mB:Df K mg "order" A5 ["group","thing"]
 my:Df K mg "turns" qd ["group"]
 i9:Df K mg "turned" zQ ["group","thing","by"]
 bX:Df K mg "check_part" oq ["group","some"]
 eW:Df K mg "is_part" vy ["group","some"]
 dv:Df K mg "all_things" kF ["group","some"]
 g0:Df K mg "rises" vh ["some"]
 b9:Df K mg "holds_products" kH ["group","some"]
 lC:Df K mg "closure" oJ ["group","some"]
 qe:Df K mg "mixed" A8 ["group","part"]
 jA:Df K mg "led_out" wo ["group","part","by"]
 cI:Df K mg "check_spokes" mz ["many"]
 cL:Df K mg "serving" wm ["group","spokes"]
 cY:Df K mg "check_marks" jI ["part","marks","spokes"]
 bV:DfD K mg "first_break" n9 ["group","part","marks","spokes"] "spokes" 3
 cT:Df K mg "check_way" qG ["group","part","marks","spokes"]
 cQ:Df K mg "check_led" qR ["group","part","by"]
 cD:Df K mg "check_kept" pf ["group","part","marks","by"]
 ee:DfD K mg "grown" Bu ["group","part","marks","thing","spokes"] "spokes" 4
 iw:Df K mg "taken_on" nq ["group","part","marks","thing","spokes"]
 ik:Df K mg "steps_into" pN ["group","part","thing"]
 iI:DfD K mg "ones" tI ["group","part","spokes"] "spokes" 2
 mR:Df K mg "joined" yD ["lists"]
 cg:Df K mg "_law_cell" rX ["_law_script","_law_k"]
 js:Df K mg "_law_sizes" qH ["_law_one","_law_two"]
 jV:Df K mg "_law_kind" sZ ["_law_sizes_here","_law_number"]
 jZ:Df K mg "_law_unit" tZ ["_law_many","_law_steps","_law_number"]
 ig:Df K mg "_law_turned" pb ["_law_place","_law_sizes_here","_law_kind_here","_law_units"]
 jD:Df K mg "_law_sum" v7 ["_law_one","_law_other","_law_sizes_here"]
 jL:Df K mg "_law_rows" nu ["_law_sizes_here","_law_turn","_law_end"]
 jk:Df K mg "_law_names" qV ["_law_many","_law_number"]
 jn:Df K mg "_law_group" jh ["_law_script","_law_start"]
 fv:Df K mg "_law_unit_of" nU ["_law_table"]
 iz:Df K mg "_law_closed" o6 ["_law_table","_law_some"]
 gA:Df K mg "_law_turns" jg ["_law_table"]
 j5:Df K mg "_law_list" tH ["_law_script","_law_table"]
 fY:Df K mg "_law_far" vR ["_law_script","_law_k"]
 iJ:Df K mg "_law_spokes" pG ["_law_script","_law_least"]
 jm:Df K mg "_law_marks" lQ ["_law_script","_law_many"]
 gE:Df K mg "_law_is_part" n6 ["_law_table","_law_part"]
 jj:Df K mg "_law_break" qD ["_law_table","_law_part","_law_marks_here","_law_spokes_here"]
 lG:Df K mg "_law_due" vH ["_law_table","_law_part","_law_marks_here","_law_spokes_here"]
 gm:Df K mg "_law_asked" qT ["_law_group_here","_law_handed","_law_thing","_law_spokes_here","_law_which"]
 jN:Df K mg "_law_told" sF ["_law_group_here","_law_handed","_law_thing","_law_spokes_here","_law_which"]
 iU:Df K mg "_law_called" kI ["_law_met"]
 jo:Df K mg "_law_flags" qP ["_law_group_here","_law_handed","_law_thing","_law_spokes_here","_law_which"]
 qh:Df K mg "law" BU ["_law_script"]
 aI:Addr
 uB:Addr
 vi:Na
 IV:mg "Group" = some (.ref aI)
 fC:Cls K aI
 IK:Mk K aI uB
 Ju:Fun K "__init__" "Group.__init__" pE uB vi
 IS:Binds K vi ["self","rows","unit","backs"] []
 o8:bP K aI "many"
 kR:bP K aI "rows"
 kE:bP K aI "unit"
 nH:bP K aI "backs"
 bt:Addr
 rj:mg "NoPart" = some (.ref bt)
 a0:Addr
 ka:mg "BadWheel" = some (.ref a0)
 bc:Addr
 jY:mg "BadMarks" = some (.ref bc)
 eJ:Addr
 qN:mg "BookError" = some (.ref eJ)
 fV:Addr
 Fd:mg "BadSize" = some (.ref fV)
 fq:Addr
 B1:mg "Stranger" = some (.ref fq)
 gQ:Addr
 FU:mg "NoUnit" = some (.ref gQ)
 gR:Addr
 FW:mg "NoBack" = some (.ref gR)
 dD:Addr
 xk:mg "NotTogether" = some (.ref dD)
 gP:Addr
 Hq:mg "NoMove" = some (.ref gP)
 dY:Addr
 zi:mg "OtherGroup" = some (.ref dY)
 dW:Addr
 yn:mg "OtherWheel" = some (.ref dW)
 eY:Addr
 CU:mg "TooGreat" = some (.ref eY)
 bI:Addr
 vg:Addr
 uK:Na
 uI:mg "NoWay" = some (.ref bI)
 md:iM K bI vg
 Im:Fun K "__init__" "NoWay.__init__" oz vg uK
 IB:Binds K uK ["self","one","two"] []
 qM:bP K bI "one"
 qF:bP K bI "two"
 bg:Addr
 lS:Addr
 lN:Na
 qB:mg "NotSteady" = some (.ref bg)
 lL:iM K bg lS
 AR:Fun K "__init__" "NotSteady.__init__" ku lS lN
 AM:Binds K lN ["self","turner","thing"] []
 pF:bP K bg "turner"
 qx:bP K bg "thing"
 bK:Addr
 oK:Addr
 ou:Na
 vz:mg "NotKept" = some (.ref bK)
 v8:iM K bK oK
 Ew:Fun K "__init__" "NotKept.__init__" mw oK ou
 Fc:Binds K ou ["self","thing"] []
 sj:bP K bK "thing"
 Gz:Po K bt bmV pB=true
 Gv:ck K bt
 tG:Po K a0 bmV pB=true
 B7:ck K a0
 sL:Po K bc bmV pB=true
 B4:ck K bc
 uG:ck K bI
 KY:ck K bg
 Ly:ck K bK
 Fw:Mt K (.ref bt) (.ref bt)=some true
 F0:Mt K (.ref bt) (.ref eJ)=some true
 FN:Nv K (.ref bt) (.type "ValueError")=some true
 z9:Mt K (.ref a0) (.ref bt)=some false
 AI:Mt K (.ref a0) (.ref a0)=some true
 CH:Mt K (.ref a0) (.ref eJ)=some true
 Dr:Nv K (.ref a0) (.type "ValueError")=some true
 Aj:Mt K (.ref bc) (.ref bt)=some false
 AK:Mt K (.ref bc) (.ref a0)=some false
 Ah:Mt K (.ref bc) (.ref bc)=some true
 C8:Mt K (.ref bc) (.ref eJ)=some true
 CY:Nv K (.ref bc) (.type "ValueError")=some true
 Ha:Mt K (.ref bI) (.ref bt)=some false
 Gk:Mt K (.ref bI) (.ref a0)=some false
 GQ:Mt K (.ref bI) (.ref bc)=some false
 GX:Mt K (.ref bI) (.ref bI)=some true
 IL:Mt K (.ref bI) (.ref eJ)=some true
 Jh:Nv K (.ref bI) (.type "ValueError")=some true
 zX:Mt K (.ref bg) (.ref bt)=some false
 zV:Mt K (.ref bg) (.ref a0)=some false
 yW:Mt K (.ref bg) (.ref bc)=some false
 xS:Mt K (.ref bg) (.ref bI)=some false
 zJ:Mt K (.ref bg) (.ref eJ)=some true
 CL:Mt K (.ref bK) (.ref bt)=some false
 Cg:Mt K (.ref bK) (.ref a0)=some false
 Cm:Mt K (.ref bK) (.ref bc)=some false
 Dn:Mt K (.ref bK) (.ref bI)=some false
 Dl:Mt K (.ref bK) (.ref eJ)=some true
 FG:flagsOf K bt [fV,fq,gQ,gR,dD,bt,bg,a0,gP,bc,bI,bK,dY,dW,eY]=(tM 15 5).map some
 Cj:flagsOf K a0 [fV,fq,gQ,gR,dD,bt,bg,a0,gP,bc,bI,bK,dY,dW,eY]=(tM 15 7).map some
 Ci:flagsOf K bc [fV,fq,gQ,gR,dD,bt,bg,a0,gP,bc,bI,bK,dY,dW,eY]=(tM 15 9).map some
 Jk:flagsOf K bI [fV,fq,gQ,gR,dD,bt,bg,a0,gP,bc,bI,bK,dY,dW,eY]=(tM 15 10).map some
 wR:Tok
 nK:mg "MOST_SPOKES" = some (.int 60 wR)
 wM:Tok
 wX:mg "MOST_THINGS" = some (.int 23 wM)
 zE:mg "ValueError" = none
 xJ:mg "all" = none
 CO:mg "any" = none
 KQ:mg "bool" = none
 sD:mg "dict" = none
 qJ:mg "enumerate" = none
 KZ:mg "int" = none
 bu:mg "isinstance" = none
 bA:mg "len" = none
 kG:mg "list" = none
 La:mg "max" = none
 bD:mg "range" = none
 mM:mg "set" = none
 jd:mg "sorted" = none
 sT:mg "zip" = none
def tb (t:List (List Nat)) (i j:Nat):Nat:=(t.getD i []).getD j 0
structure Sq (n:Nat) (t:List (List Nat)):Prop where
 len:t.length=n
 pos:1<=n
 le:n<=23
 row:∀ (i:Nat) (r:List Nat),t[i]?=some r->r.length=n
structure Gd (n:Nat) (t:List (List Nat)):Prop extends Sq n t where
 lt:∀ i j,i<n->j<n->tb t i j<n
structure GT (n:Nat) (t:List (List Nat)) (e:Nat):Prop extends Gd n t where
 elt:e<n
 unl:∀ i,i<n->tb t e i=i
 unr:∀ i,i<n->tb t i e=i
 back:∀ i,i<n->∃ b,b<n/\tb t i b=e/\tb t b i=e
 assoc:∀ i j k,i<n->j<n->k<n->tb t (tb t i j) k=tb t i (tb t j k)
def Sq.get {n:Nat} {t:List (List Nat)} (s:Sq n t) {i:Nat} (h:i<n):t[i]?=some (t.getD i []):=by
 have hl:i<t.length:=by rw [s.len];exact h
 rw [LS,LO hl];simp
def Sq.dX {n:Nat} {t:List (List Nat)} (s:Sq n t) {i j:Nat} (h:i<n) (h':j<n):(t.getD i [])[j]?=some (tb t i j):=by
 have hr:(t.getD i []).length=n:=s.row i _ (s.get h);have hl:j<(t.getD i []).length:=by rw [hr];exact h'
 unfold tb;rw [LS (l:=t.getD i []),LO hl];simp
def oN (n:Nat) (t:List (List Nat)) (x:Nat):Prop:=∀ o,o<n->tb t x o=o/\tb t o x=o
instance {n:Nat} {t:List (List Nat)} {x:Nat}:Decidable (oN n t x):=inferInstanceAs (Decidable (∀ o,o<n->tb t x o=o/\tb t o x=o))
def GT.so {n:Nat} {t:List (List Nat)} {e x:Nat} (g:GT n t e) (hx:x<n):oN n t x↔x=e:=by
 constructor
 ·intro h;have h1:=(h e g.elt).1;have h2:=g.unr x hx;rw [h2] at h1;exact h1
 ·rintro rfl o ho;exact ⟨g.unl o ho,g.unr o ho⟩
def bf (n:Nat) (t:List (List Nat)) (e a:Nat):Nat:=((LX n).find? fun b=>decide (tb t a b=e/\tb t b a=e)).getD 0
def Jx {n:Nat} {t:List (List Nat)} {e a b:Nat} (hb:b<n) (h:tb t a b=e/\tb t b a=e) (hn:∀ c,c<b->¬ (tb t a c=e/\tb t c a=e)):bf n t e a=b:=by
 unfold bf;have:(LX n).find? (fun b=>decide (tb t a b=e/\tb t b a=e))=some b:=by
  rw [Rw];refine ⟨by simpa using h,by simpa using hb,fun j hj=>?_⟩
  have:=hn j hj;simp only [Pp,decide_eq_false_iff_not];exact this
 rw [this];rfl
def GT.bk {n:Nat} {t:List (List Nat)} {e a:Nat} (g:GT n t e) (ha:a<n):bf n t e a<n/\tb t a (bf n t e a)=e/\tb t (bf n t e a) a=e:=by
 obtain ⟨b,hb,h⟩:=g.back a ha;unfold bf;cases q:(LX n).find? (fun b=>decide (tb t a b=e/\tb t b a=e)) with
 | none =>
  rw [Rx] at q;have:=q b hb;simp at this;exact this.elim (fun z=>absurd h.1 z) fun z=>absurd h.2 z
 | some c =>
  have h1:=List.find?_some q;have h2:=L9.mp (Rc q);simp only [decide_eq_true_eq] at h1;exact ⟨h2,h1⟩
def bks (n:Nat) (t:List (List Nat)) (e:Nat):List Nat:=(LX n).map (bf n t e)
def prd (t:List (List Nat)) (e:Nat) (l:List Nat):Nat:=l.foldl (tb t) e
def Gd.E3 {n:Nat} {t:List (List Nat)} (g:Gd n t):∀ {l:List Nat} {e:Nat},e<n->(∀ x∈l,x<n)->prd t e l<n
 | [],_,h,_=>h
 | x :: r,e,h,hl=>by
  show prd t (tb t e x) r<n;exact Gd.E3 g (g.lt e x h (hl x L8)) fun y hy=>hl y (L4 _ hy)
def GR {t:List (List Nat)} {e:Nat} {l:List Nat} {i x:Nat} (h:l[i]?=some x):prd t e (l.take (i+1))=tb t (prd t e (l.take i)) x:=by
 unfold prd;rw [MA,h];simp
def c8 {β:Type} (f:Nat->β) (n i:Nat) (h:i<n):((LX n).map f).take (i+1)=((LX n).map f).take i++[f i]:=by
 rw [MA];simp [h]
def mkT (n:Nat) (f:Nat->Nat->Nat):List (List Nat):=(LX n).map fun a=>(LX n).map fun b=>f a b
def JV {n:Nat} {f:Nat->Nat->Nat} {a b:Nat} (ha:a<n) (hb:b<n):tb (mkT n f) a b=f a b:=by
 unfold tb mkT;simp [LS,ha,hb]
def Ky {n:Nat} {f:Nat->Nat->Nat} (h1:1<=n) (h2:n<=23):Sq n (mkT n f):=by
 refine ⟨by simp [mkT],h1,h2,fun i r h=>?_⟩
 have:r∈mkT n f:=LR h;unfold mkT at this;obtain ⟨a,_,rfl⟩:=Ml.mp this;simp
def Kl {n:Nat} {f:Nat->Nat->Nat} {e:Nat} (h1:1<=n) (h2:n<=23) (lt:∀ a b,a<n->b<n->f a b<n) (elt:e<n) (unl:∀ a,a<n->f e a=a) (unr:∀ a,a<n->f a e=a)
  (back:∀ a,a<n->∃ b,b<n/\f a b=e/\f b a=e) (assoc:∀ a b c,a<n->b<n->c<n->f (f a b) c=f a (f b c)):GT n (mkT n f) e:=by
 have q:∀ {a b:Nat},a<n->b<n->tb (mkT n f) a b=f a b:=fun ha hb=>JV ha hb;refine ⟨⟨Ky h1 h2,fun i j hi hj=>by rw [q hi hj];exact lt i j hi hj⟩,elt,fun i hi=>by rw [q elt hi];exact unl i hi,fun i hi=>by rw [q hi elt];exact unr i hi,fun i hi=>?_,fun i j k hi hj hk=>?_⟩
 ·obtain ⟨b,hb,x,y⟩:=back i hi;exact ⟨b,hb,by rw [q hi hb];exact x,by rw [q hb hi];exact y⟩
 ·rw [q hi hj,q hj hk,q (lt i j hi hj) hk,q hi (lt j k hj hk)];exact assoc i j k hi hj hk
structure Ab (m:Nat) (ad:Nat->Nat->Nat):Prop where
 pos:0<m
 lt:∀ x y,x<m->y<m->ad x y<m
 assoc:∀ x y z,x<m->y<m->z<m->ad (ad x y) z=ad x (ad y z)
 comm:∀ x y,x<m->y<m->ad x y=ad y x
 zero:∀ x,x<m->ad x 0=x
 neg:∀ x,x<m->∃ y,y<m/\ad x y=0
structure Tn (m:Nat) (ad:Nat->Nat->Nat) (f:Nat->Nat) (s e:Nat):Prop extends Ab m ad where
 jb:0<s
 flt:∀ x,x<m->f x<m
 fad:∀ x y,x<m->y<m->f (ad x y)=ad (f x) (f y)
 per:∀ x,x<m->Nat.repeat f s x=x
 elt:e<m
 fe:f e=e
def tim (ad:Nat->Nat->Nat) (e:Nat):Nat->Nat
 | 0=>0
 | k+1=>ad (tim ad e k) e
def cyc (m:Nat) (ad:Nat->Nat->Nat) (f:Nat->Nat) (s e I J:Nat):Nat :=
 (let p:=ad (I % m) (Nat.repeat f (I / m) (J % m));if I / m+J / m >= s then ad p e else p)+m * ((I / m+J / m) % s)
section
variable {m:Nat} {ad:Nat->Nat->Nat} {f:Nat->Nat} {s e:Nat}
def ft (T:Tn m ad f s e):∀ (k:Nat) {x:Nat},x<m->Nat.repeat f k x<m
 | 0,_,h=>h
 | k+1,_,h=>T.flt _ (ft T k h)
def pZ (T:Tn m ad f s e):∀ (k:Nat) {x y:Nat},x<m->y<m->Nat.repeat f k (ad x y)=ad (Nat.repeat f k x) (Nat.repeat f k y)
 | 0,_,_,_,_=>rfl
 | k+1,x,y,hx,hy=>by
  show f (Nat.repeat f k (ad x y))=ad (f (Nat.repeat f k x)) (f (Nat.repeat f k y));rw [pZ T k hx hy,T.fad _ _ (ft T k hx) (ft T k hy)]
def HJ (T:Tn m ad f s e):∀ k:Nat,Nat.repeat f k e=e
 | 0=>rfl
 | k+1=>by show f (Nat.repeat f k e)=e;rw [HJ T k,T.fe]
def kb (f:Nat->Nat) (x:Nat):∀ i j:Nat,Nat.repeat f (i+j) x=Nat.repeat f i (Nat.repeat f j x)
 | 0,j=>by rw [Oy];rfl
 | i+1,j=>by
  have e:i+1+j=(i+j)+1:=by omega
  rw [e];show f (Nat.repeat f (i+j) x)=f (Nat.repeat f i (Nat.repeat f j x));rw [kb f x i j]
def Jp (T:Tn m ad f s e) {x:Nat} (hx:x<m) {k:Nat} (hk:k<2 * s):Nat.repeat f (k % s) x=Nat.repeat f k x:=by
 have hs:=T.jb
 by_cases h:k<s
 ·rw [MH h]
 ·have e1:k % s=k - s:=by rw [Nat.mod_eq_sub_mod (by omega),MH (by omega)]
  have e2:k=(k - s)+s:=by omega
  rw [e1]
  conv=>rhs;rw [e2,kb,T.per x hx]
def eC (T:Tn m ad f s e):∀ k,tim ad e k<m
 | 0=>T.pos
 | k+1=>T.lt _ _ (eC T k) T.elt
def Fi (T:Ab m ad) {x:Nat} (hx:x<m):ad 0 x=x:=by rw [T.comm 0 x T.pos hx,T.zero x hx]
def uz (T:Tn m ad f s e):∀ i j,tim ad e (i+j)=ad (tim ad e i) (tim ad e j)
 | i,0=>by rw [Of];show _=ad _ 0;rw [T.zero _ (eC T i)]
 | i,j+1=>by
  show ad (tim ad e (i+j)) e=ad (tim ad e i) (ad (tim ad e j) e);rw [uz T i j,T.assoc _ _ _ (eC T i) (eC T j) T.elt]
def um (T:Tn m ad f s e) (k:Nat):∀ j,Nat.repeat f k (tim ad e j)=tim ad e j
 | 0=>by
  show Nat.repeat f k 0=0;have h0:Nat.repeat f k 0<m:=ft T k T.pos;have h1:ad (Nat.repeat f k 0) (Nat.repeat f k 0)=Nat.repeat f k 0:=by rw [<- pZ T k T.pos T.pos,T.zero 0 T.pos]
  obtain ⟨y,hy,e1⟩:=T.neg _ h0;have h2:ad (ad (Nat.repeat f k 0) (Nat.repeat f k 0)) y=ad (Nat.repeat f k 0) y:=by rw [h1]
  rw [T.assoc _ _ _ h0 h0 hy,e1,T.zero _ h0] at h2;exact h2
 | j+1=>by
  show Nat.repeat f k (ad (tim ad e j) e)=ad (tim ad e j) e;rw [pZ T k (eC T j) T.elt,um T k j,HJ T k]
def jt (T:Tn m ad f s e) {x y i j:Nat} (hx:x<m) (hy:y<m) (hi:i<s) (hj:j<s) :
  cyc m ad f s e (x+m * i) (y+m * j)=ad (ad x (Nat.repeat f i y)) (tim ad e ((i+j) / s))+m * ((i+j) % s):=by
 have hm:=T.pos;have d1:(x+m * i) / m=i:=by rw [N3 _ _ hm,NU hx,Oy]
 have d2:(y+m * j) / m=j:=by rw [N3 _ _ hm,NU hy,Oy]
 have r1:(x+m * i) % m=x:=by rw [NS,MH hx]
 have r2:(y+m * j) % m=y:=by rw [NS,MH hy]
 unfold cyc;rw [d1,d2,r1,r2];dsimp only;have hp:ad x (Nat.repeat f i y)<m:=T.lt _ _ hx (ft T i hy)
 by_cases h:i+j >= s
 ·have q:(i+j) / s=1:=by
   have:i+j=(i+j - s)+s * 1:=by omega
   rw [this,N3 _ _ T.jb,NU (by omega)]
  rw [if_pos h,q];show _=ad _ (ad 0 e)+_;rw [Fi T.toAb T.elt]
 ·have q:(i+j) / s=0:=NU (by omega)
  rw [if_neg h,q];show _=ad _ 0+_;rw [T.zero _ hp]
def dm (m:Nat) (I:Nat):I=I % m+m * (I / m):=(SD I m).symm
def D0 (T:Tn m ad f s e) {I J:Nat} (hI:I<m * s) (hJ:J<m * s):cyc m ad f s e I J<m * s:=by
 have hm:=T.pos;have hi:I / m<s:=Nq hI;have hj:J / m<s:=Nq hJ;rw [dm m I,dm m J,jt T (Mv _ hm) (Mv _ hm) hi hj];have h1:ad (ad (I % m) (Nat.repeat f (I / m) (J % m))) (tim ad e ((I / m+J / m) / s))<m:=T.lt _ _ (T.lt _ _ (Mv _ hm) (ft T _ (Mv _ hm))) (eC T _);have h2:(I / m+J / m) % s<s:=Mv _ T.jb;have h3:m * ((I / m+J / m) % s)+m<=m * s:=by
  rw [<- Oh];exact Nm _ h2
 omega
def oH (T:Tn m ad f s e) {I J L:Nat} (hI:I<m * s) (hJ:J<m * s) (hL:L<m * s):cyc m ad f s e (cyc m ad f s e I J) L=cyc m ad f s e I (cyc m ad f s e J L):=by
 have hm:=T.pos;have hi:I / m<s:=Nq hI;have hj:J / m<s:=Nq hJ;have hl:L / m<s:=Nq hL;rw [dm m I,dm m J,dm m L];generalize I / m=i at hi;generalize J / m=j at hj;generalize L / m=l at hl;have hx:I % m<m:=Mv _ hm;have hy:J % m<m:=Mv _ hm;have hz:L % m<m:=Mv _ hm;generalize I % m=x at hx;generalize J % m=y at hy;generalize L % m=z at hz;have hs:=T.jb;have hij:(i+j) % s<s:=Mv _ hs;have hjl:(j+l) % s<s:=Mv _ hs;have fy:=ft T i hy;have fz:=ft T j hz;have t1:=eC T ((i+j) / s);have t2:=eC T ((j+l) / s);have p1:ad x (Nat.repeat f i y)<m:=T.lt _ _ hx fy;have p2:ad y (Nat.repeat f j z)<m:=T.lt _ _ hy fz;rw [jt T hx hy hi hj,jt T hy hz hj hl,jt T (T.lt _ _ p1 t1) hz hij hl,jt T hx (T.lt _ _ p2 t2) hi hjl];have em:((i+j) % s+l) % s=(i+(j+l) % s) % s:=by rw [Oi,OX,Pu]
 have ed:(i+j) / s+((i+j) % s+l) / s=(j+l) / s+(i+(j+l) % s) / s:=by
  have a1:=OY (i+j) s;have a2:=OY (j+l) s;have a3:=OY ((i+j) % s+l) s;have a4:=OY (i+(j+l) % s) s;rw [em] at a3;have:s * ((i+j) / s+((i+j) % s+l) / s)=s * ((j+l) / s+(i+(j+l) % s) / s):=by
   rw [RO,RO];omega
  exact PK hs this
 rw [em]
 congr 1
 have fz2:Nat.repeat f ((i+j) % s) z<m:=ft T _ hz;have efz:Nat.repeat f ((i+j) % s) z=Nat.repeat f i (Nat.repeat f j z):=by rw [Jp T hz (by omega),kb]
 have fz3:Nat.repeat f i (Nat.repeat f j z)<m:=ft T i fz;rw [pZ T i p2 t2,pZ T i hy fz,um T i,efz];have t3:=eC T (((i+j) % s+l) / s);have t4:=eC T ((i+(j+l) % s) / s);rw [T.assoc _ _ _ p1 t1 fz3,T.comm _ _ t1 fz3,<- T.assoc _ _ _ p1 fz3 t1,T.assoc _ _ _ (T.lt _ _ p1 fz3) t1 t3,<- uz T,ed];rw [T.assoc _ _ _ hx fy fz3,<- T.assoc _ _ _ hx (T.lt _ _ fy fz3) t2,T.assoc _ _ _ (T.lt _ _ hx (T.lt _ _ fy fz3)) t2 t4,<- uz T]
def Je (T:Tn m ad f s e) {I:Nat} (hI:I<m * s):cyc m ad f s e 0 I=I:=by
 have hm:=T.pos;have hi:I / m<s:=Nq hI;have hx:I % m<m:=Mv _ hm;have h:=jt T (x:=0) (y:=I % m) (i:=0) (j:=I / m) hm hx T.jb hi;rw [<- dm m I,Pk,Of,Oy,NU hi,MH hi] at h;rw [h];show ad (ad 0 (I % m)) 0+_=_;rw [Fi T.toAb hx,T.zero _ hx,<- dm m I]
def uY (T:Tn m ad f s e) {I:Nat} (hI:I<m * s):cyc m ad f s e I 0=I:=by
 have hm:=T.pos;have hi:I / m<s:=Nq hI;have hx:I % m<m:=Mv _ hm;have h:=jt T (x:=I % m) (y:=0) (i:=I / m) (j:=0) hx hm hi T.jb;rw [<- dm m I,Pk,Of,Of,NU hi,MH hi] at h;rw [h];have z0:Nat.repeat f (I / m) 0=0:=um T (I / m) 0;show ad (ad (I % m) (Nat.repeat f (I / m) 0)) 0+_=_;rw [z0,T.zero _ hx,T.zero _ hx,<- dm m I]
def vT (T:Tn m ad f s e) {I:Nat} (hI:I<m * s):∃ J,J<m * s/\cyc m ad f s e I J=0:=by
 have hm:=T.pos;have hs:=T.jb;have hi:I / m<s:=Nq hI;have hx:I % m<m:=Mv _ hm;have hj:(s - I / m) % s<s:=Mv _ hs;have hw:ad (I % m) (tim ad e ((I / m+(s - I / m) % s) / s))<m:=T.lt _ _ hx (eC T _);obtain ⟨v,hv,ev⟩:=T.neg _ hw;have hy:Nat.repeat f ((s - I / m) % s) v<m:=ft T _ hv;refine ⟨Nat.repeat f ((s - I / m) % s) v+m * ((s - I / m) % s),?_,?_⟩
 ·have h3:m * ((s - I / m) % s)+m<=m * s:=by
   rw [<- Oh];exact Nm _ hj
  omega
 ·have h:=jt T (x:=I % m) (y:=Nat.repeat f ((s - I / m) % s) v) (i:=I / m) (j:=(s - I / m) % s) hx hy hi hj;rw [<- dm m I] at h;rw [h];have er:Nat.repeat f (I / m) (Nat.repeat f ((s - I / m) % s) v)=v:=by
   rw [<- kb]
   by_cases h0:I / m=0
   ·rw [h0,Nat.sub_zero,Q4];rfl
   ·rw [MH (Nat.sub_lt hs (Nat.pos_of_ne_zero h0))];have:I / m+(s - I / m)=s:=Ry (Ou hi);rw [this,T.per v hv]
  have e0:(I / m+(s - I / m) % s) % s=0:=by
   rw [OX];have:I / m+(s - I / m)=s:=Ry (Ou hi);rw [this,Q4]
  rw [er,e0,Pk,Of,T.assoc _ _ _ hx hv (eC T _),T.comm _ _ hv (eC T _),<- T.assoc _ _ _ hx (eC T _) hv];exact ev
def HA (T:Tn m ad f s e) {I:Nat} (hI:I<m * s):∃ J,J<m * s/\cyc m ad f s e I J=0/\cyc m ad f s e J I=0:=by
 obtain ⟨J,hJ,e1⟩:=vT T hI;obtain ⟨L,hL,e2⟩:=vT T hJ;refine ⟨J,hJ,e1,?_⟩;have hJI:=D0 T hJ hI;have h1:cyc m ad f s e J I=cyc m ad f s e (cyc m ad f s e J I) (cyc m ad f s e J L):=by rw [e2,uY T hJI]
 rw [h1,<- oH T hJI hJ hL,oH T hJ hI hJ,e1,uY T hJ,e2]
end
def lsum (a b c p q:Nat):Nat:=(p+q) % a+a * ((p / a+q / a) % b)+a * b * ((p / (a * b)+q / (a * b)) % c)
section
variable {a b c:Nat}
def HC {x y w:Nat} (hx:x<a):(x+a * y+a * b * w) % a=x:=by
 rw [Qb,Pu,<- RO,NS,MH hx]
def HI {x y w:Nat} (ha:0<a) (hx:x<a):(x+a * y+a * b * w) / a=y+b * w:=by
 rw [Qb,Pu,<- RO,N3 _ _ ha,NU hx,Oy]
def HY {x y w:Nat} (ha:0<a) (hx:x<a) (hy:y<b):(x+a * y+a * b * w) / a % b=y:=by
 rw [HI ha hx,NS,MH hy]
def Ic {x y w:Nat} (ha:0<a) (hb:0<b) (hx:x<a) (hy:y<b):(x+a * y+a * b * w) / (a * b)=w:=by
 rw [<- Sb,HI ha hx,N3 _ _ hb,NU hy,Oy]
def D5 {x y w:Nat} (hx:x<a) (hy:y<b) (hw:w<c):x+a * y+a * b * w<a * b * c:=by
 have h1:a * y+a<=a * b:=by rw [<- Oh];exact Nm _ hy
 have h2:a * b * w+a * b<=a * b * c:=by rw [<- Oh];exact Nm _ hw
 omega
def JQ (ha:0<a) (hb:0<b) (p:Nat):p % a+a * (p / a % b)+a * b * (p / (a * b))=p:=by
 rw [<- Sb,Qb,Pu,<- RO,SD,SD]
def Bl {p:Nat} (hp:p<a * b * c):p / (a * b)<c:=Nq hp
def D7 (ha:0<a) (p q:Nat):lsum a b c p q % a=(p+q) % a:=HC (Mv _ ha)
def E9 (ha:0<a) (hb:0<b) (p q:Nat):lsum a b c p q / a % b=(p / a+q / a) % b:=HY ha (Mv _ ha) (Mv _ hb)
def E4 (ha:0<a) (hb:0<b) (p q:Nat):lsum a b c p q / (a * b)=(p / (a * b)+q / (a * b)) % c:=Ic ha hb (Mv _ ha) (Mv _ hb)
def gB (x y k:Nat):(x % k+y) % k=(x+y) % k:=Oi x k y
def Jg (ha:0<a) (hb:0<b) (hc:0<c):Ab (a * b * c) (lsum a b c) where
 pos:=Oc (Oc ha hb) hc
 lt:=fun x y _ _=>D5 (Mv _ ha) (Mv _ hb) (Mv _ hc)
 comm:=fun x y _ _=>by unfold lsum;rw [Ov x y,Ov (x / a),Ov (x / (a * b))]
 assoc:=fun x y z _ _ _=>by
  have e1:(lsum a b c x y+z) % a=(x+lsum a b c y z) % a:=by
   rw [<- gB,D7 ha,gB,Ov x (lsum a b c y z),<- gB (lsum a b c y z),D7 ha,gB]
   congr 1;omega
  have e2:(lsum a b c x y / a+z / a) % b=(x / a+lsum a b c y z / a) % b:=by
   rw [<- gB,E9 ha hb,gB,Ov (x / a) (lsum a b c y z / a),<- gB (lsum a b c y z / a),E9 ha hb,gB]
   congr 1;omega
  have e3:(lsum a b c x y / (a * b)+z / (a * b)) % c=(x / (a * b)+lsum a b c y z / (a * b)) % c:=by
   rw [E4 ha hb,E4 ha hb,gB,Ov (x / (a * b)) (_ % c),gB]
   congr 1;omega
  show (lsum a b c x y+z) % a+a * ((lsum a b c x y / a+z / a) % b)+a * b * ((lsum a b c x y / (a * b)+z / (a * b)) % c)=(x+lsum a b c y z) % a+a * ((x / a+lsum a b c y z / a) % b)+a * b * ((x / (a * b)+lsum a b c y z / (a * b)) % c);rw [e1,e2,e3]
 zero:=fun x hx=>by
  unfold lsum;rw [SE,SE,Of,Of,Of,MH (Bl hx),JQ ha hb]
 neg:=fun x hx=>by
  have hx1:x % a<a:=Mv _ ha;have hy1:x / a % b<b:=Mv _ hb;have hw1:x / (a * b)<c:=Bl hx;have lx:(a - x % a) % a<a:=Mv _ ha;have ly:(b - x / a % b) % b<b:=Mv _ hb;have lw:(c - x / (a * b)) % c<c:=Mv _ hc;refine ⟨(a - x % a) % a+a * ((b - x / a % b) % b)+a * b * ((c - x / (a * b)) % c),D5 lx ly lw,?_⟩;have f1:(x+((a - x % a) % a+a * ((b - x / a % b) % b)+a * b * ((c - x / (a * b)) % c))) % a=0:=by
   rw [Tb,HC lx,OX];have:x % a+(a - x % a)=a:=by omega
   rw [this,Q4]
  have f2:(x / a+((a - x % a) % a+a * ((b - x / a % b) % b)+a * b * ((c - x / (a * b)) % c)) / a) % b=0:=by
   rw [Tb,HY ha lx ly,OX];have:x / a % b+(b - x / a % b)=b:=by omega
   rw [this,Q4]
  have f3:(x / (a * b)+((a - x % a) % a+a * ((b - x / a % b) % b)+a * b * ((c - x / (a * b)) % c)) / (a * b)) % c=0:=by
   rw [Ic ha hb lx ly,OX];have:x / (a * b)+(c - x / (a * b))=c:=Ry (Ou hw1);rw [this,Q4]
  unfold lsum;rw [f1,f2,f3,Pk,Pk]
end
def dZ (a b c kind u0 u1 u2 p:Nat):Nat :=
 let x:=p % a
 let y:=p / a % b
 let w:=p / (a * b) * u2 % c
 match kind with
 | 1=>y+a * (x+b * w)
 | 2=>(a - y) % a+a * ((x+a - y) % a+b * w)
 | 3=>x+a * ((y+x) % b+b * w)
 | 4=>(x+a / 2 * y) % a+a * (y+b * w)
 | _=>x * u0 % a+a * (y * u1 % b+b * w)
def iter (f:Nat->Nat):Nat->Nat->Nat
 | 0,x=>x
 | n+1,x=>iter f n (f x)
def pw (u m:Nat):Nat->Nat
 | 0=>1
 | n+1=>pw u m n * u % m
def tT (a b c s kind u0 u1 u2:Nat):Bool :=
 (LX (a * b * c)).all fun p=>Nat.blt (dZ a b c kind u0 u1 u2 p) (a * b * c) && (OE (iter (dZ a b c kind u0 u1 u2) s p) p &&
  (LX (a * b * c)).all fun q=>OE (dZ a b c kind u0 u1 u2 (lsum a b c p q)) (lsum a b c (dZ a b c kind u0 u1 u2 p) (dZ a b c kind u0 u1 u2 q)))
def eF (a b s kind:Nat):Bool:=kind == 0 || (kind == 1 && (a == b && s % 2 == 0)) || (kind == 2 && (a == b && s % 3 == 0)) || (kind == 3 && (a % b == 0 && (decide (1<b) && s % b == 0))) || (kind == 4 && (a % 2 == 0 && (b % 2 == 0 && s % 2 == 0)))
def unitsOf (m s:Nat):List Nat:=(LX m).filter fun u=>OE (pw u m s) (1 % m)
def EX:Bool:=(LX 4).all fun s'=>let s:=s'+1
 (LX (23 / s)).all fun a'=>let a:=a'+1
 (LX (23 / (s * a))).all fun b'=>let b:=b'+1
 (LX (23 / (s * a * b))).all fun c'=>let c:=c'+1
 (LX 5).all fun k=>!eF a b s k || ((if OE k 0 then unitsOf a s else [0]).all fun u0=>(if OE k 0 then unitsOf b s else [0]).all fun u1=>(unitsOf c s).all fun u2=>tT a b c s k u0 u1 u2)
set_option maxRecDepth 1000000 in
def Fn:EX=true:=by trivial
def xV (f:Nat->Nat):∀ (n x:Nat),iter f n x=Nat.repeat f n x
 | 0,_=>rfl
 | n+1,x=>by
  show iter f n (f x)=f (Nat.repeat f n x);rw [xV f n (f x)];have h1:=kb f x n 1;have h2:=kb f x 1 n;rw [Ov] at h2;have e:Nat.repeat f n (Nat.repeat f 1 x)=Nat.repeat f 1 (Nat.repeat f n x):=h1.symm.trans h2;exact e
def pI {m s u:Nat}:u∈unitsOf m s↔u<m/\pw u m s=1 % m:=by
 unfold unitsOf;rw [Nj,L9];simp
structure Par (a b c s kind u0 u1 u2:Nat):Prop where
 a1:1<=a
 b1:1<=b
 c1:1<=c
 s1:1<=s
 s4:s<=4
 le:a * b * c * s<=23
 k5:kind<5
 kind:eF a b s kind=true
 v0:u0∈unitsOf a s
 v1:u1∈unitsOf b s
 v2:u2∈unitsOf c s
def oi {x k n:Nat} (hx:1<=x) (hk:1<=k) (h:k * x<=n):x - 1<n / k:=by
 have:x<=n / k:=(Nat.le_div_iff_mul_le (by omega)).mpr (by rw [Ow];exact h)
 omega
def Ip {a b c kind u0 u1 u2:Nat} (h:kind≠0) (h5:kind<5):dZ a b c kind u0 u1 u2=dZ a b c kind 0 0 u2:=by
 match kind,h,h5 with
 | 1,_,_=>rfl
 | 2,_,_=>rfl
 | 3,_,_=>rfl
 | 4,_,_=>rfl
 | 0,h,_=>exact absurd rfl h
def Par.chk {a b c s kind u0 u1 u2:Nat} (P:Par a b c s kind u0 u1 u2):tT a b c s kind u0 u1 u2=true:=by
 have hle:=P.le;have h1:s * a<=23:=by
  have:s * a * (b * c)=a * b * c * s:=by simp only [Ow,Qp]
  have z:s * a * 1<=s * a * (b * c):=Nm _ (Oc P.b1 P.c1);omega
 have h2:s * a * b<=23:=by
  have:s * a * b * c=a * b * c * s:=by simp only [Ow,Qp]
  have z:s * a * b * 1<=s * a * b * c:=Nm _ P.c1;omega
 have h3:s * a * b * c<=23:=by
  have:s * a * b * c=a * b * c * s:=by simp only [Ow,Qp]
  omega
 have sa:1<=s * a:=Oc P.s1 P.a1;have sab:1<=s * a * b:=Oc sa P.b1;have q0:=Fn;unfold EX at q0;have q1:=Mz.mp q0 (s - 1) (L9.mpr (by have:=P.s1;have:=P.s4;omega))
 have es:s - 1+1=s:=by have:=P.s1;omega
 have ea:a - 1+1=a:=by have:=P.a1;omega
 have eb:b - 1+1=b:=by have:=P.b1;omega
 have ec:c - 1+1=c:=by have:=P.c1;omega
 try dsimp only at q1
 rw [es] at q1;have q2:=Mz.mp q1 (a - 1) (L9.mpr (oi P.a1 P.s1 h1))
 try dsimp only at q2
 rw [ea] at q2;have q3:=Mz.mp q2 (b - 1) (L9.mpr (oi P.b1 sa h2))
 try dsimp only at q3
 rw [eb] at q3;have q4:=Mz.mp q3 (c - 1) (L9.mpr (oi P.c1 sab h3))
 try dsimp only at q4
 rw [ec] at q4;have q5:=Mz.mp q4 kind (L9.mpr P.k5);rw [P.kind] at q5;simp only [Bool.not_true,Bool.false_or] at q5
 by_cases hk:kind=0
 ·subst hk;have q6:=Mz.mp q5 u0 P.v0;have q7:=Mz.mp q6 u1 P.v1;exact Mz.mp q7 u2 P.v2
 ·have hb:OE kind 0=false:=by
   cases h:OE kind 0 with
   | false=>rfl
   | true=>exact absurd (Oj h) hk
  rw [hb] at q5;have q6:=Mz.mp q5 0 (LY.mpr rfl);have q7:=Mz.mp q6 0 (LY.mpr rfl);have q8:=Mz.mp q7 u2 P.v2;unfold tT at q8 ⊢;rw [Ip hk P.k5];exact q8
def Par.tn {a b c s kind u0 u1 u2 e:Nat} (P:Par a b c s kind u0 u1 u2) (he:e<a * b * c) (fe:dZ a b c kind u0 u1 u2 e=e):Tn (a * b * c) (lsum a b c) (dZ a b c kind u0 u1 u2) s e:=by
 have q:=P.chk;unfold tT at q;have q':∀ p,p<a * b * c->_:=fun p hp=>Mz.mp q p (L9.mpr hp);simp only [NT,Mz,L9] at q';refine { Jg P.a1 P.b1 P.c1 with jb:=P.s1,flt:=fun x hx=>?_,fad:=fun x y hx hy=>?_,per:=fun x hx=>?_,elt:=he,fe:=fe }
 ·have z:=(q' x hx).1;exact Nat.le_of_ble_eq_true z
 ·exact Oj ((q' x hx).2.2 y hy)
 ·rw [<- xV];exact Oj (q' x hx).2.1
def GT.rel {n:Nat} {t t':List (List Nat)} {e:Nat} (g:GT n t e) (π:List Nat) (hl:π.length=n) (hm:∀ x,x∈π↔x<n) (sq:Sq n t')
  (h:∀ a b,a<n->b<n->tb t' (π.getD a 0) (π.getD b 0)=π.getD (tb t a b) 0):GT n t' (π.getD e 0):=by
 have into:∀ a,a<n->π.getD a 0<n:=fun a ha=>by
  have:π.getD a 0∈π:=by
   rw [LS,LO (by omega)]
   exact Nr _
  exact (hm _).mp this
 have onto:∀ i,i<n->∃ a,a<n/\π.getD a 0=i:=fun i hi=>by
  obtain ⟨a,ha,e'⟩:=SV.mp ((hm i).mpr hi);refine ⟨a,by omega,?_⟩
  rw [LS,LO ha,e'];rfl
 refine ⟨⟨sq,fun i j hi hj=>?_⟩,into e g.elt,fun i hi=>?_,fun i hi=>?_,fun i hi=>?_,fun i j k hi hj hk=>?_⟩
 ·obtain ⟨a,ha,rfl⟩:=onto i hi;obtain ⟨b,hb,rfl⟩:=onto j hj;rw [h a b ha hb];exact into _ (g.lt a b ha hb)
 ·obtain ⟨a,ha,rfl⟩:=onto i hi;rw [h e a g.elt ha,g.unl a ha]
 ·obtain ⟨a,ha,rfl⟩:=onto i hi;rw [h a e ha g.elt,g.unr a ha]
 ·obtain ⟨a,ha,rfl⟩:=onto i hi;obtain ⟨b,hb,x,y⟩:=g.back a ha;exact ⟨π.getD b 0,into b hb,by rw [h a b ha hb,x],by rw [h b a hb ha,y]⟩
 ·obtain ⟨a,ha,rfl⟩:=onto i hi;obtain ⟨b,hb,rfl⟩:=onto j hj;obtain ⟨d,hd,rfl⟩:=onto k hk;rw [h a b ha hb,h b d hb hd,h _ d (g.lt a b ha hb) hd,h a _ ha (g.lt b d hb hd),g.assoc a b d ha hb hd]
def KD {m:Nat} {ad:Nat->Nat->Nat} {f:Nat->Nat} {s e:Nat} (T:Tn m ad f s e) (h:m * s<=23):GT (m * s) (mkT (m * s) (cyc m ad f s e)) 0 :=
 Kl (Oc T.pos T.jb) h (fun _ _ ha hb=>D0 T ha hb) (Oc T.pos T.jb) (fun _ ha=>Je T ha) (fun _ ha=>uY T ha) (fun _ ha=>HA T ha) (fun _ _ _ ha hb hc=>oH T ha hb hc)
def getD_some {α:Type} {l:List α} {i:Nat} (d:α) (h:i<l.length):l[i]?=some (l.getD i d):=by
 rw [LS,LO h];rfl
def Ks {m:Nat} {ad:Nat->Nat->Nat} {f:Nat->Nat} {s e x y i j:Nat} (hx:x<m) (hy:y<m) :
  cyc m ad f s e (x+m * i) (y+m * j)=(if s<=i+j then ad (ad x (Nat.repeat f i y)) e else ad x (Nat.repeat f i y))+m * ((i+j) % s):=by
 have hm:0<m:=by omega
 have d1:(x+m * i) / m=i:=by rw [N3 _ _ hm,NU hx,Oy]
 have d2:(y+m * j) / m=j:=by rw [N3 _ _ hm,NU hy,Oy]
 have r1:(x+m * i) % m=x:=by rw [NS,MH hx]
 have r2:(y+m * j) % m=y:=by rw [NS,MH hy]
 unfold cyc;rw [d1,d2,r1,r2]
def CN (a b c kind u0 u1 u2:Nat):dZ a b c kind u0 u1 u2 0=0:=by
 unfold dZ;have e1:(0:Nat) / (a * b) * u2 % c=0:=by rw [SE,Qx,Pl]
 have e2:(0:Nat) / a % b=0:=by rw [SE,Pl]
 simp only [e1,e2,Pl]
 split <;> simp
def Kg:Bool:=(LX 24).all fun m=>(LX 5).all fun s=>OE m 0 || (OE s 0 || !(unitsOf m s).isEmpty)
def Jo:Kg=true:=by trivial
def FF {m s:Nat} (h1:1<=m) (h2:m<=23) (h3:1<=s) (h4:s<=4):unitsOf m s≠[]:=by
 have q0:=Jo;unfold Kg at q0;have q1:=Mz.mp q0 m (L9.mpr (by omega))
 have q2:=Mz.mp q1 s (L9.mpr (by omega))
 have b1:OE m 0=false:=by
  cases h:OE m 0 with
  | false=>rfl
  | true=>have:=Oj h;omega
 have b2:OE s 0=false:=by
  cases h:OE s 0 with
  | false=>rfl
  | true=>have:=Oj h;omega
 rw [b1,b2] at q2;intro e;rw [e] at q2;exact absurd q2 (by decide)
def sQ (m s i:Nat):((LX (i+1)).filter fun u=>OE (pw u m s) (1 % m))=(if pw i m s=1 % m then ((LX i).filter fun u=>OE (pw u m s) (1 % m))++[i] else (LX i).filter fun u=>OE (pw u m s) (1 % m)):=by
 rw [Pm,Q5]
 by_cases h:pw i m s=1 % m
 ·rw [if_pos h];have:OE (pw i m s) (1 % m)=true:=by rw [h];exact Nat.beq_refl _
  simp [this]
 ·rw [if_neg h];have:OE (pw i m s) (1 % m)=false:=by
   cases q:OE (pw i m s) (1 % m) with
   | false=>rfl
   | true=>exact absurd (Oj q) h
  simp [this]
def Hc {π:List Nat} {k i:Nat} (h:π.Perm (LX i)):(π.take k++i :: π.drop k).Perm (LX (i+1)):=by
 refine R1.trans ?_;rw [Pe,Pm];exact (List.Perm.cons i h).trans (List.perm_append_singleton i (LX i)).symm
def J2 {rows:List (List Nat)} {n i j i' j' x:Nat} (hl:rows.length=n) (hr:∀ (k:Nat) (r:List Nat),rows[k]?=some r->r.length=n) (hi:i<n) (hj:j<n) :
  tb (rows.set i ((rows.getD i []).set j x)) i' j'=if i'=i/\j'=j then x else tb rows i' j':=by
 have hi2:i<rows.length:=by omega
 unfold tb
 by_cases e:i'=i
 ·subst e;have hrow:(rows.getD i' []).length=n:=hr i' _ (by rw [LS,LO hi2];rfl)
  have e1:(rows.set i' ((rows.getD i' []).set j x)).getD i' []=(rows.getD i' []).set j x:=by
   rw [LS,NM hi2];rfl
  rw [e1]
  by_cases e2:j'=j
  ·subst e2;rw [if_pos ⟨rfl,rfl⟩,LS,NM (by omega)]
   rfl
  ·rw [if_neg (fun z=>e2 z.2),LS,N2 (NI e2),<- LS]
 ·rw [if_neg (fun z=>e z.1)];have e1:(rows.set i ((rows.getD i []).set j x)).getD i' []=rows.getD i' []:=by
   rw [LS,N2 (NI e),<- LS]
  rw [e1]
def lg {π:List Nat} {n a:Nat} (h:π.Perm (LX n)) (ha:a<n):π.getD a 0<n:=by
 have hl:π.length=n:=by rw [h.length_eq,M4]
 have:π.getD a 0∈π:=by
  rw [LS,LO (by omega)]
  exact Nr _
 exact L9.mp (h.mem_iff.mp this)
def zP {π:List Nat} {n a b:Nat} (h:π.Perm (LX n)) (ha:a<n) (hb:b<n) (e:π.getD a 0=π.getD b 0):a=b:=by
 have hl:π.length=n:=by rw [h.length_eq,M4]
 have nd:π.Nodup:=h.nodup_iff.mpr O5;have ha':a<π.length:=by omega
 have hb':b<π.length:=by omega
 rw [LS,LS,LO ha',LO hb'] at e;exact (RS nd).mp e
structure Ren (n:Nat) (π:List Nat) (R rows:List (List Nat)) (A B:Nat):Prop where
 len:rows.length=n
 row:∀ (i:Nat) (r:List Nat),rows[i]?=some r->r.length=n
 at_:∀ a b,a<n->b<n->(a<A\/(a=A/\b<B))->tb rows (π.getD a 0) (π.getD b 0)=π.getD (tb R a b) 0
def Ren.put {n:Nat} {π:List Nat} {R rows:List (List Nat)} {A B:Nat} (h:Ren n π R rows A B) (hp:π.Perm (LX n)) (hA:A<n) (hB:B<n) :
  Ren n π R (rows.set (π.getD A 0) ((rows.getD (π.getD A 0) []).set (π.getD B 0) (π.getD (tb R A B) 0))) A (B+1):=by
 have iA:=lg hp hA;have iB:=lg hp hB;refine ⟨by rw [NY];exact h.len,fun i r e=>?_,fun a b ha hb c=>?_⟩
 ·by_cases q:i=π.getD A 0
  ·subst q;rw [NM (by rw [h.len];exact iA)] at e
   cases e;rw [NY];exact h.row (π.getD A 0) _ (getD_some [] (by rw [h.len];exact iA))
  ·rw [N2 (NI q)] at e;exact h.row i r e
 ·rw [J2 h.len h.row iA iB]
  by_cases q:a=A/\b=B
  ·obtain ⟨rfl,rfl⟩:=q;rw [if_pos ⟨rfl,rfl⟩]
  ·rw [if_neg fun z=>q ⟨zP hp ha hA z.1,zP hp hb hB z.2⟩];refine h.at_ a b ha hb ?_;omega
def Ren.next {n:Nat} {π:List Nat} {R rows:List (List Nat)} {A:Nat} (h:Ren n π R rows A n):Ren n π R rows (A+1) 0 :=
 ⟨h.len,h.row,fun a b ha hb c=>h.at_ a b ha hb (by omega)⟩
def Ren.gt {n:Nat} {π:List Nat} {R rows:List (List Nat)} {e:Nat} (h:Ren n π R rows n 0) (hp:π.Perm (LX n)) (g:GT n R e):GT n rows (π.getD e 0) :=
 g.rel π (by rw [hp.length_eq,M4]) (fun x=>by rw [hp.mem_iff,L9]) ⟨h.len,g.pos,g.le,h.row⟩ fun a b ha hb=>h.at_ a b ha hb (.inl ha)
def FX:List (List Nat):=[[2,2,1,3],[7,1,1,3],[5,1,1,4],[4,2,1,2],[3,3,1,2],[8,1,1,2],[4,1,1,2],[2,2,2,2],[3,1,1,4],[2,2,1,2],[5,1,1,2],[9,1,1,2]]
def sub_len:∀ {l1 l2:List Nat},l1.Nodup->(∀ x∈l1,x∈l2)->l1.length<=l2.length
 | [],_,_,_=>MI _
 | a :: l1,l2,nd,h=>by
  have ha:a∈l2:=h a L8;rw [MX] at nd;have ih:=sub_len (l1:=l1) (l2:=l2.erase a) nd.2 fun x hx=>(List.mem_erase_of_ne (show x≠a from fun e=>nd.1 (by rw [<- e];exact hx))).mpr (h x (L4 _ hx))
  rw [List.length_erase_of_mem ha] at ih;have:0<l2.length:=List.length_pos_of_mem ha;rw [MN];omega
def jE {f:Nat->Nat}:∀ {l:List Nat},l.Nodup->(∀ x∈l,∀ y∈l,f x=f y->x=y)->(l.map f).Nodup
 | [],_,_=>by simp
 | a :: l,nd,h=>by
  rw [MX] at nd;rw [My,MX];refine ⟨fun z=>?_,jE nd.2 fun x hx y hy=>h x (L4 _ hx) y (L4 _ hy)⟩;obtain ⟨b,hb,e⟩:=Ml.mp z;exact nd.1 (h b (L4 _ hb) a L8 e ▸ hb)
def vW (p:Nat->Bool):∀ l:List Nat,l.length=(l.filter p).length+(l.filter fun y=>!p y).length
 | []=>rfl
 | a :: l=>by
  have ih:=vW p l;cases h:p a with
  | true =>
   rw [RP h,Qc (by simp [h]),MN,MN]
   omega
  | false =>
   rw [Qc (by simp [h]),RP (by simp [h]),MN,MN]
   omega
def php {n:Nat} {f:Nat->Nat} (h:∀ i,i<=n->f i<n):∃ i j,i<j/\j<=n/\f i=f j:=by
 by_cases q:∃ i j,i<j/\j<=n/\f i=f j
 ·exact q
 ·exfalso
  have nd:((LX (n+1)).map f).Nodup:=jE O5 fun x hx y hy e=>by
   have hx':=L9.mp hx;have hy':=L9.mp hy;rcases Ni x y with z|z|z
   ·exact absurd ⟨x,y,z,by omega,e⟩ q
   ·exact z
   ·exact absurd ⟨y,x,z,by omega,e.symm⟩ q
  have:=sub_len nd (l2:=LX n) fun x hx=>by
   obtain ⟨i,hi,rfl⟩:=Ml.mp hx;exact L9.mpr (h i (by have:=L9.mp hi;omega))
  simp at this;omega
section
variable {n:Nat} {t:List (List Nat)} {e:Nat}
def GT.eX (g:GT n t e) {a:Nat} (ha:a<n):bf n t e a<n:=(g.bk ha).1
def GT.zw (g:GT n t e) {a:Nat} (ha:a<n):tb t a (bf n t e a)=e:=(g.bk ha).2.1
def GT.ve (g:GT n t e) {a:Nat} (ha:a<n):tb t (bf n t e a) a=e:=(g.bk ha).2.2
def GT.kC (g:GT n t e) {x y z:Nat} (hx:x<n) (hy:y<n) (hz:z<n) (h:tb t x y=tb t x z):y=z:=by
 have hb:=g.eX hx;have h1:tb t (bf n t e x) (tb t x y)=tb t (bf n t e x) (tb t x z):=by rw [h]
 rw [<- g.assoc _ _ _ hb hx hy,<- g.assoc _ _ _ hb hx hz,g.ve hx,g.unl y hy,g.unl z hz] at h1;exact h1
def GT.rO (g:GT n t e) {x y z:Nat} (hx:x<n) (hy:y<n) (hz:z<n) (h:tb t y x=tb t z x):y=z:=by
 have hb:=g.eX hx;have h1:tb t (tb t y x) (bf n t e x)=tb t (tb t z x) (bf n t e x):=by rw [h]
 rw [g.assoc _ _ _ hy hx hb,g.assoc _ _ _ hz hx hb,g.zw hx,g.unr y hy,g.unr z hz] at h1;exact h1
def GT.idem (g:GT n t e) {x:Nat} (hx:x<n):tb t x x=x↔x=e:=by
 constructor
 ·intro h;refine g.kC hx hx g.elt ?_;rw [h,g.unr x hx]
 ·rintro rfl;exact g.unl _ hx
def GT.DV (g:GT n t e) {a b:Nat} (ha:a<n) (hb:b<n) (h:tb t a b=e):b=bf n t e a :=
 g.kC ha hb (g.eX ha) (h.trans (g.zw ha).symm)
def aC (t:List (List Nat)) (e a:Nat):Nat->Nat
 | 0=>e
 | k+1=>tb t (aC t e a k) a
variable {a:Nat}
def bE (g:GT n t e) (ha:a<n):∀ k,aC t e a k<n
 | 0=>g.elt
 | k+1=>g.lt _ _ (bE g ha k) ha
def kT (g:GT n t e) (ha:a<n):aC t e a 1=a:=g.unl a ha
def cG (g:GT n t e) (ha:a<n) (i:Nat):∀ j,aC t e a (i+j)=tb t (aC t e a i) (aC t e a j)
 | 0=>(g.unr _ (bE g ha i)).symm
 | j+1=>by
  show tb t (aC t e a (i+j)) a=tb t (aC t e a i) (tb t (aC t e a j) a);rw [cG g ha i j,g.assoc _ _ _ (bE g ha i) (bE g ha j) ha]
def zd (k:Nat):prd t e (Md k a)=aC t e a k:=by
 induction k with
 | zero=>rfl
 | succ k ih =>
  unfold prd at ih ⊢;rw [Om,List.foldl_append,ih];rfl
def Jq (g:GT n t e) (ha:a<n):∃ k,k<n/\aC t e a (k+1)=e:=by
 obtain ⟨i,j,hij,hj,q⟩:=php (f:=aC t e a) (n:=n) fun i _=>bE g ha i;refine ⟨j - i - 1,by omega,?_⟩
 have e1:j=i+(j - i - 1+1):=by omega
 rw [e1,cG g ha] at q;refine (g.kC (bE g ha i) (bE g ha _) g.elt ?_);rw [<- q,g.unr _ (bE g ha i)]
def aZ (n:Nat) (t:List (List Nat)) (e a:Nat):Nat:=((LX n).find? fun k=>decide (aC t e a (k+1)=e)).getD 0+1
def dF (g:GT n t e) (ha:a<n):aZ n t e a<=n/\aC t e a (aZ n t e a)=e/\∀ k,1<=k->k<aZ n t e a->aC t e a k≠e:=by
 obtain ⟨k,hk,h⟩:=Jq g ha;unfold aZ;cases q:(LX n).find? (fun k=>decide (aC t e a (k+1)=e)) with
 | none =>
  rw [Rx] at q;have:=q k hk;simp at this;exact absurd h this
 | some c =>
  rw [Rw] at q;obtain ⟨h1,h2,h3⟩:=q;have h2':c<n:=by simpa using h2
  refine ⟨by show c+1<=n;omega,by simpa using h1,fun k k1 k2 z=>?_⟩
  have k2':k<c+1:=k2;have:=h3 (k - 1) (by omega)
  rw [show k - 1+1=k by omega,z] at this
  simp at this
def f7:1<=aZ n t e a:=RX (MI _)
def i4 (g:GT n t e) (ha:a<n) {o:Nat} (h:aC t e a o=e):∀ k,aC t e a (o * k)=e
 | 0=>rfl
 | k+1=>by rw [Oh,cG g ha,i4 g ha h k,h,g.unl e g.elt]
def rN (g:GT n t e) (ha:a<n) (k:Nat):aC t e a (k % aZ n t e a)=aC t e a k:=by
 have h:=(dF g ha).2.1
 conv=>rhs;rw [<- OY k (aZ n t e a),cG g ha,i4 g ha h,g.unl _ (bE g ha _)]
def zB (g:GT n t e) (ha:a<n) {i j:Nat} (hi:i<aZ n t e a) (hj:j<aZ n t e a) (h:aC t e a i=aC t e a j):i=j:=by
 have key:∀ {i j:Nat},i<j->j<aZ n t e a->aC t e a i=aC t e a j->False:=fun {i j} hij hj h=>by
  have e1:j=i+(j - i):=by omega
  rw [e1,cG g ha] at h;have:=g.kC (bE g ha i) (bE g ha (j - i)) g.elt (by rw [<- h,g.unr _ (bE g ha i)])
  exact (dF g ha).2.2 (j - i) (by omega) (by omega) this
 rcases Ni i j with z|z|z
 ·exact (key z hj h).elim
 ·exact z
 ·exact (key z hi h.symm).elim
def Jy (g:GT n t e) (ha:a<n) {k:Nat} (h:aC t e a k=e):aZ n t e a ∣ k:=by
 have h1:=rN g ha k;rw [h] at h1;have h2:k % aZ n t e a<aZ n t e a:=Mv _ f7;have h3:=zB g ha h2 (i:=k % aZ n t e a) (j:=0) f7 h1;exact Np h3
def zD (g:GT n t e) {P:List Nat} (nd:P.Nodup) (lt:∀ h∈P,h<n) (he:e∈P) (cl:∀ h∈P,∀ k∈P,tb t h k∈P) (bk:∀ h∈P,bf n t e h∈P) :
  ∀ (k:Nat) (S:List Nat),S.length<=k->S.Nodup->(∀ x∈S,x<n)->(∀ x∈S,∀ h∈P,tb t x h∈S)->P.length ∣ S.length
 | 0,S,hk,_,_,_=>by
  have:S.length=0:=by omega
  rw [this];exact Nat.dvd_zero _
 | k+1,[],_,_,_,_=>Nat.dvd_zero _
 | k+1,x :: S,hk,hn,hl,hc=>by
  have hx:x<n:=hl x L8
  let C:=P.map (tb t x)
  have cn:C.Nodup:=jE nd fun y hy z hz q=>g.kC hx (lt y hy) (lt z hz) q;have cs:∀ y∈C,y∈x :: S:=fun y hy=>by
   obtain ⟨h,hh,rfl⟩:=Ml.mp hy;exact hc x L8 h hh
  have xC:x∈C:=Ml.mpr ⟨e,he,g.unr x hx⟩;have ih:=zD g nd lt he cl bk k ((x :: S).filter fun y=>!decide (y∈C)) (by
    have:((x :: S).filter fun y=>!decide (y∈C))=S.filter fun y=>!decide (y∈C):=by
     rw [Qc];simp [xC]
    rw [this];have:=Og (fun y=>!decide (y∈C)) S;rw [MN] at hk;omega)
   (hn.sublist Tc) (fun y hy=>hl y (Nj.mp hy).1) fun y hy h hh=>by
    have hy1:=Nj.mp hy;have hyn:=hl y hy1.1;refine Nj.mpr ⟨hc y hy1.1 h hh,?_⟩;have ny:y∉C:=by simpa using hy1.2
    simp only [Pp,decide_eq_false_iff_not];intro z;obtain ⟨h',hh',q⟩:=Ml.mp z;have hb:=bk h hh;refine ny (Ml.mpr ⟨tb t h' (bf n t e h),cl h' hh' _ hb,?_⟩);rw [<- g.assoc _ _ _ hx (lt h' hh') (lt _ hb),q,g.assoc _ _ _ hyn (lt h hh) (lt _ hb),g.zw (lt h hh),g.unr y hyn]
  have e1:((x :: S).filter fun y=>decide (y∈C)).length=P.length:=by
   have l1:((x :: S).filter fun y=>decide (y∈C)).length<=C.length:=sub_len (hn.sublist Tc) fun y hy=>by simpa using (Nj.mp hy).2
   have l2:C.length<=((x :: S).filter fun y=>decide (y∈C)).length:=sub_len cn fun y hy=>Nj.mpr ⟨cs y hy,by simpa using hy⟩
   have l3:C.length=P.length:=LV ..;omega
  have e2:(x :: S).length=((x :: S).filter fun y=>decide (y∈C)).length+((x :: S).filter fun y=>!decide (y∈C)).length:=vW _ _;rw [e2,e1];exact (Nat.dvd_add_right (Nat.dvd_refl _)).mpr ih
def EC (g:GT n t e) (ha:a<n):aZ n t e a ∣ n:=by
 let P:=(LX (aZ n t e a)).map (aC t e a)
 have mem:∀ k,aC t e a k∈P:=fun k=>by
  rw [<- rN g ha k];exact Ml.mpr ⟨_,L9.mpr (Mv _ f7),rfl⟩
 have frm:∀ h∈P,∃ k,k<aZ n t e a/\aC t e a k=h:=fun h hh=>by
  obtain ⟨k,hk,q⟩:=Ml.mp hh;exact ⟨k,L9.mp hk,q⟩
 have r:=zD g (P:=P) (jE O5 fun x hx y hy q=>zB g ha (L9.mp hx) (L9.mp hy) q)
  (fun h hh=>by obtain ⟨k,_,rfl⟩:=frm h hh;exact bE g ha k) (mem 0)
  (fun h hh k hk=>by
   obtain ⟨i,_,rfl⟩:=frm h hh;obtain ⟨j,_,rfl⟩:=frm k hk;rw [<- cG g ha];exact mem _)
  (fun h hh=>by
   obtain ⟨i,hi,rfl⟩:=frm h hh;have q:tb t (aC t e a i) (aC t e a (aZ n t e a - i))=e:=by
    rw [<- cG g ha,show i+(aZ n t e a - i)=aZ n t e a by omega]
    exact (dF g ha).2.1
   rw [<- g.DV (bE g ha i) (bE g ha _) q];exact mem _)
  n (LX n) (by simp) O5 (fun x hx=>L9.mp hx) fun x hx h hh=>by
   obtain ⟨k,_,rfl⟩:=frm h hh;exact L9.mpr (g.lt _ _ (L9.mp hx) (bE g ha k))
 have e1:P.length=aZ n t e a:=by simp [P]
 rw [e1,M4] at r;exact r
def Kc (g:GT n t e) (ha:a<n):aC t e a n=e:=by
 obtain ⟨k,hk⟩:=EC g ha
 conv=>lhs;rw [hk]
 exact i4 g ha (dF g ha).2.1 k
end
structure cX (l:List Nat) (k:Nat):Prop where
 pos:1<=k
 all:∀ s∈l,k % s=0
 least:∀ j,1<=j->j<k->∃ s,s∈l/\j % s≠0
def cX.uni {l:List Nat} {k k':Nat} (h:cX l k) (h':cX l k'):k=k':=by
 rcases Ni k k' with z|z|z
 ·obtain ⟨s,hs,q⟩:=h'.least k h.pos z;exact absurd (h.all s hs) q
 ·exact z
 ·obtain ⟨s,hs,q⟩:=h.least k' h'.pos z;exact absurd (h'.all s hs) q
def bnd:List Nat->Nat
 | []=>1
 | s :: l=>s * bnd l
def Br:∀ {l:List Nat},(∀ s∈l,1<=s)->1<=bnd l
 | [],_=>Ma _
 | s :: l,h=>Oc (h s L8) (Br fun x hx=>h x (L4 _ hx))
def Bk:∀ {l:List Nat} {s:Nat},s∈l->bnd l % s=0
 | a :: l,s,h=>by
  rcases Mp.mp h with z|z
  ·subst z;exact Nat.mul_mod_right s (bnd l)
  ·have ih:=Bk z;obtain ⟨c,hc⟩:=Np ih;show a * bnd l % s=0;rw [hc,Qp];exact Nat.mul_mod_right s _
def jU:∀ {l r:List Nat},l.Pairwise (· < ·)->r.Pairwise (· < ·)->(∀ x,x∈l↔x∈r)->l=r
 | [],[],_,_,_=>rfl
 | [],b :: r,_,_,h=>absurd ((h b).mpr L8) (by simp)
 | a :: l,[],_,_,h=>absurd ((h a).mp L8) (by simp)
 | a :: l,b :: r,hl,hr,h=>by
  rw [Pa] at hl hr;have e:a=b:=by
   rcases Mp.mp ((h a).mp L8) with z|z
   ·exact z
   ·rcases Mp.mp ((h b).mpr L8) with y|y
    ·exact y.symm
    ·have h1:=hr.1 a z;have h2:=hl.1 b y;omega
  subst e;refine congrArg (a :: ·) (jU hl.2 hr.2 fun x=>?_);constructor
  ·intro hx;rcases Mp.mp ((h x).mp (L4 _ hx)) with z|z
   ·have:=hl.1 x hx;omega
   ·exact z
  ·intro hx;rcases Mp.mp ((h x).mpr (L4 _ hx)) with z|z
   ·have:=hr.1 x hx;omega
   ·exact z
def pS:∀ {l:List Nat},l.Nodup->l.Pairwise (·<=·)->l.Pairwise (· < ·)
 | [],_,_=>.nil
 | a :: l,nd,h=>by
  rw [MX] at nd;rw [Pa] at h ⊢;refine ⟨fun b hb=>?_,pS nd.2 h.2⟩;have h1:=h.1 b hb;have h2:a≠b:=fun z=>nd.1 (by rw [z];exact hb)
  omega
def bQ {l:List Nat} (h:l.Pairwise (· < ·)):l.Nodup:=h.imp fun z=>Mc z
def ei {l:List Nat} {n:Nat} (nd:l.Nodup) (h:∀ x∈l,x<n):l.length<=n:=by
 have:=sub_len nd (l2:=LX n) fun x hx=>L9.mpr (h x hx)
 simpa using this
section
variable {n:Nat} {t:List (List Nat)} {e:Nat}
def Ft (g:GT n t e) {x:Nat} (hx:x<n):∀ (l:List Nat) {a:Nat},a<n->(∀ y∈l,y<n)->prd t (tb t x a) l=tb t x (prd t a l)
 | [],_,_,_=>rfl
 | y :: l,a,ha,hl=>by
  have hy:=hl y L8;show prd t (tb t (tb t x a) y) l=tb t x (prd t (tb t a y) l);rw [g.assoc x a y hx ha hy];exact Ft g hx l (g.lt a y ha hy) fun z hz=>hl z (L4 _ hz)
def yb (g:GT n t e) {x:Nat} (hx:x<n) {l:List Nat} (hl:∀ y∈l,y<n):prd t x l=tb t x (prd t e l):=by
 rw [<- Ft g hx l g.elt hl,g.unr x hx]
def BD (a:Nat) (l r:List Nat):prd t a (l++r)=prd t (prd t a l) r:=by
 unfold prd;rw [List.foldl_append]
structure Gen (n:Nat) (t:List (List Nat)) (e:Nat) (S P:List Nat):Prop where
 srt:P.Pairwise (· < ·)
 lt:∀ x∈P,x<n
 un:e∈P
 cl:∀ x∈P,∀ s∈S,tb t x s∈P
 wd:∀ x∈P,∃ l,(∀ y∈l,y∈S)/\prd t e l=x
structure IsPart (n:Nat) (t:List (List Nat)) (P:List Nat):Prop where
 srt:P.Pairwise (· < ·)
 lt:∀ x∈P,x<n
 ne:P≠[]
 cl:∀ x∈P,∀ y∈P,tb t x y∈P
variable {S P:List Nat}
def Gen.walk (G:Gen n t e S P):∀ (l:List Nat) {x:Nat},x∈P->(∀ y∈l,y∈S)->prd t x l∈P
 | [],_,hx,_=>hx
 | y :: l,x,hx,hl=>G.walk l (G.cl x hx y (hl y L8)) fun z hz=>hl z (L4 _ hz)
def Gen.part (G:Gen n t e S P) (g:GT n t e) (hS:∀ s∈S,s<n):IsPart n t P:=by
 refine ⟨G.srt,G.lt,List.ne_nil_of_mem G.un,fun x hx y hy=>?_⟩;obtain ⟨l,hl,rfl⟩:=G.wd y hy;rw [<- yb g (G.lt x hx) fun z hz=>hS z (hl z hz)];exact G.walk l hx hl
def IsPart.pow (h:IsPart n t P) (g:GT n t e) {x:Nat} (hx:x∈P):∀ k,aC t e x (k+1)∈P
 | 0=>by rw [kT g (h.lt x hx)];exact hx
 | k+1=>h.cl _ (h.pow g hx k) _ hx
def IsPart.un (h:IsPart n t P) (g:GT n t e):e∈P:=by
 obtain ⟨x,hx⟩:=List.exists_mem_of_ne_nil _ h.ne;have o:=dF g (h.lt x hx);have:=h.pow g hx (aZ n t e x - 1);rw [show aZ n t e x - 1+1=aZ n t e x by have:=f7 (n:=n) (t:=t) (e:=e) (a:=x);omega,o.2.1] at this
 exact this
def IsPart.bk (h:IsPart n t P) (g:GT n t e) {x:Nat} (hx:x∈P):bf n t e x∈P:=by
 have hn:=h.lt x hx;have o:=dF g hn;have op:1<=aZ n t e x:=f7;have q:tb t x (aC t e x (aZ n t e x - 1))=e:=by
  have:=cG g hn 1 (aZ n t e x - 1);rw [show 1+(aZ n t e x - 1)=aZ n t e x by omega,o.2.1,kT g hn] at this
  exact this.symm
 rw [<- g.DV hn (bE g hn _) q];cases h1:aZ n t e x - 1 with
 | zero=>exact h.un g
 | succ k=>exact h.pow g hx k
def IsPart.len (h:IsPart n t P):P.length<=n:=ei (bQ h.srt) h.lt
def Gen.len (G:Gen n t e S P):P.length<=n:=ei (bQ G.srt) G.lt
def Gen.has (G:Gen n t e S P) (g:GT n t e) {s:Nat} (hs:s∈S) (hn:s<n):s∈P:=by
 have:=G.cl e G.un s hs;rw [g.unl s hn] at this;exact this
def Gen.least (G:Gen n t e S P) {R:List Nat} (he:e∈R) (cl:∀ x∈R,∀ s∈S,tb t x s∈R):∀ x∈P,x∈R:=fun x hx=>by
 obtain ⟨l,hl,rfl⟩:=G.wd x hx;have key:∀ (l:List Nat) {a:Nat},a∈R->(∀ y∈l,y∈S)->prd t a l∈R:=fun l=>by
  induction l with
  | nil=>intro a ha _;exact ha
  | cons y r ih=>intro a ha hy;exact ih (cl a ha y (hy y L8)) fun z hz=>hy z (L4 _ hz)
 exact key l he hl
def Gen.uni {S' P':List Nat} (G:Gen n t e S P) (G':Gen n t e S' P') (h:∀ s,s∈S↔s∈S'):P=P' :=
 jU G.srt G'.srt fun x=>⟨G.least G'.un (fun y hy s hs=>G'.cl y hy s ((h s).mp hs)) x,G'.least G.un (fun y hy s hs=>G.cl y hy s ((h s).mpr hs)) x⟩
structure gk (n:Nat) (t:List (List Nat)) (e:Nat) (S F:List Nat) (A:Nat):Prop where
 nd:F.Nodup
 lt:∀ x∈F,x<n
 un:e∈F
 le:A<=F.length
 cl:∀ i x,i<A->F[i]?=some x->∀ s∈S,tb t x s∈F
 wd:∀ x∈F,∃ l,(∀ y∈l,y∈S)/\prd t e l=x
def gk.len {F:List Nat} {A:Nat} (G:gk n t e S F A):F.length<=n:=ei G.nd G.lt
def gk.put {F:List Nat} {A x s:Nat} (G:gk n t e S F A) (g:GT n t e) (hx:x∈F) (hs:s∈S) (hn:s<n) (h:tb t x s∉F):gk n t e S (F++[tb t x s]) A:=by
 refine ⟨?_,fun y hy=>?_,NJ _ G.un,by rw [Mq];have:=G.le;omega,fun i y hi e' r hr=>?_,fun y hy=>?_⟩
 ·rw [Ro];exact ⟨G.nd,by simp,fun a ha b hb=>by rw [LY.mp hb];exact fun z=>h (z ▸ ha)⟩
 ·rcases Mb.mp hy with z|z
  ·exact G.lt y z
  ·rw [LY.mp z];exact g.lt x s (G.lt x hx) hn
 ·rw [MG (Mm hi G.le)] at e';exact NJ _ (G.cl i y hi e' r hr)
 ·rcases Mb.mp hy with z|z
  ·exact G.wd y z
  ·obtain ⟨l,hl,q⟩:=G.wd x hx;refine ⟨l++[s],fun u hu=>?_,?_⟩
   ·rcases Mb.mp hu with z' | z'
    ·exact hl u z'
    ·rw [LY.mp z'];exact hs
   ·rw [BD,q,LY.mp z];rfl
def gk.next {F:List Nat} {A x:Nat} (G:gk n t e S F A) (hx:F[A]?=some x) (h:∀ s∈S,tb t x s∈F):gk n t e S F (A+1) :=
 ⟨G.nd,G.lt,G.un,(LQ.mp hx).1,fun i y hi e'=>by
  rcases Mu i A with z|z
  ·exact G.cl i y z e'
  ·have:i=A:=by omega
   subst this;rw [hx] at e';cases e';exact h,G.wd⟩
def gk.gen {F P:List Nat} {A:Nat} (G:gk n t e S F A) (hA:F.length<=A) (hp:P.Perm F) (hs:P.Pairwise (·<=·)):Gen n t e S P:=by
 refine ⟨pS (hp.nodup_iff.mpr G.nd) hs,fun x hx=>G.lt x (hp.mem_iff.mp hx),hp.mem_iff.mpr G.un,fun x hx s hs'=>?_,fun x hx=>G.wd x (hp.mem_iff.mp hx)⟩;obtain ⟨i,hi,e'⟩:=SV.mp (hp.mem_iff.mp hx);exact hp.mem_iff.mpr (G.cl i x (by omega) (by rw [LO hi,e']) s hs')
end
def cZ (n:Nat) (t:List (List Nat)) (e a b:Nat):Nat:=tb t (tb t b a) (bf n t e b)
def iD (n:Nat) (t:List (List Nat)) (e:Nat) (R:List Nat):List Nat:=R.flatMap fun a=>R.map fun b=>tb t (tb t (tb t a b) (bf n t e a)) (bf n t e b)
def m6 {n:Nat} {t:List (List Nat)} {e x:Nat} {R:List Nat}:x∈iD n t e R↔∃ a,a∈R/\∃ b,b∈R/\tb t (tb t (tb t a b) (bf n t e a)) (bf n t e b)=x:=by
 unfold iD;simp only [List.mem_flatMap,Ml]
def Gen.congr {n:Nat} {t:List (List Nat)} {e:Nat} {S S' M:List Nat} (G:Gen n t e S M) (h:∀ x,x∈S↔x∈S'):Gen n t e S' M :=
 ⟨G.srt,G.lt,G.un,fun x hx s hs=>G.cl x hx s ((h s).mpr hs),fun x hx=>by
  obtain ⟨l,hl,e⟩:=G.wd x hx;exact ⟨l,fun y hy=>(h y).mp (hl y hy),e⟩⟩
structure Words (n:Nat) (t:List (List Nat)) (e:Nat) (S R:List Nat) (W:List (List Nat)):Prop where
 len:W.length=R.length
 word:∀ (i r:Nat) (w:List Nat),R[i]?=some r->W[i]?=some w->(∀ y∈w,y∈S)/\w.length<=n/\prd t e w=r/\(r=e->w=[])
section
variable {n:Nat} {t:List (List Nat)} {e:Nat} {R:List Nat}
end
section
variable {n:Nat} {t:List (List Nat)} {e:Nat} {S F:List Nat} {W:List (List Nat)}
structure ip (t:List (List Nat)) (e:Nat) (S F:List Nat) (W:List (List Nat)):Prop where
 len:W.length=F.length
 fst:F[0]?=some e
 word:∀ (i f:Nat) (w:List Nat),F[i]?=some f->W[i]?=some w->(∀ y∈w,y∈S)/\w.length<=i/\prd t e w=f
def ip.one:ip t e S [e] [[]]:=by
 refine ⟨rfl,rfl,fun i f w h1 h2=>?_⟩;cases i with
 | zero =>
  have e1:e=f:=by simpa using h1
  have e2:[]=w:=by simpa using h2
  subst e1 e2;exact ⟨by simp,Ma _,rfl⟩
 | succ i=>simp at h1
def ip.put (G:ip t e S F W) {k a s:Nat} {wa:List Nat} (hk:F[k]?=some a) (hw:W[k]?=some wa) (hs:s∈S):ip t e S (F++[tb t a s]) (W++[wa++[s]]):=by
 obtain ⟨q1,q2,q3⟩:=G.word k a wa hk hw;have kl:k<F.length:=(LQ.mp hk).1;refine ⟨by simp [G.len],by rw [MG (by omega)];exact G.fst,fun i f w h1 h2=>?_⟩
 rcases Ni i F.length with z|z|z
 ·rw [MG z] at h1;rw [MG (by rw [G.len];exact z)] at h2
  exact G.word i f w h1 h2
 ·rw [z,MS (Ma _)] at h1;rw [z,<- G.len,MS (Ma _)] at h2;have e1:tb t a s=f:=by simpa using h1
  have e2:wa++[s]=w:=by simpa using h2
  subst e1 e2;refine ⟨fun y hy=>?_,by simp;omega,by rw [BD,q3];rfl⟩
  rcases Mb.mp hy with y1|y1
  ·exact q1 y y1
  ·rw [LY.mp y1];exact hs
 ·have:(F++[tb t a s]).length<=i:=by simp;omega
  rw [MD this] at h1;cases h1
def ip.words (G:ip t e S F W) (nd:F.Nodup) (hn:F.length<=n) {R:List Nat} {V:List (List Nat)} (hl:V.length=R.length) (h:∀ (i r:Nat) (w:List Nat),R[i]?=some r->V[i]?=some w->∃ j:Nat,F[j]?=some r/\W[j]?=some w):Words n t e S R V:=by
 refine ⟨hl,fun i r w h1 h2=>?_⟩;obtain ⟨j,j1,j2⟩:=h i r w h1 h2;obtain ⟨q1,q2,q3⟩:=G.word j r w j1 j2;have jl:j<F.length:=(LQ.mp j1).1;refine ⟨q1,by omega,q3,fun z=>?_⟩
 have j0:j=0:=by
  obtain ⟨l0,e0⟩:=LQ.mp G.fst;obtain ⟨l1,e1⟩:=LQ.mp j1;rcases NZ j with y|y
  ·exact y
  ·exact absurd (e0.trans (z.symm.trans e1.symm)) ((Mw.mp nd) 0 j l0 l1 y)
 rw [j0] at q2;exact O3.mp (by omega)
end
section
variable {n:Nat} {t:List (List Nat)} {e:Nat} {R:List Nat}
def mS (n:Nat) (t:List (List Nat)) (e:Nat) (R:List Nat) (b:Nat):Option Nat->Prop
 | none=>∀ h∈R,cZ n t e h b∈R
 | some h=>h∈R/\cZ n t e h b∉R/\∀ h'∈R,h' < h->cZ n t e h' b∈R
end
section
variable {t:List (List Nat)} {R M:List Nat} {m:Nat}
def iY (t:List (List Nat)) (R M:List Nat) (m j k:Nat):Prop:=M.getD (R.idxOf (tb t (R.getD j 0) (R.getD k 0))) 0=(M.getD j 0+M.getD k 0) % m
def fB (t:List (List Nat)) (R M:List Nat) (m:Nat):Option (Nat×Nat)->Prop
 | none=>∀ j,j<R.length->∀ k,k<R.length->iY t R M m j k
 | some (a,b)=>∃ j k,j<R.length/\k<R.length/\R.getD j 0=a/\R.getD k 0=b/\¬ iY t R M m j k/\(∀ j',j' < j->∀ k',k' < R.length->iY t R M m j' k')/\∀ k',k' < k->iY t R M m j k'
def fB.uni {o o':Option (Nat×Nat)} (h:fB t R M m o) (h':fB t R M m o'):o=o':=by
 cases o with
 | none =>
  cases o' with
  | none=>rfl
  | some p =>
   obtain ⟨a,b⟩:=p;obtain ⟨j,k,hj,hk,_,_,q,_⟩:=h';exact absurd (h j hj k hk) q
 | some p =>
  obtain ⟨a,b⟩:=p;obtain ⟨j,k,hj,hk,ea,eb,q,q1,q2⟩:=h;cases o' with
  | none=>exact absurd (h' j hj k hk) q
  | some p' =>
   obtain ⟨a',b'⟩:=p';obtain ⟨j',k',hj',hk',ea',eb',q',q1',q2'⟩:=h';have ej:j=j':=by
    rcases Ni j j' with z|z|z
    ·exact absurd (q1' j z k hk) q
    ·exact z
    ·exact absurd (q1 j' z k' hk') q'
   subst ej;have ek:k=k':=by
    rcases Ni k k' with z|z|z
    ·exact absurd (q2' k z) q
    ·exact z
    ·exact absurd (q2 k' z) q'
   subst ek;rw [<- ea,<- eb,<- ea',<- eb']
def kf {l:List Nat} {x:Nat} (h:x∈l):l[l.idxOf x]?=some x:=by
 rw [LO (MZ h)];simp
def vt:∀ {l:List Nat} {x i:Nat},i<l.idxOf x->l[i]?≠some x
 | [],_,_,h=>absurd h (by simp)
 | y :: l,x,i,h=>by
  rw [List.idxOf_cons] at h
  by_cases e:y=x
  ·subst e;simp at h
  ·have hb:(y == x)=false:=by simp [e]
   rw [hb] at h;cases i with
   | zero=>simpa using e
   | succ i =>
    have h':i<l.idxOf x:=by simpa using h
    simpa using vt h'
end
section
variable {n e:Nat} {t:List (List Nat)}
def mkO (R W:List Nat) (x:Nat):Nat:=W.getD (R.idxOf x) 0
structure IsW (t:List (List Nat)) (R W:List Nat) (m:Nat):Prop where
 len:W.length=R.length
 lt:∀ w∈W,w<m
 add:∀ x∈R,∀ y∈R,mkO R W (tb t x y)=(mkO R W x+mkO R W y) % m
def kA {R:List Nat} {f:Nat->Nat} {x:Nat} (hx:x∈R):mkO R (R.map f) x=f x:=by
 unfold mkO;rw [LS,Mn,kf hx];rfl
def f6:∀ {R:List Nat},R.Nodup->∀ {i x:Nat},R[i]?=some x->R.idxOf x=i
 | [],_,i,x,h=>by simp at h
 | a :: R,nd,0,x,h=>by
  simp at h;subst h;simp
 | a :: R,nd,i+1,x,h=>by
  simp at h;rw [MX] at nd;have hx:=LR h;have ne:a≠x:=fun q=>nd.1 (q ▸ hx);rw [List.idxOf_cons,show (a == x)=false from by simpa using ne,f6 nd.2 h]
  rfl
def map_mk {R W:List Nat} (nd:R.Nodup) (h:W.length=R.length):R.map (mkO R W)=W:=by
 apply Oa;intro i;rw [Mn]
 by_cases c:i<R.length
 ·have e1:=LO c;rw [e1];show some (mkO R W R[i])=_;unfold mkO;rw [f6 nd e1,LS,LO (by omega)]
  rfl
 ·rw [MD (by omega),MD (by omega)]
  rfl
def IsW.mlt {R W:List Nat} {m:Nat} (h:IsW t R W m) {x:Nat} (hx:x∈R):mkO R W x<m:=by
 have il:=MZ hx;have:=h.len;unfold mkO;rw [LS,LO (by omega)]
 exact h.lt _ (Nr _)
def Bz {R:List Nat} {m:Nat} {f:Nat->Nat} (p:IsPart n t R) (hl:∀ x∈R,f x<m) (ha:∀ x∈R,∀ y∈R,f (tb t x y)=(f x+f y) % m):IsW t R (R.map f) m where
 len:=by simp
 lt:=fun w hw=>by
  obtain ⟨x,hx,rfl⟩:=Ml.mp hw;exact hl x hx
 add:=fun x hx y hy=>by
  rw [kA (p.cl x hx y hy),kA hx,kA hy];exact ha x hx y hy
def EH {a m:Nat} (h:a<m) (q:a=(a+a) % m):a=0:=by
 rcases Mu (a+a) m with c|c
 ·rw [MH c] at q;omega
 ·rw [Nat.mod_eq_sub_mod c,MH (by omega)] at q;omega
def IsW.un {R W:List Nat} {m:Nat} (h:IsW t R W m) (g:GT n t e) (p:IsPart n t R):mkO R W e=0:=by
 have q:=h.add e (p.un g) e (p.un g);rw [g.unl _ g.elt] at q;exact EH (h.mlt (p.un g)) q
def IsPart.pw {R:List Nat} (p:IsPart n t R) (g:GT n t e) {x:Nat} (hx:x∈R):∀ i,aC t e x i∈R
 | 0=>p.un g
 | i+1=>p.cl _ (p.pw g hx i) _ hx
def IsW.pow {R W:List Nat} {m:Nat} (h:IsW t R W m) (g:GT n t e) (p:IsPart n t R) {x:Nat} (hx:x∈R):∀ i,mkO R W (aC t e x i)=i * mkO R W x % m
 | 0=>by
  rw [Qx,Pl];exact h.un g p
 | i+1=>by
  show mkO R W (tb t (aC t e x i) x)=_;rw [h.add _ (p.pw g hx i) _ hx,h.pow g p hx i,Oi,PY]
structure cN (n:Nat) (t:List (List Nat)) (e:Nat) (R M:List Nat) (x m k:Nat):Prop where
 pt:IsPart n t R
 w:IsW t R M m
 xn:x<n
 st:∀ h∈R,cZ n t e h x∈R
 kp:∀ h∈R,mkO R M (cZ n t e h x)=mkO R M h
 k1:1<=k
 kin:aC t e x k∈R
 lK:∀ i,1<=i->i<k->aC t e x i∉R
 m1:0<m
 all:aC t e x m=e
variable {R M:List Nat} {x m k:Nat}
def Iq (g:GT n t e) {a b:Nat} (ha:a<n) (hb:b<n):tb t b a=tb t (cZ n t e a b) b:=by
 unfold cZ;rw [g.assoc _ _ _ (g.lt _ _ hb ha) (g.eX hb) hb,g.ve hb,g.unr _ (g.lt _ _ hb ha)]
def cN.cj (T:cN n t e R M x m k) (g:GT n t e):∀ i,∀ h∈R,∃ c,c∈R/\mkO R M c=mkO R M h/\tb t (aC t e x i) h=tb t c (aC t e x i)
 | 0,h,hh=>⟨h,hh,rfl,by
  have hn:=T.pt.lt h hh;show tb t e h=tb t h e;rw [g.unl _ hn,g.unr _ hn]⟩
 | i+1,h,hh=>by
  have hn:=T.pt.lt h hh;obtain ⟨c,c1,c2,c3⟩:=T.cj g i _ (T.st h hh);have cn:=T.pt.lt c c1;have pn:=bE g T.xn i;have kn:=T.pt.lt _ (T.st h hh);refine ⟨c,c1,c2.trans (T.kp h hh),?_⟩;show tb t (tb t (aC t e x i) x) h=tb t c (tb t (aC t e x i) x);rw [g.assoc _ _ _ pn T.xn hn,Iq g hn T.xn,<- g.assoc _ _ _ pn kn T.xn,c3,g.assoc _ _ _ cn pn T.xn]
def lay (t:List (List Nat)) (e x:Nat) (R:List Nat) (k:Nat):List Nat:=(LX k).flatMap fun j=>R.map fun h=>tb t h (aC t e x j)
def zu:lay t e x R (k+1)=lay t e x R k++R.map fun h=>tb t h (aC t e x k):=by
 unfold lay;rw [Pm,Td];simp
def eQ {y:Nat}:y∈lay t e x R k↔∃ j,j<k/\∃ h,h∈R/\tb t h (aC t e x j)=y:=by
 unfold lay;rw [List.mem_flatMap];constructor
 ·rintro ⟨j,hj,hy⟩;obtain ⟨h,hh,q⟩:=Ml.mp hy;exact ⟨j,L9.mp hj,h,hh,q⟩
 ·rintro ⟨j,hj,h,hh,q⟩;exact ⟨j,L9.mpr hj,Ml.mpr ⟨h,hh,q⟩⟩
def uO:(lay t e x R k).length=k * R.length:=by
 induction k with
 | zero=>simp [lay]
 | succ k ih=>rw [zu,Mq,ih,LV,PY]
def cN.one (T:cN n t e R M x m k) (g:GT n t e) {h h' i j:Nat} (hh:h∈R) (hh':h'∈R) (hi:i<k) (hj:j<k) (q:tb t h (aC t e x i)=tb t h' (aC t e x j)):i=j/\h=h':=by
 have pn:=fun j=>bE g T.xn j;have key:∀ {h h' i j:Nat},h∈R->h'∈R->i<=j->j<k->tb t h (aC t e x i)=tb t h' (aC t e x j)->i=j:=by
  intro h h' i j hh hh' ij hj e1;have hn:=T.pt.lt h hh;have hn':=T.pt.lt h' hh';rcases Mu i j with c|c
  ·exfalso
   rw [show j=(j - i)+i by omega,cG g T.xn,<- g.assoc _ _ _ hn' (pn _) (pn _)] at e1
   have e2:=g.rO (pn i) hn (g.lt _ _ hn' (pn _)) e1;refine T.lK (j - i) (by omega) (by omega) ?_
   have e3:aC t e x (j - i)=tb t (bf n t e h') h:=by
    rw [e2,<- g.assoc _ _ _ (g.eX hn') hn' (pn _),g.ve hn',g.unl _ (pn _)]
   rw [e3];exact T.pt.cl _ (T.pt.bk g hh') _ hh
  ·omega
 have eij:i=j:=by
  rcases Nat.le_total i j with c|c
  ·exact key hh hh' c hj q
  ·exact (key hh' hh c hi q.symm).symm
 subst eij;exact ⟨rfl,g.rO (pn i) (T.pt.lt h hh) (T.pt.lt h' hh') q⟩
def cN.nd (T:cN n t e R M x m k) (g:GT n t e):(lay t e x R k).Nodup:=by
 unfold lay List.Nodup;rw [List.pairwise_flatMap];have pn:=fun j=>bE g T.xn j;refine ⟨fun j _=>?_,?_⟩
 ·exact jE (bQ T.pt.srt) fun a ha b hb q=>g.rO (pn j) (T.pt.lt a ha) (T.pt.lt b hb) q
 ·refine List.Pairwise.imp_of_mem ?_ O9;intro i j hi hj ij y hy z hz q;obtain ⟨h,hh,rfl⟩:=Ml.mp hy;obtain ⟨h',hh',q'⟩:=Ml.mp hz;have:=(T.one g hh hh' (L9.mp hi) (L9.mp hj) (q.trans q'.symm)).1;omega
def cN.lt (T:cN n t e R M x m k) (g:GT n t e):∀ y∈lay t e x R k,y<n:=fun y hy=>by
 obtain ⟨j,_,h,hh,rfl⟩:=eQ.mp hy;exact g.lt _ _ (T.pt.lt h hh) (bE g T.xn j)
def cN.mul (T:cN n t e R M x m k) (g:GT n t e) {h h' i j:Nat} (hh:h∈R) (hh':h'∈R) (hi:i<k) (hj:j<k) :
  ∃ b l,b∈R/\l<k/\tb t (tb t h (aC t e x i)) (tb t h' (aC t e x j))=tb t b (aC t e x l) /\
   ((i+j<k/\l=i+j/\mkO R M b=(mkO R M h+mkO R M h') % m)\/(k<=i+j/\l=i+j - k/\mkO R M b=(mkO R M h+mkO R M h'+mkO R M (aC t e x k)) % m)):=by
 obtain ⟨c,c1,c2,c3⟩:=T.cj g i h' hh';have pn:=fun j=>bE g T.xn j;have hn:=T.pt.lt h hh;have hn':=T.pt.lt h' hh';have cn:=T.pt.lt c c1;have hc:=T.pt.cl h hh c c1;have hcn:=T.pt.lt _ hc;have e1:tb t (tb t h (aC t e x i)) (tb t h' (aC t e x j))=tb t (tb t h c) (aC t e x (i+j)):=by
  rw [g.assoc _ _ _ hn (pn i) (g.lt _ _ hn' (pn j)),<- g.assoc _ _ _ (pn i) hn' (pn j),c3,g.assoc _ _ _ cn (pn i) (pn j),<- cG g T.xn,<- g.assoc _ _ _ hn cn (pn _)]
 have e2:mkO R M (tb t h c)=(mkO R M h+mkO R M h') % m:=by rw [T.w.add h hh c c1,c2]
 rcases Mu (i+j) k with v|v
 ·exact ⟨tb t h c,i+j,hc,v,e1,.inl ⟨v,rfl,e2⟩⟩
 ·refine ⟨tb t (tb t h c) (aC t e x k),i+j - k,T.pt.cl _ hc _ T.kin,by omega,?_,.inr ⟨v,rfl,?_⟩⟩
  ·rw [e1,g.assoc _ _ _ hcn (pn k) (pn _),<- cG g T.xn,show k+(i+j - k)=i+j by omega]
  ·rw [T.w.add _ hc _ T.kin,e2,Oi]
def cN.gen (T:cN n t e R M x m k) (g:GT n t e) {P:List Nat} (hs:P.Pairwise (· < ·)) (hm:∀ y,y∈P↔y∈lay t e x R k):Gen n t e (R++[x]) P where
 srt:=hs
 lt:=fun y hy=>T.lt g y ((hm y).mp hy)
 un:=(hm e).mpr (eQ.mpr ⟨0,T.k1,e,T.pt.un g,g.unl _ g.elt⟩)
 cl:=fun y hy s hs=>by
  obtain ⟨i,hi,h,hh,rfl⟩:=eQ.mp ((hm y).mp hy);rcases Mb.mp hs with w|w
  ·obtain ⟨b,l,b1,b2,b3,_⟩:=T.mul g hh w hi T.k1 (j:=0);have:tb t s (aC t e x 0)=s:=g.unr s (T.pt.lt s w);rw [this] at b3;exact (hm _).mpr (eQ.mpr ⟨l,b2,b,b1,b3.symm⟩)
  ·have es:s=x:=LY.mp w;subst es;have hn:=T.pt.lt h hh;have pn:=fun j=>bE g T.xn j;have e1:tb t (tb t h (aC t e s i)) s=tb t h (aC t e s (i+1)):=g.assoc _ _ _ hn (pn i) T.xn;rw [e1];rcases Mu (i+1) k with v|v
   ·exact (hm _).mpr (eQ.mpr ⟨i+1,v,h,hh,rfl⟩)
   ·have:i+1=k:=by omega
    rw [this];exact (hm _).mpr (eQ.mpr ⟨0,T.k1,_,T.pt.cl _ hh _ T.kin,g.unr _ (g.lt _ _ hn (pn k))⟩)
 wd:=fun y hy=>by
  obtain ⟨i,hi,h,hh,rfl⟩:=eQ.mp ((hm y).mp hy);have hn:=T.pt.lt h hh;refine ⟨h :: Md i x,fun z hz=>?_,?_⟩
  ·rcases Mp.mp hz with w|w
   ·exact Mb.mpr (.inl (w ▸ hh))
   ·exact Mb.mpr (.inr (by rw [OZ w];exact L8))
  ·show prd t (tb t e h) (Md i x)=_;rw [g.unl _ hn,yb g hn (fun z hz=>by rw [OZ hz];exact T.xn),zd]
def ixO (n:Nat) (t:List (List Nat)) (e:Nat) (R:List Nat) (x k y:Nat):Nat:=((LX k).find? fun i=>decide (tb t y (bf n t e (aC t e x i))∈R)).getD 0
def bsO (n:Nat) (t:List (List Nat)) (e:Nat) (R:List Nat) (x k y:Nat):Nat:=tb t y (bf n t e (aC t e x (ixO n t e R x k y)))
def cN.org (T:cN n t e R M x m k) (g:GT n t e) {h i:Nat} (hh:h∈R) (hi:i<k):ixO n t e R x k (tb t h (aC t e x i))=i/\bsO n t e R x k (tb t h (aC t e x i))=h:=by
 have pn:=fun j=>bE g T.xn j;have hn:=T.pt.lt h hh;have e0:tb t (tb t h (aC t e x i)) (bf n t e (aC t e x i))=h:=by
  rw [g.assoc _ _ _ hn (pn i) (g.eX (pn i)),g.zw (pn i),g.unr _ hn]
 have e1:ixO n t e R x k (tb t h (aC t e x i))=i:=by
  unfold ixO;cases hf:(LX k).find? fun j=>decide (tb t (tb t h (aC t e x i)) (bf n t e (aC t e x j))∈R) with
  | none =>
   have:=List.find?_eq_none.mp hf i (L9.mpr hi);rw [e0] at this;exact absurd (decide_eq_true hh) this
  | some j =>
   have c1:tb t (tb t h (aC t e x i)) (bf n t e (aC t e x j))∈R:=by
    have:=List.find?_some hf;exact of_decide_eq_true this
   have c2:=L9.mp (Rc hf);have c3:tb t (tb t (tb t h (aC t e x i)) (bf n t e (aC t e x j))) (aC t e x j)=tb t h (aC t e x i):=by
    have:=g.lt _ _ hn (pn i);rw [g.assoc _ _ _ this (g.eX (pn j)) (pn j),g.ve (pn j),g.unr _ this]
   exact (T.one g c1 hh c2 hi c3).1
 refine ⟨e1,?_⟩;unfold bsO;rw [e1];exact e0
def gY (n:Nat) (t:List (List Nat)) (e:Nat) (R M:List Nat) (x m k y z:Nat):Nat:=(mkO R M (bsO n t e R x k z)+ixO n t e R x k z * y) % m
def cN.gy (T:cN n t e R M x m k) (g:GT n t e) {h i:Nat} (hh:h∈R) (hi:i<k) (y:Nat):gY n t e R M x m k y (tb t h (aC t e x i))=(mkO R M h+i * y) % m:=by
 unfold gY;rw [(T.org g hh hi).1,(T.org g hh hi).2]
def cN.add (T:cN n t e R M x m k) (g:GT n t e) {y:Nat} (hy:k * y % m=mkO R M (aC t e x k)) {u v:Nat} (hu:u∈lay t e x R k) (hv:v∈lay t e x R k) :
  gY n t e R M x m k y (tb t u v)=(gY n t e R M x m k y u+gY n t e R M x m k y v) % m:=by
 obtain ⟨i,hi,h,hh,rfl⟩:=eQ.mp hu;obtain ⟨j,hj,h',hh',rfl⟩:=eQ.mp hv;obtain ⟨b,l,b1,b2,b3,b4⟩:=T.mul g hh hh' hi hj;rw [b3,T.gy g b1 b2,T.gy g hh hi,T.gy g hh' hj,<- Tb];rcases b4 with ⟨c1,c2,c3⟩|⟨c1,c2,c3⟩
 ·rw [c2,c3,Oi,Te]
  congr 1
  omega
 ·rw [c2,c3,<- hy,Oi,Nat.add_right_comm,OX,Pu,<- Te,show i+j - k+k=i+j by omega,Te]
  congr 1
  omega
def cN.keep (T:cN n t e R M x m k) (g:GT n t e) (y:Nat) {h:Nat} (hh:h∈R):gY n t e R M x m k y h=mkO R M h:=by
 have:=T.gy g hh T.k1 y;rw [show aC t e x 0=e from rfl,g.unr _ (T.pt.lt h hh),Qx,Of,MH (T.w.mlt hh)] at this;exact this
def cN.dvd (T:cN n t e R M x m k) (g:GT n t e) {j:Nat} (hj:aC t e x j∈R):k ∣ j:=by
 have pn:=fun j=>bE g T.xn j;have e1:aC t e x j=tb t (aC t e x (k * (j / k))) (aC t e x (j % k)):=by rw [<- cG g T.xn,OY]
 have mul:∀ i,aC t e x (k * i)∈R:=fun i=>by
  induction i with
  | zero=>exact T.pt.un g
  | succ i ih=>rw [Oh,cG g T.xn];exact T.pt.cl _ ih _ T.kin
 have e2:aC t e x (j % k)∈R:=by
  have:aC t e x (j % k)=tb t (bf n t e (aC t e x (k * (j / k)))) (aC t e x j):=by
   rw [e1,<- g.assoc _ _ _ (g.eX (pn _)) (pn _) (pn _),g.ve (pn _),g.unl _ (pn _)]
  rw [this];exact T.pt.cl _ (T.pt.bk g (mul _)) _ hj
 rcases NZ (j % k) with c|c
 ·exact Np c
 ·exact absurd e2 (T.lK _ c (Mv _ T.k1))
def cN.pm (T:cN n t e R M x m k) (g:GT n t e):∀ i,mkO R M (aC t e x (k * i))=i * mkO R M (aC t e x k) % m
 | 0=>by
  rw [Qx,Pl];exact T.w.un g T.pt
 | i+1=>by
  have mul:∀ i,aC t e x (k * i)∈R:=fun i=>by
   induction i with
   | zero=>exact T.pt.un g
   | succ i ih=>rw [Oh,cG g T.xn];exact T.pt.cl _ ih _ T.kin
  rw [Oh,cG g T.xn,T.w.add _ (mul i) _ T.kin,T.pm g i,Oi,PY]
def cN.LJ (T:cN n t e R M x m k) (g:GT n t e):((LX m).filter fun y=>decide (k * y % m=mkO R M (aC t e x k))).length=k:=by
 obtain ⟨q,rfl⟩:=T.dvd g (j:=m) (by rw [T.all];exact T.pt.un g)
 have q1:0<q:=Nat.pos_of_mul_pos_left T.m1;have k1:=T.k1;have am:=T.w.mlt T.kin;have d1:k ∣ mkO R M (aC t e x k):=by
  have e1:=T.pm g q;rw [T.all,T.w.un g T.pt] at e1;obtain ⟨c,hc⟩:=Np e1.symm;refine ⟨c,?_⟩;have:q * mkO R M (aC t e x k)=q * (k * c):=by rw [hc,Ow k q,Qb]
  exact PK q1 this
 obtain ⟨a,ha⟩:=d1;rw [ha] at am ⊢;have aq:a<q:=Nat.lt_of_mul_lt_mul_left am;have hl:((LX (k * q)).filter fun y=>decide (k * y % (k * q)=k * a))=(LX k).map fun j=>a+j * q:=by
  refine jU (QE _ O9) ?_ fun y=>?_
  ·rw [NW];refine O9.imp fun z=>?_;have:=Nat.mul_lt_mul_of_pos_right z q1;omega
  ·rw [Nj,L9,decide_eq_true_iff,Nat.mul_mod_mul_left,Ml];constructor
   ·rintro ⟨h1,h2⟩;have h3:=PK k1 h2;refine ⟨y / q,L9.mpr (Nq (by rw [Ow];exact h1)),?_⟩
    have:=OY y q;rw [h3,Ow q] at this;omega
   ·rintro ⟨j,hj,rfl⟩;have hj':=L9.mp hj;refine ⟨?_,?_⟩
    ·have:(j+1) * q<=k * q:=Pz q hj';rw [PY] at this;omega
    ·rw [Nat.add_mul_mod_self_right,MH aq]
 rw [hl,LV,M4]
end
def fN:List Nat->List Nat->Bool
 | [],[]=>false
 | [],_ :: _=>true
 | _ :: _,[]=>false
 | a :: as,b :: bs=>if a=b then fN as bs else decide (a<b)
def Bb:∀ {a b:List Nat},fN a b=true->fN b a=false
 | [],[],h=>rfl
 | [],_ :: _,h=>rfl
 | _ :: _,[],h=>by simp [fN] at h
 | x :: a,y :: b,h=>by
  simp only [fN] at h ⊢
  by_cases e:x=y
  ·subst e;simp only [if_true] at h ⊢;exact Bb h
  ·rw [if_neg e] at h;rw [if_neg (NI e),decide_eq_false_iff_not];have:=of_decide_eq_true h;omega
def zb:∀ {a b:List Nat},fN a b=false->fN b a=false->a=b
 | [],[],_,_=>rfl
 | [],_ :: _,h,_=>by simp [fN] at h
 | _ :: _,[],_,h=>by simp [fN] at h
 | x :: a,y :: b,h,h'=>by
  simp only [fN] at h h'
  by_cases e:x=y
  ·subst e;simp only [if_true] at h h';rw [zb h h']
  ·rw [if_neg e] at h;rw [if_neg (NI e)] at h';have:=of_decide_eq_false h;have:=of_decide_eq_false h';omega
abbrev CV (L:List (List Nat)):Prop:=L.Pairwise fun a b=>fN a b=true
def Bd {L:List (List Nat)} (nd:L.Nodup) (h:L.Pairwise fun a b=>fN b a=false):CV L :=
 (List.Pairwise.and nd h).imp fun {a b} z=>by
  cases c:fN a b with
  | true=>rfl
  | false=>exact absurd (zb c z.2) z.1
def Jb {L:List (List Nat)} (h:CV L):L.Nodup:=h.imp fun {a b} z q=>by
 subst q;have:=Bb z;rw [z] at this;cases this
def sV {α β:Type} {f:α->β}:∀ {l:List α},l.Nodup->(∀ x∈l,∀ y∈l,f x=f y->x=y)->(l.map f).Nodup
 | [],_,_=>Qt
 | a :: l,nd,h=>by
  rw [MX] at nd;rw [My,MX];refine ⟨fun z=>?_,sV nd.2 fun x hx y hy=>h x (L4 _ hx) y (L4 _ hy)⟩;obtain ⟨y,hy,q⟩:=Ml.mp z;have:=h y (L4 _ hy) a L8 q;subst this;exact nd.1 hy
section
variable {n e:Nat} {t:List (List Nat)} {R M:List Nat} {x m k:Nat}
structure Taken (n:Nat) (t:List (List Nat)) (e:Nat) (R M:List Nat) (x m:Nat) (P:List Nat) (L:List (List Nat)):Prop where
 gen:Gen n t e (R++[x]) P
 srt:CV L
 len:L.length * R.length=P.length
 mem:∀ W,W∈L↔IsW t P W m/\∀ h∈R,mkO P W h=mkO R M h
def yk (t:List (List Nat)) (e:Nat) (R M:List Nat) (x m k:Nat):List Nat:=(LX m).filter fun y=>decide (k * y % m=mkO R M (aC t e x k))
def F5 {P L:List Nat} (h1:P.Nodup) (h2:L.Nodup) (h:∀ y,y∈P↔y∈L):P.length=L.length:=by
 have a:=sub_len h1 fun y hy=>(h y).mp hy;have b:=sub_len h2 fun y hy=>(h y).mpr hy;omega
def cN.taken (T:cN n t e R M x m k) (g:GT n t e) {P:List Nat} (hs:P.Pairwise (· < ·)) (hm:∀ y,y∈P↔y∈lay t e x R k) {L:List (List Nat)} (hp:L.Perm ((yk t e R M x m k).map fun y=>P.map (gY n t e R M x m k y))) (hL:L.Pairwise fun a b=>fN b a=false) :
  Taken n t e R M x m P L:=by
 have G:=T.gen g hs hm;have hS:∀ s∈R++[x],s<n:=fun s hs=>by
  rcases Mb.mp hs with z|z
  ·exact T.pt.lt s z
  ·rw [LY.mp z];exact T.xn
 have pp:=G.part g hS;have sub:∀ h∈R,h∈P:=fun h hh=>G.has g (Mb.mpr (.inl hh)) (T.pt.lt h hh);have xP:x∈P:=G.has g (Mb.mpr (.inr L8)) T.xn;have om:∀ y,y∈yk t e R M x m k↔y<m/\k * y % m=mkO R M (aC t e x k):=fun y=>by
  unfold yk;rw [Nj,L9,decide_eq_true_iff]
 have k1:=T.k1;have nd0:((yk t e R M x m k).map fun y=>P.map (gY n t e R M x m k y)).Nodup:=by
  refine sV (QE _ O5) fun y hy y' hy' q=>?_;obtain ⟨a1,a2⟩:=(om y).mp hy;obtain ⟨b1,b2⟩:=(om y').mp hy';rcases Mu 1 k with c|c
  ·have e1:=congrArg (fun l=>mkO P l x) q;simp only [kA xP] at e1;have ex:tb t e (aC t e x 1)=x:=by rw [g.unl _ (bE g T.xn 1),kT g T.xn]
   have key:∀ y,y<m->gY n t e R M x m k y x=y:=fun y hy=>by
    have:=T.gy g (T.pt.un g) c y;rw [ex,T.w.un g T.pt,Oy,T6,MH hy] at this;exact this
   rw [key y a1,key y' b1] at e1;exact e1
  ·have:k=1:=by omega
   rw [this,T6,MH a1] at a2;rw [this,T6,MH b1] at b2;rw [a2,b2]
 refine ⟨G,Bd (hp.nodup_iff.mpr nd0) hL,?_,fun W=>?_⟩
 ·have ol:(yk t e R M x m k).length=k:=T.LJ g;rw [hp.length_eq,LV,ol,<- uO (t:=t) (e:=e) (x:=x)];exact (F5 (bQ hs) (T.nd g) hm).symm
 ·rw [hp.mem_iff,Ml];constructor
  ·rintro ⟨y,hy,rfl⟩;obtain ⟨a1,a2⟩:=(om y).mp hy;refine ⟨Bz pp (fun z _=>Mv _ T.m1) fun u hu v hv=>T.add g a2 ((hm u).mp hu) ((hm v).mp hv),fun h hh=>?_⟩;rw [kA (sub h hh)];exact T.keep g y hh
  ·rintro ⟨w,hw⟩;have e1:=w.pow g pp xP k;rw [hw _ T.kin] at e1;refine ⟨mkO P W x,(om _).mpr ⟨w.mlt xP,e1.symm⟩,?_⟩;rw [<- map_mk (bQ hs) w.len];refine PX fun z hz=>?_;obtain ⟨i,hi,h,hh,rfl⟩:=eQ.mp ((hm z).mp hz);rw [map_mk (bQ hs) w.len,T.gy g hh hi,w.add _ (sub h hh) _ (pp.pw g xP i),w.pow g pp xP i,hw h hh,OX]
structure ff (n:Nat) (t:List (List Nat)) (e:Nat) (D S:List Nat) (m:Nat) (R:List Nat) (F:List (List Nat)):Prop where
 pt:IsPart n t R
 lo:∀ d∈D,d∈R
 hi:∀ y∈R,y∈S
 nd:F.Nodup
 mem:∀ W,W∈F↔IsW t R W m/\∀ d∈D,mkO R W d=0
 len:F.length * D.length=R.length
structure KS (t:List (List Nat)) (D S:List Nat) (m:Nat) (L:List (List Nat)):Prop where
 srt:CV L
 mem:∀ W,W∈L↔IsW t S W m
 len:L.length * D.length=S.length
variable {D S:List Nat}
def qo (g:GT n t e) (p:IsPart n t S):∀ s∈iD n t e S,s∈S:=fun s hs=>by
 obtain ⟨a,ha,b,hb,rfl⟩:=m6.mp hs;exact p.cl _ (p.cl _ (p.cl _ ha _ hb) _ (p.bk g ha)) _ (p.bk g hb)
def Iu (g:GT n t e) (p:IsPart n t S) (G:Gen n t e (iD n t e S) D):∀ d∈D,d∈S :=
 G.least (p.un g) fun x hx s hs=>p.cl _ hx _ (qo g p s hs)
def nc {R:List Nat} {l:Nat} {y:Nat}:mkO R (Md l 0) y=0:=by
 unfold mkO;rw [LS,Oq]
 split <;> rfl
def ff.start (g:GT n t e) (p:IsPart n t S) (G:Gen n t e (iD n t e S) D) (m1:0<m):ff n t e D S m D [Md D.length 0]:=by
 have pd:=G.part g fun s hs=>p.lt s (qo g p s hs);refine ⟨pd,fun d hd=>hd,Iu g p G,by simp,fun W=>?_,by simp⟩
 rw [LY];constructor
 ·intro q;subst q;refine ⟨⟨by simp,fun w hw=>by rw [OZ hw];exact m1,fun x _ y _=>?_⟩,fun d _=>nc⟩
  rw [nc,nc,nc,Pl]
 ·rintro ⟨w,h⟩;rw [<- map_mk (bQ pd.srt) w.len];apply Oa;intro i;rw [Mn]
  by_cases c:i<D.length
  ·rw [LO c,Oq,if_pos c];show some (mkO D W D[i])=some 0;rw [h _ (Nr c)]
  ·rw [MD (by omega),Oq,if_neg c]
   rfl
def ff.on {F:List (List Nat)} (I:ff n t e D S m R F) (g:GT n t e) (p:IsPart n t S) (G:Gen n t e (iD n t e S) D) (hx:x∈S) (hM:M∈F) (k1:1<=k) (kin:aC t e x k∈R) (lK:∀ i,1<=i->i<k->aC t e x i∉R) (m1:0<m) (all:aC t e x m=e) :
  cN n t e R M x m k:=by
 obtain ⟨w,z⟩:=(I.mem M).mp hM;have xn:=p.lt x hx;have key:∀ h∈R,∃ c,c∈D/\cZ n t e h x=tb t c h:=fun h hh=>by
  have hn:=I.pt.lt h hh;refine ⟨tb t (tb t (tb t x h) (bf n t e x)) (bf n t e h),?_,?_⟩
  ·have hs:tb t (tb t (tb t x h) (bf n t e x)) (bf n t e h)∈iD n t e S:=m6.mpr ⟨x,hx,h,I.hi h hh,rfl⟩;exact G.has g hs (p.lt _ (qo g p _ hs))
  ·unfold cZ;have a1:=g.lt _ _ (g.lt _ _ xn hn) (g.eX xn);rw [g.assoc _ _ _ a1 (g.eX hn) hn,g.ve hn,g.unr _ a1]
 refine ⟨I.pt,w,xn,fun h hh=>?_,fun h hh=>?_,k1,kin,lK,m1,all⟩
 ·obtain ⟨c,c1,c2⟩:=key h hh;rw [c2];exact I.pt.cl _ (I.lo c c1) _ hh
 ·obtain ⟨c,c1,c2⟩:=key h hh;rw [c2,w.add _ (I.lo c c1) _ hh,z c c1,Oy,MH (w.mlt hh)]
def Bf {α:Type} {q:Nat}:∀ (Ls:List (List α)) (a b:Nat),(∀ L∈Ls,L.length * a=b)->Ls.flatten.length * a=Ls.length * b
 | [],a,b,_=>by simp
 | L :: Ls,a,b,h=>by
  rw [Oz,Mq,Te,h L L8,Bf (q:=q) Ls a b fun L hL=>h L (L4 _ hL),MN,PY,Ov]
def ff.step {F:List (List Nat)} (I:ff n t e D S m R F) (g:GT n t e) (p:IsPart n t S) (hx:x∈S) {P:List Nat} {Ls:List (List (List Nat))} (hl:Ls.length=F.length)
  (hT:∀ (i:Nat) (M:List Nat) (L:List (List Nat)),F[i]?=some M->Ls[i]?=some L->Taken n t e R M x m P L):ff n t e D S m P Ls.flatten:=by
 have r1:0<R.length:=M9.mpr I.pt.ne;have f1:0<F.length:=by
  rcases NZ F.length with c|c
  ·have:=I.len;rw [c,Qx] at this;omega
  ·exact c
 have T0:=hT 0 _ _ (LO f1) (LO (by omega))
 have G:=T0.gen;have xn:=p.lt x hx;have hS:∀ s∈R++[x],s<n:=fun s hs=>by
  rcases Mb.mp hs with z|z
  ·exact I.pt.lt s z
  ·rw [LY.mp z];exact xn
 have pp:=G.part g hS;have sub:∀ h∈R,h∈P:=fun h hh=>G.has g (Mb.mpr (.inl hh)) (I.pt.lt h hh);have rl:∀ M∈F,M.length=R.length:=fun M hM=>((I.mem M).mp hM).1.len;have ext:∀ {M M' W:List Nat},M∈F->M'∈F->(∀ h∈R,mkO P W h=mkO R M h)->(∀ h∈R,mkO P W h=mkO R M' h)->M=M':=fun {M M' W} hM hM' a b=>by
  rw [<- map_mk (bQ I.pt.srt) (rl M hM),<- map_mk (bQ I.pt.srt) (rl M' hM')];exact PX fun h hh=>(a h hh).symm.trans (b h hh)
 refine ⟨pp,fun d hd=>sub d (I.lo d hd),?_,?_,fun W=>?_,?_⟩
 ·exact G.least (p.un g) fun y hy s hs=>p.cl _ hy _ (by
   rcases Mb.mp hs with z|z
   ·exact I.hi s z
   ·rw [LY.mp z];exact hx)
 ·unfold List.Nodup;rw [List.pairwise_flatten];refine ⟨fun L hL=>?_,?_⟩
  ·obtain ⟨i,hi⟩:=Mr hL;have il:i<F.length:=by rw [<- hl];exact (LQ.mp hi).1
   exact Jb (hT i _ L (LO il) hi).srt
  ·rw [Mw];intro i j hi hj ij W hW W' hW' q;subst q;have i2:i<F.length:=by omega
   have j2:j<F.length:=by omega
   have a:=((hT i _ _ (LO i2) (LO hi)).mem W).mp hW;have b:=((hT j _ _ (LO j2) (LO hj)).mem W).mp hW';have q:=ext (Nr i2) (Nr j2) a.2 b.2;exact (Mw.mp I.nd i j i2 j2 ij) q
 ·rw [List.mem_flatten];constructor
  ·rintro ⟨L,hL,hW⟩;obtain ⟨i,hi⟩:=Mr hL;have il:i<F.length:=by rw [<- hl];exact (LQ.mp hi).1
   have a:=((hT i _ L (LO il) hi).mem W).mp hW;refine ⟨a.1,fun d hd=>?_⟩;rw [a.2 d (I.lo d hd)];exact ((I.mem _).mp (Nr il)).2 d hd
  ·rintro ⟨w,z⟩;have hM:R.map (mkO P W)∈F:=(I.mem _).mpr ⟨Bz I.pt (fun y hy=>w.mlt (sub y hy)) fun y hy y' hy'=>w.add y (sub y hy) y' (sub y' hy'),fun d hd=>by
    rw [kA (I.lo d hd)];exact z d hd⟩
   obtain ⟨i,hi⟩:=Mr hM;have il:i<Ls.length:=by rw [hl];exact (LQ.mp hi).1
   exact ⟨Ls[i],Nr il,((hT i _ _ hi (LO il)).mem W).mpr ⟨w,fun h hh=>(kA hh).symm⟩⟩
 ·have sl:=Bf (q:=0) Ls R.length P.length fun L hL=>by
   obtain ⟨i,hi⟩:=Mr hL;have il:i<F.length:=by rw [<- hl];exact (LQ.mp hi).1
   exact (hT i _ L (LO il) hi).len
  rw [hl] at sl;have il:=I.len;refine Nat.eq_of_mul_eq_mul_right r1 ?_
  calc Ls.flatten.length * D.length * R.length=Ls.flatten.length * R.length * D.length:=by rw [Nat.mul_right_comm]
   _=F.length * P.length * D.length:=by rw [sl]
   _=F.length * D.length * P.length:=by rw [Nat.mul_right_comm]
   _=P.length * R.length:=by rw [il,Ow]
def FP (g:GT n t e) (p:IsPart n t S) (G:Gen n t e (iD n t e S) D) {W:List Nat} (w:IsW t S W m):∀ d∈D,mkO S W d=0:=by
 have m1:0<m:=NL (MI _) (w.mlt (p.un g));have bk:∀ a∈S,(mkO S W a+mkO S W (bf n t e a)) % m=0:=fun a ha=>by
  rw [<- w.add a ha _ (p.bk g ha),g.zw (p.lt a ha),w.un g p]
 have c0:∀ s∈iD n t e S,mkO S W s=0:=fun s hs=>by
  obtain ⟨a,ha,b,hb,rfl⟩:=m6.mp hs;have ab:=p.cl a ha b hb;have a':=p.bk g ha;have b':=p.bk g hb;rw [w.add _ (p.cl _ ab _ a') _ b',w.add _ ab _ a',w.add a ha b hb,Oi,Pu,Oi,<- Pu];rw [show mkO S W a+mkO S W b+mkO S W (bf n t e a)+mkO S W (bf n t e b)=(mkO S W a+mkO S W (bf n t e a))+(mkO S W b+mkO S W (bf n t e b)) by omega,Tb,bk a ha,bk b hb,Of,Pl]
 have:=G.least (R:=S.filter fun d=>decide (mkO S W d=0)) (Nj.mpr ⟨p.un g,decide_eq_true (w.un g p)⟩) fun y hy s hs=>by
  obtain ⟨y1,y2⟩:=Nj.mp hy;have sS:=qo g p s hs;refine Nj.mpr ⟨p.cl _ y1 _ sS,decide_eq_true ?_⟩;rw [w.add y y1 s sS,of_decide_eq_true y2,c0 s hs,Of,Pl]
 exact fun d hd=>of_decide_eq_true (Nj.mp (this d hd)).2
def ff.fin {F L:List (List Nat)} (I:ff n t e D S m R F) (g:GT n t e) (p:IsPart n t S) (G:Gen n t e (iD n t e S) D) (hS:∀ y∈S,y∈R) (hp:L.Perm F) (hL:L.Pairwise fun a b=>fN b a=false):KS t D S m L:=by
 have eq:R=S:=jU I.pt.srt p.srt fun y=>⟨I.hi y,hS y⟩;subst eq;refine ⟨Bd (hp.nodup_iff.mpr I.nd) hL,fun W=>?_,by rw [hp.length_eq];exact I.len⟩
 rw [hp.mem_iff,I.mem];exact ⟨fun z=>z.1,fun z=>⟨z,FP g p G z⟩⟩
def ff.few {F:List (List Nat)} (I:ff n t e D S m R F):F.length<=n:=by
 have il:=I.len;have:=I.pt.len;rcases NZ D.length with c|c
 ·rw [c,Pk] at il;have:=M9.mpr I.pt.ne;omega
 ·have:=Qd F.length c;omega
def ff.some {F:List (List Nat)} (I:ff n t e D S m R F):0<F.length:=by
 have:=M9.mpr I.pt.ne;rcases NZ F.length with c|c
 ·have:=I.len;rw [c,Qx] at this;omega
 ·exact c
end
section
variable {P:Mh} {w:World} {K:LN} {mg:Str->Option Value} {base:Heap}
inductive wJ (K:LN) (vs:List V) (H:Hp) (Q:VK) (E:XK):Prop
 | mk (v:V) (n:Nat) (t:List (List Nat)) (_:vs=[v]) (_:At K H v t) (_:Sq n t) (_:Q .non H)
def wW (T:Txt K mg):aH P w K mg base CX0 1 T.iH.f T.iH.fd ["rows"] (wJ K):=by
 exists T.iH.ok jG
 ·obtain ⟨v,n,t,rfl,_⟩:=h;rfl
 obtain ⟨v,n,t,rfl,hT,sq,q⟩:=h;refine ⟨_,(ae (av (i:=1) jG.nd rfl (L7 rfl) (az (aT K rfl) rfl T.bA Me (paF (pv 0) aa)))
   (ae (aQ (PW.pt (gG (ax eA (pv 1) ag (aB _)) (gq (ax fK (pv 1) (cB (v:=.int 23) rfl T.wX ⟨_,rfl⟩) (aB _))))) (af cV) aE)
   (af (a8 L6 rfl (aY K rfl (pv 0)) (aJ (i:=2) jG.nd rfl (L7 rfl)) (af (aQ (ax dM (az (aT K rfl) rfl T.bA Me (paF (pv 2) aa)) (pv 1) (aB _)) (af cV) aE)))))),?_⟩
 right;refine cy hT ?_;right;have h1:=sq.len;have h2:=sq.pos;have h3:=sq.le;refine aU (fun c=>absurd c (by omega)) (fun _=>?_)
 right;refine aU (fun c=>absurd c (by omega)) (fun _=>?_)
 right;refine dB hT (fun i σ H'=>H'=H/\∃ x,σ=[some v,some (.int t.length),x]) ⟨rfl,_,rfl⟩ (fun i σ H' h=>by rw [h.1];exact aj.refl _) ?_ ?_
 ·rintro i r w' σ' H' hr' hw ⟨rfl,x,rfl⟩;right;refine cy hw ?_;right;refine bH (fun c=>absurd (by rw [sq.row i r hr',h1]) c) (fun _=>?_)
  right;exact ⟨rfl,_,rfl⟩
 ·rintro σ' H' ⟨rfl,x,rfl⟩;exact q
inductive oQ (K:LN) (vs:List V) (H:Hp) (Q:VK) (E:XK):Prop
 | mk (v:V) (n:Nat) (t:List (List Nat)) (_:vs=[v]) (_:At K H v t) (_:Gd n t) (_:Q .non H)
def pW (T:Txt K mg):aH P w K mg base CX0 1 T.eO.f T.eO.fd ["rows"] (oQ K):=by
 exists T.eO.ok ef
 ·obtain ⟨v,n,t,rfl,_⟩:=h;rfl
 obtain ⟨v,n,t,rfl,hT,gd,q⟩:=h;refine ⟨_,(ae (av (i:=1) ef.nd rfl (L7 rfl) (az (aT K rfl) rfl T.bA Me (paF (pv 0) aa)))
   (af (a8 L6 rfl (a9 rfl T.bD (paF (pv 1) aa)) (aJ (i:=2) ef.nd rfl (L7 rfl)) (af (a8 L6 rfl (a9 rfl T.bD (paF (pv 1) aa)) (aJ (i:=3) ef.nd rfl (L7 rfl)) (af (aQ (PW.pt (gG (ax eA (aw (ah K rfl) (aw (ah K rfl) (pv 0) (pv 2) (fun _ _=>rfl)) (pv 3) (fun _ _=>rfl)) ag (aB _)) (gq (ax lr (aw (ah K rfl) (aw (ah K rfl) (pv 0) (pv 2) (fun _ _=>rfl)) (pv 3) (fun _ _=>rfl)) (pv 1) (aB _))))) (af cV) aE))))))),?_⟩
 right;refine cy hT ?_;right;have h1:=gd.len;have h3:=gd.le;rw [h1];refine bW (n:=n) rfl (by omega) (fun i σ H'=>H'=H/\∃ x y,σ=[some v,some (.int n),x,y]) ⟨rfl,_,_,rfl⟩ ?_ ?_
 ·rintro i σ' H' hi ⟨rfl,x,y,rfl⟩;right;refine bW (n:=n) rfl (by omega) (fun j σ H''=>H''=H'/\∃ y,σ=[some v,some (.int n),some (.int (i:Int)),y]) ⟨rfl,_,rfl⟩ ?_ ?_
  ·rintro j σ'' H'' hj ⟨rfl,y,rfl⟩;have hlt:=gd.lt i j hi hj;right;refine cM hT rfl (gd.get hi) fun w1 hw1=>?_;right;refine gH hw1 rfl (gd.dX hi hj) ?_;right;refine aU (fun c=>absurd c (by omega)) (fun _=>?_)
   right;refine cM hT rfl (gd.get hi) fun w2 hw2=>?_;right;refine gH hw2 rfl (gd.dX hi hj) ?_;right;refine aU (fun c=>absurd c (by omega)) (fun _=>?_)
   right;exact ⟨rfl,_,rfl⟩
  ·rintro σ'' H'' ⟨rfl,y,rfl⟩;exact ⟨rfl,_,_,rfl⟩
 ·rintro σ' H' ⟨rfl,x,y,rfl⟩;exact q
inductive wB (K:LN) (vs:List V) (H:Hp) (Q:VK) (E:XK):Prop
 | mk (v:V) (n x:Nat) (t:List (List Nat)) (_:vs=[v,.int (x:Int)]) (_:At K H v t) (_:Sq n t) (_:x<n) (_:Q (.bl (decide (oN n t x))) H)
def wV (T:Txt K mg):aH P w K mg base CX0 1 T.iL.f T.iL.fd ["rows","thing"] (wB K):=by
 exists T.iL.ok nP
 ·obtain ⟨v,n,x,t,rfl,_⟩:=h;rfl
 obtain ⟨v,n,x,t,rfl,hT,sq,hx,q⟩:=h;refine ⟨_,(ae (a8 L6 rfl (a9 rfl T.bD (paF (az (aT K rfl) rfl T.bA Me (paF (pv 0) aa)) aa)) (aJ (i:=2) nP.nd rfl (L7 rfl)) (af (aQ (PW.pt (gG (ax dM (aw (ah K rfl) (aw (ah K rfl) (pv 0) (pv 1) (fun _ _=>rfl)) (pv 2) (fun _ _=>rfl)) (pv 2) (aB _)) (gq (ax dM (aw (ah K rfl) (aw (ah K rfl) (pv 0) (pv 2) (fun _ _=>rfl)) (pv 1) (fun _ _=>rfl)) (pv 2) (aB _))))) (af (aN gL)) aE)))
   (af (aN gL))),?_⟩
 right;refine cy hT ?_;right;have h1:=sq.len;have h3:=sq.le;rw [h1];refine bW (n:=n) rfl (by omega) (fun i σ H'=>H'=H/\(∀ o,o<i->tb t x o=o/\tb t o x=o)/\∃ y,σ=[some v,some (.int (x:Int)),y]) ⟨rfl,fun o ho=>absurd ho (by omega),_,rfl⟩ ?_ ?_
 ·rintro i σ' H' hi ⟨rfl,hb,y,rfl⟩;have no:∀ (z:¬ (tb t x i=i/\tb t i x=i)),Q (.bl false) H':=fun z=>by
   rw [decide_eq_false (fun l:oN n t x=>z (l i hi))] at q;exact q
  right;refine cM hT rfl (sq.get hx) fun w1 hw1=>?_;right;refine gH hw1 rfl (sq.dX hx hi) ?_;right;refine bH (fun c=>?_) (fun c1=>?_)
  ·right;exact no fun z=>c (by rw [z.1])
  ·right;refine cM hT rfl (sq.get hi) fun w2 hw2=>?_;right;refine gH hw2 rfl (sq.dX hi hx) ?_;right;refine bH (fun c=>?_) (fun c2=>?_)
   ·right;exact no fun z=>c (by rw [z.2])
   ·right;refine ⟨rfl,fun o ho=>?_,_,rfl⟩;rcases Mu o i with z|z
    ·exact hb o z
    ·have e:o=i:=by omega
     subst e;exact ⟨by omega,by omega⟩
 ·rintro σ' H' ⟨rfl,hb,y,rfl⟩;right;rw [decide_eq_true (show oN n t x from hb)] at q;exact q
inductive Cb (K:LN) (vs:List V) (H:Hp) (Q:VK) (E:XK):Prop
 | mk (v:V) (n e:Nat) (t:List (List Nat)) (_:vs=[v]) (_:At K H v t) (_:GT n t e) (_:Q (.int (e:Int)) H)
def Cy (T:Txt K mg):aH P w K mg base CX0 2 T.kY.f T.kY.fd ["rows"] (Cb K):=by
 exists T.kY.ok tU
 ·obtain ⟨v,n,e,t,rfl,_⟩:=h;rfl
 obtain ⟨v,n,e,t,rfl,hT,gt,q⟩:=h;refine ⟨_,(ae (a8 L6 rfl (a9 rfl T.bD (paF (az (aT K rfl) rfl T.bA Me (paF (pv 0) aa)) aa)) (aJ (i:=1) tU.nd rfl (L7 rfl)) (af (aQ (fW (aG T.iL (wV T) (hr.mono (by decide)) rfl (paF (pv 0) (paF (pv 1) aa)))) (af (aN (pv 1))) aE)))
   (af cV)),?_⟩
 right;refine cy hT ?_;right;have h1:=gt.len;have h3:=gt.le;rw [h1];refine bW (n:=n) rfl (by omega) (fun i σ H'=>H'=H/\i<=e/\∃ y,σ=[some v,y]) ⟨rfl,MI _,_,rfl⟩ ?_ ?_
 ·rintro i σ' H' hi ⟨rfl,hle,y,rfl⟩;right;refine ⟨v,n,i,t,rfl,hT,gt.toSq,hi,?_⟩;right;refine aU (fun c=>?_) (fun c=>?_)
  ·right;rw [(gt.so hi).mp c];exact q
  ·right;refine ⟨rfl,?_,_,rfl⟩;have:i≠e:=fun z=>c ((gt.so hi).mpr z);omega
 ·rintro σ' H' ⟨rfl,hle,y,rfl⟩;exact absurd gt.elt (by omega)
inductive B3 (K:LN) (vs:List V) (H:Hp) (Q:VK) (E:XK):Prop
 | mk (v:V) (n e a:Nat) (t:List (List Nat)) (_:vs=[v,.int (e:Int),.int (a:Int)]) (_:At K H v t) (_:GT n t e) (_:a<n) (_:Q (.int (bf n t e a:Int)) H)
def CQ (T:Txt K mg):aH P w K mg base CX0 1 T.lD.f T.lD.fd ["rows","unit","thing"] (B3 K):=by
 exists T.lD.ok tL
 ·obtain ⟨v,n,e,a,t,rfl,_⟩:=h;rfl
 obtain ⟨v,n,e,a,t,rfl,hT,gt,ha,q⟩:=h;refine ⟨_,(ae (a8 L6 rfl (a9 rfl T.bD (paF (az (aT K rfl) rfl T.bA Me (paF (pv 0) aa)) aa)) (aJ (i:=3) tL.nd rfl (L7 rfl)) (af (aQ (PW.pt (dy (ax bL (aw (ah K rfl) (aw (ah K rfl) (pv 0) (pv 2) (fun _ _=>rfl)) (pv 3) (fun _ _=>rfl)) (pv 1) (aB _)) (d8 (ax bL (aw (ah K rfl) (aw (ah K rfl) (pv 0) (pv 3) (fun _ _=>rfl)) (pv 2) (fun _ _=>rfl)) (pv 1) (aB _))))) (af (aN (pv 3))) aE)))
   (af cV)),?_⟩
 right;refine cy hT ?_;right;have h1:=gt.len;have h3:=gt.le;rw [h1];refine bW (n:=n) rfl (by omega) (fun i σ H'=>H'=H/\(∀ o,o<i->¬ (tb t a o=e/\tb t o a=e))/\∃ y,σ=[some v,some (.int (e:Int)),some (.int (a:Int)),y]) ⟨rfl,fun o ho=>absurd ho (by omega),_,rfl⟩ ?_ ?_
 ·rintro i σ' H' hi ⟨rfl,hb,y,rfl⟩;have on:(¬ (tb t a i=e/\tb t i a=e))->∀ o,o<i+1->¬ (tb t a o=e/\tb t o a=e):=fun z o ho=>by
   rcases Mu o i with l|l
   ·exact hb o l
   ·have e':o=i:=by omega
    subst e';exact z
  right;refine cM hT rfl (gt.get ha) fun w1 hw1=>?_;right;refine gH hw1 rfl (gt.dX ha hi) ?_;right;refine aU (fun c1=>?_) (fun c=>?_)
  ·right;refine cM hT rfl (gt.get hi) fun w2 hw2=>?_;right;refine gH hw2 rfl (gt.dX hi ha) ?_;right;refine aU (fun c2=>?_) (fun c=>?_)
   ·right;rw [Jx hi ⟨by omega,by omega⟩ hb] at q
    exact q
   ·right;exact ⟨rfl,on fun z=>c (by rw [z.2]),_,rfl⟩
  ·refine fc ?_;right;exact ⟨rfl,on fun z=>c (by rw [z.1]),_,rfl⟩
 ·rintro σ' H' ⟨rfl,hb,y,rfl⟩;obtain ⟨b,hb',z⟩:=gt.back a ha;exact absurd z (hb b hb')
inductive z8 (K:LN) (vs:List V) (H:Hp) (Q:VK) (E:XK):Prop
 | mk (v:V) (n e:Nat) (t:List (List Nat)) (_:vs=[v,.int (e:Int)]) (_:At K H v t) (_:GT n t e) (_:∀ d H',H d=none->aj H H'->Gr K H' d (bks n t e)->Q (.ref d) H')
def Ai (T:Txt K mg):aH P w K mg base CX0 2 T.j7.f T.j7.fd ["rows","unit"] (z8 K):=by
 exists T.j7.ok Aa
 ·obtain ⟨v,n,e,t,rfl,_⟩:=h;rfl
 obtain ⟨v,n,e,t,rfl,hT,gt,q⟩:=h;refine ⟨_,(af (aN (dP rfl nZ (a9 rfl T.bD (paF (az (aT K rfl) rfl T.bA Me (paF (pv 0) aa)) aa)) (fun _ _ _ _=>⟨(aJ (i:=0) nZ.nd rfl (L7 rfl)),b6,(aG T.lD (CQ T) (hr.mono (by decide)) rfl (paF (pv 1) (paF (pv 2) (paF (pv 0) aa))))⟩)))),?_⟩
 right;refine cy hT ?_;right;have h1:=gt.len;have h3:=gt.le;rw [h1];refine nh K (n:=n) rfl (by omega) (fun i=>(bks n t e).take i) (fun σ'=>∃ y,σ'=[y,some v,some (.int (e:Int))]) rfl (fun i hi=>by rw [MF];omega) ⟨_,rfl⟩ ?_ ?_
 ·rintro i σ' H' d R R0 hi hs ⟨y,rfl⟩ hR hR0 hd;right;refine ⟨v,n,e,i,t,rfl,Rep.mono hs hT,gt,hi,?_⟩;exact hR _ _ (bf n t e i) _ ⟨_,rfl⟩ (aj.refl _) rfl (c8 _ n i hi)
 ·intro d H' fd hs ha;have e1:(bks n t e).take n=bks n t e:=MT (by simp [bks])
  have ha':Gr K H' d ((bks n t e).take n):=ha;rw [e1] at ha';exact q d H' fd hs ha'
inductive qv (K:LN) (vs:List V) (H:Hp) (Q:VK) (E:XK):Prop
 | mk (v:V) (n e:Nat) (t:List (List Nat)) (_:vs=[v]) (_:At K H v t) (_:GT n t e) (_:Q .non H)
def qy (T:Txt K mg):aH P w K mg base CX0 1 T.fg.f T.fg.fd ["rows"] (qv K):=by
 exists T.fg.ok dG
 ·obtain ⟨v,n,e,t,rfl,_⟩:=h;rfl
 obtain ⟨v,n,e,t,rfl,hT,gt,q⟩:=h;refine ⟨_,(ae (av (i:=1) dG.nd rfl (L7 rfl) (az (aT K rfl) rfl T.bA Me (paF (pv 0) aa)))
   (af (a8 L6 rfl (a9 rfl T.bD (paF (pv 1) aa)) (aJ (i:=2) dG.nd rfl (L7 rfl)) (af (a8 L6 rfl (a9 rfl T.bD (paF (pv 1) aa)) (aJ (i:=3) dG.nd rfl (L7 rfl)) (af (a8 L6 rfl (a9 rfl T.bD (paF (pv 1) aa)) (aJ (i:=4) dG.nd rfl (L7 rfl)) (af (aQ (ax dM (aw (ah K rfl) (aw (ah K rfl) (pv 0) (aw (ah K rfl) (aw (ah K rfl) (pv 0) (pv 2) (fun _ _=>rfl)) (pv 3) (fun _ _=>rfl)) (fun _ _=>rfl)) (pv 4) (fun _ _=>rfl)) (aw (ah K rfl) (aw (ah K rfl) (pv 0) (pv 2) (fun _ _=>rfl)) (aw (ah K rfl) (aw (ah K rfl) (pv 0) (pv 3) (fun _ _=>rfl)) (pv 4) (fun _ _=>rfl)) (fun _ _=>rfl)) (aB _)) (af cV) aE))))))))),?_⟩
 right;refine cy hT ?_;right;have h1:=gt.len;have h3:=gt.le;rw [h1];refine bW (n:=n) rfl (by omega) (fun i σ H'=>H'=H/\∃ x y z,σ=[some v,some (.int n),x,y,z]) ⟨rfl,_,_,_,rfl⟩ ?_ ?_
 ·rintro i σ' H' hi ⟨rfl,x,y,z,rfl⟩;right;refine bW (n:=n) rfl (by omega) (fun j σ H''=>H''=H'/\∃ y z,σ=[some v,some (.int n),some (.int (i:Int)),y,z]) ⟨rfl,_,_,rfl⟩ ?_ ?_
  ·rintro j σ'' H'' hj ⟨rfl,y,z,rfl⟩;right;refine bW (n:=n) rfl (by omega) (fun k σ H3=>H3=H''/\∃ z,σ=[some v,some (.int n),some (.int (i:Int)),some (.int (j:Int)),z]) ⟨rfl,_,rfl⟩ ?_ ?_
   ·rintro k σ3 H3 hk ⟨rfl,z,rfl⟩;have hij:=gt.lt i j hi hj;have hjk:=gt.lt j k hj hk;right;refine cM hT rfl (gt.get hi) fun w1 hw1=>?_;right;refine gH hw1 rfl (gt.dX hi hj) ?_;refine cM hT rfl (gt.get hij) fun w2 hw2=>?_;right;refine gH hw2 rfl (gt.dX hij hk) ?_;right;refine cM hT rfl (gt.get hi) fun w3 hw3=>?_;right;refine cM hT rfl (gt.get hj) fun w4 hw4=>?_;right;refine gH hw4 rfl (gt.dX hj hk) ?_;refine gH hw3 rfl (gt.dX hi hjk) ?_;right;refine bH (fun c=>absurd (by rw [gt.assoc i j k hi hj hk]) c) (fun _=>?_)
    right;exact ⟨rfl,_,rfl⟩
   ·rintro σ3 H3 ⟨rfl,z,rfl⟩;exact ⟨rfl,_,_,rfl⟩
  ·rintro σ'' H'' ⟨rfl,y,z,rfl⟩;exact ⟨rfl,_,_,_,rfl⟩
 ·rintro σ' H' ⟨rfl,x,y,z,rfl⟩;exact q
def gfs (n:Int) (r e b:V):List (Str×V):=[("many",.int n),("rows",r),("unit",e),("backs",b)]
def FY (n:Int) (r e b:V):(gfs n r e b).lookup ("many" : Str)=some (.int n):=rfl
def xT (n:Int) (r e b:V):(gfs n r e b).lookup ("rows" : Str)=some r:=rfl
def zx (n:Int) (r e b:V):(gfs n r e b).lookup ("unit" : Str)=some e:=rfl
def EK (n:Int) (r e b:V):(gfs n r e b).lookup ("backs" : Str)=some b:=rfl
def aX (C:Addr) (H:Hp) (g:Addr) (n:Nat) (t:List (List Nat)) (e:Nat):Prop :=
 ∃ dx r b ps,H g=some (.ins C dx (gfs n (.ref r) (.int (e:Int)) (.ref b)))/\Tbl H r t ps/\H b=some (.lst (aO (bks n t e)))
def aX.mono {C:Addr} {H H':Hp} {g n e:Nat} {t:List (List Nat)} (s:aj H H') (h:aX C H g n t e):aX C H' g n t e:=by
 obtain ⟨dx,r,b,ps,h1,h2,h3⟩:=h;exact ⟨dx,r,b,ps,s _ _ h1,h2.mono s,s _ _ h3⟩
def eI {H:Hp} {b:Addr} {l:List Nat} (h:H b=some (.lst (aO l))):At K H (.ref b) l:=⟨b,_,rfl,SqL.of h,fA⟩
def jB {H:Hp} {d:Addr} {l:List Nat} (h:Gr K H d l):H d=some (.lst (aO l)):=by
 obtain ⟨ys,hy,hP⟩:=h;have e:ys=aO l:=by
  unfold aO
  clear hy
  induction hP with
  | nil=>rfl
  | cons r _ ih=>rw [My,<- ih];exact congrArg (· :: _) r
 rw [<- e];exact hy
def aX.get {C:Addr} {H:Hp} {g n e:Nat} {t:List (List Nat)} (h:aX C H g n t e):∃ dx r b,H g=some (.ins C dx (gfs n (.ref r) (.int (e:Int)) (.ref b)))/\At K H (.ref r) t/\At K H (.ref b) (bks n t e):=by
 obtain ⟨dx,r,b,ps,h1,h2,h3⟩:=h;exact ⟨dx,r,b,h1,h2.at,eI h3⟩
def uC {n:Nat} {t:List (List Nat)} {e a:Nat} (h:a<n):(bks n t e)[a]?=some (bf n t e a):=by
 unfold bks;simp [h]
section
variable (T:Txt K mg) {H:Hp} {g dx:Addr} {n:Int} {r e b:V} {Q:VK} (hg:H g=some (.ins T.aI dx (gfs n r e b)))
include hg
def b8 (q:Q (.int n) H):isF K "many" (.ref g) H Q:=⟨g,T.aI,dx,_,_,rfl,hg,T.fC,T.o8,FY _ _ _ _,q⟩
def b5 (q:Q r H):isF K "rows" (.ref g) H Q:=⟨g,T.aI,dx,_,_,rfl,hg,T.fC,T.kR,xT _ _ _ _,q⟩
def b7 (q:Q e H):isF K "unit" (.ref g) H Q:=⟨g,T.aI,dx,_,_,rfl,hg,T.fC,T.kE,zx _ _ _ _,q⟩
def bO (q:Q b H):isF K "backs" (.ref g) H Q:=⟨g,T.aI,dx,_,_,rfl,hg,T.fC,T.nH,EK _ _ _ _,q⟩
end
inductive Hl (C:Addr) (K:LN) (vs:List V) (H:Hp) (Q:VK) (E:XK):Prop
 | mk (p dx:Addr) (r e b:V) (t:List (List Nat)) (_:vs=[.ref p,r,e,b]) (_:H p=some (.ins C dx [])) (_:At K H r t) (_:∀ H',H' p=some (.ins C dx (gfs t.length r e b))->(∀ a o,H a=some o->a≠p->H' a=some o)->Q .non H')
def GN (T:Txt K mg):aH P w K mg base CX0 1 T.uB T.vi ["self","rows","unit","backs"] (Hl T.aI K):=by
 exists T.Ju.ok xa
 ·obtain ⟨p,dx,r,e,b,t,rfl,_⟩:=h;rfl
 obtain ⟨p,dx,r,e,b,t,rfl,hp,hT,k⟩:=h;refine ⟨_,(ae (qf K rfl (pv 0) (az (aT K rfl) rfl T.bA Me (paF (pv 1) aa)) rfl)
   (ae (qf K rfl (pv 0) (pv 1) rfl)
   (ae (qf K rfl (pv 0) (pv 2) rfl)
   (af (qf K rfl (pv 0) (pv 3) rfl))))),?_⟩
 right;refine cy hT ?_;right;refine ⟨p,T.aI,dx,_,rfl,hp,T.fC,T.o8,(by show 0<1000;decide),?_⟩
 right;refine ⟨p,T.aI,dx,_,rfl,ar,T.fC,T.kR,(by show 1<1000;decide),?_⟩
 right;refine ⟨p,T.aI,dx,_,rfl,ar,T.fC,T.kE,(by show 2<1000;decide),?_⟩
 right;refine ⟨p,T.aI,dx,_,rfl,ar,T.fC,T.nH,(by show 3<1000;decide),?_⟩
 refine k _ ar fun a o ha hne=>?_;rw [aA hne,aA hne,aA hne,aA hne];exact ha
inductive Ad (C:Addr) (K:LN) (vs:List V) (H:Hp) (Q:VK) (E:XK):Prop
 | mk (v:V) (n e:Nat) (t:List (List Nat)) (_:vs=[v]) (_:At K H v t) (_:GT n t e) (_:∀ g H',H g=none->aj H H'->aX C (since H H') g n t e->Q (.ref g) H')
def Aw (T:Txt K mg):aH P w K mg base CX0 3 T.jQ.f T.jQ.fd ["table"] (Ad T.aI K):=by
 exists T.jQ.ok jq
 ·obtain ⟨v,n,e,t,rfl,_⟩:=h;rfl
 obtain ⟨v,n,e,t,rfl,hT,gt,k⟩:=h;refine ⟨_,(ae (dJ (i:=1) rfl jq.nd rfl (L7 rfl) nG (aY K rfl (pv 0)) (fun _ _ _ _=>⟨(aJ (i:=0) nG.nd rfl (L7 rfl)),b6,(dk (ic K rfl) rfl T.kG NP (paF (pv 0) aa))⟩) rfl)
   (ae (a7 (aG T.iH (wW T) (hr.mono (by decide)) rfl (paF (pv 1) aa)))
   (ae (a7 (aG T.eO (pW T) (hr.mono (by decide)) rfl (paF (pv 1) aa)))
   (ae (av (i:=2) jq.nd rfl (L7 rfl) (aG T.kY (Cy T) (hr.mono (by decide)) rfl (paF (pv 1) aa)))
   (ae (av (i:=3) jq.nd rfl (L7 rfl) (aG T.j7 (Ai T) (hr.mono (by decide)) rfl (paF (pv 1) (paF (pv 2) aa))))
   (ae (a7 (aG T.fg (qy T) (hr.mono (by decide)) rfl (paF (pv 1) aa)))
   (af (aN (FR T.IK (GN T) (hr.mono (by decide)) rfl T.IV T.IS .nil B8 (paF (pv 1) (paF (pv 2) (paF (pv 3) aa)))))))))))),?_⟩
 have h1:=gt.len;have h3:=gt.le;right;refine mV hT (by omega) fun d H1 ps s1 fd fps tb1=>?_
 have hd':At K H1 (.ref d) t:=tb1.at;right;refine ⟨_,n,t,rfl,hd',gt.toSq,?_⟩;right;refine ⟨_,n,t,rfl,hd',gt.toGd,?_⟩;right;refine ⟨_,n,e,t,rfl,hd',gt,?_⟩;right;refine ⟨_,n,e,t,rfl,hd',gt,fun b H2 fb s2 hb=>?_⟩;right;refine ⟨_,n,e,t,rfl,Rep.mono s2 hd',gt,?_⟩;right;intro x dx hx hdx hne;have s3:aj H2 (upd (upd H2 dx (.own x)) x (.ins T.aI dx [])):=fun b' o z=>by
  rw [aA (aS z hx),aA (aS z hdx)];exact z
 refine ⟨x,dx,_,_,_,t,rfl,ar,Rep.mono s3 (Rep.mono s2 hd'),fun H4 h4 k4=>⟨rfl,?_⟩⟩;have s4:aj H2 H4:=fun b' o z=>k4 b' o (s3 b' o z) (aS z hx);have fx:H x=none:=(s1.trans s2).free hx;refine k x H4 fx (s1.trans (s2.trans s4)) ⟨dx,d,b,ps,?_,(tb1.mono (s2.trans s4)).since fd fps,?_⟩
 ·rw [nD fx,h4,h1]
 ·rw [nD (s1.free fb)];exact s4 _ _ (jB hb)
inductive Ca (C:Addr) (K:LN) (vs:List V) (H:Hp) (Q:VK) (E:XK):Prop
 | mk (g:Addr) (v:V) (n e:Nat) (t:List (List Nat)) (l:List Nat) (_:vs=[.ref g,v]) (_:aX C H g n t e) (_:GT n t e) (_:At K H v l) (_:(∀ x∈l,x<n)) (_:Q (.int (prd t e l:Int)) H)
def mO (T:Txt K mg):aH P w K mg base CX0 1 T.hZ.f T.hZ.fd ["group","things"] (Ca T.aI K):=by
 exists T.hZ.ok jM
 ·obtain ⟨g,v,n,e,t,l,rfl,_⟩:=h;rfl
 obtain ⟨g,v,n,e,t,l,rfl,hG,gt,hl,hx,q⟩:=h;obtain ⟨dx,r,b,hg,hT,hb⟩:=hG.get (K:=K);refine ⟨_,(ae (av (i:=2) jM.nd rfl (L7 rfl) (cK K rfl (pv 0) rfl))
   (ae (a8 L6 rfl (aY K rfl (pv 1)) (aJ (i:=3) jM.nd rfl (L7 rfl)) (af (av (i:=2) jM.nd rfl (L7 rfl) (aw (ah K rfl) (aw (ah K rfl) (cK K rfl (pv 0) rfl) (pv 2) (fun _ _=>rfl)) (pv 3) (fun _ _=>rfl)))))
   (af (aN (pv 2))))),?_⟩
 right;refine ⟨g,T.aI,dx,_,_,rfl,hg,T.fC,T.kE,zx _ _ _ _,?_⟩;right;refine dB hl (fun i σ H'=>H'=H/\∃ x,σ=[some (.ref g),some v,some (.int (prd t e (l.take i):Int)),x]) ⟨rfl,_,rfl⟩ (fun i σ H' h=>by rw [h.1];exact aj.refl _) ?_ ?_
 ·rintro i c w' σ' H' hc hw ⟨rfl,x,rfl⟩;have hc':c<n:=hx c (LR hc);have hp:prd t e (l.take i)<n:=gt.E3 gt.elt fun y hy=>hx y (Py hy);cases (show w'=V.int (c:Int) from hw);right;refine ⟨g,T.aI,dx,_,_,rfl,hg,T.fC,T.kR,xT _ _ _ _,?_⟩;right;refine cM hT rfl (gt.get hp) fun w1 hw1=>?_;right;refine gH hw1 rfl (gt.dX hp hc') ?_;right;refine ⟨rfl,some (.int (c:Int)),?_⟩;rw [GR hc];rfl
 ·rintro σ' H' ⟨rfl,x,rfl⟩;right;rw [MJ];exact q
end
def de (ns:List Int) (k:Nat):Nat:=match ns[k]? with
 | some x=>(x % 2147483647).toNat
 | none=>0
def rF (ns:List Int) (k:Nat):de ns k<2147483647:=by
 unfold de
 split
 ·rename_i x _
  have:=Int.emod_lt_of_pos x (show (0:Int)<2147483647 by decide)
  have:=QT x (show (2147483647:Int)≠0 by decide)
  omega
 ·decide
structure fS (a b c s:Nat):Prop where
 a1:1<=a
 b1:1<=b
 c1:1<=c
 s1:1<=s
 s4:s<=4
 le:a * b * c * s<=23
def szL (l:List Nat):Bool:=match l with
 | [a,b,c,s]=>decide (1<=a/\1<=b/\1<=c/\1<=s/\s<=4/\a * b * c * s<=23)
 | _=>false
def Kb {l:List Nat} (h:szL l=true):∃ a b c s,l=[a,b,c,s]/\fS a b c s:=by
 match l,h with
 | [a,b,c,s],h =>
  have h':=of_decide_eq_true h;exact ⟨a,b,c,s,rfl,h'.1,h'.2.1,h'.2.2.1,h'.2.2.2.1,h'.2.2.2.2.1,h'.2.2.2.2.2⟩
def i3 {x y:Nat} (h:1<=y):x<=x * y:=by
 have:=Nm x h;omega
def fS.ab {a b c s:Nat} (h:fS a b c s):a * b<=23:=by
 have h1:=h.le;have h2:a * b<=a * b * c:=i3 h.c1;have h3:a * b * c<=a * b * c * s:=i3 h.s1;omega
def fS.abc {a b c s:Nat} (h:fS a b c s):a * b * c<=23:=by
 have h1:=h.le;have h3:a * b * c<=a * b * c * s:=i3 h.s1;omega
def fS.a23 {a b c s:Nat} (h:fS a b c s):a<=23:=by
 have h1:=h.ab;have h2:a<=a * b:=i3 h.b1;omega
def fS.b23 {a b c s:Nat} (h:fS a b c s):b<=23:=by
 have h1:=h.ab;have h2:b<=b * a:=i3 h.a1;rw [Ow] at h2;omega
def fS.c23 {a b c s:Nat} (h:fS a b c s):c<=23:=by
 have h1:=h.abc;have h2:c<=c * (a * b):=i3 (Oc h.a1 h.b1);rw [Ow] at h2;omega
def Il:FX.all szL=true:=by decide
def IP:∀ k,k<4->6<=([8,12,6,23]:List Nat).getD k 0/\([8,12,6,23]:List Nat).getD k 0<=23:=by decide
def G8:∀ k,k<6->1<=([2,1,2,3,2,4]:List Nat).getD k 0/\([2,1,2,3,2,4]:List Nat).getD k 0<=4:=by decide
def G4:∀ k,k<3->0<([12,276,6348]:List Nat).getD k 0/\([12,276,6348]:List Nat).getD k 0<1073741824:=by decide
def Lo {fi se th st room top:Nat} (h1:1<=fi) (h2:1<=se) (h3:1<=th) (h4:1<=st) (h5:st<=4) (hfs:0<fi * se) (ht:th<=room / (fi * se)) (hr:room * st<=top) (h23:top<=23):fS fi se th st:=by
 refine ⟨h1,h2,h3,h4,h5,?_⟩;have e1:fi * se * th<=room:=M7 (Nm _ ht) (Nat.mul_div_le room (fi * se));have e2:fi * se * th * st<=room * st:=Pz _ e1;omega
section
variable {P:Mh} {w:World} {K:LN} {mg:Str->Option Value} {base:Heap}
inductive Az (K:LN) (vs:List V) (H:Hp) (Q:VK) (E:XK):Prop
 | mk (v:V) (ns:List Int) (k:Nat) (_:vs=[v,.int (k:Int)]) (_:At K H v ns) (_:Q (.int (de ns k:Int)) H)
def cP (T:Txt K mg):aH P w K mg base CX0 1 T.cg.f T.cg.fd ["_law_script","_law_k"] (Az K):=by
 exists T.cg.ok Ax
 ·obtain ⟨v,ns,k,rfl,_⟩:=h;rfl
 obtain ⟨v,ns,k,rfl,hA,q⟩:=h;refine ⟨_,(ae (aQ (ax eA (pv 1) (az (aT K rfl) rfl T.bA Me (paF (pv 0) aa)) (aB _)) (af (aN (au aV (aw (ah K rfl) (pv 0) (pv 1) (fun _ _=>rfl)) ag))) aE)
   (af (aN ag))),?_⟩
 right;refine cy hA ?_;right;refine aU (fun c=>?_) (fun c=>?_)
 ·have hk:k<ns.length:=by omega
  right;refine jR (n:=k) hA rfl (LO hk) ?_;right;refine rG (show (0:Int)<2147483647 by decide) ?_
  unfold de at q;rw [LO hk] at q;have:=QT ns[k] (show (2147483647:Int)≠0 by decide)
  dsimp only at q;rw [Tf this] at q;exact q
 ·have hk:¬ k<ns.length:=by omega
  right;unfold de at q;rw [MD (by omega)] at q
  exact q
inductive zc (K:LN) (vs:List V) (H:Hp) (Q:VK) (E:XK):Prop
 | mk (one two:Nat) (_:vs=[.int (one:Int),.int (two:Int)]) (_:∀ v H' a b c s,aj H H'->fS a b c s->At K H' v [a,b,c,s]->Q v H')
def zF (T:Txt K mg):aH P w K mg base CX0 1 T.js.f T.js.fd ["_law_one","_law_two"] (zc K):=by
 exists T.js.ok cE
 ·obtain ⟨one,two,rfl,_⟩:=h;rfl
 obtain ⟨one,two,rfl,q⟩:=h;refine ⟨_,(ae (av (i:=2) cE.nd rfl (L7 rfl) (au bq (pv 0) ag))
   (ae (aQ (ax bL (au aV (pv 0) ag) ag (aB _)) (ae (av (i:=3) cE.nd rfl (L7 rfl) (aW (xU [[2,2,1,3],[7,1,1,3],[5,1,1,4],[4,2,1,2],[3,3,1,2],[8,1,1,2]] (by trivial)).out))
   (ae (av (i:=3) cE.nd rfl (L7 rfl) (au kS (pv 3) (aW (xU [[4,1,1,2],[2,2,2,2],[3,1,1,4],[2,2,1,2],[5,1,1,2],[9,1,1,2]] (by trivial)).out)))
   (af (aN (aw (ah K rfl) (pv 3) (au aV (pv 2) ag) (fun _ _=>rfl)))))) aE)
   (ae (av (i:=4) cE.nd rfl (L7 rfl) (aw (ah K rfl) (aW (mG [8,12,6,23] (by trivial)).out) (au aV (pv 2) ag) (fun _ _=>rfl)))
   (ae (av (i:=5) cE.nd rfl (L7 rfl) (aw (ah K rfl) (aW (mG [2,1,2,3,2,4] (by trivial)).out) (au aV (au bq (pv 2) ag) ag) (fun _ _=>rfl)))
   (ae (av (i:=6) cE.nd rfl (L7 rfl) (au bq (pv 4) (pv 5)))
   (ae (av (i:=7) cE.nd rfl (L7 rfl) (au bj ag (au aV (au bq (pv 2) ag) (pv 6))))
   (ae (av (i:=8) cE.nd rfl (L7 rfl) (au bj ag (au aV (pv 1) (au bq (pv 6) (pv 7)))))
   (ae (av (i:=9) cE.nd rfl (L7 rfl) (au bj ag (au aV (au bq (pv 1) ag) (au bq (pv 6) (au bU (pv 7) (pv 8))))))
   (af (aN (aW (paF (pv 7) (paF (pv 8) (paF (pv 9) (paF (pv 5) aa))))))))))))))),?_⟩
 walk_at "rx";generalize one / 3=num;walk_at "ifs";walk_at "rx";refine aU (fun _=>?_) (fun _=>?_)
 ·walk_at "rx";refine dS (K:=K) (l:=([[2,2,1,3],[7,1,1,3],[5,1,1,4],[4,2,1,2],[3,3,1,2],[8,1,1,2]]:List (List Nat))) (vm _ (by decide)) (by decide) fun d1 H1 f1 s1 g1=>?_
  walk_at "rx";refine dS (K:=K) (l:=([[4,1,1,2],[2,2,2,2],[3,1,1,4],[2,2,1,2],[5,1,1,2],[9,1,1,2]]:List (List Nat))) (vm _ (by decide)) (by decide) fun d2 H2 f2 s2 g2=>?_
  refine Lb (g1.mono s2).copy g2.copy (by decide) fun d3 H3 f3 s3 a3=>?_
  have a3':At K H3 (.ref d3) FX:=a3;walk_at "rx";have hm:num % 12<FX.length:=Mv _ (by decide)
  refine cM (n:=num % 12) a3' rfl (getD_some [] hm) fun w hw=>?_;obtain ⟨a,b,c,s,e,ok⟩:=Kb (Mz.mp Il _ (LR (getD_some [] hm)));rw [e] at hw;exact q w H3 a b c s (s1.trans (s2.trans s3)) ok hw
 ·walk_at "rx";refine dS (K:=K) (l:=([8,12,6,23]:List Nat)) (kg _) (by decide) fun d1 H1 f1 s1 g1=>?_
  walk_at "rx";have hm4:num % 4<4:=Mv _ (by decide)
  refine bN g1.at (getD_some 0 (show num % 4<([8,12,6,23]:List Nat).length from hm4)) ?_;obtain ⟨h6,h23⟩:=IP (num % 4) hm4;generalize ([8,12,6,23]:List Nat).getD (num % 4) 0=top at h6 h23 ⊢;walk_at "rx";refine dS (K:=K) (l:=([2,1,2,3,2,4]:List Nat)) (kg _) (by decide) fun d2 H2 f2 s2 g2=>?_
  walk_at "rx";have hm6:num / 4 % 6<6:=Mv _ (by decide)
  refine bN g2.at (getD_some 0 (show num / 4 % 6<([2,1,2,3,2,4]:List Nat).length from hm6)) ?_;obtain ⟨t1,t4⟩:=G8 (num / 4 % 6) hm6;generalize ([2,1,2,3,2,4]:List Nat).getD (num / 4 % 6) 0=st at t1 t4 ⊢;walk_at "rx";have hroom:0<top / st:=Tg (by omega) (by omega)
  have hrs:top / st * st<=top:=Nat.div_mul_le_self _ _;generalize top / st=room at hroom hrs ⊢;have hr23:room<=23:=by
   have:=Qd room (show 0<st by omega)
   omega
  walk_at "rx";have hf:1+num / 24 % room<=room:=by
   have:=Mv (num / 24) hroom;omega
  have hf1:1<=1+num / 24 % room:=by omega
  generalize 1+num / 24 % room=fi at hf hf1 ⊢;walk_at "rx";have h2:0<room / fi:=Tg hf hf1;refine tR h2 ?_;walk_at "rx";have hse:1+two % (room / fi)<=room / fi:=by
   have:=Mv two h2;omega
  have hse1:1<=1+two % (room / fi):=by omega
  generalize 1+two % (room / fi)=se at hse hse1 ⊢;have hfs:fi * se<=room:=M7 (Nm _ hse) (Nat.mul_div_le room fi);have hfs1:0<fi * se:=Oc hf1 hse1;walk_at "rx";have h3:0<room / (fi * se):=Tg hfs hfs1;refine tR h3 ?_;walk_at "rx";have hth:1+two / 23 % (room / (fi * se))<=room / (fi * se):=by
   have:=Mv (two / 23) h3;omega
  have hth1:1<=1+two / 23 % (room / (fi * se)):=by omega
  generalize 1+two / 23 % (room / (fi * se))=th at hth hth1 ⊢;refine bo ?_;walk_at "rx";refine ⟨small (by show 4<=1000;decide),fun p hp=>q _ _ fi se th st (s1.trans (s2.trans (ay hp _))) (Lo hf1 hse1 hth1 t1 t4 hfs1 hth hrs h23) ?_⟩
  exact ⟨p,_,rfl,SqL.of ar,.cons rfl (.cons rfl (.cons rfl (.cons rfl .nil)))⟩
def KJ (K:LN) (H:Hp) (v:V) (x a b s:Nat) (d:Addr) (n:Nat):St->Hp->Prop:=fun σ' H'=>σ'=[some v,some (.int (x:Int)),some (.ref d)]/\aj H H'/\∃ l:List Nat,Gr K H' d l/\l≠[]/\l.length<=n/\∀ k∈l,k<5/\eF a b s k=true
def KJ.put {H H':Hp} {v:V} {x a b s n k:Nat} {d:Addr} {σ':St} {N:St->Hp->Prop} (hd:H d=none) (hn:n<=1000) (h:KJ K H v x a b s d n σ' H') (h5:k<5) (hk:eF a b s k=true) (hN:∀ H'',KJ K H v x a b s d (n+1) σ' H''->N σ' H'') :
  qt (.ref d) [.int (k:Int)] H' fun _ H1=>N σ' H1:=by
 obtain ⟨e,s1,l,g,ne,ll,hl⟩:=h;refine fR (b:=k) g (by omega) rfl fun H3 g3 k3 _=>hN H3 ⟨e,aj.but hd s1 k3,_,g3,by simp,by rw [Mq];simp;omega,fun y hy=>?_⟩
 rcases Mb.mp hy with z|z
 ·exact hl y z
 ·rw [LY.mp z];exact ⟨h5,hk⟩
def KJ.skip {H H':Hp} {v:V} {x a b s n:Nat} {d:Addr} {σ':St} (h:KJ K H v x a b s d n σ' H'):KJ K H v x a b s d (n+1) σ' H':=by
 obtain ⟨e,s1,l,g,ne,ll,hl⟩:=h;exact ⟨e,s1,l,g,ne,by omega,hl⟩
def KJ.ty {H H':Hp} {v:V} {x a b s n:Nat} {d:Addr} {σ':St} (h:KJ K H v x a b s d n σ' H'):tyV K "list" (.ref d) H':=by
 obtain ⟨e,s1,l,g,_⟩:=h;exact g.ty
def Lv {a b s:Nat} (h1:a=b) (h2:s % 2=0):eF a b s 1=true:=by subst h1;simp [eF,h2]
def Ln {a b s:Nat} (h1:a=b) (h2:s % 3=0):eF a b s 2=true:=by subst h1;simp [eF,h2]
def Lu {a b s:Nat} (h1:a % b=0) (h2:1<b) (h3:s % b=0):eF a b s 3=true:=by simp [eF,h1,h2,h3]
def Lm {a b s:Nat} (h1:a % 2=0) (h2:b % 2=0) (h3:s % 2=0):eF a b s 4=true:=by simp [eF,h1,h2,h3]
inductive AD (K:LN) (vs:List V) (H:Hp) (Q:VK) (E:XK):Prop
 | mk (v:V) (x a b c s:Nat) (_:vs=[v,.int (x:Int)]) (_:fS a b c s) (_:At K H v [a,b,c,s]) (_:∀ k H',aj H H'->k<5->eF a b s k=true->Q (.int (k:Int)) H')
def AG (T:Txt K mg):aH P w K mg base CX0 1 T.jV.f T.jV.fd ["_law_sizes_here","_law_number"] (AD K):=by
 exists T.jV.ok qX
 ·obtain ⟨v,x,a,b,c,s,rfl,_⟩:=h;rfl
 obtain ⟨v,x,a,b,c,s,rfl,sz,hS,q⟩:=h;refine ⟨_,(ae (av (i:=2) qX.nd rfl (L7 rfl) (aW (paF ag aa)))
   (ae (aQ (PW.pt (dy (ax bL (aw (ah K rfl) (pv 0) ag (fun _ _=>rfl)) (aw (ah K rfl) (pv 0) ag (fun _ _=>rfl)) (aB _)) (d8 (ax bL (au aV (aw (ah K rfl) (pv 0) ag (fun _ _=>rfl)) ag) ag (aB _))))) (af (a7 (cJ K rfl Mi MK ML cz (pv 2) (paF ag aa)))) aE)
   (ae (aQ (PW.pt (dy (ax bL (aw (ah K rfl) (pv 0) ag (fun _ _=>rfl)) (aw (ah K rfl) (pv 0) ag (fun _ _=>rfl)) (aB _)) (d8 (ax bL (au aV (aw (ah K rfl) (pv 0) ag (fun _ _=>rfl)) ag) ag (aB _))))) (af (a7 (cJ K rfl Mi MK ML cz (pv 2) (paF ag aa)))) aE)
   (ae (aQ (PW.pt (dy (ax bL (au aV (aw (ah K rfl) (pv 0) ag (fun _ _=>rfl)) (aw (ah K rfl) (pv 0) ag (fun _ _=>rfl))) ag (aB _)) (dy (ax fK (aw (ah K rfl) (pv 0) ag (fun _ _=>rfl)) ag (aB _)) (d8 (ax bL (au aV (aw (ah K rfl) (pv 0) ag (fun _ _=>rfl)) (aw (ah K rfl) (pv 0) ag (fun _ _=>rfl))) ag (aB _)))))) (af (a7 (cJ K rfl Mi MK ML cz (pv 2) (paF ag aa)))) aE)
   (ae (aQ (PW.pt (dy (ax bL (au aV (aw (ah K rfl) (pv 0) ag (fun _ _=>rfl)) ag) ag (aB _)) (dy (ax bL (au aV (aw (ah K rfl) (pv 0) ag (fun _ _=>rfl)) ag) ag (aB _)) (d8 (ax bL (au aV (aw (ah K rfl) (pv 0) ag (fun _ _=>rfl)) ag) ag (aB _)))))) (af (a7 (cJ K rfl Mi MK ML cz (pv 2) (paF ag aa)))) aE)
   (af (aN (aw (ah K rfl) (pv 2) (au aV (pv 1) (az (aT K rfl) rfl T.bA Me (paF (pv 2) aa))) (fun _ _=>rfl))))))))),?_⟩
 have b1:=sz.b1;walk_at "rx";refine dS (K:=K) (l:=([0]:List Nat)) (by walk_at "wr") (by decide) fun d H1 f1 s1 g1=>?_
 have j1:KJ K H v x a b s d 1 [some v,some (.int (x:Int)),some (.ref d)] H1:=⟨rfl,s1,_,g1,by simp,by simp,fun k hk=>by rw [LY.mp hk];exact ⟨by decide,rfl⟩⟩
 have hS1:=Rep.mono s1 hS;walk_at "rx";refine dA (KJ K H v x a b s d 2) (fun N hN=>?_) ?_
 ·walk_at "rx";refine aU (fun c1=>?_) (fun _=>?_)
  ·walk_at "rx";refine aU (fun c2=>?_) (fun _=>?_)
   ·walk_at "rx";refine ⟨j1.ty,?_⟩;walk_at "rx";exact KJ.put f1 (by decide) j1 (by decide) (Lv c1 c2) fun H2 z=>hN _ _ z
   ·walk_at "rx";exact hN _ _ j1.skip
  ·walk_at "8";exact hN _ _ j1.skip
 rintro σ2 H2 j2;obtain ⟨rfl,s2,z2⟩:=id j2;have hS2:=Rep.mono s2 hS;walk_at "rx";refine dA (KJ K H v x a b s d 3) (fun N hN=>?_) ?_
 ·walk_at "rx";refine aU (fun c1=>?_) (fun _=>?_)
  ·walk_at "rx";refine aU (fun c2=>?_) (fun _=>?_)
   ·walk_at "rx";refine ⟨j2.ty,?_⟩;walk_at "rx";exact KJ.put f1 (by decide) j2 (by decide) (Ln c1 c2) fun H2 z=>hN _ _ z
   ·walk_at "rx";exact hN _ _ j2.skip
  ·walk_at "8";exact hN _ _ j2.skip
 rintro σ3 H3 j3;obtain ⟨rfl,s3,z3⟩:=id j3;have hS3:=Rep.mono s3 hS;walk_at "rx";refine dA (KJ K H v x a b s d 4) (fun N hN=>?_) ?_
 ·walk_at "rx";refine aU (fun c1=>?_) (fun _=>?_)
  ·walk_at "rx";refine aU (fun c2=>?_) (fun _=>?_)
   ·walk_at "rx";refine aU (fun c3=>?_) (fun _=>?_)
    ·walk_at "rx";refine ⟨j3.ty,?_⟩;walk_at "rx";exact KJ.put f1 (by decide) j3 (by decide) (Lu c1 c2 c3) fun H2 z=>hN _ _ z
    ·walk_at "rx";exact hN _ _ j3.skip
   ·walk_at "8";exact hN _ _ j3.skip
  ·walk_at "8";exact hN _ _ j3.skip
 rintro σ4 H4 j4;obtain ⟨rfl,s4,z4⟩:=id j4;have hS4:=Rep.mono s4 hS;walk_at "rx";refine dA (KJ K H v x a b s d 5) (fun N hN=>?_) ?_
 ·walk_at "rx";refine aU (fun c1=>?_) (fun _=>?_)
  ·walk_at "rx";refine aU (fun c2=>?_) (fun _=>?_)
   ·walk_at "rx";refine aU (fun c3=>?_) (fun _=>?_)
    ·walk_at "rx";refine ⟨j4.ty,?_⟩;walk_at "rx";exact KJ.put f1 (by decide) j4 (by decide) (Lm c1 c2 c3) fun H2 z=>hN _ _ z
    ·walk_at "rx";exact hN _ _ j4.skip
   ·walk_at "8";exact hN _ _ j4.skip
  ·walk_at "8";exact hN _ _ j4.skip
 rintro σ5 H5 ⟨rfl,s5,l,g5,ne,ll,hl⟩;have ha5:=g5.at;have hl0:0<l.length:=M9.mpr ne;walk_at "rx";have hm:x % l.length<l.length:=Mv _ hl0;refine bN ha5 (getD_some 0 hm) ?_;have hk:=hl _ (LR (getD_some 0 hm));exact q _ H5 s5 hk.1 hk.2
inductive Ac (K:LN) (vs:List V) (H:Hp) (Q:VK) (E:XK):Prop
 | mk (m s x:Nat) (_:vs=[.int (m:Int),.int (s:Int),.int (x:Int)]) (_:1<=m) (_:m<=23) (_:1<=s) (_:s<=4) (_:∀ u H',aj H H'->u∈unitsOf m s->Q (.int (u:Int)) H')
def Am (T:Txt K mg):aH P w K mg base CX0 1 T.jZ.f T.jZ.fd ["_law_many","_law_steps","_law_number"] (Ac K):=by
 exists T.jZ.ok eM
 ·obtain ⟨m,s,x,rfl,_⟩:=h;rfl
 obtain ⟨m,s,x,rfl,m1,m23,s1,s4,q⟩:=h;refine ⟨_,(ae (av (i:=3) eM.nd rfl (L7 rfl) (aW aa))
   (ae (a8 L6 rfl (a9 rfl T.bD (paF (pv 0) aa)) (aJ (i:=4) eM.nd rfl (L7 rfl)) (ae (av (i:=5) eM.nd rfl (L7 rfl) ag)
   (ae (a8 L6 rfl (a9 rfl T.bD (paF (pv 1) aa)) (aJ (i:=6) eM.nd rfl (L7 rfl)) (af (av (i:=5) eM.nd rfl (L7 rfl) (au aV (au bU (pv 5) (pv 4)) (pv 0)))))
   (af (aQ (ax bL (pv 5) (au aV ag (pv 0)) (aB _)) (af (a7 (cJ K rfl Mi MK ML cz (pv 3) (paF (pv 4) aa)))) aE)))))
   (ae (aQ (PW.pt (dy (ax fK (au bU (pv 0) (pv 1)) ag (aB _)) (d8 (ax fK (az (aT K rfl) rfl T.bA Me (paF (pv 3) aa)) ag (aB _))))) (af (av (i:=3) eM.nd rfl (L7 rfl) (q9 (rd K rfl) (pv 3) (u9 ag) uq))) aE)
   (af (aN (aw (ah K rfl) (pv 3) (au aV (pv 2) (az (aT K rfl) rfl T.bA Me (paF (pv 3) aa))) (fun _ _=>rfl))))))),?_⟩
 walk_at "rx";refine dS (K:=K) (l:=([]:List Nat)) iq (by decide) fun d H1 f1 e1 g1=>?_
 walk_at "rx";refine bW (n:=m) rfl (by omega) (fun i σ H'=>aj H H'/\Gr K H' d ((LX i).filter fun u=>OE (pw u m s) (1 % m))/\∃ y z k,σ=[some (.int (m:Int)),some (.int (s:Int)),some (.int (x:Int)),some (.ref d),y,z,k]) ⟨e1,g1,_,_,_,rfl⟩ ?_ ?_
 ·rintro i σ' H' hi ⟨e2,g2,y,z,k,rfl⟩;walk_at "rx";refine bW (n:=s) rfl (by omega) (fun j σ H2=>H2=H'/\∃ k,σ=[some (.int (m:Int)),some (.int (s:Int)),some (.int (x:Int)),some (.ref d),some (.int (i:Int)),some (.int (pw i m j:Int)),k]) ⟨rfl,_,rfl⟩ ?_ ?_
  ·rintro j σ'' H2 hj ⟨rfl,k,rfl⟩;walk_at "rx";exact ⟨rfl,_,rfl⟩
  ·rintro σ'' H2 ⟨rfl,k,rfl⟩;walk_at "3";have hl:((LX i).filter fun u=>OE (pw u m s) (1 % m)).length<=100000:=by
    have:=Og (fun u=>OE (pw u m s) (1 % m)) (LX i);rw [M4] at this;omega
   refine aU (fun c=>?_) (fun c=>?_)
   ·walk_at "rx";refine ⟨g2.ty,?_⟩;walk_at "rx";refine fR (b:=i) g2 hl rfl fun H3 g3 k3 _=>?_;refine ⟨aj.but f1 e2 k3,?_,_,_,_,rfl⟩;rw [sQ,if_pos c];exact g3
   ·walk_at "rx";refine ⟨e2,?_,_,_,_,rfl⟩;rw [sQ,if_neg c];exact g2
 ·rintro σ' H2 ⟨e2,g2,y,z,k,rfl⟩;have g2':Gr K H2 d (unitsOf m s):=g2;have a2:=g2'.at;have ne:=FF m1 m23 s1 s4;have ul:(unitsOf m s).length<=23:=by
   have:=Og (fun u=>OE (pw u m s) (1 % m)) (LX m);rw [M4] at this;exact M7 this m23
  have u0:0<(unitsOf m s).length:=M9.mpr ne;walk_at "rx";refine dA (fun σ' H'=>aj H H'/\∃ (p:Addr) (l:List Nat),At K H' (.ref p) l/\0<l.length/\(∀ u∈l,u∈unitsOf m s)/\∃ y z k,σ'=[some (.int (m:Int)),some (.int (s:Int)),some (.int (x:Int)),some (.ref p),y,z,k]) (fun N hN=>?_) ?_
  ·have no:N [some (.int (m:Int)),some (.int (s:Int)),some (.int (x:Int)),some (.ref d),y,z,k] H2:=hN _ _ ⟨e2,d,_,a2,u0,fun _ z=>z,_,_,_,rfl⟩;walk_at "rx";refine aU (fun c1=>?_) (fun _=>?_)
   ·walk_at "rx";refine aU (fun c2=>?_) (fun _=>?_)
    ·walk_at "rx";refine IF a2 fun p H3 e3 _ a3=>?_;walk_at "rx";have ec:cut (unitsOf m s) (some ((1:Nat):Int)) none=(unitsOf m s).drop 1:=Hm _;rw [ec] at a3;exact hN _ _ ⟨e2.trans e3,p,_,a3,by rw [QC];omega,fun u hu=>Px hu,_,_,_,rfl⟩
    ·walk_at "rx";exact no
   ·walk_at "8";exact no
  ·rintro σ3 H3 ⟨e3,p,l,a3,l0,hl,y,z,k,rfl⟩;walk_at "rx";have hm:x % l.length<l.length:=Mv _ l0;refine bN a3 (getD_some 0 hm) ?_;exact q _ H3 e3 (hl _ (LR (getD_some 0 hm)))
def Par.sz {a b c s kind u0 u1 u2:Nat} (h:Par a b c s kind u0 u1 u2):fS a b c s:=⟨h.a1,h.b1,h.c1,h.s1,h.s4,h.le⟩
inductive xm (K:LN) (vs:List V) (H:Hp) (Q:VK) (E:XK):Prop
 | mk (v u:V) (p kind a b c s u0 u1 u2:Nat) (_:vs=[.int (p:Int),v,.int (kind:Int),u]) (_:Par a b c s kind u0 u1 u2) (_:At K H v [a,b,c,s]) (_:At K H u [u0,u1,u2]) (_:p<a * b * c) (_:Q (.int (dZ a b c kind u0 u1 u2 p:Int)) H)
def xg (T:Txt K mg):aH P w K mg base CX0 1 T.ig.f T.ig.fd ["_law_place","_law_sizes_here","_law_kind_here","_law_units"] (xm K):=by
 exists T.ig.ok cf
 ·obtain ⟨v,u,p,kind,a,b,c,s,u0,u1,u2,rfl,_⟩:=h;rfl
 obtain ⟨v,u,p,kind,a,b,c,s,u0,u1,u2,rfl,pr,hS,hU,hp,q⟩:=h;refine ⟨_,(ae (av (i:=4) cf.nd rfl (L7 rfl) (au aV (pv 0) (aw (ah K rfl) (pv 1) ag (fun _ _=>rfl))))
   (ae (av (i:=5) cf.nd rfl (L7 rfl) (au aV (au bq (pv 0) (aw (ah K rfl) (pv 1) ag (fun _ _=>rfl))) (aw (ah K rfl) (pv 1) ag (fun _ _=>rfl))))
   (ae (av (i:=6) cf.nd rfl (L7 rfl) (au aV (au bU (au bq (pv 0) (au bU (aw (ah K rfl) (pv 1) ag (fun _ _=>rfl)) (aw (ah K rfl) (pv 1) ag (fun _ _=>rfl)))) (aw (ah K rfl) (pv 3) ag (fun _ _=>rfl))) (aw (ah K rfl) (pv 1) ag (fun _ _=>rfl))))
   (ae (aQ (ax bL (pv 2) ag (aB _)) (af (DQ (i:=4) (j:=5) rfl cf.nd rfl rfl (by decide) rfl rfl (paF (pv 5) (paF (pv 4) aa)) rfl)) (af (aQ (ax bL (pv 2) ag (aB _)) (af (DQ (i:=4) (j:=5) rfl cf.nd rfl rfl (by decide) rfl rfl (paF (au aV (au fP ag (pv 5)) (aw (ah K rfl) (pv 1) ag (fun _ _=>rfl))) (paF (au aV (au fP (pv 4) (pv 5)) (aw (ah K rfl) (pv 1) ag (fun _ _=>rfl))) aa)) rfl)) (af (aQ (ax bL (pv 2) ag (aB _)) (af (av (i:=5) cf.nd rfl (L7 rfl) (au aV (au bj (pv 5) (pv 4)) (aw (ah K rfl) (pv 1) ag (fun _ _=>rfl))))) (af (aQ (ax bL (pv 2) ag (aB _)) (af (av (i:=4) cf.nd rfl (L7 rfl) (au aV (au bj (pv 4) (au bU (au bq (aw (ah K rfl) (pv 1) ag (fun _ _=>rfl)) ag) (pv 5))) (aw (ah K rfl) (pv 1) ag (fun _ _=>rfl))))) (ae (av (i:=4) cf.nd rfl (L7 rfl) (au aV (au bU (pv 4) (aw (ah K rfl) (pv 3) ag (fun _ _=>rfl))) (aw (ah K rfl) (pv 1) ag (fun _ _=>rfl))))
   (af (av (i:=5) cf.nd rfl (L7 rfl) (au aV (au bU (pv 5) (aw (ah K rfl) (pv 3) ag (fun _ _=>rfl))) (aw (ah K rfl) (pv 1) ag (fun _ _=>rfl)))))))))))))
   (af (aN (au bj (pv 4) (au bU (aw (ah K rfl) (pv 1) ag (fun _ _=>rfl)) (au bj (pv 5) (au bU (aw (ah K rfl) (pv 1) ag (fun _ _=>rfl)) (pv 6))))))))))),?_⟩
 have a1:=pr.a1;have b1:=pr.b1;have c1:=pr.c1;have a23:=pr.sz.a23;have b23:=pr.sz.b23;have c23:=pr.sz.c23;have ab23:=pr.sz.ab;have ab0:0<a * b:=Oc a1 b1;have lu0:=(pI.mp pr.v0).1;have lu1:=(pI.mp pr.v1).1;have lu2:=(pI.mp pr.v2).1;walk_at "rx";refine dA (fun σ' H'=>H'=H/\∃ X Y:Nat,X+a * (Y+b * (p / (a * b) * u2 % c))=dZ a b c kind u0 u1 u2 p/\σ'=[some (.int (p:Int)),some v,some (.int (kind:Int)),some u,some (.int (X:Int)),some (.int (Y:Int)),some (.int ((p / (a * b) * u2 % c:Nat):Int))]) (fun N hN=>?_) ?_
 ·walk_at "rx";refine aU (fun k1=>?_) (fun k1=>?_)
  ·walk_at "rx";refine hN _ _ ⟨rfl,p / a % b,p % a,?_,rfl⟩;subst k1;rfl
  ·walk_at "ifs";walk_at "rx";refine aU (fun k2=>?_) (fun k2=>?_)
   ·have eab:a=b:=by
     have:=pr.kind;subst k2;simp [eF] at this;exact this.1
    have hy:p / a % b<a:=by rw [eab];exact Mv _ b1
    have hx:p % a<a:=Mv _ a1;walk_at "rx";refine rG (by omega) ?_
    walk_at "rx";refine rG (by omega) ?_
    walk_at "rx";refine hN _ _ ⟨rfl,(a - p / a % b) % a,(p % a+a - p / a % b) % a,?_,?_⟩
    ·subst k2;rfl
    ·have e1:(((0:Nat):Int) - ((p / a % b:Nat):Int)) % (a:Int)=(((a - p / a % b) % a:Nat):Int):=by
      have z:(((a - p / a % b) % a:Nat):Int)=((a - p / a % b:Nat):Int) % (a:Int):=by push_cast;rfl
      rw [z,show ((a - p / a % b:Nat):Int)=(((0:Nat):Int) - ((p / a % b:Nat):Int))+(a:Int) * 1 by omega,QV]
     have e2:(((p % a:Nat):Int) - ((p / a % b:Nat):Int)) % (a:Int)=(((p % a+a - p / a % b) % a:Nat):Int):=by
      have z:(((p % a+a - p / a % b) % a:Nat):Int)=((p % a+a - p / a % b:Nat):Int) % (a:Int):=by push_cast;rfl
      rw [z,show ((p % a+a - p / a % b:Nat):Int)=(((p % a:Nat):Int) - ((p / a % b:Nat):Int))+(a:Int) * 1 by omega,QV]
     rw [<- e1,<- e2];rfl
   ·walk_at "ifs";walk_at "rx";refine aU (fun k3=>?_) (fun k3=>?_)
    ·walk_at "rx";refine hN _ _ ⟨rfl,p % a,(p / a % b+p % a) % b,?_,rfl⟩;subst k3;rfl
    ·walk_at "ifs";walk_at "rx";refine aU (fun k4=>?_) (fun k4=>?_)
     ·walk_at "rx";refine hN _ _ ⟨rfl,(p % a+a / 2 * (p / a % b)) % a,p / a % b,?_,rfl⟩;subst k4;rfl
     ·have k0:kind=0:=by have:=pr.k5;omega
      walk_at "rx";refine hN _ _ ⟨rfl,p % a * u0 % a,p / a % b * u1 % b,?_,rfl⟩;subst k0;rfl
 ·rintro σ' H' ⟨rfl,X,Y,e,rfl⟩;walk_at "rx";rw [e];exact q
inductive CT (K:LN) (vs:List V) (H:Hp) (Q:VK) (E:XK):Prop
 | mk (v:V) (p r a b c s:Nat) (_:vs=[.int (p:Int),.int (r:Int),v]) (_:fS a b c s) (_:At K H v [a,b,c,s]) (_:Q (.int (lsum a b c p r:Int)) H)
def ue (T:Txt K mg):aH P w K mg base CX0 1 T.jD.f T.jD.fd ["_law_one","_law_other","_law_sizes_here"] (CT K):=by
 exists T.jD.ok ir
 ·obtain ⟨v,p,r,a,b,c,s,rfl,_⟩:=h;rfl
 obtain ⟨v,p,r,a,b,c,s,rfl,sz,hS,q⟩:=h;refine ⟨_,(ae (av (i:=3) ir.nd rfl (L7 rfl) (au bU (aw (ah K rfl) (pv 2) ag (fun _ _=>rfl)) (aw (ah K rfl) (pv 2) ag (fun _ _=>rfl))))
   (ae (av (i:=4) ir.nd rfl (L7 rfl) (au aV (au bj (pv 0) (pv 1)) (aw (ah K rfl) (pv 2) ag (fun _ _=>rfl))))
   (ae (av (i:=5) ir.nd rfl (L7 rfl) (au aV (au bj (au bq (pv 0) (aw (ah K rfl) (pv 2) ag (fun _ _=>rfl))) (au bq (pv 1) (aw (ah K rfl) (pv 2) ag (fun _ _=>rfl)))) (aw (ah K rfl) (pv 2) ag (fun _ _=>rfl))))
   (ae (av (i:=6) ir.nd rfl (L7 rfl) (au aV (au bj (au bq (pv 0) (pv 3)) (au bq (pv 1) (pv 3))) (aw (ah K rfl) (pv 2) ag (fun _ _=>rfl))))
   (af (aN (au bj (au bj (pv 4) (au bU (aw (ah K rfl) (pv 2) ag (fun _ _=>rfl)) (pv 5))) (au bU (pv 3) (pv 6))))))))),?_⟩
 have a1:=sz.a1;have b1:=sz.b1;have c1:=sz.c1;have a23:=sz.a23;have b23:=sz.b23;have ab23:=sz.ab;have ab0:0<a * b:=Oc a1 b1;walk_at "rx";exact q
inductive yK (K:LN) (vs:List V) (H:Hp) (Q:VK) (E:XK):Prop
 | mk (n x:Nat) (_:vs=[.int (n:Int),.int (x:Int)]) (_:n<=23) (_:x<2147483647) (_:∀ (d:Addr) (H':Hp) (π:List Nat),aj H H'->π.Perm (LX n)->At K H' (.ref d) π->Q (.ref d) H')
def yP (T:Txt K mg):aH P w K mg base CX0 1 T.jk.f T.jk.fd ["_law_many","_law_number"] (yK K):=by
 exists T.jk.ok iK
 ·obtain ⟨n,x,rfl,_⟩:=h;rfl
 obtain ⟨n,x,rfl,n23,hx,q⟩:=h;refine ⟨_,(ae (av (i:=2) iK.nd rfl (L7 rfl) (aW aa))
   (ae (a8 L6 rfl (a9 rfl T.bD (paF (pv 0) aa)) (aJ (i:=3) iK.nd rfl (L7 rfl)) (ae (av (i:=1) iK.nd rfl (L7 rfl) (au aV (au bj (au bj (au bj (au bU (pv 1) (pv 1)) (au bU ag (pv 1))) (pv 3)) ag) ag))
   (af (a7 (cJ K rfl Mi Rz RA vx (pv 2) (paF (au aV (pv 1) (au bj (pv 3) ag)) (paF (pv 3) aa)))))))
   (af (aN (pv 2))))),?_⟩
 walk_at "rx";refine dS (K:=K) (l:=([]:List Nat)) iq (by decide) fun d H1 f1 e1 g1=>?_
 walk_at "rx";refine bW (n:=n) rfl (by omega) (fun i σ H'=>aj H H'/\∃ (π:List Nat) (y:Nat) (k:Option V),π.Perm (LX i)/\y<2147483647/\Gr K H' d π/\σ=[some (.int (n:Int)),some (.int (y:Int)),some (.ref d),k]) ⟨e1,[],x,_,.refl _,hx,g1,rfl⟩ ?_ ?_
 ·rintro i σ' H' hi ⟨e2,π,y,k,hp,hy,g2,rfl⟩;have hl:π.length=i:=by rw [hp.length_eq,M4]
  walk_at "rx";have hy2:(y * y+48271 * y+i+11) % 2147483647<2147483647:=Mv _ (by decide)
  generalize (y * y+48271 * y+i+11) % 2147483647=y2 at hy2 ⊢;refine ⟨g2.ty,?_⟩;walk_at "rx";have hk:y2 % (i+1)<i+1:=Mv _ (by omega)
  refine Hj (b:=i) g2 (show y2 % (i+1)<=π.length by omega) (by omega) rfl fun H3 g3 k3=>?_
  exact ⟨aj.but f1 e2 k3,_,y2,_,Hc hp,hy2,g3,rfl⟩
 ·rintro σ' H2 ⟨e2,π,y,k,hp,hy,g2,rfl⟩;walk_at "rx";exact q d H2 π e2 hp g2.at
def gK {β:Type} (f:Nat->β) {n i:Nat} (h:i<n):((LX n).map f)[i]?=some (f i):=by simp [h]
inductive As (K:LN) (vs:List V) (H:Hp) (Q:VK) (E:XK):Prop
 | mk (v tv:V) (a b c s e:Nat) (f:Nat->Nat) (_:vs=[v,tv,.int (e:Int)]) (_:fS a b c s) (_:Tn (a * b * c) (lsum a b c) f s e) (_:At K H v [a,b,c,s]) (_:At K H tv ((LX (a * b * c)).map f)) (_:∀ d H',aj H H'->At K H' (.ref d) (mkT (a * b * c * s) (cyc (a * b * c) (lsum a b c) f s e))->Q (.ref d) H')
def Al (T:Txt K mg):aH P w K mg base CX0 2 T.jL.f T.jL.fd ["_law_sizes_here","_law_turn","_law_end"] (As K):=by
 exists T.jL.ok cc
 ·obtain ⟨v,tv,a,b,c,s,e,f,rfl,_⟩:=h;rfl
 obtain ⟨v,tv,a,b,c,s,e,f,rfl,sz,tn,hS,hT,q⟩:=h;refine ⟨_,(ae (av (i:=3) cc.nd rfl (L7 rfl) (az (aT K rfl) rfl T.bA Me (paF (pv 1) aa)))
   (ae (av (i:=4) cc.nd rfl (L7 rfl) (aW aa))
   (ae (av (i:=5) cc.nd rfl (L7 rfl) (dk (mj rfl) rfl T.kG NP (paF (dk qS rfl T.bD RQ (paF (pv 3) aa)) aa)))
   (ae (a8 L6 rfl (a9 rfl T.bD (paF (aw (ah K rfl) (pv 0) ag (fun _ _=>rfl)) aa)) (aJ (i:=6) cc.nd rfl (L7 rfl)) (ae (a8 L6 rfl (a9 rfl T.bD (paF (pv 3) aa)) (aJ (i:=7) cc.nd rfl (L7 rfl)) (ae (av (i:=8) cc.nd rfl (L7 rfl) (aW aa))
   (ae (a8 L6 rfl (a9 rfl T.bD (paF (aw (ah K rfl) (pv 0) ag (fun _ _=>rfl)) aa)) (aJ (i:=9) cc.nd rfl (L7 rfl)) (af (a8 L6 rfl (a9 rfl T.bD (paF (pv 3) aa)) (aJ (i:=10) cc.nd rfl (L7 rfl)) (ae (av (i:=11) cc.nd rfl (L7 rfl) (aG T.jD (ue T) (hr.mono (by decide)) rfl (paF (pv 7) (paF (aw (ah K rfl) (pv 5) (pv 10) (fun _ _=>rfl)) (paF (pv 0) aa)))))
   (ae (aQ (ax lr (au bj (pv 6) (pv 9)) (aw (ah K rfl) (pv 0) ag (fun _ _=>rfl)) (aB _)) (af (av (i:=11) cc.nd rfl (L7 rfl) (aG T.jD (ue T) (hr.mono (by decide)) rfl (paF (pv 11) (paF (pv 2) (paF (pv 0) aa)))))) aE)
   (af (a7 (cJ K rfl Mi MK ML cz (pv 8) (paF (au bj (pv 11) (au bU (pv 3) (au aV (au bj (pv 6) (pv 9)) (aw (ah K rfl) (pv 0) ag (fun _ _=>rfl))))) aa)))))))))
   (af (a7 (cJ K rfl Mi MK ML cz (pv 4) (paF (pv 8) aa)))))))
   (af (dJ (i:=5) rfl cc.nd rfl (L7 rfl) oa (aY K rfl (pv 5)) (fun _ _ _ _=>⟨(aJ (i:=0) oa.nd rfl (L7 rfl)),b6,(aw (ah K rfl) (pv 1) (pv 0) (fun _ _=>rfl))⟩) rfl))))
   (af (aN (pv 4))))))),?_⟩
 have s1:=sz.s1;have s4:=sz.s4;have hle:=sz.le;have m23:=sz.abc;have m0:=tn.pos;have hlen:((LX (a * b * c)).map f).length=a * b * c:=by simp
 walk_at "rx";rw [hlen];generalize hm:a * b * c=m at hle m23 m0 hlen tn hT q ⊢;generalize hF:cyc m (lsum a b c) f s e=F at q ⊢;refine dS (K:=K) (l:=([]:List (List Nat))) iq (by decide) fun d H1 fd e1 g1=>?_
 walk_at "rx";refine A6 fun pr hpr=>?_;walk_at "rx";refine qC (K:=K) ar (by omega) fun dl H2 fl e2 gl=>?_
 have e12:aj H H2:=e1.trans ((ay hpr _).trans e2);have g2:Gr K H2 d ([]:List (List Nat)):=g1.mono ((ay hpr _).trans e2);have hdl:dl≠d:=fun z=>by
  obtain ⟨ys,hy⟩:=g1.is;have:(upd H1 pr (.rng 0 (m:Int))) d=some (.lst ys):=by rw [aA (aS hy hpr)];exact hy
  rw [z,this] at fl;cases fl
 have hS2:=Rep.mono e12 hS;walk_at "rx";refine bW (n:=s) rfl (by omega) (fun i σ H'=>aj H H'/\Gr K H' d ((mkT (m * s) F).take (m * i))/\∃ (vl:V),At K (del H' d) vl ((LX m).map (Nat.repeat f i))/\∃ xf:Nat->Option V,σ=[some v,some tv,some (.int (e:Int)),some (.int (m:Int)),some (.ref d),some vl,xf 0,xf 1,xf 2,xf 3,xf 4,xf 5]) ?_ ?_ ?_
 ·refine ⟨e12,by rw [Pk];exact g2,.ref dl,?_,gM [_,_,_,_,_,_],rfl⟩
  have z:(LX m).map (Nat.repeat f 0)=LX m:=by
   have:Nat.repeat f 0=id:=by funext x;rfl
   rw [this,QK]
  rw [z];exact m5 gl hdl
 ·rintro i σ' H3 hi ⟨e3,g3,vl,hl3,xf,rfl⟩;walk_at "rx";refine bW (n:=m) rfl (by omega) (fun o σ H'=>aj H H'/\Gr K H' d ((mkT (m * s) F).take (m * i+o))/\At K (del H' d) vl ((LX m).map (Nat.repeat f i))/\∃ xf:Nat->Option V,σ=[some v,some tv,some (.int (e:Int)),some (.int (m:Int)),some (.ref d),some vl,some (.int (i:Int)),xf 0,xf 1,xf 2,xf 3,xf 4]) ⟨e3,g3,hl3,gM [_,_,_,_,_],rfl⟩ ?_ ?_
  ·rintro o σ' H4 ho ⟨e4,g4,hl4,xf,rfl⟩;have hI:m * i+o<m * s:=by
    have:m * (i+1)<=m * s:=Nm m hi;rw [Oh] at this;omega
   walk_at "rx";refine dS (K:=K) (l:=([]:List Nat)) iq (by decide) fun p H5 fp e5 g5=>?_
   have hpd:p≠d:=E1 g4.is fp;have hS5:=Rep.mono (e4.trans e5) hS;walk_at "rx";refine bW (n:=s) rfl (by omega) (fun j σ H'=>aj H4 H'/\Gr K H' p (((LX (m * s)).map fun y=>F (m * i+o) y).take (m * j))/\∃ xf:Nat->Option V,σ=[some v,some tv,some (.int (e:Int)),some (.int (m:Int)),some (.ref d),some vl,some (.int (i:Int)),some (.int (o:Int)),some (.ref p),xf 0,xf 1,xf 2]) ⟨e5,by rw [Pk];exact g5,gM [_,_,_],rfl⟩ ?_ ?_
   ·rintro j σ' H6 hj ⟨e6,g6,xf,rfl⟩;walk_at "rx";refine bW (n:=m) rfl (by omega) (fun k σ H'=>aj H4 H'/\Gr K H' p (((LX (m * s)).map fun y=>F (m * i+o) y).take (m * j+k))/\∃ xf:Nat->Option V,σ=[some v,some tv,some (.int (e:Int)),some (.int (m:Int)),some (.ref d),some vl,some (.int (i:Int)),some (.int (o:Int)),some (.ref p),some (.int (j:Int)),xf 0,xf 1]) ⟨e6,g6,gM [_,_],rfl⟩ ?_ ?_
    ·rintro k σ' H7 hk ⟨e7,g7,xf,rfl⟩;have hJ:m * j+k<m * s:=by
      have:m * (j+1)<=m * s:=Nm m hj;rw [Oh] at this;omega
     have hS7:=Rep.mono (e4.trans e7) hS;have hl7:At K H7 vl ((LX m).map (Nat.repeat f i)):=Rep.mono e7 (Rep.mono ky hl4);walk_at "rx";refine bN hl7 (gK _ hk) ?_;walk_at "rx";refine ⟨v,o,Nat.repeat f i k,a,b,c,s,rfl,sz,hS7,?_⟩;walk_at "rx";refine dA (fun σ' H'=>H'=H7/\σ'=[some v,some tv,some (.int (e:Int)),some (.int (m:Int)),some (.ref d),some vl,some (.int (i:Int)),some (.int (o:Int)),some (.ref p),some (.int (j:Int)),some (.int (k:Int)),some (.int ((if s<=i+j then lsum a b c (lsum a b c o (Nat.repeat f i k)) e else lsum a b c o (Nat.repeat f i k):Nat):Int))]) (fun N hN=>?_) ?_
     ·walk_at "rx";refine aU (fun c1=>?_) (fun c1=>?_)
      ·walk_at "rx";refine ⟨v,_,e,a,b,c,s,rfl,sz,hS7,?_⟩;walk_at "rx";refine hN _ _ ⟨rfl,?_⟩;rw [if_pos c1];rfl
      ·walk_at "rx";refine hN _ _ ⟨rfl,?_⟩;rw [if_neg c1];rfl
     ·rintro σ' H8 ⟨rfl,rfl⟩;walk_at "rx";refine ⟨g7.ty,?_⟩;walk_at "rx";have ev:(if s<=i+j then lsum a b c (lsum a b c o (Nat.repeat f i k)) e else lsum a b c o (Nat.repeat f i k))+m * ((i+j) % s)=F (m * i+o) (m * j+k):=by
       rw [<- hF,Ov (m * i) o,Ov (m * j) k,Ks ho hk]
      rw [ev];refine fR (b:=F (m * i+o) (m * j+k)) g7 (by rw [MF];omega) rfl fun H9 g9 k9 _=>?_
      refine ⟨aj.but fp e7 k9,?_,gM [_,_],rfl⟩;rw [show m * j+(k+1)=(m * j+k)+1 by omega,c8 (fun y=>F (m * i+o) y) (m * s) (m * j+k) hJ]
      exact g9
    ·rintro σ' H7 ⟨e7,g7,xf,rfl⟩;refine ⟨e7,?_,gM [_,_,_],rfl⟩;rw [Oh];exact g7
   ·rintro σ' H6 ⟨e6,g6,xf,rfl⟩;have et:((LX (m * s)).map fun y=>F (m * i+o) y).take (m * s)=(LX (m * s)).map fun y=>F (m * i+o) y:=MT (by simp)
    rw [et] at g6;have g6d:=g4.mono e6;walk_at "rx";refine ⟨g6d.ty,?_⟩;walk_at "rx";refine fR g6d (by rw [MF];omega) (m5 g6 hpd) fun H7 g7 k7 _=>?_
    have hdH:H d=none:=fd;refine ⟨aj.but hdH (e4.trans e6) k7,?_,Rep.mono (Lr k7) (Rep.mono (kN e6) hl4),gM [_,_,_,_,_],rfl⟩;rw [show m * i+(o+1)=(m * i+o)+1 by omega]
    unfold mkT;rw [c8 (fun x=>(LX (m * s)).map fun y=>F x y) (m * s) (m * i+o) hI];exact g7
  ·rintro σ' H4 ⟨e4,g4,hl4,xf,rfl⟩;walk_at "rx";have hl4':At K H4 vl ((LX m).map (Nat.repeat f i)):=Rep.mono ky hl4;have hll:((LX m).map (Nat.repeat f i)).length=m:=by simp
   refine oy (β:=Nat) hl4' (by omega) (fun k=>((LX m).map (Nat.repeat f (i+1))).take k) (fun σ'=>∃ y,σ'=[y,some tv]) rfl (fun k hk=>by rw [MF];omega) ⟨_,rfl⟩ ?_ ?_
   ·rintro k z w' σ' H5 d' R R0 hz hs hw ⟨y,rfl⟩ hR hR0 hd';have hkm:k<m:=by
     have:=(LQ.mp hz).1;omega
    rw [gK _ hkm] at hz;cases hz;cases (show w'=V.int ((Nat.repeat f i k:Nat):Int) from hw);have hT5:=Rep.mono (e4.trans hs) hT;walk_at "rx";refine bN hT5 (gK _ (ft tn i hkm)) ?_;exact hR _ _ (Nat.repeat f (i+1) k) _ ⟨_,rfl⟩ (aj.refl _) rfl (c8 _ m k hkm)
   ·intro d' H5 fd' e5 hg;have hg':Gr K H5 d' (((LX m).map (Nat.repeat f (i+1))).take m):=by
     have:=hg;rw [hll] at this;exact this
    rw [MT (by simp)] at hg'
    walk_at "rx";refine ⟨e4.trans e5,?_,.ref d',m5 hg' (E1 g4.is fd'),gM [_,_,_,_,_,_],rfl⟩;rw [Oh];exact g4.mono e5
 ·rintro σ' H3 ⟨e3,g3,vl,hl3,xf,rfl⟩;rw [MT (by simp [mkT])] at g3
  walk_at "rx";exact q d H3 e3 g3.at
inductive zO (K:LN) (vs:List V) (H:Hp) (Q:VK) (E:XK):Prop
 | mk (v:V) (ns:List Int) (st:Nat) (_:vs=[v,.int (st:Int)]) (_:At K H v ns) (_:∀ d H' n t e ps,aj H H'->GT n t e->Tbl H' d t ps->H d=none->(∀ p∈ps,H p=none)->Q (.ref d) H')
def y8 (T:Txt K mg):aH P w K mg base CX0 3 T.jn.f T.jn.fd ["_law_script","_law_start"] (zO K):=by
 exists T.jn.ok bp
 ·obtain ⟨v,ns,st,rfl,_⟩:=h;rfl
 obtain ⟨v,ns,st,rfl,hA,q⟩:=h;refine ⟨_,(ae (av (i:=2) bp.nd rfl (L7 rfl) (aG T.cg (cP T) (hr.mono (by decide)) rfl (paF (pv 0) (paF (pv 1) aa))))
   (ae (av (i:=3) bp.nd rfl (L7 rfl) (aG T.cg (cP T) (hr.mono (by decide)) rfl (paF (pv 0) (paF (au bj (pv 1) ag) aa))))
   (ae (av (i:=4) bp.nd rfl (Qf rfl) (aG T.js (zF T) (hr.mono (by decide)) rfl (paF (pv 2) (paF (pv 3) aa))))
   (ae (av (i:=5) bp.nd rfl (L7 rfl) (au aV (au bU (au bU (au bj (pv 3) ag) (au bj (pv 3) ag)) ag) ag))
   (ae (av (i:=6) bp.nd rfl (Qf rfl) (aG T.jV (AG T) (hr.mono (by decide)) rfl (paF (pv 4) (paF (pv 5) aa))))
   (ae (av (i:=7) bp.nd rfl (Qf rfl) (aW aa))
   (ae (a8 L6 rfl (a9 rfl T.bD (paF ag aa)) (aJ (i:=8) bp.nd rfl (L7 rfl)) (af (a7 (cJ K rfl Mi MK ML cz (pv 7) (paF (aG T.jZ (Am T) (hr.mono (by decide)) rfl (paF (aw (ah K rfl) (pv 4) (pv 8) (fun _ _=>rfl)) (paF (aw (ah K rfl) (pv 4) ag (fun _ _=>rfl)) (paF (au bq (pv 5) (aw (ah K rfl) (aW (mG [12,276,6348] (by trivial)).out) (pv 8) (fun _ _=>rfl))) aa)))) aa)))))
   (ae (av (i:=9) bp.nd rfl (L7 rfl) (au bU (au bU (aw (ah K rfl) (pv 4) ag (fun _ _=>rfl)) (aw (ah K rfl) (pv 4) ag (fun _ _=>rfl))) (aw (ah K rfl) (pv 4) ag (fun _ _=>rfl))))
   (ae (dJ (i:=10) rfl bp.nd rfl (L7 rfl) lW (a9 rfl T.bD (paF (pv 9) aa)) (fun _ _ _ _=>⟨(aJ (i:=0) lW.nd rfl (L7 rfl)),b6,(aG T.ig (xg T) (hr.mono (by decide)) rfl (paF (pv 0) (paF (pv 2) (paF (pv 1) (paF (pv 3) aa)))))⟩) rfl)
   (ae (av (i:=11) bp.nd rfl (L7 rfl) (au aV (au aV (au bU (au bU (au bj (pv 2) ag) (au bj (pv 2) ag)) ag) ag) (pv 9)))
   (ae (aQ (ax dM (aw (ah K rfl) (pv 10) (pv 11) (fun _ _=>rfl)) (pv 11) (aB _)) (af (av (i:=11) bp.nd rfl (L7 rfl) ag)) aE)
   (ae (av (i:=12) bp.nd rfl (L7 rfl) (aG T.jL (Al T) (hr.mono (by decide)) rfl (paF (pv 4) (paF (pv 10) (paF (pv 11) aa)))))
   (ae (av (i:=13) bp.nd rfl (L7 rfl) (aG T.jk (yP T) (hr.mono (by decide)) rfl (paF (az (aT K rfl) rfl T.bA Me (paF (pv 12) aa)) (paF (aG T.cg (cP T) (hr.mono (by decide)) rfl (paF (pv 0) (paF (au bj (pv 1) ag) aa))) aa))))
   (ae (dJ (i:=15) rfl bp.nd rfl (L7 rfl) lX (aY K rfl (pv 12)) (fun _ _ _ _=>⟨(aJ (i:=0) lX.nd rfl (L7 rfl)),b6,(dk (ic K rfl) rfl T.kG NP (paF (pv 0) aa))⟩) rfl)
   (ae (a8 L6 rfl (yA K rfl rfl T.qJ (paF (pv 12) aa)) (yJ rfl (ja (aJ (i:=16) bp.nd rfl (L7 rfl)) (ja (aJ (i:=14) bp.nd rfl (L7 rfl)) uj))) (af (a8 L6 rfl (yA K rfl rfl T.qJ (paF (pv 14) aa)) (yJ rfl (ja (aJ (i:=17) bp.nd rfl (L7 rfl)) (ja (aJ (i:=18) bp.nd rfl (L7 rfl)) uj))) (af (mf (aw (ah K rfl) (pv 13) (pv 18) (fun _ _=>rfl)) (l8 (aw (ah K rfl) (pv 15) (aw (ah K rfl) (pv 13) (pv 16) (fun _ _=>rfl)) (fun _ _=>rfl)) (aw (ah K rfl) (pv 13) (pv 17) (fun _ _=>rfl)) set_list))))))
   (af (aN (pv 15)))))))))))))))))),?_⟩
 walk_at "rx";refine ⟨v,ns,st,rfl,hA,?_⟩;have one2:=rF ns st;generalize de ns st=one at one2 ⊢;walk_at "rx";refine ⟨v,ns,st+1,rfl,hA,?_⟩;have two2:=rF ns (st+1);generalize de ns (st+1)=two at two2 ⊢;walk_at "rx";refine ⟨one,two,rfl,fun vS H1 a b c s s1 sz hS=>?_⟩;walk_at "rx";generalize (two+11) * (two+29) * 48271 % 2147483629=stir;refine ⟨vS,stir,a,b,c,s,rfl,sz,hS,fun kind H2 s2 k5 hk=>?_⟩;have hS2:=Rep.mono s2 hS;walk_at "rx";refine dS (K:=K) (l:=([]:List Nat)) iq (by decide) fun du H3 fu s3 gu=>?_
 walk_at "rx";refine bW (n:=3) rfl (by decide) (fun i σ H'=>aj H2 H'/\∃ us:List Nat,Gr K H' du us/\us.length=i/\(∀ j,j<i->us.getD j 0∈unitsOf ([a,b,c,s].getD j 0) s)/\∃ x8,σ=[some v,some (.int (st:Int)),some (.int (one:Int)),some (.int (two:Int)),some vS,some (.int (stir:Int)),some (.int (kind:Int)),some (.ref du),x8,none,none,none,none,none,none,none,none,none,none]) ⟨s3,[],gu,rfl,fun j hj=>absurd hj (by omega),_,rfl⟩ ?_ ?_
 ·rintro i σ' H4 hi ⟨s4,us,g4,l4,hu,x8,rfl⟩;walk_at "rx";refine ⟨g4.ty,?_⟩;have hS4:=Rep.mono s4 hS2;walk_at "rx";refine bN hS4 (getD_some 0 (show i<4 by omega)) ?_
  walk_at "rx";refine dS (K:=K) (l:=([12,276,6348]:List Nat)) (kg _) (by decide) fun d5 H5 f5 s5 g5=>?_
  walk_at "rx";refine bN g5.at (getD_some 0 (show i<3 from hi)) ?_;obtain ⟨p1,p2⟩:=G4 i hi;refine Eb p1 p2 ?_;walk_at "rx";have hmi:1<=[a,b,c,s].getD i 0/\[a,b,c,s].getD i 0<=23:=by
   match i,hi with
   | 0,_=>exact ⟨sz.a1,sz.a23⟩
   | 1,_=>exact ⟨sz.b1,sz.b23⟩
   | 2,_=>exact ⟨sz.c1,sz.c23⟩
  refine ⟨_,s,_,rfl,hmi.1,hmi.2,sz.s1,sz.s4,fun u H6 s6 hu6=>?_⟩;walk_at "rx";refine fR (b:=u) (g4.mono (s5.trans s6)) (by omega) rfl fun H7 g7 k7 _=>?_
  refine ⟨aj.but fu (s4.trans (s5.trans s6)) k7,_,g7,by rw [Mq,l4];rfl,fun j hj=>?_,_,rfl⟩
  rcases Mu j i with z|z
  ·have e1:(us++[u]).getD j 0=us.getD j 0:=by
    rw [LS,MG (by omega),<- LS]
   rw [e1];exact hu j z
  ·have e:j=i:=by omega
   subst e;have e1:(us++[u]).getD j 0=u:=by
    rw [LS,MS (by omega),l4,Nat.sub_self]
    rfl
   rw [e1];exact hu6
 rintro σ' H4 ⟨s4,us,g4,l4,hu,x8,rfl⟩
 match us,l4 with
 | [u0,u1,u2],_ =>
 have v0:u0∈unitsOf a s:=hu 0 (by decide)
 have v1:u1∈unitsOf b s:=hu 1 (by decide)
 have v2:u2∈unitsOf c s:=hu 2 (by decide)
 have pr:Par a b c s kind u0 u1 u2:=⟨sz.a1,sz.b1,sz.c1,sz.s1,sz.s4,sz.le,k5,hk,v0,v1,v2⟩;have hS4:=Rep.mono s4 hS2;have hU4:=g4.at;have a23:=sz.a23;have ab23:=sz.ab;have m23:=sz.abc;have m0:0<a * b * c:=Oc (Oc sz.a1 sz.b1) sz.c1;walk_at "rx";refine jv K (n:=a * b * c) (β:=Nat) rfl (by omega) (fun i=>((LX (a * b * c)).map (dZ a b c kind u0 u1 u2)).take i) (fun σ'=>∃ y,σ'=[y,some (.int (kind:Int)),some vS,some (.ref du)]) rfl (fun i hi=>by rw [MF];omega) ⟨_,rfl⟩ ?_ ?_
 ·rintro i σ' H5 d' R R0 hi hs ⟨y,rfl⟩ hR hR0 hd';walk_at "rx";refine ⟨vS,_,i,kind,a,b,c,s,u0,u1,u2,rfl,pr,Rep.mono hs hS4,Rep.mono hs hU4,hi,?_⟩;exact hR _ _ _ _ ⟨_,rfl⟩ (aj.refl _) rfl (c8 _ _ i hi)
 intro dt H5 s5 ht5;have ht5':At K H5 (.ref dt) ((LX (a * b * c)).map (dZ a b c kind u0 u1 u2)):=by
  have z:At K H5 (.ref dt) (((LX (a * b * c)).map (dZ a b c kind u0 u1 u2)).take (a * b * c)):=ht5;rw [MT (by simp)] at z
  exact z
 walk_at "rx";have en:(one+5) * (one+17) * 69621 % 2147483587 % (a * b * c)<a * b * c:=Mv _ m0;generalize (one+5) * (one+17) * 69621 % 2147483587 % (a * b * c)=en0 at en ⊢;refine dA (fun σ' H'=>H'=H5/\∃ e:Nat,e<a * b * c/\dZ a b c kind u0 u1 u2 e=e/\σ'=[some v,some (.int (st:Int)),some (.int (one:Int)),some (.int (two:Int)),some vS,some (.int (stir:Int)),some (.int (kind:Int)),some (.ref du),x8,some (.int ((a * b * c:Nat):Int)),some (.ref dt),some (.int (e:Int)),none,none,none,none,none,none,none]) (fun N hN=>?_) ?_
 ·walk_at "rx";refine bN ht5' (gK _ en) ?_;walk_at "rx";refine bH (fun c1=>?_) (fun c1=>?_)
  ·walk_at "rx";exact hN _ _ ⟨rfl,0,m0,CN ..,rfl⟩
  ·walk_at "rx";exact hN _ _ ⟨rfl,en0,en,c1,rfl⟩
 rintro σ' H5 ⟨rfl,e,he,fe,rfl⟩;have tn:=pr.tn he fe;have hS5:=Rep.mono s5 hS4;walk_at "rx";refine ⟨vS,_,a,b,c,s,e,_,rfl,sz,tn,hS5,ht5',fun dr H6 s6 hR6=>?_⟩;have gt:=KD tn sz.le;have s06:aj H H6:=s1.trans (s2.trans (s4.trans (s5.trans s6)));generalize mkT (a * b * c * s) (cyc (a * b * c) (lsum a b c) (dZ a b c kind u0 u1 u2) s e)=R at gt hR6;generalize a * b * c * s=n at gt;have hA6:=Rep.mono s06 hA;walk_at "rx";rw [gt.len];refine ⟨v,ns,st+2,rfl,hA6,?_⟩;walk_at "rx";refine ⟨n,_,rfl,gt.le,rF ns (st+2),fun dn H7 π s7 hp hN7=>?_⟩;have hR7:=Rep.mono s7 hR6;have hl:π.length=n:=by rw [hp.length_eq,M4]
 walk_at "rx";refine mV hR7 (by rw [gt.len];have:=gt.le;omega) fun d H8 ps s8 fd fps tb8=>?_
 walk_at "rx";refine BL (H₀:=H7) hR7 (fun i σ H'=>aj H7 H'/\∃ rows,Ren n π R rows i 0/\Tbl H' d rows ps/\∃ xf:Nat->Option V,σ=[some v,some (.int (st:Int)),some (.int (one:Int)),some (.int (two:Int)),some vS,some (.int (stir:Int)),some (.int (kind:Int)),some (.ref du),x8,some (.int ((a * b * c:Nat):Int)),some (.ref dt),some (.int (e:Int)),some (.ref dr),some (.ref dn),xf 0,some (.ref d),xf 1,xf 2,xf 3]) ?_ (fun i σ' H' z=>z.1) ?_ ?_
 ·exact ⟨s8,R,⟨gt.len,gt.row,fun x y hx hy z=>absurd z (by omega)⟩,tb8,gM [_,_,_,_],rfl⟩
 ·rintro i row wr σ' H9 H10 p hrow hwr ⟨s9,rows,rn,tb9,xf,rfl⟩ hp9 e10 s10;have hi:i<n:=by
   have:=(LQ.mp hrow).1;rw [gt.len] at this;exact this
  have hrl:row.length=n:=gt.row i row hrow;walk_at "rx";refine BL (H₀:=H7) hwr (fun j σ H'=>aj H7 H'/\∃ rows,Ren n π R rows i j/\Tbl H' d rows ps/\∃ xf:Nat->Option V,σ=[some v,some (.int (st:Int)),some (.int (one:Int)),some (.int (two:Int)),some vS,some (.int (stir:Int)),some (.int (kind:Int)),some (.ref du),x8,some (.int ((a * b * c:Nat):Int)),some (.ref dt),some (.int (e:Int)),some (.ref dr),some (.ref dn),some wr,some (.ref d),some (.int (i:Int)),xf 0,xf 1]) ⟨s9.trans s10,rows,rn,tb9.mono s10,gM [_,_],rfl⟩ (fun j σ' H' z=>z.1) ?_ ?_
  ·rintro j th wt σ'' H11 H12 p2 hth hwt ⟨s11,rows2,rn2,tb11,xf,rfl⟩ hp11 e12 s12;have hj:j<n:=by
    have:=(LQ.mp hth).1;omega
   cases (show wt=V.int (th:Int) from hwt);have hth':th=tb R i j:=by
    have e1:=gt.get hi;rw [hrow] at e1;cases e1;have e2:=gt.dX hi hj;rw [hth] at e2;exact ME e2
   have htl:th<n:=by rw [hth'];exact gt.lt i j hi hj
   have hN12:=Rep.mono (s11.trans s12) hN7;have tb12:=tb11.mono s12;walk_at "rx";refine bN hN12 (getD_some 0 (by omega)) ?_
   walk_at "rx";refine bN hN12 (getD_some 0 (by omega)) ?_
   have iA:=lg hp hi;have iB:=lg hp hj;have hrw:rows2[π.getD i 0]?=some (rows2.getD (π.getD i 0) []):=getD_some [] (by rw [rn2.len];exact iA)
   obtain ⟨pp,hpp,hHp⟩:=tb12.get hrw;refine K9 tb12 hpp ?_;walk_at "rx";refine bN hN12 (getD_some 0 (by omega)) ?_
   refine me hHp rfl (by unfold aO;rw [LV,rn2.row _ _ hrw];exact iB) ?_
   refine ⟨fun b' o z=>?_,_,?_,tb12.set hrw hpp,gM [_,_],rfl⟩
   ·rw [aA (aS z (fps pp (LR hpp)))];exact (s11.trans s12) b' o z
   ·rw [hth'];exact rn2.put hp hi hj
  ·rintro σ'' H11 ⟨s11,rows2,rn2,tb11,xf,rfl⟩;rw [hrl] at rn2;exact ⟨s11,rows2,rn2.next,tb11,gM [_,_,_,_],rfl⟩
 ·rintro σ' H9 ⟨s9,rows,rn,tb9,xf,rfl⟩;rw [gt.len] at rn;walk_at "rx";have s07:=s06.trans s7;exact q d H9 n rows _ ps (s07.trans s9) (rn.gt hp gt) tb9 (s07.free fd) fun p hp'=>s07.free (fps p hp')
end
local macro_rules | `(tactic| walk_at "rg1")=>`(tactic| first|walk_at "rx1" | refine b8 (by assumption) (by assumption) ?_|refine b5 (by assumption) (by assumption) ?_|refine b7 (by assumption) (by assumption) ?_|refine bO (by assumption) (by assumption) ?_)
local macro_rules | `(tactic| walk_at "rg")=>`(tactic| repeat walk_at "rg1")
section
variable {P:Mh} {w:World} {K:LN} {mg:Str->Option Value} {base:Heap}
inductive GK (C:Addr) (K:LN) (vs:List V) (H:Hp) (Q:VK) (E:XK):Prop
 | mk (g:Addr) (n e a:Nat) (t:List (List Nat)) (_:vs=[.ref g,.int (a:Int)]) (_:aX C H g n t e) (_:GT n t e) (_:a<n) (_:Q (.int (aZ n t e a:Int)) H)
def zA (T:Txt K mg):aH P w K mg base CX0 1 T.mB.f T.mB.fd ["group","thing"] (GK T.aI K):=by
 exists T.mB.ok kK
 ·obtain ⟨g,n,e,a,t,rfl,_⟩:=h;rfl
 obtain ⟨g,n,e,a,t,rfl,hG,gt,ha,q⟩:=h;obtain ⟨dx,r,b,hg,hT,hb⟩:=hG.get (K:=K);refine ⟨_,(ae (av (i:=2) kK.nd rfl (L7 rfl) ag)
   (ae (av (i:=3) kK.nd rfl (L7 rfl) (pv 1))
   (ae (i5 L6 (ax dM (pv 3) (cK K rfl (pv 0) rfl) (aB _)) (ae (av (i:=3) kK.nd rfl (L7 rfl) (aw (ah K rfl) (aw (ah K rfl) (cK K rfl (pv 0) rfl) (pv 3) (fun _ _=>rfl)) (pv 1) (fun _ _=>rfl)))
   (af (av (i:=2) kK.nd rfl (L7 rfl) (au bj (pv 2) ag)))))
   (af (aN (pv 2)))))),?_⟩
 obtain ⟨o1,o2,o3⟩:=dF gt ha;have o4:1<=aZ n t e a:=f7;symm;refine jc (fun m σ' H'=>H'=H/\∃ k,1<=k/\k<=aZ n t e a/\m=aZ n t e a - k/\σ'=[some (.ref g),some (.int (a:Int)),some (.int (k:Int)),some (.int (aC t e a k:Int))]) (aZ n t e a - 1) ⟨rfl,1,Ma _,o4,rfl,by rw [kT gt ha];rfl⟩ ?_
 rintro m σ' H' ⟨rfl,k,k1,k2,rfl,rfl⟩;have kl:=bE gt ha k;symm;refine bH (fun c=>?_) (fun c=>?_)
 ·have k3:k<aZ n t e a:=by
   rcases Mu k (aZ n t e a) with z|z
   ·exact z
   ·have:k=aZ n t e a:=by omega
    rw [this] at c;exact absurd o2 c
  refine ⟨fun σ2 H2=>H2=H'/\σ2=[some (.ref g),some (.int (a:Int)),some (.int ((k+1:Nat):Int)),some (.int (aC t e a (k+1):Int))],fun σ2 H2 z=>⟨aZ n t e a - (k+1),by omega,z.1,k+1,by omega,k3,rfl,z.2⟩,?_⟩
  symm;refine cM hT rfl (gt.get kl) fun w1 hw1=>?_;symm;refine bN hw1 (gt.dX kl ha) ?_;symm;exact ⟨rfl,rfl⟩
 ·have k3:k=aZ n t e a:=by
   rcases Mu k (aZ n t e a) with z|z
   ·exact absurd c (o3 k k1 z)
   ·omega
  symm;rw [k3];exact q
def GH (k a:Nat):(Md k [V.int (a:Int)]).flatten=aO (Md k a):=by
 unfold aO
 induction k with
 | zero=>rfl
 | succ k ih=>rw [NC,Oz,ih,NC];rfl
inductive Hx (C:Addr) (K:LN) (vs:List V) (H:Hp) (Q:VK) (E:XK):Prop
 | mk (g:Addr) (n e a:Nat) (z:Int) (t:List (List Nat)) (_:vs=[.ref g,.int (a:Int),.int z]) (_:aX C H g n t e) (_:GT n t e) (_:a<n) (_:∀ H',aj H H'->Q (.int (aC t e a (z % (aZ n t e a:Int)).toNat:Int)) H')
def rV (T:Txt K mg):aH P w K mg base CX0 2 T.kh.f T.kh.fd ["group","thing","many"] (Hx T.aI K):=by
 exists T.kh.ok xW
 ·obtain ⟨g,n,e,a,z,t,rfl,_⟩:=h;rfl
 obtain ⟨g,n,e,a,z,t,rfl,hG,gt,ha,q⟩:=h;refine ⟨_,(ae (av (i:=3) xW.nd rfl (L7 rfl) (au aV (pv 2) (aG T.mB (zA T) (hr.mono (by decide)) rfl (paF (pv 0) (paF (pv 1) aa)))))
   (af (aN (aG T.hZ (mO T) (hr.mono (by decide)) rfl (paF (pv 0) (paF (au Fq (aW (paF (pv 1) aa)) (pv 3)) aa)))))),?_⟩
 have o1:=(dF gt ha).1;have o4:1<=aZ n t e a:=f7;have n23:=gt.le;symm;refine ⟨g,n,e,a,t,rfl,hG,gt,ha,?_⟩;refine rG (show (0:Int)<(aZ n t e a:Int) by omega) ?_
 have z1:=QT z (show (aZ n t e a:Int)≠0 by omega)
 have z2:=Int.emod_lt_of_pos z (show (0:Int)<(aZ n t e a:Int) by omega)
 generalize hk:(z % (aZ n t e a:Int)).toNat=k at q;have ek:z % (aZ n t e a:Int)=(k:Int):=by omega
 rw [ek];walk_at "6";refine ⟨small (by show 1<=1000;decide),fun p hp=>?_⟩
 symm;refine ⟨p,_,_,rfl,rfl,ar,by omega,by omega,?_,fun p2 hp2=>?_⟩
 ·rw [Nx];exact small (by show 1 * k<=1000;omega)
 rw [Nx,GH];have s1:aj H (upd (upd H p (.lst [.int (a:Int)])) p2 (.lst (aO (Md k a)))):=(ay hp _).trans (ay hp2 _);symm;refine ⟨g,_,n,e,t,Md k a,rfl,aX.mono s1 hG,gt,eI ar,fun x hx=>by rw [(List.mem_replicate.mp hx).2];exact ha,?_⟩
 rw [zd];exact q _ s1
def cu (n:Nat) (t:List (List Nat)) (e:Nat):List Nat:=(LX n).map (aZ n t e)
def yx {n:Nat} {t:List (List Nat)} {e:Nat}:∀ s∈cu n t e,1<=s:=fun s hs=>by
 obtain ⟨a,_,rfl⟩:=Ml.mp hs;exact f7
inductive FH (C:Addr) (K:LN) (vs:List V) (H:Hp) (Q:VK) (E:XK):Prop
 | mk (g:Addr) (n e:Nat) (t:List (List Nat)) (_:vs=[.ref g]) (_:aX C H g n t e) (_:GT n t e) (_:∀ k H',aj H H'->cX (cu n t e) k->Q (.int (k:Int)) H')
def zp (T:Txt K mg):aH P w K mg base CX0 2 T.my.f T.my.fd ["group"] (FH T.aI K):=by
 exists T.my.ok nA
 ·obtain ⟨g,n,e,t,rfl,_⟩:=h;rfl
 obtain ⟨g,n,e,t,rfl,hG,gt,q⟩:=h;obtain ⟨dx,r,b,hg,hT,hb⟩:=hG.get (K:=K);refine ⟨_,(ae (dJ (i:=1) rfl nA.nd rfl (L7 rfl) r9 (a9 rfl T.bD (paF (cK K rfl (pv 0) rfl) aa)) (fun _ _ _ _=>⟨(aJ (i:=0) r9.nd rfl (L7 rfl)),b6,(aG T.mB (zA T) (hr.mono (by decide)) rfl (paF (pv 1) (paF (pv 0) aa)))⟩) rfl)
   (ae (av (i:=2) nA.nd rfl (Qf rfl) ag)
   (ae (i5 L6 (fW (az (oE K rfl rfl) rfl T.CO Qy (paF (dP rfl tm (aY K rfl (pv 1)) (fun _ _ _ _=>⟨(aJ (i:=0) tm.nd rfl (L7 rfl)),b6,(dz dM (au aV (pv 1) (pv 0)) ag (aB _))⟩)) aa))) (af (av (i:=2) nA.nd rfl (Qf rfl) (au bj (pv 2) ag))))
   (af (aN (pv 2)))))),?_⟩
 have n23:=gt.le;symm;refine jv K (n:=n) (β:=Nat) rfl (by omega) (fun i=>(cu n t e).take i) (fun σ'=>∃ y,σ'=[y,some (.ref g)]) rfl (fun i hi=>by rw [MF];omega) ⟨_,rfl⟩ ?_ ?_
 ·rintro i σ' H5 d' R R0 hi hs ⟨y,rfl⟩ hR hR0 hd';symm;refine ⟨g,n,e,i,t,rfl,aX.mono hs hG,gt,hi,?_⟩;exact hR _ _ _ _ ⟨_,rfl⟩ (aj.refl _) rfl (c8 _ _ i hi)
 intro d1 H1 s1 h1;have hlen:(cu n t e).length=n:=by simp [cu]
 have h1':At K H1 (.ref d1) (cu n t e):=by
  have z:At K H1 (.ref d1) ((cu n t e).take n):=h1;rw [MT (by omega)] at z
  exact z
 symm;have b1:=Br (yx (n:=n) (t:=t) (e:=e));refine jc (fun m σ' H'=>aj H1 H'/\∃ k,1<=k/\k<=bnd (cu n t e)/\m=bnd (cu n t e) - k/\(∀ j,1<=j->j<k->∃ s,s∈cu n t e/\j % s≠0)/\σ'=[some (.ref g),some (.ref d1),some (.int (k:Int))]) (bnd (cu n t e) - 1) ⟨aj.refl _,1,Ma _,b1,rfl,fun j j1 j2=>absurd j1 (by omega),rfl⟩ ?_
 rintro m σ' H2 ⟨s2,k,k1,k2,rfl,hk,rfl⟩;have h2:=Rep.mono s2 h1';symm;refine iV (β:=Bool) h2 (by omega) (fun i=>((cu n t e).map fun s=>!decide (k % s=0)).take i) (fun σ'=>∃ y,σ'=[y,some (.int (k:Int))]) rfl (fun i hi=>by rw [MF];omega) ⟨_,rfl⟩ ?_ ?_
 ·rintro i c w' σ' H3 d' R R0 hc hs hw ⟨y,rfl⟩ hR hR0 hd';cases (show w'=V.int (c:Int) from hw);have c1:0<c:=yx c (LR hc);symm;refine hR _ _ (!decide (k % c=0)) _ ⟨_,rfl⟩ (aj.refl _) rfl ?_;rw [MA,Mn,hc];rfl
 intro d2 H3 s3 h3;have h3':At K H3 (.ref d2) ((cu n t e).map fun s=>!decide (k % s=0)):=by
  have z:At K H3 (.ref d2) (((cu n t e).map fun s=>!decide (k % s=0)).take (cu n t e).length):=h3;rw [MT (by simp)] at z
  exact z
 symm;refine C3 h3' ?_;symm;cases hb':((cu n t e).map fun s=>!decide (k % s=0)).any id with
 | true =>
  refine oo ?_;have ex:∃ s,s∈cu n t e/\k % s≠0:=by
   obtain ⟨x,hx,ex⟩:=PQ.mp hb';obtain ⟨s,hs,rfl⟩:=Ml.mp hx;exact ⟨s,hs,by simpa using ex⟩
  have k3:k<bnd (cu n t e):=by
   rcases Mu k (bnd (cu n t e)) with z|z
   ·exact z
   ·have ek:k=bnd (cu n t e):=by omega
    obtain ⟨s,hs,z⟩:=ex;rw [ek] at z;exact absurd (Bk hs) z
  refine ⟨fun σ2 H4=>aj H1 H4/\σ2=[some (.ref g),some (.ref d1),some (.int ((k+1:Nat):Int))],fun σ2 H4 z=>⟨bnd (cu n t e) - (k+1),by omega,z.1,k+1,by omega,k3,rfl,fun j j1 j2=>?_,z.2⟩,?_⟩
  ·rcases Mu j k with z' | z'
   ·exact hk j j1 z'
   ·have:j=k:=by omega
    rw [this];exact ex
  symm;exact ⟨s2.trans s3,rfl⟩
 | false =>
  refine fc ?_;symm;refine q k H3 (s1.trans (s2.trans s3)) ⟨k1,fun s hs=>?_,hk⟩;rw [Qh] at hb';have:=hb' _ (Ml.mpr ⟨s,hs,rfl⟩)
  simpa using this
inductive uS (K:LN) (vs:List V) (H:Hp) (Q:VK) (E:XK):Prop
 | mk (v:V) (n e:Nat) (t:List (List Nat)) (_:vs=[v]) (_:At K H v t) (_:GT n t e) (_:Q (.int (e:Int)) H)
def l6 (T:Txt K mg):aH P w K mg base CX0 1 T.fv.f T.fv.fd ["_law_table"] (uS K):=by
 exists T.fv.ok mD
 ·obtain ⟨v,n,e,t,rfl,_⟩:=h;rfl
 obtain ⟨v,n,e,t,rfl,hT,gt,q⟩:=h;refine ⟨_,(ae (a8 L6 rfl (a9 rfl T.bD (paF (az (aT K rfl) rfl T.bA Me (paF (pv 0) aa)) aa)) (aJ (i:=1) mD.nd rfl (L7 rfl)) (af (aQ (ax bL (aw (ah K rfl) (aw (ah K rfl) (pv 0) (pv 1) (fun _ _=>rfl)) (pv 1) (fun _ _=>rfl)) (pv 1) (aB _)) (af (aN (pv 1))) aE)))
   (af (aN ag))),?_⟩
 have n23:=gt.le;walk_at "rx";rw [gt.len];refine bW (n:=n) rfl (by omega) (fun i σ H'=>H'=H/\i<=e/\∃ y,σ=[some v,y]) ⟨rfl,MI _,_,rfl⟩ ?_ ?_
 ·rintro i σ' H' hi ⟨rfl,hle,y,rfl⟩;walk_at "3";refine cM hT rfl (gt.get hi) fun w1 hw1=>?_;walk_at "rx";refine bN hw1 (gt.dX hi hi) ?_;walk_at "rx";refine aU (fun c=>?_) (fun c=>?_)
  ·walk_at "rx";rw [(gt.idem hi).mp c];exact q
  ·walk_at "rx";refine ⟨rfl,?_,_,rfl⟩;have:i≠e:=fun z=>c ((gt.idem hi).mpr z);omega
 ·rintro σ' H' ⟨rfl,hle,y,rfl⟩;exact absurd gt.elt (by omega)
inductive wI (K:LN) (vs:List V) (H:Hp) (Q:VK) (E:XK):Prop
 | mk (v u:V) (n e:Nat) (t:List (List Nat)) (S:List Nat) (_:vs=[v,u]) (_:At K H v t) (_:GT n t e) (_:At K H u S) (_:(∀ s∈S,s<n)) (_:∀ d H' R,H d=none->aj H H'->Gr K H' d R->Gen n t e S R->Q (.ref d) H')
def w9 (T:Txt K mg):aH P w K mg base CX0 2 T.iz.f T.iz.fd ["_law_table","_law_some"] (wI K):=by
 exists T.iz.ok d7
 ·obtain ⟨v,u,n,e,t,S,rfl,_⟩:=h;rfl
 obtain ⟨v,u,n,e,t,S,rfl,hT,gt,hS,hlt,q⟩:=h;refine ⟨_,(ae (av (i:=2) d7.nd rfl (L7 rfl) (aW (paF (aG T.fv (l6 T) (hr.mono (by decide)) rfl (paF (pv 0) aa)) aa)))
   (ae (av (i:=3) d7.nd rfl (L7 rfl) ag)
   (ae (i5 L6 (ax eA (pv 3) (az (aT K rfl) rfl T.bA Me (paF (pv 2) aa)) (aB _)) (ae (a8 L6 rfl (aY K rfl (pv 1)) (aJ (i:=4) d7.nd rfl (L7 rfl)) (ae (av (i:=5) d7.nd rfl (L7 rfl) (aw (ah K rfl) (aw (ah K rfl) (pv 0) (aw (ah K rfl) (pv 2) (pv 3) (fun _ _=>rfl)) (fun _ _=>rfl)) (pv 4) (fun _ _=>rfl)))
   (af (aQ (ax (fO K rfl) (pv 5) (pv 2) (by with_unfolding_all rfl)) (af (a7 (cJ K rfl Mi MK ML cz (pv 2) (paF (pv 5) aa)))) aE))))
   (af (av (i:=3) d7.nd rfl (L7 rfl) (au bj (pv 3) ag)))))
   (af (aN (az (pH K rfl) rfl T.jd NX (paF (pv 2) aa))))))),?_⟩
 have n23:=gt.le;walk_at "4";refine ⟨v,n,e,t,rfl,hT,gt,?_⟩;have s1:aj H H:=aj.refl H;walk_at "rx";refine ⟨small (by show 1<=1000;decide),fun p hp=>?_⟩
 walk_at "rx";have fp:H p=none:=s1.free hp;refine jc (fun m σ' H'=>aj H H'/\∃ (F:List Nat) (k:Nat) (x y:Option V),m=n - k/\Gr K H' p F/\gk n t e S F k/\σ'=[some v,some u,some (.ref p),some (.int (k:Int)),x,y]) (n - 0)
  ⟨s1.trans (ay hp _),[e],0,none,none,rfl,⟨_,ar,.cons rfl .nil⟩,⟨by simp,fun x hx=>by rw [LY.mp hx];exact gt.elt,by simp,MI _,fun i _ hi=>absurd hi (by omega),fun x hx=>⟨[],by simp,(LY.mp hx).symm⟩⟩,rfl⟩ ?_
 rintro m σ' H2 ⟨s2,F,k,x,y,rfl,g2,gr,rfl⟩;have aF:=g2.at;have fl:=gr.len;walk_at "rx";refine aU (fun c=>?_) (fun c=>?_)
 ·obtain ⟨a,ha⟩:∃ a,F[k]?=some a:=⟨F[k],LO c⟩;have haF:a∈F:=LR ha;have han:=gr.lt a haF;refine ⟨fun σ3 H3=>aj H H3/\∃ (F3:List Nat) (x y:Option V),Gr K H3 p F3/\gk n t e S F3 (k+1)/\σ3=[some v,some u,some (.ref p),some (.int ((k+1:Nat):Int)),x,y],fun σ3 H3 z=>?_,?_⟩
  ·obtain ⟨z1,F3,x3,y3,z2,z3,z4⟩:=z;have:=z3.le;have:=z3.len;exact ⟨n - (k+1),by omega,z1,F3,k+1,x3,y3,rfl,z2,z3,z4⟩
  walk_at "rx";refine eZ (H₀:=H) hS (fun j σ3 H3=>aj H H3/\∃ (F3:List Nat) (x y:Option V),Gr K H3 p F3/\gk n t e S F3 k/\F3[k]?=some a/\(∀ s∈S.take j,tb t a s∈F3)/\σ3=[some v,some u,some (.ref p),some (.int (k:Int)),x,y]) ⟨s2,F,x,y,g2,gr,ha,fun s hs=>absurd hs (by simp),rfl⟩ (fun j σ3 H3 z=>z.1) ?_ ?_
  ·rintro j b w' σ3 H3 hb hw ⟨s3,F3,x3,y3,g3,gr3,ha3,hj,rfl⟩;cases (show w'=V.int (b:Int) from hw);have hbS:b∈S:=LR hb;have hbn:=hlt b hbS;have aF3:=g3.at;have hT3:=Rep.mono s3 hT;have fl3:=gr3.len;walk_at "rx";refine bN aF3 ha3 ?_;refine cM hT3 rfl (gt.get han) fun w1 hw1=>?_;walk_at "rx";refine bN hw1 (gt.dX han hbn) ?_;walk_at "3";have more:∀ F':List Nat,(∀ z∈F3,z∈F')->tb t a b∈F'->∀ s∈S.take (j+1),tb t a s∈F':=fun F' h1 h2 s hs=>by
    rw [MA,hb] at hs;rcases Mb.mp hs with z|z
    ·exact h1 _ (hj s z)
    ·have:s=b:=by simpa using z
     rw [this];exact h2
   refine bH (fun z=>?_) (fun z=>?_)
   ·walk_at "rx";refine ⟨g3.ty,?_⟩;walk_at "rx";refine fR (b:=tb t a b) g3 (by omega) rfl fun H4 g4 k4 _=>?_
    exact ⟨aj.but fp s3 k4,_,_,_,g4,gr3.put gt (LR ha3) hbS hbn z,by rw [MG (LQ.mp ha3).1];exact ha3,more _ (fun y hy=>NJ _ hy) (by simp),rfl⟩
   ·walk_at "rx";exact ⟨s3,_,_,_,g3,gr3,ha3,more _ (fun y hy=>hy) z,rfl⟩
  ·rintro σ3 H3 ⟨s3,F3,x3,y3,g3,gr3,ha3,hj,rfl⟩;rw [MJ] at hj;walk_at "rx";exact ⟨s3,F3,_,_,g3,gr3.next ha3 hj,rfl⟩
 ·walk_at "rn";refine zm aF (by omega) fun d l' H3 hd s3 hpm hsr g3=>?_
  exact q d H3 l' (s2.free hd) (s2.trans s3) g3 (gr.gen (by omega) hpm hsr)
def AB {n e k:Nat} {t:List (List Nat)} (gt:GT n t e) (h1:1<=k) (hk:∀ a,a<n->aC t e a k=e) (hj:∀ j,1<=j->j<k->∃ a,a<n/\aC t e a j≠e):cX (cu n t e) k:=by
 refine ⟨h1,fun s hs=>?_,fun j j1 j2=>?_⟩
 ·obtain ⟨a,ha,rfl⟩:=Ml.mp hs;exact Nat.mod_eq_zero_of_dvd (Jy gt (L9.mp ha) (hk a (L9.mp ha)))
 ·obtain ⟨a,ha,q⟩:=hj j j1 j2;refine ⟨aZ n t e a,Ml.mpr ⟨a,L9.mpr ha,rfl⟩,fun z=>q ?_⟩;obtain ⟨c,rfl⟩:=Np z;exact i4 gt ha (dF gt ha).2.1 c
def sI {n e:Nat} {f:Nat->Nat}:(LX n).map f=Md n e↔∀ a,a<n->f a=e:=by
 constructor
 ·intro h a ha;have:((LX n).map f)[a]?=(Md n e)[a]?:=by rw [h]
  simpa [ha] using this
 ·intro h;refine List.ext_getElem (by simp) fun i h1 h2=>?_
  simp at h1
  simpa using h i h1
inductive zk (K:LN) (vs:List V) (H:Hp) (Q:VK) (E:XK):Prop
 | mk (v:V) (n e:Nat) (t:List (List Nat)) (_:vs=[v]) (_:At K H v t) (_:GT n t e) (_:∀ k H',aj H H'->cX (cu n t e) k->k<=n->Q (.int (k:Int)) H')
def oB (T:Txt K mg):aH P w K mg base CX0 2 T.gA.f T.gA.fd ["_law_table"] (zk K):=by
 exists T.gA.ok eT
 ·obtain ⟨v,n,e,t,rfl,_⟩:=h;rfl
 obtain ⟨v,n,e,t,rfl,hT,gt,q⟩:=h;refine ⟨_,(ae (dJ (i:=1) rfl eT.nd rfl (L7 rfl) lZ (aY K rfl (pv 0)) (fun _ _ _ _=>⟨(aJ (i:=0) lZ.nd rfl (L7 rfl)),b6,(aG T.fv (l6 T) (hr.mono (by decide)) rfl (paF (pv 1) aa))⟩) rfl)
   (ae (av (i:=2) eT.nd rfl (Qf rfl) (dk (mj rfl) rfl T.kG NP (paF (dk qS rfl T.bD RQ (paF (az (aT K rfl) rfl T.bA Me (paF (pv 0) aa)) aa)) aa)))
   (ae (av (i:=3) eT.nd rfl (L7 rfl) ag)
   (ae (i5 L6 (ax (iW K rfl Nat hr.units) (pv 2) (pv 1) (aB _)) (ae (av (i:=2) eT.nd rfl (Qf rfl) (dP rfl l7 (a9 rfl T.bD (paF (az (aT K rfl) rfl T.bA Me (paF (pv 0) aa)) aa)) (fun _ _ _ _=>⟨(aJ (i:=0) l7.nd rfl (L7 rfl)),b6,(aw (ah K rfl) (aw (ah K rfl) (pv 2) (aw (ah K rfl) (pv 1) (pv 0) (fun _ _=>rfl)) (fun _ _=>rfl)) (pv 0) (fun _ _=>rfl))⟩)))
   (af (av (i:=3) eT.nd rfl (L7 rfl) (au bj (pv 3) ag)))))
   (af (aN (pv 3))))))),?_⟩
 have n1:=gt.pos;have n23:=gt.le;walk_at "rn";refine iV (β:=Nat) hT (by rw [gt.len];omega) (fun i=>Md i e) (fun σ'=>∃ y,σ'=[y,some v]) rfl (fun i _=>by simp) ⟨_,rfl⟩ ?_ ?_
 ·rintro i c w' σ' H1 d' R R0 hc hs hw ⟨y,rfl⟩ hR hR0 hd';walk_at "rn";refine ⟨v,n,e,t,rfl,Rep.mono hs hT,gt,?_⟩;exact hR _ _ _ _ ⟨_,rfl⟩ (aj.refl _) rfl Om
 intro du H1 s1 hU;rw [gt.len] at hU;have hT1:=Rep.mono s1 hT;walk_at "rx";rw [gt.len];refine A6 fun pr hpr=>?_;walk_at "rx";refine qC (K:=K) ar (by omega) fun dl H2 _ s2 gl=>?_
 have s12:aj H1 H2:=(ay hpr _).trans s2;have e1:LX n=(LX n).map fun a=>aC t e a 1:=by
  refine List.ext_getElem (by simp) fun i h1 h2=>?_
  simp at h1
  simpa using (kT gt h1).symm
 have a1:=gl.at;rw [e1] at a1;walk_at "rx";refine jc (fun m σ' H'=>aj H1 H'/\∃ (k:Nat) (p:Addr),m=n - k/\1<=k/\k<=n/\(∀ j,1<=j->j<k->∃ a,a<n/\aC t e a j≠e)/\At K H' (.ref p) ((LX n).map fun a=>aC t e a k)/\σ'=[some v,some (.ref du),some (.ref p),some (.int (k:Int))]) (n - 1)
  ⟨s12,1,dl,rfl,Ma _,n1,fun j j1 j2=>absurd j2 (by omega),a1,rfl⟩ ?_
 rintro m σ' H3 ⟨s3,k,p,rfl,k1,kn,hj,aP,rfl⟩;have hU3:=Rep.mono s3 hU;have hT3:=Rep.mono s3 hT1;walk_at "rx";refine nt aP hU3 ?_;walk_at "rx";refine bH (fun z=>?_) (fun z=>?_)
 ·have zz:∃ a,a<n/\aC t e a k≠e:=by
   refine OP fun no=>z (sI.mpr fun a ha=>?_);exact OP fun q=>no ⟨a,ha,q⟩
  have kl:k<n:=by
   rcases Mu k n with y|y
   ·exact y
   ·obtain ⟨a,ha,q⟩:=zz;have:k=n:=by omega
    rw [this] at q;exact absurd (Kc gt ha) q
  refine ⟨fun σ4 H4=>aj H1 H4/\∃ (p:Addr),At K H4 (.ref p) ((LX n).map fun a=>aC t e a (k+1))/\σ4=[some v,some (.ref du),some (.ref p),some (.int ((k+1:Nat):Int))],fun σ4 H4 y=>?_,?_⟩
  ·obtain ⟨y1,p',y2,y3⟩:=y;refine ⟨n - (k+1),by omega,y1,k+1,p',rfl,by omega,by omega,fun j j1 j2=>?_,y2,y3⟩
   rcases Mu j k with u|u
   ·exact hj j j1 u
   ·have:j=k:=by omega
    rw [this];exact zz
  walk_at "rx";rw [gt.len];refine jv K (n:=n) (β:=Nat) rfl (by omega) (fun i=>((LX n).map fun a=>aC t e a (k+1)).take i) (fun σ'=>∃ y,σ'=[y,some (.ref p),some v]) rfl (fun i _=>by rw [MF];omega) ⟨_,rfl⟩ ?_ ?_
  ·rintro i σ' H4 d' R R0 hi hs ⟨y,rfl⟩ hR hR0 hd';have aP4:=Rep.mono hs aP;have hT4:=Rep.mono hs hT3;have hpl:=bE gt hi k;walk_at "rn";refine bN aP4 (c:=aC t e i k) (by simp [hi]) ?_
   refine cM hT4 rfl (gt.get hpl) fun w1 hw1=>?_;walk_at "rn";refine bN hw1 (gt.dX hpl hi) ?_;exact hR _ _ _ _ ⟨_,rfl⟩ (aj.refl _) rfl (c8 _ n i hi)
  intro dn H4 s4 h4;have h4':At K H4 (.ref dn) (((LX n).map fun a=>aC t e a (k+1)).take n):=h4;rw [MT (by simp)] at h4'
  walk_at "rx";exact ⟨s3.trans s4,dn,h4',rfl⟩
 ·walk_at "rx";exact q k H3 (s1.trans s3) (AB gt k1 (sI.mp z) hj) kn
def Kz:Option Nat->V
 | some b=>.int (b:Int)
 | none=>.non
def LK (n:Nat) (t:List (List Nat)) (a:Nat):Prop:=∀ b,b<n->tb t a b=tb t b a
instance {n:Nat} {t:List (List Nat)} {a:Nat}:Decidable (LK n t a):=inferInstanceAs (Decidable (∀ b,b<n->tb t a b=tb t b a))
inductive Fu (C:Addr) (K:LN) (vs:List V) (H:Hp) (Q:VK) (E:XK):Prop
 | mk (g:Addr) (n e a b:Nat) (t:List (List Nat)) (_:vs=[.ref g,.int (a:Int),.int (b:Int)]) (_:aX C H g n t e) (_:GT n t e) (_:a<n) (_:b<n) (_:∀ H',aj H H'->Q (.int (cZ n t e a b:Int)) H')
def oO (T:Txt K mg):aH P w K mg base CX0 2 T.i9.f T.i9.fd ["group","thing","by"] (Fu T.aI K):=by
 exists T.i9.ok DM
 ·obtain ⟨g,n,e,a,b,t,rfl,_⟩:=h;rfl
 obtain ⟨g,n,e,a,b,t,rfl,hG,gt,ha,hb,q⟩:=h;obtain ⟨dx,r,bk,hg,hT,hB⟩:=hG.get (K:=K);refine ⟨_,(af (aN (aG T.hZ (mO T) (hr.mono (by decide)) rfl (paF (pv 0) (paF (aW (paF (pv 2) (paF (pv 1) (paF (aw (ah K rfl) (cK K rfl (pv 0) rfl) (pv 2) (fun _ _=>rfl)) aa)))) aa))))),?_⟩
 walk_at "6";refine bN hB (uC hb) ?_;symm;refine ⟨small (by show 3<=1000;decide),fun p hp=>?_⟩
 have s1:aj H (upd H p (.lst (aO [b,a,bf n t e b]))):=ay hp _;symm;refine ⟨g,_,n,e,t,[b,a,bf n t e b],rfl,aX.mono s1 hG,gt,eI ar,fun x hx=>?_,?_⟩
 ·simp only [Mp,OG,or_false] at hx;rcases hx with rfl|rfl|rfl
  ·exact hb
  ·exact ha
  ·exact gt.eX hb
 ·have e1:prd t e [b,a,bf n t e b]=cZ n t e a b:=by
   show tb t (tb t (tb t e b) a) (bf n t e b)=_;rw [gt.unl b hb];rfl
  rw [e1];exact q _ s1
end
section
def B2 (H:Hp) (x:V):Option (Nat×Nat)->Prop
 | none=>x=.non
 | some (a,b)=>∃ p,x=.ref p/\H p=some (.tup [.int (a:Int),.int (b:Int)])
def B2.mono {H H':Hp} {x:V} (s:aj H H'):∀ {o:Option (Nat×Nat)},B2 H x o->B2 H' x o
 | none,h=>h
 | some _,⟨p,e,hp⟩=>⟨p,e,s _ _ hp⟩
inductive Hg (C:Addr) (K:LN) (vs:List V) (H:Hp) (Q:VK) (E:XK):Prop
 | mk (g:Addr) (v:V) (n e:Nat) (t:List (List Nat)) (R:List Nat) (_:vs=[.ref g,v]) (_:aX C H g n t e) (_:GT n t e) (_:At K H v R) (_:IsPart n t R) (_:∀ d H' M,H d=none->aj H H'->Gr K H' d M->Gen n t e (iD n t e R) M->Q (.ref d) H')
inductive CI (C:Addr) (K:LN) (vs:List V) (H:Hp) (Q:VK) (E:XK):Prop
 | mk (g:Addr) (v:V) (n e:Nat) (t:List (List Nat)) (S:List Nat) (_:vs=[.ref g,v]) (_:aX C H g n t e) (_:GT n t e) (_:At K H v S) (_:(∀ s∈S,s<n)) (_:S.length<=63) (_:∀ p dp dw H' R W pw,H dp=none->H dw=none->(∀ q∈pw,H q=none)->dp≠dw->dp∉pw->aj H H'->H' p=some (.tup [.ref dp,.ref dw])->H' dp=some (.lst (aO R))->Tbl H' dw W pw->Gen n t e S R->Words n t e S R W->Q (.ref p) H')
end
section
variable {P:Mh} {w:World} {K:LN} {mg:Str->Option Value} {base:Heap}
def IsPart.jW {n e:Nat} {t:List (List Nat)} {R:List Nat} (h:IsPart n t R) (g:GT n t e):R.length<=23:=M7 h.len g.le
inductive xl (C:Addr) (K:LN) (vs:List V) (H:Hp) (Q:VK) (E:XK):Prop
 | mk (g:Addr) (v:V) (n e:Nat) (t:List (List Nat)) (R:List Nat) (_:vs=[.ref g,v]) (_:aX C H g n t e) (_:GT n t e) (_:At K H v R) (_:(∀ x∈R,x<n)) (_:R.length<=64) (_:∀ H',aj H H'->Q (.bl true) H')
def wz (T:Txt K mg):aH P w K mg base CX0 1 T.dv.f T.dv.fd ["group","some"] (xl T.aI K):=by
 exists T.dv.ok nR
 ·obtain ⟨g,v,n,e,t,R,rfl,_⟩:=h;rfl
 obtain ⟨g,v,n,e,t,R,rfl,hG,gt,hR,hlt,hlen,q⟩:=h;obtain ⟨dx,r,bk,hg,hT,hB⟩:=hG.get (K:=K);refine ⟨_,(af (aN (az (lj K rfl rfl) rfl T.xJ Pn (paF (dP rfl fL (aY K rfl (pv 1)) (fun _ _ _ _=>⟨(aJ (i:=0) fL.nd rfl (L7 rfl)),b6,(jx (dz lr (pv 0) ag (aB _)) (lV (dz eA (pv 0) (cK K rfl (pv 1) rfl) (aB _))))⟩)) aa)))),?_⟩;symm;refine iV (β:=Bool) hR (by omega) (fun i=>Md i true) (fun σ'=>∃ y,σ'=[y,some (.ref g)]) rfl (fun i hi=>by simp) ⟨_,rfl⟩ ?_ ?_
 ·rintro i c w' σ' H3 d' R' R0 hc hs hw ⟨y,rfl⟩ hR' hR0 hd';cases (show w'=V.int (c:Int) from hw);have hg3:=hs _ _ hg;have c1:=hlt c (LR hc);symm;refine aU (fun _=>?_) (fun z=>absurd (MI _) z);symm;rw [decide_eq_true c1];exact hR' _ _ true _ ⟨_,rfl⟩ (aj.refl _) rfl Om
 intro d2 H3 s3 h3;symm;refine uf h3 ?_;rw [show (Md R.length true).all id=true by simp]
 exact q H3 s3
inductive FA (K:LN) (vs:List V) (H:Hp) (Q:VK) (E:XK):Prop
 | mk (v:V) (R:List Nat) (_:vs=[v]) (_:At K H v R) (_:R≠[]) (_:R.Pairwise (· < ·)) (_:R.length<=64) (_:∀ H',aj H H'->Q (.bl true) H')
def Fx (T:Txt K mg):aH P w K mg base CX0 1 T.g0.f T.g0.fd ["some"] (FA K):=by
 exists T.g0.ok yU
 ·obtain ⟨v,R,rfl,_⟩:=h;rfl
 obtain ⟨v,R,rfl,hR,ne,srt,hlen,q⟩:=h;have l0:0<R.length:=M9.mpr ne;refine ⟨_,(af (aN (az (lj K rfl rfl) rfl T.xJ Pn (paF (dP rfl j8 (a9 rfl T.bD (paF (au fP (az (aT K rfl) rfl T.bA Me (paF (pv 0) aa)) ag) aa)) (fun _ _ _ _=>⟨(aJ (i:=0) j8.nd rfl (L7 rfl)),b6,(dz eA (aw (ah K rfl) (pv 1) (pv 0) (fun _ _=>rfl)) (aw (ah K rfl) (pv 1) (au bj (pv 0) ag) (fun _ _=>rfl)) (aB _))⟩)) aa)))),?_⟩;symm;refine jv K (n:=R.length - 1) (β:=Bool) (by omega) (by omega) (fun i=>Md i true) (fun σ'=>∃ y,σ'=[y,some v]) rfl (fun i hi=>by simp) ⟨_,rfl⟩ ?_ ?_
 ·rintro i σ' H3 d' R' R0 hi hs ⟨y,rfl⟩ hR' hR0 hd';have hR3:=Rep.mono hs hR;symm;refine bN hR3 (LO (by omega)) ?_
  symm;refine bN hR3 (LO (by omega)) ?_
  symm;rw [decide_eq_true ((Mw.mp srt) i (i+1) (by omega) (by omega) (by omega))]
  exact hR' _ _ true _ ⟨_,rfl⟩ (aj.refl _) rfl Om
 intro d2 H3 s3 h3;symm;refine uf h3 ?_;rw [show (Md (R.length - 1) true).all id=true by simp]
 exact q H3 s3
inductive qz (C:Addr) (K:LN) (vs:List V) (H:Hp) (Q:VK) (E:XK):Prop
 | mk (g:Addr) (v:V) (n e:Nat) (t:List (List Nat)) (R:List Nat) (_:vs=[.ref g,v]) (_:aX C H g n t e) (_:GT n t e) (_:At K H v R) (_:IsPart n t R) (_:Q (.bl true) H)
def qw (T:Txt K mg):aH P w K mg base CX0 1 T.b9.f T.b9.fd ["group","some"] (qz T.aI K):=by
 exists T.b9.ok cW
 ·obtain ⟨g,v,n,e,t,R,rfl,_⟩:=h;rfl
 obtain ⟨g,v,n,e,t,R,rfl,hG,gt,hR,pt,q⟩:=h;obtain ⟨dx,r,bk,hg,hT,hB⟩:=hG.get (K:=K);refine ⟨_,(ae (a8 L6 rfl (aY K rfl (pv 1)) (aJ (i:=2) cW.nd rfl (L7 rfl)) (af (a8 L6 rfl (aY K rfl (pv 1)) (aJ (i:=3) cW.nd rfl (L7 rfl)) (af (aQ (ax (fO K rfl) (aw (ah K rfl) (aw (ah K rfl) (cK K rfl (pv 0) rfl) (pv 2) (fun _ _=>rfl)) (pv 3) (fun _ _=>rfl)) (pv 1) (by with_unfolding_all rfl)) (af (aN gL)) aE)))))
   (af (aN gL))),?_⟩
 symm;refine dB hR (fun i σ H'=>H'=H/\∃ x y,σ=[some (.ref g),some v,x,y]) ⟨rfl,_,_,rfl⟩ (fun i σ H' h=>by rw [h.1];exact aj.refl _) ?_ ?_
 ·rintro i a w' σ' H' ha hw ⟨rfl,x,y,rfl⟩;cases (show w'=V.int (a:Int) from hw);have haR:=LR ha;symm;refine dB hR (fun i σ H''=>H''=H'/\∃ y,σ=[some (.ref g),some v,some (.int (a:Int)),y]) ⟨rfl,_,rfl⟩ (fun i σ H' h=>by rw [h.1];exact aj.refl _) ?_ ?_
  ·rintro j b w2 σ' H'' hb hw2 ⟨rfl,y,rfl⟩;cases (show w2=V.int (b:Int) from hw2);have hbR:=LR hb;walk_at "5";refine cM hT rfl (gt.get (pt.lt a haR)) fun w1 hw1=>?_;symm;refine bN hw1 (gt.dX (pt.lt a haR) (pt.lt b hbR)) ?_;symm;refine bH (fun z=>absurd (pt.cl a haR b hbR) z) (fun _=>?_);symm;exact ⟨rfl,_,rfl⟩
  ·rintro σ' H'' ⟨rfl,y,rfl⟩;exact ⟨rfl,_,_,rfl⟩
 ·rintro σ' H' ⟨rfl,x,y,rfl⟩;symm;exact q
inductive Ct (C:Addr) (K:LN) (vs:List V) (H:Hp) (Q:VK) (E:XK):Prop
 | mk (g:Addr) (v:V) (n e:Nat) (t:List (List Nat)) (R:List Nat) (_:vs=[.ref g,v]) (_:aX C H g n t e) (_:GT n t e) (_:At K H v R) (_:IsPart n t R) (_:∀ H',aj H H'->Q (.bl true) H')
def Dp (T:Txt K mg):aH P w K mg base CX0 2 T.eW.f T.eW.fd ["group","some"] (Ct T.aI K):=by
 exists T.eW.ok tX
 ·obtain ⟨g,v,n,e,t,R,rfl,_⟩:=h;rfl
 obtain ⟨g,v,n,e,t,R,rfl,hG,gt,hR,pt,q⟩:=h;have l0:0<R.length:=M9.mpr pt.ne;have l23:=pt.jW gt;refine ⟨_,(af (aN (jx (dz fK (az (aT K rfl) rfl T.bA Me (paF (pv 1) aa)) ag (aB _)) (jx (aG T.dv (wz T) (hr.mono (by decide)) rfl (paF (pv 0) (paF (pv 1) aa))) (jx (aG T.g0 (Fx T) (hr.mono (by decide)) rfl (paF (pv 1) aa)) (lV (aG T.b9 (qw T) (hr.mono (by decide)) rfl (paF (pv 0) (paF (pv 1) aa))))))))),?_⟩
 symm;refine aU (fun _=>?_) (fun z=>absurd l0 z);symm;refine ⟨g,v,n,e,t,R,rfl,hG,gt,hR,pt.lt,by omega,fun H1 s1=>?_⟩
 symm;refine ⟨v,R,rfl,Rep.mono s1 hR,pt.ne,pt.srt,by omega,fun H2 s2=>?_⟩
 symm;have s02:=s1.trans s2;exact ⟨g,v,n,e,t,R,rfl,hG.mono s02,gt,Rep.mono s02 hR,pt,q H2 s02⟩
inductive nJ (C:Addr) (K:LN) (vs:List V) (H:Hp) (Q:VK) (E:XK):Prop
 | mk (g:Addr) (v:V) (n e:Nat) (t:List (List Nat)) (R:List Nat) (_:vs=[.ref g,v]) (_:aX C H g n t e) (_:GT n t e) (_:At K H v R) (_:IsPart n t R) (_:∀ H',aj H H'->Q .non H')
def gD (T:Txt K mg):aH P w K mg base CX0 3 T.bX.f T.bX.fd ["group","some"] (nJ T.aI K):=by
 exists T.bX.ok nV
 ·obtain ⟨g,v,n,e,t,R,rfl,_⟩:=h;rfl
 obtain ⟨g,v,n,e,t,R,rfl,hG,gt,hR,pt,q⟩:=h;refine ⟨_,(af (aQ (sC (fW (aG T.eW (Dp T) (hr.mono (by decide)) rfl (paF (pv 0) (paF (pv 1) aa))))) (af cV) aE)),?_⟩
 walk_at "5";refine ⟨g,v,n,e,t,R,rfl,hG,gt,hR,pt,fun H1 s1=>?_⟩;symm;refine fc ?_;symm;exact q H1 s1
inductive CD (C:Addr) (K:LN) (vs:List V) (H:Hp) (Q:VK) (E:XK):Prop
 | mk (g:Addr) (v:V) (n e b:Nat) (t:List (List Nat)) (R:List Nat) (_:vs=[.ref g,v,.int (b:Int)]) (_:aX C H g n t e) (_:GT n t e) (_:At K H v R) (_:IsPart n t R) (_:b<n) (_:∀ H' o,aj H H'->mS n t e R b o->Q (Kz o) H')
def tJ (T:Txt K mg):aH P w K mg base CX0 3 T.jA.f T.jA.fd ["group","part","by"] (CD T.aI K):=by
 exists T.jA.ok sy
 ·obtain ⟨g,v,n,e,b,t,R,rfl,_⟩:=h;rfl
 obtain ⟨g,v,n,e,b,t,R,rfl,hG,gt,hR,pt,hb,q⟩:=h;refine ⟨_,(ae (a8 L6 rfl (aY K rfl (pv 1)) (aJ (i:=3) sy.nd rfl (L7 rfl)) (af (aQ (ax (fO K rfl) (aG T.i9 (oO T) (hr.mono (by decide)) rfl (paF (pv 0) (paF (pv 3) (paF (pv 2) aa)))) (pv 1) (by with_unfolding_all rfl)) (af (aN (pv 3))) aE)))
   (af (aN yu))),?_⟩
 symm;refine dB hR (fun i σ H'=>aj H H'/\(∀ h∈R.take i,cZ n t e h b∈R)/\∃ x,σ=[some (.ref g),some v,some (.int (b:Int)),x]) ⟨aj.refl _,by simp,_,rfl⟩ (fun i σ H' h=>h.1) ?_ ?_
 ·rintro i a w' σ' H' ha hw ⟨s1,hf,x,rfl⟩;cases (show w'=V.int (a:Int) from hw);have haR:=LR ha;have hR1:=Rep.mono s1 hR;walk_at "5";refine ⟨g,n,e,a,b,t,rfl,hG.mono s1,gt,pt.lt a haR,hb,fun H2 s2=>?_⟩;have hR2:=Rep.mono s2 hR1;symm;refine bH (fun z=>?_) (fun z=>?_)
  ·symm;refine q H2 (some a) (s1.trans s2) ⟨haR,z,fun h' hh' hlt=>hf h' ?_⟩;obtain ⟨j,hj⟩:=Mr hh';obtain ⟨i1,e1⟩:=LQ.mp ha;obtain ⟨i2,e2⟩:=LQ.mp hj;have hji:j<i:=by
    rcases Ni j i with c|c|c
    ·exact c
    ·subst c;omega
    ·have:=(Mw.mp pt.srt) i j i1 i2 c;omega
   exact LR (i:=j) (by rw [Nz hji];exact hj)
  ·symm;refine ⟨s1.trans s2,fun h hh=>?_,_,rfl⟩;rw [MA,ha] at hh;rcases Mb.mp hh with c|c
   ·exact hf h c
   ·rw [LY.mp c];exact z
 ·rintro σ' H' ⟨s1,hf,x,rfl⟩;rw [MJ] at hf;symm;exact q H' none s1 hf
structure CW (H:Hp) (dw a:Addr) (F:List Nat) (W:List (List Nat)) (ps:List Addr):Prop where
 top:H dw=some (.dK (iS F ps))
 lst:H a=some (.lst (aO F))
 l1:ps.length=F.length
 l2:W.length=F.length
 nd:ps.Nodup
 ap:a∉ps
 row:∀ (i:Nat) (p:Addr) (w:List Nat),ps[i]?=some p->W[i]?=some w->H p=some (.lst (aO w))
def CW.mono {H H':Hp} {dw a:Addr} {F:List Nat} {W:List (List Nat)} {ps:List Addr} (s:aj H H') (c:CW H dw a F W ps):CW H' dw a F W ps :=
 ⟨s _ _ c.top,s _ _ c.lst,c.l1,c.l2,c.nd,c.ap,fun i p w e1 e2=>s _ _ (c.row i p w e1 e2)⟩
def gW {α:Type} {l:List α} {x y:α} {i:Nat} (h:(l++[x])[i]?=some y):(i<l.length/\l[i]?=some y)\/(i=l.length/\x=y):=by
 rcases Mu i l.length with z|z
 ·rw [MG z] at h;exact .inl ⟨z,h⟩
 ·rw [MS z] at h;rcases NZ (i - l.length) with c|c
  ·rw [c] at h;exact .inr ⟨by omega,ME h⟩
  ·rw [MD (by simp;omega)] at h;cases h
def CW.put {H H2:Hp} {dw a q:Addr} {F:List Nat} {W:List (List Nat)} {ps:List Addr} {f:Nat} {w:List Nat} (c:CW H dw a F W ps) (hq:H q=some (.lst (aO w))) (hn:q∉ps) (hqa:q≠a) (h1:H2 dw=some (.dK (iS (F++[f]) (ps++[q])))) (h2:H2 a=some (.lst (aO (F++[f]))))
  (k:∀ b o,b≠a->b≠dw->H b=some o->H2 b=some o):CW H2 dw a (F++[f]) (W++[w]) (ps++[q]):=by
 have e1:=c.l1;have e2:=c.l2;refine ⟨h1,h2,by simp [e1],by simp [e2],uU c.nd hn,fun z=>?_,fun i p w' g1 g2=>?_⟩
 ·rcases Mb.mp z with z|z
  ·exact c.ap z
  ·exact hqa (LY.mp z).symm
 ·rcases gW g1 with ⟨i1,g1'⟩|⟨i1,g1'⟩
  ·rcases gW g2 with ⟨i2,g2'⟩|⟨i2,g2'⟩
   ·have r:=c.row i p w' g1' g2';exact k p _ (fun z=>c.ap (z ▸ LR g1')) (fun z=>by rw [z,c.top] at r;cases r) r
   ·exact absurd i1 (by omega)
  ·rcases gW g2 with ⟨i2,g2'⟩|⟨i2,g2'⟩
   ·exact absurd i2 (by omega)
   ·subst g1' g2';exact k q _ hqa (fun z=>by rw [z,c.top] at hq;cases hq) hq
def Cc (T:Txt K mg):aH P w K mg base CX0 1 T.lC.f T.lC.fd ["group","some"] (CI T.aI K):=by
 exists T.lC.ok eE
 ·obtain ⟨g,v,n,e,t,S,rfl,_⟩:=h;rfl
 obtain ⟨g,v,n,e,t,S,rfl,hG,gt,hS,hlt,hsl,q⟩:=h;have n23:=gt.le;obtain ⟨dx,r,bk,hg,hT,hB⟩:=hG.get (K:=K);refine ⟨_,(ae (av (i:=2) eE.nd rfl (Qf rfl) (Ja (Gm (cK K rfl (pv 0) rfl) (aW aa) Ii) rfl rfl (by simp) (by decide)))
   (ae (av (i:=3) eE.nd rfl (L7 rfl) (aW (paF (cK K rfl (pv 0) rfl) aa)))
   (ae (av (i:=4) eE.nd rfl (L7 rfl) ag)
   (ae (i5 L6 (ax eA (pv 4) (az (aT K rfl) rfl T.bA Me (paF (pv 3) aa)) (aB _)) (ae (a8 L6 rfl (aY K rfl (pv 1)) (aJ (i:=5) eE.nd rfl (L7 rfl)) (ae (av (i:=6) eE.nd rfl (L7 rfl) (aw (ah K rfl) (aw (ah K rfl) (cK K rfl (pv 0) rfl) (aw (ah K rfl) (pv 3) (pv 4) (fun _ _=>rfl)) (fun _ _=>rfl)) (pv 5) (fun _ _=>rfl)))
   (af (aQ (jz (EA (eN hr) (pv 6) (pv 2))) (ae (Ba (eN hr) (pv 2) (pv 6) (au kS (dQ (eN hr) (pv 2) (aw (ah K rfl) (pv 3) (pv 4) (fun _ _=>rfl)) (fun _ _=>rfl)) (aW (paF (pv 5) aa))) rfl)
   (af (a7 (cJ K rfl Mi MK ML cz (pv 3) (paF (pv 6) aa))))) aE))))
   (af (av (i:=4) eE.nd rfl (L7 rfl) (au bj (pv 4) ag)))))
   (ae (av (i:=7) eE.nd rfl (L7 rfl) (az (pH K rfl) rfl T.jd NX (paF (pv 3) aa)))
   (af (aN (t9 (paF (pv 7) (paF (dP rfl oU (aY K rfl (pv 7)) (fun _ _ _ _=>⟨(aJ (i:=0) oU.nd rfl (L7 rfl)),b6,(dQ (eN hr) (pv 1) (pv 0) (fun _ _=>rfl))⟩)) aa)))))))))),?_⟩
 symm;refine Jv (fun dw fdw=>?_);have hg1:=ay fdw (.dK []) _ _ hg;walk_at "6";refine ⟨small (by show 0<=1000;decide),fun p0 hp0=>?_⟩
 have p0d:p0≠dw:=fun z=>by rw [z,ar] at hp0;cases hp0
 have fp0:H p0=none:=by rw [aA p0d] at hp0;exact hp0
 refine ⟨by rw [aA p0d.symm];exact ar,[(nk e,.ref p0)],rfl,(by show 1<=15;decide),?_⟩
 have s2:aj H (upd (upd (upd H dw (.dK [])) p0 (.lst [])) dw (.dK (gn [] [(nk e,.ref p0)]))):=fun b o z=>by
  rw [aA (aS z fdw),aA (aS z fp0),aA (aS z fdw)];exact z
 have hdw:(upd (upd (upd H dw (.dK [])) p0 (.lst [])) dw (.dK (gn [] [(nk e,.ref p0)]))) dw=some (.dK (iS [e] [p0])):=ar;have hp0':(upd (upd (upd H dw (.dK [])) p0 (.lst [])) dw (.dK (gn [] [(nk e,.ref p0)]))) p0=some (.lst (aO [])):=by
  rw [aA p0d];exact ar
 generalize upd (upd (upd H dw (.dK [])) p0 (.lst [])) dw (.dK (gn [] [(nk e,.ref p0)]))=H2 at s2 hdw hp0';have hg2:=s2 _ _ hg;walk_at "6";refine ⟨small (by show 1<=1000;decide),fun a ha=>?_⟩
 have fa:H a=none:=s2.free ha;have had:a≠dw:=fun z=>by rw [z,hdw] at ha;cases ha
 have hap:a≠p0:=fun z=>by rw [z,hp0'] at ha;cases ha
 have c0:CW (upd H2 a (.lst [.int (e:Int)])) dw a [e] [[]] [p0]:=by
  refine ⟨by rw [aA had.symm];exact hdw,ar,rfl,rfl,by simp,by simpa using hap,fun i p w g1 g2=>?_⟩
  rcases gW (l:=[]) g1 with ⟨z,_⟩|⟨z,g1'⟩
  ·exact absurd z (by simp)
  ·rcases gW (l:=[]) g2 with ⟨z,_⟩|⟨z,g2'⟩
   ·exact absurd z (by simp)
   ·subst g1' g2';rw [aA hap.symm];exact hp0'
 have s3:aj H (upd H2 a (.lst [.int (e:Int)])):=s2.trans (ay ha _);symm;refine jc (fun m σ' H'=>aj H H'/\∃ (F:List Nat) (W:List (List Nat)) (ps:List Addr) (k:Nat) (x y z:Option V),m=n - k/\CW H' dw a F W ps/\gk n t e S F k/\ip t e S F W/\(∀ p∈ps,H p=none)/\σ'=[some (.ref g),some v,some (.ref dw),some (.ref a),some (.int (k:Int)),x,y,z]) (n - 0)
  ⟨s3,[e],[[]],[p0],0,none,none,none,rfl,c0,⟨by simp,fun x hx=>by rw [LY.mp hx];exact gt.elt,by simp,MI _,fun i _ hi=>absurd hi (by omega),fun x hx=>⟨[],by simp,(LY.mp hx).symm⟩⟩,ip.one,fun p hp=>by rw [LY.mp hp];exact fp0,rfl⟩ ?_
 rintro m σ' H3 ⟨s3,F,W,ps,k,x,y,z,rfl,cw,gr,gw,fps,rfl⟩;have aF:At K H3 (.ref a) F:=eI cw.lst;have fl:=gr.len;symm;refine aU (fun c=>?_) (fun c=>?_)
 ·obtain ⟨b0,hb0⟩:∃ b0,F[k]?=some b0:=⟨F[k],LO c⟩;have hbF:b0∈F:=LR hb0;have hbn:=gr.lt b0 hbF;refine ⟨fun σ4 H4=>aj H H4/\∃ (F4:List Nat) (W4:List (List Nat)) (ps4:List Addr) (x y z:Option V),CW H4 dw a F4 W4 ps4/\gk n t e S F4 (k+1)/\ip t e S F4 W4/\(∀ p∈ps4,H p=none)/\σ4=[some (.ref g),some v,some (.ref dw),some (.ref a),some (.int ((k+1:Nat):Int)),x,y,z],fun σ4 H4 z=>?_,?_⟩
  ·obtain ⟨z1,F4,W4,ps4,x4,y4,z4,z2,z3,z5,z6,z7⟩:=z;have:=z3.le;have:=z3.len;exact ⟨n - (k+1),by omega,z1,F4,W4,ps4,k+1,x4,y4,z4,rfl,z2,z3,z5,z6,z7⟩
  symm;refine eZ (H₀:=H) hS (fun j σ4 H4=>aj H H4/\∃ (F4:List Nat) (W4:List (List Nat)) (ps4:List Addr) (x y:Option V),CW H4 dw a F4 W4 ps4/\gk n t e S F4 k/\ip t e S F4 W4/\(∀ p∈ps4,H p=none)/\F4[k]?=some b0/\(∀ s∈S.take j,tb t b0 s∈F4)/\σ4=[some (.ref g),some v,some (.ref dw),some (.ref a),some (.int (k:Int)),x,y,z]) ⟨s3,F,W,ps,x,y,cw,gr,gw,fps,hb0,fun s hs=>absurd hs (by simp),rfl⟩ (fun j σ4 H4 z=>z.1) ?_ ?_
  ·rintro j b w' σ4 H4 hb hw ⟨s4,F4,W4,ps4,x4,y4,cw4,gr4,gw4,fps4,hb4,hj,rfl⟩;cases (show w'=V.int (b:Int) from hw);have hbS:b∈S:=LR hb;have hbl:=hlt b hbS;have aF4:At K H4 (.ref a) F4:=eI cw4.lst;have hg4:=s4 _ _ hg;have hT4:=Rep.mono s4 hT;have fl4:=gr4.len;symm;refine bN aF4 hb4 ?_;refine cM hT4 rfl (gt.get hbn) fun w1 hw1=>?_;symm;refine bN hw1 (gt.dX hbn hbl) ?_;walk_at "5";refine Ee ?_;symm;refine Ga cw4.top ?_;rw [IJ gr4.nd cw4.l1];symm;have more:∀ F':List Nat,(∀ z∈F4,z∈F')->tb t b0 b∈F'->∀ s∈S.take (j+1),tb t b0 s∈F':=fun F' h1 h2 s hs=>by
    rw [MA,hb] at hs;rcases Mb.mp hs with z|z
    ·exact h1 _ (hj s z)
    ·have:s=b:=by simpa using z
     rw [this];exact h2
   refine bH (fun z=>?_) (fun z=>?_)
   ·have k4:k<W4.length:=by rw [cw4.l2];exact (LQ.mp hb4).1
    have k5:k<ps4.length:=by rw [cw4.l1];exact (LQ.mp hb4).1
    have hwk:W4[k]?=some W4[k]:=LO k4;have hpk:ps4[k]?=some ps4[k]:=LO k5;have hrow:=cw4.row k _ _ hpk hwk;symm;refine BH ?_;symm;refine dR ?_;symm;refine bN aF4 hb4 ?_;refine eU cw4.top (nv gr4.nd hb4 hpk) ?_;walk_at "6";refine ⟨small (by show 1<=1000;decide),fun p1 hp1=>?_⟩
    have s5:=ay hp1 (.lst [.int (b:Int)]);have wl:W4[k].length<=1000:=by
     have:=(gw4.word k b0 _ hb4 hwk).2.1;omega
    refine Kn (K:=K) (α:=Nat) (l:=W4[k]) (r:=[b]) ⟨_,_,rfl,s5 _ _ hrow,fA⟩ ⟨p1,_,rfl,ar,fA (l:=[b])⟩ (by simp;omega) fun p2 H6 fp2 s6 g6=>?_
    have s46:=s5.trans s6;have cw6:=cw4.mono s46;have h6:=jB g6;have fp2':H4 p2=none:=s5.free fp2;symm;refine DZ cw6.top (M7 Hu (by omega)) ?_
    rw [ER cw4.l1 z];have had:a≠dw:=fun z=>by have:=cw6.lst;rw [z,cw6.top] at this;cases this
    have p2n:p2∉ps4:=fun c=>by
     obtain ⟨i,hi⟩:=Mr c;have:=cw4.row i p2 _ hi (LO (by rw [cw4.l2,<- cw4.l1];exact (LQ.mp hi).1))
     rw [fp2'] at this;cases this
    have p2a:p2≠a:=fun c=>by rw [c,cw4.lst] at fp2';cases fp2'
    have g7:Gr K (upd H6 dw (.dK (iS (F4++[tb t b0 b]) (ps4++[p2])))) a F4:=⟨_,by rw [aA had];exact cw6.lst,fA⟩
    symm;refine ⟨g7.ty,?_⟩;symm;refine fR (b:=tb t b0 b) g7 (by omega) rfl fun H8 g8 k8 _=>?_
    have cw8:CW H8 dw a (F4++[tb t b0 b]) (W4++[W4[k]++[b]]) (ps4++[p2]):=cw6.put h6 p2n p2a (k8 _ _ had.symm ar) (jB g8) fun b' o h1 h2 h3=>k8 _ _ h1 (by rw [aA h2];exact h3)
    refine ⟨fun b' o zz=>k8 _ _ (aS zz fa) (by rw [aA (aS zz fdw)];exact s46 _ _ (s4 _ _ zz)),_,_,_,_,_,cw8,gr4.put gt (LR hb4) hbS hbl z,gw4.put hb4 hwk hbS,fun p hp=>?_,by rw [MG (LQ.mp hb4).1];exact hb4,more _ (fun y hy=>NJ _ hy) (by simp),rfl⟩
    rcases Mb.mp hp with c|c
    ·exact fps4 p c
    ·rw [LY.mp c];exact s4.free fp2'
   ·symm;exact ⟨s4,_,_,_,_,_,cw4,gr4,gw4,fps4,hb4,more _ (fun y hy=>hy) z,rfl⟩
  ·rintro σ4 H4 ⟨s4,F4,W4,ps4,x4,y4,cw4,gr4,gw4,fps4,hb4,hj,rfl⟩;rw [MJ] at hj;symm;exact ⟨s4,F4,W4,ps4,_,_,_,cw4,gr4.next hb4 hj,gw4,fps4,rfl⟩
 ·walk_at "rn";refine zm aF (by omega) fun d l' H4 hd s4 hpm hsr g4=>?_
  have gen:=gr.gen (by omega) hpm hsr
  have cw4:=cw.mono s4;have hd4:=jB g4;symm;refine qr ?_;symm;have pn:∀ x∈l',∃ j:Nat,F[j]?=some x/\j<ps.length:=fun x hx=>by
   obtain ⟨j,hj⟩:=Mr (hpm.mem_iff.mp hx);exact ⟨j,hj,by rw [cw.l1];exact (LQ.mp hj).1⟩
  have gl:=gen.len;refine pA (p:=d) (xs:=aO l') (by unfold aO;rw [LV];omega) (fun d' i σ' H' ys=>aj H4 H'/\∃ (V:List (List Nat)) (qs:List Addr) (y:Option L2.V),Tbl H' d' V qs/\ys=qs.map L2.V.ref/\qs.length=i /\
    (∀ (i':Nat) (p:Addr),qs[i']?=some p->∃ (r j:Nat),l'[i']?=some r/\F[j]?=some r/\ps[j]?=some p)/\(∀ (i' r:Nat) (w:List Nat),l'[i']?=some r->V[i']?=some w->∃ j:Nat,F[j]?=some r/\W[j]?=some w)/\σ'=[y,some (.ref dw)])
   (fun d' i σ' H' ys z=>SqL.of (z.1 _ _ hd4)) (SqL.of hd4) (fun d' i σ' H' ys hi ⟨_,V,qs,y,_,e1,e2,_⟩=>by rw [e1,LV,e2];exact Ma _)
   (fun d' hd'=>⟨ay hd' _,[],[],_,Tbl.nil,rfl,rfl,by simp,by simp,rfl⟩) ?_ ?_
  ·rintro d' i x' σ' H5 ys R' R0 hd' hx ⟨s5,V,qs,y',tb5,rfl,hl5,hqs,hV,rfl⟩ hys hR' hR0;unfold aO at hx;rw [Mn] at hx;obtain ⟨r0,hr0,rfl⟩:=O7.mp hx;obtain ⟨j,hj,hjl⟩:=pn r0 (LR hr0);have hpj:ps[j]?=some ps[j]:=LO hjl;have hwl:j<W.length:=by rw [cw.l2,<- cw.l1];exact hjl
   have hwj:W[j]?=some W[j]:=LO hwl;have cw5:=cw4.mono s5;symm;refine dR ?_;symm;refine eU cw5.top (nv gr.nd hj hpj) ?_;have hpn:ps[j]∉qs:=fun c=>by
    obtain ⟨i',hi'⟩:=Mr c;obtain ⟨r1,j1,g1,g2,g3⟩:=hqs i' _ hi';obtain ⟨u1,v1⟩:=LQ.mp g3;have ej:j1=j:=by
     rcases Ni j1 j with c|c|c
     ·exact absurd v1 ((Mw.mp cw.nd) j1 j u1 hjl c)
     ·exact c
     ·exact absurd v1.symm ((Mw.mp cw.nd) j j1 hjl u1 c)
    subst ej;have er:r1=r0:=ME (g2.symm.trans hj);subst er;have hi2:i' < i:=by rw [<- hl5];exact (LQ.mp hi').1
    obtain ⟨u2,v2⟩:=LQ.mp g1;obtain ⟨u3,v3⟩:=LQ.mp hr0;have:=(Mw.mp gen.srt) i' i u2 u3 hi2;omega
   have hpd:ps[j]≠d':=fun c=>by
    have:=cw4.row j _ _ hpj hwj;rw [c,hd'] at this;cases this
   refine hR' _ _ _ hys ⟨fun b o zz=>?_,V++[W[j]],qs++[ps[j]],_,tb5.snoc (aj.refl _) (cw5.row j _ _ hpj hwj) hpn hpd,by rw [M8];rfl,by rw [Mq,hl5];rfl,fun i' p hp=>?_,fun i' r1 w1 g1 g2=>?_,rfl⟩
   ·rw [aA (aS zz hd')];exact s5 _ _ zz
   ·rcases gW hp with ⟨_,c⟩|⟨c,c2⟩
    ·exact hqs i' p c
    ·subst c2;rw [hl5] at c;subst c;exact ⟨r0,j,hr0,hj,hpj⟩
   ·rcases gW g2 with ⟨_,c⟩|⟨c,c2⟩
    ·exact hV i' r1 w1 g1 c
    ·subst c2;have:i'=i:=by rw [c,<- tb5.len,hl5]
     subst this;have er:r1=r0:=ME (g1.symm.trans hr0);subst er;exact ⟨j,hj,hwj⟩
  rintro d2 σ5 H5 ys fd2 hd2 ⟨s5,V,qs,y',tb5,rfl,hl5,hqs,hV,rfl⟩;unfold aO at hl5;rw [LV] at hl5;symm;refine ⟨small (by show 2<=1000;decide),fun p9 hp9=>?_⟩
  have s9:=ay hp9 (.tup [.ref d,.ref d2]);have s04:=s3.trans s4;have s05:=s04.trans s5;have hdn:d∉qs:=fun c=>by
   obtain ⟨i',hi'⟩:=Mr c;obtain ⟨r1,j1,g1,g2,g3⟩:=hqs i' _ hi';have:=cw.row j1 d _ g3 (LO (by rw [cw.l2,<- cw.l1];exact (LQ.mp g3).1))
   rw [hd] at this;cases this
  refine q p9 d d2 _ l' V qs (s3.free hd) (s04.free fd2) (fun p hp=>?_) (fun c=>?_) hdn (s05.trans s9) ar (s9 _ _ (s5 _ _ hd4)) (tb5.mono s9) gen (gw.words gr.nd fl (by rw [<- tb5.len,hl5]) hV)
  ·obtain ⟨i',hi'⟩:=Mr hp;obtain ⟨r1,j1,g1,g2,g3⟩:=hqs i' _ hi';exact fps p (LR g3)
  ·rw [<- c,hd4] at fd2;cases fd2
def E2 {α β:Type} {l:List α} {f:α->List β} {i:Nat} {c:α} (h:l[i]?=some c):(l.take (i+1)).flatMap f=(l.take i).flatMap f++f c:=by
 rw [MA,h,Td];simp
def Hf (T:Txt K mg):aH P w K mg base CX0 4 T.qe.f T.qe.fd ["group","part"] (Hg T.aI K):=by
 exists T.qe.ok m9
 ·obtain ⟨g,v,n,e,t,R,rfl,_⟩:=h;rfl
 obtain ⟨g,v,n,e,t,R,rfl,hG,gt,hR,pt,q⟩:=h;obtain ⟨dx,gr,gb,hg,hT,hB⟩:=hG.get (K:=K);have n1:=gt.pos;have n23:=gt.le;have rl:=pt.len;refine ⟨_,(ae (a7 (aG T.bX (gD T) (hr.mono (by decide)) rfl (paF (pv 0) (paF (pv 1) aa))))
   (ae (av (i:=2) m9.nd rfl (L7 rfl) (aW aa))
   (ae (a8 L6 rfl (aY K rfl (pv 1)) (aJ (i:=3) m9.nd rfl (L7 rfl)) (af (a8 L6 rfl (aY K rfl (pv 1)) (aJ (i:=4) m9.nd rfl (L7 rfl)) (af (a7 (cJ K rfl Mi MK ML cz (pv 2) (paF (aG T.hZ (mO T) (hr.mono (by decide)) rfl (paF (pv 0) (paF (aW (paF (pv 3) (paF (pv 4) (paF (aw (ah K rfl) (cK K rfl (pv 0) rfl) (pv 3) (fun _ _=>rfl)) (paF (aw (ah K rfl) (cK K rfl (pv 0) rfl) (pv 4) (fun _ _=>rfl)) aa))))) aa))) aa)))))))
   (af (aN (aw (ke K rfl) (aG T.lC (Cc T) (hr.mono (by decide)) rfl (paF (pv 0) (paF (az (wK w rfl rfl) rfl T.jd NX (paF (dk (C7 K rfl w rfl rfl) rfl T.mM PyProof.Rows.boot_set (paF (pv 2) aa)) aa)) aa))) ag (fun _ _=>rfl))))))),?_⟩
 walk_at "rn";refine ⟨g,v,n,e,t,R,rfl,hG,gt,hR,pt,fun H1 s1=>?_⟩;have aR1:=Rep.mono s1 hR;walk_at "rn";refine dS (K:=K) (l:=([]:List Nat)) iq (by decide) fun dm H2 fm s2 g2=>?_
 walk_at "rn"
 let cm:Nat->Nat->Nat:=fun a b=>tb t (tb t (tb t a b) (bf n t e a)) (bf n t e b)
 have cml:∀ a∈R,∀ b∈R,cm a b<n:=fun a ha b hb=>gt.lt _ _ (gt.lt _ _ (gt.lt _ _ (pt.lt a ha) (pt.lt b hb)) (gt.eX (pt.lt a ha))) (gt.eX (pt.lt b hb));refine eZ (H₀:=H1) aR1 (fun i σ H'=>aj H1 H'/\∃ (L:List Nat) (x3 x4:Option V),Gr K H' dm L/\L.length<=i * 23/\L=(R.take i).flatMap (fun a=>R.map (cm a))/\σ=[some (.ref g),some v,some (.ref dm),x3,x4]) ⟨s2,[],_,_,g2,by simp,rfl,rfl⟩ (fun i σ' H' z=>z.1) ?_ ?_
 ·rintro i a w' σ' H3 ha hw ⟨s3,L,x3,x4,g3,ll,hL,rfl⟩;cases (show w'=V.int (a:Int) from hw);have haR:a∈R:=LR ha;have han:=pt.lt a haR;have il:=(LQ.mp ha).1;have ib:i * 23<=23 * 23:=Pz _ (by omega)
  walk_at "rn";refine eZ (H₀:=H1) aR1 (fun j σ H'=>aj H1 H'/\∃ (L:List Nat) (x4:Option V),Gr K H' dm L/\L.length<=i * 23+j/\L=(R.take i).flatMap (fun a=>R.map (cm a))++(R.take j).map (cm a)/\σ=[some (.ref g),some v,some (.ref dm),some (.int (a:Int)),x4]) ⟨s3,L,_,g3,ll,by simpa using hL,rfl⟩ (fun i σ' H' z=>z.1) ?_ ?_
  ·rintro j b w' σ' H4 hb hw ⟨s4,L,x4,g4,ll,hL,rfl⟩;cases (show w'=V.int (b:Int) from hw);have hbR:b∈R:=LR hb;have hbn:=pt.lt b hbR;have jl:=(LQ.mp hb).1;have s14:=s1.trans s4;have hg4:=s14 _ _ hg;have ba:=gt.eX han;have bb:=gt.eX hbn;walk_at "rn";refine ⟨g4.ty,?_⟩;walk_at "1";refine bO T hg4 ?_;walk_at "rn";refine bN (Rep.mono s14 hB) (uC han) ?_;walk_at "rn";refine bO T hg4 ?_;walk_at "rn";refine bN (Rep.mono s14 hB) (uC hbn) ?_;walk_at "rn";refine ⟨small (by show 4<=1000;decide),fun pl hpl=>?_⟩
   have s5:aj H4 (upd H4 pl (.lst (aO [a,b,bf n t e a,bf n t e b]))):=ay hpl _;have hl5:(upd H4 pl (.lst (aO [a,b,bf n t e a,bf n t e b]))) pl=some (.lst (aO [a,b,bf n t e a,bf n t e b])):=ar;have g5:Gr K (upd H4 pl (.lst (aO [a,b,bf n t e a,bf n t e b]))) dm L:=g4.mono s5;walk_at "rn";refine ⟨g,_,n,e,t,[a,b,bf n t e a,bf n t e b],rfl,aX.mono (s14.trans s5) hG,gt,eI hl5,fun x hx=>?_,?_⟩
   ·simp only [Mp,OG,or_false] at hx;rcases hx with rfl|rfl|rfl|rfl
    ·exact han
    ·exact hbn
    ·exact ba
    ·exact bb
   have e1:prd t e [a,b,bf n t e a,bf n t e b]=cm a b:=by
    show tb t (tb t (tb t (tb t e a) b) (bf n t e a)) (bf n t e b)=_;rw [gt.unl a han]
   rw [e1];walk_at "rn";refine fR (b:=cm a b) g5 (by omega) rfl fun H6 g6 k6 _=>?_
   refine ⟨aj.but fm (s4.trans s5) k6,L++[cm a b],_,g6,?_,?_,rfl⟩
   ·rw [Mq,Oe];omega
   ·rw [hL,Qj,MA,hb];simp
  ·rintro σ' H4 ⟨s4,L,x4,g4,ll,hL,rfl⟩;rw [MJ] at hL;walk_at "rn";refine ⟨s4,L,_,_,g4,?_,?_,rfl⟩
   ·rw [PY];omega
   ·rw [E2 ha];exact hL
 ·rintro σ' H3 ⟨s3,L,x3,x4,g3,ll,hL,rfl⟩;rw [MJ] at hL;have hm:L=iD n t e R:=hL;have hlt:∀ x∈L,x<n:=fun x hx=>by
   rw [hm] at hx;obtain ⟨a,ha,b,hb,rfl⟩:=m6.mp hx;exact cml a ha b hb
  walk_at "rn";refine KN g3.at (fun x hx=>by have:=hlt x hx;omega) fun sa ks fs hks nd=>?_
  have s4:=ay fs (iO w sa ks);have h4:(upd H3 sa (iO w sa ks)) sa=some (iO w sa ks):=ar;generalize upd H3 sa (iO w sa ks)=H4 at s4 h4;walk_at "rn";refine Ej h4 fun sd sl fd hp hs=>?_;have s5:=ay fd (.lst (aO sl));have h5:(upd H4 sd (.lst (aO sl))) sd=some (.lst (aO sl)):=ar;generalize upd H4 sd (.lst (aO sl))=H5 at s5 h5;have s35:=s4.trans s5;have s05:=s1.trans (s3.trans s35);have hmem:∀ x,x∈sl↔x∈iD n t e R:=fun x=>by rw [hp.mem_iff,hks x,hm]
  have sll:sl.length<=n:=ei (hp.nodup_iff.mpr nd) fun x hx=>hlt x (by rw [hm];exact (hmem x).mp hx)
  walk_at "rn";refine ⟨g,_,n,e,t,sl,rfl,aX.mono s05 hG,gt,eI h5,fun x hx=>hlt x (by rw [hm];exact (hmem x).mp hx),by omega,fun p dp dw H6 M W pw f1 f2 f3 n1 n2 s6 h6 hp6 _ G _=>?_⟩
  walk_at "rn";refine qi (i:=0) h6 rfl ?_;exact q dp H6 M (s05.free f1) (s05.trans s6) ⟨_,hp6,fA⟩ (G.congr hmem)
inductive lu  (vs:List V) (H:Hp) (Q:VK) (E:XK):Prop
 | mk (m:Nat) (_:vs=[.int (m:Int)]) (_:1<=m) (_:m<=60) (_:Q .non H)
def lF (T:Txt K mg):aH P w K mg base CX0 1 T.cI.f T.cI.fd ["many"] lu:=by
 exists T.cI.ok kU
 ·obtain ⟨m,rfl,_⟩:=h;rfl
 obtain ⟨m,rfl,m1,m2,q⟩:=h;refine ⟨_,(af (aQ (PW.pt (gG (ax eA (pv 0) ag (aB _)) (gq (ax fK (pv 0) (cB (v:=.int 60) rfl T.nK ⟨_,rfl⟩) (aB _))))) (af cV) aE)),?_⟩;walk_at "3";refine aU (fun c=>absurd c (by omega)) (fun _=>?_)
 walk_at "rx";refine aU (fun c=>absurd c (by omega)) (fun _=>?_)
 walk_at "rx";exact q
def rW (n:Nat) (t:List (List Nat)) (e:Nat) (z:V) (m:Nat):Prop:=(z=.non/\cX (cu n t e) m)\/(z=.int (m:Int)/\1<=m/\m<=60/\∀ k,cX (cu n t e) k->m % k=0)
inductive tE (C:Addr) (vs:List V) (H:Hp) (Q:VK) (E:XK):Prop
 | mk (g:Addr) (z:V) (n e m:Nat) (t:List (List Nat)) (_:vs=[.ref g,z]) (_:aX C H g n t e) (_:GT n t e) (_:rW n t e z m) (_:∀ H',aj H H'->Q (.int (m:Int)) H')
def jX (T:Txt K mg):aH P w K mg base CX0 3 T.cL.f T.cL.fd ["group","spokes"] (tE T.aI):=by
 exists T.cL.ok jS
 ·obtain ⟨g,z,n,e,m,t,rfl,_⟩:=h;rfl
 obtain ⟨g,z,n,e,m,t,rfl,hG,gt,hz,q⟩:=h;refine ⟨_,(ae (av (i:=2) jS.nd rfl (L7 rfl) (aG T.my (zp T) (hr.mono (by decide)) rfl (paF (pv 0) aa)))
   (ae (aQ (jz (xY (pv 1))) (af (aN (pv 2))) aE)
   (ae (a7 (aG T.cI (lF T) (hr.mono (by decide)) rfl (paF (pv 1) aa)))
   (ae (aQ (ax dM (au aV (pv 1) (pv 2)) ag (aB _)) (af cV) aE)
   (af (aN (pv 1))))))),?_⟩
 walk_at "rx";refine ⟨g,n,e,t,rfl,hG,gt,fun k H1 s1 hk=>?_⟩;walk_at "3";rcases hz with ⟨rfl,hm⟩|⟨rfl,m1,m2,hm⟩
 ·refine aU (fun _=>?_) (fun c=>absurd rfl c);walk_at "rx";rw [hk.uni hm];exact q _ s1
 ·refine aU (fun c=>by cases c) (fun _=>?_)
  walk_at "rx";refine ⟨m,rfl,m1,m2,?_⟩;have hk0:=hk.pos;walk_at "3";refine bH (fun c=>absurd (hm k hk) c) (fun _=>?_);walk_at "rx";exact q _ s1
end
section
inductive l5 (C:Addr) (K:LN) (vs:List V) (H:Hp) (Q:VK) (E:XK):Prop
 | mk (g:Addr) (v u z:V) (n e m l:Nat) (t:List (List Nat)) (R M:List Nat) (_:vs=[.ref g,v,u,z]) (_:aX C H g n t e) (_:GT n t e) (_:At K H v R) (_:IsPart n t R) (_:At K H u M) (_:M.length=R.length) (_:(∀ x∈M,x<m)) (_:(z=.int (m:Int)\/(z=.non/\m=l))) (_:cX (cu n t e) l) (_:m % l=0) (_:0<m) (_:m<=60) (_:∀ x H' o,aj H H'->B2 H' x o->fB t R M m o->Q x H')
end
section
variable {P:Mh} {w:World} {K:LN} {mg:Str->Option Value} {base:Heap}
inductive uJ (K:LN) (vs:List V) (H:Hp) (Q:VK) (E:XK):Prop
 | mk (v u:V) (m:Nat) (R M:List Nat) (_:vs=[v,u,.int (m:Int)]) (_:At K H v R) (_:At K H u M) (_:M.length=R.length) (_:M.length<=1000) (_:(∀ x∈M,x<m)) (_:∀ H',aj H H'->Q .non H')
def uQ (T:Txt K mg):aH P w K mg base CX0 1 T.cY.f T.cY.fd ["part","marks","spokes"] (uJ K):=by
 exists T.cY.ok mh
 ·obtain ⟨v,u,m,R,M,rfl,_⟩:=h;rfl
 obtain ⟨v,u,m,R,M,rfl,hR,hM,hl,h1,mm,q⟩:=h;refine ⟨_,(ae (aQ (ax dM (az (aT K rfl) rfl T.bA Me (paF (pv 1) aa)) (az (aT K rfl) rfl T.bA Me (paF (pv 0) aa)) (aB _)) (af cV) aE)
   (af (aQ (fW (az (oE K rfl rfl) rfl T.CO Qy (paF (dP rfl fh (aY K rfl (pv 1)) (fun _ _ _ _=>⟨(aJ (i:=0) fh.nd rfl (L7 rfl)),b6,(HM (dz eA (pv 0) ag (aB _)) (lV (dz lr (pv 0) (pv 1) (aB _))))⟩)) aa))) (af cV) aE))),?_⟩
 walk_at "3";refine bH (fun c=>absurd hl c) (fun _=>?_);walk_at "3";refine iV (β:=Bool) hM (by omega) (fun i=>Md i false) (fun σ'=>∃ y,σ'=[y,some (.int (m:Int))]) rfl (fun i _=>by simp) ⟨_,rfl⟩ ?_ ?_
 ·rintro i c w' σ' H3 d' R' R0 hc hs hw ⟨y,rfl⟩ hR' hR0 hd';cases (show w'=V.int (c:Int) from hw);have c1:=mm c (LR hc);walk_at "rx";refine aU (fun c=>absurd c (by omega)) (fun _=>?_)
  walk_at "rx";rw [decide_eq_false (show ¬ c >= m by omega)]
  exact hR' _ _ false _ ⟨_,rfl⟩ (aj.refl _) rfl Om
 intro d2 H3 s3 h3;have h3':At K H3 (.ref d2) (Md M.length false):=h3;walk_at "rx";refine C3 h3' ?_;rw [show (Md M.length false).any id=false from Qh.mpr fun x hx=>by rw [OZ hx];decide]
 walk_at "rx";walk_at "8";exact q _ s3
def l9 (T:Txt K mg):aH P w K mg base CX0 4 T.bV.f T.bV.fd ["group","part","marks","spokes"] (l5 T.aI K):=by
 exists T.bV.ok c6
 ·obtain ⟨g,v,u,z,n,e,m,l,t,R,M,rfl,_⟩:=h;rfl
 obtain ⟨g,v,u,z,n,e,m,l,t,R,M,rfl,hG,gt,hR,pt,hM,ml,mm,hz,hl,ml0,m1,m60,q⟩:=h;have n23:=gt.le;have rl:=pt.len;have nd:=bQ pt.srt;have sv:rW n t e z m:=by
  rcases hz with rfl|⟨rfl,rfl⟩
  ·exact .inr ⟨rfl,m1,m60,fun k hk=>by rw [hk.uni hl];exact ml0⟩
  ·exact .inl ⟨rfl,hl⟩
 refine ⟨_,(ae (a7 (aG T.bX (gD T) (hr.mono (by decide)) rfl (paF (pv 0) (paF (pv 1) aa))))
   (ae (av (i:=4) c6.nd rfl (L7 rfl) (aG T.cL (jX T) (hr.mono (by decide)) rfl (paF (pv 0) (paF (pv 3) aa))))
   (ae (a7 (aG T.cY (uQ T) (hr.mono (by decide)) rfl (paF (pv 1) (paF (pv 2) (paF (pv 4) aa)))))
   (ae (av (i:=5) c6.nd rfl (L7 rfl) (j9 K rfl rfl rfl T.sD rfl T.sT (paF (pv 1) (paF (pv 2) aa))))
   (ae (a8 L6 rfl (aY K rfl (pv 1)) (aJ (i:=6) c6.nd rfl (L7 rfl)) (af (a8 L6 rfl (aY K rfl (pv 1)) (aJ (i:=7) c6.nd rfl (L7 rfl)) (af (aQ (ax dM (dQ (eN hr) (pv 5) (aw (ah K rfl) (aw (ah K rfl) (cK K rfl (pv 0) rfl) (pv 6) (fun _ _=>rfl)) (pv 7) (fun _ _=>rfl)) (fun _ _=>rfl)) (au aV (au bj (dQ (eN hr) (pv 5) (pv 6) (fun _ _=>rfl)) (dQ (eN hr) (pv 5) (pv 7) (fun _ _=>rfl))) (pv 4)) (aB _)) (af (aN (t9 (paF (pv 6) (paF (pv 7) aa))))) aE)))))
   (af (aN yu))))))),?_⟩
 walk_at "rn";refine ⟨g,v,n,e,t,R,rfl,hG,gt,hR,pt,fun H1 s1=>?_⟩;walk_at "rn";refine ⟨g,z,n,e,m,t,rfl,aX.mono s1 hG,gt,sv,fun H2 s2=>?_⟩;have s02:=s1.trans s2;walk_at "rn";refine ⟨v,u,m,R,M,rfl,Rep.mono s02 hR,Rep.mono s02 hM,ml,by omega,mm,fun H3 s3=>?_⟩
 have s03:=s02.trans s3;walk_at "rn";refine lH ?_;walk_at "rn";refine BZ (Rep.mono s03 hR) (Rep.mono s03 hM) ml.symm nd fun d hd=>?_;have s04:=s03.trans (ay hd (.dK (d0 R M)));have hd4:upd H3 d (.dK (d0 R M)) d=some (.dK (d0 R M)):=ar;generalize upd H3 d (.dK (d0 R M))=H4 at s04 hd4 ⊢;have hG4:=aX.mono s04 hG;obtain ⟨dx,r4,bk,hg,hT,hB⟩:=hG4.get (K:=K);walk_at "rn";refine dB (Rep.mono s04 hR) (fun j σ' H'=>H'=H4/\(∀ j',j' < j->∀ k,k<R.length->iY t R M m j' k)/\∃ x6 x7,σ'=[some (.ref g),some v,some u,some z,some (.int (m:Int)),some (.ref d),x6,x7]) ⟨rfl,fun j hj=>absurd hj (by omega),_,_,rfl⟩ (fun i σ' H' y=>by rw [y.1];exact aj.refl _) ?_ ?_
 ·rintro j a w' σ' H' ha hw ⟨rfl,hj,x6,x7,rfl⟩;cases (show w'=V.int (a:Int) from hw);have jl:j<R.length:=(LQ.mp ha).1;have haR:=LR ha;have han:=pt.lt a haR;have mi:=getD_some (l:=M) 0 (show j<M.length by omega)
  have ea:R.getD j 0=a:=by rw [LS,ha];rfl
  walk_at "rn";refine dB (Rep.mono s04 hR) (fun k σ' H1=>H1=H'/\(∀ k',k' < k->iY t R M m j k')/\∃ x7,σ'=[some (.ref g),some v,some u,some z,some (.int (m:Int)),some (.ref d),some (.int (a:Int)),x7]) ⟨rfl,fun j hj=>absurd hj (by omega),_,rfl⟩ (fun i σ' H1 y=>by rw [y.1];exact aj.refl _) ?_ ?_
  ·rintro k b w2 σ' H1 hb hw2 ⟨rfl,hk',x7,rfl⟩;cases (show w2=V.int (b:Int) from hw2);have kl:k<R.length:=(LQ.mp hb).1;have hbR:=LR hb;have hbn:=pt.lt b hbR;have mk:=getD_some (l:=M) 0 (show k<M.length by omega)
   have eb:R.getD k 0=b:=by rw [LS,hb];rfl
   have hab:=pt.cl a haR b hbR;have hx:=MZ hab;have mx:=getD_some (l:=M) 0 (show R.idxOf (tb t a b)<M.length by omega)
   have oke:iY t R M m j k↔M.getD (R.idxOf (tb t a b)) 0=(M.getD j 0+M.getD k 0) % m:=by
    unfold iY;rw [ea,eb]
   walk_at "2";refine dR ?_;symm;refine cM hT rfl (gt.get han) fun w1 hw1=>?_;walk_at "rn";refine bN hw1 (gt.dX han hbn) ?_;refine eU hd4 (gN nd (kf hab) mx) ?_;walk_at "rn";refine dR ?_;walk_at "rn";refine eU hd4 (gN nd ha mi) ?_;walk_at "rn";refine dR ?_;walk_at "rn";refine eU hd4 (gN nd hb mk) ?_;walk_at "rn";refine bH (fun y=>?_) (fun y=>?_)
   ·walk_at "7";refine ⟨small (by show 2<=1000;decide),fun p hp=>?_⟩
    exact q _ _ (some (a,b)) (s04.trans (ay hp _)) ⟨p,rfl,ar⟩ ⟨j,k,jl,kl,ea,eb,fun y'=>y (oke.mp y'),hj,hk'⟩
   ·walk_at "rn";refine ⟨rfl,fun k' hk2=>?_,_,rfl⟩;rcases Mu k' k with y' | y'
    ·exact hk' k' y'
    ·have:k'=k:=by omega
     rw [this];exact oke.mpr y
  ·rintro σ' H1 ⟨rfl,hk',x7,rfl⟩;walk_at "rn";refine ⟨rfl,fun j' hj2 k hk=>?_,_,_,rfl⟩;rcases Mu j' j with y|y
   ·exact hj j' y k hk
   ·have:j'=j:=by omega
    rw [this];exact hk' k hk
 ·rintro σ' H' ⟨rfl,hj,x6,x7,rfl⟩;walk_at "rn";exact q _ _ none s04 rfl fun j hj2 k hk=>hj j hj2 k hk
def uF:∀ a b:List Nat,DB a b=fN a b
 | [],[]=>rfl
 | [],_ :: _=>rfl
 | _ :: _,[]=>rfl
 | a :: as,b :: bs=>by
  have ih:=uF as bs;unfold DB at ih ⊢;rw [My,My,cq,fN,ih]
  by_cases c:a=b
  ·rw [if_pos c,if_pos (by rw [c])]
  ·rw [if_neg c,if_neg (by omega),NQ,decide_eq_true_iff,decide_eq_true_iff]
   omega
inductive wH (C:Addr) (K:LN) (vs:List V) (H:Hp) (Q:VK) (E:XK):Prop
 | mk (g:Addr) (v:V) (n e x:Nat) (t:List (List Nat)) (R:List Nat) (_:vs=[.ref g,v,.int (x:Int)]) (_:aX C H g n t e) (_:GT n t e) (_:At K H v R) (_:IsPart n t R) (_:x<n) (_:∀ k H',aj H H'->1<=k->aC t e x k∈R->(∀ i,1<=i->i<k->aC t e x i∉R)->Q (.int (k:Int)) H')
def u7 {n e x:Nat} {t:List (List Nat)} (gt:GT n t e) (hx:x<n) (k:Nat):aC t e x ((k:Int) % (aZ n t e x:Int)).toNat=aC t e x k:=by
 rw [<- rN gt hx k];rfl
def xc (T:Txt K mg):aH P w K mg base CX0 3 T.ik.f T.ik.fd ["group","part","thing"] (wH T.aI K):=by
 exists T.ik.ok jH
 ·obtain ⟨g,v,n,e,x,t,R,rfl,_⟩:=h;rfl
 obtain ⟨g,v,n,e,x,t,R,rfl,hG,gt,hR,pt,hx,q⟩:=h;refine ⟨_,(ae (av (i:=3) jH.nd rfl (L7 rfl) ag)
   (ae (i5 L6 (ax (fO K rfl) (aG T.kh (rV T) (hr.mono (by decide)) rfl (paF (pv 0) (paF (pv 2) (paF (pv 3) aa)))) (pv 1) (by with_unfolding_all rfl)) (af (av (i:=3) jH.nd rfl (L7 rfl) (au bj (pv 3) ag))))
   (af (aN (pv 3))))),?_⟩
 have os:=dF gt hx;have op:=f7 (n:=n) (t:=t) (e:=e) (a:=x);walk_at "rn";refine jc (fun b σ' H'=>aj H H'/\∃ k,1<=k/\k<=aZ n t e x/\b=aZ n t e x - k/\(∀ i,1<=i->i<k->aC t e x i∉R)/\σ'=[some (.ref g),some v,some (.int (x:Int)),some (.int (k:Int))]) (aZ n t e x - 1)
  ⟨aj.refl _,1,Ma _,op,rfl,fun i h1 h2=>absurd h1 (by omega),rfl⟩ ?_
 rintro b σ' H1 ⟨s1,k,k1,k2,rfl,ko,rfl⟩;walk_at "rn";refine ⟨g,n,e,x,(k:Int),t,rfl,aX.mono s1 hG,gt,hx,fun H2 s2=>?_⟩;rw [u7 gt hx k];have s02:=s1.trans s2;walk_at "rn";refine ql (Rep.mono s02 hR) ?_;walk_at "rn";refine bH (fun c=>?_) (fun c=>?_)
 ·have k3:k<aZ n t e x:=by
   rcases Mu k (aZ n t e x) with y|y
   ·exact y
   ·have:k=aZ n t e x:=by omega
    rw [this,os.2.1] at c;exact absurd (pt.un gt) c
  refine ⟨fun σ2 H4=>aj H H4/\σ2=[some (.ref g),some v,some (.int (x:Int)),some (.int ((k+1:Nat):Int))],fun σ2 H4 y=>⟨aZ n t e x - (k+1),by omega,y.1,k+1,by omega,k3,rfl,fun i i1 i2=>?_,y.2⟩,?_⟩
  ·rcases Mu i k with y|y
   ·exact ko i i1 y
   ·have:i=k:=by omega
    rw [this];exact c
  walk_at "rn";exact ⟨s02,rfl⟩
 ·walk_at "rn";exact q k _ s02 k1 c ko
def eS {H H':Hp} {b:Addr} {o:HO} (fb:H b=none) (s:aj H H'):aj H (upd H' b o):=fun a o' z=>by
 rw [aA (aS z fb)];exact s _ _ z
def rM {kvs:List (Key×V)} {k:Key} {v:V} (h:k∉kvs.map (·.1)):putK kvs k v=kvs++[(k,v)]:=by
 unfold putK;rw [if_neg];intro z;obtain ⟨p,hp,e⟩:=PQ.mp z;exact h (Ml.mpr ⟨p,hp,of_decide_eq_true e⟩)
def Hk {kvs:List (Key×V)} {k k':Key} {v:V} (h:k∉kvs.map (·.1)):cO (kvs++[(k,v)]) k'=if k=k' then some v else cO kvs k':=by
 unfold cO;rw [List.find?_append]
 by_cases c:k=k'
 ·subst c;have:kvs.find? (fun kv=>decide (kv.1=k))=none:=List.find?_eq_none.mpr fun p hp z=>h (Ml.mpr ⟨p,hp,of_decide_eq_true z⟩);rw [this,if_pos rfl];simp
 ·rw [if_neg c];have:[(k,v)].find? (fun kv=>decide (kv.1=k'))=none:=by simp [c]
  rw [this,Option.or_none]
def y9 (n:Nat) (t:List (List Nat)) (e:Nat) (R M:List Nat) (x k:Nat) (H:Hp) (kvs:List (Key×V)) (l:List Nat):Prop:=kvs.map (·.1)=l.map nk /\
 ∀ y∈l,∃ q,cO kvs (nk y)=some (.ref q)/\H q=some (.tup [.int (mkO R M (bsO n t e R x k y):Int),.int (ixO n t e R x k y:Int)])
def y9.put {n e x k:Nat} {t:List (List Nat)} {R M:List Nat} {H H':Hp} {kvs:List (Key×V)} {l:List Nat} (h:y9 n t e R M x k H kvs l) {y:Nat} (hy:y∉l) {q:Addr} (hH:∀ a xs,H a=some (.tup xs)->H' a=some (.tup xs)) (hq:H' q=some (.tup [.int (mkO R M (bsO n t e R x k y):Int),.int (ixO n t e R x k y:Int)])) :
  y9 n t e R M x k H' (putK kvs (nk y) (.ref q)) (l++[y]):=by
 have no:nk y∉kvs.map (·.1):=by
  rw [h.1];intro z;obtain ⟨y',h1,h2⟩:=Ml.mp z;exact hy (lT h2 ▸ h1)
 rw [rM no];refine ⟨by rw [M8,h.1,M8];rfl,fun z hz=>?_⟩
 rw [Hk no];rcases Mb.mp hz with c|c
 ·obtain ⟨q',a,b⟩:=h.2 z c;have:¬ nk y=nk z:=fun e=>hy (lT e ▸ c);rw [if_neg this];exact ⟨q',a,hH _ _ b⟩
 ·have:=LY.mp c;subst this;rw [if_pos rfl];exact ⟨q,rfl,hq⟩
inductive AH (C:Addr) (K:LN) (vs:List V) (H:Hp) (Q:VK) (E:XK):Prop
 | mk (g:Addr) (v u:V) (n e x m:Nat) (t:List (List Nat)) (R M:List Nat) (_:vs=[.ref g,v,u,.int (x:Int),.int (m:Int)]) (_:aX C H g n t e) (_:GT n t e) (_:At K H v R) (_:IsPart n t R) (_:At K H u M) (_:IsW t R M m) (_:x<n) (_:m<=60) (_:(∀ k,1<=k->aC t e x k∈R->(∀ i,1<=i->i<k->aC t e x i∉R)->cN n t e R M x m k)) (_:∀ p dg df H' P L,H dg=none->aj H H'->H' p=some (.tup [.ref dg,.ref df])->H' dg=some (.lst (aO P))->Rows H H' df L->Taken n t e R M x m P L->Q (.ref p) H')
def qW (T:Txt K mg):aH P w K mg base CX0 4 T.iw.f T.iw.fd ["group","part","marks","thing","spokes"] (AH T.aI K):=by
 exists T.iw.ok cS
 ·obtain ⟨g,v,u,n,e,x,m,t,R,M,rfl,_⟩:=h;rfl
 obtain ⟨g,v,u,n,e,x,m,t,R,M,rfl,hG,gt,hR,pt,hM,hw,hx,m60,tk,q⟩:=h;obtain ⟨dx,gr,gb,hg,hT,hB⟩:=hG.get (K:=K);have n23:=gt.le;have rl:=pt.len;have ml:=hw.len;have nd:=bQ pt.srt;refine ⟨_,(ae (av (i:=5) cS.nd rfl (L7 rfl) (j9 K rfl rfl rfl T.sD rfl T.sT (paF (pv 1) (paF (pv 2) aa))))
   (ae (av (i:=6) cS.nd rfl (L7 rfl) (aG T.ik (xc T) (hr.mono (by decide)) rfl (paF (pv 0) (paF (pv 1) (paF (pv 3) aa)))))
   (ae (av (i:=7) cS.nd rfl (L7 rfl) (dQ (eN hr) (pv 5) (aG T.kh (rV T) (hr.mono (by decide)) rfl (paF (pv 0) (paF (pv 3) (paF (pv 6) aa)))) (fun _ _=>rfl)))
   (ae (av (i:=8) cS.nd rfl (Qf rfl) Gs)
   (ae (a8 L6 rfl (a9 rfl T.bD (paF (pv 6) aa)) (aJ (i:=9) cS.nd rfl (L7 rfl)) (af (a8 L6 rfl (aY K rfl (pv 1)) (aJ (i:=10) cS.nd rfl (L7 rfl)) (af (Ba (eN hr) (pv 8) (aw (ah K rfl) (aw (ah K rfl) (cK K rfl (pv 0) rfl) (pv 10) (fun _ _=>rfl)) (aG T.kh (rV T) (hr.mono (by decide)) rfl (paF (pv 0) (paF (pv 3) (paF (pv 9) aa)))) (fun _ _=>rfl)) (t9 (paF (dQ (eN hr) (pv 5) (pv 10) (fun _ _=>rfl)) (paF (pv 9) aa))) rfl)))))
   (ae (av (i:=11) cS.nd rfl (L7 rfl) (az (wG rfl) rfl T.jd NX (paF (pv 8) aa)))
   (ae (av (i:=12) cS.nd rfl (L7 rfl) (aW aa))
   (ae (a8 L6 rfl (a9 rfl T.bD (paF (pv 4) aa)) (aJ (i:=13) cS.nd rfl (Qf rfl)) (af (aQ (ax bL (au aV (au bU (pv 6) (pv 13)) (pv 4)) (pv 7) (aB _)) (af (a7 (cJ K rfl Mi MK ML cz (pv 12) (paF (dP rfl oh (aY K rfl (pv 11)) (fun _ _ _ _=>⟨(aJ (i:=0) oh.nd rfl (L7 rfl)),b6,(au aV (au bj (aw (ke K rfl) (dQ (eN hr) (pv 1) (pv 0) (fun _ _=>rfl)) ag (fun _ _=>rfl)) (au bU (aw (ke K rfl) (dQ (eN hr) (pv 1) (pv 0) (fun _ _=>rfl)) ag (fun _ _=>rfl)) (pv 2))) (pv 3))⟩)) aa)))) aE)))
   (af (aN (t9 (paF (pv 11) (paF (az (nY K rfl hr.units) rfl T.jd NX (paF (pv 12) aa)) aa))))))))))))),?_⟩
 walk_at "rn";refine lH ?_;walk_at "rn";refine BZ hR hM ml.symm nd fun d hd=>?_;have s1:=ay hd (.dK (d0 R M));have hd1:upd H d (.dK (d0 R M)) d=some (.dK (d0 R M)):=ar;generalize upd H d (.dK (d0 R M))=H1 at s1 hd1 ⊢;walk_at "rn";refine ⟨g,v,n,e,x,t,R,rfl,aX.mono s1 hG,gt,Rep.mono s1 hR,pt,hx,fun k H2 s2 k1 kin lK=>?_⟩;have T0:=tk k k1 kin lK;have s02:=s1.trans s2;have hd2:=s2 _ _ hd1;have pn:=fun j=>bE gt hx j;have mk0:∀ y∈R,cO (d0 R M) (nk y)=some (.int (mkO R M y:Int)):=fun y hy=>gN nd (kf hy) (getD_some (l:=M) 0 (by rw [ml];exact MZ hy))
 walk_at "rn";refine dR ?_;walk_at "rn";refine ⟨g,n,e,x,(k:Int),t,rfl,aX.mono s02 hG,gt,hx,fun H3 s3=>?_⟩;rw [u7 gt hx k];have s03:=s02.trans s3;have hd3:=s3 _ _ hd2;refine eU hd3 (mk0 _ kin) ?_;walk_at "rn";refine Ke fun do' hdo=>?_;have s34:=ay hdo (.dK []);have w4:(upd H3 do' (.dK [])) do'=some (.dK []):=ar;generalize upd H3 do' (.dK [])=H4 at s34 w4 ⊢;have s04:=s03.trans s34;have hd4:=s34 _ _ hd3;have fo:H do'=none:=s03.free hdo;have dne:d≠do':=dO hd3 hdo;have ll:(lay t e x R k).length<=n:=ei (T0.nd gt) (T0.lt gt);have lk:k * R.length<=23:=by rw [<- uO (t:=t) (e:=e) (x:=x)];omega
 have r1:0<R.length:=M9.mpr pt.ne;have k23:k<=23:=M7 (Qd k r1) lk;have new:∀ {i j h:Nat},i<k->R[j]?=some h->tb t h (aC t e x i)∉lay t e x R i++(R.take j).map (fun h=>tb t h (aC t e x i)):=fun {i j h} hi hj z=>by
  have hh:=LR hj;rcases Mb.mp z with c|c
  ·obtain ⟨i',hi',h',hh',e'⟩:=eQ.mp c;have:=(T0.one gt hh' hh (by omega) hi e').1
   omega
  ·obtain ⟨h',hh',e'⟩:=Ml.mp c;have e2:=(T0.one gt (Py hh') hh hi hi e').2;subst e2;obtain ⟨j',hj'⟩:=Mr hh';rw [List.getElem?_take] at hj'
   split at hj'
   ·have a1:=f6 nd hj;have a2:=f6 nd hj';omega
   ·cases hj'
 walk_at "rn";refine bW (n:=k) rfl (by omega) (fun i σ' H'=>aj H3 H'/\∃ (kvs:List (Key×V)) (x9 x10:Option V),H' do'=some (.dK kvs)/\y9 n t e R M x k H' kvs (lay t e x R i)/\σ'=[some (.ref g),some v,some u,some (.int (x:Int)),some (.int (m:Int)),some (.ref d),some (.int (k:Int)),some (.int (mkO R M (aC t e x k):Int)),some (.ref do'),x9,x10,none,none,none]) ⟨s34,[],_,_,w4,⟨rfl,fun y hy=>absurd hy OG⟩,rfl⟩ ?_ ?_
 ·rintro i σ' H5 hi ⟨s5,kvs,x9,x10,w5,og,rfl⟩;walk_at "rn";refine eZ (H₀:=H3) (α:=Nat) (Rep.mono s03 hR) (fun j σ' H'=>aj H3 H'/\∃ (kvs:List (Key×V)) (x10:Option V),H' do'=some (.dK kvs)/\y9 n t e R M x k H' kvs (lay t e x R i++(R.take j).map fun h=>tb t h (aC t e x i))/\σ'=[some (.ref g),some v,some u,some (.int (x:Int)),some (.int (m:Int)),some (.ref d),some (.int (k:Int)),some (.int (mkO R M (aC t e x k):Int)),some (.ref do'),some (.int (i:Int)),x10,none,none,none]) ⟨s5,kvs,_,w5,by simpa using og,rfl⟩ (fun i σ' H' z=>z.1) ?_ ?_
  ·rintro j h w' σ' H6 hj hw' ⟨s6,kvs,x10,w6,og,rfl⟩;cases (show w'=V.int (h:Int) from hw');have hh:=LR hj;have hn:=pt.lt h hh;have kl:kvs.length<=100000:=by
    have e1:=congrArg QJ og.1;rw [LV,LV,Mq,LV,uO] at e1;have:(R.take j).length<=R.length:=by rw [MF];omega
    have:i * R.length<=k * R.length:=Pz _ (by omega)
    omega
   walk_at "rn";refine BH ?_;walk_at "7";refine dR ?_;walk_at "rn";refine eU (s6 _ _ hd3) (mk0 h hh) ?_;walk_at "rn";refine ⟨small (by show 2<=1000;decide),fun q' hq'=>?_⟩
   have s67:=ay hq' (.tup [.int (mkO R M h:Int),.int (i:Int)]);have w7:(upd H6 q' (.tup [.int (mkO R M h:Int),.int (i:Int)])) q'=some (.tup [.int (mkO R M h:Int),.int (i:Int)]):=ar;generalize upd H6 q' (.tup [.int (mkO R M h:Int),.int (i:Int)])=H7 at s67 w7 ⊢;have s07:=s03.trans (s6.trans s67);walk_at "rn";refine b5 T (s07 _ _ hg) ?_;walk_at "rn";refine cM (Rep.mono s07 hT) rfl (gt.get hn) fun w1 hw1=>?_;walk_at "rn";refine ⟨g,n,e,x,(i:Int),t,rfl,aX.mono s07 hG,gt,hx,fun H8 s8=>?_⟩;rw [u7 gt hx i];refine bN (Rep.mono s8 hw1) (gt.dX hn (pn i)) ?_;have w8:=s8 _ _ (s67 _ _ w6);refine DZ w8 kl ?_;refine ⟨eS hdo (s6.trans (s67.trans s8)),_,_,ar,?_,rfl⟩;have tk1:lay t e x R i++(R.take (j+1)).map (fun h=>tb t h (aC t e x i))=(lay t e x R i++(R.take j).map fun h=>tb t h (aC t e x i))++[tb t h (aC t e x i)]:=by
    rw [MA,hj,M8,Qj];rfl
   rw [tk1];refine og.put (new hi hj) (q:=q') (fun a xs z=>?_) ?_
   ·have:a≠do':=fun e1=>by rw [e1,w6] at z;cases z
    rw [aA this];exact s8 _ _ (s67 _ _ z)
   ·have:q'≠do':=fun e1=>by rw [e1,w6] at hq';cases hq'
    rw [aA this,(T0.org gt hh hi).1,(T0.org gt hh hi).2];exact s8 _ _ w7
  ·rintro σ' H6 ⟨s6,kvs,x10,w6,og,rfl⟩;rw [MJ] at og;walk_at "rn";exact ⟨s6,kvs,_,_,w6,by rw [zu];exact og,rfl⟩
 rintro σ' H5 ⟨s5,kvs,x9,x10,w5,og,rfl⟩;walk_at "rn";refine Ey w5 og.1 (by omega) fun dg Pt hdg hpt hst=>?_
 have s56:=ay hdg (.lst (aO Pt));have w6:(upd H5 dg (.lst (aO Pt))) dg=some (.lst (aO Pt)):=ar;generalize upd H5 dg (.lst (aO Pt))=H6 at s56 w6 ⊢;have s06:=s03.trans (s5.trans s56);have fdg:H dg=none:=(s03.trans s5).free hdg;have pl:Pt.length<=23:=by rw [hpt.length_eq];omega
 have pm:∀ y,y∈Pt↔y∈lay t e x R k:=fun y=>hpt.mem_iff;have ps:Pt.Pairwise (· < ·):=pS (hpt.nodup_iff.mpr (T0.nd gt)) hst;have wo6:=s56 _ _ w5;have og6:∀ y∈Pt,∃ q,cO kvs (nk y)=some (.ref q)/\H6 q=some (.tup [.int (mkO R M (bsO n t e R x k y):Int),.int (ixO n t e R x k y:Int)]):=fun y hy=>by
  obtain ⟨q,a,b⟩:=og.2 y ((pm y).mp hy);exact ⟨q,a,s56 _ _ b⟩
 walk_at "1";refine ⟨small (by show 0<=1000;decide),fun df hdf=>?_⟩
 have s67:=ay hdf (.lst []);have w7:(upd H6 df (.lst [])) df=some (.lst []):=ar;generalize upd H6 df (.lst [])=H7 at s67 w7 ⊢;have m1:=T0.m1
 let pr:Nat->Bool:=fun y=>decide (k * y % m=mkO R M (aC t e x k))
 let row:Nat->List Nat:=fun y=>Pt.map (gY n t e R M x m k y)
 walk_at "rn";refine bW (n:=m) rfl (by omega) (fun i σ' H'=>aj H6 H'/\∃ (x13:Option V),Rows H H' df (((LX i).filter pr).map row)/\σ'=[some (.ref g),some v,some u,some (.int (x:Int)),some (.int (m:Int)),some (.ref d),some (.int (k:Int)),some (.int (mkO R M (aC t e x k):Int)),some (.ref do'),x9,x10,some (.ref dg),some (.ref df),x13]) ⟨s67,_,Rows.nil (s06.free hdf) w7,rfl⟩ ?_ ?_
 ·rintro y σ' H8 hy ⟨s8,x13,rw8,rfl⟩;have kc:((LX y).filter pr).length<=y:=by
   have:=Og pr (LX y);rw [M4] at this;exact this
  walk_at "2";refine aU (fun c=>?_) (fun c=>?_)
  ·have pt1:(LX (y+1)).filter pr=(LX y).filter pr++[y]:=by
    rw [Pm,Q5];have:pr y=true:=decide_eq_true c;simp [List.filter,this]
   obtain ⟨hb1,ps1,hb2,hb3⟩:=id rw8;walk_at "rn";refine ⟨.inl ⟨rfl,_,SqL.of hb2⟩,?_⟩;walk_at "rn";refine oy (β:=Nat) (eI (s8 _ _ w6)) (by omega) (fun i=>(row y).take i) (fun σ'=>∃ z,σ'=[z,some (.ref do'),some (.int (y:Int)),some (.int (m:Int))]) rfl (fun i _=>by rw [MF];omega) ⟨_,rfl⟩ ?_ ?_
   ·rintro i z w' σ' H9 d' R' R0 hz hs hw' ⟨z',rfl⟩ hR' hR0 hd';cases (show w'=V.int (z:Int) from hw');obtain ⟨q1,a1,b1⟩:=og6 z (LR hz);have s69:=s8.trans hs;walk_at "rn";refine dR ?_;walk_at "rn";refine eU (s69 _ _ wo6) a1 ?_;walk_at "rn";refine qi (i:=0) (s69 _ _ b1) rfl ?_;walk_at "rn";refine dR ?_;walk_at "rn";refine eU (s69 _ _ wo6) a1 ?_;walk_at "rn";refine qi (i:=1) (s69 _ _ b1) rfl ?_;walk_at "rn";exact hR' _ _ _ _ ⟨_,rfl⟩ (aj.refl _) rfl (by
     rw [MA];show _++((Pt.map (gY n t e R M x m k y))[i]?).toList=_;rw [Mn,hz];rfl)
   intro dr H9 hdr s9 h9;have g9:Gr K H9 dr ((row y).take Pt.length):=h9;rw [MT (by show (Pt.map _).length<=_;simp)] at g9
   have rw9:=rw8.mono s9;walk_at "rn";refine Ag rw9 (by rw [LV];omega) ((s06.trans s8).free hdr) (dO hb2 hdr).symm (jB g9) fun H10 rw10 k10=>?_
   refine ⟨fun a o z=>?_,_,?_,rfl⟩
   ·have ha:a≠df:=dO z hdf;exact k10 a o ha (s9 _ _ (s8 _ _ z))
   ·rw [pt1,M8];exact rw10
  ·have pt1:(LX (y+1)).filter pr=(LX y).filter pr:=by
    rw [Pm,Q5];have:pr y=false:=decide_eq_false c;simp [List.filter,this]
   walk_at "rn";exact ⟨s8,_,by rw [pt1];exact rw8,rfl⟩
 rintro σ' H8 ⟨s8,x13,rw8,rfl⟩;have s08:=s06.trans s8;have fl:(((LX m).filter pr).map row).length<64:=by
  have:=Og pr (LX m);rw [M4] at this;rw [LV];omega
 walk_at "7";refine tq s08 rw8 fl fun d' L H9 hd' s9 hpm hso rw9=>?_;walk_at "rn";refine ⟨small (by show 2<=1000;decide),fun p hp=>?_⟩
 have s910:=ay hp (.tup [.ref dg,.ref d']);refine q p dg d' _ Pt L fdg (s08.trans (s9.trans s910)) ar (s910 _ _ (s9 _ _ (s8 _ _ w6))) (rw9.mono s910) (T0.taken gt ps pm hpm (hso.imp fun z=>?_));rw [<- uF];exact z
def FQ {H:Hp} {σ:St} {g:TG} {t:TS} {D:Ends} {p:Addr} {xs:List V} (Pv:Nat->St->Hp->Prop) (h0:Pv 0 σ H) (hl:∀ i σ' H',Pv i σ' H'->SqL K H' p xs)
  (hs:∀ i x σ' H',xs[i]?=some x->Pv i σ' H'->g x σ' H' fun σ2 H2=>t { D with nx:=Pv (i+1),ct:=Pv (i+1),bk:=D.nx } σ2 H2) (hd:∀ σ' H',Pv xs.length σ' H'->D.nx σ' H') :
  pP K (.ref p) H (lA g t D σ) :=
 ⟨p,rfl,⟨xs,hl 0 σ H h0⟩,rP (K:=K) (a:=p) (xs:=xs) Pv h0 (fun i σ' H' _ q=>hl i σ' H' q) hs hd⟩
def Paired.G1 {α β:Type} {F:α->β->Prop}:∀ {l:List α} {m:List β},Nl F l m->∀ {i:Nat} {a:α} {b:β},l[i]?=some a->m[i]?=some b->F a b
 | _,_,.nil,i,a,b,h,_=>by simp at h
 | _,_,.cons r t,0,a,b,h,h'=>by
  simp at h h';subst h;subst h';exact r
 | _,_,.cons r t,i+1,a,b,h,h'=>Paired.G1 t (by simpa using h) (by simpa using h')
inductive EZ (K:LN) (vs:List V) (H:Hp) (Q:VK) (E:XK):Prop
 | mk (p:Addr) (H0:Hp) (as:List Addr) (Ls:List (List (List Nat))) (_:vs=[.ref p]) (_:aj H0 H) (_:SqL K H p (as.map V.ref)) (_:Nl (fun a L=>Rows H0 H a L) as Ls) (_:(∀ L∈Ls,∀ r∈L,r≠[])) (_:Ls.flatten.length<=1000) (_:∀ d H',aj H H'->Rows H0 H' d Ls.flatten->Q (.ref d) H')
def Fj (T:Txt K mg):aH P w K mg base CX0 1 T.mR.f T.mR.fd ["lists"] (EZ K):=by
 exists T.mR.ok ot
 ·obtain ⟨p,H0,as,Ls,rfl,_⟩:=h;rfl
 obtain ⟨p,H0,as,Ls,rfl,s0,hp,hP,hne,hl,q⟩:=h;refine ⟨_,(ae (av (i:=1) ot.nd rfl (L7 rfl) (aW aa))
   (ae (a8 L6 rfl (aY K rfl (pv 0)) (aJ (i:=2) ot.nd rfl (L7 rfl)) (af (a7 (cJ K rfl Mi PySem.F.slot_list_extend PySem.F.type_list_extend DK (pv 1) (paF (pv 2) aa)))))
   (af (aN (pv 1))))),?_⟩
 walk_at "1";refine ⟨small (by show 0<=1000;decide),fun d hd=>?_⟩
 have s1:=ay hd (.lst []);have w1:(upd H d (.lst [])) d=some (.lst []):=ar;generalize upd H d (.lst [])=H1 at s1 w1 ⊢;walk_at "rn";refine FQ (K:=K) (xs:=as.map V.ref) (fun i σ' H'=>aj H H'/\∃ x2:Option V,Rows H0 H' d (Ls.take i).flatten/\σ'=[some (.ref p),some (.ref d),x2]) ⟨s1,_,by rw [List.take_zero];exact Rows.nil (s0.free hd) w1,rfl⟩ (fun i σ' H' z=>z.1.seq hp) ?_ ?_
 ·rintro i x σ' H2 hx ⟨s2,x2,rw2,rfl⟩;rw [Mn] at hx;obtain ⟨a,ha,rfl⟩:=O7.mp hx;obtain ⟨L,hL,ra⟩:=Paired.getL hP ha;have hLm:=LR hL;have tk:(Ls.take (i+1)).flatten=(Ls.take i).flatten++L:=by
   rw [MA,hL,Th];simp
  have len:((Ls.take i).flatten++L).length<=1000:=by
   rw [<- tk];have:(Ls.take (i+1)).flatten.length+(Ls.drop (i+1)).flatten.length=Ls.flatten.length:=by
    rw [<- Mq,<- Th,Pe]
   omega
  obtain ⟨hb1,ps1,hb2,hb3⟩:=id rw2;walk_at "rn";refine ⟨.inl ⟨rfl,_,SqL.of hb2⟩,?_⟩;walk_at "rn";refine AV rw2 (ra.mono s2) (hne L hLm) (by rw [Mq] at len;omega) fun H3 rw3 k3=>?_
  exact ⟨fun b o z=>k3 b o (dO z hd) (s2 _ _ z),_,by rw [tk];exact rw3,rfl⟩
 ·rintro σ' H2 ⟨s2,x2,rw2,rfl⟩;rw [LV,hP.length,MJ] at rw2;walk_at "rn";exact q d H2 s2 rw2
def uL (n:Nat) (t:List (List Nat)) (e:Nat) (R:List Nat) (x m:Nat) (H0 H:Hp) (y:V) (M:List Nat):Prop:=∃ (p dg df:Addr) (Pt:List Nat) (L:List (List Nat)),y=.ref p/\H p=some (.tup [.ref dg,.ref df])/\H dg=some (.lst (aO Pt))/\Rows H0 H df L/\Taken n t e R M x m Pt L
def uL.mono {n e x m:Nat} {t:List (List Nat)} {R M:List Nat} {H0 H H':Hp} {y:V} (s:aj H H') (h:uL n t e R x m H0 H y M):uL n t e R x m H0 H' y M:=by
 obtain ⟨p,dg,df,Pt,L,a,b,c,d,f⟩:=h;exact ⟨p,dg,df,Pt,L,a,s _ _ b,s _ _ c,d.mono s,f⟩
def yI {n e x m:Nat} {t:List (List Nat)} {R:List Nat} {H0 H:Hp}:∀ {ys:List V} {F:List (List Nat)},Nl (fun y M=>uL n t e R x m H0 H y M) ys F->∃ (dfs:List Addr) (Ls:List (List (List Nat))),Nl (fun y a=>∃ p dg,y=.ref p/\H p=some (.tup [.ref dg,.ref a])) ys dfs/\Nl (fun a L=>Rows H0 H a L) dfs Ls/\Nl (fun M L=>∃ Pt,Taken n t e R M x m Pt L) F Ls
 | _,_,.nil=>⟨[],[],.nil,.nil,.nil⟩
 | _,_,.cons r h=>by
  obtain ⟨dfs,Ls,a,b,c⟩:=yI h;obtain ⟨p,dg,df,Pt,L,r1,r2,r3,r4,r5⟩:=r;exact ⟨df :: dfs,L :: Ls,.cons ⟨p,dg,r1,r2⟩ a,.cons r4 b,.cons ⟨Pt,r5⟩ c⟩
def DT {n e l m:Nat} {t:List (List Nat)} (gt:GT n t e) (hl:cX (cu n t e) l) (h:m % l=0) {x:Nat} (hx:x<n):aC t e x m=e:=by
 obtain ⟨c,rfl⟩:=Np h;have ho:l % aZ n t e x=0:=hl.all _ (Ml.mpr ⟨x,L9.mpr hx,rfl⟩);obtain ⟨d,rfl⟩:=Np ho;rw [Qb];exact i4 gt hx (dF gt hx).2.1 _
def Lf (k:Nat):(Md k [V.int ((0:Nat):Int)]).flatten=aO (Md k 0):=by
 unfold aO
 induction k with
 | zero=>rfl
 | succ k ih=>rw [NC,Oz,ih,NC];rfl
inductive BF (C:Addr) (K:LN) (vs:List V) (H:Hp) (Q:VK) (E:XK):Prop
 | mk (g:Addr) (v z:V) (n e m l:Nat) (t:List (List Nat)) (S:List Nat) (_:vs=[.ref g,v,z]) (_:aX C H g n t e) (_:GT n t e) (_:At K H v S) (_:IsPart n t S) (_:(z=.int (m:Int)\/(z=.non/\m=l))) (_:cX (cu n t e) l) (_:m % l=0) (_:0<m) (_:m<=60) (_:∀ d H' D L,aj H H'->Rows H H' d L->Gen n t e (iD n t e S) D->KS t D S m L->Q (.ref d) H')
def Jf (T:Txt K mg):aH P w K mg base CX0 6 T.iI.f T.iI.fd ["group","part","spokes"] (BF T.aI K):=by
 exists T.iI.ok fD
 ·obtain ⟨g,v,z,n,e,m,l,t,S,rfl,_⟩:=h;rfl
 obtain ⟨g,v,z,n,e,m,l,t,S,rfl,hG,gt,hS,pt,hz,hl,ml0,m1,m60,q⟩:=h;have n23:=gt.le;have sv:rW n t e z m:=by
  rcases hz with rfl|⟨rfl,rfl⟩
  ·exact .inr ⟨rfl,m1,m60,fun k hk=>by rw [hk.uni hl];exact ml0⟩
  ·exact .inl ⟨rfl,hl⟩
 refine ⟨_,(ae (a7 (aG T.bX (gD T) (hr.mono (by decide)) rfl (paF (pv 0) (paF (pv 1) aa))))
   (ae (av (i:=3) fD.nd rfl (Qf rfl) (aG T.cL (jX T) (hr.mono (by decide)) rfl (paF (pv 0) (paF (pv 2) aa))))
   (ae (av (i:=4) fD.nd rfl (Qf rfl) (aG T.qe (Hf T) (hr.mono (by decide)) rfl (paF (pv 0) (paF (pv 1) aa))))
   (ae (av (i:=5) fD.nd rfl (L7 rfl) (aW (paF (au Fq (aW (paF ag aa)) (az (aT K rfl) rfl T.bA Me (paF (pv 4) aa))) aa)))
   (ae (a8 L6 rfl (aY K rfl (pv 1)) (aJ (i:=6) fD.nd rfl (Qf rfl)) (af (aQ (ax (fO K rfl) (pv 6) (pv 4) (by with_unfolding_all rfl)) (ae (dJ (i:=7) rfl fD.nd rfl (L7 rfl) vp (aY K rfl (pv 5)) (fun _ _ _ _=>⟨(aJ (i:=0) vp.nd rfl (L7 rfl)),b6,(aG T.iw (qW T) (hr.mono (by decide)) rfl (paF (pv 1) (paF (pv 3) (paF (pv 0) (paF (pv 4) (paF (pv 2) aa))))))⟩) rfl)
   (ae (av (i:=4) fD.nd rfl (Qf rfl) (aw (ke K rfl) (aw (ah K rfl) (pv 7) ag (fun _ _=>rfl)) ag (fun _ _=>rfl)))
   (af (av (i:=5) fD.nd rfl (L7 rfl) (aG T.mR (Fj T) (hr.mono (by decide)) rfl (paF (dP rfl vV (aY K rfl (pv 7)) (fun _ _ _ _=>⟨(D1 K rfl (i:=0) (j:=1) rfl vV.nd rfl (L7 rfl) rfl (L7 rfl)),b6,(pv 1)⟩)) aa)))))) aE)))
   (af (aN (az (nY K rfl hr.units) rfl T.jd NX (paF (pv 5) aa))))))))),?_⟩
 walk_at "rn";refine ⟨g,v,n,e,t,S,rfl,hG,gt,hS,pt,fun H1 s1=>?_⟩;walk_at "rn";refine ⟨g,z,n,e,m,t,rfl,aX.mono s1 hG,gt,sv,fun H2 s2=>?_⟩;have s02:=s1.trans s2;walk_at "rn";refine ⟨g,v,n,e,t,S,rfl,aX.mono s02 hG,gt,Rep.mono s02 hS,pt,fun dr H3 D fdr s3 g3 G=>?_⟩;have s03:=s02.trans s3;have I0:=ff.start gt pt G m1;have dl:=I0.pt.len;walk_at "1";refine bo ?_;walk_at "rn";refine ⟨small (by show 1<=1000;decide),fun p1 hp1=>?_⟩
 have s34:=ay hp1 (.lst [.int ((0:Nat):Int)]);have w4:(upd H3 p1 (.lst [.int ((0:Nat):Int)])) p1=some (.lst [.int ((0:Nat):Int)]):=ar;generalize upd H3 p1 (.lst [.int ((0:Nat):Int)])=H4 at s34 w4 ⊢;walk_at "rn";refine cy (eI (s34 _ _ (jB g3))) ?_;refine ⟨p1,_,_,rfl,rfl,w4,by omega,by omega,?_,fun p2 hp2=>?_⟩
 ·rw [MW];show 1 * _<=_;omega
 rw [show ((D.length:Nat):Int).toNat=D.length from rfl,Lf];have s45:=ay hp2 (.lst (aO (Md D.length 0)));have w5:(upd H4 p2 (.lst (aO (Md D.length 0)))) p2=some (.lst (aO (Md D.length 0))):=ar;generalize upd H4 p2 (.lst (aO (Md D.length 0)))=H5 at s45 w5 ⊢;walk_at "rn";refine ⟨small (by show 1<=1000;decide),fun df hdf=>?_⟩
 have s56:=ay hdf (.lst [.ref p2]);have w6:(upd H5 df (.lst [.ref p2])) df=some (.lst [.ref p2]):=ar;generalize upd H5 df (.lst [.ref p2])=H6 at s56 w6 ⊢;have s04:=s03.trans s34;have s05:=s04.trans s45;have s06:=s05.trans s56;have rw6:Rows H H6 df [Md D.length 0]:=⟨s05.free hdf,[p2],w6,.cons ⟨s04.free hp2,dO w5 hdf,s56 _ _ w5⟩ .nil⟩;have hr6:=(s34.trans (s45.trans s56)) _ _ (jB g3);walk_at "rn";refine eZ (H₀:=H) (α:=Nat) hS (fun i σ' H'=>aj H H'/\∃ (R:List Nat) (F:List (List Nat)) (dr df:Addr) (x6 x7:Option V),H' dr=some (.lst (aO R))/\Rows H H' df F/\ff n t e D S m R F/\(∀ y∈S.take i,y∈R)/\σ'=[some (.ref g),some v,some z,some (.int (m:Int)),some (.ref dr),some (.ref df),x6,x7]) ⟨s06,D,_,dr,df,_,_,hr6,rw6,I0,fun y hy=>absurd hy (by simp),rfl⟩ (fun i σ' H' z=>z.1) ?_ ?_
 ·rintro i x w' σ' H7 hx hw' ⟨s7,R,F,dr,df,x6,x7,hr7,rw7,I,tk,rfl⟩;cases (show w'=V.int (x:Int) from hw');have hxS:=LR hx;have hxn:=pt.lt x hxS;have tk1:∀ R':List Nat,(∀ y∈R,y∈R')->x∈R'->∀ y∈S.take (i+1),y∈R':=fun R' h1 h2 y hy=>by
   rw [MA,hx] at hy;rcases Mb.mp hy with c|c
   ·exact h1 y (tk y c)
   ·rw [show y=x by simpa using c];exact h2
  walk_at "2";refine ql (eI hr7) ?_;walk_at "rn";refine bH (fun c=>?_) (fun c=>?_)
  ·have fF:=I.few;have f0:=I.some;have rl:=I.pt.len;obtain ⟨hb1,ps1,hb2,hb3⟩:=id rw7;have pl:=hb3.length;walk_at "rn";refine pA (K:=K) (p:=df) (xs:=ps1.map V.ref) (by rw [LV];omega) (fun d i σ' H' ys=>aj H7 H'/\Nl (fun y M=>uL n t e R x m H (del H' d) y M) ys (F.take i)/\∃ y0,σ'=[y0,some (.ref g),some (.int (m:Int)),some (.ref dr),some (.int (x:Int))]) (fun d i σ' H' ys z=>z.1.seq (SqL.of hb2)) (SqL.of hb2)
    (fun d i σ' H' ys _ z=>by rw [z.2.1.length,MF];omega) (fun d hd=>⟨ay hd _,.nil,_,rfl⟩) ?_ ?_
   ·rintro d j y σ' H8 ys Rk R0 hd hy ⟨s8,pr,y0,rfl⟩ hd8 hR hR0;rw [Mn] at hy;obtain ⟨pa,hpa,rfl⟩:=O7.mp hy;obtain ⟨M,hM,ra⟩:=Paired.getL hb3 hpa;have hMF:=LR hM;have s08:=s7.trans s8;walk_at "rn";refine ⟨g,_,_,n,e,x,m,t,R,M,rfl,aX.mono s08 hG,gt,eI (s8 _ _ hr7),I.pt,eI (s8 _ _ ra.2.2),((I.mem M).mp hMF).1,hxn,m60,fun k k1 kin lK=>I.on gt pt G hxS hMF k1 kin lK m1 (DT gt hl ml0 hxn),fun p dg df' H9 Pt L fdg s9 hp9 hg9 rw9 Tk=>?_⟩;refine hR _ _ _ (s9 _ _ hd8) ⟨?_,?_,_,rfl⟩
    ·intro a o z;rw [aA (aS z hd)];exact s9 _ _ (s8 _ _ z)
    ·rw [MA,hM];have sd:aj (del H8 d) (del (upd H9 d (.lst (ys++[.ref p]))) d):=(kN s9).trans gZ;refine Paired.app (Paired.cb pr fun _ _ z=>z.mono sd) (.cons ?_ .nil);have dn:∀ {a:Addr} {o:HO},a≠d->H9 a=some o->(del (upd H9 d (.lst (ys++[.ref p]))) d) a=some o:=fun ha z=>by rw [eB ha,aA ha];exact z
     have pd:p≠d:=fun q=>by rw [q,s9 _ _ hd8] at hp9;cases hp9
     obtain ⟨c1,ps2,c2,c3⟩:=rw9;exact ⟨p,dg,df',Pt,L,rfl,dn pd hp9,dn (dO hd8 fdg).symm hg9,⟨s08.free c1,ps2,dn (dO hd8 c1).symm c2,Paired.cb c3 fun _ _ z=>⟨s08.free z.1,z.2.1,dn (dO hd8 z.1).symm z.2.2⟩⟩,Tk⟩
   intro dt σ' H8 ys hdt hd8 ⟨s8,pr,_⟩;rw [LV,pl,MJ] at pr;have pr8:=Paired.cb pr fun _ _ z=>uL.mono ky z;have yl:=pr8.length;obtain ⟨dfs,Ls,b1,b2,b3⟩:=yI pr8;obtain ⟨M0,hM0⟩:∃ M0,F[0]?=some M0:=⟨F[0],LO f0⟩;obtain ⟨y0,hy0⟩:∃ y0,ys[0]?=some y0:=⟨ys[0],LO (by omega)⟩
   obtain ⟨p0,dg0,df0,Pt,L0,e0,e1,e2,e3,e4⟩:=Paired.G1 pr8 hy0 hM0;subst e0;have hT:∀ (i:Nat) (M:List Nat) (L:List (List Nat)),F[i]?=some M->Ls[i]?=some L->Taken n t e R M x m Pt L:=fun i M L h1 h2=>by
    obtain ⟨Pt',T'⟩:=Paired.G1 b3 h1 h2;rw [T'.gen.uni e4.gen fun _=>Iff.rfl] at T';exact T'
   have I':=I.step gt pt hxS b3.length.symm hT;have hSn:∀ s∈R++[x],s<n:=fun s hs=>by
    rcases Mb.mp hs with c|c
    ·exact I.pt.lt s c
    ·rw [LY.mp c];exact hxn
   have sub:∀ h∈R,h∈Pt:=fun h hh=>e4.gen.has gt (Mb.mpr (.inl hh)) (I.pt.lt h hh);have xP:x∈Pt:=e4.gen.has gt (Mb.mpr (.inr L8)) hxn;have s08:=s7.trans s8;walk_at "rn";refine ⟨dt,_,_,_,rfl,rfl,SqL.of hd8,f9 (j:=0) hy0,?_⟩;walk_at "rn";refine qi (i:=0) e1 rfl ?_;walk_at "rn";refine pA (K:=K) (p:=dt) (xs:=ys) (by omega) (fun d i σ' H' zs=>aj H8 H'/\zs=(dfs.take i).map V.ref/\∃ a b,σ'=[a,b]) (fun d i σ' H' ys z=>z.1.seq (SqL.of hd8)) (SqL.of hd8)
    (fun d i σ' H' zs _ z=>by rw [z.2.1,LV,MF];omega) (fun d hd=>⟨ay hd _,rfl,_,_,rfl⟩) ?_ ?_
   ·rintro d j y σ' H9 zs Rk R0 hd hy ⟨s9,rfl,a,b,rfl⟩ hd9 hR hR0;obtain ⟨da,hda,p,dg,rfl,hpp⟩:=Paired.getL b1 hy;refine ⟨p,_,rfl,SqT.of (s9 _ _ hpp),rfl,?_⟩;refine SG _ (SG _ (And.intro rfl (SG _ (SG _ (And.intro rfl (And.intro rfl ?_))))));walk_at "rn";refine hR _ _ _ hd9 ⟨fun a' o z'=>?_,?_,_,_,rfl⟩
    ·rw [aA (aS z' hd)];exact s9 _ _ z'
    ·rw [MA,hda,M8];rfl
   intro dj σ' H9 zs hdj hd9 ⟨s9,ez,_⟩;subst ez;rw [b1.length,MJ] at hd9;walk_at "rn";have i'l:=I'.few;refine ⟨dj,H,dfs,Ls,rfl,s08.trans s9,SqL.of hd9,Paired.cb b2 fun _ _ z=>z.mono s9,fun L hL r hr=>?_,by omega,fun d' H10 s10 rw10=>?_⟩
   ·obtain ⟨i',hi'⟩:=Mr hL;have il:i' < F.length:=by rw [b3.length];exact (LQ.mp hi').1
    have w1:=((hT i' _ L (LO il) hi').mem r).mp hr;intro er;have:=w1.1.len;rw [er] at this;exact List.ne_nil_of_mem xP (O3.mp this.symm)
   walk_at "rn";exact ⟨s08.trans (s9.trans s10),Pt,_,dg0,d',_,_,s10 _ _ (s9 _ _ e2),rw10,I',tk1 Pt sub xP,rfl⟩
  ·walk_at "rn";exact ⟨s7,R,F,dr,df,_,_,hr7,rw7,I,tk1 R (fun _ h=>h) c,rfl⟩
 rintro σ' H7 ⟨s7,R,F,dr,df,x6,x7,hr7,rw7,I,tk,rfl⟩;rw [MJ] at tk;have fF:=I.few;walk_at "rn";refine tq s7 rw7 (by omega) fun d' L H8 hd' s8 hpm hso rw8=>?_
 refine q d' H8 D L (s7.trans s8) rw8 G (I.fin gt pt G tk hpm (hso.imp fun z=>?_));rw [<- uF];exact z
def gJ (n:Nat) (t:List (List Nat)) (L:List Int):Prop:=∃ R:List Nat,L=R.map (fun (x:Nat)=>(x:Int))/\IsPart n t R
def oR {α β γ:Type} {F:α->γ->Prop} {f:β->γ}:∀ {xs:List α} {l:List β},Nl F xs (l.map f)->Nl (fun x r=>F x (f r)) xs l
 | xs,[],h=>by
  cases xs with
  | nil=>exact .nil
  | cons x r=>cases h
 | xs,b :: l,h=>by
  cases xs with
  | nil=>cases h
  | cons x r =>
   cases h with
   | cons r1 t1=>exact .cons r1 (oR t1)
def dU {H:Hp} {v:V} {R:List Nat} (h:At K H v (R.map fun (x:Nat)=>(x:Int))):At K H v R:=by
 obtain ⟨p,xs,e,hS,hp⟩:=h;exact ⟨p,xs,e,hS,Paired.cb (oR (F:=fun (x:V) (i:Int)=>Rep.is K H x i) (f:=fun (n:Nat)=>(n:Int)) hp) fun _ _ z=>z⟩
def qm:∀ {L:List Int},(∀ x∈L,0<=x)->∃ R:List Nat,L=R.map fun (x:Nat)=>(x:Int)
 | [],_=>⟨[],rfl⟩
 | x :: L,h=>by
  obtain ⟨R,e⟩:=qm (L:=L) fun y hy=>h y (L4 _ hy);exact ⟨x.toNat :: R,by rw [My,<- e,Tf (h x L8)]⟩
def yM:∀ {a b:List Nat},a.map (fun (x:Nat)=>(x:Int))=b.map (fun (x:Nat)=>(x:Int))->a=b
 | [],[],_=>rfl
 | [],_ :: _,h=>by cases h
 | _ :: _,[],h=>by cases h
 | x :: a,y :: b,h=>by
  rw [My,My] at h;injection h with h1 h2;rw [yM h2,RH h1]
def getD_get {L:List Int} {i:Nat} (h:i<L.length):L.getD i 0=L[i]:=by rw [LS,LO h];rfl
def oC {L:List Int}:L.Pairwise (· < ·)↔∀ i,i+1<L.length->L.getD i 0<L.getD (i+1) 0:=by
 constructor
 ·intro h i hi;have:=(Mw.mp h) i (i+1) (by omega) hi (by omega)
  rw [getD_get (by omega),getD_get hi]
  exact this
 ·intro h;have all:∀ k i,i+k+1<L.length->L.getD i 0<L.getD (i+k+1) 0:=by
   intro k
   induction k with
   | zero=>exact fun i hi=>h i hi
   | succ k ih =>
    intro i hi;have a:=ih i (by omega)
    have b:=h (i+k+1) hi;exact Int.lt_trans a b
  refine Mw.mpr fun i j hi hj hij=>?_;have:=all (j - i - 1) i (by omega)
  rw [show i+(j - i - 1)+1=j by omega,getD_get hi,getD_get hj] at this
  exact this
def uy (C:Addr) (K:LN):Sp:=fun vs H Q _=>∃ (g:Addr) (v:V) (n e:Nat) (t:List (List Nat)) (L:List Int),vs=[.ref g,v]/\aX C H g n t e/\GT n t e/\At K H v L/\L.length<=64 /\
 ((∀ x∈L,0<=x/\x<(n:Int))->∀ H',aj H H'->Q (.bl true) H')/\(¬ (∀ x∈L,0<=x/\x<(n:Int))->∀ H',aj H H'->Q (.bl false) H')
def uP (T:Txt K mg):aH P w K mg base CX0 1 T.dv.f T.dv.fd ["group","some"] (uy T.aI K):=by
 exists T.dv.ok nR
 ·obtain ⟨g,v,n,e,t,L,rfl,_⟩:=h;rfl
 obtain ⟨g,v,n,e,t,L,rfl,hG,gt,hL,hlen,q1,q2⟩:=h;obtain ⟨dx,r,bk,hg,hT,hB⟩:=hG.get (K:=K);refine ⟨_,(af (aN (az (lj K rfl rfl) rfl T.xJ Pn (paF (dP rfl fL (aY K rfl (pv 1)) (fun _ _ _ _=>⟨(aJ (i:=0) fL.nd rfl (L7 rfl)),b6,(jx (dz lr (pv 0) ag (aB _)) (lV (dz eA (pv 0) (cK K rfl (pv 1) rfl) (aB _))))⟩)) aa)))),?_⟩;symm;refine iV (α:=Int) (β:=Bool) hL (by omega) (fun i=>(L.take i).map fun x=>decide (0<=x/\x<(n:Int))) (fun σ'=>∃ y,σ'=[y,some (.ref g)]) rfl (fun i hi=>by rw [LV,MF];omega) ⟨_,rfl⟩ ?_ ?_
 ·rintro i c w' σ' H3 d' R' R0 hc hs hw ⟨y,rfl⟩ hR' hR0 hd';cases (show w'=V.int c from hw);have hg3:=hs _ _ hg;have e1:((L.take (i+1)).map fun x=>decide (0<=x/\x<(n:Int)))=((L.take i).map fun x=>decide (0<=x/\x<(n:Int)))++[decide (0<=c/\c<(n:Int))]:=by
   rw [MA,hc,M8];rfl
  symm;refine aU (fun z=>?_) (fun z=>?_)
  ·symm;have e2:decide (0<=c/\c<(n:Int))=decide (c<(n:Int)):=decide_eq_decide.mpr ⟨fun y=>y.2,fun y=>⟨z,y⟩⟩;rw [e2] at e1;exact hR' _ _ (decide (c<(n:Int))) _ ⟨_,rfl⟩ (aj.refl _) rfl e1
  ·have e2:decide (0<=c/\c<(n:Int))=false:=decide_eq_false fun y=>z y.1;rw [e2] at e1;exact hR' _ _ false _ ⟨_,rfl⟩ (aj.refl _) rfl e1
 intro d2 H3 s3 h3;symm;refine uf h3 ?_;rw [MJ]
 by_cases ha:∀ x∈L,0<=x/\x<(n:Int)
 ·rw [show (L.map fun x=>decide (0<=x/\x<(n:Int))).all id=true by
   rw [Mz];intro y hy;obtain ⟨x,hx,rfl⟩:=Ml.mp hy;exact decide_eq_true (ha x hx)]
  exact q1 ha H3 s3
 ·rw [show (L.map fun x=>decide (0<=x/\x<(n:Int))).all id=false by
   rw [List.all_eq_false];obtain ⟨x,hx⟩:=PB.mp ha;obtain ⟨hx,hn⟩:=Qq.mp hx;exact ⟨_,Ml.mpr ⟨x,hx,rfl⟩,by rw [decide_eq_false hn];decide⟩]
  exact q2 ha H3 s3
def Fo (K:LN):Sp:=fun vs H Q _=>∃ (v:V) (L:List Int),vs=[v]/\At K H v L/\L≠[]/\L.length<=64/\(L.Pairwise (· < ·)->∀ H',aj H H'->Q (.bl true) H')/\(¬ L.Pairwise (· < ·)->∀ H',aj H H'->Q (.bl false) H')
def Es (T:Txt K mg):aH P w K mg base CX0 1 T.g0.f T.g0.fd ["some"] (Fo K):=by
 exists T.g0.ok yU
 ·obtain ⟨v,L,rfl,_⟩:=h;rfl
 obtain ⟨v,L,rfl,hL,ne,hlen,q1,q2⟩:=h;have l0:0<L.length:=M9.mpr ne;refine ⟨_,(af (aN (az (lj K rfl rfl) rfl T.xJ Pn (paF (dP rfl j8 (a9 rfl T.bD (paF (au fP (az (aT K rfl) rfl T.bA Me (paF (pv 0) aa)) ag) aa)) (fun _ _ _ _=>⟨(aJ (i:=0) j8.nd rfl (L7 rfl)),b6,(dz eA (aw (ah K rfl) (pv 1) (pv 0) (fun _ _=>rfl)) (aw (ah K rfl) (pv 1) (au bj (pv 0) ag) (fun _ _=>rfl)) (aB _))⟩)) aa)))),?_⟩;symm;refine jv K (n:=L.length - 1) (β:=Bool) (by omega) (by omega) (fun i=>(LX i).map fun j=>decide (L.getD j 0<L.getD (j+1) 0)) (fun σ'=>∃ y,σ'=[y,some v]) rfl (fun i hi=>by rw [LV,M4];omega) ⟨_,rfl⟩ ?_ ?_
 ·rintro i σ' H3 d' R' R0 hi hs ⟨y,rfl⟩ hR' hR0 hd';have hL3:=Rep.mono hs hL;symm;refine jR (n:=i) hL3 rfl (getD_some 0 (by omega)) ?_
  symm;refine jR (n:=i+1) hL3 (by omega) (getD_some 0 (by omega)) ?_
  symm;exact hR' _ _ (decide (L.getD i 0<L.getD (i+1) 0)) _ ⟨_,rfl⟩ (aj.refl _) rfl (by rw [Pm,M8];rfl)
 intro d2 H3 s3 h3;symm;refine uf h3 ?_
 by_cases ha:L.Pairwise (· < ·)
 ·rw [show ((LX (L.length - 1)).map fun j=>decide (L.getD j 0<L.getD (j+1) 0)).all id=true by
   rw [Mz];intro y hy;obtain ⟨x,hx,rfl⟩:=Ml.mp hy;exact decide_eq_true (oC.mp ha x (by have:=L9.mp hx;omega))]
  exact q1 ha H3 s3
 ·rw [show ((LX (L.length - 1)).map fun j=>decide (L.getD j 0<L.getD (j+1) 0)).all id=false by
   rw [List.all_eq_false];obtain ⟨x,hx⟩:=PB.mp (fun y=>ha (oC.mpr y));obtain ⟨hx,hn⟩:=Qq.mp hx;exact ⟨_,Ml.mpr ⟨x,L9.mpr (by omega),rfl⟩,by rw [decide_eq_false hn];decide⟩]
  exact q2 ha H3 s3
def ph (C:Addr) (K:LN):Sp:=fun vs H Q _=>∃ (g:Addr) (v:V) (n e:Nat) (t:List (List Nat)) (R:List Nat),vs=[.ref g,v]/\aX C H g n t e/\GT n t e/\At K H v R/\(∀ x∈R,x<n) /\
 ((∀ a∈R,∀ b∈R,tb t a b∈R)->Q (.bl true) H)/\(¬ (∀ a∈R,∀ b∈R,tb t a b∈R)->Q (.bl false) H)
def oP (T:Txt K mg):aH P w K mg base CX0 1 T.b9.f T.b9.fd ["group","some"] (ph T.aI K):=by
 exists T.b9.ok cW
 ·obtain ⟨g,v,n,e,t,R,rfl,_⟩:=h;rfl
 obtain ⟨g,v,n,e,t,R,rfl,hG,gt,hR,hlt,q1,q2⟩:=h;obtain ⟨dx,r,bk,hg,hT,hB⟩:=hG.get (K:=K);refine ⟨_,(ae (a8 L6 rfl (aY K rfl (pv 1)) (aJ (i:=2) cW.nd rfl (L7 rfl)) (af (a8 L6 rfl (aY K rfl (pv 1)) (aJ (i:=3) cW.nd rfl (L7 rfl)) (af (aQ (ax (fO K rfl) (aw (ah K rfl) (aw (ah K rfl) (cK K rfl (pv 0) rfl) (pv 2) (fun _ _=>rfl)) (pv 3) (fun _ _=>rfl)) (pv 1) (by with_unfolding_all rfl)) (af (aN gL)) aE)))))
   (af (aN gL))),?_⟩
 symm;refine dB hR (fun i σ H'=>H'=H/\(∀ a∈R.take i,∀ b∈R,tb t a b∈R)/\∃ x y,σ=[some (.ref g),some v,x,y]) ⟨rfl,by simp,_,_,rfl⟩ (fun i σ H' h=>by rw [h.1];exact aj.refl _) ?_ ?_
 ·rintro i a w' σ' H' ha hw ⟨rfl,hf,x,y,rfl⟩;cases (show w'=V.int (a:Int) from hw);have haR:=LR ha;symm;refine dB hR (fun j σ H''=>H''=H'/\(∀ b∈R.take j,tb t a b∈R)/\∃ y,σ=[some (.ref g),some v,some (.int (a:Int)),y]) ⟨rfl,by simp,_,rfl⟩ (fun i σ H' h=>by rw [h.1];exact aj.refl _) ?_ ?_
  ·rintro j b w2 σ' H'' hb hw2 ⟨rfl,hf2,y,rfl⟩;cases (show w2=V.int (b:Int) from hw2);have hbR:=LR hb;walk_at "5";refine cM hT rfl (gt.get (hlt a haR)) fun w1 hw1=>?_;symm;refine bN hw1 (gt.dX (hlt a haR) (hlt b hbR)) ?_;symm;refine bH (fun z=>?_) (fun z=>?_)
   ·symm;exact q2 fun y=>z (y a haR b hbR)
   symm;refine ⟨rfl,fun c hc=>?_,_,rfl⟩;rw [MA,hb] at hc;rcases Mb.mp hc with y|y
   ·exact hf2 c y
   ·rw [LY.mp y];exact z
  ·rintro σ' H'' ⟨rfl,hf2,y,rfl⟩;rw [MJ] at hf2;refine ⟨rfl,fun c hc=>?_,_,_,rfl⟩;rw [MA,ha] at hc;rcases Mb.mp hc with y|y
   ·exact hf c y
   ·rw [LY.mp y];exact hf2
 ·rintro σ' H' ⟨rfl,hf,x,y,rfl⟩;rw [MJ] at hf;symm;exact q1 hf
def AS (C:Addr) (K:LN):Sp:=fun vs H Q _=>∃ (g:Addr) (v:V) (n e:Nat) (t:List (List Nat)) (L:List Int),vs=[.ref g,v]/\aX C H g n t e/\GT n t e/\At K H v L/\L.length<=64 /\
 (gJ n t L->∀ H',aj H H'->Q (.bl true) H')/\(¬ gJ n t L->∀ H',aj H H'->Q (.bl false) H')
def AW (T:Txt K mg):aH P w K mg base CX0 2 T.eW.f T.eW.fd ["group","some"] (AS T.aI K):=by
 exists T.eW.ok tX
 ·obtain ⟨g,v,n,e,t,L,rfl,_⟩:=h;rfl
 obtain ⟨g,v,n,e,t,L,rfl,hG,gt,hL,hlen,q1,q2⟩:=h;refine ⟨_,(af (aN (jx (dz fK (az (aT K rfl) rfl T.bA Me (paF (pv 1) aa)) ag (aB _)) (jx (aG T.dv (uP T) (hr.mono (by decide)) rfl (paF (pv 0) (paF (pv 1) aa))) (jx (aG T.g0 (Es T) (hr.mono (by decide)) rfl (paF (pv 1) aa)) (lV (aG T.b9 (oP T) (hr.mono (by decide)) rfl (paF (pv 0) (paF (pv 1) aa))))))))),?_⟩
 symm;refine aU (fun l0=>?_) (fun z=>?_)
 rotate_left
 ·refine q2 (fun ⟨R,e,pt⟩=>?_) H (aj.refl _);have:=M9.mpr pt.ne;rw [e,LV] at z;omega
 symm;refine ⟨g,v,n,e,t,L,rfl,hG,gt,hL,hlen,fun ha H1 s1=>?_,fun ha H1 s1=>?_⟩
 rotate_left
 ·symm;refine fc ?_;refine q2 (fun ⟨R,e,pt⟩=>ha fun x hx=>?_) H1 s1;rw [e] at hx;obtain ⟨y,hy,rfl⟩:=Ml.mp hx;have:=pt.lt y hy;omega
 symm;have nl:L≠[]:=fun z=>by rw [z] at l0;exact absurd l0 (by decide)
 refine ⟨v,L,rfl,Rep.mono s1 hL,nl,hlen,fun hs H2 s2=>?_,fun hs H2 s2=>?_⟩
 rotate_left
 ·symm;refine fc ?_;refine q2 (fun ⟨R,e,pt⟩=>hs ?_) H2 (s1.trans s2);rw [e,NW];exact pt.srt.imp fun h=>by omega
 symm;have s02:=s1.trans s2;obtain ⟨R,rfl⟩:=qm fun x hx=>(ha x hx).1;have rlt:∀ x∈R,x<n:=fun x hx=>by
  have:=(ha x (Ml.mpr ⟨x,hx,rfl⟩)).2;omega
 have srt:R.Pairwise (· < ·):=by
  rw [NW] at hs;exact hs.imp fun h=>by omega
 have rne:R≠[]:=fun z=>nl (by rw [z];rfl)
 refine ⟨g,v,n,e,t,R,rfl,hG.mono s02,gt,dU (Rep.mono s02 hL),rlt,fun hc=>?_,fun hc=>?_⟩
 ·exact q1 ⟨R,rfl,srt,rlt,rne,hc⟩ H2 s02
 ·refine q2 (fun ⟨R2,e2,pt⟩=>hc ?_) H2 s02;have:R=R2:=yM e2;rw [this];exact pt.cl
def spN (CE C:Addr) (K:LN):Sp:=fun vs H _ E=>∃ (g:Addr) (v:V) (n e:Nat) (t:List (List Nat)) (L:List Int),vs=[.ref g,v]/\aX C H g n t e/\GT n t e/\At K H v L/\L.length<=64/\¬ gJ n t L/\∀ H',aj H H'->E (.ref CE) none H'
def uu (T:Txt K mg):aH P w K mg base (CXR P w) 3 T.bX.f T.bX.fd ["group","some"] (spN T.bt T.aI K):=by
 exists T.bX.fn.okX nV
 ·obtain ⟨g,v,n,e,t,L,rfl,_⟩:=h;rfl
 obtain ⟨g,v,n,e,t,L,rfl,hG,gt,hL,hlen,np,q⟩:=h;refine ⟨_,fun okc=>(af (aQ (sC (fW (aG T.eW (AW T) (hr.mono (by decide)) rfl (paF (pv 0) (paF (pv 1) aa))))) (af (jw la rfl rfl T.Gz rfl T.rj (paF bG aa))) aE)),?_⟩
 walk_at "5";refine ⟨g,v,n,e,t,L,rfl,hG,gt,hL,hlen,fun z=>absurd z np,fun _ H1 s1=>?_⟩;symm;refine oo ?_;symm;refine ki ?_;symm;exact ⟨small (by show 1<=1000;decide),q H1 s1⟩
def Hz {f g:Str} {a b:V} (h:f≠g):∀ p∈[f,g].zip [a,b],(d4 g b [(f,a)]).lookup p.1=some p.2:=fun p hp=>by
 rw [gv];rcases Mp.mp hp with rfl|hp
 ·rw [if_neg h];exact Ph
 ·rcases Mp.mp hp with rfl|hp
  ·rw [if_pos rfl]
  ·cases hp
def FK (T:Txt K mg):aH P w K mg base CX0 1 T.vg T.uK ["self","one","two"] (xy T.bI ["one","two"]):=by
 exists T.Im.ok wN
 ·obtain ⟨x,as,rfl,hl,_⟩:=h;exact congrArg (·+1) hl
 obtain ⟨x,as,rfl,hl,hx,q⟩:=h;obtain ⟨a,b,rfl⟩:=uX (us:=as) hl;refine ⟨_,(ae (pX K rfl (pv 0) (pv 1) rfl)
   (af (pX K rfl (pv 0) (pv 2) rfl))),?_⟩
 walk_at "rn";refine oG ?_;walk_at "rn";refine ⟨x,_,_,rfl,T.md,T.qM,.inl ⟨hx,fun dx hdx=>?_⟩⟩;have ne:x≠dx:=aS hx hdx;walk_at "rn";refine oG ?_;walk_at "rn";refine ⟨x,_,_,rfl,T.md,T.qF,.inr ⟨dx,_,by rw [aA ne,ar],ar,by show 1<1000;decide,?_⟩⟩
 rw [A9];exact q dx _ hdx (Hz (by decide))
def dC (n:Nat) (t:List (List Nat)) (e:Nat) (m:Int):Prop:=1<=m/\m<=60/\∀ k:Nat,cX (cu n t e) k->m % (k:Int)=0
def rR (CE:Addr):Sp:=fun vs H _ E=>∃ (m:Int),vs=[.int m]/\(m<1\/60<m)/\E (.ref CE) none H
def rg (T:Txt K mg):aH P w K mg base (CXR P w) 1 T.cI.f T.cI.fd ["many"] (fun vs H Q E=>lu vs H Q E\/rR T.a0 vs H Q E):=by
 refine aH.both (lF T) ?_;exists T.cI.fn.okX kU
 ·obtain ⟨m,rfl,_⟩:=h;rfl
 obtain ⟨m,rfl,hm,q⟩:=h;refine ⟨_,fun okc=>(af (aQ (PW.pt (gG (ax eA (pv 0) ag (aB _)) (gq (ax fK (pv 0) (cB (v:=.int 60) rfl T.nK ⟨_,rfl⟩) (aB _))))) (af (jw la rfl rfl T.tG rfl T.ka (paF bG aa))) aE)),?_⟩;walk_at "3";refine aU (fun c=>?_) (fun c=>?_)
 ·walk_at "rx";refine ki ?_;walk_at "rx";exact ⟨small (by show 1<=1000;decide),q⟩
 ·walk_at "rx";refine aU (fun c=>?_) (fun c2=>?_)
  ·walk_at "rx";refine ki ?_;walk_at "rx";exact ⟨small (by show 1<=1000;decide),q⟩
  ·exfalso
   rcases hm with z|z <;> omega
def qI (CE C:Addr):Sp:=fun vs H _ E=>∃ (g:Addr) (m:Int) (n e:Nat) (t:List (List Nat)),vs=[.ref g,.int m]/\aX C H g n t e/\GT n t e/\¬ dC n t e m/\∀ H',aj H H'->E (.ref CE) none H'
def AL (T:Txt K mg):aH P w K mg base (CXR P w) 3 T.cL.f T.cL.fd ["group","spokes"] (qI T.a0 T.aI):=by
 exists T.cL.fn.okX jS
 ·obtain ⟨g,m,n,e,t,rfl,_⟩:=h;rfl
 obtain ⟨g,m,n,e,t,rfl,hG,gt,hm,q⟩:=h;refine ⟨_,fun okc=>(ae (av (i:=2) jS.nd rfl (L7 rfl) (aG T.my (zp T) (hr.mono (by decide)) rfl (paF (pv 0) aa)))
   (ae (aQ (jz (xY (pv 1))) (af (aN (pv 2))) aE)
   (ae (a7 (iy T.cI (rg T) (hr.mono (by decide)) rfl fJ (paF (pv 1) aa)))
   (ae (aQ (ax dM (au aV (pv 1) (pv 2)) ag (aB _)) (af (jw la rfl rfl T.tG rfl T.ka (paF bG aa))) aE)
   (af (aN (pv 1))))))),?_⟩
 walk_at "rx";refine ⟨g,n,e,t,rfl,hG,gt,fun k H1 s1 hk=>?_⟩;walk_at "3";refine aU (fun c=>by cases c) (fun _=>?_)
 walk_at "rx"
 by_cases h1:m<1\/60<m
 ·exact .inr ⟨m,rfl,h1,q H1 s1⟩
 ·have hk0:=hk.pos;obtain ⟨j,rfl⟩:∃ j:Nat,m=(j:Int):=⟨m.toNat,by omega⟩
  refine .inl ⟨j,rfl,by omega,by omega,?_⟩
  walk_at "3";refine bH (fun c=>?_) (fun c=>?_)
  ·walk_at "rx";refine ki ?_;walk_at "rx";exact ⟨small (by show 1<=1000;decide),q H1 s1⟩
  ·exfalso
   refine hm ⟨by omega,by omega,fun k2 hk2=>?_⟩
   rw [hk2.uni hk];have:=congrArg (fun (x:Nat)=>(x:Int)) c
   simpa using this
def qQ (T:Txt K mg):aH P w K mg base (CXR P w) 3 T.cL.f T.cL.fd ["group","spokes"] (fun vs H Q E=>tE T.aI vs H Q E\/qI T.a0 T.aI vs H Q E):=aH.both (jX T) (AL T)
def lY (T:Txt K mg):aH P w K mg base (CXR P w) 3 T.bX.f T.bX.fd ["group","some"] (fun vs H Q E=>nJ T.aI K vs H Q E\/spN T.bt T.aI K vs H Q E):=aH.both (gD T) (uu T)
def sE (R:List Nat) (M:List Int) (m:Int):Prop:=M.length≠R.length\/∃ x∈M,x<0\/m<=x
def t7 (CE:Addr) (K:LN):Sp:=fun vs H _ E=>∃ (v u:V) (m:Int) (R:List Nat) (M:List Int),vs=[v,u,.int m]/\At K H v R/\At K H u M/\M.length<=1000/\sE R M m/\∀ H',aj H H'->E (.ref CE) none H'
def sH (T:Txt K mg):aH P w K mg base (CXR P w) 1 T.cY.f T.cY.fd ["part","marks","spokes"] (t7 T.bc K):=by
 exists T.cY.fn.okX mh
 ·obtain ⟨v,u,m,R,M,rfl,_⟩:=h;rfl
 obtain ⟨v,u,m,R,M,rfl,hR,hM,hl,hb,q⟩:=h;refine ⟨_,fun okc=>(ae (aQ (ax dM (az (aT K rfl) rfl T.bA Me (paF (pv 1) aa)) (az (aT K rfl) rfl T.bA Me (paF (pv 0) aa)) (aB _)) (af (jw la rfl rfl T.sL rfl T.jY (paF bG aa))) aE)
   (af (aQ (fW (az (oE K rfl rfl) rfl T.CO Qy (paF (dP rfl fh (aY K rfl (pv 1)) (fun _ _ _ _=>⟨(aJ (i:=0) fh.nd rfl (L7 rfl)),b6,(HM (dz eA (pv 0) ag (aB _)) (lV (dz lr (pv 0) (pv 1) (aB _))))⟩)) aa))) (af (jw la rfl rfl T.sL rfl T.jY (paF bG aa))) aE))),?_⟩
 walk_at "3";refine bH (fun c=>?_) (fun c=>?_)
 ·walk_at "rx";refine ki ?_;walk_at "rx";exact ⟨small (by show 1<=1000;decide),q H (aj.refl _)⟩
 have hx:∃ x∈M,x<0\/m<=x:=hb.resolve_left fun z=>z c;walk_at "3";refine iV (α:=Int) (β:=Bool) hM (by omega) (fun i=>(M.take i).map fun x=>decide (x<0\/m<=x)) (fun σ'=>∃ y,σ'=[y,some (.int m)]) rfl (fun i _=>by rw [LV,MF];omega) ⟨_,rfl⟩ ?_ ?_
 ·rintro i c w' σ' H3 d' R' R0 hc hs hw ⟨y,rfl⟩ hR' hR0 hd';cases (show w'=V.int c from hw);have e1:((M.take (i+1)).map fun x=>decide (x<0\/m<=x))=((M.take i).map fun x=>decide (x<0\/m<=x))++[decide (c<0\/m<=c)]:=by
   rw [MA,hc,M8];rfl
  walk_at "rx";refine aU (fun z=>?_) (fun z=>?_)
  ·have e2:decide (c<0\/m<=c)=true:=decide_eq_true (.inl z);rw [e2] at e1;exact hR' _ _ true _ ⟨_,rfl⟩ (aj.refl _) rfl e1
  ·walk_at "rx";have e2:decide (c<0\/m<=c)=decide (c >= m):=decide_eq_decide.mpr ⟨fun y=>y.resolve_left z,fun y=>.inr y⟩;rw [e2] at e1;exact hR' _ _ (decide (c >= m)) _ ⟨_,rfl⟩ (aj.refl _) rfl e1
 intro d2 H3 s3 h3;have h3':At K H3 (.ref d2) ((M.take M.length).map fun x=>decide (x<0\/m<=x)):=h3;rw [MJ] at h3';walk_at "rx";refine C3 h3' ?_;rw [show (M.map fun x=>decide (x<0\/m<=x)).any id=true from PQ.mpr (by
  obtain ⟨x,hx,hb⟩:=hx;exact ⟨_,Ml.mpr ⟨x,hx,rfl⟩,decide_eq_true hb⟩)]
 walk_at "rx";refine ki ?_;walk_at "rx";exact ⟨small (by show 1<=1000;decide),q H3 s3⟩
def Due (CP CB CM:Addr) (n:Nat) (t:List (List Nat)) (e:Nat) (L M:List Int) (m:Int) (C:Addr):Prop :=
 (¬ gJ n t L/\C=CP)\/(∃ R:List Nat,L=R.map (fun (x:Nat)=>(x:Int))/\IsPart n t R/\((¬ dC n t e m/\C=CB)\/(dC n t e m/\sE R M m/\C=CM)))
def fM (CP CB CM C:Addr) (K:LN):Sp:=fun vs H _ E=>∃ (g:Addr) (v u:V) (m:Int) (n e:Nat) (t:List (List Nat)) (L M:List Int) (CE:Addr),vs=[.ref g,v,u,.int m]/\aX C H g n t e/\GT n t e/\At K H v L/\L.length<=64/\At K H u M/\M.length<=1000 /\
 Due CP CB CM n t e L M m CE/\∀ H',aj H H'->E (.ref CE) none H'
def sN (T:Txt K mg):aH P w K mg base (CXR P w) 4 T.bV.f T.bV.fd ["group","part","marks","spokes"] (fM T.bt T.a0 T.bc T.aI K):=by
 exists T.bV.fn.okX c6
 ·obtain ⟨g,v,u,m,n,e,t,L,M,CE,rfl,_⟩:=h;rfl
 obtain ⟨g,v,u,m,n,e,t,L,M,CE,rfl,hG,gt,hL,hlen,hM,ml,due,q⟩:=h;refine ⟨_,fun okc=>(ae (a7 (iy T.bX (lY T) (hr.mono (by decide)) rfl fJ (paF (pv 0) (paF (pv 1) aa))))
   (ae (av (i:=4) c6.nd rfl (L7 rfl) (iy T.cL (qQ T) (hr.mono (by decide)) rfl fJ (paF (pv 0) (paF (pv 3) aa))))
   (ae (a7 (iy T.cY (sH T) (hr.mono (by decide)) rfl fJ (paF (pv 1) (paF (pv 2) (paF (pv 4) aa)))))
   ju))),?_⟩
 walk_at "rn";rcases due with ⟨np,rfl⟩|⟨R,rfl,pt,due⟩
 ·exact .inr ⟨g,v,n,e,t,L,rfl,hG,gt,hL,hlen,np,q⟩
 have hR:=dU hL;refine .inl ⟨g,v,n,e,t,R,rfl,hG,gt,hR,pt,fun H1 s1=>?_⟩;walk_at "rn";rcases due with ⟨ns,rfl⟩|⟨sv,bm,rfl⟩
 ·exact .inr ⟨g,m,n,e,t,rfl,hG.mono s1,gt,ns,fun H2 s2=>q H2 (s1.trans s2)⟩
 obtain ⟨m1,m2,m3⟩:=sv;obtain ⟨j,rfl⟩:∃ j:Nat,m=(j:Int):=⟨m.toNat,by omega⟩
 refine .inl ⟨g,_,n,e,j,t,rfl,hG.mono s1,gt,.inr ⟨rfl,by omega,by omega,fun k hk=>?_⟩,fun H2 s2=>?_⟩
 ·have:=m3 k hk;omega
 walk_at "rn";have s02:=s1.trans s2;exact ⟨v,u,_,R,M,rfl,Rep.mono s02 hR,Rep.mono s02 hM,ml,bm,fun H3 s3=>q H3 (s02.trans s3)⟩
def GU {f g:Str} {a b:V} (h:f≠g):∀ p∈[f,g].zip [a,b],(d4 g b [(f,a)]).lookup p.1=some p.2:=fun p hp=>by
 rw [gv];rcases Mp.mp hp with rfl|hp
 ·rw [if_neg h];exact Ph
 ·rcases Mp.mp hp with rfl|hp
  ·rw [if_pos rfl]
  ·cases hp
def yg (T:Txt K mg):aH P w K mg base CX0 1 T.lS T.lN ["self","turner","thing"] (xy T.bg ["turner","thing"]):=by
 exists T.AR.ok qA
 ·obtain ⟨x,as,rfl,hl,_⟩:=h;exact congrArg (·+1) hl
 obtain ⟨x,as,rfl,hl,hx,q⟩:=h;obtain ⟨a,b,rfl⟩:=uX (us:=as) hl;refine ⟨_,(ae (pX K rfl (pv 0) (pv 1) rfl)
   (af (pX K rfl (pv 0) (pv 2) rfl))),?_⟩
 walk_at "rn";refine oG ?_;walk_at "rn";refine ⟨x,_,_,rfl,T.lL,T.pF,.inl ⟨hx,fun dx hdx=>?_⟩⟩;have ne:x≠dx:=aS hx hdx;walk_at "rn";refine oG ?_;walk_at "rn";refine ⟨x,_,_,rfl,T.lL,T.qx,.inr ⟨dx,_,by rw [aA ne,ar],ar,by show 1<1000;decide,?_⟩⟩
 rw [A9];exact q dx _ hdx (GU (by decide))
def C4 (T:Txt K mg):aH P w K mg base CX0 1 T.oK T.ou ["self","thing"] (xy T.bK ["thing"]):=by
 exists T.Ew.ok tV
 ·obtain ⟨x,as,rfl,hl,_⟩:=h;exact congrArg (·+1) hl
 obtain ⟨x,as,rfl,hl,hx,q⟩:=h;obtain ⟨a,rfl⟩:=Ho (us:=as) hl;refine ⟨_,(af (pX K rfl (pv 0) (pv 1) rfl)),?_⟩;walk_at "rn";refine oG ?_;walk_at "rn";refine ⟨x,_,_,rfl,T.v8,T.sj,.inl ⟨hx,fun dx hdx=>?_⟩⟩;exact q dx _ hdx fun p hp=>by
  rcases Mp.mp hp with rfl|hp
  ·exact Ph
  ·cases hp
def JO {n m:Nat} {t:List (List Nat)} {R M:List Nat} (pt:IsPart n t R) (ml:M.length=R.length) (mm:∀ x∈M,x<m) (h:fB t R M m none):IsW t R M m:=by
 refine ⟨ml,mm,fun x hx y hy=>?_⟩;obtain ⟨i,hi⟩:=Mr hx;obtain ⟨j,hj⟩:=Mr hy;have nd:=bQ pt.srt;have il:=(LQ.mp hi).1;have jl:=(LQ.mp hj).1;have:=h i il j jl;unfold iY at this;rw [show R.getD i 0=x from by rw [LS,hi];rfl,show R.getD j 0=y from by rw [LS,hj];rfl] at this
 unfold mkO;rw [f6 nd hi,f6 nd hj];exact this
def Fz {n e l m:Nat} {t:List (List Nat)} (gt:GT n t e) (hl:cX (cu n t e) l) (h:m % l=0) {x:Nat} (hx:x<n):aC t e x m=e:=by
 obtain ⟨c,rfl⟩:=Np h;have ho:l % aZ n t e x=0:=hl.all _ (Ml.mpr ⟨x,L9.mpr hx,rfl⟩);obtain ⟨d,rfl⟩:=Np ho;rw [Qb];exact i4 gt hx (dF gt hx).2.1 _
def GG (n:Nat) (t:List (List Nat)) (e:Nat) (R M:List Nat) (x h:Nat):Prop:=h∈R/\mkO R M h≠mkO R M (cZ n t e h x)/\∀ h'∈R,h' < h->mkO R M h'=mkO R M (cZ n t e h' x)
def Cz (C:Addr) (K:LN) (H:Hp) (g:Addr) (v u z:V) (n e x m l:Nat) (t:List (List Nat)) (R M:List Nat):Prop:=aX C H g n t e/\GT n t e/\At K H v R/\IsPart n t R/\At K H u M/\M.length=R.length/\(∀ x∈M,x<m)/\fB t R M m none /\
 (z=.int (m:Int)\/(z=.non/\m=l))/\cX (cu n t e) l/\m % l=0/\0<m/\m<=60/\x<n
inductive xb (C:Addr) (K:LN) (vs:List V) (H:Hp) (Q:VK) (E:XK):Prop
 | mk (g:Addr) (v u z:V) (n e x m l:Nat) (t:List (List Nat)) (R M:List Nat) (_:vs=[.ref g,v,u,z]) (_:Cz C K H g v u z n e x m l t R M) (_:∀ H',aj H H'->Q .non H')
def oX (T:Txt K mg):aH P w K mg base CX0 5 T.cT.f T.cT.fd ["group","part","marks","spokes"] (xb T.aI K):=by
 exists T.cT.ok eR
 ·obtain ⟨g,v,u,z,n,e,x,m,l,t,R,M,rfl,_⟩:=h;rfl
 obtain ⟨g,v,u,z,n,e,x,m,l,t,R,M,rfl,⟨hG,gt,hR,pt,hM,ml,mm,br,hz,hl,ml0,m1,m60,hx⟩,q⟩:=h;refine ⟨_,(ae (av (i:=4) eR.nd rfl (L7 rfl) (Lj T.bV (l9 T) (hr.mono (by decide)) rfl (paF (pv 0) (paF (pv 1) (paF (pv 2) (paF (pv 3) aa))))))
   (af (aQ (jz (qg (pv 4))) (af cV) aE))),?_⟩
 walk_at "rn";refine ⟨g,v,u,z,n,e,m,l,t,R,M,rfl,hG,gt,hR,pt,hM,ml,mm,hz,hl,ml0,m1,m60,fun y H1 o s1 hy hb=>?_⟩;obtain rfl:=hb.uni br;cases (show y=.non from hy);walk_at "2";rw [if_neg (by simp)]
 walk_at "rn";exact q _ s1
inductive nQ (C:Addr) (K:LN) (vs:List V) (H:Hp) (Q:VK) (E:XK):Prop
 | mk (g:Addr) (v:V) (n e x:Nat) (t:List (List Nat)) (R:List Nat) (_:vs=[.ref g,v,.int (x:Int)]) (_:aX C H g n t e) (_:GT n t e) (_:At K H v R) (_:IsPart n t R) (_:x<n) (_:(∀ h∈R,cZ n t e h x∈R)) (_:∀ H',aj H H'->Q .non H')
def FE {n e x:Nat} {t:List (List Nat)} {R:List Nat} {o:Option Nat} (h:∀ y∈R,cZ n t e y x∈R) (ho:mS n t e R x o):o=none:=by
 cases o with
 | none=>rfl
 | some a=>exact absurd (h a ho.1) ho.2.1
def Gp {n e x h:Nat} {t:List (List Nat)} {R:List Nat} {o:Option Nat} (hl:mS n t e R x (some h)) (ho:mS n t e R x o):o=some h:=by
 obtain ⟨h1,h2,h3⟩:=hl;cases o with
 | none=>exact absurd (ho h h1) h2
 | some a =>
  obtain ⟨a1,a2,a3⟩:=ho;rcases Ni a h with c|c|c
  ·exact absurd (h3 a a1 c) a2
  ·rw [c]
  ·exact absurd (a3 h h1 c) h2
def oj (T:Txt K mg):aH P w K mg base CX0 4 T.cQ.f T.cQ.fd ["group","part","by"] (nQ T.aI K):=by
 exists T.cQ.ok ix
 ·obtain ⟨g,v,n,e,x,t,R,rfl,_⟩:=h;rfl
 obtain ⟨g,v,n,e,x,t,R,rfl,hG,gt,hR,pt,hx,st,q⟩:=h;refine ⟨_,(ae (av (i:=3) ix.nd rfl (L7 rfl) (aG T.jA (tJ T) (hr.mono (by decide)) rfl (paF (pv 0) (paF (pv 1) (paF (pv 2) aa)))))
   (af (aQ (jz (qg (pv 3))) (af cV) aE))),?_⟩
 walk_at "rn";refine ⟨g,v,n,e,x,t,R,rfl,hG,gt,hR,pt,hx,fun H1 o s1 ho=>?_⟩;obtain rfl:=FE st ho;walk_at "2";refine bH (fun c=>absurd rfl c) (fun _=>?_);walk_at "rn";exact q _ s1
def nN (CE C:Addr) (K:LN):Sp:=fun vs H _ E=>∃ (g:Addr) (v:V) (n e x h:Nat) (t:List (List Nat)) (R:List Nat),vs=[.ref g,v,.int (x:Int)]/\aX C H g n t e/\GT n t e/\At K H v R/\IsPart n t R/\x<n/\mS n t e R x (some h) /\
 ∀ d H',aj H H'->Fld H' d [("turner",.int (x:Int)),("thing",.int (h:Int))]->E (.ref CE) d H'
def wU (T:Txt K mg):aH P w K mg base (CXR P w) 4 T.cQ.f T.cQ.fd ["group","part","by"] (nN T.bg T.aI K):=by
 exists T.cQ.fn.okX ix
 ·obtain ⟨g,v,n,e,x,h',t,R,rfl,_⟩:=h;rfl
 obtain ⟨g,v,n,e,x,h',t,R,rfl,hG,gt,hR,pt,hx,st,q⟩:=h;refine ⟨_,fun okc=>(ae (av (i:=3) ix.nd rfl (L7 rfl) (aG T.jA (tJ T) (hr.mono (by decide)) rfl (paF (pv 0) (paF (pv 1) (paF (pv 2) aa)))))
   (af (aQ (jz (qg (pv 3))) (af (pT T.lL (yg T) T.AM (hr.mono (by decide)) la rfl rfl rfl T.qB (paF (pv 2) (paF (pv 3) aa)))) aE))),?_⟩
 walk_at "rn";refine ⟨g,v,n,e,x,t,R,rfl,hG,gt,hR,pt,hx,fun H1 o s1 ho=>?_⟩;obtain rfl:=Gp st ho;show _;unfold Kz;walk_at "2";rw [if_pos (by simp)]
 walk_at "rn";refine rQ ?_;walk_at "rn";exact rq rfl (by show 2<=1000;decide) fun d H2 s2 f2=>q d H2 (s1.trans s2) f2
def wC (T:Txt K mg):aH P w K mg base (CXR P w) 4 T.cQ.f T.cQ.fd ["group","part","by"] (fun vs H Q E=>nQ T.aI K vs H Q E\/nN T.bg T.aI K vs H Q E):=aH.both (oj T) (wU T)
inductive mn (C:Addr) (K:LN) (vs:List V) (H:Hp) (Q:VK) (E:XK):Prop
 | mk (g:Addr) (v u:V) (n e x:Nat) (t:List (List Nat)) (R M:List Nat) (_:vs=[.ref g,v,u,.int (x:Int)]) (_:aX C H g n t e) (_:GT n t e) (_:At K H v R) (_:IsPart n t R) (_:At K H u M) (_:M.length=R.length) (_:x<n) (_:(∀ h∈R,cZ n t e h x∈R)) (_:(∀ h∈R,mkO R M h=mkO R M (cZ n t e h x))) (_:∀ H',aj H H'->Q .non H')
def nM (T:Txt K mg):aH P w K mg base CX0 3 T.cD.f T.cD.fd ["group","part","marks","by"] (mn T.aI K):=by
 exists T.cD.ok d9
 ·obtain ⟨g,v,u,n,e,x,t,R,M,rfl,_⟩:=h;rfl
 obtain ⟨g,v,u,n,e,x,t,R,M,rfl,hG,gt,hR,pt,hM,ml,hx,st,kp,q⟩:=h;have nd:=bQ pt.srt;refine ⟨_,(ae (av (i:=4) d9.nd rfl (L7 rfl) (j9 K rfl rfl rfl T.sD rfl T.sT (paF (pv 1) (paF (pv 2) aa))))
   (af (a8 L6 rfl (aY K rfl (pv 1)) (aJ (i:=5) d9.nd rfl (L7 rfl)) (af (aQ (ax dM (dQ (eN hr) (pv 4) (pv 5) (fun _ _=>rfl)) (dQ (eN hr) (pv 4) (aG T.i9 (oO T) (hr.mono (by decide)) rfl (paF (pv 0) (paF (pv 5) (paF (pv 3) aa)))) (fun _ _=>rfl)) (aB _)) (af cV) aE))))),?_⟩
 walk_at "rn";refine lH ?_;walk_at "rn";refine BZ hR hM ml.symm nd fun d hd=>?_;have s1:=ay hd (.dK (d0 R M));have hd1:upd H d (.dK (d0 R M)) d=some (.dK (d0 R M)):=ar;generalize upd H d (.dK (d0 R M))=H1 at s1 hd1 ⊢;have mk0:∀ y∈R,cO (d0 R M) (nk y)=some (.int (mkO R M y:Int)):=fun y hy=>gN nd (kf hy) (getD_some (l:=M) 0 (by rw [ml];exact MZ hy))
 walk_at "rn";refine eZ (H₀:=H) (α:=Nat) hR (fun i σ' H'=>aj H1 H'/\∃ x5:Option V,σ'=[some (.ref g),some v,some u,some (.int (x:Int)),some (.ref d),x5]) ⟨aj.refl _,_,rfl⟩ (fun i σ' H' z=>s1.trans z.1) ?_ ?_
 ·rintro i h w' σ' H2 hh hw' ⟨s2,x5,rfl⟩;cases (show w'=V.int (h:Int) from hw');have hR':=LR hh;walk_at "2";refine dR ?_;walk_at "rn";refine eU (s2 _ _ hd1) (mk0 h hR') ?_;walk_at "rn";refine dR ?_;walk_at "rn";refine ⟨g,n,e,h,x,t,rfl,aX.mono (s1.trans s2) hG,gt,pt.lt h hR',hx,fun H3 s3=>?_⟩;refine eU (s3 _ _ (s2 _ _ hd1)) (mk0 _ (st h hR')) ?_;walk_at "rn";refine bH (fun c=>absurd (kp h hR') c) (fun _=>?_);walk_at "rn";exact ⟨s2.trans s3,_,rfl⟩
 ·rintro σ' H2 ⟨s2,x5,rfl⟩;walk_at "rn";exact q _ (s1.trans s2)
def mq (CE C:Addr) (K:LN):Sp:=fun vs H _ E=>∃ (g:Addr) (v u:V) (n e x h:Nat) (t:List (List Nat)) (R M:List Nat),vs=[.ref g,v,u,.int (x:Int)]/\aX C H g n t e/\GT n t e/\At K H v R/\IsPart n t R/\At K H u M/\M.length=R.length/\x<n/\(∀ h∈R,cZ n t e h x∈R)/\GG n t e R M x h /\
 ∀ d H',aj H H'->Fld H' d [("thing",.int (h:Int))]->E (.ref CE) d H'
def va (T:Txt K mg):aH P w K mg base (CXR P w) 3 T.cD.f T.cD.fd ["group","part","marks","by"] (mq T.bK T.aI K):=by
 exists T.cD.fn.okX d9
 ·obtain ⟨g,v,u,n,e,x,h',t,R,M,rfl,_⟩:=h;rfl
 obtain ⟨g,v,u,n,e,x,h',t,R,M,rfl,hG,gt,hR,pt,hM,ml,hx,st,kp,q⟩:=h;have nd:=bQ pt.srt;refine ⟨_,fun okc=>(ae (av (i:=4) d9.nd rfl (L7 rfl) (j9 K rfl rfl rfl T.sD rfl T.sT (paF (pv 1) (paF (pv 2) aa))))
   (af (a8 (FV okc.dI rfl rfl rfl) rfl (aY K rfl (pv 1)) (aJ (i:=5) d9.nd rfl (L7 rfl)) (af (aQ (ax dM (dQ (eN hr) (pv 4) (pv 5) (fun _ _=>rfl)) (dQ (eN hr) (pv 4) (aG T.i9 (oO T) (hr.mono (by decide)) rfl (paF (pv 0) (paF (pv 5) (paF (pv 3) aa)))) (fun _ _=>rfl)) (aB _)) (af (pT T.v8 (C4 T) T.Fc (hr.mono (by decide)) la rfl rfl rfl T.vz (paF (pv 5) aa))) aE))))),?_⟩
 walk_at "rn";refine lH ?_;walk_at "rn";refine BZ hR hM ml.symm nd fun d hd=>?_;have s1:=ay hd (.dK (d0 R M));have hd1:upd H d (.dK (d0 R M)) d=some (.dK (d0 R M)):=ar;generalize upd H d (.dK (d0 R M))=H1 at s1 hd1 ⊢;have mk0:∀ y∈R,cO (d0 R M) (nk y)=some (.int (mkO R M y:Int)):=fun y hy=>gN nd (kf hy) (getD_some (l:=M) 0 (by rw [ml];exact MZ hy))
 obtain ⟨k1,k2,k3⟩:=kp;walk_at "rn";refine eZ (H₀:=H) (α:=Nat) hR (fun i σ' H'=>aj H1 H'/\h'∉R.take i/\∃ x5:Option V,σ'=[some (.ref g),some v,some u,some (.int (x:Int)),some (.ref d),x5]) ⟨aj.refl _,by simp,_,rfl⟩ (fun i σ' H' z=>s1.trans z.1) ?_ ?_
 ·rintro i h w' σ' H2 hh hw' ⟨s2,ni,x5,rfl⟩;cases (show w'=V.int (h:Int) from hw');have hR':=LR hh;walk_at "2";refine dR ?_;walk_at "rn";refine eU (s2 _ _ hd1) (mk0 h hR') ?_;walk_at "rn";refine dR ?_;walk_at "rn";refine ⟨g,n,e,h,x,t,rfl,aX.mono (s1.trans s2) hG,gt,pt.lt h hR',hx,fun H3 s3=>?_⟩;refine eU (s3 _ _ (s2 _ _ hd1)) (mk0 _ (st h hR')) ?_;walk_at "rn";refine bH (fun c=>?_) (fun c=>?_)
  ·have eh:h=h':=by
    rcases Ni h h' with y|y|y
    ·exact absurd (k3 h hR' y) c
    ·exact y
    ·exfalso
     obtain ⟨j,hj⟩:=Mr k1;obtain ⟨i1,e1⟩:=LQ.mp hh;obtain ⟨i2,e2⟩:=LQ.mp hj;have hji:j<i:=by
      rcases Ni j i with a|a|a
      ·exact a
      ·subst a;omega
      ·have:=(Mw.mp pt.srt) i j i1 i2 a;omega
     exact ni (LR (i:=j) (by rw [Nz hji];exact hj))
   subst eh;walk_at "rn";refine rQ ?_;walk_at "rn";exact rq rfl (by show 1<=1000;decide) fun d H4 s4 f4=>q d H4 (s1.trans (s2.trans (s3.trans s4))) f4
  ·walk_at "rn";refine ⟨s2.trans s3,fun z=>?_,_,rfl⟩;rw [MA,hh] at z;rcases Mb.mp z with a|a
   ·exact ni a
   ·have:h'=h:=by simpa using a
    rw [this] at k2;exact k2 c
 ·rintro σ' H2 ⟨s2,ni,x5,rfl⟩;rw [MJ] at ni;exact absurd k1 ni
def uV (T:Txt K mg):aH P w K mg base (CXR P w) 3 T.cD.f T.cD.fd ["group","part","marks","by"] (fun vs H Q E=>mn T.aI K vs H Q E\/mq T.bK T.aI K vs H Q E):=aH.both (nM T) (va T)
def Lp (n:Nat) (t:List (List Nat)) (e:Nat) (R M:List Nat) (x m:Nat) (H:Hp) (Q:VK):Prop:=∀ p dg df H' Pt L,H dg=none->aj H H'->H' p=some (.tup [.ref dg,.ref df])->H' dg=some (.lst (aO Pt))->Rows H H' df L->Taken n t e R M x m Pt L->Q (.ref p) H'
inductive yS (C:Addr) (K:LN) (vs:List V) (H:Hp) (Q:VK) (E:XK):Prop
 | mk (g:Addr) (v u z:V) (n e x m l:Nat) (t:List (List Nat)) (R M:List Nat) (_:vs=[.ref g,v,u,.int (x:Int),z]) (_:Cz C K H g v u z n e x m l t R M) (_:(∀ h∈R,cZ n t e h x∈R)) (_:(∀ h∈R,mkO R M h=mkO R M (cZ n t e h x))) (_:Lp n t e R M x m H Q)
def Hy (T:Txt K mg):aH P w K mg base CX0 6 T.ee.f T.ee.fd ["group","part","marks","thing","spokes"] (yS T.aI K):=by
 exists T.ee.ok rh
 ·obtain ⟨g,v,u,z,n,e,x,m,l,t,R,M,rfl,_⟩:=h;rfl
 obtain ⟨g,v,u,z,n,e,x,m,l,t,R,M,rfl,gi,st,kp,q⟩:=h;obtain ⟨hG,gt,hR,pt,hM,ml,mm,br,hz,hl,ml0,m1,m60,hx⟩:=id gi;have sv:rW n t e z m:=by
  rcases hz with rfl|⟨rfl,rfl⟩
  ·exact .inr ⟨rfl,m1,m60,fun k hk=>by rw [hk.uni hl];exact ml0⟩
  ·exact .inl ⟨rfl,hl⟩
 have hw:=JO pt ml mm br;refine ⟨_,(ae (a7 (aG T.cT (oX T) (hr.mono (by decide)) rfl (paF (pv 0) (paF (pv 1) (paF (pv 2) (paF (pv 4) aa))))))
   (ae (a7 (aG T.cQ (oj T) (hr.mono (by decide)) rfl (paF (pv 0) (paF (pv 1) (paF (pv 3) aa)))))
   (ae (a7 (aG T.cD (nM T) (hr.mono (by decide)) rfl (paF (pv 0) (paF (pv 1) (paF (pv 2) (paF (pv 3) aa))))))
   (af (aN (aG T.iw (qW T) (hr.mono (by decide)) rfl (paF (pv 0) (paF (pv 1) (paF (pv 2) (paF (pv 3) (paF (aG T.cL (jX T) (hr.mono (by decide)) rfl (paF (pv 0) (paF (pv 4) aa))) aa))))))))))),?_⟩
 walk_at "rn";refine ⟨g,v,u,z,n,e,x,m,l,t,R,M,rfl,gi,fun H1 s1=>?_⟩;walk_at "rn";refine ⟨g,v,n,e,x,t,R,rfl,aX.mono s1 hG,gt,Rep.mono s1 hR,pt,hx,st,fun H2 s2=>?_⟩;have s02:=s1.trans s2;walk_at "rn";refine ⟨g,v,u,n,e,x,t,R,M,rfl,aX.mono s02 hG,gt,Rep.mono s02 hR,pt,Rep.mono s02 hM,ml,hx,st,kp,fun H3 s3=>?_⟩;have s03:=s02.trans s3;walk_at "rn";refine ⟨g,z,n,e,m,t,rfl,aX.mono s03 hG,gt,sv,fun H4 s4=>?_⟩;have s04:=s03.trans s4;walk_at "rn";refine ⟨g,v,u,n,e,x,m,t,R,M,rfl,aX.mono s04 hG,gt,Rep.mono s04 hR,pt,Rep.mono s04 hM,hw,hx,m60,fun k k1 kin lK=>⟨pt,hw,hx,st,fun h hh=>(kp h hh).symm,k1,kin,lK,m1,Fz gt hl ml0 hx⟩,fun p dg df H' Pt L f1 s5 h1 h2 h3 h4=>?_⟩;walk_at "rn";exact q p dg df H' Pt L (s04.free f1) (s04.trans s5) h1 h2 (h3.since s04) h4
def vL (CS CK C:Addr) (K:LN):Sp:=fun vs H _ E=>∃ (g:Addr) (v u z:V) (n e x m l:Nat) (t:List (List Nat)) (R M:List Nat),vs=[.ref g,v,u,.int (x:Int),z]/\Cz C K H g v u z n e x m l t R M /\
 ((∃ h,mS n t e R x (some h)/\∀ d H',aj H H'->Fld H' d [("turner",.int (x:Int)),("thing",.int (h:Int))]->E (.ref CS) d H') \/
  ((∀ h∈R,cZ n t e h x∈R)/\∃ h,GG n t e R M x h/\∀ d H',aj H H'->Fld H' d [("thing",.int (h:Int))]->E (.ref CK) d H'))
def D4 (T:Txt K mg):aH P w K mg base (CXR P w) 6 T.ee.f T.ee.fd ["group","part","marks","thing","spokes"] (vL T.bg T.bK T.aI K):=by
 exists T.ee.fn.okX rh
 ·obtain ⟨g,v,u,z,n,e,x,m,l,t,R,M,rfl,_⟩:=h;rfl
 obtain ⟨g,v,u,z,n,e,x,m,l,t,R,M,rfl,gi,q⟩:=h;obtain ⟨hG,gt,hR,pt,hM,ml,mm,br,hz,hl,ml0,m1,m60,hx⟩:=id gi;refine ⟨_,fun okc=>(ae (a7 (aG T.cT (oX T) (hr.mono (by decide)) rfl (paF (pv 0) (paF (pv 1) (paF (pv 2) (paF (pv 4) aa))))))
   (ae (a7 (iy T.cQ (wC T) (hr.mono (by decide)) rfl fJ (paF (pv 0) (paF (pv 1) (paF (pv 3) aa)))))
   (ae (a7 (iy T.cD (uV T) (hr.mono (by decide)) rfl fJ (paF (pv 0) (paF (pv 1) (paF (pv 2) (paF (pv 3) aa))))))
   ju))),?_⟩
 walk_at "rn";refine ⟨g,v,u,z,n,e,x,m,l,t,R,M,rfl,gi,fun H1 s1=>?_⟩;walk_at "rn";rcases q with ⟨h,hl',q⟩|⟨st,h,kp,q⟩
 ·exact .inr ⟨g,v,n,e,x,h,t,R,rfl,aX.mono s1 hG,gt,Rep.mono s1 hR,pt,hx,hl',fun d H2 s2 f2=>q d H2 (s1.trans s2) f2⟩
 ·refine .inl ⟨g,v,n,e,x,t,R,rfl,aX.mono s1 hG,gt,Rep.mono s1 hR,pt,hx,st,fun H2 s2=>?_⟩;have s02:=s1.trans s2;walk_at "rn";exact .inr ⟨g,v,u,n,e,x,h,t,R,M,rfl,aX.mono s02 hG,gt,Rep.mono s02 hR,pt,Rep.mono s02 hM,ml,hx,st,kp,fun d H3 s3 f3=>q d H3 (s02.trans s3) f3⟩
def Ib {H:Hp}:∀ {ys:List V} {l:List Int},Nl (Rep.is K H) ys l->ys=l.map V.int
 | _,_,.nil=>rfl
 | _,_,.cons r t=>by rw [My,<- Ib t,show _=V.int _ from r]
def vd {H:Hp} {d:Addr} {l:List Int} (h:Gr K H d l):H d=some (.lst (l.map V.int)):=by
 obtain ⟨ys,h1,h2⟩:=h;rw [h1,Ib h2]
def zsV {R:List Nat}:(R.map fun (x:Nat)=>(x:Int)).map V.int=aO R:=by rw [Ox];rfl
abbrev SI:=Sum Str Int
def siV:SI->V
 | .inl s=>.str s
 | .inr i=>.int i
instance:Rep SI:=⟨fun _ _ v a=>v=siV a,fun _ h=>h⟩
def Jl:∀ {a b:SI},siV a=siV b->a=b
 | .inl _,.inl _,h=>by injection h with h;rw [h]
 | .inr _,.inr _,h=>by injection h with h;rw [h]
 | .inl _,.inr _,h=>by cases h
 | .inr _,.inl _,h=>by cases h
def Kv:∀ {a b:SI},eqV (siV a) (siV b)=decide (a=b)
 | .inl a,.inl b=>by
  show (a == b)=_
  by_cases h:a=b
  ·subst h;simp
  ·have:(Sd a:SI)≠.inl b:=fun z=>h (TV z);rw [decide_eq_false this]
   simpa using h
 | .inr a,.inr b=>by
  show (a == b)=_
  by_cases h:a=b
  ·subst h;simp
  ·have:(RB a:SI)≠.inr b:=fun z=>h (RB.inj z);rw [decide_eq_false this]
   simpa using h
 | .inl _,.inr _=>by rw [decide_eq_false (fun z=>by cases z)];rfl
 | .inr _,.inl _=>by rw [decide_eq_false (fun z=>by cases z)];rfl
def yE:∀ {a:SI},jr (siV a)=true
 | .inl _=>rfl
 | .inr _=>rfl
instance:bS SI where
 depth:=0
 inj:=fun _ h h'=>Jl ((show _=siV _ from h).symm.trans h')
 eq:=fun {X pins σ H s A x y u v a b} _ hx hy ru rv _=>by
  cases (show x=siV a from hx);cases (show y=siV b from hy);have q:=tD (A:=A) (s:=s) ru rv yE yE;rw [Kv] at q;exact q
def E8 {H:Hp}:∀ {l:List SI},Nl (Rep.is K H) (l.map siV) l
 | []=>.nil
 | _ :: _=>.cons rfl E8
def mF {H:Hp} {p:Addr} {l:List SI} (h:H p=some (.lst (l.map siV))):At K H (.ref p) l:=⟨p,_,rfl,SqL.of h,E8⟩
def kO (K:LN) (C D:Addr) (b:Bool):Prop:=Nv K (.ref C) (.ref D)=some b
def eG {C:Addr}:∀ {Ds:List Addr} {bs:List Bool},flagsOf K C Ds=bs.map some->Nl (kO K C) Ds bs
 | [],[],_=>.nil
 | [],_ :: _,h=>by cases h
 | _ :: _,[],h=>by cases h
 | D :: Ds,b :: bs,h=>by
  unfold flagsOf at h;rw [My,My] at h;injection h with h1 h2;exact .cons h1 (eG h2)
def D3 {C:Addr} {Ds:List Addr} {bs:List Bool} (h:Nl (kO K C) Ds bs):∃ f:Nat->Bool,bs=(LX Ds.length).map f/\∀ i D,Ds[i]?=some D->kO K C D (f i):=by
 refine ⟨fun i=>bs[i]?.getD false,Oa fun i=>?_,fun i D e=>?_⟩
 ·rw [RC h,Mn]
  by_cases z:i<bs.length
  ·rw [O1 z,LO z];show some bs[i]=some (bs[i]?.getD false);rw [LO z];rfl
  ·rw [MD (PN z),MD (by rw [M4];exact PN z)];rfl
 ·obtain ⟨b,e2,r⟩:=Paired.getL h e;show kO K C D (bs[i]?.getD false);rw [e2];exact r
def bF (f:Nat->Bool) (l:List Nat):List V:=l.map fun i=>V.bl (f i)
def names10:List Str:=["size","stranger","unit","back","together","part","steady","wheel","move","marks"]
def names5:List Str:=["way","kept","group","otherwheel","great"]
def names15:List Str:=names10++names5
def pick:List (Str×Bool)->List Str
 | []=>[]
 | (s,true) :: l=>s :: pick l
 | (_,false) :: l=>pick l
def lh:∀ {l:List (Str×Bool)} {s:Str} {b:Bool},pick (l++[(s,b)])=pick l++(if b=true then [s] else [])
 | [],s,true=>rfl
 | [],s,false=>rfl
 | (x,true) :: l,s,b=>by show x :: pick (l++[(s,b)])=x :: pick l++_;rw [lh];rfl
 | (x,false) :: l,s,b=>by show pick (l++[(s,b)])=pick l++_;rw [lh]
def rA:∀ {l:List (Str×Bool)},(pick l).length<=l.length
 | []=>Ma _
 | (_,true) :: l=>by show (pick l).length+1<=l.length+1;exact RX rA
 | (_,false) :: l=>by show (pick l).length<=l.length+1;exact Nat.le_succ_of_le rA
inductive wF (Ds:List Addr) (K:LN) (vs:List V) (H:Hp) (Q:VK) (E:XK):Prop
 | mk (x:_) (_:vs=[x]) (_:((x=.non/\∀ d H',aj H H'->H' d=some (.lst [])->Q (.ref d) H') \/
 ∃ (y C:Addr) (di:Option Addr) (bs:List Bool),x=.ref y/\H y=some (fI y C di)/\ck K C/\Nv K (.ref C) (.type "ValueError")=some true/\Nl (kO K C) Ds bs/\∀ d H',aj H H'->H' d=some (.lst ((pick (names15.zip bs)).map V.str))->Q (.ref d) H'))
def wA (T:Txt K mg):aH P w K mg base CX0 1 T.iU.f T.iU.fd ["_law_met"] (wF [T.fV,T.fq,T.gQ,T.gR,T.dD,T.bt,T.bg,T.a0,T.gP,T.bc,T.bI,T.bK,T.dY,T.dW,T.eY] K):=by
 exists T.iU.ok cF
 ·obtain ⟨x,rfl,_⟩:=h;rfl
 obtain ⟨x,rfl,h⟩:=h;refine ⟨_,(ae (aQ (jz (xY (pv 0))) (af (aN (aW aa))) aE)
   (ae (av (i:=1) cF.nd rfl (L7 rfl) (aW (paF (az (bJ K rfl) rfl T.bu Mg (paF (pv 0) (paF (cB (v:=.ref T.fV) rfl T.Fd rfl) aa))) (paF (az (bJ K rfl) rfl T.bu Mg (paF (pv 0) (paF (cB (v:=.ref T.fq) rfl T.B1 rfl) aa))) (paF (az (bJ K rfl) rfl T.bu Mg (paF (pv 0) (paF (cB (v:=.ref T.gQ) rfl T.FU rfl) aa))) (paF (az (bJ K rfl) rfl T.bu Mg (paF (pv 0) (paF (cB (v:=.ref T.gR) rfl T.FW rfl) aa))) aa))))))
   (ae (av (i:=1) cF.nd rfl (L7 rfl) (au kS (pv 1) (aW (paF (az (bJ K rfl) rfl T.bu Mg (paF (pv 0) (paF (cB (v:=.ref T.dD) rfl T.xk rfl) aa))) (paF (az (bJ K rfl) rfl T.bu Mg (paF (pv 0) (paF (cB (v:=.ref T.bt) rfl T.rj rfl) aa))) (paF (az (bJ K rfl) rfl T.bu Mg (paF (pv 0) (paF (cB (v:=.ref T.bg) rfl T.qB rfl) aa))) aa))))))
   (ae (av (i:=1) cF.nd rfl (L7 rfl) (au kS (pv 1) (aW (paF (az (bJ K rfl) rfl T.bu Mg (paF (pv 0) (paF (cB (v:=.ref T.a0) rfl T.ka rfl) aa))) (paF (az (bJ K rfl) rfl T.bu Mg (paF (pv 0) (paF (cB (v:=.ref T.gP) rfl T.Hq rfl) aa))) (paF (az (bJ K rfl) rfl T.bu Mg (paF (pv 0) (paF (cB (v:=.ref T.bc) rfl T.jY rfl) aa))) aa))))))
   (ae (av (i:=1) cF.nd rfl (L7 rfl) (au kS (pv 1) (aW (paF (az (bJ K rfl) rfl T.bu Mg (paF (pv 0) (paF (cB (v:=.ref T.bI) rfl T.uI rfl) aa))) (paF (az (bJ K rfl) rfl T.bu Mg (paF (pv 0) (paF (cB (v:=.ref T.bK) rfl T.vz rfl) aa))) (paF (az (bJ K rfl) rfl T.bu Mg (paF (pv 0) (paF (cB (v:=.ref T.dY) rfl T.zi rfl) aa))) aa))))))
   (ae (av (i:=1) cF.nd rfl (L7 rfl) (au kS (pv 1) (aW (paF (az (bJ K rfl) rfl T.bu Mg (paF (pv 0) (paF (cB (v:=.ref T.dW) rfl T.yn rfl) aa))) (paF (az (bJ K rfl) rfl T.bu Mg (paF (pv 0) (paF (cB (v:=.ref T.eY) rfl T.CU rfl) aa))) aa)))))
   (ae (av (i:=2) cF.nd rfl (L7 rfl) (aW (paF bG (paF bG (paF bG (paF bG (paF bG (paF bG (paF bG (paF bG (paF bG (paF bG aa))))))))))))
   (ae (av (i:=2) cF.nd rfl (L7 rfl) (au kS (pv 2) (aW (paF bG (paF bG (paF bG (paF bG (paF bG aa))))))))
   (ae (dJ (i:=3) rfl cF.nd rfl (L7 rfl) kW (Ik K rfl rfl T.sT (paF (pv 2) (paF (pv 1) aa))) (fun _ _ _ _=>⟨(D1 K rfl (i:=0) (j:=1) rfl kW.nd rfl (L7 rfl) rfl (L7 rfl)),(Jm (fW (pv 1))),(pv 0)⟩) rfl)
   (ae (aQ (fW (az (bJ K rfl) rfl T.bu Mg (paF (pv 0) (paF (ug (v:=.ty "ValueError") rfl T.zE rfl rfl) aa)))) (af (aN (pv 3))) aE)
   (af (aN (aW (paF bG aa)))))))))))))),?_⟩
 walk_at "3";refine aU (fun e=>?_) (fun e=>?_)
 ·rcases h with ⟨rfl,q⟩|⟨y,C,di,bs,rfl,_⟩
  ·walk_at "4";exact ⟨small (by show 0<=1000;decide),fun p hp=>q p _ (ay hp _) ar⟩
  ·cases e
 rcases h with ⟨rfl,_⟩|⟨y,C,di,bs,rfl,hx,hc,hv,hp,q⟩
 ·exact absurd rfl e
 clear e
 obtain ⟨f,rfl,hf⟩:=D3 hp
 clear hp
 walk_at "4";refine cH hx hc (hf 0 _ rfl) ?_;walk_at "rx";refine cH hx hc (hf 1 _ rfl) ?_;walk_at "rx";refine cH hx hc (hf 2 _ rfl) ?_;walk_at "rx";refine cH hx hc (hf 3 _ rfl) ?_;walk_at "rx";refine ⟨small (by show 4<=1000;decide),fun p1 hp1=>?_⟩
 have s1:=ay hp1 (.lst [.bl (f 0),.bl (f 1),.bl (f 2),.bl (f 3)]);have g1:(upd H p1 (.lst [.bl (f 0),.bl (f 1),.bl (f 2),.bl (f 3)])) p1=some (.lst (bF f [0,1,2,3])):=ar;generalize upd H p1 (.lst [.bl (f 0),.bl (f 1),.bl (f 2),.bl (f 3)])=H1 at s1 g1;walk_at "4";refine cH (s1 _ _ hx) hc (hf 4 _ rfl) ?_;walk_at "rx";refine cH (s1 _ _ hx) hc (hf 5 _ rfl) ?_;walk_at "rx";refine cH (s1 _ _ hx) hc (hf 6 _ rfl) ?_;walk_at "rx";refine ⟨small (by show 3<=1000;decide),fun p4 hp4=>?_⟩
 have n4:p1≠p4:=fun e=>by rw [<- e,g1] at hp4;cases hp4
 refine ⟨p1,p4,_,_,rfl,rfl,by rw [aA n4];exact g1,ar,small (by show 7<=1000;decide),fun c4 hc4=>?_⟩
 have s4:=s1.trans ((ay hp4 (.lst [.bl (f 4),.bl (f 5),.bl (f 6)])).trans (ay hc4 (.lst ((bF f [0,1,2,3])++[.bl (f 4),.bl (f 5),.bl (f 6)]))));have g4:(upd (upd H1 p4 (.lst [.bl (f 4),.bl (f 5),.bl (f 6)])) c4 (.lst ((bF f [0,1,2,3])++[.bl (f 4),.bl (f 5),.bl (f 6)]))) c4=some (.lst (bF f [0,1,2,3,4,5,6])):=ar;generalize upd (upd H1 p4 (.lst [.bl (f 4),.bl (f 5),.bl (f 6)])) c4 (.lst ((bF f [0,1,2,3])++[.bl (f 4),.bl (f 5),.bl (f 6)]))=H4 at s4 g4;walk_at "4";refine cH (s4 _ _ hx) hc (hf 7 _ rfl) ?_;walk_at "rx";refine cH (s4 _ _ hx) hc (hf 8 _ rfl) ?_;walk_at "rx";refine cH (s4 _ _ hx) hc (hf 9 _ rfl) ?_;walk_at "rx";refine ⟨small (by show 3<=1000;decide),fun p7 hp7=>?_⟩
 have n7:c4≠p7:=fun e=>by rw [<- e,g4] at hp7;cases hp7
 refine ⟨c4,p7,_,_,rfl,rfl,by rw [aA n7];exact g4,ar,small (by show 10<=1000;decide),fun c7 hc7=>?_⟩
 have s7:=s4.trans ((ay hp7 (.lst [.bl (f 7),.bl (f 8),.bl (f 9)])).trans (ay hc7 (.lst ((bF f [0,1,2,3,4,5,6])++[.bl (f 7),.bl (f 8),.bl (f 9)]))));have g7:(upd (upd H4 p7 (.lst [.bl (f 7),.bl (f 8),.bl (f 9)])) c7 (.lst ((bF f [0,1,2,3,4,5,6])++[.bl (f 7),.bl (f 8),.bl (f 9)]))) c7=some (.lst (bF f [0,1,2,3,4,5,6,7,8,9])):=ar;generalize upd (upd H4 p7 (.lst [.bl (f 7),.bl (f 8),.bl (f 9)])) c7 (.lst ((bF f [0,1,2,3,4,5,6])++[.bl (f 7),.bl (f 8),.bl (f 9)]))=H7 at s7 g7;walk_at "4";refine cH (s7 _ _ hx) hc (hf 10 _ rfl) ?_;walk_at "rx";refine cH (s7 _ _ hx) hc (hf 11 _ rfl) ?_;walk_at "rx";refine cH (s7 _ _ hx) hc (hf 12 _ rfl) ?_;walk_at "rx";refine ⟨small (by show 3<=1000;decide),fun p10 hp10=>?_⟩
 have n10:c7≠p10:=fun e=>by rw [<- e,g7] at hp10;cases hp10
 refine ⟨c7,p10,_,_,rfl,rfl,by rw [aA n10];exact g7,ar,small (by show 13<=1000;decide),fun c10 hc10=>?_⟩
 have s10:=s7.trans ((ay hp10 (.lst [.bl (f 10),.bl (f 11),.bl (f 12)])).trans (ay hc10 (.lst ((bF f [0,1,2,3,4,5,6,7,8,9])++[.bl (f 10),.bl (f 11),.bl (f 12)]))));have g10:(upd (upd H7 p10 (.lst [.bl (f 10),.bl (f 11),.bl (f 12)])) c10 (.lst ((bF f [0,1,2,3,4,5,6,7,8,9])++[.bl (f 10),.bl (f 11),.bl (f 12)]))) c10=some (.lst (bF f [0,1,2,3,4,5,6,7,8,9,10,11,12])):=ar;generalize upd (upd H7 p10 (.lst [.bl (f 10),.bl (f 11),.bl (f 12)])) c10 (.lst ((bF f [0,1,2,3,4,5,6,7,8,9])++[.bl (f 10),.bl (f 11),.bl (f 12)]))=H10 at s10 g10;walk_at "4";refine cH (s10 _ _ hx) hc (hf 13 _ rfl) ?_;walk_at "rx";refine cH (s10 _ _ hx) hc (hf 14 _ rfl) ?_;walk_at "rx";refine ⟨small (by show 2<=1000;decide),fun p13 hp13=>?_⟩
 have n13:c10≠p13:=fun e=>by rw [<- e,g10] at hp13;cases hp13
 refine ⟨c10,p13,_,_,rfl,rfl,by rw [aA n13];exact g10,ar,small (by show 15<=1000;decide),fun c13 hc13=>?_⟩
 have s13:=s10.trans ((ay hp13 (.lst [.bl (f 13),.bl (f 14)])).trans (ay hc13 (.lst ((bF f [0,1,2,3,4,5,6,7,8,9,10,11,12])++[.bl (f 13),.bl (f 14)]))));have g13:(upd (upd H10 p13 (.lst [.bl (f 13),.bl (f 14)])) c13 (.lst ((bF f [0,1,2,3,4,5,6,7,8,9,10,11,12])++[.bl (f 13),.bl (f 14)]))) c13=some (.lst (bF f [0,1,2,3,4,5,6,7,8,9,10,11,12,13,14])):=ar;generalize upd (upd H10 p13 (.lst [.bl (f 13),.bl (f 14)])) c13 (.lst ((bF f [0,1,2,3,4,5,6,7,8,9,10,11,12])++[.bl (f 13),.bl (f 14)]))=H13 at s13 g13;have bl:((LX 15).map f).length=15:=by rw [LV,M4]
 rw [show bF f [0,1,2,3,4,5,6,7,8,9,10,11,12,13,14]=((LX 15).map f).map V.bl from rfl] at g13
 change ∀ d H',aj H H'->H' d=some (.lst ((pick (names15.zip ((LX 15).map f))).map V.str))->Q (.ref d) H' at q
 generalize (LX 15).map f=bs at g13 bl q;walk_at "4";refine ⟨small (by show 10<=1000;decide),fun p14 hp14=>?_⟩
 have s14:=ay hp14 (.lst (names10.map V.str));have h14':(upd H13 p14 (.lst (names10.map V.str))) p14=some (.lst (names10.map V.str)):=ar;rw [show [V.str (Nn "size"),V.str (Nn "stranger"),V.str (Nn "unit"),V.str (Nn "back"),V.str (Nn "together"),V.str (Nn "part"),V.str (Nn "steady"),V.str (Nn "wheel"),V.str (Nn "move"),V.str (Nn "marks")]=names10.map V.str from rfl];generalize upd H13 p14 (.lst (names10.map V.str))=H14 at s14 h14';walk_at "4";refine ⟨small (by show 5<=1000;decide),fun p15 hp15=>?_⟩
 rw [show [V.str (Nn "way"),V.str (Nn "kept"),V.str (Nn "group"),V.str (Nn "otherwheel"),V.str (Nn "great")]=names5.map V.str from rfl];have n15:p14≠p15:=fun e=>by rw [<- e,h14'] at hp15;cases hp15
 refine ⟨p14,p15,_,_,rfl,rfl,by rw [aA n15];exact h14',ar,small (by show _<=1000;decide),fun c15 hc15=>?_⟩
 have s15:=s14.trans ((ay hp15 (.lst (names5.map V.str))).trans (ay hc15 (.lst (names10.map V.str++names5.map V.str))));have g15:(upd (upd H14 p15 (.lst (names5.map V.str))) c15 (.lst (names10.map V.str++names5.map V.str))) c15=some (.lst (names15.map V.str)):=ar;generalize upd (upd H14 p15 (.lst (names5.map V.str))) c15 (.lst (names10.map V.str++names5.map V.str))=H15 at s15 g15;have s015:=s13.trans s15;have g13':=s15 _ _ g13;have nl:names15.length=15:=rfl;walk_at "rx";refine K1 ?_;walk_at "rx";refine G5 (K:=K) (p:=c15) (p2:=c13) (xs:=names15.map V.str) (ys:=bs.map V.bl) (by rw [LV,LV,nl,bl]) (by rw [LV,nl];decide) (fun d i σ' H' zs=>aj H15 H'/\zs=(pick ((names15.zip bs).take i)).map V.str/\∃ y z,σ'=[y,z]) (fun d i σ' H' zs z=>z.1.seq (SqL.of g15)) (fun d i σ' H' zs z=>z.1.seq (SqL.of g13')) (SqL.of g15) (SqL.of g13')
  (fun d i σ' H' zs hi z=>by rw [z.2.1,LV];exact M7 rA (by rw [MF];omega)) ?h0 ?_ ?_
 case h0=>exact fun d hd=>⟨ay hd _,rfl,_,_,rfl⟩
 ·rintro d i x y σ' H2 H3 zs R R0 hd hi hj ⟨s2,rfl,y1,y2,rfl⟩ hz s3 hR hR0;obtain ⟨o,ho,rfl⟩:∃ o,names15[i]?=some o/\V.str o=x:=by
   rw [Mn] at hi;cases hn:names15[i]? with
   | none=>rw [hn] at hi;cases hi
   | some o'=>rw [hn] at hi;exact ⟨o',rfl,ME hi⟩
  obtain ⟨b,hb,rfl⟩:∃ b,bs[i]?=some b/\V.bl b=y:=by
   rw [Mn] at hj;cases hn:bs[i]? with
   | none=>rw [hn] at hj;cases hj
   | some o'=>rw [hn] at hj;exact ⟨o',rfl,ME hj⟩
  have et:(names15.zip bs).take (i+1)=(names15.zip bs).take i++[(o,b)]:=by
   rw [MA,(Ra (z:=(o,b))).mpr ⟨ho,hb⟩];rfl
  walk_at "rx";cases b with
  | true =>
   refine oo ?_;walk_at "rx";refine hR _ _ _ (s3 _ _ hz) ⟨fun b o zz=>by rw [aA (aS zz hd)];exact s3 _ _ (s2 _ _ zz),?_,_,_,rfl⟩
   rw [et,lh,if_pos rfl,M8];rfl
  | false =>
   refine fc ?_;refine hR0 _ _ (s3 _ _ hz) ⟨s2.trans s3,?_,_,_,rfl⟩;rw [et,lh,if_neg (by decide),NR]
 rintro d2 σ2 H2 zs fd2 hd2 ⟨s2,rfl,y1,y2,rfl⟩;have hd2':H2 d2=some (.lst ((pick (names15.zip bs)).map V.str)):=by
  rw [hd2,MT (by rw [QM,LV,nl,bl];decide)]
 walk_at "3";refine G6 ((s015.trans s2) _ _ hx) hc hv ?_;walk_at "rx";exact q d2 H2 (s015.trans s2) hd2'
end
section
end
section
variable {P:Mh} {w:World} {K:LN} {mg:Str->Option Value} {base:Heap}
inductive Dq (K:LN) (vs:List V) (H:Hp) (Q:VK) (E:XK):Prop
 | mk (v:V) (ns:List Int) (k:Nat) (_:vs=[v,.int (k:Int)]) (_:At K H v ns) (_:ns.length<=63) (_:∀ z:Int,0<=z->Q (.int z) H)
def jT (T:Txt K mg):aH P w K mg base CX0 1 T.fY.f T.fY.fd ["_law_script","_law_k"] (Dq K):=by
 exists T.fY.ok Dj
 ·obtain ⟨v,ns,k,rfl,_⟩:=h;rfl
 obtain ⟨v,ns,k,rfl,hA,h63,q⟩:=h;refine ⟨_,(ae (aQ (ax eA (pv 1) (az (aT K rfl) rfl T.bA Me (paF (pv 0) aa)) (aB _)) (af (aN (au aV (aw (ah K rfl) (pv 0) (pv 1) (fun _ _=>rfl)) (au bU ag (au Kj ag ag))))) aE)
   (af (aN ag))),?_⟩
 walk_at "2";refine cy hA ?_;walk_at "rn";refine aU (fun c=>?_) (fun _=>?_)
 ·walk_at "rn";refine jR (n:=k) hA rfl (LO c) ?_;walk_at "rn";refine rG ⟨by decide,by decide,by decide⟩ ?_
  refine rG (.inl ⟨by decide,by decide⟩) ?_
  refine Ei (by decide) ?_
  exact q _ (QT _ (by decide))
 ·walk_at "rn";exact q _ (by decide)
inductive wD (K:LN) (vs:List V) (H:Hp) (Q:VK) (E:XK):Prop
 | mk (v:V) (ns:List Int) (l:Nat) (_:vs=[v,.int (l:Int)]) (_:At K H v ns) (_:ns.length<=63) (_:1<=l) (_:l<=60) (_:∀ m:Int,Q (.int m) H)
def wL (T:Txt K mg):aH P w K mg base CX0 2 T.iJ.f T.iJ.fd ["_law_script","_law_least"] (wD K):=by
 exists T.iJ.ok jJ
 ·obtain ⟨v,ns,l,rfl,_⟩:=h;rfl
 obtain ⟨v,ns,l,rfl,hA,h63,l1,l60,q⟩:=h;have lq:0<60 / l:=Tg (by omega) (by omega)
 refine ⟨_,(ae (av (i:=2) jJ.nd rfl (L7 rfl) (aG T.cg (cP T) (hr.mono (by decide)) rfl (paF (pv 0) (paF ag aa))))
   (ae (av (i:=3) jJ.nd rfl (L7 rfl) (au aV (pv 2) ag))
   (ae (aQ (ax bL (pv 3) ag (aB _)) (af (aN (au bU (pv 1) (au fP (au aV (au bq (pv 2) ag) ag) ag)))) aE)
   (ae (aQ (ax bL (pv 3) ag (aB _)) (af (aN (au fP (au aV (au bq (pv 2) ag) ag) ag))) aE)
   (ae (aQ (ax bL (pv 3) ag (aB _)) (af (aN (au bq (aG T.fY (jT T) (hr.mono (by decide)) rfl (paF (pv 0) (paF ag aa))) ag))) aE)
   (ae (aQ (ax bL (pv 3) ag (aB _)) (af (aN (au bU (pv 1) (au bj (au bq ag (pv 1)) (au aV (au bq (pv 2) ag) ag))))) aE)
   (af (aN (au bU (pv 1) (au bj ag (au aV (au bq (pv 2) ag) (au bq ag (pv 1))))))))))))),?_⟩
 walk_at "rn";refine ⟨_,ns,7,rfl,hA,?_⟩;generalize de ns 7=c;walk_at "2";refine aU (fun _=>?_) (fun _=>?_)
 ·walk_at "rn";refine rG (.inl ⟨by omega,by omega⟩) ?_
  exact q _
 walk_at "2";refine aU (fun _=>?_) (fun _=>?_)
 ·walk_at "rn";exact q _
 walk_at "2";refine aU (fun _=>?_) (fun _=>?_)
 ·walk_at "rn";refine ⟨_,ns,7,rfl,hA,h63,fun z hz=>?_⟩;walk_at "rn";refine tN (by decide) (by decide) ?_
  exact q _
 walk_at "2";refine aU (fun _=>?_) (fun _=>?_)
 ·walk_at "rn";exact q _
 ·walk_at "rn";exact q _
inductive zt (K:LN) (vs:List V) (H:Hp) (Q:VK) (E:XK):Prop
 | mk (v:V) (ns:List Int) (k:Nat) (_:vs=[v,.int (k:Int)]) (_:At K H v ns) (_:ns.length<=63) (_:k<=64) (_:∀ d H' (M:List Int),H d=none->aj H H'->H' d=some (.lst (M.map V.int))->M.length<=65->Q (.ref d) H')
def mM {M:List Int} {j:Nat} {x:Int}:(M.map V.int).set j (.int x)=(M.set j x).map V.int:=by rw [List.map_set]
def zH (T:Txt K mg):aH P w K mg base CX0 2 T.jm.f T.jm.fd ["_law_script","_law_many"] (zt K):=by
 exists T.jm.ok iN
 ·obtain ⟨v,ns,k,rfl,_⟩:=h;rfl
 obtain ⟨v,ns,k,rfl,hA,h63,k64,q⟩:=h;refine ⟨_,(ae (dJ (i:=2) rfl iN.nd rfl (L7 rfl) mC (a9 rfl T.bD (paF (pv 1) aa)) (fun _ _ _ _=>⟨(aJ (i:=0) mC.nd rfl (L7 rfl)),b6,ag⟩) rfl)
   (ae (av (i:=3) iN.nd rfl (L7 rfl) (aG T.cg (cP T) (hr.mono (by decide)) rfl (paF (pv 0) (paF ag aa))))
   (ae (av (i:=4) iN.nd rfl (L7 rfl) (au aV (pv 3) ag))
   (ae (aQ (PW.pt (dy (ax bL (pv 4) ag (aB _)) (d8 (ax fK (pv 1) ag (aB _))))) (af (a7 (BI K rfl Mi SH SJ Ki (pv 2)))) aE)
   (ae (aQ (ax bL (pv 4) ag (aB _)) (af (a7 (cJ K rfl Mi MK ML cz (pv 2) (paF ag aa)))) aE)
   (ae (aQ (PW.pt (dy (ax fK (pv 4) ag (aB _)) (d8 (ax fK (pv 1) ag (aB _))))) (af (mf (au fP (au aV (au bq (pv 3) ag) ag) ag) (l8 (pv 2) (au aV (au bq (pv 3) ag) (pv 1)) set_list))) aE)
   (ae (aQ (PW.pt (dy (ax bL (pv 4) ag (aB _)) (d8 (ax fK (pv 1) ag (aB _))))) (af (mf (au bj (au fP (au aV (au bq (pv 3) ag) ag) ag) (au bq (aG T.fY (jT T) (hr.mono (by decide)) rfl (paF (pv 0) (paF ag aa))) ag)) (l8 (pv 2) (au aV (au bq (pv 3) ag) (pv 1)) set_list))) aE)
   (af (aN (pv 2)))))))))),?_⟩
 walk_at "rn";refine nh K (n:=k) (β:=Int) rfl (by omega) (fun i=>Md i 0) (fun σ'=>∃ y,σ'=[y]) rfl (fun i _=>by simp) ⟨_,rfl⟩ ?_ ?_
 ·rintro i σ' H6 d' R' R0 hi hs ⟨y,rfl⟩ hR hR0 hd';walk_at "rn";exact hR _ _ 0 _ ⟨_,rfl⟩ (aj.refl _) rfl Om
 intro d H1 fd s1 h1;have g1:Gr K H1 d (Md k (0:Int)):=h1;have w1:=vd g1;walk_at "rn";refine ⟨_,ns,8,rfl,Rep.mono s1 hA,?_⟩;generalize de ns 8=c;walk_at "rn";refine dA (fun σ' H'=>aj H H'/\∃ M:List Int,H' d=some (.lst (M.map V.int))/\M.length<=64/\(c % 5≠1->k<=M.length)/\σ'=[some v,some (.int (k:Int)),some (.ref d),some (.int (c:Int)),some (.int ((c % 5:Nat):Int))]) (fun N hN=>?_) ?_
 ·walk_at "rn";refine aU (fun c1=>?_) (fun c1=>?_)
  ·walk_at "rn";refine aU (fun c2=>?_) (fun c2=>?_)
   ·walk_at "rn";refine ⟨.inl ⟨rfl,_,SqL.of w1⟩,?_⟩;refine ⟨d,_,.int 0,rfl,rfl,w1,by rw [Q6,Oq,if_pos (by simp;omega)],?_⟩
    refine hN _ _ ⟨eS fd s1,Md (k - 1) 0,?_,by simp;omega,fun z=>absurd c1 z,rfl⟩
    rw [ar,Q6,Q6,List.dropLast_replicate]
   ·walk_at "rn";exact hN _ _ ⟨s1,_,w1,by simp;omega,fun z=>absurd c1 z,rfl⟩
  ·walk_at "rn";exact hN _ _ ⟨s1,_,w1,by simp;omega,fun _=>by simp,rfl⟩
 rintro σ' H2 ⟨s2,M,w2,ml,mk,rfl⟩;walk_at "rn";refine dA (fun σ' H'=>aj H H'/\∃ M:List Int,H' d=some (.lst (M.map V.int))/\M.length<=65/\(2<c % 5->k<=M.length)/\σ'=[some v,some (.int (k:Int)),some (.ref d),some (.int (c:Int)),some (.int ((c % 5:Nat):Int))]) (fun N hN=>?_) ?_
 ·walk_at "rn";refine aU (fun c1=>?_) (fun c1=>?_)
  ·walk_at "rn";refine ⟨.inl ⟨rfl,_,SqL.of w2⟩,?_⟩;walk_at "rn";refine ⟨d,_,_,rfl,rfl,w2,NL (show (M.map V.int).length<=1000 by rw [LV];omega) (by rw [MW];decide),?_⟩
   refine hN _ _ ⟨eS fd s2,M++[0],by rw [ar,M8];rfl,by rw [Mq];show _+1<=_;omega,fun z=>absurd z (by omega),rfl⟩
  ·walk_at "rn";exact hN _ _ ⟨s2,M,w2,by omega,fun z=>mk (by omega),rfl⟩
 rintro σ' H3 ⟨s3,M,w3,ml,mk,rfl⟩;walk_at "rn";refine dA (fun σ' H'=>aj H H'/\∃ M:List Int,H' d=some (.lst (M.map V.int))/\M.length<=65/\(2<c % 5->k<=M.length)/\σ'=[some v,some (.int (k:Int)),some (.ref d),some (.int (c:Int)),some (.int ((c % 5:Nat):Int))]) (fun N hN=>?_) ?_
 ·walk_at "rn";refine aU (fun c1=>?_) (fun c1=>?_)
  ·walk_at "rn";refine aU (fun c2=>?_) (fun c2=>?_)
   ·have kM:=mk c1;have hj:c / 5 % k<k:=Mv _ c2;walk_at "rn";refine me w3 rfl (by rw [LV];omega) ?_
    rw [mM];exact hN _ _ ⟨eS fd s3,_,ar,by rw [NY];exact ml,fun _=>by rw [NY];exact kM,rfl⟩
   ·walk_at "rn";exact hN _ _ ⟨s3,M,w3,ml,mk,rfl⟩
  ·walk_at "rn";exact hN _ _ ⟨s3,M,w3,ml,mk,rfl⟩
 rintro σ' H4 ⟨s4,M,w4,ml,mk,rfl⟩;walk_at "rn";refine dA (fun σ' H'=>aj H H'/\∃ M:List Int,H' d=some (.lst (M.map V.int))/\M.length<=65/\σ'=[some v,some (.int (k:Int)),some (.ref d),some (.int (c:Int)),some (.int ((c % 5:Nat):Int))]) (fun N hN=>?_) ?_
 ·walk_at "rn";refine aU (fun c1=>?_) (fun c1=>?_)
  ·walk_at "rn";refine aU (fun c2=>?_) (fun c2=>?_)
   ·have kM:=mk (by omega)
    have hj:c / 5 % k<k:=Mv _ c2;walk_at "rn";refine ⟨_,ns,9,rfl,Rep.mono s4 hA,h63,fun z hz=>?_⟩;walk_at "rn";refine tN (by decide) (by decide) ?_
    refine EG ?_;walk_at "rn";refine me w4 rfl (by rw [LV];omega) ?_
    rw [mM];exact hN _ _ ⟨eS fd s4,_,ar,by rw [NY];exact ml,rfl⟩
   ·walk_at "rn";exact hN _ _ ⟨s4,M,w4,ml,rfl⟩
  ·walk_at "rn";exact hN _ _ ⟨s4,M,w4,ml,rfl⟩
 rintro σ' H5 ⟨s5,M,w5,ml,rfl⟩;walk_at "rn";exact q d H5 M fd s5 w5 ml
inductive An (K:LN) (vs:List V) (H:Hp) (Q:VK) (E:XK):Prop
 | mk (v u:V) (ns:List Int) (n e:Nat) (t:List (List Nat)) (_:vs=[v,u]) (_:At K H v ns) (_:ns.length<=63) (_:At K H u t) (_:GT n t e) (_:∀ d H' (L:List Int),H d=none->aj H H'->H' d=some (.lst (L.map V.int))->L.length<=64->Q (.ref d) H')
def BN {α:Type} {l:List α} {lo hi:Option Int} {x:α} (h:x∈cut l lo hi):x∈l:=Px (Py h)
def Ku {j n:Nat} (h:j<n):seqIndex? (j:Int) n=some j:=PySem.StrLaws.seqIndex_nonneg (i:=(j:Int)) (by omega) (by omega)
def gF {H:Hp} {p:Addr} {l:List Int} (h:H p=some (.lst (l.map V.int))):At K H (.ref p) l:=Bc (SqL.of h)
def vn {α β:Type} (f:α->β):∀ (l:List α) (j:Nat),(l.eraseIdx j).map f=(l.map f).eraseIdx j
 | [],_=>rfl
 | _ :: _,0=>rfl
 | a :: l,j+1=>by
  show f a :: (l.eraseIdx j).map f=f a :: (l.map f).eraseIdx j;rw [vn f l j]
def Ak (T:Txt K mg):aH P w K mg base CX0 3 T.j5.f T.j5.fd ["_law_script","_law_table"] (An K):=by
 exists T.j5.ok fw
 ·obtain ⟨v,u,ns,n,e,t,rfl,_⟩:=h;rfl
 obtain ⟨v,u,ns,n,e,t,rfl,hA,h63,hT,gt,q⟩:=h;have n1:=gt.pos;have n23:=gt.le;refine ⟨_,(ae (av (i:=2) fw.nd rfl (L7 rfl) (aG T.cg (cP T) (hr.mono (by decide)) rfl (paF (pv 0) (paF ag aa))))
   (ae (av (i:=3) fw.nd rfl (L7 rfl) (aW (paF (au aV (aG T.cg (cP T) (hr.mono (by decide)) rfl (paF (pv 0) (paF ag aa))) (az (aT K rfl) rfl T.bA Me (paF (pv 1) aa))) (paF (au aV (au bq (aG T.cg (cP T) (hr.mono (by decide)) rfl (paF (pv 0) (paF ag aa))) ag) (az (aT K rfl) rfl T.bA Me (paF (pv 1) aa))) aa))))
   (ae (av (i:=4) fw.nd rfl (L7 rfl) (aG T.iz (w9 T) (hr.mono (by decide)) rfl (paF (pv 1) (paF (q9 (rd K rfl) (pv 3) uq (u9 (au aV (pv 2) ag))) aa))))
   (ae (av (i:=5) fw.nd rfl (L7 rfl) (au aV (au bq (pv 2) ag) ag))
   (ae (av (i:=6) fw.nd rfl (L7 rfl) (au aV (au bq (pv 2) ag) (az (aT K rfl) rfl T.bA Me (paF (pv 4) aa))))
   (ae (aQ (ax bL (pv 5) ag (aB _)) (af (a7 (BI K rfl Mi PySem.F.slot_list_reverse PySem.F.type_list_reverse DA (pv 4)))) aE)
   (ae (aQ (ax bL (pv 5) ag (aB _)) (af (a7 (cJ K rfl Mi Rz RA vx (pv 4) (paF (pv 6) (paF (aw (ah K rfl) (pv 4) (pv 6) (fun _ _=>rfl)) aa))))) aE)
   (ae (aQ (ax bL (pv 5) ag (aB _)) (af (a7 (cJ K rfl Mi SH SJ Gf (pv 4) (paF (pv 6) aa)))) aE)
   (ae (aQ (ax bL (pv 5) ag (aB _)) (af (mf (au aV (au bq (aG T.cg (cP T) (hr.mono (by decide)) rfl (paF (pv 0) (paF ag aa))) ag) (az (aT K rfl) rfl T.bA Me (paF (pv 1) aa))) (l8 (pv 4) (pv 6) set_list))) aE)
   (ae (aQ (ax bL (pv 5) ag (aB _)) (af (mf (au fP (au fP ag ag) (au bq (aG T.fY (jT T) (hr.mono (by decide)) rfl (paF (pv 0) (paF ag aa))) ag)) (l8 (pv 4) (pv 6) set_list))) aE)
   (ae (aQ (ax bL (pv 5) ag (aB _)) (af (mf (au bj (az (aT K rfl) rfl T.bA Me (paF (pv 1) aa)) (au bq (aG T.fY (jT T) (hr.mono (by decide)) rfl (paF (pv 0) (paF ag aa))) ag)) (l8 (pv 4) (pv 6) set_list))) aE)
   (af (aN (pv 4)))))))))))))),?_⟩
 walk_at "rn";refine ⟨_,ns,4,rfl,hA,?_⟩;generalize de ns 4=c;walk_at "1";refine ⟨_,ns,5,rfl,hA,?_⟩;walk_at "rn";refine cy hT ?_;rw [gt.len];walk_at "rn";refine ⟨_,ns,5,rfl,hA,?_⟩;walk_at "rn";refine cy hT ?_;rw [gt.len];walk_at "rn";refine ⟨small (by show 2<=1000;decide),fun p1 hp1=>?_⟩
 have s1:=ay hp1 (.lst (aO [de ns 5 % n,de ns 5 / 23 % n]));have w1:(upd H p1 (.lst (aO [de ns 5 % n,de ns 5 / 23 % n]))) p1=some (.lst (aO [de ns 5 % n,de ns 5 / 23 % n])):=ar;have hSn:∀ y∈[de ns 5 % n,de ns 5 / 23 % n],y<n:=fun y hy=>by
  rcases Mp.mp hy with rfl|hy
  ·exact Mv _ (by omega)
  ·rw [LY.mp hy];exact Mv _ (by omega)
 generalize de ns 5=c5 at s1 w1 hSn;rw [show [V.int ((c5 % n:Nat):Int),V.int ((c5 / 23 % n:Nat):Int)]=aO [c5 % n,c5 / 23 % n] from rfl];generalize upd H p1 (.lst (aO [c5 % n,c5 / 23 % n]))=H1 at s1 w1 ⊢;walk_at "rn";refine zT (eI w1) fun p2 H2 _ s2 g2=>?_;have s02:=s1.trans s2;walk_at "rn";refine ⟨_,_,n,e,t,_,rfl,Rep.mono s02 hT,gt,g2.at,fun y hy=>hSn y (BN hy),fun d H3 R hd s3 g3 G=>?_⟩;have s03:=s02.trans s3;have fd:=s02.free hd;have pt:=G.part gt fun y hy=>hSn y (BN hy);have rl:=pt.len;have r1:0<R.length:=M9.mpr pt.ne;have w3:H3 d=some (.lst ((R.map fun (x:Nat)=>(x:Int)).map V.int)):=by rw [<- fk];exact jB g3
 walk_at "rn";refine cy g3.at ?_;walk_at "rn";have hat:c / 24 % R.length<R.length:=Mv _ r1;generalize c / 24 % R.length=j at hat;generalize c / 3 % 8=wy;have zl:(R.map fun (x:Nat)=>(x:Int)).length=R.length:=LV ..;have go:aj H H3/\∃ L:List Int,H3 d=some (.lst (L.map V.int))/\L.length<=64/\(0<wy->L=R.map fun (x:Nat)=>(x:Int)):=⟨s03,_,w3,by omega,fun _=>rfl⟩
 obtain ⟨s4,L,w4,ll,hL⟩:=go;walk_at "rn";refine dA (fun σ' H'=>aj H H'/\∃ L:List Int,H' d=some (.lst (L.map V.int))/\L.length<=64/\(1<wy->L=R.map fun (x:Nat)=>(x:Int))/\σ'=[some v,some u,some (.int (c:Int)),some (.ref p1),some (.ref d),some (.int (wy:Int)),some (.int (j:Int))]) (fun N hN=>?_) ?_
 ·walk_at "rn";refine aU (fun c1=>?_) (fun c1=>?_)
  ·have eL:=hL (by omega)
   have l1:L.length=R.length:=by rw [eL];exact zl
   walk_at "rn";refine ⟨.inl ⟨rfl,_,SqL.of w4⟩,?_⟩;refine ⟨d,_,rfl,rfl,w4,?_⟩;exact hN _ _ ⟨eS fd s4,L.reverse,by rw [ar,List.map_reverse],by rw [S6];exact ll,fun z=>absurd z (by omega),rfl⟩
  ·walk_at "rn";exact hN _ _ ⟨s4,L,w4,ll,fun z=>hL (by omega),rfl⟩
 clear s4 w4 ll hL
 rintro σ' H4 ⟨s4,L,w4,ll,hL,rfl⟩;walk_at "rn";refine dA (fun σ' H'=>aj H H'/\∃ L:List Int,H' d=some (.lst (L.map V.int))/\L.length<=64/\(2<wy->L=R.map fun (x:Nat)=>(x:Int))/\σ'=[some v,some u,some (.int (c:Int)),some (.ref p1),some (.ref d),some (.int (wy:Int)),some (.int (j:Int))]) (fun N hN=>?_) ?_
 ·walk_at "rn";refine aU (fun c1=>?_) (fun c1=>?_)
  ·have eL:=hL (by omega)
   have l1:L.length=R.length:=by rw [eL];exact zl
   walk_at "rn";refine ⟨.inl ⟨rfl,_,SqL.of w4⟩,?_⟩;walk_at "rn";refine jR (n:=j) (gF w4) rfl (LO (by omega)) ?_
   walk_at "rn";refine ⟨d,_,_,_,rfl,rfl,w4,by omega,by rw [LV];omega,by rw [LV];omega,?_⟩
   refine hN _ _ ⟨eS fd s4,L.take j++L[j] :: L.drop j,?_,?_,fun z=>absurd z (by omega),rfl⟩
   ·rw [ar,M8,My,Tq,Tr];rfl
   ·rw [Mq,MN,MF,QC];omega
  ·walk_at "rn";exact hN _ _ ⟨s4,L,w4,ll,fun z=>hL (by omega),rfl⟩
 clear s4 w4 ll hL
 rintro σ' H4 ⟨s4,L,w4,ll,hL,rfl⟩;walk_at "rn";refine dA (fun σ' H'=>aj H H'/\∃ L:List Int,H' d=some (.lst (L.map V.int))/\L.length<=64/\(3<wy->L=R.map fun (x:Nat)=>(x:Int))/\σ'=[some v,some u,some (.int (c:Int)),some (.ref p1),some (.ref d),some (.int (wy:Int)),some (.int (j:Int))]) (fun N hN=>?_) ?_
 ·walk_at "rn";refine aU (fun c1=>?_) (fun c1=>?_)
  ·have eL:=hL (by omega)
   have l1:L.length=R.length:=by rw [eL];exact zl
   walk_at "rn";refine ⟨.inl ⟨rfl,_,SqL.of w4⟩,?_⟩;walk_at "rn";refine ⟨d,_,_,j,.int L[j],rfl,rfl,w4,by omega,by omega,Ku (by rw [LV];omega),by rw [Mn,LO (by omega)];rfl,?_⟩
   refine hN _ _ ⟨eS fd s4,L.eraseIdx j,?_,?_,fun z=>absurd z (by omega),rfl⟩
   ·rw [ar]
    congr 2
    exact (vn _ _ _).symm
   ·have:=ow L j;omega
  ·walk_at "rn";exact hN _ _ ⟨s4,L,w4,ll,fun z=>hL (by omega),rfl⟩
 clear s4 w4 ll hL
 rintro σ' H4 ⟨s4,L,w4,ll,hL,rfl⟩;walk_at "rn";refine dA (fun σ' H'=>aj H H'/\∃ L:List Int,H' d=some (.lst (L.map V.int))/\L.length<=64/\(4<wy->L=R.map fun (x:Nat)=>(x:Int))/\σ'=[some v,some u,some (.int (c:Int)),some (.ref p1),some (.ref d),some (.int (wy:Int)),some (.int (j:Int))]) (fun N hN=>?_) ?_
 ·walk_at "rn";refine aU (fun c1=>?_) (fun c1=>?_)
  ·have eL:=hL (by omega)
   have l1:L.length=R.length:=by rw [eL];exact zl
   walk_at "rn";refine ⟨_,ns,5,rfl,Rep.mono s4 hA,?_⟩;walk_at "rn";refine cy (Rep.mono s4 hT) ?_;rw [gt.len];walk_at "rn";refine me w4 rfl (by rw [LV];omega) ?_
   rw [mM];exact hN _ _ ⟨eS fd s4,_,ar,by rw [NY];exact ll,fun z=>absurd z (by omega),rfl⟩
  ·walk_at "rn";exact hN _ _ ⟨s4,L,w4,ll,fun z=>hL (by omega),rfl⟩
 clear s4 w4 ll hL
 rintro σ' H4 ⟨s4,L,w4,ll,hL,rfl⟩;walk_at "rn";refine dA (fun σ' H'=>aj H H'/\∃ L:List Int,H' d=some (.lst (L.map V.int))/\L.length<=64/\(5<wy->L=R.map fun (x:Nat)=>(x:Int))/\σ'=[some v,some u,some (.int (c:Int)),some (.ref p1),some (.ref d),some (.int (wy:Int)),some (.int (j:Int))]) (fun N hN=>?_) ?_
 ·walk_at "rn";refine aU (fun c1=>?_) (fun c1=>?_)
  ·have eL:=hL (by omega)
   have l1:L.length=R.length:=by rw [eL];exact zl
   walk_at "rn";refine ⟨_,ns,6,rfl,Rep.mono s4 hA,h63,fun z hz=>?_⟩;walk_at "rn";refine tN (by decide) (by decide) ?_
   walk_at "rn";refine me w4 rfl (by rw [LV];omega) ?_
   rw [mM];exact hN _ _ ⟨eS fd s4,_,ar,by rw [NY];exact ll,fun z=>absurd z (by omega),rfl⟩
  ·walk_at "rn";exact hN _ _ ⟨s4,L,w4,ll,fun z=>hL (by omega),rfl⟩
 clear s4 w4 ll hL
 rintro σ' H4 ⟨s4,L,w4,ll,hL,rfl⟩;walk_at "rn";refine dA (fun σ' H'=>aj H H'/\∃ L:List Int,H' d=some (.lst (L.map V.int))/\L.length<=64/\(6<wy->L=R.map fun (x:Nat)=>(x:Int))/\σ'=[some v,some u,some (.int (c:Int)),some (.ref p1),some (.ref d),some (.int (wy:Int)),some (.int (j:Int))]) (fun N hN=>?_) ?_
 ·walk_at "rn";refine aU (fun c1=>?_) (fun c1=>?_)
  ·have eL:=hL (by omega)
   have l1:L.length=R.length:=by rw [eL];exact zl
   walk_at "rn";refine cy (Rep.mono s4 hT) ?_;rw [gt.len];walk_at "rn";refine ⟨_,ns,6,rfl,Rep.mono s4 hA,h63,fun z hz=>?_⟩;walk_at "rn";refine tN (by decide) (by decide) ?_
   refine EG ?_;walk_at "rn";refine me w4 rfl (by rw [LV];omega) ?_
   rw [mM];exact hN _ _ ⟨eS fd s4,_,ar,by rw [NY];exact ll,fun z=>absurd z (by omega),rfl⟩
  ·walk_at "rn";exact hN _ _ ⟨s4,L,w4,ll,fun z=>hL (by omega),rfl⟩
 clear s4 w4 ll hL
 rintro σ' H4 ⟨s4,L,w4,ll,hL,rfl⟩;walk_at "rn";exact q d H4 L fd s4 w4 ll
def vE {R:List Nat} (s:R.Pairwise (· < ·)) {i a:Nat} (h:R[i]?=some a):∀ i',i' < i->R[i']?≠some a:=fun i' hi' z=>by
 obtain ⟨h1,e1⟩:=LQ.mp h;obtain ⟨h2,e2⟩:=LQ.mp z;have:=Mw.mp s i' i h2 h1 hi';omega
def rT:Option (Nat×Nat)->List SI
 | none=>[]
 | some (a,b)=>[.inl "way",.inr (a:Int),.inr (b:Int)]
inductive yX (K:LN) (vs:List V) (H:Hp) (Q:VK) (E:XK):Prop
 | mk (v:V) (dp dm:Addr) (n e j:Nat) (t:List (List Nat)) (R M':List Nat) (_:vs=[v,.ref dp,.ref dm,.int (j:Int)]) (_:At K H v t) (_:GT n t e) (_:H dp=some (.lst (aO R))) (_:IsPart n t R) (_:At K H (.ref dm) M') (_:M'.length=R.length) (_:0<j) (_:∀ d H' o,aj H H'->H' d=some (.lst ((rT o).map siV))->fB t R M' j o->Q (.ref d) H')
def zL (T:Txt K mg):aH P w K mg base CX0 1 T.jj.f T.jj.fd ["_law_table","_law_part","_law_marks_here","_law_spokes_here"] (yX K):=by
 exists T.jj.ok iP
 ·obtain ⟨v,dp,dm,n,e,j,t,R,M',rfl,_⟩:=h;rfl
 obtain ⟨v,dp,dm,n,e,j,t,R,M',rfl,hT,gt,hR,pt,aM,ml',j0,q⟩:=h;have rl:=pt.len;have n23:=gt.le;have aR:At K H (.ref dp) R:=eI hR;refine ⟨_,(ae (a8 L6 rfl (aY K rfl (pv 1)) (aJ (i:=4) iP.nd rfl (L7 rfl)) (af (a8 L6 rfl (aY K rfl (pv 1)) (aJ (i:=5) iP.nd rfl (L7 rfl)) (ae (av (i:=6) iP.nd rfl (L7 rfl) (au bj (aw (ah K rfl) (pv 2) (cJ K rfl Mi O2 Qe rf (pv 1) (paF (pv 4) aa)) (fun _ _=>rfl)) (aw (ah K rfl) (pv 2) (cJ K rfl Mi O2 Qe rf (pv 1) (paF (pv 5) aa)) (fun _ _=>rfl))))
   (af (aQ (ax dM (aw (ah K rfl) (pv 2) (cJ K rfl Mi O2 Qe rf (pv 1) (paF (aw (ah K rfl) (aw (ah K rfl) (pv 0) (pv 4) (fun _ _=>rfl)) (pv 5) (fun _ _=>rfl)) aa)) (fun _ _=>rfl)) (au aV (pv 6) (pv 3)) (aB _)) (af (aN (aW (paF bG (paF (pv 4) (paF (pv 5) aa)))))) aE))))))
   (af (aN (aW aa)))),?_⟩
 walk_at "rn";refine dB aR (fun i σ' H'=>H'=H/\(∀ j',j' < i->∀ k',k' < R.length->iY t R M' j j' k')/\∃ x6 x7 x8,σ'=[some v,some (.ref dp),some (.ref dm),some (.int (j:Int)),x6,x7,x8]) ⟨rfl,fun j hj=>absurd hj (by omega),_,_,_,rfl⟩ (fun i σ' H' y=>by rw [y.1];exact aj.refl _) ?_ ?_
 ·rintro i a w' σ' H' hia hw ⟨rfl,hj,x6,x7,x8,rfl⟩;cases (show w'=V.int (a:Int) from hw);have il:i<R.length:=(LQ.mp hia).1;have haR:=LR hia;have han:=pt.lt a haR;have mi:=getD_some (l:=M') 0 (show i<M'.length by omega)
  have ea:R.getD i 0=a:=by rw [LS,hia];rfl
  walk_at "rn";refine dB aR (fun k' σ' H1=>H1=H'/\(∀ k2,k2<k'->iY t R M' j i k2)/\∃ x7 x8,σ'=[some v,some (.ref dp),some (.ref dm),some (.int (j:Int)),some (.int (a:Int)),x7,x8]) ⟨rfl,fun j hj=>absurd hj (by omega),_,_,rfl⟩ (fun i σ' H1 y=>by rw [y.1];exact aj.refl _) ?_ ?_
  ·rintro k' b w2 σ' H1' hb hw2 ⟨rfl,hk',x7,x8,rfl⟩;cases (show w2=V.int (b:Int) from hw2);have kl:k' < R.length:=(LQ.mp hb).1;have hbR:=LR hb;have hbn:=pt.lt b hbR;have mk':=getD_some (l:=M') 0 (show k' < M'.length by omega)
   have eb:R.getD k' 0=b:=by rw [LS,hb];rfl
   have hab:=pt.cl a haR b hbR;have hx:=MZ hab;have mx:=getD_some (l:=M') 0 (show R.idxOf (tb t a b)<M'.length by omega)
   have oke:iY t R M' j i k'↔M'.getD (R.idxOf (tb t a b)) 0=(M'.getD i 0+M'.getD k' 0) % j:=by
    unfold iY;rw [ea,eb]
   walk_at "rn";refine ⟨.inl ⟨rfl,_,SqL.of hR⟩,?_⟩;walk_at "rn";refine vj hR hia (vE pt.srt hia) ?_;refine bN aM mi ?_;walk_at "rn";refine ⟨.inl ⟨rfl,_,SqL.of hR⟩,?_⟩;walk_at "rn";refine vj hR hb (vE pt.srt hb) ?_;refine bN aM mk' ?_;walk_at "2";refine ⟨.inl ⟨rfl,_,SqL.of hR⟩,?_⟩;walk_at "rn";refine cM hT rfl (gt.get han) fun w1 hw1=>?_;walk_at "rn";refine bN hw1 (gt.dX han hbn) ?_;walk_at "rn";refine vj hR (kf hab) (fun i' hi'=>vt hi') ?_;refine bN aM mx ?_;walk_at "rn";refine bH (fun y=>?_) (fun y=>?_)
   ·walk_at "1";refine ⟨small (by show 3<=1000;decide),fun pd hpd=>?_⟩
    exact q pd _ (some (a,b)) (ay hpd _) ar ⟨i,k',il,kl,ea,eb,fun y'=>y (oke.mp y'),hj,hk'⟩
   ·walk_at "rn";refine ⟨rfl,fun k2 hk2=>?_,_,_,rfl⟩;rcases Mu k2 k' with y' | y'
    ·exact hk' k2 y'
    ·have:k2=k':=by omega
     rw [this];exact oke.mpr y
  ·rintro σ' H1' ⟨rfl,hk',x7,x8,rfl⟩;walk_at "rn";refine ⟨rfl,fun j' hj2 k2 hk2=>?_,_,_,_,rfl⟩;rcases Mu j' i with y|y
   ·exact hj j' y k2 hk2
   ·have:j'=i:=by omega
    rw [this];exact hk' k2 hk2
 ·rintro σ' H' ⟨rfl,hj,x6,x7,x8,rfl⟩;walk_at "1";refine ⟨small (by show 0<=1000;decide),fun pd hpd=>?_⟩
  exact q pd _ none (ay hpd _) ar (fun j' hj2 k2 hk2=>hj j' hj2 k2 hk2)
inductive uN (K:LN) (vs:List V) (H:Hp) (Q:VK) (E:XK):Prop
 | mk (v u:V) (n e:Nat) (t:List (List Nat)) (L:List Int) (_:vs=[v,u]) (_:At K H v t) (_:GT n t e) (_:At K H u L) (_:L.length<=64) (_:(gJ n t L->Q (.bl true) H)) (_:(¬ gJ n t L->Q (.bl false) H))
def pD {n:Nat} {t:List (List Nat)} {L:List Int} (h:gJ n t L):(∀ i,i<L.length->0<=L.getD i 0/\L.getD i 0<(n:Int))/\∀ i j,i<j->j<L.length->L.getD i 0<L.getD j 0:=by
 obtain ⟨R,rfl,pt⟩:=h;have g:∀ i,i<R.length->(R.map fun (x:Nat)=>(x:Int)).getD i 0=((R.getD i 0:Nat):Int):=fun i hi=>by
  rw [LS,Mn,LO hi,LS,LO hi];rfl
 refine ⟨fun i hi=>?_,fun i j hij hj=>?_⟩
 ·rw [LV] at hi;rw [g i hi];have:=pt.lt _ (LR (getD_some (l:=R) 0 hi));omega
 ·rw [LV] at hj;rw [g i (by omega),g j hj]
  have:=Mw.mp pt.srt i j (by omega) hj hij
  rw [LS,LO (by omega),LS,LO hj]
  simp only [OF];omega
def vk (T:Txt K mg):aH P w K mg base CX0 1 T.gE.f T.gE.fd ["_law_table","_law_part"] (uN K):=by
 exists T.gE.ok fZ
 ·obtain ⟨v,u,n,e,t,L,rfl,_⟩:=h;rfl
 obtain ⟨v,u,n,e,t,L,rfl,hT,gt,hL,ll,q1,q2⟩:=h;have n23:=gt.le;refine ⟨_,(ae (aQ (ax bL (az (aT K rfl) rfl T.bA Me (paF (pv 1) aa)) ag (aB _)) (af (aN gL)) aE)
   (ae (a8 L6 rfl (a9 rfl T.bD (paF (az (aT K rfl) rfl T.bA Me (paF (pv 1) aa)) aa)) (aJ (i:=2) fZ.nd rfl (L7 rfl)) (af (aQ (PW.pt (gG (ax eA (aw (ah K rfl) (pv 1) (pv 2) (fun _ _=>rfl)) ag (aB _)) (gG (ax lr (aw (ah K rfl) (pv 1) (pv 2) (fun _ _=>rfl)) (az (aT K rfl) rfl T.bA Me (paF (pv 0) aa)) (aB _)) (gq (PW.pt (dy (ax Lx (aw (ah K rfl) (pv 1) (pv 2) (fun _ _=>rfl)) (aw (ah K rfl) (pv 1) (az (DN rfl) rfl T.La PyProof.Rows.boot_max (paF (au fP (pv 2) ag) (paF ag aa))) (fun _ _=>rfl)) (aB _)) (d8 (ax fK (pv 2) ag (aB _))))))))) (af (aN gL)) aE)))
   (ae (a8 L6 rfl (aY K rfl (pv 1)) (aJ (i:=3) fZ.nd rfl (L7 rfl)) (af (a8 L6 rfl (aY K rfl (pv 1)) (aJ (i:=4) fZ.nd rfl (L7 rfl)) (af (aQ (ax (fO K rfl) (aw (ah K rfl) (aw (ah K rfl) (pv 0) (pv 3) (fun _ _=>rfl)) (pv 4) (fun _ _=>rfl)) (pv 1) (by with_unfolding_all rfl)) (af (aN gL)) aE)))))
   (af (aN gL))))),?_⟩
 walk_at "2";refine cy hL ?_;walk_at "rn";refine aU (fun z=>?_) (fun l0=>?_)
 ·walk_at "rn";refine q2 fun ⟨R,e,pt⟩=>?_;have:=M9.mpr pt.ne;rw [e,LV] at z;omega
 walk_at "rn";refine cy hL ?_;refine bW (n:=L.length) rfl (by omega) (fun i σ' H'=>H'=H/\(∀ j,j<i->0<=L.getD j 0/\L.getD j 0<(n:Int))/\(∀ j,j+1<i->L.getD j 0<L.getD (j+1) 0)/\∃ x2 x3 x4,σ'=[some v,some u,x2,x3,x4]) ⟨rfl,fun j hj=>absurd hj (by omega),fun j hj=>absurd hj (by omega),_,_,_,rfl⟩ ?_ ?_
 ·rintro i σ' H' hi ⟨rfl,h1,h2,x2,x3,x4,rfl⟩;have gi:=getD_some (l:=L) 0 hi;have next:0<=L.getD i 0->L.getD i 0<(n:Int)->(0<i->L.getD (i - 1) 0<L.getD i 0)->(∀ j,j<i+1->0<=L.getD j 0/\L.getD j 0<(n:Int))/\(∀ j,j+1<i+1->L.getD j 0<L.getD (j+1) 0):=fun a b c=>⟨fun j hj=>by
   rcases Mu j i with y|y
   ·exact h1 j y
   ·have:j=i:=by omega
    subst this;exact ⟨a,b⟩,fun j hj=>by
   rcases Mu (j+1) i with y|y
   ·exact h2 j y
   ·have:j+1=i:=by omega
    subst this;exact c (by omega)⟩
  walk_at "2";refine jR (n:=i) hL rfl gi ?_;walk_at "rn";refine aU (fun z=>?_) (fun z1=>?_)
  ·walk_at "rn";exact q2 fun pz=>by have:=((pD pz).1 i hi).1;omega
  walk_at "rn";refine jR (n:=i) hL rfl gi ?_;walk_at "rn";refine cy hT ?_;rw [gt.len];walk_at "rn";refine aU (fun z=>?_) (fun z2=>?_)
  ·walk_at "rn";exact q2 fun pz=>by have:=((pD pz).1 i hi).2;omega
  walk_at "rn";refine jR (n:=i) hL rfl gi ?_;walk_at "rn";refine Ll ?_;have em:max ((i:Int) - ((1:Nat):Int)) ((0:Nat):Int)=((i - 1:Nat):Int):=by omega
  rw [em];refine jR (n:=i - 1) hL rfl (getD_some (l:=L) 0 (by omega)) ?_
  walk_at "rn";refine aU (fun z3=>?_) (fun z3=>?_)
  ·walk_at "rn";refine aU (fun z4=>?_) (fun z4=>?_)
   ·walk_at "rn";exact q2 fun pz=>by have:=(pD pz).2 (i - 1) i (by omega) hi;omega
   ·walk_at "rn";obtain ⟨a,b⟩:=next (by omega) (by omega) (fun y=>by omega)
    exact ⟨rfl,a,b,_,_,_,rfl⟩
  ·walk_at "rn";obtain ⟨a,b⟩:=next (by omega) (by omega) (fun y=>by omega)
   exact ⟨rfl,a,b,_,_,_,rfl⟩
 rintro σ' H' ⟨rfl,h1,h2,x2,x3,x4,rfl⟩;obtain ⟨R,rfl⟩:=qm (L:=L) fun x hx=>by
  obtain ⟨i,hi⟩:=Mr hx;have il:=(LQ.mp hi).1;have:=(h1 i il).1;rw [LS,hi] at this;exact this
 have hR:=dU hL;have srt:R.Pairwise (· < ·):=by
  have:=oC.mpr h2;rw [NW] at this;exact this.imp fun z=>by omega
 have lt:∀ x∈R,x<n:=fun x hx=>by
  obtain ⟨i,hi⟩:=Mr hx;have il:=(LQ.mp hi).1;have:=(h1 i (by rw [LV];exact il)).2
  rw [LS,Mn,hi] at this;have e1:((some x).map fun (x:Nat)=>(x:Int)).getD 0=(x:Int):=rfl;rw [e1] at this;omega
 rw [LV] at l0;have ne:R≠[]:=fun z=>l0 (by rw [z];rfl)
 have bad:∀ a∈R,∀ b∈R,tb t a b∉R->¬ gJ n t (R.map fun (x:Nat)=>(x:Int)):=fun a ha b hb z ⟨R',e',pt⟩=>by
  have:=yM e';subst this;exact z (pt.cl a ha b hb)
 walk_at "rn";refine dB hR (fun i σ' H1=>H1=H'/\(∀ a∈R.take i,∀ b∈R,tb t a b∈R)/\∃ x2 x3 x4,σ'=[some v,some u,x2,x3,x4]) ⟨rfl,fun a ha=>absurd ha (by simp),_,_,_,rfl⟩ (fun i σ' H1 y=>by rw [y.1];exact aj.refl _) ?_ ?_
 ·rintro i a w' σ' H1 ha hw ⟨rfl,hi,x2,x3,x4,rfl⟩;cases (show w'=V.int (a:Int) from hw);have haR:=LR ha;have han:=lt a haR;walk_at "rn";refine dB hR (fun j σ' H2=>H2=H1/\(∀ b∈R.take j,tb t a b∈R)/\∃ x2 x4,σ'=[some v,some u,x2,some (.int (a:Int)),x4]) ⟨rfl,fun a ha=>absurd ha (by simp),_,_,rfl⟩ (fun i σ' H1 y=>by rw [y.1];exact aj.refl _) ?_ ?_
  ·rintro j b w2 σ' H2 hb hw2 ⟨rfl,hj,x2,x4,rfl⟩;cases (show w2=V.int (b:Int) from hw2);have hbR:=LR hb;have hbn:=lt b hbR;walk_at "2";refine cM hT rfl (gt.get han) fun w1 hw1=>?_;walk_at "rn";refine bN hw1 (gt.dX han hbn) ?_;walk_at "rn";refine ql hR ?_;walk_at "rn";refine bH (fun z=>?_) (fun z=>?_)
   ·walk_at "rn";exact q2 (bad a haR b hbR z)
   ·walk_at "rn";refine ⟨rfl,fun b' hb'=>?_,_,_,rfl⟩;rw [MA,hb] at hb';rcases Mb.mp hb' with y|y
    ·exact hj b' y
    ·rw [show b'=b by simpa using y];exact z
  ·rintro σ' H2 ⟨rfl,hj,x2,x4,rfl⟩;rw [MJ] at hj;walk_at "rn";refine ⟨rfl,fun a' ha' b' hb'=>?_,_,_,_,rfl⟩;rw [MA,ha] at ha';rcases Mb.mp ha' with y|y
   ·exact hi a' y b' hb'
   ·rw [show a'=a by simpa using y];exact hj b' hb'
 ·rintro σ' H1 ⟨rfl,hi,x2,x3,x4,rfl⟩;rw [MJ] at hi;walk_at "rn";exact q1 ⟨R,rfl,srt,lt,ne,hi⟩
def iE (T:Txt K mg):aH P w K mg base (CXR P w) 4 T.bV.f T.bV.fd ["group","part","marks","spokes"] (fun vs H Q E=>l5 T.aI K vs H Q E\/fM T.bt T.a0 T.bc T.aI K vs H Q E):=aH.both (l9 T) (sN T)
def nL (CE C:Addr) (K:LN):Sp:=fun vs H _ E=>∃ (g:Addr) (v u:V) (n e m l a b:Nat) (t:List (List Nat)) (R M:List Nat),vs=[.ref g,v,u,.int (m:Int)]/\aX C H g n t e/\GT n t e/\At K H v R/\IsPart n t R/\At K H u M/\M.length=R.length/\(∀ x∈M,x<m) /\
 cX (cu n t e) l/\m % l=0/\0<m/\m<=60/\fB t R M m (some (a,b))/\∀ d H',aj H H'->Fld H' d [("one",.int (a:Int)),("two",.int (b:Int))]->E (.ref CE) d H'
def wx (T:Txt K mg):aH P w K mg base (CXR P w) 5 T.cT.f T.cT.fd ["group","part","marks","spokes"] (fun vs H Q E=>fM T.bt T.a0 T.bc T.aI K vs H Q E\/nL T.bI T.aI K vs H Q E):=by
 refine aH.orR ?_ ?_
 ·exists T.cT.fn.okX eR
  ·obtain ⟨g,v,u,m,n,e,t,L,M,CE,rfl,_⟩:=h;rfl
  obtain ⟨g,v,u,m,n,e,t,L,M,CE,rfl,h⟩:=h;refine ⟨_,fun okc=>(ae (av (i:=4) eR.nd rfl (L7 rfl) (oM T.bV (iE T) (hr.mono (by decide)) rfl fJ (paF (pv 0) (paF (pv 1) (paF (pv 2) (paF (pv 3) aa))))))
   ju),?_⟩
  walk_at "rn";exact .inr ⟨g,v,u,m,n,e,t,L,M,CE,rfl,h⟩
 ·exists T.cT.fn.okX eR
  ·obtain ⟨g,v,u,n,e,m,l,a,b,t,R,M,rfl,_⟩:=h;rfl
  obtain ⟨g,v,u,n,e,m,l,a,b,t,R,M,rfl,hG,gt,hR,pt,hM,ml,mm,hl,ml0,m1,m60,br,q⟩:=h;refine ⟨_,fun okc=>(ae (av (i:=4) eR.nd rfl (L7 rfl) (oM T.bV (iE T) (hr.mono (by decide)) rfl fJ (paF (pv 0) (paF (pv 1) (paF (pv 2) (paF (pv 3) aa))))))
   (af (aQ (jz (qg (pv 4))) (af (pT T.md (FK T) T.IB (hr.mono (by decide)) la rfl rfl rfl T.uI (paF (aw (ke K rfl) (pv 4) ag (fun _ _=>rfl)) (paF (aw (ke K rfl) (pv 4) ag (fun _ _=>rfl)) aa)))) aE))),?_⟩
  walk_at "rn";refine .inl ⟨g,v,u,_,n,e,m,l,t,R,M,rfl,hG,gt,hR,pt,hM,ml,mm,.inl rfl,hl,ml0,m1,m60,fun x H1 o s1 hx hb=>?_⟩;obtain rfl:=hb.uni br;obtain ⟨p,rfl,hp⟩:=hx;walk_at "2";rw [if_pos (by simp)]
  walk_at "rn";refine rQ ?_;walk_at "rn";refine qi (i:=0) hp rfl ?_;walk_at "rn";refine qi (i:=1) hp rfl ?_;walk_at "rn";exact rq rfl (by show 2<=1000;decide) fun d H2 s2 f2=>q d H2 (s1.trans s2) f2
def vK (T:Txt K mg):Sp:=fun vs H Q E=>∃ (g:Addr) (v u:V) (x m:Int),vs=[.ref g,v,u,.int x,.int m]/\(fM T.bt T.a0 T.bc T.aI K [.ref g,v,u,.int m] H Q E\/nL T.bI T.aI K [.ref g,v,u,.int m] H Q E)
def Fv (T:Txt K mg):aH P w K mg base (CXR P w) 6 T.ee.f T.ee.fd ["group","part","marks","thing","spokes"] (vK T):=by
 exists T.ee.fn.okX rh
 ·obtain ⟨g,v,u,x,m,rfl,_⟩:=h;rfl
 obtain ⟨g,v,u,x,m,rfl,h⟩:=h;refine ⟨_,fun okc=>(ae (a7 (iy T.cT (wx T) (hr.mono (by decide)) rfl fJ (paF (pv 0) (paF (pv 1) (paF (pv 2) (paF (pv 4) aa))))))
   ju),?_⟩
 walk_at "rn";exact h
def EU (T:Txt K mg):aH P w K mg base (CXR P w) 6 T.ee.f T.ee.fd ["group","part","marks","thing","spokes"] (fun vs H Q E=>(yS T.aI K vs H Q E\/vL T.bg T.bK T.aI K vs H Q E)\/vK T vs H Q E):=aH.orR (aH.both (Hy T) (D4 T)) (Fv T)
def zN (CP CB C:Addr) (K:LN):Sp:=fun vs H _ E=>∃ (g:Addr) (v:V) (m:Int) (n e:Nat) (t:List (List Nat)) (L:List Int) (CE:Addr),vs=[.ref g,v,.int m]/\aX C H g n t e/\GT n t e/\At K H v L/\L.length<=64/\((¬ gJ n t L/\CE=CP)\/(gJ n t L/\¬ dC n t e m/\CE=CB))/\∀ H',aj H H'->E (.ref CE) none H'
def GL (T:Txt K mg):aH P w K mg base (CXR P w) 6 T.iI.f T.iI.fd ["group","part","spokes"] (zN T.bt T.a0 T.aI K):=by
 exists T.iI.fn.okX fD
 ·obtain ⟨g,v,m,n,e,t,L,CE,rfl,_⟩:=h;rfl
 obtain ⟨g,v,m,n,e,t,L,CE,rfl,hG,gt,hL,hlen,due,q⟩:=h;refine ⟨_,fun okc=>(ae (a7 (iy T.bX (lY T) (hr.mono (by decide)) rfl fJ (paF (pv 0) (paF (pv 1) aa))))
   (ae (av (i:=3) fD.nd rfl (Qf rfl) (iy T.cL (qQ T) (hr.mono (by decide)) rfl fJ (paF (pv 0) (paF (pv 2) aa))))
   ju)),?_⟩
 walk_at "rn";rcases due with ⟨np,rfl⟩|⟨⟨R,rfl,pt⟩,ns,rfl⟩
 ·exact .inr ⟨g,v,n,e,t,L,rfl,hG,gt,hL,hlen,np,q⟩
 refine .inl ⟨g,v,n,e,t,R,rfl,hG,gt,dU hL,pt,fun H1 s1=>?_⟩;walk_at "rn";exact .inr ⟨g,m,n,e,t,rfl,hG.mono s1,gt,ns,fun H2 s2=>q H2 (s1.trans s2)⟩
def FJ (T:Txt K mg):aH P w K mg base (CXR P w) 6 T.iI.f T.iI.fd ["group","part","spokes"] (fun vs H Q E=>BF T.aI K vs H Q E\/zN T.bt T.a0 T.aI K vs H Q E):=aH.both (Jf T) (GL T)
def xF (n:Nat) (t:List (List Nat)) (e:Nat) (L M:List Int) (m:Int) (l:List SI):Prop :=
 (¬ gJ n t L/\l=[.inl "part"])\/∃ R:List Nat,L=R.map (fun (x:Nat)=>(x:Int))/\IsPart n t R /\
  ((¬ dC n t e m/\l=[.inl "wheel"])\/(dC n t e m/\sE R M m/\l=[.inl "marks"]) \/
  (dC n t e m/\∃ (M':List Nat) (j:Nat) (o:Option (Nat×Nat)),M=M'.map (fun (x:Nat)=>(x:Int))/\m=(j:Int)/\M'.length=R.length/\(∀ x∈M',x<j)/\fB t R M' j o/\l=rT o))
inductive C2 (K:LN) (vs:List V) (H:Hp) (Q:VK) (E:XK):Prop
 | mk (v:V) (dp dm:Addr) (n e:Nat) (t:List (List Nat)) (L M:List Int) (m:Int) (_:vs=[v,.ref dp,.ref dm,.int m]) (_:At K H v t) (_:GT n t e) (_:H dp=some (.lst (L.map V.int))) (_:L.length<=64) (_:H dm=some (.lst (M.map V.int))) (_:M.length<=65) (_:∀ d H' (l:List SI),aj H H'->H' d=some (.lst (l.map siV))->xF n t e L M m l->Q (.ref d) H')
def C5 (T:Txt K mg):aH P w K mg base CX0 3 T.lG.f T.lG.fd ["_law_table","_law_part","_law_marks_here","_law_spokes_here"] (C2 K):=by
 exists T.lG.ok mT
 ·obtain ⟨v,dp,dm,n,e,t,L,M,m,rfl,_⟩:=h;rfl
 obtain ⟨v,dp,dm,n,e,t,L,M,m,rfl,hT,gt,h1,ll,h2,ml,q⟩:=h;have n23:=gt.le;have aL:At K H (.ref dp) L:=gF h1;have aM:At K H (.ref dm) M:=gF h2;have word:∀ (s:Str) (H1:Hp) (pd:Addr),aj H H1->H1 pd=none->xF n t e L M m [.inl s]->Q (.ref pd) (upd H1 pd (.lst [.str s])):=fun s H1 pd s1 hpd hd=>q pd _ _ (s1.trans (ay hpd _)) ar hd;refine ⟨_,(ae (av (i:=4) mT.nd rfl (L7 rfl) (aG T.gA (oB T) (hr.mono (by decide)) rfl (paF (pv 0) aa)))
   (ae (aQ (sC (fW (aG T.gE (vk T) (hr.mono (by decide)) rfl (paF (pv 0) (paF (pv 1) aa))))) (af (aN (aW (paF bG aa)))) aE)
   (ae (aQ (PW.pt (gG (ax eA (pv 3) (pv 4) (aB _)) (gG (ax dM (au aV (pv 3) (pv 4)) ag (aB _)) (gq (ax fK (pv 3) ag (aB _)))))) (af (aN (aW (paF bG aa)))) aE)
   (ae (aQ (ax dM (az (aT K rfl) rfl T.bA Me (paF (pv 2) aa)) (az (aT K rfl) rfl T.bA Me (paF (pv 1) aa)) (aB _)) (af (aN (aW (paF bG aa)))) aE)
   (ae (a8 L6 rfl (aY K rfl (pv 2)) (aJ (i:=5) mT.nd rfl (L7 rfl)) (af (aQ (PW.pt (gG (ax eA (pv 5) ag (aB _)) (gq (ax lr (pv 5) (pv 3) (aB _))))) (af (aN (aW (paF bG aa)))) aE)))
   (af (aN (aG T.jj (zL T) (hr.mono (by decide)) rfl (paF (pv 0) (paF (pv 1) (paF (pv 2) (paF (pv 3) aa)))))))))))),?_⟩
 walk_at "rn";refine ⟨_,n,e,t,rfl,hT,gt,fun k H0 s0 hk kn=>?_⟩;have k1:=hk.pos;walk_at "2";refine ⟨v,_,n,e,t,L,rfl,Rep.mono s0 hT,gt,Rep.mono s0 aL,ll,fun hpz=>?_,fun np=>?_⟩
 rotate_left
 ·walk_at "rn";refine oo ?_;walk_at "1";exact ⟨small (by show 1<=1000;decide),fun pd hpd=>word _ H0 pd s0 hpd (.inl ⟨np,rfl⟩)⟩
 obtain ⟨R,rfl,pt⟩:=hpz;have bw:¬ dC n t e m->xF n t e (R.map fun (x:Nat)=>(x:Int)) M m [.inl "wheel"]:=fun ns=>.inr ⟨R,rfl,pt,.inl ⟨ns,rfl⟩⟩;have mY:∀ pd,H0 pd=none->¬ dC n t e m->Q (.ref pd) (upd H0 pd (.lst [.str "wheel"])):=fun pd hpd ns=>word _ H0 pd s0 hpd (bw ns);walk_at "rn";refine fc ?_;walk_at "2";refine aU (fun z=>?_) (fun z1=>?_)
 ·walk_at "1";refine ⟨small (by show 1<=1000;decide),fun pd hpd=>mY pd hpd fun sv=>?_⟩
  have:=sv.2.2 k hk;have:=sv.1;rw [Int.emod_eq_of_lt (by omega) (by omega)] at *
  omega
 walk_at "rn";refine Ei (by omega) ?_
 walk_at "rn";refine bH (fun z=>?_) (fun z2=>?_)
 ·walk_at "1";exact ⟨small (by show 1<=1000;decide),fun pd hpd=>mY pd hpd fun sv=>z (sv.2.2 k hk)⟩
 walk_at "rn";refine aU (fun z=>?_) (fun z3=>?_)
 ·walk_at "1";exact ⟨small (by show 1<=1000;decide),fun pd hpd=>mY pd hpd fun sv=>by have:=sv.2.1;omega⟩
 have sv:dC n t e m:=⟨by omega,by omega,fun k2 hk2=>by rw [hk2.uni hk];exact z2⟩
 have rl:=pt.len;have aM0:=Rep.mono s0 aM;have aR0:At K H0 (.ref dp) R:=dU (Rep.mono s0 aL);have marks:∀ pd,H0 pd=none->sE R M m->Q (.ref pd) (upd H0 pd (.lst [.str "marks"])):=fun pd hpd bm=>word _ H0 pd s0 hpd (.inr ⟨R,rfl,pt,.inr (.inl ⟨sv,bm,rfl⟩)⟩);walk_at "2";refine cy aM0 ?_;walk_at "rn";refine cy aR0 ?_;walk_at "rn";refine bH (fun c=>?_) (fun c=>?_)
 ·walk_at "1";exact ⟨small (by show 1<=1000;decide),fun pd hpd=>marks pd hpd (.inl c)⟩
 walk_at "rn";refine dB aM0 (fun i σ' H'=>H'=H0/\(∀ x∈M.take i,0<=x/\x<m)/\∃ x5,σ'=[some v,some (.ref dp),some (.ref dm),some (.int m),some (.int (k:Int)),x5]) ⟨rfl,fun x hx=>absurd hx (by simp),_,rfl⟩ (fun i σ' H' y=>by rw [y.1];exact aj.refl _) ?_ ?_
 ·rintro i x w' σ' H' hx hw ⟨rfl,hi,x5,rfl⟩;cases (show w'=V.int x from hw);have hxM:=LR hx;walk_at "2";refine aU (fun z=>?_) (fun z4=>?_)
  ·walk_at "1";exact ⟨small (by show 1<=1000;decide),fun pd hpd=>marks pd hpd (.inr ⟨x,hxM,by omega⟩)⟩
  walk_at "rn";refine aU (fun z=>?_) (fun z5=>?_)
  ·walk_at "1";exact ⟨small (by show 1<=1000;decide),fun pd hpd=>marks pd hpd (.inr ⟨x,hxM,by omega⟩)⟩
  walk_at "rn";refine ⟨rfl,fun y hy=>?_,_,rfl⟩;rw [MA,hx] at hy;rcases Mb.mp hy with a|a
  ·exact hi y a
  ·rw [show y=x by simpa using a];omega
 rintro σ' H' ⟨rfl,ha,x5,rfl⟩;rw [MJ] at ha;obtain ⟨m1,m60,mk⟩:=id sv;obtain ⟨j,rfl⟩:∃ j:Nat,m=(j:Int):=⟨m.toNat,by omega⟩
 obtain ⟨M',rfl⟩:=qm fun x hx=>(ha x hx).1;have mm:∀ x∈M',x<j:=fun x hx=>by
  have:=(ha x (Ml.mpr ⟨x,hx,rfl⟩)).2;omega
 have ml':M'.length=R.length:=by rw [LV] at c;exact c
 walk_at "rn";refine ⟨v,dp,dm,n,e,j,t,R,M',rfl,Rep.mono s0 hT,gt,by rw [s0 _ _ h1,zsV],pt,dU aM0,ml',by omega,fun d H2 o s2 hd2 ho=>?_⟩
 walk_at "rn";exact q d H2 _ (s0.trans s2) hd2 (.inr ⟨R,rfl,pt,.inr (.inr ⟨sv,M',j,o,rfl,rfl,ml',mm,ho,rfl⟩)⟩)
def m8 (n:Nat) (t:List (List Nat)) (e:Nat) (L M:List Int) (m:Int) (k:Nat) (l:List SI):Prop :=
 (¬ gJ n t L/\l=[.inl "part"])\/∃ R:List Nat,L=R.map (fun (x:Nat)=>(x:Int))/\IsPart n t R /\
  ((¬ dC n t e m/\l=[.inl "wheel"])\/(dC n t e m/\k=1/\l=[])\/(dC n t e m/\k≠1/\sE R M m/\l=[.inl "marks"]) \/
  (dC n t e m/\k≠1/\∃ (M':List Nat) (j:Nat) (o:Option (Nat×Nat)),M=M'.map (fun (x:Nat)=>(x:Int))/\m=(j:Int)/\M'.length=R.length/\(∀ x∈M',x<j)/\fB t R M' j o/\((k=0/\l=[])\/(k=2/\l=rT o))))
structure J7 (T:Txt K mg) (H:Hp) (Q:VK) (E:XK) (l:List SI):Prop where
 FC:l=[]->∀ H',aj H H'->Q .non H'
 other:l=[]->∀ (C:Addr) (d:Option Addr) (H':Hp),(C=T.bg\/C=T.bK)->aj H H'->E (.ref C) d H'
 part:l=[.inl "part"]->∀ H',aj H H'->E (.ref T.bt) none H'
 mY:l=[.inl "wheel"]->∀ H',aj H H'->E (.ref T.a0) none H'
 marks:l=[.inl "marks"]->∀ H',aj H H'->E (.ref T.bc) none H'
 way:∀ a b:Nat,l=[.inl "way",.inr (a:Int),.inr (b:Int)]->∀ (d:Option Addr) (H':Hp),aj H H'->Fld H' d [("one",.int (a:Int)),("two",.int (b:Int))]->E (.ref T.bI) d H'
def yz {p:Nat->Prop}:∀ k,p k->∃ m,p m/\∀ j,j<m->¬ p j:=fun k=>by
 induction k using Nat.strongRecOn with
 | ind k ih =>
  intro hk
  by_cases h:∃ j,j<k/\p j
  ·obtain ⟨j,hj,pj⟩:=h;exact ih j hj pj
  ·exact ⟨k,hk,fun j hj pj=>h ⟨j,hj,pj⟩⟩
def JD {n e x:Nat} {t:List (List Nat)} {R:List Nat}:(∀ h∈R,cZ n t e h x∈R)\/∃ h,mS n t e R x (some h):=by
 by_cases c:∀ h∈R,cZ n t e h x∈R
 ·exact .inl c
 ·obtain ⟨h,hh⟩:=PB.mp c;obtain ⟨hR,hn⟩:=Qq.mp hh;obtain ⟨a,⟨a1,a2⟩,a3⟩:=yz (p:=fun h=>h∈R/\cZ n t e h x∉R) h ⟨hR,hn⟩;exact .inr ⟨a,a1,a2,fun h' hh' hlt=>OP fun z=>a3 h' hlt ⟨hh',z⟩⟩
def K8 {n e x:Nat} {t:List (List Nat)} {R M:List Nat}:(∀ h∈R,mkO R M h=mkO R M (cZ n t e h x))\/∃ h,GG n t e R M x h:=by
 by_cases c:∀ h∈R,mkO R M h=mkO R M (cZ n t e h x)
 ·exact .inl c
 ·obtain ⟨h,hh⟩:=PB.mp c;obtain ⟨hR,hn⟩:=Qq.mp hh;obtain ⟨a,⟨a1,a2⟩,a3⟩:=yz (p:=fun h=>h∈R/\mkO R M h≠mkO R M (cZ n t e h x)) h ⟨hR,hn⟩;exact .inr ⟨a,a1,a2,fun h' hh' hlt=>OP fun z=>a3 h' hlt ⟨hh',z⟩⟩
def jP (T:Txt K mg) (H:Hp) (g hd:Addr) (x:Nat) (m:Int) (k:Nat) (l:List SI):Prop:=∃ (dp dm:Addr) (n e lz:Nat) (t:List (List Nat)) (L M:List Int),aX T.aI H g n t e/\GT n t e/\x<n/\H hd=some (.lst [.ref dp,.ref dm])/\H dp=some (.lst (L.map V.int))/\L.length<=64/\H dm=some (.lst (M.map V.int))/\M.length<=65/\cX (cu n t e) lz/\k<=2/\m8 n t e L M m k l
def wQ (T:Txt K mg):Sp:=fun vs H Q E=>∃ (g hd:Addr) (x:Nat) (m:Int) (k:Nat) (l:List SI),vs=[.ref g,.ref hd,.int (x:Int),.int m,.int (k:Int)]/\jP T H g hd x m k l/\J7 T H Q E l
def nW (T:Txt K mg):aH P w K mg base (CXR P w) 7 T.gm.f T.gm.fd ["_law_group_here","_law_handed","_law_thing","_law_spokes_here","_law_which"] (wQ T):=by
 exists T.gm.fn.okX yT
 ·obtain ⟨g,hd,x,m,k,l,rfl,_⟩:=h;rfl
 obtain ⟨g,hd,x,m,k,l,rfl,⟨dp,dm,n,e,lz,t,L,M,hG,gt,hx,hh,h1,ll,h2,ml,hl,k2,wt⟩,ao⟩:=h;have aL:At K H (.ref dp) L:=gF h1;have aM:At K H (.ref dm) M:=gF h2;refine ⟨_,fun okc=>(af (aQ (ax bL (pv 4) ag (aB _)) (af (a7 (oM T.bV (iE T) (hr.mono (by decide)) rfl fJ (paF (pv 0) (paF (aw (ah K rfl) (pv 1) ag (fun _ _=>rfl)) (paF (aw (ah K rfl) (pv 1) ag (fun _ _=>rfl)) (paF (pv 3) aa))))))) (af (aQ (ax bL (pv 4) ag (aB _)) (af (a7 (oM T.iI (FJ T) (hr.mono (by decide)) rfl fJ (paF (pv 0) (paF (aw (ah K rfl) (pv 1) ag (fun _ _=>rfl)) (paF (pv 3) aa)))))) (af (a7 (oM T.ee (EU T) (hr.mono (by decide)) rfl fJ (paF (pv 0) (paF (aw (ah K rfl) (pv 1) ag (fun _ _=>rfl)) (paF (aw (ah K rfl) (pv 1) ag (fun _ _=>rfl)) (paF (pv 2) (paF (pv 3) aa)))))))))))),?_⟩
 walk_at "2";refine aU (fun k0=>?_) (fun k0=>?_)
 ·walk_at "rn";refine ⟨hd,_,_,_,rfl,rfl,SqL.of hh,f9 (j:=0) rfl,?_⟩;walk_at "rn";refine ⟨hd,_,_,_,rfl,rfl,SqL.of hh,f9 (j:=1) rfl,?_⟩;walk_at "rn";rcases wt with ⟨np,el⟩|⟨R,rfl,pt,⟨ns,el⟩|⟨sv,kk,el⟩|⟨sv,kk,bm,el⟩|⟨sv,kk,M',j,o,rfl,rfl,ml',mm,br,⟨_,el⟩|⟨kk',_⟩⟩⟩
  ·exact .inr ⟨g,_,_,m,n,e,t,L,M,_,rfl,hG,gt,aL,ll,aM,by omega,.inl ⟨np,rfl⟩,ao.part el⟩
  ·exact .inr ⟨g,_,_,m,n,e,t,_,M,_,rfl,hG,gt,aL,ll,aM,by omega,.inr ⟨R,rfl,pt,.inl ⟨ns,rfl⟩⟩,ao.mY el⟩
  ·omega
  ·exact .inr ⟨g,_,_,m,n,e,t,_,M,_,rfl,hG,gt,aL,ll,aM,by omega,.inr ⟨R,rfl,pt,.inr ⟨sv,bm,rfl⟩⟩,ao.marks el⟩
  ·obtain ⟨m1,m60,mk⟩:=sv;have mk0:=mk lz hl;refine .inl ⟨g,_,_,_,n,e,j,lz,t,R,M',rfl,hG,gt,dU aL,pt,dU aM,ml',mm,.inl rfl,hl,by omega,by omega,by omega,fun y H1 o' s1 hy hb=>?_⟩
   walk_at "rn";exact ao.FC el _ s1
  ·omega
 ·walk_at "2";refine aU (fun k1=>?_) (fun k1=>?_)
  ·walk_at "rn";refine ⟨hd,_,_,_,rfl,rfl,SqL.of hh,f9 (j:=0) rfl,?_⟩;walk_at "rn";rcases wt with ⟨np,el⟩|⟨R,rfl,pt,⟨ns,el⟩|⟨sv,kk,el⟩|⟨sv,kk,bm,el⟩|⟨sv,kk,_⟩⟩
   ·exact .inr ⟨g,_,m,n,e,t,L,_,rfl,hG,gt,aL,ll,.inl ⟨np,rfl⟩,ao.part el⟩
   ·exact .inr ⟨g,_,m,n,e,t,_,_,rfl,hG,gt,aL,ll,.inr ⟨⟨R,rfl,pt⟩,ns,rfl⟩,ao.mY el⟩
   ·obtain ⟨m1,m60,mk⟩:=sv;have mk0:=mk lz hl;obtain ⟨j,rfl⟩:∃ j:Nat,m=(j:Int):=⟨m.toNat,by omega⟩
    refine .inl ⟨g,_,_,n,e,j,lz,t,R,rfl,hG,gt,dU aL,pt,.inl rfl,hl,by omega,by omega,by omega,fun d' H1 D Lw s1 rw1 G O=>?_⟩
    walk_at "rn";exact ao.FC el _ s1
   ·omega
   ·omega
  ·have k22:k=2:=by omega
   walk_at "rn";refine ⟨hd,_,_,_,rfl,rfl,SqL.of hh,f9 (j:=0) rfl,?_⟩;walk_at "rn";refine ⟨hd,_,_,_,rfl,rfl,SqL.of hh,f9 (j:=1) rfl,?_⟩;walk_at "rn";rcases wt with ⟨np,el⟩|⟨R,rfl,pt,⟨ns,el⟩|⟨sv,kk,el⟩|⟨sv,kk,bm,el⟩|⟨sv,kk,M',j,o,rfl,rfl,ml',mm,br,⟨kk',_⟩|⟨_,el⟩⟩⟩
   ·exact .inr ⟨g,_,_,_,m,rfl,.inl ⟨g,_,_,m,n,e,t,L,M,_,rfl,hG,gt,aL,ll,aM,by omega,.inl ⟨np,rfl⟩,ao.part el⟩⟩
   ·exact .inr ⟨g,_,_,_,m,rfl,.inl ⟨g,_,_,m,n,e,t,_,M,_,rfl,hG,gt,aL,ll,aM,by omega,.inr ⟨R,rfl,pt,.inl ⟨ns,rfl⟩⟩,ao.mY el⟩⟩
   ·omega
   ·exact .inr ⟨g,_,_,_,m,rfl,.inl ⟨g,_,_,m,n,e,t,_,M,_,rfl,hG,gt,aL,ll,aM,by omega,.inr ⟨R,rfl,pt,.inr ⟨sv,bm,rfl⟩⟩,ao.marks el⟩⟩
   ·omega
   ·obtain ⟨m1,m60,mk⟩:=sv;have mk0:=mk lz hl;cases o with
    | some ab =>
     obtain ⟨a,b⟩:=ab;exact .inr ⟨g,_,_,_,_,rfl,.inr ⟨g,_,_,n,e,j,lz,a,b,t,R,M',rfl,hG,gt,dU aL,pt,dU aM,ml',mm,hl,by omega,by omega,by omega,br,ao.way a b el⟩⟩
    | none =>
     have gi:Cz T.aI K H g (.ref dp) (.ref dm) (.int (j:Int)) n e x j lz t R M':=⟨hG,gt,dU aL,pt,dU aM,ml',mm,br,.inl rfl,hl,by omega,by omega,by omega,hx⟩
     rcases JD (n:=n) (e:=e) (x:=x) (t:=t) (R:=R) with st|⟨h,hl'⟩
     ·rcases K8 (n:=n) (e:=e) (x:=x) (t:=t) (R:=R) (M:=M') with kp|⟨h,hk⟩
      ·refine .inl (.inl ⟨g,_,_,_,n,e,x,j,lz,t,R,M',rfl,gi,st,kp,fun p dg df H1 Pt Lw _ s1 _ _ _ _=>?_⟩);walk_at "rn";exact ao.FC el _ s1
      ·exact .inl (.inr ⟨g,_,_,_,n,e,x,j,lz,t,R,M',rfl,gi,.inr ⟨st,h,hk,fun d H1 s1 _=>ao.other el _ d H1 (.inr rfl) s1⟩⟩)
     ·exact .inl (.inr ⟨g,_,_,_,n,e,x,j,lz,t,R,M',rfl,gi,.inl ⟨h,hl',fun d H1 s1 _=>ao.other el _ d H1 (.inl rfl) s1⟩⟩)
def m8.shape {n e k:Nat} {t:List (List Nat)} {L M:List Int} {m:Int} {l:List SI} (h:m8 n t e L M m k l):l=[]\/l=[.inl "part"]\/l=[.inl "wheel"]\/l=[.inl "marks"]\/∃ a b:Nat,l=[.inl "way",.inr (a:Int),.inr (b:Int)]:=by
 rcases h with ⟨_,el⟩|⟨R,_,_,⟨_,el⟩|⟨_,_,el⟩|⟨_,_,_,el⟩|⟨_,_,M',j,o,_,_,_,_,_,⟨_,el⟩|⟨_,el⟩⟩⟩
 ·exact .inr (.inl el)
 ·exact .inr (.inr (.inl el))
 ·exact .inl el
 ·exact .inr (.inr (.inr (.inl el)))
 ·exact .inl el
 ·cases o with
  | none=>exact .inl el
  | some ab=>exact .inr (.inr (.inr (.inr ⟨ab.1,ab.2,el⟩)))
def Dc {l:List SI} (h:l=[]\/l=[.inl "part"]\/l=[.inl "wheel"]\/l=[.inl "marks"]\/∃ a b:Nat,l=[.inl "way",.inr (a:Int),.inr (b:Int)]):l.length<=3/\∀ i x,1<=i->l[i]?=some x->∃ z:Int,x=.inr z:=by
 rcases h with rfl|rfl|rfl|rfl|⟨a,b,rfl⟩
 ·exact ⟨by decide,fun i x _ hx=>by simp at hx⟩
 ·exact ⟨by decide,fun i x hi hx=>by have:=(LQ.mp hx).1;rw [Oe] at this;omega⟩
 ·exact ⟨by decide,fun i x hi hx=>by have:=(LQ.mp hx).1;rw [Oe] at this;omega⟩
 ·exact ⟨by decide,fun i x hi hx=>by have:=(LQ.mp hx).1;rw [Oe] at this;omega⟩
 ·refine ⟨by show 3<=3;decide,fun i x hi hx=>?_⟩
  match i,hi,hx with
  | 1,_,hx=>cases hx;exact ⟨_,rfl⟩
  | 2,_,hx=>cases hx;exact ⟨_,rfl⟩
  | (i+3),_,hx=>simp at hx
def CG {σ:St} {H:Hp} {D:Ends} {g:TG} {t:TS} {a b:Int} {lo n:Nat} (e:a=(lo:Int)) (e2:(b - a).toNat=n) (hn:lo<=1000000) (hb:0<=b/\b<=1000000) (Pv:Nat->St->Hp->Prop) (h0:Pv 0 σ H)
  (hs:∀ i σ' H',i<n->Pv i σ' H'->g (.int ((lo+i:Nat):Int)) σ' H' fun σ2 H2=>t { D with nx:=Pv (i+1),ct:=Pv (i+1),bk:=D.nx } σ2 H2) (hd:∀ σ' H',Pv n σ' H'->D.nx σ' H'):HX [.int a,.int b] H (lA g t D σ):=by
 subst e;refine ⟨lo,b,rfl,⟨by omega,by omega,by omega,by omega⟩,?_⟩
 rw [e2];refine ⟨fun i m σ' H'=>m=n - i/\i<=n/\Pv i σ' H',⟨n,rfl,MI _,h0⟩,?_⟩;rintro i m σ' H' ⟨rfl,hi,p⟩
 by_cases hlt:i<n
 ·refine .inr ⟨hlt,Pv (i+1),fun σ2 H2 p'=>⟨n - (i+1),by omega,rfl,hlt,p'⟩,fun x H2 y=>?_⟩
  obtain ⟨rfl,rfl⟩:=y;have q:=hs i σ' H2 hlt p;rw [show (((lo+i:Nat):Int))=(lo:Int)+(i:Int) by push_cast;rfl] at q
  exact q
 ·have e:i=n:=by omega
  subst e;exact .inl ⟨Ma i,hd σ' H' p⟩
inductive AF (T:Txt K mg) (vs:List V) (H:Hp) (Q:VK) (E:XK):Prop
 | mk (g hd:Addr) (x:Nat) (m:Int) (k:Nat) (l:List SI) (_:vs=[.ref g,.ref hd,.int (x:Int),.int m,.int (k:Int)]) (_:jP T H g hd x m k l) (_:∀ d H',aj H H'->H' d=some (.lst (l.map siV))->Q (.ref d) H')
def jP.mono {T:Txt K mg} {H H':Hp} {g hd:Addr} {x:Nat} {m:Int} {k:Nat} {l:List SI} (s:aj H H') (h:jP T H g hd x m k l):jP T H' g hd x m k l:=by
 obtain ⟨dp,dm,n,e,lz,t,L,M,hG,gt,hx,hh,h1,ll,h2,ml,hl,k2,wt⟩:=h;exact ⟨dp,dm,n,e,lz,t,L,M,aX.mono s hG,gt,hx,s _ _ hh,s _ _ h1,ll,s _ _ h2,ml,hl,k2,wt⟩
def jP.shape {T:Txt K mg} {H:Hp} {g hd:Addr} {x:Nat} {m:Int} {k:Nat} {l:List SI} (h:jP T H g hd x m k l):l=[]\/l=[.inl "part"]\/l=[.inl "wheel"]\/l=[.inl "marks"]\/∃ a b:Nat,l=[.inl "way",.inr (a:Int),.inr (b:Int)]:=by
 obtain ⟨dp,dm,n,e,lz,t,L,M,hG,gt,hx,hh,h1,ll,h2,ml,hl,k2,wt⟩:=h;exact wt.shape
def Aq (T:Txt K mg):aH P w K mg base CX0 8 T.jN.f T.jN.fd ["_law_group_here","_law_handed","_law_thing","_law_spokes_here","_law_which"] (AF T):=by
 exists T.jN.ok c9
 ·obtain ⟨g,hd,x,m,k,l,rfl,_⟩:=h;rfl
 obtain ⟨g,hd,x,m,k,l,rfl,ai,q⟩:=h;obtain ⟨ll,intz⟩:=Dc ai.shape;refine ⟨_,(ae (av (i:=5) c9.nd rfl (L7 rfl) (aW aa))
   (ae (Bp rfl (AY (zr (BK T.gm (nW T) rfl (hr.mono (by decide)) rfl (paF (pv 0) (paF (pv 1) (paF (pv 2) (paF (pv 3) (paF (pv 4) aa)))))))) (xu rfl (fun _=>(af (av (i:=5) c9.nd rfl (L7 rfl) (aW (paF bG aa))))) (xu rfl (fun _=>(af (av (i:=5) c9.nd rfl (L7 rfl) (aW (paF bG aa))))) (xu rfl (fun _=>(af (av (i:=5) c9.nd rfl (L7 rfl) (aW (paF bG aa))))) (HS (i:=6) rfl (fun _=>(af (av (i:=5) c9.nd rfl (L7 rfl) (aW (paF bG (paF (Bh K rfl (pv 6) rfl) (paF (Bh K rfl (pv 6) rfl) aa))))))) (xu rfl (fun _=>(af (av (i:=5) c9.nd rfl (L7 rfl) (aW aa)))) EO rfl T.qN) rfl T.uI c9.nd rfl rfl) rfl T.jY) rfl T.ka) rfl T.rj) rfl rfl)
   (ae (a8 L6 rfl (Cn rfl T.bD (paF ag (paF (az (aT K rfl) rfl T.bA Me (paF (pv 5) aa)) aa))) (aJ (i:=7) c9.nd rfl (L7 rfl)) (af (aQ (PW.pt (gG (sC (fW (az (pq K rfl) rfl T.bu Mg (paF (aw (ah K rfl) (pv 5) (pv 7) (fun _ _=>rfl)) (paF (ug (v:=.ty "int") rfl T.KZ PyProof.Rows.boot_int rfl) aa))))) (gq (fW (az (pq K rfl) rfl T.bu Mg (paF (aw (ah K rfl) (pv 5) (pv 7) (fun _ _=>rfl)) (paF (ug (v:=.ty "bool") rfl T.KQ PyProof.Rows.boot_bool rfl) aa))))))) (af (aN (aW (paF bG aa)))) aE)))
   (af (aN (pv 5)))))),?_⟩
 walk_at "1";refine ⟨small (by show 0<=1000;decide),fun p1 hp1=>?_⟩
 have s1:=ay hp1 (.lst []);have h1:(upd H p1 (.lst [])) p1=some (.lst []):=ar;generalize upd H p1 (.lst [])=H1 at s1 h1;walk_at "rn"
 rename_i N hN
 have fin:∀ (d:Addr) (H2:Hp),aj H H2->H2 d=some (.lst (l.map siV))->N [some (.ref g),some (.ref hd),some (.int (x:Int)),some (.int m),some (.int (k:Int)),some (.ref d),none,none] H2:=by
  intro d H2 s2 h2;have aD:At K H2 (.ref d) l:=mF h2;refine pe hN ?_;walk_at "rn";refine Jt ?_;walk_at "rn";refine cy aD ?_;refine CG (lo:=1) (n:=l.length - 1) rfl (by omega) (by decide) ⟨by omega,by omega⟩ (fun i σ H'=>H'=H2/\∃ y,σ=[some (.ref g),some (.ref hd),some (.int (x:Int)),some (.int m),some (.int (k:Int)),some (.ref d),none,y]) ⟨rfl,_,rfl⟩ ?_ ?_
  ·rintro i σ' H' hi ⟨rfl,y,rfl⟩;obtain ⟨z,hz⟩:=intz (1+i) _ (by omega) (LO (by omega))
   have hg:l[1+i]?=some (.inr z):=by rw [LO (by omega),hz]
   walk_at "2";refine cM aD rfl hg fun w1 hw1=>?_;cases (show w1=V.int z from hw1);walk_at "rn";refine Fh (b:=true) (.int _) rfl ?_;walk_at "rn";refine fc ?_;walk_at "rn";refine cM aD rfl hg fun w2 hw2=>?_;cases (show w2=V.int z from hw2);walk_at "rn";refine Fh (b:=false) (.int _) rfl ?_;walk_at "rn";refine fc ?_;walk_at "rn";exact ⟨rfl,_,rfl⟩
  ·rintro σ' H' ⟨rfl,y,rfl⟩;walk_at "rn";exact q d _ s2 h2
 have word:∀ (s:Str) (H2:Hp),l=[.inl s]->aj H H2->∀ p3,H2 p3=none->N [some (.ref g),some (.ref hd),some (.int (x:Int)),some (.int m),some (.int (k:Int)),some (.ref p3),none,none] (upd H2 p3 (.lst [.str s])):=fun s H2 el s2 p3 hp3=>by
  refine fin p3 _ (s2.trans (ay hp3 _)) ?_;rw [el];exact ar
 refine Kq ?_;refine Bw ?_;refine BM ?_;walk_at "rn";refine ⟨g,hd,x,m,k,l,rfl,ai.mono s1,?_,?_,?_,?_,?_,?_⟩
 ·intro el H2 s2;dsimp only;refine fin p1 H2 (s1.trans s2) ?_;rw [el];exact s2 _ _ h1
 ·intro el C d H2 hC s2;have go:∀ p3,H2 p3=none->N [some (.ref g),some (.ref hd),some (.int (x:Int)),some (.int m),some (.int (k:Int)),some (.ref p3),none,none] (upd H2 p3 (.lst [])):=fun p3 hp3=>by
   refine fin p3 _ (s1.trans (s2.trans (ay hp3 _))) ?_;rw [el];exact ar
  rcases hC with rfl|rfl
  ·refine ⟨_,rfl,.inr ⟨T.zX,.inr ⟨T.zV,.inr ⟨T.yW,.inr ⟨T.xS,.inl ⟨T.zJ,?_⟩⟩⟩⟩⟩⟩;walk_at "1";exact ⟨small (by show 0<=1000;decide),go⟩
  ·refine ⟨_,rfl,.inr ⟨T.CL,.inr ⟨T.Cg,.inr ⟨T.Cm,.inr ⟨T.Dn,.inl ⟨T.Dl,?_⟩⟩⟩⟩⟩⟩;walk_at "1";exact ⟨small (by show 0<=1000;decide),go⟩
 ·intro el H2 s2;refine ⟨_,rfl,.inl ⟨T.Fw,?_⟩⟩;walk_at "1";exact ⟨small (by show 1<=1000;decide),word _ H2 el (s1.trans s2)⟩
 ·intro el H2 s2;refine ⟨_,rfl,.inr ⟨T.z9,.inl ⟨T.AI,?_⟩⟩⟩;walk_at "1";exact ⟨small (by show 1<=1000;decide),word _ H2 el (s1.trans s2)⟩
 ·intro el H2 s2;refine ⟨_,rfl,.inr ⟨T.Aj,.inr ⟨T.AK,.inl ⟨T.Ah,?_⟩⟩⟩⟩;walk_at "1";exact ⟨small (by show 1<=1000;decide),word _ H2 el (s1.trans s2)⟩
 ·intro a b el di H2 s2 f2;refine ⟨_,rfl,.inr ⟨T.Ha,.inr ⟨T.Gk,.inr ⟨T.GQ,.inl ⟨T.GX,fun y hy=>?_⟩⟩⟩⟩⟩;have s3:=ay hy (fI y T.bI di);have h3:(upd H2 y (fI y T.bI di)) y=some (fI y T.bI di):=ar;generalize upd H2 y (fI y T.bI di)=H3 at s3 h3;obtain ⟨dx,fs',rfl,hdx,hfs⟩:=f2.mono s3;have l1:=hfs _ (.head _);have l2:=hfs _ (.tail _ (.head _));walk_at "1";refine HG ?_;walk_at "rn";refine ⟨y,_,dx,fs',_,rfl,h3,hdx,T.uG,T.md.hd,T.qM,l1,?_⟩;walk_at "rn";refine HG ?_;walk_at "rn";refine ⟨y,_,dx,fs',_,rfl,h3,hdx,T.uG,T.md.hd,T.qF,l2,?_⟩;walk_at "rn";refine ⟨small (by show 3<=1000;decide),fun p4 hp4=>?_⟩
  refine fin p4 _ (s1.trans (s2.trans (s3.trans (ay hp4 _)))) ?_;rw [el];exact ar
inductive yh (T:Txt K mg) (vs:List V) (H:Hp) (Q:VK) (E:XK):Prop
 | mk (g hd:Addr) (x:Nat) (m:Int) (k:Nat) (l:List SI) (_:vs=[.ref g,.ref hd,.int (x:Int),.int m,.int (k:Int)]) (_:jP T H g hd x m k l) (_:l≠[]) (_:∀ d H',aj H H'->H' d=some (.lst ((l.take 1).map siV))->Q (.ref d) H')
def yC (T:Txt K mg):aH P w K mg base CX0 8 T.jo.f T.jo.fd ["_law_group_here","_law_handed","_law_thing","_law_spokes_here","_law_which"] (yh T):=by
 exists T.jo.ok ie
 ·obtain ⟨g,hd,x,m,k,l,rfl,_⟩:=h;rfl
 obtain ⟨g,hd,x,m,k,l,rfl,ai,ln,q⟩:=h;refine ⟨_,(ae (av (i:=5) ie.nd rfl (L7 rfl) yu)
   (ae (JE (i:=6) rfl (AY (zr (BK T.gm (nW T) rfl (hr.mono (by decide)) rfl (paF (pv 0) (paF (pv 1) (paF (pv 2) (paF (pv 3) (paF (pv 4) aa)))))))) (fun _=>(af (av (i:=5) ie.nd rfl (L7 rfl) (pv 6)))) rfl T.qN ie.nd rfl rfl rfl rfl)
   (af (aN (aG T.iU (wA T) (hr.mono (by decide)) rfl (paF (pv 5) aa)))))),?_⟩
 walk_at "rn";refine Lh ?_;refine Bw ?_;refine BM ?_;walk_at "rn";refine ⟨g,hd,x,m,k,l,rfl,ai,fun el=>absurd el ln,fun el=>absurd el ln,?_,?_,?_,?_⟩
 ·intro el H2 s2;refine ⟨_,rfl,T.F0,fun y hy=>?_⟩;walk_at "rn";dsimp only;walk_at "rn";exact ⟨_,rfl,.inr ⟨y,_,none,_,rfl,ar,T.Gv,T.FN,eG T.FG,fun d H3 s3 h3=>q d H3 (s2.trans ((ay hy _).trans s3)) (by rw [el];exact h3)⟩⟩
 ·intro el H2 s2;refine ⟨_,rfl,T.CH,fun y hy=>?_⟩;walk_at "rn";dsimp only;walk_at "rn";exact ⟨_,rfl,.inr ⟨y,_,none,_,rfl,ar,T.B7,T.Dr,eG T.Cj,fun d H3 s3 h3=>q d H3 (s2.trans ((ay hy _).trans s3)) (by rw [el];exact h3)⟩⟩
 ·intro el H2 s2;refine ⟨_,rfl,T.C8,fun y hy=>?_⟩;walk_at "rn";dsimp only;walk_at "rn";exact ⟨_,rfl,.inr ⟨y,_,none,_,rfl,ar,T.B4,T.CY,eG T.Ci,fun d H3 s3 h3=>q d H3 (s2.trans ((ay hy _).trans s3)) (by rw [el];exact h3)⟩⟩
 ·intro a b el di H2 s2 f2;refine ⟨_,rfl,T.IL,fun y hy=>?_⟩;walk_at "rn";dsimp only;walk_at "rn";exact ⟨_,rfl,.inr ⟨y,_,di,_,rfl,ar,T.uG,T.Jh,eG T.Jk,fun d H3 s3 h3=>q d H3 (s2.trans ((ay hy _).trans s3)) (by rw [el];exact h3)⟩⟩
def xE (K:LN):Sp:=fun vs H Q _=>∃ (a:Addr) (ns:List Int),vs=[.ref a]/\SqL K H a (ns.map V.int)/\ns.length<=63/\∀ H',Q (.bl true) H'
def GY {n e:Nat} {t:List (List Nat)} {L M:List Int} {m:Int} {l:List SI} (h:xF n t e L M m l) :
  m8 n t e L M m 2 l/\m8 n t e L M m 0 (if l≠[]/\l[0]?=some (.inl "way") then [] else l)/\m8 n t e L M m 1 (if l≠[]/\l[0]?≠some (.inl "part")/\l[0]?≠some (.inl "wheel") then [] else l):=by
 rcases h with ⟨np,rfl⟩|⟨R,rL,pt,⟨ns,rfl⟩|⟨sv,bm,rfl⟩|⟨sv,M',j,o,r1,r2,r3,r4,br,rfl⟩⟩
 ·exact ⟨.inl ⟨np,rfl⟩,.inl ⟨np,by decide⟩,.inl ⟨np,by decide⟩⟩
 ·exact ⟨.inr ⟨R,rL,pt,.inl ⟨ns,rfl⟩⟩,.inr ⟨R,rL,pt,.inl ⟨ns,by decide⟩⟩,.inr ⟨R,rL,pt,.inl ⟨ns,by decide⟩⟩⟩
 ·exact ⟨.inr ⟨R,rL,pt,.inr (.inr (.inl ⟨sv,by decide,bm,rfl⟩))⟩,.inr ⟨R,rL,pt,.inr (.inr (.inl ⟨sv,by decide,bm,by decide⟩))⟩,.inr ⟨R,rL,pt,.inr (.inl ⟨sv,rfl,by decide⟩)⟩⟩
 ·refine ⟨.inr ⟨R,rL,pt,.inr (.inr (.inr ⟨sv,by decide,M',j,o,r1,r2,r3,r4,br,.inr ⟨rfl,rfl⟩⟩))⟩,.inr ⟨R,rL,pt,.inr (.inr (.inr ⟨sv,by decide,M',j,o,r1,r2,r3,r4,br,.inl ⟨rfl,?_⟩⟩))⟩,.inr ⟨R,rL,pt,.inr (.inl ⟨sv,rfl,?_⟩)⟩⟩
  ·cases o with
   | none=>rfl
   | some ab=>exact if_pos ⟨by simp [rT],rfl⟩
  ·cases o with
   | none=>rfl
   | some ab=>exact if_pos ⟨by simp [rT],by simp [rT];decide,by simp [rT];decide⟩
def J9 (T:Txt K mg):aH P w K mg base CX0 12 T.qh.f T.qh.fd ["_law_script"] (xE K):=by
 exists T.qh.ok eV
 ·obtain ⟨a,ns,rfl,_⟩:=h;rfl
 obtain ⟨a,ns,rfl,hS,h63,q⟩:=h;have hA:=Bc hS;refine ⟨_,(ae (av (i:=1) eV.nd rfl (L7 rfl) (aG T.jn (y8 T) (hr.mono (by decide)) rfl (paF (pv 0) (paF ag aa))))
   (ae (av (i:=2) eV.nd rfl (L7 rfl) (aG T.j5 (Ak T) (hr.mono (by decide)) rfl (paF (pv 0) (paF (pv 1) aa))))
   (ae (av (i:=3) eV.nd rfl (L7 rfl) (aG T.iJ (wL T) (hr.mono (by decide)) rfl (paF (pv 0) (paF (aG T.gA (oB T) (hr.mono (by decide)) rfl (paF (pv 1) aa)) aa))))
   (ae (av (i:=4) eV.nd rfl (L7 rfl) (aG T.jm (zH T) (hr.mono (by decide)) rfl (paF (pv 0) (paF (az (aT K rfl) rfl T.bA Me (paF (pv 2) aa)) aa))))
   (ae (av (i:=5) eV.nd rfl (L7 rfl) (au aV (aG T.cg (cP T) (hr.mono (by decide)) rfl (paF (pv 0) (paF ag aa))) (az (aT K rfl) rfl T.bA Me (paF (pv 1) aa))))
   (ae (av (i:=6) eV.nd rfl (L7 rfl) (aG T.lG (C5 T) (hr.mono (by decide)) rfl (paF (pv 1) (paF (pv 2) (paF (pv 4) (paF (pv 3) aa))))))
   (ae (av (i:=7) eV.nd rfl (L7 rfl) (aG T.jQ (Aw T) (hr.mono (by decide)) rfl (paF (dP rfl zq (aY K rfl (pv 1)) (fun _ _ _ _=>⟨(aJ (i:=0) zq.nd rfl (L7 rfl)),b6,(dk (ic K rfl) rfl T.kG NP (paF (pv 0) aa))⟩)) aa)))
   (ae (av (i:=8) eV.nd rfl (L7 rfl) (aW (paF (dk (ic K rfl) rfl T.kG NP (paF (pv 2) aa)) (paF (dk (ic K rfl) rfl T.kG NP (paF (pv 4) aa)) aa))))
   (ae (a8 L6 rfl (aY K rfl (aW (mG [0,1,2] (by trivial)).out)) (aJ (i:=9) eV.nd rfl (L7 rfl)) (ae (av (i:=10) eV.nd rfl (L7 rfl) (pv 6))
   (ae (aQ (PW.pt (dy (ax bL (pv 9) ag (aB _)) (dy (ax (iW K rfl SI hr.units) (pv 6) (aW aa) (aB _)) (d8 (ax bL (aw (ah K rfl) (pv 6) ag (fun _ _=>rfl)) bG (aB _)))))) (af (av (i:=10) eV.nd rfl (L7 rfl) (aW aa))) aE)
   (ae (aQ (PW.pt (dy (ax bL (pv 9) ag (aB _)) (dy (ax (iW K rfl SI hr.units) (pv 6) (aW aa) (aB _)) (dy (ax dM (aw (ah K rfl) (pv 6) ag (fun _ _=>rfl)) bG (aB _)) (d8 (ax dM (aw (ah K rfl) (pv 6) ag (fun _ _=>rfl)) bG (aB _))))))) (af (av (i:=10) eV.nd rfl (L7 rfl) (aW aa))) aE)
   (ae (aQ (PW.pt (gG (ax (iW K rfl SI hr.units) (aG T.jN (Aq T) (hr.mono (by decide)) rfl (paF (pv 7) (paF (pv 8) (paF (pv 5) (paF (pv 3) (paF (pv 9) aa)))))) (pv 10) (aB _)) (gq (ax (iW K rfl (List Int) hr.units) (pv 8) (aW (paF (pv 2) (paF (pv 4) aa))) (aB _))))) (af (aN gL)) aE)
   (af (aQ (ax (iW K rfl SI hr.units) (pv 10) (aW aa) (aB _)) (af (aQ (ax (iW K rfl SI hr.units) (aG T.jo (yC T) (hr.mono (by decide)) rfl (paF (pv 7) (paF (pv 8) (paF (pv 5) (paF (pv 3) (paF (pv 9) aa)))))) (q9 (rd K rfl) (pv 10) uq (u9 ag)) (aB _)) (af (aN gL)) aE)) aE)))))))
   (af (aN (dz (ID K rfl (List Int) hr.units) (pv 8) (aW (paF (pv 2) (paF (pv 4) aa))) (aB _))))))))))))),?_⟩
 walk_at "rn";refine ⟨_,ns,0,rfl,hA,fun d1 H1 n t e ps1 s1 gt tb1 _ _=>?_⟩;have n1:=gt.pos;have n23:=gt.le;walk_at "rn";refine ⟨_,_,ns,n,e,t,rfl,Rep.mono s1 hA,h63,tb1.at,gt,fun dp H2 L fdp s2 h2 ll=>?_⟩;have s02:=s1.trans s2;have tb2:=tb1.mono s2;walk_at "rn";refine ⟨_,n,e,t,rfl,tb2.at,gt,fun lz H3 s3 hl ln=>?_⟩;have s03:=s02.trans s3;have l1:=hl.pos;walk_at "rn";refine ⟨_,ns,lz,rfl,Rep.mono s03 hA,h63,l1,by omega,fun m=>?_⟩
 have h3:=s3 _ _ h2;walk_at "rn";refine cy (gF h3) ?_;walk_at "rn";refine ⟨_,ns,L.length,rfl,Rep.mono s03 hA,h63,ll,fun dm H4 M fdm s4 h4 ml=>?_⟩;have s04:=s03.trans s4;have tb4:=tb2.mono (s3.trans s4);walk_at "rn";refine ⟨_,ns,3,rfl,Rep.mono s04 hA,?_⟩;walk_at "rn";refine cy tb4.at ?_;rw [gt.len];refine tR (by omega) ?_
 have hx:de ns 3 % n<n:=Mv _ (by omega)
 generalize de ns 3 % n=x at hx;walk_at "rn";refine ⟨_,dp,dm,n,e,t,L,M,m,rfl,tb4.at,gt,s4 _ _ h3,ll,h4,ml,fun dd H5 l s5 h5 due=>?_⟩;have tb5:=tb4.mono s5;walk_at "rn";refine mV (K:=K) tb5.at (by rw [gt.len];omega) fun dh H6 psh s6 _ _ tbh=>?_
 walk_at "rn";refine ⟨_,n,e,t,rfl,tbh.at,gt,fun g H7 _ s7 hg0=>?_⟩;have hg:=aX.mono Hd hg0;have s57:=s6.trans s7;have s47:=s5.trans s57;have hp7:H7 dp=some (.lst (L.map V.int)):=s47 _ _ (s4 _ _ h3);have hm7:H7 dm=some (.lst (M.map V.int)):=s47 _ _ h4;have hd7:=s57 _ _ h5;walk_at "1";refine A3 (α:=Int) (gF hp7) fun ha H8 fha s8 g8=>?_;walk_at "rn";refine A3 (α:=Int) (gF (s8 _ _ hm7)) fun hb H9 fhb s9 g9=>?_;walk_at "rn";refine ⟨small (by show 2<=1000;decide),fun hd hhd=>?_⟩
 have s910:=ay hhd (.lst [.ref ha,.ref hb]);have w10:(upd H9 hd (.lst [.ref ha,.ref hb])) hd=some (.lst [.ref ha,.ref hb]):=ar;generalize upd H9 hd (.lst [.ref ha,.ref hb])=H10 at s910 w10 ⊢;have s710:=s8.trans (s9.trans s910);have wa:=(s9.trans s910) _ _ (vd g8);have wb:=s910 _ _ (vd g9);have hg10:=aX.mono s710 hg;have hd10:=s710 _ _ hd7;obtain ⟨w2,w0,w1⟩:=GY due;have ask:∀ (k:Nat) (lk:List SI) (H':Hp),aj H10 H'->k<=2->m8 n t e L M m k lk->jP T H' g hd x m k lk:=fun k lk H' s' k2 wt=>⟨ha,hb,n,e,lz,t,L,M,aX.mono s' hg10,gt,hx,s' _ _ w10,s' _ _ wa,ll,s' _ _ wb,ml,hl,k2,wt⟩;have pair:∀ (H':Hp) (p q:Addr),aj H10 H'->H' p=some (.lst [.ref dp,.ref dm])->At K H' (.ref hd) [L,M]/\At K H' (.ref p) [L,M]:=fun H' p q s' hp=>⟨⟨hd,_,rfl,SqL.of (s' _ _ w10),.cons (gF (s' _ _ wa)) (.cons (gF (s' _ _ wb)) .nil)⟩,⟨p,_,rfl,SqL.of hp,.cons (gF (s' _ _ (s710 _ _ hp7))) (.cons (gF (s' _ _ (s710 _ _ hm7))) .nil)⟩⟩;have aD:At K H10 (.ref dd) l:=mF hd10;walk_at "rn";refine dS (K:=K) (l:=([0,1,2]:List Nat)) (kg [0,1,2]) (by decide) fun d11 H11 _ s11 g11=>?_
 refine eZ (H₀:=H11) (α:=Nat) g11.at (fun i σ' H'=>aj H11 H'/\∃ x9 x10:Option V,σ'=[some (.ref a),some (.ref d1),some (.ref dp),some (.int m),some (.ref dm),some (.int (x:Int)),some (.ref dd),some (.ref g),some (.ref hd),x9,x10]) ⟨aj.refl _,_,_,rfl⟩ (fun i σ' H' z=>z.1) ?_ ?_
 ·rintro i k w' σ' H12 hk hw ⟨s12,x9,x10,rfl⟩;cases (show w'=V.int (k:Int) from hw);have k2:k<=2:=by
   have:=LR hk;simp at this;omega
  have s1012:=s11.trans s12;have aD12:=Rep.mono s1012 aD;walk_at "rn";have hd12:=s1012 _ _ hd10;have first:l≠[]->∃ s:Str,l[0]?=some (.inl s):=fun hne=>by
   rcases w2.shape with z|z|z|z|⟨a',b',z⟩
   ·exact absurd z hne
   ·exact ⟨_,by rw [z];rfl⟩
   ·exact ⟨_,by rw [z];rfl⟩
   ·exact ⟨_,by rw [z];rfl⟩
   ·exact ⟨_,by rw [z];rfl⟩
  refine dA (fun σ' H'=>aj H12 H'/\∃ (dw:Addr) (lw:List SI),H' dw=some (.lst (lw.map siV))/\(k=0->lw=if l≠[]/\l[0]?=some (.inl "way") then [] else l)/\(k≠0->lw=l)/\σ'=[some (.ref a),some (.ref d1),some (.ref dp),some (.int m),some (.ref dm),some (.int (x:Int)),some (.ref dd),some (.ref g),some (.ref hd),some (.int (k:Int)),some (.ref dw)]) (fun N hN=>?_) ?_
  ·walk_at "rn";refine aU (fun k0=>?_) (fun k0=>?_)
   ·walk_at "1";refine ⟨small (by show 0<=1000;decide),fun p1 hp1=>?_⟩
    have s13:=ay hp1 (.lst []);refine nt (α:=SI) (as:=l) (bs:=[]) (Rep.mono s13 aD12) ⟨p1,_,rfl,SqL.of ar,.nil⟩ ?_;generalize upd H12 p1 (.lst [])=H13 at s13;walk_at "rn";refine bH (fun hne=>?_) (fun hne=>?_)
    ·obtain ⟨s',hs'⟩:=first hne;walk_at "rn";refine cM (Rep.mono s13 aD12) rfl hs' fun w1' hw1=>?_;cases (show w1'=V.str s' from hw1);walk_at "rn";refine ⟨rfl,?_⟩;walk_at "rn";refine aU (fun es=>?_) (fun es=>?_)
     ·walk_at "1";refine ⟨small (by show 0<=1000;decide),fun p2 hp2=>?_⟩
      injection es with es;subst es;exact hN _ _ ⟨s13.trans (ay hp2 _),p2,[],ar,fun _=>by rw [if_pos ⟨hne,hs'⟩],fun z=>absurd k0 z,rfl⟩
     ·walk_at "rn";refine hN _ _ ⟨s13,dd,l,s13 _ _ hd12,fun _=>?_,fun _=>rfl,rfl⟩;rw [if_neg];rintro ⟨_,z⟩;rw [hs'] at z;injection z with z;injection z with z;exact es (by rw [z])
    ·walk_at "rn";refine hN _ _ ⟨s13,dd,l,s13 _ _ hd12,fun _=>?_,fun _=>rfl,rfl⟩;rw [if_neg fun z=>z.1 hne]
   ·walk_at "rn";exact hN _ _ ⟨aj.refl _,dd,l,hd12,fun z=>absurd z k0,fun _=>rfl,rfl⟩
  rintro σ' H13 ⟨s13,dw,lw,hw13,lw0,lwn,rfl⟩;have s1013:=s1012.trans s13;have hd13:=s13 _ _ hd12;walk_at "rn";refine dA (fun σ' H'=>aj H13 H'/\∃ (dw:Addr) (lk:List SI),H' dw=some (.lst (lk.map siV))/\m8 n t e L M m k lk/\σ'=[some (.ref a),some (.ref d1),some (.ref dp),some (.int m),some (.ref dm),some (.int (x:Int)),some (.ref dd),some (.ref g),some (.ref hd),some (.int (k:Int)),some (.ref dw)]) (fun N hN=>?_) ?_
  ·walk_at "rn";refine aU (fun k1=>?_) (fun k1=>?_)
   ·have el:=lwn (by omega)
    subst el;subst k1;walk_at "1";refine ⟨small (by show 0<=1000;decide),fun p1 hp1=>?_⟩
    have s14:=ay hp1 (.lst []);have aD14:=Rep.mono (s13.trans s14) aD12;refine nt (α:=SI) (as:=lw) (bs:=[]) aD14 ⟨p1,_,rfl,SqL.of ar,.nil⟩ ?_;generalize upd H13 p1 (.lst [])=H14 at s14 aD14;have keepIt:¬ (lw≠[]/\lw[0]?≠some (.inl "part")/\lw[0]?≠some (.inl "wheel"))->m8 n t e L M m 1 lw:=fun z=>by
     have:=w1;rw [if_neg z] at this;exact this
    walk_at "rn";refine bH (fun hne=>?_) (fun hne=>?_)
    ·obtain ⟨s',hs'⟩:=first hne;walk_at "rn";refine cM aD14 rfl hs' fun w1' hw1=>?_;cases (show w1'=V.str s' from hw1);walk_at "rn";refine ⟨rfl,?_⟩;walk_at "rn";refine bH (fun es=>?_) (fun es=>?_)
     ·walk_at "rn";refine cM aD14 rfl hs' fun w2' hw2=>?_;cases (show w2'=V.str s' from hw2);walk_at "rn";refine ⟨rfl,?_⟩;walk_at "rn";refine bH (fun es2=>?_) (fun es2=>?_)
      ·walk_at "1";refine ⟨small (by show 0<=1000;decide),fun p2 hp2=>?_⟩
       refine hN _ _ ⟨s14.trans (ay hp2 _),p2,[],ar,?_,rfl⟩;have c1:lw[0]?≠some (.inl "part"):=fun z=>by
        rw [hs'] at z;injection z with z;injection z with z;exact es (by rw [z])
       have c2:lw[0]?≠some (.inl "wheel"):=fun z=>by
        rw [hs'] at z;injection z with z;injection z with z;exact es2 (by rw [z])
       have:=w1;rw [if_pos ⟨hne,c1,c2⟩] at this;exact this
      ·walk_at "rn";injection es2 with es2;subst es2;exact hN _ _ ⟨s14,dw,lw,s14 _ _ hw13,keepIt fun z=>z.2.2 hs',rfl⟩
     ·walk_at "rn";injection es with es;subst es;exact hN _ _ ⟨s14,dw,lw,s14 _ _ hw13,keepIt fun z=>z.2.1 hs',rfl⟩
    ·walk_at "rn";exact hN _ _ ⟨s14,dw,lw,s14 _ _ hw13,keepIt fun z=>z.1 hne,rfl⟩
   ·walk_at "rn";refine hN _ _ ⟨aj.refl _,dw,lw,hw13,?_,rfl⟩;rcases NZ k with c|c
    ·have e0:=lw0 c;subst c;rw [e0];exact w0
    ·have:k=2:=by omega
     subst this;rw [lwn (by decide)]
     exact w2
  rintro σ' H14 ⟨s14,dw,lk,hw14,wt,rfl⟩;have s1014:=s1013.trans s14;walk_at "2";refine ⟨g,hd,x,m,k,lk,rfl,ask k lk H14 s1014 k2 wt,fun d15 H15 s15 h15=>?_⟩;walk_at "rn";refine nt (α:=SI) (mF h15) (mF (s15 _ _ hw14)) ?_;walk_at "rn";refine bH (fun c=>absurd rfl c) (fun _=>?_);walk_at "1";refine ⟨small (by show 2<=1000;decide),fun p16 hp16=>?_⟩
  have s16:=ay hp16 (.lst [.ref dp,.ref dm]);obtain ⟨a1,a2⟩:=pair _ p16 p16 (s1014.trans (s15.trans s16)) ar;refine nt (α:=List Int) a1 a2 ?_;generalize upd H15 p16 (.lst [.ref dp,.ref dm])=H16 at s16;walk_at "rn";refine bH (fun c=>absurd rfl c) (fun _=>?_);have s1416:=s15.trans s16;have s1016:=s1014.trans s1416;have hw16:=s1416 _ _ hw14;walk_at "rn";walk_at "ifs";walk_at "1";refine ⟨small (by show 0<=1000;decide),fun p17 hp17=>?_⟩
  have s17:=ay hp17 (.lst []);refine nt (α:=SI) (as:=lk) (bs:=[]) (mF (s17 _ _ hw16)) ⟨p17,_,rfl,SqL.of ar,.nil⟩ ?_;generalize upd H16 p17 (.lst [])=H17 at s17;have s1117:aj H11 H17:=s12.trans (s13.trans (s14.trans (s1416.trans s17)));walk_at "rn";refine bH (fun hne=>?_) (fun _=>?_)
  ·walk_at "2";refine ⟨g,hd,x,m,k,lk,rfl,ask k lk H17 (s1016.trans s17) k2 wt,hne,fun d18 H18 s18 h18=>?_⟩;walk_at "rn";refine zT (mF (s18 _ _ (s17 _ _ hw16))) fun p19 H19 _ s19 g19=>?_;have ec:cut lk none (some ((1:Nat):Int))=lk.take 1:=by
    rcases wt.shape with z|z|z|z|⟨_,_,z⟩ <;> (rw [z];rfl)
   rw [ec] at g19;refine nt (α:=SI) (as:=lk.take 1) (bs:=lk.take 1) (mF (s19 _ _ h18)) g19.at ?_;walk_at "rn";refine bH (fun c=>absurd rfl c) (fun _=>?_);walk_at "rn";exact ⟨s1117.trans (s18.trans s19),_,_,rfl⟩
  ·walk_at "rn";exact ⟨s1117,_,_,rfl⟩
 ·rintro σ' H12 ⟨s12,x9,x10,rfl⟩;walk_at "1";refine ⟨small (by show 2<=1000;decide),fun pz hpz=>?_⟩
  have s13:=ay hpz (.lst [.ref dp,.ref dm]);obtain ⟨a1,a2⟩:=pair _ pz pz (s11.trans (s12.trans s13)) ar;refine K3 (α:=List Int) a1 a2 ?_;rw [decide_eq_true rfl];exact q _
end
def IT {l:Sm} {w:World} {K:LN} {mg:Str->Option Value} {fa:Addr} (hfa:mg "law" = some (.ref fa)) (T:Txt K mg) (hb:∀ (s:LU) (v:Value),Q9 s T.qh.fd ⟨[v],[]⟩ [("_law_script",v)]) :
  ∃ fd:Na,(∀ (s:LU) (v:Value),Q9 s fd ⟨[v],[]⟩ [("_law_script",v)])/\∀ base:Heap,K.In base->base.Ns MO mg->aH l.prog w K mg base CX0 12 fa fd ["_law_script"] (xE K):=by
 refine ⟨T.qh.fd,hb,fun base _ _=>?_⟩;cases hfa.symm.trans T.qh.nm;exact J9 T
def walk {l:Sm} {q:Mh} {loose:List Str} {XP:(Str->Option Value)->Heap->Prop} {YP:World->Heap->Prop} {d:DefRec} {K:Params->LN} (hn:l.most=some 63) (hdf:d.params.defaults=[])
  (hY:∀ (w:World) (h:Heap),YP w h->(K w.params).In h)
  (F:∀ (w:World) (mg:Str->Option Value) (fa:Addr) (h:Heap),(K w.params).In h->h.Ns MO mg->mg d.name=some (.ref fa) ->
   ∃ fd:Na,(∀ (s:LU) (u:Value),Q9 s fd ⟨[u],[]⟩ [("_law_script",u)])/\∀ base:Heap,(K w.params).In base->base.Ns MO mg->aH l.prog w (K w.params) mg base CX0 12 fa fd ["_law_script"] (xE (K w.params))) :
  PySem.W.WalkO q loose XP YP l.row.toRowW d [] (fun f vs=>PySem.call f vs) :=
 L2.Iw (n:=63) (k:=12) (x:="_law_script") (CX:=fun _=>CX0) (sp:=fun w=>xE (K w.params)) hn (by decide) hdf ⟨rfl,by decide,by decide⟩ hY F (fun _ _ a ns hl _ hS=>⟨a,ns,rfl,hS,hl,fun _=>rfl⟩) fun _ _ _ _ _ z=>z
end TB
namespace PySem.W.Fast
def tw17553645591650671579:=0
def tw14243765736351764901:=0
def tw17202911599799754414:=0
def tw17270090784927844079:=0
def tw1672010856025722201:=0
def tw10398008186464301360:=0
def tw17068058314332157536:=0
def tw914991562828325554:=0
def tw3298975805198235940:=0
def tw8025767939133887404:=0
def tw8051282763016967775:=0
def tw3034589824456578972:=0
def tw2330497143368256273:=0
def tw6860874040948499758:=0
def tw11796546647856245807:=0
def tw12909684840729231722:=0
def tw4016706905430141078:=0
def tw17358652550022557090:=0
def tw1887864928209813906:=0
def tw15252564884497588664:=0
def tw9573712049799774463:=0
def tw4473452276487408280:=0
def tw642324602870567381:=0
def tw14653081065207334857:=0
def tw13779673748372964373:=0
def tw5575015646947131219:=0
def tw13735034245679092494:=0
def tw15002679396375253837:=0
def tw13060176088586871193:=0
def tw13846152701119003758:=0
def tw12300597541958650565:=0
def tw9301546068753603461:=0
def tw13216581731513922702:=0
def tw6893727660949192207:=0
def tw8464710332885362007:=0
def tw14560975852910623213:=0
def tw14399983884357524188:=0
def tw2149265909720688023:=0
def tw7908248450901944665:=0
def tw16758725418605328380:=0
def tw18003904463970666747:=0
def tw17409248318782968443:=0
def tw5585820871324335400:=0
def tw9976019800559730754:=0
def tw12817012495208446133:=0
def tw17021106773412175653:=0
def tw515194121413767231:=0
def tw2558439938208714276:=0
def tw13571321811832754920:=0
def tw12710225952856045868:=0
def tw14563578643005033783:=0
def tw11924011339417633919:=0
def tw7997053952591525101:=0
def tw6639349519286272662:=0
def tw5267406122051080664:=0
def tw12617464980368810554:=0
def tw1873391599582261808:=0
def tw12688154494238149450:=0
def tw6288463223939573188:=0
def tw844333449829015266:=0
def tw9055053588341956403:=0
def tw571967216317460543:=0
def tw4847271650913819548:=0
def tw11939911532123187715:=0
def tw6239231403141955061:=0
def tw13683793504914803632:=0
def tw7245936281110979282:=0
def tw15659818310996369656:=0
def tw6768388332107798720:=0
def tw3028576514008873205:=0
def tw8422409050771950378:=0
def tw11359655939542526090:=0
def tw9251138270793170805:=0
def tw12753666907682670476:=0
def tw11021977537478408288:=0
def tw13078785228127187772:=0
def tw11240724717512357068:=0
def tw8372713127389682086:=0
def tw17730916333983933473:=0
def tw4023412620527359411:=0
def tw14591629907004380083:=0
def tw2450154671982594852:=0
def tw12087678397120327782:=0
def tw5775339278826706301:=0
def tw10565884241786988224:=0
def tw9497609473922010678:=0
def tw5416117401476699928:=0
def tw4305263739919671187:=0
def tw14540439040503985431:=0
def tw8598489171843569493:=0
def tw11167064857277764638:=0
def tw15023619037105020752:=0
def tw5202193294397883141:=0
def tw5867359596159605559:=0
def tw12990375303580743237:=0
def tw1872953099757008764:=0
def tw11443983252105309305:=0
def tw3908061775299484377:=0
def tw1730786564069731322:=0
def tw3959794253690442574:=0
def tw3117837746800722029:=0
def tw6153914744811989309:=0
def tw10470997012165113735:=0
def tw6247998183788616007:=0
def tw9308350914322495293:=0
def tw16342386331344551555:=0
def tw13510679286675906673:=0
def tw3557323191896422362:=0
def tw12343353938280861298:=0
def tw4347110762305345115:=0
def tw14799353977240293638:=0
def tw3799243613104034405:=0
def tw16052596933002847586:=0
def tw1435224112784683638:=0
def tw7953181273952024273:=0
def tw1797287390588426379:=0
def tw14350106400865191519:=0
def tw10867178186220152281:=0
def tw3322870441192436748:=0
def tw1864436143085789559:=0
def tw1129101944657510922:=0
def tw11346647033873276957:=0
def tw11160102787041221912:=0
def tw15525329131440988414:=0
def tw3651741229054772287:=0
def tw6469298524006978625:=0
def tw14788614591720468389:=0
def tw4160833811783472489:=0
def tw13112317305831543933:=0
def tw6580606548593082581:=0
def tw11563683048643529425:=0
def tw17572749440271776638:=0
def tw4690470831044897222:=0
def tw9215290345532869975:=0
def tw17564140641087988227:=0
def tw911750498437379827:=0
def tw2137831500473738093:=0
def tw7107699440350223166:=0
def tw7753345746225441680:=0
def tw4340886120999033844:=0
def tw3478141433646280328:=0
def tw1898174389899838090:=0
def tw7850252859715367347:=0
def tw4427849415860921129:=0
def tw3992839371360275322:=0
def tw8424402330895523944:=0
def tw9913050605231896969:=0
def tw15631896355538430301:=0
def tw14311542358666608475:=0
def tw17635029139563055372:=0
def tw16011825172088333761:=0
def tw14364993356062342749:=0
def tw4158157515928087916:=0
def tw273892130762752370:=0
def tw8042166435937440629:=0
def tw6614387896006509766:=0
def tw9246722247583470706:=0
def tw15894156381941420343:=0
def tw3420950770801637068:=0
def tw14633229552916962473:=0
def tw13120703401359459497:=0
def tw14407236347040782701:=0
def tw1103652309679328439:=0
def tw14762718412317583933:=0
def tw16363843861634925511:=0
def tw4440836866392869246:=0
def tw750631427454320103:=0
def tw8996549157321986434:=0
def tw6517743846245689260:=0
def tw17502423050086058262:=0
def tw5019318781513310485:=0
def tw3530169371020617232:=0
def tw8779842847592351225:=0
def tw1544431634146312595:=0
def tw1904108125478459454:=0
def tw16874393633735802083:=0
def tw10006382774498856566:=0
def tw14468982891239189316:=0
def tw7706183024846583649:=0
def tw5971406580271609262:=0
def tw13435884259709404935:=0
def tw414793599831022972:=0
def tw637213539244983129:=0
def tw15910587435209153822:=0
def tw9503001851558902139:=0
def tw2522745539709364050:=0
def tw13327496152681545462:=0
def tw8326996274126214971:=0
end PySem.W.Fast
open PySem PySem.W PyProof.Rows L2
set_option maxRecDepth 100000 in
set_option maxHeartbeats 0 in
theorem PySem.Challenge.cw_tracebook_k32_refused_ones_holds : PySem.Challenge.rw_tracebook_k32_refused_ones.Holds := by
 w_on;o_law;k_head;(case hw=>w_witness2)
 k_fill
 refine TB.walk (l:=PySem.Challenge.rw_tracebook_k32_refused_ones) rfl rfl (fun w h Y=>PySem.W.kIn_of Y) ?F
 case F =>
  intro w mg fa h KX G hmg
  exact TB.IT hmg ⟨df1 KX G,df1 KX G,df1 KX G,df1 KX G,df2 KX G,df2 KX G,df3 KX G,df1 KX G,df2 KX G,df3 KX G,df2 KX G,df1 KX G,df3 KX G,df2 KX G,df2 KX G,df2 KX G,df1 KX G,df2 KX G,df2 KX G,df2 KX G,df3 KX G,df1 KX G,df2 KX G,df3 KX G,dd4 KX G,df4 KX G,df3 KX G,df4 KX G,dd5 KX G,df5 KX G,df3 KX G,dd3 KX G,df1 KX G,df2 KX G,df2 KX G,df2 KX G,df3 KX G,df4 KX G,df3 KX G,df3 KX G,df2 KX G,df2 KX G,df1 KX G,df2 KX G,df1 KX G,df2 KX G,df2 KX G,df2 KX G,df2 KX G,df2 KX G,df4 KX G,df4 KX G,df5 KX G,df5 KX G,df1 KX G,df5 KX G,df1 KX G,_,_,_,mgk KX G,LD,mkk,fnk,bd4,mX,mX,mX,mX,_,mgk KX G,_,mgk KX G,_,mgk KX G,_,mgk KX G,_,mgk KX G,_,mgk KX G,_,mgk KX G,_,mgk KX G,_,mgk KX G,_,mgk KX G,_,mgk KX G,_,mgk KX G,_,mgk KX G,_,_,_,mgk KX G,Gw,fnk,bd3,mX,mX,_,_,_,mgk KX G,Gw,fnk,bd3,mX,mX,_,_,_,mgk KX G,Gw,fnk,bd2,mX,krf,uA,krf,uA,krf,uA,uA,uA,uA,krf,krf,krf,krf,krf,krf,krf,krf,krf,krf,krf,krf,krf,krf,krf,krf,krf,krf,krf,krf,krf,krf,krf,krf,krf,krf,krf,krf,krf,krf,krf,krf,_,mgk KX G,_,mgk KX G,mgz KX G,mgz KX G,mgz KX G,mgz KX G,mgz KX G,mgz KX G,mgz KX G,mgz KX G,mgz KX G,mgz KX G,mgz KX G,mgz KX G,mgz KX G,mgz KX G,mgz KX G⟩ fun s v=>.of_eq rfl
