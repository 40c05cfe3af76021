import PyProof.Rows.All
import Wide.All
import OpenK.AllK
import Wide.FinOn
import Lean
import PyProof.EqAt
import PyProof.EqKinds
import PyProof.TupleCall
import PyProof.NeKinds
import PySem.Challenge.RW_tracebook_k32_refused_ones
local macro_rules | `(tactic| trivial) => `(tactic| decide +kernel)
def Ua {α:Type} {a:α} {q:Prop}:a=a\/q:=Or.inl rfl
open Array renaming length_toList->MC,getElem?_eq_getElem->MD,getElem?_toList->MZ,getElem?_eq_some_iff->NI,getD_eq_getD_getElem?->N2,getElem?_eq_none->N6,toList_inj->R4
open Array.Perm renaming refl->Pj
open Bool renaming false_ne_true->Ml,false_eq_true->MV,eq_iff_iff->NR,and_eq_true->NU,not_eq_true'->Pp
open Classical renaming byContradiction->OQ,not_forall->PB,not_imp->Qq
open Exists renaming intro->SH
open False renaming elim->Nd
open ForInStep renaming yield->Pc
open Int renaming toNat_natCast->Ny,emod_nonneg->QT,add_mul_emod_self_left->QV,toNat->Rq,toNat_of_nonneg->Tg
open Int.ofNat renaming inj->RH
open List renaming getElem?_eq_getElem->LP,getElem?_eq_some_iff->LR,mem_of_getElem?->LS,getD_eq_getElem?_getD->LU,length_map->LX,range->LY,mem_singleton->LZ,mem_cons_of_mem->L5,mem_cons_self->L9,mem_range->Ma,mem_append->Mc,replicate->Me,size_toArray->Mg,mem_map->Mm,getElem?_map->Mp,mem_cons->Mq,length_append->Mr,getElem?_of_mem->Ms,pairwise_iff_getElem->Mx,map_cons->Mz,all_eq_true->MA,take_add_one->MB,length_take->MF,getElem?_append_left->MG,take_length->MJ,getElem?_eq_none->MM,length_cons->MO,getElem?_append_right->MT,take_of_length_le->MU,nodup_cons->MY,idxOf_lt_length_of_mem->M1,map_append->M8,length_pos_iff->M9,lookup_cons->Nh,length_range->Nj,mem_filter->Nl,mem_append_right->Nm,getElem_mem->Nt,toArray->Nz,getElem?_take_of_lt->NA,replicate_succ->ND,mem_append_left->NK,getElem?_set_self->NN,append_nil->NS,pairwise_map->NX,length_set->NZ,getElem?_set_ne->N3,filterMap_cons->N7,length_singleton->Oe,length_filter_le->Og,replicate_succ'->Om,getElem?_replicate->Oq,map_map->Ox,flatten_cons->Oz,ext_getElem?->OA,not_mem_nil->OH,find?_cons->OU,eq_of_mem_replicate->O0,length_eq_zero_iff->O3,nodup_range->O5,pairwise_lt_range->O9,pairwise_cons->Pa,take_append_drop->Pe,lookup_cons_self->Ph,range_succ->Pm,mem_of_mem_drop->Px,mem_of_mem_take->Py,drop_eq_getElem_cons->PJ,any_eq_true->PN,lookup->PU,getElem?_range->PV,map_congr_left->PX,any_cons->P2,length_nil->P4,filter_cons_of_neg->Qc,any_eq_false->Qh,append_assoc->Qj,eraseIdxIfInBounds_toArray->Qk,nodup_nil->Qt,length_drop->QC,length->QJ,map_id->QK,getElem_of_mem->QL,length_zip->QM,getElem_idxOf->Q0,filter_append->Q5,map_replicate->Q6,getElem?_zip_eq_some->Ra,mem_of_find?_eq_some->Rc,nodup_append->Ro,idxOf_lt_length_iff->Rp,find?_range_eq_some->Rw,find?_range_eq_none->Rx,all_cons->RG,filter_cons_of_pos->RP,getElem_inj->RS,perm_middle->R3,of_mem_zip->Sl,forIn_cons->So,mem_iff_getElem->SW,length_reverse->S7,filter_sublist->Td,flatMap_append->Te,flatten_append->Ti,map_take->Tr,map_drop->Ts,map_nil->TL
open List.Pairwise renaming filter->QE
open Nat renaming le_refl->Mb,ne_of_lt->Md,lt_of_lt_of_le->Mn,lt_or_ge->Mv,mod_lt->Mw,mod_eq_of_lt->MH,zero_le->MI,le_trans->M7,lt_trichotomy->Ni,mul_le_mul_left->Nn,dvd_of_mod_eq_zero->Nq,div_lt_of_lt_mul->Nr,lt_succ_of_lt->NH,lt_of_le_of_lt->NM,add_mul_mod_self_left->NT,div_eq_of_lt->NV,eq_zero_or_pos->N0,add_mul_div_left->N4,mul_pos->Oc,add_zero->Of,mul_succ->Oh,mod_add_mod->Oi,eq_of_beq_eq_true->Oj,lt_irrefl->Oo,le_of_lt->Ou,add_comm->Ov,mul_comm->Ow,zero_add->Oy,le_succ->OC,beq->OF,ne_of_gt->OI,add_mod_mod->OY,div_add_mod->OZ,mul_zero->Pk,zero_mod->Pl,add_assoc->Pu,mul_le_mul_right->Pz,eq_of_mul_eq_mul_left->PK,lt_succ_self->PM,le_add_right->PQ,succ_mul->PY,mul_assoc->Qb,le_mul_of_pos_right->Qd,mul_left_comm->Qp,zero_mul->Qx,le_of_eq->QZ,mod_self->Q4,add_sub_of_le->Ry,mul_add->RO,succ_le_succ->RX,le_of_not_lt->RY,div_div_eq_div_mul->Sd,not_lt_zero->Su,mod_add_div->SE,zero_div->SG,add_mod->Tc,add_mul->Tf,div_pos->Th,lt_trans->TM,one_mul->T7
open Ne renaming symm->NJ
open Option renaming getD_some->OG,map_eq_some_iff->O7
open Option.some renaming inj->ME
open Or renaming inl->L8,inr->Qf
open PyProof.Rows renaming boot_isinstance->Mh,callWith_type1->Nu,boot_list->NQ,boot_sorted->NY,IntsAre->OD,boot_all->Pn,boot_any->Qy,assignInOrder_cons->QX,AllBare->RD,mirror_perm->RM,boot_range->RQ,subscriptTail_builtinR->R8,entry_list_sort->SA,slot_list_sort->S4,args_list_sort->S5,Constant_none->To,listUpdate_at->Tu,plain_sorted->TQ,entry_sorted->TR,args_sorted1->TU,kind_sorted->T5,seqEpoch_at->T6
open PyProof.Rows.F renaming plain_set_update_loop->Qa,entry_set_update_loop->RK
open PyProof.Rows.SortSt renaming mk'->Tz
open PySem renaming wpAny_bind->LQ,Shared->LV,wpAny_pure->L4,boot_len->Mf,Program->Mi,sizeLine->My,mainGlobals->MP,Around->MQ,starEach->MS,sizeLine_eq->MX,wpAny_holding->M4,FuncData->Na,wpAny_mono->Nc,Paired->Nk,codeAny_builtin->Nv,wpAny_loadPart'->NF,SetTable->N1,wpAny_call_entry->N5,wpAny_truthy_bool->N8,wpAny_newObj_type->N9,mem_of_lookup->Oa,wpAny_field->Ob,Builtin->OE,codeAny_mono->OJ,wpAny_Call_Name_kw->OL,plainId_quiet->OM,codeAny_call_builtin->OR,wpAny_passesOwn->OS,wpAny_setState_of->OX,wpAny_callSpecial?_slot->O4,call_meets->O6,wpAny_execs_nil->Pb,wpAny_attempt->Pq,wpAny_loadPart_at->Pr,wpAny_standAt->P0,ExceptHandler->P5,wpAny_setField_rec->P8,wpAny_pyIter_list->Qg,plainObj_wpAny_Assign_Attribute->Qi,GenState->Qr,NameKind->Qs,ZipApart->Qu,Within->QW,tupleKind_room_in1->Q1,wpAny_typeOf->Q3,wpAny_loadPart->Q8,BindsTo->Q9,Result->Rj,wpAny_call->Rm,wpAny_comprehension_free->Rn,wpAny_newList->RL,wpAny_execs_cons->RT,wpAny_lookBehind->RV,pastItsLine_dict->RW,wpAny_pyIter_zip->RZ,wpAny_isInstance->R1,wpAny_askSetting->R5,richCompare_meets_room->Sa,wpAny_nextOf_list_item->Sb,wpAny_isTrue_Compare1->Sf,Keyword->Sk,wpAny_pyNext_zip_item->Sr,codeAny_of_tree->Sw,builtinLookup_eq_fast->Sx,typeIs_int->SO,PlainAttrs->SQ,intKind_is->SR,wpAny_pyNext_zip_end->SV,IsPair->SY,wpAny_setField->S0,entryFor_alias->S1,wpAny_seqItems->S2,wpAny_runValue->S3,wpAny_isSubtype_exc->Tb,wpAny_rule->Tv,wpAny_nsSet1->TC,seqIndex_neg->TK,seqIndex_of->T3,putSet_of->T4,PassesOwn->T9
open PySem.Around renaming under_plainId->Nf,under->TF
open PySem.Builtin.Dict renaming updateFrom->RI
open PySem.Builtin.List renaming listTooLong->OT,listExtendWith->Pg,listSameRef->Rt
open PySem.Builtin.Range renaming rangeSize->RE
open PySem.Builtin.SmallTypes renaming ownedTupleIsFree->NW,nextOf->PD
open PySem.Calls renaming call_function_entry->PF,Name_function_global->QU,callWith_builtin->R9,evalArgs_plain->SU
open PySem.Code renaming quiet_builtin->P6,isFrame->TJ
open PySem.Data renaming cell->Tp,fields->TZ
open PySem.EntryCells renaming newEntry->S8
open PySem.F renaming plainAttrs_list->Mj,slot_list_append->MK,type_list_append->ML,slot_list_index->O2,attrBase_ValueError->Pd,called_set->Pf,excBase_ValueError->Pw,slot_zip_getattribute->P7,type_list_index->Qe,plain_list_iadd->Qn,slot_zip_next->QP,slot_list_insert->Rz,type_list_insert->RA,entry_proto_collect->Sy,plain_proto_collect->Sz,slot_list_pop->SJ,type_list_pop->SK
open PySem.Heap renaming get?_push_of_some->LW,lt_size->L6,get?_push_size->Mo,get?_update_other->Nb,get?_update_self->NC,size_push->OP,SameBut->O1,get?_push_ne->Qo,get?_update_ne->QQ,size_update->R6,get?_none_of_le->SS
open PySem.Heap.Ns1 renaming of_empty->Rl
open PySem.Heap.SameBut renaming update->Ta
open PySem.NameKind renaming free->Od,cell->QF
open PySem.Obj renaming mapSeq->NP,data_mapFields->Q2,putSet->Rr,isFreed_of_fields->Ss,mapFields->Tq
open PySem.Paired renaming length->RC
open PySem.PassesOwn renaming never->L7
open PySem.SeqAt renaming EqAt->Tw
open PySem.SeqAt.EqAt renaming same->Sm
open PySem.SetTable renaming below->MW,insertAt->OV,toList_insertAt->OW,bits->P9,turns->Qv,fits->QI,grown->Rb,fill->RJ,runEnd->Sv,probeStart->S9,layClean->Tx,probe->T8
open PySem.SetTable.below renaming go->Ql
open PySem.SetTable.layClean renaming free->O8
open PySem.SetTable.probe renaming go->Qm
open PySem.Shared renaming TypeIs->Tt
open PySem.Str renaming ofString->Np
open PySem.Value renaming ref->Mt,none->Ng,int->Ol,bool->SM,type->SN,str->Tj,float->TY
open PySem.W renaming Frag->LO,exmOne->Mu,emptyDict->MN,fnOf->MR,findIn->M5,keepIn->M6,kitOne->Nw,codeIn->Nx,kia_one->NB,hasDictIn->NG,looks_findIn->NL,Looks->Ot,instObj->OB,nsIn->ON,mg_of->OO,excIn->Po,any_some->PL,looks_clsIn->PR,kas_descPart->PZ,callWith_K->P1,kas_desc->Qw,plainGet->Qz,kas_rev->QD,clsIn->QG,looks_mroIn->QN,kas_count->QR,InstAt->Q7,methodObj->Rf,plainOver->Rg,set_plain->Rh,kas_tail3->Ru,kas_place->Rv,mroIn->RF,kas_sort->RN,handedIn->RU,cellsFrom_some->R7,takerIn->Sg,makesIn->Si,isFn->Sj,OpenLaw->Sn,kas_asc->SD,lookIn->SX,findObj_own->S6,kas_rev_size->TV
open PySem.W.Looks renaming here->QY
open PySem.Within renaming cons->Ri
open PySem.pickOrder renaming go->TN
open Sum renaming inr->RB,inl->Se
open Sum.inl renaming inj->TX
open True renaming intro->NO
set_option Elab.async false
set_option linter.all false
set_option maxRecDepth 100000
namespace L2
open PySem PySem.Spec PyProof.Rows
abbrev Key:=Sum Int Str
def qg:Key->Value->Bool
 | .inl k,v=>Value.isInt k v
 | .inr x,v=>Value.isStrOf x v
def LN (w:World):Key->Int
 | .inl k=>hashInt k
 | .inr x=>hashStr w x
def cV:∀ {k:Key} {v:Value},qg k v=true->(∃ i t,k=Se i/\v=Ol i t)\/(∃ x t,k=RB x/\v=Tj x t)
 | .inl i,v,h=>by
  obtain ⟨t,e⟩:=Value.isInt_shape (k:=i) (v:=v) h;exact .inl ⟨i,t,rfl,e⟩
 | .inr x,v,h=>by
  obtain ⟨t,e⟩:=Value.isStrOf_shape (x:=x) (v:=v) h;exact .inr ⟨x,t,rfl,e⟩
def Ed (i:Int) (t:Tok):qg (.inl i) (.int i t)=true:=by simp [qg,Value.isInt]
def D0 (x:Str) (t:Tok):qg (.inr x) (.str x t)=true:=by simp [qg,Value.isStrOf]
def KR (a b:Int):decide ((Se a:Key)=Se b)=(a == b):=by
 by_cases e:a=b
 ·subst e;simp
 ·have h:¬ (Se a:Key)=Se b:=fun q=>e (TX q);rw [decide_eq_false h];exact (beq_eq_false_iff_ne.mpr e).symm
def KP (a b:Str):decide ((RB a:Key)=RB b)=decide (a=b):=by
 by_cases e:a=b
 ·subst e;simp
 ·have h:¬ (RB a:Key)=RB b:=fun q=>e (RB.inj q);rw [decide_eq_false h,decide_eq_false e]
def KL (a:Int) (b:Str):decide ((Se a:Key)=RB b)=false:=decide_eq_false (fun q=>nomatch q)
def JR (a:Str) (b:Int):decide ((RB a:Key)=Se b)=false:=decide_eq_false (fun q=>nomatch q)
def cG (prog:Mi) (w:World):PySem.KeyKind prog w Key where
 is:=qg
 hash:=LN w
 inj:=fun v a b ha hb=>by
  rcases cV ha with ⟨i,t,rfl,rfl⟩|⟨x,t,rfl,rfl⟩
  ·rcases cV hb with ⟨j,u,rfl,e⟩|⟨y,u,rfl,e⟩
   ·injection e with e1 _;rw [e1]
   ·exact nomatch e
  ·rcases cV hb with ⟨j,u,rfl,e⟩|⟨y,u,rfl,e⟩
   ·exact nomatch e
   ·injection e with e1 _;rw [e1]
 byValue:=fun k v h=>by
  rcases cV h with ⟨i,t,rfl,rfl⟩|⟨x,t,rfl,rfl⟩ <;> rfl
 pyHash:=fun hv h=>by
  rcases cV hv with ⟨i,t,rfl,rfl⟩|⟨x,t,rfl,rfl⟩
  ·exact wpAny_pyHash_int h
  ·exact wpAny_pyHash_str h
 eqBool:=fun hu hv h=>by
  rcases cV hu with ⟨i,t,rfl,rfl⟩|⟨x,t,rfl,rfl⟩
  ·rcases cV hv with ⟨j,u,rfl,rfl⟩|⟨y,u,rfl,rfl⟩
   ·rw [KR] at h;exact wpAny_eqBool_int h
   ·rw [KL] at h;exact SeqAt.EqAt.int_str i t y u _ _ _ _ h
  ·rcases cV hv with ⟨j,u,rfl,rfl⟩|⟨y,u,rfl,rfl⟩
   ·rw [JR] at h;exact SeqAt.EqAt.str_int x t j u _ _ _ _ h
   ·rw [KP] at h;exact wpAny_eqBool_str h
 «strs»:=fun k x t v h=>by
  rcases cV h with ⟨i,u,rfl,e⟩|⟨y,u,rfl,e⟩
  ·exact nomatch e
  ·injection e with e1 _;subst e1;cases v <;> rfl
def AJ (prog:Mi) (w:World) (i:Int) (t:Tok):(cG prog w).is (.inl i) (.int i t)=true:=Ed i t
def AK (prog:Mi) (w:World) (x:Str) (t:Tok):(cG prog w).is (.inr x) (.str x t)=true:=D0 x t
inductive V where
 | non|bl (b:Bool)|int (i:Int)|str (x:Str)|byt (b:Array UInt8)|flt (b:UInt64)|ref (a:Addr)|ty (n:String)
 deriving DecidableEq
def RelV:V->Value->Prop
 | .non,u=>u=Ng
 | .bl b,u=>u=SM b
 | .int i,u=>∃ t,u=Ol i t
 | .str x,u=>∃ t,u=Tj x t
 | .byt b,u=>∃ t,u=Value.bytes b t
 | .flt b,u=>∃ t,u=TY b t
 | .ref a,u=>u=Mt a
 | .ty n,u=>u=SN n
abbrev Vals:List V->List Value->Prop:=Nk RelV
def Vals.length {xs:List V} {us:List Value} (r:Vals xs us):xs.length=us.length:=RC r
def Vals.get:∀ {xs:List V} {us:List Value} {i:Nat} {x:V},Vals xs us->xs[i]?=some x->∃ u,us[i]?=some u/\RelV x u
 | _,_,_,_,.nil,e=>by simp at e
 | _,_,0,_,.cons r _,e=>by simp at e;subst e;exact ⟨_,rfl,r⟩
 | _,_,i+1,x,.cons _ t,e=>by
  obtain ⟨u,h1,h2⟩:=Vals.get (i:=i) (x:=x) t (by simpa using e)
  exact ⟨u,by simpa using h1,h2⟩
def Vals.set {x:V} {u:Value} (r:RelV x u):∀ {xs:List V} {us:List Value} (i:Nat),Vals xs us->Vals (xs.set i x) (us.set i u)
 | _,_,_,.nil=>.nil
 | _,_,0,.cons _ t=>.cons r t
 | _,_,i+1,.cons q t=>.cons q (Vals.set r i t)
def Vals.append:∀ {xs ys:List V} {us ws:List Value},Vals xs us->Vals ys ws->Vals (xs++ys) (us++ws)
 | _,_,_,_,.nil,s=>s
 | _,_,_,_,.cons r t,s=>.cons r (Vals.append t s)
def Vals.take:∀ {xs:List V} {us:List Value} (n:Nat),Vals xs us->Vals (xs.take n) (us.take n)
 | _,_,0,_=>.nil
 | _,_,_+1,.nil=>.nil
 | _,_,n+1,.cons r t=>.cons r (Vals.take n t)
def Vals.drop:∀ {xs:List V} {us:List Value} (n:Nat),Vals xs us->Vals (xs.drop n) (us.drop n)
 | _,_,0,r=>r
 | _,_,_+1,.nil=>.nil
 | _,_,n+1,.cons _ t=>Vals.drop n t
def fL:Option V->Option Value->Prop
 | some v,some u=>RelV v u
 | none,none=>True
 | _,_=>False
def KV {κ:Type}:List (κ×V)->List (κ×Value)->Prop:=Nk fun (p:κ×V) (q:κ×Value)=>p.1=q.1/\RelV p.2 q.2
def kV:Key->V
 | .inl i=>.int i
 | .inr x=>.str x
inductive HO where
  | lst (xs:List V)
  | tup (xs:List V)
  | dK (kvs:List (Key×V))|dT (kvs:List (List Key×V))
  | set (S:Int->Bool) (n:Nat)
  | ins (C dx:Addr) (fs:List (Str×V))
  | own (x:Addr)
  | xd (fs:List (Str×V))
  | met (f x:Addr)
  | rng (lo hi:Int)
  | frz (o:Obj) (u:HO)
  | tbl (ps:Array Value)
  | ext (φ:Heap->Prop)
abbrev Hp:=Addr->Option HO
def upd (H:Hp) (a:Addr) (o:HO):Hp:=fun b=>if b=a then some o else H b
def ar {H:Hp} {a:Addr} {o:HO}:upd H a o a=some o:=by unfold upd;rw [if_pos rfl]
def aA {H:Hp} {a b:Addr} {o:HO} (h:b≠a):upd H a o b=H b:=by unfold upd;rw [if_neg h]
def Bt {H:Hp} {a:Addr} {o u:HO}:upd (upd H a o) a u=upd H a u:=by
 funext b;unfold upd;split <;> rfl
def K8 {H:Hp} {a b:Addr} {o u:HO} (h:H a=some o) (h':H b=some u) (d:o≠u):a≠b:=by
 intro e;subst e;rw [h] at h';exact d (ME h')
def aQ {H:Hp} {a b:Addr} {o:HO} (h:H a=some o) (h':H b=none):a≠b:=by
 intro e;subst e;rw [h] at h';cases h'
section
variable (P:Mi) (w:World)
def bA (H:Hp) (h:Heap) (a:Addr):HO->Prop
 | .lst xs=>xs.length<=My/\∃ (its:List Value) (n:Nat),Vals xs its/\h.get? a=some { cls:=.type "list",data:=.seq its.toArray n }
 | .tup xs=>xs.length<=My/\∃ its:List Value,Vals xs its/\IsTup h a its.toArray
 | .dK kvs=>kvs.length<=My/\(a == sysModules)=false/\∃ vs,KV kvs vs/\h.DictOf (cG P w) a vs
 | .dT kvs=>kvs.length<=My/\(a == sysModules)=false/\∃ xs:List (List Key×Addr×Value),
   Nk (fun (p:List Key×V) (q:List Key×Addr×Value)=>p.1=q.1/\H q.2.1=some (.tup (p.1.map kV))/\RelV p.2 q.2.2) kvs xs /\
   ∃ o es ep,h.get? a=some o/\o.ExactDict/\o.data=.dict es ep/\es.toList=xs.map (entryOfKey (tupleKind (cG P w)))/\(xs.map (·.1)).Nodup
 | .set S n=>h.SetOf (intKind P w) a S n
 | .ins C dx fs=>H dx=some (.own a)/\fs.length<=1000/\dx≠a/\h.get? a=some (OB C dx) /\
   ∃ mA,h.Ns1 dx mA/\(∀ f,fL (fs.lookup f) (mA f))/\QW mA (fs.map (·.1))
 | .own _=>∃ o,h.get? a=some o
 | .xd fs=>∃ mA,h.Ns1 a mA/\∀ f,fL (fs.lookup f) (mA f)
 | .rng lo hi=>∃ t u v,h.get? a=some { cls:=.type "range",data:=.fields #[.int lo t,.int hi u,.int 1 v] }
 | .frz o u=>h.get? a=some o/\bA H h a u
 | .tbl ps=>h.get? a=some { cls:=.none,data:=.fields ps }
 | .met f x=>h.get? a=some (Rf (.ref f) (.ref x))
 | .ext φ=>φ h/\(∃ o,h.get? a=some o)/\∀ h1 h2:Heap,φ h1->(∀ o,h1.get? a=some o->h2.get? a=some o)->φ h2
def HOk (H:Hp) (h:Heap):Prop:=∀ a o,H a=some o->bA P w H h a o
end
section
variable {P:Mi} {w:World} {H H':Hp} {h h':Heap} {a:Addr} {o:HO}
def bA.lt (x:bA P w H h a o):a<h.objs.size:=by
 cases o with
 | lst xs=>obtain ⟨_,_,_,_,e⟩:=x;exact L6 e
 | tup xs=>obtain ⟨_,_,_,p⟩:=x;exact p.lt
 | dK kvs=>obtain ⟨_,_,_,_,o,_,_,e,_⟩:=x;exact L6 e
 | dT kvs=>obtain ⟨_,_,_,_,o,_,_,e,_⟩:=x;exact L6 e
 | set S n=>obtain ⟨o,_,_,_,e,_⟩:=x;exact L6 e
 | ins C dx fs=>obtain ⟨_,_,_,e,_⟩:=x;exact L6 e
 | own y=>obtain ⟨_,e⟩:=x;exact L6 e
 | xd fs=>obtain ⟨_,⟨_,_,_,e,_⟩,_⟩:=x;exact L6 e
 | rng lo hi=>obtain ⟨_,_,_,e⟩:=x;exact L6 e
 | frz ob u=>obtain ⟨e,_⟩:=x;exact L6 e
 | tbl ps=>exact L6 (show h.get? a=some _ from x)
 | met f y=>exact L6 (show h.get? a=some _ from x)
 | ext φ=>obtain ⟨_,⟨_,e⟩,_⟩:=x;exact L6 e
def Paired.ck {α β:Type} {F G:α->β->Prop}:∀ {l₁:List α} {l₂:List β},Nk F l₁ l₂->(∀ a b,F a b->G a b)->Nk G l₁ l₂
 | _,_,.nil,_=>.nil
 | _,_,.cons r t,f=>.cons (f _ _ r) (Paired.ck t f)
def bA.kF (x:bA P w H h a o) (k:∀ b u,(b=a\/H b=some (.own a))->h.get? b=some u->h'.get? b=some u)
  (ho:∀ b,H b=some (.own a)->H' b=some (.own a)) (ht:∀ b xs,H b=some (.tup xs)->H' b=some (.tup xs)):bA P w H' h' a o:=by
 induction o with
 | lst xs=>obtain ⟨z,its,n,r,e⟩:=x;exact ⟨z,its,n,r,k _ _ (.inl rfl) e⟩
 | tup xs=>obtain ⟨z,its,r,ob,e,c⟩:=x;exact ⟨z,its,r,ob,k _ _ (.inl rfl) e,c⟩
 | dK kvs=>obtain ⟨z,y,vs,r,ob,es,ep,e,c⟩:=x;exact ⟨z,y,vs,r,ob,es,ep,k _ _ (.inl rfl) e,c⟩
 | dT kvs =>
  obtain ⟨z,y,xs,r,ob,es,ep,e,c⟩:=x;exact ⟨z,y,xs,Paired.ck r fun p q z=>⟨z.1,ht _ _ z.2.1,z.2.2⟩,ob,es,ep,k _ _ (.inl rfl) e,c⟩
 | set S n=>obtain ⟨ob,es,ep,t,e,c⟩:=x;exact ⟨ob,es,ep,t,k _ _ (.inl rfl) e,c⟩
 | ins C dx fs =>
  obtain ⟨d,z,ne,e,mA,⟨od,es,ep,e2,c⟩,r⟩:=x;exact ⟨ho _ d,z,ne,k _ _ (.inl rfl) e,mA,⟨od,es,ep,k _ _ (.inr d) e2,c⟩,r⟩
 | own y=>obtain ⟨ob,e⟩:=x;exact ⟨ob,k _ _ (.inl rfl) e⟩
 | xd fs=>obtain ⟨mA,⟨od,es,ep,e,c⟩,r⟩:=x;exact ⟨mA,⟨od,es,ep,k _ _ (.inl rfl) e,c⟩,r⟩
 | rng lo hi=>obtain ⟨t,u,v,e⟩:=x;exact ⟨t,u,v,k _ _ (.inl rfl) e⟩
 | frz ob u ih=>obtain ⟨e,q⟩:=x;exact ⟨k _ _ (.inl rfl) e,ih q⟩
 | tbl ps =>
  have e:h.get? a=some { cls:=.none,data:=.fields ps }:=x;show h'.get? a=some { cls:=.none,data:=.fields ps };exact k a _ (.inl rfl) e
 | met f y =>
  have e:h.get? a=some (Rf (.ref f) (.ref y)):=x;show h'.get? a=some (Rf (.ref f) (.ref y));exact k a _ (.inl rfl) e
 | ext φ=>obtain ⟨p,⟨o,e⟩,st⟩:=x;exact ⟨st _ _ p fun o q=>k _ _ (.inl rfl) q,⟨o,k _ _ (.inl rfl) e⟩,st⟩
def HOk.lt (x:HOk P w H h) (e:H a=some o):a<h.objs.size:=(x a o e).lt
def HOk.fresh (x:HOk P w H h) (e:h.objs.size<=a):H a=none:=by
 cases q:H a with
 | none=>rfl
 | some u=>exact absurd (Mn (x.lt q) e) (Oo _)
def HOk.kept (x:HOk P w H h) (k:∀ b u,h.get? b=some u->h'.get? b=some u):HOk P w H h':=fun a o e =>
 (x a o e).kF (fun b u _ q=>k b u q) (fun _ q=>q) fun _ _ q=>q
def HOk.laid (x:HOk P w H h) (k:∀ b u,h.get? b=some u->h'.get? b=some u) (hp:h.objs.size<=a) (new:bA P w (upd H a o) h' a o):HOk P w (upd H a o) h':=fun b u e=>by
 have hn:=x.fresh hp
 by_cases hb:b=a
 ·subst hb;rw [ar] at e;cases e;exact new
 ·rw [aA hb] at e;exact (x b u e).kF (fun c v _ q=>k c v q) (fun c q=>by rw [aA (aQ q hn)];exact q) fun c xs q=>by rw [aA (aQ q hn)];exact q
end
def Rd (H:Hp) (a:Addr) (u:HO):Prop:=H a=some u\/∃ o,H a=some (.frz o u)
def Rd.of {H:Hp} {a:Addr} {u:HO} (h:H a=some u):Rd H a u:=.inl h
def Rd.ok {P:Mi} {w:World} {H:Hp} {h:Heap} {a:Addr} {u:HO} (r:Rd H a u) (x:HOk P w H h):bA P w H h a u:=by
 rcases r with r|⟨o,r⟩
 ·exact x a u r
 ·obtain ⟨_,q⟩:=x a _ r;exact q
def Mut:Option HO->Prop
 | some (.lst _)=>True
 | some (.dK _)=>True
 | some (.dT _)=>True
 | some (.set _ _)=>True
 | some (.ins _ _ _)=>True
 | some (.ext _)=>True
 | _=>False
section
variable {P:Mi} {w:World} {H:Hp} {h h':Heap} {x e:Addr} {o':HO}
def HOk.write (ok:HOk P w H h) (mu:Mut (H x)) (he:e=x\/H e=some (.own x)) (k:∀ b u,b≠e->h.get? b=some u->h'.get? b=some u) (heo:∃ u,h'.get? e=some u)
  (new:bA P w (upd H x o') h' x o'):HOk P w (upd H x o') h':=fun b u q=>by
 have nown:∀ c y,H c=some (.own y)->c≠x:=fun c y r z=>by subst z;rw [r] at mu;exact mu
 have ntup:∀ c xs,H c=some (.tup xs)->c≠x:=fun c xs r z=>by subst z;rw [r] at mu;exact mu
 by_cases hb:b=x
 ·subst hb;rw [ar] at q;cases q;exact new
 ·rw [aA hb] at q
  by_cases hbe:b=e
  ·have q':H b=some (.own x):=by
    rcases he with z|z
    ·exact absurd (hbe.trans z) hb
    ·rw [hbe];exact z
   rw [q] at q';cases q';obtain ⟨v,hv⟩:=heo;exact ⟨v,by rw [hbe];exact hv⟩
  ·refine (ok b u q).kF (fun c v hc r=>k c v ?_ r) (fun c r=>by rw [aA (nown c b r)];exact r) fun c xs r=>by rw [aA (ntup c xs r)];exact r
   rcases hc with rfl|hc
   ·exact hbe
   ·rintro rfl;rcases he with z|z
    ·exact nown c b hc z
    ·rw [hc] at z;cases z;exact hb rfl
end
structure Un (fs ex:List Addr) (H H':Hp) (h h':Heap):Prop where
 keep:∀ b o,h.get? b=some o->H b=none->b∉fs->b∉ex->h'.get? b=some o
 slot:∀ b o,h.get? b=some o->H b=none->b∈fs->b∉ex->∃ sl,h'.get? b=some { o with slots:=sl }
 free:∀ b o,h.get? b=some o->H b=none->b∉ex->H' b=none
 there:∀ b o,h.get? b=some o->b∉ex->∃ o',h'.get? b=some o'
 gv:∀ b xs,H b=some (.tup xs)->H' b=some (.tup xs)
 f7:∀ b o u,H b=some (.frz o u)->H' b=some (.frz o u)
 gA:∀ b ps,H b=some (.tbl ps)->∃ more,H' b=some (.tbl (ps++more))
section
variable {fs fs' ex ex':List Addr} {H H1 H2:Hp} {h h1 h2 h':Heap} {a x e:Addr} {o:HO}
def Un.any (u:Un fs ex H H1 h h1) {b:Addr} {ob:Obj} (q:h.get? b=some ob) (n:H b=none) (hx:b∉ex):∃ sl,h1.get? b=some { ob with slots:=sl }:=by
 by_cases hb:b∈fs
 ·exact u.slot b ob q n hb hx
 ·exact ⟨ob.slots,u.keep b ob q n hb hx⟩
def Un.trans (a:Un fs ex H H1 h h1) (b:Un fs ex H1 H2 h1 h2):Un fs ex H H2 h h2 where
 keep:=fun c ob q n hc hx=>b.keep c ob (a.keep c ob q n hc hx) (a.free c ob q n hx) hc hx
 slot:=fun c ob q n hc hx=>by
  obtain ⟨sl,e1⟩:=a.slot c ob q n hc hx;obtain ⟨sl',e2⟩:=b.slot c _ e1 (a.free c ob q n hx) hc hx;exact ⟨sl',e2⟩
 free:=fun c ob q n hx=>by
  obtain ⟨o',e1⟩:=a.there c ob q hx;exact b.free c o' e1 (a.free c ob q n hx) hx
 there:=fun c ob q hx=>by
  obtain ⟨o',e1⟩:=a.there c ob q hx;exact b.there c o' e1 hx
 gv:=fun c xs q=>b.gv c xs (a.gv c xs q)
 f7:=fun c ob xs q=>b.f7 c ob xs (a.f7 c ob xs q)
 gA:=fun c ps q=>by
  obtain ⟨m1,e1⟩:=a.gA c ps q;obtain ⟨m2,e2⟩:=b.gA c _ e1;exact ⟨m1++m2,by rw [e2,Array.append_assoc]⟩
def Un.kept (k:∀ b u,h.get? b=some u->h'.get? b=some u):Un fs ex H H h h' :=
 ⟨fun b ob q _ _ _=>k b ob q,fun b ob q _ _ _=>⟨ob.slots,k b ob q⟩,fun _ _ _ n _=>n,fun b ob q _=>⟨ob,k b ob q⟩,fun _ _ q=>q,fun _ _ _ q=>q,fun _ ps q=>⟨#[],by rw [q];simp⟩⟩
def Un.refl:Un fs ex H H h h:=Un.kept fun _ _ q=>q
def Un.laid (k:∀ b u,h.get? b=some u->h'.get? b=some u) (hp:h.objs.size<=a) (hn:H a=none):Un fs ex H (upd H a o) h h' where
 keep:=fun b u q _ _ _=>k b u q
 slot:=fun b u q _ _ _=>⟨u.slots,k b u q⟩
 free:=fun b u q n _=>by rw [aA (Md (Mn (L6 q) hp))];exact n
 there:=fun b u q _=>⟨u,k b u q⟩
 gv:=fun b xs q=>by rw [aA (aQ q hn)];exact q
 f7:=fun b u xs q=>by rw [aA (aQ q hn)];exact q
 gA:=fun b ps q=>⟨#[],by rw [aA (aQ q hn),q];simp⟩
def Un.write (mu:Mut (H x)) (he:e=x\/H e=some (.own x)) (k:∀ b u,b≠e->h.get? b=some u->h'.get? b=some u) (heo:∃ u,h'.get? e=some u):Un fs ex H (upd H x o) h h':=by
 have hx:∀ b,H b=none->b≠x:=fun b n z=>by subst z;rw [n] at mu;exact mu
 have hb:∀ b,H b=none->b≠e:=fun b n z=>by
  subst z;rcases he with r|r
  ·exact hx b n r
  ·rw [n] at r;cases r
 have hm:∀ b u,H b=some u->¬ Mut (some u)->b≠x:=fun b u q nm z=>by subst z;rw [q] at mu;exact nm mu
 refine ⟨fun b u q n _ _=>k b u (hb b n) q,fun b u q n _ _=>⟨u.slots,k b u (hb b n) q⟩,fun b u q n _=>by rw [aA (hx b n)];exact n,fun b u q _=>?_,
  fun b xs q=>by rw [aA (hm b _ q fun z=>z)];exact q,fun b u xs q=>by rw [aA (hm b _ q fun z=>z)];exact q,fun b ps q=>⟨#[],by rw [aA (hm b _ q fun z=>z),q];simp⟩⟩
 by_cases hbe:b=e
 ·subst hbe;exact heo
 ·exact ⟨u,k b u hbe q⟩
def Un.mono (u:Un fs ex H H1 h h1) (hs:∀ b∈fs,b∈fs') (hx:∀ b∈ex,b∈ex'):Un fs' ex' H H1 h h1 :=
 ⟨fun b ob q n hb he=>u.keep b ob q n (fun z=>hb (hs b z)) fun z=>he (hx b z),fun _ _ q n _ he=>u.any q n fun z=>he (hx _ z),fun b ob q n he=>u.free b ob q n fun z=>he (hx b z),fun b ob q he=>u.there b ob q fun z=>he (hx b z),u.gv,u.f7,u.gA⟩
end
def trk (h:Heap) (H:Hp):List Addr:=(LY h.objs.size).filter fun a=>(H a).isSome
def mT (h:Heap) (H:Hp):Heap:=PySem.W.hideAll h (trk h H)
def E5 (h:Heap) (H:Hp):(mT h H).objs.size=h.objs.size:=PySem.W.hideAll_size _ _
def Hg {h:Heap} {H:Hp} {b:Addr} {o:Obj} (e:h.get? b=some o) (n:H b=none):(mT h H).get? b=some o :=
 PySem.W.hideAll_get _ e fun hm=>by
  have q:(H b).isSome=true:=(Nl.mp hm).2;rw [n] at q;simp at q
def IF {h:Heap} {H:Hp} {b:Addr} {o:Obj} (e:(mT h H).get? b=some o):h.get? b=some o/\H b=none:=by
 have e':h.get? b=some o:=PySem.W.of_hideAll (trk h H) e;refine ⟨e',?_⟩;cases q:H b with
 | none=>rfl
 | some x =>
  have hm:b∈trk h H:=Nl.mpr ⟨Ma.mpr (L6 e'),by simp [q]⟩
  have z:(mT h H).get? b=none:=PySem.W.hideAll_none (trk h H) hm;rw [z] at e;cases e
structure Mod (K:LO) (mg:Str->Option Value) (base:Heap):Prop where
 kin:K.In base
 glob:base.Ns MP mg
 blt:∃ mb,base.Ns builtinsNs mb/\∀ x:Str,x ≠ "__name__" -> mb x=bootBuiltins x
 nolimit:base.NoLimit
structure Cx where
 prog:Mi
 w:World
 K:LO
 mg:Str->Option Value
 base:Heap
 A:MQ
 N:List Str
 s₀:LV
 H₀:Hp
 env:Env
 outer:List Env
 stack:List Env
 ex:List Addr
 fn:Str->Bool
 calm:Bool
 pn:List (Addr×Obj)
 xe:Value->LV->Prop
def frs (l:List Env):List Addr:=l.filterMap (·.frame)
abbrev Cx.fs (X:Cx):List Addr:=frs X.outer
def Vis (sc:Scope) (x:Str):Prop:=sc.names.lookup x=some .local\/sc.names.lookup x=some .cell\/sc.names.lookup x=some .free
def Loc (sc:Scope) (x:Str):Prop:=sc.names.lookup x=some .local\/sc.names.lookup x=some .cell
def Look (env:Env) (h:Heap) (m:Str->Option Value) (x:Str) (u:Value):Prop :=
 (env.kindOf x=some .local/\m x=some u)\/((env.kindOf x=some .cell\/env.kindOf x=some .free)/\∃ c,env.cells.lookup x=some c/\h.IsCell c (some u))
structure Cx.Ok (X:Cx):Prop where
 mod:Mod X.K X.mg X.base
 kind:X.env.scope.kind=.function
 glob:X.env.globals=MP
 blt:X.env.builtins=builtinsNs
 above:X.s₀.heap.objs.size<=X.env.locals
 inj:∀ x y c,X.env.cells.lookup x=some c->X.env.cells.lookup y=some c->x=y
 has:∀ x,(X.env.kindOf x=some .cell\/X.env.kindOf x=some .free)->∃ c,X.env.cells.lookup x=some c
 cab:∀ x c,X.fn x=true->X.env.cells.lookup x=some c->X.s₀.heap.objs.size<=c
 hd:X.calm=true->X.A.handled=none
 frames:X.A.frames=some X.stack
 stk:X.stack=X.outer\/(X.stack=X.env :: X.outer/\X.env.frame=some X.env.locals)
 exf:∀ b∈X.ex,b≠X.env.locals/\∀ x c,X.env.cells.lookup x=some c->c≠b
 bs:∀ b o,X.base.get? b=some o->X.s₀.heap.get? b=some o/\X.H₀ b=none
 bsz:X.base.objs.size<=X.s₀.heap.objs.size
 vm:∀ b o,X.base.get? b=some o->b∉X.ex
 rq:∀ b∈X.ex,b∉X.fs
 eO:X.s₀.heap.FunFrames X.base X.outer
 frf:∀ b∈X.fs,X.H₀ b=none
structure Inv (X:Cx) (pins:List (Addr×Obj)) (σ:List (Option V)) (H:Hp) (s:LV):Prop where
 ok:X.Ok
 os:s.os=X.s₀.os
 bare:RD s.gens
 base:Un X.fs X.ex X.H₀ H X.s₀.heap s.heap
 loc:∃ m,s.heap.Ns X.env.locals m/\∀ (i:Nat) (x:Str) (v:V),X.N[i]?=some x->σ[i]?=some (some v)->Vis X.env.scope x->∃ u,RelV v u/\Look X.env s.heap m x u
 cell:∀ x c,X.env.cells.lookup x=some c->∃ v,s.heap.IsCell c v
 free:H X.env.locals=none
 eJ:∀ x c,X.env.cells.lookup x=some c->H c=none
 pin:∀ p∈X.pn++pins,s.heap.get? p.1=some p.2/\H p.1=none/\p.1≠X.env.locals/\p.1∉X.fs/\∀ v,p.2.data≠.cell v
 hok:HOk X.prog X.w H s.heap
 len:σ.length=X.N.length
section
variable {X:Cx} {pins:List (Addr×Obj)} {σ:List (Option V)} {H H':Hp} {s:LV} {h':Heap}
def Cx.Ok.LL (ok:X.Ok) {b:Addr} {o:Obj} (e:X.base.get? b=some o):b∉X.fs:=fun hb=>by
 have:=(ok.eO.mem hb).1;rw [e] at this;cases this
def Inv.bs (I:Inv X pins σ H s):∀ b o,X.base.get? b=some o->s.heap.get? b=some o/\H b=none:=fun b o e =>
 ⟨I.base.keep b o (I.ok.bs b o e).1 (I.ok.bs b o e).2 (I.ok.LL e) (I.ok.vm b o e),I.base.free b o (I.ok.bs b o e).1 (I.ok.bs b o e).2 (I.ok.vm b o e)⟩
def Inv.bk (I:Inv X pins σ H s):∀ b o,X.base.get? b=some o->s.heap.get? b=some o:=fun b o e=>(I.bs b o e).1
def Inv.mod (I:Inv X pins σ H s):Mod X.K X.mg X.base:=I.ok.mod
def Inv.kIn (I:Inv X pins σ H s):X.K.In s.heap:=I.ok.mod.kin.keeps I.bk
def Inv.lt (I:Inv X pins σ H s):X.env.locals<s.heap.objs.size:=let ⟨_,hn,_⟩:=I.loc;hn.lt
def Inv.sz (I:Inv X pins σ H s):X.s₀.heap.objs.size<=s.heap.objs.size:=M7 I.ok.above (Ou I.lt)
def Inv.LJ (I:Inv X pins σ H s) {a:Addr} (h:s.heap.objs.size<=a):a∉X.fs:=fun hb=>by
 obtain ⟨_,o,ho,_⟩:=I.ok.eO.mem hb;exact absurd (Mn (L6 ho) (M7 I.sz h)) (Oo _)
def Inv.cne (I:Inv X pins σ H s):∀ x c,X.env.cells.lookup x=some c->c≠X.env.locals:=fun x c e z=>by
 obtain ⟨v,o,ho,hd⟩:=I.cell x c e;obtain ⟨m,⟨o',es,ep,ho',hd',_⟩,_⟩:=I.loc;rw [z,ho'] at ho;cases ho;rw [hd'] at hd;cases hd
def Inv.eO (I:Inv X pins σ H s):s.heap.FunFrames X.base X.outer:=by
 have all:∀ (l:List Env),(∀ b∈frs l,b∈X.fs)->X.s₀.heap.FunFrames X.base l->s.heap.FunFrames X.base l:=by
  intro l
  induction l with
  | nil=>intro _ _;trivial
  | cons env r ih =>
   intro hs hl;obtain ⟨hk,⟨L,o,hf,hn,ho,hd⟩,hr⟩:=hl;have hL:L∈X.fs:=hs L (by unfold frs;rw [N7,hf];exact L9)
   obtain ⟨sl,e⟩:=I.base.slot L o ho (I.ok.frf L hL) hL fun z=>I.ok.rq L z hL;exact ⟨hk,⟨L,_,hf,hn,e,hd⟩,ih (fun b hb=>hs b (by unfold frs;rw [N7,hf];exact L5 _ hb)) hr⟩
 exact all X.outer (fun _ hb=>hb) I.ok.eO
def Inv.stack (I:Inv X pins σ H s):s.heap.FunFrames X.base X.stack:=by
 rcases I.ok.stk with e|⟨e,hf⟩
 ·rw [e];exact I.eO
 ·rw [e];obtain ⟨m,hn,_⟩:=I.loc;refine .cons (by rw [I.ok.kind];decide) hf hn ?_ I.eO
  exact SS (M7 I.ok.bsz I.ok.above)
def Inv.uc (I:Inv X pins σ H s):∀ b∈frs X.stack,b∈X.env.locals :: X.fs:=fun b hb=>by
 rcases I.ok.stk with e|⟨e,hf⟩
 ·rw [e] at hb;exact L5 _ hb
 ·rw [e] at hb;unfold frs at hb;rw [N7,hf] at hb;exact hb
def Inv.A9 (I:Inv X pins σ H s):∀ b∈frs X.stack,H b=none:=fun b hb=>by
 rcases Mq.mp (I.uc b hb) with e|hb
 ·rw [e];exact I.free
 ·obtain ⟨_,o,ho,_⟩:=I.ok.eO.mem hb;exact I.base.free b o ho (I.ok.frf b hb) fun z=>I.ok.rq b z hb
def Inv.step {g':Array Qr} {t':Nat} {d':Drawn} {ch:List Addr} (I:Inv X pins σ H s)
  (hch:∀ b∈ch,(b∈X.ex\/X.s₀.heap.objs.size<=b)/\b≠X.env.locals/\(∀ x c,X.env.cells.lookup x=some c->c≠b)/\∀ p∈X.pn++pins,p.1≠b)
  (keep:∀ b o,b≠X.env.locals->b∉X.fs->b∉ch->s.heap.get? b=some o->H b=none->h'.get? b=some o)
  (slot:∀ b o,b≠X.env.locals->b∈X.fs->b∉ch->s.heap.get? b=some o->H b=none->∃ sl,h'.get? b=some { o with slots:=sl }) (free:∀ b o,b∉ch->s.heap.get? b=some o->H b=none->H' b=none)
  (there:∀ b o,b∉ch->s.heap.get? b=some o->∃ o',h'.get? b=some o')
  (gv:∀ b xs,H b=some (.tup xs)->H' b=some (.tup xs)) (f7:∀ b o u,H b=some (.frz o u)->H' b=some (.frz o u)) (gA:∀ b ps,H b=some (.tbl ps)->∃ more,H' b=some (.tbl (ps++more)))
  (ns:∀ m,s.heap.Ns X.env.locals m->h'.Ns X.env.locals m) (hok:HOk X.prog X.w H' h') (hg:RD g') :
  Inv X pins σ H' { s with heap:=h',gens:=g',drawn:=d',toks:=t' }:=by
 have neL:∀ b o,X.s₀.heap.get? b=some o->b≠X.env.locals:=fun b o e=>Md (Mn (L6 e) I.ok.above);have neC:∀ b o,X.s₀.heap.get? b=some o->b∉X.ex->b∉ch:=fun b o e hx hb=>by
  rcases (hch b hb).1 with z|z
  ·exact hx z
  ·exact absurd (Mn (L6 e) z) (Oo _)
 have cellK:∀ x c,X.env.cells.lookup x=some c->∀ v,s.heap.IsCell c v->h'.IsCell c v:=fun x c e v ⟨o,ho,hd⟩=>by
  have nch:c∉ch:=fun z=>(hch c z).2.2.1 x c e rfl
  by_cases hc:c∈X.fs
  ·obtain ⟨sl,q⟩:=slot c o (I.cne x c e) hc nch ho (I.eJ x c e);exact ⟨_,q,hd⟩
  ·exact ⟨o,keep c o (I.cne x c e) hc nch ho (I.eJ x c e),hd⟩
 refine ⟨I.ok,I.os,hg,⟨fun b o e n hb hx=>?_,fun b o e n hb hx=>?_,fun b o e n hx=>?_,fun b o e hx=>?_,fun b xs e=>gv b xs (I.base.gv b xs e),fun b o xs e=>f7 b o xs (I.base.f7 b o xs e),fun b ps e=>?_⟩,?_,fun x c e=>?_,?_,fun x c e=>?_,fun p hp=>?_,hok,I.len⟩
 ·exact keep b o (neL b o e) hb (neC b o e hx) (I.base.keep b o e n hb hx) (I.base.free b o e n hx)
 ·obtain ⟨sl,e1⟩:=I.base.slot b o e n hb hx;obtain ⟨sl',e2⟩:=slot b _ (neL b o e) hb (neC b o e hx) e1 (I.base.free b o e n hx);exact ⟨sl',e2⟩
 ·obtain ⟨o',e1⟩:=I.base.there b o e hx;exact free b o' (neC b o e hx) e1 (I.base.free b o e n hx)
 ·obtain ⟨o',e1⟩:=I.base.there b o e hx;exact there b o' (neC b o e hx) e1
 ·obtain ⟨m1,e1⟩:=I.base.gA b ps e;obtain ⟨m2,e2⟩:=gA b _ e1;exact ⟨m1++m2,by rw [e2,Array.append_assoc]⟩
 ·obtain ⟨m,hn,hl⟩:=I.loc;refine ⟨m,ns m hn,fun i x v e1 e2 e3=>?_⟩;obtain ⟨u,r,l⟩:=hl i x v e1 e2 e3;refine ⟨u,r,?_⟩;rcases l with l|⟨k,c,e,z⟩
  ·exact .inl l
  ·exact .inr ⟨k,c,e,cellK x c e _ z⟩
 ·obtain ⟨v,z⟩:=I.cell x c e;exact ⟨v,cellK x c e v z⟩
 ·obtain ⟨m,⟨o,_,_,ho,_⟩,_⟩:=I.loc;exact free _ o (fun z=>(hch _ z).2.1 rfl) ho I.free
 ·obtain ⟨v,o,ho,hd⟩:=I.cell x c e;exact free c o (fun z=>(hch c z).2.2.1 x c e rfl) ho (I.eJ x c e)
 ·obtain ⟨e,n,ne,nf,d⟩:=I.pin p hp;have nch:p.1∉ch:=fun z=>(hch p.1 z).2.2.2 p hp rfl;exact ⟨keep p.1 p.2 ne nf nch e n,free p.1 p.2 nch e n,ne,nf,d⟩
def Inv.un {t':Nat} (I:Inv X pins σ H s) (u:Un X.fs [] H H' s.heap h') (hok:HOk X.prog X.w H' h'):Inv X pins σ H' { s with heap:=h',toks:=t' }:=by
 obtain ⟨m,⟨o,es,ep,ho,r⟩,_⟩:=id I.loc;obtain ⟨sl,hL⟩:=u.any ho I.free (by simp)
 exact I.step (g':=s.gens) (d':=s.drawn) (ch:=[]) (fun _ z=>nomatch z) (fun b o _ hb _ e n=>u.keep b o e n hb (by simp)) (fun b o _ hb _ e n=>u.slot b o e n hb (by simp)) (fun b o _ e n=>u.free b o e n (by simp)) (fun b o _ e=>u.there b o e (by simp)) u.gv u.f7 u.gA (fun m' hm=>by
  obtain ⟨o',es',ep',ho',r'⟩:=hm;rw [ho] at ho';cases ho';exact ⟨_,es',ep',hL,r'⟩) hok I.bare
def Inv.call {g':Array Qr} {t':Nat} {d':Drawn} {ch:List Addr} (I:Inv X pins σ H s) (u:Un (frs X.stack) ch H H' s.heap h') (hok:HOk X.prog X.w H' h') (hg:RD g')
  (hch:∀ b∈ch,(b∈X.ex\/X.s₀.heap.objs.size<=b)/\b≠X.env.locals/\(∀ x c,X.env.cells.lookup x=some c->c≠b)/\∀ p∈X.pn++pins,p.1≠b) :
  Inv X pins σ H' { s with heap:=h',gens:=g',drawn:=d',toks:=t' }:=by
 obtain ⟨m,⟨o,es,ep,ho,r⟩,_⟩:=id I.loc;obtain ⟨sl,hL⟩:=u.any ho I.free fun z=>(hch _ z).2.1 rfl;exact I.step (ch:=ch) hch (fun b o hL hb hc e n=>u.keep b o e n (fun z=>(Mq.mp (I.uc b z)).elim hL hb) hc) (fun b o _ _ hc e n=>u.any e n hc) (fun b o hc e n=>u.free b o e n hc) (fun b o hc e=>u.there b o e hc) u.gv u.f7 u.gA (fun m' hm=>by
  obtain ⟨o',es',ep',ho',r'⟩:=hm;rw [ho] at ho';cases ho';exact ⟨_,es',ep',hL,r'⟩) hok hg
def Inv.turned {t':Nat} {it:Addr} (I:Inv X pins σ H s) (k:∀ b o,b≠it->s.heap.get? b=some o->h'.get? b=some o) (hn:H it=none) (hL:it≠X.env.locals)
  (h1:it∈X.ex\/X.s₀.heap.objs.size<=it) (h2:∀ x c,X.env.cells.lookup x=some c->c≠it) (h3:∀ p∈X.pn++pins,p.1≠it):Inv X pins σ H { s with heap:=h',toks:=t' }:=by
 have nit:∀ b u,H b=some u->b≠it:=fun b u e z=>by rw [z,hn] at e;cases e
 refine I.step (g':=s.gens) (d':=s.drawn) (ch:=[it]) (fun b hb=>?_) (fun b o _ _ hc e _=>k b o (fun z=>hc (by simp [z])) e) (fun b o _ _ hc e _=>⟨o.slots,k b o (fun z=>hc (by simp [z])) e⟩) (fun _ _ _ _ n=>n)
  (fun b o hc e=>⟨o,k b o (fun z=>hc (by simp [z])) e⟩) (fun _ _ e=>e) (fun _ _ _ e=>e) (fun b ps e=>⟨#[],by rw [e];simp⟩) (fun m hm=>?_) (fun b u e=>?_) I.bare
 ·have e:b=it:=by simpa using hb
  subst e;exact ⟨h1,hL,h2,h3⟩
 ·obtain ⟨o,es,ep,ho,r⟩:=hm;exact ⟨o,es,ep,k _ o (NJ hL) ho,r⟩
 ·refine (I.hok b u e).kF (fun c v hc q=>k c v ?_ q) (fun _ q=>q) fun _ _ q=>q;rcases hc with z|z
  ·rw [z];exact nit b u e
  ·exact nit c _ z
def Inv.tok (I:Inv X pins σ H s) (t:Nat):Inv X pins σ H { s with toks:=t }:=I.un (h':=s.heap) (t':=t) Un.refl I.hok
def Inv.kept {t':Nat} (I:Inv X pins σ H s) (k:∀ b u,s.heap.get? b=some u->h'.get? b=some u):Inv X pins σ H { s with heap:=h',toks:=t' }:=I.un (Un.kept k) (I.hok.kept k)
def Inv.laid {a:Addr} {o:HO} {t':Nat} (I:Inv X pins σ H s) (k:∀ b u,s.heap.get? b=some u->h'.get? b=some u) (hp:s.heap.objs.size<=a) (new:bA X.prog X.w (upd H a o) h' a o) :
  Inv X pins σ (upd H a o) { s with heap:=h',toks:=t' }:=I.un (Un.laid k hp (I.hok.fresh hp)) (I.hok.laid k hp new)
def Inv.write {x e:Addr} {o:HO} {t':Nat} (I:Inv X pins σ H s) (mu:Mut (H x)) (he:e=x\/H e=some (.own x)) (k:∀ b u,b≠e->s.heap.get? b=some u->h'.get? b=some u) (heo:∃ u,h'.get? e=some u)
  (new:bA X.prog X.w (upd H x o) h' x o):Inv X pins σ (upd H x o) { s with heap:=h',toks:=t' }:=I.un (Un.write mu he k heo) (I.hok.write mu he k heo new)
def Inv.A2 {pins':List (Addr×Obj)} (I:Inv X pins σ H s) (h:∀ p∈pins',s.heap.get? p.1=some p.2/\H p.1=none/\p.1≠X.env.locals/\p.1∉X.fs/\∀ v,p.2.data≠.cell v):Inv X pins' σ H s :=
 ⟨I.ok,I.os,I.bare,I.base,I.loc,I.cell,I.free,I.eJ,fun p hp=>(Mc.mp hp).elim (fun z=>I.pin p (NK _ z)) (h p),I.hok,I.len⟩
def rZ {N:List Str} (hN:N.Nodup) {i j:Nat} {x:Str} (a:N[i]?=some x) (b:N[j]?=some x):i=j:=by
 obtain ⟨h1,e1⟩:=LR.mp a;obtain ⟨h2,e2⟩:=LR.mp b;exact (RS hN).mp (e1.trans e2.symm)
def vV {M:Model} {A:MQ} {E:Value->LV->Prop} {i:Nat} {x:Str} {v:V} {u:Value} {Q:Unit->LV->Prop} (I:Inv X pins σ H s) (hN:X.N.Nodup) (hi:X.N[i]?=some x) (hx:Loc X.env.scope x) (r:RelV v u)
  (h:∀ s',Inv X pins (σ.set i (some v)) H s'->(∃ a,O1 a s.heap s'.heap/\(a=X.env.locals\/X.env.cells.lookup x=some a))->Q () s') (hf:X.fn x=true\/X.env.scope.names.lookup x=some .local:=by first|exact .inl rfl|exact .inr rfl|assumption):wpAny M A (storeName X.env x u) Q E s:=by
 obtain ⟨m,hn,hl⟩:=id I.loc;have hcls:(X.env.scope.kind == .class || (X.env.scope.kind == .module && X.env.locals != X.env.globals))=false:=by rw [I.ok.kind];rfl
 have hiσ:i<σ.length:=by rw [I.len];exact (LR.mp hi).1
 have cne:=I.cne;have tracked:∀ {a:Addr} {h':Heap},(∃ o,s.heap.get? a=some o/\H a=none)->O1 a s.heap h'->HOk X.prog X.w H h':=fun {a h'} ha hs b ob e=>by
  obtain ⟨_,_,hfree⟩:=ha;refine (I.hok b ob e).kF (fun c w' hc q=>(hs.2 c ?_).trans q) (fun _ q=>q) fun _ _ q=>q;rintro rfl;rcases hc with rfl|hc
  ·rw [hfree] at e;cases e
  ·rw [hfree] at hc;cases hc
 rcases hx with hk|hk
 ·refine wpAny_storeName_local hk hn (fun h' hn' hs=>?_) hcls;obtain ⟨oL,_,_,hoL,_⟩:=id hn;refine h _ ⟨I.ok,I.os,I.bare,⟨fun b o e n hb hx=>?_,fun b o e n hb hx=>?_,I.base.free,fun b o e hx=>?_,I.base.gv,I.base.f7,I.base.gA⟩,⟨_,hn',fun j y v' e1 e2 e3=>?_⟩,fun y c e=>?_,I.free,I.eJ,fun p hp=>?_,tracked ⟨oL,hoL,I.free⟩ hs,by simpa using I.len⟩ ⟨_,hs,.inl rfl⟩
  ·exact (hs.2 b (Md (Mn (L6 e) I.ok.above))).trans (I.base.keep b o e n hb hx)
  ·obtain ⟨sl,e1⟩:=I.base.slot b o e n hb hx;exact ⟨sl,(hs.2 b (Md (Mn (L6 e) I.ok.above))).trans e1⟩
  ·obtain ⟨o',e1⟩:=I.base.there b o e hx;exact ⟨o',(hs.2 b (Md (Mn (L6 e) I.ok.above))).trans e1⟩
  ·by_cases hj:j=i
   ·subst hj;rw [hi] at e1;cases e1;rw [NN hiσ] at e2;cases e2;exact ⟨u,r,.inl ⟨hk,by simp⟩⟩
   ·rw [N3 (NJ hj)] at e2;obtain ⟨u',r',q⟩:=hl j y v' e1 e2 e3;refine ⟨u',r',?_⟩;rcases q with ⟨k,e⟩|⟨k,c,e,z⟩
    ·refine .inl ⟨k,?_⟩;have:y≠x:=fun e=>hj (rZ hN e1 (e ▸ hi));simp [this,e]
    ·exact .inr ⟨k,c,e,z.sameBut hs (cne y c e)⟩
  ·obtain ⟨w',z⟩:=I.cell y c e;exact ⟨w',z.sameBut hs (cne y c e)⟩
  ·obtain ⟨e,n,ne,nf,d⟩:=I.pin p hp;exact ⟨(hs.2 p.1 ne).trans e,n,ne,nf,d⟩
 ·have hfn:X.fn x=true:=by
   rcases hf with z|z
   ·exact z
   ·rw [z] at hk;cases hk
  obtain ⟨c,hc⟩:=I.ok.has x (.inl hk);obtain ⟨w',z⟩:=I.cell x c hc;refine wpAny_storeName_cell I.ok.kind hk hc z (fun h' hc' hs=>?_);obtain ⟨oc,hoc,hocd⟩:=id z;refine h { s with heap:=h' } ⟨I.ok,I.os,I.bare,⟨fun b o e n hb hx=>?_,fun b o e n hb hx=>?_,I.base.free,fun b o e hx=>?_,I.base.gv,I.base.f7,I.base.gA⟩,⟨m,hn.sameBut hs (NJ (cne x c hc)),fun j y v' e1 e2 e3=>?_⟩,fun y c' e=>?_,I.free,I.eJ,fun p hp=>?_,tracked ⟨oc,hoc,I.eJ x c hc⟩ hs,by simpa using I.len⟩ ⟨c,hs,.inr hc⟩
  ·exact (hs.2 b (Md (Mn (L6 e) (I.ok.cab x c hfn hc)))).trans (I.base.keep b o e n hb hx)
  ·obtain ⟨sl,e1⟩:=I.base.slot b o e n hb hx;exact ⟨sl,(hs.2 b (Md (Mn (L6 e) (I.ok.cab x c hfn hc)))).trans e1⟩
  ·obtain ⟨o',e1⟩:=I.base.there b o e hx;exact ⟨o',(hs.2 b (Md (Mn (L6 e) (I.ok.cab x c hfn hc)))).trans e1⟩
  ·by_cases hj:j=i
   ·subst hj;rw [hi] at e1;cases e1;rw [NN hiσ] at e2;cases e2;exact ⟨u,r,.inr ⟨.inl hk,c,hc,hc'⟩⟩
   ·rw [N3 (NJ hj)] at e2;obtain ⟨u',r',q⟩:=hl j y v' e1 e2 e3;refine ⟨u',r',?_⟩;rcases q with q|⟨k,c',e,z'⟩
    ·exact .inl q
    ·refine .inr ⟨k,c',e,z'.sameBut hs ?_⟩;rintro rfl;exact hj (rZ hN e1 (I.ok.inj _ _ _ e hc ▸ hi))
  ·by_cases hcc:c'=c
   ·subst hcc;exact ⟨_,hc'⟩
   ·obtain ⟨w2,z2⟩:=I.cell y c' e;exact ⟨w2,z2.sameBut hs hcc⟩
  ·obtain ⟨e,n,ne,nf,d⟩:=I.pin p hp;refine ⟨(hs.2 p.1 ?_).trans e,n,ne,nf,d⟩;intro q;rw [q,hoc] at e;have q':oc=p.2:=ME e;exact d w' (by rw [<- q'];exact hocd)
def kI {M:Model} {A:MQ} {E:Value->LV->Prop} {i:Nat} {x:Str} {v:V} {u:Value} {Q:Unit->LV->Prop} (I:Inv X pins σ H s) (hN:X.N.Nodup) (hi:X.N[i]?=some x) (hx:Loc X.env.scope x) (r:RelV v u)
  (h:∀ s',Inv X pins (σ.set i (some v)) H s'->Q () s') (hf:X.fn x=true\/X.env.scope.names.lookup x=some .local:=by first|exact .inl rfl|exact .inr rfl|assumption):wpAny M A (storeName X.env x u) Q E s :=
 vV I hN hi hx r (fun s' I' _=>h s' I') hf
def Inv.HE {s':LV} {ch:List Addr} (I:Inv X pins σ H s) (ho:s'.os=s.os) (u:Un (frs X.stack) ch H H' s.heap s'.heap) (hok:HOk X.prog X.w H' s'.heap) (hg:RD s'.gens)
  (hch:∀ b∈ch,(b∈X.ex\/X.s₀.heap.objs.size<=b)/\b≠X.env.locals/\(∀ x c,X.env.cells.lookup x=some c->c≠b)/\∀ p∈X.pn++pins,p.1≠b):Inv X pins σ H' s':=by
 obtain ⟨h',g',d',t',o'⟩:=s';have e:o'=s.os:=ho;subst e;exact I.call (g':=g') (t':=t') (d':=d') u hok hg hch
end
abbrev XK:=Value->Option Addr->Hp->Prop
abbrev St:=List (Option V)
abbrev VK:=V->Hp->Prop
abbrev TE:=St->Hp->VK->Prop
abbrev TT:=St->Hp->(Bool->Hp->Prop)->Prop
abbrev TA:=St->Hp->(List V->Hp->Prop)->Prop
structure Ends where
 nx:St->Hp->Prop
 rt:VK
 bk:St->Hp->Prop:=fun _ _=>False
 ct:St->Hp->Prop:=fun _ _=>False
abbrev TS:=Ends->St->Hp->Prop
def EP (X:Cx) (pins:List (Addr×Obj)) (σ:St) (Q:VK) (u:Value) (s':LV):Prop:=∃ v H',Inv X pins σ H' s'/\RelV v u/\Q v H'
def TP (X:Cx) (pins:List (Addr×Obj)) (σ:St) (Q:Bool->Hp->Prop) (b:Bool) (s':LV):Prop:=∃ H',Inv X pins σ H' s'/\Q b H'
def AP (X:Cx) (pins:List (Addr×Obj)) (σ:St) (Q:List V->Hp->Prop) (us:List Value) (s':LV):Prop:=∃ vs H',Inv X pins σ H' s'/\Vals vs us/\Q vs H'
def SP (X:Cx) (pins:List (Addr×Obj)) (D:Ends) (f:Flow) (s':LV):Prop :=
 match f with
 | .next=>∃ σ' H',Inv X pins σ' H' s'/\D.nx σ' H'
 | .brk=>∃ σ' H',Inv X pins σ' H' s'/\D.bk σ' H'
 | .cont=>∃ σ' H',Inv X pins σ' H' s'/\D.ct σ' H'
 | .ret u=>∃ v σ' H',Inv X pins σ' H' s'/\RelV v u/\D.rt v H'
def PE (X:Cx) (e:Expr) (t:TE):Prop :=
 ∀ (pins:List (Addr×Obj)) (s:LV) (σ:St) (H:Hp) (Q:VK),Inv X pins σ H s->t σ H Q->wpAny (model X.prog X.w) X.A (eval e X.env) (EP X pins σ Q) X.xe s
def PT (X:Cx) (e:Expr) (t:TT):Prop :=
 ∀ (pins:List (Addr×Obj)) (s:LV) (σ:St) (H:Hp) (Q:Bool->Hp->Prop),Inv X pins σ H s->t σ H Q->wpAny (model X.prog X.w) X.A (isTrue e X.env (eval e X.env)) (TP X pins σ Q) X.xe s
def PW (X:Cx) (e:Expr) (t:TT):Prop :=
 ∀ (whole:Sem Value) (pins:List (Addr×Obj)) (s:LV) (σ:St) (H:Hp) (Q:Bool->Hp->Prop),Inv X pins σ H s->t σ H Q->wpAny (model X.prog X.w) X.A (isTrue e X.env whole) (TP X pins σ Q) X.xe s
def PW.pt {X:Cx} {e:Expr} {t:TT} (h:PW X e t):PT X e t:=h _
def PA (X:Cx) (es:List Expr) (t:TA):Prop :=
 ∀ (pos:Pos) (pins:List (Addr×Obj)) (s:LV) (σ:St) (H:Hp) (Q:List V->Hp->Prop),Inv X pins σ H s->t σ H Q->wpAny (model X.prog X.w) X.A (spliced (backTo pos (MS es X.env))) (AP X pins σ Q) X.xe s
def PS (X:Cx) (st:Stmt) (t:TS):Prop :=
 ∀ (pins:List (Addr×Obj)) (s:LV) (σ:St) (H:Hp) (D:Ends),Inv X pins σ H s->t D σ H->wpAny (model X.prog X.w) X.A (exec st X.env) (SP X pins D) X.xe s
def PSs (X:Cx) (st:List Stmt) (t:TS):Prop :=
 ∀ (pins:List (Addr×Obj)) (s:LV) (σ:St) (H:Hp) (D:Ends),Inv X pins σ H s->t D σ H->wpAny (model X.prog X.w) X.A (execs st X.env) (SP X pins D) X.xe s
def thn {α:Type} {t:Sem α} {Q Q':α->LV->Prop} {M:Model} {A:MQ} {E:Value->LV->Prop} {s:LV} (h:wpAny M A t Q E s) (hQ:∀ a s,Q a s->Q' a s):wpAny M A t Q' E s:=Nc h hQ fun _ _ x=>x
section
variable {X:Cx}
def Cc (i:Nat):TE:=fun σ H Q=>∃ v,σ[i]?=some (some v)/\Q v H
def tC (v:V):TE:=fun _ H Q=>Q v H
def Kz {i:Nat} {x:Str} {pos:Pos} (hN:X.N[i]?=some x) (hv:Vis X.env.scope x) (hd:(x == ("__debug__" : Str))=false:=by decide) (hcd:(x == ("__classdict__" : Str))=false:=by decide):PE X (.Name x pos) (Cc i):=by
 intro pins s σ H Q I h;obtain ⟨v,e,h⟩:=h;obtain ⟨m,hn,hl⟩:=I.loc;obtain ⟨u,r,l⟩:=hl i x v hN e hv;have fin:EP X pins σ Q u s:=⟨v,H,I,r,h⟩;rcases l with ⟨hk,hm⟩|⟨hk,c,hc,hcell⟩
 ·exact wpAny_Name (wpAny_loadName_local I.ok.kind hk hn hm fin) hd
 ·rcases hk with hk|hk
  ·exact wpAny_Name (wpAny_loadName_cell I.ok.kind hk hc hcell fin) hd
  ·exact wpAny_Name (wpAny_loadName_free I.ok.kind hk hc hcell fin hcd) hd
def ag {i j pos}:PE X (.Constant (.int i) j pos) (tC (.int i)):=fun _ _ _ H _ I h=>wpAny_Constant_int ⟨.int i,H,I.tok _,⟨_,rfl⟩,h⟩
def gQ {b j pos}:PE X (.Constant (.bool b) j pos) (tC (.bl b)):=fun _ _ _ H _ I h=>Constant_bool ⟨.bl b,H,I,rfl,h⟩
def yV {j pos}:PE X (.Constant .none j pos) (tC .non):=fun _ _ _ H _ I h=>To ⟨.non,H,I,rfl,h⟩
def bG {x j pos}:PE X (.Constant (.str x) j pos) (tC (.str x)):=fun _ _ _ H _ I h=>Calls.Constant_str ⟨.str x,H,I.tok _,⟨_,rfl⟩,h⟩
def Gl (X:Cx) (x:Str):Prop:=X.env.kindOf x=some .globalImplicit
def jd {E:Value->LV->Prop} {pins:List (Addr×Obj)} {s:LV} {σ:St} {H:Hp} {x:Str} {u:Value} {pos:Pos} {Q:Value->LV->Prop} (I:Inv X pins σ H s) (hg:Gl X x) (hm:X.mg x=some u) (h:Q u s)
  (hd:(x == ("__debug__" : Str))=false:=by decide):wpAny (model X.prog X.w) X.A (eval (.Name x pos) X.env) Q E s :=
 QU I.ok.kind hg (Calls.loadGlobal_global (by rw [I.ok.glob];exact I.mod.glob.keeps I.bk) hm h) hd
def iQ {E:Value->LV->Prop} {pins:List (Addr×Obj)} {s:LV} {σ:St} {H:Hp} {x:Str} {u:Value} {pos:Pos} {Q:Value->LV->Prop} (I:Inv X pins σ H s) (hg:Gl X x) (hm:X.mg x=none) (hv:bootBuiltins x=some u) (h:Q u s)
  (hn:x ≠ "__name__":=by decide) (hd:(x == ("__debug__" : Str))=false:=by decide):wpAny (model X.prog X.w) X.A (eval (.Name x pos) X.env) Q E s:=by
 obtain ⟨mb,h1,h2⟩:=I.mod.blt;exact QU I.ok.kind hg (Calls.loadGlobal_builtin (by rw [I.ok.glob];exact I.mod.glob.keeps I.bk) hm (by rw [I.ok.blt];exact h1.keeps I.bk) ((h2 x hn).trans hv) h) hd
def cF {x:Str} {v:V} {u:Value} {pos:Pos} (hg:Gl X x) (hm:X.mg x=some u) (r:RelV v u) (hd:(x == ("__debug__" : Str))=false:=by decide):PE X (.Name x pos) (tC v) :=
 fun _ _ _ H _ I h=>jd I hg hm ⟨v,H,I,r,h⟩ hd
def uM {x:Str} {v:V} {u:Value} {pos:Pos} (hg:Gl X x) (hm:X.mg x=none) (hv:bootBuiltins x=some u) (r:RelV v u) (hn:x ≠ "__name__":=by decide) (hd:(x == ("__debug__" : Str))=false:=by decide):PE X (.Name x pos) (tC v) :=
 fun _ _ _ H _ I h=>iQ I hg hm hv ⟨v,H,I,r,h⟩ hn hd
variable {a b:Expr} {ta tb:TE} {pos:Pos}
def PC (X:Cx) (op:CmpOp) (a b:Expr) (t:TE):Prop :=
 ∀ (pins:List (Addr×Obj)) (s:LV) (σ:St) (H:Hp) (Q:VK),Inv X pins σ H s->t σ H Q ->
  wpAny (model X.prog X.w) X.A (eval a X.env) (fun v s₁=>wpAny (model X.prog X.w) X.A (eval b X.env) (fun u s₂=>wpAny (model X.prog X.w) X.A (compareOp op v u) (EP X pins σ Q) X.xe s₂) X.xe s₁) X.xe s
def Gb (b:Expr) {op:CmpOp} (h:op≠.In) (h2:op≠.NotIn):behindInMarks op b=false:=by
 have e1:(op == CmpOp.In)=false:=by cases op <;> first|rfl|exact absurd rfl h
 have e2:(op == CmpOp.NotIn)=false:=by cases op <;> first|rfl|exact absurd rfl h2
 cases b <;> simp [behindInMarks,e1,e2]
def KS (ta:TE):TE:=fun σ H Q=>ta σ H fun x H1=>Q (.bl (decide (x=.non))) H1
def HK (ta:TE):TE:=fun σ H Q=>ta σ H fun x H1=>Q (.bl (!decide (x=.non))) H1
def RelV.yq {x:V} {v:Value} (r:RelV x v):(v == Ng)=decide (x=.non):=by
 cases x with
 | non=>cases r;rfl
 | bl _=>cases r;rfl
 | int _=>obtain ⟨t,rfl⟩:=r;rfl
 | str _=>obtain ⟨t,rfl⟩:=r;rfl
 | byt _=>obtain ⟨t,rfl⟩:=r;rfl
 | flt _=>obtain ⟨t,rfl⟩:=r;rfl
 | ref _=>cases r;rfl
 | ty _=>cases r;rfl
def ym {j pos'} (ha:PE X a ta):PC X .Is a (.Constant .none j pos') (KS ta):=by
 intro pins s σ H Q I h;refine thn (ha pins s σ H _ I h) fun v s1 ⟨x,H1,I1,r1,q1⟩=>?_;exact To (is_none_gen ⟨.bl _,H1,I1,by rw [r1.yq];rfl,q1⟩)
def qf {j pos'} (ha:PE X a ta):PC X .IsNot a (.Constant .none j pos') (HK ta):=by
 intro pins s σ H Q I h;refine thn (ha pins s σ H _ I h) fun v s1 ⟨x,H1,I1,r1,q1⟩=>?_;exact To (isnot_none_gen ⟨.bl _,H1,I1,by rw [r1.yq];rfl,q1⟩)
def tB (t:TE):TT:=fun σ H Q=>t σ H fun x H1=>∃ c,x=.bl c/\Q c H1
def jx {op:CmpOp} {t:TE} (h:PC X op a b t) (h1:behindInMarks op b=false:=by first|exact Gb _ (by decide) (by decide)|rfl):PT X (.Compare a [op] [b] pos) (tB t):=by
 intro pins s σ H Q I hw;refine Sf (thn (h pins s σ H _ I hw) fun v s1 h1=>thn h1 fun u s2 h2=>thn h2 fun c s3 ⟨x,H1,I1,r1,q1⟩=>?_) h1;obtain ⟨d,rfl,q⟩:=q1;cases r1;exact N8 ⟨H1,I1,q⟩
def fX {e:Expr} {t:TE} (h:PE X e t) (he:∀ whole,isTrue e X.env whole=(do let v <- whole;standAt e.pos;holding [v] (truthy v)):=by intro _;rfl):PT X e (tB t):=by
 intro pins s σ H Q I hw;refine isTrue_plain (thn (h pins s σ H _ I hw) fun v s1 ⟨x,H1,I1,r1,q1⟩=>?_) (he _);obtain ⟨d,rfl,q⟩:=q1;cases r1;exact N8 ⟨H1,I1,q⟩
variable {tA tB':TT} {rest:List Expr}
def J6 (t u:TT):TT:=fun σ H Q=>t σ H fun c H1=>if c=true then u σ H1 Q else Q false H1
def tOr (t u:TT):TT:=fun σ H Q=>t σ H fun c H1=>if c=true then Q true H1 else u σ H1 Q
def Ky (t:TT):TT:=fun σ H Q=>t σ H fun c H1=>Q (!c) H1
def ee (ha:PT X a tA):PW X (.BoolOp .And [a] pos) tA:=by
 intro wh pins s σ H Q I h;refine isTrue_and (thn (ha pins s σ H Q I h) fun c s1 e=>?_);cases c with
 | true=>exact isTrue_and_nil e
 | false=>exact e
def gG (ha:PT X a tA):PW X (.BoolOp .Or [a] pos) tA:=by
 intro wh pins s σ H Q I h;refine isTrue_or (thn (ha pins s σ H Q I h) fun c s1 e=>?_);cases c with
 | false=>exact isTrue_or_nil e
 | true=>exact e
def dB (ha:PT X a tA) (hb:PW X (.BoolOp .And (b :: rest) pos) tB'):PW X (.BoolOp .And (a :: b :: rest) pos) (J6 tA tB'):=by
 intro wh pins s σ H Q I h;refine isTrue_and (thn (ha pins s σ H _ I h) fun c s1 ⟨H1,I1,q1⟩=>?_);cases c with
 | true=>exact hb wh pins s1 σ H1 Q I1 q1
 | false=>exact ⟨H1,I1,q1⟩
def gR (ha:PT X a tA) (hb:PW X (.BoolOp .Or (b :: rest) pos) tB'):PW X (.BoolOp .Or (a :: b :: rest) pos) (tOr tA tB'):=by
 intro wh pins s σ H Q I h;refine isTrue_or (thn (ha pins s σ H _ I h) fun c s1 ⟨H1,I1,q1⟩=>?_);cases c with
 | true=>exact ⟨H1,I1,q1⟩
 | false=>exact hb wh pins s1 σ H1 Q I1 q1
def uf (ha:PT X a tA):PT X (.UnaryOp .Not a pos) (Ky tA):=by
 intro pins s σ H Q I h;exact isTrue_not (ha pins s σ H (fun c H1=>Q (!c) H1) I h)
def Ie (ta tb:TE):TE:=fun σ H Q=>ta σ H fun x H1=>∃ c,x=.bl c/\if c=true then tb σ H1 Q else Q (.bl false) H1
def JM (ta tb:TE):TE:=fun σ H Q=>ta σ H fun x H1=>∃ c,x=.bl c/\if c=true then Q (.bl true) H1 else tb σ H1 Q
def lX {op} {t:TE} (h:PE X a t):PE X (.BoolOp op [a] pos) t:=fun pins s σ H Q I hw=>BoolOp_one (h pins s σ H Q I hw)
def jF (ha:PE X a ta) (hb:PE X (.BoolOp .And (b :: rest) pos) tb):PE X (.BoolOp .And (a :: b :: rest) pos) (Ie ta tb):=by
 intro pins s σ H Q I h;refine BoolOp_and (thn (ha pins s σ H _ I h) fun v s1 ⟨x,H1,I1,r1,q1⟩=>?_);obtain ⟨c,rfl,q1⟩:=q1;cases r1;refine N8 ?_;cases c with
 | true=>exact hb pins s1 σ H1 Q I1 q1
 | false=>exact ⟨.bl false,H1,I1,rfl,q1⟩
def HY (ha:PE X a ta) (hb:PE X (.BoolOp .Or (b :: rest) pos) tb):PE X (.BoolOp .Or (a :: b :: rest) pos) (JM ta tb):=by
 intro pins s σ H Q I h;refine BoolOp_or (thn (ha pins s σ H _ I h) fun v s1 ⟨x,H1,I1,r1,q1⟩=>?_);obtain ⟨c,rfl,q1⟩:=q1;cases r1;refine N8 ?_;cases c with
 | false=>exact hb pins s1 σ H1 Q I1 q1
 | true=>exact ⟨.bl true,H1,I1,rfl,q1⟩
end
def SqL (K:LO) (H:Hp) (a:Addr) (xs:List V):Prop :=
 Rd H a (.lst xs) \/
  ∃ (o:Obj) (its:Array Value) (n:Nat),K.lookup a=some o/\o.cls=.type "list" /\ o.dict=none/\o.data=.seq its n/\its.size<=My/\Vals xs its.toList
def SqT (K:LO) (H:Hp) (a:Addr) (xs:List V):Prop :=
 Rd H a (.tup xs) \/
  ∃ (o:Obj) (its:Array Value) (n:Nat),K.lookup a=some o/\o.cls=.type "tuple" /\ o.data=.seq its n/\its.size<=My/\Vals xs its.toList
def LG:Value->Option V
 | .none=>some .non
 | .bool b=>some (.bl b)
 | .int i _=>some (.int i)
 | .str x _=>some (.str x)
 | .bytes b _=>some (.byt b)
 | .float b _=>some (.flt b)
 | .ref a=>some (.ref a)
 | .type n=>some (.ty n)
 | _=>none
def RelV.abs {x:V} {u:Value} (r:RelV x u):LG u=some x:=by
 cases x with
 | non=>cases r;rfl
 | bl _=>cases r;rfl
 | int _=>obtain ⟨t,rfl⟩:=r;rfl
 | str _=>obtain ⟨t,rfl⟩:=r;rfl
 | byt _=>obtain ⟨t,rfl⟩:=r;rfl
 | flt _=>obtain ⟨t,rfl⟩:=r;rfl
 | ref _=>cases r;rfl
 | ty _=>cases r;rfl
def RelV.inj {x y:V} {u:Value} (r:RelV x u) (q:RelV y u):x=y:=ME (r.abs.symm.trans q.abs)
def Vals.inj:∀ {xs ys:List V} {us:List Value},Vals xs us->Vals ys us->xs=ys
 | _,_,_,.nil,.nil=>rfl
 | _,_,_,.cons r t,.cons r' t'=>by rw [r.inj r',Vals.inj t t']
section
variable {X:Cx} {pins:List (Addr×Obj)} {σ:St} {H:Hp} {s:LV} {a:Addr} {xs ys:List V}
def SqL.of {K:LO} (h:H a=some (.lst xs)):SqL K H a xs:=.inl (.inl h)
def SqT.of {K:LO} (h:H a=some (.tup xs)):SqT K H a xs:=.inl (.inl h)
def Inv.list (I:Inv X pins σ H s) (h:SqL X.K H a xs):∃ its:List Value,Vals xs its/\PlainL s.heap a its.toArray/\xs.length<=My:=by
 rcases h with h|⟨o,its,n,hk,hc,hd,hs,hz,r⟩
 ·obtain ⟨z,its,n,r,e⟩:=h.ok I.hok;exact ⟨its,r,⟨_,n,e,rfl,rfl,rfl⟩,z⟩
 ·refine ⟨its.toList,r,⟨o,n,I.kIn a o hk,hc,hd,by simpa using hs⟩,?_⟩
  have e:=r.length;simp only [MC] at e;omega
def Inv.tuple (I:Inv X pins σ H s) (h:SqT X.K H a xs):∃ its:List Value,Vals xs its/\IsTup s.heap a its.toArray/\xs.length<=My:=by
 rcases h with h|⟨o,its,n,hk,hc,hs,hz,r⟩
 ·obtain ⟨z,its,r,p⟩:=h.ok I.hok;exact ⟨its,r,p,z⟩
 ·refine ⟨its.toList,r,⟨o,I.kIn a o hk,hc,n,by simpa using hs⟩,?_⟩
  have e:=r.length;simp only [MC] at e;omega
def Inv.jg (I:Inv X pins σ H s) (h:SqL X.K H a xs) (h':SqL X.K H a ys):xs=ys:=by
 obtain ⟨its,r,⟨o,n,e,_,_,d⟩,_⟩:=I.list h;obtain ⟨its',r',⟨o',n',e',_,_,d'⟩,_⟩:=I.list h';rw [e] at e';cases e';rw [d] at d';injection d' with d1 _;have:its=its':=by simpa using congrArg Array.toList d1
 subst this;exact r.inj r'
def Inv.wg (I:Inv X pins σ H s) (h:SqT X.K H a xs) (h':SqT X.K H a ys):xs=ys:=by
 obtain ⟨its,r,⟨o,e,_,n,d⟩,_⟩:=I.tuple h;obtain ⟨its',r',⟨o',e',_,n',d'⟩,_⟩:=I.tuple h';rw [e] at e';cases e';rw [d] at d';injection d' with d1 _;have:its=its':=by simpa using congrArg Array.toList d1
 subst this;exact r.inj r'
end
abbrev Cx.fY (X:Cx) (E:Value->LV->Prop):Cx:={ X with xe:=E }
abbrev Cx.nox (X:Cx):Cx:=X.fY fun _ _=>False
def Cx.Ok.fY {X:Cx} (ok:X.Ok) (E:Value->LV->Prop):(X.fY E).Ok :=
 ⟨ok.mod,ok.kind,ok.glob,ok.blt,ok.above,ok.inj,ok.has,ok.cab,ok.hd,ok.frames,ok.stk,ok.exf,ok.bs,ok.bsz,ok.vm,ok.rq,ok.eO,ok.frf⟩
def Cx.Ok.dN {X:Cx} {E:Value->LV->Prop} (ok:(X.fY E).Ok):X.Ok :=
 ⟨ok.mod,ok.kind,ok.glob,ok.blt,ok.above,ok.inj,ok.has,ok.cab,ok.hd,ok.frames,ok.stk,ok.exf,ok.bs,ok.bsz,ok.vm,ok.rq,ok.eO,ok.frf⟩
section
variable {X:Cx} {pins:List (Addr×Obj)} {σ:St} {H:Hp} {s:LV} {E:Value->LV->Prop}
def Inv.fY (I:Inv X pins σ H s) (E:Value->LV->Prop):Inv (X.fY E) pins σ H s:=⟨I.ok.fY E,I.os,I.bare,I.base,I.loc,I.cell,I.free,I.eJ,I.pin,I.hok,I.len⟩
def Inv.dN (I:Inv (X.fY E) pins σ H s):Inv X pins σ H s:=⟨I.ok.dN,I.os,I.bare,I.base,I.loc,I.cell,I.free,I.eJ,I.pin,I.hok,I.len⟩
def SP.dN {D:Ends} {f:Flow} {s':LV} (h:SP (X.fY E) pins D f s'):SP X pins D f s':=by
 cases f with
 | next=>obtain ⟨σ',H',I,q⟩:=h;exact ⟨σ',H',I.dN,q⟩
 | brk=>obtain ⟨σ',H',I,q⟩:=h;exact ⟨σ',H',I.dN,q⟩
 | cont=>obtain ⟨σ',H',I,q⟩:=h;exact ⟨σ',H',I.dN,q⟩
 | ret u=>obtain ⟨v,σ',H',I,r,q⟩:=h;exact ⟨v,σ',H',I.dN,r,q⟩
def PSs.nox {st:List Stmt} {t:TS} (h:PSs X.nox st t):PSs X st t:=fun pins s σ H D I hw =>
 Nc (h pins s σ H D (I.fY _) hw) (fun _ _ q=>q.dN) fun _ _ z=>Nd z
end
section
variable {X:Cx} {st:Stmt} {rest:List Stmt} {t u:TS} {e:Expr} {te:TE} {pos:Pos}
def HJ:TS:=fun D σ H=>D.nx σ H
def JQ (t u:TS):TS:=fun D σ H=>t { D with nx:=u D } σ H
def aE:PSs X [] HJ:=fun _ _ σ H _ I h=>Pb ⟨σ,H,I,h⟩
def ae (h1:PS X st t) (h2:PSs X rest u):PSs X (st :: rest) (JQ t u):=by
 intro pins s σ H D I h;refine RT (thn (h1 pins s σ H { D with nx:=u D } I h) fun f s1 q=>?_);cases f with
 | next =>
  obtain ⟨σ',H',I',q⟩:=q;exact h2 pins s1 σ' H' D I' q
 | ret v=>exact q
 | brk=>exact q
 | cont=>exact q
def af (h1:PS X st t):PSs X [st] t:=by
 intro pins s σ H D I h;refine RT (thn (h1 pins s σ H D I h) fun f s1 q=>?_);cases f with
 | next=>exact Pb q
 | ret v=>exact q
 | brk=>exact q
 | cont=>exact q
def Inv.quiet {pins:List (Addr×Obj)} {σ:St} {H:Hp} {s:LV} (I:Inv X pins σ H s):interactive X.env=false:=by simp [interactive,I.ok.kind]
def HR (te:TE):TS:=fun D σ H=>te σ H fun _ H1=>D.nx σ H1
def a7 (he:PE X e te) (hs:swapsWith e none pos.line X.env=pure false:=by rfl):PS X (.Expr e pos) (HR te):=by
 intro pins s σ H D I h;exact wpAny_Expr_any (thn (he pins s σ H _ I h) fun v s1 ⟨x,H1,I1,r1,q1⟩=>⟨σ,H1,I1,q1⟩) I.quiet hs
def JL (te:TE):TS:=fun D σ H=>te σ H D.rt
def aN (he:PE X e te):PS X (.Return (some e) pos) (JL te):=by
 intro pins s σ H D I h;exact wpAny_Return_some (thn (he pins s σ H _ I h) fun v s1 ⟨x,H1,I1,r1,q1⟩=>⟨x,σ,H1,I1,r1,q1⟩)
def G5 (c:TT) (t u:TS):TS:=fun D σ H=>c σ H fun b H1=>if b=true then t D σ H1 else u D σ H1
def aS {c:Expr} {a b:List Stmt} {tc:TT} (hc:PT X c tc) (ha:PSs X a t) (hb:PSs X b u):PS X (.If c a b pos) (G5 tc t u):=by
 intro pins s σ H D I h;refine wpAny_If (thn (hc pins s σ H _ I h) fun d s1 ⟨H1,I1,q1⟩=>?_);cases d with
 | true=>exact ha pins s1 σ H1 D I1 q1
 | false=>exact hb pins s1 σ H1 D I1 q1
def D9:TS:=fun _ _ _=>False
def cY:PS X st D9:=fun _ _ _ _ _ _ h=>h.elim
def jI {sts:List Stmt}:PSs X sts D9:=fun _ _ _ _ _ _ h=>h.elim
end
abbrev TG:=V->St->Hp->(St->Hp->Prop)->Prop
abbrev TGs:=List V->St->Hp->(St->Hp->Prop)->Prop
def PG (X:Cx) (target:Expr) (t:TG):Prop :=
 ∀ (pins:List (Addr×Obj)) (s:LV) (σ:St) (H:Hp) (v:V) (u:Value) (Q:St->Hp->Prop),Inv X pins σ H s->RelV v u->t v σ H Q ->
  wpAny (model X.prog X.w) X.A (assign target X.env u) (fun _ s'=>∃ σ' H',Inv X pins σ' H' s'/\Q σ' H') X.xe s
def PGs (X:Cx) (ts:List Expr) (t:TGs):Prop :=
 ∀ (pins:List (Addr×Obj)) (s:LV) (σ:St) (H:Hp) (vs:List V) (us:List Value) (Q:St->Hp->Prop),Inv X pins σ H s->Vals vs us->t vs σ H Q ->
  wpAny (model X.prog X.w) X.A (assignInOrder ((assignEach ts X.env).map (·.2)) us) (fun _ s'=>∃ σ' H',Inv X pins σ' H' s'/\Q σ' H') X.xe s
abbrev CC:=V->V->V->Hp->(Hp->Prop)->Prop
def Ks (X:Cx) (t:CC):Prop :=
 ∀ (pins:List (Addr×Obj)) (s:LV) (σ:St) (H:Hp) (o i v:V) (ov iv u:Value) (Q:Hp->Prop),Inv X pins σ H s->RelV o ov->RelV i iv->RelV v u->t o i v H Q ->
  wpAny (model X.prog X.w) X.A (setItem ov iv u) (fun _ s'=>∃ H',Inv X pins σ H' s'/\Q H') X.xe s
section
variable {X:Cx} {pos:Pos}
def iy (i:Nat):TG:=fun v σ H Q=>Q (σ.set i (some v)) H
def aJ {i:Nat} {x:Str} (hN:X.N.Nodup) (hi:X.N[i]?=some x) (hx:Loc X.env.scope x) (hf:X.fn x=true\/X.env.scope.names.lookup x=some .local:=by first|exact .inl rfl|exact .inr rfl|assumption):PG X (.Name x pos) (iy i):=by
 intro pins s σ H v u Q I r h;exact wpAny_assign_Name (kI I hN hi hx r (fun s' I'=>⟨_,H,I',h⟩) hf)
def Dd:TGs:=fun vs σ H Q=>vs=[]/\Q σ H
def mX (t:TG) (u:TGs):TGs:=fun vs σ H Q=>∃ v r,vs=v :: r/\t v σ H fun σ' H'=>u r σ' H' Q
def vd:PGs X [] Dd:=by
 intro pins s σ H vs us Q I r h;obtain ⟨e,h⟩:=h;subst e;cases r;exact assignInOrder_nil ⟨σ,H,I,h⟩
def i3 {e:Expr} {es:List Expr} {t:TG} {u:TGs} (h1:PG X e t) (h2:PGs X es u)
  (hs:(assignEach (e :: es) X.env).map (·.2)=assign e X.env :: (assignEach es X.env).map (·.2):=by rfl):PGs X (e :: es) (mX t u):=by
 intro pins s σ H vs us Q I r h;obtain ⟨v,vr,e1,h⟩:=h;subst e1;cases r with
 | cons r rr =>
  rw [hs];refine QX (thn (h1 pins s σ H _ _ _ I r h) fun _ s1 ⟨σ1,H1,I1,q1⟩=>?_);exact h2 pins s1 σ1 H1 _ _ Q I1 rr q1
def B2 (K:LO) (n:Nat) (t:TGs):TG:=fun v σ H Q=>∃ a xs,v=.ref a/\SqT K H a xs/\xs.length=n/\t xs σ H Q
def yi {es:List Expr} {k:Nat} {t:TGs} {n:Nat} (hc:X.calm=true) (h:PGs X es t)
  (hn:(assignEach es X.env).length=n:=by rfl) (hst:(assignEach es X.env).findIdx? (·.1)=none:=by rfl):PG X (.Tuple es k pos) (B2 X.K n t):=by
 intro pins s σ H v u Q I r hw;obtain ⟨a,xs,e1,hq,hl,hw⟩:=hw;subst e1;cases r;obtain ⟨its,rv,ht,hz⟩:=I.tuple hq;refine assign_Tuple_tuple (I.ok.hd hc) ht (by simp [hn,<- hl,rv.length]) hst fun h' hx=>?_
 have I1:Inv X pins σ H { s with heap:=h' }:=I.kept (t':=s.toks) fun b o e=>hx b o (Md (L6 e)) e;exact h pins _ σ H xs _ Q I1 (by simpa using rv) hw
def JW (to ti:TE) (t:CC):TG:=fun v σ H Q=>to σ H fun o H1=>ti σ H1 fun i H2=>t o i v H2 fun H3=>Q σ H3
def mj {o i:Expr} {to ti:TE} {t:CC} (ho:PE X o to) (hi:PE X i ti) (hs:Ks X t)
  (ha:∀ v,assign (.Subscript o i pos) X.env v=(do
   let ov <- holding [v] (eval o X.env)
   let iv <- holding [v,ov] (eval i X.env)
   standAt pos
   holding [v,ov,iv] (setItem ov iv v)
   release [v,ov,iv] []):=by intro _;rfl):PG X (.Subscript o i pos) (JW to ti t):=by
 intro pins s σ H v u Q I r h;rw [ha];refine LQ (M4 (thn (ho pins s σ H _ I h) fun ov s1 ⟨x,H1,I1,r1,q1⟩=>?_));refine LQ (M4 (thn (hi pins s1 σ H1 _ I1 q1) fun iv s2 ⟨y,H2,I2,r2,q2⟩=>?_));refine LQ (P0 (LQ (M4 (thn (hs pins s2 σ H2 x y v ov iv u _ I2 r1 r2 r q2) fun _ s3 ⟨H3,I3,q3⟩=>?_))));exact wpAny_release ⟨σ,H3,I3,q3⟩
def BZ (te:TE) (g:TG):TS:=fun D σ H=>te σ H fun x H1=>g x σ H1 D.nx
def l8 {tg e:Expr} {te:TE} {g:TG} (he:PE X e te) (hg:PG X tg g) (hs:swapsWithSole [tg] e pos.line X.env=pure false:=by rfl) (hw:swappedStores [tg] e X.env=pure none:=by rfl)
  (h1:(assignEach [tg] X.env).map (·.2)=[assign tg X.env]:=by rfl):PS X (.Assign [tg] e pos) (BZ te g):=by
 intro pins s σ H D I h;refine wpAny_Assign_stores (thn (he pins s σ H _ I h) fun v s1 ⟨x,H1,I1,r1,q1⟩=>?_) hs hw;rw [h1];exact thn (hg pins s1 σ H1 x v _ I1 r1 q1) fun _ s2 q=>q
def av {i:Nat} {x:Str} {e:Expr} {te:TE} {pos':Pos} (hN:X.N.Nodup) (hi:X.N[i]?=some x) (hx:Loc X.env.scope x) (he:PE X e te) (hs:swapsWith e (some (.Name x pos')) pos.line X.env=pure false:=by rfl) (hf:X.fn x=true\/X.env.scope.names.lookup x=some .local:=by first|exact .inl rfl|exact .inr rfl|assumption) :
  PS X (.Assign [.Name x pos'] e pos) (BZ te (iy i)):=by
 intro pins s σ H D I h;refine wpAny_Assign_Name (thn (he pins s σ H _ I h) fun v s1 ⟨y,H1,I1,r1,q1⟩=>?_) hs;exact kI I1 hN hi hx r1 (fun s2 I2=>⟨_,H1,I2,q1⟩) hf
def Kf (i j:Nat) (ta:TA):TS:=fun D σ H=>ta σ H fun vs H1=>∃ v w,vs=[v,w]/\D.nx ((σ.set i (some v)).set j (some w)) H1
def DM {i j:Nat} {x y:Str} {a b:Expr} {ta:TA} {px py pt:Pos} {kt k2 pt2} (hc:X.calm=true) (hN:X.N.Nodup) (hi:X.N[i]?=some x) (hj:X.N[j]?=some y) (hij:i≠j)
  (hx:X.env.scope.names.lookup x=some .local) (hy:X.env.scope.names.lookup y=some .local) (ha:PA X [a,b] ta)
  (hw:swappedStores [.Tuple [.Name x px,.Name y py] kt pt] (.Tuple [a,b] k2 pt2) X.env=pure (some [x,y]))
  (hs:swapsWithSole [.Tuple [.Name x px,.Name y py] kt pt] (.Tuple [a,b] k2 pt2) pos.line X.env=pure false:=by rfl) :
  PS X (.Assign [.Tuple [.Name x px,.Name y py] kt pt] (.Tuple [a,b] k2 pt2) pos) (Kf i j ta):=by
 intro pins s σ H D I h;rw [exec_Assign_arm];refine LQ (P0 ?_);rw [hs];refine LQ (L4 ?_);rw [if_neg (by decide)]
 refine LQ (Tuple_ (thn (ha _ pins s σ H _ I h) fun us s1 ⟨vs,H1,I1,r1,q1⟩=>?_));obtain ⟨v,w,e1,q1⟩:=q1;subst e1;obtain ⟨u1,u2,rfl,rv,rw'⟩:∃ u1 u2,us=[u1,u2]/\RelV v u1/\RelV w u2:=by
  cases r1 with
  | cons p q =>
   cases q with
   | cons p' q' =>
    cases q';exact ⟨_,_,rfl,p,p'⟩
 refine N9 ?_ (by show 2<=My;decide)
 have I2:Inv X pins σ H1 { s1 with heap:=s1.heap.push { cls:=.type "tuple",data:=.seq [u1,u2].toArray } }:=I1.kept (t':=s1.toks) fun b o e=>LW _ e;rw [hw];refine LQ (L4 ?_);show wpAny (model X.prog X.w) X.A (do rule "assign.swapped-stores";let items <- unpackItems (.ref s1.heap.objs.size) 2 none;assignInOrder [fun v=>bindName X.env y v,fun v=>bindName X.env x v] items.reverse;pure Flow.next) _ _ _;refine LQ (Tv (LQ (unpackItems_tuple (items:=#[u1,u2]) (I.ok.hd hc) (IsTup.new s1.heap _) fun h' hx'=>?_)));have I3:=I2.kept (h':=h') (t':=s1.toks) fun b o e=>hx' b o (Md (L6 e)) e;show wpAny _ _ (assignInOrder [fun v=>bindName X.env y v,fun v=>bindName X.env x v] [u2,u1] >>= fun _=>pure Flow.next) _ _ _;refine LQ (QX (wpAny_bindName (kI I3 hN hj (.inl hy) rw' (fun s2 I4=>?_) (.inr hy))));refine QX (wpAny_bindName (kI I4 hN hi (.inl hx) rv (fun s3 I5=>assignInOrder_nil (L4 ?_)) (.inr hx)));rw [List.set_comm _ _ (NJ hij)] at I5;exact ⟨_,H1,I5,q1⟩
def DP (c:TT) (tb:TS):TS:=fun D σ H=>∃ W:Nat->St->Hp->Prop,(∃ m,W m σ H)/\∀ m σ H,W m σ H ->
 c σ H fun b H1=>if b=true then ∃ N:St->Hp->Prop,(∀ σ' H',N σ' H'->∃ m',m' < m/\W m' σ' H')/\tb { D with nx:=N,ct:=N,bk:=D.nx } σ H1 else D.nx σ H1
def i7 {c:Expr} {body:List Stmt} {tc:TT} {tb:TS} (hp:T9 (model X.prog X.w) X.A X.env X.xe) (hc:PT X c tc) (hb:PSs X body tb):PS X (.While c body [] pos) (DP tc tb):=by
 intro pins s σ H D I h;obtain ⟨W,⟨m0,w0⟩,turn⟩:=h;refine wpAny_While (codeAny_whileLoop (fun n s'=>∃ σ' H',Inv X pins σ' H' s'/\W n σ' H') ?_ m0 ⟨σ,H,I,w0⟩);rintro n s1 ⟨σ1,H1,I1,w1⟩;refine OS hp (thn (hc pins s1 σ1 H1 _ I1 (turn n σ1 H1 w1)) fun b s2 ⟨H2,I2,q2⟩=>?_);cases b with
 | true =>
  obtain ⟨N,hN,q2⟩:=q2;rw [if_pos rfl];refine OS hp (thn (hb pins s2 σ1 H2 _ I2 q2) fun f s3 q3=>?_);cases f with
  | next =>
   obtain ⟨σ3,H3,I3,n3⟩:=q3;obtain ⟨m',hm,w3⟩:=hN σ3 H3 n3;exact ⟨m',hm,σ3,H3,I3,w3⟩
  | cont =>
   obtain ⟨σ3,H3,I3,n3⟩:=q3;obtain ⟨m',hm,w3⟩:=hN σ3 H3 n3;exact ⟨m',hm,σ3,H3,I3,w3⟩
  | brk=>exact q3
  | ret v=>exact q3
 | false =>
  rw [if_neg Ml];exact Pb ⟨σ1,H2,I2,q2⟩
end
structure It where
 go:Nat->Hp->Prop
 yld:Nat->Hp->V->Hp->Prop
 stop:Nat->Hp->Prop
def kG (X:Cx) (pins:List (Addr×Obj)) (H:Hp) (b:Addr):Prop :=
 H b=none/\b≠X.env.locals/\b∉X.fs/\(b∈X.ex\/X.s₀.heap.objs.size<=b)/\(∀ x c,X.env.cells.lookup x=some c->c≠b)/\∀ p∈X.pn++pins,p.1≠b
def Inv.uv {X:Cx} {pins:List (Addr×Obj)} {σ:St} {H H':Hp} {s:LV} {b:Addr} (I:Inv X pins σ H s) (hb:s.heap.objs.size<=b) (hn:H' b=none):kG X pins H' b:=by
 refine ⟨hn,OI (Mn I.lt hb),I.LJ hb,.inr (M7 I.sz hb),fun x c e z=>?_,fun p hp z=>?_⟩
 ·obtain ⟨v,q⟩:=I.cell x c e;exact absurd (Mn q.lt (by rw [z];exact hb)) (Oo _)
 ·exact absurd (Mn (L6 (I.pin p hp).1) (by rw [z];exact hb)) (Oo _)
structure Turn (P:Mi) (w:World) (K:LO) (tg:Expr) (J:It) (fp:List Addr) (it:Addr) (tn:Nat->Heap->Prop):Prop where
 mem:it∈fp
 obj:∀ i h,tn i h->∀ b∈fp,∃ o,h.get? b=some o/\∀ v,o.data≠.cell v
 keep:∀ i h h',tn i h->(∀ b∈fp,∀ o,h.get? b=some o->h'.get? b=some o)->tn i h'
 item:∀ (X:Cx),X.prog=P->X.w=w->X.K=K->X.calm=true->∀ (i:Nat) (pins:List (Addr×Obj)) (s:LV) (σ:St) (H:Hp) (E:Value->LV->Prop),Inv X pins σ H s->(∀ b∈fp,kG X pins H b)->tn i s.heap->J.go i H ->
  wpAny (model P w) X.A (pyNext (.ref it)) (fun r s1=>∃ u,r=some u /\
   wpAny (model P w) X.A (letOwnedTupleGo tg (.ref it) u) (fun _ s2=>∃ x H',Inv X pins σ H' s2/\RelV x u/\J.yld i H x H'/\tn (i+1) s2.heap/\∀ b∈fp,H' b=none) E s1) E s
 done:∀ (X:Cx),X.prog=P->X.w=w->X.K=K->X.calm=true->∀ (i:Nat) (pins:List (Addr×Obj)) (s:LV) (σ:St) (H:Hp) (E:Value->LV->Prop),Inv X pins σ H s->(∀ b∈fp,kG X pins H b)->tn i s.heap->J.stop i H ->
  wpAny (model P w) X.A (pyNext (.ref it)) (fun r s1=>r=none/\Inv X pins σ H s1) E s
 self:∀ (A:MQ) (i:Nat) (s:LV) (Q:Value->LV->Prop) (E:Value->LV->Prop),tn i s.heap->Q (.ref it) s->wpAny (model P w) A (pyIter (.ref it)) Q E s
abbrev TI:=St->Hp->(It->Hp->Prop)->Prop
def PIE (X:Cx) (pins:List (Addr×Obj)) (σ:St) (tg:Expr) (R:It->Hp->Prop) (itv:Value) (s2:LV):Prop :=
 ∃ (it:Addr) (fp:List Addr) (tn:Nat->Heap->Prop) (J:It) (H':Hp),itv=.ref it/\Inv X pins σ H' s2/\Turn X.prog X.w X.K tg J fp it tn/\tn 0 s2.heap/\(∀ b∈fp,kG X pins H' b)/\R J H'
def PI (X:Cx) (tg iter:Expr) (wi:TI):Prop :=
 ∀ (pins:List (Addr×Obj)) (s:LV) (σ:St) (H:Hp) (R:It->Hp->Prop),Inv X pins σ H s->wi σ H R ->
  wpAny (model X.prog X.w) X.A (eval iter X.env) (fun v s1=>wpAny (model X.prog X.w) X.A (pyIter v) (PIE X pins σ tg R) X.xe s1) X.xe s
def HI {M:Model} {A:MQ} {E:Value->LV->Prop} {s:LV} {tg:Expr} {it:Addr} {u:Value} {o:Obj} {n:String} {vs:Array Value} {Q:Unit->LV->Prop} (ho:s.heap.get? it=some o) (hc:o.cls=.type n) (hd:o.data=.fields vs)
  (hn:["enumerate","zip","dict_itemiterator","dict_reverseitemiterator","odict_iterator","itertools.zip_longest","itertools.pairwise"].contains n=false) (hQ:Q () s):wpAny M A (letOwnedTupleGo tg (.ref it) u) Q E s:=by
 unfold letOwnedTupleGo;cases tg <;> first
  | exact L4 hQ
  | (cases u <;> first
    | exact L4 hQ
    | (refine LQ (wpAny_load ho ?_)
       rw [hc,hd];show wpAny M A (if (["enumerate","zip","dict_itemiterator","dict_reverseitemiterator","odict_iterator","itertools.zip_longest","itertools.pairwise"].contains n && vs[0]? == some (rawInt _))=true then _ else _) Q E s;rw [if_neg (by intro h;rw [hn,Bool.false_and] at h;cases h)]
       exact L4 hQ))
def Itl (K:LO) (a:Addr):It :=
 ⟨fun i H=>∃ xs x,SqL K H a xs/\xs[i]?=some x,fun i H x H'=>H'=H/\∀ xs,SqL K H a xs->xs[i]?=some x,fun i H=>∃ xs,SqL K H a xs/\xs.length<=i⟩
def Itr (lo:Int) (n:Nat):It:=⟨fun i _=>i<n,fun i H x H'=>H'=H/\x=.int (lo+i),fun i _=>n<=i⟩
def EH {P:Mi} {w:World} {K:LO} {tg:Expr} (a it:Addr):Turn P w K tg (Itl K a) [it] it (fun i h=>h.IsListIter it a i) where
 mem:=by simp
 obj:=fun i h st b hb=>by
  have e:b=it:=by simpa using hb
  subst e;obtain ⟨o,e,c,d⟩:=st;exact ⟨o,e,fun v z=>by rw [d] at z;cases z⟩
 keep:=fun i h h' st k=>st.at fun o e=>k it (by simp) o e
 item:=by
  intro X hP hw hK hc i pins s σ H E I hf st hg;subst hP hw hK;obtain ⟨xs,x,hq,hx⟩:=hg;obtain ⟨its,rv,p,hz⟩:=I.list hq;obtain ⟨u,hu,ru⟩:=rv.get hx;obtain ⟨f0,f1,f2,f3,f4,f5⟩:=hf it (by simp)
  refine wpAny_pyNext_list_item st p.isList (x:=u) (by simpa using hu) fun h' st' sb=>?_
  have I1:Inv X pins σ H { s with heap:=h' }:=I.turned (t':=s.toks) (fun b o hb e=>(sb.2 b hb).trans e) f0 f1 f3 f4 f5;obtain ⟨o,e,c,d⟩:=id st';exact ⟨u,rfl,HI (s:={ s with heap:=h' }) e c d (by decide) ⟨x,H,I1,ru,⟨rfl,fun ys hy=>by rw [I.jg hy hq];exact hx⟩,st',fun b hb=>(hf b hb).1⟩⟩
 done:=by
  intro X hP hw hK hc i pins s σ H E I hf st hg;subst hP hw hK;obtain ⟨xs,hq,hx⟩:=hg;obtain ⟨its,rv,p,hz⟩:=I.list hq;obtain ⟨f0,f1,f2,f3,f4,f5⟩:=hf it (by simp)
  have hl:=rv.length;exact wpAny_pyNext_list_end (I.ok.hd hc) st p.isList (by simp;omega) fun h' eb=>⟨rfl,I.turned (t':=s.toks) (fun b o hb e=>eb b o hb e) f0 f1 f3 f4 f5⟩
 self:=fun _ _ _ _ _ st h=>wpAny_pyIter_listiter st h
def Cb {P:Mi} {w:World} {K:LO} {tg:Expr} (it:Addr) (lo:Int) (n:Nat):Turn P w K tg (Itr lo n) [it] it (fun i h=>IsRangeIter h it (lo+(i:Nat) * 1) ((n:Int) - (i:Nat)) 1) where
 mem:=by simp
 obj:=fun i h st b hb=>by
  have e:b=it:=by simpa using hb
  subst e;exact ⟨_,st,fun v z=>by
   have z':TZ _=Tp v:=z;cases z'⟩
 keep:=fun i h h' st k=>k it (by simp) _ st
 item:=by
  intro X hP hw hK hc i pins s σ H E I hf st hg;subst hP hw hK;obtain ⟨f0,f1,f2,f3,f4,f5⟩:=hf it (by simp)
  have W:=Walks.range (prog:=X.prog) (w:=X.w) (I.ok.hd hc) it lo 1 n;refine W.item i s _ _ hg st fun v h' tk hv st' kk=>?_;obtain ⟨t,rfl⟩:=hv;have I1:Inv X pins σ H { s with heap:=h',toks:=tk }:=I.turned (fun b o hb e=>kk b o (by simpa using hb) e) f0 f1 f3 f4 f5
  refine ⟨_,rfl,HI (s:={ s with heap:=h',toks:=tk }) (n:="range_iterator") st' rfl rfl (by decide) ⟨.int (lo+i),H,I1,⟨t,?_⟩,⟨rfl,rfl⟩,st',fun b hb=>(hf b hb).1⟩⟩
  rw [Int.mul_one]
 done:=by
  intro X hP hw hK hc i pins s σ H E I hf st hg;subst hP hw hK;obtain ⟨f0,f1,f2,f3,f4,f5⟩:=hf it (by simp)
  exact wpAny_pyNext_range_end (I.ok.hd hc) st (by have:n<=i:=hg;omega) fun h' eb=>⟨rfl,I.turned (t':=s.toks) (fun b o hb e=>eb b o hb e) f0 f1 f3 f4 f5⟩
 self:=fun _ _ _ _ _ st h=>wpAny_pyIter_rangeiter st h
section
variable {X:Cx} {tg:Expr}
def CY (K:LO) (tl:TE):TI:=fun σ H R=>tl σ H fun x H1=>∃ a,x=.ref a/\(∃ xs,SqL K H1 a xs)/\R (Itl K a) H1
def JB {l:Expr} {tl:TE} (hl:PE X l tl):PI X tg l (CY X.K tl):=by
 intro pins s σ H R I h;refine thn (hl pins s σ H _ I h) fun v s1 ⟨x,H1,I1,r1,q1⟩=>?_;obtain ⟨a,e,⟨xs,hq⟩,q⟩:=q1;subst e;cases r1;obtain ⟨its,rv,p,hz⟩:=I1.list hq;refine Qg p.isList ?_;refine ⟨s1.heap.objs.size,[s1.heap.objs.size],_,_,H1,rfl,I1.kept (t':=s1.toks) fun b o e=>LW _ e,EH a _,⟨_,Mo _ rfl,rfl,rfl⟩,fun b hb=>?_,q⟩;have e:b=s1.heap.objs.size:=by simpa using hb
 subst e;exact I1.uv (Mb _) (I1.hok.fresh (Mb _))
def zR {pins:List (Addr×Obj)} {σ:St} {H:Hp} {s:LV} {R:It->Hp->Prop} {E:Value->LV->Prop} {lo hi:Int} {t u v:Tok} {tk:Nat} (I:Inv X pins σ H s) (h1:-(2 ^ 62)<=lo) (h2:lo<2 ^ 62) (h3:-(2 ^ 62)<=hi) (h4:hi<2 ^ 62)
  (q:R (Itr lo (hi - lo).toNat) H):wpAny (model X.prog X.w) X.A (pyIter (.ref s.heap.objs.size)) (PIE X pins σ tg R) E { s with heap:=s.heap.push { cls:=.type "range",data:=.fields #[.int lo t,.int hi u,.int 1 v] },toks:=tk }:=by
 refine wpAny_pyIter_range (IsRange.new ..) (small_one h1 h2 h3 h4) ?_;have I1:Inv X pins σ H { s with heap:=s.heap.push { cls:=.type "range",data:=.fields #[.int lo t,.int hi u,.int 1 v] },toks:=tk }:=I.kept fun b o e=>LW _ e;refine ⟨(s.heap.push { cls:=.type "range",data:=.fields #[.int lo t,.int hi u,.int 1 v] }).objs.size,[(s.heap.push { cls:=.type "range",data:=.fields #[.int lo t,.int hi u,.int 1 v] }).objs.size],_,_,H,rfl,
  I1.kept (t':=tk) fun b o e=>LW _ e,Cb _ lo (hi - lo).toNat,?_,fun b hb=>?_,q⟩
 ·have e1:lo+((0:Nat):Int) * 1=lo:=by simp
  have e2:(((hi - lo).toNat:Nat):Int) - ((0:Nat):Int)=RE lo hi 1:=by rw [rangeSize_one];split <;> omega
  show IsRangeIter _ _ (lo+((0:Nat):Int) * 1) ((((hi - lo).toNat:Nat):Int) - ((0:Nat):Int)) 1;rw [e1,e2];exact Mo _ rfl
 ·have e:b=(s.heap.push { cls:=.type "range",data:=.fields #[.int lo t,.int hi u,.int 1 v] }).objs.size:=by simpa using hb
  subst e;exact I1.uv (Mb _) (I1.hok.fresh (Mb _))
def Dy (ta:TA):TI:=fun σ H R=>ta σ H fun vs H1=>∃ j:Int,vs=[.int j]/\-(2 ^ 62)<=j/\j<2 ^ 62/\R (Itr 0 j.toNat) H1
def Dp (ta:TA):TI:=fun σ H R=>ta σ H fun vs H1=>∃ i j:Int,vs=[.int i,.int j]/\(-(2 ^ 62)<=i/\i<2 ^ 62/\-(2 ^ 62)<=j/\j<2 ^ 62)/\R (Itr i (j - i).toNat) H1
def Ei {a:Expr} {ta:TA} {p pos:Pos} (hg:Gl X "range") (hm:X.mg "range" = none) (ha:PA X [a] ta) (hs:MS [a] X.env=[(false,eval a X.env)]:=by rfl):PI X tg (.Call (.Name "range" p) [a] [] pos) (Dy ta):=by
 intro pins s σ H R I h;refine Call_ (iQ I hg hm boot_range (Nu (thn (ha pos pins s σ H _ I h) fun us s1 ⟨vs,H1,I1,r1,q1⟩=>?_) hs rfl));obtain ⟨j,e,q1,q2,q⟩:=q1;subst e;cases r1 with
 | cons r rr =>
  cases rr;obtain ⟨t,rfl⟩:=r;exact call_range_1 (zR I1 (by omega) (by omega) q1 q2 (by simpa using q))
def D1 {a b:Expr} {ta:TA} {p pos:Pos} (hg:Gl X "range") (hm:X.mg "range" = none) (ha:PA X [a,b] ta) (hs:MS [a,b] X.env=[(false,eval a X.env),(false,eval b X.env)]:=by rfl) (hs2:MS [b] X.env=[(false,eval b X.env)]:=by rfl) :
  PI X tg (.Call (.Name "range" p) [a,b] [] pos) (Dp ta):=by
 intro pins s σ H R I h;refine Call_ (iQ I hg hm boot_range (Nu (thn (ha pos pins s σ H _ I h) fun us s1 ⟨vs,H1,I1,r1,q1⟩=>?_) (by rw [hs,hs2]) (by rw [hs2];rfl)))
 obtain ⟨i,j,e,⟨q1,q2,q3,q4⟩,q⟩:=q1;subst e;cases r1 with
 | cons r rr =>
  cases rr with
  | cons r' rr =>
   cases rr;obtain ⟨t,rfl⟩:=r;obtain ⟨t',rfl⟩:=r';exact call_range_2 (zR I1 q1 q2 q3 q4 q)
def J4 (wi:TI) (g:TG) (tb:TS):TS:=fun D σ H=>wi σ H fun J H1=>∃ W:Nat->Nat->St->Hp->Prop,(∃ m,W 0 m σ H1)/\∀ i m σ H,W i m σ H ->
 (J.stop i H/\D.nx σ H)\/(J.go i H/\∃ N:St->Hp->Prop,(∀ σ' H',N σ' H'->∃ m',m' < m/\W (i+1) m' σ' H')/\∀ x H',J.yld i H x H'->g x σ H' fun σ2 H2=>tb { D with nx:=N,ct:=N,bk:=D.nx } σ2 H2)
def mD (fp:List Addr) (h:Heap):List (Addr×Obj):=fp.filterMap fun b=>(h.get? b).map fun o=>(b,o)
def jV {fp:List Addr} {h:Heap} {b:Addr} {o:Obj} (hb:b∈fp) (e:h.get? b=some o):(b,o)∈mD fp h:=List.mem_filterMap.mpr ⟨b,hb,by rw [e];rfl⟩
def EN {fp:List Addr} {h:Heap} {p:Addr×Obj} (hp:p∈mD fp h):p.1∈fp/\h.get? p.1=some p.2:=by
 obtain ⟨b,hb,e⟩:=List.mem_filterMap.mp hp;cases q:h.get? b with
 | none=>rw [q] at e;cases e
 | some o =>
  rw [q] at e;have e':(b,o)=p:=ME e;subst e';exact ⟨hb,q⟩
def Inv.pinned {pins:List (Addr×Obj)} {σ:St} {H:Hp} {s:LV} {fp:List Addr} (I:Inv X pins σ H s) (hf:∀ b∈fp,kG X pins H b) (ho:∀ b∈fp,∃ o,s.heap.get? b=some o/\∀ v,o.data≠.cell v):Inv X (pins++mD fp s.heap) σ H s :=
 I.A2 fun p hp=>(Mc.mp hp).elim (fun z=>I.pin p (Nm _ z)) fun z=>by
  obtain ⟨hb,e⟩:=EN z;obtain ⟨f0,f1,f2,_⟩:=hf p.1 hb;obtain ⟨o,e',d⟩:=ho p.1 hb;rw [e] at e';cases e';exact ⟨e,f0,f1,f2,d⟩
def Inv.nK {pins pl:List (Addr×Obj)} {σ:St} {H:Hp} {s:LV} (I:Inv X (pins++pl) σ H s):Inv X pins σ H s:=I.A2 fun p hp=>I.pin p (Nm _ (NK _ hp))
def a8 {iter:Expr} {body:List Stmt} {wi:TI} {g:TG} {tb:TS} {pos:Pos} (hp:T9 (model X.prog X.w) X.A X.env X.xe) (hc:X.calm=true) (hi:PI X tg iter wi) (hg:PG X tg g) (hb:PSs X body tb)
  (hs:∀ x,foldedSetIterable iter X.env x=pure x:=by intro _;rfl):PS X (.For tg iter body [] pos) (J4 wi g tb):=by
 intro pins s σ H D I h;refine wpAny_For (thn (hi pins s σ H _ I h) fun v s1 h1=>thn h1 fun itv s2 h2=>?_) hs;obtain ⟨it,fp,tn,J,H2,e,I2,T,st2,f2,W,⟨m0,w0⟩,turn⟩:=h2;subst e;have stat:∀ {H':Hp},(∀ b∈fp,H' b=none)->∀ b∈fp,kG X pins H' b:=fun hn b hb=>⟨hn b hb,(f2 b hb).2⟩;refine codeAny_forLoop_any (fun n s'=>∃ i σ' H',Inv X pins σ' H' s'/\tn i s'.heap/\(∀ b∈fp,H' b=none)/\W i n σ' H') ?_ m0 ⟨0,σ,H2,I2,st2,fun b hb=>(f2 b hb).1,w0⟩;rintro n s3 ⟨i,σ3,H3,I3,st3,fr3,w3⟩;rcases turn i n σ3 H3 w3 with ⟨stop,qn⟩|⟨go,N,hN,step⟩
 ·refine OS hp (thn (T.done X rfl rfl rfl hc i pins s3 σ3 H3 X.xe I3 (stat fr3) st3 stop) fun r s4 ⟨hr,I4⟩=>?_);subst hr;exact Pb ⟨σ3,H3,I4,qn⟩
 ·refine OS hp (thn (T.item X rfl rfl rfl hc i pins s3 σ3 H3 X.xe I3 (stat fr3) st3 go) fun r s4 ⟨u,hr,h4⟩=>?_);subst hr;refine OS hp (thn h4 fun _ s5 ⟨x,H5,I5,r5,y5,st5,fr5⟩=>?_);have I5':=I5.pinned (stat fr5) (T.obj _ _ st5);refine OS hp (thn (hg _ s5 σ3 H5 x u _ I5' r5 (step x H5 y5)) fun _ s6 ⟨σ6,H6,I6,q6⟩=>?_);refine OS hp (thn (hb _ s6 σ6 H6 _ I6 q6) fun f s7 q7=>?_);have again:∀ {σ7:St} {H7:Hp},Inv X (pins++mD fp s5.heap) σ7 H7 s7->N σ7 H7->∃ m,m<n/\∃ i σ' H',Inv X pins σ' H' s7/\tn i s7.heap/\(∀ b∈fp,H' b=none)/\W i m σ' H':=fun {σ7 H7} I7 n7=>by
   obtain ⟨m',hm,w7⟩:=hN σ7 H7 n7;refine ⟨m',hm,i+1,σ7,H7,I7.nK,T.keep _ _ _ st5 fun b hb o e=>(I7.pin (b,o) (Nm _ (Nm _ (jV hb e)))).1,fun b hb=>?_,w7⟩;obtain ⟨o,e,d⟩:=T.obj _ _ st5 b hb;exact (I7.pin (b,o) (Nm _ (Nm _ (jV hb e)))).2.1
  cases f with
  | next=>obtain ⟨σ7,H7,I7,n7⟩:=q7;exact again I7 n7
  | cont=>obtain ⟨σ7,H7,I7,n7⟩:=q7;exact again I7 n7
  | brk=>obtain ⟨σ7,H7,I7,q7⟩:=q7;exact ⟨σ7,H7,I7.nK,q7⟩
  | ret v=>obtain ⟨x7,σ7,H7,I7,r7,q7⟩:=q7;exact ⟨x7,σ7,H7,I7.nK,r7,q7⟩
end
def rN {K:LO} {a:Addr} {xs:List V} {g:TG} {tb:TS} {D:Ends} {σ:St} {H:Hp} (Pv:Nat->St->Hp->Prop) (h0:Pv 0 σ H) (hl:∀ i σ H,i<=xs.length->Pv i σ H->SqL K H a xs)
  (hs:∀ i x σ H,xs[i]?=some x->Pv i σ H->g x σ H fun σ2 H2=>tb { D with nx:=Pv (i+1),ct:=Pv (i+1),bk:=D.nx } σ2 H2) (hd:∀ σ H,Pv xs.length σ H->D.nx σ H) :
  ∃ W:Nat->Nat->St->Hp->Prop,(∃ m,W 0 m σ H)/\∀ i m σ H,W i m σ H ->
   ((Itl K a).stop i H/\D.nx σ H)\/((Itl K a).go i H/\∃ N:St->Hp->Prop,(∀ σ' H',N σ' H'->∃ m',m' < m/\W (i+1) m' σ' H')/\∀ x H',(Itl K a).yld i H x H'->g x σ H' fun σ2 H2=>tb { D with nx:=N,ct:=N,bk:=D.nx } σ2 H2):=by
 refine ⟨fun i m σ H=>m=xs.length - i/\i<=xs.length/\Pv i σ H,⟨xs.length,by simp,MI _,h0⟩,?_⟩
 rintro i m σ H ⟨rfl,hi,p⟩;have q:=hl i σ H hi p
 by_cases hlt:i<xs.length
 ·refine .inr ⟨⟨xs,xs[i],q,by simp [hlt]⟩,Pv (i+1),fun σ' H' p'=>⟨xs.length - (i+1),by omega,rfl,hlt,p'⟩,fun x H' y=>?_⟩
  obtain ⟨e,y⟩:=y;subst e;exact hs i x σ _ (y xs q) p
 ·have e:i=xs.length:=by omega
  subst e;exact .inl ⟨⟨xs,q,Mb _⟩,hd σ H p⟩
def Ez {lo:Int} {n:Nat} {g:TG} {tb:TS} {D:Ends} {σ:St} {H:Hp} (Pv:Nat->St->Hp->Prop) (h0:Pv 0 σ H)
  (hs:∀ i σ H,i<n->Pv i σ H->g (.int (lo+i)) σ H fun σ2 H2=>tb { D with nx:=Pv (i+1),ct:=Pv (i+1),bk:=D.nx } σ2 H2) (hd:∀ σ H,Pv n σ H->D.nx σ H) :
  ∃ W:Nat->Nat->St->Hp->Prop,(∃ m,W 0 m σ H)/\∀ i m σ H,W i m σ H ->
   ((Itr lo n).stop i H/\D.nx σ H)\/((Itr lo n).go i H/\∃ N:St->Hp->Prop,(∀ σ' H',N σ' H'->∃ m',m' < m/\W (i+1) m' σ' H')/\∀ x H',(Itr lo n).yld i H x H'->g x σ H' fun σ2 H2=>tb { D with nx:=N,ct:=N,bk:=D.nx } σ2 H2):=by
 refine ⟨fun i m σ H=>m=n - i/\i<=n/\Pv i σ H,⟨n,by simp,MI _,h0⟩,?_⟩
 rintro i m σ H ⟨rfl,hi,p⟩
 by_cases hlt:i<n
 ·refine .inr ⟨hlt,Pv (i+1),fun σ' H' p'=>⟨n - (i+1),by omega,rfl,hlt,p'⟩,fun x H' y=>?_⟩
  obtain ⟨e,y⟩:=y;subst e y;exact hs i σ _ hlt p
 ·have e:i=n:=by omega
  subst e;exact .inl ⟨Mb _,hd σ H p⟩
abbrev R2:=V->V->Hp->VK->Prop
def OpR (X:Cx) (f:Value->Value->Sem Value) (r:R2):Prop :=
 ∀ (pins:List (Addr×Obj)) (s:LV) (σ:St) (H:Hp) (x y:V) (v u:Value) (Q:VK),Inv X pins σ H s->RelV x v->RelV y u->r x y H Q ->
  wpAny (model X.prog X.w) X.A (f v u) (EP X pins σ Q) X.xe s
def cE (X:Cx) (f:Value) (r:List V->Hp->VK->Prop):Prop :=
 ∀ (pins:List (Addr×Obj)) (s:LV) (σ:St) (H:Hp) (xs:List V) (us:List Value) (Q:VK),Inv X pins σ H s->Vals xs us->r xs H Q ->
  wpAny (model X.prog X.w) X.A (call f us) (EP X pins σ Q) X.xe s
def tOp (r:R2) (ta tb:TE):TE:=fun σ H Q=>ta σ H fun x H1=>tb σ H1 fun y H2=>r x y H2 Q
def rI (C:Int->Int->Prop) (g:Int->Int->V):R2:=fun x y H Q=>∃ i j,x=.int i/\y=.int j/\C i j/\Q (g i j) H
def rI0 (g:Int->Int->V):R2:=fun x y H Q=>∃ i j,x=.int i/\y=.int j/\Q (g i j) H
section
variable {X:Cx} {a b c:Expr} {ta tb tc:TE} {pos:Pos}
def FE (ha:PE X a ta) (hb:PE X b tb) {pins:List (Addr×Obj)} {s:LV} {σ:St} {H:Hp} {R:V->V->Hp->Prop} (I:Inv X pins σ H s)
  (h:ta σ H fun x H1=>tb σ H1 fun y H2=>R x y H2) {Q:Value->LV->Prop} {f:Value->Value->Sem Value}
  (hf:∀ v u s2 x y H2,Inv X pins σ H2 s2->RelV x v->RelV y u->R x y H2->wpAny (model X.prog X.w) X.A (f v u) Q X.xe s2) :
  wpAny (model X.prog X.w) X.A (eval a X.env) (fun v s₁=>wpAny (model X.prog X.w) X.A (eval b X.env) (fun u s₂=>wpAny (model X.prog X.w) X.A (f v u) Q X.xe s₂) X.xe s₁) X.xe s:=by
 refine thn (ha pins s σ H _ I h) fun v s1 ⟨x,H1,I1,r1,q1⟩=>?_;refine thn (hb pins s1 σ H1 _ I1 q1) fun u s2 ⟨y,H2,I2,r2,q2⟩=>?_;exact hf v u s2 x y H2 I2 r1 r2 q2
def au {op:Operator} {r:R2} (ho:OpR X (binaryOp op) r) (ha:PE X a ta) (hb:PE X b tb):PE X (.BinOp a op b pos) (tOp r ta tb):=by
 intro pins s σ H Q I h;exact wpAny_BinOp (FE ha hb I h fun v u s2 x y H2 I2 rx ry q=>ho pins s2 σ H2 x y v u Q I2 rx ry q)
def opI {f:Value->Value->Sem Value} {C:Int->Int->Prop} {g:Int->Int->Int}
  (rule:∀ (i j:Int) (t u:Tok) (s:LV) (Q:Value->LV->Prop) (E:Value->LV->Prop),C i j->Q (.int (g i j) s.toks) { s with toks:=s.toks+1 }->wpAny (model X.prog X.w) X.A (f (.int i t) (.int j u)) Q E s) :
  OpR X f (rI C fun i j=>.int (g i j)):=by
 intro pins s σ H x y v u Q I rx ry h;obtain ⟨i,j,rfl,rfl,hc,q⟩:=h;obtain ⟨t,rfl⟩:=rx;obtain ⟨t',rfl⟩:=ry;exact rule i j t t' s _ _ hc ⟨.int (g i j),H,I.tok _,⟨_,rfl⟩,q⟩
def Ku {f:Value->Value->Sem Value} {g:Int->Int->Int}
  (rule:∀ (i j:Int) (t u:Tok) (s:LV) (Q:Value->LV->Prop) (E:Value->LV->Prop),Q (.int (g i j) s.toks) { s with toks:=s.toks+1 }->wpAny (model X.prog X.w) X.A (f (.int i t) (.int j u)) Q E s) :
  OpR X f (rI0 fun i j=>.int (g i j)):=by
 intro pins s σ H x y v u Q I rx ry h;obtain ⟨i,j,rfl,rfl,q⟩:=h;obtain ⟨t,rfl⟩:=rx;obtain ⟨t',rfl⟩:=ry;exact rule i j t t' s _ _ ⟨.int (g i j),H,I.tok _,⟨_,rfl⟩,q⟩
def B6 {f:Value->Value->Sem Value} {g:Int->Int->Bool}
  (rule:∀ (i j:Int) (t u:Tok) (s:LV) (Q:Value->LV->Prop) (E:Value->LV->Prop),Q (.bool (g i j)) s->wpAny (model X.prog X.w) X.A (f (.int i t) (.int j u)) Q E s) :
  OpR X f (rI0 fun i j=>.bl (g i j)):=by
 intro pins s σ H x y v u Q I rx ry h;obtain ⟨i,j,rfl,rfl,q⟩:=h;obtain ⟨t,rfl⟩:=rx;obtain ⟨t',rfl⟩:=ry;exact rule i j t t' s _ _ ⟨.bl (g i j),H,I,rfl,q⟩
def GJ (i j:Int):Prop:=0<j/\j<1073741824
def LB (i j:Int):Prop:=0<=j/\j<=1000000/\i.natAbs<2 ^ 64
def BW (i j:Int):Prop:=(-(2 ^ 64)<i/\i<2 ^ 64)\/(-(2 ^ 64)<j/\j<2 ^ 64)
def BW.ok {i j:Int} (h:BW i j):IntMulOk i j:=by
 rcases h with ⟨h1,h2⟩|⟨h1,h2⟩
 ·exact .of_left (intBits_le_64 h1 h2)
 ·exact .of_right (intBits_le_64 h1 h2)
def bj:OpR X (binaryOp .Add) (rI0 fun i j=>.int (i+j)):=Ku fun _ _ _ _ _ _ _ q=>add_int q
def f9:OpR X (binaryOp .Sub) (rI0 fun i j=>.int (i - j)):=Ku fun _ _ _ _ _ _ _ q=>sub_int q
def bS:OpR X (binaryOp .Mult) (rI BW fun i j=>.int (i * j)):=opI fun _ _ _ _ _ _ _ hc q=>mul_int q hc.ok
def bq:OpR X (binaryOp .FloorDiv) (rI GJ fun i j=>.int (i / j)):=opI fun i j _ _ _ _ _ hc q=>by
 have h1:(0:Int)<j:=hc.1;have h2:j<1073741824:=hc.2;exact floordiv_int (by omega) (by rw [Int.fdiv_eq_ediv_of_nonneg i (by omega)];exact q) (.inl (PyProof.noPylong_small (by omega)))
def aV:OpR X (binaryOp .Mod) (rI (fun _ j=>0<j) fun i j=>.int (i % j)):=opI fun i j _ _ _ _ _ hc q=>by
 have h1:(0:Int)<j:=hc;exact mod_int' (by omega) (by rw [Int.fmod_eq_emod_of_nonneg i (by omega)];exact q)
def KW:OpR X (binaryOp .Pow) (rI LB fun i j=>.int (i ^ j.toNat)):=opI fun _ _ _ _ _ _ _ hc q=>pow_int_small hc.1 hc.2.1 hc.2.2 q
end
def KG:V->V->Bool
 | .non,.non=>true | .non,.int _=>true | .int _,.non=>true | .non,.bl _=>true | .bl _,.non=>true | .non,.str _=>true | .str _,.non=>true
 | .int _,.int _=>true | .bl _,.bl _=>true | .str _,.str _=>true | .byt _,.byt _=>true
 | .int _,.str _=>true | .str _,.int _=>true | .bl _,.str _=>true | .str _,.bl _=>true
 | _,_=>false
def rEq:R2:=fun x y H Q=>KG x y=true/\Q (.bl (decide (x=y))) H
def rNe:R2:=fun x y H Q=>KG x y=true/\Q (.bl (!decide (x=y))) H
def Bg {i j:Int}:decide (V.int i=V.int j)=(i == j):=by
 rw [NR];simp
def Em {i j:Bool}:decide (V.bl i=V.bl j)=(i == j):=by
 rw [NR];simp
def BA {i j:Str}:decide (V.str i=V.str j)=(i == j):=by
 rw [NR];simp
def Bc {i j:Array UInt8}:decide (V.byt i=V.byt j)=(i.toList == j.toList):=by
 rw [NR];cases i;cases j;simp
section
variable {X:Cx} {a b c:Expr} {ta tb tc:TE} {pos:Pos}
def bL {pins:List (Addr×Obj)} {σ:St} {H:Hp} {s:LV} {Q:VK} {k k':Bool} (I:Inv X pins σ H s) (q:Q (.bl k) H) (e:k=k'):EP X pins σ Q (.bool k') s:=by
 subst e;exact ⟨.bl k,H,I,rfl,q⟩
def bK:OpR X (compareOp .Eq) rEq:=by
 intro pins s σ H x y v u Q I rx ry h;obtain ⟨hs,q⟩:=h;cases x with
 | non =>
  cases rx;cases y with
  | non=>cases ry;exact PySem.EqNone.eq_none_none (bL I q (by simp))
  | bl j=>cases ry;exact PySem.EqNone.eq_none_bool (bL I q (by simp))
  | int j=>obtain ⟨t',rfl⟩:=ry;exact PySem.EqNone.eq_none_int (bL I q (by simp))
  | str j=>obtain ⟨t',rfl⟩:=ry;exact PySem.EqNone.eq_none_str (bL I q (by simp))
  | _=>exact absurd (show false=true from hs) Ml
 | bl i =>
  cases rx;cases y with
  | non=>cases ry;exact PySem.EqNone.eq_bool_none (bL I q (by simp))
  | bl j=>cases ry;exact eq_bool (bL I q Em)
  | str j=>obtain ⟨t',rfl⟩:=ry;exact PySem.EqMixed.eq_bool_str (bL I q (by simp))
  | _=>exact absurd (show false=true from hs) Ml
 | int i =>
  obtain ⟨t,rfl⟩:=rx;cases y with
  | non=>cases ry;exact PySem.EqNone.eq_int_none (bL I q (by simp))
  | int j=>obtain ⟨t',rfl⟩:=ry;exact eq_int (bL I q Bg)
  | str j=>obtain ⟨t',rfl⟩:=ry;exact PySem.EqMixed.eq_int_str (bL I q (by simp))
  | _=>exact absurd (show false=true from hs) Ml
 | str i =>
  obtain ⟨t,rfl⟩:=rx;cases y with
  | non=>cases ry;exact PySem.EqNone.eq_str_none (bL I q (by simp))
  | bl j=>cases ry;exact PySem.EqMixed.eq_str_bool (bL I q (by simp))
  | int j=>obtain ⟨t',rfl⟩:=ry;exact PySem.EqMixed.eq_str_int (bL I q (by simp))
  | str j=>obtain ⟨t',rfl⟩:=ry;exact eq_str (bL I q BA)
  | _=>exact absurd (show false=true from hs) Ml
 | byt i =>
  obtain ⟨t,rfl⟩:=rx;cases y with
  | byt j=>obtain ⟨t',rfl⟩:=ry;exact PySem.W.eq_bytes (bL I q Bc)
  | _=>exact absurd (show false=true from hs) Ml
 | _=>cases y <;> exact absurd (show false=true from hs) Ml
def dQ:OpR X (compareOp .NotEq) rNe:=by
 intro pins s σ H x y v u Q I rx ry h;obtain ⟨hs,q⟩:=h;cases x with
 | non =>
  cases rx;cases y with
  | non=>cases ry;exact PySem.EqNone.ne_none_none (bL I q (by simp))
  | bl j=>cases ry;exact PySem.EqNone.ne_none_bool (bL I q (by simp))
  | int j=>obtain ⟨t',rfl⟩:=ry;exact PySem.EqNone.ne_none_int (bL I q (by simp))
  | str j=>obtain ⟨t',rfl⟩:=ry;exact PySem.EqNone.ne_none_str (bL I q (by simp))
  | _=>exact absurd (show false=true from hs) Ml
 | bl i =>
  cases rx;cases y with
  | non=>cases ry;exact PySem.EqNone.ne_bool_none (bL I q (by simp))
  | bl j=>cases ry;exact ne_bool (bL I q (congrArg not Em))
  | str j=>obtain ⟨t',rfl⟩:=ry;exact PySem.EqMixed.ne_bool_str (bL I q (by simp))
  | _=>exact absurd (show false=true from hs) Ml
 | int i =>
  obtain ⟨t,rfl⟩:=rx;cases y with
  | non=>cases ry;exact PySem.EqNone.ne_int_none (bL I q (by simp))
  | int j=>obtain ⟨t',rfl⟩:=ry;exact ne_int (bL I q (congrArg not Bg))
  | str j=>obtain ⟨t',rfl⟩:=ry;exact PySem.EqMixed.ne_int_str (bL I q (by simp))
  | _=>exact absurd (show false=true from hs) Ml
 | str i =>
  obtain ⟨t,rfl⟩:=rx;cases y with
  | non=>cases ry;exact PySem.EqNone.ne_str_none (bL I q (by simp))
  | bl j=>cases ry;exact PySem.EqMixed.ne_str_bool (bL I q (by simp))
  | int j=>obtain ⟨t',rfl⟩:=ry;exact PySem.EqMixed.ne_str_int (bL I q (by simp))
  | str j=>obtain ⟨t',rfl⟩:=ry;exact ne_str (bL I q (congrArg not BA))
  | _=>exact absurd (show false=true from hs) Ml
 | byt i =>
  obtain ⟨t,rfl⟩:=rx;cases y with
  | byt j=>obtain ⟨t',rfl⟩:=ry;exact PySem.W.ne_bytes (bL I q (congrArg not Bc))
  | _=>exact absurd (show false=true from hs) Ml
 | _=>cases y <;> exact absurd (show false=true from hs) Ml
def eF:OpR X (compareOp .Lt) (rI0 fun i j=>.bl (decide (i<j))):=B6 fun _ _ _ _ _ _ _ q=>lt_int q
def K9:OpR X (compareOp .LtE) (rI0 fun i j=>.bl (decide (i<=j))):=B6 fun _ _ _ _ _ _ _ q=>le_int q
def fP:OpR X (compareOp .Gt) (rI0 fun i j=>.bl (decide (j<i))):=B6 fun _ _ _ _ _ _ _ q=>gt_int q
def lj:OpR X (compareOp .GtE) (rI0 fun i j=>.bl (decide (j<=i))):=B6 fun _ _ _ _ _ _ _ q=>ge_int q
def aB (b:Expr) {op:CmpOp} (h:op≠.In:=by decide) (h2:op≠.NotIn:=by decide):behindInMarks op b=false:=by
 have e1:(op == CmpOp.In)=false:=by cases op <;> first|rfl|exact absurd rfl h
 have e2:(op == CmpOp.NotIn)=false:=by cases op <;> first|rfl|exact absurd rfl h2
 cases b <;> simp [behindInMarks,e1,e2]
def dF {op:CmpOp} {r:R2} (ho:OpR X (compareOp op) r) (ha:PE X a ta) (hb:PE X b tb) (hm:behindInMarks op b=false):PE X (.Compare a [op] [b] pos) (tOp r ta tb):=by
 intro pins s σ H Q I h;exact wpAny_Compare1 (FE ha hb I h fun v u s2 x y H2 I2 rx ry q=>ho pins s2 σ H2 x y v u Q I2 rx ry q) hm
def HP (t:TE):TT:=fun σ H Q=>t σ H fun x H'=>∃ k,x=.bl k/\Q k H'
def ax {op:CmpOp} {r:R2} (ho:OpR X (compareOp op) r) (ha:PE X a ta) (hb:PE X b tb) (hm:behindInMarks op b=false):PT X (.Compare a [op] [b] pos) (HP (tOp r ta tb)):=by
 intro pins s σ H Q I h;refine Sf (thn (ha pins s σ H _ I h) fun v s1 ⟨x,H1,I1,r1,q1⟩=>thn (hb pins s1 σ H1 _ I1 q1) fun u s2 ⟨y,H2,I2,r2,q2⟩ =>
  thn (ho pins s2 σ H2 x y v u _ I2 r1 r2 q2) fun c s3 ⟨z,H3,I3,r3,k,e,q3⟩=>?_) hm
 subst e;cases r3;exact N8 ⟨H3,I3,q3⟩
def sO:(My:Nat)<2 ^ 63:=by rw [MX];decide
def vals1 {x:V} {us:List Value} (r:Vals [x] us):∃ u,us=[u]/\RelV x u:=by
 cases r with
 | cons r1 r2=>cases r2;exact ⟨_,rfl,r1⟩
def vals2 {x y:V} {us:List Value} (r:Vals [x,y] us):∃ u w',us=[u,w']/\RelV x u/\RelV y w':=by
 cases r with
 | cons r1 r2 =>
  cases r2 with
  | cons r3 r4=>cases r4;exact ⟨_,_,rfl,r1,r3⟩
end
structure vg (h:Heap) (x dx C:Addr) (mA:Str->Option Value):Prop where
 obj:h.get? x=some (OB C dx)
 ns:h.Ns1 dx mA
 ne:dx≠x
def pX {h:Heap} {dx:Addr} {mA:Str->Option Value} (n:h.Ns1 dx mA):∃ od,h.get? dx=some od/\∀ name,SX name od=some (mA name):=by
 obtain ⟨o,es,ep,ho,hd,hk,_,hm⟩:=n;refine ⟨o,ho,fun name=>?_⟩;have e:=hm name;unfold nsFind findBy at e;rw [<- Array.find?_toList] at e;unfold SX;rw [hd];dsimp only
 split
 ·rename_i y q
  rw [q] at e;exact congrArg some e
 ·rename_i q
  rw [q] at e;have a:es.toList.any (·.refKey)=false:=by
   rw [Qh];intro y hy;obtain ⟨z,t,hkey⟩:=hk y (Array.mem_toList_iff.mp hy);simp [DictEntry.refKey,hkey]
  have a':¬ es.toList.any (·.refKey)=true:=by rw [a];exact Ml
  rw [if_neg a'];exact congrArg some e
def vg.look {h:Heap} {x dx C:Addr} {mA:Str->Option Value} (I:vg h x dx C mA):∃ od,Q7 h x (OB C dx) C (some od)/\∀ name,SX name od=some (mA name) :=
 let ⟨od,ho,hl⟩:=pX I.ns
 ⟨od,⟨I.obj,rfl,rfl,ho⟩,hl⟩
section
variable {prog:Mi} {w:World} {A:MQ} {E:Value->LV->Prop} {s:LV} {K:LO} {x dx C f:Addr} {mA:Str->Option Value} {name:Str} {v:Value}
def get_map {expr:Bool} {Q:Value->LV->Prop} (X:K.In s.heap) (I:vg s.heap x dx C mA) (hg:Qz K C name=true) (hh:NG K C=true)
  (ha:M5 K (.ref C) name=some none) (hv:mA name=some v) (hv':RU v=true) (h:Q v { s with toks:=s.toks+1 }) :
  wpAny (model prog w) A (getAttr (.ref x) name expr) Q E s:=by
 obtain ⟨od,J,hl⟩:=I.look;exact PySem.W.get_value X J (PySem.W.plainGet_of hg).1 (S6 hh ha rfl (by rw [hl,hv])) hv' h
def ID {ns:List Str} {Q:Unit->LV->Prop} (X:K.In s.heap) (I:vg s.heap x dx C mA)
  (hs:M5 K (.ref C) "__setattr__" = some (some (.builtin "object.__setattr__"))) (hp:Rg K C=true) (ht:Sg K C name=some none) (hh:NG K C=true)
  (hw:QW mA ns) (hsz:ns.length<=My)
  (h:∀ h',vg h' x dx C (fun y=>if y=name then some v else mA y)->O1 dx s.heap h'->Q () { s with heap:=h',toks:=s.toks+2 }) :
  wpAny (model prog w) A (setAttr (.ref x) name v) Q E s:=by
 obtain ⟨od,J,hl⟩:=I.look;refine Rh X J hs (PySem.W.osa_open (s:={ s with toks:=s.toks+1 }) (r:=none) X J hp ht fun b=>?_);obtain ⟨cd,hc,hd'⟩:=PL hh;have hx:s.heap.get? x=some ⟨.ref C,some dx,.plain,#[]⟩:=I.obj;refine LQ (L4 (LQ (LQ (Q8 hx (LQ (QY (s:={ s with toks:=s.toks+1 }) (PR X hc) ?_))))));rw [hd'];refine L4 (a:=some dx) (LQ (L4 (LQ ?_)));refine TC (s:={ s with toks:=s.toks+1 }) I.ns fun h' hn2 hs2=>?_;obtain ⟨oD,esD,epD,hoD,hdD,hcD⟩:=hn2.count (Ri name v hw);refine LQ (RV hoD (by rw [hdD];exact RW (M7 hcD (by rw [MO];omega))) ?_)
 exact L4 (h _ ⟨(hs2.2 _ (NJ I.ne)).trans I.obj,hn2,I.ne⟩ hs2)
def Ga {R:Rj->LV->Prop} {vs:List Value} {kw:List (Str×Value)} (X:K.In s.heap) (hm:Si K C=true)
  (hi:M5 K (.ref C) "__init__" = some (some (.ref f))) (hf:PySem.W.typeIn K (.ref f)=some (.type "function"))
  (h:codeAny (model prog w) (A.under (.builtin "type.__call__" ⟨.ref C :: vs,kw⟩)) (.call (.ref f) ⟨.ref (s.heap.objs.size+1) :: vs,kw⟩) (PySem.W.InitBack (s.heap.objs.size+1) R)
   { s with heap:=(s.heap.push MN).push (OB C s.heap.objs.size) }) :
  codeAny (model prog w) A (.call (.ref C) ⟨vs,kw⟩) R s:=by
 obtain ⟨hh,g,d,t,os⟩:=s;exact PySem.W.make_core (PySem.W.makes_of X hm) (NL X hi) (fun self=>PySem.W.bind_fn X self hf) (.inl rfl) h
end
def d8 (f:Str) (v:V):List (Str×V)->List (Str×V)
 | []=>[(f,v)]
 | (g,x) :: r=>if g=f then (g,v) :: r else (g,x) :: d8 f v r
def gB (f g:Str) (v:V):∀ fs:List (Str×V),(d8 f v fs).lookup g=if g=f then some v else fs.lookup g
 | []=>by
  show PU g [(f,v)]=_
  by_cases h:g=f
  ·have hb:(g == f)=true:=beq_iff_eq.mpr h;simp only [PU,hb,if_pos h]
  ·have hb:(g == f)=false:=beq_eq_false_iff_ne.mpr h;simp only [PU,hb,if_neg h]
 | (k,x) :: r=>by
  have ih:=gB f g v r;rw [show d8 f v ((k,x) :: r)=(if k=f then (k,v) :: r else (k,x) :: d8 f v r) from rfl]
  by_cases hk:k=f
  ·rw [if_pos hk]
   by_cases h:g=k
   ·have hb:(g == k)=true:=beq_iff_eq.mpr h;simp only [PU,hb,if_pos (h.trans hk)]
   ·have hb:(g == k)=false:=beq_eq_false_iff_ne.mpr h;simp only [PU,hb,if_neg (fun e:g=f=>h (e.trans hk.symm))]
  ·rw [if_neg hk]
   by_cases h:g=k
   ·have hb:(g == k)=true:=beq_iff_eq.mpr h;simp only [PU,hb,if_neg (fun e:g=f=>hk (h.symm.trans e))]
   ·have hb:(g == k)=false:=beq_eq_false_iff_ne.mpr h;simp only [PU,hb];exact ih
def o6 (f:Str) (v:V):∀ fs:List (Str×V),f∈(d8 f v fs).map (·.1)/\∀ g,g∈fs.map (·.1)->g∈(d8 f v fs).map (·.1)
 | []=>⟨by simp [d8],fun g h=>by simp at h⟩
 | (k,x) :: r=>by
  obtain ⟨i1,i2⟩:=o6 f v r;rw [show d8 f v ((k,x) :: r)=(if k=f then (k,v) :: r else (k,x) :: d8 f v r) from rfl]
  by_cases hk:k=f
  ·rw [if_pos hk];subst hk;exact ⟨by simp,fun g h=>by simpa using h⟩
  ·rw [if_neg hk];refine ⟨?_,fun g h=>?_⟩
   ·rw [Mz];exact L5 _ i1
   ·rw [Mz] at h ⊢;rcases Mq.mp h with e|e
    ·exact Mq.mpr (.inl e)
    ·exact L5 _ (i2 g e)
def rd (f:Str) (v:V):∀ fs:List (Str×V),(d8 f v fs).length<=fs.length+1
 | []=>by simp [d8]
 | (k,x) :: r=>by
  have ih:=rd f v r;rw [show d8 f v ((k,x) :: r)=(if k=f then (k,v) :: r else (k,x) :: d8 f v r) from rfl]
  by_cases hk:k=f
  ·rw [if_pos hk,MO,MO];omega
  ·rw [if_neg hk,MO,MO];omega
def fL.some_of {v:V} {o:Option Value} (r:fL (some v) o):∃ u,o=some u/\RelV v u:=by
 cases o with
 | none=>exact (show False from r).elim
 | some u=>exact ⟨u,rfl,r⟩
def fL.none_of {o:Option Value} (r:fL none o):o=none:=by
 cases o with
 | none=>rfl
 | some u=>exact (show False from r).elim
def vB {v:V} {u:Value} (r:RelV v u):RU u=true:=by
 cases v with
 | non=>cases (show u=Ng from r);rfl
 | bl b=>cases (show u=SM b from r);rfl
 | int i=>obtain ⟨t,e⟩:=(show ∃ t,u=Ol i t from r);cases e;rfl
 | str x=>obtain ⟨t,e⟩:=(show ∃ t,u=Tj x t from r);cases e;rfl
 | byt b=>obtain ⟨t,e⟩:=(show ∃ t,u=Value.bytes b t from r);cases e;rfl
 | flt b=>obtain ⟨t,e⟩:=(show ∃ t,u=TY b t from r);cases e;rfl
 | ref a=>cases (show u=Mt a from r);rfl
 | ty n=>cases (show u=SN n from r);rfl
section
variable {P:Mi} {w:World} {H H':Hp} {h h':Heap} {a C dx:Addr} {fs fs':List (Str×V)}
def uz (hok:HOk P w H h) (e:H a=some (.ins C dx fs)):∃ mA,vg h a dx C mA/\(∀ f,fL (fs.lookup f) (mA f))/\QW mA (fs.map (·.1))/\fs.length<=1000/\H dx=some (.own a):=by
 obtain ⟨d,z,ne,ob,mA,n,r,q⟩:=(show bA P w H h a (.ins C dx fs) from hok a _ e);exact ⟨mA,⟨ob,n,ne⟩,r,q,z,d⟩
end
structure Cls (K:LO) (C:Addr):Prop where
 pg:Qz K C Str.empty=true
 hd:NG K C=true
 po:Rg K C=true
 sa:M5 K (.ref C) "__setattr__" = some (some (.builtin "object.__setattr__"))
def Cls.get {K:LO} {C:Addr} (c:Cls K C) (f:Str):Qz K C f=true:=c.pg
def bO (K:LO) (C:Addr) (f:Str):Prop:=M5 K (.ref C) f=some none
def bO.K1 {K:LO} {C:Addr} {f:Str} (n:bO K C f):Sg K C f=some none:=by
 unfold Sg;rw [show M5 K (.ref C) f=some none from n];rfl
section
variable {X:Cx} {pins:List (Addr×Obj)} {σ:St} {H:Hp} {s:LV} {a C dx:Addr} {fs:List (Str×V)} {f:Str} {v:V} {A:MQ} {E:Value->LV->Prop}
def DD {b:Bool} {Q:Value->LV->Prop} (I:Inv X pins σ H s) (e:H a=some (.ins C dx fs)) (c:Cls X.K C) (n:bO X.K C f) (l:fs.lookup f=some v)
  (h:∀ u s',Inv X pins σ H s'->RelV v u->Q u s'):wpAny (model X.prog X.w) A (getAttr (.ref a) f b) Q E s:=by
 obtain ⟨mA,O,r,_,_,_⟩:=uz I.hok e;obtain ⟨u,hu,ru⟩:=fL.some_of (v:=v) (o:=mA f) (by rw [<- l];exact r f)
 exact get_map I.kIn O (c.get f) c.hd n hu (vB ru) (h u _ (I.tok _) ru)
def Cv {y:V} {u:Value} {Q:Unit->LV->Prop} (I:Inv X pins σ H s) (e:H a=some (.ins C dx fs)) (c:Cls X.K C) (n:bO X.K C f) (hl:fs.length<1000) (ry:RelV y u)
  (h:∀ s',Inv X pins σ (upd H a (.ins C dx (d8 f y fs))) s'->Q () s'):wpAny (model X.prog X.w) A (setAttr (.ref a) f u) Q E s:=by
 obtain ⟨mA,O,r,wi,_,ho⟩:=uz I.hok e;have hz:(fs.map (·.1)).length<=My:=by rw [LX,MX];omega
 refine ID I.kIn O c.sa c.po n.K1 c.hd wi hz fun h' O' sb=>h _ ?_;have hd:∃ o,h'.get? dx=some o:=let ⟨o,_,_,e',_⟩:=O'.ns;⟨o,e'⟩;refine I.write (x:=a) (e:=dx) (by rw [e];exact NO) (.inr ho) (fun b q hb z=>(sb.2 b hb).trans z) hd ?_
 refine ⟨by rw [aA O.ne];exact ho,?_,O.ne,O'.obj,_,O'.ns,fun g=>?_,fun g hg=>?_⟩
 ·have:=rd f y fs;omega
 ·show fL ((d8 f y fs).lookup g) (if g=f then some u else mA g);rw [gB]
  by_cases q:g=f
  ·rw [if_pos q,if_pos q];exact ry
  ·rw [if_neg q,if_neg q];exact r g
 ·by_cases q:g=f
  ·rw [q];exact (o6 f y fs).1
  ·refine (o6 f y fs).2 g (wi g fun z=>hg ?_);show (if g=f then some u else mA g)=none;rw [if_neg q];exact z
def Inv.made (I:Inv X pins σ H s):Inv X pins σ (upd (upd H s.heap.objs.size (.own (s.heap.objs.size+1))) (s.heap.objs.size+1) (.ins C s.heap.objs.size []))
  { s with heap:=(s.heap.push MN).push (OB C s.heap.objs.size) }:=by
 have e1:(s.heap.push MN).get? s.heap.objs.size=some MN:=Mo s.heap rfl;have e2:((s.heap.push MN).push (OB C s.heap.objs.size)).get? (s.heap.objs.size+1)=some (OB C s.heap.objs.size):=by
  have:=Mo (s.heap.push MN) (o:=OB C s.heap.objs.size) rfl
  rwa [OP] at this
 have e3:(s.heap.push MN).Ns s.heap.objs.size (fun _=>none):=⟨MN,#[],_,e1,rfl,(fun e he=>absurd he (by simp)),fun _=>rfl⟩
 have I1:=I.laid (a:=s.heap.objs.size) (o:=.own (s.heap.objs.size+1)) (h':=s.heap.push MN) (t':=s.toks) (fun b u q=>LW _ q) (Mb _) ⟨_,e1⟩;refine I1.laid (a:=s.heap.objs.size+1) (o:=.ins C s.heap.objs.size []) (t':=s.toks) (fun b u q=>LW _ q) (QZ (OP _ _)) ?_;have ne:s.heap.objs.size≠s.heap.objs.size+1:=Md (PM _);refine ⟨by rw [aA ne,ar],MI _,ne,e2,fun _=>none,(Rl e3).at fun o q=>LW _ q,fun _=>NO,fun y hy=>absurd rfl hy⟩
def Bj {prog:Mi} {w:World} {env:Env} {e:Expr} {f:Str} {pos:Pos} {s:LV} {Q:Value->LV->Prop} (hb:attributeBase e f env (eval e env)=eval e env)
  (h:wpAny (model prog w) A (eval e env) (fun o s₁=>wpAny (model prog w) A (getAttr o f true) Q E s₁) E s):wpAny (model prog w) A (eval (.Attribute e f pos) env) Q E s :=
 Attribute_any_ h (by rw [arm_eval_Attribute,hb])
end
def Ht (K:LO) (ta:TE) (f:Str):TE:=fun σ H Q=>ta σ H fun x H1=>∃ a C dx fs v,x=.ref a/\H1 a=some (.ins C dx fs)/\Cls K C/\bO K C f/\fs.lookup f=some v/\Q v H1
def FT (K:LO) (ta tv:TE) (f:Str):TS:=fun D σ H=>tv σ H fun y H1=>ta σ H1 fun x H2=>∃ a C dx fs,x=.ref a/\H2 a=some (.ins C dx fs)/\Cls K C/\bO K C f/\fs.length<1000 /\
 D.nx σ (upd H2 a (.ins C dx (d8 f y fs)))
section
variable {X:Cx} {o e value:Expr} {f:Str} {pos pos' tpos:Pos} {ta tv:TE}
def JS (he:PE X e ta) (hb:attributeBase e f X.env (eval e X.env)=eval e X.env):PE X (.Attribute e f pos) (Ht X.K ta f):=by
 intro pins s σ H Q I h;refine Bj hb (thn (he pins s σ H _ I h) fun u s1 ⟨x,H1,I1,rx,a,C,dx,fs,v,ex,ea,c,n,l,q⟩=>?_);subst ex;obtain rfl:u=Mt a:=rx;exact DD I1 ea c n l fun u' s2 I2 ru=>⟨v,H1,I2,ru,q⟩
def JT (ha:PE X o ta) (hv:PE X value tv) (hs:swapsWith value (some (.Attribute o f pos')) pos.line X.env=pure false):PS X (.Assign [.Attribute o f pos'] value pos) (FT X.K ta tv f):=by
 intro pins s σ H D I h;refine Qi (thn (hv pins s σ H _ I h) fun u s1 ⟨y,H1,I1,ry,q⟩=>thn (ha pins s1 σ H1 _ I1 q) fun ov s2 ⟨x,H2,I2,rx,a,C,dx,fs,ex,ea,c,n,l,q2⟩=>?_) hs;subst ex;obtain rfl:ov=Mt a:=rx;exact Cv I2 ea c n l ry fun s3 I3=>⟨σ,_,I3,q2⟩
end
section
variable {X:Cx} {pins:List (Addr×Obj)} {σ:St} {H:Hp} {s:LV} {A:MQ} {E:Value->LV->Prop} {Q:Value->LV->Prop} {c:Value} {b:Bool}
inductive gS (K:LO) (H:Hp):V->Value->Prop where
 | non:gS K H .non (.type "NoneType")
 | bl (x:Bool):gS K H (.bl x) (.type "bool")
 | int (i:Int):gS K H (.int i) (.type "int")
 | str (x:Str):gS K H (.str x) (.type "str")
 | flt (x:UInt64):gS K H (.flt x) (.type "float")
 | lst {a:Addr} {xs:List V} (e:H a=some (.lst xs)):gS K H (.ref a) (.type "list")
 | frz {a:Addr} {o:Obj} {xs:List V} (e:H a=some (.frz o (.lst xs))):gS K H (.ref a) (.type "list")
 | tup {a:Addr} {xs:List V} (e:H a=some (.tup xs)):gS K H (.ref a) (.type "tuple")
 | dK {a:Addr} {kvs:List (Key×V)} (e:H a=some (.dK kvs)):gS K H (.ref a) (.type "dict")
 | dT {a:Addr} {kvs:List (List Key×V)} (e:H a=some (.dT kvs)):gS K H (.ref a) (.type "dict")
 | ins {a C dx:Addr} {fs:List (Str×V)} (e:H a=some (.ins C dx fs)) (cl:Cls K C) (ha:M5 K (.ref C) "__class__" = some (some (.builtin "object.__class__")))
   (hn:PySem.W.specialIn K (.builtin "object.__class__") "__get__" = some (some (.builtin "getset_descriptor.__get__"))) (htk:PySem.W.takesIn K (.builtin "object.__class__")=some true)
   (hm:RF K C (.type "object")=some true):gS K H (.ref a) (.ref C)
def Fe {x:V} {u t:Value} (I:Inv X pins σ H s) (rx:RelV x u) (ty:gS X.K H x t) (e:Nw X.K t c=some b) (h:∀ tk,Q (.bool b) { s with toks:=tk }) :
  wpAny (model X.prog X.w) A (call (.builtin "isinstance") [u,c]) Q E s:=by
 cases ty with
 | non=>cases (show u=Ng from rx);exact NB PySem.W.kitx_none I.kIn NO e (fun z=>nomatch z) h
 | bl y=>cases (show u=SM y from rx);exact NB PySem.W.kitx_bool I.kIn NO e (fun z=>nomatch z) h
 | int i=>obtain ⟨t,q⟩:=(show ∃ t,u=Ol i t from rx);cases q;exact NB PySem.W.kitx_int I.kIn NO e (fun z=>nomatch z) h
 | str y=>obtain ⟨t,q⟩:=(show ∃ t,u=Tj y t from rx);cases q;exact NB PySem.W.kitx_str I.kIn NO e (fun z=>nomatch z) h
 | flt y=>obtain ⟨t,q⟩:=(show ∃ t,u=TY y t from rx);cases q;exact NB PySem.W.kitx_float I.kIn NO e (fun z=>nomatch z) h
 | @lst a xs ea =>
  cases (show u=Mt a from rx);obtain ⟨_,_,n,_,h1⟩:=(show bA X.prog X.w H s.heap a (.lst xs) from I.hok a _ ea);exact NB PySem.W.kitx_list I.kIn ⟨_,h1,rfl⟩ e (fun z=>nomatch z) h
 | @frz a ob xs ea =>
  cases (show u=Mt a from rx);obtain ⟨_,_,_,n,_,h1⟩:=(show bA X.prog X.w H s.heap a (.frz ob (.lst xs)) from I.hok a _ ea);exact NB PySem.W.kitx_list I.kIn ⟨_,h1,rfl⟩ e (fun z=>nomatch z) h
 | @tup a xs ea =>
  cases (show u=Mt a from rx);obtain ⟨_,_,_,p⟩:=(show bA X.prog X.w H s.heap a (.tup xs) from I.hok a _ ea);obtain ⟨o,h1,h2,_⟩:=p;exact NB PySem.W.kitx_tuple I.kIn ⟨o,h1,h2⟩ e (fun z=>nomatch z) h
 | @dK a kvs ea =>
  cases (show u=Mt a from rx);obtain ⟨_,_,vs,_,p⟩:=(show bA X.prog X.w H s.heap a (.dK kvs) from I.hok a _ ea);obtain ⟨o,es,ep,h1,h2,_⟩:=p;exact NB PySem.W.kitx_dict I.kIn ⟨o,h1,h2.1⟩ e (fun z=>nomatch z) h
 | @dT a kvs ea =>
  cases (show u=Mt a from rx);obtain ⟨_,_,xs,_,o,es,ep,h1,h2,_⟩:=(show bA X.prog X.w H s.heap a (.dT kvs) from I.hok a _ ea);exact NB PySem.W.kitx_dict I.kIn ⟨o,h1,h2.1⟩ e (fun z=>nomatch z) h
 | @ins a C dx fs ea cl ha hn htk hm =>
  cases (show u=Mt a from rx);obtain ⟨mA,O,_⟩:=uz I.hok ea;obtain ⟨od,J,_⟩:=O.look;exact NB (PySem.W.kitx_own (cl.get _) cl.hd ha hn htk hm) I.kIn J e (fun z=>nomatch z) h
end
structure bX (k:Nat) (A:MQ):Prop where
 hd:A.handled=none
 dp:A.depth+3 * k+5<recursionLimit
 un:A.units+16 * k+200<cLine
def bX.mono {j k:Nat} {A:MQ} (r:bX k A) (h:j<=k):bX j A:=⟨r.hd,by have:=r.dp;omega,by have:=r.un;omega⟩
def bX.deeper {k:Nat} {A:MQ} (r:bX (k+1) A) (env:Env):bX k (A.deeper env) :=
 ⟨r.hd,by have:=r.dp;show A.depth+1+3 * k+5<_;omega,by have:=r.un;show A.units+3+16 * k+200<_;omega⟩
def bX.in1 {k:Nat} {A:MQ} (r:bX (k+1) A):bX k A.in1 :=
 ⟨r.hd,by have:=r.dp;show A.depth+3 * k+5<_;omega,by have:=r.un;show A.units+1+16 * k+200<_;omega⟩
def DE {A:MQ} {C:Addr} {us:List Value} {kw:List (Str×Value)}:(A.under (.builtin "type.__call__" ⟨.ref C :: us,kw⟩)).depth=A.depth+1:=by
 first|rfl|simp [TF,Code.weight,Code.isCreation,Code.isGuard,Code.isCaller,Code.frames,TJ,guardIds]
def Dr {A:MQ} {C:Addr} {us:List Value} {kw:List (Str×Value)}:(A.under (.builtin "type.__call__" ⟨.ref C :: us,kw⟩)).units=A.units+1:=by
 first|rfl|simp [TF,Code.cUnits,Code.frames,TJ]
def bX.make {k:Nat} {A:MQ} (r:bX (k+1) A) (C:Addr) (us:List Value) (kw:List (Str×Value)):bX k (A.under (.builtin "type.__call__" ⟨.ref C :: us,kw⟩)) :=
 ⟨r.hd,by have:=r.dp;rw [DE];omega,by have:=r.un;rw [Dr];omega⟩
def bX.depth {k:Nat} {A:MQ} (r:bX k A):A.depth<recursionLimit:=by have:=r.dp;omega
def bX.units {k:Nat} {A:MQ} (r:bX k A):A.units+64<cLine:=by have:=r.un;omega
def vf:TA:=fun _ H Q=>Q [] H
def nh (ta:TE) (tr:TA):TA:=fun σ H Q=>ta σ H fun x H1=>tr σ H1 fun xs H2=>Q (x :: xs) H2
section
variable {X:Cx} {e:Expr} {es:List Expr} {te:TE} {t:TA} {pos:Pos}
def aa:PA X [] vf:=fun _ _ _ _ H Q I h=>Calls.spliced_nil ⟨[],H,I,.nil,h⟩
def uq (ha:PE X e te) (hr:PA X es t) (hs:MS (e :: es) X.env=(false,eval e X.env) :: MS es X.env:=by rfl):PA X (e :: es) (nh te t):=by
 intro pos pins s σ H Q I h;rw [hs];show wpAny _ _ (spliced ((false,eval e X.env) :: backTo pos (MS es X.env))) _ _ s;refine Calls.spliced_cons (thn (ha pins s σ H _ I h) fun u s1 ⟨x,H1,I1,r1,q1⟩=>?_);exact thn (hr pos pins s1 σ H1 _ I1 q1) fun us s2 ⟨xs,H2,I2,r2,q2⟩=>⟨x :: xs,H2,I2,.cons r1 r2,q2⟩
def KO (t:TA):TE:=fun σ H Q=>t σ H fun xs H1=>xs.length<=My/\∀ p,H1 p=none->Q (.ref p) (upd H1 p (.tup xs))
def yZ (t:TA):TE:=fun σ H Q=>t σ H fun xs H1=>xs.length<=My/\∀ p,H1 p=none->Q (.ref p) (upd H1 p (.lst xs))
def ua {x1} (h:PA X es t):PE X (.Tuple es x1 pos) (KO t):=by
 intro pins s σ H Q I hq;refine wpAny_Tuple_spliced (thn (h pos pins s σ H _ I hq) fun us s1 ⟨xs,H1,I1,r,z,q⟩=>⟨by rw [<- r.length];exact z,?_⟩)
 have hf:H1 s1.heap.objs.size=none:=I1.hok.fresh (Mb _);refine ⟨.ref s1.heap.objs.size,upd H1 s1.heap.objs.size (.tup xs),I1.laid (t':=s1.toks) (fun b u e=>LW _ e) (Mb _) ?_,rfl,q _ hf⟩;exact ⟨z,us,r,⟨_,Mo _ rfl,rfl,_,rfl⟩⟩
def aW (h:PA X es t):PE X (.List es pos) (yZ t):=by
 intro pins s σ H Q I hq;refine wpAny_List_spliced (thn (h pos pins s σ H _ I hq) fun us s1 ⟨xs,H1,I1,r,z,q⟩=>⟨by rw [<- r.length];exact z,?_⟩)
 have hf:H1 s1.heap.objs.size=none:=I1.hok.fresh (Mb _);refine ⟨.ref s1.heap.objs.size,upd H1 s1.heap.objs.size (.lst xs),I1.laid (t':=s1.toks) (fun b u e=>LW _ e) (Mb _) ?_,rfl,q _ hf⟩;exact ⟨z,us,0,r,Mo _ rfl⟩
end
abbrev Sp:=List V->Hp->VK->XK->Prop
abbrev CXT:=List Env->Hp->LV->XK->Value->LV->Prop
structure lN (P:Mi) (w:World) (K:LO) (mg:Str->Option Value) (base:Heap) (A:MQ) (outer:List Env) (s:LV) (H:Hp):Prop where
 frames:A.frames=some outer
 mod:Mod K mg base
 bs:∀ b o,base.get? b=some o->s.heap.get? b=some o/\H b=none
 bsz:base.objs.size<=s.heap.objs.size
 eO:s.heap.FunFrames base outer
 frf:∀ b∈frs outer,H b=none
 hok:HOk P w H s.heap
 bare:RD s.gens
def CE (outer:List Env) (P:Mi) (w:World) (H:Hp) (s:LV) (Q:VK) (u:Value) (s':LV):Prop :=
 ∃ v H',s'.os=s.os/\RD s'.gens/\Un (frs outer) [] H H' s.heap s'.heap/\HOk P w H' s'.heap/\RelV v u/\Q v H'
def CR (CX:CXT) (outer:List Env) (P:Mi) (w:World) (H:Hp) (s:LV) (Q:VK) (E:XK) (r:Rj) (s':LV):Prop :=
 match r with
 | .ok (.ret u)=>CE outer P w H s Q u s'
 | .ok _=>False
 | .error e=>CX outer H s E e s'
structure aH (P:Mi) (w:World) (K:LO) (mg:Str->Option Value) (base:Heap) (CX:CXT) (k:Nat) (f:Addr) (fd:Na) (ps:List Str) (sp:Sp):Prop where
 len:∀ vs H Q E,sp vs H Q E->vs.length=ps.length
 run:∀ (A:MQ) (outer:List Env) (s:LV) (H:Hp) (args:Args) (us:List Value) (vs:List V) (Q:VK) (E:XK),bX k A->lN P w K mg base A outer s H->Q9 s fd args (ps.zip us)->Vals vs us->sp vs H Q E ->
  codeAny (model P w) A (.call (.ref f) args) (CR CX outer P w H s Q E) s
def aH.mono {P:Mi} {w:World} {K:LO} {mg:Str->Option Value} {base:Heap} {CX:CXT} {j k:Nat} {f:Addr} {fd:Na} {ps:List Str} {sp:Sp} (F:aH P w K mg base CX j f fd ps sp) (h:j<=k) :
  aH P w K mg base CX k f fd ps sp:=⟨F.len,fun A outer s H args us vs Q E hr=>F.run A outer s H args us vs Q E (hr.mono h)⟩
def lN.make {P:Mi} {w:World} {K:LO} {mg:Str->Option Value} {base:Heap} {A:MQ} {outer:List Env} {s:LV} {H:Hp} (e:lN P w K mg base A outer s H) (C:Addr) (us:List Value) (kw:List (Str×Value)) :
  lN P w K mg base (A.under (.builtin "type.__call__" ⟨.ref C :: us,kw⟩)) outer s H:=⟨by first|exact e.frames|(simpa [TF,Code.envs,TJ,pushEnvs] using e.frames),e.mod,e.bs,e.bsz,e.eO,e.frf,e.hok,e.bare⟩
def lN.in1 {P:Mi} {w:World} {K:LO} {mg:Str->Option Value} {base:Heap} {A:MQ} {outer:List Env} {s:LV} {H:Hp} (e:lN P w K mg base A outer s H) :
  lN P w K mg base A.in1 outer s H:=⟨e.frames,e.mod,e.bs,e.bsz,e.eO,e.frf,e.hok,e.bare⟩
section
variable {X:Cx} {pins:List (Addr×Obj)} {σ:St} {H:Hp} {s s':LV}
def Inv.DF (I:Inv X pins σ H s):lN X.prog X.w X.K X.mg X.base X.A X.stack s H :=
 ⟨I.ok.frames,I.ok.mod,I.bs,M7 I.ok.bsz I.sz,I.stack,I.A9,I.hok,I.bare⟩
def Inv.after {Q:VK} {u:Value} (I:Inv X pins σ H s) (h:CE X.stack X.prog X.w H s Q u s'):EP X pins σ Q u s':=by
 obtain ⟨v,H',os,bare,un,hok,r,q⟩:=h;obtain ⟨hh,g,d,t,os'⟩:=s';obtain rfl:os'=s.os:=os;exact ⟨v,H',I.call (h':=hh) (g':=g) (d':=d) (t':=t) (ch:=[]) un hok bare (fun b z=>absurd z (by simp)),r,q⟩
end
def nG (sp:Sp) (dvs:List V) (E:XK) (t:TA):TE:=fun σ H Q=>t σ H fun vs H1=>sp (vs++dvs) H1 Q E
def CZ (C:Addr) (sp:Sp) (dvs:List V) (E:XK) (t:TA):TE:=fun σ H Q=>t σ H fun vs H1=>∀ x dx,H1 x=none->H1 dx=none->dx≠x ->
 sp (.ref x :: (vs++dvs)) (upd (upd H1 dx (.own x)) x (.ins C dx [])) (fun v H2=>v=.non/\Q (.ref x) H2) E
def Binds (K:LO) (fd:Na) (ps:List Str) (ds:List Value):Prop :=
 ∀ (s:LV) (us:List Value),K.In s.heap->(us++ds).length=ps.length->Q9 s fd ⟨us,[]⟩ (ps.zip (us++ds))
def Binds.all {K:LO} {fd:Na} {ps:List Str} (h:∀ us:List Value,us.length=ps.length->bindArgs fd ⟨us,[]⟩=pure (ps.zip us)):Binds K fd ps []:=fun s us _ hl=>by
 rw [NS] at hl ⊢;exact .of_eq (h us hl)
def Passes (CX:CXT) (X:Cx) (E:XK):Prop:=∀ (pins:List (Addr×Obj)) (σ:St) (H:Hp) (s:LV) (e:Value) (s':LV),Inv X pins σ H s->CX X.stack H s E e s'->X.xe e s'
section
variable {X:Cx} {CX:CXT} {k:Nat} {f C:Addr} {fd:Na} {ps:List Str} {sp:Sp} {dvs:List V} {ds:List Value} {E:XK} {x m:Str} {p pos apos:Pos} {e o:Expr} {es:List Expr} {ta:TE} {t:TA}
def J9 {pins:List (Addr×Obj)} {σ:St} {H:Hp} {s:LV} {Q:VK} {us:List Value} {vs:List V} (F:aH X.prog X.w X.K X.mg X.base CX k f fd ps sp) (hr:bX k X.A) (hb:Binds X.K fd ps ds) (hd:Vals dvs ds) (hx:Passes CX X E)
  (I:Inv X pins σ H s) (r:Vals vs us) (h:sp (vs++dvs) H Q E):wpAny (model X.prog X.w) X.A (call (.ref f) us) (EP X pins σ Q) X.xe s:=by
 have r2:Vals (vs++dvs) (us++ds):=r.append hd;have hl:(us++ds).length=ps.length:=by rw [<- r2.length];exact F.len _ _ _ _ h
 refine Rm (OJ (F.run X.A X.stack s H ⟨us,[]⟩ (us++ds) (vs++dvs) Q E hr I.DF (hb s us I.kIn hl) r2 h) fun r s' hq=>?_);cases r with
 | error e=>exact hx pins σ H s e s' I hq
 | ok fl =>
  cases fl with
  | ret u=>exact I.after hq
  | next=>exact Nd hq
  | brk=>exact Nd hq
  | cont=>exact Nd hq
def qr (F:aH X.prog X.w X.K X.mg X.base CX k f fd ps sp) (hr:bX k X.A) (hg:Gl X x) (hm:X.mg x=some (.ref f)) (hk:M6 X.K (.ref f)=true) (hb:Binds X.K fd ps ds) (hd:Vals dvs ds) (hx:Passes CX X E)
  (ha:PA X (e :: es) t) (hdb:(x == ("__debug__" : Str))=false:=by decide) (he:MS (e :: es) X.env=(false,eval e X.env) :: MS es X.env:=by rfl) (hpl:(backTo pos (MS es X.env)).any (·.1)=false:=by rfl) :
  PE X (.Call (.Name x p) (e :: es) [] pos) (nG sp dvs E t):=by
 intro pins s σ H Q I h;refine OL (jd I hg hm ?_ hdb);refine P1 (h₀:=X.base) I.ok.mod.kin hk (thn (ha pos pins s σ H _ I h) fun us s1 ⟨vs,H1,I1,r,q⟩=>⟨I1.kIn,?_⟩) he hpl;exact J9 F hr hb hd hx I1 r q
structure Mk (K:LO) (C f:Addr):Prop where
 makes:Si K C=true
 init:M5 K (.ref C) "__init__" = some (some (.ref f))
 fn:Sj K (.ref f)=true
 kp:M6 K (.ref C)=true
def FO {pins:List (Addr×Obj)} {σ:St} {H:Hp} {s:LV} {Q:VK} {us:List Value} {vs:List V} (M:Mk X.K C f) (F:aH X.prog X.w X.K X.mg X.base CX k f fd ps sp) (hr:bX (k+1) X.A) (hb:Binds X.K fd ps ds) (hd:Vals dvs ds)
  (hx:Passes CX X E) (I:Inv X pins σ H s) (r:Vals vs us)
  (h:∀ x dx,H x=none->H dx=none->dx≠x->sp (.ref x :: (vs++dvs)) (upd (upd H dx (.own x)) x (.ins C dx [])) (fun v H2=>v=.non/\Q (.ref x) H2) E) :
  wpAny (model X.prog X.w) X.A (call (.ref C) us) (EP X pins σ Q) X.xe s:=by
 have hq:=h (s.heap.objs.size+1) s.heap.objs.size (I.hok.fresh (OC _)) (I.hok.fresh (Mb _)) (Md (PM _));have I2:=Inv.made (C:=C) I;have r2:Vals (V.ref (s.heap.objs.size+1) :: (vs++dvs)) (Mt (s.heap.objs.size+1) :: (us++ds)):=.cons rfl (r.append hd);have hl:(Mt (s.heap.objs.size+1) :: us++ds).length=ps.length:=by
  have e:=r2.length;rw [F.len _ _ _ _ hq] at e;exact e.symm
 refine Rm (Ga (f:=f) I.kIn M.makes M.init (beq_iff_eq.mp M.fn) (OJ (F.run _ X.stack _ _ ⟨Mt (s.heap.objs.size+1) :: us,[]⟩ (Mt (s.heap.objs.size+1) :: (us++ds)) _ _ E (hr.make C us [])
  (I2.DF.make C us []) (hb _ (Mt (s.heap.objs.size+1) :: us) I2.kIn hl) r2 hq) fun r s' hq'=>?_))
 cases r with
 | error e=>exact hx pins σ _ _ e s' I2 hq'
 | ok fl =>
  cases fl with
  | ret u =>
   obtain ⟨v,H',I3,rv,ev,q3⟩:=I2.after hq';subst ev;exact ⟨rv,⟨V.ref (s.heap.objs.size+1),H',I3,rfl,q3⟩⟩
  | next=>exact Nd hq'
  | brk=>exact Nd hq'
  | cont=>exact Nd hq'
def II (M:Mk X.K C f) (F:aH X.prog X.w X.K X.mg X.base CX k f fd ps sp) (hr:bX (k+1) X.A) (hg:Gl X x) (hm:X.mg x=some (.ref C)) (hb:Binds X.K fd ps ds) (hd:Vals dvs ds) (hx:Passes CX X E)
  (ha:PA X (e :: es) t) (hdb:(x == ("__debug__" : Str))=false:=by decide) (he:MS (e :: es) X.env=(false,eval e X.env) :: MS es X.env:=by rfl) (hpl:(backTo pos (MS es X.env)).any (·.1)=false:=by rfl) :
  PE X (.Call (.Name x p) (e :: es) [] pos) (CZ C sp dvs E t):=by
 intro pins s σ H Q I h;refine OL (jd I hg hm ?_ hdb);refine P1 (h₀:=X.base) I.ok.mod.kin M.kp (thn (ha pos pins s σ H _ I h) fun us s1 ⟨vs,H1,I1,r,q⟩=>⟨I1.kIn,?_⟩) he hpl;exact FO M F hr hb hd hx I1 r q
end
section
variable {X:Cx} {CX:CXT} {k:Nat} {f C:Addr} {fd:Na} {ps ks:List Str} {sp:Sp} {E:XK} {x m:Str} {p pos apos kpos:Pos} {e o:Expr} {es:List Expr} {kws:List Sk} {te ta:TE} {t tk:TA} {nm:Option Str}
structure pM (K:LO) (fd:Na) (ps ks:List Str) (g:List Value->List Value->List Value) (gV:List V->List V->List V):Prop where
 to:∀ (s:LV) (us ws:List Value),K.In s.heap->(g us ws).length=ps.length->Q9 s fd ⟨us,ks.zip ws⟩ (ps.zip (g us ws))
 rel:∀ {vs:List V} {us:List Value} {zs:List V} {ws:List Value},Vals vs us->Vals zs ws->Vals (gV vs zs) (g us ws)
variable {g:List Value->List Value->List Value} {gV:List V->List V->List V}
end
structure aK (N P:List Str) (sc:Scope):Prop where
 kind:sc.kind=.function
 co:sc.isCoroutine=false
 gen:sc.isGenerator=false
 nd:N.Nodup
 pre:N.take P.length=P
 par:∀ x∈P,sc.names.lookup x=some .local\/sc.names.lookup x=some .cell
 JU:∀ y∈sc.names,y.2≠.free
def vp {kindOf:Str->Option Qs} {x:Str}:∀ {binds:List (Str×Value)} {m:Str->Option Value},(∀ v,(x,v)∉binds)->bindL kindOf binds m x=m x
 | [],_,_=>rfl
 | (n,v) :: r,m,h=>by
  unfold bindL;rw [vp fun w hw=>h w (L5 _ hw)]
  split
  ·have:x≠n:=by rintro rfl;exact h v L9
   simp [this]
  ·rfl
def vY {kindOf:Str->Option Qs} {x:Str}:∀ {binds:List (Str×Value)} {m:Str->Option Value},(∀ v,(x,v)∉binds)->bindC kindOf binds m x=m x
 | [],_,_=>rfl
 | (n,v) :: r,m,h=>by
  unfold bindC;rw [vY fun w hw=>h w (L5 _ hw)]
  split
  ·rfl
  ·have:x≠n:=by rintro rfl;exact h v L9
   simp [this]
def vA {kindOf:Str->Option Qs} {x:Str} {v:Value}:∀ {P:List Str} {vs:List Value} {i:Nat} {m:Str->Option Value},P.Nodup->P[i]?=some x->vs[i]?=some v->kindOf x=some .local ->
  bindL kindOf (P.zip vs) m x=some v
 | [],_,_,_,_,h,_,_=>by simp at h
 | _ :: _,[],_,_,_,_,h,_=>by simp at h
 | p :: P,w :: vs,0,m,nd,h1,h2,hk=>by
  simp at h1 h2;subst h1;subst h2;show bindL kindOf ((p,w) :: P.zip vs) m p=_;unfold bindL;rw [vp fun v hv=>(MY.mp nd).1 (Sl hv).1,if_pos hk];simp
 | p :: P,w :: vs,i+1,m,nd,h1,h2,hk=>by
  show bindL kindOf ((p,w) :: P.zip vs) m x=_;unfold bindL;exact vA (i:=i) (MY.mp nd).2 (by simpa using h1) (by simpa using h2) hk
def vD {kindOf:Str->Option Qs} {x:Str} {v:Value}:∀ {P:List Str} {vs:List Value} {i:Nat} {m:Str->Option Value},P.Nodup->P[i]?=some x->vs[i]?=some v->kindOf x≠some .local ->
  bindC kindOf (P.zip vs) m x=some v
 | [],_,_,_,_,h,_,_=>by simp at h
 | _ :: _,[],_,_,_,_,h,_=>by simp at h
 | p :: P,w :: vs,0,m,nd,h1,h2,hk=>by
  simp at h1 h2;subst h1;subst h2;show bindC kindOf ((p,w) :: P.zip vs) m p=_;unfold bindC;rw [vY fun v hv=>(MY.mp nd).1 (Sl hv).1,if_neg hk];simp
 | p :: P,w :: vs,i+1,m,nd,h1,h2,hk=>by
  show bindC kindOf ((p,w) :: P.zip vs) m x=_;unfold bindC;exact vD (i:=i) (MY.mp nd).2 (by simpa using h1) (by simpa using h2) hk
def start (N:List Str) (vs:List V):St:=vs.map some++Me (N.length - vs.length) none
def iN (CX:CXT) (P:Mi) (w:World) (K:LO) (mg:Str->Option Value) (base:Heap) (N:List Str) (qual:Str) (scope:Scope) (f:Addr) (cd:Value) (A:MQ) (outer:List Env) (s:LV) (H:Hp) (E:XK):Cx where
 prog:=P
 w:=w
 K:=K
 mg:=mg
 base:=base
 A:=A.deeper (envOfC qual scope s.heap.objs.size f cd)
 N:=N
 s₀:=s
 H₀:=H
 env:=envOfC qual scope s.heap.objs.size f cd
 outer:=outer
 stack:=envOfC qual scope s.heap.objs.size f cd :: outer
 ex:=[]
 calm:=true
 fn:=fun _=>true
 pn:=[]
 xe:=fun e s'=>wpAny (model P w) (A.deeper (envOfC qual scope s.heap.objs.size f cd)) (leaving (envOfC qual scope s.heap.objs.size f cd) e) (fun _ s''=>CX outer H s E e s'') (fun e' s''=>CX outer H s E e' s'') s'
def zd {sc:Scope} {n:Nat} {x:Str} (h:sc.names.lookup x=some .cell):∃ c,(cellsFrom n sc.names []).lookup x=some c:=by
 have q:=R7 sc.names n [] (.inl h);exact Option.isSome_iff_exists.mp q
def EE {CX:CXT} {P:Mi} {w:World} {K:LO} {mg:Str->Option Value} {base:Heap} {N ps:List Str} {qual:Str} {scope:Scope} {f:Addr} {cd:Value} {A:MQ} {outer:List Env} {s s1:LV} {H:Hp} {E:XK} {us:List Value} {vs:List V}
  (S:aK N ps scope) (hd:A.handled=none) (e0:lN P w K mg base A outer s H) (hl:vs.length=ps.length) (r:Vals vs us)
  (x:InCallC s s.heap.objs.size (bindL (envOfC qual scope s.heap.objs.size f cd).kindOf (ps.zip us) fun _=>none) (cellsFrom (s.heap.objs.size+1) scope.names []) (bindC (envOfC qual scope s.heap.objs.size f cd).kindOf (ps.zip us) fun _=>none) s1) :
  Inv (iN CX P w K mg base N qual scope f cd A outer s H E) [] (start N vs) H s1:=by
 have hpl:ps.length<=N.length:=by have:=congrArg QJ S.pre;rw [MF] at this;omega
 obtain ⟨h1,tk,rfl,hk⟩:=x.done;have noA:∀ b:Addr,b∉(iN CX P w K mg base N qual scope f cd A outer s H E).ex:=fun b z=>absurd (show b∈([]:List Addr) from z) (by simp)
 refine ⟨⟨e0.mod,S.kind,rfl,rfl,Mb _,fun y z c h1 h2=>?_,fun y hy=>?_,fun y c _ h=>?_,fun _=>hd,Around.frames_deeper e0.frames,.inr ⟨rfl,rfl⟩,fun b z=>absurd z (noA b),e0.bs,e0.bsz,fun b _ _=>noA b,fun b z=>absurd z (noA b),e0.eO,e0.frf⟩,
  rfl,e0.bare,Un.kept hk,⟨_,x.toInCall.ns,fun i y v h1 h2 h3=>?_⟩,fun y c h=>⟨_,x.cell y c h⟩,e0.hok.fresh (Mb _),fun y c h=>?_,fun p hp=>absurd (show p∈([]:List (Addr×Obj)) from hp) (by simp),e0.hok.kept hk,?_⟩
 ·exact name_of_addr x.apart (Oa h1) (Oa h2)
 ·have hy:scope.names.lookup y=some .cell\/scope.names.lookup y=some .free:=hy;rcases hy with hy|hy
  ·exact zd hy
  ·exact absurd rfl (S.JU _ (Oa hy))
 ·exact Ou (x.above y c (Oa h))
 ·have hi:i<vs.length:=by
   unfold start at h2
   by_cases hi:i<vs.length
   ·exact hi
   ·rw [MT (by simpa using hi)] at h2
    rw [Oq] at h2
    split at h2 <;> cases h2
  have ha:vs[i]?=some v:=by
   unfold start at h2;rw [MG (by simpa using hi),Mp] at h2
   cases e:vs[i]? with
   | none=>rw [e] at h2;cases h2
   | some a=>rw [e] at h2;cases h2;rfl
  obtain ⟨u,hu,rv⟩:=r.get ha;have hp:ps[i]?=some y:=by
   rw [<- S.pre,NA (by omega)];exact h1
  have ndP:ps.Nodup:=by rw [<- S.pre];exact S.nd.sublist (List.take_sublist _ _)
  refine ⟨u,rv,?_⟩;rcases S.par y (LS hp) with k|k
  ·exact .inl ⟨k,vA ndP hp hu k⟩
  ·obtain ⟨c,e⟩:=zd (n:=s.heap.objs.size+1) k;refine .inr ⟨.inl k,c,e,?_⟩;have q:=x.cell y c e;rw [vD ndP hp hu (by show scope.names.lookup y≠_;rw [k];decide)] at q
   exact q
 ·exact e0.hok.fresh (Ou (x.above y c (Oa h)))
 ·unfold start;show _=N.length;rw [Mr,LX,List.length_replicate];omega
def xR {CX:CXT} {P:Mi} {w:World} {K:LO} {mg:Str->Option Value} {base:Heap} {k:Nat} {f:Addr} {name qual:Str} {params:Arguments} {body:List Stmt} {scope:Scope} {dV kV doc pm cdv ct oc:Value} {an od:Option Addr}
  {osl:Array (Option Value)} {N ps:List Str} {sp:Sp} (lk:K.lookup f=some ⟨oc,od,.func (MR name qual params body scope dV kV doc pm an cdv ct),osl⟩) (hcd:Nx K cdv qual=true) (S:aK N ps scope)
  (len:∀ vs H Q E,sp vs H Q E->vs.length=ps.length)
  (hbody:∀ (A:MQ) (outer:List Env) (s:LV) (H:Hp) (vs:List V) (Q:VK) (E:XK),bX k (A.deeper (envOfC qual scope s.heap.objs.size f cdv))->sp vs H Q E ->
   ∃ t,PSs (iN CX P w K mg base N qual scope f cdv A outer s H E) body t/\t { nx:=fun _ H'=>Q .non H',rt:=Q } (start N vs) H) :
  aH P w K mg base CX (k+1) f (MR name qual params body scope dV kV doc pm an cdv ct) ps sp:=by
 refine ⟨len,fun A outer s H args us vs Q E hr e0 hb r hsp=>?_⟩;have hl:=len _ _ _ _ hsp;have KX:K.In s.heap:=e0.mod.kin.keeps fun b o e=>(e0.bs b o e).1;have lim:s.heap.NoLimit:=e0.mod.nolimit.keeps fun b o e=>(e0.bs b o e).1;have hkind:∀ y∈ps.zip us,scope.names.lookup y.1=some .local\/(scope.names.lookup y.1=some .cell/\((cellsFrom (s.heap.objs.size+1) scope.names []).lookup y.1).isSome=true):=fun ⟨n,v⟩ hy=>by
  rcases S.par n (Sl hy).1 with q|q
  ·exact .inl q
  ·exact .inr ⟨q,R7 _ _ _ (.inl q)⟩
 refine codeAny_call_function hr.depth (KX _ _ lk) rfl S.co S.gen rfl (PySem.W.codeRec_of KX hcd) (hb _ _ _ _ ?_);refine wpAny_newFunctionEnv_cells S.kind hkind fun env he s1 x=>?_;subst he;refine ⟨lim.keeps x.toInCall.keep,codeAny_func ?_⟩;obtain ⟨t,ht,hq⟩:=hbody A outer s H vs Q E (hr.deeper _) hsp;have I:Inv (iN CX P w K mg base N qual scope f cdv A outer s H E) [] (start N vs) H s1:=EE S hr.hd e0 hl r x;refine Nc (ht [] s1 (start N vs) H _ I hq) (fun fl s' hs=>?_) fun e s' hs=>hs;have fin:∀ {σ':St} {H':Hp} {v:V} {u:Value},Inv (iN CX P w K mg base N qual scope f cdv A outer s H E) [] σ' H' s'->RelV v u->Q v H'->CE outer P w H s Q u s' :=
  fun {σ' H' v u} J rv q=>⟨v,H',J.os,J.bare,J.base,J.hok,rv,q⟩
 cases fl with
 | ret u =>
  obtain ⟨v,σ',H',J,rv,q⟩:=hs;exact fin J rv q
 | next =>
  obtain ⟨σ',H',J,q⟩:=hs;exact fin (v:=V.non) (u:=Ng) J rfl q
 | brk =>
  obtain ⟨_,_,_,q⟩:=hs;exact Nd q
 | cont =>
  obtain ⟨_,_,_,q⟩:=hs;exact Nd q
section
variable {X:Cx} {x:Str} {p pos:Pos} {e:Expr} {es:List Expr} {t:TA} {id T:String} {r:List V->Hp->VK->Prop}
def tCB (r:List V->Hp->VK->Prop) (t:TA):TE:=fun σ H Q=>t σ H fun vs H1=>r vs H1 Q
def Gp (hc:cE X (.builtin id) r) (hg:Gl X x) (hm:X.mg x=none) (hv:bootBuiltins x=some (.builtin id)) (ha:PA X (e :: es) t) (hn:x ≠ "__name__":=by decide) (hdb:(x == ("__debug__" : Str))=false:=by decide)
  (he:MS (e :: es) X.env=(false,eval e X.env) :: MS es X.env:=by rfl) (hpl:(backTo pos (MS es X.env)).any (·.1)=false:=by rfl):PE X (.Call (.Name x p) (e :: es) [] pos) (tCB r t):=by
 intro pins s σ H Q I h;refine OL (iQ I hg hm hv ?_ hn hdb);exact PyProof.Rows.callWith_builtin1 (thn (ha pos pins s σ H _ I h) fun us s1 ⟨vs,H1,I1,r1,q1⟩=>hc pins s1 σ H1 vs us Q I1 r1 q1) he hpl
def DT (hc:cE X (.type T) r) (hg:Gl X x) (hm:X.mg x=none) (hv:bootBuiltins x=some (.type T)) (ha:PA X (e :: es) t) (hn:x ≠ "__name__":=by decide) (hdb:(x == ("__debug__" : Str))=false:=by decide)
  (he:MS (e :: es) X.env=(false,eval e X.env) :: MS es X.env:=by rfl) (hpl:(backTo pos (MS es X.env)).any (·.1)=false:=by rfl):PE X (.Call (.Name x p) (e :: es) [] pos) (tCB r t):=by
 intro pins s σ H Q I h;refine OL (iQ I hg hm hv ?_ hn hdb);exact Nu (thn (ha pos pins s σ H _ I h) fun us s1 ⟨vs,H1,I1,r1,q1⟩=>hc pins s1 σ H1 vs us Q I1 r1 q1) he hpl
end
end L2
namespace HT
open PySem PyProof.Rows
section
open PySem.SeqAt
open PySem.AutoSeq1 (wpAny_loadPart')
open PySem.MeetsSeq PySem.MeetsSeq2 PySem.MeetsSeq3
end
section
variable {prog:Mi} {w:World} {A:MQ} {E:Value->LV->Prop} {s:LV}
def sIx (n d:Nat):Option Int->Nat
 | none=>d
 | some v=>if v<0 then (v+(n:Int)).toNat else min v.toNat n
def Hq (n d:Nat):sIx n d none=d:=rfl
def Jb (n d k:Nat):sIx n d (some (k:Int))=min k n:=by
 show (if (k:Int)<0 then ((k:Int)+(n:Int)).toNat else min (k:Int).toNat n)=min k n;rw [if_neg (by omega),Ny]
end
end HT
namespace L2
open PySem PySem.Spec PyProof.Rows
abbrev TO:=St->Hp->(Option Int->Hp->Prop)->Prop
def PO (X:Cx) (e:Option Expr) (t:TO):Prop :=
 ∀ (pins:List (Addr×Obj)) (s:LV) (σ:St) (H:Hp) (Q:Option Int->Hp->Prop),Inv X pins σ H s->t σ H Q ->
  wpAny (model X.prog X.w) X.A (evalPart e X.env) (fun u s'=>∃ o H',Inv X pins σ H' s'/\IsPart u o/\Q o H') X.xe s
def BF:TO:=fun _ H Q=>Q none H
def HW (t:TE):TO:=fun σ H Q=>t σ H fun x H1=>∃ i,x=.int i/\Q (some i) H1
section
variable {X:Cx} {e:Expr} {te:TE} {lo hi:Option Expr} {tl th:TO} {pos p2:Pos}
def uk:PO X none BF:=by
 intro pins s σ H Q I h;rw [evalPart_none];exact L4 ⟨none,H,I,.none,h⟩
def ux (h:PE X e te):PO X (some e) (HW te):=by
 intro pins s σ H Q I hw;rw [evalPart_some];refine thn (h pins s σ H _ I hw) fun u s1 ⟨x,H1,I1,r1,q1⟩=>?_;obtain ⟨i,rfl,q⟩:=q1;obtain ⟨t,rfl⟩:=r1;exact ⟨some i,H1,I1,.int i t,q⟩
def SlR (X:Cx) (r:V->Option Int->Option Int->Hp->VK->Prop):Prop :=
 ∀ (pins:List (Addr×Obj)) (s:LV) (σ:St) (H:Hp) (x:V) (v vl vu:Value) (lo hi:Option Int) (sl:Addr) (Q:VK),Inv X pins σ H s->RelV x v->s.heap.IsSliceOf sl vl vu .none->IsPart vl lo->IsPart vu hi->r x lo hi H Q ->
  ∃ T id,typeLookup (.type T) "__getitem__" = pure (some (.builtin id))/\s.TypeIs v T/\wpAny (model X.prog X.w) X.A (getItem v (.ref sl)) (EP X pins σ Q) X.xe s
def tSl (r:V->Option Int->Option Int->Hp->VK->Prop) (te:TE) (tl th:TO):TE:=fun σ H Q=>te σ H fun x H1=>tl σ H1 fun l H2=>th σ H2 fun u H3=>r x l u H3 Q
def rT {r:V->Option Int->Option Int->Hp->VK->Prop} (hr:SlR X r) (he:PE X e te) (hl:PO X lo tl) (hu:PO X hi th):PE X (.Subscript e (.Slice lo hi none p2) pos) (tSl r te tl th):=by
 intro pins s σ H Q I h;refine Subscript_ (thn (he pins s σ H _ I h) fun v s1 ⟨x,H1,I1,r1,q1⟩=>?_);refine wpAny_Slice (thn (hl pins s1 σ H1 _ I1 q1) fun vl s2 ⟨l,H2,I2,pl,q2⟩=>thn (hu pins s2 σ H2 _ I2 q2) fun vu s3 ⟨u,H3,I3,pu,q3⟩=>?_);rw [evalPart_none];refine L4 ?_;have I4:Inv X pins σ H3 { s3 with heap:=s3.heap.push { cls:=.type "slice",data:=.fields #[vl,vu,.none] } }:=I3.kept (t':=s3.toks) fun b ob q=>LW _ q;obtain ⟨T,id,hT,ht,hg⟩:=hr pins { s3 with heap:=s3.heap.push { cls:=.type "slice",data:=.fields #[vl,vu,.none] } } σ H3 x v vl vu l u s3.heap.objs.size Q I4 r1 (Heap.IsSliceOf.new ..) pl pu q3;show wpAny (model X.prog X.w) X.A (subscriptTail e (.Slice lo hi none p2) v (.ref s3.heap.objs.size)) (EP X pins σ Q) X.xe { s3 with heap:=s3.heap.push { cls:=.type "slice",data:=.fields #[vl,vu,.none] } };exact tail_any (ops:=[.ref s3.heap.objs.size,v]) ht hT hg (by with_unfolding_all rfl)
def rA (xs:List V) (lo hi:Option Int):List V:=(xs.drop (HT.sIx xs.length 0 lo)).take (HT.sIx xs.length xs.length hi - HT.sIx xs.length 0 lo)
def Ax (xs:List V) (lo hi:Option Int):(rA xs lo hi).length<=xs.length:=by
 unfold rA;rw [MF,QC];omega
end
def ixN (n:Nat) (i:Int):Option Nat:=if 0<=i then (if i<n then some i.toNat else none) else if -(n:Int)<=i then some (i+n).toNat else none
def atI {α:Type} (xs:List α) (i:Int):Option α:=(ixN xs.length i).bind fun j=>xs[j]?
def Br {n:Nat} {i:Int} {j:Nat} (h:ixN n i=some j):seqIndex? i n=some j/\j<n/\-(n:Int)<=i/\i<n:=by
 unfold ixN at h
 by_cases h0:0<=i
 ·rw [if_pos h0] at h
  by_cases h1:i<n
  ·rw [if_pos h1] at h;have e:i.toNat=j:=ME h;exact ⟨by rw [T3 h0 h1,e],by omega,by omega,h1⟩
  ·rw [if_neg h1] at h;cases h
 ·rw [if_neg h0] at h
  by_cases h1:-(n:Int)<=i
  ·rw [if_pos h1] at h;have e:(i+n).toNat=j:=ME h;exact ⟨by rw [TK (by omega) h1,e],by omega,h1,by omega⟩
  ·rw [if_neg h1] at h;cases h
def Bx {α:Type} {xs:List α} {i:Int} {v:α} (h:atI xs i=some v):∃ j,seqIndex? i xs.length=some j/\xs[j]?=some v/\j<xs.length/\-(xs.length:Int)<=i/\i<xs.length:=by
 unfold atI at h;cases e:ixN xs.length i with
 | none=>rw [e] at h;cases h
 | some j =>
  rw [e] at h;obtain ⟨h1,h2,h3,h4⟩:=Br e;exact ⟨j,h1,h,h2,h3,h4⟩
def gh {α:Type} {xs:List α} {j:Nat} {v:α} (h:xs[j]?=some v):atI xs (j:Int)=some v:=by
 have hj:j<xs.length:=(LR.mp h).1;have e:ixN xs.length (j:Int)=some j:=by
  unfold ixN;rw [if_pos (by omega),if_pos (by omega)];simp
 unfold atI;rw [e];exact h
def IL (b:Expr):Prop:=∀ o i,subscripted b false o i=operate [o,i] (getItem o i)
def IxR (X:Cx) (r:R2):Prop :=
 ∀ (value slice:Expr) (pins:List (Addr×Obj)) (s:LV) (σ:St) (H:Hp) (x y:V) (v u:Value) (Q:VK),Inv X pins σ H s->RelV x v->RelV y u->r x y H Q ->
  subscripted slice false v u=operate [v,u] (getItem v u)->wpAny (model X.prog X.w) X.A (subscriptTail value slice v u) (EP X pins σ Q) X.xe s
def MtR (X:Cx) (id:String) (r:V->List V->Hp->VK->Prop):Prop :=
 ∀ (pins:List (Addr×Obj)) (s:LV) (σ:St) (H:Hp) (x:V) (xs:List V) (v:Value) (us:List Value) (Q:VK),Inv X pins σ H s->RelV x v->Vals xs us->r x xs H Q ->
  wpAny (model X.prog X.w) X.A (call (.builtin id) (v :: us)) (EP X pins σ Q) X.xe s
section
variable {X:Cx} {a b:Expr} {ta tb:TE} {pos:Pos}
def aw {r:R2} (hr:IxR X r) (ha:PE X a ta) (hb:PE X b tb) (hs:IL b):PE X (.Subscript a b pos) (tOp r ta tb):=by
 intro pins s σ H Q I h;exact Subscript_ (FE ha hb I h fun v u s2 x y H2 I2 rx ry q=>hr a b pins s2 σ H2 x y v u Q I2 rx ry q (hs _ _))
def rV (K:LO):R2:=fun x y H Q=>∃ p xs i v,x=.ref p/\y=.int i/\SqL K H p xs/\atI xs i=some v/\Q v H
def GZ (K:LO):R2:=fun x y H Q=>∃ p xs i v,x=.ref p/\y=.int i/\SqT K H p xs/\atI xs i=some v/\Q v H
def Jt:IxR X (rV X.K):=by
 intro value slice pins s σ H x y v u Q I rx ry h hs;obtain ⟨p,xs,i,z,rfl,rfl,hq,he,q⟩:=h;cases rx;obtain ⟨t,rfl⟩:=ry;obtain ⟨its,r,pl,hz⟩:=I.list hq;obtain ⟨j,h1,h2,h3,h4,h5⟩:=Bx he;obtain ⟨w,ew,rw'⟩:=r.get h2;have hl:=r.length;have hn:=sO;have fin:EP X pins σ Q w s:=⟨z,H,I,rw',q⟩
 by_cases h0:0<=i
 ·have hj:i.toNat=j:=by
   rw [T3 h0 h5] at h1;exact ME h1
  exact item_listR pl.isList h0 (by omega) (by rw [hj];simpa using ew) fin hs
 ·have hj:(i+(its.toArray.size:Int)).toNat=j:=by
   rw [TK (by omega) h4] at h1
   rw [Mg,<- hl];exact ME h1
  exact R8 (x:=w) pl.isList.typeIs slot_list_getitem.lookup
   (wpAny_getItem_list_neg (Q:=fun r s'=>r=w/\EP X pins σ Q r s') pl.isList (by omega) (by rw [Mg] <;> omega) (by omega) (by rw [hj];simpa using ew) ⟨rfl,fin⟩) hs
def JH:IxR X (GZ X.K):=by
 intro value slice pins s σ H x y v u Q I rx ry h hs;obtain ⟨p,xs,i,z,rfl,rfl,hq,he,q⟩:=h;cases rx;obtain ⟨t,rfl⟩:=ry;obtain ⟨its,r,pl,hz⟩:=I.tuple hq;obtain ⟨j,h1,h2,h3,h4,h5⟩:=Bx he;obtain ⟨w,ew,rw'⟩:=r.get h2;have hl:=r.length;have hn:=sO;have fin:EP X pins σ Q w s:=⟨z,H,I,rw',q⟩;exact R8 (x:=w) pl.typeIs slot_tuple_getitem.lookup
  (getItem_tuple (j:=j) (Q:=fun r s'=>r=w/\EP X pins σ Q r s') pl (by omega) (by omega) (by rw [Mg,<- hl];exact h1) (by simpa using ew) ⟨rfl,fin⟩) hs
def BS (its:List Value) (n j:Nat) (u:Value):NP (·.setIfInBounds j u) { cls:=.type "list",data:=.seq its.toArray n }={ cls:=.type "list",data:=.seq (its.set j u).toArray n }:=by
 simp [NP]
def Inv.lst {pins:List (Addr×Obj)} {σ:St} {H:Hp} {s:LV} {p:Addr} {xs:List V} (I:Inv X pins σ H s) (h:H p=some (.lst xs)) :
  ∃ (its:List Value) (n:Nat),Vals xs its/\s.heap.get? p=some { cls:=.type "list",data:=.seq its.toArray n }/\xs.length<=My:=by
 obtain ⟨z,its,n,r,e⟩:=I.hok p _ h;exact ⟨its,n,r,e,z⟩
def Inv.KA {pins:List (Addr×Obj)} {σ:St} {H:Hp} {s:LV} {p:Addr} {xs ys:List V} {its its':List Value} {n n':Nat} {f:Obj->Obj} (I:Inv X pins σ H s) (h:H p=some (.lst xs))
  (ho:s.heap.get? p=some { cls:=.type "list",data:=.seq its.toArray n }) (hf:f { cls:=.type "list",data:=.seq its.toArray n }={ cls:=.type "list",data:=.seq its'.toArray n' }) (r:Vals ys its') (hz:ys.length<=My) (t:Nat) :
  Inv X pins σ (upd H p (.lst ys)) { s with heap:=s.heap.update p f,toks:=t }:=by
 have e:(s.heap.update p f).get? p=some { cls:=.type "list",data:=.seq its'.toArray n' }:=by
  rw [NC f ho (by rw [hf] <;> rfl),hf]
 refine I.write (x:=p) (e:=p) (by rw [h];trivial) (.inl rfl) (fun b u hb q=>(Nb _ _ (NJ hb)).trans q) ⟨_,e⟩ ?_
 exact ⟨hz,its',n',r,e⟩
def Ig:V->V->V->Hp->(Hp->Prop)->Prop:=fun o i v H Q=>∃ p xs k j,o=.ref p/\i=.int k/\H p=some (.lst xs)/\ixN xs.length k=some j/\Q (upd H p (.lst (xs.set j v)))
def set_list:Ks X Ig:=by
 intro pins s σ H o i v ov iv u Q I ro ri rv h;obtain ⟨p,xs,k,j,rfl,rfl,hp,hj,q⟩:=h;cases ro;obtain ⟨t,rfl⟩:=ri;obtain ⟨its,n,r,ho,hz⟩:=I.lst hp;obtain ⟨h1,h2,h3,h4⟩:=Br hj;have hl:=r.length;have hn:=sO;have I':Inv X pins σ (upd H p (.lst (xs.set j v))) { s with heap:=s.heap.update p (NP (·.setIfInBounds j u)) } :=
  I.KA hp ho (BS its n j u) (r.set rv j) (by rw [NZ];exact hz) s.toks
 by_cases h0:0<=k
 ·have hk:k.toNat=j:=by
   rw [T3 h0 h4] at h1;exact ME h1
  exact PySem.W.ki_setAt ho h0 (by omega) (by rw [Mg,<- hl];exact h4) (by rw [hk];exact ⟨_,I',q⟩)
 ·have hk:(k+(its.toArray.size:Int)).toNat=j:=by
   rw [TK (by omega) h3] at h1
   rw [Mg,<- hl];exact ME h1
  exact PySem.W.ki_setBack ho (by omega) (by rw [Mg,<- hl];exact h3) (by omega) (by rw [hk];exact ⟨_,I',q⟩)
def ze (lo hi:Option Int) (n:Nat):(sliceBounds lo hi none n).1=((HT.sIx n 0 lo:Nat):Int)/\(sliceBounds lo hi none n).2.1=((HT.sIx n n hi:Nat):Int)/\(sliceBounds lo hi none n).2.2=1:=by
 refine ⟨?_,?_,rfl⟩
 ·cases lo with
  | none=>simp [sliceBounds,HT.sIx]
  | some i =>
   simp only [sliceBounds,HT.sIx,Option.getD_none,show (1:Int) > 0 by decide,if_true]
   by_cases h:i<0
   ·simp only [h,if_true] <;> omega
   ·simp only [h,if_false] <;> omega
 ·cases hi with
  | none=>simp [sliceBounds,HT.sIx]
  | some i =>
   simp only [sliceBounds,HT.sIx,Option.getD_none,show (1:Int) > 0 by decide,if_true]
   by_cases h:i<0
   ·simp only [h,if_true] <;> omega
   ·simp only [h,if_false] <;> omega
def wA (its:List Value) (lo hi:Option Int):slicePick its.toArray lo hi none=((its.drop (HT.sIx its.length 0 lo)).take (HT.sIx its.length its.length hi - HT.sIx its.length 0 lo)).toArray:=by
 obtain ⟨h1,h2,h3⟩:=ze lo hi its.toArray.size;unfold slicePick;rw [h1,h2,h3];simp only [sliceRange_one,pick_run,Mg] <;> rfl
def B9 (K:LO):V->Option Int->Option Int->Hp->VK->Prop:=fun x lo hi H Q=>∃ a xs,x=.ref a/\SqL K H a xs/\∀ p,H p=none->Q (.ref p) (upd H p (.lst (rA xs lo hi)))
def IT:SlR X (B9 X.K):=by
 intro pins s σ H x v vl vu lo hi sl Q I rx hs pl pu h;obtain ⟨a,xs,rfl,hx,q⟩:=h;cases rx;obtain ⟨its,r,ht,hz⟩:=I.list hx;have hlen:=r.length;refine ⟨"list",_,slot_list_getitem.lookup,ht.isList.typeIs,?_⟩;refine wpAny_getItem_list_slice ht.isList hs pl pu .none (by simp) ?_ (by rw [Mg] <;> omega)
 rw [wA,<- hlen];refine ⟨.ref s.heap.objs.size,_,I.laid (t':=s.toks) (o:=.lst (rA xs lo hi)) (fun b ob q=>LW _ q) (Mb _) ?_,rfl,q _ (I.hok.fresh (Mb _))⟩;exact ⟨M7 (Ax xs lo hi) hz,_,0,(r.drop (HT.sIx xs.length 0 lo)).take (HT.sIx xs.length xs.length hi - HT.sIx xs.length 0 lo),Mo _ rfl⟩
def jr:V->Bool
 | .non=>true
 | .bl _=>true
 | .int _=>true
 | .str _=>true
 | _=>false
def eqV:V->V->Bool
 | .non,.non=>true
 | .bl a,.bl b=>a == b
 | .bl a,.int b=>(if a then 1 else 0) == b
 | .int a,.bl b=>a == (if b then 1 else 0)
 | .int a,.int b=>a == b
 | .str a,.str b=>a == b
 | _,_=>false
def sT {A:MQ} {s:LV} {y x:V} {u v:Value} (ry:RelV y u) (rx:RelV x v) (fy:jr y=true) (fx:jr x=true):Tw A s u v (eqV y x):=by
 cases y with
 | non =>
  cases ry;cases x with
  | non=>cases rx;exact Sm _
  | bl b=>cases rx;exact SeqAt.EqAt.none_bool b
  | int b=>obtain ⟨t,rfl⟩:=rx;exact SeqAt.EqAt.none_int b t
  | str b=>obtain ⟨t,rfl⟩:=rx;exact SeqAt.EqAt.none_str b t
  | _=>exact absurd (show false=true from fx) Ml
 | bl a =>
  cases ry;cases x with
  | non=>cases rx;exact SeqAt.EqAt.bool_none a
  | bl b=>cases rx;exact SeqAt.EqAt.bool_bool a b
  | int b=>obtain ⟨t,rfl⟩:=rx;exact SeqAt.EqAt.bool_int a b t
  | str b=>obtain ⟨t,rfl⟩:=rx;exact SeqAt.EqAt.bool_str a b t
  | _=>exact absurd (show false=true from fx) Ml
 | int a =>
  obtain ⟨t',rfl⟩:=ry;cases x with
  | non=>cases rx;exact SeqAt.EqAt.int_none a t'
  | bl b=>cases rx;exact SeqAt.EqAt.int_bool a t' b
  | int b=>obtain ⟨t,rfl⟩:=rx;exact SeqAt.EqAt.int_int a t' b t
  | str b=>obtain ⟨t,rfl⟩:=rx;exact SeqAt.EqAt.int_str a t' b t
  | _=>exact absurd (show false=true from fx) Ml
 | str a =>
  obtain ⟨t',rfl⟩:=ry;cases x with
  | non=>cases rx;exact SeqAt.EqAt.str_none a t'
  | bl b=>cases rx;exact SeqAt.EqAt.str_bool a t' b
  | int b=>obtain ⟨t,rfl⟩:=rx;exact SeqAt.EqAt.str_int a t' b t
  | str b=>obtain ⟨t,rfl⟩:=rx;exact SeqAt.EqAt.str_str a t' b t
  | _=>exact absurd (show false=true from fx) Ml
 | _=>exact absurd (show false=true from fy) Ml
def eqU (x:V) (u:Value):Bool:=match u with
 | .none=>eqV .non x
 | .bool b=>eqV (.bl b) x
 | .int i _=>eqV (.int i) x
 | .str z _=>eqV (.str z) x
 | _=>false
def ED {x y:V} {u:Value} (r:RelV y u) (f:jr y=true):eqU x u=eqV y x:=by
 cases y with
 | non=>cases r;rfl
 | bl b=>cases r;rfl
 | int i=>obtain ⟨t,rfl⟩:=r;rfl
 | str z=>obtain ⟨t,rfl⟩:=r;rfl
 | _=>exact absurd (show false=true from f) Ml
def uO {x:V}:∀ {xs:List V} {us:List Value},Vals xs us->xs.all jr=true->us.any (eqU x)=xs.any fun y=>eqV y x
 | _,_,.nil,_=>rfl
 | y :: xs,u :: us,.cons r t,f=>by
  rw [RG,NU] at f;rw [P2,P2,ED r f.1,uO t f.2]
def rK {A:MQ} {s:LV} {x:V} {v:Value} (rx:RelV x v) (fx:jr x=true):∀ {xs:List V} {us:List Value},Vals xs us->xs.all jr=true->∀ u∈us,Tw A s u v (eqU x u)
 | _,_,.nil,_=>fun u hu=>by cases hu
 | y :: xs,u :: us,.cons r t,f=>fun u' hu=>by
  rw [RG,NU] at f;rcases Mq.mp hu with rfl|hu
  ·rw [ED r f.1];exact sT r rx f.1 fx
  ·exact rK rx fx t f.2 u' hu
def inV (x:V) (xs:List V):Bool:=xs.any fun y=>eqV y x
def rIn (K:LO) (neg:Bool):R2:=fun x y H Q=>∃ p xs,y=.ref p/\(SqL K H p xs\/SqT K H p xs)/\jr x=true/\xs.all jr=true/\Q (.bl (if neg then !inV x xs else inV x xs)) H
def yp:OpR X (compareOp .NotIn) (rIn X.K true):=by
 intro pins s σ H x y v u Q I rx ry h;obtain ⟨p,xs,rfl,hq,fx,fs,q⟩:=h;cases ry;rcases hq with hq|hq
 ·obtain ⟨its,r,pl,hz⟩:=I.list hq;refine SeqAt.notIn_listAt (eqU x) pl.isList (fun w hw=>rK rx fx r fs w (by simpa using hw)) ⟨.bl _,H,I,rfl,?_⟩
  rw [show its.toArray.any (eqU x)=its.any (eqU x) by simp,uO r fs]
  exact q
 ·obtain ⟨its,r,pl,hz⟩:=I.tuple hq;refine SeqAt.notIn_tupleAt (eqU x) pl (fun w hw=>rK rx fx r fs w (by simpa using hw)) ⟨.bl _,H,I,rfl,?_⟩
  rw [show its.toArray.any (eqU x)=its.any (eqU x) by simp,uO r fs]
  exact q
def xZ:cE X (.builtin "len") (fun xs H Q=>∃ p ys,xs=[.ref p]/\(SqL X.K H p ys\/SqT X.K H p ys)/\Q (.int ys.length) H):=by
 intro pins s σ H xs us Q I r h;obtain ⟨p,ys,rfl,hq,q⟩:=h;obtain ⟨u,rfl,rx⟩:=vals1 r;cases rx;have hn:=sO;rcases hq with hq|hq
 ·obtain ⟨its,r',pl,hz⟩:=I.list hq;have hlen:=r'.length;exact Calls.call_len_list pl.isList (by simp only [Mg] <;> omega) ⟨.int ys.length,H,I.tok _,⟨s.toks+1,by rw [Mg,hlen]⟩,q⟩
 ·obtain ⟨its,r',pl,hz⟩:=I.tuple hq;have hlen:=r'.length;exact len_tuple pl (by simp only [Mg] <;> omega) ⟨.int ys.length,H,I.tok _,⟨s.toks+1,by rw [Mg,hlen]⟩,q⟩
def zB:cE X (.type "list") (fun xs H Q=>∃ p ys,xs=[.ref p]/\(SqL X.K H p ys\/SqT X.K H p ys)/\∀ l,H l=none->Q (.ref l) (upd H l (.lst ys))):=by
 intro pins s σ H xs us Q I r h;obtain ⟨p,ys,rfl,hq,q⟩:=h;obtain ⟨u,rfl,rx⟩:=vals1 r;cases rx;have fin:∀ (its:List Value),Vals ys its->ys.length<=My->∀ (h':Heap) (c':Nat),(∀ b o',s.heap.get? b=some o'->h'.get? b=some o') ->
   h'.get? s.heap.objs.size=some { cls:=.type "list",dict:=none,data:=.seq its.toArray c',slots:=#[] }->EP X pins σ Q (.ref s.heap.objs.size) { s with heap:=h' }:=fun its r' hz h' c' kp e =>
  ⟨.ref s.heap.objs.size,_,I.laid (t':=s.toks) kp (Mb _) (show bA X.prog X.w _ h' _ (.lst ys) from ⟨hz,its,c',r',e⟩),rfl,q _ (I.hok.fresh (Mb _))⟩
 rcases hq with hq|hq
 ·obtain ⟨its,r',pl,hz⟩:=I.list hq;have hlen:=r'.length;obtain ⟨o,ho,hc,n,hd⟩:=pl.isList;exact call_list_seq p (.inl rfl) ho hc hd (fun h' c' kp e=>fin its r' hz h' c' kp e) (by simp only [Mg] <;> omega)
 ·obtain ⟨its,r',pl,hz⟩:=I.tuple hq;have hlen:=r'.length;obtain ⟨o,ho,hc,n,hd⟩:=pl;exact call_list_seq p (.inr rfl) ho hc hd (fun h' c' kp e=>fin its r' hz h' c' kp e) (by simp only [Mg] <;> omega)
def tyV (K:LO) (T:String) (x:V) (H:Hp):Prop:=match x with
 | .str _=>T = "str"
 | .int _=>T = "int"
 | .ref p=>(T = "list" /\ ∃ xs,SqL K H p xs)\/(T = "tuple" /\ ∃ o,K.lookup p=some o/\o.cls=.type "tuple" /\ o.dict=none) \/
   (T = "dict" /\ ((∃ kvs,H p=some (.dK kvs))\/∃ kvs,H p=some (.dT kvs)))\/(T = "set" /\ ∃ S n,H p=some (.set S n))
 | _=>False
def E8 {pins:List (Addr×Obj)} {σ:St} {H:Hp} {s:LV} {T:String} {x:V} {v:Value} (I:Inv X pins σ H s) (r:RelV x v) (ty:tyV X.K T x H) :
  s.TypeIs v T/\∀ a,v=.ref a->∃ ob,s.heap.get? a=some ob/\ob.dict=none:=by
 cases x with
 | str z =>
  obtain ⟨t,rfl⟩:=r;cases (show T = "str" from ty);exact ⟨typeIs_str s z t,fun _ e=>nomatch e⟩
 | int i =>
  obtain ⟨t,rfl⟩:=r;cases (show T = "int" from ty);exact ⟨SO s i t,fun _ e=>nomatch e⟩
 | ref p =>
  cases r;rcases ty with ⟨rfl,xs,hq⟩|⟨rfl,o,hk,hc,hd⟩|⟨rfl,hk⟩|⟨rfl,S,n,hk⟩
  ·obtain ⟨its,_,pl,_⟩:=I.list hq;refine ⟨pl.isList.typeIs,fun a e=>?_⟩;cases e;obtain ⟨o,n,e,c,hd,_⟩:=pl;exact ⟨o,e,hd⟩
  ·refine ⟨⟨o,I.kIn p o hk,hc⟩,fun a e=>?_⟩;cases e;exact ⟨o,I.kIn _ o hk,hd⟩
  ·have z:∃ o,s.heap.get? p=some o/\o.ExactDict:=by
    rcases hk with ⟨kvs,hk⟩|⟨kvs,hk⟩
    ·obtain ⟨_,_,_,_,o,_,_,e,ex,_⟩:=I.hok p _ hk;exact ⟨o,e,ex⟩
    ·obtain ⟨_,_,_,_,o,_,_,e,ex,_⟩:=I.hok p _ hk;exact ⟨o,e,ex⟩
   obtain ⟨o,e,ex⟩:=z;refine ⟨⟨o,e,ex.1⟩,fun a e2=>?_⟩;cases e2;exact ⟨o,e,ex.2.1⟩
  ·obtain ⟨o,_,_,_,e,ex,_⟩:=I.hok p _ hk;refine ⟨⟨o,e,ex.1⟩,fun a e2=>?_⟩;cases e2;exact ⟨o,e,ex.2.1⟩
 | _=>exact Nd ty
def G4 (K:LO) (T:String) (r:V->List V->Hp->VK->Prop) (to:TE):TE:=fun σ H Q=>to σ H fun x H1=>tyV K T x H1/\r x [] H1 Q
def tBM (K:LO) (T:String) (r:V->List V->Hp->VK->Prop) (to:TE) (t:TA):TE:=fun σ H Q=>to σ H fun x H1=>tyV K T x H1/\t σ H1 fun xs H2=>r x xs H2 Q
variable {o e:Expr} {es:List Expr} {to:TE} {t:TA} {name:Str} {apos cpos:Pos} {T id:String} {r:V->List V->Hp->VK->Prop}
def J0 (pa:SQ T) (slot:Slot T name id) (hty:typeOf (.builtin id)=pure (.type "method_descriptor")) (hm:MtR X id r) (ho:PE X o to)
  (hbase:attributeBase o name X.env (eval o X.env)=eval o X.env:=by rfl) (hline:(apos.endLine == cpos.line)=true:=by rfl):PE X (.Call (.Attribute o name apos) [] [] cpos) (G4 X.K T r to):=by
 intro pins s σ H Q I h;refine wpAny_Call_method0_late hbase hline (thn (ho pins s σ H _ I h) fun v s1 ⟨x,H1,I1,r1,ty,q1⟩=>?_);obtain ⟨h1,h2⟩:=E8 I1 r1 ty;exact ⟨T,id,pa,slot,hty,h1,h2,R9 rfl (PySem.evalArgs_none (hm pins s1 σ H1 x [] v [] Q I1 r1 .nil q1))⟩
def Lx (pa:SQ T) (slot:Slot T name id) (hty:typeOf (.builtin id)=pure (.type "method_descriptor")) (hm:MtR X id r) (ho:PE X o to) (ha:PA X (e :: es) t)
  (hbase:attributeBase o name X.env (eval o X.env)=eval o X.env:=by rfl)
  (hfew:((backTo cpos (MS (e :: es) X.env)).all (fun x=>!x.1) && (backToKw cpos (keywordEach [] X.env)).all (fun x=>x.1.isSome)
   && decide ((e :: es).length+([]:List Sk).length+(if ([]:List Sk).isEmpty then 0 else 1)<30))=true:=by rfl)
  (hline:(apos.endLine == cpos.line)=true:=by rfl) (hs:MS (e :: es) X.env=(false,eval e X.env) :: MS es X.env:=by rfl) (hplain:(backTo cpos (MS es X.env)).any (·.1)=false:=by rfl) :
  PE X (.Call (.Attribute o name apos) (e :: es) [] cpos) (tBM X.K T r to t):=by
 intro pins s σ H Q I h;refine wpAny_Call_method_late hbase hfew hline rfl (thn (ho pins s σ H _ I h) fun v s1 ⟨x,H1,I1,r1,ty,q1⟩=>?_);obtain ⟨h1,h2⟩:=E8 I1 r1 ty;refine ⟨T,id,pa,slot,hty,h1,h2,?_⟩;have hA:=ha cpos pins s1 σ H1 _ I1 q1;rw [hs] at hA ⊢;refine R9 (by show (false || (backTo cpos (MS es X.env)).any (·.1))=false;rw [hplain] <;> rfl) (SU ?_)
 exact thn hA fun us s2 ⟨vs,H2,I2,r2,q2⟩=>hm pins s2 σ H2 x vs v us Q I2 r1 r2 q2
/- xs.append(e),list.index on a module's tuple .. are MtR facts of 06m -/
end
def MtM (X:Cx) (id:String) (r:V->List V->Hp->VK->Prop):Prop :=
 ∀ (pins:List (Addr×Obj)) (s:LV) (σ:St) (H:Hp) (x:V) (xs:List V) (v:Value) (us:List Value) (Q:VK),Inv X pins σ H s->RelV x v->Vals xs us->r x xs H Q ->
  wpAny (model X.prog X.w) X.A (call (.builtin id) (v :: us)) (EP X pins σ Q) X.xe s
def Vals.one {x:V} {us:List Value} (h:Vals [x] us):∃ u,us=[u]/\RelV x u:=by
 cases h with
 | cons r t=>cases t;exact ⟨_,rfl,r⟩
def Vals.two {x y:V} {us:List Value} (h:Vals [x,y] us):∃ u v,us=[u,v]/\RelV x u/\RelV y v:=by
 cases h with
 | cons r t =>
  cases t with
  | cons q e=>cases e;exact ⟨_,_,rfl,r,q⟩
def Vals.zero:∀ {us:List Value},Vals [] us->us=[]
 | _,.nil=>rfl
def Vals.dropLast {xs:List V} {us:List Value} (h:Vals xs us):Vals xs.dropLast us.dropLast:=by
 induction h with
 | nil=>exact .nil
 | cons r t ih =>
  cases t with
  | nil=>exact .nil
  | cons q t'=>exact .cons r ih
def Vals.eraseIdx:∀ {xs:List V} {us:List Value} (i:Nat),Vals xs us->Vals (xs.eraseIdx i) (us.eraseIdx i)
 | _,_,_,.nil=>.nil
 | _,_,0,.cons _ t=>t
 | _,_,i+1,.cons r t=>.cons r (Vals.eraseIdx i t)
def Vals.reverse {xs:List V} {us:List Value} (h:Vals xs us):Vals xs.reverse us.reverse:=by
 induction h with
 | nil=>exact .nil
 | cons r t ih=>rw [List.reverse_cons,List.reverse_cons];exact Vals.append ih (.cons r .nil)
def Vals.rep {xs:List V} {us:List Value} (h:Vals xs us):∀ k:Nat,Vals (Me k xs).flatten (Me k us).flatten
 | 0=>.nil
 | k+1=>by
  rw [ND,ND,Oz,Oz];exact Vals.append h (Vals.rep h k)
def Cz {α:Type} (l:List α):l.eraseIdx (l.length - 1)=l.dropLast:=by
 induction l with
 | nil=>rfl
 | cons a r ih =>
  cases r with
  | nil=>rfl
  | cons b r =>
   have e:(a :: b :: r).length - 1=((b :: r).length - 1)+1:=by
    have h1:(a :: b :: r).length=r.length+2:=rfl;have h2:(b :: r).length=r.length+1:=rfl;omega
   rw [e,List.eraseIdx_cons_succ,ih]
   all_goals rfl
def oQ {α:Type}:∀ (l:List α) (i:Nat),(l.eraseIdx i).length<=l.length
 | [],_=>Mb _
 | _ :: _,0=>OC _
 | _ :: r,i+1=>RX (oQ r i)
def foldl_rep (its:List Value):∀ (k:Nat) (acc:List Value),
  List.foldl (fun x1 x2=>x1++x2) acc.toArray (Me k its.toArray)=(acc++(Me k its).flatten).toArray
 | 0,acc=>by simp
 | k+1,acc=>by
  have e:acc.toArray++its.toArray=(acc++its).toArray:=by simp
  have e2:(acc++its)++(Me k its).flatten=acc++(Me (k+1) its).flatten:=by
   rw [ND,Oz,Qj]
  rw [<- e2,<- foldl_rep its k (acc++its),<- e,ND,List.foldl_cons]
section
variable {X:Cx} {pins:List (Addr×Obj)} {σ:St} {H:Hp} {s:LV} {l b:Addr} {xs ys zs:List V}
def Inv.uL {its its':List Value} {n:Nat} {f:Array Value->Array Value} {t':Nat} (I:Inv X pins σ H s) (hH:H l=some (.lst xs))
  (e:s.heap.get? l=some { cls:=.type "list",data:=.seq its.toArray n }) (hf:f its.toArray=its'.toArray) (hv:Vals ys its') (hz:ys.length<=My) :
  Inv X pins σ (upd H l (.lst ys)) { s with heap:=s.heap.update l (NP f),toks:=t' }:=by
 have q:=PySem.IsL.update e f;rw [hf] at q;refine I.write (x:=l) (e:=l) (by rw [hH];exact trivial) (.inl rfl) (fun b' u hb hu=>(Nb s.heap (NP f) (NJ hb)).trans hu) ⟨_,q⟩ ?_
 exact ⟨hz,its',_,hv,q⟩
def Inv.JJ {its:List Value} {t':Nat} (I:Inv X pins σ H s) (hv:Vals ys its) (hz:ys.length<=My) :
  Inv X pins σ (upd H s.heap.objs.size (.lst ys)) { s with heap:=s.heap.push { cls:=.type "list",data:=.seq its.toArray },toks:=t' } :=
 I.laid (fun _ _ q=>LW _ q) (Mb _) ⟨hz,its,0,hv,Mo _ rfl⟩
def Inv.fresh (I:Inv X pins σ H s):H s.heap.objs.size=none:=I.hok.fresh (Mb _)
def Inv.kQ (I:Inv X pins σ H s) (hH:H l=some (.lst xs)):xs.length<=My/\∃ (its:List Value) (n:Nat),Vals xs its/\xs.length=its.length/\s.heap.get? l=some { cls:=.type "list",data:=.seq its.toArray n }:=by
 obtain ⟨z,its,n,r,e⟩:=I.hok l _ hH;exact ⟨z,its,n,r,r.length,e⟩
def yy {n:Nat} (h:n<=My):OT n=false:=by
 unfold OT;exact decide_eq_false (by omega)
end
section
variable {X:Cx}
def qk:V->List V->Hp->VK->Prop:=fun x vs H Q=>∃ l xs y,x=.ref l/\vs=[y]/\H l=some (.lst xs)/\xs.length<My/\Q .non (upd H l (.lst (xs++[y])))
def cC:MtM X "list.append" qk:=by
 intro pins s σ H x vs v us Q I rx rv h;obtain ⟨l,xs,y,rfl,rfl,hH,hz,q⟩:=h;cases rx;obtain ⟨u,rfl,ru⟩:=rv.one;obtain ⟨z,its,n,r,hl,e⟩:=I.kQ hH;refine O6 F.slot_list_append ⟨_,e,rfl⟩ F.entry_list_append (F.args_list_append_2 _ _) (PySem.list_append l its.toArray n u (by rw [Mg];omega)) ⟨e,?_⟩
 refine ⟨.non,_,I.uL (its':=its++[u]) hH e (by simp) (r.append (.cons ru .nil)) ?_,rfl,q⟩
 rw [Mr,Oe];omega
def Bo:V->List V->Hp->VK->Prop:=fun x vs H Q=>∃ l b xs zs,x=.ref l/\vs=[.ref b]/\H l=some (.lst xs)/\H b=some (.lst zs)/\xs.length+zs.length<=My/\Q .non (upd H l (.lst (xs++zs)))
def Ef:MtM X "list.extend" Bo:=by
 intro pins s σ H x vs v us Q I rx rv h;obtain ⟨l,b,xs,zs,rfl,rfl,hH,hB,hz,q⟩:=h;cases rx;obtain ⟨u,rfl,ru⟩:=rv.one;cases ru;obtain ⟨z,its,n,r,hl,e⟩:=I.kQ hH;obtain ⟨z2,its2,n2,r2,hl2,e2⟩:=I.kQ hB;have hsz:its.toArray.size+its2.toArray.size<=My:=by rw [Mg,Mg];omega
 have hlong:¬ (!its.toArray.isEmpty && OT (its.toArray.size+its2.toArray.size))=true:=by
  rw [yy hsz,Bool.and_false];exact Ml
 refine O6 F.slot_list_extend ⟨_,e,rfl⟩ F.entry_list_extend (F.args_list_extend_2 _ _)
  (AutoSeq1.list_extend_list_list_0 l its.toArray n b its2.toArray n2 hlong (by rw [Mg];omega) (by omega)) ⟨e,e2,?_⟩
 refine ⟨.non,_,I.uL (its':=its++its2) hH e (by simp) (r.append r2) ?_,rfl,q⟩
 rw [Mr];omega
def LC:V->List V->Hp->VK->Prop:=fun x vs H Q=>∃ l xs y,x=.ref l/\vs=[]/\H l=some (.lst xs)/\xs[xs.length - 1]?=some y/\Q y (upd H l (.lst xs.dropLast))
def Kb:MtM X "list.pop" LC:=by
 intro pins s σ H x vs v us Q I rx rv h;obtain ⟨l,xs,y,rfl,rfl,hH,hy,q⟩:=h;cases rx;have hus:=rv.zero;subst hus;obtain ⟨z,its,n,r,hl,e⟩:=I.kQ hH;obtain ⟨u,hu,ru⟩:=r.get hy;have hy':its.toArray[its.toArray.size - 1]?=some u:=by
  show its.toArray[its.length - 1]?=some u;rw [<- MZ,<- hl];exact hu
 refine O6 F.slot_list_pop ⟨_,e,rfl⟩ F.entry_list_pop (F.args_list_pop_1 _) (MeetsSeq.list_pop_last l its.toArray n u hy' (by rw [Mg];omega)) ⟨e,?_⟩
 refine ⟨y,_,I.uL (its':=its.dropLast) hH e ?_ r.dropLast ?_,ru,q⟩
 ·show its.toArray.eraseIdxIfInBounds (its.toArray.size - 1)=its.dropLast.toArray;rw [Mg,Qk,Cz]
 ·rw [List.length_dropLast];omega
def J1:V->List V->Hp->VK->Prop:=fun x vs H Q=>∃ l xs i k y,x=.ref l/\vs=[.int i]/\H l=some (.lst xs)/\-(2 ^ 63)<=i/\i<2 ^ 63/\seqIndex? i xs.length=some k/\xs[k]?=some y/\Q y (upd H l (.lst (xs.eraseIdx k)))
def GI:MtM X "list.pop" J1:=by
 intro pins s σ H x vs v us Q I rx rv h;obtain ⟨l,xs,i,k,y,rfl,rfl,hH,h1,h2,hk,hy,q⟩:=h;cases rx;obtain ⟨u,rfl,ru⟩:=rv.one;obtain ⟨t,rfl⟩:=ru;obtain ⟨z,its,n,r,hl,e⟩:=I.kQ hH;obtain ⟨w,hw,rw'⟩:=r.get hy;refine O6 F.slot_list_pop ⟨_,e,rfl⟩ F.entry_list_pop (F.args_list_pop_2 _ _)
  (MeetsSeq.list_pop_at l its.toArray n i t k w (fitsIndex_both h1 h2) (by rw [Mg,<- hl];exact hk) (by rw [<- MZ];exact hw) (by rw [Mg];omega)) ⟨e,?_⟩
 refine ⟨y,_,I.uL (its':=its.eraseIdx k) hH e ?_ (r.eraseIdx k) ?_,rw',q⟩
 ·show its.toArray.eraseIdxIfInBounds k=(its.eraseIdx k).toArray;rw [Qk]
 ·have:=oQ xs k;omega
def He:V->List V->Hp->VK->Prop:=fun x vs H Q=>∃ l xs,x=.ref l/\vs=[]/\H l=some (.lst xs)/\Q .non (upd H l (.lst xs.reverse))
def CH:MtM X "list.reverse" He:=by
 intro pins s σ H x vs v us Q I rx rv h;obtain ⟨l,xs,rfl,rfl,hH,q⟩:=h;cases rx;have hus:=rv.zero;subst hus;obtain ⟨z,its,n,r,hl,e⟩:=I.kQ hH;refine O6 F.slot_list_reverse ⟨_,e,rfl⟩ F.entry_list_reverse (F.args_list_reverse_1 _) (AutoSeq1.list_reverse_list_0 l its.toArray n (by rw [Mg];omega)) ⟨e,?_⟩
 refine ⟨.non,_,I.uL (its':=its.reverse) hH e (by simp) r.reverse ?_,rfl,q⟩
 rw [S7];omega
def FK:R2:=fun x y H Q=>∃ l b xs zs,x=.ref l/\y=.ref b/\H l=some (.lst xs)/\H b=some (.lst zs)/\xs.length+zs.length<=My/\∀ p,H p=none->Q (.ref p) (upd H p (.lst (xs++zs)))
def kD:OpR X (binaryOp .Add) FK:=by
 intro pins s σ H x y v u Q I rx ry h;obtain ⟨l,b,xs,zs,rfl,rfl,hH,hB,hz,q⟩:=h;cases rx;cases ry;obtain ⟨z,its,n,r,hl,e⟩:=I.kQ hH;obtain ⟨z2,its2,n2,r2,hl2,e2⟩:=I.kQ hB;refine PySem.P.add_list e e2 ?_ (by rw [Mg,Mg];omega)
 have ea:its.toArray++its2.toArray=(its++its2).toArray:=by simp
 rw [ea];exact ⟨.ref _,_,I.JJ (t':=s.toks) (r.append r2) (by rw [Mr];omega),rfl,q _ I.fresh⟩
def LH:R2:=fun x y H Q=>∃ l k xs,x=.ref l/\y=.int k/\H l=some (.lst xs)/\-(2 ^ 63)<=k/\k<2 ^ 63/\xs.length * k.toNat<=My /\
 ∀ p,H p=none->Q (.ref p) (upd H p (.lst (Me k.toNat xs).flatten))
def len_rep {α:Type} (xs:List α) (k:Nat):(Me k xs).flatten.length=k * xs.length:=by
 induction k with
 | zero=>simp
 | succ k ih=>rw [ND,Oz,Mr,ih,PY,Ov]
def E2:OpR X (binaryOp .Mult) LH:=by
 intro pins s σ H x y v u Q I rx ry h;obtain ⟨l,k,xs,rfl,rfl,hH,h1,h2,hz,q⟩:=h;cases rx;obtain ⟨t,rfl⟩:=ry;obtain ⟨z,its,n,r,hl,e⟩:=I.kQ hH;have hlen:its.toArray.size * k.toNat<=My:=by rw [Mg,<- hl];exact hz
 have hcap:¬ its.toArray.size * k.toNat > (2 ^ 63 - 1) / 8:=by
  have:(My:Nat)<=(2 ^ 63 - 1) / 8:=by decide
  omega
 have hfit:¬ (!Builtin.List.listFitsIndex k)=true:=by
  rw [fitsIndex_both h1 h2];exact Ml
 have hlong:¬ OT (its.toArray.size * k.toNat)=true:=by
  rw [yy hlen];exact Ml
 have hnew:List.foldl (fun x1 x2=>x1++x2) #[] (Me (if its.toArray.isEmpty=true then 0 else k.toNat) its.toArray)=(Me k.toNat its).flatten.toArray:=by
  have f0:∀ m:Nat,List.foldl (fun x1 x2=>x1++x2) #[] (Me m its.toArray)=(Me m its).flatten.toArray:=fun m=>by
   have:=foldl_rep its m [];rw [List.nil_append] at this;exact this
  rw [f0];cases its with
  | nil=>simp
  | cons a r'=>rw [if_neg (by simp)]
 refine wpAny_binaryOp_repeat_ref (T:="list") (U:="int") (by decide) ⟨_,e,rfl⟩ (fun s'=>SO s' k t) noFill_list_mul F.fills_int_mul F.slot_int_rmul repeat_list F.slot_int_index.lookup
  (O6 F.slot_int_rmul (SO s k t) F.entry_int_rmul (F.args_int_rmul_2 _ _) (int___rmul___int_list k t l its.toArray n)
   ⟨e,rfl,⟨_,e,rfl⟩,O6 F.slot_list_mul ⟨_,e,rfl⟩ F.entry_list_mul (F.args_list_mul_2 _ _) (AutoListH.list___mul___list_int_3 l its.toArray n k t hfit hcap hlong) ⟨e,?_⟩⟩)
 rw [hnew];exact ⟨.ref _,_,I.JJ (t':=s.toks) (r.rep k.toNat) (by rw [len_rep,Ow];exact hz),rfl,q _ I.fresh⟩
end
section
variable {prog:Mi} {w:World} {A:MQ} {E:Value->LV->Prop} {s:LV}
end
section
variable {X:Cx}
end
end L2
namespace Att
open PySem PySem.W PySem.Calls PyProof.Rows
def sf {P:Params} {h:Heap}:∀ (ns:List Int) (vs:List Value),WellAll P h vs (ns.map WData.int)->OD vs ns:=by
 intro ns
 induction ns with
 | nil =>
  intro vs w;rw [TL] at w;cases w;exact .nil
 | cons n ns ih =>
  intro vs w;rw [Mz] at w;cases w with
  | cons a b =>
   cases a;exact .cons _ _ (ih _ b)
def Fn {l:OpenLaw} {n:Nat} (hn:l.most=some n) {P:Params} {h:Heap} {args:List WData} {vals:List Value}
  (hpre:l.row.toRowW.claim.pre args=true) (hwl:WellAll P h vals args) :
  ∃ a vs ns,vals=[Mt a]/\args=[WData.list (ns.map WData.int)]/\h.get? a=some { cls:=.type "list",data:=.seq vs.toArray }/\OD vs ns/\ns.length<=n:=by
 have hsh:WShape.hasAll [] args [.list .int]=true:=(pre_splitW hpre).1;have hc:l.pre.holds [] { args:=args }=true:=(pre_splitW hpre).2;obtain ⟨d,r,rfl,h1,h2⟩:=hasAllW_cons hsh;obtain rfl:=hasAllW_nil h2;obtain ⟨xs,rfl,h3⟩:=hasW_list h1;obtain ⟨ns,rfl⟩:=items_int h3;have hlen:ns.length<=n:=by
  unfold OpenLaw.pre at hc;have h4:(WTm.not (.lt (.lit (.int (n:Int))) (.len (.arg 0)))).holds [] { args:=[.list (ns.map .int)] }=true:=by
   have h4:=(holds_andW hc).1;rw [hn] at h4;exact h4
  have h5:=condW_of h4 (w_not (w_lt w_lit (w_len_list (w_arg rfl))));rw [LX] at h5;refine RY fun q=>?_;have q':(n:Int)<((ns.length:Nat):Int):=by omega
  first
   | (rw [decide_eq_true q'] at h5;exact absurd h5 (by decide))
   | (simp at h5;omega)
 cases hwl with
 | cons w1 w2 =>
  cases w2;cases w1 with
  | list ho hall=>exact ⟨_,_,ns,rfl,rfl,ho,sf ns _ hall,hlen⟩
def EW (l:OpenLaw) (args:List WData):l.row.toRowW.claim.post args (.bool true) args=true :=
 postW_of (r:=l.row.toRowW) (X:=(true == true))
  (show WShape.has [] (.bool true) .bool=true by first|rfl|decide|simp [WShape.has,WShape.arms,WShape.armsAll])
  (show (WTm.eq .res (.lit (.bool true))).value [] { args:=args,res:=some (.bool true),after:=args }=some (.bool (true == true)) from w_eq_bool (w_res rfl) w_lit) rfl
def AI {l:OpenLaw} {n:Nat} {q:Mi} {loose:List Str} {XP:(Str->Option Value)->Heap->Prop} {YP:World->Heap->Prop} {d:DefRec}
  (hn:l.most=some n) (hdf:d.params.defaults=[])
  (call:∀ (w:World) (s₀ s₁:LV) (mg mb:Str->Option Value) (fa:Addr) (o:Obj) (pm cd doc:Value) (a:Addr) (vs:List Value) (ns:List Int),
   Ground q loose [] XP w s₀ mg mb s₁.heap->YP w s₁.heap ->
   s₁.heap.get? fa=some o->o.data=.func (docDef d.name d.params d.body d.scope pm cd doc)->s₁.heap.CodeRec cd d.name->mg d.name=some (.ref fa) ->
   s₁.heap.get? a=some { cls:=.type "list",data:=.seq vs.toArray }->OD vs ns->ns.length<=n->s₁.gens=#[] ->
   codeAny (model l.prog w) callerA (.call (.ref fa) ⟨[.ref a],[]⟩) (fun r s'=>r=.ok (.ret (.bool true))/\OldK s₁.heap s'.heap/\s'.os=s₁.os/\RD s'.gens) s₁) :
  WalkO q loose XP YP l.row.toRowW d [] (fun f vs=>PySem.call f vs):=by
 intro w s₀ s₁ mg mb G Y fa o pm cd doc dV kV ho hd hcd hD hmg hg args vals as hpre hlay hrd hwl hlo;obtain rfl:dV=.none:=Dflts.none hD hdf;obtain rfl:kV=.none:=Dflts.noKw hD;obtain ⟨a,vs,ns,rfl,rfl,hobj,hints,hlen⟩:=Fn hn hpre hwl;refine enter_call (OJ (call w s₀ s₁ mg mb fa o pm cd doc a vs ns G Y ho (fd_plain hd) hcd hmg hobj hints hlen hg) fun r s' hq=>?_);obtain ⟨rfl,h2,h3,h4⟩:=hq;exact ⟨.inl ⟨.bool true,.bool true,[],rfl,fun _=>rfl,.bool true,EW l _,fun _=>⟨List.Pairwise.nil,fun _ hm=>(nomatch hm)⟩⟩,h2,h3,h4⟩
section
variable {prog:Mi} {w:World} {A:MQ} {E:Value->LV->Prop} {s:LV} {K:Frag}
end
end Att
namespace L2
open PySem PySem.Spec PyProof.Rows
def vN:∀ {vs:List Value} {ns:List Int},OD vs ns->Vals (ns.map V.int) vs
 | _,_,.nil=>.nil
 | _,_,.cons n t h=>.cons ⟨t,rfl⟩ (vN h)
def F5 (H:Hp):Prop:=∀ b,H b=none\/∃ o xs,H b=some (.frz o (.lst xs))
def GW {P:Mi} {w:World} {K:LO} {mg mb:Str->Option Value} {CX:CXT} {k:Nat} {fa a:Addr} {fd:Na} {x:Str} {sp:Sp} {s₁:LV} {vs:List Value} {ns:List Int}
  (KX:K.In s₁.heap) (hns:s₁.heap.Ns MP mg) (hb:s₁.heap.Ns builtinsNs mb) (hbb:∀ x:Str,x ≠ "__name__" -> mb x=bootBuiltins x) (hlim:s₁.heap.NoLimit) (hg:s₁.gens=#[])
  (ha:s₁.heap.get? a=some { cls:=.type "list",data:=.seq vs.toArray }) (hi:OD vs ns) (hl:ns.length<=My) (hr:bX k callerA)
  (F:∀ base:Heap,K.In base->base.Ns MP mg->aH P w K mg base CX k fa fd [x] sp) (hbind:∀ (s:LV) (u:Value),Q9 s fd ⟨[u],[]⟩ [(x,u)])
  (hsp:∀ H:Hp,F5 H->SqL K H a (ns.map V.int)->sp [.ref a] H (fun v _=>v=.bl true) fun _ _ _=>False)
  (hCX:∀ H e s',CX [] H s₁ (fun _ _ _=>False) e s'->False) :
  codeAny (model P w) callerA (.call (.ref fa) ⟨[.ref a],[]⟩) (fun r s'=>r=.ok (.ret (.bool true))/\OldK s₁.heap s'.heap/\s'.os=s₁.os/\RD s'.gens) s₁:=by
 have rv:=vN hi;have lenV:=hi.length;have core:∀ H:Hp,F5 H->SqL K H a (ns.map V.int)->HOk P w H s₁.heap->(∀ b,H b≠none->b=a)->(H a≠none->K.lookup a=none) ->
   codeAny (model P w) callerA (.call (.ref fa) ⟨[.ref a],[]⟩) (fun r s'=>r=.ok (.ret (.bool true))/\OldK s₁.heap s'.heap/\s'.os=s₁.os/\RD s'.gens) s₁:=by
  intro H hO hS hok hA hK;have base_of:∀ {b:Addr} {o:Obj},s₁.heap.get? b=some o->H b=none->(mT s₁.heap H).get? b=some o:=fun e n=>Hg e n;have noA:∀ {b:Addr} {o:Obj} {es:Array DictEntry} {ep:Nat},s₁.heap.get? b=some o->o.data=.dict es ep->H b=none:=fun {b o es ep} e d=>by
   cases q:H b with
   | none=>rfl
   | some u =>
    have e':b=a:=hA b (by rw [q];simp)
    subst e';rw [ha] at e;cases e;have d':Data.seq vs.toArray _=Data.dict es ep:=d;cases d'
  have nsK:∀ {b:Addr} {m:Str->Option Value},s₁.heap.Ns b m->(mT s₁.heap H).Ns b m:=fun {b m} ⟨o,es,ep,e,d,r⟩=>⟨o,es,ep,base_of e (noA e d),d,r⟩;have hKb:K.In (mT s₁.heap H):=fun b o e=>base_of (KX b o e) (by
   cases q:H b with
   | none=>rfl
   | some u =>
    have e':b=a:=hA b (by rw [q];simp)
    subst e';rw [hK (by rw [q];simp)] at e;cases e)
  have hM:Mod K mg (mT s₁.heap H):=⟨hKb,nsK hns,⟨mb,nsK hb,hbb⟩,let ⟨mc,h1,h2⟩:=hlim;⟨mc,nsK h1,h2⟩⟩;have e0:lN P w K mg (mT s₁.heap H) callerA [] s₁ H:=⟨rfl,hM,fun b o e=>IF e,QZ (E5 _ _),trivial,fun b hb=>absurd (show b∈([]:List Addr) from hb) (by simp),hok,.of_eq hg⟩
  refine OJ ((F _ hKb (nsK hns)).run callerA [] s₁ H ⟨[.ref a],[]⟩ [.ref a] [.ref a] _ _ hr e0 (hbind s₁ (.ref a)) (.cons rfl .nil) (hsp H hO hS)) fun r s' h=>?_;cases r with
  | error e=>exact (hCX H e s' h).elim
  | ok fl =>
   cases fl with
   | next=>exact Nd h
   | brk=>exact Nd h
   | cont=>exact Nd h
   | ret u =>
    obtain ⟨v,H',os,bare,un,hok',r',q⟩:=h;have q':v=.bl true:=q;subst q';obtain rfl:u=SM true:=r';refine ⟨rfl,OldK.of_keep fun b o e=>?_,os,bare⟩;cases q:H b with
    | none=>exact un.keep b o e q (by intro z;exact absurd (show b∈([]:List Addr) from z) (by simp)) (by simp)
    | some u =>
     rcases hO b with z|⟨ob,xs,z⟩
     ·rw [q] at z;cases z
     ·have z2:=un.f7 b ob _ z;obtain ⟨e1,_⟩:=hok b _ z;obtain ⟨e2,_⟩:=hok' b _ z2;rw [e] at e1;cases e1;exact e2
 cases hk:K.lookup a with
 | some o =>
  have e:=KX a o hk;rw [ha] at e;cases e;refine core (fun _=>none) (fun _=>.inl rfl) (.inr ⟨_,vs.toArray,_,hk,rfl,rfl,rfl,by rw [Mg,lenV];exact hl,by simpa using rv⟩) (fun b u z=>by have z':(none:Option HO)=some u:=z;cases z') (fun b z=>absurd rfl z) fun z=>absurd rfl z
 | none =>
  refine core (fun b=>if b=a then some (.frz { cls:=.type "list",data:=.seq vs.toArray } (.lst (ns.map V.int))) else none) (fun b=>?_) (.inl (.inr ⟨{ cls:=.type "list",data:=.seq vs.toArray },if_pos rfl⟩)) (fun b u z=>?_) (fun b z=>?_) fun _=>hk
  ·by_cases hb:b=a
   ·exact .inr ⟨_,_,if_pos hb⟩
   ·exact .inl (if_neg hb)
  ·by_cases hb:b=a
   ·have z':=(if_pos hb).symm.trans z;cases z';subst hb;exact ⟨ha,by rw [LX];exact hl,vs,_,rv,ha⟩
   ·have z':=(if_neg hb).symm.trans z;cases z'
  ·by_cases hb:b=a
   ·exact hb
   ·exact absurd (if_neg hb) z
def Im {l:Sn} {n k:Nat} {q:Mi} {loose:List Str} {XP:(Str->Option Value)->Heap->Prop} {YP:World->Heap->Prop} {d:DefRec} {K:Params->LO} {CX:World->CXT} {sp:World->Sp} {x:Str}
  (hn:l.most=some n) (hn2:n<=My) (hdf:d.params.defaults=[]) (hr:bX k callerA)
  (hY:∀ (w:World) (h:Heap),YP w h->(K w.params).In h)
  (F:∀ (w:World) (mg:Str->Option Value) (fa:Addr) (h:Heap),(K w.params).In h->h.Ns MP mg->mg d.name=some (.ref fa) ->
   ∃ fd:Na,(∀ (s:LV) (u:Value),Q9 s fd ⟨[u],[]⟩ [(x,u)]) /\
    ∀ base:Heap,(K w.params).In base->base.Ns MP mg->aH l.prog w (K w.params) mg base (CX w) k fa fd [x] (sp w))
  (hsp:∀ (w:World) (H:Hp) (a:Addr) (ns:List Int),ns.length<=n->F5 H->SqL (K w.params) H a (ns.map V.int)->sp w [.ref a] H (fun v _=>v=.bl true) fun _ _ _=>False)
  (hCX:∀ (w:World) (H:Hp) (s:LV) (e:Value) (s':LV),CX w [] H s (fun _ _ _=>False) e s'->False) :
  PySem.W.WalkO q loose XP YP l.row.toRowW d [] (fun f vs=>PySem.call f vs):=by
 refine Att.AI hn hdf fun w s₀ s₁ mg mb fa o pm cd doc a vs ns G Y ho hd hcd hmg hobj hints hlen hg=>?_;have KX:=hY w _ Y;obtain ⟨fd,hb,hF⟩:=F w mg fa _ KX G.T.g hmg;exact GW KX G.T.g G.T.b G.T.builtins G.T.nolimit hg hobj hints (M7 hlen hn2) hr hF hb (fun H hO hS=>hsp w H a ns hlen hO hS) fun H e s'=>hCX w H s₁ e s'
def inClass (s:Stmt) (j:Nat):Stmt:=match s with
 | .ClassDef _ _ _ body _ _ _ _ _ _ _=>body.getD j (.Pass ⟨0,0,0,0⟩)
 | _=>.Pass ⟨0,0,0,0⟩
def bR (s:Stmt):Arguments:=match s with
 | .FunctionDef _ a _ _ _ _ _ _ _ _=>a
 | _=>{ posonlyargs:=[],args:=[],vararg:=none,kwonlyargs:=[],kw_defaults:=[],kwarg:=none,defaults:=[] }
def bC (s:Stmt):List Stmt:=match s with
 | .FunctionDef _ _ b _ _ _ _ _ _ _=>b
 | _=>[]
def ak (s:Stmt):Scope:=match s with
 | .FunctionDef _ _ _ _ _ _ sc _ _ _=>sc
 | _=>{ kind:=.function,names:=[],isGenerator:=false,isCoroutine:=false }
abbrev CX0:CXT:=fun _ _ _ _ _ _=>False
abbrev E0:XK:=fun _ _ _=>False
def Dk {X:Cx}:Passes CX0 X E0:=fun _ _ _ _ _ _ _ h=>h.elim
structure Fun (K:LO) (x qual:Str) (st:Stmt) (f:Addr) (fd:Na):Prop where
 ex:∃ (oc:Value) (od:Option Addr) (kV doc pm:Value) (an:Option Addr) (cdv ct:Value) (osl:Array (Option Value)),
  fd=MR x qual (bR st) (bC st) (ak st) .none kV doc pm an cdv ct/\K.lookup f=some ⟨oc,od,.func fd,osl⟩/\Nx K cdv qual=true
 kp:M6 K (.ref f)=true
section
variable {P:Mi} {w:World} {K:LO} {mg:Str->Option Value} {base:Heap}
def Fun.ok {x qual:Str} {st:Stmt} {f:Addr} {fd:Na} {N ps:List Str} {k:Nat} {sp:Sp} (F:Fun K x qual st f fd) (S:aK N ps (ak st)) (len:∀ vs H Q E,sp vs H Q E->vs.length=ps.length)
  (hbody:∀ (cdv:Value) (A:MQ) (outer:List Env) (s:LV) (H:Hp) (vs:List V) (Q:VK) (E:XK),bX k (A.deeper (envOfC qual (ak st) s.heap.objs.size f cdv))->sp vs H Q E ->
   ∃ t,PSs (iN CX0 P w K mg base N qual (ak st) f cdv A outer s H E).nox (bC st) t/\t { nx:=fun _ H'=>Q .non H',rt:=Q } (start N vs) H):aH P w K mg base CX0 (k+1) f fd ps sp:=by
 obtain ⟨oc,od,kV,doc,pm,an,cdv,ct,osl,rfl,lk,hcd⟩:=F.ex;refine xR lk hcd S len fun A outer s H vs Q E hr hsp=>?_;obtain ⟨t,h,q⟩:=hbody cdv A outer s H vs Q E hr hsp;exact ⟨t,h.nox,q⟩
def mH {x qual:Str} {st:Stmt} {f:Addr} {oc:Value} {od an:Option Addr} {osl:Array (Option Value)} {kV doc pm cdv ct:Value} (l:K.lookup f=some ⟨oc,od,.func (MR x qual (bR st) (bC st) (ak st) .none kV doc pm an cdv ct),osl⟩)
  (c:Nx K cdv qual=true) (k:M6 K (.ref f)=true):Fun K x qual st f (MR x qual (bR st) (bC st) (ak st) .none kV doc pm an cdv ct):=⟨⟨oc,od,kV,doc,pm,an,cdv,ct,osl,rfl,l,c⟩,k⟩
end
def eS {A:MQ} {k:Nat} (hr:bX k A):A.units+1<cLine:=NM (Nat.add_le_add_left (by decide:1<=64) _) hr.units
def Es {n:Nat} (h:n<=1000):n<My:=NM h (by decide)
section
variable {X:Cx}
def pv (i:Nat) {x:Str} {pos:Pos} (hN:X.N[i]?=some x:=by rfl) (hv:Vis X.env.scope x:=by first|exact L8 rfl|exact Qf (L8 rfl)|exact Qf (Qf rfl)) (hd:(x == ("__debug__" : Str))=false:=by decide)
  (hcd:(x == ("__classdict__" : Str))=false:=by decide):PE X (.Name x pos) (Cc i):=Kz hN hv hd hcd
end
def fq {A B:Prop} (h:B):if false=true then A else B:=by
 rw [if_neg Ml];exact h
def oP {A B:Prop} (h:A):if true=true then A else B:=by
 rw [if_pos rfl];exact h
def aj (H H':Hp):Prop:=∀ b o,H b=some o->H' b=some o
def aj.refl (H:Hp):aj H H:=fun _ _ h=>h
def aj.trans {H H1 H2:Hp} (a:aj H H1) (b:aj H1 H2):aj H H2:=fun c o h=>b c o (a c o h)
def aj.free {H H':Hp} (e:aj H H') {l:Addr} (h:H' l=Option.none):H l=Option.none:=by
 cases q:H l with
 | none=>rfl
 | some o =>
  rw [e l o q] at h;cases h
def aj.seq {K:LO} {H H':Hp} {a:Addr} {xs:List V} (e:aj H H') (h:SqL K H a xs):SqL K H' a xs:=by
 rcases h with (h|⟨o,h⟩)|h
 ·exact .inl (.inl (e _ _ h))
 ·exact .inl (.inr ⟨o,e _ _ h⟩)
 ·exact .inr h
def iI (env:Env):List (Str×Qs)->List (Str×Addr)->List (Str×Addr)
 | [],acc=>acc
 | (n,k) :: r,acc=>iI env r (if k == .free then (n,(env.cells.lookup n).getD 0) :: acc else acc)
def yP (env:Env):∀ (l:List (Str×Qs)) (acc:List (Str×Addr)),(∀ x∈l,x.2=.free->∃ c,env.cells.lookup x.1=some c) ->
  (forIn l acc (fun x r=>if (x.snd == Od)=true then (do let c <- cellOf env x.fst;pure (Pc ((x.fst,c) :: r))) else pure (Pc r)):Sem (List (Str×Addr)))=pure (iI env l acc)
 | [],acc,_=>rfl
 | (n,k) :: r,acc,h=>by
  rw [So];have ih:=yP env r;unfold iI
  by_cases hk:(k == Od)=true
  ·obtain ⟨c,hc⟩:=h (n,k) L9 (by simpa using hk)
   have e:cellOf env n=pure c:=by unfold cellOf;rw [hc]
   have hc':env.cells.lookup n=some c:=hc;dsimp only;rw [if_pos hk,if_pos hk,e,hc'];exact ih _ fun x hx=>h x (L5 _ hx)
  ·dsimp only;rw [if_neg hk,if_neg hk];exact ih _ fun x hx=>h x (L5 _ hx)
def A7 {scope:Scope} {env:Env} (h:∀ x∈scope.names,x.2=.free->∃ c,env.cells.lookup x.1=some c):closureFor scope env=pure (iI env scope.names []):=by
 simp only [closureFor];rw [yP env scope.names [] h];rfl
def yT {env:Env}:∀ (l:List (Str×Qs)) (acc:List (Str×Addr)),(∀ x∈l,x.2=.free->∃ c,env.cells.lookup x.1=some c)->(∀ x c,acc.lookup x=some c->env.cells.lookup x=some c) ->
  ∀ x c,(iI env l acc).lookup x=some c->env.cells.lookup x=some c
 | [],acc,_,ha=>ha
 | (n,k) :: r,acc,h,ha=>by
  unfold iI;refine yT r _ (fun x hx=>h x (L5 _ hx)) fun x c e=>?_
  by_cases hk:(k == Od)=true
  ·rw [if_pos hk] at e;obtain ⟨c',hc⟩:=h (n,k) L9 (by simpa using hk)
   have hc':env.cells.lookup n=some c':=hc;rw [Nh] at e
   split at e
   ·rename_i q
    have q':x=n:=by simpa using q
    subst q';rw [hc'] at e ⊢
    simpa using e
   ·exact ha x c e
  ·rw [if_neg hk] at e;exact ha x c e
def wk {env:Env}:∀ (l:List (Str×Qs)) (acc:List (Str×Addr)) (x:Str),(∃ c,acc.lookup x=some c)->∃ c,(iI env l acc).lookup x=some c
 | [],_,_,h=>h
 | (n,k) :: r,acc,x,h=>by
  unfold iI;refine wk r _ x ?_
  by_cases hk:(k == Od)=true
  ·rw [if_pos hk,Nh]
   split
   ·exact ⟨_,rfl⟩
   ·exact h
  ·rw [if_neg hk];exact h
def rY {env:Env}:∀ (l:List (Str×Qs)) (acc:List (Str×Addr)) (x:Str),(x,Od)∈l->∃ c,(iI env l acc).lookup x=some c
 | (n,k) :: r,acc,x,h=>by
  unfold iI;rcases Mq.mp h with e|h
  ·cases e;refine wk r _ _ ?_;rw [if_pos (by rfl),Nh]
   simp
  ·exact rY r _ x h
def p8 {env:Env}:∀ {names:List (Str×Qs)} {x:Str},names.lookup x=some .free ->
  (names.map fun (n,k)=>if (k == Od && env.scope.kind == .function && env.kindOf n == some .cell) then (n,QF) else (n,k)).lookup x=some .cell \/
  (names.map fun (n,k)=>if (k == Od && env.scope.kind == .function && env.kindOf n == some .cell) then (n,QF) else (n,k)).lookup x=some .free
 | [],_,h=>by simp at h
 | (n,k) :: r,x,h=>by
  rw [Mz]
  by_cases hx:(x == n)=true
  ·rw [Nh,hx] at h;dsimp only at h ⊢;cases h
   split
   ·rw [Nh,hx];exact .inl rfl
   ·rw [Nh,hx];exact .inr rfl
  ·have hx':(x == n)=false:=by simpa using hx
   rw [Nh,hx'] at h;have ih:=p8 (env:=env) (names:=r) (x:=x) h;dsimp only at h ⊢
   split
   ·rw [Nh,hx'];exact ih
   ·rw [Nh,hx'];exact ih
def nN {env:Env}:∀ {names:List (Str×Qs)} {x:Str},
  ((names.map fun (n,k)=>if (k == Od && env.scope.kind == .function && env.kindOf n == some .cell) then (n,QF) else (n,k)).lookup x=some .cell \/
  (names.map fun (n,k)=>if (k == Od && env.scope.kind == .function && env.kindOf n == some .cell) then (n,QF) else (n,k)).lookup x=some .free) ->
  (x,Od)∈names\/(x,QF)∈names
 | [],_,h=>by simp at h
 | (n,k) :: r,x,h=>by
  rw [Mz] at h
  by_cases hx:(x == n)=true
  ·have q':x=n:=by simpa using hx
   dsimp only at h
   split at h
   ·rename_i hc
    have:k=Od:=by
     cases k <;> simp_all
    subst this q';exact .inl L9
   ·rw [Nh,hx] at h;dsimp only at h;subst q';rcases h with h|h
    ·cases h;exact .inr L9
    ·cases h;exact .inl L9
  ·have hx':(x == n)=false:=by simpa using hx
   have ih:=nN (env:=env) (names:=r) (x:=x);dsimp only at h
   split at h
   ·rw [Nh,hx'] at h;exact (ih h).elim (fun z=>.inl (L5 _ z)) fun z=>.inr (L5 _ z)
   ·rw [Nh,hx'] at h;exact (ih h).elim (fun z=>.inl (L5 _ z)) fun z=>.inr (L5 _ z)
def mR (own:List Str) (fr:List Nat) (N:List Str):List Str:=own++fr.map fun i=>(N[i]?).getD ("" : Str)
def dA (own:List Str) (fr:List Nat) (σ:St):St:=own.map (fun _=>none)++fr.map fun i=>(σ[i]?).join
def cZ (X:Cx) (scope:Scope) (own:List Str) (fr:List Nat) (C:Addr) (s₂:LV) (H₂:Hp) (fp:List Addr):Cx :=
 { X with N:=mR own fr X.N,s₀:=s₂,H₀:=H₂,env:=compEnvC scope (iI X.env scope.names []) C X.env,outer:=X.stack,ex:=fp,fn:=fun _=>false,pn:=[],xe:=fun _ _=>False }
structure bT (sc:Scope) (N:List Str) (scope:Scope) (own:List Str) (fr:List Nat):Prop where
 kind:scope.kind=.function
 DX:∀ y∈scope.names,y.2≠.cell
 names:∀ y∈scope.names,y.2=.local->scope.names.lookup y.1=some .local
 free:∀ y∈scope.names,y.2=.free->sc.names.lookup y.1=some .cell\/sc.names.lookup y.1=some .free
 fr0:∀ i∈fr,(N[i]?.bind fun x=>scope.names.lookup x)=some .free
 nd:(mR own fr N).Nodup
def bT.fr {sc:Scope} {N:List Str} {scope:Scope} {own:List Str} {fr:List Nat} (S:bT sc N scope own fr):∀ i∈fr,∃ x,N[i]?=some x/\scope.names.lookup x=some .free:=fun i hi=>by
 have q:=S.fr0 i hi;cases e:N[i]? with
 | none=>rw [e] at q;cases q
 | some x=>rw [e] at q;exact ⟨x,rfl,q⟩
section
variable {X:Cx} {scope:Scope} {own:List Str} {fr:List Nat} {pins:List (Addr×Obj)} {σ:St} {H₂:Hp} {s₂:LV} {fp:List Addr} {C D:Addr} {h₁:Heap} {m:Str->Option Value} {tk:Nat}
def bT.cells (S:bT X.env.scope X.N scope own fr) (ok:X.Ok):∀ x∈scope.names,x.2=.free->∃ c,X.env.cells.lookup x.1=some c:=fun x hx hf=>ok.has x.1 (S.free x hx hf)
def BV {i:Nat} {v:V} (h:(dA own fr σ)[i]?=some (some v)):∃ j,own.length<=i/\fr[i - own.length]?=some j/\σ[j]?=some (some v):=by
 unfold dA at h
 by_cases hi:i<own.length
 ·rw [MG (by simpa using hi),Mp] at h
  cases e:own[i]? with
  | none=>rw [e] at h;cases h
  | some a=>rw [e] at h;cases h
 ·rw [MT (by simpa using hi),Mp,LX] at h
  cases e:fr[i - own.length]? with
  | none=>rw [e] at h;cases h
  | some j =>
   rw [e] at h;refine ⟨j,by omega,rfl,?_⟩
   have h':(σ[j]?).join=some v:=by simpa using h
   cases q:σ[j]? with
   | none=>rw [q] at h';cases h'
   | some o=>rw [q] at h';exact congrArg some h'
def F8 (S:bT X.env.scope X.N scope own fr) (I:Inv X pins σ H₂ s₂) (f2:∀ b∈fp,kG X pins H₂ b) (fo:∀ b∈fp,b<s₂.heap.objs.size)
  (hC:s₂.heap.objs.size<=C) (hD:s₂.heap.objs.size<=D) (hDC:D≠C) (old:∀ b o,s₂.heap.get? b=some o->h₁.get? b=some o) (hns:h₁.Ns C m) (new:∃ n,h₁.get? D=some { cls:=.type "list",data:=.seq #[] n }) :
  Inv (cZ X scope own fr C s₂ H₂ fp) [] (dA own fr σ) (upd H₂ D (.lst [])) { s₂ with heap:=h₁,toks:=tk }:=by
 have hk:=S.cells I.ok;have sub:=yT (env:=X.env) scope.names [] hk (fun x c e=>by cases e)
 have fl:∀ x c,(iI X.env scope.names []).lookup x=some c->∃ v,s₂.heap.IsCell c v:=fun x c e=>I.cell x c (sub x c e);have okX:(cZ X scope own fr C s₂ H₂ fp).Ok:=by
  refine ⟨I.ok.mod,S.kind,I.ok.glob,I.ok.blt,hC,fun x y c e1 e2=>I.ok.inj x y c (sub x c e1) (sub y c e2),fun x hx=>?_,fun x c hf=>absurd hf (by intro z;cases z),I.ok.hd,I.ok.frames,.inl rfl,fun b hb=>⟨?_,fun x c e z=>?_⟩,
   I.bs,M7 I.ok.bsz I.sz,fun b o e hb=>?_,fun b hb=>?_,I.stack,I.A9⟩
  ·rcases nN hx with z|z
   ·exact rY _ _ _ z
   ·exact absurd rfl (S.DX _ z)
  ·exact Md (Mn (fo b hb) hC)
  ·exact (f2 b hb).2.2.2.2.1 x c (sub x c e) z
  ·obtain ⟨_,_,_,f3,_⟩:=f2 b hb;rcases f3 with z|z
   ·exact I.ok.vm b o e z
   ·exact absurd (Mn (L6 (I.ok.bs b o e).1) z) (Oo _)
  ·obtain ⟨_,f1,f2',_⟩:=f2 b hb;intro z;rcases Mq.mp (I.uc b z) with q|q
   ·exact f1 q
   ·exact f2' q
 have frH:∀ a,s₂.heap.objs.size<=a->H₂ a=none:=fun a h=>I.hok.fresh h;refine ⟨okX,rfl,I.bare,Un.laid old hD (frH D hD),⟨m,hns,fun i x v e1 e2 e3=>?_⟩,fun x c e=>?_,?_,fun x c e=>?_,fun p hp=>absurd (show p∈([]:List (Addr×Obj)) from hp) (by simp),I.hok.laid old hD ?_,?_⟩
 ·obtain ⟨j,hi,hj,hv⟩:=BV e2;have hx:X.N[j]?=some x:=by
   obtain ⟨y,hy,_⟩:=S.fr j (LS hj);have e1':(mR own fr X.N)[i]?=some x:=e1;unfold mR at e1';rw [MT hi,Mp,hj] at e1';have e1'':(X.N[j]?).getD ("" : Str)=x:=by simpa using e1'
   rw [hy] at e1'' ⊢;exact congrArg some e1''
  obtain ⟨y,hy,hfree⟩:=S.fr j (LS hj);rw [hx] at hy;cases hy;have hkind:X.env.kindOf x=some .cell\/X.env.kindOf x=some .free:=S.free _ (Oa hfree) rfl;obtain ⟨mo,hno,hlo⟩:=I.loc;obtain ⟨u,r,l⟩:=hlo j x v hx hv (hkind.elim (fun z=>.inr (.inl z)) fun z=>.inr (.inr z));refine ⟨u,r,.inr ⟨p8 hfree,?_⟩⟩;obtain ⟨c,hc⟩:=rY (env:=X.env) scope.names [] x (Oa hfree);refine ⟨c,hc,?_⟩;have hc':=sub x c hc;rcases l with ⟨k,_⟩|⟨_,c',e,o,z1,z2⟩
  ·rcases hkind with z|z
   ·rw [k] at z;cases z
   ·rw [k] at z;cases z
  ·rw [hc'] at e;cases e;exact ⟨o,old _ _ z1,z2⟩
 ·obtain ⟨v,o,z1,z2⟩:=fl x c e;exact ⟨v,o,old _ _ z1,z2⟩
 ·show (upd H₂ D (.lst [])) C=none;rw [aA (NJ hDC)];exact frH C hC
 ·obtain ⟨v,o,z1,z2⟩:=fl x c e;rw [aA (Md (Mn (L6 z1) hD))];exact I.eJ x c (sub x c e)
 ·obtain ⟨n,e⟩:=new;exact ⟨MI _,[],n,.nil,e⟩
 ·show (dA own fr σ).length=(mR own fr X.N).length;simp [dA,mR]
end
def PIf (X:Cx) (ifs:List Expr) (t:TT):Prop :=
 ∀ (pins:List (Addr×Obj)) (s:LV) (σ:St) (H:Hp) (Q:Bool->Hp->Prop),Inv X pins σ H s->t σ H Q ->
  wpAny (model X.prog X.w) X.A (forIn ifs true fun c r=>if r=true then (do let ok <- isTrue c X.env (eval c X.env);pure (Pc ok)) else pure (Pc r)) (TP X pins σ Q) X.xe s
def Gy:TT:=fun _ H Q=>Q true H
def bZ {X:Cx}:PIf X [] Gy:=fun _ _ _ H _ I h=>wpAny_tests_nil ⟨H,I,h⟩
def Jy {X:Cx} {c:Expr} {t:TT} (h:PT X c t):PIf X [c] t:=fun pins s σ H Q I hw=>wpAny_tests_one (h pins s σ H Q I hw)
section
variable {prog:Mi} {w:World} {A:MQ} {R:Rj->LV->Prop} {s:LV}
def Fc {elt target iter:Expr} {ifs:List Expr} {scope:Scope} {pos:Pos} {it acc:Value} {env:Env} (J:Nat->LV->Prop)
  (turn:∀ n s,J n s->wpAny (model prog w) A (pyNext it) (fun r s₁=>match r with
   | none=>R (.ok .next) s₁
   | some v=>wpAny (model prog w) A (letOwnedTupleGo target it v) (fun _ s₂=>wpAny (model prog w) A (assign target env v) (fun _ s₃ =>
     wpAny (model prog w) A (forIn ifs true fun c r=>if r=true then (do let ok <- isTrue c env (eval c env);pure (Pc ok)) else pure (Pc r)) (fun ok s₄ =>
      if ok=true then wpAny (model prog w) A (eval elt env) (fun x s₅=>wpAny (model prog w) A (call (.builtin "list.append") [acc,x]) (fun _ s₆=>∃ m,m<n/\J m s₆) (fun _ _=>False) s₅) (fun _ _=>False) s₄
      else ∃ m,m<n/\J m s₄) (fun _ _=>False) s₃) (fun _ _=>False) s₂) (fun _ _=>False) s₁) (fun _ _=>False) s)
  (n:Nat) (h:J n s):codeAny (model prog w) A (.compLoop (.ListComp elt [⟨target,iter,ifs,0⟩] scope pos) 0 it acc env) R s:=by
 refine codeAny_loop rfl J (fun n s hJ=>?_) n h;show wpAny _ A ((compTurn (.ListComp elt [⟨target,iter,ifs,0⟩] scope pos) 0 it acc env).onRaise (fun x=>(do noteFrame x env;theTreesLotGoes x))) _ _ s;have nf:∀ {x:Value} {s':LV},False->notedBy (model prog w) A env (fun e s'=>R (.error e) s') x s':=fun z=>z.elim;refine wpAny_noted ?_;rw [compTurn_list];refine LQ (P0 (LQ (Nc (turn n s hJ) (fun r s₁ h₁=>?_) fun _ _ z=>nf z)));cases r with
 | none=>exact L4 h₁
 | some v =>
  refine LQ (Nc h₁ (fun _ s₂ h₂=>?_) fun _ _ z=>nf z);refine LQ (Nc h₂ (fun _ s₃ h₃=>?_) fun _ _ z=>nf z);refine LQ (Nc h₃ (fun ok s₄ h₄=>?_) fun _ _ z=>nf z);cases ok with
  | false=>exact L4 ⟨rfl,h₄⟩
  | true =>
   refine LQ (LQ (Nc h₄ (fun x s₅ h₅=>?_) fun _ _ z=>nf z));exact LQ (Nc h₅ (fun _ s₆ h₆=>L4 (L4 ⟨rfl,h₆⟩)) fun _ _ z=>nf z)
end
def xq (own:List Str) (fr:List Nat) (wi:TI) (g:TG) (tt:TT) (te:TE):TE:=fun σ H Q=>wi σ H fun J H1=>∀ D,H1 D=none ->
 ∃ W:Nat->Nat->St->Hp->Prop,(∃ m,W 0 m (dA own fr σ) (upd H1 D (.lst [])))/\∀ i m σ' H',W i m σ' H' ->
  (J.stop i H'/\Q (.ref D) H')\/(J.go i H'/\∀ x H2,J.yld i H' x H2->g x σ' H2 fun σ2 H3=>tt σ2 H3 fun ok H4 =>
   if ok=true then te σ2 H4 fun y H5=>∃ ys,H5 D=some (.lst ys)/\ys.length<My/\∃ m',m' < m/\W (i+1) m' σ2 (upd H5 D (.lst (ys++[y]))) else ∃ m',m' < m/\W (i+1) m' σ2 H4)
section
variable {X:Cx} {elt tg iter:Expr} {ifs:List Expr} {scope:Scope} {pos:Pos} {own:List Str} {fr:List Nat} {wi:TI} {g:TG} {tt:TT} {te:TE}
def v9 {pins:List (Addr×Obj)} {s:LV} {σ:St} {H:Hp} {Q:VK} {RR:Value->Addr->Rj->LV->Prop} (hc:X.calm=true) (S:bT X.env.scope X.N scope own fr) (hi:PI X tg iter wi)
  (hb:∀ C s₂ H₂ fp,PG (cZ X scope own fr C s₂ H₂ fp) tg g/\PIf (cZ X scope own fr C s₂ H₂ fp) ifs tt/\PE (cZ X scope own fr C s₂ H₂ fp) elt te)
  (I:Inv X pins σ H s) (h:xq own fr wi g tt te σ H Q)
  (hRR:∀ D C s' H' m',Inv X pins σ H' s'->Q (.ref D) H'->kG X pins H' C->s'.heap.Ns C m'->RR (.ref D) C (.ok .next) s') :
  wpAny (model X.prog X.w) X.A (eval iter X.env) (fun v s₁=>wpAny (model X.prog X.w) X.A (pyIter v) (fun it s₂=>wpAny (model X.prog X.w) X.A (newList []) (fun acc s₃ =>
   wpAny (model X.prog X.w) X.A (newFunctionEnv scope X.env.globals (iI X.env scope.names []) [] X.env.qual none .none (some X.env)) (fun cenv s₄ =>
    codeAny (model X.prog X.w) X.A (.compStart (.ListComp elt [⟨tg,iter,ifs,0⟩] scope pos) 0 it acc { cenv with scope:=relabel scope X.env }) (RR acc cenv.locals) s₄) X.xe s₃) X.xe s₂) X.xe s₁) X.xe s:=by
 refine thn (hi pins s σ H _ I h) fun v s1 h1=>thn h1 fun itv s2 h2=>?_;obtain ⟨it,fp,tn,J,H2,e,I2,T,st2,f2,hq⟩:=h2;subst e;refine N9 (wpAny_newFunctionEnv S.DX (by intro y hy;simp at hy) (fun h₁ hns₁ hsb₁=>?_) S.kind)
 dsimp only at hns₁ hsb₁ ⊢;have hD:=I2.hok.fresh (Mb s2.heap.objs.size);obtain ⟨W,⟨m0,w0⟩,turn⟩:=hq s2.heap.objs.size hD;generalize hH2:s2.heap.push { cls:=.type "list",dict:=none,data:=.seq ([]:List Value).toArray }=G at hns₁ hsb₁ ⊢;have hG:G.objs.size=s2.heap.objs.size+1:=by rw [<- hH2,OP]
 have hDC:s2.heap.objs.size≠G.objs.size:=by rw [hG];exact Md (PM _)
 have hC:s2.heap.objs.size<=G.objs.size:=by rw [hG];exact OC _
 have old:∀ b o,s2.heap.get? b=some o->h₁.get? b=some o:=fun b o e =>
  hsb₁.extBut b o (by rw [hG];exact Md (NH (L6 e))) (LW _ (hH2 ▸ LW _ e))
 have new:h₁.get? s2.heap.objs.size=some { cls:=.type "list",data:=.seq #[] 0 }:=hsb₁.extBut _ _ hDC (LW _ (hH2 ▸ Mo _ rfl));have fo:∀ b∈fp,b<s2.heap.objs.size:=fun b hb'=>let ⟨o,e,_⟩:=T.obj 0 _ st2 b hb';L6 e;have I4:Inv (cZ X scope own fr G.objs.size s2 H2 fp) [] (dA own fr σ) (upd H2 s2.heap.objs.size (.lst [])) { s2 with heap:=h₁,toks:=s2.toks+([]:List (Str×Value)).length } :=
  F8 S I2 f2 fo hC (Mb _) hDC old hns₁ ⟨_,new⟩
 obtain ⟨hg,ht,he⟩:=hb G.objs.size s2 H2 fp;have fpX:∀ {H':Hp},(∀ b∈fp,H' b=none)->∀ b∈fp,kG (cZ X scope own fr G.objs.size s2 H2 fp) [] H' b:=fun {H'} hn b hb'=>by
  refine ⟨hn b hb',Md (Mn (fo b hb') hC),I4.ok.rq b hb',.inl hb',(I4.ok.exf b hb').2,fun p hp=>absurd (show p∈([]:List (Addr×Obj)) from hp) (by simp)⟩
 have fr0:∀ b∈fp,(upd H2 s2.heap.objs.size (.lst [])) b=none:=fun b hb'=>by
  rw [aA (Md (fo b hb'))];exact (f2 b hb').1
 have tn0:tn 0 h₁:=T.keep _ _ _ st2 fun b hb' o e=>old b o e;have loop:codeAny (model X.prog X.w) X.A (.compLoop (.ListComp elt [⟨tg,iter,ifs,0⟩] scope pos) 0 (.ref it) (.ref s2.heap.objs.size) (compEnvC scope (iI X.env scope.names []) G.objs.size X.env))
   (RR (.ref s2.heap.objs.size) G.objs.size) { s2 with heap:=h₁,toks:=s2.toks+([]:List (Str×Value)).length }:=by
  refine Fc (fun n s'=>∃ i σ' H',Inv (cZ X scope own fr G.objs.size s2 H2 fp) [] σ' H' s'/\tn i s'.heap/\(∀ b∈fp,H' b=none)/\W i n σ' H') ?_ m0 ⟨0,_,_,I4,tn0,fr0,w0⟩;rintro n s3 ⟨i,σ3,H3,I3,st3,fr3,w3⟩;have nfp:∀ {H':Hp} {s':LV} {σ':St} {pl:List (Addr×Obj)},Inv (cZ X scope own fr G.objs.size s2 H2 fp) pl σ' H' s'->pl=mD fp s'.heap->True:=fun _ _=>trivial;rcases turn i n σ3 H3 w3 with ⟨stop,qn⟩|⟨go,step⟩
  ·refine thn (T.done (cZ X scope own fr G.objs.size s2 H2 fp) rfl rfl rfl hc i [] s3 σ3 H3 (fun _ _=>False) I3 (fpX fr3) st3 stop) fun r s4 ⟨hr,I5⟩=>?_;subst hr;have IX:Inv X pins σ H3 s4:=I2.HE (ch:=fp) I5.os I5.base I5.hok I5.bare fun b hb'=>let ⟨_,f1,_,f3,f4,f5⟩:=f2 b hb';⟨f3,f1,f4,f5⟩;obtain ⟨m',hn',_⟩:=I5.loc;exact hRR _ _ _ _ m' IX qn (I2.uv hC I5.free) hn'
  ·refine thn (T.item (cZ X scope own fr G.objs.size s2 H2 fp) rfl rfl rfl hc i [] s3 σ3 H3 (fun _ _=>False) I3 (fpX fr3) st3 go) fun r s4 ⟨u,hr,h4⟩=>?_;subst hr;refine thn h4 fun _ s5 ⟨x,H5,I5,r5,y5,st5,fr5⟩=>?_;have I5':=I5.pinned (fpX fr5) (T.obj _ _ st5);refine thn (hg _ s5 σ3 H5 x u _ I5' r5 (step x H5 y5)) fun _ s6 ⟨σ6,H6,I6,q6⟩=>?_;have again:∀ {s7:LV} {σ7:St} {H7:Hp} {m':Nat},Inv (cZ X scope own fr G.objs.size s2 H2 fp) ([]++mD fp s5.heap) σ7 H7 s7->m' < n->W (i+1) m' σ7 H7 ->
     ∃ m,m<n/\∃ i σ' H',Inv (cZ X scope own fr G.objs.size s2 H2 fp) [] σ' H' s7/\tn i s7.heap/\(∀ b∈fp,H' b=none)/\W i m σ' H':=fun {s7 σ7 H7 m'} I7 hm w7=>by
    refine ⟨m',hm,i+1,σ7,H7,I7.nK,T.keep _ _ _ st5 fun b hb' o e=>(I7.pin (b,o) (Nm _ (Nm _ (jV hb' e)))).1,fun b hb'=>?_,w7⟩;obtain ⟨o,e,d⟩:=T.obj _ _ st5 b hb';exact (I7.pin (b,o) (Nm _ (Nm _ (jV hb' e)))).2.1
   refine thn (ht _ s6 σ6 H6 _ I6 q6) fun ok s7 ⟨H7,I7,q7⟩=>?_;cases ok with
   | false =>
    rw [if_neg Ml] at q7 ⊢;obtain ⟨m',hm,w7⟩:=q7;exact again I7 hm w7
   | true =>
    rw [if_pos rfl] at q7 ⊢;refine thn (he _ s7 σ6 H7 _ I7 q7) fun y s8 ⟨yv,H8,I8,r8,q8⟩=>?_;obtain ⟨ys,hy,hl,m',hm,w8⟩:=q8;refine thn (cC _ s8 σ6 H8 (.ref s2.heap.objs.size) [yv] _ [y] (fun _ H9=>H9=upd H8 s2.heap.objs.size (.lst (ys++[yv]))) I8 rfl (.cons r8 .nil) ⟨_,ys,yv,rfl,rfl,hy,hl,rfl⟩) fun _ s9 ⟨_,H9,I9,_,e9⟩=>?_;subst e9;exact again I9 hm w8
 exact codeAny_compStart_list loop (T.self X.A 0 _ _ _ tn0 loop)
def dU (hc:X.calm=true) (S:bT X.env.scope X.N scope own fr) (hi:PI X tg iter wi)
  (hb:∀ C s₂ H₂ fp,PG (cZ X scope own fr C s₂ H₂ fp) tg g/\PIf (cZ X scope own fr C s₂ H₂ fp) ifs tt/\PE (cZ X scope own fr C s₂ H₂ fp) elt te)
  (hs:∀ x,foldedSetIterable iter X.env x=pure x:=by intro _;rfl):PE X (.ListComp elt [⟨tg,iter,ifs,0⟩] scope pos) (xq own fr wi g tt te):=by
 intro pins s σ H Q I h;rw [eval_ListComp];refine Rn (use:=none) rfl hs (A7 (S.cells I.ok)) S.kind S.names ?_;refine v9 (RR:=fun acc C=>compPost (model X.prog X.w) X.A X.xe none (EP X pins σ Q) acc C) hc S hi hb I h ?_;intro D C s' H' m' I' q f hn;obtain ⟨f0,f1,f2,f3,f4,f5⟩:=f;exact ⟨m',hn,fun h' sb=>⟨.ref D,H',I'.turned (t':=s'.toks) (fun b o hb e=>(sb.2 b hb).trans e) f0 f1 f3 f4 f5,rfl,q⟩⟩
def dR {i:Nat} {y:Str} {py ji:Pos} (hc:X.calm=true) (hN:X.N.Nodup) (hi':X.N[i]?=some y) (hy:Loc X.env.scope y) (S:bT X.env.scope X.N scope own fr) (hi:PI X tg iter wi)
  (hb:∀ C s₂ H₂ fp,PG (cZ X scope own fr C s₂ H₂ fp) tg g/\PIf (cZ X scope own fr C s₂ H₂ fp) ifs tt/\PE (cZ X scope own fr C s₂ H₂ fp) elt te)
  (hsw:swapsWith (.ListComp elt [⟨tg,iter,ifs,0⟩] scope pos) (some (.Name y py)) ji.line X.env=pure true)
  (hs:∀ x,foldedSetIterable iter X.env x=pure x:=by intro _;rfl) (hf:X.fn y=true\/X.env.scope.names.lookup y=some .local:=by first|exact .inl rfl|exact .inr rfl|assumption) :
  PS X (.Assign [.Name y py] (.ListComp elt [⟨tg,iter,ifs,0⟩] scope pos) ji) (BZ (xq own fr wi g tt te) (iy i)):=by
 intro pins s σ H D I h;rw [exec_Assign_Name_used _ _ _ _ hsw];refine LQ (P0 (LQ ?_));show wpAny _ X.A (do let _ <- comprehension (.ListComp elt [⟨tg,iter,ifs,0⟩] scope pos) scope X.env _ (newList []) false (eval iter X.env) (some (assign (.Name y py) X.env))) _ _ s;refine LQ (Nc (Rn (use:=some (assign (.Name y py) X.env)) (Q:=fun _ s'=>SP X pins D .next s') rfl hs (A7 (S.cells I.ok)) S.kind S.names ?_) (fun _ s' hq=>L4 (L4 hq)) fun _ _ e=>e);refine v9 (RR:=fun acc C=>compPost (model X.prog X.w) X.A X.xe (some (assign (.Name y py) X.env)) (fun _ s'=>SP X pins D .next s') acc C) hc S hi hb I h ?_;intro D' C s' H' m' I' q f hn;show wpAny _ _ (assign (.Name y py) X.env (.ref D')) _ _ _;refine wpAny_assign_Name (vV I' hN hi' hy (v:=.ref D') rfl (fun s2 I2 ⟨a,sb,ha⟩=>?_) hf);obtain ⟨f0,f1,f2,f3,f4,f5⟩:=f;have hCa:C≠a:=by
  rcases ha with e|e
  ·rw [e];exact f1
  ·exact fun z=>f4 y a e z.symm
 refine ⟨m',hn.sameBut sb hCa,fun h' sb'=>?_⟩;exact ⟨_,H',I2.turned (t':=s2.toks) (fun b o hb e=>(sb'.2 b hb).trans e) f0 f1 f3 f4 f5,q⟩
end
class Rep (α:Type) where
 is:LO->Hp->V->α->Prop
 mono:∀ {K:LO} {H H':Hp} {v:V} {a:α},aj H H'->is K H v a->is K H' v a
instance:Rep Int:=⟨fun _ _ v a=>v=.int a,fun _ h=>h⟩
instance:Rep Nat:=⟨fun _ _ v a=>v=.int (a:Int),fun _ h=>h⟩
instance:Rep Bool:=⟨fun _ _ v a=>v=.bl a,fun _ h=>h⟩
def Paired.get {α β:Type} {F:α->β->Prop}:∀ {l₁:List α} {l₂:List β} {i:Nat} {b:β},Nk F l₁ l₂->l₂[i]?=some b->∃ a,l₁[i]?=some a/\F a b
 | _,_,_,_,.nil,e=>by simp at e
 | _,_,0,_,.cons r _,e=>by simp at e;subst e;exact ⟨_,rfl,r⟩
 | _,_,i+1,b,.cons _ t,e=>by
  obtain ⟨a,h1,h2⟩:=Paired.get (i:=i) (b:=b) t (by simpa using e)
  exact ⟨a,by simpa using h1,h2⟩
def Paired.getL {α β:Type} {F:α->β->Prop}:∀ {l₁:List α} {l₂:List β} {i:Nat} {a:α},Nk F l₁ l₂->l₁[i]?=some a->∃ b,l₂[i]?=some b/\F a b
 | _,_,_,_,.nil,e=>by simp at e
 | _,_,0,_,.cons r _,e=>by simp at e;subst e;exact ⟨_,rfl,r⟩
 | _,_,i+1,b,.cons _ t,e=>by
  obtain ⟨a,h1,h2⟩:=Paired.getL (i:=i) (a:=b) t (by simpa using e)
  exact ⟨a,by simpa using h1,h2⟩
def Paired.app {α β:Type} {F:α->β->Prop}:∀ {l₁ l₃:List α} {l₂ l₄:List β},Nk F l₁ l₂->Nk F l₃ l₄->Nk F (l₁++l₃) (l₂++l₄)
 | _,_,_,_,.nil,s=>s
 | _,_,_,_,.cons r t,s=>.cons r (Paired.app t s)
def Paired.xw {α β:Type} {F:α->β->Prop}:∀ {l₁:List α} {l₂:List β} (n:Nat),Nk F l₁ l₂->Nk F (l₁.take n) (l₂.take n)
 | _,_,0,_=>.nil
 | _,_,_+1,.nil=>.nil
 | _,_,n+1,.cons r t=>.cons r (Paired.xw n t)
def Paired.xr {α β:Type} {F:α->β->Prop}:∀ {l₁:List α} {l₂:List β} (n:Nat),Nk F l₁ l₂->Nk F (l₁.drop n) (l₂.drop n)
 | _,_,0,r=>r
 | _,_,_+1,.nil=>.nil
 | _,_,n+1,.cons _ t=>Paired.xr n t
def Paired.of_map {α β γ:Type} {F:α->β->Prop} {f:γ->α} {g:γ->β} (h:∀ c,F (f c) (g c)):∀ l:List γ,Nk F (l.map f) (l.map g)
 | []=>.nil
 | c :: r=>.cons (h c) (Paired.of_map h r)
instance {α:Type} [Rep α]:Rep (List α) :=
 ⟨fun K H v l=>∃ p xs,v=.ref p/\SqL K H p xs/\Nk (Rep.is K H) xs l,fun e ⟨p,xs,h1,h2,h3⟩=>⟨p,xs,h1,e.seq h2,Paired.ck h3 fun _ _ q=>Rep.mono e q⟩⟩
def aj.tup {K:LO} {H H':Hp} {a:Addr} {xs:List V} (e:aj H H') (h:SqT K H a xs):SqT K H' a xs:=by
 rcases h with (h|⟨o,h⟩)|h
 ·exact .inl (.inl (e _ _ h))
 ·exact .inl (.inr ⟨o,e _ _ h⟩)
 ·exact .inr h
instance {α β:Type} [Rep α] [Rep β]:Rep (α×β) :=
 ⟨fun K H v l=>∃ p x y,v=.ref p/\SqT K H p [x,y]/\Rep.is K H x l.1/\Rep.is K H y l.2,fun e ⟨p,x,y,h1,h2,h3,h4⟩=>⟨p,x,y,h1,e.tup h2,Rep.mono e h3,Rep.mono e h4⟩⟩
abbrev At {α:Type} [Rep α] (K:LO) (H:Hp) (v:V) (a:α):Prop:=Rep.is K H v a
def A6 {K:LO} {H:Hp} {p:Addr} {ns:List Int} (h:SqL K H p (ns.map V.int)):At K H (.ref p) ns:=⟨p,_,rfl,h,by
 have q:=Paired.of_map (F:=fun (v:V) (a:Int)=>v=.int a) (f:=V.int) (g:=id) (fun _=>rfl) ns;rw [QK] at q;exact q⟩
def i4 {K:LO} {H:Hp} {v:V} {ns:List Nat} (h:At K H v ns):∃ p,v=.ref p/\SqL K H p (ns.map fun (n:Nat)=>V.int (n:Int)):=by
 obtain ⟨p,xs,rfl,hS,hP⟩:=h;refine ⟨p,rfl,?_⟩;have e:xs=ns.map fun (n:Nat)=>V.int (n:Int):=by
  clear hS
  induction hP with
  | nil=>rfl
  | cons r _ ih=>rw [Mz,<- ih];exact congrArg (· :: _) r
 rw [<- e];exact hS
def At.item {α:Type} [Rep α] {K:LO} {H:Hp} {v:V} {l:List α} {i:Nat} {a:α} (h:At K H v l) (e:l[i]?=some a):∃ p xs x,v=.ref p/\SqL K H p xs/\atI xs (i:Int)=some x/\At K H x a:=by
 obtain ⟨p,xs,rfl,hS,hP⟩:=h;obtain ⟨x,hx,r⟩:=Paired.get hP e;exact ⟨p,xs,x,rfl,hS,gh hx,r⟩
def At.len {α:Type} [Rep α] {K:LO} {H:Hp} {v:V} {l:List α} (h:At K H v l):∃ p xs,v=.ref p/\SqL K H p xs/\xs.length=l.length:=by
 obtain ⟨p,xs,rfl,hS,hP⟩:=h;exact ⟨p,xs,rfl,hS,hP.length⟩
class bQ (α:Type) [Rep α] [DecidableEq α] where
 depth:Nat
 inj:∀ {X:Cx} {pins:List (Addr×Obj)} {σ:St} {H:Hp} {s:LV} {x:V} {a b:α},Inv X pins σ H s->At X.K H x a->At X.K H x b->a=b
 eq:∀ {X:Cx} {pins:List (Addr×Obj)} {σ:St} {H:Hp} {s:LV} {A:MQ} {x y:V} {u v:Value} {a b:α},Inv X pins σ H s->At X.K H x a->At X.K H y b->RelV x u->RelV y v->A.units+depth<cLine ->
  Tw A s u v (decide (a=b))
instance:bQ Int where
 depth:=0
 inj:=fun _ h h'=>by cases h;cases h';rfl
 eq:=fun {X pins σ H s A x y u v a b} _ hx hy ru rv _=>by
  cases hx;cases hy;have q:=sT (A:=A) (s:=s) ru rv rfl rfl;have e:eqV (.int a) (.int b)=decide (a=b):=rfl;rw [e] at q;exact q
instance:bQ Nat where
 depth:=0
 inj:=fun _ h h'=>by
  have q:=(show _=V.int _ from h).symm.trans (show _=V.int _ from h');injection q with q;exact RH q
 eq:=fun {X pins σ H s A x y u v a b} _ hx hy ru rv _=>by
  cases hx;cases hy;have q:=sT (A:=A) (s:=s) ru rv rfl rfl;have e:eqV (.int (a:Int)) (.int (b:Int))=decide (a=b):=by
   show decide ((a:Int)=(b:Int))=decide (a=b);exact decide_eq_decide.mpr Int.ofNat_inj
  rw [e] at q;exact q
def Hi {A:MQ} {n:Nat} (h:A.units+(n+1)<cLine):A.in1.units+n<cLine:=by
 show A.units+1+n<cLine;omega
def m6 {X:Cx} {pins:List (Addr×Obj)} {σ:St} {H:Hp} {s:LV} {α:Type} [Rep α] [DecidableEq α] [bQ α] (I:Inv X pins σ H s) :
  ∀ {xs:List V} {as bs:List α},Nk (Rep.is X.K H) xs as->Nk (Rep.is X.K H) xs bs->as=bs
 | _,_,_,.nil,.nil=>rfl
 | _,_,_,.cons r t,.cons r' t'=>by rw [bQ.inj I r r',m6 I t t']
def range_all {α:Type} [DecidableEq α]:∀ (as bs:List α),as.length=bs.length->((LY as.length).all fun j=>decide (as[j]?=bs[j]?))=decide (as=bs):=by
 intro as bs hl;rw [NR];simp only [MA,Ma,decide_eq_true_eq];constructor
 ·intro h;refine OA fun i=>?_
  by_cases hi:i<as.length
  ·exact h i hi
  ·rw [MM (by omega),MM (by omega)]
 ·intro h i _;rw [h]
def uY {X:Cx} {pins:List (Addr×Obj)} {σ:St} {H:Hp} {s:LV} {A:MQ} {α:Type} [Rep α] [DecidableEq α] [bQ α] {p q:Addr} {xs ys:List V} {as bs:List α}
  (I:Inv X pins σ H s) (h1:SqL X.K H p xs) (r1:Nk (Rep.is X.K H) xs as) (h2:SqL X.K H q ys) (r2:Nk (Rep.is X.K H) ys bs) (hu:A.units+(bQ.depth α+1)<cLine) (hl:as.length=bs.length) :
  ∃ its its2:List Value,s.heap.IsList p its.toArray/\s.heap.IsList q its2.toArray/\its.toArray.size=its2.toArray.size/\its.toArray.size=as.length /\
   ∀ j (h1:j<its.toArray.size) (h2:j<its2.toArray.size),Tw A.in1 s its.toArray[j] its2.toArray[j] (decide (as[j]?=bs[j]?)):=by
 obtain ⟨its,v1,p1,_⟩:=I.list h1;obtain ⟨its2,v2,p2,_⟩:=I.list h2;have e1:=v1.length;have e2:=v2.length;have e3:=r1.length;have e4:=r2.length;refine ⟨its,its2,p1.isList,p2.isList,by simp;omega,by simp;omega,fun j h1 h2=>?_⟩
 have h1':j<its.length:=by simpa using h1
 have h2':j<its2.length:=by simpa using h2
 have hx:j<xs.length:=by omega
 have hy:j<ys.length:=by omega
 obtain ⟨u,hu1,ru⟩:=v1.get (i:=j) (x:=xs[j]) (by simp [hx])
 obtain ⟨v,hv1,rv⟩:=v2.get (i:=j) (x:=ys[j]) (by simp [hy])
 obtain ⟨a,ha,ra⟩:=Paired.getL r1 (i:=j) (a:=xs[j]) (by simp [hx])
 obtain ⟨b,hb,rb⟩:=Paired.getL r2 (i:=j) (a:=ys[j]) (by simp [hy])
 have eu:its.toArray[j]=u:=by
  have:its[j]?=some its[j]:=by simp [h1']
  rw [this] at hu1
  simpa using hu1
 have ev:its2.toArray[j]=v:=by
  have:its2[j]?=some its2[j]:=by simp [h2']
  rw [this] at hv1
  simpa using hv1
 rw [eu,ev,ha,hb];have z:=bQ.eq (A:=A.in1) I ra rb ru rv (Hi hu);have e:decide (some a=some b)=decide (a=b):=by simp
 rw [e];exact z
instance {α:Type} [Rep α] [DecidableEq α] [bQ α]:bQ (List α) where
 depth:=bQ.depth α+1
 inj:=fun {X pins σ H s x a b} I h h'=>by
  obtain ⟨p,xs,e,h1,r1⟩:=h;obtain ⟨q,ys,e',h2,r2⟩:=h';subst e;cases e';have:=I.jg h1 h2;subst this;exact m6 I r1 r2
 eq:=fun {X pins σ H s A x y u v a b} I hx hy ru rv hu=>by
  obtain ⟨p,xs,e,h1,r1⟩:=hx;obtain ⟨q,ys,e',h2,r2⟩:=hy;subst e e';cases (show u=Mt p from ru);cases (show v=Mt q from rv)
  by_cases hpq:p=q
  ·subst hpq;have:=I.jg h1 h2;subst this;have:=m6 I r1 r2;subst this;rw [decide_eq_true rfl];exact Sm _
  ·refine SeqAt.EqAt.of_refs hpq ?_;have hu0:A.units<cLine:=by omega
   by_cases hl:a.length=b.length
   ·obtain ⟨its,its2,l1,l2,e1,e2,he⟩:=uY (A:=A) I h1 r1 h2 r2 hu hl;have z:=SeqAt.RcAt.lists l1 l2 e1 hu0 he;rw [e2,range_all a b hl] at z;exact z
   ·obtain ⟨its,v1,p1,_⟩:=I.list h1;obtain ⟨its2,v2,p2,_⟩:=I.list h2;have e1:=v1.length;have e2:=v2.length;have e3:=r1.length;have e4:=r2.length;rw [decide_eq_false (fun z=>hl (by rw [z]))]
    exact SeqAt.RcAt.lists_lengths p1.isList p2.isList (by simp;omega) hu0
def JE {X:Cx} (α:Type) [Rep α] [DecidableEq α] [bQ α] (hu:X.A.units+64<cLine) (hd:bQ.depth α<=32:=by decide) :
  OpR X (compareOp .Eq) (fun x y H Q=>∃ as bs:List α,At X.K H x as/\At X.K H y bs/\Q (.bl (decide (as=bs))) H):=by
 intro pins s σ H x y u v Q I ru rv h;obtain ⟨as,bs,⟨p,xs,e,h1,r1⟩,⟨q,ys,e',h2,r2⟩,hq⟩:=h;subst e e';cases (show u=Mt p from ru);cases (show v=Mt q from rv);have hu0:X.A.units<cLine:=by omega
 by_cases hl:as.length=bs.length
 ·obtain ⟨its,its2,l1,l2,e1,e2,he⟩:=uY (A:=X.A) I h1 r1 h2 r2 (by omega) hl
  refine SeqAt.eq_listAt l1 l2 e1 hu0 he ?_;rw [e2,range_all as bs hl];exact ⟨.bl _,H,I,rfl,hq⟩
 ·obtain ⟨its,v1,p1,_⟩:=I.list h1;obtain ⟨its2,v2,p2,_⟩:=I.list h2;have e1:=v1.length;have e2:=v2.length;have e3:=r1.length;have e4:=r2.length;rw [decide_eq_false (fun z=>hl (by rw [z]))] at hq
  exact SeqAt.eq_list_lengthsAt p1.isList p2.isList (by simp;omega) hu0 ⟨.bl false,H,I,rfl,hq⟩
def J2 {X:Cx} (α:Type) [Rep α] [DecidableEq α] [bQ α] (hu:X.A.units+64<cLine) (hd:bQ.depth α<=32:=by decide) :
  OpR X (compareOp .NotEq) (fun x y H Q=>∃ as bs:List α,At X.K H x as/\At X.K H y bs/\Q (.bl (!decide (as=bs))) H):=by
 intro pins s σ H x y u v Q I ru rv h;obtain ⟨as,bs,⟨p,xs,e,h1,r1⟩,⟨q,ys,e',h2,r2⟩,hq⟩:=h;subst e e';cases (show u=Mt p from ru);cases (show v=Mt q from rv);have hu0:X.A.units<cLine:=by omega
 have fin:∀ k:Bool,Q (.bl k) H->SM k≠Value.notImplemented/\EP X pins σ Q (.bool k) s:=fun k z=>⟨(fun z=>nomatch z),.bl k,H,I,rfl,z⟩
 by_cases hl:as.length=bs.length
 ·obtain ⟨its,its2,l1,l2,e1,e2,he⟩:=uY (A:=X.A) I h1 r1 h2 r2 (by omega) hl
  obtain ⟨⟨cls,dd,data,sl⟩,ho,hc,n,hd'⟩:=id l1;obtain ⟨⟨cls2,dd2,data2,sl2⟩,ho2,hc2,n2,hd2⟩:=id l2;simp only at hc hd' hc2 hd2;subst hc hd' hc2 hd2;have hq':=fin _ hq;rw [<- range_all as bs hl,<- e2] at hq';exact Sa (op:=.NotEq) ⟨_,ho,rfl⟩ ⟨_,ho2,rfl⟩ F.slot_list_ne F.entry_list_ne (F.args_list_ne_2 _ _) (SeqAt.list_neAt p q _ _ n n2 dd dd2 sl sl2 e1 _) ⟨ho,ho2,he,hq'⟩ hu0
 ·obtain ⟨its,v1,p1,_⟩:=I.list h1;obtain ⟨its2,v2,p2,_⟩:=I.list h2;have e1:=v1.length;have e2:=v2.length;have e3:=r1.length;have e4:=r2.length;rw [decide_eq_false (fun z=>hl (by rw [z]))] at hq
  obtain ⟨⟨cls,dd,data,sl⟩,ho,hc,n,hd'⟩:=id p1.isList;obtain ⟨⟨cls2,dd2,data2,sl2⟩,ho2,hc2,n2,hd2⟩:=id p2.isList;simp only at hc hd' hc2 hd2;subst hc hd' hc2 hd2;exact Sa (op:=.NotEq) ⟨_,ho,rfl⟩ ⟨_,ho2,rfl⟩ F.slot_list_ne F.entry_list_ne (F.args_list_ne_2 _ _) (SeqAt.list_ne_lengthsAt p q _ _ n n2 dd dd2 sl sl2 (by simp;omega)) ⟨ho,ho2,fin _ hq⟩ hu0
def Ah {X:Cx}:cE X (.builtin "isinstance") (fun xs H Q=>∃ x n t b,xs=[x,.ty n]/\gS X.K H x t/\Nw X.K t (.type n)=some b/\Q (.bl b) H):=by
 intro pins s σ H xs us Q I r h;obtain ⟨x,n,t,b,rfl,ty,e,q⟩:=h;obtain ⟨u,v,rfl,ru,rv⟩:=r.two;cases (show v=SN n from rv);exact Fe I ru ty e fun tk=>⟨.bl b,H,I.tok tk,rfl,q⟩
structure Df (K:LO) (mg:Str->Option Value) (x:Str) (st:Stmt) (ps:List Str) where
 f:Addr
 fd:Na
 fn:Fun K x x st f fd
 bd:Binds K fd ps []
 nm:mg x=some (.ref f)
section
variable {X:Cx} {x:Str} {st:Stmt} {ps:List Str} {k:Nat} {sp:Sp} {p pos:Pos} {e:Expr} {es:List Expr} {t:TA}
def Lb (d:Df X.K X.mg x st ps) (G:aH X.prog X.w X.K X.mg X.base CX0 k d.f d.fd ps sp) (hr:bX k X.A) (hg:Gl X x) (ha:PA X (e :: es) t) (hdb:(x == ("__debug__" : Str))=false:=by decide)
  (he:MS (e :: es) X.env=(false,eval e X.env) :: MS es X.env:=by rfl) (hpl:(backTo pos (MS es X.env)).any (·.1)=false:=by rfl) :
  PE X (.Call (.Name x p) (e :: es) [] pos) (nG sp [] E0 t):=qr G hr hg d.nm d.fn.kp d.bd .nil Dk ha hdb he hpl
end
def Df.ok {P:Mi} {w:World} {K:LO} {mg:Str->Option Value} {base:Heap} {x:Str} {st:Stmt} {N ps:List Str} {k:Nat} {sp:Sp} (d:Df K mg x st ps) (S:aK N ps (ak st)) (len:∀ vs H Q E,sp vs H Q E->vs.length=ps.length)
  (hbody:∀ (cdv:Value) (A:MQ) (outer:List Env) (s:LV) (H:Hp) (vs:List V) (Q:VK) (E:XK),bX k (A.deeper (envOfC x (ak st) s.heap.objs.size d.f cdv))->sp vs H Q E ->
   ∃ t,PSs (iN CX0 P w K mg base N x (ak st) d.f cdv A outer s H E).nox (bC st) t/\t { nx:=fun _ H'=>Q .non H',rt:=Q } (start N vs) H):aH P w K mg base CX0 (k+1) d.f d.fd ps sp :=
 d.fn.ok S len hbody
def ay {H:Hp} {p:Addr} (h:H p=none) (o:HO):aj H (upd H p o):=fun b u q=>by rw [aA (aQ q h)];exact q
def small {n:Nat} (h:n<=1000):n<=My:=Ou (Es h)
def isB (x:V) (H:Hp) (QB:Bool->Hp->Prop):Prop:=∃ k,x=.bl k/\QB k H
abbrev isF (K:LO) (f:Str) (x:V) (H1:Hp) (Q:VK):Prop:=∃ a C dx fs v,x=.ref a/\H1 a=some (.ins C dx fs)/\Cls K C/\bO K C f/\fs.lookup f=some v/\Q v H1
def isI (x:V) (H:Hp) (QO:Option Int->Hp->Prop):Prop:=∃ i,x=.int i/\QO (some i) H
def lK (g:TG) (t:TS) (D:Ends) (σ:St):It->Hp->Prop:=fun J H1=>∃ W:Nat->Nat->St->Hp->Prop,(∃ m,W 0 m σ H1)/\∀ i m σ H,W i m σ H ->
  (J.stop i H/\D.nx σ H)\/(J.go i H/\∃ N:St->Hp->Prop,(∀ σ' H',N σ' H'->∃ m',m' < m/\W (i+1) m' σ' H')/\∀ x H',J.yld i H x H'->g x σ H' fun σ2 H2=>t { D with nx:=N,ct:=N,bk:=D.nx } σ2 H2)
def js (own:List Str) (fr:List Nat) (g:TG) (tt:TT) (ta:TE) (σ:St) (Q:VK):It->Hp->Prop:=fun J H1=>∀ d,H1 d=none->∃ W:Nat->Nat->St->Hp->Prop,(∃ m,W 0 m (dA own fr σ) (upd H1 d (.lst [])))/\∀ i m σ' H',W i m σ' H' ->
  (J.stop i H'/\Q (.ref d) H')\/(J.go i H'/\∀ x H2,J.yld i H' x H2->g x σ' H2 fun σ2 H3=>tt σ2 H3 fun ok H4 =>
   if ok=true then ta σ2 H4 fun y H5=>∃ ys,H5 d=some (.lst ys)/\ys.length<My/\∃ m',m' < m/\W (i+1) m' σ2 (upd H5 d (.lst (ys++[y]))) else ∃ m',m' < m/\W (i+1) m' σ2 H4)
def pJ (K:LO) (x:V) (H:Hp) (R:It->Hp->Prop):Prop:=∃ a,x=.ref a/\(∃ xs,SqL K H a xs)/\R (Itl K a) H
def CG (vs:List V) (H:Hp) (R:It->Hp->Prop):Prop:=∃ j:Int,vs=[.int j]/\-(2 ^ 62)<=j/\j<2 ^ 62/\R (Itr 0 j.toNat) H
section
variable {σ:St} {H:Hp} {Q:VK} {QB:Bool->Hp->Prop} {D:Ends} {K:LO} {t u:TS} {ta tb tc:TE} {g:TG} {i:Nat} {v x y:V} {tt tu:TT} {tA:TA} {a b:Int}
def ue (h:D.nx σ H):HJ D σ H:=h
def xS (h:ta σ H fun x H1=>g x σ H1 D.nx):BZ ta g D σ H:=h
def pe {QS:St->Hp->Prop} (h:QS (σ.set i (some v)) H):iy i v σ H QS:=h
def sZ (h:ta σ H fun _ H1=>D.nx σ H1):HR ta D σ H:=h
def xJ (h:ta σ H D.rt):JL ta D σ H:=h
def HX (h:tt σ H fun b H1=>if b=true then t D σ H1 else u D σ H1):G5 tt t u D σ H:=h
def dG (J:St->Hp->Prop) (main:∀ N:St->Hp->Prop,(∀ σ' H',J σ' H'->N σ' H')->tt σ H fun b H1=>if b=true then t { D with nx:=N } σ H1 else u { D with nx:=N } σ H1)
  (key:∀ σ' H',J σ' H'->D.nx σ' H'):G5 tt t u D σ H:=main D.nx key
def xA (e:σ[i]?=some (some v)) (h:Q v H):Cc i σ H Q:=⟨v,e,h⟩
def r_C (h:Q v H):tC v σ H Q:=h
def Ck {r:R2} (h:ta σ H fun x H1=>tb σ H1 fun y H2=>r x y H2 Q):tOp r ta tb σ H Q:=h
def xx {f:Int->Int->V} (h:Q (f a b) H):rI0 f (.int a) (.int b) H Q:=⟨a,b,rfl,rfl,h⟩
def rX {C:Int->Int->Prop} {f:Int->Int->V} (c:C a b) (h:Q (f a b) H):rI C f (.int a) (.int b) H Q:=⟨a,b,rfl,rfl,c,h⟩
def tD (h:Q (.bl (decide (a=b))) H):rEq (.int a) (.int b) H Q:=⟨rfl,by
 have e:decide (V.int a=V.int b)=decide (a=b):=decide_eq_decide.mpr ⟨fun z=>by injection z,fun z=>by rw [z]⟩
 rw [e];exact h⟩
def tP (h:Q (.bl (!decide (a=b))) H):rNe (.int a) (.int b) H Q:=⟨rfl,by
 have e:decide (V.int a=V.int b)=decide (a=b):=decide_eq_decide.mpr ⟨fun z=>by injection z,fun z=>by rw [z]⟩
 rw [e];exact h⟩
def ud (h:ta σ H fun x H'=>isB x H' QB):HP ta σ H QB:=h
def B5 (h:ta σ H fun x H1=>isB x H1 QB):tB ta σ H QB:=h
def Ct {c:Bool} (h:QB c H):isB (.bl c) H QB:=⟨c,rfl,h⟩
def xE (h:tt σ H fun c H1=>if c=true then tu σ H1 QB else QB false H1):J6 tt tu σ H QB:=h
def Dx (h:tt σ H fun c H1=>if c=true then QB true H1 else tu σ H1 QB):tOr tt tu σ H QB:=h
def xH (h:tt σ H fun c H1=>QB (!c) H1):Ky tt σ H QB:=h
def t6 (h:ta σ H fun x H1=>isB x H1 fun c H1=>if c=true then tb σ H1 Q else Q (.bl false) H1):Ie ta tb σ H Q:=h
def xD (h:ta σ H fun x H1=>isB x H1 fun c H1=>if c=true then Q (.bl true) H1 else tb σ H1 Q):JM ta tb σ H Q:=h
def xF {QA:List V->Hp->Prop} (h:QA [] H):vf σ H QA:=h
def sG {QA:List V->Hp->Prop} (h:ta σ H fun x H1=>tA σ H1 fun xs H2=>QA (x :: xs) H2):nh ta tA σ H QA:=h
def Ci {r:List V->Hp->VK->Prop} (h:tA σ H fun vs H1=>r vs H1 Q):tCB r tA σ H Q:=h
def sr {sp:Sp} {E:XK} (h:tA σ H fun vs H1=>sp (vs++[]) H1 Q E):nG sp [] E tA σ H Q:=h
def bo (h:tA σ H fun xs H1=>xs.length<=My/\∀ p,H1 p=none->Q (.ref p) (upd H1 p (.lst xs))):yZ tA σ H Q:=h
def qy (h:tA σ H fun xs H1=>xs.length<=My/\∀ p,H1 p=none->Q (.ref p) (upd H1 p (.tup xs))):KO tA σ H Q:=h
def xN (h:ta σ H fun x H1=>Q (.bl (decide (x=.non))) H1):KS ta σ H Q:=h
def tT (h:ta σ H fun x H1=>Q (.bl (!decide (x=.non))) H1):HK ta σ H Q:=h
def xG {wi:TI} (h:wi σ H (lK g t D σ)):J4 wi g t D σ H:=h
def qx {R:It->Hp->Prop} (h:ta σ H fun x H1=>pJ K x H1 R):CY K ta σ H R:=h
def ql {R:It->Hp->Prop} (h:tA σ H fun vs H1=>CG vs H1 R):Dy tA σ H R:=h
def uh {own:List Str} {fr:List Nat} {wi:TI} (h:wi σ H (js own fr g tt ta σ Q)):xq own fr wi g tt ta σ H Q:=h
def Cq {r:V->Option Int->Option Int->Hp->VK->Prop} {tl th:TO} (h:ta σ H fun x H1=>tl σ H1 fun l H2=>th σ H2 fun u H3=>r x l u H3 Q):tSl r ta tl th σ H Q:=h
def nA {QO:Option Int->Hp->Prop} (h:QO none H):BF σ H QO:=h
def tV {QO:Option Int->Hp->Prop} (h:ta σ H fun x H1=>isI x H1 QO):HW ta σ H QO:=h
def sY {QO:Option Int->Hp->Prop} (h:QO (some a) H):isI (.int a) H QO:=⟨a,rfl,h⟩
def CQ {T:String} {r:V->List V->Hp->VK->Prop} (h:ta σ H fun x H1=>tyV K T x H1/\tA σ H1 fun xs H2=>r x xs H2 Q):tBM K T r ta tA σ H Q:=h
def xQ {f:Str} (h:ta σ H fun x H1=>isF K f x H1 Q):Ht K ta f σ H Q:=h
def sj {C:Addr} {sp:Sp} {dvs:List V} {E:XK} (h:tA σ H fun vs H1=>∀ x dx,H1 x=none->H1 dx=none->dx≠x->sp (.ref x :: (vs++dvs)) (upd (upd H1 dx (.own x)) x (.ins C dx [])) (fun v H2=>v=.non/\Q (.ref x) H2) E):CZ C sp dvs E tA σ H Q:=h
def sX {f:Str} (h:tb σ H fun y H1=>ta σ H1 fun x H2=>∃ a C dx fs,x=.ref a/\H2 a=some (.ins C dx fs)/\Cls K C/\bO K C f/\fs.length<1000/\D.nx σ (upd H2 a (.ins C dx (d8 f y fs)))):FT K ta tb f D σ H:=h
def cR {α:Type} [Rep α] {l:List α} {n:Nat} {c:α} (h:At K H v l) (e:a=(n:Int)) (hn:l[n]?=some c) (q:∀ w,At K H w c->Q w H):rV K v (.int a) H Q:=by
 obtain ⟨p,xs,x,rfl,hS,hx,hc⟩:=h.item hn;subst e;exact ⟨p,xs,_,x,rfl,rfl,hS,hx,q x hc⟩
def gH {l:List Nat} {n c:Nat} (h:At K H v l) (e:a=(n:Int)) (hn:l[n]?=some c) (q:Q (.int (c:Int)) H):rV K v (.int a) H Q :=
 cR h e hn fun w hw=>by cases (show w=V.int (c:Int) from hw);exact q
def jR {l:List Int} {n:Nat} {c:Int} (h:At K H v l) (e:a=(n:Int)) (hn:l[n]?=some c) (q:Q (.int c) H):rV K v (.int a) H Q :=
 cR h e hn fun w hw=>by cases (show w=V.int c from hw);exact q
def bV {n:Nat} (e:a=(n:Int)) (hn:n<=1000000) (Pv:Nat->St->Hp->Prop) (h0:Pv 0 σ H)
  (hs:∀ i σ' H',i<n->Pv i σ' H'->g (.int (i:Int)) σ' H' fun σ2 H2=>t { D with nx:=Pv (i+1),ct:=Pv (i+1),bk:=D.nx } σ2 H2) (hd:∀ σ' H',Pv n σ' H'->D.nx σ' H') :
  CG [.int a] H (lK g t D σ):=by
 subst e;refine ⟨n,rfl,by omega,by omega,?_⟩
 have z:((n:Int)).toNat=n:=by omega
 show lK g t D σ (Itr 0 (n:Int).toNat) H;rw [z];exact Ez Pv h0 (fun i σ' H' hi p=>by rw [Int.zero_add];exact hs i σ' H' hi p) hd
def dE {α:Type} [Rep α] {l:List α} (h:At K H v l) (Pv:Nat->St->Hp->Prop) (h0:Pv 0 σ H) (hl:∀ i σ' H',Pv i σ' H'->aj H H')
  (hs:∀ i c w σ' H',l[i]?=some c->At K H' w c->Pv i σ' H'->g w σ' H' fun σ2 H2=>t { D with nx:=Pv (i+1),ct:=Pv (i+1),bk:=D.nx } σ2 H2) (hd:∀ σ' H',Pv l.length σ' H'->D.nx σ' H') :
  pJ K v H (lK g t D σ):=by
 obtain ⟨p,xs,rfl,hS,hP⟩:=h;refine ⟨p,rfl,⟨xs,hS⟩,rN (K:=K) (a:=p) (xs:=xs) Pv h0 (fun i σ' H' _ q=>(hl i σ' H' q).seq hS) (fun i x σ' H' hx q=>?_) (fun σ' H' q=>?_)⟩
 ·obtain ⟨c,hc,r⟩:=Paired.getL hP hx;exact hs i c x σ' H' hc (Rep.mono (hl i σ' H' q) r) q
 ·rw [hP.length] at q;exact hd σ' H' q
def del (H:Hp) (d:Addr):Hp:=fun a=>if a=d then none else H a
def eM {H:Hp} {d b:Addr} (h:b≠d):del H d b=H b:=if_neg h
def kP {H H':Hp} {d:Addr} (e:aj H H'):aj (del H d) (del H' d):=fun b o h=>by
 by_cases hb:b=d
 ·rw [hb] at h;have z:del H d d=none:=if_pos rfl;rw [z] at h;cases h
 ·rw [eM hb] at h ⊢;exact e b o h
def ik {H:Hp} {d:Addr} {o:HO}:aj (del H d) (del (upd H d o) d):=fun b u h=>by
 by_cases hb:b=d
 ·rw [hb] at h;have z:del H d d=none:=if_pos rfl;rw [z] at h;cases h
 ·rw [eM hb] at h ⊢;rw [aA hb];exact h
def kH {H:Hp} {d:Addr}:aj (del H d) H:=fun b u h=>by
 by_cases hb:b=d
 ·rw [hb] at h;have z:del H d d=none:=if_pos rfl;rw [z] at h;cases h
 ·rw [eM hb] at h;exact h
def BJ {β:Type} [Rep β] {J:It} {n:Nat} {own:List Str} {fr:List Nat} (Src:Nat->V->Hp->Prop) (acc:Nat->List β) (Sh:St->Prop)
  (hgo:∀ i H',i<n->aj H H'->J.go i H') (hst:∀ H',aj H H'->J.stop n H') (hy:∀ i H' x H2,i<n->aj H H'->J.yld i H' x H2->H2=H'/\Src i x H')
  (hz:n<=100000) (ha0:acc 0=[]) (hal:∀ i,i<=n->(acc i).length<=i) (h0:Sh (dA own fr σ))
  (turn:∀ i w σ' H' (d:Addr) (R:St->V->Hp->Prop) (R0:St->Hp->Prop),i<n->aj H H'->Src i w H'->Sh σ' ->
   (∀ σ2 y b H5,Sh σ2->aj H' H5->At K (del H5 d) y b->acc (i+1)=acc i++[b]->R σ2 y H5)->(∀ σ2 H5,Sh σ2->aj H' H5->acc (i+1)=acc i->R0 σ2 H5)->(∃ ys,H' d=some (.lst ys)) ->
   g w σ' H' fun σ2 H3=>tt σ2 H3 fun ok H4=>if ok=true then ta σ2 H4 (R σ2) else R0 σ2 H4)
  (fin:∀ d H',H d=none->aj H H'->(∃ ys,H' d=some (.lst ys)/\Nk (Rep.is K (del H' d)) ys (acc n))->Q (.ref d) H') (d:Addr) (hd:H d=none) :
  ∃ W:Nat->Nat->St->Hp->Prop,(∃ m,W 0 m (dA own fr σ) (upd H d (.lst [])))/\∀ i m σ' H',W i m σ' H' ->
   (J.stop i H'/\Q (.ref d) H')\/(J.go i H'/\∀ x H2,J.yld i H' x H2->g x σ' H2 fun σ2 H3=>tt σ2 H3 fun ok H4 =>
    if ok=true then ta σ2 H4 fun y H5=>∃ ys,H5 d=some (.lst ys)/\ys.length<My/\∃ m',m' < m/\W (i+1) m' σ2 (upd H5 d (.lst (ys++[y]))) else ∃ m',m' < m/\W (i+1) m' σ2 H4):=by
 refine ⟨fun i m σ' H'=>m=n - i/\i<=n/\Sh σ'/\aj H H'/\∃ ys,H' d=some (.lst ys)/\Nk (Rep.is K (del H' d)) ys (acc i),⟨n,rfl,MI _,h0,ay hd _,[],ar,by rw [ha0];exact .nil⟩,?_⟩
 rintro i m σ' H' ⟨rfl,hi,hsh,hs,ys,hys,hp⟩
 by_cases hlt:i<n
 ·refine .inr ⟨hgo i H' hlt hs,fun x H2 hx=>?_⟩;obtain ⟨rfl,hsrc⟩:=hy i H' x H2 hlt hs hx;refine turn i x σ' H2 d _ _ hlt hs hsrc hsh (fun σ2 y b H5 h1 h2 h3 h4=>?_) (fun σ2 H5 h1 h2 h4=>?_) ⟨ys,hys⟩
  ·have hl:=hp.length;have hl2:=hal i hi;refine ⟨ys,h2 _ _ hys,NM (show ys.length<=100000 by omega) (by rw [MX];decide),n - (i+1),by omega,rfl,hlt,h1,fun b' o e=>?_,ys++[y],ar,?_⟩
   ·rw [aA (aQ e hd)];exact h2 _ _ (hs _ _ e)
   ·rw [h4];exact Paired.app (Paired.ck hp fun _ _ q=>Rep.mono ik (Rep.mono (kP h2) q)) (.cons (Rep.mono ik h3) .nil)
  ·refine ⟨n - (i+1),by omega,rfl,hlt,h1,hs.trans h2,ys,h2 _ _ hys,?_⟩
   rw [h4];exact Paired.ck hp fun _ _ q=>Rep.mono (kP h2) q
 ·have e:i=n:=by omega
  subst e;exact .inl ⟨hst H' hs,fin d H' hd hs ⟨ys,hys,hp⟩⟩
def pS {α β:Type} [Rep α] [Rep β] {l:List α} {own:List Str} {fr:List Nat} (h:At K H v l) (hz:l.length<=100000) (acc:Nat->List β) (Sh:St->Prop) (ha0:acc 0=[]) (hal:∀ i,i<=l.length->(acc i).length<=i) (h0:Sh (dA own fr σ))
  (turn:∀ i c w σ' H' (d:Addr) (R:St->V->Hp->Prop) (R0:St->Hp->Prop),l[i]?=some c->aj H H'->At K H' w c->Sh σ' ->
   (∀ σ2 y b H5,Sh σ2->aj H' H5->At K (del H5 d) y b->acc (i+1)=acc i++[b]->R σ2 y H5)->(∀ σ2 H5,Sh σ2->aj H' H5->acc (i+1)=acc i->R0 σ2 H5)->(∃ ys,H' d=some (.lst ys)) ->
   g w σ' H' fun σ2 H3=>tt σ2 H3 fun ok H4=>if ok=true then ta σ2 H4 (R σ2) else R0 σ2 H4)
  (fin:∀ d H',H d=none->aj H H'->(∃ ys,H' d=some (.lst ys)/\Nk (Rep.is K (del H' d)) ys (acc l.length))->Q (.ref d) H') :
  pJ K v H (js own fr g tt ta σ Q):=by
 obtain ⟨p,xs,rfl,hS,hP⟩:=h;have hl:=hP.length;refine ⟨p,rfl,⟨xs,hS⟩,BJ (J:=Itl K p) (n:=l.length) (fun i w H'=>∃ c,l[i]?=some c/\At K H' w c) acc Sh (fun i H' hi e=>⟨xs,xs[i]'(by omega),e.seq hS,by simp [hl,hi]⟩) (fun H' e=>⟨xs,e.seq hS,QZ hl⟩)
  (fun i H' x H2 hi e hy=>?_) hz ha0 hal h0 (fun i w σ' H' d R R0 hi e ⟨c,hc,hw⟩=>turn i c w σ' H' d R R0 hc e hw) fin⟩
 obtain ⟨e1,e2⟩:=hy;have z:=e2 xs (e.seq hS);obtain ⟨c,hc,r⟩:=Paired.getL hP z;exact ⟨e1,c,hc,Rep.mono e r⟩
def mJ (K:LO) {β:Type} [Rep β] {n:Nat} {own:List Str} {fr:List Nat} (e:a=(n:Int)) (hz:n<=100000) (acc:Nat->List β) (Sh:St->Prop) (ha0:acc 0=[]) (hal:∀ i,i<=n->(acc i).length<=i) (h0:Sh (dA own fr σ))
  (turn:∀ i σ' H' (d:Addr) (R:St->V->Hp->Prop) (R0:St->Hp->Prop),i<n->aj H H'->Sh σ' ->
   (∀ σ2 y b H5,Sh σ2->aj H' H5->At K (del H5 d) y b->acc (i+1)=acc i++[b]->R σ2 y H5)->(∀ σ2 H5,Sh σ2->aj H' H5->acc (i+1)=acc i->R0 σ2 H5)->(∃ ys,H' d=some (.lst ys)) ->
   g (.int (i:Int)) σ' H' fun σ2 H3=>tt σ2 H3 fun ok H4=>if ok=true then ta σ2 H4 (R σ2) else R0 σ2 H4)
  (fin:∀ d H',H d=none->aj H H'->(∃ ys,H' d=some (.lst ys)/\Nk (Rep.is K (del H' d)) ys (acc n))->Q (.ref d) H') :
  CG [.int a] H (js own fr g tt ta σ Q):=by
 subst e;refine ⟨n,rfl,by omega,by omega,?_⟩
 have z:((n:Int)).toNat=n:=by omega
 show js own fr g tt ta σ Q (Itr 0 (n:Int).toNat) H;rw [z];refine BJ (J:=Itr 0 n) (n:=n) (fun i w _=>w=.int (i:Int)) acc Sh (fun i H' hi _=>hi) (fun H' _=>Mb n) (fun i H' x H2 hi e hy=>?_) hz ha0 hal h0 (fun i w σ' H' d R R0 hi e hw=>?_) fin
 ·obtain ⟨e1,e2⟩:=hy;exact ⟨e1,by rw [e2,Int.zero_add]⟩
 ·subst hw;exact turn i σ' H' d R R0 hi e
def i8 {α β:Type} [Rep α] [Rep β] {l:List α} {own:List Str} {fr:List Nat} (h:At K H v l) (hz:l.length<=100000) (acc:Nat->List β) (Sh:St->Prop) (ha0:acc 0=[]) (hal:∀ i,i<=l.length->(acc i).length<=i) (h0:Sh (dA own fr σ))
  (turn:∀ i c w σ' H' (d:Addr) (R:St->V->Hp->Prop) (R0:St->Hp->Prop),l[i]?=some c->aj H H'->At K H' w c->Sh σ' ->
   (∀ σ2 y b H5,Sh σ2->aj H' H5->At K (del H5 d) y b->acc (i+1)=acc i++[b]->R σ2 y H5)->(∀ σ2 H5,Sh σ2->aj H' H5->acc (i+1)=acc i->R0 σ2 H5)->(∃ ys,H' d=some (.lst ys)) ->
   g w σ' H' fun σ2 H3=>tt σ2 H3 fun ok H4=>if ok=true then ta σ2 H4 (R σ2) else R0 σ2 H4)
  (fin:∀ d H',aj H H'->At K H' (.ref d) (acc l.length)->Q (.ref d) H') :
  pJ K v H (js own fr g tt ta σ Q) :=
 pS h hz acc Sh ha0 hal h0 turn fun d H' _ hs ⟨ys,hys,hp⟩=>fin d H' hs ⟨d,ys,rfl,SqL.of hys,Paired.ck hp fun _ _ q=>Rep.mono kH q⟩
def jz (K:LO) {β:Type} [Rep β] {n:Nat} {own:List Str} {fr:List Nat} (e:a=(n:Int)) (hz:n<=100000) (acc:Nat->List β) (Sh:St->Prop) (ha0:acc 0=[]) (hal:∀ i,i<=n->(acc i).length<=i) (h0:Sh (dA own fr σ))
  (turn:∀ i σ' H' (d:Addr) (R:St->V->Hp->Prop) (R0:St->Hp->Prop),i<n->aj H H'->Sh σ' ->
   (∀ σ2 y b H5,Sh σ2->aj H' H5->At K (del H5 d) y b->acc (i+1)=acc i++[b]->R σ2 y H5)->(∀ σ2 H5,Sh σ2->aj H' H5->acc (i+1)=acc i->R0 σ2 H5)->(∃ ys,H' d=some (.lst ys)) ->
   g (.int (i:Int)) σ' H' fun σ2 H3=>tt σ2 H3 fun ok H4=>if ok=true then ta σ2 H4 (R σ2) else R0 σ2 H4)
  (fin:∀ d H',aj H H'->At K H' (.ref d) (acc n)->Q (.ref d) H') :
  CG [.int a] H (js own fr g tt ta σ Q) :=
 mJ K e hz acc Sh ha0 hal h0 turn fun d H' _ hs ⟨ys,hys,hp⟩=>fin d H' hs ⟨d,ys,rfl,SqL.of hys,Paired.ck hp fun _ _ q=>Rep.mono kH q⟩
def tW (h:QB true H):Gy σ H QB:=h
def tN {A B:Prop} (h:A):if true=true then A else B:=oP h
end
def aU {c A B:Prop} [Decidable c] (h1:c->A) (h2:¬ c->B):if decide c=true then A else B:=by
 by_cases h:c
 ·rw [decide_eq_true h];exact oP (h1 h)
 ·rw [decide_eq_false h];exact fq (h2 h)
def bH {c A B:Prop} [Decidable c] (h1:¬ c->A) (h2:c->B):if (!decide c)=true then A else B:=by
 by_cases h:c
 ·rw [decide_eq_true h];exact fq (h2 h)
 ·rw [decide_eq_false h];exact oP (h1 h)
def Gr {β:Type} [Rep β] (K:LO) (H:Hp) (d:Addr) (l:List β):Prop:=∃ ys,H d=some (.lst ys)/\Nk (Rep.is K (del H d)) ys l
section
variable {β:Type} [Rep β] {K:LO} {H H':Hp} {d:Addr} {l:List β} {y:V} {b:β} {Q:VK}
def Gr.at (h:Gr K H d l):At K H (.ref d) l:=by
 obtain ⟨ys,h1,h2⟩:=h;exact ⟨d,ys,rfl,SqL.of h1,Paired.ck h2 fun _ _ q=>Rep.mono kH q⟩
def Gr.mono (s:aj H H') (h:Gr K H d l):Gr K H' d l:=by
 obtain ⟨ys,h1,h2⟩:=h;exact ⟨ys,s _ _ h1,Paired.ck h2 fun _ _ q=>Rep.mono (kP s) q⟩
def Gr.is (h:Gr K H d l):∃ ys,H d=some (.lst ys):=let ⟨ys,h1,_⟩:=h;⟨ys,h1⟩
def Gr.ty (h:Gr K H d l):tyV K "list" (.ref d) H:=by
 obtain ⟨ys,h1,_⟩:=h;exact .inl ⟨rfl,_,SqL.of h1⟩
def fU (h:Gr K H d l) (hl:l.length<=100000) (hy:At K (del H d) y b) (q:∀ H',Gr K H' d (l++[b])->(∀ a o,a≠d->H a=some o->H' a=some o)->(∀ a,a≠d->H' a=H a)->Q .non H'):qk (.ref d) [y] H Q:=by
 obtain ⟨ys,h1,h2⟩:=h;have e:=h2.length;refine ⟨d,ys,y,rfl,rfl,h1,NM (show ys.length<=100000 by omega) (by rw [MX];decide),?_⟩
 refine q _ ⟨_,ar,Paired.app (Paired.ck h2 fun _ _ z=>Rep.mono ik z) (.cons (Rep.mono ik hy) .nil)⟩ (fun a o ha z=>by rw [aA ha];exact z) fun a ha=>aA ha
def aj.but {H₀:Hp} (hd:H₀ d=none) (s:aj H₀ H) (k:∀ a o,a≠d->H a=some o->H' a=some o):aj H₀ H':=fun a o z=>k a o (aQ z hd) (s a o z)
end
def cut {α:Type} (l:List α) (lo hi:Option Int):List α:=(l.drop (HT.sIx l.length 0 lo)).take (HT.sIx l.length l.length hi - HT.sIx l.length 0 lo)
def Iy {α:Type} [Rep α] {K:LO} {H:Hp} {v:V} {Q:VK} {l:List α} {lo hi:Option Int} (h:At K H v l) (q:∀ p H',aj H H'->H p=none->At K H' (.ref p) (cut l lo hi)->Q (.ref p) H'):B9 K v lo hi H Q:=by
 obtain ⟨p,xs,rfl,hS,hP⟩:=h;refine ⟨p,xs,rfl,hS,fun d hd=>q d _ (ay hd _) hd ⟨d,_,rfl,SqL.of ar,?_⟩⟩;have e:=hP.length;unfold rA cut;rw [e];exact Paired.xw _ (Paired.xr _ (Paired.ck hP fun _ _ z=>Rep.mono (ay hd _) z))
def Eg {H:Hp} {d p:Addr} (hd:∃ ys,H d=some (.lst ys)) (hp:H p=none):p≠d:=fun e=>by
 obtain ⟨ys,hd⟩:=hd;rw [e,hd] at hp;cases hp
def JI (K:LO):List V->Hp->VK->Prop:=fun xs H Q=>∃ p ys,xs=[.ref p]/\(SqL K H p ys\/SqT K H p ys)/\Q (.int ys.length) H
def Dw (K:LO):List V->Hp->VK->Prop:=fun xs H Q=>∃ p ys,xs=[.ref p]/\(SqL K H p ys\/SqT K H p ys)/\∀ l,H l=none->Q (.ref l) (upd H l (.lst ys))
def HC (K:LO):List V->Hp->VK->Prop:=fun xs H Q=>∃ x n t b,xs=[x,.ty n]/\gS K H x t/\Nw K t (.type n)=some b/\Q (.bl b) H
def KH (α:Type) [Rep α] [DecidableEq α] (K:LO):R2:=fun x y H Q=>∃ as bs:List α,At K H x as/\At K H y bs/\Q (.bl (decide (as=bs))) H
def KD (α:Type) [Rep α] [DecidableEq α] (K:LO):R2:=fun x y H Q=>∃ as bs:List α,At K H x as/\At K H y bs/\Q (.bl (!decide (as=bs))) H
section
variable {K:LO} {H:Hp} {Q:VK} {v x y:V} {α:Type} [Rep α] {l:List α}
def cB (h:At K H v l) (q:Q (.int (l.length:Int)) H):JI K [v] H Q:=by
 obtain ⟨p,xs,rfl,hS,e⟩:=h.len;exact ⟨p,xs,rfl,.inl hS,by rw [e];exact q⟩
def Fq {n:String} {t:Value} {b:Bool} (ty:gS K H x t) (e:Nw K t (.type n)=some b) (q:Q (.bl b) H):HC K [x,.ty n] H Q:=⟨x,n,t,b,rfl,ty,e,q⟩
def K6 [DecidableEq α] {as bs:List α} (ha:At K H x as) (hb:At K H y bs) (q:Q (.bl (decide (as=bs))) H):KH α K x y H Q:=⟨as,bs,ha,hb,q⟩
def mL [DecidableEq α] {as bs:List α} (ha:At K H x as) (hb:At K H y bs) (q:Q (.bl (!decide (as=bs))) H):KD α K x y H Q:=⟨as,bs,ha,hb,q⟩
end
section
variable {X:Cx} (K:LO) (hK:X.K=K) {e l o value:Expr} {ta tv tl:TE} {f:Str} {pos pos':Pos}
include hK
def ah:IxR X (rV K):=by subst hK;exact Jt
def km:IxR X (GZ K):=by subst hK;exact JH
def cM (he:PE X e ta) (hb:attributeBase e f X.env (eval e X.env)=eval e X.env):PE X (.Attribute e f pos) (Ht K ta f):=by subst hK;exact JS he hb
def qw (ha:PE X o ta) (hv:PE X value tv) (hs:swapsWith value (some (.Attribute o f pos')) pos.line X.env=pure false):PS X (.Assign [.Attribute o f pos'] value pos) (FT K ta tv f):=by subst hK;exact JT ha hv hs
def aY {tg:Expr} (hl:PE X l tl):PI X tg l (CY K tl):=by subst hK;exact JB hl
def rH:SlR X (B9 K):=by subst hK;exact IT
def aT:cE X (.builtin "len") (JI K):=by subst hK;exact xZ
def iP:cE X (.type "list") (Dw K):=by subst hK;exact zB
def oz:cE X (.builtin "isinstance") (HC K):=by subst hK;exact Ah
def Jl (α:Type) [Rep α] [DecidableEq α] [bQ α] (hu:X.A.units+64<cLine) (hd:bQ.depth α<=32:=by decide) :
  OpR X (compareOp .Eq) (KH α K):=by subst hK;exact JE α hu hd
def i6 (α:Type) [Rep α] [DecidableEq α] [bQ α] (hu:X.A.units+64<cLine) (hd:bQ.depth α<=32:=by decide) :
  OpR X (compareOp .NotEq) (KD α K):=by subst hK;exact J2 α hu hd
def Kg {T id:String} {name:Str} {r:V->List V->Hp->VK->Prop} {to:TE} {t:TA} {e:Expr} {es:List Expr} {apos cpos:Pos} (pa:SQ T) (slot:Slot T name id) (hty:typeOf (.builtin id)=pure (.type "method_descriptor")) (hm:MtR X id r) (ho:PE X o to) (ha:PA X (e :: es) t)
  (hbase:attributeBase o name X.env (eval o X.env)=eval o X.env:=by rfl)
  (hfew:((backTo cpos (MS (e :: es) X.env)).all (fun x=>!x.1) && (backToKw cpos (keywordEach [] X.env)).all (fun x=>x.1.isSome)
   && decide ((e :: es).length+([]:List Sk).length+(if ([]:List Sk).isEmpty then 0 else 1)<30))=true:=by rfl)
  (hline:(apos.endLine == cpos.line)=true:=by rfl) (hs:MS (e :: es) X.env=(false,eval e X.env) :: MS es X.env:=by rfl) (hplain:(backTo cpos (MS es X.env)).any (·.1)=false:=by rfl) :
  PE X (.Call (.Attribute o name apos) (e :: es) [] cpos) (tBM K T r to t):=by subst hK;exact Lx pa slot hty hm ho ha hbase hfew hline hs hplain
def Ba {T id:String} {name:Str} {r:V->List V->Hp->VK->Prop} {to:TE} {apos cpos:Pos} (pa:SQ T) (slot:Slot T name id) (hty:typeOf (.builtin id)=pure (.type "method_descriptor")) (hm:MtR X id r) (ho:PE X o to)
  (hbase:attributeBase o name X.env (eval o X.env)=eval o X.env:=by rfl) (hline:(apos.endLine == cpos.line)=true:=by rfl):PE X (.Call (.Attribute o name apos) [] [] cpos) (G4 K T r to):=by subst hK;exact J0 pa slot hty hm ho hbase hline
end
section
variable {X:Cx} {pins:List (Addr×Obj)} {σ:St} {H:Hp} {s:LV} {h':Heap} {t':Nat} {fp:List Addr} {p:Addr} {o:HO}
def Inv.wo (I:Inv X pins σ H s) (hf:∀ b∈fp,kG X pins H b) (k:∀ b ob,b∉fp->s.heap.get? b=some ob->h'.get? b=some ob) (hp:s.heap.objs.size<=p) (new:bA X.prog X.w (upd H p o) h' p o) :
  Inv X pins σ (upd H p o) { s with heap:=h',toks:=t' }:=by
 have hn:=I.hok.fresh hp;have lt:∀ {b:Addr} {ob:Obj},s.heap.get? b=some ob->b≠p:=fun e=>Md (Mn (L6 e) hp);have nofp:∀ b u,H b=some u->b∉fp:=fun b u e hb=>by rw [(hf b hb).1] at e;cases e
 refine I.step (g':=s.gens) (d':=s.drawn) (ch:=fp) (fun b hb=>let ⟨_,f1,_,f3,f4,f5⟩:=hf b hb;⟨f3,f1,f4,f5⟩) (fun b ob _ _ hc e _=>k b ob hc e) (fun b ob _ _ hc e _=>⟨ob.slots,k b ob hc e⟩)
  (fun b ob _ e n=>by rw [aA (lt e)];exact n) (fun b ob hc e=>⟨ob,k b ob hc e⟩) (fun b xs e=>by rw [aA (aQ e hn)];exact e) (fun b ob u e=>by rw [aA (aQ e hn)];exact e)
  (fun b ps e=>⟨#[],by rw [aA (aQ e hn),e];simp⟩) (fun m hm=>?_) (fun b u e=>?_) I.bare
 ·obtain ⟨ob,es,ep,e,r⟩:=hm;exact ⟨ob,es,ep,k _ ob (fun hb=>(hf _ hb).2.1 rfl) e,r⟩
 ·by_cases hb:b=p
  ·subst hb;rw [ar] at e;cases e;exact new
  ·rw [aA hb] at e;refine (I.hok b u e).kF (fun c v hc q=>k c v ?_ q) (fun c q=>by rw [aA (aQ q hn)];exact q) fun c xs q=>by rw [aA (aQ q hn)];exact q
   rcases hc with z|z
   ·rw [z];exact nofp b u e
   ·exact nofp c _ z
end
def Ite (K:LO) (a:Addr):It :=
 ⟨fun i H=>∃ xs x,SqL K H a xs/\xs[i]?=some x,fun i H v H'=>∃ p x,v=.ref p/\H p=none/\H'=upd H p (.tup [.int (i:Int),x])/\∀ xs,SqL K H a xs->xs[i]?=some x,fun i H=>∃ xs,SqL K H a xs/\xs.length<=i⟩
def DN {P:Mi} {w:World} {K:LO} {es:List Expr} {kk:Nat} {tpos:Pos} (a e it:Addr) (hei:e≠it) :
  Turn P w K (.Tuple es kk tpos) (Ite K a) [e,it] e (fun i h=>(∃ old,IsEnum h e it i old)/\h.IsListIter it a i) where
 mem:=by simp
 obj:=fun i h st b hb=>by
  obtain ⟨⟨old,he⟩,o,e1,c,d⟩:=st;rcases Mq.mp hb with z|hb
  ·rw [z];exact ⟨_,he,fun v z=>by
    have z':TZ _=Tp v:=z;cases z'⟩
  ·rw [LZ.mp hb];exact ⟨o,e1,fun v z=>by rw [d] at z;cases z⟩
 keep:=fun i h h' st k=>⟨let ⟨old,he⟩:=st.1;⟨old,k e (by simp) _ he⟩,st.2.at fun o e=>k it (by simp) o e⟩
 item:=by
  intro X hP hw hK hc i pins s σ H E I hf st hg;subst hP hw hK;obtain ⟨xs,x,hq,hx⟩:=hg;obtain ⟨its,rv,p,hz⟩:=I.list hq;obtain ⟨u,hu,ru⟩:=rv.get hx;obtain ⟨⟨old,he⟩,hit⟩:=st;refine wpAny_pyNext_enum_item he hit p.isList (x:=u) (by simpa using hu) hei fun h' ho hit' hT hsz hk=>?_
  refine ⟨_,rfl,?_⟩;have I1:Inv X pins σ (upd H s.heap.objs.size (.tup [.int (i:Int),x])) { s with heap:=h',toks:=s.toks+1 } :=
   I.wo hf (fun b ob hb q=>hk b ob (fun z=>hb (by simp [z])) (fun z=>hb (by simp [z])) q) (Mb _) ⟨by show 2<=My;decide,[.int i s.toks,u],.cons ⟨_,rfl⟩ (.cons ru .nil),⟨_,hT,rfl,_,rfl⟩⟩
  have fE:=hf e (by simp)
  have hlt:e<s.heap.objs.size:=L6 he;have hlt2:it<s.heap.objs.size:=by obtain ⟨_,z,_⟩:=hit;exact L6 z
  refine wpAny_letOwnedTupleGo_enum ho fun h2 he2 hs2=>?_;have nE:(upd H s.heap.objs.size (.tup [.int (i:Int),x])) e=none:=by rw [aA (Md hlt)];exact fE.1
  refine ⟨.ref s.heap.objs.size,_,I1.turned (t':=s.toks+1) (fun b ob hb q=>(hs2.2 b hb).trans q) nE fE.2.1 fE.2.2.2.1 fE.2.2.2.2.1 fE.2.2.2.2.2,rfl,⟨_,x,rfl,I.hok.fresh (Mb _),rfl,fun ys hy=>by rw [I.jg hy hq];exact hx⟩,?_,fun b hb=>?_⟩
  ·refine ⟨⟨u,?_⟩,hit'.at fun o q=>(hs2.2 it (NJ hei)).trans q⟩;have e1:((i+1:Nat):Int)=(i:Int)+1:=by omega
   rw [e1];exact he2
  ·have hb':b<s.heap.objs.size:=by
    rcases Mq.mp hb with z|hb
    ·rw [z];exact hlt
    ·rw [LZ.mp hb];exact hlt2
   rw [aA (Md hb')];exact (hf b hb).1
 done:=by
  intro X hP hw hK hc i pins s σ H E I hf st hg;subst hP hw hK;obtain ⟨xs,hq,hx⟩:=hg;obtain ⟨its,rv,p,hz⟩:=I.list hq;obtain ⟨⟨old,he⟩,hit⟩:=st;have hl:=rv.length;obtain ⟨f0,f1,f2,f3,f4,f5⟩:=hf it (by simp)
  exact wpAny_pyNext_enum_end (I.ok.hd hc) he hit p.isList (by simp;omega) fun h' eb=>⟨rfl,I.turned (t':=s.toks) (fun b o hb e=>eb b o hb e) f0 f1 f3 f4 f5⟩
 self:=fun _ _ _ _ _ st h=>by
  obtain ⟨⟨old,he⟩,_⟩:=st;exact wpAny_pyIter_enum he h
def GC (K:LO) (vs:List V) (H:Hp) (R:It->Hp->Prop):Prop:=∃ a xs,vs=[.ref a]/\SqL K H a xs/\R (Ite K a) H
def CO (K:LO) (ta:TA):TI:=fun σ H R=>ta σ H fun vs H1=>GC K vs H1 R
def G3 {X:Cx} (K:LO) (hK:X.K=K) {tgs:List Expr} {kk:Nat} {tpos:Pos} {a:Expr} {ta:TA} {p pos:Pos} (hg:Gl X "enumerate") (hm:X.mg "enumerate" = none) (ha:PA X [a] ta) (hs:MS [a] X.env=[(false,eval a X.env)]:=by rfl) :
  PI X (.Tuple tgs kk tpos) (.Call (.Name "enumerate" p) [a] [] pos) (CO K ta):=by
 subst hK;intro pins s σ H R I h;refine Call_ (iQ I hg hm boot_enumerate (Nu (thn (ha pos pins s σ H _ I h) fun us s1 ⟨vs,H1,I1,r1,q1⟩=>?_) hs rfl));obtain ⟨l,xs,e,hS,q⟩:=q1;subst e;cases r1 with
 | cons r rr =>
  cases rr;cases (show _=Mt l from r);obtain ⟨its,rv,pl,hz⟩:=I1.list hS;refine call_enumerate_list pl.isList fun h' he hit hsz hk=>?_;refine wpAny_pyIter_enum he ?_;have I2:Inv X pins σ H1 { s1 with heap:=h' }:=I1.kept (t':=s1.toks) hk;refine ⟨s1.heap.objs.size+1,[s1.heap.objs.size+1,s1.heap.objs.size],_,_,H1,rfl,I2,DN l _ _ (Nat.succ_ne_self _),⟨⟨.none,he⟩,hit⟩,fun b hb=>?_,q⟩;rcases Mq.mp hb with z|hb
  ·rw [z];exact I1.uv (OC _) (I1.hok.fresh (OC _))
  ·rw [LZ.mp hb];exact I1.uv (Mb _) (I1.hok.fresh (Mb _))
def Bf:V->List V->Hp->VK->Prop:=fun x vs H Q=>∃ (l:Addr) (xs:List V) (k:Int) (y:V),x=.ref l/\vs=[.int k,y]/\H l=some (.lst xs)/\0<=k/\k.toNat<=xs.length/\xs.length<1000000/\Q .non (upd H l (.lst (xs.take k.toNat++y :: xs.drop k.toNat)))
def C4 (its:List Value) (u2:Value) (k:Int) (h0:0<=k) (hi:k.toNat<=its.length) :
  (fun xs:Array Value=>(xs.extract 0 (if k<0 then (k+(xs.size:Int)).toNat else min k.toNat xs.size)).push u2++xs.extract (if k<0 then (k+(xs.size:Int)).toNat else min k.toNat xs.size)) its.toArray=(its.take k.toNat++u2 :: its.drop k.toNat).toArray:=by
 have h1:¬ (k<0):=by omega
 have hm:min k.toNat its.toArray.size=k.toNat:=by rw [Mg];omega
 dsimp only;rw [if_neg h1,hm];simp;exact MU (by simp)
def v8 {X:Cx}:MtM X "list.insert" Bf:=by
 intro pins s σ H x vs v us Q I rx rv h;obtain ⟨l,xs,k,y,rfl,rfl,hH,h0,hi,hl,q⟩:=h;cases rx;obtain ⟨u1,u2,rfl,r1,r2⟩:=rv.two;obtain ⟨t,rfl⟩:=(show ∃ t,u1=Ol k t from r1);obtain ⟨z,its,n,r,hl',e⟩:=I.kQ hH;have hz2:its.toArray.size<=My:=by
  have e1:its.toArray.size=its.length:=Mg ..;omega
 have hfit:¬ (!Builtin.List.listFitsIndex k)=true:=by
  unfold Builtin.List.listFitsIndex;simp;omega
 have M3:=AutoSeq1.list_insert_list_int_val_1 l its.toArray n k t u2 hfit hz2;refine O6 F.slot_list_insert ⟨_,e,rfl⟩ F.entry_list_insert (F.args_list_insert_3 _ _ _) M3 ⟨e,?_⟩;have hv:Vals (xs.take k.toNat++y :: xs.drop k.toNat) (its.take k.toNat++u2 :: its.drop k.toNat):=(Vals.take k.toNat r).append (.cons r2 (Vals.drop k.toNat r));refine ⟨.non,_,I.uL (its':=its.take k.toNat++u2 :: its.drop k.toNat) hH e (C4 its u2 k h0 (by omega)) hv ?_,rfl,q⟩
 rw [Mr,MO,MF,QC,MX];omega
def DL:List V->Hp->VK->Prop:=fun xs H Q=>∃ j:Int,xs=[.int j]/\∀ p,H p=none->Q (.ref p) (upd H p (.rng 0 j))
def qM {X:Cx}:cE X (.type "range") DL:=by
 intro pins s σ H xs us Q I r h;obtain ⟨j,rfl,q⟩:=h;obtain ⟨u,rfl,ru⟩:=vals1 r;obtain ⟨t,rfl⟩:=(show ∃ t,u=Ol j t from ru);refine call_range_1 ?_;refine ⟨.ref s.heap.objs.size,_,I.laid (fun b u e=>LW _ e) (Mb _) ?_,rfl,q _ (I.hok.fresh (Mb _))⟩;exact ⟨_,_,_,Mo _ rfl⟩
def tF:List V->Hp->VK->Prop:=fun xs H Q=>∃ (p:Addr) (n:Nat),xs=[.ref p]/\H p=some (.rng 0 (n:Int))/\n<=1000000/\∀ l,H l=none->Q (.ref l) (upd H l (.lst ((LY n).map fun (i:Nat)=>V.int (i:Int))))
def qY:∀ {xs:List V} {us:List Value},xs.length=us.length->(∀ (i:Nat) (x:V) (u:Value),xs[i]?=some x->us[i]?=some u->RelV x u)->Vals xs us
 | [],[],_,_=>.nil
 | [],_ :: _,h,_=>by cases h
 | _ :: _,[],h,_=>by cases h
 | x :: xs,u :: us,h,g=>.cons (g 0 x u rfl rfl) (qY (by simpa using h) fun i y v hy hv=>g (i+1) y v (by simpa using hy) (by simpa using hv))
def DR {n:Nat} (h:n<=1000000):n<=My:=by rw [MX];omega
def my {X:Cx} (hc:X.calm=true):cE X (.type "list") tF:=by
 intro pins s σ H xs us Q I r h;obtain ⟨p,n,rfl,hp,hn,q⟩:=h;obtain ⟨u,rfl,ru⟩:=vals1 r;cases (show u=Mt p from ru);obtain ⟨t1,t2,t3,hr⟩:=(show bA X.prog X.w H s.heap p (.rng 0 (n:Int)) from I.hok p _ hp);have hs:RE 0 (n:Int) 1=n:=by rw [rangeSize_one];split <;> omega
 refine call_list_range (n:=n) (I.ok.hd hc) hr (small_one (by omega) (by omega) (by omega) (by omega)) (by exact_mod_cast hs) (by omega) fun h' tk acc c' hk hS hacc=>?_
 refine ⟨.ref s.heap.objs.size,_,I.laid hk (Mb _) ?_,rfl,q _ (I.hok.fresh (Mb _))⟩;obtain ⟨ha1,ha2⟩:=hacc;have hl:((LY n).map fun (i:Nat)=>V.int (i:Int)).length=acc.toList.length:=by simp;exact ha1.symm
 refine ⟨by simp;exact DR hn,acc.toList,c',qY hl fun i x u hx hu=>?_,by simpa using hS⟩
 have hi:i<n:=by
  have:=(LR.mp hx).1
  simpa using this
 obtain ⟨t,e⟩:=ha2 i u (by simpa using hu)
 have ex:x=V.int (i:Int):=by
  rw [Mp,PV hi] at hx;exact (ME hx).symm
 rw [ex];exact ⟨t,by simpa using e⟩
section
variable {σ:St} {H:Hp} {Q:VK} {D:Ends} {K:LO} {t:TS} {ta tb:TE} {g:TG} {v w x y:V} {tA:TA} {a:Int}
def BL {n:Int} (q:∀ p,H p=none->Q (.ref p) (upd H p (.rng 0 n))):DL [.int n] H Q:=⟨n,rfl,q⟩
def fG {l:List Nat}:Nk (Rep.is K H) (l.map fun (n:Nat)=>V.int (n:Int)) l:=by
 have q:=Paired.of_map (F:=fun (v:V) (a:Nat)=>v=.int (a:Int)) (f:=fun (n:Nat)=>V.int (n:Int)) (g:=id) (fun _=>rfl) l;rw [QK] at q;exact q
def qN {p:Addr} {n:Nat} (hp:H p=some (.rng 0 (n:Int))) (hn:n<=1000000) (q:∀ l H',H l=none->aj H H'->Gr K H' l (LY n)->Q (.ref l) H'):tF [.ref p] H Q :=
 ⟨p,n,rfl,hp,hn,fun l hl=>q l _ hl (ay hl _) ⟨_,ar,fG⟩⟩
def sP {to ti:TE} {ts:CC} {QS:St->Hp->Prop} (h:to σ H fun o H1=>ti σ H1 fun i H2=>ts o i v H2 fun H3=>QS σ H3):JW to ti ts v σ H QS:=h
def lZ {p:Addr} {xs:List V} {j:Nat} {QH:Hp->Prop} (hp:H p=some (.lst xs)) (e:a=(j:Int)) (hj:j<xs.length) (q:QH (upd H p (.lst (xs.set j v)))):Ig (.ref p) (.int a) v H QH:=by
 subst e;refine ⟨p,xs,_,j,rfl,rfl,hp,?_,q⟩;unfold ixN;rw [if_pos (by omega),if_pos (by omega)]
 rfl
def isP (vs:List V) (H:Hp) (k:V->V->Hp->Prop):Prop:=∃ v w,vs=[v,w]/\k v w H
def xO {i j:Nat} (h:tA σ H fun vs H1=>isP vs H1 fun v w H1=>D.nx ((σ.set i (some v)).set j (some w)) H1):Kf i j tA D σ H:=h
def sN {k:V->V->Hp->Prop} (h:k x y H):isP [x,y] H k:=⟨x,y,rfl,h⟩
def qj {R:It->Hp->Prop} (h:tA σ H fun vs H1=>GC K vs H1 R):CO K tA σ H R:=h
def By {α:Type} [Rep α] {l:List α} {ia ib:Nat} {H₀:Hp} (h:At K H₀ v l) (Pv:Nat->St->Hp->Prop) (h0:Pv 0 σ H) (hl:∀ i σ' H',Pv i σ' H'->aj H₀ H')
  (hs:∀ i c w σ' H' H'' p,l[i]?=some c->At K H₀ w c->Pv i σ' H'->H' p=none->H''=upd H' p (.tup [.int (i:Int),w])->aj H' H''->t { D with nx:=Pv (i+1),ct:=Pv (i+1),bk:=D.nx } ((σ'.set ia (some (.int (i:Int)))).set ib (some w)) H'')
  (hd:∀ σ' H',Pv l.length σ' H'->D.nx σ' H'):GC K [v] H (lK (B2 K 2 (mX (iy ia) (mX (iy ib) Dd))) t D σ):=by
 obtain ⟨p,xs,rfl,hS,hP⟩:=h;have hlen:=hP.length;refine ⟨p,xs,rfl,(hl 0 σ H h0).seq hS,fun i m σ' H'=>m=xs.length - i/\i<=xs.length/\Pv i σ' H',⟨xs.length,by simp,MI _,h0⟩,?_⟩
 rintro i m σ' H' ⟨rfl,hi,p0⟩;have q:=(hl i σ' H' p0).seq hS
 by_cases hlt:i<xs.length
 ·refine .inr ⟨⟨xs,xs[i],q,by simp [hlt]⟩,Pv (i+1),fun σ2 H2 p'=>⟨xs.length - (i+1),by omega,rfl,hlt,p'⟩,fun z H2 yl=>?_⟩
  obtain ⟨d,w,rfl,hd',rfl,hw⟩:=yl;have hx:=hw xs q;obtain ⟨c,hc,r⟩:=Paired.getL hP hx;refine ⟨d,[.int (i:Int),w],rfl,SqT.of ar,rfl,⟨_,_,rfl,⟨_,_,rfl,⟨rfl,?_⟩⟩⟩⟩;exact hs i c w σ' H' _ d hc r p0 hd' rfl (ay hd' _)
 ·have e:i=xs.length:=by omega
  subst e;exact .inl ⟨⟨xs,q,Mb _⟩,hd σ' H' (by rw [hlen] at p0;exact p0)⟩
end
def aO (r:List Nat):List V:=r.map fun (n:Nat)=>V.int (n:Int)
structure Tbl (H:Hp) (d:Addr) (rows:List (List Nat)) (ps:List Addr):Prop where
 top:H d=some (.lst (ps.map V.ref))
 nd:ps.Nodup
 ap:d∉ps
 len:ps.length=rows.length
 row:∀ (i:Nat) (p:Addr) (r:List Nat),ps[i]?=some p->rows[i]?=some r->H p=some (.lst (aO r))
section
variable {H H':Hp} {d:Addr} {rows:List (List Nat)} {ps:List Addr} {K:LO}
def Tbl.mono (s:aj H H') (h:Tbl H d rows ps):Tbl H' d rows ps:=⟨s _ _ h.top,h.nd,h.ap,h.len,fun i p r e1 e2=>s _ _ (h.row i p r e1 e2)⟩
def nP {α β:Type} {F:α->β->Prop}:∀ {xs:List α} {ys:List β},xs.length=ys.length->(∀ (i:Nat) (x:α) (y:β),xs[i]?=some x->ys[i]?=some y->F x y)->Nk F xs ys
 | [],[],_,_=>.nil
 | [],_ :: _,h,_=>by cases h
 | _ :: _,[],h,_=>by cases h
 | x :: xs,y :: ys,h,g=>.cons (g 0 x y rfl rfl) (nP (by simpa using h) fun i u v hu hv=>g (i+1) u v (by simpa using hu) (by simpa using hv))
def Tbl.at (h:Tbl H d rows ps):At K H (.ref d) rows:=by
 refine ⟨d,_,rfl,SqL.of h.top,nP (by rw [LX,h.len]) fun i x r hx hr=>?_⟩
 rw [Mp] at hx;cases e:ps[i]? with
 | none=>rw [e] at hx;cases hx
 | some p =>
  rw [e] at hx;have hx':x=V.ref p:=(ME hx).symm;rw [hx'];exact ⟨p,_,rfl,SqL.of (h.row i p r e hr),fG⟩
def Tbl.get (h:Tbl H d rows ps) {i:Nat} {r:List Nat} (e:rows[i]?=some r):∃ p,ps[i]?=some p/\H p=some (.lst (aO r)):=by
 have hi:i<ps.length:=by rw [h.len];exact (LR.mp e).1
 exact ⟨ps[i],by simp [hi],h.row i _ r (by simp [hi]) e⟩
def Tbl.set (h:Tbl H d rows ps) {i j n:Nat} {p:Addr} {r:List Nat} (e:rows[i]?=some r) (hp:ps[i]?=some p):Tbl (upd H p (.lst ((aO r).set j (.int (n:Int))))) d (rows.set i (r.set j n)) ps:=by
 have hi:i<ps.length:=(LR.mp hp).1;have mem:p∈ps:=LS hp;refine ⟨by rw [aA (fun z=>h.ap (by rw [z];exact mem))];exact h.top,h.nd,h.ap,by rw [NZ];exact h.len,fun k q r' hq hr=>?_⟩
 by_cases hk:k=i
 ·subst hk;rw [hp] at hq;cases hq;rw [NN (by rw [<- h.len];exact hi)] at hr
  cases hr;rw [ar];unfold aO;rw [List.map_set]
 ·rw [N3 (NJ hk)] at hr;have hne:q≠p:=fun z=>hk (by
   subst z;have h1:=(LR.mp hq);have h2:=(LR.mp hp);exact (RS h.nd).mp (h1.2.trans h2.2.symm))
  rw [aA hne];exact h.row k q r' hq hr
end
def ng {K:LO} {H:Hp} {v:V} {Q:VK} {σ:St} {rows:List (List Nat)} {x:Str} (h:At K H v rows) (hz:rows.length<=100000) (fin:∀ d H' ps,aj H H'->H d=none->(∀ p∈ps,H p=none)->Tbl H' d rows ps->Q (.ref d) H') :
  pJ K v H (js [x] [] (iy 0) Gy (tCB (Dw K) (nh (Cc 0) vf)) σ Q):=by
 obtain ⟨p,xs,rfl,hS,hP⟩:=h;have hl:=hP.length;refine ⟨p,rfl,⟨xs,hS⟩,fun d hd=>?_⟩;refine ⟨fun i m σ' H'=>m=xs.length - i/\i<=xs.length/\(∃ y,σ'=[y])/\aj H H'/\∃ ps,(∀ p∈ps,H p=none)/\Tbl H' d (rows.take i) ps,⟨xs.length,rfl,MI _,⟨_,rfl⟩,ay hd _,[],by simp,⟨ar,Qt,by simp,by simp,fun i p r e _=>by simp at e⟩⟩,?_⟩
 rintro i m σ' H' ⟨rfl,hi,⟨y,rfl⟩,hs,ps,hps,T⟩
 by_cases hlt:i<xs.length
 ·refine .inr ⟨⟨xs,xs[i],hs.seq hS,by simp [hlt]⟩,fun z H2 yl=>?_⟩
  obtain ⟨rfl,hz'⟩:=yl;have hx:=hz' xs (hs.seq hS);obtain ⟨c,hc,r⟩:=Paired.getL hP hx;obtain ⟨q,e,hq⟩:=i4 (Rep.mono hs r);subst e;have tl:=T.len;have hci:i<rows.length:=(LR.mp hc).1;rw [MF,Nat.min_eq_left (by omega)] at tl
  refine pe ?_;refine tW ?_;refine oP ?_;refine ⟨_,rfl,q,_,rfl,.inl hq,fun l hl'=>?_⟩;have nld:l≠d:=fun e=>by rw [e,T.top] at hl';cases hl'
  have hHl:H l=none:=hs.free hl';refine ⟨_,(by rw [aA nld.symm];exact T.top),?_,xs.length - (i+1),by omega,rfl,hlt,⟨_,rfl⟩,fun b o eb=>?_,ps++[l],fun p' hp'=>?_,?_⟩
  ·rw [LX,tl,MX];omega
  ·rw [aA (aQ eb hd),aA (aQ eb hHl)];exact hs b o eb
  ·rcases Mc.mp hp' with z|z
   ·exact hps p' z
   ·rw [LZ.mp z];exact hHl
  ·have nlp:l∉ps:=fun z=>by
    obtain ⟨k,hk⟩:=Ms z;have hk':k<i:=by have:=(LR.mp hk).1;omega
    have hr:(rows.take i)[k]?=some (rows[k]'(by omega)):=by rw [NA hk'];simp
    have z1:=T.row k l _ hk hr;rw [z1] at hl';cases hl'
   refine ⟨by rw [ar,M8];rfl,?_,?_,?_,fun k p' r' hk hr=>?_⟩
   ·rw [Ro];exact ⟨T.nd,by simp,fun a ha b hb=>by rw [LZ.mp hb];exact fun z=>nlp (z ▸ ha)⟩
   ·intro z;rcases Mc.mp z with z|z
    ·exact T.ap z
    ·exact nld (LZ.mp z).symm
   ·rw [Mr,MF,Nat.min_eq_left (by omega)];simp;omega
   ·have nd':p'≠d:=fun z=>by
     rw [z] at hk;rcases Mc.mp (LS hk) with z' | z'
     ·exact T.ap z'
     ·exact nld (LZ.mp z').symm
    rw [aA nd']
    by_cases hki:k<i
    ·rw [MG (by omega)] at hk
     have hr2:(rows.take i)[k]?=some r':=by
      rw [NA (by omega)] at hr ⊢;exact hr
     have np:p'≠l:=fun z=>nlp (by rw [<- z];exact LS hk)
     rw [aA np];exact T.row k p' r' hk hr2
    ·have hk2:k<i+1:=by
      have:=(LR.mp hr).1;rw [MF] at this;omega
     have ek:k=i:=by omega
     subst ek;rw [MT (by omega),tl,Nat.sub_self] at hk
     have e1:l=p':=by simpa using hk
     subst e1;rw [NA (by omega),hc] at hr
     cases hr;rw [ar];unfold aO;rfl
 ·have e:i=xs.length:=by omega
  subst e;refine .inl ⟨⟨xs,hs.seq hS,Mb _⟩,?_⟩;rw [hl,MJ] at T;exact fin d H' ps hs hd hps T
def Wr (K:LO) {α:Type} [Rep α] (t:TE) (a:α):Prop:=∀ σ H Q,(∀ v H',aj H H'->At K H' v a->Q v H')->t σ H Q
def WrA (K:LO) {α:Type} [Rep α] (t:TA) (l:List α):Prop:=∀ σ H Q,(∀ vs H',aj H H'->Nk (Rep.is K H') vs l->Q vs H')->t σ H Q
section
variable {K:LO} {α:Type} [Rep α] {t:TE} {tA:TA} {a:α} {l:List α}
def ET {n:Nat} {i:Int} (e:i=(n:Int)):Wr K (tC (.int i)) n:=fun _ H _ q=>q _ H (aj.refl _) (by rw [e];rfl)
def iU:WrA K vf ([]:List α):=fun _ H _ q=>q [] H (aj.refl _) .nil
def uR (h:Wr K t a) (hr:WrA K tA l):WrA K (nh t tA) (a :: l):=fun σ H Q q=>h σ H _ fun v H1 s1 a1=>hr σ H1 _ fun vs H2 s2 a2=>q _ H2 (s1.trans s2) (.cons (Rep.mono s2 a1) a2)
def D4 (h:WrA K tA l) (hz:l.length<=1000):Wr K (yZ tA) l:=fun σ H Q q=>h σ H _ fun vs H1 s1 a1=>⟨by have:=a1.length;exact small (by omega),fun p hp=>q _ _ (s1.trans (ay hp _)) ⟨p,vs,rfl,SqL.of ar,Paired.ck a1 fun _ _ z=>Rep.mono (ay hp _) z⟩⟩
end
def La {K:LO} {α:Type} [Rep α] {H:Hp} {x y:V} {l r:List α} {Q:VK} (hx:∃ p xs,x=.ref p/\H p=some (.lst xs)/\Nk (Rep.is K H) xs l) (hy:∃ p xs,y=.ref p/\H p=some (.lst xs)/\Nk (Rep.is K H) xs r) (hz:l.length+r.length<=100000)
  (q:∀ d H',H d=none->aj H H'->At K H' (.ref d) (l++r)->Q (.ref d) H'):FK x y H Q:=by
 obtain ⟨p,xs,rfl,h1,r1⟩:=hx;obtain ⟨p',ys,rfl,h2,r2⟩:=hy;have e1:=r1.length;have e2:=r2.length;refine ⟨p,p',xs,ys,rfl,rfl,h1,h2,by rw [MX];omega,fun d hd=>q d _ hd (ay hd _) ⟨d,_,rfl,SqL.of ar,Paired.app (Paired.ck r1 fun _ _ z=>Rep.mono (ay hd _) z) (Paired.ck r2 fun _ _ z=>Rep.mono (ay hd _) z)⟩⟩
def isStar:Expr->Bool
 | .Starred ..=>true
 | _=>false
def bz {e:Expr} {es:List Expr} {env:Env} (h:isStar e=false):MS (e :: es) env=(false,eval e env) :: MS es env:=by
 cases e <;> first|rfl|cases h
def cz {env:Env} {pos:Pos}:∀ {es:List Expr},es.all (fun e=>!isStar e)=true->(backTo pos (MS es env)).any (·.1)=false
 | [],_=>rfl
 | e :: es,h=>by
  rw [RG,NU] at h;rw [bz (by simpa using h.1)]
  have ih:=cz (env:=env) (pos:=pos) h.2;show (backTo pos ((false,eval e env) :: MS es env)).any (·.1)=false;unfold backTo at ih ⊢
  simpa using ih
def FU {env:Env} {pos:Pos} {es:List Expr} (h:es.all (fun e=>!isStar e)=true) (hl:es.length<30):((backTo pos (MS es env)).all (fun x=>!x.1) && (backToKw pos (keywordEach [] env)).all (fun x=>x.1.isSome)
   && decide (es.length+([]:List Sk).length+(if ([]:List Sk).isEmpty then 0 else 1)<30))=true:=by
 have h1:=cz (env:=env) (pos:=pos) h;have h2:(backTo pos (MS es env)).all (fun x=>!x.1)=true:=by
  rw [Qh] at h1;rw [MA];intro x hx;have:=h1 x hx
  simpa using this
 rw [h2];show (true && true && decide (es.length+0+0<30))=true
 simpa using hl
section
variable {X:Cx} {e o:Expr} {es:List Expr} {te:TE} {t:TA} {x:Str} {st:Stmt} {ps:List Str} {k:Nat} {sp:Sp} {p pos:Pos}
def paF (ha:PE X e te) (hr:PA X es t) (hn:isStar e=false:=by rfl):PA X (e :: es) (nh te t):=uq ha hr (bz hn)
def aG (d:Df X.K X.mg x st ps) (G:aH X.prog X.w X.K X.mg X.base CX0 k d.f d.fd ps sp) (hr:bX k X.A) (hg:Gl X x) (ha:PA X (e :: es) t) (hn:isStar e=false:=by rfl) (hall:es.all (fun e=>!isStar e)=true:=by rfl) (hdb:(x == ("__debug__" : Str))=false:=by decide) :
  PE X (.Call (.Name x p) (e :: es) [] pos) (nG sp [] E0 t):=Lb d G hr hg ha hdb (bz hn) (cz hall)
def az {id:String} {r:List V->Hp->VK->Prop} (hc:cE X (.builtin id) r) (hg:Gl X x) (hm:X.mg x=none) (hv:bootBuiltins x=some (.builtin id)) (ha:PA X (e :: es) t) (hn':isStar e=false:=by rfl) (hall:es.all (fun e=>!isStar e)=true:=by rfl) (hn:x ≠ "__name__":=by decide) (hdb:(x == ("__debug__" : Str))=false:=by decide) :
  PE X (.Call (.Name x p) (e :: es) [] pos) (tCB r t):=Gp hc hg hm hv ha hn hdb (bz hn') (cz hall)
def dz {T:String} {r:List V->Hp->VK->Prop} (hc:cE X (.type T) r) (hg:Gl X x) (hm:X.mg x=none) (hv:bootBuiltins x=some (.type T)) (ha:PA X (e :: es) t) (hn':isStar e=false:=by rfl) (hall:es.all (fun e=>!isStar e)=true:=by rfl) (hn:x ≠ "__name__":=by decide) (hdb:(x == ("__debug__" : Str))=false:=by decide) :
  PE X (.Call (.Name x p) (e :: es) [] pos) (tCB r t):=DT hc hg hm hv ha hn hdb (bz hn') (cz hall)
def cO (K:LO) (hK:X.K=K) {T id:String} {name:Str} {r:V->List V->Hp->VK->Prop} {to:TE} {apos cpos:Pos} (pa:SQ T) (slot:Slot T name id) (hty:typeOf (.builtin id)=pure (.type "method_descriptor")) (hm:MtR X id r) (ho:PE X o to) (ha:PA X (e :: es) t)
  (hbase:attributeBase o name X.env (eval o X.env)=eval o X.env:=by rfl) (hn:isStar e=false:=by rfl) (hall:es.all (fun e=>!isStar e)=true:=by rfl) (hl:(e :: es).length<30:=by decide) (hline:(apos.endLine == cpos.line)=true:=by rfl) :
  PE X (.Call (.Attribute o name apos) (e :: es) [] cpos) (tBM K T r to t) :=
 Kg K hK pa slot hty hm ho ha hbase (FU (by rw [RG,hn,hall];rfl) hl) hline (bz hn) (cz hall)
def a9 {tg a:Expr} {ta:TA} (hg:Gl X "range") (hm:X.mg "range" = none) (ha:PA X [a] ta) (hn:isStar a=false:=by rfl):PI X tg (.Call (.Name "range" p) [a] [] pos) (Dy ta):=Ei hg hm ha (bz hn)
def zu (K:LO) (hK:X.K=K) {tgs:List Expr} {kk:Nat} {tpos:Pos} {a:Expr} {ta:TA} (hg:Gl X "enumerate") (hm:X.mg "enumerate" = none) (ha:PA X [a] ta) (hn:isStar a=false:=by rfl) :
  PI X (.Tuple tgs kk tpos) (.Call (.Name "enumerate" p) [a] [] pos) (CO K ta):=G3 K hK hg hm ha (bz hn)
end
section
variable {X:Cx} {CX:CXT} {k:Nat} {f C:Addr} {fd:Na} {ps:List Str} {sp:Sp} {dvs:List V} {ds:List Value} {E:XK} {x:Str} {p pos:Pos} {e:Expr} {es:List Expr} {t:TA}
def Fz (M:Mk X.K C f) (F:aH X.prog X.w X.K X.mg X.base CX k f fd ps sp) (hr:bX (k+1) X.A) (hg:Gl X x) (hm:X.mg x=some (.ref C)) (hb:Binds X.K fd ps ds) (hd:Vals dvs ds) (hx:Passes CX X E)
  (ha:PA X (e :: es) t) (hn:isStar e=false:=by rfl) (hall:es.all (fun e=>!isStar e)=true:=by rfl) (hdb:(x == ("__debug__" : Str))=false:=by decide):PE X (.Call (.Name x p) (e :: es) [] pos) (CZ C sp dvs E t) :=
 II M F hr hg hm hb hd hx ha hdb (bz hn) (cz hall)
end
section
variable {σ:St} {H H':Hp} {Q:VK} {K:LO} {a b:Nat}
def LF {n:Nat} (h:Q (.int ((@OfNat.ofNat Nat n (instOfNatNat n):Nat):Int)) H):tC (.int (@OfNat.ofNat Int n instOfNat)) σ H Q:=h
def JG (q:Q (.int ((a+b:Nat):Int)) H):rI0 (fun i j=>.int (i+j)) (.int (a:Int)) (.int (b:Int)) H Q:=⟨a,b,rfl,rfl,by
 have e:(a:Int)+(b:Int)=((a+b:Nat):Int):=by omega
 dsimp only;rw [e];exact q⟩
def Kc (h:a<18446744073709551616\/b<18446744073709551616) (q:Q (.int ((a * b:Nat):Int)) H):rI BW (fun i j=>.int (i * j)) (.int (a:Int)) (.int (b:Int)) H Q:=⟨a,b,rfl,rfl,by
 rcases h with h|h
 ·exact .inl ⟨by omega,by omega⟩
 ·exact .inr ⟨by omega,by omega⟩,by
 have e:(a:Int) * (b:Int)=((a * b:Nat):Int):=by push_cast;rfl
 dsimp only;rw [e];exact q⟩
def sF (h:0<b) (q:Q (.int ((a % b:Nat):Int)) H):rI (fun _ j=>0<j) (fun i j=>.int (i % j)) (.int (a:Int)) (.int (b:Int)) H Q:=⟨a,b,rfl,rfl,by omega,by
 have e:(a:Int) % (b:Int)=((a % b:Nat):Int):=by push_cast;rfl
 dsimp only;rw [e];exact q⟩
def Ej (h:0<b) (h2:b<1073741824) (q:Q (.int ((a / b:Nat):Int)) H):rI GJ (fun i j=>.int (i / j)) (.int (a:Int)) (.int (b:Int)) H Q:=⟨a,b,rfl,rfl,⟨by omega,by omega⟩,by
 have e:(a:Int) / (b:Int)=((a / b:Nat):Int):=by push_cast;rfl
 dsimp only;rw [e];exact q⟩
def kT {p q:Prop} [Decidable p] [Decidable q] (h:p↔q) {R:Bool->Prop} (z:R (decide q)):R (decide p):=by
 rw [decide_eq_decide.mpr h];exact z
def Lr (q:Q (.bl (decide (a=b))) H):rEq (.int (a:Int)) (.int (b:Int)) H Q:=tD (kT (R:=fun k=>Q (.bl k) H) (by omega) q)
def K3 (q:Q (.bl (!decide (a=b))) H):rNe (.int (a:Int)) (.int (b:Int)) H Q:=tP (kT (R:=fun k=>Q (.bl (!k)) H) (by omega) q)
def Lg (q:Q (.bl (decide (a<b))) H):rI0 (fun i j=>.bl (decide (i<j))) (.int (a:Int)) (.int (b:Int)) H Q:=⟨a,b,rfl,rfl,kT (R:=fun k=>Q (.bl k) H) (by omega) q⟩
def Lf (q:Q (.bl (decide (b<a))) H):rI0 (fun i j=>.bl (decide (j<i))) (.int (a:Int)) (.int (b:Int)) H Q:=⟨a,b,rfl,rfl,kT (R:=fun k=>Q (.bl k) H) (by omega) q⟩
def Lp (q:Q (.bl (decide (b<=a))) H):rI0 (fun i j=>.bl (decide (j<=i))) (.int (a:Int)) (.int (b:Int)) H Q:=⟨a,b,rfl,rfl,kT (R:=fun k=>Q (.bl k) H) (by omega) q⟩
def bM {v:V} {l:List Nat} {n c:Nat} (h:At K H v l) (hn:l[n]?=some c) (q:Q (.int (c:Int)) H):rV K v (.int (n:Int)) H Q:=gH h rfl hn q
end
section
variable {β:Type} [Rep β] {K:LO} {H H':Hp} {d:Addr} {l:List β} {y:V} {b:β} {Q:VK}
def Gj {k:Nat} (h:Gr K H d l) (hk:k<=l.length) (hl:l.length<=100000) (hy:At K (del H d) y b) (q:∀ H',Gr K H' d (l.take k++b :: l.drop k)->(∀ a o,a≠d->H a=some o->H' a=some o)->Q .non H'):Bf (.ref d) [.int (k:Int),y] H Q:=by
 obtain ⟨ys,h1,h2⟩:=h;have e:=h2.length;refine ⟨d,ys,k,y,rfl,rfl,h1,by omega,by omega,by omega,?_⟩
 refine q _ ⟨_,ar,?_⟩ (fun a o ha z=>by rw [aA ha];exact z)
 rw [Ny];exact Paired.app (Paired.xw k (Paired.ck h2 fun _ _ z=>Rep.mono ik z)) (.cons (Rep.mono ik hy) (Paired.xr k (Paired.ck h2 fun _ _ z=>Rep.mono ik z)))
end
def Lj {H H':Hp} {d:Addr} (k:∀ a o,a≠d->H a=some o->H' a=some o):aj (del H d) (del H' d):=fun b o h=>by
 by_cases hb:b=d
 ·rw [hb] at h;have z:del H d d=none:=if_pos rfl;rw [z] at h;cases h
 ·rw [eM hb] at h ⊢;exact k b o hb h
def nc {K:LO} {H:Hp} {p d:Addr} {l:List Nat} (h:Gr K H p l) (hne:p≠d):At K (del H d) (.ref p) l:=by
 obtain ⟨ys,hy,hP⟩:=h;refine ⟨p,ys,rfl,SqL.of (by rw [eM hne];exact hy),?_⟩
 exact Paired.ck hP fun _ _ z=>z
def Lz {K:LO} {H:Hp} {d:Addr} {rows:List (List Nat)} {ps:List Addr} {i:Nat} {p:Addr} {Q:VK} (h:Tbl H d rows ps) (hp:ps[i]?=some p) (q:Q (.ref p) H):rV K (.ref d) (.int (i:Int)) H Q :=
 ⟨d,_,_,_,rfl,rfl,SqL.of h.top,gh (by rw [Mp,hp];rfl),q⟩
def F6 {α:Type} (l:List α):cut l (some 1) none=l.drop 1:=by
 unfold cut;have e:HT.sIx l.length 0 (some 1)=min 1 l.length:=HT.Jb l.length 0 1;rw [e,HT.Hq];cases l with
 | nil=>rfl
 | cons x r =>
  have:min 1 (x :: r).length=1:=by simp
  rw [this];exact MU (by simp)
def Gr.copy {α:Type} [Rep α] {K:LO} {H:Hp} {d:Addr} {l:List α} (h:Gr K H d l):∃ p xs,V.ref d=.ref p/\H p=some (.lst xs)/\Nk (Rep.is K H) xs l:=by
 obtain ⟨ys,h1,h2⟩:=h;exact ⟨d,ys,rfl,h1,Paired.ck h2 fun _ _ z=>Rep.mono kH z⟩
def dZ {K:LO} {α:Type} [Rep α] {tA:TA} {l:List α} (h:WrA K tA l) (hz:l.length<=1000) {σ:St} {H:Hp} {Q:VK} (q:∀ d H',H d=none->aj H H'->Gr K H' d l->Q (.ref d) H'):yZ tA σ H Q :=
 h σ H _ fun vs H1 s1 a1=>⟨by have:=a1.length;exact small (by omega),fun p hp=>q p _ (s1.free hp) (s1.trans (ay hp _)) ⟨vs,ar,Paired.ck a1 fun _ _ z=>Rep.mono (fun b o e=>by
  have hb:b≠p:=aQ e hp;rw [eM hb,aA hb];exact e) z⟩⟩
def since (H H':Hp):Hp:=fun a=>match H a with
 | none=>H' a
 | some _=>none
section
variable {H H' H'':Hp} {a d:Addr} {rows:List (List Nat)} {ps:List Addr} {K:LO}
def mM (h:H a=none):since H H' a=H' a:=by unfold since;rw [h]
def FI:aj (since H H') H':=fun b o h=>by
 unfold since at h
 split at h
 ·exact h
 ·cases h
def Tbl.since (h:Tbl H' d rows ps) (fd:H d=none) (fps:∀ p∈ps,H p=none):Tbl (since H H') d rows ps :=
 ⟨by rw [mM fd];exact h.top,h.nd,h.ap,h.len,fun i p r e1 e2=>by rw [mM (fps p (LS e1))];exact h.row i p r e1 e2⟩
end
def fg {K:LO} {H H₀:Hp} {σ:St} {g:TG} {t:TS} {D:Ends} {v:V} {α:Type} [Rep α] {l:List α} (h:At K H₀ v l) (Pv:Nat->St->Hp->Prop) (h0:Pv 0 σ H) (hl:∀ i σ' H',Pv i σ' H'->aj H₀ H')
  (hs:∀ i c w σ' H',l[i]?=some c->At K H₀ w c->Pv i σ' H'->g w σ' H' fun σ2 H2=>t { D with nx:=Pv (i+1),ct:=Pv (i+1),bk:=D.nx } σ2 H2) (hd:∀ σ' H',Pv l.length σ' H'->D.nx σ' H') :
  pJ K v H (lK g t D σ):=by
 obtain ⟨p,xs,rfl,hS,hP⟩:=h;refine ⟨p,rfl,⟨xs,(hl 0 σ H h0).seq hS⟩,rN (K:=K) (a:=p) (xs:=xs) Pv h0 (fun i σ' H' _ q=>(hl i σ' H' q).seq hS) (fun i x σ' H' hx q=>?_) (fun σ' H' q=>?_)⟩
 ·obtain ⟨c,hc,r⟩:=Paired.getL hP hx;exact hs i c x σ' H' hc r q
 ·rw [hP.length] at q;exact hd σ' H' q
def je {c:TT} {t:TS} {D:Ends} {σ:St} {H:Hp} (W:Nat->St->Hp->Prop) (m:Nat) (h0:W m σ H)
  (hs:∀ m σ' H',W m σ' H'->c σ' H' fun b H1=>if b=true then ∃ N:St->Hp->Prop,(∀ σ2 H2,N σ2 H2->∃ m',m' < m/\W m' σ2 H2)/\t { D with nx:=N,ct:=N,bk:=D.nx } σ' H1 else D.nx σ' H1):DP c t D σ H:=⟨W,⟨m,h0⟩,hs⟩
def Hn (K:LO):List V->Hp->VK->Prop:=fun xs H Q=>∃ (p:Addr) (bs:List Bool),xs=[.ref p]/\SqL K H p (bs.map V.bl)/\Q (.bl (bs.any id)) H
def FA (K:LO):List V->Hp->VK->Prop:=fun xs H Q=>∃ (p:Addr) (bs:List Bool),xs=[.ref p]/\SqL K H p (bs.map V.bl)/\Q (.bl (bs.all id)) H
def oy:∀ {bs:List Bool} {its:List Value},Vals (bs.map V.bl) its->∀ (i:Nat) (v:Value),its[i]?=some v->∃ b,bs[i]?=some b/\v=.bool b
 | [],_,.nil,i,v,e=>by simp at e
 | b :: bs,_,.cons r t,0,v,e=>by
  simp at e;subst e;exact ⟨b,rfl,r⟩
 | b :: bs,_,.cons r t,i+1,v,e=>by
  obtain ⟨c,h1,h2⟩:=oy (bs:=bs) t i v (by simpa using e)
  exact ⟨c,by simpa using h1,h2⟩
def C7 (bs:List Bool):((LY bs.length).any fun i=>(bs[i]?).getD false)=bs.any id:=by
 rw [NR,PN,PN];constructor
 ·rintro ⟨i,hi,e⟩;have hi':=Ma.mp hi;simp only [LP hi',OG] at e;exact ⟨_,Nt hi',e⟩
 ·rintro ⟨b,hb,e⟩;obtain ⟨i,hi,rfl⟩:=QL hb;exact ⟨i,Ma.mpr hi,by simp only [LP hi,OG];exact e⟩
def Cw (bs:List Bool):((LY bs.length).all fun i=>(bs[i]?).getD true)=bs.all id:=by
 rw [NR,MA,MA];constructor
 ·intro h b hb;obtain ⟨i,hi,rfl⟩:=QL hb;have:=h i (Ma.mpr hi);simp only [LP hi,OG] at this;exact this
 ·intro h i hi;have hi':=Ma.mp hi;simp only [LP hi',OG];exact h _ (Nt hi')
def Fx {X:Cx} (hc:X.calm=true):cE X (.builtin "any") (Hn X.K):=by
 intro pins s σ H xs us Q I r h;obtain ⟨p,bs,rfl,hS,q⟩:=h;obtain ⟨u,rfl,ru⟩:=vals1 r;cases (show u=Mt p from ru);obtain ⟨its,rv,pl,hz⟩:=I.list hS;have hl:=pl.isList;have hlen:its.length=bs.length:=by have:=rv.length;simp at this;omega
 have hlt:p<s.heap.objs.size:=by obtain ⟨_,e,_⟩:=hl;exact L6 e
 refine call_any_walk (Qg hl ?_);refine ⟨s.heap.objs.size,[s.heap.objs.size,p],[s.heap.objs.size],its.toArray.size,_,_,fun i=>(bs[i]?).getD false,rfl,Walks.list (A:=X.A.in1) (I.ok.hd hc) _ p (Md hlt) its.toArray,
  ⟨⟨_,Mo _ rfl,rfl,rfl⟩,hl.push _⟩,fun i v s' Q' E' hP hQ=>?_,fun h' tk hk=>?_⟩
 ·obtain ⟨b,e,rfl⟩:=oy rv i v (by simpa using hP)
  simp only [e,OG] at hQ;exact N8 hQ
 ·have e:((LY its.toArray.size).any fun i=>(bs[i]?).getD false)=bs.any id:=by
   rw [Mg,hlen];exact C7 bs
  rw [e];exact ⟨.bl _,H,I.kept (t':=tk) (fun b x e=>hk b x (fun hm=>by rw [LZ.mp hm] at e;exact Oo _ (L6 e)) (LW _ e)),rfl,q⟩
def E9 {X:Cx} (hc:X.calm=true):cE X (.builtin "all") (FA X.K):=by
 intro pins s σ H xs us Q I r h;obtain ⟨p,bs,rfl,hS,q⟩:=h;obtain ⟨u,rfl,ru⟩:=vals1 r;cases (show u=Mt p from ru);obtain ⟨its,rv,pl,hz⟩:=I.list hS;have hl:=pl.isList;have hlen:its.length=bs.length:=by have:=rv.length;simp at this;omega
 have hlt:p<s.heap.objs.size:=by obtain ⟨_,e,_⟩:=hl;exact L6 e
 refine call_all_walk (Qg hl ?_);refine ⟨s.heap.objs.size,[s.heap.objs.size,p],[s.heap.objs.size],its.toArray.size,_,_,fun i=>(bs[i]?).getD true,rfl,Walks.list (A:=X.A.in1) (I.ok.hd hc) _ p (Md hlt) its.toArray,
  ⟨⟨_,Mo _ rfl,rfl,rfl⟩,hl.push _⟩,fun i v s' Q' E' hP hQ=>?_,fun h' tk hk=>?_⟩
 ·obtain ⟨b,e,rfl⟩:=oy rv i v (by simpa using hP)
  simp only [e,OG] at hQ;exact N8 hQ
 ·have e:((LY its.toArray.size).all fun i=>(bs[i]?).getD true)=bs.all id:=by
   rw [Mg,hlen];exact Cw bs
  rw [e];exact ⟨.bl _,H,I.kept (t':=tk) (fun b x e=>hk b x (fun hm=>by rw [LZ.mp hm] at e;exact Oo _ (L6 e)) (LW _ e)),rfl,q⟩
def pU {X:Cx} (K:LO) (hK:X.K=K) (hc:X.calm=true):cE X (.builtin "any") (Hn K):=by subst hK;exact Fx hc
def lG {X:Cx} (K:LO) (hK:X.K=K) (hc:X.calm=true):cE X (.builtin "all") (FA K):=by subst hK;exact E9 hc
section
variable {σ:St} {H H':Hp} {Q:VK} {K:LO} {v:V}
def zr {bs:List Bool} (h:At K H v bs):∃ p,v=.ref p/\SqL K H p (bs.map V.bl):=by
 obtain ⟨p,xs,rfl,hS,hP⟩:=h;refine ⟨p,rfl,?_⟩;have e:xs=bs.map V.bl:=by
  clear hS
  induction hP with
  | nil=>rfl
  | cons r _ ih=>rw [Mz,<- ih];exact congrArg (· :: _) r
 rw [<- e];exact hS
def BQ {bs:List Bool} (h:At K H v bs) (q:Q (.bl (bs.any id)) H):Hn K [v] H Q:=by
 obtain ⟨p,rfl,hS⟩:=zr h;exact ⟨p,bs,rfl,hS,q⟩
def tU {bs:List Bool} (h:At K H v bs) (q:Q (.bl (bs.all id)) H):FA K [v] H Q:=by
 obtain ⟨p,rfl,hS⟩:=zr h;exact ⟨p,bs,rfl,hS,q⟩
end
def kX:∀ {ns:List Int} {its:List Value},Vals (ns.map V.int) its->OD its ns
 | [],_,.nil=>.nil
 | n :: ns,_,.cons r t=>by
  obtain ⟨tk,e⟩:=(show ∃ tk,_=Ol n tk from r);subst e;exact .cons n tk (kX t)
def DO:V->List V->Hp->VK->Prop:=fun x vs H Q=>∃ (l:Addr) (ns:List Int) (k:Int),x=.ref l/\vs=[.int k]/\H l=some (.lst (ns.map V.int))/\k∈ns/\Q (.int (ns.idxOf k:Nat)) H
def rW {X:Cx}:MtM X "list.index" DO:=by
 intro pins s σ H x vs v us Q I rx rv h;obtain ⟨l,ns,k,rfl,rfl,hH,hk,q⟩:=h;cases rx;obtain ⟨u,rfl,ru⟩:=rv.one;obtain ⟨t,rfl⟩:=(show ∃ t,u=Ol k t from ru);obtain ⟨z,its,n,r,hl',e⟩:=I.kQ hH;have hi:=kX r;have hlen:=hi.length;have hj:ns.idxOf k<ns.length:=Rp.mpr hk;have hz:ns.length<=My:=by simpa using z
 rw [MX] at hz;refine O6 O2 ⟨_,e,rfl⟩ PySem.F.entry_list_index (PySem.F.args_list_index_2 _ _)
  (SeqAt.list_indexAt l its.toArray n none #[] (.int k t) (isInt k) (ns.idxOf k) (by simpa [hlen] using hj) (by omega) ?_ ?_) ⟨e,fun y hy=>(eq_isInt k t hi y (by simpa using hy)).at _ _,⟨.int _,H,I.tok _,⟨_,rfl⟩,q⟩⟩
 ·show isInt k its[ns.idxOf k]=true;rw [isInt_at k hi _ (by omega) hj]
  simpa using Q0 hj
 ·intro j hjs hlt;show isInt k its[j]=false;rw [isInt_at k hi j (by simpa using hjs) (by omega)]
  exact ne_of_lt_idxOf hlt _
def ur {H:Hp} {Q:VK} {p:Addr} {r:List Nat} {k j:Nat} (h:H p=some (.lst (aO r))) (hk:r[j]?=some k) (hf:∀ i,i<j->r[i]?≠some k) (q:Q (.int (j:Int)) H):DO (.ref p) [.int (k:Int)] H Q:=by
 have hj:j<r.length:=(LR.mp hk).1;have e1:aO r=(r.map fun (n:Nat)=>(n:Int)).map V.int:=by
  unfold aO;rw [Ox];rfl
 have e2:(r.map fun (n:Nat)=>(n:Int)).idxOf (k:Int)=j:=by
  have hm:(k:Int)∈r.map fun (n:Nat)=>(n:Int):=Mm.mpr ⟨k,LS hk,rfl⟩;have hlt:=Rp.mpr hm;have hat:=Q0 hlt;rw [LX] at hlt;have hat':r[(r.map fun (n:Nat)=>(n:Int)).idxOf (k:Int)]?=some k:=by
   rw [LP hlt];rw [List.getElem_map] at hat;exact congrArg some (RH hat)
  rcases Ni ((r.map fun (n:Nat)=>(n:Int)).idxOf (k:Int)) j with z|z|z
  ·exact absurd hat' (hf _ z)
  ·exact z
  ·exfalso
   have:=ne_of_lt_idxOf z (by rw [LX];exact hj)
   rw [LP hj] at hk;have hk':=ME hk;simp [hk'] at this
 refine ⟨p,r.map fun (n:Nat)=>(n:Int),k,rfl,rfl,by rw [<- e1];exact h,Mm.mpr ⟨k,LS hk,rfl⟩,?_⟩
 rw [e2];exact q
def yf {α:Type} [Rep α] {K:LO} {H:Hp} {v:V} {Q:VK} {l:List α} {lo hi:Option Int} (h:At K H v l) (q:∀ p H',H p=none->aj H H'->Gr K H' p (cut l lo hi)->Q (.ref p) H'):B9 K v lo hi H Q:=by
 obtain ⟨p,xs,rfl,hS,hP⟩:=h;refine ⟨p,xs,rfl,hS,fun d hd=>q d _ hd (ay hd _) ⟨_,ar,?_⟩⟩;have e:=hP.length;have sm:aj H (del (upd H d (.lst (rA xs lo hi))) d):=fun b o z=>by
  have hb:b≠d:=aQ z hd;rw [eM hb,aA hb];exact z
 unfold rA cut at *;rw [e] at sm ⊢;exact Paired.xw _ (Paired.xr _ (Paired.ck hP fun _ _ z=>Rep.mono sm z))
def Ce:Expr->Option Int
 | .Constant (.int i) _ _=>some i
 | _=>none
def ub:List Expr->Option (List Int)
 | []=>some []
 | e :: es=>match Ce e,ub es with
  | some i,some l=>some (i :: l)
  | _,_=>none
def Kx:Expr->Option (List Int)
 | .List es _=>ub es
 | _=>none
def xu:List Expr->Option (List (List Int))
 | []=>some []
 | e :: es=>match Kx e,xu es with
  | some i,some l=>some (i :: l)
  | _,_=>none
def qh:List Int->TA
 | []=>vf
 | i :: l=>nh (tC (.int i)) (qh l)
def sV:List (List Int)->TA
 | []=>vf
 | r :: l=>nh (yZ (qh r)) (sV l)
def rG {X:Cx}:∀ {es:List Expr} (ns:List Int),ub es=some ns->PA X es (qh ns)
 | [],ns,h=>by cases h;exact aa
 | e :: es,ns,h=>by
  unfold ub at h
  split at h
  ·rename_i i l h1 h2
   cases h;cases e with
   | Constant c j pos =>
    cases c with
    | int k =>
     have hk:k=i:=by simpa [Ce] using h1
     subst hk;exact uq ag (rG l h2) (bz rfl)
    | _=>simp [Ce] at h1
   | _=>simp [Ce] at h1
  ·cases h
def xX {X:Cx}:∀ {es:List Expr} (rs:List (List Int)),xu es=some rs->PA X es (sV rs)
 | [],rs,h=>by cases h;exact aa
 | e :: es,rs,h=>by
  unfold xu at h
  split at h
  ·rename_i i l h1 h2
   cases h;cases e with
   | List ls pos=>exact uq (aW (rG i h1)) (xX l h2) (bz rfl)
   | _=>simp [Kx] at h1
  ·cases h
@[irreducible] def yx (es:List Expr) (ns:List Int):Bool:=decide (ub es=some ns)
@[irreducible] def yX (es:List Expr) (rs:List (List Int)):Bool:=decide (xu es=some rs)
def Io {X:Cx} {es:List Expr} (ns:List Int) (h:yx es ns=true):PA X es (qh ns):=rG ns (by unfold yx at h;exact of_decide_eq_true h)
def IM {X:Cx} {es:List Expr} (rs:List (List Int)) (h:yX es rs=true):PA X es (sV rs):=xX rs (by unfold yX at h;exact of_decide_eq_true h)
structure IsP (p:Prop):Prop where
 out:p
def m7 {X:Cx} {es:List Expr} (ns:List Int) (h:yx es ns=true):IsP (PA X es (qh ns)):=⟨Io ns h⟩
def y7 {X:Cx} {es:List Expr} (rs:List (List Int)) (h:yX es rs=true):IsP (PA X es (sV rs)):=⟨IM rs h⟩
section
variable {K:LO}
def ky:∀ (l:List Nat),WrA K (qh (l.map fun (n:Nat)=>(n:Int))) l
 | []=>iU
 | n :: l=>uR (ET rfl) (ky l)
def u6:∀ (rs:List (List Nat)),(∀ r∈rs,r.length<=1000)->WrA K (sV (rs.map fun r=>r.map fun (n:Nat)=>(n:Int))) rs
 | [],_=>iU
 | r :: rs,h=>uR (D4 (ky r) (h r L9)) (u6 rs fun x hx=>h x (L5 _ hx))
end
def Lo {σ:St} {H:Hp} {Q:VK} {K:LO} {ta:TE} {T:String} {r:V->List V->Hp->VK->Prop} (h:ta σ H fun x H1=>tyV K T x H1/\r x [] H1 Q):G4 K T r ta σ H Q:=h
def lE:∀ {its:List Value} {ns:List Int},OD its ns->Vals (ns.map V.int) its
 | _,_,.nil=>.nil
 | _,_,.cons n t r=>.cons ⟨t,rfl⟩ (lE r)
def vj (K:LO):List V->Hp->VK->Prop:=fun xs H Q=>∃ (p:Addr) (ns:List Int),xs=[.ref p]/\SqL K H p (ns.map V.int)/\ns.length<64 /\
 ∀ (d:Addr) (ns':List Int),H d=none->ns'.Perm ns->ns'.Pairwise (·<=·)->Q (.ref d) (upd H d (.lst (ns'.map V.int)))
def zt {X:Cx}:cE X (.builtin "sorted") (vj X.K):=by
 intro pins s σ H xs us Q I r h;obtain ⟨p,ns,rfl,hS,h64,q⟩:=h;obtain ⟨u,rfl,ru⟩:=vals1 r;cases (show u=Mt p from ru);obtain ⟨its,rv,pl,hz⟩:=I.list hS;have hi:=kX rv;have hlen:=hi.length;refine sorted_ints pl.isList hi (by omega) fun out ns' a1 a2 a3=>?_
 obtain ⟨c,hc⟩:=sortedAll_at s.heap its out;have hn:H (s.heap.objs.size+1)=none:=I.hok.fresh (OC _);have hl':ns'.length=ns.length:=a2.length_eq;refine ⟨.ref (s.heap.objs.size+1),_,I.laid (o:=.lst (ns'.map V.int)) (fun b o e=>sortedAll_old e) (OC _) ⟨?_,out.toList,c,lE a1,?_⟩,rfl,q _ ns' hn a2 a3⟩
 ·rw [LX];exact small (by omega)
 ·simpa [seqObj] using hc
def ou {X:Cx} (K:LO) (hK:X.K=K):cE X (.builtin "sorted") (vj K):=by subst hK;exact zt
section
variable {σ:St} {H H':Hp} {Q:VK} {K:LO} {v:V}
def ow {ns':List Int} {l:List Nat} (h:ns'.Perm (l.map fun (n:Nat)=>(n:Int))):∃ l':List Nat,ns'=l'.map (fun (n:Nat)=>(n:Int))/\l'.Perm l:=by
 refine ⟨ns'.map Rq,?_,?_⟩
 ·rw [Ox];have e:∀ x∈ns',((fun (n:Nat)=>(n:Int)) ∘ Rq) x=x:=fun x hx=>by
   obtain ⟨n,_,rfl⟩:=Mm.mp (h.mem_iff.mp hx);rfl
  have:ns'.map ((fun (n:Nat)=>(n:Int)) ∘ Rq)=ns'.map id:=PX e;rw [this,QK]
 ·have:=h.map Rq;rw [Ox] at this;have e:(Rq ∘ fun (n:Nat)=>(n:Int))=id:=by funext n;rfl
  rw [e,QK] at this;exact this
def fk (l:List Nat):aO l=(l.map fun (n:Nat)=>(n:Int)).map V.int:=by
 unfold aO;rw [Ox];rfl
def zP {l:List Nat} (h:At K H v l) (hl:l.length<64) (q:∀ (d:Addr) (l':List Nat) (H':Hp),H d=none->aj H H'->l'.Perm l->l'.Pairwise (·<=·)->Gr K H' d l'->Q (.ref d) H'):vj K [v] H Q:=by
 obtain ⟨p,rfl,hS⟩:=i4 h;have hS':SqL K H p ((l.map fun (n:Nat)=>(n:Int)).map V.int):=by
  have e:=fk l;unfold aO at e;rw [<- e];exact hS
 refine ⟨p,_,rfl,hS',by rw [LX];exact hl,fun d ns' hd hp hs=>?_⟩
 obtain ⟨l',rfl,hp'⟩:=ow hp;have hs':l'.Pairwise (·<=·):=by
  rw [NX] at hs;exact hs.imp fun z=>by omega
 rw [<- fk];exact q d l' _ hd (ay hd _) hp' hs' ⟨_,ar,fG⟩
def E3 (l:List Nat):(l.map fun (n:Nat)=>V.int (n:Int)).all jr=true:=by
 rw [MA];intro x hx;obtain ⟨n,_,rfl⟩:=Mm.mp hx;rfl
def A5 (x:Nat):∀ l:List Nat,inV (.int (x:Int)) (l.map fun (n:Nat)=>V.int (n:Int))=decide (x∈l)
 | []=>rfl
 | a :: l=>by
  have ih:=A5 x l;rw [Mz];simp only [inV] at ih ⊢;rw [P2,ih];have e1:eqV (V.int (a:Int)) (V.int (x:Int))=decide (x=a):=by
   show ((a:Int) == (x:Int))=decide (x=a);rw [NR];simp;omega
  rw [e1,NR];simp
def qv {l:List Nat} {x:Nat} (h:At K H v l) (q:Q (.bl (!decide (x∈l))) H):rIn K true (.int (x:Int)) v H Q:=by
 obtain ⟨p,rfl,hS⟩:=i4 h;refine ⟨p,_,rfl,.inl hS,rfl,E3 l,?_⟩;rw [A5];exact q
end
def f6 {X:Cx} (K:LO) (hK:X.K=K):OpR X (compareOp .NotIn) (rIn K true):=by subst hK;exact yp
def Ki {K:LO} {α:Type} [Rep α] {H:Hp} {x y:V} {l r:List α} {Q:VK} (hx:∃ p xs,x=.ref p/\H p=some (.lst xs)/\Nk (Rep.is K H) xs l) (hy:∃ p xs,y=.ref p/\H p=some (.lst xs)/\Nk (Rep.is K H) xs r) (hz:l.length+r.length<=100000)
  (q:∀ d H',H d=none->aj H H'->Gr K H' d (l++r)->Q (.ref d) H'):FK x y H Q:=by
 obtain ⟨p,xs,rfl,h1,r1⟩:=hx;obtain ⟨p',ys,rfl,h2,r2⟩:=hy;have e1:=r1.length;have e2:=r2.length;have sm:∀ {d:Addr} {o:HO},H d=none->aj H (del (upd H d o) d):=fun {d o} hd b u z=>by
  have hb:b≠d:=aQ z hd;rw [eM hb,aA hb];exact z
 refine ⟨p,p',xs,ys,rfl,rfl,h1,h2,by rw [MX];omega,fun d hd=>q d _ hd (ay hd _) ⟨_,ar,Paired.app (Paired.ck r1 fun _ _ z=>Rep.mono (sm hd) z) (Paired.ck r2 fun _ _ z=>Rep.mono (sm hd) z)⟩⟩
section
variable {X:Cx} {pins:List (Addr×Obj)} {σ:St} {H:Hp} {s:LV} {A:MQ} {α β:Type} [Rep α] [DecidableEq α] [bQ α] [Rep β] [DecidableEq β] [bQ β]
def Jn {p q:Addr} {x1 x2 y1 y2:V} {a c:α} {b d:β} (I:Inv X pins σ H s) (hp:SqT X.K H p [x1,x2]) (h1:At X.K H x1 a) (h2:At X.K H x2 b) (hq:SqT X.K H q [y1,y2]) (h3:At X.K H y1 c) (h4:At X.K H y2 d)
  (hu:A.units+(max (bQ.depth α) (bQ.depth β)+1)<cLine):SeqAt.RcAt A s (.ref p) (.ref q) (decide ((a,b)=(c,d))):=by
 obtain ⟨its,v1,t1,_⟩:=I.tuple hp;obtain ⟨its2,v2,t2,_⟩:=I.tuple hq;obtain ⟨u1,u2,rfl,r1,r2⟩:=v1.two;obtain ⟨w1,w2,rfl,r3,r4⟩:=v2.two;have e1:=bQ.eq (A:=A.in1) I h1 h3 r1 r3 (by show A.units+1+_<_;omega)
 have e2:=bQ.eq (A:=A.in1) I h2 h4 r2 r4 (by show A.units+1+_<_;omega)
 have z:=SeqAt.RcAt.tuples (A:=A) (e:=fun j=>if j=0 then decide (a=c) else decide (b=d)) t1 t2 (by omega) fun j hj1 hj2=>by
  have hj:j<2:=by simpa using hj1
  match j,hj with
  | 0,_=>exact e1
  | 1,_=>exact e2
 have ek:((LY (min (#[u1,u2]:Array Value).size (#[w1,w2]:Array Value).size)).all (fun j=>if j=0 then decide (a=c) else decide (b=d)) && (#[u1,u2]:Array Value).size == (#[w1,w2]:Array Value).size)=decide ((a,b)=(c,d)):=by
  have:(LY (min (#[u1,u2]:Array Value).size (#[w1,w2]:Array Value).size))=[0,1]:=rfl;rw [this,NR];simp
 rw [<- ek];exact z
instance:bQ (α×β) where
 depth:=max (bQ.depth α) (bQ.depth β)+1
 inj:=fun {X pins σ H s x a b} I h h'=>by
  obtain ⟨p,x1,x2,e,h1,h2,h3⟩:=h;obtain ⟨q,y1,y2,e',h4,h5,h6⟩:=h';subst e;cases e';have z:=I.wg h1 h4;cases z;exact Prod.ext (bQ.inj I h2 h5) (bQ.inj I h3 h6)
 eq:=fun {X pins σ H s A x y u v a b} I hx hy ru rv hu=>by
  obtain ⟨p,x1,x2,e,h1,h2,h3⟩:=hx;obtain ⟨q,y1,y2,e',h4,h5,h6⟩:=hy;subst e e';cases (show u=Mt p from ru);cases (show v=Mt q from rv)
  by_cases hpq:p=q
  ·subst hpq;have z:=I.wg h1 h4;cases z;have e1:a=b:=Prod.ext (bQ.inj I h2 h5) (bQ.inj I h3 h6);rw [decide_eq_true e1];exact Sm _
  ·exact SeqAt.EqAt.of_refs hpq (Jn I h1 h2 h3 h4 h5 h6 hu)
end
section
variable {σ:St} {H:Hp} {Q:VK} {K:LO}
def qd {p:Addr} {xs:List V} {i:Nat} {x:V} (h:H p=some (.tup xs)) (hx:xs[i]?=some x) (q:Q x H):GZ K (.ref p) (.int (i:Int)) H Q:=⟨p,xs,_,x,rfl,rfl,SqT.of h,gh hx,q⟩
end
def EG {X:Cx} (K:LO) (hK:X.K=K) {pos p1 p2:Pos} {i j k:Nat} {x y:Str} (hc:X.calm=true) (hN:X.N.Nodup) (hi:X.N[i]?=some x) (hx:Loc X.env.scope x) (hj:X.N[j]?=some y) (hy:Loc X.env.scope y)
  (hf:X.fn x=true\/X.env.scope.names.lookup x=some .local:=by first|exact .inl rfl|exact .inr rfl|assumption) (hf':X.fn y=true\/X.env.scope.names.lookup y=some .local:=by first|exact .inl rfl|exact .inr rfl|assumption) :
  PG X (.Tuple [.Name x p1,.Name y p2] k pos) (B2 K 2 (mX (iy i) (mX (iy j) Dd))):=by
 subst hK;exact yi hc (i3 (aJ hN hi hx hf) (i3 (aJ hN hj hy hf') vd))
def A8 {K:LO} {α:Type} [Rep α] {H:Hp} {v:V} {Q:VK} {l:List α} (h:At K H v l) (q:∀ p H',H p=none->aj H H'->Gr K H' p l->Q (.ref p) H'):Dw K [v] H Q:=by
 obtain ⟨p,xs,rfl,hS,hP⟩:=h;refine ⟨p,xs,rfl,.inl hS,fun d hd=>q d _ hd (ay hd _) ⟨_,ar,Paired.ck hP fun _ _ z=>Rep.mono (fun b o z=>?_) z⟩⟩;have hb:b≠d:=aQ z hd;rw [eM hb,aA hb];exact z
def dP {H:Hp} {p d:Addr} {o:HO} (h:H p=some o) (hd:H d=none):p≠d:=fun e=>by rw [e,hd] at h;cases h
section
variable {X:Cx} {pins:List (Addr×Obj)} {σ:St} {H:Hp} {s:LV} {h':Heap} {t':Nat} {fp:List Addr}
def Inv.EZ (I:Inv X pins σ H s) (hf:∀ b∈fp,kG X pins H b) (k:∀ b ob,b∉fp->s.heap.get? b=some ob->h'.get? b=some ob):Inv X pins σ H { s with heap:=h',toks:=t' }:=by
 have nofp:∀ b u,H b=some u->b∉fp:=fun b u e hb=>by rw [(hf b hb).1] at e;cases e
 refine I.step (g':=s.gens) (d':=s.drawn) (ch:=fp) (fun b hb=>let ⟨_,f1,_,f3,f4,f5⟩:=hf b hb;⟨f3,f1,f4,f5⟩) (fun b ob _ _ hc e _=>k b ob hc e) (fun b ob _ _ hc e _=>⟨ob.slots,k b ob hc e⟩)
  (fun _ _ _ _ n=>n) (fun b ob hc e=>⟨ob,k b ob hc e⟩) (fun _ _ e=>e) (fun _ _ _ e=>e) (fun b ps e=>⟨#[],by rw [e];simp⟩) (fun m hm=>?_) (fun b u e=>?_) I.bare
 ·obtain ⟨ob,es,ep,e,r⟩:=hm;exact ⟨ob,es,ep,k _ ob (fun hb=>(hf _ hb).2.1 rfl) e,r⟩
 ·refine (I.hok b u e).kF (fun c v hc q=>k c v ?_ q) (fun _ q=>q) fun _ _ q=>q;rcases hc with z|z
  ·rw [z];exact nofp b u e
  ·exact nofp c _ z
end
def Js {a b:Nat} (h:¬ a=b):@Ne Addr a b:=h
def vH (n l l':Nat) (h1:l<n) (h2:l' < n):Qu (n+4) (n+2) (n+3) n (n+1) l l':=by
 constructor <;> (refine Js ?_;omega)
def Itz (K:LO) (a b:Addr):It :=
 ⟨fun i H=>∃ xs x ys y,SqL K H a xs/\xs[i]?=some x/\SqL K H b ys/\ys[i]?=some y,fun i H v H'=>∃ p x y,v=.ref p/\H p=none/\H'=upd H p (.tup [x,y])/\(∀ xs,SqL K H a xs->xs[i]?=some x)/\∀ ys,SqL K H b ys->ys[i]?=some y,
  fun i H=>∃ xs ys,SqL K H a xs/\SqL K H b ys/\(xs.length<=i\/ys.length<=i)⟩
def Gi {P:Mi} {w:World} {K:LO} {es:List Expr} {kk:Nat} {tpos:Pos} (a b z TI TO i1 i2:Addr) (D:Qu z TI TO i1 i2 a b) :
  Turn P w K (.Tuple es kk tpos) (Itz K a b) [z,TI,TO,i1,i2] z (fun i h=>IsZip h z TI TO .none/\SY h TI (.ref i1) (.ref i2)/\(∃ c d,SY h TO c d)/\h.IsListIter i1 a i/\h.IsListIter i2 b i) where
 mem:=by simp
 obj:=fun i h st c hc=>by
  obtain ⟨hz,hTI,⟨u,v,hTO⟩,⟨o1,e1,_,d1⟩,o2,e2,_,d2⟩:=st;have hc':c=z\/c=TI\/c=TO\/c=i1\/c=i2:=by simpa using hc
  rcases hc' with rfl|rfl|rfl|rfl|rfl
  ·exact ⟨_,hz,fun v y=>by
    have y':TZ _=Tp v:=y;cases y'⟩
  ·exact ⟨_,hTI,fun v y=>by
    have y':Data.seq _ _=Tp v:=y;cases y'⟩
  ·exact ⟨_,hTO,fun v y=>by
    have y':Data.seq _ _=Tp v:=y;cases y'⟩
  ·exact ⟨o1,e1,fun v y=>by rw [d1] at y;cases y⟩
  ·exact ⟨o2,e2,fun v y=>by rw [d2] at y;cases y⟩
 keep:=fun i h h' st k=>by
  obtain ⟨hz,hTI,⟨u,v,hTO⟩,h1,h2⟩:=st;exact ⟨k z (by simp) _ hz,k TI (by simp) _ hTI,⟨u,v,k TO (by simp) _ hTO⟩,h1.at fun o e=>k i1 (by simp) o e,h2.at fun o e=>k i2 (by simp) o e⟩
 item:=by
  intro X hP hw hK hc i pins s σ H E I hf st hg;subst hP hw hK;obtain ⟨xs,x,ys,y,hq,hx,hq2,hy⟩:=hg;obtain ⟨its,rv,p,_⟩:=I.list hq;obtain ⟨its2,rv2,p2,_⟩:=I.list hq2;obtain ⟨u,hu,ru⟩:=rv.get hx;obtain ⟨u2,hu2,ru2⟩:=rv2.get hy;obtain ⟨hz,hTI,⟨c,d,hTO⟩,h1,h2⟩:=st;have lz:z<s.heap.objs.size:=L6 hz;have lTI:TI<s.heap.objs.size:=L6 hTI;have lTO:TO<s.heap.objs.size:=L6 hTO;have l1:i1<s.heap.objs.size:=by obtain ⟨_,q,_⟩:=h1;exact L6 q
  have l2:i2<s.heap.objs.size:=by obtain ⟨_,q,_⟩:=h2;exact L6 q
  refine Sr D hz hTI hTO h1 h2 p.isList p2.isList (x:=u) (y:=u2) (by simpa using hu) (by simpa using hu2) fun h' a1 a2 a3 a4 a5 a6 hk=>?_
  refine ⟨_,rfl,?_⟩;have I1:Inv X pins σ (upd H s.heap.objs.size (.tup [x,y])) { s with heap:=h',toks:=s.toks } :=
   I.wo hf (fun b ob hb q=>hk b ob (fun z=>hb (by simp [z])) (fun z=>hb (by simp [z])) (fun z=>hb (by simp [z])) (fun z=>hb (by simp [z])) q) (Mb _) ⟨by show 2<=My;decide,[u,u2],.cons ru (.cons ru2 .nil),⟨_,a5,rfl,_,rfl⟩⟩
  have fE:=hf z (by simp)
  refine wpAny_letOwnedTupleGo_zip a1 fun h2' hz2 hs2=>?_;have nE:(upd H s.heap.objs.size (.tup [x,y])) z=none:=by rw [aA (Md lz)];exact fE.1
  refine ⟨.ref s.heap.objs.size,_,I1.turned (t':=s.toks) (fun b ob hb q=>(hs2.2 b hb).trans q) nE fE.2.1 fE.2.2.2.1 fE.2.2.2.2.1 fE.2.2.2.2.2,rfl,⟨_,x,y,rfl,I.hok.fresh (Mb _),rfl,fun zs hz=>by rw [I.jg hz hq];exact hx,fun zs hz=>by rw [I.jg hz hq2];exact hy⟩,?_,fun b hb=>?_⟩
  ·exact ⟨hz2,hs2.extBut _ _ D.TIz (hk _ _ D.TIz D.TITO D.TIi1 D.TIi2 hTI),⟨_,_,hs2.extBut _ _ D.TOz a2⟩,a3.extBut hs2.extBut D.i1z,a4.extBut hs2.extBut D.i2z⟩
  ·have hb2:b=z\/b=TI\/b=TO\/b=i1\/b=i2:=by simpa using hb
   have hb':b<s.heap.objs.size:=by rcases hb2 with rfl|rfl|rfl|rfl|rfl <;> assumption
   rw [aA (Md hb')];exact (hf b hb).1
 done:=by
  intro X hP hw hK hc i pins s σ H E I hf st hg;subst hP hw hK;obtain ⟨xs,ys,hq,hq2,hx⟩:=hg;obtain ⟨its,rv,p,_⟩:=I.list hq;obtain ⟨its2,rv2,p2,_⟩:=I.list hq2;obtain ⟨hz,hTI,⟨c,d,hTO⟩,h1,h2⟩:=st;have e1:=rv.length;have e2:=rv2.length;refine SV (I.ok.hd hc) D hz hTI hTO h1 h2 p.isList p2.isList (by
   rcases hx with z|z
   ·exact .inl (by simp;omega)
   ·exact .inr (by simp;omega)) fun h' hk=>⟨rfl,I.EZ (t':=s.toks) hf fun b ob hb q=>hk b ob (fun z=>hb (by simp [z])) (fun z=>hb (by simp [z])) (fun z=>hb (by simp [z])) (fun z=>hb (by simp [z])) q⟩
 self:=fun _ _ _ _ _ st h=>RZ st.1 h
def F7 (K:LO) (vs:List V) (H:Hp) (R:It->Hp->Prop):Prop:=∃ a b xs ys,vs=[.ref a,.ref b]/\SqL K H a xs/\SqL K H b ys/\R (Itz K a b) H
def KC (K:LO) (ta:TA):TI:=fun σ H R=>ta σ H fun vs H1=>F7 K vs H1 R
def Le {K:LO} {ta:TA} {σ:St} {H:Hp} {R:It->Hp->Prop} (h:ta σ H fun vs H1=>F7 K vs H1 R):KC K ta σ H R:=h
def IG {X:Cx} (K:LO) (hK:X.K=K) {tgs:List Expr} {kk:Nat} {tpos:Pos} {a b:Expr} {ta:TA} {p pos:Pos} (hg:Gl X "zip") (hm:X.mg "zip" = none) (ha:PA X [a,b] ta) (hn:isStar a=false:=by rfl) (hn2:isStar b=false:=by rfl) :
  PI X (.Tuple tgs kk tpos) (.Call (.Name "zip" p) [a,b] [] pos) (KC K ta):=by
 subst hK;intro pins s σ H R I h;refine Call_ (iQ I hg hm boot_zip (Nu (thn (ha pos pins s σ H _ I h) fun us s1 ⟨vs,H1,I1,r1,q1⟩=>?_) (bz hn) (cz (by simp [hn2]))))
 obtain ⟨l,l',xs,ys,e,hS,hS2,q⟩:=q1;subst e;cases r1 with
 | cons r rr =>
  cases rr with
  | cons r2 rr2 =>
   cases rr2;cases (show _=Mt l from r);cases (show _=Mt l' from r2);obtain ⟨its,rv,pl,_⟩:=I1.list hS;obtain ⟨its2,rv2,pl2,_⟩:=I1.list hS2;have lt1:l<s1.heap.objs.size:=by obtain ⟨_,z,_⟩:=pl.isList;exact L6 z
   have lt2:l' < s1.heap.objs.size:=by obtain ⟨_,z,_⟩:=pl2.isList;exact L6 z
   refine call_zip_2 pl.isList pl2.isList fun h' hz hTI hTO hi1 hi2 hsz hk=>?_;refine RZ hz ?_;have I2:Inv X pins σ H1 { s1 with heap:=h' }:=I1.kept (t':=s1.toks) hk;have D:Qu (s1.heap.objs.size+4) (s1.heap.objs.size+2) (s1.heap.objs.size+3) s1.heap.objs.size (s1.heap.objs.size+1) l l':=by
    exact vH _ _ _ lt1 lt2
   refine ⟨s1.heap.objs.size+4,[s1.heap.objs.size+4,s1.heap.objs.size+2,s1.heap.objs.size+3,s1.heap.objs.size,s1.heap.objs.size+1],_,_,H1,rfl,I2,Gi l l' _ _ _ _ _ D,⟨hz,hTI,⟨_,_,hTO⟩,hi1,hi2⟩,fun b hb=>?_,q⟩;have hb2:b=s1.heap.objs.size+4\/b=s1.heap.objs.size+2\/b=s1.heap.objs.size+3\/b=s1.heap.objs.size\/b=s1.heap.objs.size+1:=by simpa using hb
   have hb':s1.heap.objs.size<=b:=by rcases hb2 with rfl|rfl|rfl|rfl|rfl <;> omega
   exact I1.uv hb' (I1.hok.fresh hb')
section
variable {prog:Mi} {w:World} {A:MQ} {E:Value->LV->Prop}
variable {s:LV}
end
section
variable {X:Cx} {pos:Pos}
end
structure fW (K:LO) (x qual:Str) (st:Stmt) (f:Addr) (fd:Na):Prop where
 ex:∃ (oc:Value) (od:Option Addr) (D:Addr) (kV doc pm:Value) (an:Option Addr) (cdv ct:Value) (osl:Array (Option Value)) (dc:Value) (dd:Option Addr) (n:Nat) (dsl:Array (Option Value)),
  fd=MR x qual (bR st) (bC st) (ak st) (.ref D) kV doc pm an cdv ct/\K.lookup f=some ⟨oc,od,.func fd,osl⟩/\Nx K cdv qual=true/\K.lookup D=some ⟨dc,dd,.seq #[.none] n,dsl⟩
 kp:M6 K (.ref f)=true
section
variable {P:Mi} {w:World} {K:LO} {mg:Str->Option Value} {base:Heap} {x qual:Str} {st:Stmt} {f:Addr} {fd:Na} {ps:List Str}
def fW.ok {N:List Str} {k:Nat} {sp:Sp} (F:fW K x qual st f fd) (S:aK N ps (ak st)) (len:∀ vs H Q E,sp vs H Q E->vs.length=ps.length)
  (hbody:∀ (cdv:Value) (A:MQ) (outer:List Env) (s:LV) (H:Hp) (vs:List V) (Q:VK) (E:XK),bX k (A.deeper (envOfC qual (ak st) s.heap.objs.size f cdv))->sp vs H Q E ->
   ∃ t,PSs (iN CX0 P w K mg base N qual (ak st) f cdv A outer s H E).nox (bC st) t/\t { nx:=fun _ H'=>Q .non H',rt:=Q } (start N vs) H):aH P w K mg base CX0 (k+1) f fd ps sp:=by
 obtain ⟨oc,od,D,kV,doc,pm,an,cdv,ct,osl,dc,dd,n,dsl,rfl,lk,hcd,_⟩:=F.ex;refine xR lk hcd S len fun A outer s H vs Q E hr hsp=>?_;obtain ⟨t,h,q⟩:=hbody cdv A outer s H vs Q E hr hsp;exact ⟨t,h.nox,q⟩
def fW.to {s:LV} {args:Args} {bs:List (Str×Value)} (F:fW K x qual st f fd) (KI:K.In s.heap)
  (h:∀ (D:Addr) (kV doc pm:Value) (an:Option Addr) (cdv ct:Value),∃ k:Option (Array Value)->Sem (List (Str×Value)),bindArgs (MR x qual (bR st) (bC st) (ak st) (.ref D) kV doc pm an cdv ct) args=seqItems? (.ref D) >>= k/\k (some #[.none])=pure bs):Q9 s fd args bs:=by
 obtain ⟨oc,od,D,kV,doc,pm,an,cdv,ct,osl,dc,dd,n,dsl,rfl,lk,hcd,dl⟩:=F.ex;obtain ⟨k,h1,h2⟩:=h D kV doc pm an cdv ct;exact BindsTo.of_defaults (fd:=MR x qual (bR st) (bC st) (ak st) (.ref D) kV doc pm an cdv ct) (T:=D) rfl (KI _ _ dl) rfl h1 h2
def ef {D:Addr} {oc dc:Value} {od an dd:Option Addr} {osl dsl:Array (Option Value)} {kV doc pm cdv ct:Value} {n:Nat} (l:K.lookup f=some ⟨oc,od,.func (MR x qual (bR st) (bC st) (ak st) (.ref D) kV doc pm an cdv ct),osl⟩)
  (d:K.lookup D=some ⟨dc,dd,.seq #[.none] n,dsl⟩) (c:Nx K cdv qual=true) (k:M6 K (.ref f)=true):fW K x qual st f (MR x qual (bR st) (bC st) (ak st) (.ref D) kV doc pm an cdv ct) :=
 ⟨⟨oc,od,D,kV,doc,pm,an,cdv,ct,osl,dc,dd,n,dsl,rfl,l,c,d⟩,k⟩
end
def byName {α:Type} (k:Nat) (us ws:List α):List α:=if us.length=k/\ws.length=1 then us++ws else []
def Cu {k:Nat} {vs zs:List V} {us ws:List Value} (r:Vals vs us) (rz:Vals zs ws):Vals (byName k vs zs) (byName k us ws):=by
 have h1:=r.length;have h2:=rz.length;unfold byName;rw [h1,h2]
 split
 ·exact r.append rz
 ·exact .nil
def mY {K:LO} {fd:Na} {ps:List Str} {k:Nat} (hk:ps.length=k+1) (h:∀ (s:LV) (us:List Value),K.In s.heap->us.length=k->Q9 s fd ⟨us,[]⟩ (ps.zip (us++[.none]))):Binds K fd ps [.none]:=fun s us KI hl=>h s us KI (by
 rw [Mr,hk] at hl;have:([Ng]:List Value).length=1:=rfl;omega)
def nu {K:LO} {fd:Na} {ps:List Str} {y:Str} {k:Nat} (hk:ps.length=k+1) (h:∀ (s:LV) (us:List Value) (w:Value),K.In s.heap->us.length=k->Q9 s fd ⟨us,[(y,w)]⟩ (ps.zip (us++[w]))):pM K fd ps [y] (byName k) (byName k):=by
 refine ⟨fun s us ws KI hl=>?_,Cu⟩;unfold byName at hl ⊢
 split at hl
 ·rename_i c
  rw [if_pos c]
  match ws,c.2 with
  | [w],_=>exact h s us w KI c.1
 ·rw [hk] at hl;cases hl
structure DfD (K:LO) (mg:Str->Option Value) (x:Str) (st:Stmt) (ps:List Str) (y:Str) (k:Nat) where
 f:Addr
 fd:Na
 fn:fW K x x st f fd
 bd:Binds K fd ps []
 bn:Binds K fd ps [.none]
 bk:pM K fd ps [y] (byName k) (byName k)
 nm:mg x=some (.ref f)
def DfD.ok {P:Mi} {w:World} {K:LO} {mg:Str->Option Value} {base:Heap} {x y:Str} {st:Stmt} {N ps:List Str} {k j:Nat} {sp:Sp} (d:DfD K mg x st ps y j) (S:aK N ps (ak st)) (len:∀ vs H Q E,sp vs H Q E->vs.length=ps.length)
  (hbody:∀ (cdv:Value) (A:MQ) (outer:List Env) (s:LV) (H:Hp) (vs:List V) (Q:VK) (E:XK),bX k (A.deeper (envOfC x (ak st) s.heap.objs.size d.f cdv))->sp vs H Q E ->
   ∃ t,PSs (iN CX0 P w K mg base N x (ak st) d.f cdv A outer s H E).nox (bC st) t/\t { nx:=fun _ H'=>Q .non H',rt:=Q } (start N vs) H):aH P w K mg base CX0 (k+1) d.f d.fd ps sp :=
 d.fn.ok S len hbody
section
variable {X:Cx} {x y:Str} {st:Stmt} {ps:List Str} {k j:Nat} {sp:Sp} {p pos kpos:Pos} {e a:Expr} {es:List Expr} {t:TA} {te:TE}
def Lm (d:DfD X.K X.mg x st ps y j) (G:aH X.prog X.w X.K X.mg X.base CX0 k d.f d.fd ps sp) (hr:bX k X.A) (hg:Gl X x) (ha:PA X (e :: es) t) (hn:isStar e=false:=by rfl) (hall:es.all (fun e=>!isStar e)=true:=by rfl) (hdb:(x == ("__debug__" : Str))=false:=by decide) :
  PE X (.Call (.Name x p) (e :: es) [] pos) (nG sp [] E0 t):=qr G hr hg d.nm d.fn.kp d.bd .nil Dk ha hdb (bz hn) (cz hall)
end
end L2
set_option Elab.async false
set_option linter.all false
set_option maxRecDepth 100000
namespace L2
open PySem PySem.Spec PyProof.Rows
section
variable (P:Mi) (w:World)
end
section
variable {P:Mi} {w:World} {H H':Hp} {h h':Heap} {a:Addr} {o:HO}
end
section
variable {P:Mi} {w:World} {H:Hp} {h h':Heap} {x e:Addr} {o':HO}
end
section
variable {fs fs' ex ex':List Addr} {H H1 H2:Hp} {h h1 h2 h':Heap} {a x e:Addr} {o:HO}
end
section
variable {X:Cx} {pins:List (Addr×Obj)} {σ:List (Option V)} {H H':Hp} {s:LV} {h':Heap}
end
section
variable {X:Cx}
variable {a b:Expr} {ta tb:TE} {pos:Pos}
variable {tA tB':TT} {rest:List Expr}
end
section
variable {X:Cx} {pins:List (Addr×Obj)} {σ:St} {H:Hp} {s:LV} {a:Addr} {xs ys:List V}
end
section
variable {X:Cx} {pins:List (Addr×Obj)} {σ:St} {H:Hp} {s:LV} {E:Value->LV->Prop}
end
section
variable {X:Cx} {st:Stmt} {rest:List Stmt} {t u:TS} {e:Expr} {te:TE} {pos:Pos}
end
section
variable {X:Cx} {pos:Pos}
end
section
variable {X:Cx} {tg:Expr}
end
section
variable {X:Cx} {a b c:Expr} {ta tb tc:TE} {pos:Pos}
end
section
variable {prog:Mi} {w:World} {A:MQ} {E:Value->LV->Prop} {s:LV} {K:LO} {x dx C f:Addr} {mA:Str->Option Value} {name:Str} {v:Value}
end
section
variable {P:Mi} {w:World} {H H':Hp} {h h':Heap} {a C dx:Addr} {fs fs':List (Str×V)}
end
section
variable {X:Cx} {pins:List (Addr×Obj)} {σ:St} {H:Hp} {s:LV} {a C dx:Addr} {fs:List (Str×V)} {f:Str} {v:V} {A:MQ} {E:Value->LV->Prop}
end
section
variable {X:Cx} {o e value:Expr} {f:Str} {pos pos' tpos:Pos} {ta tv:TE}
end
section
variable {X:Cx} {pins:List (Addr×Obj)} {σ:St} {H:Hp} {s:LV} {A:MQ} {E:Value->LV->Prop} {Q:Value->LV->Prop} {c:Value} {b:Bool}
end
section
variable {X:Cx} {e:Expr} {es:List Expr} {te:TE} {t:TA} {pos:Pos}
end
section
variable {X:Cx} {pins:List (Addr×Obj)} {σ:St} {H:Hp} {s s':LV}
end
section
variable {X:Cx} {CX:CXT} {k:Nat} {f C:Addr} {fd:Na} {ps:List Str} {sp:Sp} {dvs:List V} {ds:List Value} {E:XK} {x m:Str} {p pos apos:Pos} {e o:Expr} {es:List Expr} {ta:TE} {t:TA}
end
section
variable {X:Cx} {CX:CXT} {k:Nat} {f C:Addr} {fd:Na} {ps ks:List Str} {sp:Sp} {E:XK} {x m:Str} {p pos apos kpos:Pos} {e o:Expr} {es:List Expr} {kws:List Sk} {te ta:TE} {t tk:TA} {nm:Option Str}
variable {g:List Value->List Value->List Value} {gV:List V->List V->List V}
end
section
variable {X:Cx} {x:Str} {p pos:Pos} {e:Expr} {es:List Expr} {t:TA} {id T:String} {r:List V->Hp->VK->Prop}
end
section
variable {κ:Type} [DecidableEq κ]
def cQ (kvs:List (κ×V)) (k:κ):Option V:=(kvs.find? fun kv=>decide (kv.1=k)).map (·.2)
def putK (kvs:List (κ×V)) (k:κ) (v:V):List (κ×V) :=
 if (kvs.any fun kv=>decide (kv.1=k))=true then kvs.map (fun kv=>if kv.1=k then (kv.1,v) else kv) else kvs++[(k,v)]
def kS {p:κ×V} {r:List (κ×V)} {k:κ} (e:p.1=k):cQ (p :: r) k=some p.2:=by simp [cQ,OU,e]
def jh {p:κ×V} {r:List (κ×V)} {k:κ} (e:¬ p.1=k):cQ (p :: r) k=cQ r k:=by simp [cQ,OU,e]
def rU (k:κ):∀ kvs:List (κ×V),(kvs.any fun kv=>decide (kv.1=k))=(cQ kvs k).isSome
 | []=>rfl
 | p :: r=>by
  rw [P2]
  by_cases e:p.1=k
  ·simp only [kS e,decide_eq_true e,Bool.true_or,Option.isSome_some]
  ·rw [jh e,decide_eq_false e,Bool.false_or];exact rU k r
def lT (kvs:List (κ×V)) (k:κ) (v:V):(putK kvs k v).length<=kvs.length+1:=by
 unfold putK
 split
 ·rw [LX];omega
 ·rw [Mr,MO,P4];omega
def rm {kvs:List (κ×V)} {k:κ} (v:V) (h:cQ kvs k=none):putK kvs k v=kvs++[(k,v)]:=by
 unfold putK;rw [rU,h];exact if_neg (by decide)
def fL.oH {o:Option V} {u:Option Value} (r:fL o u):o.isSome=u.isSome:=by
 cases o with
 | none=>cases u with
  | none=>rfl
  | some _=>exact (show False from r).elim
 | some _=>cases u with
  | none=>exact (show False from r).elim
  | some _=>rfl
def KV.val {kvs:List (κ×V)} {vs:List (κ×Value)} (r:KV kvs vs) (k:κ):fL (cQ kvs k) (valueAt vs k):=by
 unfold KV at r
 induction r with
 | nil=>exact NO
 | @cons p q ps qs h t ih =>
  obtain ⟨h1,h2⟩:=h
  by_cases e:p.1=k
  ·have e':q.1=k:=h1.symm.trans e;have b:valueAt (q :: qs) k=some q.2:=by simp [valueAt,OU,e']
   rw [kS e,b];exact h2
  ·have e':¬ q.1=k:=fun z=>e (h1.trans z);have b:valueAt (q :: qs) k=valueAt qs k:=by simp [valueAt,OU,e']
   rw [jh e,b];exact ih
def KV.any {kvs:List (κ×V)} {vs:List (κ×Value)} (r:KV kvs vs) (k:κ):(kvs.any fun kv=>decide (kv.1=k))=vs.any fun kv=>decide (kv.1=k):=by
 unfold KV at r
 induction r with
 | nil=>rfl
 | cons h t ih=>rw [P2,P2,ih,h.1]
def KV.Ho {kvs:List (κ×V)} {vs:List (κ×Value)} (r:KV kvs vs) (k:κ) {y:V} {u:Value} (ry:RelV y u) :
  KV (kvs.map fun kv=>if kv.1=k then (kv.1,y) else kv) (vs.map fun kv=>if kv.1=k then (kv.1,u) else kv):=by
 unfold KV at r ⊢
 induction r with
 | nil=>exact .nil
 | @cons p q ps qs h t ih =>
  rw [Mz,Mz];refine .cons ?_ ih;obtain ⟨h1,h2⟩:=h
  by_cases e:p.1=k
  ·rw [if_pos e,if_pos (h1.symm.trans e)];exact ⟨h1,ry⟩
  ·rw [if_neg e,if_neg (fun z=>e (h1.trans z))];exact ⟨h1,h2⟩
def KV.put {kvs:List (κ×V)} {vs:List (κ×Value)} (r:KV kvs vs) (k:κ) {y:V} {u:Value} (ry:RelV y u):KV (putK kvs k y) (stored vs k u):=by
 unfold putK stored;rw [r.any k]
 by_cases e:(vs.any fun kv=>decide (kv.1=k))=true
 ·rw [if_pos e,if_pos e];exact r.Ho k ry
 ·rw [if_neg e,if_neg e];exact Paired.snoc r ⟨rfl,ry⟩
def KV.length {kvs:List (κ×V)} {vs:List (κ×Value)} (r:KV kvs vs):kvs.length=vs.length:=RC r
end
def qu {P:Mi} {w:World} {k:Key} {u:Value} (r:RelV (kV k) u):(cG P w).is k u=true:=by
 cases k with
 | inl i=>obtain ⟨t,e⟩:=(show ∃ t,u=Ol i t from r);subst e;exact AJ P w i t
 | inr x=>obtain ⟨t,e⟩:=(show ∃ t,u=Tj x t from r);subst e;exact AK P w x t
def wx {P:Mi} {w:World}:∀ {ks:List Key} {us:List Value},Vals (ks.map kV) us->ItemsAre (cG P w) ks us
 | [],_,r=>by rw [TL] at r;cases r;exact .nil
 | k :: ks,_,r=>by
  rw [Mz] at r;cases r with
  | cons h t=>exact .cons (qu h) (wx t)
abbrev KT (H:Hp):List (List Key×V)->List (List Key×Addr×Value)->Prop:=Nk fun p q=>p.1=q.1/\H q.2.1=some (.tup (p.1.map kV))/\RelV p.2 q.2.2
def KT.val {H:Hp} {kvs:List (List Key×V)} {xs:List (List Key×Addr×Value)} (r:KT H kvs xs) (k:List Key):fL (cQ kvs k) ((atKey xs k).map (·.2)):=by
 induction r with
 | nil=>exact NO
 | @cons p q ps qs h t ih =>
  obtain ⟨h1,_,h2⟩:=h
  by_cases e:p.1=k
  ·have e':q.1=k:=h1.symm.trans e;have b:atKey (q :: qs) k=some q.2:=by simp [atKey,OU,e']
   rw [kS e,b];exact h2
  ·have e':¬ q.1=k:=fun z=>e (h1.trans z);have b:atKey (q :: qs) k=atKey qs k:=by simp [atKey,OU,e']
   rw [jh e,b];exact ih
def KT.Ho {H:Hp} {kvs:List (List Key×V)} {xs:List (List Key×Addr×Value)} (r:KT H kvs xs) (k:List Key) {y:V} {u:Value} (ry:RelV y u) :
  KT H (kvs.map fun kv=>if kv.1=k then (kv.1,y) else kv) (xs.map (putAt k u)):=by
 induction r with
 | nil=>exact .nil
 | @cons p q ps qs h t ih =>
  rw [Mz,Mz];refine .cons ?_ ih;obtain ⟨h1,h2,h3⟩:=h;unfold putAt
  by_cases e:p.1=k
  ·rw [if_pos e,if_pos (h1.symm.trans e)];exact ⟨h1,h2,ry⟩
  ·rw [if_neg e,if_neg (fun z=>e (h1.trans z))];exact ⟨h1,h2,h3⟩
def KT.put {H:Hp} {kvs:List (List Key×V)} {xs:List (List Key×Addr×Value)} (r:KT H kvs xs) (k:List Key) {b:Addr} {y:V} {u:Value} (hb:H b=some (.tup (k.map kV))) (ry:RelV y u) :
  KT H (putK kvs k y) (storedH xs k b u):=by
 have e:(kvs.any fun kv=>decide (kv.1=k))=(atKey xs k).isSome:=by
  rw [rU,(r.val k).oH,Option.isSome_map]
 unfold putK storedH;rw [e]
 by_cases q:(atKey xs k).isSome=true
 ·rw [if_pos q,if_pos q];exact r.Ho k ry
 ·rw [if_neg q,if_neg q];exact Paired.snoc r ⟨rfl,hb,ry⟩
def KT.keeps {H H':Hp} {kvs:List (List Key×V)} {xs:List (List Key×Addr×Value)} (r:KT H kvs xs) (ht:∀ b ys,H b=some (.tup ys)->H' b=some (.tup ys)):KT H' kvs xs :=
 Paired.ck r fun _ _ z=>⟨z.1,ht _ _ z.2.1,z.2.2⟩
section
variable {P:Mi} {w:World} {H:Hp} {h:Heap} {a:Addr}
def HV {u:HO} (ok:HOk P w H h) (e:Rd H a u):bA P w H h a u:=e.ok ok
def xt {kvs:List (Key×V)} (ok:HOk P w H h) (e:Rd H a (.dK kvs)):kvs.length<=My/\(a == sysModules)=false/\∃ vs,KV kvs vs/\h.DictOf (cG P w) a vs :=
 show bA P w H h a (.dK kvs) from HV ok e
def Dq {kvs:List (Key×V)} (ok:HOk P w H h) (e:H a=some (.dK kvs)):kvs.length<=My/\(a == sysModules)=false/\∃ vs,KV kvs vs/\h.DictOf (cG P w) a vs:=xt ok (.inl e)
def t9 {ks:List Key} (ok:HOk P w H h) (e:H a=some (.tup (ks.map kV))):(tupleKind (cG P w)).is h ks a:=by
 obtain ⟨_,its,r,o,h1,h2,n,h3⟩:=(show bA P w H h a (.tup (ks.map kV)) from ok a _ e);exact ⟨o,its.toArray,n,h1,h2,h3,by simpa using wx r⟩
def xI {kvs:List (List Key×V)} (ok:HOk P w H h) (e:Rd H a (.dT kvs)):kvs.length<=My/\(a == sysModules)=false /\
  ∃ xs,KT H kvs xs/\h.DictOfH (tupleKind (cG P w)) a xs:=by
 obtain ⟨z,y,xs,r,o,es,ep,h1,h2,h3,h4,h5⟩:=(show bA P w H h a (.dT kvs) from HV ok e);refine ⟨z,y,xs,r,o,es,ep,h1,h2,h3,h4,fun x hx=>?_,h5⟩;have all:∀ {l:List (List Key×V)} {m:List (List Key×Addr×Value)},KT H l m->∀ x∈m,(tupleKind (cG P w)).is h x.1 x.2.1:=by
  intro l m q
  induction q with
  | nil=>intro x hx;exact nomatch hx
  | @cons p q ps qs hq t ih =>
   intro x hx;rcases Mq.mp hx with e|hx
   ·subst e;exact t9 ok (by rw [<- hq.1];exact hq.2.1)
   ·exact ih x hx
 exact all r x hx
def Ld {kvs:List (List Key×V)} (ok:HOk P w H h) (e:H a=some (.dT kvs)):kvs.length<=My/\(a == sysModules)=false /\
  ∃ xs,KT H kvs xs/\h.DictOfH (tupleKind (cG P w)) a xs:=xI ok (.inl e)
end
def jb (H:Hp) (a:Addr) (y:V) (r:Option V):Prop :=
 (∃ kvs k,Rd H a (.dK kvs)/\y=kV k/\r=cQ kvs k)\/∃ kvs k b,Rd H a (.dT kvs)/\y=.ref b/\H b=some (.tup (k.map kV))/\r=cQ kvs k
def oE (H:Hp) (a:Addr) (y v:V) (H':Hp):Prop :=
 (∃ kvs k,H a=some (.dK kvs)/\y=kV k/\kvs.length<My/\H'=upd H a (.dK (putK kvs k v))) \/
 ∃ kvs k b,H a=some (.dT kvs)/\y=.ref b/\H b=some (.tup (k.map kV))/\kvs.length<My/\H'=upd H a (.dT (putK kvs k v))
def jb.k {H:Hp} {a:Addr} {kvs:List (Key×V)} {k:Key} (e:H a=some (.dK kvs)):jb H a (kV k) (cQ kvs k):=.inl ⟨kvs,k,.inl e,rfl,rfl⟩
def jb.t {H:Hp} {a b:Addr} {kvs:List (List Key×V)} {k:List Key} (e:H a=some (.dT kvs)) (eb:H b=some (.tup (k.map kV))):jb H a (.ref b) (cQ kvs k):=.inr ⟨kvs,k,b,.inl e,rfl,eb,rfl⟩
def oE.k {H:Hp} {a:Addr} {kvs:List (Key×V)} {k:Key} {v:V} (e:H a=some (.dK kvs)) (hl:kvs.length<My):oE H a (kV k) v (upd H a (.dK (putK kvs k v))):=.inl ⟨kvs,k,e,rfl,hl,rfl⟩
def oE.t {H:Hp} {a b:Addr} {kvs:List (List Key×V)} {k:List Key} {v:V} (e:H a=some (.dT kvs)) (eb:H b=some (.tup (k.map kV))) (hl:kvs.length<My) :
  oE H a (.ref b) v (upd H a (.dT (putK kvs k v))):=.inr ⟨kvs,k,b,e,rfl,eb,hl,rfl⟩
section
variable {X:Cx} {pins:List (Addr×Obj)} {σ:St} {H:Hp} {s:LV} {a:Addr} {y v:V} {u r:Value} {o:Option V} {A:MQ} {E:Value->LV->Prop}
def Inv.big (I:Inv X pins σ H s):sysModules<s.heap.objs.size:=by
 have h:MP<s.heap.objs.size:=(I.mod.glob.keeps I.bk).lt;exact TM (by decide) h
def En {Q:Value->LV->Prop} (hu:A.units+1<cLine) (I:Inv X pins σ H s) (g:jb H a y (some v)) (ry:RelV y u) (h:∀ w' s',Inv X pins σ H s'->RelV v w'->Q w' s') :
  wpAny (model X.prog X.w) A (getItem (.ref a) u) Q E s:=by
 rcases g with ⟨kvs,k,e,ey,l⟩|⟨kvs,k,b,e,ey,eb,l⟩
 ·subst ey;obtain ⟨z,hd,vs,rel,dd⟩:=xt I.hok e;obtain ⟨w',hw,rw'⟩:=fL.some_of (v:=v) (o:=valueAt vs k) (by rw [l];exact rel.val k)
  exact wpAny_getItem_of (qu ry) dd.mapOf hw (h w' _ (I.tok _) rw')
 ·subst ey;cases (show u=Mt b from ry);obtain ⟨z,hd,xs,rel,dd⟩:=xI I.hok e;obtain ⟨w',hw,rw'⟩:=fL.some_of (v:=v) (o:=(atKey xs k).map (·.2)) (by rw [l];exact rel.val k)
  obtain ⟨p,hp,hp2⟩:=O7.mp hw;refine wpAny_getItem_heap (Q1 hu) (t9 I.hok eb) dd hp ?_;rw [hp2];exact h w' _ (I.tok _) rw'
def Ji {Q:Value->LV->Prop} (hu:A.units+1<cLine) (I:Inv X pins σ H s) (g:jb H a y o) (ry:RelV y u) (h:∀ s',Inv X pins σ H s'->Q (.bool (!o.isSome)) s') :
  wpAny (model X.prog X.w) A (compareOp .NotIn u (.ref a)) Q E s:=by
 rcases g with ⟨kvs,k,e,ey,l⟩|⟨kvs,k,b,e,ey,eb,l⟩
 ·subst ey;obtain ⟨z,hd,vs,rel,dd⟩:=xt I.hok e;refine wpAny_notIn_of (qu ry) hd dd.mapOf ?_;rw [<- (rel.val k).oH,<- l];exact h _ (I.tok _)
 ·subst ey;cases (show u=Mt b from ry);obtain ⟨z,hd,xs,rel,dd⟩:=xI I.hok e;refine wpAny_notIn_heap (Q1 hu) (t9 I.hok eb) hd dd ?_;have q:=(rel.val k).oH;rw [Option.isSome_map] at q;rw [<- q,<- l];exact h _ (I.tok _)
def uN {h':Heap} {t':Nat} {ob:HO} (I:Inv X pins σ H s) (mu:Mut (H a)) (hs:O1 a s.heap h') (he:∃ q,h'.get? a=some q) (new:bA X.prog X.w (upd H a ob) h' a ob) :
  Inv X pins σ (upd H a ob) { s with heap:=h',toks:=t' } :=
 I.write (x:=a) (e:=a) mu (.inl rfl) (fun b q hb z=>(hs.2 b hb).trans z) he new
def yd {P:Mi} {w:World} {H':Hp} {h':Heap} {kvs:List (Key×V)} {vs:List (Key×Value)} (z:kvs.length<=My) (hd:(a == sysModules)=false) (rel:KV kvs vs) (dd:h'.DictOf (cG P w) a vs) :
  bA P w H' h' a (.dK kvs):=⟨z,hd,vs,rel,dd⟩
def Ek {H':Hp} {Q:Unit->LV->Prop} (hu:A.units+1<cLine) (I:Inv X pins σ H s) (g:oE H a y v H') (ry:RelV y u) (rv:RelV v r) (h:∀ s',Inv X pins σ H' s'->Q () s') :
  wpAny (model X.prog X.w) A (setItem (.ref a) u r) Q E s:=by
 rcases g with ⟨kvs,k,e,ey,l,eH⟩|⟨kvs,k,b,e,ey,eb,l,eH⟩
 ·subst ey eH;obtain ⟨z,hd,vs,rel,dd⟩:=Dq I.hok e;have hz:vs.length<=My:=by rw [<- rel.length];exact z
  have hl:(putK kvs k v).length<=My:=by have:=lT kvs k v;omega
  refine wpAny_setItem_pairs (hsz:=hz) (qu ry) dd fun h' dd' hs=>h _ ?_;have he:∃ q,h'.get? a=some q:=let ⟨q,_,_,hq,_⟩:=dd';⟨q,hq⟩;exact uN I (by rw [e];exact NO) hs he (yd hl hd (rel.put k rv) dd')
 ·subst ey eH;cases (show u=Mt b from ry);obtain ⟨z,hd,xs,rel,dd⟩:=Ld I.hok e;have hz:xs.length<=My:=by rw [<- RC rel];exact z
  have hl:(putK kvs k v).length<=My:=by have:=lT kvs k v;omega
  refine wpAny_setItem_heap (hsz:=hz) (Q1 hu) (t9 I.hok eb) dd fun h' dd' hs=>h _ ?_;obtain ⟨q,es,ep,hq,h2,h3,h4,_,h5⟩:=dd';refine uN I (by rw [e];exact NO) hs ⟨q,hq⟩ ⟨hl,hd,_,(rel.put k eb rv).keeps fun c ys ec=>?_,q,es,ep,hq,h2,h3,h4,h5⟩
  rw [aA (K8 ec e (fun z=>nomatch z))];exact ec
end
section
variable {X:Cx} {pins:List (Addr×Obj)} {σ:St} {H:Hp} {s:LV} {a:Addr} {kvs:List (Key×V)} {k:Key} {u:Value} {A:MQ} {E:Value->LV->Prop}
end
def Kd (i:Expr):Prop:=∀ ov iv,subscripted i false ov iv=operate [ov,iv] (getItem ov iv)
def IY {prog:Mi} {w:World} {A:MQ} {E:Value->LV->Prop} {s:LV} {env:Env} {value slice:Expr} {pos:Pos} {T id:String} {Q:Value->LV->Prop}
  (hl:typeLookup (.type T) "__getitem__" = pure (some (.builtin id))) (hs:Kd slice)
  (h:wpAny (model prog w) A (eval value env) (fun o s₁=>wpAny (model prog w) A (eval slice env) (fun i s₂=>s₂.TypeIs o T/\wpAny (model prog w) A (getItem o i) Q E s₂) E s₁) E s) :
  wpAny (model prog w) A (eval (.Subscript value slice pos) env) Q E s:=by
 refine Subscript_ (Nc h (fun o s₁ h₁=>Nc h₁ (fun i s₂ h₂=>?_) fun _ _ x=>x) fun _ _ x=>x);obtain ⟨hT,h₂⟩:=h₂;unfold subscriptTail;refine LQ ?_;rw [getitemInPython_of_ne hT.not_modules];refine LQ (wpAny_specialOf hT hl ?_);have fin:wpAny (model prog w) A (subscripted slice false o i) (fun r s₃=>wpAny (model prog w) A (letTemporaryGo value o r >>= fun _=>pure r) Q E s₃) E s₂:=by
  rw [hs o i];exact wpAny_operating (Nc h₂ (fun r s₃ h₃=>LQ (wpAny_letTemporaryGo (L4 h₃))) fun _ _ x=>x)
 first
  | exact L4 (LQ fin)
  | exact LQ (L4 (LQ fin))
  | exact LQ fin
def Af {X:Cx} {pins:List (Addr×Obj)} {σ:St} {H:Hp} {s:LV} {a:Addr} {y:V} {o:Option V} (I:Inv X pins σ H s) (g:jb H a y o):s.TypeIs (.ref a) "dict":=by
 rcases g with ⟨kvs,k,e,_,_⟩|⟨kvs,k,b,e,_,_,_⟩
 ·obtain ⟨_,_,vs,_,dd⟩:=xt I.hok e;exact dd.typeIs
 ·obtain ⟨_,_,xs,_,dd⟩:=xI I.hok e;exact dd.typeIs
def HU (td ty:TE):TE:=fun σ H Q=>td σ H fun x H1=>ty σ H1 fun y H2=>∃ a v,x=.ref a/\jb H2 a y (some v)/\Q v H2
def Bl (ty td:TE):TE:=fun σ H Q=>ty σ H fun y H1=>td σ H1 fun x H2=>∃ a o,x=.ref a/\jb H2 a y o/\Q (.bl (!o.isSome)) H2
def HB (td ty tv:TE):TS:=fun D σ H=>tv σ H fun v H1=>td σ H1 fun x H2=>ty σ H2 fun y H3=>∃ a H4,x=.ref a/\oE H3 a y v H4/\D.nx σ H4
section
variable {X:Cx} {o i e value:Expr} {pos pos' tpos:Pos} {td ty tv:TE}
def dW (hu:X.A.units+1<cLine) (ho:PE X o td) (hi:PE X i ty) (hs:Kd i):PE X (.Subscript o i pos) (HU td ty):=by
 intro pins s σ H Q I h;refine IY PySem.F.slot_dict_getitem.lookup hs (thn (ho pins s σ H _ I h) fun u s1 ⟨x,H1,I1,rx,q1⟩=>thn (hi pins s1 σ H1 _ I1 q1) fun iv s2 ⟨y,H2,I2,ry,a,v,ex,g,q2⟩=>?_);subst ex;obtain rfl:u=Mt a:=rx;exact ⟨Af I2 g,En hu I2 g ry fun w' s3 I3 rw'=>⟨v,H2,I3,rw',q2⟩⟩
def DV (hu:X.A.units+1<cLine) (hi:PE X i ty) (ho:PE X o td):PC X .NotIn i o (Bl ty td):=by
 intro pins s σ H Q I h;refine thn (hi pins s σ H _ I h) fun iv s1 ⟨y,H1,I1,ry,q1⟩=>thn (ho pins s1 σ H1 _ I1 q1) fun u s2 ⟨x,H2,I2,rx,a,ov,ex,g,q2⟩=>?_;subst ex;obtain rfl:u=Mt a:=rx;exact Ji hu I2 g ry fun s3 I3=>⟨.bl (!ov.isSome),H2,I3,rfl,q2⟩
def A0 (hu:X.A.units+1<cLine) (ho:PE X o td) (hi:PE X i ty) (hv:PE X value tv) (hs:swapsWith value (some (.Subscript o i pos')) pos.line X.env=pure false) :
  PS X (.Assign [.Subscript o i pos'] value pos) (HB td ty tv):=by
 intro pins s σ H D I h;refine wpAny_Assign_Subscript (thn (hv pins s σ H _ I h) fun r s1 ⟨v,H1,I1,rv,q1⟩=>thn (ho pins s1 σ H1 _ I1 q1) fun u s2 ⟨x,H2,I2,rx,q2⟩=>thn (hi pins s2 σ H2 _ I2 q2) fun iv s3 ⟨y,H3,I3,ry,a,H4,ex,g,q3⟩=>?_) hs;subst ex;obtain rfl:u=Mt a:=rx;exact Ek hu I3 g ry rv fun s4 I4=>⟨σ,H4,I4,q3⟩
end
def zH {P:Mi} {w:World} {H:Hp} (h:Heap) (hb:sysModules<h.objs.size):bA P w H (h.push { cls:=.type "dict",data:=.dict #[] }) h.objs.size (.dK []) :=
 ⟨MI _,beq_eq_false_iff_ne.mpr (NJ (Md hb)),[],.nil,Heap.DictOf.new h⟩
def Fy:TE:=fun _ H Q=>∀ p,H p=none->Q (.ref p) (upd H p (.dK []))
section
variable {X:Cx} {pos:Pos}
def G8:PE X (.Dict [] [] pos) Fy:=fun pins s σ H Q I h =>
 wpAny_Dict_empty ⟨.ref s.heap.objs.size,_,I.laid (a:=s.heap.objs.size) (o:=.dK []) (t':=s.toks) (fun _ _ q=>LW _ q) (Mb _) (zH s.heap I.big),rfl,h _ (I.hok.fresh (Mb _))⟩
end
def zK:List (TE×TE)->St->Hp->(List (V×V)->Hp->Prop)->Prop
 | [],_,H,Q=>Q [] H
 | (tk,tv) :: r,σ,H,Q=>tk σ H fun x H1=>tv σ H1 fun y H2=>zK r σ H2 fun ps H3=>Q ((x,y) :: ps) H3
abbrev VV:List (V×V)->List (Value×Value)->Prop:=Nk fun p q=>RelV p.1 q.1/\RelV p.2 q.2
def PPs (X:Cx) (pos:Pos) (keys:List (Option Expr)) (values:List Expr) (trs:List (TE×TE)):Prop :=
 ∀ (pins:List (Addr×Obj)) (s:LV) (σ:St) (H:Hp) (Q:List (V×V)->Hp->Prop),Inv X pins σ H s->zK trs σ H Q ->
  wpAny (model X.prog X.w) X.A (evalPairs (pairTrees keys values X.env pos)) (fun vs s'=>∃ ps H',Inv X pins σ H' s'/\VV ps vs/\Q ps H') X.xe s
def IZ {X:Cx} {pos:Pos}:PPs X pos [] [] []:=fun pins s σ H Q I h=>pairTrees_nil_walk ⟨[],H,I,.nil,h⟩
def FV {X:Cx} {pos:Pos} {k v:Expr} {ks:List (Option Expr)} {vs:List Expr} {tk tv:TE} {trs:List (TE×TE)} (hk:PE X k tk) (hv:PE X v tv) (hr:PPs X pos ks vs trs) :
  PPs X pos (some k :: ks) (v :: vs) ((tk,tv) :: trs):=fun pins s σ H Q I h =>
 pairTrees_cons_walk (thn (hk pins s σ H _ I h) fun u s1 ⟨x,H1,I1,rx,q1⟩=>thn (hv pins s1 σ H1 _ I1 q1) fun w2 s2 ⟨y,H2,I2,ry,q2⟩ =>
  thn (hr pins s2 σ H2 _ I2 q2) fun ws s3 ⟨ps,H3,I3,rel,q3⟩=>⟨(x,y) :: ps,H3,I3,.cons ⟨rx,ry⟩ rel,q3⟩)
def gC (kvs more:List (Key×V)):List (Key×V):=more.foldl (fun acc kv=>putK acc kv.1 kv.2) kvs
def KV.merge:∀ {more:List (Key×V)} {rs:List (Key×Value)} {kvs:List (Key×V)} {vs:List (Key×Value)},KV more rs->KV kvs vs->KV (gC kvs more) (merged vs rs):=by
 intro more rs kvs vs r;unfold KV at r
 induction r generalizing kvs vs with
 | nil=>intro q;exact q
 | @cons p q ps qs h t ih =>
  intro r0;have e:KV (putK kvs p.1 p.2) (stored vs q.1 q.2):=by
   have:=r0.put p.1 h.2;rw [<- h.1];exact this
  exact ih e
def nW:∀ (more kvs:List (Key×V)),(gC kvs more).length<=kvs.length+more.length
 | [],kvs=>by show kvs.length<=kvs.length+0;omega
 | p :: r,kvs=>by
  have h1:=nW r (putK kvs p.1 p.2);have h2:=lT kvs p.1 p.2;show (gC (putK kvs p.1 p.2) r).length<=_;rw [MO];omega
def tJ {P:Mi} {w:World}:∀ {kvs:List (Key×V)} {ws:List (Value×Value)},VV (kvs.map fun kv=>(kV kv.1,kv.2)) ws->∃ rs,Carries (cG P w) ws rs/\KV kvs rs
 | [],_,r=>by rw [TL] at r;cases r;exact ⟨[],NO,.nil⟩
 | p :: kvs,_,r=>by
  rw [Mz] at r;cases r with
  | @cons a b as bs h t =>
   obtain ⟨rs,c,q⟩:=tJ (P:=P) (w:=w) t;obtain ⟨b1,b2⟩:=b;exact ⟨(p.1,b2) :: rs,⟨qu h.1,rfl,c⟩,.cons ⟨rfl,h.2⟩ q⟩
def HZ (trs:List (TE×TE)):TE:=fun σ H Q=>∀ p,H p=none->zK trs σ (upd H p (.dK [])) fun ps H2=>H2 p=some (.dK [])/\∃ kvs:List (Key×V),ps=kvs.map (fun kv=>(kV kv.1,kv.2))/\kvs.length<=15/\Q (.ref p) (upd H2 p (.dK (gC [] kvs)))
def Il {X:Cx} {pos:Pos} {keys:List (Option Expr)} {values:List Expr} {trs:List (TE×TE)} (h:PPs X pos keys values trs) (hall:keys.all (·.isSome)=true) (hl:keys.length=values.length) (h0:keys≠[])
  (h15:keys.length<=15):PE X (.Dict keys values pos) (HZ trs):=by
 intro pins s σ H Q I q;have hn:=I.hok.fresh (Mb s.heap.objs.size);have I1:=I.laid (a:=s.heap.objs.size) (o:=.dK []) (h':=s.heap.push { cls:=.type "dict",data:=.dict #[] }) (t':=s.toks) (fun _ _ q=>LW _ q) (Mb _) (zH s.heap I.big);refine wpAny_Dict_walk (knd:=cG X.prog X.w) hall hl h0 h15 (thn (h pins _ σ _ _ I1 (q _ hn)) fun ws s2 ⟨ps,H2,I2,rel,e,kvs,ep,lk,q2⟩=>?_);subst ep;obtain ⟨rs,c,rk⟩:=tJ (P:=X.prog) (w:=X.w) rel;obtain ⟨z,hd,vs0,r0,dd⟩:=Dq I2.hok e;cases r0;refine ⟨rs,c,dd,fun h' dd' hs=>⟨.ref s.heap.objs.size,_,?_,rfl,q2⟩⟩;have hz:(gC [] kvs).length<=My:=by
  have h1:=nW kvs [];rw [P4] at h1;rw [MX];omega
 have he:∃ q,h'.get? s.heap.objs.size=some q:=let ⟨q,_,_,hq,_⟩:=dd';⟨q,hq⟩;exact uN I2 (by rw [e];exact NO) hs he (yd hz hd (rk.merge .nil) dd')
section
variable {X:Cx} {pins:List (Addr×Obj)} {σ:St} {H:Hp} {s:LV} {a:Addr} {y d:V} {u r:Value} {o:Option V} {A:MQ} {E:Value->LV->Prop}
end
section
variable {X:Cx} {o e f:Expr} {apos cpos:Pos} {td ty tx:TE}
end
section
variable {X:Cx} {pins:List (Addr×Obj)} {σ:St} {H:Hp} {s:LV} {a:Addr} {kvs:List (Key×V)} {A:MQ} {E:Value->LV->Prop}
end
section
variable {X:Cx} {pins:List (Addr×Obj)} {σ:St} {H:Hp} {s:LV} {a:Addr} {y:V} {u:Value} {A:MQ} {E:Value->LV->Prop}
end
end L2
namespace Att
open PySem PySem.W PySem.Calls PyProof.Rows
section
variable {prog:Mi} {w:World} {A:MQ} {E:Value->LV->Prop} {s:LV} {K:Frag}
end
end Att
namespace L2
open PySem PySem.Spec PyProof.Rows
section
variable {P:Mi} {w:World} {K:LO} {mg:Str->Option Value} {base:Heap}
end
section
variable {X:Cx}
end
section
variable {κ:Type} [DecidableEq κ]
def uI:∀ {l:List κ} {k:κ},l.Nodup->¬ k∈l->(l++[k]).Nodup
 | [],k,_,_=>by simp
 | a :: r,k,h,hk=>by
  obtain ⟨h1,h2⟩:=MY.mp h;show (a :: (r++[k])).Nodup;refine MY.mpr ⟨fun m=>?_,uI h2 fun m=>hk (Mq.mpr (Qf m))⟩;rcases Mc.mp m with q|q
  ·exact h1 q
  ·exact hk (Mq.mpr (L8 (LZ.mp q).symm))
end
section
variable {K:LO} {H:Hp} {σ:St} {Q:VK} {g:TG} {tt:TT} {ta:TE} {own:List Str} {fr:List Nat}
def yn {J:It} {n:Nat} (W:Addr->Nat->St->Hp->List V->Prop) (hz:n<=100000)
  (hgo:∀ d i σ' H' ys,i<n->W d i σ' H' ys->J.go i H') (hst:∀ d σ' H' ys,W d n σ' H' ys->J.stop n H')
  (hal:∀ d i σ' H' ys,i<=n->W d i σ' H' ys->ys.length<=i) (h0:∀ d,H d=none->W d 0 (dA own fr σ) (upd H d (.lst [])) [])
  (turn:∀ d i σ' H' ys x H2 (R:St->V->Hp->Prop) (R0:St->Hp->Prop),H d=none->i<n->W d i σ' H' ys->H' d=some (.lst ys)->J.yld i H' x H2 ->
   (∀ σ2 y H5,H5 d=some (.lst ys)->W d (i+1) σ2 (upd H5 d (.lst (ys++[y]))) (ys++[y])->R σ2 y H5)->(∀ σ2 H5,H5 d=some (.lst ys)->W d (i+1) σ2 H5 ys->R0 σ2 H5) ->
   g x σ' H2 fun σ2 H3=>tt σ2 H3 fun ok H4=>if ok=true then ta σ2 H4 (R σ2) else R0 σ2 H4)
  (fin:∀ d σ' H' ys,H d=none->H' d=some (.lst ys)->W d n σ' H' ys->Q (.ref d) H'):js own fr g tt ta σ Q J H:=by
 intro d hd;refine ⟨fun i m σ' H'=>m=n - i/\i<=n/\∃ ys,H' d=some (.lst ys)/\W d i σ' H' ys,⟨n,rfl,MI _,[],ar,h0 d hd⟩,?_⟩;rintro i m σ' H' ⟨rfl,hi,ys,hys,w⟩
 by_cases hlt:i<n
 ·refine .inr ⟨hgo d i σ' H' ys hlt w,fun x H2 hx=>turn d i σ' H' ys x H2 _ _ hd hlt w hys hx (fun σ2 y H5 h1 h2=>?_) (fun σ2 H5 h1 h2=>?_)⟩
  ·have hl:=hal d i σ' H' ys hi w;exact ⟨ys,h1,NM (show ys.length<=100000 by omega) (by rw [MX];decide),n - (i+1),by omega,rfl,hlt,_,ar,h2⟩
  ·exact ⟨n - (i+1),by omega,rfl,hlt,ys,h1,h2⟩
 ·have e:i=n:=by omega
  subst e;exact .inl ⟨hst d σ' H' ys w,fin d σ' H' ys hd hys w⟩
def oX {p:Addr} {xs:List V} (hz:xs.length<=100000) (W:Addr->Nat->St->Hp->List V->Prop) (hw:∀ d i σ' H' ys,W d i σ' H' ys->SqL K H' p xs) (hS:SqL K H p xs)
  (hal:∀ d i σ' H' ys,i<=xs.length->W d i σ' H' ys->ys.length<=i) (h0:∀ d,H d=none->W d 0 (dA own fr σ) (upd H d (.lst [])) [])
  (turn:∀ d i x σ' H' ys (R:St->V->Hp->Prop) (R0:St->Hp->Prop),H d=none->xs[i]?=some x->W d i σ' H' ys->H' d=some (.lst ys) ->
   (∀ σ2 y H5,H5 d=some (.lst ys)->W d (i+1) σ2 (upd H5 d (.lst (ys++[y]))) (ys++[y])->R σ2 y H5)->(∀ σ2 H5,H5 d=some (.lst ys)->W d (i+1) σ2 H5 ys->R0 σ2 H5) ->
   g x σ' H' fun σ2 H3=>tt σ2 H3 fun ok H4=>if ok=true then ta σ2 H4 (R σ2) else R0 σ2 H4)
  (fin:∀ d σ' H' ys,H d=none->H' d=some (.lst ys)->W d xs.length σ' H' ys->Q (.ref d) H'):pJ K (.ref p) H (js own fr g tt ta σ Q):=by
 refine ⟨p,rfl,⟨xs,hS⟩,yn (J:=Itl K p) (n:=xs.length) W hz (fun d i σ' H' ys hi w=>⟨xs,xs[i],hw d i σ' H' ys w,by simp [hi]⟩) (fun d σ' H' ys w=>⟨xs,hw d _ σ' H' ys w,Mb _⟩) hal h0 (fun d i σ' H' ys x H2 R R0 hd hi w hys hy=>?_) fin⟩
 obtain ⟨e1,e2⟩:=hy;subst e1;exact turn d i x σ' _ ys R R0 hd (e2 xs (hw d i σ' _ ys w)) w hys
end
def Tbl.nil {H:Hp} {d:Addr}:Tbl (upd H d (.lst [])) d [] []:=⟨ar,Qt,by simp,rfl,fun i p r e=>by simp at e⟩
def Tbl.snoc {H H5:Hp} {d p:Addr} {L:List (List Nat)} {ps:List Addr} {s:List Nat} (h:Tbl H d L ps) (hs:aj H H5) (hp:H5 p=some (.lst (aO s))) (hn:p∉ps) (hd:p≠d) :
  Tbl (upd H5 d (.lst (ps.map V.ref++[.ref p]))) d (L++[s]) (ps++[p]):=by
 refine ⟨?_,?_,?_,?_,fun i q r e1 e2=>?_⟩
 ·rw [ar,M8];rfl
 ·exact uI h.nd hn
 ·intro z;rcases Mc.mp z with z|z
  ·exact h.ap z
  ·exact hd (LZ.mp z).symm
 ·rw [Mr,Mr,h.len];rfl
 ·have hl:=h.len;rcases Mv i ps.length with z|z
  ·rw [MG z] at e1;rw [MG (by omega)] at e2
   have hq:q≠d:=fun c=>h.ap (c ▸ LS e1);rw [aA hq];exact hs _ _ (h.row i q r e1 e2)
  ·rw [MT z] at e1;rw [MT (by omega)] at e2
   have i0:i - ps.length=0:=by
    rcases N0 (i - ps.length) with c|c
    ·exact c
    ·rw [MM (by simp;omega)] at e1;cases e1
   rw [i0] at e1;rw [show i - L.length=0 by omega] at e2
   cases e1;cases e2;rw [aA hd];exact hp
section
variable {H:Hp} {σ:St} {Q:VK} {td ty tv:TE}
def nk (k:Nat):Key:=Se (k:Int)
def HN (x y:V) (H:Hp) (Q:VK):Prop:=∃ a v,x=.ref a/\jb H a y (some v)/\Q v H
def Bv (y x:V) (H:Hp) (Q:VK):Prop:=∃ a o,x=.ref a/\jb H a y o/\Q (.bl (!o.isSome)) H
def HF (x y v:V) (H:Hp) (D:Hp->Prop):Prop:=∃ a H4,x=.ref a/\oE H a y v H4/\D H4
def dX (h:td σ H fun x H1=>ty σ H1 fun y H2=>HN x y H2 Q):HU td ty σ H Q:=h
def Fd (h:ty σ H fun y H1=>td σ H1 fun x H2=>Bv y x H2 Q):Bl ty td σ H Q:=h
def Bu {D:Ends} (h:tv σ H fun v H1=>td σ H1 fun x H2=>ty σ H2 fun y H3=>HF x y v H3 (D.nx σ)):HB td ty tv D σ H:=h
def eZ {a:Addr} {k:Nat} {kvs:List (Key×V)} {v:V} (h:H a=some (.dK kvs)) (hv:cQ kvs (nk k)=some v) (q:Q v H):HN (.ref a) (.int (k:Int)) H Q :=
 ⟨a,v,rfl,by rw [<- hv];exact jb.k (k:=nk k) h,q⟩
def Gu {a:Addr} {k:Nat} {kvs:List (Key×V)} (h:H a=some (.dK kvs)) (q:Q (.bl (!(cQ kvs (nk k)).isSome)) H):Bv (.int (k:Int)) (.ref a) H Q :=
 ⟨a,_,rfl,jb.k (k:=nk k) h,q⟩
def EA {D:Hp->Prop} {a:Addr} {k:Nat} {kvs:List (Key×V)} {v:V} (h:H a=some (.dK kvs)) (hl:kvs.length<=100000) (q:D (upd H a (.dK (putK kvs (nk k) v)))):HF (.ref a) (.int (k:Int)) v H D :=
 ⟨a,_,rfl,oE.k (k:=nk k) h (NM hl (by rw [MX];decide)),q⟩
def JK (h:∀ p,H p=none->Q (.ref p) (upd H p (.dK []))):Fy σ H Q:=h
def Jx {tk:TE} (h:∀ p,H p=none->tk σ (upd H p (.dK [])) fun x H1=>tv σ H1 fun y H2=>H2 p=some (.dK [])/\∃ kvs:List (Key×V),[(x,y)]=kvs.map (fun kv=>(kV kv.1,kv.2))/\kvs.length<=15/\Q (.ref p) (upd H2 p (.dK (gC [] kvs)))):HZ [(tk,tv)] σ H Q:=h
def mG {a b:Nat} (h:nk a=nk b):a=b:=RH (TX h)
def iw (F:List Nat) (ps:List Addr):List (Key×V):=(F.zip ps).map fun x=>(nk x.1,V.ref x.2)
def Hd {F:List Nat} {ps:List Addr}:(iw F ps).length<=F.length:=by
 unfold iw;rw [LX,QM];omega
def pD:∀ {F:List Nat} {ps:List Addr} {f:Nat},f∉F->cQ (iw F ps) (nk f)=none
 | [],_,_,_=>rfl
 | _ :: _,[],_,_=>rfl
 | a :: F,p :: ps,f,h=>by
  have h1:¬ nk a=nk f:=fun z=>h (by rw [mG z];exact L9)
  show cQ ((nk a,V.ref p) :: iw F ps) (nk f)=none;rw [jh h1];exact pD fun z=>h (L5 _ z)
def mS:∀ {F:List Nat} {ps:List Addr} {j f:Nat} {p:Addr},F.Nodup->F[j]?=some f->ps[j]?=some p->cQ (iw F ps) (nk f)=some (.ref p)
 | [],_,_,_,_,_,h,_=>by simp at h
 | _ :: _,[],_,_,_,_,_,h=>by simp at h
 | a :: F,q :: ps,0,f,p,_,h1,h2=>by
  cases h1;cases h2;exact kS rfl
 | a :: F,q :: ps,j+1,f,p,nd,h1,h2=>by
  have h1':F[j]?=some f:=h1;have h2':ps[j]?=some p:=h2;obtain ⟨n1,n2⟩:=MY.mp nd;have h3:¬ nk a=nk f:=fun z=>n1 (by rw [mG z];exact LS h1')
  show cQ ((nk a,V.ref q) :: iw F ps) (nk f)=_;rw [jh h3];exact mS n2 h1' h2'
def IK {F:List Nat} {ps:List Addr} {f:Nat} (nd:F.Nodup) (hl:ps.length=F.length):(cQ (iw F ps) (nk f)).isSome=decide (f∈F):=by
 by_cases h:f∈F
 ·obtain ⟨j,hj⟩:=Ms h;have hj':j<ps.length:=by rw [hl];exact (LR.mp hj).1
  rw [mS nd hj (LP hj'),decide_eq_true h];rfl
 ·rw [pD h,decide_eq_false h];rfl
def Fw {F:List Nat} {ps:List Addr} {f:Nat} {p:Addr} (hl:ps.length=F.length) (h:f∉F):putK (iw F ps) (nk f) (.ref p)=iw (F++[f]) (ps++[p]):=by
 rw [rm _ (pD h)];unfold iw;rw [List.zip_append hl.symm,M8];rfl
end
section
variable {prog:Mi} {w:World} {A:MQ} {s:LV} {R:Rj->LV->Prop}
variable {I:Addr} {fp wr:List Addr} {G:Array Qr->Array Qr->Prop} {n:Nat} {P:Nat->Value->Prop} {St:Nat->LV->Prop}
end
section
variable {prog:Mi} {w:World} {A:MQ} {s:LV} {R:Rj->LV->Prop} {E:Value->LV->Prop}
variable {I:Addr} {fp wr:List Addr} {G:Array Qr->Array Qr->Prop} {n:Nat} {P:Nat->Value->Prop} {St:Nat->LV->Prop}
end
def Vals.getL {xs:List V} {us:List Value} (r:Vals xs us) {i:Nat} {x:V} {u:Value} (hx:xs[i]?=some x) (hu:us[i]?=some u):RelV x u:=by
 obtain ⟨u',hu',ru⟩:=r.get hx;rw [hu] at hu';cases hu';exact ru
section
variable {X:Cx} {pins:List (Addr×Obj)} {σ:St} {H:Hp} {s:LV} {a:Addr} {kvs:List (Key×V)} {ep:Nat}
end
def Jw {P:Mi} {w:World} {k:Key} {u:Value} (h:(cG P w).is k u=true):RelV (kV k) u:=by
 rcases cV h with ⟨i,t,rfl,rfl⟩|⟨x,t,rfl,rfl⟩
 ·exact ⟨t,rfl⟩
 ·exact ⟨t,rfl⟩
def KV.get {kvs:List (Key×V)} {vs:List (Key×Value)} (r:KV kvs vs) {i:Nat} {p:Key×V} (h:kvs[i]?=some p):∃ q,vs[i]?=some q/\p.1=q.1/\RelV p.2 q.2:=by
 unfold KV at r
 induction r generalizing i with
 | nil=>simp at h
 | @cons a b as bs hab t ih =>
  cases i with
  | zero=>cases h;exact ⟨b,rfl,hab⟩
  | succ i=>exact ih h
section
variable {P:Mi} {w:World} {σ:St} {H:Hp} {Q:VK} {td ty:TE} {tl:TE} {ta:TA} {K:LO}
end
def J8 (f:Int->Int->Int):List V->Hp->VK->Prop:=fun xs H Q=>∃ a b:Int,xs=[.int a,.int b]/\Q (.int (f a b)) H
def EY {X:Cx} (hc:X.calm=true):cE X (.builtin "max") (J8 fun a b=>max a b):=by
 intro pins s σ H xs us Q I r h;obtain ⟨a,b,rfl,q⟩:=h;obtain ⟨u,v,rfl,ru,rv⟩:=vals2 r;obtain ⟨t,rfl⟩:=(show ∃ t,u=Ol a t from ru);obtain ⟨t',rfl⟩:=(show ∃ t,v=Ol b t from rv);refine max_two_ints (I.ok.hd hc) fun h' tk k=>⟨.int (max a b),H,I.kept (t':=tk) k,?_,q⟩
 by_cases z:b > a
 ·rw [if_pos z];exact ⟨t',by rw [Int.max_eq_right (Int.le_of_lt z)]⟩
 ·rw [if_neg z];exact ⟨t,by rw [Int.max_eq_left (by omega)]⟩
section
variable {X:Cx} {CX:CXT} {k:Nat} {f C:Addr} {fd:Na} {ps:List Str} {sp:Sp} {m:Str} {pos apos:Pos} {e o:Expr} {es:List Expr} {ta:TE} {t:TA}
end
section
variable {σ:St} {H:Hp} {Q:VK} {K:LO}
def K7 {f:Int->Int->Int} {a b:Int} (q:Q (.int (f a b)) H):J8 f [.int a,.int b] H Q:=⟨a,b,rfl,q⟩
def Et {a b:Int} (q:Q (.int (a+b)) H):rI0 (fun i j=>.int (i+j)) (.int a) (.int b) H Q:=⟨a,b,rfl,rfl,q⟩
def EJ {a b:Int} (h:0<b) (q:Q (.int (a % b)) H):rI (fun _ j=>0<j) (fun i j=>.int (i % j)) (.int a) (.int b) H Q:=⟨a,b,rfl,rfl,h,q⟩
def tm {a b:Int} (h:0<b) (h2:b<1073741824) (q:Q (.int (a / b)) H):rI GJ (fun i j=>.int (i / j)) (.int a) (.int b) H Q:=⟨a,b,rfl,rfl,⟨by omega,by omega⟩,q⟩
end
def Ia (vs:List V) (H:Hp) (R:It->Hp->Prop):Prop:=∃ i j:Int,vs=[.int i,.int j]/\(-(2 ^ 62)<=i/\i<2 ^ 62/\-(2 ^ 62)<=j/\j<2 ^ 62)/\R (Itr i (j - i).toNat) H
def CU {X:Cx} {tg a b:Expr} {ta:TA} {p pos:Pos} (hg:Gl X "range") (hm:X.mg "range" = none) (ha:PA X [a,b] ta) (hn:isStar a=false:=by rfl) (hn2:isStar b=false:=by rfl):PI X tg (.Call (.Name "range" p) [a,b] [] pos) (Dp ta) :=
 D1 hg hm ha (by rw [bz hn,bz hn2];rfl) (by rw [bz hn2];rfl)
section
variable {σ:St} {H:Hp} {Q:VK} {D:Ends} {g:TG} {t:TS} {tA:TA} {tt:TT} {ta:TE} {own:List Str} {fr:List Nat}
def Iv {R:It->Hp->Prop} (h:tA σ H fun vs H1=>Ia vs H1 R):Dp tA σ H R:=h
end
section
variable {X:Cx} {scope:Scope} {own:List Str} {fr:List Nat} {pins:List (Addr×Obj)} {σ:St} {H₂:Hp} {s₂:LV} {fp:List Addr} {C D:Addr} {h₁:Heap} {m:Str->Option Value} {tk:Nat}
end
section
variable {X:Cx} {elt tg iter:Expr} {ifs:List Expr} {scope:Scope} {pos:Pos} {own:List Str} {fr:List Nat} {wi:TI} {g:TG} {tt:TT} {te:TE}
end
section
variable {K:LO} {H:Hp} {σ:St} {Q:VK} {tt:TT} {ta:TE} {own:List Str} {fr:List Nat}
def Ge {p p2:Addr} {xs ys:List V} {ia ib:Nat} (he:xs.length=ys.length) (hz:xs.length<=100000) (W:Addr->Nat->St->Hp->List V->Prop) (hw:∀ d i σ' H' zs,W d i σ' H' zs->SqL K H' p xs) (hw2:∀ d i σ' H' zs,W d i σ' H' zs->SqL K H' p2 ys) (hS:SqL K H p xs) (hS2:SqL K H p2 ys)
  (hal:∀ d i σ' H' zs,i<=xs.length->W d i σ' H' zs->zs.length<=i) (h0:∀ d,H d=none->W d 0 (dA own fr σ) (upd H d (.lst [])) [])
  (turn:∀ d i x y σ' H' H2 zs (R:St->V->Hp->Prop) (R0:St->Hp->Prop),H d=none->xs[i]?=some x->ys[i]?=some y->W d i σ' H' zs->H' d=some (.lst zs)->aj H' H2 ->
   (∀ σ2 y H5,H5 d=some (.lst zs)->W d (i+1) σ2 (upd H5 d (.lst (zs++[y]))) (zs++[y])->R σ2 y H5)->(∀ σ2 H5,H5 d=some (.lst zs)->W d (i+1) σ2 H5 zs->R0 σ2 H5) ->
   tt ((σ'.set ia (some x)).set ib (some y)) H2 fun ok H4=>if ok=true then ta ((σ'.set ia (some x)).set ib (some y)) H4 (R ((σ'.set ia (some x)).set ib (some y))) else R0 ((σ'.set ia (some x)).set ib (some y)) H4)
  (fin:∀ d σ' H' zs,H d=none->H' d=some (.lst zs)->W d xs.length σ' H' zs->Q (.ref d) H'):F7 K [.ref p,.ref p2] H (js own fr (B2 K 2 (mX (iy ia) (mX (iy ib) Dd))) tt ta σ Q):=by
 refine ⟨p,p2,xs,ys,rfl,hS,hS2,yn (J:=Itz K p p2) (n:=xs.length) W hz (fun d i σ' H' zs hi w=>⟨xs,xs[i],ys,ys[i]'(by omega),hw d i σ' H' zs w,by simp [hi],hw2 d i σ' H' zs w,by simp [show i<ys.length by omega]⟩)
  (fun d σ' H' zs w=>⟨xs,ys,hw d _ σ' H' zs w,hw2 d _ σ' H' zs w,.inl (Mb _)⟩) hal h0 (fun d i σ' H' zs x H2 R R0 hd hi w hzs hy hR hR0=>?_) fin⟩
 obtain ⟨q,x',y',rfl,hq,rfl,e2,e3⟩:=hy;have hx:=e2 xs (hw d i σ' H' zs w);have hy:=e3 ys (hw2 d i σ' H' zs w);refine ⟨q,[x',y'],rfl,SqT.of ar,rfl,⟨_,_,rfl,⟨_,_,rfl,⟨rfl,?_⟩⟩⟩⟩;exact turn d i x' y' σ' H' _ zs R R0 hd hx hy w hzs (ay hq _) hR hR0
end
section
variable {X:Cx}
end
end L2
namespace L2
section
variable {α:Type} {us:List α}
def len0 (h:us.length=0):us=[]:=O3.mp h
def zo {n:Nat} (h:us.length=n+1):∃ a r,us=a :: r/\r.length=n:=by
 cases us with
 | nil=>simp at h
 | cons a r=>exact ⟨a,r,rfl,by simpa using h⟩
def KU (h:us.length=1):∃ a,us=[a]:=by
 obtain ⟨a,r,rfl,h2⟩:=zo h;obtain rfl:=len0 h2;exact ⟨a,rfl⟩
def Dm (h:us.length=2):∃ a b,us=[a,b]:=by
 obtain ⟨a,r,rfl,h2⟩:=zo h;obtain ⟨b,rfl⟩:=KU h2;exact ⟨a,b,rfl⟩
def zY (h:us.length=3):∃ a b c,us=[a,b,c]:=by
 obtain ⟨a,r,rfl,h2⟩:=zo h;obtain ⟨b,c,rfl⟩:=Dm h2;exact ⟨a,b,c,rfl⟩
def zZ (h:us.length=4):∃ a b c d,us=[a,b,c,d]:=by
 obtain ⟨a,r,rfl,h2⟩:=zo h;obtain ⟨b,c,d,rfl⟩:=zY h2;exact ⟨a,b,c,d,rfl⟩
def Kl (h:us.length=5):∃ a b c d e,us=[a,b,c,d,e]:=by
 obtain ⟨a,r,rfl,h2⟩:=zo h;obtain ⟨b,c,d,e,rfl⟩:=zZ h2;exact ⟨a,b,c,d,e,rfl⟩
end
end L2
namespace L2
open PySem PySem.Spec PyProof.Rows
def bA.there {P:Mi} {w:World} {H:Hp} {h:Heap} {a:Addr} {o:HO} (x:bA P w H h a o):∃ ob,h.get? a=some ob:=by
 cases o with
 | lst xs=>obtain ⟨_,_,_,_,e⟩:=x;exact ⟨_,e⟩
 | tup xs=>obtain ⟨_,_,_,ob,e,_⟩:=x;exact ⟨_,e⟩
 | dK kvs=>obtain ⟨_,_,_,_,o,_,_,e,_⟩:=x;exact ⟨_,e⟩
 | dT kvs=>obtain ⟨_,_,_,_,o,_,_,e,_⟩:=x;exact ⟨_,e⟩
 | set S n=>obtain ⟨o,_,_,_,e,_⟩:=x;exact ⟨_,e⟩
 | ins C dx fs=>obtain ⟨_,_,_,e,_⟩:=x;exact ⟨_,e⟩
 | own y=>exact x
 | xd fs=>obtain ⟨_,⟨_,_,_,e,_⟩,_⟩:=x;exact ⟨_,e⟩
 | rng lo hi=>obtain ⟨_,_,_,e⟩:=x;exact ⟨_,e⟩
 | frz ob u=>obtain ⟨e,_⟩:=x;exact ⟨_,e⟩
 | tbl ps=>exact ⟨_,(show h.get? a=some _ from x)⟩
 | met f y=>exact ⟨_,(show h.get? a=some _ from x)⟩
 | ext φ=>obtain ⟨_,e,_⟩:=x;exact e
def fN (h:Heap) (x T C:Addr) (d:Option Addr) (fl:Value):Prop:=∃ oe vs oT ts,h.get? x=some oe/\oe.cls=.ref C/\oe.dict=d/\oe.data=.fields vs/\vs[1]?=some (.ref T)/\T≠x/\h.get? T=some oT/\oT.data=.fields ts/\ts[3]?=some fl
abbrev lO (h:Heap) (x T C:Addr) (d:Option Addr):Prop:=fN h x T C d .none
def lR (h:Heap) (x C:Addr) (d:Option Addr):Prop:=∃ oe vs,h.get? x=some oe/\oe.cls=.ref C/\oe.dict=d/\oe.data=.fields vs/\vs[1]?=some .none
def sg (h:Heap) (b:Addr):Prop:=∃ o vs,h.get? b=some o/\o.data=.fields vs
def fN.i9 {h:Heap} {x T C:Addr} {d:Option Addr} {fl:Value} (e:fN h x T C d fl):∀ b∈[x,T],sg h b:=fun b hb=>by
 obtain ⟨oe,vs,oT,ts,e1,_,_,e3,_,_,e6,e7,_⟩:=e;rcases Mq.mp hb with rfl|hb
 ·exact ⟨_,_,e1,e3⟩
 ·obtain rfl:=LZ.mp hb;exact ⟨_,_,e6,e7⟩
def lR.i9 {h:Heap} {x C:Addr} {d:Option Addr} (e:lR h x C d):∀ b∈[x],sg h b:=fun b hb=>by
 obtain ⟨oe,vs,e1,_,_,e3,_⟩:=e;obtain rfl:=LZ.mp hb;exact ⟨_,_,e1,e3⟩
structure dS (l:List Env) (x:Addr) (ts:List Addr) (C:Addr) (d:Option Addr) (fl:Value) (T:Addr) (h h':Heap):Prop where
 keep:∀ b o,b∉frs l->b≠x->b∉ts->h.get? b=some o->h'.get? b=some o
 slot:∀ b o,b∈frs l->h.get? b=some o->∃ sl,h'.get? b=some { o with slots:=sl }
 exc:fN h' x T C d fl
 new:T∈ts\/h.get? T=none
def dS.on {l:List Env} {x T C:Addr} {ts:List Addr} {d:Option Addr} {f1 f2:Value} {h h1 h2:Heap} (a:dS l x ts C d f1 T h h1) (b:dS l x [T] C d f2 T h1 h2):dS l x ts C d f2 T h h2 where
 keep:=fun c o k1 k2 k3 q=>b.keep c o k1 k2 (fun z=>by
  rw [LZ.mp z] at k3 q;exact a.new.elim k3 fun y=>by rw [y] at q;cases q) (a.keep c o k1 k2 k3 q)
 slot:=fun c o k q=>by
  obtain ⟨s1,q1⟩:=a.slot c o k q;obtain ⟨s2,q2⟩:=b.slot c _ k q1;exact ⟨s2,q2⟩
 exc:=b.exc
 new:=a.new
section
variable {M:Model} {A:MQ} {E:Value->LV->Prop} {s:LV} {base:Heap} {env:Env} {outer:List Env} {L x T C:Addr} {d:Option Addr} {fl:Value} {Q:Unit->LV->Prop}
def uJ (f:Array Value->Array Value) (o:Obj):(Tq f o).dict=o.dict:=by
 obtain ⟨oc,od,odt,osl⟩:=o;cases odt <;> rfl
def vF {head:Value} {hadNext:Bool} {oe:Obj} {vs:Array Value} (hfr:A.frames=some (env :: outer)) (hl:s.heap.FunFrames base (env :: outer)) (hf:env.frame=some L)
  (he:s.heap.get? x=some oe) (hc:oe.cls=.ref C) (hi:oe.dict=d) (hd:oe.data=.fields vs) (hz:1<vs.size) (h:∀ h' T,dS (env :: outer) x [] C d (rawInt L) T s.heap h'->Q () { s with heap:=h' }) :
  wpAny M A (frameOf env >>= fun a=>entryPlaceOf L hadNext >>= fun pl=>S8 head a .none (rawInt L) .none pl >>= fun b=>setField (.ref x) 1 b) Q E s:=by
 have nx:x∉frs (env :: outer):=fun hm=>by
  obtain ⟨_,o,ho,hn⟩:=hl.mem hm;rw [he] at ho;cases ho;exact hn vs hd
 refine LQ (wpAny_frameOf_fun hfr hl hf fun h1 hs=>LQ (wpAny_entryPlaceOf fun pl hpl=>?_));unfold S8 newFields;refine LQ (N9 ?_ (hpl.sizeOk5 _ _ _ _ _));have h3:([head,.ref L,.none,rawInt L,.none]++(if pl.isEmpty then Me 6 Ng else pl)).toArray[3]?=some (rawInt L):=by simp
 generalize ([head,.ref L,.none,rawInt L,.none]++(if pl.isEmpty then Me 6 Ng else pl)).toArray=arr at h3;have e1:h1.get? x=some oe:=(hs.2.1 x nx).trans he;have nT:h1.objs.size≠x:=OI (L6 e1);have fresh:s.heap.get? h1.objs.size=none:=by
  cases q:s.heap.get? h1.objs.size with
  | none=>rfl
  | some o =>
   obtain ⟨sl,z⟩:=hs.2.2 _ _ q;exact absurd (L6 z) (Oo _)
 refine S0 (LW _ e1) hd hz (h _ h1.objs.size ⟨fun b o k1 k2 _ q=>?_,fun b o k1 q=>?_,?_,.inr fresh⟩)
 ·rw [Nb _ _ (NJ k2)];exact LW _ ((hs.2.1 b k1).trans q)
 ·obtain ⟨sl,z⟩:=hs.2.2 b o q;refine ⟨sl,?_⟩;rw [Nb _ _ (fun y=>nx (by rw [y];exact k1))]
  exact LW _ z
 ·have hd':=Q2 hd (·.setIfInBounds 1 (Mt h1.objs.size));exact ⟨_,_,_,arr,NC _ (LW _ e1) (Ss hd'),(Obj.cls_mapFields _ _).trans hc,(uJ _ _).trans hi,hd',by simp [hz],nT,
   (Nb _ _ (NJ nT)).trans (Mo h1 rfl),rfl,h3⟩
def tR (hfr:A.frames=some (env :: outer)) (hl:s.heap.FunFrames base (env :: outer)) (hf:env.frame=some L) (he:lR s.heap x C d)
  (h:∀ h' T,dS (env :: outer) x [] C d (rawInt L) T s.heap h'->Q () { s with heap:=h' }):wpAny M A (noteFrame (.ref x) env) Q E s:=by
 obtain ⟨oe,vs,e1,e2,e3,e4,e5⟩:=he;unfold noteFrame;simp only [hf];refine LQ (Ob e1 e4 e5 ?_);rw [if_neg (by decide)]
 exact vF hfr hl hf e1 e2 e3 e4 (NI.mp e5).1 h
def yh (hfr:A.frames=some (env :: outer)) (hl:s.heap.FunFrames base (env :: outer)) (hf:env.frame=some L) (he:fN s.heap x T C d fl) (hne:fl≠rawInt L)
  (h:∀ h' T',dS (env :: outer) x [T] C d (rawInt L) T' s.heap h'->Q () { s with heap:=h' }):wpAny M A (noteFrame (.ref x) env) Q E s:=by
 obtain ⟨oe,vs,oT,ts,e1,e2,e3,e4,e5,e6,e7,e8,e9⟩:=he;unfold noteFrame;simp only [hf];refine LQ (Ob e1 e4 e5 ?_);rw [if_pos (by simp)]
 refine LQ (Ob e7 e8 e9 ?_);rw [if_neg (fun z=>hne (eq_of_beq z))];have hz:=(NI.mp e9).1;refine LQ (S0 e7 e8 hz ?_);have other:∀ b,b≠T->(s.heap.update T (Tq (·.setIfInBounds 3 Ng))).get? b=s.heap.get? b:=fun b hb=>Nb _ _ (NJ hb);have norec:∀ b o,s.heap.get? b=some o->(∀ vs,o.data≠.fields vs)->b≠T:=fun b o q n z=>by
  rw [z,e7] at q;cases q;exact n ts e8
 refine vF hfr (hl.of_keeps fun b o q n=>⟨o,(other b (norec b o q n)).trans q,rfl⟩) hf ((other x (NJ e6)).trans e1) e2 e3 e4 (NI.mp e5).1 fun h' T' F=>h h' T' ⟨fun b o k1 k2 k3 q=>?_,fun b o k1 q=>?_,F.exc,?_⟩
 ·exact F.keep b o k1 k2 (by simp) ((other b fun z=>k3 (z ▸ .head _)).trans q)
 ·obtain ⟨_,o',ho',hn⟩:=hl.mem k1;rw [q] at ho';cases ho';exact F.slot b o k1 ((other b (norec b o q hn)).trans q)
 ·rcases F.new with z|z
  ·simp at z
  ·by_cases y:T'=T
   ·exact .inl (y ▸ .head _)
   ·rw [other T' y] at z;exact .inr z
def u7 (hfr:A.frames=some (env :: outer)) (hl:s.heap.FunFrames base (env :: outer)) (hf:env.frame=some L) (he:lO s.heap x T C d)
  (h:∀ h' T',dS (env :: outer) x [T] C d (rawInt L) T' s.heap h'->Q () { s with heap:=h' }):wpAny M A (noteFrame (.ref x) env) Q E s:=yh hfr hl hf he (by simp [rawInt]) h
def mI (hf:env.frame=some L) (he:fN s.heap x T C d (rawInt L)) (h:Q () s):wpAny M A (noteFrame (.ref x) env) Q E s:=by
 obtain ⟨oe,vs,oT,ts,e1,e2,e3,e4,e5,e6,e7,e8,e9⟩:=he;unfold noteFrame;simp only [hf];refine LQ (Ob e1 e4 e5 ?_);rw [if_pos (by simp)]
 refine LQ (Ob e7 e8 e9 ?_);rw [if_pos (by simp)]
 exact L4 h
def yt {l:List Env} {fr:Option Addr} (hl:s.heap.FunFrames base l) (he:fN s.heap x T C d fl)
  (h:∀ h',(∀ b,b≠T->h'.get? b=s.heap.get? b)->dS l x [T] C d (fr.elim .none fun f=>rawInt f) T s.heap h'->Q () { s with heap:=h' }):wpAny M A (setFlight (.ref x) fr) Q E s:=by
 obtain ⟨oe,vs,oT,ts,e1,e2,e3,e4,e5,e6,e7,e8,e9⟩:=he;unfold setFlight;refine LQ (Ob e1 e4 e5 ?_);rw [if_pos (by simp)]
 have hz:=(NI.mp e9).1;have other:∀ b,b≠T->(s.heap.update T (Tq (·.setIfInBounds 3 (fr.elim Ng fun f=>rawInt f)))).get? b=s.heap.get? b:=fun b hb=>Nb _ _ (NJ hb);refine S0 e7 e8 hz (h _ other ⟨fun b o _ _ k3 q=>(other b fun z=>k3 (z ▸ .head _)).trans q,fun b o k1 q=>?_,?_,.inl (.head _)⟩)
 ·obtain ⟨_,o',ho',hn⟩:=hl.mem k1;refine ⟨o.slots,(other b fun z=>?_).trans q⟩;rw [z,e7] at ho';cases ho';exact hn ts e8
 ·exact ⟨oe,vs,_,_,(other x (NJ e6)).trans e1,e2,e3,e4,e5,e6,NC _ e7 (Ss (Q2 e8 _)),Q2 e8 _,by simp [hz]⟩
def fj {l:List Env} (hl:s.heap.FunFrames base l) (he:fN s.heap x T C d fl) (h:∀ h',dS l x [T] C d .none T s.heap h'->Q () { s with heap:=h' }):wpAny M A (setFlight (.ref x) none) Q E s:=yt hl he fun h' _ F=>h h' F
def dS.eO {l:List Env} {ts:List Addr} {h h':Heap} (F:dS l x ts C d fl T h h') (hl:h.FunFrames base l):h'.FunFrames base l:=by
 have all:∀ m:List Env,(∀ b∈frs m,b∈frs l)->h.FunFrames base m->h'.FunFrames base m:=by
  intro m
  induction m with
  | nil=>intro _ _;trivial
  | cons e r ih =>
   intro hs ⟨hk,⟨L,o,hf,hn,ho,hd⟩,hr⟩;have e1:frs (e :: r)=L :: frs r:=by unfold frs;rw [N7,hf]
   rw [e1] at hs;obtain ⟨sl,q⟩:=F.slot L o (hs L (.head _)) ho;exact ⟨hk,⟨L,_,hf,hn,q,hd⟩,ih (fun b hb=>hs b (.tail _ hb)) hr⟩
 exact all l (fun _ z=>z) hl
def C9 (hfr:A.frames=some (env :: outer)) (hl:s.heap.FunFrames base (env :: outer)) (hf:env.frame=some L) (he:lO s.heap x T C d)
  (h:∀ h' T',dS (env :: outer) x [T] C d .none T' s.heap h'->Q () { s with heap:=h' }):wpAny M A (leaving env (.ref x)) Q E s:=by
 unfold leaving;exact LQ (u7 hfr hl hf he fun h1 T1 F1=>fj (s:={ s with heap:=h1 }) (F1.eO hl) F1.exc fun h2 F2=>h h2 T1 (F1.on F2))
def Az (hfr:A.frames=some (env :: outer)) (hl:s.heap.FunFrames base (env :: outer)) (hf:env.frame=some L) (he:lR s.heap x C d)
  (h:∀ h' T',dS (env :: outer) x [] C d .none T' s.heap h'->Q () { s with heap:=h' }):wpAny M A (leaving env (.ref x)) Q E s:=by
 unfold leaving;exact LQ (tR hfr hl hf he fun h1 T1 F1=>fj (s:={ s with heap:=h1 }) (F1.eO hl) F1.exc fun h2 F2=>h h2 T1 (F1.on F2))
def leave_held (hl:s.heap.FunFrames base (env :: outer)) (hf:env.frame=some L) (he:fN s.heap x T C d (rawInt L))
  (h:∀ h',dS (env :: outer) x [T] C d .none T s.heap h'->Q () { s with heap:=h' }):wpAny M A (leaving env (.ref x)) Q E s:=by
 unfold leaving;exact LQ (mI hf he (fj hl he h))
def zF (hfr:A.frames=some (env :: outer)) (hl:s.heap.FunFrames base (env :: outer)) (hf:env.frame=some L) (he:fN s.heap x T C d fl)
  (h:∀ h' T',dS (env :: outer) x [T] C d (rawInt L) T' s.heap h'->Q () { s with heap:=h' }):wpAny M A (noteFrame (.ref x) env) Q E s:=by
 by_cases hne:fl=rawInt L
 ·subst hne;exact mI hf he (h s.heap T ⟨fun _ _ _ _ _ q=>q,fun b o _ q=>⟨o.slots,q⟩,he,.inl (.head _)⟩)
 ·exact yh hfr hl hf he hne h
def Eo (hfr:A.frames=some (env :: outer)) (hl:s.heap.FunFrames base (env :: outer)) (hf:env.frame=some L) (he:fN s.heap x T C d fl)
  (h:∀ h' T',dS (env :: outer) x [T] C d .none T' s.heap h'->Q () { s with heap:=h' }):wpAny M A (leaving env (.ref x)) Q E s:=by
 unfold leaving;exact LQ (zF hfr hl hf he fun h1 T1 F1=>fj (s:={ s with heap:=h1 }) (F1.eO hl) F1.exc fun h2 F2=>h h2 T1 (F1.on F2))
def EF (hfr:A.frames=some (env :: outer)) (hl:s.heap.FunFrames base (env :: outer)) (hf:env.frame=some L) (he:lO s.heap x T C d)
  (h:∀ h' T',dS (env :: outer) x [T] C d .none T' s.heap h'->Q () { s with heap:=h' }):wpAny M A (noteFrame (.ref x) env) (fun _ s₂=>wpAny M A (setFlight (.ref x) none) Q E s₂) E s :=
 u7 hfr hl hf he fun h1 T1 F1=>fj (s:={ s with heap:=h1 }) (F1.eO hl) F1.exc fun h2 F2=>h h2 T1 (F1.on F2)
end
structure Up (X:Cx) (pins:List (Addr×Obj)) (σ:St) (H:Hp) (s:LV) (x:Addr) (ts:List Addr):Prop where
 inv:Inv X pins σ H s
 fx:H x=none
 fT:∀ b∈ts,H b=none
 nx:X.s₀.heap.get? x=none
 nT:∀ b∈ts,X.s₀.heap.get? b=none
 px:∀ p∈X.pn++pins,p.1≠x/\p.1∉ts
section
variable {X:Cx} {pins:List (Addr×Obj)} {σ:St} {H H':Hp} {s s':LV} {x T C:Addr} {d:Option Addr} {fl:Value} {ts:List Addr} {h':Heap} {E:XK} {e:Value}
def Inv.fsF (I:Inv X pins σ H s):∀ b∈X.fs,H b=none:=fun b hb=>by
 obtain ⟨_,o,ho,_⟩:=I.ok.eO.mem hb;exact I.base.free b o ho (I.ok.frf b hb) fun z=>I.ok.rq b z hb
def Inv.oJ (I:Inv X pins σ H s) {b:Addr} (r:sg s.heap b):b≠X.env.locals/\(∀ y c,X.env.cells.lookup y=some c->c≠b)/\b∉frs X.stack/\b∉X.fs:=by
 obtain ⟨o,vs,ho,hd⟩:=r;refine ⟨fun z=>?_,fun y c e z=>?_,fun z=>?_,fun z=>?_⟩
 ·obtain ⟨m,⟨oL,es,ep,hoL,hdL,_⟩,_⟩:=I.loc;rw [<- z,ho] at hoL;cases hoL;rw [hd] at hdL;cases hdL
 ·obtain ⟨v,oc,hoc,hdc⟩:=I.cell y c e;rw [z,ho] at hoc;cases hoc;rw [hd] at hdc;cases hdc
 ·obtain ⟨_,o',ho',hnf⟩:=I.stack.mem z;rw [ho] at ho';cases ho';exact hnf vs hd
 ·obtain ⟨_,o',ho',hnf⟩:=I.eO.mem z;rw [ho] at ho';cases ho';exact hnf vs hd
def Inv.land {ch:List Addr} (I:Inv X pins σ H s)
  (hch:∀ b∈ch,X.s₀.heap.get? b=none/\b≠X.env.locals/\(∀ x c,X.env.cells.lookup x=some c->c≠b)/\∀ p∈X.pn++pins,p.1≠b) (hfr:∀ b∈ch,H b=none)
  (keep:∀ b o,b≠X.env.locals->b∉X.fs->b∉ch->s.heap.get? b=some o->h'.get? b=some o)
  (slot:∀ b o,b=X.env.locals\/b∈X.fs->s.heap.get? b=some o->∃ sl,h'.get? b=some { o with slots:=sl }):Inv X pins σ H { s with heap:=h' }:=by
 have neL:∀ b o,X.s₀.heap.get? b=some o->b≠X.env.locals:=fun b o e=>Md (Mn (L6 e) I.ok.above);have neC:∀ b o,X.s₀.heap.get? b=some o->b∉ch:=fun b o e hb=>by rw [(hch b hb).1] at e;cases e
 have trk:∀ b u o,H b=some u->s.heap.get? b=some o->h'.get? b=some o:=fun b u o e q =>
  keep b o (fun z=>by rw [z,I.free] at e;cases e) (fun z=>by rw [I.fsF b z] at e;cases e) (fun z=>by rw [hfr b z] at e;cases e) q
 have any:∀ b o,b∉ch->s.heap.get? b=some o->∃ sl,h'.get? b=some { o with slots:=sl }:=fun b o hb q=>by
  by_cases z:b=X.env.locals\/b∈X.fs
  ·exact slot b o z q
  ·exact ⟨o.slots,keep b o (fun y=>z (.inl y)) (fun y=>z (.inr y)) hb q⟩
 have cellK:∀ x c,X.env.cells.lookup x=some c->∀ v,s.heap.IsCell c v->h'.IsCell c v:=fun x c e v ⟨o,ho,hd⟩=>by
  obtain ⟨sl,q⟩:=any c o (fun z=>(hch c z).2.2.1 x c e rfl) ho;exact ⟨_,q,hd⟩
 refine ⟨I.ok,I.os,I.bare,⟨fun b o e n hb hx=>keep b o (neL b o e) hb (neC b o e) (I.base.keep b o e n hb hx),fun b o e n hb hx=>?_,I.base.free,fun b o e hx=>?_,I.base.gv,I.base.f7,I.base.gA⟩,?_,fun x c e=>?_,I.free,I.eJ,fun p hp=>?_,fun a o e=>?_,I.len⟩
 ·obtain ⟨sl,e1⟩:=I.base.slot b o e n hb hx;obtain ⟨sl',e2⟩:=slot b _ (.inr hb) e1;exact ⟨sl',e2⟩
 ·obtain ⟨o',e1⟩:=I.base.there b o e hx;obtain ⟨sl,q⟩:=any b o' (neC b o e) e1;exact ⟨_,q⟩
 ·obtain ⟨m,hn,hl⟩:=I.loc;obtain ⟨oL,es,ep,ho,r⟩:=hn;obtain ⟨sl,hL⟩:=slot _ oL (.inl rfl) ho;refine ⟨m,⟨_,es,ep,hL,r⟩,fun i x v e1 e2 e3=>?_⟩;obtain ⟨u,r,l⟩:=hl i x v e1 e2 e3;refine ⟨u,r,?_⟩;rcases l with l|⟨k,c,e,z⟩
  ·exact .inl l
  ·exact .inr ⟨k,c,e,cellK x c e _ z⟩
 ·obtain ⟨v,z⟩:=I.cell x c e;exact ⟨v,cellK x c e v z⟩
 ·obtain ⟨e,n,ne,nf,d⟩:=I.pin p hp;exact ⟨keep p.1 p.2 ne nf (fun z=>(hch p.1 z).2.2.2 p hp rfl) e,n,ne,nf,d⟩
 ·refine (I.hok a o e).kF (fun b u hb q=>?_) (fun _ q=>q) fun _ _ q=>q;rcases hb with rfl|hb
  ·exact trk _ _ _ e q
  ·exact trk _ _ _ hb q
def Up.land (U:Up X pins σ H s x ts) (hex:X.ex=[]) (hd:∀ b∈x :: ts,sg s.heap b) (F:dS X.stack x ts C d fl T s.heap h'):Up X pins σ H { s with heap:=h' } x [T]:=by
 have I:=U.inv;have hch:∀ b∈x :: ts,X.s₀.heap.get? b=none/\H b=none/\∀ p∈X.pn++pins,p.1≠b:=fun b hb=>by
  rcases Mq.mp hb with rfl|hb
  ·exact ⟨U.nx,U.fx,fun p hp=>(U.px p hp).1⟩
  ·exact ⟨U.nT b hb,U.fT b hb,fun p hp z=>(U.px p hp).2 (z ▸ hb)⟩
 have J:Inv X pins σ H { s with heap:=h' }:=by
  refine I.land (ch:=x :: ts) (fun b hb=>⟨(hch b hb).1,(I.oJ (hd b hb)).1,(I.oJ (hd b hb)).2.1,(hch b hb).2.2⟩) (fun b hb=>(hch b hb).2.1) (fun b o h1 h2 h3 q=>?_) (fun b o hb q=>?_)
  ·exact F.keep b o (fun z=>(Mq.mp (I.uc b z)).elim h1 h2) (fun z=>h3 (z ▸ .head _)) (fun z=>h3 (.tail _ z)) q
  ·by_cases z:b∈frs X.stack
   ·exact F.slot b o z q
   ·have nr:b∉x :: ts:=fun y=>by
     obtain ⟨n1,_,_,n4⟩:=I.oJ (hd b y);exact hb.elim n1 n4
    exact ⟨o.slots,F.keep b o z (fun y=>nr (y ▸ .head _)) (fun y=>nr (.tail _ y)) q⟩
 have hor:=F.new;refine ⟨J,U.fx,fun b hb=>?_,U.nx,fun b hb=>?_,fun p hp=>⟨(U.px p hp).1,fun hb=>?_⟩⟩
 ·obtain rfl:=LZ.mp hb;rcases hor with z|z
  ·exact U.fT _ z
  ·cases q:H b with
   | none=>rfl
   | some u=>obtain ⟨ob,e⟩:=(I.hok b u q).there;rw [z] at e;cases e
 ·obtain rfl:=LZ.mp hb;rcases hor with z|z
  ·exact U.nT _ z
  ·cases q:X.s₀.heap.get? b with
   | none=>rfl
   | some o=>obtain ⟨ob,e⟩:=I.base.there b o q (by rw [hex];simp);rw [z] at e;cases e
 ·have hb':=LZ.mp hb;rcases hor with z|z
  ·exact (U.px p hp).2 (hb' ▸ z)
  ·have e:=(I.pin p hp).1;rw [hb',z] at e;cases e
def CXR (P:Mi) (w:World):CXT:=fun outer H s E e s'=>∃ x T C d H',e=.ref x/\s'.os=s.os/\RD s'.gens/\Un (frs outer) [] H H' s.heap s'.heap/\HOk P w H' s'.heap/\s.heap.get? x=none/\s.heap.get? T=none /\
 H' x=none/\H' T=none/\lO s'.heap x T C d/\E (.ref C) d H'
def vt (I:Inv X pins σ H s) (hex:X.ex=[]) (h:CXR X.prog X.w X.stack H s E e s'):∃ x T C d H',e=.ref x/\lO s'.heap x T C d/\Up X pins σ H' s' x [T]/\E (.ref C) d H':=by
 obtain ⟨x,T,C,d,H',rfl,os,bare,un,hok,nx,nT,fx,fT,he,q⟩:=h;have nw:∀ b,s.heap.get? b=none->X.s₀.heap.get? b=none:=fun b n=>by
  cases q:X.s₀.heap.get? b with
  | none=>rfl
  | some o=>obtain ⟨ob,e⟩:=I.base.there b o q (by rw [hex];simp);rw [n] at e;cases e
 refine ⟨x,T,C,d,H',rfl,he,⟨I.HE (ch:=[]) os un hok bare (fun b z=>absurd z (by simp)),fx,fun b hb=>?_,nw _ nx,fun b hb=>?_,fun p hp=>⟨fun z=>?_,fun z=>?_⟩⟩,q⟩
 ·obtain rfl:=LZ.mp hb;exact fT
 ·obtain rfl:=LZ.mp hb;exact nw _ nT
 ·have e:=(I.pin p hp).1;rw [z,nx] at e;cases e
 ·have e:=(I.pin p hp).1;rw [LZ.mp z,nT] at e;cases e
end
def Lets (X:Cx) (E:XK):Prop:=∀ (pins:List (Addr×Obj)) (σ:St) (H:Hp) (s:LV) (x C:Addr) (d:Option Addr),Up X pins σ H s x []->lR s.heap x C d->E (.ref C) d H->X.xe (.ref x) s
section
variable {P:Mi} {w:World} {K:LO} {mg:Str->Option Value} {base:Heap} {N:List Str} {qual:Str} {scope:Scope} {f:Addr} {cd:Value} {A:MQ} {outer:List Env} {s:LV} {H:Hp} {E:XK}
def sE {pins:List (Addr×Obj)} {σ:St} {H':Hp} {s':LV} {x T C:Addr} {d:Option Addr} (U:Up (iN (CXR P w) P w K mg base N qual scope f cd A outer s H E) pins σ H' s' x [T]) (he:lO s'.heap x T C d) (q:E (.ref C) d H') :
  CXR P w outer H s E (.ref x) s' :=
 ⟨x,T,C,d,H',rfl,U.inv.os,U.inv.bare,U.inv.base,U.inv.hok,U.nx,U.nT T (.head _),U.fx,U.fT T (.head _),he,q⟩
end
abbrev bmV:List Value:=[.type "ValueError",.type "Exception",.type "BaseException",.type "object"]
abbrev ot:String:="ValueError.__new__"
def Jp {K:LO} {h:Heap} {C:Addr} {bmB:List Value} {newId:String} (X:K.In h) (q:Po K C bmB newId=true) :
  ∃ bm N nm qn bs hdct sn sub ab col dd k0 k1 k2 k3 k5 mN,h.get? C=some (excClassObj nm qn C N bs bm hdct sn sub ab col dd k0 k1 k2 k3 k5 newId)/\h.Ns N mN/\mN "__init__" = none/\OwnTail h bmB bm:=by
 unfold Po at q
 split at q
 ·rename_i dd cd sl ho
  split at q
  ·rename_i C' bm k0 k1 k2 k3 n k5 hm hs
   simp only [NU,beq_iff_eq,Pp] at q;obtain ⟨⟨⟨⟨⟨rfl,rfl⟩,hdel⟩,ht⟩,hok⟩,hni⟩:=q;obtain ⟨nm,bs,mro,ns,qn,hd,sn,sub,ab,col,del⟩:=cd;dsimp only at hm hdel hok hni;subst hm hdel;have hsl:sl=#[k0,k1,k2,k3,some (.builtin n),k5]:=by
    obtain ⟨l⟩:=sl;simp only at hs;rw [hs]
   subst hsl;exact ⟨bm,ns,nm,qn,bs,hd,sn,sub,ab,col,dd,k0,k1,k2,k3,k5,_,X _ _ ho,.of_isNs (PySem.W.isNs_of_in X hok),PySem.W.nsMap_none_of_in X hok hni,PySem.W.tail_of_in X ht⟩
  ·cases q
 ·cases q
section
variable {X:Cx} {E:XK} {C:Addr} {x:Str} {np cpos pos:Pos} {e:Expr} {es:List Expr} {ta:TA}
def zy (C:Addr) (E:XK) (ta:TA):TS:=fun _ σ H=>ta σ H fun vs H1=>vs.length<=My/\E (.ref C) none H1
def Inv.Jo {pins:List (Addr×Obj)} {σ:St} {H:Hp} {s:LV} {h':Heap} {e:Addr} {us:List Value} (I:Inv X pins σ H s) (hex:X.ex=[]) (m:Heap.MadeExcOf s.heap h' e (.ref C) us):Up X pins σ H { s with heap:=h' } e []/\lR h' e C none:=by
 obtain ⟨t,ht,_,_⟩:=m.there;refine ⟨⟨I.un (t':=s.toks) (Un.kept m.keeps) (I.hok.kept m.keeps),?_,fun b hb=>absurd hb (by simp),?_,fun b hb=>absurd hb (by simp),fun p hp=>⟨fun z=>?_,by simp⟩⟩,⟨_,_,ht,rfl,rfl,rfl,rfl⟩⟩
 ·cases q:H e with
  | none=>rfl
  | some u=>obtain ⟨ob,e1⟩:=(I.hok e u q).there;rw [m.new] at e1;cases e1
 ·cases q:X.s₀.heap.get? e with
  | none=>rfl
  | some o=>obtain ⟨ob,e1⟩:=I.base.there e o q (by rw [hex];simp);rw [m.new] at e1;cases e1
 ·have e1:=(I.pin p hp).1;rw [z,m.new] at e1;cases e1
def Hv (hL:Lets X E) (hex:X.ex=[]) (hcalm:X.calm=true) (hq:Po X.K C bmV ot=true) (hg:Gl X x) (hm:X.mg x=some (.ref C)) (ha:PA X (e :: es) ta)
  (hdb:(x == ("__debug__" : Str))=false:=by decide) (he:MS (e :: es) X.env=(false,eval e X.env) :: MS es X.env:=by rfl) (hpl:(backTo cpos (MS es X.env)).any (·.1)=false:=by rfl) :
  PS X (.Raise (some (.Call (.Name x np) (e :: es) [] cpos)) none pos) (zy C E ta):=by
 intro pins s σ H D I h;obtain ⟨bm,N,nm,qn,bs,hdct,sn,sub,ab,col,dd,k0,k1,k2,k3,k5,mN,hC,hN,hni,T⟩:=Jp I.mod.kin hq;have Fb:=Pw;refine wpAny_Raise_call_subU (C:=C) (nm:=nm) (q:=qn) (N:=N) (bs:=bs) (bm:=bm) (hdct:=hdct) (sn:=sn) (sub:=sub) (ab:=ab) (col:=col) (dd:=dd) (k0:=k0) (k1:=k1) (k2:=k2) (k3:=k3) (k5:=k5)
  Fb (by trivial) Fb (mN:=mN) (T.hasType Fb.hasBase) (I.ok.hd hcalm) (by rw [he];show (false || (backTo cpos (MS es X.env)).any (·.1))=false;rw [hpl];rfl) hni (jd I hg hm ⟨rfl,?_⟩ hdb)
 have h0:=ha cpos pins s σ H _ I h;rw [he] at h0 ⊢;refine SU (thn h0 fun us s2 ⟨vs,H2,I2,r,z,q⟩=>⟨rfl,by rw [<- r.length];exact z,I2.bk _ _ hC,hN.keeps I2.bk,T.keeps I2.bk,fun h' e' m=>?_⟩)
 obtain ⟨U,hn⟩:=I2.Jo hex m;exact hL pins σ H2 _ e' C none U hn q
end
abbrev TXs:=Ends->(St->Hp->Addr->Option Addr->Prop)->St->Hp->Prop
abbrev TXe:=St->Hp->VK->(Hp->Addr->Option Addr->Prop)->Prop
def XP (X:Cx) (pins:List (Addr×Obj)) (Ex:St->Hp->Addr->Option Addr->Prop) (e:Value) (s':LV):Prop:=∃ x T C d σ' H',e=.ref x/\lO s'.heap x T C d/\Up X pins σ' H' s' x [T]/\Ex σ' H' C d
def PSx (X:Cx) (sts:List Stmt) (t:TXs):Prop :=
 ∀ (pins:List (Addr×Obj)) (s:LV) (σ:St) (H:Hp) (D:Ends) (Ex:St->Hp->Addr->Option Addr->Prop),Inv X pins σ H s->t D Ex σ H->wpAny (model X.prog X.w) X.A (execs sts X.env) (SP X pins D) (XP X pins Ex) s
def Kv (X:Cx) (st:Stmt) (t:TXs):Prop :=
 ∀ (pins:List (Addr×Obj)) (s:LV) (σ:St) (H:Hp) (D:Ends) (Ex:St->Hp->Addr->Option Addr->Prop),Inv X pins σ H s->t D Ex σ H->wpAny (model X.prog X.w) X.A (exec st X.env) (SP X pins D) (XP X pins Ex) s
def PEx (X:Cx) (e:Expr) (t:TXe):Prop :=
 ∀ (pins:List (Addr×Obj)) (s:LV) (σ:St) (H:Hp) (Q:VK) (Ex:Hp->Addr->Option Addr->Prop),Inv X pins σ H s->t σ H Q Ex->wpAny (model X.prog X.w) X.A (eval e X.env) (EP X pins σ Q) (XP X pins fun σ' H' C d=>σ'=σ/\Ex H' C d) s
section
variable {X:Cx} {pos:Pos}
def Bp {st:Stmt} {t:TXs} (h:Kv X st t):PSx X [st] t:=by
 intro pins s σ H D Ex I q;refine RT (Nc (h pins s σ H D Ex I q) (fun f s1 z=>?_) fun _ _ z=>z);cases f with
 | next=>exact Pb z
 | ret v=>exact z
 | brk=>exact z
 | cont=>exact z
def EO (te:TXe):TXs:=fun D Ex σ H=>te σ H (fun _ H1=>D.nx σ H1) (fun H1 C d=>Ex σ H1 C d)
def zx {e:Expr} {te:TXe} (he:PEx X e te) (hs:swapsWith e none pos.line X.env=pure false:=by rfl):Kv X (.Expr e pos) (EO te):=by
 intro pins s σ H D Ex I h;refine wpAny_Expr_any (Nc (he pins s σ H _ _ I h) (fun v s1 ⟨x,H1,I1,r1,q1⟩=>⟨σ,H1,I1,q1⟩) fun e s1 ⟨x,T,C,d,σ',H',e1,e2,e3,e4,e5⟩=>⟨x,T,C,d,σ,H',e1,e2,?_,e5⟩) I.quiet hs;rw [<- e4];exact e3
def yw (sp:Sp) (t:TA):TXe:=fun σ H Q Ex=>t σ H fun vs H1=>sp vs H1 Q (fun c d H2=>∃ C,c=.ref C/\Ex H2 C d)
def FG {k:Nat} {f:Addr} {fd:Na} {ps:List Str} {sp:Sp} {x:Str} {p:Pos} {e:Expr} {es:List Expr} {t:TA} (F:aH X.prog X.w X.K X.mg X.base (CXR X.prog X.w) k f fd ps sp) (hex:X.ex=[]) (hr:bX k X.A) (hg:Gl X x) (hm:X.mg x=some (.ref f)) (hk:M6 X.K (.ref f)=true)
  (hb:Binds X.K fd ps []) (ha:PA X.nox (e :: es) t) (hdb:(x == ("__debug__" : Str))=false:=by decide) (he:MS (e :: es) X.env=(false,eval e X.env) :: MS es X.env:=by rfl) (hpl:(backTo pos (MS es X.env)).any (·.1)=false:=by rfl) :
  PEx X (.Call (.Name x p) (e :: es) [] pos) (yw sp t):=by
 intro pins s σ H Q Ex I h;refine OL (jd I hg hm ?_ hdb);refine P1 (h₀:=X.base) I.ok.mod.kin hk (Nc (ha pos pins s σ H _ (I.fY _) h) (fun us s1 ⟨vs,H1,I1',r,q⟩=>?_) fun _ _ z=>Nd z) he hpl;have I1:=I1'.dN;refine ⟨I1.kIn,?_⟩;have hl:(us++[]).length=ps.length:=by rw [NS,<- r.length];exact F.len _ _ _ _ q
 have hb':=hb s1 us I1.kIn hl;rw [NS] at hb';refine Rm (OJ (F.run X.A X.stack s1 H1 ⟨us,[]⟩ us vs Q _ hr I1.DF hb' r q) fun r s' hq=>?_);cases r with
 | error e =>
  have hq2:CXR X.prog X.w X.stack H1 s1 (fun c d H2=>∃ C,c=Mt C/\Ex H2 C d) e s':=hq;obtain ⟨x,T,C,d,H',rfl,he,U,C',hc,q⟩:=vt I1 hex hq2;cases hc;exact ⟨x,T,C,d,σ,H',rfl,he,U,rfl,q⟩
 | ok fl =>
  cases fl with
  | ret u=>exact I1.after hq
  | next=>exact Nd hq
  | brk=>exact Nd hq
  | cont=>exact Nd hq
end
def gL (x C:Addr) (d:Option Addr) (h:Heap):Prop:=∃ o vs,h.get? x=some o/\o.cls=.ref C/\o.dict=d/\o.data=.fields vs
abbrev fM (x C:Addr) (d:Option Addr:=none):HO:=.ext (gL x C d)
def IB {P:Mi} {w:World} {H:Hp} {h:Heap} {x C:Addr} {d:Option Addr} (e:gL x C d h):bA P w H h x (fM x C d):=by
 obtain ⟨o,vs,h1,h2,h3,h4⟩:=id e;exact ⟨e,⟨o,h1⟩,fun a b ⟨o,vs,h1,h2,h3,h4⟩ k=>⟨o,vs,k o h1,h2,h3,h4⟩⟩
def fN.isExc {h:Heap} {x T C:Addr} {d:Option Addr} {fl:Value} (e:fN h x T C d fl):gL x C d h:=by
 obtain ⟨oe,vs,_,_,e1,e2,e3,e4,_⟩:=e;exact ⟨oe,vs,e1,e2,e3,e4⟩
section
variable {X:Cx} {pins:List (Addr×Obj)} {σ:St} {H:Hp} {s:LV} {x T C:Addr} {ts:List Addr}
def Up.adopt (U:Up X pins σ H s x ts) {o:HO} (hr:sg s.heap x) (new:bA X.prog X.w (upd H x o) s.heap x o):Inv X pins σ (upd H x o) s:=by
 have I:=U.inv;obtain ⟨n1,n2,n3,n4⟩:=I.oJ hr;have nn:∀ b u,H b=some u->b≠x:=fun b u e z=>by rw [z,U.fx] at e;cases e
 refine ⟨I.ok,I.os,I.bare,⟨I.base.keep,I.base.slot,fun b ob e n hx=>?_,I.base.there,fun b xs e=>?_,fun b ob u e=>?_,fun b ps e=>?_⟩,I.loc,I.cell,?_,fun y c e=>?_,fun p hp=>?_,fun b u e=>?_,I.len⟩
 ·have:b≠x:=fun z=>by rw [z,U.nx] at e;cases e
  rw [aA this];exact I.base.free b ob e n hx
 ·have q:=I.base.gv b xs e;rw [aA (nn _ _ q)];exact q
 ·have q:=I.base.f7 b ob u e;rw [aA (nn _ _ q)];exact q
 ·obtain ⟨m,q⟩:=I.base.gA b ps e;exact ⟨m,by rw [aA (nn _ _ q)];exact q⟩
 ·rw [aA n1.symm];exact I.free
 ·rw [aA (n2 y c e)];exact I.eJ y c e
 ·obtain ⟨e,n,ne,nf,d⟩:=I.pin p hp;exact ⟨e,by rw [aA (U.px p hp).1];exact n,ne,nf,d⟩
 ·by_cases hb:b=x
  ·subst hb;rw [ar] at e;cases e;exact new
  ·rw [aA hb] at e;refine (I.hok b u e).kF (fun c v _ q=>q) (fun c q=>by rw [aA (nn _ _ q)];exact q) fun c xs q=>by rw [aA (nn _ _ q)];exact q
def qp {M:Model} {A:MQ} {E:Value->LV->Prop} {i:Nat} {n:Str} {pos:Pos} {Q:Unit->LV->Prop} (I:Inv X pins σ H s) (hN:X.N.Nodup) (hi:X.N[i]?=some n) (hk:X.env.kindOf n=some .local)
  (h:∀ s',Inv X pins (σ.set i none) H s'->Q () s'):wpAny M A (do bindName X.env n .none;unbindBehindTheSuite X.env n pos) Q E s:=by
 obtain ⟨m,hn,hl⟩:=id I.loc;have hcls:(X.env.scope.kind == .class || (X.env.scope.kind == .module && X.env.locals != X.env.globals))=false:=by rw [I.ok.kind];rfl
 have hiσ:i<σ.length:=by rw [I.len];exact (LR.mp hi).1
 have cne:=I.cne;refine wpAny_nameGoes_keeps hk hn hcls (fun h' v hn' hs=>?_);refine h _ ⟨I.ok,I.os,I.bare,⟨fun b o e n hb hx=>?_,fun b o e n hb hx=>?_,I.base.free,fun b o e hx=>?_,I.base.gv,I.base.f7,I.base.gA⟩,⟨_,hn',fun j y v' e1 e2 e3=>?_⟩,fun y c e=>?_,I.free,I.eJ,fun p hp=>?_,fun b ob e=>?_,by simpa using I.len⟩
 ·exact (hs.2 b (Md (Mn (L6 e) I.ok.above))).trans (I.base.keep b o e n hb hx)
 ·obtain ⟨sl,e1⟩:=I.base.slot b o e n hb hx;exact ⟨sl,(hs.2 b (Md (Mn (L6 e) I.ok.above))).trans e1⟩
 ·obtain ⟨o',e1⟩:=I.base.there b o e hx;exact ⟨o',(hs.2 b (Md (Mn (L6 e) I.ok.above))).trans e1⟩
 ·by_cases hj:j=i
  ·subst hj;rw [NN hiσ] at e2;cases e2
  ·rw [N3 (NJ hj)] at e2;obtain ⟨u',r',q⟩:=hl j y v' e1 e2 e3;refine ⟨u',r',?_⟩;rcases q with ⟨k,e⟩|⟨k,c,e,z⟩
   ·refine .inl ⟨k,?_⟩;have:y≠n:=fun e=>hj (rZ hN e1 (e ▸ hi));simp [this,e]
   ·exact .inr ⟨k,c,e,z.sameBut hs (cne y c e)⟩
 ·obtain ⟨w',z⟩:=I.cell y c e;exact ⟨w',z.sameBut hs (cne y c e)⟩
 ·obtain ⟨e,n,ne,nf,d⟩:=I.pin p hp;exact ⟨(hs.2 p.1 ne).trans e,n,ne,nf,d⟩
 ·refine (I.hok b ob e).kF (fun c w' hc q=>(hs.2 c ?_).trans q) (fun _ q=>q) fun _ _ q=>q;rintro rfl;rcases hc with hc|hc
  ·rw [<- hc,I.free] at e;cases e
  ·rw [I.free] at hc;cases hc
end
abbrev Cx.ix (X:Cx) (e:Value):Cx:={ X with A:=X.A.mark (some e),calm:=false,xe:=fun _ _=>False }
section
variable {X:Cx} {pins:List (Addr×Obj)} {σ:St} {H:Hp} {s:LV} {e:Value}
def Inv.ix (I:Inv X pins σ H s) (e:Value):Inv (X.ix e) pins σ H s :=
 ⟨⟨I.ok.mod,I.ok.kind,I.ok.glob,I.ok.blt,I.ok.above,I.ok.inj,I.ok.has,I.ok.cab,fun z=>Bool.noConfusion z,I.ok.frames,I.ok.stk,I.ok.exf,I.ok.bs,I.ok.bsz,I.ok.vm,I.ok.rq,I.ok.eO,I.ok.frf⟩,I.os,I.bare,I.base,I.loc,I.cell,I.free,I.eJ,I.pin,I.hok,I.len⟩
def Inv.ig (I:Inv (X.ix e) pins σ H s) (ok:X.Ok):Inv X pins σ H s:=⟨ok,I.os,I.bare,I.base,I.loc,I.cell,I.free,I.eJ,I.pin,I.hok,I.len⟩
abbrev TH:=Ends->St->Hp->Addr->Option Addr->Prop
def PH (X:Cx) (hs:List P5) (t:TH):Prop:=∀ (pins:List (Addr×Obj)) (s:LV) (σ:St) (H:Hp) (D:Ends) (x T C:Addr) (d:Option Addr),Up X pins σ H s x [T]->lO s.heap x T C d->t D σ H C d->wpAny (model X.prog X.w) X.A (handleBy (.ref x) X.env hs) (SP X pins D) X.xe s
def LI:TH:=fun _ _ _ _ _=>False
def D8:PH X [] LI:=fun _ _ _ _ _ _ _ _ _ _ _ z=>Nd z
def hAs (K:LO) (B:Addr) (i:Nat) (ts:TS) (t:TH):TH:=fun D σ H C d=>(Mu K (.ref C) (.ref B)=some true/\∀ x,H x=none ->
 ts { nx:=fun σ2 H2=>D.nx (σ2.set i none) H2,rt:=D.rt,bk:=fun σ2 H2=>D.bk (σ2.set i none) H2,ct:=fun σ2 H2=>D.ct (σ2.set i none) H2 } (σ.set i (some (.ref x))) (upd H x (fM x C d))) \/
 (Mu K (.ref C) (.ref B)=some false/\t D σ H C d)
def hOf (K:LO) (B:Addr) (ts:TS) (t:TH):TH:=fun D σ H C d=>(Mu K (.ref C) (.ref B)=some true/\ts D σ H)\/(Mu K (.ref C) (.ref B)=some false/\t D σ H C d)
section
variable {x T C B:Addr} {d:Option Addr} {cn:Str} {np:Pos} {b:Bool}
def lL {name:Option Str} {su:List Stmt} {hp:Pos} {rest:List P5} {D:Ends} (U:Up X pins σ H s x [T]) (he:lO s.heap x T C d) (hg:Gl X cn) (hm:X.mg cn=some (.ref B)) (hdb:(cn == ("__debug__" : Str))=false) (hx:Mu X.K (.ref C) (.ref B)=some b)
  (h:if b=true then codeAny (model X.prog X.w) (X.A.mark (some (.ref x))) (.handlers (.ref x) [.ExceptHandler none name su hp] X.env) (fun r s₂=>match r with
     | .ok f=>(match name with
      | none=>SP X pins D f s₂
      | some n=>wpAny (model X.prog X.w) X.A (do bindName X.env n .none;unbindBehindTheSuite X.env n hp) (fun _ s₃=>SP X pins D f s₃) X.xe s₂)
     | .error x=>cameBackBy (model X.prog X.w) X.A X.env X.xe x s₂) s else wpAny (model X.prog X.w) X.A (handleBy (.ref x) X.env rest) (SP X pins D) X.xe s) :
  wpAny (model X.prog X.w) X.A (handleBy (.ref x) X.env (.ExceptHandler (some (.Name cn np)) name su hp :: rest)) (SP X pins D) X.xe s:=by
 have I2:=U.inv;refine wpAny_handleBy_cons (codeAny_handlers_test (Nc (Q:=fun c s'=>c=.ref B/\s'=s) (E:=fun _ _=>False) (show wpAny (model X.prog X.w) (X.A.mark (some (.ref x))) (eval (.Name cn np) X.env) _ _ _ from jd (X:=X.ix (.ref x)) (I2.ix _) hg hm ⟨rfl,rfl⟩ hdb) (fun c s3 ⟨e1,e2⟩=>?_) fun _ _ z=>Nd z)) (by intro q;cases q)
 subst e1 e2;have LT:Ot (model X.prog X.w) s3.heap (typeOf (.ref x)) (.ref C):=by
  obtain ⟨o,vs,e1,e2,_⟩:=he.isExc;exact e2 ▸ (PySem.W.Looks.ld e1).andThen .now
 refine (PySem.W.exm_one I2.kIn LT hx).at ?_;cases b with
 | true=>exact h
 | false=>exact h
end
def Ib {b₀:Stmt} {su:List Stmt} {cn n:Str} {np hp:Pos} {B:Addr} {i:Nat} {ts:TS} {rest:List P5} {t:TH} (hex:X.ex=[]) (hs:∀ e,PSs (X.ix e) (b₀ :: su) ts) (hr:PH X rest t)
  (hg:Gl X cn) (hm:X.mg cn=some (.ref B)) (hN:X.N.Nodup) (hi:X.N[i]?=some n) (hk:X.env.kindOf n=some .local) (hdb:(cn == ("__debug__" : Str))=false:=by decide) :
  PH X (.ExceptHandler (some (.Name cn np)) (some n) (b₀ :: su) hp :: rest) (hAs X.K B i ts t):=by
 intro pins s1 σ' H' D x T C d U he q;rcases q with ⟨hm1,q⟩|⟨hm1,q⟩
 ·refine lL U he hg hm hdb hm1 ?_;rw [if_pos rfl];refine codeAny_handlers_suite_as ?_;refine fj U.inv.stack he fun h3 F3=>?_;have U3:=U.land hex he.i9 F3;have he3:=F3.exc;have I3:=U3.adopt (he3.i9 x (.head _)) (IB he3.isExc);refine kI (X:=X.ix (.ref x)) (v:=.ref x) (I3.ix _) hN hi (.inl hk) rfl (fun s4 I4=>?_) (.inr hk);refine Nc (hs (.ref x) pins s4 _ _ _ I4 (q x U3.fx)) (fun f s5 z=>?_) fun _ _ z=>Nd z;have ok:=U.inv.ok;cases f with
  | next =>
   obtain ⟨σ6,H6,I6,q6⟩:=z;exact qp (I6.ig ok) hN hi hk fun s7 I7=>⟨_,H6,I7,q6⟩
  | ret u =>
   obtain ⟨v,σ6,H6,I6,r6,q6⟩:=z;exact qp (I6.ig ok) hN hi hk fun s7 I7=>⟨v,_,H6,I7,r6,q6⟩
  | brk =>
   obtain ⟨σ6,H6,I6,q6⟩:=z;exact qp (I6.ig ok) hN hi hk fun s7 I7=>⟨_,H6,I7,q6⟩
  | cont =>
   obtain ⟨σ6,H6,I6,q6⟩:=z;exact qp (I6.ig ok) hN hi hk fun s7 I7=>⟨_,H6,I7,q6⟩
 ·refine lL U he hg hm hdb hm1 ?_;rw [if_neg (by decide)]
  exact hr pins s1 σ' H' D x T C d U he q
def xM {b₀:Stmt} {su:List Stmt} {cn:Str} {np hp:Pos} {B:Addr} {ts:TS} {rest:List P5} {t:TH} (hex:X.ex=[]) (hs:∀ e,PSs (X.ix e) (b₀ :: su) ts) (hr:PH X rest t)
  (hg:Gl X cn) (hm:X.mg cn=some (.ref B)) (hdb:(cn == ("__debug__" : Str))=false:=by decide) :
  PH X (.ExceptHandler (some (.Name cn np)) none (b₀ :: su) hp :: rest) (hOf X.K B ts t):=by
 intro pins s1 σ' H' D x T C d U he q;rcases q with ⟨hm1,q⟩|⟨hm1,q⟩
 ·refine lL U he hg hm hdb hm1 ?_;rw [if_pos rfl];refine codeAny_handlers_suite ?_;refine fj U.inv.stack he fun h3 F3=>?_;have I3:=(U.land hex he.i9 F3).inv;refine Nc (hs (.ref x) pins _ _ _ _ (I3.ix _) q) (fun f s5 z=>?_) fun _ _ z=>Nd z;have ok:=U.inv.ok;cases f with
  | next =>
   obtain ⟨σ6,H6,I6,q6⟩:=z;exact ⟨_,H6,I6.ig ok,q6⟩
  | ret u =>
   obtain ⟨v,σ6,H6,I6,r6,q6⟩:=z;exact ⟨v,_,H6,I6.ig ok,r6,q6⟩
  | brk =>
   obtain ⟨σ6,H6,I6,q6⟩:=z;exact ⟨_,H6,I6.ig ok,q6⟩
  | cont =>
   obtain ⟨σ6,H6,I6,q6⟩:=z;exact ⟨_,H6,I6.ig ok,q6⟩
 ·refine lL U he hg hm hdb hm1 ?_;rw [if_neg (by decide)]
  exact hr pins s1 σ' H' D x T C d U he q
def HM (tb:TXs) (th:TH):TS:=fun D σ H=>tb D (fun σ' H' C d=>th D σ' H' C d) σ H
def BG {body:List Stmt} {h₀:P5} {hs:List P5} {pos:Pos} {tb:TXs} {th:TH} (hex:X.ex=[]) (hb:PSx X body tb) (hh:PH X (h₀ :: hs) th) (hst:X.stack=X.env :: X.outer) (hfr:X.env.frame=some X.env.locals) :
  PS X (.Try body (h₀ :: hs) [] [] pos) (HM tb th):=by
 intro pins s σ H D I h;refine wpAny_Try_except (Nc (hb pins s σ H D _ I h) (fun f s1 z=>?_) fun e s1 z=>?_)
 ·cases f with
  | next=>exact Pb z
  | ret v=>exact z
  | brk=>exact z
  | cont=>exact z
 obtain ⟨x,T,C,d,σ',H',rfl,he,U,q⟩:=z;have fr:X.A.frames=some (X.env :: X.outer):=by rw [<- hst];exact I.ok.frames
 have sk1:s1.heap.FunFrames X.base (X.env :: X.outer):=by rw [<- hst];exact U.inv.stack
 refine EF (L:=X.env.locals) (outer:=X.outer) fr sk1 hfr he fun h2 T2 F2=>?_;rw [<- hst] at F2;exact hh pins _ σ' H' D x T2 C d (U.land hex he.i9 F2) F2.exc q
def Ka (K:LO) (B:Addr) (i:Nat) (tb:TXs) (ts:TS):TS:=fun D σ H=>tb D (fun σ' H' C d=>Mu K (.ref C) (.ref B)=some true/\∀ x,H' x=none ->
 ts { nx:=fun σ2 H2=>D.nx (σ2.set i none) H2,rt:=D.rt,bk:=fun σ2 H2=>D.bk (σ2.set i none) H2,ct:=fun σ2 H2=>D.ct (σ2.set i none) H2 } (σ'.set i (some (.ref x))) (upd H' x (fM x C d))) σ H
def Kq {body:List Stmt} {b₀:Stmt} {su:List Stmt} {cn n:Str} {np hp pos:Pos} {B:Addr} {i:Nat} {tb:TXs} {ts:TS} (hex:X.ex=[]) (hb:PSx X body tb) (hs:∀ e,PSs (X.ix e) (b₀ :: su) ts)
  (hg:Gl X cn) (hm:X.mg cn=some (.ref B)) (hN:X.N.Nodup) (hi:X.N[i]?=some n) (hk:X.env.kindOf n=some .local) (hst:X.stack=X.env :: X.outer) (hfr:X.env.frame=some X.env.locals)
  (hdb:(cn == ("__debug__" : Str))=false:=by decide) :
  PS X (.Try body [.ExceptHandler (some (.Name cn np)) (some n) (b₀ :: su) hp] [] [] pos) (Ka X.K B i tb ts):=by
 intro pins s σ H D I h;have hb':PSx X body (fun D Ex σ H=>tb D (fun σ' H' C d=>Mu X.K (.ref C) (.ref B)=some true/\∀ x,H' x=none->ts { nx:=fun σ2 H2=>D.nx (σ2.set i none) H2,rt:=D.rt,bk:=fun σ2 H2=>D.bk (σ2.set i none) H2,ct:=fun σ2 H2=>D.ct (σ2.set i none) H2 } (σ'.set i (some (.ref x))) (upd H' x (fM x C d))) σ H/\∀ σ' H' C d,(Mu X.K (.ref C) (.ref B)=some true/\∀ x,H' x=none->ts { nx:=fun σ2 H2=>D.nx (σ2.set i none) H2,rt:=D.rt,bk:=fun σ2 H2=>D.bk (σ2.set i none) H2,ct:=fun σ2 H2=>D.ct (σ2.set i none) H2 } (σ'.set i (some (.ref x))) (upd H' x (fM x C d)))->Ex σ' H' C d):=fun pins s σ H D Ex I z =>
  Nc (hb pins s σ H D _ I z.1) (fun _ _ y=>y) fun e s1 ⟨x,T,C,d,σ',H',e1,e2,e3,e4⟩=>⟨x,T,C,d,σ',H',e1,e2,e3,z.2 _ _ _ _ e4⟩
 exact BG hex hb' (Ib hex hs D8 hg hm hN hi hk hdb) hst hfr pins s σ H D I ⟨h,fun _ _ _ _ z=>.inl z⟩
end
section
variable {X:Cx} {x:Str} {st:Stmt} {ps:List Str} {k:Nat} {sp:Sp} {p pos:Pos} {e:Expr} {es:List Expr} {t:TA} {E:XK}
def iK (d:Df X.K X.mg x st ps) (G:aH X.prog X.w X.K X.mg X.base (CXR X.prog X.w) k d.f d.fd ps sp) (hr:bX k X.A) (hg:Gl X x) (hx:Passes (CXR X.prog X.w) X E) (ha:PA X (e :: es) t) (hn:isStar e=false:=by rfl) (hall:es.all (fun e=>!isStar e)=true:=by rfl) (hdb:(x == ("__debug__" : Str))=false:=by decide) :
  PE X (.Call (.Name x p) (e :: es) [] pos) (nG sp [] E t):=qr G hr hg d.nm d.fn.kp d.bd .nil hx ha hdb (bz hn) (cz hall)
def Bz (d:Df X.K X.mg x st ps) (G:aH X.prog X.w X.K X.mg X.base (CXR X.prog X.w) k d.f d.fd ps sp) (hex:X.ex=[]) (hr:bX k X.A) (hg:Gl X x) (ha:PA X.nox (e :: es) t) (hn:isStar e=false:=by rfl) (hall:es.all (fun e=>!isStar e)=true:=by rfl) (hdb:(x == ("__debug__" : Str))=false:=by decide) :
  PEx X (.Call (.Name x p) (e :: es) [] pos) (yw sp t):=FG G hex hr hg d.nm d.fn.kp d.bd ha hdb (bz hn) (cz hall)
def jE {C:Addr} {np cpos:Pos} (hL:Lets X E) (hex:X.ex=[]) (hcalm:X.calm=true) (hq:Po X.K C bmV ot=true) (hg:Gl X x) (hm:X.mg x=some (.ref C)) (ha:PA X (e :: es) t) (hn:isStar e=false:=by rfl) (hall:es.all (fun e=>!isStar e)=true:=by rfl)
  (hdb:(x == ("__debug__" : Str))=false:=by decide):PS X (.Raise (some (.Call (.Name x np) (e :: es) [] cpos)) none pos) (zy C E t):=Hv hL hex hcalm hq hg hm ha hdb (bz hn) (cz hall)
end
section
variable {K:LO} {B C:Addr} {i:Nat} {tb t u:TXs} {ts:TS} {D:Ends} {σ:St} {H:Hp} {c:TT} {te:TXe} {sp:Sp} {ta:TA} {Q:VK} {Ex:St->Hp->Addr->Option Addr->Prop} {Eh:Hp->Addr->Option Addr->Prop} {E:XK} {th:TH}
def JF (h:tb D (fun σ' H' C d=>th D σ' H' C d) σ H):HM tb th D σ H:=h
def Ly (h:tb D (fun σ' H' C d=>Mu K (.ref C) (.ref B)=some true/\∀ x,H' x=none ->
 ts { nx:=fun σ2 H2=>D.nx (σ2.set i none) H2,rt:=D.rt,bk:=fun σ2 H2=>D.bk (σ2.set i none) H2,ct:=fun σ2 H2=>D.ct (σ2.set i none) H2 } (σ'.set i (some (.ref x))) (upd H' x (fM x C d))) σ H):Ka K B i tb ts D σ H:=h
def BO (h:te σ H (fun _ H1=>D.nx σ H1) (fun H1 C d=>Ex σ H1 C d)):EO te D Ex σ H:=h
def Bs (h:ta σ H fun vs H1=>sp vs H1 Q (fun c d H2=>∃ C,c=.ref C/\Eh H2 C d)):yw sp ta σ H Q Eh:=h
def kh (h:ta σ H fun vs H1=>vs.length<=My/\E (.ref C) none H1):zy C E ta D σ H:=h
end
structure cx (K:LO) (C:Addr):Prop where
 cls:PySem.W.isClsIn K C=true
 ga:M5 K (.ref C) "__getattribute__" = some (some (.builtin "BaseException.__getattribute__"))
 gt:M5 K (.ref C) "__getattr__" = some none
 kc:M5 K (.ref C) "__class__" = some (some (.builtin "object.__class__"))
 gg:PySem.W.specialIn K (.builtin "object.__class__") "__get__" = some (some (.builtin "getset_descriptor.__get__"))
 tk:PySem.W.takesIn K (.builtin "object.__class__")=some true
 ob:RF K C (.type "object")=some true
 be:RF K C (.type "BaseException")=some true
section
open PySem.Calls PySem.Builtin PySem.Builtin.ObjectAttr PySem.Builtin.Getset_descriptor
variable {prog:Mi} {w:World} {A:MQ} {E:Value->LV->Prop} {K:LO} {x C:Addr} {di:Option Addr} {h:Heap} {g:Array Qr} {d:Drawn} {t:Nat} {os:OsState}
def mq {M:Model} (e:gL x C di h):Ot M h (typeOf (.ref x)) (.ref C):=by
 obtain ⟨o,vs,e1,e2,_⟩:=e;exact e2 ▸ (PySem.W.Looks.ld e1).andThen .now
def GN {M:Model} (X:K.In h) (c:cx K C):Ot M h (find (.ref x) (.ref C) "__class__") (.bind (.builtin "getset_descriptor.__get__") (.builtin "object.__class__")):=by
 have L1:=NL (M:=M) X c.kc;have L2:Ot M h (getOf (some (.builtin "object.__class__"))) (some (.builtin "getset_descriptor.__get__")):=PySem.W.looks_specialIn X c.gg;have L3:=PySem.W.looks_takesIn (M:=M) X c.tk;exact L1.andThen (L2.andThen ((show Ot M h (dataDescriptor? (some (.builtin "object.__class__")) (some (.builtin "getset_descriptor.__get__"))) (some (.builtin "getset_descriptor.__get__",.builtin "object.__class__")) from L3.andThen .now).andThen (PySem.W.Looks.tag .now)))
def wC {R:Rj->LV->Prop} {tp:Value} (X:K.In h) (c:cx K C) (e:gL x C di h) (hq:R (.ok (.ret (.ref C))) ⟨h,g,d,t,os⟩) :
  codeAny (model prog w) A (.call (.builtin "getset_descriptor.__get__") ⟨[.builtin "object.__class__",.ref x,tp],[]⟩) R ⟨h,g,d,t,os⟩:=by
 have L0:=mq (M:=model prog w) e;have L1:=QN (M:=model prog w) X c.ob;refine OR PySem.W.KF.slot_gs.plain PySem.W.KF.entry_gs (PySem.W.KF.slot_gs.check _ _ _ _ _ _ _ _ PySem.W.KF.type_class (PySem.W.KF.args_gs _ _ _) ?_);unfold OE.«getset_descriptor.__get__» descrGet;rw [PySem.W.dga_obj];refine LQ (L4 ?_);unfold descrGetter descrCheckInstance descrNameAndClass isInstance;simp only [PySem.W.KF.owner_class]
 repeat lk
 refine ⟨P6 _ (by trivial),Nv PySem.W.KF.entry_class ?_⟩
 unfold OE.«object.__class__» shownTypeOf
 repeat lk
 exact hq
def vv {M:Model} {nameV:Value} {Q:Unit->LV->Prop} (X:K.In h) (c:cx K C) (e:gL x C di h) (hq:Q () ⟨h,g,d,t,os⟩):wpAny M A (checkBuiltinCall "BaseException.__getattribute__" ⟨[.ref x,nameV],[]⟩) Q E ⟨h,g,d,t,os⟩:=by
 have hk:builtinKind "BaseException.__getattribute__" = some .slot:=by trivial
 have hsplit:splitId "BaseException.__getattribute__" = some ("BaseException","__getattribute__"):=by trivial
 have ha:=F.args_bexc_ga (.ref x) nameV;have L0:=mq (M:=M) e;have L1:=QN (M:=M) X c.be;simp only [checkBuiltinCall,hk,hsplit];refine LQ ?_;have L2:Ot M h (isInstance (.ref x) (.type "BaseException")) true:=L0.andThen L1;refine L2.at ?_
 repeat (first|assumption|wp_step)
def EI {tk:Tok} {Q:Fin->LV->Prop} (X:K.In h) (c:cx K C) (e:gL x C di h) (hq:Q (.done (.ret (.ref C))) ⟨h,g,d,t,os⟩) :
  wpAny (model prog w) A (OE.«object.__getattribute__» ⟨[.ref x,.str "__class__" tk],[]⟩) Q E ⟨h,g,d,t,os⟩:=by
 have L0:=mq (M:=model prog w) e;have L1:=GN (M:=model prog w) (x:=x) X c
 repeat (any_goals (first|assumption|with_reducible refine PySem.W.Looks.at (by assumption) ?_|wp_step))
 refine wC X c e ?_
 repeat (any_goals (first|assumption|wp_step))
def Hu {tk:Tok} {R:Rj->LV->Prop} (X:K.In h) (c:cx K C) (e:gL x C di h) (hq:R (.ok (.ret (.ref C))) ⟨h,g,d,t,os⟩) :
  codeAny (model prog w) A (.call (.builtin "BaseException.__getattribute__") ⟨[.ref x,.str "__class__" tk],[]⟩) R ⟨h,g,d,t,os⟩ :=
 OR Pd.ga.plain F.entry_bexc_ga (vv X c e (EI X c e hq))
def Ew {Q:Option Value->LV->Prop} (X:K.In h) (c:cx K C) (e:gL x C di h) (hq:Q (some (.ref C)) ⟨h,g,d,t+1,os⟩):wpAny (model prog w) A (getAttr? (.ref x) "__class__") Q E ⟨h,g,d,t,os⟩:=by
 have L0:=mq (M:=model prog w) e;have L1:=NL (M:=model prog w) X c.ga;have L2:=NL (M:=model prog w) X c.gt;have f3:=Pd.ga.bind (.ref x);unfold getAttr? getAttrBy? getAttrBy;refine LQ (wpAny_mkText (LQ (Pq (M4 (LQ (L0.at (LQ (L1.at ?_))))))));show wpAny _ _ (getAttrByItsOwn _ _ _ _ _ _) _ _ _;unfold getAttrByItsOwn hookBefore;refine LQ ?_;rw [if_pos (by rfl)]
 refine L2.at ?_;refine LQ (Pq (M4 ?_));unfold callGetattribute
 repeat (any_goals (first|assumption|wp_step))
 refine Hu X c e ?_
 repeat (any_goals (first|assumption|wp_step))
def GK (c:cx K C):PySem.W.KitX K (.ref x) (.ref C) (gL x C di) where
 ty:=fun _ _ _ e=>mq e
 it:=fun M h X e=>by
  have hc:(QG K C).isSome=true:=c.cls;unfold QG at hc
  split at hc
  ·rename_i ho
   intro A' Q' E' s' k q;unfold isType loadHead;exact LQ (Q8 (k _ _ (X _ _ ho)) (L4 q))
  ·cases hc
 ne:=fun h tp dd its n sl X htp=>by
  refine Bool.eq_false_iff.mpr fun q=>?_;have e:C=tp:=Mt.inj (beq_iff_eq.mp q);subst e;have hc:(QG K C).isSome=true:=c.cls;unfold QG at hc
  split at hc
  ·rename_i ho
   have z:=(X _ _ ho).symm.trans htp;cases z
  ·cases hc
 ca:=fun {prog w A E Q s} X e k=>by
  obtain ⟨h,g,d,t,os⟩:=s;exact Ew X c e k
end
def zp (K:LO) (xs:List V) (H:Hp) (Q:VK):Prop:=∃ (x C:Addr) (d:Option Addr) (c:V) (cv:Value) (b:Bool),xs=[.ref x,c]/\H x=some (fM x C d)/\cx K C/\RelV c cv/\(∀ u,RelV c u->u=cv)/\Nw K (.ref C) cv=some b/\Q (.bl b) H
def bI {X:Cx} (K:LO) (hK:X.K=K):cE X (.builtin "isinstance") (zp K):=by
 subst hK;intro pins s σ H xs us Q I r h;obtain ⟨x,C,d,c,cv,b,rfl,hx,hc,r2,r3,e,q⟩:=h;obtain ⟨u,v,rfl,ru,rv⟩:=r.two;cases (show u=Mt x from ru);cases r3 v rv;obtain ⟨p,_,_⟩:=(show bA X.prog X.w H s.heap x (fM x C d) from I.hok x _ hx);exact NB (GK hc) I.kIn p e (fun z=>nomatch z) fun tk=>⟨.bl b,H,I.tok tk,rfl,q⟩
section
variable {K:LO} {H:Hp} {Q:VK} {x C D:Addr} {d:Option Addr} {b:Bool}
def Gf {n:String} (hx:H x=some (fM x C d)) (hc:cx K C) (e:Nw K (.ref C) (.type n)=some b) (q:Q (.bl b) H):zp K [.ref x,.ty n] H Q:=⟨x,C,d,.ty n,.type n,b,rfl,hx,hc,rfl,fun _ z=>z,e,q⟩
def cL (hx:H x=some (fM x C d)) (hc:cx K C) (e:Nw K (.ref C) (.ref D)=some b) (q:Q (.bl b) H):zp K [.ref x,.ref D] H Q:=⟨x,C,d,.ref D,.ref D,b,rfl,hx,hc,rfl,fun _ z=>z,e,q⟩
end
section
variable {M:Model} {A:MQ} {E:Value->LV->Prop} {s:LV} {base:Heap} {env:Env} {l:List Env} {L x T C:Addr} {d:Option Addr}
def Fv (hf:env.frame=some L) (hl:s.heap.FunFrames base l) (he:fN s.heap x T C d (rawInt L)) (h:∀ h',(∀ b,b≠T->h'.get? b=s.heap.get? b)->fN h' x T C d (rawInt L)->E (.ref x) { s with heap:=h' }):cameBackBy M A env E (.ref x) s:=by
 show wpAny M A (do
  if (<- field (.ref x) 1) == .none then unsupported "frame.own-activation:exception-without-traceback"
  setFlight (.ref x) env.frame) (fun _ s''=>E (.ref x) s'') E s
 obtain ⟨oe,vs,oT,ts,e1,e2,e3,e4,e5,_⟩:=id he;refine LQ (Ob e1 e4 e5 ?_);rw [if_neg (by simp),hf]
 exact yt hl he fun h' k F=>h h' k F.exc
end
section
variable {X:Cx} {pins:List (Addr×Obj)} {σ:St} {H:Hp} {s s':LV} {x T C:Addr} {d:Option Addr} {ts:List Addr} {h':Heap} {E:XK} {e:Value} {fl:Value}
inductive yu (h:Heap) (x:Addr) (C:Addr) (d:Option Addr) (L:Addr):List Addr->Prop
 | new:lR h x C d->yu h x C d L []
 | fly {T:Addr}:lO h x T C d->yu h x C d L [T]
 | held {T:Addr}:fN h x T C d (rawInt L)->yu h x C d L [T]
 | any {T:Addr} {fl:Value}:fN h x T C d fl->yu h x C d L [T]
def XR (X:Cx) (E:XK) (e:Value) (s':LV):Prop:=∃ x ts C d σ H,e=.ref x/\Up X [] σ H s' x ts/\yu s'.heap x C d X.env.locals ts/\E (.ref C) d H
def Up.bare (U:Up X pins σ H s x ts):Up X [] σ H s x ts:=by
 have I:=U.inv;exact ⟨⟨I.ok,I.os,I.bare,I.base,I.loc,I.cell,I.free,I.eJ,fun p hp=>I.pin p (by rw [NS] at hp;exact NK _ hp),I.hok,I.len⟩,U.fx,U.fT,U.nx,U.nT,fun p hp=>U.px p (by rw [NS] at hp;exact NK _ hp)⟩
def Up.dN {F:Value->LV->Prop} (U:Up (X.fY F) pins σ H s x ts):Up X pins σ H s x ts:=⟨U.inv.dN,U.fx,U.fT,U.nx,U.nT,U.px⟩
def qm (U:Up X [] σ H s x [T]) (hst:X.stack=X.env :: X.outer) (hfr:X.env.frame=some X.env.locals) (hex:X.ex=[]) (he:fN s.heap x T C d (rawInt X.env.locals)) (q:E (.ref C) d H) :
  cameBackBy (model X.prog X.w) X.A X.env (XR X E) (.ref x) s:=by
 refine Fv hfr U.inv.stack he fun h' hk he'=>?_;refine ⟨x,[T],C,d,σ,H,rfl,?_,.held he',q⟩;obtain ⟨n1,n2,n3,n4⟩:=U.inv.oJ (he.i9 T (.tail _ (.head _)));refine ⟨U.inv.land (ch:=[T]) (fun b hb=>?_) (fun b hb=>U.fT b hb) (fun b o h1 h2 h3 q=>(hk b fun z=>h3 (z ▸ .head _)).trans q) (fun b o hb q=>⟨o.slots,(hk b fun z=>?_).trans q⟩),U.fx,U.fT,U.nx,U.nT,U.px⟩
 ·obtain rfl:=LZ.mp hb;exact ⟨U.nT _ (.head _),n1,n2,fun p hp z=>(U.px p hp).2 (by rw [z];exact .head _)⟩
 ·rw [z] at hb;exact hb.elim n1 n4
def GX (ok:X.Ok) (hst:X.stack=X.env :: X.outer) (hfr:X.env.frame=some X.env.locals) (hex:X.ex=[]):T9 (model X.prog X.w) X.A X.env (XR X E):=by
 rintro e s ⟨x,ts,C,d,σ,H,rfl,U,fl,q⟩;show wpAny _ _ (noteFrame (.ref x) X.env) _ _ s;have fr:X.A.frames=some (X.env :: X.outer):=by rw [<- hst];exact ok.frames
 have sk:s.heap.FunFrames X.base (X.env :: X.outer):=by rw [<- hst];exact U.inv.stack
 cases fl with
 | new he =>
  refine tR fr sk hfr he fun h' T F=>?_;rw [<- hst] at F;exact qm (U.land hex he.i9 F) hst hfr hex F.exc q
 | fly he =>
  refine u7 fr sk hfr he fun h' T F=>?_;rw [<- hst] at F;exact qm (U.land hex he.i9 F) hst hfr hex F.exc q
 | held he=>exact mI hfr he (qm U hst hfr hex he q)
 | any he =>
  refine zF fr sk hfr he fun h' T F=>?_;rw [<- hst] at F;exact qm (U.land hex he.i9 F) hst hfr hex F.exc q
end
section
variable {P:Mi} {w:World} {K:LO} {mg:Str->Option Value} {base:Heap} {N:List Str} {qual:Str} {scope:Scope} {f:Addr} {cd:Value} {A:MQ} {outer:List Env} {s:LV} {H:Hp} {E:XK}
abbrev cxR (P:Mi) (w:World) (K:LO) (mg:Str->Option Value) (base:Heap) (N:List Str) (qual:Str) (scope:Scope) (f:Addr) (cd:Value) (A:MQ) (outer:List Env) (s:LV) (H:Hp) (E:XK):Cx :=
 (iN (CXR P w) P w K mg base N qual scope f cd A outer s H E).fY (XR (iN (CXR P w) P w K mg base N qual scope f cd A outer s H E) E)
def lh:Lets (cxR P w K mg base N qual scope f cd A outer s H E) E:=fun pins σ H' s' x C d U he q=>⟨x,[],C,d,σ,H',rfl,U.dN.bare,.new he,q⟩
def fO:Passes (CXR P w) (cxR P w K mg base N qual scope f cd A outer s H E) E:=fun pins σ H1 s1 e s' I h=>by
 obtain ⟨x,T,C,d,H',rfl,he,U,q⟩:=vt I rfl h;exact ⟨x,[T],C,d,σ,H',rfl,U.dN.bare,.fly he,q⟩
def vM {e:Value} {s':LV} (h:XR (iN (CXR P w) P w K mg base N qual scope f cd A outer s H E) E e s'):(iN (CXR P w) P w K mg base N qual scope f cd A outer s H E).xe e s':=by
 obtain ⟨x,ts,C,d,σ,H',rfl,U,fl,q⟩:=h;cases fl with
 | new he=>exact Az (L:=s.heap.objs.size) (outer:=outer) U.inv.ok.frames U.inv.stack rfl he fun h' T' F=>sE (U.land rfl he.i9 F) F.exc q
 | fly he=>exact C9 (L:=s.heap.objs.size) (outer:=outer) U.inv.ok.frames U.inv.stack rfl he fun h' T' F=>sE (U.land rfl he.i9 F) F.exc q
 | held he=>exact leave_held (L:=s.heap.objs.size) (outer:=outer) U.inv.stack rfl he fun h' F=>sE (U.land rfl he.i9 F) F.exc q
 | any he=>exact Eo (L:=s.heap.objs.size) (outer:=outer) U.inv.ok.frames U.inv.stack rfl he fun h' T' F=>sE (U.land rfl he.i9 F) F.exc q
def Fun.okX {x qual:Str} {st:Stmt} {f:Addr} {fd:Na} {N ps:List Str} {k:Nat} {sp:Sp} (F:Fun K x qual st f fd) (S:aK N ps (ak st)) (len:∀ vs H Q E,sp vs H Q E->vs.length=ps.length)
  (hbody:∀ (cdv:Value) (A:MQ) (outer:List Env) (s:LV) (H:Hp) (vs:List V) (Q:VK) (E:XK),bX k (A.deeper (envOfC qual (ak st) s.heap.objs.size f cdv))->sp vs H Q E ->
   ∃ t,((cxR P w K mg base N qual (ak st) f cdv A outer s H E).Ok->PSs (cxR P w K mg base N qual (ak st) f cdv A outer s H E) (bC st) t)/\t { nx:=fun _ H'=>Q .non H',rt:=Q } (start N vs) H):aH P w K mg base (CXR P w) (k+1) f fd ps sp:=by
 obtain ⟨oc,od,kV,doc,pm,an,cdv,ct,osl,rfl,lk,hcd⟩:=F.ex;refine xR lk hcd S len fun A outer s H vs Q E hr hsp=>?_;obtain ⟨t,h,q⟩:=hbody cdv A outer s H vs Q E hr hsp;refine ⟨t,fun pins s' σ H' D I z=>?_,q⟩;exact Nc (h (I.fY _).ok pins s' σ H' D (I.fY _) z) (fun _ _ y=>y.dN) fun _ _ y=>vM y
def aH.both {k:Nat} {f:Addr} {fd:Na} {ps:List Str} {sp1 sp2:Sp} (F1:aH P w K mg base CX0 k f fd ps sp1) (F2:aH P w K mg base (CXR P w) k f fd ps sp2):aH P w K mg base (CXR P w) k f fd ps (fun vs H Q E=>sp1 vs H Q E\/sp2 vs H Q E) :=
 ⟨fun vs H Q E h=>h.elim (F1.len vs H Q E) (F2.len vs H Q E),fun A outer s H args us vs Q E hr he hb hv h=>by
  rcases h with h|h
  ·refine OJ (F1.run A outer s H args us vs Q E hr he hb hv h) fun r s' z=>?_;cases r with
   | error e=>exact Nd z
   | ok fl=>cases fl <;> exact z
  ·exact F2.run A outer s H args us vs Q E hr he hb hv h⟩
end
section
variable {X:Cx} {pos:Pos}
end
section
variable {σ:St} {H:Hp} {Q:VK} {D:Ends} {Ex:St->Hp->Addr->Option Addr->Prop} {Eh:Hp->Addr->Option Addr->Prop}
end
end L2
namespace L2
def Back (U N:St->Hp->Prop):Prop:=∀ σ' H',U σ' H'->N σ' H'
def tI {t u:TS} {D:Ends} {σ:St} {H:Hp} (h:∀ N:St->Hp->Prop,Back (u D) N->t { D with nx:=N } σ H):JQ t u D σ H:=h _ fun _ _ z=>z
def pQ {U N:St->Hp->Prop} {σ:St} {H:Hp} (h:Back U N) (q:U σ H):N σ H:=h σ H q
end L2
namespace L2
open PySem PySem.Spec PyProof.Rows
section
variable {X:Cx} {k:Nat} {f C:Addr} {fd:Na} {ps:List Str} {sp:Sp} {x m:Str} {p pos apos:Pos} {e:Expr} {es:List Expr} {t:TA}
end
section
variable {X:Cx} {k:Nat} {f C:Addr} {fd:Na} {ps ks:List Str} {sp:Sp} {x:Str} {p pos kpos:Pos} {e a:Expr} {es:List Expr} {kws:List Sk} {t tk:TA} {te:TE} {g:List Value->List Value->List Value} {gV:List V->List V->List V}
end
section
variable {X:Cx} {pins:List (Addr×Obj)} {σ:St} {H:Hp} {s:LV} {A:MQ} {α β:Type} [Rep α] [DecidableEq α] [bQ α] [Rep β] [DecidableEq β] [bQ β]
end
end L2
namespace PySem
open Sem (wp)
def Jq:typeLookup (.type "zip") "__getattr__" = pure none:=am_miss_of_fast (by kernel_rfl)
def Jh:typeLookup (.type "zip") "keys" = pure none:=am_miss_of_fast (by kernel_rfl)
def Hm:entryFor table "zip.__getattribute__" = some OE.«object.__getattribute__» :=
 S1 (id':="object.__getattribute__") (by kernel_rfl) (by trivial) (by trivial) (by kernel_rfl)
def FH (z:Addr) (fs:Array Value) (u:Tok) :
  Meets (OE.«object.__getattribute__» ⟨[.ref z,.str "keys" u],[]⟩) (fun A R s=>s.heap.get? z=some { cls:=.type "zip",dict:=none,data:=.fields fs,slots:=#[] }/\raisesAttr (.ref z) "keys" A R s) :=
 Meets.of_wp fun prog w A R s hs=>by
  obtain ⟨hp,g,d,tk,os⟩:=s;obtain ⟨hx,hA,hs⟩:=hs;have hT:(⟨hp,g,d,tk,os⟩:LV).TypeIs (.ref z) "zip":=⟨_,hx,rfl⟩;have hk:=Jh;unfold OE.«object.__getattribute__»
  repeat (any_goals (first|assumption|wp_step))
  exact wpAny_raiseAttrError hA hs (attrMsg_fits (by trivial) (by trivial))
section
variable {prog:Mi} {w:World} {A:MQ} {E:Value->LV->Prop} {s:LV}
def Aa {z:Addr} {fs:Array Value} {Q:Option Value->LV->Prop} (hx:s.heap.get? z=some { cls:=.type "zip",dict:=none,data:=.fields fs,slots:=#[] }) (hA:A.handled=none)
  (h:∀ h' tk,(∀ b o,s.heap.get? b=some o->h'.get? b=some o)->Q none { s with heap:=h',toks:=tk }):wpAny (model prog w) A (getAttr? (.ref z) "keys") Q E s:=by
 obtain ⟨hp,g,d,tk,os⟩:=s;have hT:∀ tk',(⟨hp,g,d,tk',os⟩:LV).TypeIs (.ref z) "zip":=fun _=>⟨_,hx,rfl⟩;have f1:=sub_AttributeError;have f3:=P7.lookup;have f4:=P7.bind (.ref z);have f5:=Jq;unfold getAttr? getAttrBy? getAttrBy
 repeat (any_goals (first|assumption|exact hT _|((with_reducible show wpAny _ _ (call (Value.builtin "zip.__getattribute__") _ _) _ _ _);refine O6 P7 (hT _) Hm (F.args_zip_getattribute_2 _ _) (FH z fs _) ⟨hx,hA,fun h' tk' e hn=>?_⟩)|wp_step))
 obtain ⟨t',u',he⟩:=hn.there;show wpAny _ _ (getattributeRaised _ _ _ _ _ _ _) _ _ _;unfold getattributeRaised
 repeat (any_goals (first|assumption|wp_step))
 exact h _ _ hn.keeps
end
end PySem
namespace PySem
open Sem (wp)
section
variable {prog:Mi} {w:World} {A:MQ} {E:Value->LV->Prop} {s:LV}
abbrev gk (h:Heap) (z TI TO T:Addr) (b:Bool):Prop:=h.get? z=some { cls:=.type "zip",dict:=none,data:=.fields #[rawInt T,.bool b,.bool false,.ref TI,.ref TO],slots:=#[] }
def vW {z TI TO T:Addr} {b:Bool} {oT:Obj} {Q:Bool->LV->Prop} (gz:gk s.heap z TI TO T b) (gT:s.heap.get? T=some oT)
  (h:∀ h',gk h' z TI TO T true->O1 z s.heap h'->Q false { s with heap:=h' }):wpAny (model prog w) A (NW (.ref z)) Q E s:=by
 unfold NW;refine LQ (Ob gz rfl (x:=rawInt T) rfl ?_);have al:∀ {R:Option Obj->LV->Prop},R (some oT) s->wpAny (model prog w) A (loadIfAlive ((T:Int).toNat)) R E s:=fun {R} r=>by
  intro Γ q hΓ;show R (s.heap.get? ((T:Int).toNat)) s;rw [show ((T:Int).toNat)=T from Ny T,gT];exact r
 refine LQ (al ?_);rw [if_neg (fun z=>nomatch z)];refine LQ (Ob gz rfl (x:=.bool b) rfl ?_);cases b with
 | true =>
  rw [if_neg (by decide)]
  exact L4 (h _ gz ⟨rfl,fun _ _=>rfl⟩)
 | false =>
  rw [if_pos (by decide)]
  exact LQ (P8 gz (by simp) fun h1 gz1 hs1=>L4 (h h1 gz1 hs1))
def wU {z TI TO T i1 i2 l1 l2:Addr} {k1 k2:Nat} {xs ys:Array Value} {x y:Value} {b:Bool} {oT:Obj} {Q:Value->LV->Prop} (D:Qu z TI TO i1 i2 l1 l2)
  (gz:gk s.heap z TI TO T b) (gT:s.heap.get? T=some oT) (gI:SY s.heap TI (.ref i1) (.ref i2))
  (g1:s.heap.IsListIter i1 l1 k1) (g2:s.heap.IsListIter i2 l2 k2) (gl1:s.heap.IsList l1 xs) (gl2:s.heap.IsList l2 ys) (gx:xs[k1]?=some x) (gy:ys[k2]?=some y)
  (hQ:∀ h',gk h' z TI TO T true->h'.IsListIter i1 l1 (k1+1)->h'.IsListIter i2 l2 (k2+1)->SY h' s.heap.objs.size x y ->
   (∀ c o,c≠z->c≠i1->c≠i2->s.heap.get? c=some o->h'.get? c=some o)->Q (.ref s.heap.objs.size) { s with heap:=h' }) :
  wpAny (model prog w) A (OE.«zip.__next__» ⟨[.ref z],[]⟩) (fun fin s'=>∃ v,fin=.done (.ret v)/\Q v s') E s:=by
 show wpAny _ _ (field (.ref z) 2 >>= _) _ _ _;refine LQ (Ob gz rfl (x:=.bool false) rfl ?_);show wpAny _ _ (field (.ref z) 3 >>= _) _ _ _;refine LQ (Ob gz rfl (x:=.ref TI) rfl ?_);refine LQ (S2 gI rfl ?_);show wpAny _ _ (NW (.ref z) >>= _) _ _ _;refine LQ (vW gz gT fun h1 gz1 hs1=>?_);simp only [MV,if_false,List.forIn_toArray,So,List.forIn_nil];refine LQ (LQ (LQ (M4 ?_)));show wpAny _ _ (PD (.ref i1) >>= _) _ _ _;refine LQ (Sb (g1.extBut hs1.extBut D.i1z) (gl1.extBut hs1.extBut D.l1z) gx fun h2 g12 hs2=>L4 (L4 ?_));refine LQ (LQ (M4 ?_));show wpAny _ _ (PD (.ref i2) >>= _) _ _ _;refine LQ (Sb ((g2.extBut hs1.extBut D.i2z).extBut hs2.extBut D.i12.symm) ((gl2.extBut hs1.extBut D.l2z).extBut hs2.extBut D.l2i1) gy fun h3 g23 hs3=>L4 (L4 (L4 ?_)));refine LQ (wpAny_newTuple (L4 ⟨_,rfl,?_⟩) (show 2<=My by decide))
 have e1:h1.objs.size=s.heap.objs.size:=hs1.1;have e2:h2.objs.size=h1.objs.size:=hs2.1;have e3:h3.objs.size=h2.objs.size:=hs3.1;have ez:h3.objs.size=s.heap.objs.size:=e3.trans (e2.trans e1);have up:∀ c o,c≠z->c≠i1->c≠i2->s.heap.get? c=some o->h3.get? c=some o:=fun c o n1 n2 n3 q=>hs3.extBut _ _ n3 (hs2.extBut _ _ n2 (hs1.extBut _ _ n1 q));have q:=hQ (h3.push { cls:=.type "tuple",data:=.seq #[x,y] }) (LW _ (hs3.extBut _ _ D.i2z.symm (hs2.extBut _ _ D.i1z.symm gz1))) ((g12.extBut hs3.extBut D.i12).at fun o e=>LW _ e) (g23.at fun o e=>LW _ e)
  (by rw [<- ez];exact Mo _ rfl) fun c o n1 n2 n3 q=>LW _ (up c o n1 n2 n3 q)
 rw [<- ez] at q;exact q
def ES {z TI TO T i1 i2 l1 l2:Addr} {k1 k2:Nat} {xs ys:Array Value} {x y:Value} {b:Bool} {oT:Obj} {Q:Option Value->LV->Prop} (D:Qu z TI TO i1 i2 l1 l2)
  (gz:gk s.heap z TI TO T b) (gT:s.heap.get? T=some oT) (gI:SY s.heap TI (.ref i1) (.ref i2))
  (g1:s.heap.IsListIter i1 l1 k1) (g2:s.heap.IsListIter i2 l2 k2) (gl1:s.heap.IsList l1 xs) (gl2:s.heap.IsList l2 ys) (gx:xs[k1]?=some x) (gy:ys[k2]?=some y)
  (hQ:∀ h',gk h' z TI TO T true->h'.IsListIter i1 l1 (k1+1)->h'.IsListIter i2 l2 (k2+1)->SY h' s.heap.objs.size x y ->
   (∀ c o,c≠z->c≠i1->c≠i2->s.heap.get? c=some o->h'.get? c=some o)->Q (some (.ref s.heap.objs.size)) { s with heap:=h' }) :
  wpAny (model prog w) A (pyNext (.ref z)) Q E s:=by
 have tz:s.TypeIs (.ref z) "zip":=⟨_,gz,rfl⟩;unfold pyNext;refine LQ (Pq (O4 (name:=Np "__next__") tz QP (N5 QP tz F.entry_zip_next ?_ (F.args_zip_next_1 _))));exact wU D gz gT gI g1 g2 gl1 gl2 gx gy fun h' a1 a2 a3 a4 a5=>L4 (hQ h' a1 a2 a3 a4 a5)
def zC {z TI TO T i1 i2 l1 l2:Addr} {k1:Nat} {xs:Array Value} {b:Bool} {oT:Obj} {Q:Fin->LV->Prop} (hh:A.handled=none) (D:Qu z TI TO i1 i2 l1 l2)
  (gz:gk s.heap z TI TO T b) (gT:s.heap.get? T=some oT) (gI:SY s.heap TI (.ref i1) (.ref i2))
  (g1:s.heap.IsListIter i1 l1 k1) (gl1:s.heap.IsList l1 xs) (gx:xs[k1]?=none)
  (hE:∀ h' e,(∀ c o,c≠z->c≠i1->c≠i2->s.heap.get? c=some o->h'.get? c=some o)->(∃ o,h'.get? e=some o/\o.cls=.type "StopIteration")->E (.ref e) { s with heap:=h' }) :
  wpAny (model prog w) A (OE.«zip.__next__» ⟨[.ref z],[]⟩) Q E s:=by
 show wpAny _ _ (field (.ref z) 2 >>= _) _ _ _;refine LQ (Ob gz rfl (x:=.bool false) rfl ?_);show wpAny _ _ (field (.ref z) 3 >>= _) _ _ _;refine LQ (Ob gz rfl (x:=.ref TI) rfl ?_);refine LQ (S2 gI rfl ?_);show wpAny _ _ (NW (.ref z) >>= _) _ _ _;refine LQ (vW gz gT fun h1 gz1 hs1=>?_);simp only [MV,if_false,List.forIn_toArray,So,List.forIn_nil];refine LQ (LQ (LQ (M4 ?_)));show wpAny _ _ (PD (.ref i1) >>= _) _ _ _;exact LQ (wpAny_nextOf_list_end hh (g1.extBut hs1.extBut D.i1z) (gl1.extBut hs1.extBut D.l1z) gx fun h2 e hs2 he=>hE h2 e (fun c o n1 n2 n3 q=>hs2 _ _ n2 (hs1.extBut _ _ n1 q)) he)
def FJ {z TI TO T i1 i2 l1 l2:Addr} {k1:Nat} {xs:Array Value} {b:Bool} {oT:Obj} {Q:Option Value->LV->Prop} (hh:A.handled=none) (D:Qu z TI TO i1 i2 l1 l2)
  (gz:gk s.heap z TI TO T b) (gT:s.heap.get? T=some oT) (gI:SY s.heap TI (.ref i1) (.ref i2))
  (g1:s.heap.IsListIter i1 l1 k1) (gl1:s.heap.IsList l1 xs) (gx:xs[k1]?=none)
  (hQ:∀ h',(∀ c o,c≠z->c≠i1->c≠i2->s.heap.get? c=some o->h'.get? c=some o)->Q none { s with heap:=h' }):wpAny (model prog w) A (pyNext (.ref z)) Q E s:=by
 have tz:s.TypeIs (.ref z) "zip":=⟨_,gz,rfl⟩;unfold pyNext;refine LQ (Pq (O4 (name:=Np "__next__") tz QP (N5 QP tz F.entry_zip_next (zC hh D gz gT gI g1 gl1 gx fun h' e hk he=>?_) (F.args_zip_next_1 _))));obtain ⟨o,ho,hc⟩:=he;exact LQ (R1 (T:="StopIteration") (b:=true) ⟨o,ho,hc⟩ isSubtype_stop (L4 (hQ _ hk)))
end
end PySem
namespace PySem
open Sem (wp)
def yU:entryFor table "dict.update.loop" = some OE.«dict.update.loop»:=entryFor_of_tree (by kernel_rfl)
def nv:plainId "dict.update.loop" = true:=by trivial
structure j8 (h:Heap) (z TI TO i1 i2 l1 l2:Addr) (i:Nat) (xs ys:Array Value):Prop where
 own:(IsZip h z TI TO .none/\∃ a b,SY h TO a b)\/∃ (T:Addr) (b:Bool) (oT:Obj),gk h z TI TO T b/\h.get? T=some oT/\T≠z/\T≠i1/\T≠i2
 ins:SY h TI (.ref i1) (.ref i2)
 it1:h.IsListIter i1 l1 i
 it2:h.IsListIter i2 l2 i
 ls1:h.IsList l1 xs
 ls2:h.IsList l2 ys
def j8.keep {h h':Heap} {z TI TO i1 i2 l1 l2 d:Addr} {i:Nat} {xs ys:Array Value} (Z:j8 h z TI TO i1 i2 l1 l2 i xs ys) (nz:z≠d) (nI:TI≠d) (nO:TO≠d) (n1:i1≠d) (n2:i2≠d) (n3:l1≠d) (n4:l2≠d)
  (k:∀ c o,c≠d->h.get? c=some o->h'.get? c=some o) (hd:∃ o,h'.get? d=some o):j8 h' z TI TO i1 i2 l1 l2 i xs ys where
 own:=by
  rcases Z.own with ⟨gz,a,b,gO⟩|⟨T,b,oT,gz,gT,t1,t2,t3⟩
  ·exact .inl ⟨k _ _ nz gz,a,b,k _ _ nO gO⟩
  ·by_cases e:T=d
   ·obtain ⟨o,ho⟩:=hd;exact .inr ⟨T,b,o,k _ _ nz gz,by rw [e];exact ho,t1,t2,t3⟩
   ·exact .inr ⟨T,b,oT,k _ _ nz gz,k _ _ e gT,t1,t2,t3⟩
 ins:=k _ _ nI Z.ins
 it1:=Z.it1.at fun o q=>k _ o n1 q
 it2:=Z.it2.at fun o q=>k _ o n2 q
 ls1:=Z.ls1.at fun o q=>k _ o n3 q
 ls2:=Z.ls2.at fun o q=>k _ o n4 q
section
variable {prog:Mi} {w:World} {A:MQ} {E:Value->LV->Prop} {s:LV} {z TI TO i1 i2 l1 l2:Addr} {xs ys:Array Value}
def DB {i:Nat} {x y:Value} {Q:Option Value->LV->Prop} (D:Qu z TI TO i1 i2 l1 l2) (Z:j8 s.heap z TI TO i1 i2 l1 l2 i xs ys) (gx:xs[i]?=some x) (gy:ys[i]?=some y)
  (hQ:∀ h',j8 h' z TI TO i1 i2 l1 l2 (i+1) xs ys->SY h' s.heap.objs.size x y->(∀ c o,c≠z->c≠TO->c≠i1->c≠i2->s.heap.get? c=some o->h'.get? c=some o)->Q (some (.ref s.heap.objs.size)) { s with heap:=h' }) :
  wpAny (model prog w) A (pyNext (.ref z)) Q E s:=by
 have lt:∀ {c:Addr} {o:Obj},s.heap.get? c=some o->s.heap.objs.size≠c:=fun e=>OI (L6 e);rcases Z.own with ⟨gz,a,b,gO⟩|⟨T,b,oT,gz,gT,t1,t2,t3⟩
 ·refine Sr D gz Z.ins gO Z.it1 Z.it2 Z.ls1 Z.ls2 gx gy fun h' a1 a2 a3 a4 a5 a6 hk=>hQ h' ⟨.inr ⟨s.heap.objs.size,false,_,a1,a5,lt gz,?_,?_⟩,hk _ _ D.TIz D.TITO D.TIi1 D.TIi2 Z.ins,a3,a4,Z.ls1.at fun o e=>hk _ o D.l1z D.l1TO D.l1i1 D.l1i2 e,Z.ls2.at fun o e=>hk _ o D.l2z D.l2TO D.l2i1 D.l2i2 e⟩ a5 hk
  ·obtain ⟨_,e,_⟩:=Z.it1;exact lt e
  ·obtain ⟨_,e,_⟩:=Z.it2;exact lt e
 ·exact ES D gz gT Z.ins Z.it1 Z.it2 Z.ls1 Z.ls2 gx gy fun h' a1 a2 a3 a4 hk=>hQ h' ⟨.inr ⟨T,true,oT,a1,hk _ _ t1 t2 t3 gT,t1,t2,t3⟩,hk _ _ D.TIz D.TIi1 D.TIi2 Z.ins,a2,a3,Z.ls1.at fun o e=>hk _ o D.l1z D.l1i1 D.l1i2 e,Z.ls2.at fun o e=>hk _ o D.l2z D.l2i1 D.l2i2 e⟩ a4 fun c o c1 _ c3 c4 e=>hk c o c1 c3 c4 e
def Fg {i:Nat} {Q:Option Value->LV->Prop} (hh:A.handled=none) (D:Qu z TI TO i1 i2 l1 l2) (Z:j8 s.heap z TI TO i1 i2 l1 l2 i xs ys) (gx:xs[i]?=none)
  (hQ:∀ h',(∀ c o,c≠z->c≠TO->c≠i1->c≠i2->s.heap.get? c=some o->h'.get? c=some o)->Q none { s with heap:=h' }):wpAny (model prog w) A (pyNext (.ref z)) Q E s:=by
 rcases Z.own with ⟨gz,a,b,gO⟩|⟨T,b,oT,gz,gT,t1,t2,t3⟩
 ·exact SV hh D gz Z.ins gO Z.it1 Z.it2 Z.ls1 Z.ls2 (.inl gx) fun h' hk=>hQ h' hk
 ·exact FJ hh D gz gT Z.ins Z.it1 Z.ls1 gx fun h' hk=>hQ h' fun c o c1 _ c3 c4 e=>hk c o c1 c3 c4 e
end
section
variable {prog:Mi} {w:World} {A:MQ} {E:Value->LV->Prop} {Kk:Type} [DecidableEq Kk] {knd:KeyKind prog w Kk} {d z TI TO i1 i2 l1 l2:Addr} {xs ys:Array Value} {kvs:List (Kk×Value)}
def Ij {R:Rj->LV->Prop} (hh:A.handled=none) (D:Qu z TI TO i1 i2 l1 l2) (nz:z≠d) (nI:TI≠d) (nO:TO≠d) (n1:i1≠d) (n2:i2≠d) (n3:l1≠d) (n4:l2≠d) (hl:kvs.length=xs.size) (hz:kvs.length<=My)
  (hkv:∀ (i:Nat) (k:Kk) (v:Value),kvs[i]?=some (k,v)->∃ x,xs[i]?=some x/\knd.is k x=true/\ys[i]?=some v) :
  ∀ (m i:Nat) (j:Int) (s:LV),kvs.length - i=m->i<=kvs.length->j8 s.heap z TI TO i1 i2 l1 l2 i xs ys->s.heap.DictOf knd d (merged [] (kvs.take i)) ->
   (∀ h' t',h'.DictOf knd d (merged [] kvs)->(∀ c o,c≠d->c≠z->c≠TO->c≠i1->c≠i2->s.heap.get? c=some o->h'.get? c=some o)->R (.ok (.ret .none)) { s with heap:=h',toks:=t' }) ->
   codeAny (model prog w) A (.builtin "dict.update.loop" ⟨[.ref d,.ref z,rawInt j,.none],[]⟩) R s:=by
 intro m
 induction m with
 | zero =>
  intro i j s hm hi Z hd hR;have e:i=kvs.length:=by omega
  subst e;rw [MJ] at hd;refine Nv yU ?_;rw [Nf nv _];show wpAny _ A.in1 (pyNext (.ref z) >>= _) _ _ s;refine LQ (Fg (by simpa using hh) D Z (N6 (by omega)) fun h' hk=>?_)
  show wpAny _ A.in1 (Builtin.Dict.addKeywords d [] >>= _) _ _ _;refine LQ (L4 (L4 (hR h' s.toks ?_ fun c o _ c1 c2 c3 c4 q=>hk c o c1 c2 c3 c4 q)));obtain ⟨o,es,ep,ho,rest⟩:=hd;exact ⟨o,es,ep,hk _ _ nz.symm nO.symm n1.symm n2.symm ho,rest⟩
 | succ m ih =>
  intro i j s hm hi Z hd hR;have hlt:i<kvs.length:=by omega
  obtain ⟨⟨k,v⟩,hg⟩:∃ p,kvs[i]?=some p:=⟨_,LP hlt⟩;obtain ⟨x,gx,kx,gy⟩:=hkv i k v hg;refine Nv yU ?_;rw [Nf nv _];show wpAny _ A.in1 (pyNext (.ref z) >>= _) _ _ s;refine LQ (DB D Z gx gy fun h1 Z1 gp hk=>?_);show wpAny _ A.in1 (holding [Mt s.heap.objs.size] _ >>= _) _ _ _;refine LQ (M4 ?_);refine LQ (wpAny_tryCatch ?_);unfold Builtin.Dict.pairItems;refine LQ (Q3 (T:="tuple") ⟨_,gp,rfl⟩ ?_);rw [if_pos (by decide)]
  refine LQ (S2 gp rfl (L4 ?_));show wpAny _ A.in1 (holding [x,v] (dictSet d x v)) _ _ _;refine M4 ?_;have hd1:h1.DictOf knd d (merged [] (kvs.take i)):=by
   obtain ⟨o,es,ep,ho,rest⟩:=hd;exact ⟨o,es,ep,hk _ _ nz.symm nO.symm n1.symm n2.symm ho,rest⟩
  have ml:=merged_length_le ([]:List (Kk×Value)) (kvs.take i);have tl:(kvs.take i).length<=i:=List.length_take_le ..;refine wpAny_dictSet_pairs (s:={ s with heap:=h1 }) (hsz:=by rw [P4,Oy] at ml;omega) kx hd1 fun h2 hd2 hs2=>?_
  rw [<- merged_take_succ [] kvs i (k,v) hg] at hd2;have he:∃ o,h2.get? d=some o:=let ⟨o,_,_,ho,_⟩:=hd2;⟨o,ho⟩;refine L4 ⟨OM nv _,ih (i+1) (j+1) _ (by omega) hlt (Z1.keep nz nI nO n1 n2 n3 n4 (fun c o c1 q=>(hs2.2 c c1).trans q) he) hd2 fun h3 t3 hd3 hk3=>?_⟩
  exact hR h3 t3 hd3 fun c o c0 c1 c2 c3 c4 q=>hk3 c o c0 c1 c2 c3 c4 ((hs2.2 c c0).trans (hk c o c1 c2 c3 c4 q))
def wY {s:LV} {Q:Value->LV->Prop} (hh:A.handled=none) (D:Qu z TI TO i1 i2 l1 l2) (gz:IsZip s.heap z TI TO .none) (Z:j8 s.heap z TI TO i1 i2 l1 l2 0 xs ys) (hl:kvs.length=xs.size) (hz:kvs.length<=My)
  (hkv:∀ (i:Nat) (k:Kk) (v:Value),kvs[i]?=some (k,v)->∃ x,xs[i]?=some x/\knd.is k x=true/\ys[i]?=some v) (nd:(kvs.map (·.1)).Nodup) (gO:∃ o,s.heap.get? TO=some o)
  (h:∀ h' t',h'.DictOf knd s.heap.objs.size kvs->(∀ c o,c≠z->c≠TO->c≠i1->c≠i2->s.heap.get? c=some o->h'.get? c=some o)->Q (.ref s.heap.objs.size) { s with heap:=h',toks:=t' }) :
  wpAny (model prog w) A (call (.type "dict") [.ref z]) Q E s:=by
 refine callType_codes (Q₁:=fun obj s₁=>obj=.ref s.heap.objs.size/\s₁={ s with heap:=s.heap.push { cls:=.type "dict",data:=.dict #[] } }) F.kt_called_dict (F.kt_typeCall_dict_1 _) F.entry_dict_init (kt_code_dict_new _ ⟨rfl,rfl⟩) ?_;rintro obj s₁ ⟨rfl,rfl⟩;have anew:(s.heap.push { cls:=.type "dict",data:=.dict #[] }).DictOf knd s.heap.objs.size []:=Heap.DictOf.new s.heap;have lt:∀ {c:Addr} {o:Obj},s.heap.get? c=some o->c≠s.heap.objs.size:=fun e=>Md (L6 e);have gz1:IsZip (s.heap.push { cls:=.type "dict",data:=.dict #[] }) z TI TO .none:=LW _ gz;have nz:=lt gz;have nI:=lt Z.ins;have nO:TO≠s.heap.objs.size:=let ⟨_,e⟩:=gO;lt e;have n1:i1≠s.heap.objs.size:=let ⟨_,e,_⟩:=Z.it1;lt e;have n2:i2≠s.heap.objs.size:=let ⟨_,e,_⟩:=Z.it2;lt e;have n3:l1≠s.heap.objs.size:=let ⟨_,e,_⟩:=Z.ls1;lt e;have n4:l2≠s.heap.objs.size:=let ⟨_,e,_⟩:=Z.ls2;lt e;refine ⟨anew.typeIs,F.args_dict_init_2 _ _,?_⟩;unfold OE.«dict.__init__»;refine LQ ?_;unfold Builtin.Dict.selfAndRest;refine LQ (wpAny_notOrdered_dict anew.typeIs ?_);show wpAny _ _ (pure (s.heap.objs.size,[Mt z])) _ _ _;refine L4 ?_;show wpAny _ _ (RI "dict.__init__" s.heap.objs.size (.ref z) [] .none) _ _ _;unfold RI;refine LQ (Q3 (T:="zip") ⟨_,gz1,rfl⟩ ?_);rw [if_pos (by decide)]
 refine LQ (Aa gz1 (by simpa using hh) fun h1 t1 k1=>?_)
 rw [if_pos (show (none:Option Value).isNone=true from rfl)];refine LQ (Tv ?_);refine LQ (RZ (k1 _ _ gz1) ?_);have up:∀ c o,s.heap.get? c=some o->h1.get? c=some o:=fun c o e=>k1 c o (LW _ e);have anew1:h1.DictOf knd s.heap.objs.size []:=by
  obtain ⟨o,es,ep,ho,rest⟩:=anew;exact ⟨o,es,ep,k1 _ _ ho,rest⟩
 have Z1:j8 h1 z TI TO i1 i2 l1 l2 0 xs ys:=Z.keep nz nI nO n1 n2 n3 n4 (fun c o _ e=>up c o e) (let ⟨o,_,_,ho,_⟩:=anew1;⟨o,ho⟩);refine L4 ⟨OM nv _,Ij (by simpa using hh) D nz nI nO n1 n2 n3 n4 hl hz hkv kvs.length 0 0 _ rfl (MI _) Z1 anew1 fun h' t' hd' hk'=>?_⟩
 rw [merged_nil_of_nodup kvs nd] at hd';exact ⟨rfl,h h' t' hd' fun c o c1 c2 c3 c4 e=>hk' c o (lt e) c1 c2 c3 c4 (up c o e)⟩
end
end PySem
namespace L2
open PySem PySem.Spec PyProof.Rows
def EB:∀ {ks:List Key} {ys:List V} {us:List Value},Vals ys us->KV (ks.zip ys) (ks.zip us)
 | [],_,_,_=>by
  rw [List.zip_nil_left,List.zip_nil_left];exact Paired.nil
 | _ :: _,_,_,.nil=>Paired.nil
 | _ :: _,_,_,.cons r rr=>Paired.cons ⟨rfl,r⟩ (EB rr)
def y9 (K:LO) (vs:List V) (H:Hp) (Q:VK):Prop:=∃ (a b:Addr) (ks:List Key) (ys:List V),vs=[.ref a,.ref b]/\SqL K H a (ks.map kV)/\SqL K H b ys/\ks.length=ys.length/\ks.Nodup/\∀ d,H d=none->Q (.ref d) (upd H d (.dK (ks.zip ys)))
def zX (K:LO) (ta:TA):TE:=fun σ H Q=>ta σ H fun vs H1=>y9 K vs H1 Q
def la {K:LO} {ta:TA} {σ:St} {H:Hp} {Q:VK} (h:ta σ H fun vs H1=>y9 K vs H1 Q):zX K ta σ H Q:=h
def kg {X:Cx} (K:LO) (hK:X.K=K) (hc:X.calm=true) {a b:Expr} {ta:TA} {p p2 pos pos2:Pos} (hg1:Gl X "dict") (hm1:X.mg "dict" = none) (hg2:Gl X "zip") (hm2:X.mg "zip" = none) (ha:PA X [a,b] ta) (hn:isStar a=false:=by rfl) (hn2:isStar b=false:=by rfl) :
  PE X (.Call (.Name "dict" p) [.Call (.Name "zip" p2) [a,b] [] pos2] [] pos) (zX K ta):=by
 subst hK;intro pins s σ H Q I h;refine Call_ (iQ I hg1 hm1 PyProof.Rows.boot_dict (Nu ?_ (bz rfl) (cz rfl)));rw [bz rfl];show wpAny _ _ (spliced ((false,eval (.Call (.Name "zip" p2) [a,b] [] pos2) X.env) :: backTo pos (MS [] X.env))) _ _ s;refine Calls.spliced_cons ?_;refine Call_ (iQ I hg2 hm2 boot_zip (Nu (thn (ha pos2 pins s σ H _ I h) fun us s1 ⟨vs,H1,I1,r1,q1⟩=>?_) (bz hn) (cz (by simp [hn2]))))
 obtain ⟨l,l',ks,ys,e,hS,hS2,hlen,hnd,q⟩:=q1;subst e;cases r1 with
 | cons r rr =>
  cases rr with
  | cons r2 rr2 =>
   cases rr2;cases (show _=Mt l from r);cases (show _=Mt l' from r2);obtain ⟨its,rv,pl,hz1⟩:=I1.list hS;obtain ⟨its2,rv2,pl2,hz2⟩:=I1.list hS2;have e1:=rv.length;have e2:=rv2.length;rw [LX] at e1 hz1;have zl:(ks.zip its2).length=ks.length:=by rw [QM];omega
   have zv:(ks.zip ys).length=ks.length:=by rw [QM];omega
   have lt1:l<s1.heap.objs.size:=by obtain ⟨_,z,_⟩:=pl.isList;exact L6 z
   have lt2:l' < s1.heap.objs.size:=by obtain ⟨_,z,_⟩:=pl2.isList;exact L6 z
   refine call_zip_2 pl.isList pl2.isList fun h' gz gI gO g1 g2 gs hk=>?_;refine Calls.spliced_nil ?_;refine wY (knd:=cG X.prog X.w) (kvs:=ks.zip its2) (s:={ s1 with heap:=h' }) (I.ok.hd hc) (vH _ _ _ lt1 lt2) gz ⟨.inl ⟨gz,_,_,gO⟩,gI,g1,g2,pl.isList.at fun o e=>hk _ o e,pl2.isList.at fun o e=>hk _ o e⟩ (by rw [zl];simpa using e1) (by rw [zl];exact hz1) (fun i k v e=>?_) ?_ ⟨_,gO⟩ fun h2 t2 hd hk2=>?_
   ·obtain ⟨z1,z2⟩:=Ra.mp e;obtain ⟨u,hu,ru⟩:=rv.get (show (ks.map kV)[i]?=some (kV k) by rw [Mp,z1];rfl)
    exact ⟨u,by simpa using hu,qu ru,by simpa using z2⟩
   ·rw [List.map_fst_zip (by omega)]
    exact hnd
   ·have gs':h'.objs.size=s1.heap.objs.size+5:=gs;have hp:s1.heap.objs.size<=h'.objs.size:=by rw [gs'];exact PQ _ _
    refine ⟨.ref h'.objs.size,upd H1 h'.objs.size (.dK (ks.zip ys)),I1.laid (a:=h'.objs.size) (o:=.dK (ks.zip ys)) (fun b o e=>?_) hp (yd (by rw [zv];exact hz1) (beq_eq_false_iff_ne.mpr (NJ (Md (Mn I1.big hp)))) (EB rv2) hd),rfl,q _ (I1.hok.fresh hp)⟩
    have lb:=L6 e;exact hk2 b o (Md (Mn lb (PQ _ _))) (Md (Mn lb (PQ _ _))) (Md lb) (Md (Mn lb (PQ _ _))) (hk b o e)
def d9 (R M:List Nat):List (Key×V):=(R.map nk).zip (aO M)
def g0:∀ {F M:List Nat} {j f c:Nat},F.Nodup->F[j]?=some f->M[j]?=some c->cQ (d9 F M) (nk f)=some (.int (c:Int))
 | [],_,_,_,_,_,h,_=>by simp at h
 | _ :: _,[],_,_,_,_,_,h=>by simp at h
 | a :: F,q :: M,0,f,c,_,h1,h2=>by
  cases h1;cases h2;exact kS rfl
 | a :: F,q :: M,j+1,f,c,nd,h1,h2=>by
  have h1':F[j]?=some f:=h1;have h2':M[j]?=some c:=h2;obtain ⟨n1,n2⟩:=MY.mp nd;have h3:¬ nk a=nk f:=fun z=>n1 (by rw [mG z];exact LS h1')
  show cQ ((nk a,V.int (q:Int)) :: d9 F M) (nk f)=_;rw [jh h3];exact g0 n2 h1' h2'
def yc:∀ {R:List Nat},R.Nodup->(R.map nk).Nodup
 | [],_=>Qt
 | a :: R,h=>by
  obtain ⟨h1,h2⟩:=MY.mp h;refine MY.mpr ⟨fun z=>?_,yc h2⟩;obtain ⟨b,hb,e⟩:=Mm.mp z;exact h1 (by rw [<- mG e];exact hb)
def IP (R:List Nat):(R.map nk).map kV=aO R:=by
 unfold aO;rw [Ox];rfl
def Cn {K:LO} {H:Hp} {Q:VK} {x y:V} {R M:List Nat} (hR:At K H x R) (hM:At K H y M) (e:R.length=M.length) (nd:R.Nodup) (q:∀ d,H d=none->Q (.ref d) (upd H d (.dK (d9 R M)))):y9 K [x,y] H Q:=by
 obtain ⟨p,rfl,h1⟩:=i4 hR;obtain ⟨p2,rfl,h2⟩:=i4 hM;exact ⟨p,p2,R.map nk,aO M,rfl,by rw [IP];exact h1,h2,by unfold aO;rw [LX,LX];exact e,yc nd,q⟩
section
variable {X:Cx} {k:Nat} {f:Addr} {Cs:Addr->Prop} {fd:Na} {ps:List Str} {sp:Sp} {m:Str} {pos apos:Pos} {e o:Expr} {es:List Expr} {ta:TE} {t:TA}
end
section
variable {X:Cx}
end
end L2
namespace L2
open PySem
def rD {xs:Array Nat} {j:Nat} (hs:xs.toList.Pairwise (· < ·)):∀ (fuel lo hi:Nat),hi - lo<=fuel->lo<=hi->hi<=xs.size->(∀ (i y:Nat),i<lo->xs[i]?=some y->y<j)->(∀ (i y:Nat),hi<=i->xs[i]?=some y->j<=y) ->
  Ql xs j fuel lo hi<=xs.size/\(∀ (i y:Nat),i<Ql xs j fuel lo hi->xs[i]?=some y->y<j)/\∀ (i y:Nat),Ql xs j fuel lo hi<=i->xs[i]?=some y->j<=y
 | 0,lo,hi,h1,h2,h3,h4,h5=>by
  have e:lo=hi:=by omega
  subst e;exact ⟨h3,h4,h5⟩
 | fuel+1,lo,hi,h1,h2,h3,h4,h5=>by
  unfold Ql
  by_cases c:lo<hi
  ·rw [if_pos c];have hm:(lo+hi) / 2<xs.size:=by omega
   have get:=MD hm;have mono:∀ (a b x y:Nat),a<b->xs[a]?=some x->xs[b]?=some y->x<y:=fun a b x y hab ha hb=>by
    rw [<- MZ] at ha hb;obtain ⟨ha1,rfl⟩:=LR.mp ha;obtain ⟨hb1,rfl⟩:=LR.mp hb;exact Mx.mp hs a b ha1 hb1 hab
   dsimp only;have gd:xs.getD ((lo+hi) / 2) j=xs[(lo+hi) / 2]:=by simp [Array.getD,hm]
   rw [gd]
   by_cases d:xs[(lo+hi) / 2]<j
   ·rw [if_pos d];refine rD hs fuel _ _ (by omega) (by omega) h3 (fun i y hi' hy=>?_) h5
    rcases Mv i ((lo+hi) / 2) with z|z
    ·exact TM (mono _ _ _ _ z hy get) d
    ·have:i=(lo+hi) / 2:=by omega
     subst this;rw [get] at hy;cases hy;exact d
   ·rw [if_neg d];refine rD hs fuel _ _ (by omega) (by omega) (by omega) h4 fun i y hi' hy=>?_
    rcases Mv ((lo+hi) / 2) i with z|z
    ·exact M7 (RY d) (Ou (mono _ _ _ _ z get hy))
    ·have:i=(lo+hi) / 2:=by omega
     subst this;rw [get] at hy;cases hy;exact RY d
  ·rw [if_neg c];have e:lo=hi:=by omega
   subst e;exact ⟨h3,h4,h5⟩
def sC {xs:Array Nat} (hs:xs.toList.Pairwise (· < ·)) (j:Nat):MW xs j<=xs.size/\(∀ (i y:Nat),i<MW xs j->xs[i]?=some y->y<j)/\∀ (i y:Nat),MW xs j<=i->xs[i]?=some y->j<=y :=
 rD hs _ _ _ (by omega) (MI _) (Mb _) (fun i y h=>absurd h (Su _)) fun i y h hy=>by
  have:=(NI.mp hy).1;omega
def GP {xs:Array Nat} (hs:xs.toList.Pairwise (· < ·)) {j:Nat} (hj:j∉xs.toList):(OV xs (MW xs j) j).toList.Pairwise (· < ·):=by
 obtain ⟨h1,h2,h3⟩:=sC hs j;rw [OW];have a:∀ y∈xs.toList.take (MW xs j),y<j:=fun y hy=>by
  obtain ⟨i,hi⟩:=Ms hy;have hlt:i<MW xs j:=by
   have:=(LR.mp hi).1;rw [MF] at this;omega
  rw [NA hlt,MZ] at hi;exact h2 i y hlt hi
 have b:∀ y∈xs.toList.drop (MW xs j),j<y:=fun y hy=>by
  obtain ⟨i,hi⟩:=Ms hy;rw [List.getElem?_drop,MZ] at hi;have c:=h3 _ y (PQ _ i) hi;have:y≠j:=fun e=>hj (by rw [<- e];exact Px hy)
  omega
 rw [List.pairwise_append];refine ⟨hs.sublist (List.take_sublist _ _),?_,fun x hx y hy=>?_⟩
 ·rw [Pa];exact ⟨b,hs.sublist (List.drop_sublist _ _)⟩
 ·rcases Mq.mp hy with rfl|hy
  ·exact a x hx
  ·exact TM (a x hx) (b y hy)
def Ca {t:N1} (hs:t.place.toList.Pairwise (· < ·)) (hd:t.dummies=#[]) {j:Nat} (hj:j∉t.place.toList):t.slot j=.empty:=by
 unfold SetTable.slot;have:(t.place[MW t.place j]? == some j)=false:=by
  rw [beq_eq_false_iff_ne];intro e;rw [<- MZ] at e;exact hj (LS e)
 rw [hd];simp only [this];rfl
def El {t u:N1} (hm:t.mask=u.mask) (hp:t.place=u.place) (hd:t.dummies=u.dummies) (h:Int):t.freeSlot h=u.freeSlot h:=by
 have hs:∀ j,t.slot j=u.slot j:=fun j=>by unfold SetTable.slot;rw [hp,hd]
 have ha:∀ p,t.advance p=u.advance p:=fun p=>by unfold SetTable.advance;rw [hm]
 have go:∀ (f:Nat) (p:SetTable.Probe),Qm t (fun _=>h+1) h f p=Qm u (fun _=>h+1) h f p:=fun f=>by
  induction f with
  | zero=>intro p;rfl
  | succ f ih =>
   intro p;unfold Qm;rw [hs,ha,ih];simp only [ha,ih]
 unfold SetTable.freeSlot T8 S9;rw [hm,go]
def subs:Nat->Nat->List (List Nat)
 | 0,_=>[[]]
 | n+1,k=>subs n (k+1)++(subs n (k+1)).map (k :: ·)
def mP:∀ (n k:Nat) (l:List Nat),l.Pairwise (· < ·)->(∀ x∈l,k<=x/\x<k+n)->l∈subs n k
 | 0,k,[],_,_=>by unfold subs;simp
 | 0,k,x :: l,_,h=>by have:=h x L9;omega
 | n+1,k,l,hp,h=>by
  unfold subs;rw [Mc];cases l with
  | nil=>exact .inl (mP n (k+1) [] hp fun x hx=>by cases hx)
  | cons x l =>
   rw [Pa] at hp;rcases Mv k x with z|z
   ·refine .inl (mP n (k+1) _ (Pa.mpr hp) fun y hy=>?_);have:=h y hy;rcases Mq.mp hy with rfl|hy'
    ·omega
    ·have:=hp.1 y hy';omega
   ·have e:x=k:=by have:=h x L9;omega
    subst e;refine .inr (Mm.mpr ⟨l,mP n (x+1) l hp.2 fun y hy=>?_,rfl⟩);have:=h y (L5 _ hy);have:=hp.1 y hy;omega
def zU (l:List Nat):N1:={ mask:=7,place:=l.toArray,dummies:=#[],finger:=0,led:=true,moves:=0,plain:=true }
def D2 (l:List Nat) (h:Nat):Bool:=match (zU l).freeSlot (h:Int) with
 | some (j,false)=>decide (j<8) && !(l.contains j)
 | _=>false
def Hz:(subs 8 0).all (fun l=>decide (4<l.length) || (LY 23).all (D2 l))=true:=by trivial
def Lk {t:N1} (hm:t.mask=7) (hd:t.dummies=#[]) (hs:t.place.toList.Pairwise (· < ·)) (h8:∀ x∈t.place.toList,x<8) (h4:t.place.size<=4) {h:Nat} (h23:h<23):∃ j,t.freeSlot (h:Int)=some (j,false)/\j<8/\j∉t.place.toList:=by
 have m:=mP 8 0 _ hs fun x hx=>⟨MI _,by have:=h8 x hx;omega⟩
 have a:=MA.mp Hz _ m;rw [Bool.or_eq_true] at a;rcases a with a|a
 ·have:=of_decide_eq_true a;rw [MC] at this;omega
 ·have b:=MA.mp a h (Ma.mpr h23);unfold D2 at b;rw [<- El (t:=t) (u:=zU t.place.toList) hm (by unfold zU;simp) hd] at b
  split at b
  ·rename_i j e
   rw [NU] at b;refine ⟨j,e,of_decide_eq_true b.1,fun z=>?_⟩;have:=b.2;rw [Pp] at this;rw [List.contains_eq_mem,decide_eq_false_iff_not] at this;exact this z
  ·cases b
def xV {h:Nat} (h23:h<23):P9 (h:Int)=h:=by
 unfold P9;have h64:(23:Int)<=2 ^ 64:=by decide
 rw [Int.emod_eq_of_lt (by omega) (by omega)]
 rfl
def Jk {t:N1} (hm:23<=t.mask+1) (hd:t.dummies=#[]) (hs:t.place.toList.Pairwise (· < ·)) {h:Nat} (h23:h<23) (hh:h∉t.place.toList):t.freeSlot (h:Int)=some (h,false):=by
 have e:=Ca hs hd hh;unfold SetTable.freeSlot T8 S9;rw [xV h23,MH (show h<t.mask+1 by omega)]
 have f:10 * Qv t.mask=(10 * t.mask+149)+1:=by unfold Qv;omega
 rw [f];unfold Qm;dsimp only;rw [e];rfl
def GY {mask:Nat} {owner:Array (Option Nat)} {h:Nat} (hz:owner.size=mask+1) (hm:h<mask+1) (ho:owner.getD h none=none) (f p:Nat):O8 mask owner (f+1) h p=some h:=by
 unfold O8;have e1:owner.getD h (some 0)=none:=by
  have hl:h<owner.size:=by omega
  simp only [Array.getD,hl,dite_true] at ho ⊢;exact ho
 have e2:∃ k,Sv mask h+1 - h=k+1:=⟨Sv mask h - h,by unfold Sv;split <;> omega⟩
 obtain ⟨k,e2⟩:=e2;rw [e2,List.range_succ_eq_map,OU];simp only [Of,e1,Option.isNone_none]
def at? (l:List Nat) (j:Nat):Option Nat:=if j∈l then some (l.idxOf j) else none
def uw (mask:Nat) (acc:Option (Array (Option Nat)×Nat)) (h:Int):Option (Array (Option Nat)×Nat):=do
 let (owner,k) <- acc
 let j <- O8 mask owner (Qv mask) (P9 h % (mask+1)) (P9 h)
 pure (owner.setIfInBounds j (some k),k+1)
def BB {mask:Nat}:∀ (ks done:List Nat) (owner:Array (Option Nat)),owner.size=mask+1->(∀ k∈ks,k<23)->23<=mask+1->(done++ks).Nodup->(∀ j,j<mask+1->owner.getD j none=at? done j) ->
  ∃ owner',(ks.map fun (k:Nat)=>(k:Int)).foldl (uw mask) (some (owner,done.length))=some (owner',(done++ks).length)/\owner'.size=mask+1/\∀ j,j<mask+1->owner'.getD j none=at? (done++ks) j
 | [],done,owner,hz,_,_,_,ho=>⟨owner,by simp,hz,by simpa using ho⟩
 | k :: ks,done,owner,hz,hk,hm,nd,ho=>by
  have k23:=hk k L9;have kd:k∉done:=fun z=>by
   rw [Ro] at nd;exact nd.2.2 k z k L9 rfl
  have o1:owner.getD k none=none:=by rw [ho k (by omega)];unfold at?;rw [if_neg kd]
  have e:done++k :: ks=(done++[k])++ks:=by simp
  rw [e] at nd ⊢;have:=BB ks (done++[k]) (owner.setIfInBounds k (some done.length)) (by rw [Array.size_setIfInBounds];exact hz) (fun x hx=>hk x (L5 _ hx)) hm nd fun j hj=>by
   rw [N2,Array.getElem?_setIfInBounds]
   by_cases c:k=j
   ·subst c;rw [if_pos rfl,if_pos (by omega)]
    unfold at?;rw [if_pos (by simp),List.idxOf_append,if_neg kd]
    simp
   ·rw [if_neg c,<- N2,ho j hj];unfold at?;have mm:(j∈done++[k])↔j∈done:=by
     rw [Mc,LZ];exact ⟨fun z=>z.elim id fun z=>absurd z.symm c,.inl⟩
    by_cases d:j∈done
    ·rw [if_pos d,if_pos (mm.mpr d),List.idxOf_append,if_pos d]
    ·rw [if_neg d,if_neg fun z=>d (mm.mp z)]
  obtain ⟨owner',w1,w2,w3⟩:=this;refine ⟨owner',?_,w2,w3⟩;rw [Mz,List.foldl_cons];have st:uw mask (some (owner,done.length)) (k:Int)=some (owner.setIfInBounds k (some done.length),done.length+1):=by
   show (O8 mask owner (Qv mask) (P9 (k:Int) % (mask+1)) (P9 (k:Int))).bind _=_;rw [xV k23,MH (show k<mask+1 by omega),show Qv mask=(mask+14)+1 from rfl,GY hz (by omega) o1]
   rfl
  rw [st];rw [Mr] at w1;exact w1
def bY (mask:Nat) (ks:List Nat):List Nat:=(LY (mask+1)).filter fun j=>decide (j∈ks)
def vq {mask:Nat} {ks:List Nat} (h:∀ k∈ks,k<mask+1) {j:Nat}:j∈bY mask ks↔j∈ks:=by
 unfold bY;rw [Nl,Ma,decide_eq_true_iff];exact ⟨fun z=>z.2,fun z=>⟨h j z,z⟩⟩
def sH {mask:Nat} {ks:List Nat} (h:∀ k∈ks,k<mask+1) (nd:ks.Nodup):(bY mask ks).Perm ks :=
 (List.perm_ext_iff_of_nodup (O5.filter _) nd).mpr fun _=>vq h
def zT {α β:Type} {f g:α->Option β}:∀ {l:List α},(∀ x∈l,f x=g x)->l.filterMap f=l.filterMap g
 | [],_=>rfl
 | x :: l,h=>by rw [N7,N7,h x L9,zT fun y hy=>h y (L5 _ hy)]
def GR {mask finger moves:Nat} {led plain:Bool} {ks:List Nat} (h23:∀ k∈ks,k<23) (hm:23<=mask+1) (nd:ks.Nodup) :
  SetTable.laid mask finger moves led plain (ks.map fun (k:Nat)=>(k:Int)).toArray=some ({ mask,place:=(bY mask ks).toArray,dummies:=#[],finger,led,moves,plain },((bY mask ks).map fun j=>ks.idxOf j).toArray):=by
 obtain ⟨owner,h1,h2,h3⟩:=BB ks [] (Array.replicate (mask+1) none) (by simp) h23 hm (by simpa using nd) fun j hj=>by
  unfold at?;simp [N2,hj]
 have lc:Tx mask (ks.map fun (k:Nat)=>(k:Int)).toArray=some owner:=by
  unfold Tx;rw [List.foldl_toArray];have:(ks.map fun (k:Nat)=>(k:Int)).foldl (uw mask) (some (Array.replicate (mask+1) none,0))=some (owner,([]++ks).length):=h1;exact congrArg (Option.map (·.1)) this
 unfold SetTable.laid;rw [lc];have lv:((LY (mask+1)).filterMap fun j=>(owner.getD j none).map (j,·))=(bY mask ks).map fun j=>(j,ks.idxOf j):=by
  unfold bY;rw [<- List.filterMap_eq_map,List.filterMap_filter];refine zT fun j hj=>?_;rw [h3 j (Ma.mp hj)];unfold at?;simp only [List.nil_append,decide_eq_true_eq]
  by_cases d:j∈ks
  ·rw [if_pos d,if_pos d];rfl
  ·rw [if_neg d,if_neg d];rfl
 show some _=some _;rw [lv,Ox,Ox]
 congr 2
 simp [Function.comp_def]
structure Good (led:Bool) (es:Array (Int×Value)) (t:N1) (ks:List Nat):Prop where
 plain:t.plain=true
 led:t.led=led
 dum:t.dummies=#[]
 size:t.place.size=es.size
 rise:t.place.toList.Pairwise (· < ·)
 keys:es.toList.map (·.1)=ks.map fun (k:Nat)=>(k:Int)
 nd:ks.Nodup
 lt:∀ k∈ks,k<23
 st:(t.mask=7/\es.size<=4/\∀ j∈t.place.toList,j<8)\/((t.mask=31/\es.size<=18\/t.mask=127)/\t.place.toList=ks)
def Good.len {led:Bool} {es:Array (Int×Value)} {t:N1} {ks:List Nat} (g:Good led es t ks):es.size=ks.length:=by
 have:=congrArg QJ g.keys;rw [LX,LX,MC] at this;exact this
def ke {ks:List Nat} (nd:ks.Nodup) (h:∀ k∈ks,k<23):ks.length<=23:=by
 have e:=(sH (mask:=22) h nd).length_eq;have:(bY 22 ks).length<=23:=by
  unfold bY;exact M7 (Og _ _) (by simp)
 omega
def AW {es:Array (Int×Value)} {ks:List Nat} (h:es.toList.map (·.1)=ks.map fun (k:Nat)=>(k:Int)) (p k:Nat) (x:Value):(OV es p ((k:Int),x)).toList.map (·.1)=(ks.take p++k :: ks.drop p).map fun (k:Nat)=>(k:Int):=by
 rw [OW,M8,Mz,Tr,Ts,h,M8,Mz,Tr,Ts]
def Aq {ks:List Nat} (p k:Nat):(ks.take p++k :: ks.drop p).Perm (k :: ks):=by
 have:=R3 (a:=k) (l₁:=ks.take p) (l₂:=ks.drop p);rw [Pe] at this;exact this
def Jc {ks:List Nat} (nd:ks.Nodup):ks.map (fun j=>ks.idxOf j)=LY ks.length:=by
 refine OA fun i=>?_;rw [Mp];rcases Mv i ks.length with h|h
 ·rw [LP h,PV h];show some (ks.idxOf ks[i])=_;rw [nd.idxOf_getElem i h]
 ·rw [MM h,MM (by rw [Nj];exact h)]
  rfl
def t5 {led:Bool} {es:Array (Int×Value)} {t:N1} {ks:List Nat} {wanted M:Nat} (hp:t.plain=true) (hl:t.led=led) (hk:es.toList.map (·.1)=ks.map fun (k:Nat)=>(k:Int)) (nd:ks.Nodup) (lt:∀ k∈ks,k<23)
  (hM:SetTable.sizeAbove wanted - 1=M) (h2:M=31/\es.size<=18\/M=127):∃ es2 t2 ks2,relayAll t es wanted=(es2,t2,false)/\Good led es2 t2 ks2/\ks2.Perm ks:=by
 have n23:=ke nd lt;have m23:23<=M+1:=by omega
 have lt':∀ k∈ks,k<M+1:=fun k hk=>by have:=lt k hk;omega
 have pm:=sH lt' nd;have el:es.size=ks.length:=by
  have:=congrArg QJ hk;rw [LX,LX,MC] at this;exact this
 have ea:es.map (·.1)=(ks.map fun (k:Nat)=>(k:Int)).toArray:=by
  rw [<- hk];apply R4.mp;simp
 have nk:∀ (i:Nat) (e:Int×Value),es[i]?=some e->∃ k,ks[i]?=some k/\e.1=(k:Int):=fun i e he=>by
  have:=congrArg (fun l=>l[i]?) hk;rw [Mp,Mp,MZ,he] at this;cases q:ks[i]? with
  | none=>rw [q] at this;cases this
  | some k=>rw [q] at this;exact ⟨k,rfl,ME this⟩
 have key:∀ (l:List Nat),(∀ j∈l,j∈ks)->((l.map fun j=>ks.idxOf j).filterMap (es[·]?)).map (·.1)=l.map fun (k:Nat)=>(k:Int):=fun l=>by
  induction l with
  | nil=>intro _;rfl
  | cons j l ih =>
   intro h;have hj:=h j L9;have il:ks.idxOf j<es.size:=by rw [el];exact M1 hj
   have he:=MD il;obtain ⟨k,hk1,hk2⟩:=nk _ _ he;have:k=j:=by
    rw [LP (M1 hj),Q0] at hk1;exact (ME hk1).symm
   subst this;rw [Mz,N7,he];show _ :: _=_ :: _;dsimp only;rw [hk2,ih fun x hx=>h x (L5 _ hx)]
 have k2:=key (bY M ks) fun j hj=>(vq lt').mp hj;have l2:((((bY M ks).map fun j=>ks.idxOf j).toArray).filterMap (es[·]?)).toList=(((bY M ks).map fun j=>ks.idxOf j).filterMap (es[·]?)):=by simp
 have z2:((((bY M ks).map fun j=>ks.idxOf j).toArray).filterMap (es[·]?)).size=(bY M ks).length:=by
  rw [<- MC,l2];have:=congrArg QJ k2
  rwa [LX,LX] at this
 have c1:coversAll ((bY M ks).map fun j=>ks.idxOf j).toArray es.size=true:=by
  unfold coversAll;rw [List.isPerm_iff,el,<- Jc nd];exact pm.map _
 refine ⟨(((bY M ks).map fun j=>ks.idxOf j).toArray).filterMap (es[·]?),{ mask:=M,place:=(bY M ks).toArray,dummies:=#[],finger:=t.finger,led:=t.led,moves:=t.movedTo M,plain:=t.plain },bY M ks,?_,⟨hp,hl,rfl,?_,?_,?_,?_,?_,?_⟩,pm⟩
 ·unfold relayAll SetTable.relaid;rw [hM,ea,GR lt m23 nd];dsimp only;rw [c1];have f:QI { mask:=M,place:=(bY M ks).toArray,dummies:=#[],finger:=t.finger,led:=t.led,moves:=t.movedTo M,plain:=t.plain } ((((bY M ks).map fun j=>ks.idxOf j).toArray).filterMap (es[·]?)).size=true:=by
   unfold QI RJ;have:=pm.length_eq;rw [z2];simp;omega
  rw [f];rfl
 ·show (bY M ks).toArray.size=_;rw [z2];simp
 ·show (bY M ks).toArray.toList.Pairwise (· < ·);exact QE _ O9
 ·rw [l2];exact k2
 ·exact pm.nodup_iff.mpr nd
 ·exact fun k hk=>lt k (pm.mem_iff.mp hk)
 ·refine .inr ⟨?_,rfl⟩;rw [z2,pm.length_eq,<- el];exact h2
def Good.fresh (led:Bool):Good led #[] (.fresh 0 0 led) []:=⟨rfl,rfl,rfl,rfl,List.Pairwise.nil,rfl,Qt,(fun k hk=>by cases hk),.inl ⟨rfl,MI _,fun j hj=>by cases hj⟩⟩
def q9 {α:Type} (xs:Array α) (p:Nat) (x:α):(OV xs p x).size=xs.size+1:=by
 have:=(SetTable.insertAt_perm xs p x).length_eq;rw [MC,MC,Array.size_push] at this;exact this
def Good.add {led:Bool} {es:Array (Int×Value)} {t:N1} {ks:List Nat} (g:Good led es t ks) {k:Nat} (hk:k<23) (hn:k∉ks) (x:Value) :
  ∃ es1 t1,layNew t es (k:Int) x=(es1,t1,false,false)/\t1.plain=true/\((t1.tooFull=false/\∃ ks1,Good led es1 t1 ks1/\ks1.Perm (k :: ks))\/(t1.tooFull=true/\∃ es2 t2 ks2,relayAll t1 es1 (Rb es1.size)=(es2,t2,false)/\Good led es2 t2 ks2/\ks2.Perm (k :: ks))):=by
 have el:=g.len;have nd1:(k :: ks).Nodup:=MY.mpr ⟨hn,g.nd⟩;have lt1:∀ y∈k :: ks,y<23:=fun y hy=>by
  rcases Mq.mp hy with rfl|hy
  ·exact hk
  ·exact g.lt y hy
 have l23:=ke nd1 lt1;rw [MO] at l23;obtain ⟨j,hf,hj,hb⟩:∃ j,t.freeSlot (k:Int)=some (j,false)/\j∉t.place.toList/\((t.mask=7/\es.size<=4/\(∀ y∈t.place.toList,y<8)/\j<8)\/((t.mask=31/\es.size<=18\/t.mask=127)/\t.place.toList=ks/\j=k)):=by
  rcases g.st with ⟨h1,h2,h3⟩|⟨h1,h2⟩
  ·obtain ⟨j,a,b,c⟩:=Lk h1 g.dum g.rise h3 (by rw [g.size];exact h2) hk
   exact ⟨j,a,c,.inl ⟨h1,h2,h3,b⟩⟩
  ·have kp:k∉t.place.toList:=by rw [h2];exact hn
   exact ⟨k,Jk (by omega) g.dum g.rise hk kp,kp,.inr ⟨h1,h2,rfl⟩⟩
 have hput:t.put j=({ t with place:=OV t.place (MW t.place j) j,dummies:=#[] },MW t.place j):=by
  unfold SetTable.put;rw [g.dum];rfl
 have rise1:=GP g.rise hj;have z1:=q9 t.place (MW t.place j) j;have z2:=q9 es (MW t.place j) ((k:Int),x);have keys1:=AW g.keys (MW t.place j) k x;have pm:=Aq (ks:=ks) (MW t.place j) k;generalize hP:OV t.place (MW t.place j) j=pl at hput rise1 z1;generalize hE:OV es (MW t.place j) ((k:Int),x)=es1 at z2 keys1;have fits:QI { t with place:=pl,dummies:=#[] } es1.size=true:=by
  unfold QI RJ;rw [NU];refine ⟨by simp [z1,z2,g.size],decide_eq_true ?_⟩
  show pl.size+0<=t.mask;rw [z1,g.size];omega
 have nd2:=pm.nodup_iff.mpr nd1;have lt2:∀ y∈ks.take (MW t.place j)++k :: ks.drop (MW t.place j),y<23:=fun y hy=>lt1 y (pm.mem_iff.mp hy);refine ⟨es1,{ t with place:=pl,dummies:=#[] },?_,g.plain,?_⟩
 ·unfold layNew;rw [hf];dsimp only;rw [hput];dsimp only;rw [hE];unfold SetTable.orStandIn;rw [fits];rfl
 ·have tf:SetTable.tooFull { t with place:=pl,dummies:=#[] }=decide ((es.size+1) * 5 >= t.mask * 3):=by
   unfold SetTable.tooFull RJ;show decide ((pl.size+0) * 5 >= t.mask * 3)=_;rw [z1,g.size]
  rw [tf]
  by_cases c:(es.size+1) * 5 >= t.mask * 3
  ·refine .inr ⟨decide_eq_true c,?_⟩;rcases hb with ⟨b1,b2,b3,b4⟩|⟨b1,b2,b3⟩
   ·have e5:es1.size=5:=by omega
    obtain ⟨es2,t2,ks2,w1,w2,w3⟩:=t5 (led:=led) (t:={ t with place:=pl,dummies:=#[] }) (wanted:=Rb es1.size) (M:=31) g.plain g.led keys1 nd2 lt2 (by rw [e5];decide) (.inl ⟨rfl,by omega⟩)
    exact ⟨es2,t2,ks2,w1,w2,w3.trans pm⟩
   ·rcases b1 with ⟨b1,b4⟩|b1
    ·have e5:es1.size=19:=by omega
     obtain ⟨es2,t2,ks2,w1,w2,w3⟩:=t5 (led:=led) (t:={ t with place:=pl,dummies:=#[] }) (wanted:=Rb es1.size) (M:=127) g.plain g.led keys1 nd2 lt2 (by rw [e5];decide) (.inr rfl)
     exact ⟨es2,t2,ks2,w1,w2,w3.trans pm⟩
    ·omega
  ·refine .inl ⟨decide_eq_false c,_,⟨g.plain,g.led,rfl,?_,rise1,keys1,nd2,lt2,?_⟩,pm⟩
   ·show pl.size=_;rw [z1,z2,g.size]
   ·rcases hb with ⟨b1,b2,b3,b4⟩|⟨b1,b2,b3⟩
    ·refine .inl ⟨b1,by omega,fun y hy=>?_⟩
     rw [<- hP,OW] at hy;have hy':y∈t.place.toList\/y=j:=by
      rcases Mc.mp hy with z|z
      ·exact .inl (Py z)
      ·rcases Mq.mp z with z|z
       ·exact .inr z
       ·exact .inl (Px z)
     rcases hy' with z|rfl
     ·exact b3 y z
     ·exact b4
    ·refine .inr ⟨?_,?_⟩
     ·show t.mask=31/\es1.size<=18\/t.mask=127;rcases b1 with ⟨b1,b4⟩|b1
      ·exact .inl ⟨b1,by omega⟩
      ·exact .inr b1
     ·show pl.toList=_;rw [<- hP,OW,b2,b3]
end L2
namespace L2
open PySem PySem.Spec PyProof.Rows
def bh (w:World):Bool:=w.params.followText "set-order"
def zA {k:Nat} (h:k<23):hashInt (k:Int)=(k:Int):=by
 have:∀ i:_root_.Fin 23,hashInt ((i.val:Nat):Int)=((i.val:Nat):Int):=by trivial
 exact this ⟨k,h⟩
def Nums (es:Array (Int×Value)):Prop:=∀ e∈es.toList,∃ (k:Nat) (tk:Tok),k<23/\e=((k:Int),Ol (k:Int) tk)
def Nums.elems {prog:Mi} {w:World} {es:Array (Int×Value)} (h:Nums es):ElemsOf (intKind prog w) es.toList:=fun e he=>by
 obtain ⟨k,tk,hk,rfl⟩:=h e he;exact ⟨⟨(k:Int),SR _ _ _ _,(zA hk).symm⟩,rfl⟩
def Nums.perm {es es':Array (Int×Value)} (h:Nums es) (p:es'.toList.Perm es.toList):Nums es':=fun e he=>h e (p.mem_iff.mp he)
def Good.fits {led:Bool} {es:Array (Int×Value)} {t:N1} {ks:List Nat} (g:Good led es t ks):t.fits es.size=true:=by
 unfold QI RJ;have l:=g.len;have n:=ke g.nd g.lt;have z:=g.size;rw [g.dum,NU];refine ⟨by simp [z],decide_eq_true ?_⟩
 show t.place.size+0<=t.mask;rcases g.st with ⟨h1,h2,_⟩|⟨h1,_⟩ <;> omega
def eT (h:Heap) (a:Addr) (led:Bool) (ks:List Nat):Prop:=∃ o es ep t,h.get? a=some o/\o.ExactSet/\o.data=.set es ep t/\Nums es/\Good led es t ks
section
variable {prog:Mi} {w:World} {A:MQ} {E:Value->LV->Prop} {s:LV}
def GQ {a:Addr} {led:Bool} {ks:List Nat} {k:Nat} {tk:Tok} {Q:Bool->LV->Prop} (hk:k<23) (hS:eT s.heap a led ks)
  (h:∀ b h' ks',O1 a s.heap h'->eT h' a led ks'->(∀ x,x∈ks'↔x∈ks\/x=k)->Q b { s with heap:=h' }) :
  wpAny (model prog w) A (setAddHashed a (.int (k:Int) tk) (hashInt (k:Int))) Q E s:=by
 obtain ⟨o,es,ep,t,ho,hex,hd,hnum,g⟩:=hS;have l:=g.len;have n:=ke g.nd g.lt;have hb:es.size<scanBound:=by show es.size<4096;omega
 have hel:=hnum.elems (prog:=prog) (w:=w);have hmem:∀ j,j∈ks↔∃ e∈es.toList,(intKind prog w).is (j:Int) e.2=true:=fun j=>by
  have kk:=g.keys;constructor
  ·intro hj;have:(j:Int)∈es.toList.map (·.1):=by rw [kk];exact Mm.mpr ⟨j,hj,rfl⟩
   obtain ⟨e,he,e1⟩:=Mm.mp this;obtain ⟨k',tk',_,rfl⟩:=hnum e he;refine ⟨_,he,?_⟩;dsimp only at e1 ⊢;rw [e1];exact SR _ _ _ _
  ·rintro ⟨e,he,q⟩;obtain ⟨k',tk',_,rfl⟩:=hnum e he;have e2:(j:Int)=(k':Int):=(intKind prog w).inj _ _ _ q (SR _ _ _ _);have:(j:Int)∈ks.map fun (k:Nat)=>(k:Int):=by rw [<- kk,e2];exact Mm.mpr ⟨_,he,rfl⟩
   obtain ⟨j',hj',e3⟩:=Mm.mp this;have:j'=j:=by omega
   exact this ▸ hj'
 unfold setAddHashed setAddHashedIn;refine M4 (LQ (OX ho hd g.fits ?_));dsimp only;rw [byScan_of rfl hb hel,if_pos rfl];unfold setAddByScan;refine LQ (LQ (Tv (LQ (wpAny_setScan_of (knd:=intKind prog w) (SR _ _ _ _) ho hd g.fits hel ?_))));cases hr:List.findIdx? (fun e=>(intKind prog w).is (k:Int) e.2) es.toList with
 | some j =>
  obtain ⟨hj,q,_⟩:=List.findIdx?_eq_some_iff_getElem.mp hr;have hin:k∈ks:=(hmem k).mpr ⟨_,Nt hj,q⟩;dsimp only;refine L4 (L4 ?_);exact h false s.heap ks (Heap.SameBut.refl a s.heap) ⟨o,es,ep,t,ho,hex,hd,hnum,g⟩ fun x=>⟨.inl,fun z=>z.elim id fun z=>z ▸ hin⟩
 | none =>
  have hn:k∉ks:=fun z=>by
   obtain ⟨e,he,q⟩:=(hmem k).mp z;have:=List.findIdx?_eq_none_iff.mp hr e he;rw [q] at this;cases this
  dsimp only;have lp:=layNew_perm t es (k:Int) (.int (k:Int) tk);obtain ⟨es1,t1,hl,hp1,alt⟩:=g.add hk hn (.int (k:Int) tk);rw [zA hk,hl];rw [hl,Array.toList_push] at lp;dsimp only at lp;have num1:Nums es1:=fun e he=>by
   rcases Mc.mp (lp.mem_iff.mp he) with z|z
   ·exact hnum e z
   ·exact ⟨k,tk,hk,LZ.mp z⟩
  dsimp only;refine LQ (L4 ?_);rw [hp1,if_pos rfl];refine LQ ?_;rw [hashByValue_scannable 8 rfl];refine L4 ?_;rw [if_pos (show plainKind (Ol (k:Int) tk)=true from rfl)];have s1:es1.size<scanBound:=by
   have:=lp.length_eq;rw [MC,Mr,MC,Oe] at this;show es1.size<4096;omega
  have o1:(s.heap.update a (Rr es1 t1)).get? a=some { o with data:=.set es1 (ep+1) t1 }:=by
   have:=NC (Rr es1 t1) ho (by rw [T4 es1 t1 hd];rfl)
   rw [T4 es1 t1 hd] at this;exact this
  have b1:=Ta s.heap a (Rr es1 t1);have mm:∀ {ks':List Nat},ks'.Perm (k :: ks)->∀ x,x∈ks'↔x∈ks\/x=k:=fun p x=>by rw [p.mem_iff,Mq];exact Or.comm
  refine LQ (wpAny_storeSet_of ho hd ?_ (fits_of_scanBound s1));rcases alt with ⟨tf,ks1,g1,p1⟩|⟨tf,es2,t2,ks2,hrl,g2,p2⟩
  ·rw [tf];refine L4 (L4 ?_);exact h true _ ks1 b1 ⟨_,es1,ep+1,t1,o1,hex,rfl,num1,g1⟩ (mm p1)
  ·have rp:=relayAll_perm t1 es1 (Rb es1.size);rw [tf,hrl];rw [hrl] at rp;dsimp only at rp;have s2:es2.size<scanBound:=by
    have:=rp.length_eq;rw [MC,MC] at this;show es2.size<4096;have:es1.size<4096:=s1;omega
   refine LQ (L4 (LQ (wpAny_storeSet_of o1 rfl ?_ (fits_of_scanBound s2))));have o2:((s.heap.update a (Rr es1 t1)).update a (Rr es2 t2)).get? a=some { o with data:=.set es2 (ep+1+1) t2 }:=by
    have:=NC (Rr es2 t2) o1 (by rw [T4 es2 t2 rfl];rfl)
    rw [T4 es2 t2 rfl] at this;exact this
   refine L4 (L4 ?_);exact h true _ ks2 (b1.trans (Ta _ a _)) ⟨_,es2,ep+1+1,t2,o2,hex,rfl,num1.perm rp,g2⟩ (mm p2)
def DQ {I:Addr} {fp wr:List Addr} {G:Array Qr->Array Qr->Prop} {n:Nat} {P:Nat->Value->Prop} {St:Nat->LV->Prop} {R:Rj->LV->Prop} (W:WalksS prog w A.in1 I fp wr G n P St) (a:Addr) (ha:a∉fp) {led:Bool}
  (val:Nat->Nat) (hval:∀ i v,P i v->∃ t,v=.int (val i:Int) t) (h23:∀ i,i<n->val i<23) :
  ∀ (k i:Nat) (s:LV) (ks:List Nat),n - i=k->i<=n->St i s->eT s.heap a led ks->(∀ x,x∈ks↔∃ j,j<i/\val j=x) ->
   (∀ s' ks',Moved (a :: wr) G s s'->eT s'.heap a led ks'->(∀ x,x∈ks'↔∃ j,j<n/\val j=x)->R (.ok (.ret .none)) s') ->
   codeAny (model prog w) A (.builtin "set.update.loop" ⟨[.ref a,.ref I],[]⟩) R s:=by
 have haw:a∉wr:=fun z=>ha (W.sub _ z);have up:∀ b∈wr,b∈a :: wr:=fun b hb=>L5 _ hb;have keepS:∀ {s s':LV} {ks:List Nat},Moved wr G s s'->eT s.heap a led ks->eT s'.heap a led ks:=fun hm ⟨o,es,ep,t,ho,r⟩=>⟨o,es,ep,t,hm.heap a _ haw ho,r⟩;intro k
 induction k with
 | zero =>
  intro i s ks hk hi hst hS hm hR;have e:i=n:=by omega
  subst e;refine Nv RK ?_;rw [Nf Qa _];show wpAny _ A.in1 (pyNext (.ref I) >>= _) _ _ s;refine LQ (W.done s _ _ hst fun s' mv=>?_);exact L4 (hR s' ks (mv.mono up) (keepS mv hS) hm)
 | succ k ih =>
  intro i s ks hk hi hst hS hm hR;have il:i<n:=by omega
  refine Nv RK ?_;rw [Nf Qa _];show wpAny _ A.in1 (pyNext (.ref I) >>= _) _ _ s;refine LQ (W.item i s _ _ il hst fun v s' hP hst' mv=>?_);obtain ⟨tk,rfl⟩:=hval i v hP;show wpAny _ A.in1 (holding [Ol (val i:Int) tk] (setAdd a (.int (val i:Int) tk)) >>= _) _ _ s';refine LQ (M4 ?_);unfold setAdd;refine M4 (LQ ((intKind prog w).pyHash (k:=(val i:Int)) (SR _ _ _ _) ?_));refine GQ (s:={ s' with toks:=s'.toks+1 }) (h23 i il) (show eT s'.heap a led ks from keepS mv hS) fun b h' ks' sb hS' hm'=>?_;refine L4 ⟨OM Qa _,ih (i+1) _ ks' (by omega) il (W.frame _ s' _ _ hst' (OC _) fun b hb o e=>?_) hS' (fun x=>?_) fun s'' ks'' mv' hS'' hm''=>?_⟩
  ·rw [sb.2 b (fun z=>ha (z ▸ hb))];exact e
  ·rw [hm' x,hm x];constructor
   ·rintro (⟨j,hj,e⟩|rfl)
    ·exact ⟨j,by omega,e⟩
    ·exact ⟨i,by omega,rfl⟩
   ·rintro ⟨j,hj,e⟩;rcases Mv j i with z|z
    ·exact .inl ⟨j,z,e⟩
    ·have:j=i:=by omega
     exact .inr (by rw [<- e,this])
  ·refine hR s'' ks'' (Moved.trans W.gtrans ((mv.mono up).then_heap (OC _) fun b o hb e=>?_) mv') hS'' hm'';rw [sb.2 b (fun z=>hb (z ▸ L9))];exact e
abbrev jB (w:World):Obj:={ cls:=.type "set",dict:=none,data:=.set #[] 0 (.fresh 0 0 (!bh w)) }
def E1 (x:Value) {Q:Value->LV->Prop} (h:Q (.ref s.heap.objs.size) { s with heap:=s.heap.push (jB w) }) :
  codeAny (model prog w) A (.call (.builtin "set.__new__") ⟨[.type "set",x],[]⟩) (wants Q E) s:=by
 refine Sw ?_;show wpAny _ A.in1 (do checkBuiltinCall "set.__new__" ⟨[.type "set",x],[]⟩;again (.builtin "set.__new__" ⟨[.type "set",x],[]⟩)) _ _ s;refine LQ (wpAny_of_eq (F.newCall_set_1 x) (L4 ⟨OM F.plain_set_new _,Nv F.entry_set_new ?_⟩));rw [Nf F.plain_set_new _];unfold OE.«set.__new__» Builtin.Frozenset.newClass;have hsub:=sub_set_self;obtain ⟨hp,g,d,tk,os⟩:=s;dsimp only
 wp_walk
 refine R5 (L4 ?_);dsimp only;simp only [newObj];refine LQ (wpAny_alloc (L4 ?_));exact L4 h
set_option maxHeartbeats 3200000 in
def C0 {l:Addr} {items:Array Value} {ns:List Nat} {Q:Value->LV->Prop} (hh:A.handled=none) (hl:s.heap.IsList l items) (hi:OD items.toList (ns.map fun (n:Nat)=>(n:Int))) (h23:∀ x∈ns,x<23)
  (h:∀ (h':Heap) (tk:Nat) (ks:List Nat),eT h' s.heap.objs.size (!bh w) ks->(∀ x,x∈ks↔x∈ns)->(∀ b o,b<s.heap.objs.size->s.heap.get? b=some o->h'.get? b=some o)->Q (.ref s.heap.objs.size) { s with heap:=h',toks:=tk }) :
  wpAny (model prog w) A (call (.type "set") [.ref l]) Q E s:=by
 have hz:items.size=ns.length:=by
  have:=hi.length;rw [MC,LX] at this;exact this
 obtain ⟨c,tl,hmro⟩:=Pf.mro;have hmade:=Pf.made;have hsub:=Pf.sub;refine Rm (Sw ?_);show wpAny _ _ (callAny (.type "set") _) _ _ _;refine L4 ⟨P6 _ (by trivial),Nv F.entry_type_call ?_⟩
 rw [Around.under_plain (weight_type_call_type "set" [.ref l] []) rfl];have h1:=Pf.notType;have h2:=Pf.canCreate;have hct:=F.typeCall_set_1 (.ref l)
 repeat (any_goals (first|assumption|wp_step))
 refine OJ (E1 (.ref l) (E:=E) (Q:=fun obj s₁=>obj=.ref s.heap.objs.size/\s₁={ s with heap:=s.heap.push (jB w) }) ⟨rfl,rfl⟩) fun r s₁ hr=>?_;cases r with
 | error e=>exact hr
 | ok fl =>
  cases fl with
  | next=>exact hr.elim
  | brk=>exact hr.elim
  | cont=>exact hr.elim
  | ret obj =>
   obtain ⟨rfl,rfl⟩:=hr;have hS:(s.heap.push (jB w)).get? s.heap.objs.size=some (jB w):=Mo _ rfl;have hT:Tt { s with heap:=s.heap.push (jB w) } (.ref s.heap.objs.size) "set":=⟨_,hS,rfl⟩;have hli:=Pf.init.lookup;have hbi:=Pf.init.bind (.ref s.heap.objs.size)
   repeat (any_goals (first|assumption|wp_step))
   refine OJ (OR (R:=wants (fun r s₂=>r=.none/\∃ h' tk ks,s₂={ s with heap:=h',toks:=tk }/\eT h' s.heap.objs.size (!bh w) ks/\(∀ x,x∈ks↔x∈ns)/\∀ b o,b<s.heap.objs.size->s.heap.get? b=some o->h'.get? b=some o) E) Pf.init.plain F.entry_set_init (check_set_init_1 hT ?_)) fun r₂ s₂ hr₂=>?_
   ·have hlS:l<s.heap.objs.size:=by obtain ⟨_,ho,_⟩:=hl;exact L6 ho
    have hl1:(s.heap.push (jB w)).IsList l items:=hl.push _;obtain ⟨⟨lc,ld,ldt,lsl⟩,hol,hcl,nl,hdl⟩:=id hl1;simp only at hcl hdl;subst hcl;subst hdl;have hsls:=F.sub_list_set;have hslf:=F.sub_list_frozenset;have hne:(SN "list" == SN "dict")=false:=by decide
    unfold OE.«set.__init__» noKeywords Builtin.Frozenset.updateFrom;generalize hPI:pyIter=PI
    wp_walk
    subst hPI;refine Qg hl1 (LQ (S3 ?_));have hh3:A.in1.in1.in1.handled=none:=by simp [hh]
    have z1:(s.heap.push (jB w)).objs.size=s.heap.objs.size+1:=OP ..;have hval:∀ (i:Nat) (v:Value),items[i]?=some v->∃ t,v=.int ((ns.getD i 0:Nat):Int) t:=fun i v hv=>by
     obtain ⟨t,e⟩:=IntsAre.int_at hi i v (by rw [MZ];exact hv)
     refine ⟨t,?_⟩;rw [e,LU,LU,Mp];cases ns[i]? <;> rfl
    refine DQ (led:=!bh w) ((Walks.list hh3 _ l (by rw [z1];exact Md (NH hlS)) items).toS) s.heap.objs.size (by rw [z1];simp only [Mq,OH,or_false,not_or];exact ⟨Md (PM _),OI hlS⟩) (fun i=>ns.getD i 0) hval (fun i hil=>?_) (items.size - 0) 0 _ [] (by omega) (MI _)
     ⟨⟨_,Mo _ rfl,rfl,rfl⟩,(hl1.push _)⟩ ?hS0 (fun x=>?_) ?hR
    ·have:i<ns.length:=by omega
     rw [LU,LP this];exact h23 _ (Nt this)
    case hS0=>exact ⟨jB w,#[],0,.fresh 0 0 (!bh w),LW _ hS,⟨rfl,rfl,rfl⟩,rfl,(fun e he=>by cases he),Good.fresh _⟩
    ·exact ⟨(fun z=>by cases z),fun ⟨j,hj,_⟩=>absurd hj (Su _)⟩
    case hR =>
     intro s' ks mv hS' hm;obtain ⟨h',g',d',tk',os'⟩:=s';have eg:g'=s.gens:=mv.gens;have ed:d'=s.drawn:=mv.drawn;have eo:os'=s.os:=mv.os;subst eg;subst ed;subst eo;refine L4 (L4 ⟨rfl,h',tk',ks,rfl,hS',fun x=>?_,fun b o hb e=>?_⟩)
     ·rw [hm x,hz];constructor
      ·rintro ⟨j,hj,e⟩;rw [LU,LP hj] at e;rw [<- show ns[j]=x from e];exact Nt hj
      ·intro hx;obtain ⟨j,hj,e⟩:=QL hx;exact ⟨j,hj,by rw [LU,LP hj];exact e⟩
     ·exact mv.heap b o (by rw [z1];simp only [Mq,OH,or_false,not_or];exact ⟨Md hb,Md (NH hb)⟩) (LW _ (LW _ e))
   ·cases r₂ with
    | error e=>exact hr₂
    | ok fl₂ =>
     cases fl₂ with
     | next=>exact hr₂.elim
     | brk=>exact hr₂.elim
     | cont=>exact hr₂.elim
     | ret r =>
      obtain ⟨rfl,h',tk,ks,rfl,hS',hm,hk'⟩:=hr₂
      repeat (any_goals (first|assumption|wp_step))
      exact h _ _ ks hS' hm hk'
end
def yS:entryFor table "set.__iter__" = some OE.«frozenset.__iter__»:=S1 (id':="frozenset.__iter__") (by kernel_rfl) rfl (by trivial) (by kernel_rfl)
def ja:Slot "set_iterator" "__next__" "set_iterator.__next__" :=
 .of (owner:="set_iterator") (n:="__next__") (by rw [typeLookup_type,Sx];kernel_rfl) (by trivial) (by trivial) (by trivial)
  (by first|exact .inl (by trivial)|exact .inr (by trivial)) (by rw [isSubtype_type];kernel_rfl)
def vT:entryFor table "set_iterator.__next__" = some OE.«set_iterator.__next__»:=entryFor_of_tree (by kernel_rfl)
def vO:Manifest.owners.lookup (String.ofList ['r','o','t','a','r','e','t','i','_','t','e','s'].reverse)=some Manifest.sig_set_iterator:=by kernel_rfl
def vQ (a:Value):argsOk "set_iterator.__next__" ⟨[a],[]⟩:=by
 unfold argsOk;rw [signature?_of (id:="set_iterator.__next__") (n:=['_','_','t','x','e','n','_','_']) (o:=['r','o','t','a','r','e','t','i','_','t','e','s']) (by kernel_rfl) vO];kernel_rfl
def cD (h:Heap) (it a:Addr) (slot i n ep:Nat):Prop:=h.get? it=some { cls:=.type "set_iterator",dict:=none,data:=.fields #[.int slot 0,.int i 0,.ref a,.int n 0,.int ep 0],slots:=#[] }
def DC {α:Type} {l:List α} {i:Nat} (h:i<l.length):(l[i] :: l.eraseIdx i).Perm l:=by
 have e:l=l.take i++l[i] :: l.drop (i+1):=by rw [List.getElem_cons_drop,Pe]
 rw [List.eraseIdx_eq_take_drop_succ];exact R3.symm.trans (List.Perm.of_eq e.symm)
def A3 {α:Type} (next:Nat->Nat):∀ (fuel k:Nat) (left:List α) (out:Array α),fuel=left.length->(TN next fuel k left out).toList.Perm (out.toList++left)
 | 0,k,left,out,h=>by
  have:left=[]:=O3.mp h.symm;subst this;unfold TN;simp
 | fuel+1,k,left,out,h=>by
  unfold TN;have hl:next k % left.length<left.length:=Mw _ (by omega)
  rw [LP hl];dsimp only;refine (A3 next fuel (k+1) _ _ (by rw [List.length_eraseIdx,if_pos hl];omega)).trans ?_
  rw [Array.toList_push,Qj];exact List.Perm.append_left _ (DC hl)
def D6 {α:Type} (next:Nat->Nat) (xs:Array α):(pickOrder next xs).toList.Perm xs.toList:=by
 have:=A3 next xs.size 0 xs.toList #[] (by simp)
 simpa [pickOrder] using this
def iF (h:Heap) (a:Addr) (es:Array (Int×Value)) (ep:Nat) (t:N1):Prop:=∃ o,h.get? a=some o/\o.ExactSet/\o.data=.set es ep t
def dM (w:World) (a:Addr) (es:Array (Int×Value)) (ep:Nat):Array (Int×Value):=if bh w=true then pickOrder (w.params.setOrder a ep) es else es
def vP {w:World} {a:Addr} {es:Array (Int×Value)} {ep:Nat}:(dM w a es ep).toList.Perm es.toList:=by
 unfold dM
 split
 ·exact D6 _ _
 ·exact List.Perm.refl _
def lI {w:World} {a:Addr} {es:Array (Int×Value)} {ep:Nat}:(dM w a es ep).size=es.size:=by
 have:=(vP (w:=w) (a:=a) (es:=es) (ep:=ep)).length_eq
 rwa [MC,MC] at this
def slotAt (t:N1) (i:Nat):Nat:=if i=0 then 0 else t.place.getD (i - 1) 0+1
def below_at {led:Bool} {es:Array (Int×Value)} {t:N1} {ks:List Nat} (g:Good led es t ks) {i:Nat} (hi:i<=es.size):MW t.place (slotAt t i)=i:=by
 obtain ⟨h1,h2,h3⟩:=sC g.rise (slotAt t i);have z:=g.size;have gd:∀ k,k<t.place.size->t.place[k]?=some (t.place.getD k 0):=fun k hk=>by
  rw [MD hk,N2,MD hk];rfl
 have mono:∀ (a b:Nat),a<b->b<t.place.size->t.place.getD a 0<t.place.getD b 0:=fun a b hab hb=>by
  have ha:=gd a (by omega)
  have hb':=gd b hb;rw [<- MZ] at ha hb';obtain ⟨x1,x2⟩:=LR.mp ha;obtain ⟨y1,y2⟩:=LR.mp hb';rw [<- x2,<- y2];exact Mx.mp g.rise a b x1 y1 hab
 rcases Ni (MW t.place (slotAt t i)) i with c|c|c
 ·have q:=h3 (i - 1) _ (by omega) (gd (i - 1) (by omega))
  unfold slotAt at q;rw [if_neg (by omega)] at q
  omega
 ·exact c
 ·have q:=h2 i _ c (gd i (by omega))
  unfold slotAt at q
  split at q
  ·omega
  ·have:=mono (i - 1) i (by omega) (by omega)
   omega
section
variable {prog:Mi} {w:World} {A:MQ} {E:Value->LV->Prop} {s:LV}
def cD.typeIs {it a:Addr} {slot i n ep:Nat} (x:cD s.heap it a slot i n ep):s.TypeIs (.ref it) "set_iterator":=⟨_,x,rfl⟩
def rM {Q:Bool->LV->Prop} (h:Q (bh w) s):wpAny (model prog w) A setsByText Q E s:=by
 unfold setsByText;exact LQ (R5 (L4 h))
def CN {a:Addr} {ep:Nat} {es:Array (Int×Value)} {t:N1} {ks:List Nat} {Q:Array (Int×Value)->LV->Prop} (g:Good (!bh w) es t ks) (hS:iF s.heap a es ep t) (ht:bh w=true) (hQ:Q (dM w a es ep) s):wpAny (model prog w) A (setWalk a) Q E s:=by
 obtain ⟨os,hos,hex,hds⟩:=id hS;unfold setWalk;refine LQ (OX hos hds g.fits ?_);dsimp only;refine LQ (rM ?_);rw [if_pos ht];refine LQ (R5 (L4 ?_));unfold dM at hQ;rw [if_pos ht] at hQ;exact hQ
def vE {a:Addr} {sl i ep:Nat} {es:Array (Int×Value)} {t:N1} {ks:List Nat} {Q:Option (Value×Nat)->LV->Prop} (g:Good (!bh w) es t ks) (hS:iF s.heap a es ep t) (hi:i<=es.size) (hsl:bh w=false->sl=slotAt t i)
  (hQ:Q ((dM w a es ep)[i]?.map fun e=>(e.2,if bh w=true then sl else slotAt t (i+1))) s):wpAny (model prog w) A (setNext a sl i ep) Q E s:=by
 obtain ⟨os,hos,hex,hds⟩:=id hS;unfold setNext;refine LQ (OX hos hds g.fits ?_);dsimp only;refine LQ (rM ?_);cases ht:bh w with
 | true =>
  rw [if_pos rfl,if_neg (by simp)]
  refine LQ (CN g hS ht (L4 ?_));rw [ht] at hQ
  simpa using hQ
 | false =>
  rw [if_neg Ml]
  split
  ·rename_i hdr
   have:(!t.plain && decide (es.size > 1))=true:=hdr;rw [g.plain] at this;cases this
  refine LQ ?_;have hled:t.led=true:=by rw [g.led,ht];rfl
  show wpAny _ _ (if (!t.led && !es.isEmpty)=true then unsupported "set:maker-not-led" else pure ()) _ _ _;rw [if_neg (by rw [hled];exact Ml)]
  refine L4 (L4 ?_);rw [hsl ht,below_at g hi];rw [ht] at hQ;unfold dM at hQ;rw [ht,if_neg Ml,if_neg Ml] at hQ;rcases Mv i es.size with c|c
  ·have pl:i<t.place.size:=by rw [g.size];exact c
   rw [MD c] at hQ ⊢;rw [MD pl];have e1:slotAt t (i+1)=t.place[i]+1:=by
    unfold slotAt;rw [if_neg (by omega),Nat.add_sub_cancel,N2,MD pl]
    rfl
   rw [e1] at hQ;exact hQ
  ·rw [N6 c] at hQ ⊢;exact hQ
def C2 {it a:Addr} {i ep:Nat} {es:Array (Int×Value)} {t:N1} {ks:List Nat} {Q:Option Value->LV->Prop} (g:Good (!bh w) es t ks) (hne:a≠it) (hit:cD s.heap it a (slotAt t i) i es.size ep\/(bh w=true/\∃ sl,cD s.heap it a sl i es.size ep)) (hS:iF s.heap a es ep t) {e:Int×Value} (he:(dM w a es ep)[i]?=some e)
  (hQ:∀ h',(cD h' it a (slotAt t (i+1)) (i+1) es.size ep\/(bh w=true/\∃ sl,cD h' it a sl (i+1) es.size ep))->O1 it s.heap h'->Q (some e.2) { s with heap:=h' }) :
  wpAny (model prog w) A (pyNext (.ref it)) Q E s:=by
 obtain ⟨sl,hit',hsl⟩:∃ sl,cD s.heap it a sl i es.size ep/\(bh w=false->sl=slotAt t i):=by
  rcases hit with z|⟨z,sl,z'⟩
  ·exact ⟨_,z,fun _=>rfl⟩
  ·exact ⟨sl,z',fun c=>by rw [z] at c;cases c⟩
 have ho:=hit';unfold cD at ho;obtain ⟨os,hos,hex,hds⟩:=id hS;unfold pyNext;refine LQ (Pq (O4 (name:=Np "__next__") hit'.typeIs ja (N5 ja hit'.typeIs vT ?_ (vQ _))));show wpAny _ _ (fieldsOf (.ref it) >>= _) _ _ s;refine LQ (wpAny_fieldsOf ho rfl ?_);dsimp only;refine LQ (LQ (OX hos hds g.fits (L4 ?_)));dsimp only;rw [if_neg (by simp)]
 have hi:i<es.size:=by
  have:=(NI.mp he).1
  rwa [lI] at this
 rw [Ny,Ny,Ny];refine LQ (vE g hS (Ou hi) hsl ?_);rw [he];show wpAny _ _ (setField (Mt it) 0 _ >>= _) _ _ _;refine LQ (P8 ho (by show 0<5;decide) fun h1 e1 b1=>?_)
 refine LQ (P8 (s:={ s with heap:=h1 }) e1 (by show 1<5;decide) fun h2 e2 b2=>?_)
 refine L4 ⟨_,rfl,L4 (hQ h2 ?_ (b1.trans b2))⟩;cases ht:bh w with
 | true =>
  refine .inr ⟨rfl,sl,?_⟩;rw [ht] at e2;exact e2
 | false =>
  rw [ht] at e2;exact .inl e2
def Ft {it a:Addr} {ep:Nat} {es:Array (Int×Value)} {t:N1} {ks:List Nat} {Q:Option Value->LV->Prop} (hh:A.handled=none) (g:Good (!bh w) es t ks) (hit:cD s.heap it a (slotAt t es.size) es.size es.size ep\/(bh w=true/\∃ sl,cD s.heap it a sl es.size es.size ep)) (hS:iF s.heap a es ep t)
  (hQ:∀ h',Heap.ExtBut it s.heap h'->Q none { s with heap:=h' }):wpAny (model prog w) A (pyNext (.ref it)) Q E s:=by
 obtain ⟨sl,hit',hsl⟩:∃ sl,cD s.heap it a sl es.size es.size ep/\(bh w=false->sl=slotAt t es.size):=by
  rcases hit with z|⟨z,sl,z'⟩
  ·exact ⟨_,z,fun _=>rfl⟩
  ·exact ⟨sl,z',fun c=>by rw [z] at c;cases c⟩
 have ho:=hit';unfold cD at ho;obtain ⟨os,hos,hex,hds⟩:=id hS;unfold pyNext;refine LQ (Pq (O4 (name:=Np "__next__") hit'.typeIs ja (N5 ja hit'.typeIs vT ?_ (vQ _))));show wpAny _ _ (fieldsOf (.ref it) >>= _) _ _ s;refine LQ (wpAny_fieldsOf ho rfl ?_);dsimp only;refine LQ (LQ (OX hos hds g.fits (L4 ?_)));dsimp only;rw [if_neg (by simp)]
 rw [Ny,Ny,Ny];refine LQ (vE g hS (Mb _) hsl ?_);rw [N6 (by rw [lI];exact Mb _)]
 show wpAny _ _ (setField (Mt it) 2 _ >>= _) _ _ _;refine LQ (P8 ho (by show 2<5;decide) fun h1 e1 b1=>?_)
 refine LQ ?_;simp only [newExc,newTuple];refine LQ (N9 ?_ (by size_fits))
 refine LQ (m:=firstArgMember _ _) (wpAny_of_eq (a:=Ng) (by first|rfl|(simp only [firstArgMember];rfl)) ?_)
 refine N9 ?_ (by size_fits)
 simp only [raiseNew];refine LQ (wpAny_handled ?_);rw [show A.in1.handled=none from hh];refine LQ (L4 (wpAny_throw ?_));refine LQ (R1 (T:="StopIteration") (b:=true) ⟨_,Mo _ rfl,rfl⟩ isSubtype_stop ?_);exact L4 (hQ _ ((b1.extBut.push _).push _))
end
def sW:Slot "set_iterator" "__iter__" "set_iterator.__iter__" :=
 .of (owner:="set_iterator") (n:="__iter__") (by rw [typeLookup_type,Sx];kernel_rfl) (by trivial) (by trivial) (by trivial)
  (by first|exact .inl (by trivial)|exact .inr (by trivial)) (by rw [isSubtype_type];kernel_rfl)
def AV:entryFor table "set_iterator.__iter__" = some OE.«dict_keyiterator.__iter__»:=S1 (id':="dict_keyiterator.__iter__") (by kernel_rfl) rfl (by trivial) (by kernel_rfl)
def AU (a:Value):argsOk "set_iterator.__iter__" ⟨[a],[]⟩:=by
 unfold argsOk;rw [signature?_of (id:="set_iterator.__iter__") (n:=['_','_','r','e','t','i','_','_']) (o:=['r','o','t','a','r','e','t','i','_','t','e','s']) (by kernel_rfl) vO];kernel_rfl
def m8 (w:World) (h:Heap) (it a:Addr) (t:N1) (i n ep:Nat):Prop:=cD h it a (slotAt t i) i n ep\/(bh w=true/\∃ sl,cD h it a sl i n ep)
section
variable {prog:Mi} {w:World} {A:MQ} {E:Value->LV->Prop} {s:LV}
def m8.typeIs {it a:Addr} {t:N1} {i n ep:Nat} (x:m8 w s.heap it a t i n ep):s.TypeIs (.ref it) "set_iterator":=by
 rcases x with z|⟨_,sl,z⟩ <;> exact ⟨_,z,rfl⟩
def m8.keep {h h':Heap} {it a:Addr} {t:N1} {i n ep:Nat} (x:m8 w h it a t i n ep) (k:∀ o,h.get? it=some o->h'.get? it=some o):m8 w h' it a t i n ep:=by
 rcases x with z|⟨c,sl,z⟩
 ·exact .inl (k _ z)
 ·exact .inr ⟨c,sl,k _ z⟩
def iF.keep {h h':Heap} {a:Addr} {es:Array (Int×Value)} {ep:Nat} {t:N1} (x:iF h a es ep t) (k:∀ o,h.get? a=some o->h'.get? a=some o):iF h' a es ep t:=let ⟨o,ho,r⟩:=x;⟨o,k _ ho,r⟩
def EM (hh:A.handled=none) (I a:Addr) (hne:a≠I) {ep:Nat} {es:Array (Int×Value)} {t:N1} {ks:List Nat} (g:Good (!bh w) es t ks) :
  Walks prog w A I [I,a] [I] es.size (fun i v=>∃ e,(dM w a es ep)[i]?=some e/\v=e.2) (fun i h=>m8 w h I a t i es.size ep/\iF h a es ep t) where
 sub:=fun b hb=>by simp at hb;simp [hb]
 frame:=fun i h h' st hk=>⟨st.1.keep fun o e=>hk I (by simp) o e,st.2.keep fun o e=>hk a (by simp) o e⟩
 item:=fun i s Q E hi st hQ=>by
  have hl:i<(dM w a es ep).size:=by rw [lI];exact hi
  refine C2 g hne st.1 st.2 (MD hl) fun h' it' sb=>?_;exact hQ _ h' s.toks ⟨_,MD hl,rfl⟩ ⟨it',st.2.keep fun o e=>(sb.2 a hne).trans e⟩ fun b o hb e=>(sb.2 b (fun z=>hb (by simp [z]))).trans e
 done:=fun s Q E st hQ=>Ft hh g st.1 st.2 fun h' he=>hQ h' s.toks fun b o hb e=>he b o (fun z=>hb (by simp [z])) e
 self:=fun i s Q E st hQ=>by
  refine wpAny_pyIter_slot st.1.typeIs sW (N5 sW st.1.typeIs AV ?_ (AU _));show wpAny _ _ (ret (.ref I)) _ _ s;exact L4 ⟨_,rfl,"set_iterator",_,st.1.typeIs,ja.lookup,hQ⟩
def BY {a:Addr} {ep:Nat} {es:Array (Int×Value)} {t:N1} {ks:List Nat} {Q:Value->LV->Prop} (g:Good (!bh w) es t ks) (hS:iF s.heap a es ep t)
  (hQ:∀ h',m8 w h' s.heap.objs.size a t 0 es.size ep->(∀ b o,s.heap.get? b=some o->h'.get? b=some o)->h'.objs.size=s.heap.objs.size+1->Q (.ref s.heap.objs.size) { s with heap:=h' }) :
  wpAny (model prog w) A (pyIter (.ref a)) Q E s:=by
 obtain ⟨os,hos,hex,hds⟩:=id hS;have hT:s.TypeIs (.ref a) "set":=⟨os,hos,hex.1⟩;refine wpAny_pyIter_slot hT F.slot_set_iter (N5 F.slot_set_iter hT yS ?_ (F.args_set_iter_1 _));unfold OE.«frozenset.__iter__» Builtin.Frozenset.slot0 slotArgs;simp only [List.isEmpty_nil,Bool.not_true,MV,↓reduceIte,bind_assoc,P4,bne_self_eq_false];unfold Builtin.Frozenset.addrOf Builtin.Frozenset.sizeOf setDrawn;refine LQ (L4 ?_);dsimp only;refine LQ (L4 ?_);refine LQ (LQ (wpAny_setEntries_of hos hds g.fits (L4 ?_)));refine LQ (LQ (OX hos hds g.fits ?_));dsimp only;refine LQ (rM (L4 ?_));have dr:∀ b:Bool,(b && (!t.plain && decide (es.size > 1)))=false:=fun b=>by rw [g.plain];cases b <;> rfl
 split
 ·rename_i hc
  have:(!bh w && (!t.plain && decide (es.size > 1)))=true:=hc;rw [dr] at this;cases this
 refine LQ (L4 ?_);refine LQ (wpAny_setEpoch_of hos hds g.fits ?_);refine LQ (N9 (L4 ⟨_,rfl,"set_iterator",_,⟨_,Mo _ rfl,rfl⟩,ja.lookup,?_⟩));exact hQ _ (.inl (Mo _ rfl)) (fun b o e=>LW _ e) (OP ..)
def AA {a:Addr} {ep:Nat} {es:Array (Int×Value)} {t:N1} {ks:List Nat} {Q:List Value->LV->Prop} (hh:A.handled=none) (g:Good (!bh w) es t ks) (hS:iF s.heap a es ep t)
  (hQ:∀ (h':Heap) (tk:Nat),s.heap.objs.size<=h'.objs.size->(∀ b o,s.heap.get? b=some o->h'.get? b=some o)->Q ((dM w a es ep).toList.map (·.2)) { s with heap:=h',toks:=tk }):wpAny (model prog w) A (collect (.ref a)) Q E s:=by
 have n23:=ke g.nd g.lt;have el:=g.len;obtain ⟨os,hos,hex,hds⟩:=id hS;have alt:a<s.heap.objs.size:=L6 hos;unfold collect;refine LQ (S3 (Nv Sy ?_));rw [Nf Sz _];show wpAny _ A.in1 (newList [] >>= fun l=>again (.builtin "list.__iadd__" ⟨[l,.ref a],[]⟩)) _ _ s;refine LQ (N9 ?_);refine L4 ⟨OM Qn _,Nv F.entry_list_iadd ?_⟩;rw [Nf Qn _];show wpAny _ A.in1 (Pg (.ref s.heap.objs.size) (.ref a) (.ref s.heap.objs.size)) _ _ _;generalize hp1:s.heap.push { cls:=.type "list",data:=.seq ([]:List Value).toArray }=h1;have o1:h1.get? s.heap.objs.size=some { cls:=.type "list",data:=.seq ([]:List Value).toArray }:=by rw [<- hp1];exact Mo _ rfl
 have k1:∀ b o,s.heap.get? b=some o->h1.get? b=some o:=fun b o e=>by rw [<- hp1];exact LW _ e
 have z1:h1.objs.size=s.heap.objs.size+1:=by rw [<- hp1];exact OP ..
 have hS1:iF h1 a es ep t:=hS.keep fun o e=>k1 _ _ e;unfold Pg;have hT1:Tt { s with heap:=h1 } (.ref a) "set":=⟨os,k1 _ _ hos,hex.1⟩;refine LQ (Q3 hT1 ?_);have nS:Rt (.ref s.heap.objs.size) (.ref a)=false:=by
  have:s.heap.objs.size≠a:=OI alt;simp [Rt,this]
 rw [if_neg (by rw [nS];decide)]
 refine LQ (BY g hS1 fun h2 it2 k2 z2=>?_);have o2:=k2 _ _ o1;have hT2:Tt { s with heap:=h2 } (.ref a) "set":=⟨os,k2 _ _ (k1 _ _ hos),hex.1⟩;refine LQ (M4 ?_);unfold Builtin.List.listLengthHint;refine LQ (wpAny_specialOf hT2 F.slot_set_len.lookup ?_);generalize hid:("set.__len__" : String)=id0
 (fail_if_success (clear hid id0))
 wp_delta
 rw [show splitId id0=some ("set","__len__") from by subst hid;decide +kernel]
 subst hid;refine LQ (R1 (b:=true) hT2 sub_set_self ?_);show wpAny _ _ (typeOf (.ref a) >>= _) _ _ _;refine LQ (Q3 hT2 ?_);refine L4 ?_;show wpAny _ A.in1 (rule "list.extend.makes-room" >>= fun _=>Builtin.List.listTouch (.ref s.heap.objs.size) >>= fun _=>again (.builtin "list.extend.loop" ⟨[.ref s.heap.objs.size,.ref h1.objs.size,.ref s.heap.objs.size],[]⟩)) _ _ _;refine LQ (Tv (LQ ?_));show wpAny _ A.in1 (updateSeq s.heap.objs.size (·.push .none) >>= fun _=>updateSeq s.heap.objs.size (·.pop)) _ _ _;refine LQ (wpAny_updateSeq o2 rfl ?_);have o3:=NC (NP (·.push Ng)) o2 rfl;refine wpAny_updateSeq (hz:=by seq_fits) o3 rfl ?_
 have o4:=NC (NP (·.pop)) o3 rfl;have k4:∀ b o,b≠s.heap.objs.size->h2.get? b=some o->((h2.update s.heap.objs.size (NP (·.push Ng))).update s.heap.objs.size (NP (·.pop))).get? b=some o :=
  fun b o hb e=>(Nb _ _ (NJ hb)).trans ((Nb _ _ (NJ hb)).trans e)
 have ne1:h1.objs.size≠s.heap.objs.size:=by rw [z1];exact OI (PM _)
 have ne2:a≠s.heap.objs.size:=Md alt;have ne3:a≠h1.objs.size:=by rw [z1];exact Md (NH alt)
 have W:=(EM (prog:=prog) (A:=A.in1) (by simp [hh]) h1.objs.size a ne3 (ep:=ep) g).toS
 refine L4 ⟨OM F.plain_extend_loop _,codeAny_extend_loopS W (by rw [MX];omega) s.heap.objs.size (by simp only [Mq,OH,or_false,not_or];exact ⟨NJ ne1,NJ ne2⟩) _ es.size 0 _ _ _ rfl (MI _)
  ⟨it2.keep fun o e=>k4 _ _ ne1 e,(hS1.keep fun o e=>k2 _ _ e).keep fun o e=>k4 _ _ ne2 e⟩ o4 (ItemsOf.nil _) fun s' acc c' mv o5 items=>?_⟩
 obtain ⟨h',g',d',tk',os'⟩:=s';have eg:g'=s.gens:=mv.gens;have ed:d'=s.drawn:=mv.drawn;have eo:os'=s.os:=mv.os;subst eg;subst ed;subst eo;show wpAny _ A (load s.heap.objs.size >>= _) _ _ _;refine LQ (wpAny_load o5 (L4 ?_));have ea:acc.toList=(dM w a es ep).toList.map (·.2):=by
  refine OA fun j=>?_;rw [Mp,MZ,MZ];rcases Mv j acc.size with c|c
  ·have q:=MD c;obtain ⟨e,he,ev⟩:=items.2 j _ q;rw [q,he,ev];rfl
  ·rw [N6 c,N6 (by rw [lI,<- items.1];exact c)]
   rfl
 rw [ea];refine hQ h' tk' (Ou (L6 o5)) fun b o e=>mv.heap b o ?_ (k4 b o ?_ (k2 _ _ (k1 _ _ e)))
 ·have:=L6 e;simp only [Mq,OH,or_false,not_or];exact ⟨Md this,by rw [z1];exact Md (NH this)⟩
 ·exact Md (L6 e)
def vx:∀ {es:List (Int×Value)},(∀ e∈es,∃ (k:Nat) (tk:Tok),k<23/\e=((k:Int),Ol (k:Int) tk))->OD (es.map (·.2)) ((es.map fun e=>e.1.toNat).map fun (k:Nat)=>(k:Int))
 | [],_=>.nil
 | e :: es,h=>by
  obtain ⟨k,tk,_,rfl⟩:=h e L9;exact .cons _ _ (vx fun e he=>h e (L5 _ he))
def HA {es:List (Int×Value)} {ks:List Nat} (h:es.map (·.1)=ks.map fun (k:Nat)=>(k:Int)):es.map (fun e=>e.1.toNat)=ks:=by
 have:=congrArg (List.map Rq) h;rw [Ox,Ox] at this;have e:(Rq ∘ fun (k:Nat)=>(k:Int))=id:=by funext n;rfl
 rw [e,QK] at this;exact this
def DA {a:Addr} {ks:List Nat} {Q:Value->LV->Prop} (hh:A.handled=none) (hS:eT s.heap a (!bh w) ks)
  (h:∀ (h':Heap) (tk:Nat) (d:Addr) (out:Array Value) (c:Nat) (l:List Nat),OD out.toList (l.map fun (k:Nat)=>(k:Int))->l.Perm ks->l.Pairwise (·<=·)->s.heap.objs.size<=d->h'.get? d=some (seqObj "list" out c)->(∀ b o,s.heap.get? b=some o->h'.get? b=some o)->Q (.ref d) { s with heap:=h',toks:=tk }) :
  wpAny (model prog w) A (call (.builtin "sorted") [.ref a]) Q E s:=by
 obtain ⟨o,es,ep,t,ho,hex,hd,hnum,g⟩:=hS;have n23:=ke g.nd g.lt;have el:=g.len;refine PF T5 TQ TR (TU _) ?_;unfold OE.«sorted»;refine LQ (m:=checkCount "sorted" 1 1 _) (L4 ?_);refine LQ (AA (by simp [hh]) g ⟨o,ho,hex,hd⟩ fun h1 tk1 kz k1=>?_)
 have wp:=vP (w:=w) (a:=a) (es:=es) (ep:=ep);have hI:=vx (es:=(dM w a es ep).toList) fun e he=>hnum e (wp.mem_iff.mp he);have kp:((dM w a es ep).toList.map fun e=>e.1.toNat).Perm ks:=by
  have:=wp.map fun e=>e.1.toNat
  rwa [HA g.keys] at this
 generalize (dM w a es ep).toList.map (fun e=>e.1.toNat)=kw at hI kp;generalize hv:(dM w a es ep).toList.map (·.2)=vs at hI;have vl:vs.length<64:=by
  have:=hI.length;rw [LX,kp.length_eq] at this;omega
 refine LQ (RL ?_);have oL:(h1.push (seqObj "list" vs.toArray 0)).get? h1.objs.size=some (seqObj "list" vs.toArray 0):=Mo _ rfl;refine LQ (M4 (N5 S4 ⟨_,oL,rfl⟩ SA (list_sort_tree oL hI vl fun out ns' a1 a2 a3=>⟨_,rfl,?_⟩) (S5 _)));obtain ⟨c,hc⟩:=sortedHeap_at (out:=out) oL;obtain ⟨l,rfl,lp⟩:=ow a2;refine L4 ⟨_,rfl,h _ tk1 _ out c l a1 (lp.trans kp) ?_ kz hc fun b ob e=>?_⟩
 ·rw [NX] at a3;exact a3.imp fun z=>by omega
 ·have e1:=k1 _ _ e;rw [sortedHeap_old (Md (L6 e1)) (by rw [OP];exact NH (L6 e1))]
  exact LW _ e1
end
def eT.there {h:Heap} {a:Addr} {led:Bool} {ks:List Nat} (x:eT h a led ks):∃ o,h.get? a=some o:=let ⟨o,_,_,_,ho,_⟩:=x;⟨o,ho⟩
def eT.nd {h:Heap} {a:Addr} {led:Bool} {ks:List Nat} (x:eT h a led ks):ks.Nodup/\∀ k∈ks,k<23:=let ⟨_,_,_,_,_,_,_,_,g⟩:=x;⟨g.nd,g.lt⟩
def eT.keep {h h':Heap} {a:Addr} {led:Bool} {ks:List Nat} (x:eT h a led ks) (k:∀ o,h.get? a=some o->h'.get? a=some o):eT h' a led ks:=let ⟨o,es,ep,t,ho,r⟩:=x;⟨o,es,ep,t,k _ ho,r⟩
abbrev iC (w:World) (a:Addr) (ks:List Nat):HO:=.ext fun h=>eT h a (!bh w) ks
def Jr {P:Mi} {w:World} {H:Hp} {h:Heap} {a:Addr} {ks:List Nat} (e:eT h a (!bh w) ks):bA P w H h a (iC w a ks) :=
 ⟨e,e.there,fun _ _ x k=>x.keep k⟩
def C8 (w:World) (K:LO):List V->Hp->VK->Prop:=fun xs H Q=>∃ (p:Addr) (ns:List Nat),xs=[.ref p]/\SqL K H p ((ns.map fun (n:Nat)=>(n:Int)).map V.int)/\(∀ x∈ns,x<23) /\
 ∀ (a:Addr) (ks:List Nat),H a=none->(∀ x,x∈ks↔x∈ns)->ks.Nodup->Q (.ref a) (upd H a (iC w a ks))
def EC {X:Cx} (hc:X.calm=true):cE X (.type "set") (C8 X.w X.K):=by
 intro pins s σ H xs us Q I r h;obtain ⟨p,ns,rfl,hS,h23,q⟩:=h;obtain ⟨u,rfl,ru⟩:=vals1 r;cases (show u=Mt p from ru);obtain ⟨its,rv,pl,hz⟩:=I.list hS;have hi:=kX rv;refine C0 (I.ok.hd hc) pl.isList (by simpa using hi) h23 fun h' tk ks hG hm hk=>?_
 exact ⟨.ref s.heap.objs.size,_,I.laid (o:=iC X.w s.heap.objs.size ks) (fun b o e=>hk b o (L6 e) e) (Mb _) (Jr hG),rfl,q _ ks (I.hok.fresh (Mb _)) hm hG.nd.1⟩
def B8 {X:Cx} (K:LO) (hK:X.K=K) (w:World) (hw:X.w=w) (hc:X.calm=true):cE X (.type "set") (C8 w K):=by subst hK;subst hw;exact EC hc
def rF (w:World):List V->Hp->VK->Prop:=fun xs H Q=>∃ (a:Addr) (ks:List Nat),xs=[.ref a]/\H a=some (iC w a ks) /\
 ∀ (d:Addr) (l:List Nat),H d=none->l.Perm ks->l.Pairwise (·<=·)->Q (.ref d) (upd H d (.lst (aO l)))
def xW {X:Cx} (hc:X.calm=true):cE X (.builtin "sorted") (rF X.w):=by
 intro pins s σ H xs us Q I r h;obtain ⟨a,ks,rfl,hx,q⟩:=h;obtain ⟨u,rfl,ru⟩:=vals1 r;cases (show u=Mt a from ru);obtain ⟨p,_,_⟩:=(show bA X.prog X.w H s.heap a (iC X.w a ks) from I.hok a _ hx);have hG:eT s.heap a (!bh X.w) ks:=p;have n23:=ke hG.nd.1 hG.nd.2;refine DA (I.ok.hd hc) hG fun h' tk d out c l a1 a2 a3 hd ho hk=>?_;have hn:H d=none:=I.hok.fresh hd;refine ⟨.ref d,_,I.laid (o:=.lst (aO l)) hk hd ⟨?_,out.toList,c,?_,?_⟩,rfl,q d l hn a2 a3⟩
 ·unfold aO;rw [LX,a2.length_eq];exact small (by omega)
 ·rw [fk];exact lE a1
 ·simpa [seqObj] using ho
def w9 {X:Cx} (w:World) (hw:X.w=w) (hc:X.calm=true):cE X (.builtin "sorted") (rF w):=by subst hw;exact xW hc
section
variable {H:Hp} {Q:VK} {K:LO} {v:V} {w:World}
def KN {l:List Nat} (h:At K H v l) (h23:∀ x∈l,x<23) (q:∀ (a:Addr) (ks:List Nat),H a=none->(∀ x,x∈ks↔x∈l)->ks.Nodup->Q (.ref a) (upd H a (iC w a ks))):C8 w K [v] H Q:=by
 obtain ⟨p,rfl,hS⟩:=i4 h;have e:=fk l;unfold aO at e;exact ⟨p,l,rfl,by rw [<- e];exact hS,h23,q⟩
def Fp {a:Addr} {ks:List Nat} (h:H a=some (iC w a ks)) (q:∀ (d:Addr) (l:List Nat),H d=none->l.Perm ks->l.Pairwise (·<=·)->Q (.ref d) (upd H d (.lst (aO l)))):rF w [.ref a] H Q:=⟨a,ks,rfl,h,q⟩
end
section
variable {X:Cx} {elt tg iter:Expr} {ifs:List Expr} {scope:Scope} {pos:Pos} {own:List Str} {fr:List Nat} {wi:TI} {g:TG} {tt:TT} {te:TE}
end
def oO:List Value->List Value
 | .ref _ :: r=>oO r
 | l=>l
def HL (K:LO) (C:Addr):Bool:=(QG K C).any fun cd=>oO cd.mro == bmV
def CA (K:LO) (C:Addr):Bool:=(K.lookup C).any fun o=>o.cls == .type "type" && (o.slots.toList.length == 6 && o.slots.toList[4]? == some (some (.builtin ot))) &&
 (match o.data with
  | .cls cd=>cd.mro.head? == some (.ref C) && (!cd.hasDel && PySem.W.tailIn K bmV cd.mro.tail)
  | _=>false)
structure iT (K:LO) (C f:Addr):Prop where
 ob:CA K C=true
 init:M5 K (.ref C) "__init__" = some (some (.ref f))
 fn:Sj K (.ref f)=true
 sa:M5 K (.ref C) "__setattr__" = some (some (.builtin "object.__setattr__"))
 hd:NG K C=true
 ov:HL K C=true
 kp:M6 K (.ref C)=true
def pP {g:Str}:∀ {fs:List (Str×V)},g∉fs.map (·.1)->fs.lookup g=none
 | [],_=>rfl
 | (p1,p2) :: r,m=>by
  rw [Nh];have z:(g == p1)=false:=by
   rw [beq_eq_false_iff_ne];exact fun z=>m (by rw [z];exact .head _)
  rw [z];exact pP fun y=>m (.tail _ y)
def n8 (self:Value) (what:Str):∀ l:List Value,refuseLoop self what l=refuseLoop self what (oO l)
 | []=>rfl
 | v :: r=>by
  cases v with
  | ref c=>rw [refuseLoop_ref];exact n8 self what r
  | _=>rfl
def ug {v:Value}:∀ l:List Value,(oO l).contains v=true->l.contains v=true
 | [],h=>h
 | u :: r,h=>by
  cases u with
  | ref c=>rw [List.contains_cons,ug r h,Bool.or_true]
  | _=>exact h
def uy {K:LO} {h:Heap} {C:Addr} (X:K.In h) (q:CA K C=true) :
  ∃ bm N nm qn bs hdct sn sub ab col dd k0 k1 k2 k3 k5,h.get? C=some (excClassObj nm qn C N bs bm hdct sn sub ab col dd k0 k1 k2 k3 k5 ot)/\OwnTail h bmV bm:=by
 obtain ⟨o,ho,q⟩:=PL q;obtain ⟨oc,od,odt,sl⟩:=o;simp only [NU,beq_iff_eq] at q;obtain ⟨⟨h1,h2,h3⟩,h4⟩:=q;subst h1;cases odt with
 | cls cd =>
  simp only [NU,beq_iff_eq,Pp] at h4;obtain ⟨h5,h6,h7⟩:=h4;obtain ⟨nm,bs,mro,ns,qn,hd,sn,sub,ab,col,del⟩:=cd;dsimp only at h5 h6 h7;subst h6;cases mro with
  | nil=>cases h5
  | cons m bm =>
   cases h5;obtain ⟨l⟩:=sl
   match l,h2,h3 with
   | [k0,k1,k2,k3,k4,k5],_,h3 =>
    cases h3;exact ⟨bm,ns,nm,qn,bs,hd,sn,sub,ab,col,od,k0,k1,k2,k3,k5,X _ _ ho,PySem.W.tail_of_in X h7⟩
 | _=>cases h4
abbrev qc (rest:List Value):Obj:={ cls:=.type "tuple",data:=.seq rest.toArray }
abbrev pb (C t:Addr):Obj:={ cls:=.ref C,data:=.fields #[.ref t,.none,.none,.none,.bool false,.none] }
section
variable {prog:Mi} {w:World} {A:MQ} {K:LO} {C f:Addr} {R:Rj->LV->Prop} {h:Heap} {g:Array Qr} {d:Drawn} {t:Nat} {os:OsState}
def wL {rest:List Value} {Q:Fin->LV->Prop} {E:Value->LV->Prop} (X:K.In h) (c:iT K C f) (hz:rest.length<=My)
  (hq:wpAny (model prog w) A (call (.ref f) (.ref (h.objs.size+1) :: rest)) (fun r s'=>r=.none/\Q (.done (.ret (.ref (h.objs.size+1)))) s') E ⟨(h.push (qc rest)).push (pb C h.objs.size),g,d,t,os⟩) :
  wpAny (model prog w) A (OE.«type.__call__» ⟨.ref C :: rest,[]⟩) Q E ⟨h,g,d,t,os⟩:=by
 obtain ⟨bm,N,nm,qn,bs,hdct,sn,sub,ab,col,dd,k0,k1,k2,k3,k5,hC,T⟩:=uy X c.ob;have Fb:=Pw;have hB:bmV.contains (.type "ValueError")=true:=by trivial
 have hi:=NL (M:=model prog w) X c.init;have hb:=fun self=>PySem.W.bind_fn (M:=model prog w) X self (beq_iff_eq.mp c.fn);have k:∀ b o,h.get? b=some o->((h.push { cls:=.type "tuple",data:=.seq rest.toArray }).push { cls:=.ref C,data:=.fields #[.ref h.objs.size,.none,.none,.none,.bool false,.none] }).get? b=some o:=fun b o e=>LW _ (LW _ e)
 repeat (first|with_reducible refine Pr hC ?_|with_reducible refine wpAny_madeBy_exc hC ?_|wp_step)
 refine codeAny_call_builtin_code (P6 _ Fb.quiet) (wpAny_check_new_subU Fb hB T hC (codeAny_exc_new_subU Fb hB Fb T hC ?_ hz));show wpAny _ _ _ _ _ _;have hC1:=k _ _ hC;have hx:((h.push { cls:=.type "tuple",data:=.seq rest.toArray }).push { cls:=.ref C,data:=.fields #[.ref h.objs.size,.none,.none,.none,.bool false,.none] }).get? (h.objs.size+1)=some { cls:=.ref C,data:=.fields #[.ref h.objs.size,.none,.none,.none,.bool false,.none] }:=by heap_get
 have hcC:(Mt C :: bm).contains (.ref C)=true:=by simp
 unfold isInstance
 repeat (first|with_reducible refine Pr hx ?_|(with_reducible refine Tb hC1 ?_;rw [hcC])|wp_step)
 show wpAny _ _ (typeLookup (.ref C) _) _ _ _;refine (hi.keeps k).at ?_;refine M4 (LQ (((hb (.ref (h.objs.size+1))).keeps k).at ?_));refine LQ (Nc hq (fun r s' hr=>?_) fun _ _ z=>z);obtain ⟨rfl,hQ⟩:=hr
 wp_walk
 exact hQ
def GG {rest:List Value} (X:K.In h) (c:iT K C f) (hz:rest.length<=My)
  (hq:codeAny (model prog w) (A.under (.builtin "type.__call__" ⟨.ref C :: rest,[]⟩)) (.call (.ref f) ⟨.ref (h.objs.size+1) :: rest,[]⟩) (PySem.W.InitBack (h.objs.size+1) R) ⟨(h.push (qc rest)).push (pb C h.objs.size),g,d,t,os⟩) :
  codeAny (model prog w) A (.call (.ref C) ⟨rest,[]⟩) R ⟨h,g,d,t,os⟩:=by
 obtain ⟨bm,N,nm,qn,bs,hdct,sn,sub,ab,col,dd,k0,k1,k2,k3,k5,hC,T⟩:=uy X c.ob;have f1:=tc_lookup;have f2:=tc_bind (.ref C);have hT:(⟨h,g,d,t,os⟩:LV).TypeIs (.ref C) "type":=⟨_,hC,rfl⟩;refine Sw ?_;show wpAny _ _ (callAny (.ref C) _) _ _ _
 repeat (any_goals (first|assumption|with_reducible refine Pr hC ?_|wp_step))
 refine ⟨rfl,?_⟩;refine codeAny_call_builtin_at (P6 _ (by trivial)) entry_typeCall (wpAny_check_type_call_sub hC (wL X c hz (Rm (OJ hq fun r s' z=>?_))))
 rcases r with e|(_|_|_|_) <;> first|exact z|exact Nd z
end
section
variable {prog:Mi} {w:World} {A:MQ} {E:Value->LV->Prop} {s:LV} {K:LO} {C x f:Addr} {name:Str} {v:Value}
def BD {R:Rj->LV->Prop} {ox:Obj} {od:Option Obj} {tk:Tok} (X:K.In s.heap) (I:Q7 s.heap x ox C od) (c:iT K C f) (ht:bO K C name)
  (h:∀ b,wpAny (model prog w) A.in1 (Builtin.ObjectAttr.storeInOwnDict (.ref x) (.ref C) (.str name tk) name v b)
   (fun fin s'=>match fin with | .done f=>R (.ok f) s' | .again c'=>c'.quiet=true/\codeAny (model prog w) A c' R s') (fun e s'=>R (.error e) s') s) :
  codeAny (model prog w) A (.call (.builtin "object.__setattr__") ⟨[.ref x,.str name tk,v],[]⟩) R s:=by
 have SF:=PySem.F.store_object;obtain ⟨cd,hc,ho⟩:=PL c.ov;have ho:oO cd.mro=bmV:=beq_iff_eq.mp ho;have hm:Ot (model prog w) s.heap (mroOf (.ref C)) cd.mro:=(PR X hc).andThen .now;have has:cd.mro.contains (.type "object")=true:=ug _ (by rw [ho];decide +kernel)
 have ne:¬ cd.mro.isEmpty=true:=fun z=>by
  rw [List.isEmpty_iff.mp z] at has;cases has
 have sub:Ot (model prog w) s.heap (isInstance (.ref x) (.type "object")) true:=I.type.andThen (QN X (by unfold RF;rw [hc,Option.bind_some,if_neg ne,has]))
 refine OR SF.slot.plain SF.entry (@PySem.W.check_slot (model prog w) _ _ s "object.__setattr__" "object" "__setattr__" (.ref x) [.str name tk,v] [] _ SF.kind SF.split sub (SF.args (.ref x) (.str name tk) v) ?_);have L2:=NL (M:=model prog w) X (show M5 K (.ref C) name=some none from ht);have L3:Ot (model prog w) s.heap (Builtin.ObjectAttr.storeTaker? none) none:=.now;rw [PySem.W.osa_eq,refuse_eq];refine LQ (LQ (I.type.here (LQ (hm.here ?_))));rw [n8,ho,PySem.F.store_ValueError.passes];exact L4 (LQ (I.type.here (LQ (L2.here (LQ (L3.here (h _)))))))
def FF {vs:Array Value} {sl:Array (Option Value)} {Q:Unit->LV->Prop} (X:K.In s.heap) (hx:s.heap.get? x=some ⟨.ref C,none,.fields vs,sl⟩) (c:iT K C f) (ht:bO K C name)
  (h:∀ h',h'.Ns1 s.heap.objs.size (fun y=>if y=name then some v else none)->O1 s.heap.objs.size ((s.heap.push MN).update x fun o=>{ o with dict:=some s.heap.objs.size }) h'->Q () { s with heap:=h',toks:=s.toks+2 }) :
  wpAny (model prog w) A (setAttr (.ref x) name v) Q E s:=by
 have I:Q7 s.heap x ⟨.ref C,none,.fields vs,sl⟩ C none:=⟨hx,rfl,rfl,NO⟩;refine Rh X I c.sa (BD (s:={ s with toks:=s.toks+1 }) X I c ht fun b=>?_);obtain ⟨cd,hc,hd'⟩:=PL c.hd;refine LQ (L4 (LQ (LQ (Q8 hx (LQ (QY (s:={ s with toks:=s.toks+1 }) (PR X hc) ?_))))));rw [hd'];have hx1:=LW MN hx;have ne:s.heap.objs.size≠x:=OI (L6 hx);have hn:((s.heap.push MN).update x fun o=>{ o with dict:=some s.heap.objs.size }).Ns s.heap.objs.size (fun _=>none) :=
  ⟨_,#[],_,(QQ _ _ _ _ ne).trans (Mo s.heap rfl),rfl,fun e he=>absurd he (by simp),fun _=>rfl⟩
 refine LQ (wpAny_alloc (LQ (wpAny_update hx1 ?_)));refine L4 (a:=some s.heap.objs.size) (LQ (L4 (LQ ?_)));refine TC (Rl hn) fun h' hn2 hs2=>?_;obtain ⟨oD,esD,epD,hoD,hdD,hcD⟩:=hn2.count (Ri name v PySem.Within.nil);refine LQ (RV hoD (by rw [hdD];exact RW (M7 hcD (by rw [MO,P4,MX];omega))) ?_)
 exact L4 (h _ hn2 hs2)
def Hh {vs:Array Value} {sl:Array (Option Value)} {dx:Addr} {mA:Str->Option Value} {ns:List Str} {Q:Unit->LV->Prop} (X:K.In s.heap) (hx:s.heap.get? x=some ⟨.ref C,some dx,.fields vs,sl⟩) (hn:s.heap.Ns1 dx mA) (hw:QW mA ns) (hz:ns.length<=My) (c:iT K C f) (ht:bO K C name)
  (h:∀ h',h'.Ns1 dx (fun y=>if y=name then some v else mA y)->O1 dx s.heap h'->Q () { s with heap:=h',toks:=s.toks+2 }) :
  wpAny (model prog w) A (setAttr (.ref x) name v) Q E s:=by
 obtain ⟨od,ho,_⟩:=pX hn;have I:Q7 s.heap x ⟨.ref C,some dx,.fields vs,sl⟩ C (some od):=⟨hx,rfl,rfl,ho⟩;refine Rh X I c.sa (BD (s:={ s with toks:=s.toks+1 }) X I c ht fun b=>?_);obtain ⟨cd,hc,hd'⟩:=PL c.hd;refine LQ (L4 (LQ (LQ (Q8 hx (LQ (QY (s:={ s with toks:=s.toks+1 }) (PR X hc) ?_))))));rw [hd'];refine L4 (a:=some dx) (LQ (L4 (LQ ?_)));refine TC (s:={ s with toks:=s.toks+1 }) hn fun h' hn2 hs2=>?_;obtain ⟨oD,esD,epD,hoD,hdD,hcD⟩:=hn2.count (Ri name v hw);refine LQ (RV hoD (by rw [hdD];exact RW (M7 hcD (by rw [MO];omega))) ?_)
 exact L4 (h _ hn2 hs2)
end
def Lv (x C:Addr) (d:Option Addr) (h:Heap):Prop:=lR h x C d
abbrev dH (x C:Addr) (d:Option Addr):HO:=.ext (Lv x C d)
def Be {P:Mi} {w:World} {H:Hp} {h:Heap} {x C:Addr} {d:Option Addr} (e:lR h x C d):bA P w H h x (dH x C d):=by
 obtain ⟨o,vs,h1,h2,h3,h4,h5⟩:=id e;exact ⟨e,⟨o,h1⟩,fun a b ⟨o,vs,h1,h2,h3,h4,h5⟩ k=>⟨o,vs,k o h1,h2,h3,h4,h5⟩⟩
def Kt (dx:Addr) (fs:List (Str×V)) (h:Heap):Prop:=∃ mA,h.Ns1 dx mA/\∀ f,fL (fs.lookup f) (mA f)
abbrev xdO (dx:Addr) (fs:List (Str×V)):HO:=.ext (Kt dx fs)
def zw {P:Mi} {w:World} {H:Hp} {h:Heap} {dx:Addr} {fs:List (Str×V)} (e:Kt dx fs h):bA P w H h dx (xdO dx fs):=by
 obtain ⟨mA,⟨o,es,ep,h1,h2⟩,h3⟩:=id e;exact ⟨e,⟨o,h1⟩,fun a b ⟨mA,⟨o,es,ep,h1,h2⟩,h3⟩ k=>⟨mA,⟨o,es,ep,k o h1,h2⟩,h3⟩⟩
def JA {H:Hp} {a n:Addr} {o u v:HO}:upd (upd (upd H n u) a o) n v=upd (upd H a o) n v:=by
 funext b
 unfold upd
 by_cases h1:b=n
 ·simp [h1]
 ·simp [h1]
def Kw (K:LO) (ta tv:TE) (f:Str):TS:=fun D σ H=>tv σ H fun y H1=>ta σ H1 fun x H2=>∃ a C i,x=.ref a/\iT K C i/\bO K C f /\
 ((H2 a=some (dH a C none)/\∀ dx,H2 dx=none->D.nx σ (upd (upd H2 a (dH a C (some dx))) dx (xdO dx [(f,y)]))) \/
  ∃ dx fs,H2 a=some (dH a C (some dx))/\H2 dx=some (xdO dx fs)/\fs.length<1000/\D.nx σ (upd H2 dx (xdO dx (d8 f y fs))))
section
variable {X:Cx} {pins:List (Addr×Obj)} {σ:St} {H:Hp} {s:LV} {a C i dx:Addr} {fs:List (Str×V)} {f:Str} {y:V} {u:Value} {A:MQ} {E:Value->LV->Prop}
def IA {Q:Unit->LV->Prop} (I:Inv X pins σ H s) (e:H a=some (dH a C none)) (c:iT X.K C i) (n:bO X.K C f) (ry:RelV y u)
  (h:∀ dx s',H dx=none->Inv X pins σ (upd (upd H a (dH a C (some dx))) dx (xdO dx [(f,y)])) s'->Q () s'):wpAny (model X.prog X.w) A (setAttr (.ref a) f u) Q E s:=by
 obtain ⟨⟨oe,vs,e1,e2,e3,e4,e5⟩,_,_⟩:=(show bA X.prog X.w H s.heap a (dH a C none) from I.hok a _ e);obtain ⟨oc,od,odt,sl⟩:=oe;dsimp only at e2 e3 e4;subst e2 e3 e4;refine FF I.kIn e1 c n fun h' hn hs=>?_;have fr:=I.hok.fresh (Mb s.heap.objs.size);have nea:s.heap.objs.size≠a:=OI (L6 e1);have g1:(s.heap.push MN).get? s.heap.objs.size=some MN:=Mo s.heap rfl;have I1:=I.laid (a:=s.heap.objs.size) (o:=xdO s.heap.objs.size []) (h':=s.heap.push MN) (t':=s.toks+2) (fun b u q=>LW _ q) (Mb _)
  (zw ⟨fun _=>none,Rl ⟨MN,#[],_,g1,rfl,(fun e he=>absurd he (by simp)),fun _=>rfl⟩,fun _=>NO⟩)
 have ea:upd H s.heap.objs.size (xdO s.heap.objs.size []) a=some (dH a C none):=by rw [aA (NJ nea)];exact e
 have g2:=NC (fun o:Obj=>{ o with dict:=some s.heap.objs.size }) (LW MN e1) rfl;have I2:=I1.write (x:=a) (e:=a) (o:=dH a C (some s.heap.objs.size)) (t':=s.toks+2) (h':=(s.heap.push MN).update a fun o=>{ o with dict:=some s.heap.objs.size }) (by rw [ea];exact NO) (.inl rfl) (fun b q hb z=>(Nb _ _ (NJ hb)).trans z) ⟨_,g2⟩
  (Be ⟨_,vs,g2,rfl,rfl,rfl,e5⟩)
 have en:upd (upd H s.heap.objs.size (xdO s.heap.objs.size [])) a (dH a C (some s.heap.objs.size)) s.heap.objs.size=some (xdO s.heap.objs.size []):=by rw [aA nea,ar]
 have I3:=I2.write (x:=s.heap.objs.size) (e:=s.heap.objs.size) (o:=xdO s.heap.objs.size [(f,y)]) (t':=s.toks+2) (h':=h') (by rw [en];exact NO) (.inl rfl) (fun b q hb z=>(hs.2 b hb).trans z) (let ⟨o,_,_,e',_⟩:=hn;⟨o,e'⟩)
  (zw ⟨_,hn,fun g=>by
   by_cases q:g=f
   ·subst q;rw [if_pos rfl,Ph];exact ry
   ·rw [if_neg q];have:PU g [(f,y)]=none:=by
     rw [Nh];have z:(g == f)=false:=by simpa using q
     rw [z];rfl
    rw [this];exact NO⟩)
 rw [JA] at I3;exact h _ _ fr I3
def Ir {Q:Unit->LV->Prop} (I:Inv X pins σ H s) (e:H a=some (dH a C (some dx))) (ed:H dx=some (xdO dx fs)) (hl:fs.length<1000) (c:iT X.K C i) (n:bO X.K C f) (ry:RelV y u)
  (h:∀ s',Inv X pins σ (upd H dx (xdO dx (d8 f y fs))) s'->Q () s'):wpAny (model X.prog X.w) A (setAttr (.ref a) f u) Q E s:=by
 obtain ⟨⟨oe,vs,e1,e2,e3,e4,e5⟩,_,_⟩:=(show bA X.prog X.w H s.heap a (dH a C (some dx)) from I.hok a _ e);obtain ⟨oc,od,odt,sl⟩:=oe;dsimp only at e2 e3 e4;subst e2 e3 e4;obtain ⟨⟨mA,hn,r⟩,_,_⟩:=(show bA X.prog X.w H s.heap dx (xdO dx fs) from I.hok dx _ ed);have wi:QW mA (fs.map (·.1)):=fun g hg=>by
  have z:=r g;cases q:fs.lookup g with
  | none=>rw [q] at z;exact absurd (fL.none_of z) hg
  | some v =>
   rcases Classical.em (g∈fs.map (·.1)) with m|m
   ·exact m
   ·rw [pP m] at q;cases q
 refine Hh I.kIn e1 hn wi (by rw [LX,MX];omega) c n fun h' hn' hs=>h _ ?_
 refine I.write (x:=dx) (e:=dx) (by rw [ed];exact NO) (.inl rfl) (fun b q hb z=>(hs.2 b hb).trans z) (let ⟨o,_,_,e',_⟩:=hn';⟨o,e'⟩) (zw ⟨_,hn',fun g=>?_⟩)
 rw [gB]
 by_cases q:g=f
 ·rw [if_pos q,if_pos q];exact ry
 ·rw [if_neg q,if_neg q];exact r g
def oI {o value:Expr} {pos pos':Pos} {ta tv:TE} (K:LO) (hK:X.K=K) (ha:PE X o ta) (hv:PE X value tv) (hs:swapsWith value (some (.Attribute o f pos')) pos.line X.env=pure false):PS X (.Assign [.Attribute o f pos'] value pos) (Kw K ta tv f):=by
 subst hK;intro pins s σ H D I h;refine Qi (thn (hv pins s σ H _ I h) fun u s1 ⟨y,H1,I1,ry,q⟩=>thn (ha pins s1 σ H1 _ I1 q) fun ov s2 ⟨x,H2,I2,rx,a,C,i,ex,c,n,q2⟩=>?_) hs;subst ex;obtain rfl:ov=Mt a:=rx;rcases q2 with ⟨e,q2⟩|⟨dx,fs,e,ed,hl,q2⟩
 ·exact IA I2 e c n ry fun dx s3 hd I3=>⟨σ,_,I3,q2 dx hd⟩
 ·exact Ir I2 e ed hl c n ry fun s3 I3=>⟨σ,_,I3,q2⟩
end
section
variable {prog:Mi} {w:World} {A:MQ} {E:Value->LV->Prop} {s:LV} {env:Env} {C:Addr} {Q:Flow->LV->Prop}
def Dn {N:Addr} {nm qn:Str} {bs bm:List Value} {hdct:Bool} {sn:List Str} {sub:List Value} {ab:Bool} {col:Option Bool} {dd:Option Addr} {k0 k1 k2 k3 k5:Option Value} {newId:String} {x:Sem Value} (hB:bm.contains (.type "BaseException")=true) (hh:A.handled=none)
  (h:wpAny (model prog w) A x (fun v s₁=>∃ e d,v=.ref e/\s₁.heap.get? C=some (excClassObj nm qn C N bs bm hdct sn sub ab col dd k0 k1 k2 k3 k5 newId)/\lR s₁.heap e C d/\E (.ref e) s₁) E s) :
  wpAny (model prog w) A (raiseStmt env (some x) none) Q E s:=by
 have hcB:(Mt C :: bm).contains (.type "BaseException")=true:=by rw [List.contains_cons,hB,Bool.or_true]
 unfold raiseStmt;refine LQ (Nc h (fun v s₁ ⟨e,di,ev,hC,⟨oe,vs,he,hc,hd,hf,h1⟩,hE⟩=>?_) fun _ _ z=>z);subst ev;obtain ⟨hp,g,d,tk,os⟩:=s₁;obtain ⟨oc,od,odt,sl⟩:=oe;dsimp only at hc hd hf;subst hc hd hf
 repeat (first|with_reducible refine Pr hC ?_|with_reducible refine Pr he ?_|(with_reducible refine Ob he rfl h1 ?_)|(with_reducible refine Tb hC ?_;rw [hcB])|wp_step)
 exact wpAny_raiseNew_none hh hE
end
def AZ (C:Addr) (sp:Sp) (E:XK) (ta:TA):TS:=fun _ σ H=>ta σ H fun vs H1=>vs.length<=My/\∀ y,H1 y=none ->
 sp (.ref y :: vs) (upd H1 y (dH y C none)) (fun v H2=>v=.non/\∃ d,H2 y=some (dH y C d)/\E (.ref C) d (del H2 y)) E0
section
variable {X:Cx} {pins:List (Addr×Obj)} {σ:St} {H:Hp} {s:LV} {E:XK} {C:Addr}
def Inv.drop {n:Addr} {φ:Heap->Prop} (I:Inv X pins σ H s) (e:H n=some (.ext φ)) (nx:X.s₀.heap.get? n=none):Up X pins σ (del H n) s n []:=by
 have ne:∀ b,H b=none->del H n b=none:=fun b z=>by unfold del;split <;> first|rfl|exact z
 have nn:∀ b u,H b=some u->u≠.ext φ->del H n b=some u:=fun b u q z=>by
  rw [eM (fun y=>z (by rw [y,e] at q;cases q;rfl))];exact q
 refine ⟨⟨I.ok,I.os,I.bare,⟨I.base.keep,I.base.slot,fun b o q m hx=>ne b (I.base.free b o q m hx),I.base.there,fun b xs q=>nn b _ (I.base.gv b xs q) (by intro z;cases z),fun b o u q=>nn b _ (I.base.f7 b o u q) (by intro z;cases z),fun b ps q=>?_⟩,
  I.loc,I.cell,ne _ I.free,fun x c q=>ne _ (I.eJ x c q),fun p hp=>?_,fun b u q=>?_,I.len⟩,by unfold del;rw [if_pos rfl],fun b hb=>absurd hb (by simp),nx,fun b hb=>absurd hb (by simp),fun p hp=>⟨fun z=>?_,by simp⟩⟩
 ·obtain ⟨m,q⟩:=I.base.gA b ps q;exact ⟨m,nn b _ q (by intro z;cases z)⟩
 ·obtain ⟨a1,a2,a3⟩:=I.pin p hp;exact ⟨a1,ne _ a2,a3⟩
 ·have bn:b≠n:=fun z=>by unfold del at q;rw [if_pos z] at q;cases q
  rw [eM bn] at q;exact (I.hok b u q).kF (fun _ _ _ z=>z) (fun c z=>nn c _ z (by intro y;cases y)) fun c xs z=>nn c _ z (by intro y;cases y)
 ·have q:=(I.pin p hp).2.1;rw [z,e] at q;cases q
def oV {k:Nat} {f:Addr} {fd:Na} {ps:List Str} {sp:Sp} {x:Str} {np cpos pos:Pos} {e:Expr} {es:List Expr} {ta:TA} (c:iT X.K C f) (F:aH X.prog X.w X.K X.mg X.base CX0 k f fd ps sp) (hb:Binds X.K fd ps []) (hr:bX (k+1) X.A)
  (hL:Lets X E) (hex:X.ex=[]) (hcalm:X.calm=true) (hg:Gl X x) (hm:X.mg x=some (.ref C)) (ha:PA X (e :: es) ta) (hn:isStar e=false:=by rfl) (hall:es.all (fun e=>!isStar e)=true:=by rfl) (hdb:(x == ("__debug__" : Str))=false:=by decide) :
  PS X (.Raise (some (.Call (.Name x np) (e :: es) [] cpos)) none pos) (AZ C sp E ta):=by
 intro pins s σ H D I h;obtain ⟨bm,N,nm,qn,bs,hdct,sn,sub,ab,col,dd,k0,k1,k2,k3,k5,hC,T⟩:=uy I.mod.kin c.ob;have hB:=T.hasType Pw.hasBase;rw [arm_exec_Raise];refine LQ (P0 (Dn (C:=C) (nm:=nm) (qn:=qn) (N:=N) (bs:=bs) (bm:=bm) (hdct:=hdct) (sn:=sn) (sub:=sub) (ab:=ab) (col:=col) (dd:=dd) (k0:=k0) (k1:=k1) (k2:=k2) (k3:=k3) (k5:=k5) (newId:=ot) hB (I.ok.hd hcalm) ?_));refine LQ (Nc (OL (jd I hg hm ?_ hdb)) (fun v s3 h3=>LQ (P0 (L4 h3))) fun _ _ z=>z);refine P1 (h₀:=X.base) I.ok.mod.kin c.kp (thn (ha cpos pins s σ H _ I h) fun us s1 ⟨vs,H1,I1,r,hz,q⟩=>⟨I1.kIn,?_⟩) (bz hn) (cz hall);have fr:s1.heap.objs.size<=s1.heap.objs.size+1:=OC _;have hq:=q (s1.heap.objs.size+1) (I1.hok.fresh fr);have hx:((s1.heap.push (qc us)).push (pb C s1.heap.objs.size)).get? (s1.heap.objs.size+1)=some (pb C s1.heap.objs.size):=by heap_get
 have I2:Inv X pins σ (upd H1 (s1.heap.objs.size+1) (dH (s1.heap.objs.size+1) C none)) { s1 with heap:=(s1.heap.push (qc us)).push (pb C s1.heap.objs.size) } :=
  I1.laid (t':=s1.toks) (fun b u q=>LW _ (LW _ q)) fr (Be ⟨_,_,hx,rfl,rfl,rfl,rfl⟩)
 have r2:Vals (V.ref (s1.heap.objs.size+1) :: vs) (Mt (s1.heap.objs.size+1) :: us):=.cons rfl r;have hl:(Mt (s1.heap.objs.size+1) :: us++[]).length=ps.length:=by
  have e:=r2.length;rw [F.len _ _ _ _ hq] at e;rw [NS];exact e.symm
 have hb':=hb _ (Mt (s1.heap.objs.size+1) :: us) I2.kIn hl;rw [NS] at hb';refine Rm (GG I1.kIn c (show us.length<=My by rw [<- r.length];exact hz) (OJ (F.run _ X.stack _ _ ⟨Mt (s1.heap.objs.size+1) :: us,[]⟩ (Mt (s1.heap.objs.size+1) :: us) _ _ _ (hr.make C us []) (I2.DF.make C us []) hb' r2 hq) fun r s' hq'=>?_))
 cases r with
 | error e=>exact Nd hq'
 | ok fl =>
  cases fl with
  | ret u =>
   obtain ⟨v,H',I3,rv,ev,d,hy,qE⟩:=I2.after hq';subst ev;obtain ⟨hN,_,_⟩:=(show bA X.prog X.w H' s'.heap _ (dH (s1.heap.objs.size+1) C d) from I3.hok _ _ hy);exact ⟨rv,_,d,rfl,I3.bk _ _ hC,hN,hL pins σ _ s' _ C d (I3.drop hy (SS (M7 I1.sz fr))) hN qE⟩
  | next=>exact Nd hq'
  | brk=>exact Nd hq'
  | cont=>exact Nd hq'
end
section
open PySem.Calls PySem.Builtin PySem.Builtin.ObjectAttr
variable {prog:Mi} {w:World} {A:MQ} {E:Value->LV->Prop} {K:LO} {x C dx:Addr} {di:Option Addr} {h:Heap} {g:Array Qr} {d:Drawn} {t:Nat} {os:OsState} {name:Str} {v:Value} {mA:Str->Option Value}
def Hf {M:Model} (X:K.In h) (e:gL x C (some dx) h) (hn:h.Ns1 dx mA) (hd:NG K C=true) (ha:bO K C name) (hv:mA name=some v):Ot M h (find (.ref x) (.ref C) name) (.value v):=by
 obtain ⟨⟨oc,od,odt,sl⟩,vs,e1,e2,e3,e4⟩:=e;dsimp only at e2 e3 e4;subst e2 e3 e4;obtain ⟨od,ho,hl⟩:=pX hn;exact PySem.W.looks_find X (ox:=⟨.ref C,some dx,.fields vs,sl⟩) ⟨e1,rfl,rfl,ho⟩ (S6 hd ha rfl (by rw [hl,hv]))
def IE {expr:Bool} {Q:Value->LV->Prop} (X:K.In h) (c:cx K C) (e:gL x C (some dx) h) (hn:h.Ns1 dx mA) (hd:NG K C=true) (ha:bO K C name) (hv:mA name=some v) (hv':RU v=true)
  (hq:Q v ⟨h,g,d,t+1,os⟩):wpAny (model prog w) A (getAttr (.ref x) name expr) Q E ⟨h,g,d,t,os⟩:=by
 have L0:=mq (M:=model prog w) e;have L1:=NL (M:=model prog w) X c.ga;have L2:=NL (M:=model prog w) X c.gt;have L3:=Hf (M:=model prog w) X e hn hd ha hv;have f3:=Pd.ga.bind (.ref x);have ho:=PySem.W.handedOut_of hv';unfold getAttr getAttrBy;refine LQ (wpAny_mkText (M4 (LQ (L0.at (LQ (L1.at ?_))))));show wpAny _ _ (getAttrByItsOwn _ _ _ _ _ _) _ _ _;unfold getAttrByItsOwn hookBefore;refine LQ ?_;rw [if_pos (by rfl)]
 refine L2.at ?_;refine LQ (Pq (M4 ?_));unfold callGetattribute;rw [show (expr && onTheHeap (Value.builtin "BaseException.__getattribute__"))=false by cases expr <;> rfl,if_neg (by decide)]
 unfold boundAndCalled
 repeat (any_goals (first|assumption|wp_step))
 refine OR Pd.ga.plain F.entry_bexc_ga (vv X c e ?_)
 repeat (any_goals (first|assumption|with_reducible refine PySem.W.Looks.at (by assumption) ?_|wp_step))
end
def Kh (K:LO) (ta:TE) (f:Str):TE:=fun σ H Q=>ta σ H fun x H1=>∃ a C dx fs v,x=.ref a/\H1 a=some (fM a C (some dx))/\H1 dx=some (xdO dx fs)/\cx K C/\NG K C=true/\bO K C f/\fs.lookup f=some v/\Q v H1
def BP {X:Cx} {e:Expr} {f:Str} {pos:Pos} {ta:TE} (K:LO) (hK:X.K=K) (he:PE X e ta) (hb:attributeBase e f X.env (eval e X.env)=eval e X.env):PE X (.Attribute e f pos) (Kh K ta f):=by
 subst hK;intro pins s σ H Q I h;refine Bj hb (thn (he pins s σ H _ I h) fun u s1 ⟨x,H1,I1,rx,a,C,dx,fs,v,ex,ea,ed,c,hd,n,l,q⟩=>?_);subst ex;obtain rfl:u=Mt a:=rx;obtain ⟨p,_,_⟩:=(show bA X.prog X.w H1 s1.heap a (fM a C (some dx)) from I1.hok a _ ea);obtain ⟨⟨mA,hn,r⟩,_,_⟩:=(show bA X.prog X.w H1 s1.heap dx (xdO dx fs) from I1.hok dx _ ed);obtain ⟨w',hw,rw'⟩:=fL.some_of (v:=v) (o:=mA f) (by rw [<- l];exact r f)
 obtain ⟨hh,g,d,t,os⟩:=s1;exact IE I1.kIn c p hn hd n hw (vB rw') ⟨v,H1,I1.tok _,rw',q⟩
section
variable {K:LO} {σ:St} {H:Hp} {Q:VK} {D:Ends} {ta tv:TE} {tA:TA} {f:Str} {E:XK} {C:Addr} {sp:Sp}
def HG (h:ta σ H fun x H1=>∃ a C dx fs v,x=.ref a/\H1 a=some (fM a C (some dx))/\H1 dx=some (xdO dx fs)/\cx K C/\NG K C=true/\bO K C f/\fs.lookup f=some v/\Q v H1):Kh K ta f σ H Q:=h
def rP (h:tA σ H fun vs H1=>vs.length<=My/\∀ y,H1 y=none ->
 sp (.ref y :: vs) (upd H1 y (dH y C none)) (fun v H2=>v=.non/\∃ d,H2 y=some (dH y C d)/\E (.ref C) d (del H2 y)) E0):AZ C sp E tA D σ H:=h
def oB (h:tv σ H fun y H1=>ta σ H1 fun x H2=>∃ a C i,x=.ref a/\iT K C i/\bO K C f /\
 ((H2 a=some (dH a C none)/\∀ dx,H2 dx=none->D.nx σ (upd (upd H2 a (dH a C (some dx))) dx (xdO dx [(f,y)]))) \/
  ∃ dx fs,H2 a=some (dH a C (some dx))/\H2 dx=some (xdO dx fs)/\fs.length<1000/\D.nx σ (upd H2 dx (xdO dx (d8 f y fs))))):Kw K ta tv f D σ H:=h
end
def Fld (H:Hp) (d:Option Addr) (l:List (Str×V)):Prop:=∃ dx fs,d=some dx/\H dx=some (xdO dx fs)/\∀ p∈l,fs.lookup p.1=some p.2
def Fld.mono {H H':Hp} {d:Option Addr} {l:List (Str×V)} (s:aj H H'):Fld H d l->Fld H' d l
 | ⟨dx,fs,e,h,k⟩=>⟨dx,fs,e,s _ _ h,k⟩
def xB (C:Addr) (ns:List Str):Sp:=fun vs H Q _=>∃ (x:Addr) (as:List V),vs=.ref x :: as/\as.length=ns.length/\H x=some (dH x C none) /\
 ∀ dx fs,H dx=none->(∀ p∈ns.zip as,fs.lookup p.1=some p.2)->Q .non (upd (upd H x (dH x C (some dx))) dx (xdO dx fs))
def rO {H:Hp} {E:XK} {C:Addr} {vs:List V} {ns:List Str} (hl:vs.length=ns.length) (hz:vs.length<=1000) (h:∀ d H2,aj H H2->Fld H2 d (ns.zip vs)->E (.ref C) d H2) :
  vs.length<=My/\∀ y,H y=none->xB C ns (.ref y :: vs) (upd H y (dH y C none)) (fun v H2=>v=.non/\∃ d,H2 y=some (dH y C d)/\E (.ref C) d (del H2 y)) E0:=by
 refine ⟨small hz,fun y hy=>⟨y,vs,rfl,hl,ar,fun dx fs hd hf=>⟨rfl,some dx,?_,?_⟩⟩⟩
 ·have ne:dx≠y:=fun z=>by rw [z,ar] at hd;cases hd
  rw [aA (NJ ne),ar]
 ·have ne:dx≠y:=fun z=>by rw [z,ar] at hd;cases hd
  rw [aA ne] at hd;refine h _ _ (fun b o q=>?_) ⟨dx,fs,rfl,?_,hf⟩
  ·rw [eM (aQ q hy),aA (aQ q hd),aA (aQ q hy),aA (aQ q hy)];exact q
  ·rw [eM ne,ar]
def flagsOf (K:LO) (C:Addr) (Ds:List Addr):List (Option Bool):=Ds.map fun D=>Nw K (.ref C) (.ref D)
def tO (n k:Nat):List Bool:=(LY n).map fun i=>decide (i=k)
section
variable {P:Mi} {w:World} {K:LO} {mg:Str->Option Value} {base:Heap} {x qual:Str} {st:Stmt} {f:Addr} {fd:Na} {N ps:List Str} {k:Nat} {sp:Sp}
def fW.okX (F:fW K x qual st f fd) (S:aK N ps (ak st)) (len:∀ vs H Q E,sp vs H Q E->vs.length=ps.length)
  (hbody:∀ (cdv:Value) (A:MQ) (outer:List Env) (s:LV) (H:Hp) (vs:List V) (Q:VK) (E:XK),bX k (A.deeper (envOfC qual (ak st) s.heap.objs.size f cdv))->sp vs H Q E ->
   ∃ t,((cxR P w K mg base N qual (ak st) f cdv A outer s H E).Ok->PSs (cxR P w K mg base N qual (ak st) f cdv A outer s H E) (bC st) t)/\t { nx:=fun _ H'=>Q .non H',rt:=Q } (start N vs) H):aH P w K mg base (CXR P w) (k+1) f fd ps sp:=by
 obtain ⟨oc,od,D,kV,doc,pm,an,cdv,ct,osl,dc,dd,n,dsl,rfl,lk,hcd,_⟩:=F.ex;refine xR lk hcd S len fun A outer s H vs Q E hr hsp=>?_;obtain ⟨t,h,q⟩:=hbody cdv A outer s H vs Q E hr hsp;exact ⟨t,fun pins s' σ H' D I z=>Nc (h (I.fY _).ok pins s' σ H' D (I.fY _) z) (fun _ _ y=>y.dN) fun _ _ y=>vM y,q⟩
end
section
variable {X:Cx} {x y:Str} {st:Stmt} {ps:List Str} {k j:Nat} {sp:Sp} {p pos:Pos} {e:Expr} {es:List Expr} {t:TA} {E:XK}
def oG (d:DfD X.K X.mg x st ps y j) (G:aH X.prog X.w X.K X.mg X.base (CXR X.prog X.w) k d.f d.fd ps sp) (hr:bX k X.A) (hg:Gl X x) (hx:Passes (CXR X.prog X.w) X E) (ha:PA X (e :: es) t) (hn:isStar e=false:=by rfl) (hall:es.all (fun e=>!isStar e)=true:=by rfl) (hdb:(x == ("__debug__" : Str))=false:=by decide) :
  PE X (.Call (.Name x p) (e :: es) [] pos) (nG sp [] E t):=qr G hr hg d.nm d.fn.kp d.bd .nil hx ha hdb (bz hn) (cz hall)
end
def aH.orR {P:Mi} {w:World} {K:LO} {mg:Str->Option Value} {base:Heap} {k:Nat} {f:Addr} {fd:Na} {ps:List Str} {sp1 sp2:Sp} (F1:aH P w K mg base (CXR P w) k f fd ps sp1) (F2:aH P w K mg base (CXR P w) k f fd ps sp2):aH P w K mg base (CXR P w) k f fd ps (fun vs H Q E=>sp1 vs H Q E\/sp2 vs H Q E) :=
 ⟨fun vs H Q E h=>h.elim (F1.len vs H Q E) (F2.len vs H Q E),fun A outer s H args us vs Q E hr he hb hv h=>h.elim (F1.run A outer s H args us vs Q E hr he hb hv) (F2.run A outer s H args us vs Q E hr he hb hv)⟩
section
variable {prog:Mi} {w:World} {A:MQ} {R:Rj->LV->Prop} {s:LV}
end
section
variable {X:Cx} {scope:Scope} {own:List Str} {fr fp:List Addr} {C:Addr} {s₂:LV} {H₂:Hp} {E:XK} {pins:List (Addr×Obj)} {σ:St}
end
section
variable {X:Cx} {elt tg iter:Expr} {ifs:List Expr} {scope:Scope} {pos:Pos} {own:List Str} {fr:List Nat} {wi:TI} {g:TG} {tt:TT} {te:TE}
end
end L2
namespace L2
open PySem PySem.W PyProof.Rows
def bu {α:Type} (lt:Nat->Nat->Bool):KasT α->α
 | .ret a=>a
 | .ask i j k=>bu lt (k (lt i j))
def ie {α β:Type} (lt:Nat->Nat->Bool) (f:α->KasT β):∀ t:KasT α,bu lt (t.bind f)=bu lt (f (bu lt t))
 | .ret _=>rfl
 | .ask i j k=>ie lt f (k (lt i j))
section
variable {lt:Nat->Nat->Bool}
def gW (lt:Nat->Nat->Bool) (p:Array Nat) (n:Nat):Prop:=∀ i j,i<=j->j<n->lt (p.getD j 0) (p.getD i 0)=false
def iJ (lt:Nat->Nat->Bool) (p:Array Nat) (n:Nat):Prop:=∀ i j,i<=j->j<n->lt (p.getD i 0) (p.getD j 0)=false
structure jL (lt:Nat->Nat->Bool):Prop where
 irr:∀ a,lt a a=false
 as:∀ {a b},lt a b=true->lt b a=false
 tr:∀ {a b c},lt b a=false->lt c b=false->lt c a=false
def getD_eq {p:Array Nat} {i:Nat}:p.getD i 0=(p[i]?).getD 0:=by
 by_cases h:i<p.size <;> simp [Array.getD,h]
def rev_getD {p:Array Nat} {i j:Nat} (hj:j<=p.size) (k:Nat):(QD p i j).getD k 0=if i<=k/\k<j then p.getD (i+j - 1 - k) 0 else p.getD k 0:=by
 unfold QD;rw [getD_eq,getElem?_mirror_all hj]
 split <;> rw [getD_eq]
def yB {p:Array Nat} {k l:Nat} (hk:k<p.size) (hl:l<=k) (i:Nat):(bubble p k (k - l)).getD i 0=if i=l then p.getD k 0 else if l<i/\i<=k then p.getD (i - 1) 0 else p.getD i 0:=by
 rw [getD_eq,getElem?_bubble hk _ (by omega),show k - (k - l)=l from by omega]
 by_cases c:i=l
 ·rw [if_pos c,if_pos c,<- getD_eq]
 ·rw [if_neg c,if_neg c]
  by_cases c':l<i/\i<=k
  ·rw [if_pos c',if_pos c',<- getD_eq]
  ·rw [if_neg c',if_neg c',<- getD_eq]
def um (W:jL lt) (p:Array Nat):∀ f n,1<=n->gW lt p n->n<=bu lt (SD p f n)/\bu lt (SD p f n)<=n+f/\gW lt p (bu lt (SD p f n)) /\
  (bu lt (SD p f n)<n+f->lt (p.getD (bu lt (SD p f n)) 0) (p.getD (bu lt (SD p f n) - 1) 0)=true)
 | 0,n,_,h=>⟨Mb _,Mb _,h,fun z=>absurd z (Oo _)⟩
 | f+1,n,h1,h=>by
  unfold SD;simp only [bu];cases e:lt (p.getD n 0) (p.getD (n - 1) 0) with
  | true =>
   simp only [if_true,bu];exact ⟨Mb _,by omega,h,fun _=>e⟩
  | false =>
   simp only [MV,if_false];have h':gW lt p (n+1):=fun i j hij hj=>by
    rcases Mv j n with c|c
    ·exact h i j hij c
    ·have:j=n:=by omega
     subst this;rcases Mv i j with c' | c'
     ·exact W.tr (h i (j - 1) (by omega) (by omega)) e
     ·have:i=j:=by omega
      subst this;exact W.irr _
   obtain ⟨a1,a2,a3,a4⟩:=um W p f (n+1) (by omega) h'
   exact ⟨by omega,by omega,a3,fun z=>a4 (by omega)⟩
def Jv {p:Array Nat} {n:Nat} (hn:n<=p.size) (h:iJ lt p n):gW lt (QD p 0 n) n:=fun i j hij hj=>by
 rw [rev_getD hn,rev_getD hn,if_pos ⟨MI _,hj⟩,if_pos ⟨MI _,by omega⟩]
 exact h _ _ (by omega) (by omega)
def oR (lt:Nat->Nat->Bool) (p:Array Nat) (n q:Nat):Prop:=q<n/\∀ i j,n - (q+1)<=i->i<n->n - (q+1)<=j->j<n->lt (p.getD i 0) (p.getD j 0)=false
def zO {p:Array Nat} {n q:Nat} (hn:n<=p.size) (h:iJ lt p n) (ha:oR lt p n q):iJ lt (QD p (n - (q+1)) n) n:=fun i j hij hj=>by
 have hq:=ha.1;rw [rev_getD hn,rev_getD hn]
 by_cases ci:n - (q+1)<=i
 ·rw [if_pos ⟨ci,by omega⟩,if_pos ⟨by omega,hj⟩]
  exact ha.2 _ _ (by omega) (by omega) (by omega) (by omega)
 ·rw [if_neg (by omega)]
  by_cases cj:n - (q+1)<=j
  ·rw [if_pos ⟨cj,hj⟩];exact h _ _ (by omega) (by omega)
  ·rw [if_neg (by omega)]
   exact h _ _ hij hj
def lD (W:jL lt) {p:Array Nat} {n:Nat} (h1:1<=n) (h:iJ lt p n) (e:lt (p.getD (n - 1) 0) (p.getD n 0)=false):iJ lt p (n+1):=fun i j hij hj=>by
 rcases Mv j n with c|c
 ·exact h i j hij c
 ·have:j=n:=by omega
  subst this;rcases Mv i j with c' | c'
  ·exact W.tr e (h i (j - 1) (by omega) (by omega))
  ·have:i=j:=by omega
   subst this;exact W.irr _
def mQ (W:jL lt):∀ f (p:Array Nat) n q,1<=n->n+f<=p.size->iJ lt p n->oR lt p n q ->
  (bu lt (Qw f p n q)).1.Perm p/\n<=(bu lt (Qw f p n q)).2.1/\(bu lt (Qw f p n q)).2.1<=n+f/\iJ lt (bu lt (Qw f p n q)).1 (bu lt (Qw f p n q)).2.1 /\
   oR lt (bu lt (Qw f p n q)).1 (bu lt (Qw f p n q)).2.1 (bu lt (Qw f p n q)).2.2
 | 0,p,n,q,_,_,h,ha=>⟨Pj _,Mb _,Mb _,h,ha⟩
 | f+1,p,n,q,h1,hz,h,ha=>by
  unfold Qw;simp only [bu];cases e:lt (p.getD n 0) (p.getD (n - 1) 0) with
  | true =>
   simp only [if_true];have e':=W.as e;have one:∀ p':Array Nat,oR lt p' (n+1) 0:=fun p'=>⟨by omega,fun i j a b c d=>by
    have:i=n:=by omega
    have:j=n:=by omega
    subst i;subst j;exact W.irr _⟩
   split
   ·have hn:n<=p.size:=by omega
    have d1:=zO hn h ha;have hq:=ha.1;have d2:iJ lt (QD p (n - (q+1)) n) (n+1):=lD W h1 d1 (by
     rw [rev_getD hn,rev_getD hn,if_pos ⟨by omega,by omega⟩,if_neg (by omega)]
     exact W.tr e' (ha.2 _ _ (by omega) (by omega) (by omega) (by omega)))
    obtain ⟨a1,a2,a3,a4,a5⟩:=mQ W f (QD p (n - (q+1)) n) (n+1) 0 (by omega) (by rw [TV];omega) d2 (one _)
    exact ⟨a1.trans (RM _ _ _ _),by omega,by omega,a4,a5⟩
   ·obtain ⟨a1,a2,a3,a4,a5⟩:=mQ W f p (n+1) 0 (by omega) (by omega) (lD W h1 h e') (one _)
    exact ⟨a1,by omega,by omega,a4,a5⟩
  | false =>
   simp only [MV,if_false];rw [bu];cases e2:lt (p.getD (n - 1) 0) (p.getD n 0) with
   | true =>
    simp only [if_true,bu];exact ⟨Pj _,Mb _,by omega,h,ha⟩
   | false =>
    simp only [MV,if_false];have hq:=ha.1;have al:oR lt p (n+1) (q+1):=⟨by omega,fun i j a b c d=>by
     rcases Mv i n with ci|ci <;> rcases Mv j n with cj|cj
     ·exact ha.2 _ _ (by omega) ci (by omega) cj
     ·have:j=n:=by omega
      subst this;exact W.tr e2 (ha.2 i (j - 1) (by omega) ci (by omega) (by omega))
     ·have:i=n:=by omega
      subst this;exact W.tr (ha.2 (i - 1) j (by omega) (by omega) (by omega) cj) e
     ·have:i=n:=by omega
      have:j=n:=by omega
      subst i;subst j;exact W.irr _⟩
    obtain ⟨a1,a2,a3,a4,a5⟩:=mQ W f p (n+1) (q+1) (by omega) (by omega) (lD W h1 h e2) al
    exact ⟨a1,by omega,by omega,a4,a5⟩
def zI (W:jL lt) {p:Array Nat} {n nrem:Nat} (h1:1<=n) (hn:n<=nrem) (hz:nrem<=p.size) (h:iJ lt p n) :
  (bu lt (Ru n nrem p)).2.Perm p/\1<=(bu lt (Ru n nrem p)).1/\(bu lt (Ru n nrem p)).1<=nrem/\gW lt (bu lt (Ru n nrem p)).2 (bu lt (Ru n nrem p)).1:=by
 unfold Ru;rw [ie];simp only [bu];obtain ⟨a1,a2,a3,a4⟩:=um W (QD p 0 n) (nrem - n) n h1 (Jv (by omega) h)
 exact ⟨RM _ _ _ _,by omega,by omega,a3⟩
def oN (W:jL lt) {p:Array Nat} {n nrem:Nat} (h1:1<=n) (hn:n+1<=nrem) (hz:nrem<=p.size) (h:iJ lt p n) (e:lt (p.getD n 0) (p.getD (n - 1) 0)=true) :
  (bu lt (PZ n nrem p)).2.Perm p/\1<=(bu lt (PZ n nrem p)).1/\(bu lt (PZ n nrem p)).1<=nrem/\gW lt (bu lt (PZ n nrem p)).2 (bu lt (PZ n nrem p)).1:=by
 unfold PZ;rw [ie];obtain ⟨a1,a2,a3,a4,a5⟩:=mQ W (nrem - (n+1)) p (n+1) 0 (by omega) (by omega) (lD W h1 h (W.as e)) ⟨by omega,fun i j a b c d=>by
  have:i=n:=by omega
  have:j=n:=by omega
  subst i;subst j;exact W.irr _⟩
 generalize bu lt (Qw (nrem - (n+1)) p (n+1) 0)=r at a1 a2 a3 a4 a5;have sz:r.1.size=p.size:=a1.size_eq
 split
 ·obtain ⟨b1,b2,b3,b4⟩:=zI W (p:=QD r.1 (r.2.1 - (r.2.2+1)) r.2.1) (n:=r.2.1) (nrem:=nrem) (by omega) (by omega) (by rw [TV];omega) (zO (by omega) a4 a5)
  exact ⟨b1.trans ((RM _ _ _ _).trans a1),b2,b3,b4⟩
 ·obtain ⟨b1,b2,b3,b4⟩:=zI W (p:=r.1) (n:=r.2.1) (nrem:=nrem) (by omega) (by omega) (by omega) a4
  exact ⟨b1.trans a1,b2,b3,b4⟩
def ER (W:jL lt) {p:Array Nat} {nrem:Nat} (h1:1<=nrem) (hz:nrem<=p.size) :
  (bu lt (QR nrem p)).2.Perm p/\1<=(bu lt (QR nrem p)).1/\(bu lt (QR nrem p)).1<=nrem/\gW lt (bu lt (QR nrem p)).2 (bu lt (QR nrem p)).1:=by
 unfold QR;rw [ie];obtain ⟨a1,a2,a3,a4⟩:=um W p (nrem - 1) 1 (Mb _) (fun i j hij hj=>by
  have:i=0:=by omega
  have:j=0:=by omega
  subst i;subst j;exact W.irr _)
 generalize bu lt (SD p (nrem - 1) 1)=n at a1 a2 a3 a4
 split
 ·exact ⟨Pj _,a1,by show n<=nrem;omega,a3⟩
 ·rename_i hne
  have hlt:n+1<=nrem:=by
   have:n≠nrem:=fun q=>hne (by rw [q];exact beq_self_eq_true _)
   omega
  have e:=a4 (by omega)
  split
  ·rename_i h2
   simp only [bu];cases c:lt (p.getD 0 0) (p.getD (n - 1) 0) with
   | true =>
    simp only [if_true,bu];exact ⟨Pj _,a1,by omega,a3⟩
   | false =>
    simp only [MV,if_false];have all:∀ i j,i<n->j<n->lt (p.getD i 0) (p.getD j 0)=false:=fun i j hi hj =>
     W.tr (W.tr (a3 j (n - 1) (by omega) (by omega)) c) (a3 0 i (by omega) hi)
    have hn:n<=p.size:=by omega
    have d:iJ lt (QD p 0 n) n:=fun i j hij hj=>by
     rw [rev_getD hn,rev_getD hn,if_pos ⟨MI _,by omega⟩,if_pos ⟨MI _,hj⟩]
     exact all _ _ (by omega) (by omega)
    have e':lt ((QD p 0 n).getD n 0) ((QD p 0 n).getD (n - 1) 0)=true:=by
     rw [rev_getD hn,rev_getD hn,if_neg (by omega),if_pos ⟨MI _,by omega⟩]
     cases z:lt (p.getD n 0) (p.getD (0+n - 1 - (n - 1)) 0) with
     | true=>rfl
     | false =>
      have:=W.tr (all (0+n - 1 - (n - 1)) (n - 1) (by omega) (by omega)) z
      rw [e] at this;cases this
    obtain ⟨b1,b2,b3,b4⟩:=oN W (p:=QD p 0 n) a1 hlt (by rw [TV];exact hz) d e'
    exact ⟨b1.trans (RM _ _ _ _),b2,b3,b4⟩
  ·have:n=1:=by omega
   subst this;exact oN W (Mb _) hlt hz (fun i j hij hj=>by
    have:i=0:=by omega
    have:j=0:=by omega
    subst i;subst j;exact W.irr _) e
def o7 (W:jL lt) {p:Array Nat} {k:Nat} (h:gW lt p k):∀ f l r,r - l<=f->l<=r->r<=k->(∀ i,i<l->lt (p.getD k 0) (p.getD i 0)=false)->(∀ i,r<=i->i<k->lt (p.getD k 0) (p.getD i 0)=true) ->
  bu lt (Rv p k f l r)<=k/\(∀ i,i<bu lt (Rv p k f l r)->lt (p.getD k 0) (p.getD i 0)=false)/\∀ i,bu lt (Rv p k f l r)<=i->i<k->lt (p.getD k 0) (p.getD i 0)=true
 | 0,l,r,hf,hlr,hr,a,b=>by
  have:l=r:=by omega
  subst this;exact ⟨hr,a,b⟩
 | f+1,l,r,hf,hlr,hr,a,b=>by
  unfold Rv
  split
  ·have:l=r:=by omega
   subst this;exact ⟨hr,a,b⟩
  ·simp only [bu];cases c:lt (p.getD k 0) (p.getD ((l+r) / 2) 0) with
   | true =>
    simp only [if_true];exact o7 W h f l ((l+r) / 2) (by omega) (by omega) (by omega) a fun i hi hk=>by
     cases z:lt (p.getD k 0) (p.getD i 0) with
     | true=>rfl
     | false =>
      have:=W.tr (h ((l+r) / 2) i hi hk) z;rw [c] at this;cases this
   | false =>
    simp only [MV,if_false];exact o7 W h f ((l+r) / 2+1) r (by omega) (by omega) hr (fun i hi=>W.tr (h i ((l+r) / 2) (by omega) (by omega)) c) b
def BK (W:jL lt):∀ f (p:Array Nat) k,k+f<=p.size->gW lt p k->(bu lt (kas_bin f p k)).Perm p/\gW lt (bu lt (kas_bin f p k)) (k+f)
 | 0,p,k,_,h=>⟨Pj _,h⟩
 | f+1,p,k,hz,h=>by
  unfold kas_bin;rw [ie];obtain ⟨a1,a2,a3⟩:=o7 W h k 0 k (by omega) (MI _) (Mb _) (fun i hi=>absurd hi (Su _)) (fun i h1 h2=>by omega)
  generalize bu lt (Rv p k k 0 k)=l at a1 a2 a3;have hk:k<p.size:=by omega
  have h':gW lt (bubble p k (k - l)) (k+1):=fun i j hij hj=>by
   rw [yB hk a1,yB hk a1]
   by_cases ci:i=l
   ·rw [if_pos ci]
    by_cases cj:j=l
    ·rw [if_pos cj];exact W.irr _
    ·rw [if_neg cj,if_pos ⟨by omega,by omega⟩]
     exact W.as (a3 (j - 1) (by omega) (by omega))
   ·rw [if_neg ci]
    by_cases cj:j=l
    ·rw [if_pos cj,if_neg (by omega)]
     exact a2 i (by omega)
    ·rw [if_neg cj]
     by_cases c1:l<j
     ·rw [if_pos ⟨c1,by omega⟩]
      by_cases c2:l<i
      ·rw [if_pos ⟨c2,by omega⟩]
       exact h _ _ (by omega) (by omega)
      ·rw [if_neg (by omega)]
       exact h _ _ (by omega) (by omega)
     ·rw [if_neg (by omega),if_neg (by omega)]
      exact h _ _ hij (by omega)
  obtain ⟨b1,b2⟩:=BK W f (bubble p k (k - l)) (k+1) (by rw [bubble_size];omega) h'
  refine ⟨b1.trans (bubble_perm _ _ _),?_⟩;rw [show k+(f+1)=k+1+f from by omega]
  exact b2
def Hj (W:jL lt) {n:Nat} (h1:1<=n):(bu lt (RN n)).Perm (Nz (LY n))/\gW lt (bu lt (RN n)) n:=by
 unfold RN;rw [ie];have hs:(Nz (LY n)).size=n:=by simp
 obtain ⟨a1,a2,a3,a4⟩:=ER W (p:=Nz (LY n)) h1 (QZ hs.symm);generalize bu lt (QR n (Nz (LY n)))=r at a1 a2 a3 a4;have sz:r.2.size=n:=a1.size_eq.trans hs
 split
 ·rename_i hlt
  have hm:max r.1 1=r.1:=by omega
  rw [hm];obtain ⟨b1,b2⟩:=BK W (n - r.1) r.2 r.1 (by omega) a4
  refine ⟨b1.trans a1,?_⟩;rw [show r.1+(n - r.1)=n from by omega] at b2
  exact b2
 ·have:r.1=n:=by omega
  rw [this] at a4;exact ⟨a1,a4⟩
end
end L2
namespace L2
open PySem PySem.W PyProof.Rows PySem.SeqAt
open AutoSeq1 (wpAny_loadPart')
open MeetsSeq MeetsSeq2 MeetsSeq3
def cA:List Int->List Int->Bool
 | [],[]=>false
 | [],_ :: _=>true
 | _ :: _,[]=>false
 | a :: as,b :: bs=>if a=b then cA as bs else decide (a<b)
def ints_get:∀ {vs:List Value} {ns:List Int},OD vs ns->∀ {i:Nat} {v:Value},vs[i]?=some v->∃ n t,v=.int n t/\ns[i]?=some n
 | _,_,.nil,i,v,h=>by simp at h
 | _,_,.cons n t r,0,v,h=>by
  simp at h;exact ⟨n,t,h.symm,rfl⟩
 | _,_,.cons n t r,i+1,v,h=>by
  simp at h;obtain ⟨m,u,e1,e2⟩:=ints_get r h;exact ⟨m,u,e1,by simpa using e2⟩
def EX (l b:Addr) (items items2:Array Value) (n n2:Nat) (dd dd2:Option Addr) (sl sl2:Array (Option Value)) (xs ys:List Int) (hx:OD items.toList xs) (hy:OD items2.toList ys) (k:Nat) :
  ∀ i:Nat,items.size - i=k->i<=items.size->i<=items2.size->Meets (OE.«list.__eq__.loop» ⟨[.ref l,.ref b,rawInt i,rawInt 0],[]⟩)
   (fun A R s=>s.heap.get? l=some { cls:=.type "list",dict:=dd,data:=.seq items n,slots:=sl }/\s.heap.get? b=some { cls:=.type "list",dict:=dd2,data:=.seq items2 n2,slots:=sl2 } /\
    R (.ok (.ret (.bool (cA (xs.drop i) (ys.drop i))))) s):=by
 have lx:xs.length=items.size:=by have:=hx.length;rw [MC] at this;exact this.symm
 have ly:ys.length=items2.size:=by have:=hy.length;rw [MC] at this;exact this.symm
 induction k with
 | zero =>
  intro i hk h1 h2 prog w A R s h;obtain ⟨hp,g,d,tk,os⟩:=s;obtain ⟨hl,hb,h⟩:=h
  wp_walk using NF hl,NF hb
  have hi:i=items.size:=by omega
  have hi1:items[((i:Nat):Int).toNat]?=none:=by simp;omega
  rw [hi1];have hd:xs.drop i=[]:=by simp;omega
  rw [hd] at h;have e:cA [] (ys.drop i)=decide (items.size<items2.size):=by
   rcases Mv i ys.length with c|c
   ·rw [PJ c];show true=_;rw [eq_comm,decide_eq_true_iff];omega
   ·rw [List.drop_of_length_le c];show false=_;rw [eq_comm,decide_eq_false_iff_not];omega
  rw [e] at h
  wp_walk using NF hl,NF hb
  exact h
 | succ k ih =>
  intro i hk h1 h2 prog w A R s h;obtain ⟨hp,g,d,tk,os⟩:=s;obtain ⟨hl,hb,h⟩:=h
  wp_walk using NF hl,NF hb
  have hlt:i<items.size:=by omega
  have hi1:items[((i:Nat):Int).toNat]?=some items[i]:=by simp [hlt]
  have hdx:xs.drop i=xs[i] :: xs.drop (i+1):=PJ (by omega)
  rcases Mv i items2.size with hlt2|hge2
  ·have hi2:items2[((i:Nat):Int).toNat]?=some items2[i]:=by simp [hlt2]
   have hdy:ys.drop i=ys[i] :: ys.drop (i+1):=PJ (by omega)
   have hc:((i:Int)+1)=((i+1:Nat):Int):=by push_cast;rfl
   rw [hi1,hi2];obtain ⟨a,t,ea,ga⟩:=ints_get hx (i:=i) (v:=items[i]) (by simp [hlt])
   obtain ⟨c,u,ec,gc⟩:=ints_get hy (i:=i) (v:=items2[i]) (by simp [hlt2])
   have gxa:xs[i]=a:=by rw [LP (by omega)] at ga;exact ME ga
   have gyc:ys[i]=c:=by rw [LP (by omega)] at gc;exact ME gc
   rw [hdx,hdy,gxa,gyc] at h;rw [ea,ec];refine LQ (EqAt.int_int a t c u prog w _ _ ?_)
   by_cases e:a=c
   ·have eb:(a == c)=true:=by simp [e]
    rw [eb];have h':R (.ok (.ret (.bool (cA (xs.drop (i+1)) (ys.drop (i+1)))))) ⟨hp,g,d,tk,os⟩:=by
     simp only [cA,if_pos e] at h;exact h
    wp_walk
    rw [hc];exact ⟨OM plain_eq_loop _,Nv entry_eq_loop (by
     rw [Nf plain_eq_loop _];exact ih (i+1) (by omega) (by omega) (by omega) prog w A R _ ⟨hl,hb,h'⟩)⟩
   ·have eb:(a == c)=false:=by simp [e]
    rw [eb];have h':R (.ok (.ret (.bool (decide (a<c))))) ⟨hp,g,d,tk,os⟩:=by
     simp only [cA,if_neg e] at h;exact h
    wp_walk using NF hl,NF hb
    rw [hi1,hi2,ea,ec];refine LQ (wpAny_richCompare_same (SO _ a t) (SO _ c u) slot_int_lt (call_int_lt ⟨nofun,L4 ?_⟩));exact h'
  ·have hi2:items2[((i:Nat):Int).toNat]?=none:=by simp;omega
   rw [hi1,hi2];have hdy:ys.drop i=[]:=by simp;omega
   rw [hdx,hdy] at h;have e:decide (items.size<items2.size)=false:=by
    rw [decide_eq_false_iff_not];omega
   wp_walk using NF hl,NF hb
   show R (.ok (.ret (.bool (decide (items.size<items2.size))))) _;rw [e];exact h
def DK (l b:Addr) (items items2:Array Value) (n n2:Nat) (dd dd2:Option Addr) (sl sl2:Array (Option Value)) (xs ys:List Int) (hx:OD items.toList xs) (hy:OD items2.toList ys) :
  Meets (OE.«list.__lt__» ⟨[.ref l,.ref b],[]⟩)
   (fun A R s=>s.heap.get? l=some { cls:=.type "list",dict:=dd,data:=.seq items n,slots:=sl }/\s.heap.get? b=some { cls:=.type "list",dict:=dd2,data:=.seq items2 n2,slots:=sl2 } /\
    R (.ok (.ret (.bool (cA xs ys)))) s):=by
 intro prog w A R s h;obtain ⟨hp,g,d,tk,os⟩:=s;obtain ⟨hl,hb,h⟩:=h;have f3:=AutoSeq1.sub_list_list
 wp_walk using NF hl,NF hb
 exact ⟨OM plain_eq_loop _,Nv entry_eq_loop (by
  rw [Nf plain_eq_loop _];exact EX l b items items2 n n2 dd dd2 sl sl2 xs ys hx hy _ 0 rfl (MI _) (MI _) prog w A R _ ⟨hl,hb,by simpa using h⟩)⟩
section
variable {prog:Mi} {w:World} {A:MQ} {E:Value->LV->Prop} {s:LV}
def yz {l b:Addr} {items items2:Array Value} {xs ys:List Int} (hl:s.heap.IsList l items) (hb:s.heap.IsList b items2) (hx:OD items.toList xs) (hy:OD items2.toList ys) {Q:Value->LV->Prop} (h:Q (.bool (cA xs ys)) s) :
  wpAny (model prog w) A (call (.builtin "list.__lt__") [.ref l,.ref b]) Q E s:=by
 obtain ⟨⟨cls,dd,data,sl⟩,ho,hc,n,hd⟩:=id hl;obtain ⟨⟨cls2,dd2,data2,sl2⟩,ho2,hc2,n2,hd2⟩:=id hb;simp only at hc hd hc2 hd2;subst hc hd hc2 hd2;exact O6 F.slot_list_lt ⟨_,ho,rfl⟩ F.entry_list_lt (F.args_list_lt_2 _ _) (DK l b items items2 n n2 dd dd2 sl sl2 xs ys hx hy) ⟨ho,ho2,h⟩
def AS {l b:Addr} {items items2:Array Value} {xs ys:List Int} (hl:s.heap.IsList l items) (hb:s.heap.IsList b items2) (hx:OD items.toList xs) (hy:OD items2.toList ys) (hu:A.units<cLine) {Q:Bool->LV->Prop} (h:Q (cA xs ys) s) :
  wpAny (model prog w) A (keyLt' oneType' (.ref l) (.ref b)) Q E s:=by
 rw [keyLt'_oneType,oneLt'_eq];simp only [if_true];obtain ⟨o,ho,hc,_⟩:=id hl;refine LQ (wpAny_cRoomFor hu ?_);refine LQ (wpAny_callSpecialIfBound?_slot (T:="list") ⟨o,ho,hc⟩ F.slot_list_lt (yz hl hb hx hy ?_));exact N8 h
end
def yK:∀ a:List Int,cA a a=false
 | []=>rfl
 | x :: a=>by simp only [cA,if_true];exact yK a
def A4:∀ {a b:List Int},cA a b=true->cA b a=false
 | [],[],h=>rfl
 | [],_ :: _,h=>rfl
 | _ :: _,[],h=>by simp [cA] at h
 | x :: a,y :: b,h=>by
  simp only [cA] at h ⊢
  by_cases e:x=y
  ·subst e;simp only [if_true] at h ⊢;exact A4 h
  ·rw [if_neg e] at h;rw [if_neg (NJ e),decide_eq_false_iff_not];have:=of_decide_eq_true h;omega
def y6:∀ {a b:List Int},cA a b=false->cA b a=false->a=b
 | [],[],_,_=>rfl
 | [],_ :: _,h,_=>by simp [cA] at h
 | _ :: _,[],_,h=>by simp [cA] at h
 | x :: a,y :: b,h,h'=>by
  simp only [cA] at h h'
  by_cases e:x=y
  ·subst e;simp only [if_true] at h h';rw [y6 h h']
  ·rw [if_neg e] at h;rw [if_neg (NJ e)] at h';have:=of_decide_eq_false h;have:=of_decide_eq_false h';omega
def Bd:∀ {a b c:List Int},cA a b=true->cA b c=true->cA a c=true
 | _,[],[],_,h=>by simp [cA] at h
 | _,_ :: _,[],_,h=>by simp [cA] at h
 | [],_,_ :: _,_,_=>rfl
 | _ :: _,[],_ :: _,h,_=>by simp [cA] at h
 | x :: a,y :: b,z :: c,h,h'=>by
  simp only [cA] at h h' ⊢
  by_cases e:x=y
  ·subst e;rw [if_pos rfl] at h
   by_cases e2:x=z
   ·subst e2;rw [if_pos rfl] at h' ⊢;exact Bd h h'
   ·rw [if_neg e2] at h' ⊢;exact h'
  ·rw [if_neg e] at h;have u:=of_decide_eq_true h
   by_cases e2:y=z
   ·subst e2;rw [if_neg e];exact h
   ·rw [if_neg e2] at h';have v:=of_decide_eq_true h';rw [if_neg (by omega),decide_eq_true_iff]
    omega
def DJ (f:Nat->List Int):jL fun i j=>cA (f i) (f j) where
 irr:=fun a=>yK _
 as:=fun h=>A4 h
 tr:=fun {a b c} h h'=>by
  cases z:cA (f c) (f a) with
  | false=>rfl
  | true =>
   cases u:cA (f a) (f b) with
   | true =>
    rw [Bd z u] at h';cases h'
   | false =>
    have:=y6 h u;rw [this] at h';rw [h'] at z;cases z
end L2
namespace L2
open PySem PySem.W PySem.Spec PyProof.Rows
def InR {α:Type} (n:Nat) (G:α->Prop):KasT α->Prop
 | .ret a=>G a
 | .ask i j k=>i<n/\j<n/\∀ b,InR n G (k b)
def InR.bind {α β:Type} {n:Nat} {G:α->Prop} {G':β->Prop} {f:α->KasT β}:∀ {t:KasT α},InR n G t->(∀ a,G a->InR n G' (f a))->InR n G' (t.bind f)
 | .ret a,h,hf=>hf a h
 | .ask _ _ _,h,hf=>⟨h.1,h.2.1,fun b=>InR.bind (h.2.2 b) hf⟩
def Below (n:Nat) (p:Array Nat):Prop:=∀ i,p.getD i 0<n
def pE {n:Nat} {p:Array Nat} (h1:0<n):Below n p↔∀ x∈p,x<n:=by
 constructor
 ·intro h x hx;obtain ⟨i,hi,rfl⟩:=Array.mem_iff_getElem.mp hx;have:=h i;rw [getD_eq,MD hi] at this;exact this
 ·intro h i;rw [getD_eq]
  by_cases c:i<p.size
  ·rw [MD c];exact h _ (Array.getElem_mem c)
  ·rw [N6 (by omega)]
   exact h1
def tX {n:Nat} {p p':Array Nat} (h1:0<n) (hp:p'.Perm p) (h:Below n p):Below n p':=(pE h1).mpr fun x hx=>(pE h1).mp h x (hp.mem_iff.mp hx)
section
variable {n:Nat}
def jH {p:Array Nat} {i j:Nat} (h1:0<n) (h:Below n p):Below n (QD p i j):=tX h1 (RM _ _ _ _) h
def u9 {p:Array Nat} (h:Below n p):∀ f k,InR n (fun _=>True) (SD p f k)
 | 0,k=>trivial
 | f+1,k=>⟨h _,h _,fun b=>by
  cases b with
  | true=>simp only [if_true];trivial
  | false=>simp only [MV,if_false];exact u9 h f (k+1)⟩
def mZ (h1:0<n):∀ f (p:Array Nat) k q,Below n p->InR n (fun r=>Below n r.1) (Qw f p k q)
 | 0,p,k,q,h=>h
 | f+1,p,k,q,h=>⟨h _,h _,fun b=>by
  cases b with
  | true =>
   simp only [if_true]
   split
   ·exact mZ h1 f _ _ _ (jH h1 h)
   ·exact mZ h1 f _ _ _ h
  | false =>
   simp only [MV,if_false];exact ⟨h _,h _,fun b=>by
    cases b with
    | true=>simp only [if_true];exact h
    | false=>simp only [MV,if_false];exact mZ h1 f _ _ _ h⟩⟩
def xY (h1:0<n) {p:Array Nat} (h:Below n p) (k m:Nat):InR n (fun r=>Below n r.2) (Ru k m p) :=
 (u9 (jH h1 h) _ _).bind fun _ _=>jH h1 h
def pH (h1:0<n) {p:Array Nat} (h:Below n p) (k m:Nat):InR n (fun r=>Below n r.2) (PZ k m p) :=
 (mZ h1 _ _ _ _ h).bind fun r hr=>by
  split
  ·exact xY h1 (jH h1 hr) _ _
  ·exact xY h1 hr _ _
def E6 (h1:0<n) {p:Array Nat} (h:Below n p) (m:Nat):InR n (fun r=>Below n r.2) (QR m p) :=
 (u9 h _ _).bind fun k _=>by
  split
  ·exact h
  ·split
   ·exact ⟨h _,h _,fun b=>by
     cases b with
     | true=>simp only [if_true];exact h
     | false=>simp only [MV,if_false];exact pH h1 (jH h1 h) _ _⟩
   ·exact pH h1 h _ _
def oY {p:Array Nat} (h:Below n p) (k:Nat):∀ f l r,InR n (fun _=>True) (Rv p k f l r)
 | 0,l,r=>trivial
 | f+1,l,r=>by
  unfold Rv
  split
  ·trivial
  ·exact ⟨h _,h _,fun b=>by
    cases b with
    | true=>simp only [if_true];exact oY h k f _ _
    | false=>simp only [MV,if_false];exact oY h k f _ _⟩
def Bb (h1:0<n):∀ f (p:Array Nat) k,Below n p->InR n (fun _=>True) (kas_bin f p k)
 | 0,p,k,h=>trivial
 | f+1,p,k,h=>(oY h k _ _ _).bind fun l _=>Bb h1 f _ _ (tX h1 (bubble_perm _ _ _) h)
def GH (h1:0<n):InR n (fun _=>True) (RN n):=by
 unfold RN;refine (E6 h1 ((pE h1).mpr fun x hx=>by simpa using hx) n).bind fun r hr=>?_
 split
 ·exact Bb h1 _ _ _ hr
 ·trivial
end
def qZ {α:Type} {cmp:Nat->Nat->(Bool->LV->Prop)->LV->Prop} {lt:Nat->Nat->Bool} {n:Nat} {s:LV} {G:α->Prop} (hc:∀ i j (C:Bool->LV->Prop),i<n->j<n->C (lt i j) s->cmp i j C s) {Q:α->LV->Prop}:∀ t:KasT α,InR n G t->Q (bu lt t) s->t.kasWp cmp Q s
 | .ret _,_,h=>h
 | .ask i j k,hr,h=>hc i j _ hr.1 hr.2.1 (qZ hc (k (lt i j)) (hr.2.2 _) h)
section
variable {prog:Mi} {w:World} {A:MQ} {E:Value->LV->Prop} {s:LV}
def Kp (h h':Heap) (a:Addr):Prop:=∀ b o,b≠a->h.get? b=some o->h'.get? b=some o
def xh {a:Addr} {vs:List Value} {n:Nat} {P:PySem.Fin->LV->Prop} {lt:Nat->Nat->Bool} (W:jL lt) (ho:s.heap.get? a=some (seqObj "list" vs.toArray n)) (h64:vs.length<64)
  (hT:∀ h',Kp s.heap h' a->∀ v∈vs,Looks (model prog w) h' (typeOf v) (.type "list"))
  (hk:∀ h',Kp s.heap h' a->∀ i j (C:Bool->LV->Prop),i<vs.length->j<vs.length->C (lt i j) { s with heap:=h' }->kas_ask prog w A oneType' vs i j C { s with heap:=h' })
  (h:∀ p:Array Nat,p.Perm (Nz (LY vs.length))->gW lt p vs.length->P (.done (.ret .none)) { s with heap:=sortedHeap s.heap a vs (Nz (p.toList.map fun i=>vs.getD i Ng)) }) :
  wpAny (model prog w) A (OE.«list.sort» ⟨[.ref a],[]⟩) P E s:=by
 rw [list_sort_plain];have ha:a<s.heap.objs.size:=L6 ho;refine LQ (listItems_at ho rfl ?_);refine LQ (Tu ho rfl ?_ (by rw [Mg,MX];omega) (MI _))
 obtain ⟨e1,ho1⟩:∃ e1,(s.heap.update a (NP fun _=>#[])).get? a=some (seqObj "list" #[] e1):=⟨_,get?_update_seq ho (fun _=>#[])⟩;refine LQ (T6 ho1 rfl ?_);refine LQ (wpAny_newTuple ?_ (by show vs.length<=_;rw [MX];omega))
 refine LQ (RL ?_ (MI _));refine M4 ?_;have ho6:(((s.heap.update a (NP fun _=>#[])).push (seqObj "tuple" vs.toArray 0)).push (seqObj "list" #[] 0)).get? a=some (seqObj "list" #[] e1):=by
  rw [Qo _ _ _ (by rw [size_push',R6];exact Md (NH ha)),Qo _ _ _ (by rw [R6];exact Md ha)]
  exact ho1
 have kp:Kp s.heap (((s.heap.update a (NP fun _=>#[])).push (seqObj "tuple" vs.toArray 0)).push (seqObj "list" #[] 0)) a:=fun b o hb e =>
  LW _ (LW _ ((QQ _ _ _ _ hb).trans e))
 show wpAny (model prog w) A _ P E { s with heap:=((s.heap.update a (NP fun _=>#[])).push (seqObj "tuple" vs.toArray 0)).push (seqObj "list" #[] 0) };dsimp only;have hsz:vs.toArray.size=vs.length:=by simp
 by_cases h2:vs.toArray.size<2
 ·rw [if_pos h2,if_pos h2];refine LQ (L4 ?_);rw [StateT.run_pure];refine LQ (L4 ?_);dsimp only;refine LQ (T6 ho6 rfl ?_);refine LQ (Tu ho6 rfl ?_ (hsz2:=by rw [Array.size_map];show (pairsOf vs).size<=_;rw [pairsOf_size,MX];omega))
  simp only [bne_self_eq_false,MV,if_false];refine L4 ?_;have:=h (Nz (LY vs.length)) (Pj _) (fun i j hij hj=>by
   have:i=j:=by omega
   subst this;exact W.irr _)
  have e:(arrOf (Tz general' (vs.toArray.zip vs.toArray) #[] 7 none)).map (·.2)=Nz ((Nz (LY vs.length)).toList.map fun i=>vs.getD i Ng):=by
   have e1:(LY vs.length).map (fun i=>vs.getD i Ng)=vs:=by
    apply OA;intro i;rw [Mp]
    by_cases c:i<vs.length
    ·rw [PV c,LP c];simp [c]
    ·rw [MM (by simp;omega),MM (by omega)]
     rfl
   show (vs.toArray.zip vs.toArray).map (·.2)=Nz ((LY vs.length).map fun i=>vs.getD i Ng);rw [e1];apply R4.mp;rw [Array.toList_map,Array.toList_zip];exact List.map_snd_zip (Mb _)
  rw [e];exact this
 ·rw [if_neg h2,if_neg h2];refine LQ (kas_kind (by omega) (hT _ kp) (by decide) (by decide) ?_)
  have est:Tz oneType' (vs.toArray.zip vs.toArray) #[] 7 none=kas_st oneType' (pairsOf vs) (Nz (LY vs.length)):=by
   have e:=kas_range (pairsOf vs);rw [pairsOf_size] at e;show Tz oneType' (pairsOf vs) #[] 7 none=Tz oneType' ((Nz (LY vs.length)).map (kas_item (pairsOf vs))) #[] 7 none;rw [e]
  have fin:=Hj W (n:=vs.length) (by omega)
  have ask:=qZ (Q:=fun p s'=>p=bu lt (RN vs.length)/\s'={ s with heap:=((s.heap.update a (NP fun _=>#[])).push (seqObj "tuple" vs.toArray 0)).push (seqObj "list" #[] 0) }) (hk _ kp) (RN vs.length) (GH (by omega)) ⟨rfl,rfl⟩
  rw [kas_ask_eq] at ask;have run:=kas_runs (E:=E) (Q:=fun _ st' s'=>s'={ s with heap:=((s.heap.update a (NP fun _=>#[])).push (seqObj "tuple" vs.toArray 0)).push (seqObj "list" #[] 0) }/\∃ p:Array Nat,p=bu lt (RN vs.length)/\p.size=vs.length/\arrOf st'=p.map (kas_item (pairsOf vs))/\failedOf st'=none)
   (by omega) h64 (fun p' st' s' a1 a2 a3 a4=>⟨a4.2,p',a4.1,a1,a2,a3⟩) ask
  rw [<- est] at run;refine LQ (Nc run ?_ fun _ _ e=>e);rintro ⟨⟨⟩,st'⟩ s' ⟨es,p,ep,hp,har,hf⟩;dsimp only at es har hf;subst es;dsimp only;have hout:(arrOf st').map (·.2)=Nz (p.toList.map fun i=>vs.getD i Ng):=by
   apply R4.mp;rw [har,Array.map_map,Array.toList_map];exact PX fun i _=>by show (kas_item (pairsOf vs) i).2=_;rw [kas_item_eq]
  have hsz2:(Nz (p.toList.map fun i=>vs.getD i Ng)).size=vs.length:=by rw [Mg,LX,MC,hp]
  rw [hout];refine LQ (T6 ho6 rfl ?_);refine LQ (Tu ho6 rfl ?_ (MI _) (M7 (QZ hsz2) (by rw [MX];omega)))
  rw [hf];simp only [bne_self_eq_false,MV,if_false];subst ep;exact L4 (h _ fin.1 fin.2)
def Cm {l:Addr} {vs:List Value} {Q:Value->LV->Prop} {lt:Nat->Nat->Bool} (W:jL lt) (hl:s.heap.IsList l vs.toArray) (h64:vs.length<64)
  (hT:∀ h',(∀ b o,s.heap.get? b=some o->h'.get? b=some o)->∀ v∈vs,Looks (model prog w) h' (typeOf v) (.type "list"))
  (hk:∀ h',(∀ b o,s.heap.get? b=some o->h'.get? b=some o)->∀ i j (C:Bool->LV->Prop),i<vs.length->j<vs.length->C (lt i j) { s with heap:=h' }->kas_ask prog w A.in1.in1 oneType' vs i j C { s with heap:=h' })
  (h:∀ p:Array Nat,p.Perm (Nz (LY vs.length))->gW lt p vs.length->Q (.ref (s.heap.objs.size+1)) { s with heap:=sortedAll s.heap vs (Nz (p.toList.map fun i=>vs.getD i Ng)) }) :
  wpAny (model prog w) A (call (.builtin "sorted") [.ref l]) Q E s:=by
 refine PF T5 TQ TR (TU _) ?_;unfold OE.«sorted»;refine LQ (m:=checkCount "sorted" 1 1 _) (L4 ?_);refine LQ (collect_list hl ?_ (by rw [MX];omega))
 refine LQ (RL ?_ (by rw [MX];omega))
 have hsz:((s.heap.push (seqObj "list" #[] 0)).update s.heap.objs.size (NP (·++vs.toArray))).objs.size=s.heap.objs.size+1:=by
  rw [R6,size_push']
 have hoL:(((s.heap.push (seqObj "list" #[] 0)).update s.heap.objs.size (NP (·++vs.toArray))).push (seqObj "list" vs.toArray 0)).get? (s.heap.objs.size+1)=some (seqObj "list" vs.toArray 0):=by
  rw [<- hsz];exact Mo _ rfl
 have keep:∀ b o,s.heap.get? b=some o->b≠s.heap.objs.size+1/\(((s.heap.push (seqObj "list" #[] 0)).update s.heap.objs.size (NP (·++vs.toArray))).push (seqObj "list" vs.toArray 0)).get? b=some o:=fun b o q=>by
  have hlt:b<s.heap.objs.size:=L6 q;refine ⟨Md (NH hlt),?_⟩;rw [Qo _ _ _ (by rw [hsz];exact Md (NH hlt)),QQ _ _ _ _ (Md hlt),Qo _ _ _ (Md hlt)]
  exact q
 show wpAny _ _ _ _ _ { s with heap:=((s.heap.push (seqObj "list" #[] 0)).update s.heap.objs.size (NP (·++vs.toArray))).push (seqObj "list" vs.toArray 0) };rw [hsz];refine LQ (M4 (N5 S4 ⟨_,hoL,rfl⟩ SA (xh W hoL h64 (fun h' k=>hT h' fun b o e=>k b o (keep b o e).1 (keep b o e).2) (fun h' k=>hk h' fun b o e=>k b o (keep b o e).1 (keep b o e).2) fun p a1 a2=>⟨_,rfl,?_⟩) (S5 _)));exact L4 ⟨_,rfl,h p a1 a2⟩
end
end L2
namespace L2
open PySem PySem.W PySem.Spec PyProof.Rows
def Cf (a b:List Nat):Bool:=cA (a.map fun (n:Nat)=>(n:Int)) (b.map fun (n:Nat)=>(n:Int))
def vX (K:LO):List V->Hp->VK->Prop:=fun xs H Q=>∃ (p:Addr) (vs:List V) (L:List (List Nat)),xs=[.ref p]/\SqL K H p vs/\Nk (Rep.is K H) vs L/\L.length<64 /\
 ∀ (d:Addr) (zs:List (V×List Nat)),H d=none->zs.Perm (vs.zip L)->zs.Pairwise (fun a b=>Cf b.2 a.2=false)->Q (.ref d) (upd H d (.lst (zs.map (·.1))))
def Kr {X:Cx} {pins:List (Addr×Obj)} {s:LV} {σ:St} {H:Hp} {x:V} {u:Value} {r:List Nat} (I:Inv X pins σ H s) (hx:At X.K H x r) (ru:RelV x u) :
  ∃ (a:Addr) (items:Array Value),u=.ref a/\s.heap.IsList a items/\OD items.toList (r.map fun (n:Nat)=>(n:Int)):=by
 obtain ⟨p,rfl,hS⟩:=i4 hx;cases (show u=Mt p from ru);have hS':SqL X.K H p ((r.map fun (n:Nat)=>(n:Int)).map V.int):=by
  have e:=fk r;unfold aO at e;rw [<- e];exact hS
 obtain ⟨its,rv,pl,hz⟩:=I.list hS';exact ⟨p,its.toArray,rfl,pl.isList,by simpa using kX rv⟩
def lS {h h':Heap} {a:Addr} {items:Array Value} (hl:h.IsList a items) (k:∀ b o,h.get? b=some o->h'.get? b=some o):h'.IsList a items:=by
 obtain ⟨o,ho,r⟩:=hl;exact ⟨o,k _ _ ho,r⟩
def GO {vs:List V} {L:List (List Nat)} (h:vs.length=L.length):(LY vs.length).map (fun i=>(vs.getD i .non,L.getD i []))=vs.zip L:=by
 apply OA;intro i;rw [Mp]
 by_cases c:i<vs.length
 ·have c':i<L.length:=by omega
  rw [PV c,LP (by simp;omega)]
  simp [c,c']
 ·rw [MM (by simp;omega),MM (by simp;omega)]
  rfl
def wm {vs:List V} {its:List Value} (r:Vals vs its):∀ l:List Nat,(∀ i∈l,i<vs.length)->Vals (l.map fun i=>vs.getD i .non) (l.map fun i=>its.getD i Ng)
 | [],_=>.nil
 | i :: l,h=>by
  have hi:=h i L9;have hj:i<its.length:=by rw [<- r.length];exact hi
  refine .cons ?_ (wm r l fun j hj=>h j (L5 _ hj));have e1:vs.getD i .non=vs[i]:=by simp [hi]
  have e2:its.getD i Ng=its[i]:=by simp [hj]
  show RelV (vs.getD i .non) (its.getD i Ng);rw [e1,e2];exact Vals.getL r (LP hi) (LP hj)
def zV {lt:Nat->Nat->Bool} {p:Array Nat} {n:Nat} (hp:p.size=n) (h:gW lt p n):p.toList.Pairwise fun a b=>lt b a=false:=by
 rw [Mx];intro i j hi hj hij;have hi':i<p.size:=by simpa using hi
 have hj':j<p.size:=by simpa using hj
 have:=h i j (by omega) (by omega)
 rw [getD_eq,getD_eq,MD hi',MD hj'] at this
 simpa using this
def nQ {X:Cx} (K:LO) (hK:X.K=K) (hu:X.A.units+64<cLine):cE X (.builtin "sorted") (vX K):=by
 subst hK;intro pins s σ H xs us Q I r h;obtain ⟨p,vs,L,rfl,hS,hP,h64,q⟩:=h;obtain ⟨u,rfl,ru⟩:=vals1 r;cases (show u=Mt p from ru);obtain ⟨its,rv,pl,hz⟩:=I.list hS;have hl1:=rv.length;have hl2:=hP.length;have row:∀ i,i<its.length->∃ (a:Addr) (items:Array Value),its.getD i Ng=.ref a/\s.heap.IsList a items/\OD items.toList ((L.getD i []).map fun (n:Nat)=>(n:Int)):=fun i hi=>by
  have hv:i<vs.length:=by omega
  have hL:i<L.length:=by omega
  have e1:its.getD i Ng=its[i]:=by simp [hi]
  have e2:L.getD i []=L[i]:=by simp [hL]
  obtain ⟨b,hb,rb⟩:=Paired.getL hP (LP hv);rw [LP hL] at hb;cases hb;rw [e1,e2];exact Kr I rb (Vals.getL rv (LP hv) (LP hi))
 refine Cm (lt:=fun i j=>cA ((L.getD i []).map fun (n:Nat)=>(n:Int)) ((L.getD j []).map fun (n:Nat)=>(n:Int))) (DJ fun i=>(L.getD i []).map fun (n:Nat)=>(n:Int)) pl.isList (by omega) (fun h' k v hv=>?_) (fun h' k i j C hi hj hC=>?_) fun pr a1 a2=>?_
 ·obtain ⟨i,hi⟩:=Ms hv;have hi':i<its.length:=(LR.mp hi).1;obtain ⟨a,items,e,hl,_⟩:=row i hi';have ev:v=.ref a:=by
   rw [<- e,LU,hi];rfl
  subst ev;obtain ⟨o,ho,hc,_⟩:=lS hl k;exact fun A' Q' E' s' k' q'=>Q3 (T:="list") ⟨o,k' _ _ ho,hc⟩ q'
 ·obtain ⟨a,items,e,hl,hi1⟩:=row i hi;obtain ⟨b,items2,e2,hl2,hj1⟩:=row j hj;unfold kas_ask;rw [e,e2];exact AS (lS hl k) (lS hl2 k) hi1 hj1 (by show X.A.units+1+1<cLine;omega) hC
 ·obtain ⟨c,hc⟩:=sortedAll_at s.heap its (Nz (pr.toList.map fun i=>its.getD i Ng));have hn:H (s.heap.objs.size+1)=none:=I.hok.fresh (OC _);have psz:pr.size=its.length:=by have:=a1.size_eq;simpa using this
  have pm:pr.toList.Perm (LY its.length):=by
   have:=a1.toList
   simpa using this
  have hin:∀ i∈pr.toList,i<vs.length:=fun i hi=>by
   have:=Ma.mp (pm.mem_iff.mp hi);omega
  refine ⟨.ref (s.heap.objs.size+1),_,I.laid (o:=.lst ((pr.toList.map fun i=>(vs.getD i .non,L.getD i [])).map (·.1))) (fun b o e=>sortedAll_old e) (OC _) ⟨?_,_,c,?_,hc⟩,rfl,q _ (pr.toList.map fun i=>(vs.getD i .non,L.getD i [])) hn ?_ ?_⟩
  ·rw [LX,LX,MC,psz];exact small (by omega)
  ·rw [Ox];exact wm rv pr.toList hin
  ·have:=pm.map fun i=>(vs.getD i V.non,L.getD i []);rw [<- hl1,GO (by omega)] at this
   exact this
  ·rw [NX];exact zV psz a2
def Rows (H H':Hp) (d:Addr) (L:List (List Nat)):Prop:=H d=none/\∃ ps:List Addr,H' d=some (.lst (ps.map V.ref))/\Nk (fun p r=>H p=none/\p≠d/\H' p=some (.lst (aO r))) ps L
def Rows.since {H0 H H':Hp} {d:Addr} {L:List (List Nat)} (s:aj H0 H) (h:Rows H H' d L):Rows H0 H' d L:=by
 obtain ⟨h1,ps,h2,h3⟩:=h;exact ⟨s.free h1,ps,h2,Paired.ck h3 fun _ _ z=>⟨s.free z.1,z.2⟩⟩
def Rows.mono {H H' H'':Hp} {d:Addr} {L:List (List Nat)} (s:aj H' H'') (h:Rows H H' d L):Rows H H'' d L:=by
 obtain ⟨h1,ps,h2,h3⟩:=h;exact ⟨h1,ps,s _ _ h2,Paired.ck h3 fun _ _ z=>⟨z.1,z.2.1,s _ _ z.2.2⟩⟩
def lV {α β γ:Type} {F:α->γ->Prop} {G:β->γ->Prop} {f:β->α} (h:∀ b c,G b c->F (f b) c):∀ {l:List β} {m:List γ},Nk G l m->Nk F (l.map f) m
 | _,_,.nil=>.nil
 | _,_,.cons r t=>.cons (h _ _ r) (lV h t)
def Rows.at {K:LO} {H H':Hp} {d:Addr} {L:List (List Nat)} (h:Rows H H' d L):At K H' (.ref d) L:=by
 obtain ⟨h1,ps,h2,h3⟩:=h;exact ⟨d,_,rfl,SqL.of h2,lV (fun p r z=>⟨p,_,rfl,SqL.of z.2.2,fG⟩) h3⟩
def uT {F:Addr->List Nat->Prop} {ps:List Addr} {L:List (List Nat)} (hP:Nk F ps L) {zs:List (V×List Nat)} (hz:zs.Perm ((ps.map V.ref).zip L)):∃ ps',zs.map (·.1)=ps'.map V.ref/\Nk F ps' (zs.map (·.2)):=by
 have key:∀ {ps:List Addr} {L:List (List Nat)},Nk F ps L->∀ z∈(ps.map V.ref).zip L,∃ p,z.1=.ref p/\F p z.2:=by
  intro ps L h
  induction h with
  | nil=>intro z hz;simp at hz
  | cons r t ih =>
   intro z hz;rcases Mq.mp hz with e|e
   ·subst e;exact ⟨_,rfl,r⟩
   ·exact ih z e
 have all:∀ z∈zs,∃ p,z.1=.ref p/\F p z.2:=fun z h=>key hP z (hz.mem_iff.mp h)
 clear hz
 induction zs with
 | nil=>exact ⟨[],rfl,.nil⟩
 | cons z zs ih =>
  obtain ⟨ps',e,h⟩:=ih fun z h=>all z (L5 _ h);obtain ⟨p,e1,f1⟩:=all z L9;exact ⟨p :: ps',by rw [Mz,Mz,e1,e],.cons f1 h⟩
def rf:∀ {ps:List V} {L:List (List Nat)},ps.length=L.length->(ps.zip L).map (·.2)=L
 | [],[],_=>rfl
 | _ :: ps,_ :: L,h=>by
  rw [List.zip_cons_cons,Mz,rf (by simpa using h)]
def si {K:LO} {H0 H:Hp} {Q:VK} {d:Addr} {L:List (List Nat)} (s0:aj H0 H) (h:Rows H0 H d L) (hl:L.length<64)
  (q:∀ (d':Addr) (L':List (List Nat)) (H':Hp),H d'=none->aj H H'->L'.Perm L->L'.Pairwise (fun a b=>Cf b a=false)->Rows H0 H' d' L'->Q (.ref d') H'):vX K [.ref d] H Q:=by
 obtain ⟨h1,ps,h2,h3⟩:=h;refine ⟨d,_,L,rfl,SqL.of h2,lV (fun p r z=>⟨p,_,rfl,SqL.of z.2.2,fG⟩) h3,hl,fun d' zs hd hz hs=>?_⟩;obtain ⟨ps',e,h'⟩:=uT h3 hz;have sm:=ay hd (.lst (zs.map (·.1)));have w:(upd H d' (.lst (zs.map (·.1)))) d'=some (.lst (zs.map (·.1))):=ar;rw [e] at w ⊢;rw [e] at sm;refine q d' (zs.map (·.2)) _ hd sm ?_ ?_ ⟨s0.free hd,ps',w,Paired.ck h' fun _ _ z=>⟨z.1,dP z.2.2 hd,sm _ _ z.2.2⟩⟩
 ·have:=hz.map (·.2)
  rwa [rf (by rw [LX];exact h3.length)] at this
 ·rw [NX];exact hs
def Rows.nil {H H':Hp} {d:Addr} (hd:H d=none) (h:H' d=some (.lst [])):Rows H H' d []:=⟨hd,[],h,.nil⟩
def Ac {H H5:Hp} {d dr:Addr} {L:List (List Nat)} {r:List Nat} {Q:VK} (h:Rows H H5 d L) (hl:L.length<=100000) (hr:H dr=none) (hn:dr≠d) (hr5:H5 dr=some (.lst (aO r)))
  (q:∀ H',Rows H H' d (L++[r])->(∀ a o,a≠d->H5 a=some o->H' a=some o)->Q .non H'):qk (.ref d) [.ref dr] H5 Q:=by
 obtain ⟨h1,ps,h2,h3⟩:=h;have e:=h3.length;refine ⟨d,_,_,rfl,rfl,h2,NM (show (ps.map V.ref).length<=100000 by rw [LX];omega) (by rw [MX];decide),?_⟩
 refine q _ ⟨h1,ps++[dr],by rw [ar];simp,Paired.app (Paired.ck h3 fun _ _ z=>⟨z.1,z.2.1,by rw [aA z.2.1];exact z.2.2⟩) (.cons ⟨hr,hn,by rw [aA hn];exact hr5⟩ .nil)⟩ fun a o ha z=>by rw [aA ha];exact z
def AQ {H H5:Hp} {d b:Addr} {L M:List (List Nat)} {Q:VK} (h:Rows H H5 d L) (h':Rows H H5 b M) (hne:∀ r∈M,r≠[]) (hl:L.length+M.length<=100000)
  (q:∀ H',Rows H H' d (L++M)->(∀ a o,a≠d->H5 a=some o->H' a=some o)->Q .non H'):Bo (.ref d) [.ref b] H5 Q:=by
 obtain ⟨h1,ps,h2,h3⟩:=h;obtain ⟨k1,qs,k2,k3⟩:=h';have e:=h3.length;have e':=k3.length;refine ⟨d,b,_,_,rfl,rfl,h2,k2,M7 (show (ps.map V.ref).length+(qs.map V.ref).length<=100000 by rw [LX,LX];omega) (by rw [MX];decide),?_⟩
 have hd:∀ (p:Addr) (r:List Nat),r∈M->H5 p=some (.lst (aO r))->p≠d:=fun p r hr hp q=>by
  subst q;rw [h2] at hp;have e1:=HO.lst.inj (ME hp);cases r with
  | nil=>exact hne _ hr rfl
  | cons a r =>
   cases ps with
   | nil=>cases e1
   | cons p ps=>cases e1
 have k3':Nk (fun p r=>H p=none/\p≠d/\H5 p=some (.lst (aO r))) qs M:=by
  have go:∀ {qs:List Addr} {M':List (List Nat)},(∀ r∈M',r∈M)->Nk (fun p r=>H p=none/\p≠b/\H5 p=some (.lst (aO r))) qs M'->Nk (fun p r=>H p=none/\p≠d/\H5 p=some (.lst (aO r))) qs M':=by
   intro qs M' hm hp
   induction hp with
   | nil=>exact .nil
   | cons r t ih=>exact .cons ⟨r.1,hd _ _ (hm _ L9) r.2.2,r.2.2⟩ (ih fun r hr=>hm r (L5 _ hr))
  exact go (fun r hr=>hr) k3
 refine q _ ⟨h1,ps++qs,by rw [ar];simp,Paired.app (Paired.ck h3 fun _ _ z=>⟨z.1,z.2.1,by rw [aA z.2.1];exact z.2.2⟩) (Paired.ck k3' fun _ _ z=>⟨z.1,z.2.1,by rw [aA z.2.1];exact z.2.2⟩)⟩ fun a o ha z=>by rw [aA ha];exact z
end L2
namespace L2
open PySem PySem.W PySem.Spec PyProof.Rows
section
variable {prog:Mi} {w:World} {A:MQ} {E:Value->LV->Prop} {s:LV}
def wR {T:String} {r d:Addr} {n:Nat} {P:Nat->Value->Prop} {OK:Heap->Prop} {R:Rj->LV->Prop} (K:KdlSrc prog w T r d n P OK) (hh:A.handled=none) (hok:OK s.heap) (S:Addr) (hSr:S≠r) (hSd:S≠d) (c₀:Nat) (hS:s.heap.get? S=some { cls:=.type "list",data:=.seq #[] c₀ }) (hn:n<=My)
  (hR:∀ h' tk acc' c',(∀ b o,b≠S->s.heap.get? b=some o->h'.get? b=some o)->h'.get? S=some { cls:=.type "list",dict:=none,data:=.seq acc' c',slots:=#[] }->ItemsOf P acc' n->R (.ok (.ret (.ref S))) { s with heap:=h',toks:=tk }) :
  codeAny (model prog w) A (.builtin "list.__iadd__" ⟨[.ref S,.ref r],[]⟩) R s:=by
 refine Nv F.entry_list_iadd ?_;rw [Nf Qn _];show wpAny _ A.in1 (Pg (.ref S) (.ref r) (.ref S)) _ _ _;exact kdl_extend K hh hok S hSr hSd (.ref S) c₀ hS hR hn
def AN {T:String} {r d:Addr} {n:Nat} {P:Nat->Value->Prop} {OK:Heap->Prop} (K:KdlSrc prog w T r d n P OK) {Q:List Value->LV->Prop} (hh:A.handled=none) (hok:OK s.heap) (hn:n<=My)
  (hQ:∀ (h':Heap) (tk:Nat) (vs:List Value),s.heap.objs.size<=h'.objs.size->(∀ b o,s.heap.get? b=some o->h'.get? b=some o)->vs.length=n->(∀ j v,vs[j]?=some v->P j v)->Q vs { s with heap:=h',toks:=tk }):wpAny (model prog w) A (collect (.ref r)) Q E s:=by
 unfold collect;refine LQ (S3 (Nv Sy ?_));rw [Nf Sz _];show wpAny _ A.in1 (newList [] >>= fun l=>again (.builtin "list.__iadd__" ⟨[l,.ref r],[]⟩)) _ _ s;refine LQ (N9 ?_);have hlt:=K.there _ hok;have hS:(s.heap.push { cls:=.type "list",data:=.seq #[] }).get? s.heap.objs.size=some { cls:=.type "list",data:=.seq #[] }:=Mo _ rfl;refine L4 ⟨OM Qn _,wR (s:={ s with heap:=s.heap.push { cls:=.type "list",data:=.seq #[] } }) K hh (K.keep _ _ hok fun b _ o e=>LW _ e) _ (OI hlt.1) (OI hlt.2) _ hS hn fun h' tk acc' c' hk hS' hacc=>?_⟩;show wpAny _ A (load s.heap.objs.size >>= _) _ _ _;refine LQ (wpAny_load hS' (L4 ?_));exact hQ h' tk acc'.toList (Ou (L6 hS')) (fun b o e=>hk b o (Md (L6 e)) (LW _ e)) (by rw [MC];exact hacc.1) fun j v e=>hacc.2 j v (by rw [<- MZ];exact e)
def B1 {T:String} {r d:Addr} {n:Nat} {P:Nat->Value->Prop} {OK:Heap->Prop} (K:KdlSrc prog w T r d n P OK) {ks:List Nat} (hks:ks.length=n) (hP:∀ (j:Nat) (v:Value),P j v->∃ (k:Nat) (tk:Tok),ks[j]?=some k/\v=Ol (k:Int) tk) {Q:Value->LV->Prop} (hh:A.handled=none) (hok:OK s.heap) (hn:n<64)
  (h:∀ (h':Heap) (tk:Nat) (d:Addr) (out:Array Value) (c:Nat) (l:List Nat),OD out.toList (l.map fun (k:Nat)=>(k:Int))->l.Perm ks->l.Pairwise (·<=·)->s.heap.objs.size<=d->h'.get? d=some (seqObj "list" out c)->(∀ b o,s.heap.get? b=some o->h'.get? b=some o)->Q (.ref d) { s with heap:=h',toks:=tk }) :
  wpAny (model prog w) A (call (.builtin "sorted") [.ref r]) Q E s:=by
 refine PF T5 TQ TR (TU _) ?_;unfold OE.«sorted»;refine LQ (m:=checkCount "sorted" 1 1 _) (L4 ?_);refine LQ (AN K (by simp [hh]) hok (by rw [MX];omega) fun h1 tk1 vs kz k1 vl hv=>?_)
 have hI:OD vs (ks.map fun (k:Nat)=>(k:Int)):=by
  have go:∀ (vs:List Value) (ks:List Nat),vs.length=ks.length->(∀ (j:Nat) (v:Value),vs[j]?=some v->∃ (k:Nat) (tk:Tok),ks[j]?=some k/\v=Ol (k:Int) tk)->OD vs (ks.map fun (k:Nat)=>(k:Int)):=by
   intro vs
   induction vs with
   | nil =>
    intro ks hl _;cases ks with
    | nil=>exact .nil
    | cons _ _=>simp at hl
   | cons v vs ih =>
    intro ks hl hv;cases ks with
    | nil=>simp at hl
    | cons k ks =>
     obtain ⟨k',tk,e1,e2⟩:=hv 0 v rfl;simp at e1;subst e1;subst e2;exact .cons _ _ (ih ks (by simpa using hl) fun j v e=>by simpa using hv (j+1) v (by simpa using e))
  exact go vs ks (by omega) fun j v e=>hP j v (hv j v e)
 refine LQ (RL ?_);have oL:(h1.push (seqObj "list" vs.toArray 0)).get? h1.objs.size=some (seqObj "list" vs.toArray 0):=Mo _ rfl;refine LQ (M4 (N5 S4 ⟨_,oL,rfl⟩ SA (list_sort_tree oL hI (by omega) fun out ns' a1 a2 a3=>⟨_,rfl,?_⟩) (S5 _)))
 obtain ⟨c,hc⟩:=sortedHeap_at (out:=out) oL;obtain ⟨l,rfl,lp⟩:=ow a2;refine L4 ⟨_,rfl,h _ tk1 _ out c l a1 lp ?_ kz hc fun b ob e=>?_⟩
 ·rw [NX] at a3;exact a3.imp fun z=>by omega
 ·have e1:=k1 _ _ e;rw [sortedHeap_old (Md (L6 e1)) (by rw [OP];exact NH (L6 e1))]
  exact LW _ e1
end
def zm:List V->Hp->VK->Prop:=fun xs H Q=>∃ (a:Addr) (kvs:List (Key×V)) (ks:List Nat),xs=[.ref a]/\H a=some (.dK kvs)/\kvs.map (·.1)=ks.map nk/\ks.length<64 /\
 ∀ (d:Addr) (l:List Nat),H d=none->l.Perm ks->l.Pairwise (·<=·)->Q (.ref d) (upd H d (.lst (aO l)))
def wX {X:Cx} (hc:X.calm=true):cE X (.builtin "sorted") zm:=by
 intro pins s σ H xs us Q I r h;obtain ⟨a,kvs,ks,rfl,hx,hk,h64,q⟩:=h;obtain ⟨u,rfl,ru⟩:=vals1 r;cases (show u=Mt a from ru);obtain ⟨z,hd,vs,rel,dd⟩:=Dq I.hok hx;obtain ⟨ep,da⟩:=dd.dictAt;have kl:kvs.length=ks.length:=by have:=congrArg QJ hk;simpa using this
 have hl:=rel.length;refine B1 (kdl_dict (knd:=cG X.prog X.w) (kvs:=vs) (ep:=ep) hd) (ks:=ks) (by omega) (fun j v ⟨k,x,e,hk'⟩=>?_) (I.ok.hd hc) da (by omega) fun h' tk d out c l a1 a2 a3 hd' ho hk'=>?_
 ·have jl:j<kvs.length:=by rw [hl];exact (LR.mp e).1
  obtain ⟨q',hq,e1,r1⟩:=rel.get (LP jl);rw [e] at hq;cases hq;have kj:j<ks.length:=by omega
  have ek:kvs[j].1=nk ks[j]:=by
   have:=congrArg (fun l=>l[j]?) hk;simp only [Mp,LP jl,LP kj,Option.map_some] at this;exact ME this
  have kr:=Jw hk';rw [show k=nk ks[j] from e1.symm.trans ek] at kr;obtain ⟨t,et⟩:=(show RelV (.int (ks[j]:Int)) v from kr);exact ⟨ks[j],t,LP kj,et⟩
 ·have hn:H d=none:=I.hok.fresh hd';refine ⟨.ref d,_,I.laid (o:=.lst (aO l)) hk' hd' ⟨?_,out.toList,c,?_,?_⟩,rfl,q d l hn a2 a3⟩
  ·unfold aO;rw [LX,a2.length_eq];exact small (by omega)
  ·rw [fk];exact lE a1
  ·simpa [seqObj] using ho
def E7 {H:Hp} {Q:VK} {a:Addr} {kvs:List (Key×V)} {ks:List Nat} (h:H a=some (.dK kvs)) (hk:kvs.map (·.1)=ks.map nk) (hl:ks.length<64)
  (q:∀ (d:Addr) (l:List Nat),H d=none->l.Perm ks->l.Pairwise (·<=·)->Q (.ref d) (upd H d (.lst (aO l)))):zm [.ref a] H Q:=⟨a,kvs,ks,rfl,h,hk,hl,q⟩
end L2
namespace L2
open PySem PySem.Spec PyProof.Rows
section
variable {K:LO} {h:Heap} {mg:Str->Option Value} {f:Addr} {od an:Option Addr} {sl:Array (Option Value)} {oc kV dc pm cd ct:Value} {x:Str} {st:Stmt} {fd:Na}
def bd1 {p1:Str} (hb:∀ u1:Value,bindArgs fd ⟨[u1],[]⟩=pure [(p1,u1)]:=by intros;rfl):Binds K fd [p1] []:=.all fun us hl=>by obtain ⟨u1,rfl⟩:=KU hl;exact hb _
def df1 {p1:Str} (X:K.In h) (G:h.Ns MP mg) (a:ON K MP x=some (some (.ref f)):=by k_is) (l:K.lookup f=some ⟨oc,od,.func (MR x x (bR st) (bC st) (ak st) .none kV dc pm an cd ct),sl⟩:=by k_is) (c:Nx K cd x=true:=by k_is) (k:M6 K (.ref f)=true:=by k_is)
  (hb:∀ u1:Value,bindArgs (MR x x (bR st) (bC st) (ak st) .none kV dc pm an cd ct) ⟨[u1],[]⟩=pure [(p1,u1)]:=by intros;rfl):Df K mg x st [p1]:=⟨f,_,mH l c k,bd1 hb,OO X G a⟩
def bd2 {p1 p2:Str} (hb:∀ u1 u2:Value,bindArgs fd ⟨[u1,u2],[]⟩=pure [(p1,u1),(p2,u2)]:=by intros;rfl):Binds K fd [p1,p2] []:=.all fun us hl=>by obtain ⟨u1,u2,rfl⟩:=Dm hl;exact hb _ _
def df2 {p1 p2:Str} (X:K.In h) (G:h.Ns MP mg) (a:ON K MP x=some (some (.ref f)):=by k_is) (l:K.lookup f=some ⟨oc,od,.func (MR x x (bR st) (bC st) (ak st) .none kV dc pm an cd ct),sl⟩:=by k_is) (c:Nx K cd x=true:=by k_is) (k:M6 K (.ref f)=true:=by k_is)
  (hb:∀ u1 u2:Value,bindArgs (MR x x (bR st) (bC st) (ak st) .none kV dc pm an cd ct) ⟨[u1,u2],[]⟩=pure [(p1,u1),(p2,u2)]:=by intros;rfl):Df K mg x st [p1,p2]:=⟨f,_,mH l c k,bd2 hb,OO X G a⟩
def bd3 {p1 p2 p3:Str} (hb:∀ u1 u2 u3:Value,bindArgs fd ⟨[u1,u2,u3],[]⟩=pure [(p1,u1),(p2,u2),(p3,u3)]:=by intros;rfl):Binds K fd [p1,p2,p3] []:=.all fun us hl=>by obtain ⟨u1,u2,u3,rfl⟩:=zY hl;exact hb _ _ _
def df3 {p1 p2 p3:Str} (X:K.In h) (G:h.Ns MP mg) (a:ON K MP x=some (some (.ref f)):=by k_is) (l:K.lookup f=some ⟨oc,od,.func (MR x x (bR st) (bC st) (ak st) .none kV dc pm an cd ct),sl⟩:=by k_is) (c:Nx K cd x=true:=by k_is) (k:M6 K (.ref f)=true:=by k_is)
  (hb:∀ u1 u2 u3:Value,bindArgs (MR x x (bR st) (bC st) (ak st) .none kV dc pm an cd ct) ⟨[u1,u2,u3],[]⟩=pure [(p1,u1),(p2,u2),(p3,u3)]:=by intros;rfl):Df K mg x st [p1,p2,p3]:=⟨f,_,mH l c k,bd3 hb,OO X G a⟩
def bd4 {p1 p2 p3 p4:Str} (hb:∀ u1 u2 u3 u4:Value,bindArgs fd ⟨[u1,u2,u3,u4],[]⟩=pure [(p1,u1),(p2,u2),(p3,u3),(p4,u4)]:=by intros;rfl):Binds K fd [p1,p2,p3,p4] []:=.all fun us hl=>by obtain ⟨u1,u2,u3,u4,rfl⟩:=zZ hl;exact hb _ _ _ _
def df4 {p1 p2 p3 p4:Str} (X:K.In h) (G:h.Ns MP mg) (a:ON K MP x=some (some (.ref f)):=by k_is) (l:K.lookup f=some ⟨oc,od,.func (MR x x (bR st) (bC st) (ak st) .none kV dc pm an cd ct),sl⟩:=by k_is) (c:Nx K cd x=true:=by k_is) (k:M6 K (.ref f)=true:=by k_is)
  (hb:∀ u1 u2 u3 u4:Value,bindArgs (MR x x (bR st) (bC st) (ak st) .none kV dc pm an cd ct) ⟨[u1,u2,u3,u4],[]⟩=pure [(p1,u1),(p2,u2),(p3,u3),(p4,u4)]:=by intros;rfl):Df K mg x st [p1,p2,p3,p4]:=⟨f,_,mH l c k,bd4 hb,OO X G a⟩
def bd5 {p1 p2 p3 p4 p5:Str} (hb:∀ u1 u2 u3 u4 u5:Value,bindArgs fd ⟨[u1,u2,u3,u4,u5],[]⟩=pure [(p1,u1),(p2,u2),(p3,u3),(p4,u4),(p5,u5)]:=by intros;rfl):Binds K fd [p1,p2,p3,p4,p5] []:=.all fun us hl=>by obtain ⟨u1,u2,u3,u4,u5,rfl⟩:=Kl hl;exact hb _ _ _ _ _
def df5 {p1 p2 p3 p4 p5:Str} (X:K.In h) (G:h.Ns MP mg) (a:ON K MP x=some (some (.ref f)):=by k_is) (l:K.lookup f=some ⟨oc,od,.func (MR x x (bR st) (bC st) (ak st) .none kV dc pm an cd ct),sl⟩:=by k_is) (c:Nx K cd x=true:=by k_is) (k:M6 K (.ref f)=true:=by k_is)
  (hb:∀ u1 u2 u3 u4 u5:Value,bindArgs (MR x x (bR st) (bC st) (ak st) .none kV dc pm an cd ct) ⟨[u1,u2,u3,u4,u5],[]⟩=pure [(p1,u1),(p2,u2),(p3,u3),(p4,u4),(p5,u5)]:=by intros;rfl):Df K mg x st [p1,p2,p3,p4,p5]:=⟨f,_,mH l c k,bd5 hb,OO X G a⟩
end
section
variable {K:LO} {h:Heap} {mg:Str->Option Value} {f D:Addr} {od an dd:Option Addr} {sl dsl:Array (Option Value)} {oc kV dc pm cd ct dcl:Value} {x qual:Str} {st:Stmt} {fd:Na} {n:Nat}
def ToD (x qual:Str) (st:Stmt) (args:Args) (bs:List (Str×Value)):Prop:=∀ (D:Addr) (kV doc pm:Value) (an:Option Addr) (cdv ct:Value),∃ k:Option (Array Value)->Sem (List (Str×Value)),bindArgs (MR x qual (bR st) (bC st) (ak st) (.ref D) kV doc pm an cdv ct) args=seqItems? (.ref D) >>= k/\k (some #[.none])=pure bs
def bc3 {p1 p2 p3:Str} (F:fW K x qual st f fd) (hb:∀ u1 u2 u3:Value,ToD x qual st ⟨[u1,u2,u3],[]⟩ [(p1,u1),(p2,u2),(p3,u3)]:=by intros;intro _ _ _ _ _ _ _;exact ⟨_,rfl,rfl⟩):Binds K fd [p1,p2,p3] []:=fun s us KI hl=>by rw [NS] at hl ⊢;obtain ⟨u1,u2,u3,rfl⟩:=zY hl;exact F.to KI (hb _ _ _)
def bn3 {p1 p2 p3:Str} (F:fW K x qual st f fd) (hb:∀ u1 u2:Value,ToD x qual st ⟨[u1,u2],[]⟩ [(p1,u1),(p2,u2),(p3,.none)]:=by intros;intro _ _ _ _ _ _ _;exact ⟨_,rfl,rfl⟩):Binds K fd [p1,p2,p3] [.none]:=mY rfl fun s us KI hl=>by obtain ⟨u1,u2,rfl⟩:=Dm hl;exact F.to KI (hb _ _)
def bk3 {p1 p2 p3:Str} (F:fW K x qual st f fd) (hb:∀ u1 u2 u3:Value,ToD x qual st ⟨[u1,u2],[(p3,u3)]⟩ [(p1,u1),(p2,u2),(p3,u3)]:=by intros;intro _ _ _ _ _ _ _;exact ⟨_,rfl,rfl⟩):pM K fd [p1,p2,p3] [p3] (byName 2) (byName 2):=nu rfl fun s us w KI hl=>by obtain ⟨u1,u2,rfl⟩:=Dm hl;exact F.to KI (hb _ _ w)
def dd3 {p1 p2 p3:Str} (X:K.In h) (G:h.Ns MP mg) (a:ON K MP x=some (some (.ref f)):=by k_is) (l:K.lookup f=some ⟨oc,od,.func (MR x x (bR st) (bC st) (ak st) (.ref D) kV dc pm an cd ct),sl⟩:=by k_is) (e:K.lookup D=some ⟨dcl,dd,.seq #[.none] n,dsl⟩:=by k_is) (c:Nx K cd x=true:=by k_is) (k:M6 K (.ref f)=true:=by k_is)
  (ha:∀ u1 u2 u3:Value,ToD x x st ⟨[u1,u2,u3],[]⟩ [(p1,u1),(p2,u2),(p3,u3)]:=by intros;intro _ _ _ _ _ _ _;exact ⟨_,rfl,rfl⟩) (hb:∀ u1 u2:Value,ToD x x st ⟨[u1,u2],[]⟩ [(p1,u1),(p2,u2),(p3,.none)]:=by intros;intro _ _ _ _ _ _ _;exact ⟨_,rfl,rfl⟩) (hc:∀ u1 u2 u3:Value,ToD x x st ⟨[u1,u2],[(p3,u3)]⟩ [(p1,u1),(p2,u2),(p3,u3)]:=by intros;intro _ _ _ _ _ _ _;exact ⟨_,rfl,rfl⟩):DfD K mg x st [p1,p2,p3] p3 2:=⟨f,_,ef l e c k,bc3 (ef l e c k) ha,bn3 (ef l e c k) hb,bk3 (ef l e c k) hc,OO X G a⟩
def bc4 {p1 p2 p3 p4:Str} (F:fW K x qual st f fd) (hb:∀ u1 u2 u3 u4:Value,ToD x qual st ⟨[u1,u2,u3,u4],[]⟩ [(p1,u1),(p2,u2),(p3,u3),(p4,u4)]:=by intros;intro _ _ _ _ _ _ _;exact ⟨_,rfl,rfl⟩):Binds K fd [p1,p2,p3,p4] []:=fun s us KI hl=>by rw [NS] at hl ⊢;obtain ⟨u1,u2,u3,u4,rfl⟩:=zZ hl;exact F.to KI (hb _ _ _ _)
def bn4 {p1 p2 p3 p4:Str} (F:fW K x qual st f fd) (hb:∀ u1 u2 u3:Value,ToD x qual st ⟨[u1,u2,u3],[]⟩ [(p1,u1),(p2,u2),(p3,u3),(p4,.none)]:=by intros;intro _ _ _ _ _ _ _;exact ⟨_,rfl,rfl⟩):Binds K fd [p1,p2,p3,p4] [.none]:=mY rfl fun s us KI hl=>by obtain ⟨u1,u2,u3,rfl⟩:=zY hl;exact F.to KI (hb _ _ _)
def bk4 {p1 p2 p3 p4:Str} (F:fW K x qual st f fd) (hb:∀ u1 u2 u3 u4:Value,ToD x qual st ⟨[u1,u2,u3],[(p4,u4)]⟩ [(p1,u1),(p2,u2),(p3,u3),(p4,u4)]:=by intros;intro _ _ _ _ _ _ _;exact ⟨_,rfl,rfl⟩):pM K fd [p1,p2,p3,p4] [p4] (byName 3) (byName 3):=nu rfl fun s us w KI hl=>by obtain ⟨u1,u2,u3,rfl⟩:=zY hl;exact F.to KI (hb _ _ _ w)
def dd4 {p1 p2 p3 p4:Str} (X:K.In h) (G:h.Ns MP mg) (a:ON K MP x=some (some (.ref f)):=by k_is) (l:K.lookup f=some ⟨oc,od,.func (MR x x (bR st) (bC st) (ak st) (.ref D) kV dc pm an cd ct),sl⟩:=by k_is) (e:K.lookup D=some ⟨dcl,dd,.seq #[.none] n,dsl⟩:=by k_is) (c:Nx K cd x=true:=by k_is) (k:M6 K (.ref f)=true:=by k_is)
  (ha:∀ u1 u2 u3 u4:Value,ToD x x st ⟨[u1,u2,u3,u4],[]⟩ [(p1,u1),(p2,u2),(p3,u3),(p4,u4)]:=by intros;intro _ _ _ _ _ _ _;exact ⟨_,rfl,rfl⟩) (hb:∀ u1 u2 u3:Value,ToD x x st ⟨[u1,u2,u3],[]⟩ [(p1,u1),(p2,u2),(p3,u3),(p4,.none)]:=by intros;intro _ _ _ _ _ _ _;exact ⟨_,rfl,rfl⟩) (hc:∀ u1 u2 u3 u4:Value,ToD x x st ⟨[u1,u2,u3],[(p4,u4)]⟩ [(p1,u1),(p2,u2),(p3,u3),(p4,u4)]:=by intros;intro _ _ _ _ _ _ _;exact ⟨_,rfl,rfl⟩):DfD K mg x st [p1,p2,p3,p4] p4 3:=⟨f,_,ef l e c k,bc4 (ef l e c k) ha,bn4 (ef l e c k) hb,bk4 (ef l e c k) hc,OO X G a⟩
def bc5 {p1 p2 p3 p4 p5:Str} (F:fW K x qual st f fd) (hb:∀ u1 u2 u3 u4 u5:Value,ToD x qual st ⟨[u1,u2,u3,u4,u5],[]⟩ [(p1,u1),(p2,u2),(p3,u3),(p4,u4),(p5,u5)]:=by intros;intro _ _ _ _ _ _ _;exact ⟨_,rfl,rfl⟩):Binds K fd [p1,p2,p3,p4,p5] []:=fun s us KI hl=>by rw [NS] at hl ⊢;obtain ⟨u1,u2,u3,u4,u5,rfl⟩:=Kl hl;exact F.to KI (hb _ _ _ _ _)
def bn5 {p1 p2 p3 p4 p5:Str} (F:fW K x qual st f fd) (hb:∀ u1 u2 u3 u4:Value,ToD x qual st ⟨[u1,u2,u3,u4],[]⟩ [(p1,u1),(p2,u2),(p3,u3),(p4,u4),(p5,.none)]:=by intros;intro _ _ _ _ _ _ _;exact ⟨_,rfl,rfl⟩):Binds K fd [p1,p2,p3,p4,p5] [.none]:=mY rfl fun s us KI hl=>by obtain ⟨u1,u2,u3,u4,rfl⟩:=zZ hl;exact F.to KI (hb _ _ _ _)
def bk5 {p1 p2 p3 p4 p5:Str} (F:fW K x qual st f fd) (hb:∀ u1 u2 u3 u4 u5:Value,ToD x qual st ⟨[u1,u2,u3,u4],[(p5,u5)]⟩ [(p1,u1),(p2,u2),(p3,u3),(p4,u4),(p5,u5)]:=by intros;intro _ _ _ _ _ _ _;exact ⟨_,rfl,rfl⟩):pM K fd [p1,p2,p3,p4,p5] [p5] (byName 4) (byName 4):=nu rfl fun s us w KI hl=>by obtain ⟨u1,u2,u3,u4,rfl⟩:=zZ hl;exact F.to KI (hb _ _ _ _ w)
def dd5 {p1 p2 p3 p4 p5:Str} (X:K.In h) (G:h.Ns MP mg) (a:ON K MP x=some (some (.ref f)):=by k_is) (l:K.lookup f=some ⟨oc,od,.func (MR x x (bR st) (bC st) (ak st) (.ref D) kV dc pm an cd ct),sl⟩:=by k_is) (e:K.lookup D=some ⟨dcl,dd,.seq #[.none] n,dsl⟩:=by k_is) (c:Nx K cd x=true:=by k_is) (k:M6 K (.ref f)=true:=by k_is)
  (ha:∀ u1 u2 u3 u4 u5:Value,ToD x x st ⟨[u1,u2,u3,u4,u5],[]⟩ [(p1,u1),(p2,u2),(p3,u3),(p4,u4),(p5,u5)]:=by intros;intro _ _ _ _ _ _ _;exact ⟨_,rfl,rfl⟩) (hb:∀ u1 u2 u3 u4:Value,ToD x x st ⟨[u1,u2,u3,u4],[]⟩ [(p1,u1),(p2,u2),(p3,u3),(p4,u4),(p5,.none)]:=by intros;intro _ _ _ _ _ _ _;exact ⟨_,rfl,rfl⟩) (hc:∀ u1 u2 u3 u4 u5:Value,ToD x x st ⟨[u1,u2,u3,u4],[(p5,u5)]⟩ [(p1,u1),(p2,u2),(p3,u3),(p4,u4),(p5,u5)]:=by intros;intro _ _ _ _ _ _ _;exact ⟨_,rfl,rfl⟩):DfD K mg x st [p1,p2,p3,p4,p5] p5 4:=⟨f,_,ef l e c k,bc5 (ef l e c k) ha,bn5 (ef l e c k) hb,bk5 (ef l e c k) hc,OO X G a⟩
end
section
variable {K:LO} {h:Heap} {mg:Str->Option Value} {f C D:Addr} {od an dd:Option Addr} {sl dsl:Array (Option Value)} {oc kV dc pm cd ct dcl:Value} {x qual:Str} {st:Stmt} {v:Value} {n:Nat}
def fnk (l:K.lookup f=some ⟨oc,od,.func (MR x qual (bR st) (bC st) (ak st) .none kV dc pm an cd ct),sl⟩:=by k_is) (c:Nx K cd qual=true:=by k_is) (k:M6 K (.ref f)=true:=by k_is) :
  Fun K x qual st f (MR x qual (bR st) (bC st) (ak st) .none kV dc pm an cd ct):=mH l c k
def mgk (X:K.In h) (G:h.Ns MP mg) (a:ON K MP x=some (some v):=by k_is):mg x=some v:=OO X G a
def mgz (X:K.In h) (G:h.Ns MP mg) (a:ON K MP x=some none:=by k_is):mg x=none:=PySem.W.mg_none_of X G a
def LD (a:Qz K C Str.empty=true:=by k_is) (b:NG K C=true:=by k_is) (c:Rg K C=true:=by k_is) (d:M5 K (.ref C) "__setattr__" = some (some (.builtin "object.__setattr__")):=by k_is):Cls K C:=⟨a,b,c,d⟩
def mkk (a:Si K C=true:=by k_is) (b:M5 K (.ref C) "__init__" = some (some (.ref f)):=by k_is) (c:Sj K (.ref f)=true:=by k_is) (d:M6 K (.ref C)=true:=by k_is):Mk K C f:=⟨a,b,c,d⟩
def Gm (a:CA K C=true:=by kernel_rfl) (b:M5 K (.ref C) "__init__" = some (some (.ref f)):=by k_is) (c:Sj K (.ref f)=true:=by k_is) (d:M5 K (.ref C) "__setattr__" = some (some (.builtin "object.__setattr__")):=by k_is) (e:NG K C=true:=by k_is) (g:HL K C=true:=by kernel_rfl) (i:M6 K (.ref C)=true:=by k_is):iT K C f:=⟨a,b,c,d,e,g,i⟩
def uo (a:cx K C:=by refine' ⟨?_,?_,?_,?_,?_,?_,?_,?_⟩ <;> k_is):cx K C:=a
def nF (a:M5 K (.ref C) x=some none:=by k_is):bO K C x:=a
def krf {α:Type} {a b:α} (e:a=b:=by kernel_rfl):a=b:=e
end
def fsc {N P:List Str} {sc:Scope} (h1:sc.kind=.function) (h2:sc.isCoroutine=false) (h3:sc.isGenerator=false) (h5:N.take P.length=P) (h:N.Nodup/\(∀ x∈P,sc.names.lookup x=some .local\/sc.names.lookup x=some .cell)/\∀ y∈sc.names,y.2≠.free):aK N P sc:=⟨h1,h2,h3,h.1,h5,h.2.1,h.2.2⟩
def csc {sc:Scope} {N:List Str} {scope:Scope} {own:List Str} {fr:List Nat} (h1:scope.kind=.function) (h:(∀ y∈scope.names,y.2≠.cell)/\(∀ y∈scope.names,y.2=.local->scope.names.lookup y.1=some .local)/\(∀ y∈scope.names,y.2=.free->sc.names.lookup y.1=some .cell\/sc.names.lookup y.1=some .free)/\(∀ i∈fr,(N[i]?.bind fun x=>scope.names.lookup x)=some .free)/\(mR own fr N).Nodup):bT sc N scope own fr:=⟨h1,h.1,h.2.1,h.2.2.1,h.2.2.2.1,h.2.2.2.2⟩
end L2
set_option maxHeartbeats 4000000
namespace TB
open PySem L2
seal PE PA PS PSs PT PI PG PGs PO
local macro_rules | `(tactic| walk_at "rd1")=>`(tactic| with_reducible first
 | refine tI (fun _ _=>?_)|refine pQ (by assumption) ?_|refine ue ?_|refine xS ?_|refine pe ?_|refine sZ ?_|refine xJ ?_|refine r_retN ?_|refine HX ?_
 | refine r_C ?_|refine Ck ?_|refine r_un ?_|refine xx ?_|refine tD ?_|refine tP ?_|refine ud ?_|refine B5 ?_|refine Ct ?_
 | refine xE ?_|refine Dx ?_|refine xH ?_|refine t6 ?_|refine xD ?_|refine r_notV ?_|refine r_if ?_|refine xF ?_|refine sG ?_|refine Ci ?_|refine sr ?_|refine bo ?_|refine qy ?_
 | refine xG ?_|refine qx ?_|refine ql ?_|refine uh ?_|refine Cq ?_|refine nA ?_|refine tV ?_|refine sY ?_|refine CQ ?_|refine xQ ?_|refine sj ?_|refine sX ?_|refine xO ?_|refine sN ?_|refine sP ?_|refine qj ?_
 | refine xN ?_|refine tT ?_|refine tW ?_|refine tN ?_|(refine' xA ?e ?_;(case e=>with_unfolding_all exact rfl)))
local macro_rules | `(tactic| walk_at "rs1")=>`(tactic| with_reducible first
 | refine tI (fun _ _=>?_)|refine pQ (by assumption) ?_|refine ue ?_|refine xS ?_|refine pe ?_|refine sZ ?_|refine xJ ?_|refine r_retN ?_
 | refine r_C ?_|refine Ck ?_|refine r_un ?_|refine xx ?_|refine tD ?_|refine tP ?_|refine ud ?_|refine B5 ?_|refine Ct ?_
 | refine xE ?_|refine Dx ?_|refine xH ?_|refine t6 ?_|refine xD ?_|refine r_notV ?_|refine r_if ?_|refine xF ?_|refine sG ?_|refine Ci ?_|refine sr ?_|refine bo ?_|refine qy ?_
 | refine xG ?_|refine qx ?_|refine ql ?_|refine uh ?_|refine Cq ?_|refine nA ?_|refine tV ?_|refine sY ?_|refine CQ ?_|refine xQ ?_|refine sj ?_|refine sX ?_|refine xO ?_|refine sN ?_|refine sP ?_|refine qj ?_
 | refine xN ?_|refine tT ?_|refine tW ?_|refine tN ?_|(refine' xA ?e ?_;(case e=>with_unfolding_all exact rfl)))
local macro_rules | `(tactic| walk_at "rs")=>`(tactic| repeat walk_at "rs1")
local macro_rules | `(tactic| walk_at "rd")=>`(tactic| repeat walk_at "rd1")
local macro_rules | `(tactic| walk_at "rw1")=>`(tactic| with_reducible first
 | refine tI (fun _ _=>?_)|refine pQ (by assumption) ?_|refine ue ?_|refine xS ?_|refine pe ?_|refine sZ ?_|refine xJ ?_|refine r_retN ?_
 | refine r_C ?_|refine Ck ?_|refine r_un ?_|refine xx ?_|refine tD ?_|refine tP ?_|refine ud ?_|refine B5 ?_|refine Ct ?_
 | refine xE ?_|refine Dx ?_|refine xH ?_|refine t6 ?_|refine xD ?_|refine r_notV ?_|refine r_if ?_|refine xF ?_|refine sG ?_|refine Ci ?_|refine sr ?_
 | refine xG ?_|refine qx ?_|refine ql ?_|refine uh ?_|refine Cq ?_|refine nA ?_|refine tV ?_|refine sY ?_|refine CQ ?_|refine xQ ?_|refine sj ?_|refine sX ?_|refine xO ?_|refine sN ?_|refine sP ?_|refine qj ?_
 | refine xN ?_|refine tT ?_|refine tW ?_|refine tN ?_|(refine' xA ?e ?_;(case e=>with_unfolding_all exact rfl)))
local macro_rules | `(tactic| walk_at "rw")=>`(tactic| repeat walk_at "rw1")
local macro_rules | `(tactic| walk_at "wr")=>`(tactic| repeat (first|exact iU|refine uR ?_ ?_|refine D4 ?_ (by decide)|exact ET rfl))
local macro_rules | `(tactic| walk_at "rn1")=>`(tactic| with_reducible first
 | refine tI (fun _ _=>?_)|refine pQ (by assumption) ?_|refine ue ?_|refine xS ?_|refine pe ?_|refine sZ ?_|refine xJ ?_|refine r_retN ?_
 | refine LF ?_|refine r_C ?_|refine Ck ?_|refine r_un ?_|refine r_rU ?_|refine JG ?_|refine Lr ?_|refine K3 ?_|refine Lg ?_|refine r_leN ?_|refine Lf ?_|refine Lp ?_
 | refine sF (by first|assumption|omega) ?_|refine Ej (by first|assumption|omega) (by first|assumption|omega) ?_|refine Kc (by omega) ?_
 | refine xx ?_|refine tD ?_|refine tP ?_|refine ud ?_|refine B5 ?_|refine Ct ?_
 | refine xE ?_|refine Dx ?_|refine xH ?_|refine t6 ?_|refine xD ?_|refine r_notV ?_|refine r_if ?_|refine xF ?_|refine sG ?_|refine Ci ?_|refine sr ?_
 | refine xG ?_|refine qx ?_|refine ql ?_|refine uh ?_|refine Cq ?_|refine nA ?_|refine tV ?_|refine sY ?_|refine CQ ?_|refine Lo ?_|refine xQ ?_|refine sj ?_|refine sX ?_|refine xO ?_|refine sN ?_|refine sP ?_|refine qj ?_
 | refine xN ?_|refine tT ?_|refine tW ?_|refine tN ?_|(refine' xA ?e ?_;(case e=>with_unfolding_all exact rfl)))
local macro_rules | `(tactic| walk_at "rx1")=>`(tactic| first|walk_at "rn1" | refine bM (by assumption) (by rfl) ?_|refine cB (by assumption) ?_|refine r_in (by assumption) ?_|refine qv (by assumption) ?_)
local macro_rules | `(tactic| walk_at "rx")=>`(tactic| repeat walk_at "rx1")
local macro_rules | `(tactic| walk_at "ifs")=>`(tactic| with_reducible refine HX ?_)
local macro_rules | `(tactic| walk_at "rn")=>`(tactic| repeat walk_at "rn1")
local macro_rules | `(tactic| walk_at "1") => `(tactic| (walk_at "rn";refine bo ?_;walk_at "rn"))
local macro_rules | `(tactic| walk_at "2") => `(tactic| (walk_at "rn";walk_at "ifs";walk_at "rn"))
local macro_rules | `(tactic| walk_at "3") => `(tactic| (walk_at "rx";walk_at "ifs";walk_at "rx"))
local macro_rules | `(tactic| walk_at "4") => `(tactic| (walk_at "rx";refine bo ?_;walk_at "rx"))
local macro_rules | `(tactic| walk_at "5") => `(tactic| (walk_at "rg";walk_at "ifs";walk_at "rg"))
local macro_rules | `(tactic| walk_at "6") => `(tactic| (walk_at "rg";refine bo ?_;walk_at "rg"))
local macro_rules | `(tactic| walk_at "7") => `(tactic| (walk_at "rn";refine qy ?_;walk_at "rn"))
local macro_rules | `(tactic| walk_at "8") => `(tactic| (refine fq ?_;walk_at "rx"))
local macro_rules | `(tactic| symm) => `(tactic| walk_at "rg")
local macro_rules | `(tactic| right) => `(tactic| walk_at "rd")
def top (i:Nat):Stmt:=PySem.Challenge.pw_tracebook_k32_refused_ones.main.body.getD i (.Pass ⟨0,0,0,0⟩)
abbrev mK:Stmt:=top 20
abbrev pF:Stmt:=top 21
abbrev jO:Stmt:=top 22
abbrev vK:Stmt:=top 23
abbrev pk:Stmt:=top 24
abbrev mW:Stmt:=top 25
abbrev vI:Stmt:=top 26
abbrev kY:Stmt:=top 27
abbrev v7:Stmt:=top 28
abbrev Bh:Stmt:=top 29
abbrev BC:Stmt:=top 30
abbrev qe:Stmt:=top 31
abbrev zG:Stmt:=top 33
abbrev pZ:Stmt:=top 35
abbrev wz:Stmt:=top 36
abbrev kC:Stmt:=top 37
abbrev vi:Stmt:=top 38
abbrev kU:Stmt:=top 39
abbrev qb:Stmt:=top 40
abbrev BI:Stmt:=top 41
abbrev vR:Stmt:=top 42
abbrev mE:Stmt:=top 45
abbrev wq:Stmt:=top 47
abbrev jJ:Stmt:=top 48
abbrev n6:Stmt:=top 49
abbrev qJ:Stmt:=top 50
abbrev qG:Stmt:=top 51
abbrev pC:Stmt:=top 52
abbrev BE:Stmt:=top 53
abbrev m4:Stmt:=top 54
abbrev pT:Stmt:=top 55
abbrev sI:Stmt:=top 56
abbrev xU:Stmt:=top 57
abbrev sR:Stmt:=top 59
abbrev qT:Stmt:=top 60
abbrev tG:Stmt:=top 61
abbrev tK:Stmt:=top 62
abbrev pL:Stmt:=top 63
abbrev wc:Stmt:=top 64
abbrev nj:Stmt:=top 65
abbrev qU:Stmt:=top 66
abbrev jn:Stmt:=top 67
abbrev oj:Stmt:=top 68
abbrev oM:Stmt:=top 69
abbrev jo:Stmt:=top 70
abbrev sQ:Stmt:=top 71
abbrev vG:Stmt:=top 72
abbrev oK:Stmt:=top 73
abbrev lP:Stmt:=top 74
abbrev nX:Stmt:=top 75
abbrev qK:Stmt:=top 76
abbrev vC:Stmt:=top 77
abbrev qR:Stmt:=top 78
abbrev t8:Stmt:=top 79
abbrev kN:Stmt:=top 80
abbrev qV:Stmt:=top 81
abbrev CV:Stmt:=top 82
abbrev kK:Stmt:=inClass (top 8) 0
abbrev pA:Stmt:=inClass (top 12) 0
abbrev me:Stmt:=inClass (top 13) 0
abbrev pq:Stmt:=inClass (top 19) 0
def jv:aK ["table","rows","unit","backs"] ["table"] (ak mK):=fsc rfl rfl rfl rfl (by trivial)
def jN:aK ["rows","many","row"] ["rows"] (ak pF):=fsc rfl rfl rfl rfl (by trivial)
def eN:aK ["rows","many","row","column"] ["rows"] (ak jO):=fsc rfl rfl rfl rfl (by trivial)
def tL:aK ["rows","thing"] ["rows"] (ak vK):=fsc rfl rfl rfl rfl (by trivial)
def nY:aK ["rows","thing","other"] ["rows","thing"] (ak pk):=fsc rfl rfl rfl rfl (by trivial)
def Am:aK ["rows","unit"] ["rows","unit"] (ak mW):=fsc rfl rfl rfl rfl (by trivial)
def sJ:aK ["rows","unit","thing","other"] ["rows","unit","thing"] (ak vI):=fsc rfl rfl rfl rfl (by trivial)
def dO:aK ["rows","many","one","two","three"] ["rows"] (ak kY):=fsc rfl rfl rfl rfl (by trivial)
def jZ:aK ["group","things","reached","thing"] ["group","things"] (ak v7):=fsc rfl rfl rfl rfl (by trivial)
def za:aK ["group","thing","many","left"] ["group","thing","many"] (ak Bh):=fsc rfl rfl rfl rfl (by trivial)
def kA:aK ["group","thing","many","reached"] ["group","thing"] (ak BC):=fsc rfl rfl rfl rfl (by trivial)
def m5:aK ["group","orders","many"] ["group"] (ak qe):=fsc rfl rfl rfl rfl (by trivial)
def EK:aK ["group","thing","by"] ["group","thing","by"] (ak zG):=fsc rfl rfl rfl rfl (by trivial)
def oh:aK ["group","some"] ["group","some"] (ak pZ):=fsc rfl rfl rfl rfl (by trivial)
def tM:aK ["group","some"] ["group","some"] (ak wz):=fsc rfl rfl rfl rfl (by trivial)
def nV:aK ["group","some"] ["group","some"] (ak kC):=fsc rfl rfl rfl rfl (by trivial)
def yF:aK ["some"] ["some"] (ak vi):=fsc rfl rfl rfl rfl (by trivial)
def c6:aK ["group","some","one","other"] ["group","some"] (ak kU):=fsc rfl rfl rfl rfl (by trivial)
def eG:aK ["group","some","words","reached","place","thing","further","part"] ["group","some"] (ak qb):=fsc rfl rfl rfl rfl (by trivial)
def nB:aK ["group","part","found","one","other"] ["group","part"] (ak BI):=fsc rfl rfl rfl rfl (by trivial)
def ui:aK ["group","part","by","thing"] ["group","part","by"] (ak vR):=fsc rfl rfl rfl rfl (by trivial)
def lu:aK ["many"] ["many"] (ak mE):=fsc rfl rfl rfl rfl (by trivial)
def jY:aK ["group","spokes","least"] ["group","spokes"] (ak wq):=fsc rfl rfl rfl rfl (by trivial)
def mC:aK ["part","marks","spokes"] ["part","marks","spokes"] (ak jJ):=fsc rfl rfl rfl rfl (by trivial)
def dq:aK ["group","part","marks","spokes","many","mark","one","other"] ["group","part","marks","spokes"] (ak n6):=fsc rfl rfl rfl rfl (by trivial)
def eV:aK ["group","part","marks","spokes","found"] ["group","part","marks","spokes"] (ak qJ):=fsc rfl rfl rfl rfl (by trivial)
def iG:aK ["group","part","by","thing"] ["group","part","by"] (ak qG):=fsc rfl rfl rfl rfl (by trivial)
def eB:aK ["group","part","marks","by","mark","thing"] ["group","part","marks","by"] (ak pC):=fsc rfl rfl rfl rfl (by trivial)
def rg:aK ["group","part","marks","thing","spokes"] ["group","part","marks","thing","spokes"] (ak BE):=fsc rfl rfl rfl rfl (by trivial)
def cT:aK ["group","part","marks","thing","spokes","mark","steps","aim","origins","many","base","greater","found","own"] ["group","part","marks","thing","spokes"] (ak m4):=fsc rfl rfl rfl rfl (by trivial)
def jK:aK ["group","part","thing","steps"] ["group","part","thing"] (ak pT):=fsc rfl rfl rfl rfl (by trivial)
def fK:aK ["group","part","spokes","many","reached","found","thing","taken"] ["group","part","spokes"] (ak sI):=fsc rfl rfl rfl rfl (by trivial)
def pK:aK ["lists","found","some"] ["lists"] (ak xU):=fsc rfl rfl rfl rfl (by trivial)
def As:aK ["_law_script","_law_k"] ["_law_script","_law_k"] (ak sR):=fsc rfl rfl rfl rfl (by trivial)
def cI:aK ["_law_one","_law_two","_law_number","_law_some","_law_top","_law_steps","_law_room","_law_first","_law_second","_law_third"] ["_law_one","_law_two"] (ak qT):=fsc rfl rfl rfl rfl (by trivial)
def qQ:aK ["_law_sizes_here","_law_number","_law_kinds"] ["_law_sizes_here","_law_number"] (ak tG):=fsc rfl rfl rfl rfl (by trivial)
def eP:aK ["_law_many","_law_steps","_law_number","_law_units","_law_u","_law_found","_law_k"] ["_law_many","_law_steps","_law_number"] (ak tK):=fsc rfl rfl rfl rfl (by trivial)
def cp:aK ["_law_place","_law_sizes_here","_law_kind_here","_law_units","_law_x","_law_y","_law_w"] ["_law_place","_law_sizes_here","_law_kind_here","_law_units"] (ak pL):=fsc rfl rfl rfl rfl (by trivial)
def iD:aK ["_law_one","_law_other","_law_sizes_here","_law_both","_law_x","_law_y","_law_w"] ["_law_one","_law_other","_law_sizes_here"] (ak wc):=fsc rfl rfl rfl rfl (by trivial)
def cq:aK ["_law_sizes_here","_law_turn","_law_end","_law_calm","_law_rows_here","_law_led","_law_i","_law_one","_law_row","_law_j","_law_other","_law_place"] ["_law_sizes_here","_law_turn","_law_end"] (ak nj):=fsc rfl rfl rfl rfl (by trivial)
def ip:aK ["_law_many","_law_number","_law_names_here","_law_k"] ["_law_many","_law_number"] (ak qU):=fsc rfl rfl rfl rfl (by trivial)
def bp:aK ["_law_script","_law_start","_law_one","_law_two","_law_sizes_here","_law_stirred","_law_kind_here","_law_units","_law_k","_law_calm","_law_turn","_law_end","_law_rows_here","_law_names_here","_law_row","_law_table","_law_a","_law_b","_law_thing"] ["_law_script","_law_start"] (ak jn):=fsc rfl rfl rfl rfl (by trivial)
def mr:aK ["_law_table","_law_a"] ["_law_table"] (ak oj):=fsc rfl rfl rfl rfl (by trivial)
def ei:aK ["_law_table","_law_some","_law_part","_law_k","_law_thing","_law_found"] ["_law_table","_law_some"] (ak oM):=fsc rfl rfl rfl rfl (by trivial)
def eU:aK ["_law_table","_law_units","_law_powers","_law_many"] ["_law_table"] (ak jo):=fsc rfl rfl rfl rfl (by trivial)
def fI:aK ["_law_script","_law_table","_law_cell_here","_law_some","_law_part","_law_way","_law_at"] ["_law_script","_law_table"] (ak sQ):=fsc rfl rfl rfl rfl (by trivial)
def CT:aK ["_law_script","_law_k"] ["_law_script","_law_k"] (ak vG):=fsc rfl rfl rfl rfl (by trivial)
def jM:aK ["_law_script","_law_least","_law_cell_here","_law_way"] ["_law_script","_law_least"] (ak oK):=fsc rfl rfl rfl rfl (by trivial)
def iq:aK ["_law_script","_law_many","_law_marks_here","_law_cell_here","_law_way"] ["_law_script","_law_many"] (ak lP):=fsc rfl rfl rfl rfl (by trivial)
def gn:aK ["_law_table","_law_part","_law_k","_law_a","_law_b"] ["_law_table","_law_part"] (ak nX):=fsc rfl rfl rfl rfl (by trivial)
def iM:aK ["_law_table","_law_part","_law_marks_here","_law_spokes_here","_law_a","_law_b","_law_found"] ["_law_table","_law_part","_law_marks_here","_law_spokes_here"] (ak qK):=fsc rfl rfl rfl rfl (by trivial)
def nJ:aK ["_law_table","_law_part","_law_marks_here","_law_spokes_here","_law_least","_law_mark"] ["_law_table","_law_part","_law_marks_here","_law_spokes_here"] (ak vC):=fsc rfl rfl rfl rfl (by trivial)
def yR:aK ["_law_group_here","_law_handed","_law_thing","_law_spokes_here","_law_which"] ["_law_group_here","_law_handed","_law_thing","_law_spokes_here","_law_which"] (ak qR):=fsc rfl rfl rfl rfl (by trivial)
def dv:aK ["_law_group_here","_law_handed","_law_thing","_law_spokes_here","_law_which","_law_found","e","_law_k"] ["_law_group_here","_law_handed","_law_thing","_law_spokes_here","_law_which"] (ak t8):=fsc rfl rfl rfl rfl (by trivial)
def cJ:aK ["_law_met","_law_some","_law_names_here","_law_found"] ["_law_met"] (ak kN):=fsc rfl rfl rfl rfl (by trivial)
def iY:aK ["_law_group_here","_law_handed","_law_thing","_law_spokes_here","_law_which","_law_met","e"] ["_law_group_here","_law_handed","_law_thing","_law_spokes_here","_law_which"] (ak qV):=fsc rfl rfl rfl rfl (by trivial)
def eW:aK ["_law_script","_law_table","_law_part","_law_spokes_here","_law_marks_here","_law_thing","_law_due_here","_law_group_here","_law_handed","_law_which","_law_wanted"] ["_law_script"] (ak CV):=fsc rfl rfl rfl rfl (by trivial)
def qF:aK ["self","turner","thing"] ["self","turner","thing"] (ak kK):=fsc rfl rfl rfl rfl (by trivial)
def wK:aK ["self","one","two"] ["self","one","two"] (ak pA):=fsc rfl rfl rfl rfl (by trivial)
def uj:aK ["self","thing"] ["self","thing"] (ak me):=fsc rfl rfl rfl rfl (by trivial)
def wI:aK ["self","rows","unit","backs"] ["self","rows","unit","backs"] (ak pq):=fsc rfl rfl rfl rfl (by trivial)
def oa:bT (ak mK) ["table","rows","unit","backs"] { kind:=.function,names:=[(".0",.local),("row",.local),("list",.globalImplicit)],isGenerator:=false,isCoroutine:=false,more:=[] } ["row"] []:=csc rfl (by trivial)
def nZ:bT (ak mW) ["rows","unit"] { kind:=.function,names:=[(".0",.local),("thing",.local),("back_of",.globalImplicit),("rows",.free),("unit",.free)],isGenerator:=false,isCoroutine:=false,more:=[] } ["thing"] [0,1]:=csc rfl (by trivial)
def sL:bT (ak qe) ["group","orders","many"] { kind:=.function,names:=[(".0",.local),("thing",.local),("order",.globalImplicit),("group",.free)],isGenerator:=false,isCoroutine:=false,more:=[] } ["thing"] [0]:=csc rfl (by trivial)
def tE:bT (ak qe) ["group","orders","many"] { kind:=.function,names:=[(".0",.local),("times",.local),("many",.free)],isGenerator:=false,isCoroutine:=false,more:=[] } ["times"] [2]:=csc rfl (by trivial)
def fR:bT (ak kC) ["group","some"] { kind:=.function,names:=[(".0",.local),("number",.local),("group",.free)],isGenerator:=false,isCoroutine:=false,more:=[] } ["number"] [0]:=csc rfl (by trivial)
def jP:bT (ak vi) ["some"] { kind:=.function,names:=[(".0",.local),("place",.local),("some",.free)],isGenerator:=false,isCoroutine:=false,more:=[] } ["place"] [0]:=csc rfl (by trivial)
def pf:bT (ak qb) ["group","some","words","reached","place","thing","further","part"] { kind:=.function,names:=[(".0",.local),("thing",.local),("words",.free)],isGenerator:=false,isCoroutine:=false,more:=[] } ["thing"] [2]:=csc rfl (by trivial)
def fh:bT (ak jJ) ["part","marks","spokes"] { kind:=.function,names:=[(".0",.local),("mark",.local),("spokes",.free)],isGenerator:=false,isCoroutine:=false,more:=[] } ["mark"] [2]:=csc rfl (by trivial)
def oo:bT (ak m4) ["group","part","marks","thing","spokes","mark","steps","aim","origins","many","base","greater","found","own"] { kind:=.function,names:=[(".0",.local),("one",.local),("origins",.free),("own",.free),("spokes",.free)],isGenerator:=false,isCoroutine:=false,more:=[] } ["one"] [8,13,4]:=csc rfl (by trivial)
def v5:bT (ak sI) ["group","part","spokes","many","reached","found","thing","taken"] { kind:=.function,names:=[(".0",.local),("marks",.local),("taken_on",.globalImplicit),("group",.free),("many",.free),("reached",.free),("thing",.free)],isGenerator:=false,isCoroutine:=false,more:=[] } ["marks"] [0,3,4,6]:=csc rfl (by trivial)
def we:bT (ak sI) ["group","part","spokes","many","reached","found","thing","taken"] { kind:=.function,names:=[(".0",.local),("greater",.local),("ways",.local)],isGenerator:=false,isCoroutine:=false,more:=[] } ["greater","ways"] []:=csc rfl (by trivial)
def oi:bT (ak nj) ["_law_sizes_here","_law_turn","_law_end","_law_calm","_law_rows_here","_law_led","_law_i","_law_one","_law_row","_law_j","_law_other","_law_place"] { kind:=.function,names:=[(".0",.local),("_law_place",.local),("_law_turn",.free)],isGenerator:=false,isCoroutine:=false,more:=[] } ["_law_place"] [1]:=csc rfl (by trivial)
def l9:bT (ak jn) ["_law_script","_law_start","_law_one","_law_two","_law_sizes_here","_law_stirred","_law_kind_here","_law_units","_law_k","_law_calm","_law_turn","_law_end","_law_rows_here","_law_names_here","_law_row","_law_table","_law_a","_law_b","_law_thing"] { kind:=.function,names:=[(".0",.local),("_law_place",.local),("_law_turned",.globalImplicit),("_law_kind_here",.free),("_law_sizes_here",.free),("_law_units",.free)],isGenerator:=false,isCoroutine:=false,more:=[] } ["_law_place"] [6,4,7]:=csc rfl (by trivial)
def md:bT (ak jn) ["_law_script","_law_start","_law_one","_law_two","_law_sizes_here","_law_stirred","_law_kind_here","_law_units","_law_k","_law_calm","_law_turn","_law_end","_law_rows_here","_law_names_here","_law_row","_law_table","_law_a","_law_b","_law_thing"] { kind:=.function,names:=[(".0",.local),("_law_row",.local),("list",.globalImplicit)],isGenerator:=false,isCoroutine:=false,more:=[] } ["_law_row"] []:=csc rfl (by trivial)
def l7:bT (ak jo) ["_law_table","_law_units","_law_powers","_law_many"] { kind:=.function,names:=[(".0",.local),("_law_a",.local),("_law_unit_of",.globalImplicit),("_law_table",.free)],isGenerator:=false,isCoroutine:=false,more:=[] } ["_law_a"] [0]:=csc rfl (by trivial)
def l6:bT (ak jo) ["_law_table","_law_units","_law_powers","_law_many"] { kind:=.function,names:=[(".0",.local),("_law_a",.local),("_law_powers",.free),("_law_table",.free)],isGenerator:=false,isCoroutine:=false,more:=[] } ["_law_a"] [2,0]:=csc rfl (by trivial)
def mF:bT (ak lP) ["_law_script","_law_many","_law_marks_here","_law_cell_here","_law_way"] { kind:=.function,names:=[(".0",.local),("_law_k",.local)],isGenerator:=false,isCoroutine:=false,more:=[] } ["_law_k"] []:=csc rfl (by trivial)
def lF:bT (ak kN) ["_law_met","_law_some","_law_names_here","_law_found"] { kind:=.function,names:=[(".0",.local),("_law_name",.local),("_law_truth",.local)],isGenerator:=false,isCoroutine:=false,more:=[] } ["_law_name","_law_truth"] []:=csc rfl (by trivial)
def yA:bT (ak CV) ["_law_script","_law_table","_law_part","_law_spokes_here","_law_marks_here","_law_thing","_law_due_here","_law_group_here","_law_handed","_law_which","_law_wanted"] { kind:=.function,names:=[(".0",.local),("_law_row",.local),("list",.globalImplicit)],isGenerator:=false,isCoroutine:=false,more:=[] } ["_law_row"] []:=csc rfl (by trivial)
set_option genInjectivity false in
set_option genSizeOf false in
structure Txt (K:LO) (mg:Str->Option Value) where
 kf:Df K mg "group_of" mK ["table"]
 iL:Df K mg "check_size" pF ["rows"]
 eR:Df K mg "check_strangers" jO ["rows"]
 lA:Df K mg "unit_of" vK ["rows"]
 iE:Df K mg "leaves_all" pk ["rows","thing"]
 j7:Df K mg "backs_of" mW ["rows","unit"]
 lJ:Df K mg "back_of" vI ["rows","unit","thing"]
 fv:Df K mg "check_together" kY ["rows"]
 ic:Df K mg "product" v7 ["group","things"]
 ku:Df K mg "power" Bh ["group","thing","many"]
 lY:Df K mg "order" BC ["group","thing"]
 mB:Df K mg "turns" qe ["group"]
 jc:Df K mg "turned" zG ["group","thing","by"]
 bW:Df K mg "check_part" pZ ["group","some"]
 fc:Df K mg "is_part" wz ["group","some"]
 dC:Df K mg "all_things" kC ["group","some"]
 hZ:Df K mg "rises" vi ["some"]
 cg:Df K mg "holds_products" kU ["group","some"]
 lB:Df K mg "closure" qb ["group","some"]
 qi:Df K mg "mixed" BI ["group","part"]
 jA:Df K mg "led_out" vR ["group","part","by"]
 cN:Df K mg "check_spokes" mE ["many"]
 cP:Df K mg "serving" wq ["group","spokes"]
 c9:Df K mg "check_marks" jJ ["part","marks","spokes"]
 bU:DfD K mg "first_break" n6 ["group","part","marks","spokes"] "spokes" 3
 cU:Df K mg "check_way" qJ ["group","part","marks","spokes"]
 cX:Df K mg "check_led" qG ["group","part","by"]
 cH:Df K mg "check_kept" pC ["group","part","marks","by"]
 eA:DfD K mg "grown" BE ["group","part","marks","thing","spokes"] "spokes" 4
 iz:Df K mg "taken_on" m4 ["group","part","marks","thing","spokes"]
 iR:Df K mg "steps_into" pT ["group","part","thing"]
 iW:DfD K mg "ones" sI ["group","part","spokes"] "spokes" 2
 m9:Df K mg "joined" xU ["lists"]
 cu:Df K mg "_law_cell" sR ["_law_script","_law_k"]
 jm:Df K mg "_law_sizes" qT ["_law_one","_law_two"]
 jS:Df K mg "_law_kind" tG ["_law_sizes_here","_law_number"]
 j6:Df K mg "_law_unit" tK ["_law_many","_law_steps","_law_number"]
 iV:Df K mg "_law_turned" pL ["_law_place","_law_sizes_here","_law_kind_here","_law_units"]
 jD:Df K mg "_law_sum" wc ["_law_one","_law_other","_law_sizes_here"]
 jW:Df K mg "_law_rows" nj ["_law_sizes_here","_law_turn","_law_end"]
 jt:Df K mg "_law_names" qU ["_law_many","_law_number"]
 jk:Df K mg "_law_group" jn ["_law_script","_law_start"]
 fD:Df K mg "_law_unit_of" oj ["_law_table"]
 iH:Df K mg "_law_closed" oM ["_law_table","_law_some"]
 gF:Df K mg "_law_turns" jo ["_law_table"]
 j5:Df K mg "_law_list" sQ ["_law_script","_law_table"]
 fS:Df K mg "_law_far" vG ["_law_script","_law_k"]
 iS:Df K mg "_law_spokes" oK ["_law_script","_law_least"]
 ju:Df K mg "_law_marks" lP ["_law_script","_law_many"]
 gM:Df K mg "_law_is_part" nX ["_law_table","_law_part"]
 jq:Df K mg "_law_break" qK ["_law_table","_law_part","_law_marks_here","_law_spokes_here"]
 lH:Df K mg "_law_due" vC ["_law_table","_law_part","_law_marks_here","_law_spokes_here"]
 gD:Df K mg "_law_asked" qR ["_law_group_here","_law_handed","_law_thing","_law_spokes_here","_law_which"]
 jT:Df K mg "_law_told" t8 ["_law_group_here","_law_handed","_law_thing","_law_spokes_here","_law_which"]
 iu:Df K mg "_law_called" kN ["_law_met"]
 jw:Df K mg "_law_flags" qV ["_law_group_here","_law_handed","_law_thing","_law_spokes_here","_law_which"]
 qq:Df K mg "law" CV ["_law_script"]
 aI:Addr
 uF:Addr
 uW:Na
 IS:mg "Group" = some (.ref aI)
 fH:Cls K aI
 IV:Mk K aI uF
 IJ:Fun K "__init__" "Group.__init__" pq uF uW
 Ja:Binds K uW ["self","rows","unit","backs"] []
 oS:bO K aI "many"
 kL:bO K aI "rows"
 kE:bO K aI "unit"
 n5:bO K aI "backs"
 bt:Addr
 rj:mg "NoPart" = some (.ref bt)
 a0:Addr
 j9:mg "BadWheel" = some (.ref a0)
 bc:Addr
 ka:mg "BadMarks" = some (.ref bc)
 eQ:Addr
 qL:mg "BookError" = some (.ref eQ)
 fZ:Addr
 Fu:mg "BadSize" = some (.ref fZ)
 fw:Addr
 BX:mg "Stranger" = some (.ref fw)
 gU:Addr
 FN:mg "NoUnit" = some (.ref gU)
 hX:Addr
 Hr:mg "NoBack" = some (.ref hX)
 dI:Addr
 xo:mg "NotTogether" = some (.ref dI)
 gX:Addr
 Hw:mg "NoMove" = some (.ref gX)
 d6:Addr
 zW:mg "OtherGroup" = some (.ref d6)
 d0:Addr
 yj:mg "OtherWheel" = some (.ref d0)
 fB:Addr
 Co:mg "TooGreat" = some (.ref fB)
 bE:Addr
 uC:Addr
 uG:Na
 uH:mg "NoWay" = some (.ref bE)
 mf:iT K bE uC
 Iu:Fun K "__init__" "NoWay.__init__" pA uC uG
 Jg:Binds K uG ["self","one","two"] []
 qS:bO K bE "one"
 qW:bO K bE "two"
 bg:Addr
 lQ:Addr
 lW:Na
 qH:mg "NotSteady" = some (.ref bg)
 lU:iT K bg lQ
 Ae:Fun K "__init__" "NotSteady.__init__" kK lQ lW
 AX:Binds K lW ["self","turner","thing"] []
 p6:bO K bg "turner"
 qC:bO K bg "thing"
 bJ:Addr
 ph:Addr
 oF:Na
 vw:mg "NotKept" = some (.ref bJ)
 vU:iT K bJ ph
 D5:Fun K "__init__" "NotKept.__init__" me ph oF
 EU:Binds K oF ["self","thing"] []
 so:bO K bJ "thing"
 Gz:Po K bt bmV ot=true
 FL:cx K bt
 r9:Po K a0 bmV ot=true
 Cp:cx K a0
 tZ:Po K bc bmV ot=true
 Dl:cx K bc
 vo:cx K bE
 K0:cx K bg
 LA:cx K bJ
 Fh:Mu K (.ref bt) (.ref bt)=some true
 FR:Mu K (.ref bt) (.ref eQ)=some true
 GD:Nw K (.ref bt) (.type "ValueError")=some true
 Aj:Mu K (.ref a0) (.ref bt)=some false
 AD:Mu K (.ref a0) (.ref a0)=some true
 CD:Mu K (.ref a0) (.ref eQ)=some true
 CF:Nw K (.ref a0) (.type "ValueError")=some true
 Ak:Mu K (.ref bc) (.ref bt)=some false
 Ay:Mu K (.ref bc) (.ref a0)=some false
 Av:Mu K (.ref bc) (.ref bc)=some true
 Dt:Mu K (.ref bc) (.ref eQ)=some true
 Cd:Nw K (.ref bc) (.type "ValueError")=some true
 FY:Mu K (.ref bE) (.ref bt)=some false
 Gw:Mu K (.ref bE) (.ref a0)=some false
 GF:Mu K (.ref bE) (.ref bc)=some false
 Hl:Mu K (.ref bE) (.ref bE)=some true
 Jf:Mu K (.ref bE) (.ref eQ)=some true
 IH:Nw K (.ref bE) (.type "ValueError")=some true
 yH:Mu K (.ref bg) (.ref bt)=some false
 yY:Mu K (.ref bg) (.ref a0)=some false
 zj:Mu K (.ref bg) (.ref bc)=some false
 z9:Mu K (.ref bg) (.ref bE)=some false
 zq:Mu K (.ref bg) (.ref eQ)=some true
 De:Mu K (.ref bJ) (.ref bt)=some false
 Dh:Mu K (.ref bJ) (.ref a0)=some false
 Dz:Mu K (.ref bJ) (.ref bc)=some false
 Cj:Mu K (.ref bJ) (.ref bE)=some false
 CI:Mu K (.ref bJ) (.ref eQ)=some true
 Gs:flagsOf K bt [fZ,fw,gU,hX,dI,bt,bg,a0,gX,bc,bE,bJ,d6,d0,fB]=(tO 15 5).map some
 Cy:flagsOf K a0 [fZ,fw,gU,hX,dI,bt,bg,a0,gX,bc,bE,bJ,d6,d0,fB]=(tO 15 7).map some
 C5:flagsOf K bc [fZ,fw,gU,hX,dI,bt,bg,a0,gX,bc,bE,bJ,d6,d0,fB]=(tO 15 9).map some
 JC:flagsOf K bE [fZ,fw,gU,hX,dI,bt,bg,a0,gX,bc,bE,bJ,d6,d0,fB]=(tO 15 10).map some
 xj:Tok
 oq:mg "MOST_SPOKES" = some (.int 60 xj)
 wQ:Tok
 xf:mg "MOST_THINGS" = some (.int 23 wQ)
 zQ:mg "ValueError" = none
 xv:mg "all" = none
 Dc:mg "any" = none
 JD:mg "bool" = none
 sy:mg "dict" = none
 qP:mg "enumerate" = none
 Ll:mg "int" = none
 bx:mg "isinstance" = none
 bB:mg "len" = none
 kJ:mg "list" = none
 Lc:mg "max" = none
 bD:mg "range" = none
 nt:mg "set" = none
 jf:mg "sorted" = none
 sh:mg "zip" = none
def tb (t:List (List Nat)) (i j:Nat):Nat:=(t.getD i []).getD j 0
structure Sq (n:Nat) (t:List (List Nat)):Prop where
 len:t.length=n
 pos:1<=n
 le:n<=23
 row:∀ (i:Nat) (r:List Nat),t[i]?=some r->r.length=n
structure Gd (n:Nat) (t:List (List Nat)):Prop extends Sq n t where
 lt:∀ i j,i<n->j<n->tb t i j<n
structure GT (n:Nat) (t:List (List Nat)) (e:Nat):Prop extends Gd n t where
 elt:e<n
 unl:∀ i,i<n->tb t e i=i
 unr:∀ i,i<n->tb t i e=i
 back:∀ i,i<n->∃ b,b<n/\tb t i b=e/\tb t b i=e
 assoc:∀ i j k,i<n->j<n->k<n->tb t (tb t i j) k=tb t i (tb t j k)
def Sq.get {n:Nat} {t:List (List Nat)} (s:Sq n t) {i:Nat} (h:i<n):t[i]?=some (t.getD i []):=by
 have hl:i<t.length:=by rw [s.len];exact h
 rw [LU,LP hl];simp
def Sq.d4 {n:Nat} {t:List (List Nat)} (s:Sq n t) {i j:Nat} (h:i<n) (h':j<n):(t.getD i [])[j]?=some (tb t i j):=by
 have hr:(t.getD i []).length=n:=s.row i _ (s.get h);have hl:j<(t.getD i []).length:=by rw [hr];exact h'
 unfold tb;rw [LU (l:=t.getD i []),LP hl];simp
def pG (n:Nat) (t:List (List Nat)) (x:Nat):Prop:=∀ o,o<n->tb t x o=o/\tb t o x=o
instance {n:Nat} {t:List (List Nat)} {x:Nat}:Decidable (pG n t x):=inferInstanceAs (Decidable (∀ o,o<n->tb t x o=o/\tb t o x=o))
def GT.sM {n:Nat} {t:List (List Nat)} {e x:Nat} (g:GT n t e) (hx:x<n):pG n t x↔x=e:=by
 constructor
 ·intro h;have h1:=(h e g.elt).1;have h2:=g.unr x hx;rw [h2] at h1;exact h1
 ·rintro rfl o ho;exact ⟨g.unl o ho,g.unr o ho⟩
def bf (n:Nat) (t:List (List Nat)) (e a:Nat):Nat:=((LY n).find? fun b=>decide (tb t a b=e/\tb t b a=e)).getD 0
def Jj {n:Nat} {t:List (List Nat)} {e a b:Nat} (hb:b<n) (h:tb t a b=e/\tb t b a=e) (hn:∀ c,c<b->¬ (tb t a c=e/\tb t c a=e)):bf n t e a=b:=by
 unfold bf;have:(LY n).find? (fun b=>decide (tb t a b=e/\tb t b a=e))=some b:=by
  rw [Rw];refine ⟨by simpa using h,by simpa using hb,fun j hj=>?_⟩
  have:=hn j hj;simp only [Pp,decide_eq_false_iff_not];exact this
 rw [this];rfl
def GT.bk {n:Nat} {t:List (List Nat)} {e a:Nat} (g:GT n t e) (ha:a<n):bf n t e a<n/\tb t a (bf n t e a)=e/\tb t (bf n t e a) a=e:=by
 obtain ⟨b,hb,h⟩:=g.back a ha;unfold bf;cases q:(LY n).find? (fun b=>decide (tb t a b=e/\tb t b a=e)) with
 | none =>
  rw [Rx] at q;have:=q b hb;simp at this;exact this.elim (fun z=>absurd h.1 z) fun z=>absurd h.2 z
 | some c =>
  have h1:=List.find?_some q;have h2:=Ma.mp (Rc q);simp only [decide_eq_true_eq] at h1;exact ⟨h2,h1⟩
def bks (n:Nat) (t:List (List Nat)) (e:Nat):List Nat:=(LY n).map (bf n t e)
def prd (t:List (List Nat)) (e:Nat) (l:List Nat):Nat:=l.foldl (tb t) e
def Gd.Fj {n:Nat} {t:List (List Nat)} (g:Gd n t):∀ {l:List Nat} {e:Nat},e<n->(∀ x∈l,x<n)->prd t e l<n
 | [],_,h,_=>h
 | x :: r,e,h,hl=>by
  show prd t (tb t e x) r<n;exact Gd.Fj g (g.lt e x h (hl x L9)) fun y hy=>hl y (L5 _ hy)
def FZ {t:List (List Nat)} {e:Nat} {l:List Nat} {i x:Nat} (h:l[i]?=some x):prd t e (l.take (i+1))=tb t (prd t e (l.take i)) x:=by
 unfold prd;rw [MB,h];simp
def dk {β:Type} (f:Nat->β) (n i:Nat) (h:i<n):((LY n).map f).take (i+1)=((LY n).map f).take i++[f i]:=by
 rw [MB];simp [h]
def mkT (n:Nat) (f:Nat->Nat->Nat):List (List Nat):=(LY n).map fun a=>(LY n).map fun b=>f a b
def J3 {n:Nat} {f:Nat->Nat->Nat} {a b:Nat} (ha:a<n) (hb:b<n):tb (mkT n f) a b=f a b:=by
 unfold tb mkT;simp [LU,ha,hb]
def J7 {n:Nat} {f:Nat->Nat->Nat} (h1:1<=n) (h2:n<=23):Sq n (mkT n f):=by
 refine ⟨by simp [mkT],h1,h2,fun i r h=>?_⟩
 have:r∈mkT n f:=LS h;unfold mkT at this;obtain ⟨a,_,rfl⟩:=Mm.mp this;simp
def KY {n:Nat} {f:Nat->Nat->Nat} {e:Nat} (h1:1<=n) (h2:n<=23) (lt:∀ a b,a<n->b<n->f a b<n) (elt:e<n) (unl:∀ a,a<n->f e a=a) (unr:∀ a,a<n->f a e=a)
  (back:∀ a,a<n->∃ b,b<n/\f a b=e/\f b a=e) (assoc:∀ a b c,a<n->b<n->c<n->f (f a b) c=f a (f b c)):GT n (mkT n f) e:=by
 have q:∀ {a b:Nat},a<n->b<n->tb (mkT n f) a b=f a b:=fun ha hb=>J3 ha hb;refine ⟨⟨J7 h1 h2,fun i j hi hj=>by rw [q hi hj];exact lt i j hi hj⟩,elt,fun i hi=>by rw [q elt hi];exact unl i hi,fun i hi=>by rw [q hi elt];exact unr i hi,fun i hi=>?_,fun i j k hi hj hk=>?_⟩
 ·obtain ⟨b,hb,x,y⟩:=back i hi;exact ⟨b,hb,by rw [q hi hb];exact x,by rw [q hb hi];exact y⟩
 ·rw [q hi hj,q hj hk,q (lt i j hi hj) hk,q hi (lt j k hj hk)];exact assoc i j k hi hj hk
structure Ab (m:Nat) (ad:Nat->Nat->Nat):Prop where
 pos:0<m
 lt:∀ x y,x<m->y<m->ad x y<m
 assoc:∀ x y z,x<m->y<m->z<m->ad (ad x y) z=ad x (ad y z)
 comm:∀ x y,x<m->y<m->ad x y=ad y x
 zero:∀ x,x<m->ad x 0=x
 neg:∀ x,x<m->∃ y,y<m/\ad x y=0
structure Tn (m:Nat) (ad:Nat->Nat->Nat) (f:Nat->Nat) (s e:Nat):Prop extends Ab m ad where
 ji:0<s
 flt:∀ x,x<m->f x<m
 fad:∀ x y,x<m->y<m->f (ad x y)=ad (f x) (f y)
 per:∀ x,x<m->Nat.repeat f s x=x
 elt:e<m
 fe:f e=e
def tim (ad:Nat->Nat->Nat) (e:Nat):Nat->Nat
 | 0=>0
 | k+1=>ad (tim ad e k) e
def cyc (m:Nat) (ad:Nat->Nat->Nat) (f:Nat->Nat) (s e I J:Nat):Nat :=
 (let p:=ad (I % m) (Nat.repeat f (I / m) (J % m));if I / m+J / m >= s then ad p e else p)+m * ((I / m+J / m) % s)
section
variable {m:Nat} {ad:Nat->Nat->Nat} {f:Nat->Nat} {s e:Nat}
def fC (T:Tn m ad f s e):∀ (k:Nat) {x:Nat},x<m->Nat.repeat f k x<m
 | 0,_,h=>h
 | k+1,_,h=>T.flt _ (fC T k h)
def oZ (T:Tn m ad f s e):∀ (k:Nat) {x y:Nat},x<m->y<m->Nat.repeat f k (ad x y)=ad (Nat.repeat f k x) (Nat.repeat f k y)
 | 0,_,_,_,_=>rfl
 | k+1,x,y,hx,hy=>by
  show f (Nat.repeat f k (ad x y))=ad (f (Nat.repeat f k x)) (f (Nat.repeat f k y));rw [oZ T k hx hy,T.fad _ _ (fC T k hx) (fC T k hy)]
def Ic (T:Tn m ad f s e):∀ k:Nat,Nat.repeat f k e=e
 | 0=>rfl
 | k+1=>by show f (Nat.repeat f k e)=e;rw [Ic T k,T.fe]
def ki (f:Nat->Nat) (x:Nat):∀ i j:Nat,Nat.repeat f (i+j) x=Nat.repeat f i (Nat.repeat f j x)
 | 0,j=>by rw [Oy];rfl
 | i+1,j=>by
  have e:i+1+j=(i+j)+1:=by omega
  rw [e];show f (Nat.repeat f (i+j) x)=f (Nat.repeat f i (Nat.repeat f j x));rw [ki f x i j]
def Iq (T:Tn m ad f s e) {x:Nat} (hx:x<m) {k:Nat} (hk:k<2 * s):Nat.repeat f (k % s) x=Nat.repeat f k x:=by
 have hs:=T.ji
 by_cases h:k<s
 ·rw [MH h]
 ·have e1:k % s=k - s:=by rw [Nat.mod_eq_sub_mod (by omega),MH (by omega)]
  have e2:k=(k - s)+s:=by omega
  rw [e1]
  conv=>rhs;rw [e2,ki,T.per x hx]
def eD (T:Tn m ad f s e):∀ k,tim ad e k<m
 | 0=>T.pos
 | k+1=>T.lt _ _ (eD T k) T.elt
def Ec (T:Ab m ad) {x:Nat} (hx:x<m):ad 0 x=x:=by rw [T.comm 0 x T.pos hx,T.zero x hx]
def uB (T:Tn m ad f s e):∀ i j,tim ad e (i+j)=ad (tim ad e i) (tim ad e j)
 | i,0=>by rw [Of];show _=ad _ 0;rw [T.zero _ (eD T i)]
 | i,j+1=>by
  show ad (tim ad e (i+j)) e=ad (tim ad e i) (ad (tim ad e j) e);rw [uB T i j,T.assoc _ _ _ (eD T i) (eD T j) T.elt]
def uE (T:Tn m ad f s e) (k:Nat):∀ j,Nat.repeat f k (tim ad e j)=tim ad e j
 | 0=>by
  show Nat.repeat f k 0=0;have h0:Nat.repeat f k 0<m:=fC T k T.pos;have h1:ad (Nat.repeat f k 0) (Nat.repeat f k 0)=Nat.repeat f k 0:=by rw [<- oZ T k T.pos T.pos,T.zero 0 T.pos]
  obtain ⟨y,hy,e1⟩:=T.neg _ h0;have h2:ad (ad (Nat.repeat f k 0) (Nat.repeat f k 0)) y=ad (Nat.repeat f k 0) y:=by rw [h1]
  rw [T.assoc _ _ _ h0 h0 hy,e1,T.zero _ h0] at h2;exact h2
 | j+1=>by
  show Nat.repeat f k (ad (tim ad e j) e)=ad (tim ad e j) e;rw [oZ T k (eD T j) T.elt,uE T k j,Ic T k]
def jG (T:Tn m ad f s e) {x y i j:Nat} (hx:x<m) (hy:y<m) (hi:i<s) (hj:j<s) :
  cyc m ad f s e (x+m * i) (y+m * j)=ad (ad x (Nat.repeat f i y)) (tim ad e ((i+j) / s))+m * ((i+j) % s):=by
 have hm:=T.pos;have d1:(x+m * i) / m=i:=by rw [N4 _ _ hm,NV hx,Oy]
 have d2:(y+m * j) / m=j:=by rw [N4 _ _ hm,NV hy,Oy]
 have r1:(x+m * i) % m=x:=by rw [NT,MH hx]
 have r2:(y+m * j) % m=y:=by rw [NT,MH hy]
 unfold cyc;rw [d1,d2,r1,r2];dsimp only;have hp:ad x (Nat.repeat f i y)<m:=T.lt _ _ hx (fC T i hy)
 by_cases h:i+j >= s
 ·have q:(i+j) / s=1:=by
   have:i+j=(i+j - s)+s * 1:=by omega
   rw [this,N4 _ _ T.ji,NV (by omega)]
  rw [if_pos h,q];show _=ad _ (ad 0 e)+_;rw [Ec T.toAb T.elt]
 ·have q:(i+j) / s=0:=NV (by omega)
  rw [if_neg h,q];show _=ad _ 0+_;rw [T.zero _ hp]
def dm (m:Nat) (I:Nat):I=I % m+m * (I / m):=(SE I m).symm
def DY (T:Tn m ad f s e) {I J:Nat} (hI:I<m * s) (hJ:J<m * s):cyc m ad f s e I J<m * s:=by
 have hm:=T.pos;have hi:I / m<s:=Nr hI;have hj:J / m<s:=Nr hJ;rw [dm m I,dm m J,jG T (Mw _ hm) (Mw _ hm) hi hj];have h1:ad (ad (I % m) (Nat.repeat f (I / m) (J % m))) (tim ad e ((I / m+J / m) / s))<m:=T.lt _ _ (T.lt _ _ (Mw _ hm) (fC T _ (Mw _ hm))) (eD T _);have h2:(I / m+J / m) % s<s:=Mw _ T.ji;have h3:m * ((I / m+J / m) % s)+m<=m * s:=by
  rw [<- Oh];exact Nn _ h2
 omega
def oA (T:Tn m ad f s e) {I J L:Nat} (hI:I<m * s) (hJ:J<m * s) (hL:L<m * s):cyc m ad f s e (cyc m ad f s e I J) L=cyc m ad f s e I (cyc m ad f s e J L):=by
 have hm:=T.pos;have hi:I / m<s:=Nr hI;have hj:J / m<s:=Nr hJ;have hl:L / m<s:=Nr hL;rw [dm m I,dm m J,dm m L];generalize I / m=i at hi;generalize J / m=j at hj;generalize L / m=l at hl;have hx:I % m<m:=Mw _ hm;have hy:J % m<m:=Mw _ hm;have hz:L % m<m:=Mw _ hm;generalize I % m=x at hx;generalize J % m=y at hy;generalize L % m=z at hz;have hs:=T.ji;have hij:(i+j) % s<s:=Mw _ hs;have hjl:(j+l) % s<s:=Mw _ hs;have fy:=fC T i hy;have fz:=fC T j hz;have t1:=eD T ((i+j) / s);have t2:=eD T ((j+l) / s);have p1:ad x (Nat.repeat f i y)<m:=T.lt _ _ hx fy;have p2:ad y (Nat.repeat f j z)<m:=T.lt _ _ hy fz;rw [jG T hx hy hi hj,jG T hy hz hj hl,jG T (T.lt _ _ p1 t1) hz hij hl,jG T hx (T.lt _ _ p2 t2) hi hjl];have em:((i+j) % s+l) % s=(i+(j+l) % s) % s:=by rw [Oi,OY,Pu]
 have ed:(i+j) / s+((i+j) % s+l) / s=(j+l) / s+(i+(j+l) % s) / s:=by
  have a1:=OZ (i+j) s;have a2:=OZ (j+l) s;have a3:=OZ ((i+j) % s+l) s;have a4:=OZ (i+(j+l) % s) s;rw [em] at a3;have:s * ((i+j) / s+((i+j) % s+l) / s)=s * ((j+l) / s+(i+(j+l) % s) / s):=by
   rw [RO,RO];omega
  exact PK hs this
 rw [em]
 congr 1
 have fz2:Nat.repeat f ((i+j) % s) z<m:=fC T _ hz;have efz:Nat.repeat f ((i+j) % s) z=Nat.repeat f i (Nat.repeat f j z):=by rw [Iq T hz (by omega),ki]
 have fz3:Nat.repeat f i (Nat.repeat f j z)<m:=fC T i fz;rw [oZ T i p2 t2,oZ T i hy fz,uE T i,efz];have t3:=eD T (((i+j) % s+l) / s);have t4:=eD T ((i+(j+l) % s) / s);rw [T.assoc _ _ _ p1 t1 fz3,T.comm _ _ t1 fz3,<- T.assoc _ _ _ p1 fz3 t1,T.assoc _ _ _ (T.lt _ _ p1 fz3) t1 t3,<- uB T,ed];rw [T.assoc _ _ _ hx fy fz3,<- T.assoc _ _ _ hx (T.lt _ _ fy fz3) t2,T.assoc _ _ _ (T.lt _ _ hx (T.lt _ _ fy fz3)) t2 t4,<- uB T]
def Jm (T:Tn m ad f s e) {I:Nat} (hI:I<m * s):cyc m ad f s e 0 I=I:=by
 have hm:=T.pos;have hi:I / m<s:=Nr hI;have hx:I % m<m:=Mw _ hm;have h:=jG T (x:=0) (y:=I % m) (i:=0) (j:=I / m) hm hx T.ji hi;rw [<- dm m I,Pk,Of,Oy,NV hi,MH hi] at h;rw [h];show ad (ad 0 (I % m)) 0+_=_;rw [Ec T.toAb hx,T.zero _ hx,<- dm m I]
def vk (T:Tn m ad f s e) {I:Nat} (hI:I<m * s):cyc m ad f s e I 0=I:=by
 have hm:=T.pos;have hi:I / m<s:=Nr hI;have hx:I % m<m:=Mw _ hm;have h:=jG T (x:=I % m) (y:=0) (i:=I / m) (j:=0) hx hm hi T.ji;rw [<- dm m I,Pk,Of,Of,NV hi,MH hi] at h;rw [h];have z0:Nat.repeat f (I / m) 0=0:=uE T (I / m) 0;show ad (ad (I % m) (Nat.repeat f (I / m) 0)) 0+_=_;rw [z0,T.zero _ hx,T.zero _ hx,<- dm m I]
def wj (T:Tn m ad f s e) {I:Nat} (hI:I<m * s):∃ J,J<m * s/\cyc m ad f s e I J=0:=by
 have hm:=T.pos;have hs:=T.ji;have hi:I / m<s:=Nr hI;have hx:I % m<m:=Mw _ hm;have hj:(s - I / m) % s<s:=Mw _ hs;have hw:ad (I % m) (tim ad e ((I / m+(s - I / m) % s) / s))<m:=T.lt _ _ hx (eD T _);obtain ⟨v,hv,ev⟩:=T.neg _ hw;have hy:Nat.repeat f ((s - I / m) % s) v<m:=fC T _ hv;refine ⟨Nat.repeat f ((s - I / m) % s) v+m * ((s - I / m) % s),?_,?_⟩
 ·have h3:m * ((s - I / m) % s)+m<=m * s:=by
   rw [<- Oh];exact Nn _ hj
  omega
 ·have h:=jG T (x:=I % m) (y:=Nat.repeat f ((s - I / m) % s) v) (i:=I / m) (j:=(s - I / m) % s) hx hy hi hj;rw [<- dm m I] at h;rw [h];have er:Nat.repeat f (I / m) (Nat.repeat f ((s - I / m) % s) v)=v:=by
   rw [<- ki]
   by_cases h0:I / m=0
   ·rw [h0,Nat.sub_zero,Q4];rfl
   ·rw [MH (Nat.sub_lt hs (Nat.pos_of_ne_zero h0))];have:I / m+(s - I / m)=s:=Ry (Ou hi);rw [this,T.per v hv]
  have e0:(I / m+(s - I / m) % s) % s=0:=by
   rw [OY];have:I / m+(s - I / m)=s:=Ry (Ou hi);rw [this,Q4]
  rw [er,e0,Pk,Of,T.assoc _ _ _ hx hv (eD T _),T.comm _ _ hv (eD T _),<- T.assoc _ _ _ hx (eD T _) hv];exact ev
def G0 (T:Tn m ad f s e) {I:Nat} (hI:I<m * s):∃ J,J<m * s/\cyc m ad f s e I J=0/\cyc m ad f s e J I=0:=by
 obtain ⟨J,hJ,e1⟩:=wj T hI;obtain ⟨L,hL,e2⟩:=wj T hJ;refine ⟨J,hJ,e1,?_⟩;have hJI:=DY T hJ hI;have h1:cyc m ad f s e J I=cyc m ad f s e (cyc m ad f s e J I) (cyc m ad f s e J L):=by rw [e2,vk T hJI]
 rw [h1,<- oA T hJI hJ hL,oA T hJ hI hJ,e1,vk T hJ,e2]
end
def lsum (a b c p q:Nat):Nat:=(p+q) % a+a * ((p / a+q / a) % b)+a * b * ((p / (a * b)+q / (a * b)) % c)
section
variable {a b c:Nat}
def HS {x y w:Nat} (hx:x<a):(x+a * y+a * b * w) % a=x:=by
 rw [Qb,Pu,<- RO,NT,MH hx]
def Ih {x y w:Nat} (ha:0<a) (hx:x<a):(x+a * y+a * b * w) / a=y+b * w:=by
 rw [Qb,Pu,<- RO,N4 _ _ ha,NV hx,Oy]
def HQ {x y w:Nat} (ha:0<a) (hx:x<a) (hy:y<b):(x+a * y+a * b * w) / a % b=y:=by
 rw [Ih ha hx,NT,MH hy]
def HD {x y w:Nat} (ha:0<a) (hb:0<b) (hx:x<a) (hy:y<b):(x+a * y+a * b * w) / (a * b)=w:=by
 rw [<- Sd,Ih ha hx,N4 _ _ hb,NV hy,Oy]
def Ey {x y w:Nat} (hx:x<a) (hy:y<b) (hw:w<c):x+a * y+a * b * w<a * b * c:=by
 have h1:a * y+a<=a * b:=by rw [<- Oh];exact Nn _ hy
 have h2:a * b * w+a * b<=a * b * c:=by rw [<- Oh];exact Nn _ hw
 omega
def Kn (ha:0<a) (hb:0<b) (p:Nat):p % a+a * (p / a % b)+a * b * (p / (a * b))=p:=by
 rw [<- Sd,Qb,Pu,<- RO,SE,SE]
def BM {p:Nat} (hp:p<a * b * c):p / (a * b)<c:=Nr hp
def DS (ha:0<a) (p q:Nat):lsum a b c p q % a=(p+q) % a:=HS (Mw _ ha)
def Fl (ha:0<a) (hb:0<b) (p q:Nat):lsum a b c p q / a % b=(p / a+q / a) % b:=HQ ha (Mw _ ha) (Mw _ hb)
def Fi (ha:0<a) (hb:0<b) (p q:Nat):lsum a b c p q / (a * b)=(p / (a * b)+q / (a * b)) % c:=HD ha hb (Mw _ ha) (Mw _ hb)
def gE (x y k:Nat):(x % k+y) % k=(x+y) % k:=Oi x k y
def Iz (ha:0<a) (hb:0<b) (hc:0<c):Ab (a * b * c) (lsum a b c) where
 pos:=Oc (Oc ha hb) hc
 lt:=fun x y _ _=>Ey (Mw _ ha) (Mw _ hb) (Mw _ hc)
 comm:=fun x y _ _=>by unfold lsum;rw [Ov x y,Ov (x / a),Ov (x / (a * b))]
 assoc:=fun x y z _ _ _=>by
  have e1:(lsum a b c x y+z) % a=(x+lsum a b c y z) % a:=by
   rw [<- gE,DS ha,gE,Ov x (lsum a b c y z),<- gE (lsum a b c y z),DS ha,gE]
   congr 1;omega
  have e2:(lsum a b c x y / a+z / a) % b=(x / a+lsum a b c y z / a) % b:=by
   rw [<- gE,Fl ha hb,gE,Ov (x / a) (lsum a b c y z / a),<- gE (lsum a b c y z / a),Fl ha hb,gE]
   congr 1;omega
  have e3:(lsum a b c x y / (a * b)+z / (a * b)) % c=(x / (a * b)+lsum a b c y z / (a * b)) % c:=by
   rw [Fi ha hb,Fi ha hb,gE,Ov (x / (a * b)) (_ % c),gE]
   congr 1;omega
  show (lsum a b c x y+z) % a+a * ((lsum a b c x y / a+z / a) % b)+a * b * ((lsum a b c x y / (a * b)+z / (a * b)) % c)=(x+lsum a b c y z) % a+a * ((x / a+lsum a b c y z / a) % b)+a * b * ((x / (a * b)+lsum a b c y z / (a * b)) % c);rw [e1,e2,e3]
 zero:=fun x hx=>by
  unfold lsum;rw [SG,SG,Of,Of,Of,MH (BM hx),Kn ha hb]
 neg:=fun x hx=>by
  have hx1:x % a<a:=Mw _ ha;have hy1:x / a % b<b:=Mw _ hb;have hw1:x / (a * b)<c:=BM hx;have lx:(a - x % a) % a<a:=Mw _ ha;have ly:(b - x / a % b) % b<b:=Mw _ hb;have lw:(c - x / (a * b)) % c<c:=Mw _ hc;refine ⟨(a - x % a) % a+a * ((b - x / a % b) % b)+a * b * ((c - x / (a * b)) % c),Ey lx ly lw,?_⟩;have f1:(x+((a - x % a) % a+a * ((b - x / a % b) % b)+a * b * ((c - x / (a * b)) % c))) % a=0:=by
   rw [Tc,HS lx,OY];have:x % a+(a - x % a)=a:=by omega
   rw [this,Q4]
  have f2:(x / a+((a - x % a) % a+a * ((b - x / a % b) % b)+a * b * ((c - x / (a * b)) % c)) / a) % b=0:=by
   rw [Tc,HQ ha lx ly,OY];have:x / a % b+(b - x / a % b)=b:=by omega
   rw [this,Q4]
  have f3:(x / (a * b)+((a - x % a) % a+a * ((b - x / a % b) % b)+a * b * ((c - x / (a * b)) % c)) / (a * b)) % c=0:=by
   rw [HD ha hb lx ly,OY];have:x / (a * b)+(c - x / (a * b))=c:=Ry (Ou hw1);rw [this,Q4]
  unfold lsum;rw [f1,f2,f3,Pk,Pk]
end
def d7 (a b c kind u0 u1 u2 p:Nat):Nat :=
 let x:=p % a
 let y:=p / a % b
 let w:=p / (a * b) * u2 % c
 match kind with
 | 1=>y+a * (x+b * w)
 | 2=>(a - y) % a+a * ((x+a - y) % a+b * w)
 | 3=>x+a * ((y+x) % b+b * w)
 | 4=>(x+a / 2 * y) % a+a * (y+b * w)
 | _=>x * u0 % a+a * (y * u1 % b+b * w)
def iter (f:Nat->Nat):Nat->Nat->Nat
 | 0,x=>x
 | n+1,x=>iter f n (f x)
def pw (u m:Nat):Nat->Nat
 | 0=>1
 | n+1=>pw u m n * u % m
def sU (a b c s kind u0 u1 u2:Nat):Bool :=
 (LY (a * b * c)).all fun p=>Nat.blt (d7 a b c kind u0 u1 u2 p) (a * b * c) && (OF (iter (d7 a b c kind u0 u1 u2) s p) p &&
  (LY (a * b * c)).all fun q=>OF (d7 a b c kind u0 u1 u2 (lsum a b c p q)) (lsum a b c (d7 a b c kind u0 u1 u2 p) (d7 a b c kind u0 u1 u2 q)))
def eI (a b s kind:Nat):Bool:=kind == 0 || (kind == 1 && (a == b && s % 2 == 0)) || (kind == 2 && (a == b && s % 3 == 0)) || (kind == 3 && (a % b == 0 && (decide (1<b) && s % b == 0))) || (kind == 4 && (a % 2 == 0 && (b % 2 == 0 && s % 2 == 0)))
def unitsOf (m s:Nat):List Nat:=(LY m).filter fun u=>OF (pw u m s) (1 % m)
def Fs:Bool:=(LY 4).all fun s'=>let s:=s'+1
 (LY (23 / s)).all fun a'=>let a:=a'+1
 (LY (23 / (s * a))).all fun b'=>let b:=b'+1
 (LY (23 / (s * a * b))).all fun c'=>let c:=c'+1
 (LY 5).all fun k=>!eI a b s k || ((if OF k 0 then unitsOf a s else [0]).all fun u0=>(if OF k 0 then unitsOf b s else [0]).all fun u1=>(unitsOf c s).all fun u2=>sU a b c s k u0 u1 u2)
set_option maxRecDepth 1000000 in
def Ff:Fs=true:=by trivial
def zL (f:Nat->Nat):∀ (n x:Nat),iter f n x=Nat.repeat f n x
 | 0,_=>rfl
 | n+1,x=>by
  show iter f n (f x)=f (Nat.repeat f n x);rw [zL f n (f x)];have h1:=ki f x n 1;have h2:=ki f x 1 n;rw [Ov] at h2;have e:Nat.repeat f n (Nat.repeat f 1 x)=Nat.repeat f 1 (Nat.repeat f n x):=h1.symm.trans h2;exact e
def o8 {m s u:Nat}:u∈unitsOf m s↔u<m/\pw u m s=1 % m:=by
 unfold unitsOf;rw [Nl,Ma];simp
structure Par (a b c s kind u0 u1 u2:Nat):Prop where
 a1:1<=a
 b1:1<=b
 c1:1<=c
 s1:1<=s
 s4:s<=4
 le:a * b * c * s<=23
 k5:kind<5
 kind:eI a b s kind=true
 v0:u0∈unitsOf a s
 v1:u1∈unitsOf b s
 v2:u2∈unitsOf c s
def pY {x k n:Nat} (hx:1<=x) (hk:1<=k) (h:k * x<=n):x - 1<n / k:=by
 have:x<=n / k:=(Nat.le_div_iff_mul_le (by omega)).mpr (by rw [Ow];exact h)
 omega
def Ii {a b c kind u0 u1 u2:Nat} (h:kind≠0) (h5:kind<5):d7 a b c kind u0 u1 u2=d7 a b c kind 0 0 u2:=by
 match kind,h,h5 with
 | 1,_,_=>rfl
 | 2,_,_=>rfl
 | 3,_,_=>rfl
 | 4,_,_=>rfl
 | 0,h,_=>exact absurd rfl h
def Par.chk {a b c s kind u0 u1 u2:Nat} (P:Par a b c s kind u0 u1 u2):sU a b c s kind u0 u1 u2=true:=by
 have hle:=P.le;have h1:s * a<=23:=by
  have:s * a * (b * c)=a * b * c * s:=by simp only [Ow,Qp]
  have z:s * a * 1<=s * a * (b * c):=Nn _ (Oc P.b1 P.c1);omega
 have h2:s * a * b<=23:=by
  have:s * a * b * c=a * b * c * s:=by simp only [Ow,Qp]
  have z:s * a * b * 1<=s * a * b * c:=Nn _ P.c1;omega
 have h3:s * a * b * c<=23:=by
  have:s * a * b * c=a * b * c * s:=by simp only [Ow,Qp]
  omega
 have sa:1<=s * a:=Oc P.s1 P.a1;have sab:1<=s * a * b:=Oc sa P.b1;have q0:=Ff;unfold Fs at q0;have q1:=MA.mp q0 (s - 1) (Ma.mpr (by have:=P.s1;have:=P.s4;omega))
 have es:s - 1+1=s:=by have:=P.s1;omega
 have ea:a - 1+1=a:=by have:=P.a1;omega
 have eb:b - 1+1=b:=by have:=P.b1;omega
 have ec:c - 1+1=c:=by have:=P.c1;omega
 try dsimp only at q1
 rw [es] at q1;have q2:=MA.mp q1 (a - 1) (Ma.mpr (pY P.a1 P.s1 h1))
 try dsimp only at q2
 rw [ea] at q2;have q3:=MA.mp q2 (b - 1) (Ma.mpr (pY P.b1 sa h2))
 try dsimp only at q3
 rw [eb] at q3;have q4:=MA.mp q3 (c - 1) (Ma.mpr (pY P.c1 sab h3))
 try dsimp only at q4
 rw [ec] at q4;have q5:=MA.mp q4 kind (Ma.mpr P.k5);rw [P.kind] at q5;simp only [Bool.not_true,Bool.false_or] at q5
 by_cases hk:kind=0
 ·subst hk;have q6:=MA.mp q5 u0 P.v0;have q7:=MA.mp q6 u1 P.v1;exact MA.mp q7 u2 P.v2
 ·have hb:OF kind 0=false:=by
   cases h:OF kind 0 with
   | false=>rfl
   | true=>exact absurd (Oj h) hk
  rw [hb] at q5;have q6:=MA.mp q5 0 (LZ.mpr rfl);have q7:=MA.mp q6 0 (LZ.mpr rfl);have q8:=MA.mp q7 u2 P.v2;unfold sU at q8 ⊢;rw [Ii hk P.k5];exact q8
def Par.tn {a b c s kind u0 u1 u2 e:Nat} (P:Par a b c s kind u0 u1 u2) (he:e<a * b * c) (fe:d7 a b c kind u0 u1 u2 e=e):Tn (a * b * c) (lsum a b c) (d7 a b c kind u0 u1 u2) s e:=by
 have q:=P.chk;unfold sU at q;have q':∀ p,p<a * b * c->_:=fun p hp=>MA.mp q p (Ma.mpr hp);simp only [NU,MA,Ma] at q';refine { Iz P.a1 P.b1 P.c1 with ji:=P.s1,flt:=fun x hx=>?_,fad:=fun x y hx hy=>?_,per:=fun x hx=>?_,elt:=he,fe:=fe }
 ·have z:=(q' x hx).1;exact Nat.le_of_ble_eq_true z
 ·exact Oj ((q' x hx).2.2 y hy)
 ·rw [<- zL];exact Oj (q' x hx).2.1
def GT.rel {n:Nat} {t t':List (List Nat)} {e:Nat} (g:GT n t e) (π:List Nat) (hl:π.length=n) (hm:∀ x,x∈π↔x<n) (sq:Sq n t')
  (h:∀ a b,a<n->b<n->tb t' (π.getD a 0) (π.getD b 0)=π.getD (tb t a b) 0):GT n t' (π.getD e 0):=by
 have into:∀ a,a<n->π.getD a 0<n:=fun a ha=>by
  have:π.getD a 0∈π:=by
   rw [LU,LP (by omega)]
   exact Nt _
  exact (hm _).mp this
 have onto:∀ i,i<n->∃ a,a<n/\π.getD a 0=i:=fun i hi=>by
  obtain ⟨a,ha,e'⟩:=SW.mp ((hm i).mpr hi);refine ⟨a,by omega,?_⟩
  rw [LU,LP ha,e'];rfl
 refine ⟨⟨sq,fun i j hi hj=>?_⟩,into e g.elt,fun i hi=>?_,fun i hi=>?_,fun i hi=>?_,fun i j k hi hj hk=>?_⟩
 ·obtain ⟨a,ha,rfl⟩:=onto i hi;obtain ⟨b,hb,rfl⟩:=onto j hj;rw [h a b ha hb];exact into _ (g.lt a b ha hb)
 ·obtain ⟨a,ha,rfl⟩:=onto i hi;rw [h e a g.elt ha,g.unl a ha]
 ·obtain ⟨a,ha,rfl⟩:=onto i hi;rw [h a e ha g.elt,g.unr a ha]
 ·obtain ⟨a,ha,rfl⟩:=onto i hi;obtain ⟨b,hb,x,y⟩:=g.back a ha;exact ⟨π.getD b 0,into b hb,by rw [h a b ha hb,x],by rw [h b a hb ha,y]⟩
 ·obtain ⟨a,ha,rfl⟩:=onto i hi;obtain ⟨b,hb,rfl⟩:=onto j hj;obtain ⟨d,hd,rfl⟩:=onto k hk;rw [h a b ha hb,h b d hb hd,h _ d (g.lt a b ha hb) hd,h a _ ha (g.lt b d hb hd),g.assoc a b d ha hb hd]
def KQ {m:Nat} {ad:Nat->Nat->Nat} {f:Nat->Nat} {s e:Nat} (T:Tn m ad f s e) (h:m * s<=23):GT (m * s) (mkT (m * s) (cyc m ad f s e)) 0 :=
 KY (Oc T.pos T.ji) h (fun _ _ ha hb=>DY T ha hb) (Oc T.pos T.ji) (fun _ ha=>Jm T ha) (fun _ ha=>vk T ha) (fun _ ha=>G0 T ha) (fun _ _ _ ha hb hc=>oA T ha hb hc)
def getD_some {α:Type} {l:List α} {i:Nat} (d:α) (h:i<l.length):l[i]?=some (l.getD i d):=by
 rw [LU,LP h];rfl
def Ko {m:Nat} {ad:Nat->Nat->Nat} {f:Nat->Nat} {s e x y i j:Nat} (hx:x<m) (hy:y<m) :
  cyc m ad f s e (x+m * i) (y+m * j)=(if s<=i+j then ad (ad x (Nat.repeat f i y)) e else ad x (Nat.repeat f i y))+m * ((i+j) % s):=by
 have hm:0<m:=by omega
 have d1:(x+m * i) / m=i:=by rw [N4 _ _ hm,NV hx,Oy]
 have d2:(y+m * j) / m=j:=by rw [N4 _ _ hm,NV hy,Oy]
 have r1:(x+m * i) % m=x:=by rw [NT,MH hx]
 have r2:(y+m * j) % m=y:=by rw [NT,MH hy]
 unfold cyc;rw [d1,d2,r1,r2]
def BU (a b c kind u0 u1 u2:Nat):d7 a b c kind u0 u1 u2 0=0:=by
 unfold d7;have e1:(0:Nat) / (a * b) * u2 % c=0:=by rw [SG,Qx,Pl]
 have e2:(0:Nat) / a % b=0:=by rw [SG,Pl]
 simp only [e1,e2,Pl]
 split <;> simp
def JV:Bool:=(LY 24).all fun m=>(LY 5).all fun s=>OF m 0 || (OF s 0 || !(unitsOf m s).isEmpty)
def IW:JV=true:=by trivial
def FP {m s:Nat} (h1:1<=m) (h2:m<=23) (h3:1<=s) (h4:s<=4):unitsOf m s≠[]:=by
 have q0:=IW;unfold JV at q0;have q1:=MA.mp q0 m (Ma.mpr (by omega))
 have q2:=MA.mp q1 s (Ma.mpr (by omega))
 have b1:OF m 0=false:=by
  cases h:OF m 0 with
  | false=>rfl
  | true=>have:=Oj h;omega
 have b2:OF s 0=false:=by
  cases h:OF s 0 with
  | false=>rfl
  | true=>have:=Oj h;omega
 rw [b1,b2] at q2;intro e;rw [e] at q2;exact absurd q2 (by decide)
def tj (m s i:Nat):((LY (i+1)).filter fun u=>OF (pw u m s) (1 % m))=(if pw i m s=1 % m then ((LY i).filter fun u=>OF (pw u m s) (1 % m))++[i] else (LY i).filter fun u=>OF (pw u m s) (1 % m)):=by
 rw [Pm,Q5]
 by_cases h:pw i m s=1 % m
 ·rw [if_pos h];have:OF (pw i m s) (1 % m)=true:=by rw [h];exact Nat.beq_refl _
  simp [this]
 ·rw [if_neg h];have:OF (pw i m s) (1 % m)=false:=by
   cases q:OF (pw i m s) (1 % m) with
   | false=>rfl
   | true=>exact absurd (Oj q) h
  simp [this]
def Ha {π:List Nat} {k i:Nat} (h:π.Perm (LY i)):(π.take k++i :: π.drop k).Perm (LY (i+1)):=by
 refine R3.trans ?_;rw [Pe,Pm];exact (List.Perm.cons i h).trans (List.perm_append_singleton i (LY i)).symm
def JY {rows:List (List Nat)} {n i j i' j' x:Nat} (hl:rows.length=n) (hr:∀ (k:Nat) (r:List Nat),rows[k]?=some r->r.length=n) (hi:i<n) (hj:j<n) :
  tb (rows.set i ((rows.getD i []).set j x)) i' j'=if i'=i/\j'=j then x else tb rows i' j':=by
 have hi2:i<rows.length:=by omega
 unfold tb
 by_cases e:i'=i
 ·subst e;have hrow:(rows.getD i' []).length=n:=hr i' _ (by rw [LU,LP hi2];rfl)
  have e1:(rows.set i' ((rows.getD i' []).set j x)).getD i' []=(rows.getD i' []).set j x:=by
   rw [LU,NN hi2];rfl
  rw [e1]
  by_cases e2:j'=j
  ·subst e2;rw [if_pos ⟨rfl,rfl⟩,LU,NN (by omega)]
   rfl
  ·rw [if_neg (fun z=>e2 z.2),LU,N3 (NJ e2),<- LU]
 ·rw [if_neg (fun z=>e z.1)];have e1:(rows.set i ((rows.getD i []).set j x)).getD i' []=rows.getD i' []:=by
   rw [LU,N3 (NJ e),<- LU]
  rw [e1]
def kZ {π:List Nat} {n a:Nat} (h:π.Perm (LY n)) (ha:a<n):π.getD a 0<n:=by
 have hl:π.length=n:=by rw [h.length_eq,Nj]
 have:π.getD a 0∈π:=by
  rw [LU,LP (by omega)]
  exact Nt _
 exact Ma.mp (h.mem_iff.mp this)
def zg {π:List Nat} {n a b:Nat} (h:π.Perm (LY n)) (ha:a<n) (hb:b<n) (e:π.getD a 0=π.getD b 0):a=b:=by
 have hl:π.length=n:=by rw [h.length_eq,Nj]
 have nd:π.Nodup:=h.nodup_iff.mpr O5;have ha':a<π.length:=by omega
 have hb':b<π.length:=by omega
 rw [LU,LU,LP ha',LP hb'] at e;exact (RS nd).mp e
structure Ren (n:Nat) (π:List Nat) (R rows:List (List Nat)) (A B:Nat):Prop where
 len:rows.length=n
 row:∀ (i:Nat) (r:List Nat),rows[i]?=some r->r.length=n
 at_:∀ a b,a<n->b<n->(a<A\/(a=A/\b<B))->tb rows (π.getD a 0) (π.getD b 0)=π.getD (tb R a b) 0
def Ren.put {n:Nat} {π:List Nat} {R rows:List (List Nat)} {A B:Nat} (h:Ren n π R rows A B) (hp:π.Perm (LY n)) (hA:A<n) (hB:B<n) :
  Ren n π R (rows.set (π.getD A 0) ((rows.getD (π.getD A 0) []).set (π.getD B 0) (π.getD (tb R A B) 0))) A (B+1):=by
 have iA:=kZ hp hA;have iB:=kZ hp hB;refine ⟨by rw [NZ];exact h.len,fun i r e=>?_,fun a b ha hb c=>?_⟩
 ·by_cases q:i=π.getD A 0
  ·subst q;rw [NN (by rw [h.len];exact iA)] at e
   cases e;rw [NZ];exact h.row (π.getD A 0) _ (getD_some [] (by rw [h.len];exact iA))
  ·rw [N3 (NJ q)] at e;exact h.row i r e
 ·rw [JY h.len h.row iA iB]
  by_cases q:a=A/\b=B
  ·obtain ⟨rfl,rfl⟩:=q;rw [if_pos ⟨rfl,rfl⟩]
  ·rw [if_neg fun z=>q ⟨zg hp ha hA z.1,zg hp hb hB z.2⟩];refine h.at_ a b ha hb ?_;omega
def Ren.next {n:Nat} {π:List Nat} {R rows:List (List Nat)} {A:Nat} (h:Ren n π R rows A n):Ren n π R rows (A+1) 0 :=
 ⟨h.len,h.row,fun a b ha hb c=>h.at_ a b ha hb (by omega)⟩
def Ren.gt {n:Nat} {π:List Nat} {R rows:List (List Nat)} {e:Nat} (h:Ren n π R rows n 0) (hp:π.Perm (LY n)) (g:GT n R e):GT n rows (π.getD e 0) :=
 g.rel π (by rw [hp.length_eq,Nj]) (fun x=>by rw [hp.mem_iff,Ma]) ⟨h.len,g.pos,g.le,h.row⟩ fun a b ha hb=>h.at_ a b ha hb (.inl ha)
def GA:List (List Nat):=[[2,2,1,3],[7,1,1,3],[5,1,1,4],[4,2,1,2],[3,3,1,2],[8,1,1,2],[4,1,1,2],[2,2,2,2],[3,1,1,4],[2,2,1,2],[5,1,1,2],[9,1,1,2]]
def sub_len:∀ {l1 l2:List Nat},l1.Nodup->(∀ x∈l1,x∈l2)->l1.length<=l2.length
 | [],_,_,_=>MI _
 | a :: l1,l2,nd,h=>by
  have ha:a∈l2:=h a L9;rw [MY] at nd;have ih:=sub_len (l1:=l1) (l2:=l2.erase a) nd.2 fun x hx=>(List.mem_erase_of_ne (show x≠a from fun e=>nd.1 (by rw [<- e];exact hx))).mpr (h x (L5 _ hx))
  rw [List.length_erase_of_mem ha] at ih;have:0<l2.length:=List.length_pos_of_mem ha;rw [MO];omega
def jy {f:Nat->Nat}:∀ {l:List Nat},l.Nodup->(∀ x∈l,∀ y∈l,f x=f y->x=y)->(l.map f).Nodup
 | [],_,_=>by simp
 | a :: l,nd,h=>by
  rw [MY] at nd;rw [Mz,MY];refine ⟨fun z=>?_,jy nd.2 fun x hx y hy=>h x (L5 _ hx) y (L5 _ hy)⟩;obtain ⟨b,hb,e⟩:=Mm.mp z;exact nd.1 (h b (L5 _ hb) a L9 e ▸ hb)
def vL (p:Nat->Bool):∀ l:List Nat,l.length=(l.filter p).length+(l.filter fun y=>!p y).length
 | []=>rfl
 | a :: l=>by
  have ih:=vL p l;cases h:p a with
  | true =>
   rw [RP h,Qc (by simp [h]),MO,MO]
   omega
  | false =>
   rw [Qc (by simp [h]),RP (by simp [h]),MO,MO]
   omega
def php {n:Nat} {f:Nat->Nat} (h:∀ i,i<=n->f i<n):∃ i j,i<j/\j<=n/\f i=f j:=by
 by_cases q:∃ i j,i<j/\j<=n/\f i=f j
 ·exact q
 ·exfalso
  have nd:((LY (n+1)).map f).Nodup:=jy O5 fun x hx y hy e=>by
   have hx':=Ma.mp hx;have hy':=Ma.mp hy;rcases Ni x y with z|z|z
   ·exact absurd ⟨x,y,z,by omega,e⟩ q
   ·exact z
   ·exact absurd ⟨y,x,z,by omega,e.symm⟩ q
  have:=sub_len nd (l2:=LY n) fun x hx=>by
   obtain ⟨i,hi,rfl⟩:=Mm.mp hx;exact Ma.mpr (h i (by have:=Ma.mp hi;omega))
  simp at this;omega
section
variable {n:Nat} {t:List (List Nat)} {e:Nat}
def GT.ft (g:GT n t e) {a:Nat} (ha:a<n):bf n t e a<n:=(g.bk ha).1
def GT.ye (g:GT n t e) {a:Nat} (ha:a<n):tb t a (bf n t e a)=e:=(g.bk ha).2.1
def GT.vc (g:GT n t e) {a:Nat} (ha:a<n):tb t (bf n t e a) a=e:=(g.bk ha).2.2
def GT.kB (g:GT n t e) {x y z:Nat} (hx:x<n) (hy:y<n) (hz:z<n) (h:tb t x y=tb t x z):y=z:=by
 have hb:=g.ft hx;have h1:tb t (bf n t e x) (tb t x y)=tb t (bf n t e x) (tb t x z):=by rw [h]
 rw [<- g.assoc _ _ _ hb hx hy,<- g.assoc _ _ _ hb hx hz,g.vc hx,g.unl y hy,g.unl z hz] at h1;exact h1
def GT.rQ (g:GT n t e) {x y z:Nat} (hx:x<n) (hy:y<n) (hz:z<n) (h:tb t y x=tb t z x):y=z:=by
 have hb:=g.ft hx;have h1:tb t (tb t y x) (bf n t e x)=tb t (tb t z x) (bf n t e x):=by rw [h]
 rw [g.assoc _ _ _ hy hx hb,g.assoc _ _ _ hz hx hb,g.ye hx,g.unr y hy,g.unr z hz] at h1;exact h1
def GT.idem (g:GT n t e) {x:Nat} (hx:x<n):tb t x x=x↔x=e:=by
 constructor
 ·intro h;refine g.kB hx hx g.elt ?_;rw [h,g.unr x hx]
 ·rintro rfl;exact g.unl _ hx
def GT.Ee (g:GT n t e) {a b:Nat} (ha:a<n) (hb:b<n) (h:tb t a b=e):b=bf n t e a :=
 g.kB ha hb (g.ft ha) (h.trans (g.ye ha).symm)
def aC (t:List (List Nat)) (e a:Nat):Nat->Nat
 | 0=>e
 | k+1=>tb t (aC t e a k) a
variable {a:Nat}
def bF (g:GT n t e) (ha:a<n):∀ k,aC t e a k<n
 | 0=>g.elt
 | k+1=>g.lt _ _ (bF g ha k) ha
def kR (g:GT n t e) (ha:a<n):aC t e a 1=a:=g.unl a ha
def cK (g:GT n t e) (ha:a<n) (i:Nat):∀ j,aC t e a (i+j)=tb t (aC t e a i) (aC t e a j)
 | 0=>(g.unr _ (bF g ha i)).symm
 | j+1=>by
  show tb t (aC t e a (i+j)) a=tb t (aC t e a i) (tb t (aC t e a j) a);rw [cK g ha i j,g.assoc _ _ _ (bF g ha i) (bF g ha j) ha]
def zE (k:Nat):prd t e (Me k a)=aC t e a k:=by
 induction k with
 | zero=>rfl
 | succ k ih =>
  unfold prd at ih ⊢;rw [Om,List.foldl_append,ih];rfl
def IQ (g:GT n t e) (ha:a<n):∃ k,k<n/\aC t e a (k+1)=e:=by
 obtain ⟨i,j,hij,hj,q⟩:=php (f:=aC t e a) (n:=n) fun i _=>bF g ha i;refine ⟨j - i - 1,by omega,?_⟩
 have e1:j=i+(j - i - 1+1):=by omega
 rw [e1,cK g ha] at q;refine (g.kB (bF g ha i) (bF g ha _) g.elt ?_);rw [<- q,g.unr _ (bF g ha i)]
def aZ (n:Nat) (t:List (List Nat)) (e a:Nat):Nat:=((LY n).find? fun k=>decide (aC t e a (k+1)=e)).getD 0+1
def dJ (g:GT n t e) (ha:a<n):aZ n t e a<=n/\aC t e a (aZ n t e a)=e/\∀ k,1<=k->k<aZ n t e a->aC t e a k≠e:=by
 obtain ⟨k,hk,h⟩:=IQ g ha;unfold aZ;cases q:(LY n).find? (fun k=>decide (aC t e a (k+1)=e)) with
 | none =>
  rw [Rx] at q;have:=q k hk;simp at this;exact absurd h this
 | some c =>
  rw [Rw] at q;obtain ⟨h1,h2,h3⟩:=q;have h2':c<n:=by simpa using h2
  refine ⟨by show c+1<=n;omega,by simpa using h1,fun k k1 k2 z=>?_⟩
  have k2':k<c+1:=k2;have:=h3 (k - 1) (by omega)
  rw [show k - 1+1=k by omega,z] at this
  simp at this
def gj:1<=aZ n t e a:=RX (MI _)
def jj (g:GT n t e) (ha:a<n) {o:Nat} (h:aC t e a o=e):∀ k,aC t e a (o * k)=e
 | 0=>rfl
 | k+1=>by rw [Oh,cK g ha,jj g ha h k,h,g.unl e g.elt]
def rB (g:GT n t e) (ha:a<n) (k:Nat):aC t e a (k % aZ n t e a)=aC t e a k:=by
 have h:=(dJ g ha).2.1
 conv=>rhs;rw [<- OZ k (aZ n t e a),cK g ha,jj g ha h,g.unl _ (bF g ha _)]
def zc (g:GT n t e) (ha:a<n) {i j:Nat} (hi:i<aZ n t e a) (hj:j<aZ n t e a) (h:aC t e a i=aC t e a j):i=j:=by
 have key:∀ {i j:Nat},i<j->j<aZ n t e a->aC t e a i=aC t e a j->False:=fun {i j} hij hj h=>by
  have e1:j=i+(j - i):=by omega
  rw [e1,cK g ha] at h;have:=g.kB (bF g ha i) (bF g ha (j - i)) g.elt (by rw [<- h,g.unr _ (bF g ha i)])
  exact (dJ g ha).2.2 (j - i) (by omega) (by omega) this
 rcases Ni i j with z|z|z
 ·exact (key z hj h).elim
 ·exact z
 ·exact (key z hi h.symm).elim
def Jd (g:GT n t e) (ha:a<n) {k:Nat} (h:aC t e a k=e):aZ n t e a ∣ k:=by
 have h1:=rB g ha k;rw [h] at h1;have h2:k % aZ n t e a<aZ n t e a:=Mw _ gj;have h3:=zc g ha h2 (i:=k % aZ n t e a) (j:=0) gj h1;exact Nq h3
def xT (g:GT n t e) {P:List Nat} (nd:P.Nodup) (lt:∀ h∈P,h<n) (he:e∈P) (cl:∀ h∈P,∀ k∈P,tb t h k∈P) (bk:∀ h∈P,bf n t e h∈P) :
  ∀ (k:Nat) (S:List Nat),S.length<=k->S.Nodup->(∀ x∈S,x<n)->(∀ x∈S,∀ h∈P,tb t x h∈S)->P.length ∣ S.length
 | 0,S,hk,_,_,_=>by
  have:S.length=0:=by omega
  rw [this];exact Nat.dvd_zero _
 | k+1,[],_,_,_,_=>Nat.dvd_zero _
 | k+1,x :: S,hk,hn,hl,hc=>by
  have hx:x<n:=hl x L9
  let C:=P.map (tb t x)
  have cn:C.Nodup:=jy nd fun y hy z hz q=>g.kB hx (lt y hy) (lt z hz) q;have cs:∀ y∈C,y∈x :: S:=fun y hy=>by
   obtain ⟨h,hh,rfl⟩:=Mm.mp hy;exact hc x L9 h hh
  have xC:x∈C:=Mm.mpr ⟨e,he,g.unr x hx⟩;have ih:=xT g nd lt he cl bk k ((x :: S).filter fun y=>!decide (y∈C)) (by
    have:((x :: S).filter fun y=>!decide (y∈C))=S.filter fun y=>!decide (y∈C):=by
     rw [Qc];simp [xC]
    rw [this];have:=Og (fun y=>!decide (y∈C)) S;rw [MO] at hk;omega)
   (hn.sublist Td) (fun y hy=>hl y (Nl.mp hy).1) fun y hy h hh=>by
    have hy1:=Nl.mp hy;have hyn:=hl y hy1.1;refine Nl.mpr ⟨hc y hy1.1 h hh,?_⟩;have ny:y∉C:=by simpa using hy1.2
    simp only [Pp,decide_eq_false_iff_not];intro z;obtain ⟨h',hh',q⟩:=Mm.mp z;have hb:=bk h hh;refine ny (Mm.mpr ⟨tb t h' (bf n t e h),cl h' hh' _ hb,?_⟩);rw [<- g.assoc _ _ _ hx (lt h' hh') (lt _ hb),q,g.assoc _ _ _ hyn (lt h hh) (lt _ hb),g.ye (lt h hh),g.unr y hyn]
  have e1:((x :: S).filter fun y=>decide (y∈C)).length=P.length:=by
   have l1:((x :: S).filter fun y=>decide (y∈C)).length<=C.length:=sub_len (hn.sublist Td) fun y hy=>by simpa using (Nl.mp hy).2
   have l2:C.length<=((x :: S).filter fun y=>decide (y∈C)).length:=sub_len cn fun y hy=>Nl.mpr ⟨cs y hy,by simpa using hy⟩
   have l3:C.length=P.length:=LX ..;omega
  have e2:(x :: S).length=((x :: S).filter fun y=>decide (y∈C)).length+((x :: S).filter fun y=>!decide (y∈C)).length:=vL _ _;rw [e2,e1];exact (Nat.dvd_add_right (Nat.dvd_refl _)).mpr ih
def D7 (g:GT n t e) (ha:a<n):aZ n t e a ∣ n:=by
 let P:=(LY (aZ n t e a)).map (aC t e a)
 have mem:∀ k,aC t e a k∈P:=fun k=>by
  rw [<- rB g ha k];exact Mm.mpr ⟨_,Ma.mpr (Mw _ gj),rfl⟩
 have frm:∀ h∈P,∃ k,k<aZ n t e a/\aC t e a k=h:=fun h hh=>by
  obtain ⟨k,hk,q⟩:=Mm.mp hh;exact ⟨k,Ma.mp hk,q⟩
 have r:=xT g (P:=P) (jy O5 fun x hx y hy q=>zc g ha (Ma.mp hx) (Ma.mp hy) q)
  (fun h hh=>by obtain ⟨k,_,rfl⟩:=frm h hh;exact bF g ha k) (mem 0)
  (fun h hh k hk=>by
   obtain ⟨i,_,rfl⟩:=frm h hh;obtain ⟨j,_,rfl⟩:=frm k hk;rw [<- cK g ha];exact mem _)
  (fun h hh=>by
   obtain ⟨i,hi,rfl⟩:=frm h hh;have q:tb t (aC t e a i) (aC t e a (aZ n t e a - i))=e:=by
    rw [<- cK g ha,show i+(aZ n t e a - i)=aZ n t e a by omega]
    exact (dJ g ha).2.1
   rw [<- g.Ee (bF g ha i) (bF g ha _) q];exact mem _)
  n (LY n) (by simp) O5 (fun x hx=>Ma.mp hx) fun x hx h hh=>by
   obtain ⟨k,_,rfl⟩:=frm h hh;exact Ma.mpr (g.lt _ _ (Ma.mp hx) (bF g ha k))
 have e1:P.length=aZ n t e a:=by simp [P]
 rw [e1,Nj] at r;exact r
def JP (g:GT n t e) (ha:a<n):aC t e a n=e:=by
 obtain ⟨k,hk⟩:=D7 g ha
 conv=>lhs;rw [hk]
 exact jj g ha (dJ g ha).2.1 k
end
structure c8 (l:List Nat) (k:Nat):Prop where
 pos:1<=k
 all:∀ s∈l,k % s=0
 least:∀ j,1<=j->j<k->∃ s,s∈l/\j % s≠0
def c8.uni {l:List Nat} {k k':Nat} (h:c8 l k) (h':c8 l k'):k=k':=by
 rcases Ni k k' with z|z|z
 ·obtain ⟨s,hs,q⟩:=h'.least k h.pos z;exact absurd (h.all s hs) q
 ·exact z
 ·obtain ⟨s,hs,q⟩:=h.least k' h'.pos z;exact absurd (h'.all s hs) q
def bnd:List Nat->Nat
 | []=>1
 | s :: l=>s * bnd l
def Bi:∀ {l:List Nat},(∀ s∈l,1<=s)->1<=bnd l
 | [],_=>Mb _
 | s :: l,h=>Oc (h s L9) (Bi fun x hx=>h x (L5 _ hx))
def BN:∀ {l:List Nat} {s:Nat},s∈l->bnd l % s=0
 | a :: l,s,h=>by
  rcases Mq.mp h with z|z
  ·subst z;exact Nat.mul_mod_right s (bnd l)
  ·have ih:=BN z;obtain ⟨c,hc⟩:=Nq ih;show a * bnd l % s=0;rw [hc,Qp];exact Nat.mul_mod_right s _
def kb:∀ {l r:List Nat},l.Pairwise (· < ·)->r.Pairwise (· < ·)->(∀ x,x∈l↔x∈r)->l=r
 | [],[],_,_,_=>rfl
 | [],b :: r,_,_,h=>absurd ((h b).mpr L9) (by simp)
 | a :: l,[],_,_,h=>absurd ((h a).mp L9) (by simp)
 | a :: l,b :: r,hl,hr,h=>by
  rw [Pa] at hl hr;have e:a=b:=by
   rcases Mq.mp ((h a).mp L9) with z|z
   ·exact z
   ·rcases Mq.mp ((h b).mpr L9) with y|y
    ·exact y.symm
    ·have h1:=hr.1 a z;have h2:=hl.1 b y;omega
  subst e;refine congrArg (a :: ·) (kb hl.2 hr.2 fun x=>?_);constructor
  ·intro hx;rcases Mq.mp ((h x).mp (L5 _ hx)) with z|z
   ·have:=hl.1 x hx;omega
   ·exact z
  ·intro hx;rcases Mq.mp ((h x).mpr (L5 _ hx)) with z|z
   ·have:=hr.1 x hx;omega
   ·exact z
def pV:∀ {l:List Nat},l.Nodup->l.Pairwise (·<=·)->l.Pairwise (· < ·)
 | [],_,_=>.nil
 | a :: l,nd,h=>by
  rw [MY] at nd;rw [Pa] at h ⊢;refine ⟨fun b hb=>?_,pV nd.2 h.2⟩;have h1:=h.1 b hb;have h2:a≠b:=fun z=>nd.1 (by rw [z];exact hb)
  omega
def bP {l:List Nat} (h:l.Pairwise (· < ·)):l.Nodup:=h.imp fun z=>Md z
def eC {l:List Nat} {n:Nat} (nd:l.Nodup) (h:∀ x∈l,x<n):l.length<=n:=by
 have:=sub_len nd (l2:=LY n) fun x hx=>Ma.mpr (h x hx)
 simpa using this
section
variable {n:Nat} {t:List (List Nat)} {e:Nat}
def Fo (g:GT n t e) {x:Nat} (hx:x<n):∀ (l:List Nat) {a:Nat},a<n->(∀ y∈l,y<n)->prd t (tb t x a) l=tb t x (prd t a l)
 | [],_,_,_=>rfl
 | y :: l,a,ha,hl=>by
  have hy:=hl y L9;show prd t (tb t (tb t x a) y) l=tb t x (prd t (tb t a y) l);rw [g.assoc x a y hx ha hy];exact Fo g hx l (g.lt a y ha hy) fun z hz=>hl z (L5 _ hz)
def zS (g:GT n t e) {x:Nat} (hx:x<n) {l:List Nat} (hl:∀ y∈l,y<n):prd t x l=tb t x (prd t e l):=by
 rw [<- Fo g hx l g.elt hl,g.unr x hx]
def Bq (a:Nat) (l r:List Nat):prd t a (l++r)=prd t (prd t a l) r:=by
 unfold prd;rw [List.foldl_append]
structure Gen (n:Nat) (t:List (List Nat)) (e:Nat) (S P:List Nat):Prop where
 srt:P.Pairwise (· < ·)
 lt:∀ x∈P,x<n
 un:e∈P
 cl:∀ x∈P,∀ s∈S,tb t x s∈P
 wd:∀ x∈P,∃ l,(∀ y∈l,y∈S)/\prd t e l=x
structure IsPart (n:Nat) (t:List (List Nat)) (P:List Nat):Prop where
 srt:P.Pairwise (· < ·)
 lt:∀ x∈P,x<n
 ne:P≠[]
 cl:∀ x∈P,∀ y∈P,tb t x y∈P
variable {S P:List Nat}
def Gen.walk (G:Gen n t e S P):∀ (l:List Nat) {x:Nat},x∈P->(∀ y∈l,y∈S)->prd t x l∈P
 | [],_,hx,_=>hx
 | y :: l,x,hx,hl=>G.walk l (G.cl x hx y (hl y L9)) fun z hz=>hl z (L5 _ hz)
def Gen.part (G:Gen n t e S P) (g:GT n t e) (hS:∀ s∈S,s<n):IsPart n t P:=by
 refine ⟨G.srt,G.lt,List.ne_nil_of_mem G.un,fun x hx y hy=>?_⟩;obtain ⟨l,hl,rfl⟩:=G.wd y hy;rw [<- zS g (G.lt x hx) fun z hz=>hS z (hl z hz)];exact G.walk l hx hl
def IsPart.pow (h:IsPart n t P) (g:GT n t e) {x:Nat} (hx:x∈P):∀ k,aC t e x (k+1)∈P
 | 0=>by rw [kR g (h.lt x hx)];exact hx
 | k+1=>h.cl _ (h.pow g hx k) _ hx
def IsPart.un (h:IsPart n t P) (g:GT n t e):e∈P:=by
 obtain ⟨x,hx⟩:=List.exists_mem_of_ne_nil _ h.ne;have o:=dJ g (h.lt x hx);have:=h.pow g hx (aZ n t e x - 1);rw [show aZ n t e x - 1+1=aZ n t e x by have:=gj (n:=n) (t:=t) (e:=e) (a:=x);omega,o.2.1] at this
 exact this
def IsPart.bk (h:IsPart n t P) (g:GT n t e) {x:Nat} (hx:x∈P):bf n t e x∈P:=by
 have hn:=h.lt x hx;have o:=dJ g hn;have op:1<=aZ n t e x:=gj;have q:tb t x (aC t e x (aZ n t e x - 1))=e:=by
  have:=cK g hn 1 (aZ n t e x - 1);rw [show 1+(aZ n t e x - 1)=aZ n t e x by omega,o.2.1,kR g hn] at this
  exact this.symm
 rw [<- g.Ee hn (bF g hn _) q];cases h1:aZ n t e x - 1 with
 | zero=>exact h.un g
 | succ k=>exact h.pow g hx k
def IsPart.len (h:IsPart n t P):P.length<=n:=eC (bP h.srt) h.lt
def Gen.len (G:Gen n t e S P):P.length<=n:=eC (bP G.srt) G.lt
def Gen.has (G:Gen n t e S P) (g:GT n t e) {s:Nat} (hs:s∈S) (hn:s<n):s∈P:=by
 have:=G.cl e G.un s hs;rw [g.unl s hn] at this;exact this
def Gen.least (G:Gen n t e S P) {R:List Nat} (he:e∈R) (cl:∀ x∈R,∀ s∈S,tb t x s∈R):∀ x∈P,x∈R:=fun x hx=>by
 obtain ⟨l,hl,rfl⟩:=G.wd x hx;have key:∀ (l:List Nat) {a:Nat},a∈R->(∀ y∈l,y∈S)->prd t a l∈R:=fun l=>by
  induction l with
  | nil=>intro a ha _;exact ha
  | cons y r ih=>intro a ha hy;exact ih (cl a ha y (hy y L9)) fun z hz=>hy z (L5 _ hz)
 exact key l he hl
def Gen.uni {S' P':List Nat} (G:Gen n t e S P) (G':Gen n t e S' P') (h:∀ s,s∈S↔s∈S'):P=P' :=
 kb G.srt G'.srt fun x=>⟨G.least G'.un (fun y hy s hs=>G'.cl y hy s ((h s).mp hs)) x,G'.least G.un (fun y hy s hs=>G.cl y hy s ((h s).mpr hs)) x⟩
structure gq (n:Nat) (t:List (List Nat)) (e:Nat) (S F:List Nat) (A:Nat):Prop where
 nd:F.Nodup
 lt:∀ x∈F,x<n
 un:e∈F
 le:A<=F.length
 cl:∀ i x,i<A->F[i]?=some x->∀ s∈S,tb t x s∈F
 wd:∀ x∈F,∃ l,(∀ y∈l,y∈S)/\prd t e l=x
def gq.len {F:List Nat} {A:Nat} (G:gq n t e S F A):F.length<=n:=eC G.nd G.lt
def gq.put {F:List Nat} {A x s:Nat} (G:gq n t e S F A) (g:GT n t e) (hx:x∈F) (hs:s∈S) (hn:s<n) (h:tb t x s∉F):gq n t e S (F++[tb t x s]) A:=by
 refine ⟨?_,fun y hy=>?_,NK _ G.un,by rw [Mr];have:=G.le;omega,fun i y hi e' r hr=>?_,fun y hy=>?_⟩
 ·rw [Ro];exact ⟨G.nd,by simp,fun a ha b hb=>by rw [LZ.mp hb];exact fun z=>h (z ▸ ha)⟩
 ·rcases Mc.mp hy with z|z
  ·exact G.lt y z
  ·rw [LZ.mp z];exact g.lt x s (G.lt x hx) hn
 ·rw [MG (Mn hi G.le)] at e';exact NK _ (G.cl i y hi e' r hr)
 ·rcases Mc.mp hy with z|z
  ·exact G.wd y z
  ·obtain ⟨l,hl,q⟩:=G.wd x hx;refine ⟨l++[s],fun u hu=>?_,?_⟩
   ·rcases Mc.mp hu with z' | z'
    ·exact hl u z'
    ·rw [LZ.mp z'];exact hs
   ·rw [Bq,q,LZ.mp z];rfl
def gq.next {F:List Nat} {A x:Nat} (G:gq n t e S F A) (hx:F[A]?=some x) (h:∀ s∈S,tb t x s∈F):gq n t e S F (A+1) :=
 ⟨G.nd,G.lt,G.un,(LR.mp hx).1,fun i y hi e'=>by
  rcases Mv i A with z|z
  ·exact G.cl i y z e'
  ·have:i=A:=by omega
   subst this;rw [hx] at e';cases e';exact h,G.wd⟩
def gq.gen {F P:List Nat} {A:Nat} (G:gq n t e S F A) (hA:F.length<=A) (hp:P.Perm F) (hs:P.Pairwise (·<=·)):Gen n t e S P:=by
 refine ⟨pV (hp.nodup_iff.mpr G.nd) hs,fun x hx=>G.lt x (hp.mem_iff.mp hx),hp.mem_iff.mpr G.un,fun x hx s hs'=>?_,fun x hx=>G.wd x (hp.mem_iff.mp hx)⟩;obtain ⟨i,hi,e'⟩:=SW.mp (hp.mem_iff.mp hx);exact hp.mem_iff.mpr (G.cl i x (by omega) (by rw [LP hi,e']) s hs')
end
def de (n:Nat) (t:List (List Nat)) (e a b:Nat):Nat:=tb t (tb t b a) (bf n t e b)
def iO (n:Nat) (t:List (List Nat)) (e:Nat) (R:List Nat):List Nat:=R.flatMap fun a=>R.map fun b=>tb t (tb t (tb t a b) (bf n t e a)) (bf n t e b)
def nH {n:Nat} {t:List (List Nat)} {e x:Nat} {R:List Nat}:x∈iO n t e R↔∃ a,a∈R/\∃ b,b∈R/\tb t (tb t (tb t a b) (bf n t e a)) (bf n t e b)=x:=by
 unfold iO;simp only [List.mem_flatMap,Mm]
def Gen.congr {n:Nat} {t:List (List Nat)} {e:Nat} {S S' M:List Nat} (G:Gen n t e S M) (h:∀ x,x∈S↔x∈S'):Gen n t e S' M :=
 ⟨G.srt,G.lt,G.un,fun x hx s hs=>G.cl x hx s ((h s).mpr hs),fun x hx=>by
  obtain ⟨l,hl,e⟩:=G.wd x hx;exact ⟨l,fun y hy=>(h y).mp (hl y hy),e⟩⟩
structure Words (n:Nat) (t:List (List Nat)) (e:Nat) (S R:List Nat) (W:List (List Nat)):Prop where
 len:W.length=R.length
 word:∀ (i r:Nat) (w:List Nat),R[i]?=some r->W[i]?=some w->(∀ y∈w,y∈S)/\w.length<=n/\prd t e w=r/\(r=e->w=[])
section
variable {n:Nat} {t:List (List Nat)} {e:Nat} {R:List Nat}
end
section
variable {n:Nat} {t:List (List Nat)} {e:Nat} {S F:List Nat} {W:List (List Nat)}
structure iX (t:List (List Nat)) (e:Nat) (S F:List Nat) (W:List (List Nat)):Prop where
 len:W.length=F.length
 fst:F[0]?=some e
 word:∀ (i f:Nat) (w:List Nat),F[i]?=some f->W[i]?=some w->(∀ y∈w,y∈S)/\w.length<=i/\prd t e w=f
def iX.one:iX t e S [e] [[]]:=by
 refine ⟨rfl,rfl,fun i f w h1 h2=>?_⟩;cases i with
 | zero =>
  have e1:e=f:=by simpa using h1
  have e2:[]=w:=by simpa using h2
  subst e1 e2;exact ⟨by simp,Mb _,rfl⟩
 | succ i=>simp at h1
def iX.put (G:iX t e S F W) {k a s:Nat} {wa:List Nat} (hk:F[k]?=some a) (hw:W[k]?=some wa) (hs:s∈S):iX t e S (F++[tb t a s]) (W++[wa++[s]]):=by
 obtain ⟨q1,q2,q3⟩:=G.word k a wa hk hw;have kl:k<F.length:=(LR.mp hk).1;refine ⟨by simp [G.len],by rw [MG (by omega)];exact G.fst,fun i f w h1 h2=>?_⟩
 rcases Ni i F.length with z|z|z
 ·rw [MG z] at h1;rw [MG (by rw [G.len];exact z)] at h2
  exact G.word i f w h1 h2
 ·rw [z,MT (Mb _)] at h1;rw [z,<- G.len,MT (Mb _)] at h2;have e1:tb t a s=f:=by simpa using h1
  have e2:wa++[s]=w:=by simpa using h2
  subst e1 e2;refine ⟨fun y hy=>?_,by simp;omega,by rw [Bq,q3];rfl⟩
  rcases Mc.mp hy with y1|y1
  ·exact q1 y y1
  ·rw [LZ.mp y1];exact hs
 ·have:(F++[tb t a s]).length<=i:=by simp;omega
  rw [MM this] at h1;cases h1
def iX.words (G:iX t e S F W) (nd:F.Nodup) (hn:F.length<=n) {R:List Nat} {V:List (List Nat)} (hl:V.length=R.length) (h:∀ (i r:Nat) (w:List Nat),R[i]?=some r->V[i]?=some w->∃ j:Nat,F[j]?=some r/\W[j]?=some w):Words n t e S R V:=by
 refine ⟨hl,fun i r w h1 h2=>?_⟩;obtain ⟨j,j1,j2⟩:=h i r w h1 h2;obtain ⟨q1,q2,q3⟩:=G.word j r w j1 j2;have jl:j<F.length:=(LR.mp j1).1;refine ⟨q1,by omega,q3,fun z=>?_⟩
 have j0:j=0:=by
  obtain ⟨l0,e0⟩:=LR.mp G.fst;obtain ⟨l1,e1⟩:=LR.mp j1;rcases N0 j with y|y
  ·exact y
  ·exact absurd (e0.trans (z.symm.trans e1.symm)) ((Mx.mp nd) 0 j l0 l1 y)
 rw [j0] at q2;exact O3.mp (by omega)
end
section
variable {n:Nat} {t:List (List Nat)} {e:Nat} {R:List Nat}
def mU (n:Nat) (t:List (List Nat)) (e:Nat) (R:List Nat) (b:Nat):Option Nat->Prop
 | none=>∀ h∈R,de n t e h b∈R
 | some h=>h∈R/\de n t e h b∉R/\∀ h'∈R,h' < h->de n t e h' b∈R
end
section
variable {t:List (List Nat)} {R M:List Nat} {m:Nat}
def i5 (t:List (List Nat)) (R M:List Nat) (m j k:Nat):Prop:=M.getD (R.idxOf (tb t (R.getD j 0) (R.getD k 0))) 0=(M.getD j 0+M.getD k 0) % m
def fJ (t:List (List Nat)) (R M:List Nat) (m:Nat):Option (Nat×Nat)->Prop
 | none=>∀ j,j<R.length->∀ k,k<R.length->i5 t R M m j k
 | some (a,b)=>∃ j k,j<R.length/\k<R.length/\R.getD j 0=a/\R.getD k 0=b/\¬ i5 t R M m j k/\(∀ j',j' < j->∀ k',k' < R.length->i5 t R M m j' k')/\∀ k',k' < k->i5 t R M m j k'
def fJ.uni {o o':Option (Nat×Nat)} (h:fJ t R M m o) (h':fJ t R M m o'):o=o':=by
 cases o with
 | none =>
  cases o' with
  | none=>rfl
  | some p =>
   obtain ⟨a,b⟩:=p;obtain ⟨j,k,hj,hk,_,_,q,_⟩:=h';exact absurd (h j hj k hk) q
 | some p =>
  obtain ⟨a,b⟩:=p;obtain ⟨j,k,hj,hk,ea,eb,q,q1,q2⟩:=h;cases o' with
  | none=>exact absurd (h' j hj k hk) q
  | some p' =>
   obtain ⟨a',b'⟩:=p';obtain ⟨j',k',hj',hk',ea',eb',q',q1',q2'⟩:=h';have ej:j=j':=by
    rcases Ni j j' with z|z|z
    ·exact absurd (q1' j z k hk) q
    ·exact z
    ·exact absurd (q1 j' z k' hk') q'
   subst ej;have ek:k=k':=by
    rcases Ni k k' with z|z|z
    ·exact absurd (q2' k z) q
    ·exact z
    ·exact absurd (q2 k' z) q'
   subst ek;rw [<- ea,<- eb,<- ea',<- eb']
def kq {l:List Nat} {x:Nat} (h:x∈l):l[l.idxOf x]?=some x:=by
 rw [LP (M1 h)];simp
def vZ:∀ {l:List Nat} {x i:Nat},i<l.idxOf x->l[i]?≠some x
 | [],_,_,h=>absurd h (by simp)
 | y :: l,x,i,h=>by
  rw [List.idxOf_cons] at h
  by_cases e:y=x
  ·subst e;simp at h
  ·have hb:(y == x)=false:=by simp [e]
   rw [hb] at h;cases i with
   | zero=>simpa using e
   | succ i =>
    have h':i<l.idxOf x:=by simpa using h
    simpa using vZ h'
end
section
variable {n e:Nat} {t:List (List Nat)}
def mkO (R W:List Nat) (x:Nat):Nat:=W.getD (R.idxOf x) 0
structure IsW (t:List (List Nat)) (R W:List Nat) (m:Nat):Prop where
 len:W.length=R.length
 lt:∀ w∈W,w<m
 add:∀ x∈R,∀ y∈R,mkO R W (tb t x y)=(mkO R W x+mkO R W y) % m
def kW {R:List Nat} {f:Nat->Nat} {x:Nat} (hx:x∈R):mkO R (R.map f) x=f x:=by
 unfold mkO;rw [LU,Mp,kq hx];rfl
def gm:∀ {R:List Nat},R.Nodup->∀ {i x:Nat},R[i]?=some x->R.idxOf x=i
 | [],_,i,x,h=>by simp at h
 | a :: R,nd,0,x,h=>by
  simp at h;subst h;simp
 | a :: R,nd,i+1,x,h=>by
  simp at h;rw [MY] at nd;have hx:=LS h;have ne:a≠x:=fun q=>nd.1 (q ▸ hx);rw [List.idxOf_cons,show (a == x)=false from by simpa using ne,gm nd.2 h]
  rfl
def map_mk {R W:List Nat} (nd:R.Nodup) (h:W.length=R.length):R.map (mkO R W)=W:=by
 apply OA;intro i;rw [Mp]
 by_cases c:i<R.length
 ·have e1:=LP c;rw [e1];show some (mkO R W R[i])=_;unfold mkO;rw [gm nd e1,LU,LP (by omega)]
  rfl
 ·rw [MM (by omega),MM (by omega)]
  rfl
def IsW.mlt {R W:List Nat} {m:Nat} (h:IsW t R W m) {x:Nat} (hx:x∈R):mkO R W x<m:=by
 have il:=M1 hx;have:=h.len;unfold mkO;rw [LU,LP (by omega)]
 exact h.lt _ (Nt _)
def A1 {R:List Nat} {m:Nat} {f:Nat->Nat} (p:IsPart n t R) (hl:∀ x∈R,f x<m) (ha:∀ x∈R,∀ y∈R,f (tb t x y)=(f x+f y) % m):IsW t R (R.map f) m where
 len:=by simp
 lt:=fun w hw=>by
  obtain ⟨x,hx,rfl⟩:=Mm.mp hw;exact hl x hx
 add:=fun x hx y hy=>by
  rw [kW (p.cl x hx y hy),kW hx,kW hy];exact ha x hx y hy
def Ea {a m:Nat} (h:a<m) (q:a=(a+a) % m):a=0:=by
 rcases Mv (a+a) m with c|c
 ·rw [MH c] at q;omega
 ·rw [Nat.mod_eq_sub_mod c,MH (by omega)] at q;omega
def IsW.un {R W:List Nat} {m:Nat} (h:IsW t R W m) (g:GT n t e) (p:IsPart n t R):mkO R W e=0:=by
 have q:=h.add e (p.un g) e (p.un g);rw [g.unl _ g.elt] at q;exact Ea (h.mlt (p.un g)) q
def IsPart.pw {R:List Nat} (p:IsPart n t R) (g:GT n t e) {x:Nat} (hx:x∈R):∀ i,aC t e x i∈R
 | 0=>p.un g
 | i+1=>p.cl _ (p.pw g hx i) _ hx
def IsW.pow {R W:List Nat} {m:Nat} (h:IsW t R W m) (g:GT n t e) (p:IsPart n t R) {x:Nat} (hx:x∈R):∀ i,mkO R W (aC t e x i)=i * mkO R W x % m
 | 0=>by
  rw [Qx,Pl];exact h.un g p
 | i+1=>by
  show mkO R W (tb t (aC t e x i) x)=_;rw [h.add _ (p.pw g hx i) _ hx,h.pow g p hx i,Oi,PY]
structure cS (n:Nat) (t:List (List Nat)) (e:Nat) (R M:List Nat) (x m k:Nat):Prop where
 pt:IsPart n t R
 w:IsW t R M m
 xn:x<n
 st:∀ h∈R,de n t e h x∈R
 kp:∀ h∈R,mkO R M (de n t e h x)=mkO R M h
 k1:1<=k
 kin:aC t e x k∈R
 lM:∀ i,1<=i->i<k->aC t e x i∉R
 m1:0<m
 all:aC t e x m=e
variable {R M:List Nat} {x m k:Nat}
def Ik (g:GT n t e) {a b:Nat} (ha:a<n) (hb:b<n):tb t b a=tb t (de n t e a b) b:=by
 unfold de;rw [g.assoc _ _ _ (g.lt _ _ hb ha) (g.ft hb) hb,g.vc hb,g.unr _ (g.lt _ _ hb ha)]
def cS.cj (T:cS n t e R M x m k) (g:GT n t e):∀ i,∀ h∈R,∃ c,c∈R/\mkO R M c=mkO R M h/\tb t (aC t e x i) h=tb t c (aC t e x i)
 | 0,h,hh=>⟨h,hh,rfl,by
  have hn:=T.pt.lt h hh;show tb t e h=tb t h e;rw [g.unl _ hn,g.unr _ hn]⟩
 | i+1,h,hh=>by
  have hn:=T.pt.lt h hh;obtain ⟨c,c1,c2,c3⟩:=T.cj g i _ (T.st h hh);have cn:=T.pt.lt c c1;have pn:=bF g T.xn i;have kn:=T.pt.lt _ (T.st h hh);refine ⟨c,c1,c2.trans (T.kp h hh),?_⟩;show tb t (tb t (aC t e x i) x) h=tb t c (tb t (aC t e x i) x);rw [g.assoc _ _ _ pn T.xn hn,Ik g hn T.xn,<- g.assoc _ _ _ pn kn T.xn,c3,g.assoc _ _ _ cn pn T.xn]
def lay (t:List (List Nat)) (e x:Nat) (R:List Nat) (k:Nat):List Nat:=(LY k).flatMap fun j=>R.map fun h=>tb t h (aC t e x j)
def yW:lay t e x R (k+1)=lay t e x R k++R.map fun h=>tb t h (aC t e x k):=by
 unfold lay;rw [Pm,Te];simp
def eY {y:Nat}:y∈lay t e x R k↔∃ j,j<k/\∃ h,h∈R/\tb t h (aC t e x j)=y:=by
 unfold lay;rw [List.mem_flatMap];constructor
 ·rintro ⟨j,hj,hy⟩;obtain ⟨h,hh,q⟩:=Mm.mp hy;exact ⟨j,Ma.mp hj,h,hh,q⟩
 ·rintro ⟨j,hj,h,hh,q⟩;exact ⟨j,Ma.mpr hj,Mm.mpr ⟨h,hh,q⟩⟩
def uP:(lay t e x R k).length=k * R.length:=by
 induction k with
 | zero=>simp [lay]
 | succ k ih=>rw [yW,Mr,ih,LX,PY]
def cS.one (T:cS n t e R M x m k) (g:GT n t e) {h h' i j:Nat} (hh:h∈R) (hh':h'∈R) (hi:i<k) (hj:j<k) (q:tb t h (aC t e x i)=tb t h' (aC t e x j)):i=j/\h=h':=by
 have pn:=fun j=>bF g T.xn j;have key:∀ {h h' i j:Nat},h∈R->h'∈R->i<=j->j<k->tb t h (aC t e x i)=tb t h' (aC t e x j)->i=j:=by
  intro h h' i j hh hh' ij hj e1;have hn:=T.pt.lt h hh;have hn':=T.pt.lt h' hh';rcases Mv i j with c|c
  ·exfalso
   rw [show j=(j - i)+i by omega,cK g T.xn,<- g.assoc _ _ _ hn' (pn _) (pn _)] at e1
   have e2:=g.rQ (pn i) hn (g.lt _ _ hn' (pn _)) e1;refine T.lM (j - i) (by omega) (by omega) ?_
   have e3:aC t e x (j - i)=tb t (bf n t e h') h:=by
    rw [e2,<- g.assoc _ _ _ (g.ft hn') hn' (pn _),g.vc hn',g.unl _ (pn _)]
   rw [e3];exact T.pt.cl _ (T.pt.bk g hh') _ hh
  ·omega
 have eij:i=j:=by
  rcases Nat.le_total i j with c|c
  ·exact key hh hh' c hj q
  ·exact (key hh' hh c hi q.symm).symm
 subst eij;exact ⟨rfl,g.rQ (pn i) (T.pt.lt h hh) (T.pt.lt h' hh') q⟩
def cS.nd (T:cS n t e R M x m k) (g:GT n t e):(lay t e x R k).Nodup:=by
 unfold lay List.Nodup;rw [List.pairwise_flatMap];have pn:=fun j=>bF g T.xn j;refine ⟨fun j _=>?_,?_⟩
 ·exact jy (bP T.pt.srt) fun a ha b hb q=>g.rQ (pn j) (T.pt.lt a ha) (T.pt.lt b hb) q
 ·refine List.Pairwise.imp_of_mem ?_ O9;intro i j hi hj ij y hy z hz q;obtain ⟨h,hh,rfl⟩:=Mm.mp hy;obtain ⟨h',hh',q'⟩:=Mm.mp hz;have:=(T.one g hh hh' (Ma.mp hi) (Ma.mp hj) (q.trans q'.symm)).1;omega
def cS.lt (T:cS n t e R M x m k) (g:GT n t e):∀ y∈lay t e x R k,y<n:=fun y hy=>by
 obtain ⟨j,_,h,hh,rfl⟩:=eY.mp hy;exact g.lt _ _ (T.pt.lt h hh) (bF g T.xn j)
def cS.mul (T:cS n t e R M x m k) (g:GT n t e) {h h' i j:Nat} (hh:h∈R) (hh':h'∈R) (hi:i<k) (hj:j<k) :
  ∃ b l,b∈R/\l<k/\tb t (tb t h (aC t e x i)) (tb t h' (aC t e x j))=tb t b (aC t e x l) /\
   ((i+j<k/\l=i+j/\mkO R M b=(mkO R M h+mkO R M h') % m)\/(k<=i+j/\l=i+j - k/\mkO R M b=(mkO R M h+mkO R M h'+mkO R M (aC t e x k)) % m)):=by
 obtain ⟨c,c1,c2,c3⟩:=T.cj g i h' hh';have pn:=fun j=>bF g T.xn j;have hn:=T.pt.lt h hh;have hn':=T.pt.lt h' hh';have cn:=T.pt.lt c c1;have hc:=T.pt.cl h hh c c1;have hcn:=T.pt.lt _ hc;have e1:tb t (tb t h (aC t e x i)) (tb t h' (aC t e x j))=tb t (tb t h c) (aC t e x (i+j)):=by
  rw [g.assoc _ _ _ hn (pn i) (g.lt _ _ hn' (pn j)),<- g.assoc _ _ _ (pn i) hn' (pn j),c3,g.assoc _ _ _ cn (pn i) (pn j),<- cK g T.xn,<- g.assoc _ _ _ hn cn (pn _)]
 have e2:mkO R M (tb t h c)=(mkO R M h+mkO R M h') % m:=by rw [T.w.add h hh c c1,c2]
 rcases Mv (i+j) k with v|v
 ·exact ⟨tb t h c,i+j,hc,v,e1,.inl ⟨v,rfl,e2⟩⟩
 ·refine ⟨tb t (tb t h c) (aC t e x k),i+j - k,T.pt.cl _ hc _ T.kin,by omega,?_,.inr ⟨v,rfl,?_⟩⟩
  ·rw [e1,g.assoc _ _ _ hcn (pn k) (pn _),<- cK g T.xn,show k+(i+j - k)=i+j by omega]
  ·rw [T.w.add _ hc _ T.kin,e2,Oi]
def cS.gen (T:cS n t e R M x m k) (g:GT n t e) {P:List Nat} (hs:P.Pairwise (· < ·)) (hm:∀ y,y∈P↔y∈lay t e x R k):Gen n t e (R++[x]) P where
 srt:=hs
 lt:=fun y hy=>T.lt g y ((hm y).mp hy)
 un:=(hm e).mpr (eY.mpr ⟨0,T.k1,e,T.pt.un g,g.unl _ g.elt⟩)
 cl:=fun y hy s hs=>by
  obtain ⟨i,hi,h,hh,rfl⟩:=eY.mp ((hm y).mp hy);rcases Mc.mp hs with w|w
  ·obtain ⟨b,l,b1,b2,b3,_⟩:=T.mul g hh w hi T.k1 (j:=0);have:tb t s (aC t e x 0)=s:=g.unr s (T.pt.lt s w);rw [this] at b3;exact (hm _).mpr (eY.mpr ⟨l,b2,b,b1,b3.symm⟩)
  ·have es:s=x:=LZ.mp w;subst es;have hn:=T.pt.lt h hh;have pn:=fun j=>bF g T.xn j;have e1:tb t (tb t h (aC t e s i)) s=tb t h (aC t e s (i+1)):=g.assoc _ _ _ hn (pn i) T.xn;rw [e1];rcases Mv (i+1) k with v|v
   ·exact (hm _).mpr (eY.mpr ⟨i+1,v,h,hh,rfl⟩)
   ·have:i+1=k:=by omega
    rw [this];exact (hm _).mpr (eY.mpr ⟨0,T.k1,_,T.pt.cl _ hh _ T.kin,g.unr _ (g.lt _ _ hn (pn k))⟩)
 wd:=fun y hy=>by
  obtain ⟨i,hi,h,hh,rfl⟩:=eY.mp ((hm y).mp hy);have hn:=T.pt.lt h hh;refine ⟨h :: Me i x,fun z hz=>?_,?_⟩
  ·rcases Mq.mp hz with w|w
   ·exact Mc.mpr (.inl (w ▸ hh))
   ·exact Mc.mpr (.inr (by rw [O0 w];exact L9))
  ·show prd t (tb t e h) (Me i x)=_;rw [g.unl _ hn,zS g hn (fun z hz=>by rw [O0 hz];exact T.xn),zE]
def ixO (n:Nat) (t:List (List Nat)) (e:Nat) (R:List Nat) (x k y:Nat):Nat:=((LY k).find? fun i=>decide (tb t y (bf n t e (aC t e x i))∈R)).getD 0
def bsO (n:Nat) (t:List (List Nat)) (e:Nat) (R:List Nat) (x k y:Nat):Nat:=tb t y (bf n t e (aC t e x (ixO n t e R x k y)))
def cS.org (T:cS n t e R M x m k) (g:GT n t e) {h i:Nat} (hh:h∈R) (hi:i<k):ixO n t e R x k (tb t h (aC t e x i))=i/\bsO n t e R x k (tb t h (aC t e x i))=h:=by
 have pn:=fun j=>bF g T.xn j;have hn:=T.pt.lt h hh;have e0:tb t (tb t h (aC t e x i)) (bf n t e (aC t e x i))=h:=by
  rw [g.assoc _ _ _ hn (pn i) (g.ft (pn i)),g.ye (pn i),g.unr _ hn]
 have e1:ixO n t e R x k (tb t h (aC t e x i))=i:=by
  unfold ixO;cases hf:(LY k).find? fun j=>decide (tb t (tb t h (aC t e x i)) (bf n t e (aC t e x j))∈R) with
  | none =>
   have:=List.find?_eq_none.mp hf i (Ma.mpr hi);rw [e0] at this;exact absurd (decide_eq_true hh) this
  | some j =>
   have c1:tb t (tb t h (aC t e x i)) (bf n t e (aC t e x j))∈R:=by
    have:=List.find?_some hf;exact of_decide_eq_true this
   have c2:=Ma.mp (Rc hf);have c3:tb t (tb t (tb t h (aC t e x i)) (bf n t e (aC t e x j))) (aC t e x j)=tb t h (aC t e x i):=by
    have:=g.lt _ _ hn (pn i);rw [g.assoc _ _ _ this (g.ft (pn j)) (pn j),g.vc (pn j),g.unr _ this]
   exact (T.one g c1 hh c2 hi c3).1
 refine ⟨e1,?_⟩;unfold bsO;rw [e1];exact e0
def gY (n:Nat) (t:List (List Nat)) (e:Nat) (R M:List Nat) (x m k y z:Nat):Nat:=(mkO R M (bsO n t e R x k z)+ixO n t e R x k z * y) % m
def cS.gy (T:cS n t e R M x m k) (g:GT n t e) {h i:Nat} (hh:h∈R) (hi:i<k) (y:Nat):gY n t e R M x m k y (tb t h (aC t e x i))=(mkO R M h+i * y) % m:=by
 unfold gY;rw [(T.org g hh hi).1,(T.org g hh hi).2]
def cS.add (T:cS n t e R M x m k) (g:GT n t e) {y:Nat} (hy:k * y % m=mkO R M (aC t e x k)) {u v:Nat} (hu:u∈lay t e x R k) (hv:v∈lay t e x R k) :
  gY n t e R M x m k y (tb t u v)=(gY n t e R M x m k y u+gY n t e R M x m k y v) % m:=by
 obtain ⟨i,hi,h,hh,rfl⟩:=eY.mp hu;obtain ⟨j,hj,h',hh',rfl⟩:=eY.mp hv;obtain ⟨b,l,b1,b2,b3,b4⟩:=T.mul g hh hh' hi hj;rw [b3,T.gy g b1 b2,T.gy g hh hi,T.gy g hh' hj,<- Tc];rcases b4 with ⟨c1,c2,c3⟩|⟨c1,c2,c3⟩
 ·rw [c2,c3,Oi,Tf]
  congr 1
  omega
 ·rw [c2,c3,<- hy,Oi,Nat.add_right_comm,OY,Pu,<- Tf,show i+j - k+k=i+j by omega,Tf]
  congr 1
  omega
def cS.keep (T:cS n t e R M x m k) (g:GT n t e) (y:Nat) {h:Nat} (hh:h∈R):gY n t e R M x m k y h=mkO R M h:=by
 have:=T.gy g hh T.k1 y;rw [show aC t e x 0=e from rfl,g.unr _ (T.pt.lt h hh),Qx,Of,MH (T.w.mlt hh)] at this;exact this
def cS.dvd (T:cS n t e R M x m k) (g:GT n t e) {j:Nat} (hj:aC t e x j∈R):k ∣ j:=by
 have pn:=fun j=>bF g T.xn j;have e1:aC t e x j=tb t (aC t e x (k * (j / k))) (aC t e x (j % k)):=by rw [<- cK g T.xn,OZ]
 have mul:∀ i,aC t e x (k * i)∈R:=fun i=>by
  induction i with
  | zero=>exact T.pt.un g
  | succ i ih=>rw [Oh,cK g T.xn];exact T.pt.cl _ ih _ T.kin
 have e2:aC t e x (j % k)∈R:=by
  have:aC t e x (j % k)=tb t (bf n t e (aC t e x (k * (j / k)))) (aC t e x j):=by
   rw [e1,<- g.assoc _ _ _ (g.ft (pn _)) (pn _) (pn _),g.vc (pn _),g.unl _ (pn _)]
  rw [this];exact T.pt.cl _ (T.pt.bk g (mul _)) _ hj
 rcases N0 (j % k) with c|c
 ·exact Nq c
 ·exact absurd e2 (T.lM _ c (Mw _ T.k1))
def cS.pm (T:cS n t e R M x m k) (g:GT n t e):∀ i,mkO R M (aC t e x (k * i))=i * mkO R M (aC t e x k) % m
 | 0=>by
  rw [Qx,Pl];exact T.w.un g T.pt
 | i+1=>by
  have mul:∀ i,aC t e x (k * i)∈R:=fun i=>by
   induction i with
   | zero=>exact T.pt.un g
   | succ i ih=>rw [Oh,cK g T.xn];exact T.pt.cl _ ih _ T.kin
  rw [Oh,cK g T.xn,T.w.add _ (mul i) _ T.kin,T.pm g i,Oi,PY]
def cS.LK (T:cS n t e R M x m k) (g:GT n t e):((LY m).filter fun y=>decide (k * y % m=mkO R M (aC t e x k))).length=k:=by
 obtain ⟨q,rfl⟩:=T.dvd g (j:=m) (by rw [T.all];exact T.pt.un g)
 have q1:0<q:=Nat.pos_of_mul_pos_left T.m1;have k1:=T.k1;have am:=T.w.mlt T.kin;have d1:k ∣ mkO R M (aC t e x k):=by
  have e1:=T.pm g q;rw [T.all,T.w.un g T.pt] at e1;obtain ⟨c,hc⟩:=Nq e1.symm;refine ⟨c,?_⟩;have:q * mkO R M (aC t e x k)=q * (k * c):=by rw [hc,Ow k q,Qb]
  exact PK q1 this
 obtain ⟨a,ha⟩:=d1;rw [ha] at am ⊢;have aq:a<q:=Nat.lt_of_mul_lt_mul_left am;have hl:((LY (k * q)).filter fun y=>decide (k * y % (k * q)=k * a))=(LY k).map fun j=>a+j * q:=by
  refine kb (QE _ O9) ?_ fun y=>?_
  ·rw [NX];refine O9.imp fun z=>?_;have:=Nat.mul_lt_mul_of_pos_right z q1;omega
  ·rw [Nl,Ma,decide_eq_true_iff,Nat.mul_mod_mul_left,Mm];constructor
   ·rintro ⟨h1,h2⟩;have h3:=PK k1 h2;refine ⟨y / q,Ma.mpr (Nr (by rw [Ow];exact h1)),?_⟩
    have:=OZ y q;rw [h3,Ow q] at this;omega
   ·rintro ⟨j,hj,rfl⟩;have hj':=Ma.mp hj;refine ⟨?_,?_⟩
    ·have:(j+1) * q<=k * q:=Pz q hj';rw [PY] at this;omega
    ·rw [Nat.add_mul_mod_self_right,MH aq]
 rw [hl,LX,Nj]
end
def fV:List Nat->List Nat->Bool
 | [],[]=>false
 | [],_ :: _=>true
 | _ :: _,[]=>false
 | a :: as,b :: bs=>if a=b then fV as bs else decide (a<b)
def Bm:∀ {a b:List Nat},fV a b=true->fV b a=false
 | [],[],h=>rfl
 | [],_ :: _,h=>rfl
 | _ :: _,[],h=>by simp [fV] at h
 | x :: a,y :: b,h=>by
  simp only [fV] at h ⊢
  by_cases e:x=y
  ·subst e;simp only [if_true] at h ⊢;exact Bm h
  ·rw [if_neg e] at h;rw [if_neg (NJ e),decide_eq_false_iff_not];have:=of_decide_eq_true h;omega
def z8:∀ {a b:List Nat},fV a b=false->fV b a=false->a=b
 | [],[],_,_=>rfl
 | [],_ :: _,h,_=>by simp [fV] at h
 | _ :: _,[],_,h=>by simp [fV] at h
 | x :: a,y :: b,h,h'=>by
  simp only [fV] at h h'
  by_cases e:x=y
  ·subst e;simp only [if_true] at h h';rw [z8 h h']
  ·rw [if_neg e] at h;rw [if_neg (NJ e)] at h';have:=of_decide_eq_false h;have:=of_decide_eq_false h';omega
abbrev Cr (L:List (List Nat)):Prop:=L.Pairwise fun a b=>fV a b=true
def Bk {L:List (List Nat)} (nd:L.Nodup) (h:L.Pairwise fun a b=>fV b a=false):Cr L :=
 (List.Pairwise.and nd h).imp fun {a b} z=>by
  cases c:fV a b with
  | true=>rfl
  | false=>exact absurd (z8 c z.2) z.1
def IU {L:List (List Nat)} (h:Cr L):L.Nodup:=h.imp fun {a b} z q=>by
 subst q;have:=Bm z;rw [z] at this;cases this
def tY {α β:Type} {f:α->β}:∀ {l:List α},l.Nodup->(∀ x∈l,∀ y∈l,f x=f y->x=y)->(l.map f).Nodup
 | [],_,_=>Qt
 | a :: l,nd,h=>by
  rw [MY] at nd;rw [Mz,MY];refine ⟨fun z=>?_,tY nd.2 fun x hx y hy=>h x (L5 _ hx) y (L5 _ hy)⟩;obtain ⟨y,hy,q⟩:=Mm.mp z;have:=h y (L5 _ hy) a L9 q;subst this;exact nd.1 hy
section
variable {n e:Nat} {t:List (List Nat)} {R M:List Nat} {x m k:Nat}
structure Taken (n:Nat) (t:List (List Nat)) (e:Nat) (R M:List Nat) (x m:Nat) (P:List Nat) (L:List (List Nat)):Prop where
 gen:Gen n t e (R++[x]) P
 srt:Cr L
 len:L.length * R.length=P.length
 mem:∀ W,W∈L↔IsW t P W m/\∀ h∈R,mkO P W h=mkO R M h
def yC (t:List (List Nat)) (e:Nat) (R M:List Nat) (x m k:Nat):List Nat:=(LY m).filter fun y=>decide (k * y % m=mkO R M (aC t e x k))
def Hx {P L:List Nat} (h1:P.Nodup) (h2:L.Nodup) (h:∀ y,y∈P↔y∈L):P.length=L.length:=by
 have a:=sub_len h1 fun y hy=>(h y).mp hy;have b:=sub_len h2 fun y hy=>(h y).mpr hy;omega
def cS.taken (T:cS n t e R M x m k) (g:GT n t e) {P:List Nat} (hs:P.Pairwise (· < ·)) (hm:∀ y,y∈P↔y∈lay t e x R k) {L:List (List Nat)} (hp:L.Perm ((yC t e R M x m k).map fun y=>P.map (gY n t e R M x m k y))) (hL:L.Pairwise fun a b=>fV b a=false) :
  Taken n t e R M x m P L:=by
 have G:=T.gen g hs hm;have hS:∀ s∈R++[x],s<n:=fun s hs=>by
  rcases Mc.mp hs with z|z
  ·exact T.pt.lt s z
  ·rw [LZ.mp z];exact T.xn
 have pp:=G.part g hS;have sub:∀ h∈R,h∈P:=fun h hh=>G.has g (Mc.mpr (.inl hh)) (T.pt.lt h hh);have xP:x∈P:=G.has g (Mc.mpr (.inr L9)) T.xn;have om:∀ y,y∈yC t e R M x m k↔y<m/\k * y % m=mkO R M (aC t e x k):=fun y=>by
  unfold yC;rw [Nl,Ma,decide_eq_true_iff]
 have k1:=T.k1;have nd0:((yC t e R M x m k).map fun y=>P.map (gY n t e R M x m k y)).Nodup:=by
  refine tY (QE _ O5) fun y hy y' hy' q=>?_;obtain ⟨a1,a2⟩:=(om y).mp hy;obtain ⟨b1,b2⟩:=(om y').mp hy';rcases Mv 1 k with c|c
  ·have e1:=congrArg (fun l=>mkO P l x) q;simp only [kW xP] at e1;have ex:tb t e (aC t e x 1)=x:=by rw [g.unl _ (bF g T.xn 1),kR g T.xn]
   have key:∀ y,y<m->gY n t e R M x m k y x=y:=fun y hy=>by
    have:=T.gy g (T.pt.un g) c y;rw [ex,T.w.un g T.pt,Oy,T7,MH hy] at this;exact this
   rw [key y a1,key y' b1] at e1;exact e1
  ·have:k=1:=by omega
   rw [this,T7,MH a1] at a2;rw [this,T7,MH b1] at b2;rw [a2,b2]
 refine ⟨G,Bk (hp.nodup_iff.mpr nd0) hL,?_,fun W=>?_⟩
 ·have ol:(yC t e R M x m k).length=k:=T.LK g;rw [hp.length_eq,LX,ol,<- uP (t:=t) (e:=e) (x:=x)];exact (Hx (bP hs) (T.nd g) hm).symm
 ·rw [hp.mem_iff,Mm];constructor
  ·rintro ⟨y,hy,rfl⟩;obtain ⟨a1,a2⟩:=(om y).mp hy;refine ⟨A1 pp (fun z _=>Mw _ T.m1) fun u hu v hv=>T.add g a2 ((hm u).mp hu) ((hm v).mp hv),fun h hh=>?_⟩;rw [kW (sub h hh)];exact T.keep g y hh
  ·rintro ⟨w,hw⟩;have e1:=w.pow g pp xP k;rw [hw _ T.kin] at e1;refine ⟨mkO P W x,(om _).mpr ⟨w.mlt xP,e1.symm⟩,?_⟩;rw [<- map_mk (bP hs) w.len];refine PX fun z hz=>?_;obtain ⟨i,hi,h,hh,rfl⟩:=eY.mp ((hm z).mp hz);rw [map_mk (bP hs) w.len,T.gy g hh hi,w.add _ (sub h hh) _ (pp.pw g xP i),w.pow g pp xP i,hw h hh,OY]
structure fA (n:Nat) (t:List (List Nat)) (e:Nat) (D S:List Nat) (m:Nat) (R:List Nat) (F:List (List Nat)):Prop where
 pt:IsPart n t R
 lo:∀ d∈D,d∈R
 hi:∀ y∈R,y∈S
 nd:F.Nodup
 mem:∀ W,W∈F↔IsW t R W m/\∀ d∈D,mkO R W d=0
 len:F.length * D.length=R.length
structure JN (t:List (List Nat)) (D S:List Nat) (m:Nat) (L:List (List Nat)):Prop where
 srt:Cr L
 mem:∀ W,W∈L↔IsW t S W m
 len:L.length * D.length=S.length
variable {D S:List Nat}
def qt (g:GT n t e) (p:IsPart n t S):∀ s∈iO n t e S,s∈S:=fun s hs=>by
 obtain ⟨a,ha,b,hb,rfl⟩:=nH.mp hs;exact p.cl _ (p.cl _ (p.cl _ ha _ hb) _ (p.bk g ha)) _ (p.bk g hb)
def Ju (g:GT n t e) (p:IsPart n t S) (G:Gen n t e (iO n t e S) D):∀ d∈D,d∈S :=
 G.least (p.un g) fun x hx s hs=>p.cl _ hx _ (qt g p s hs)
def mO {R:List Nat} {l:Nat} {y:Nat}:mkO R (Me l 0) y=0:=by
 unfold mkO;rw [LU,Oq]
 split <;> rfl
def fA.start (g:GT n t e) (p:IsPart n t S) (G:Gen n t e (iO n t e S) D) (m1:0<m):fA n t e D S m D [Me D.length 0]:=by
 have pd:=G.part g fun s hs=>p.lt s (qt g p s hs);refine ⟨pd,fun d hd=>hd,Ju g p G,by simp,fun W=>?_,by simp⟩
 rw [LZ];constructor
 ·intro q;subst q;refine ⟨⟨by simp,fun w hw=>by rw [O0 hw];exact m1,fun x _ y _=>?_⟩,fun d _=>mO⟩
  rw [mO,mO,mO,Pl]
 ·rintro ⟨w,h⟩;rw [<- map_mk (bP pd.srt) w.len];apply OA;intro i;rw [Mp]
  by_cases c:i<D.length
  ·rw [LP c,Oq,if_pos c];show some (mkO D W D[i])=some 0;rw [h _ (Nt c)]
  ·rw [MM (by omega),Oq,if_neg c]
   rfl
def fA.on {F:List (List Nat)} (I:fA n t e D S m R F) (g:GT n t e) (p:IsPart n t S) (G:Gen n t e (iO n t e S) D) (hx:x∈S) (hM:M∈F) (k1:1<=k) (kin:aC t e x k∈R) (lM:∀ i,1<=i->i<k->aC t e x i∉R) (m1:0<m) (all:aC t e x m=e) :
  cS n t e R M x m k:=by
 obtain ⟨w,z⟩:=(I.mem M).mp hM;have xn:=p.lt x hx;have key:∀ h∈R,∃ c,c∈D/\de n t e h x=tb t c h:=fun h hh=>by
  have hn:=I.pt.lt h hh;refine ⟨tb t (tb t (tb t x h) (bf n t e x)) (bf n t e h),?_,?_⟩
  ·have hs:tb t (tb t (tb t x h) (bf n t e x)) (bf n t e h)∈iO n t e S:=nH.mpr ⟨x,hx,h,I.hi h hh,rfl⟩;exact G.has g hs (p.lt _ (qt g p _ hs))
  ·unfold de;have a1:=g.lt _ _ (g.lt _ _ xn hn) (g.ft xn);rw [g.assoc _ _ _ a1 (g.ft hn) hn,g.vc hn,g.unr _ a1]
 refine ⟨I.pt,w,xn,fun h hh=>?_,fun h hh=>?_,k1,kin,lM,m1,all⟩
 ·obtain ⟨c,c1,c2⟩:=key h hh;rw [c2];exact I.pt.cl _ (I.lo c c1) _ hh
 ·obtain ⟨c,c1,c2⟩:=key h hh;rw [c2,w.add _ (I.lo c c1) _ hh,z c c1,Oy,MH (w.mlt hh)]
def Bw {α:Type} {q:Nat}:∀ (Ls:List (List α)) (a b:Nat),(∀ L∈Ls,L.length * a=b)->Ls.flatten.length * a=Ls.length * b
 | [],a,b,_=>by simp
 | L :: Ls,a,b,h=>by
  rw [Oz,Mr,Tf,h L L9,Bw (q:=q) Ls a b fun L hL=>h L (L5 _ hL),MO,PY,Ov]
def fA.step {F:List (List Nat)} (I:fA n t e D S m R F) (g:GT n t e) (p:IsPart n t S) (hx:x∈S) {P:List Nat} {Ls:List (List (List Nat))} (hl:Ls.length=F.length)
  (hT:∀ (i:Nat) (M:List Nat) (L:List (List Nat)),F[i]?=some M->Ls[i]?=some L->Taken n t e R M x m P L):fA n t e D S m P Ls.flatten:=by
 have r1:0<R.length:=M9.mpr I.pt.ne;have f1:0<F.length:=by
  rcases N0 F.length with c|c
  ·have:=I.len;rw [c,Qx] at this;omega
  ·exact c
 have T0:=hT 0 _ _ (LP f1) (LP (by omega))
 have G:=T0.gen;have xn:=p.lt x hx;have hS:∀ s∈R++[x],s<n:=fun s hs=>by
  rcases Mc.mp hs with z|z
  ·exact I.pt.lt s z
  ·rw [LZ.mp z];exact xn
 have pp:=G.part g hS;have sub:∀ h∈R,h∈P:=fun h hh=>G.has g (Mc.mpr (.inl hh)) (I.pt.lt h hh);have rl:∀ M∈F,M.length=R.length:=fun M hM=>((I.mem M).mp hM).1.len;have ext:∀ {M M' W:List Nat},M∈F->M'∈F->(∀ h∈R,mkO P W h=mkO R M h)->(∀ h∈R,mkO P W h=mkO R M' h)->M=M':=fun {M M' W} hM hM' a b=>by
  rw [<- map_mk (bP I.pt.srt) (rl M hM),<- map_mk (bP I.pt.srt) (rl M' hM')];exact PX fun h hh=>(a h hh).symm.trans (b h hh)
 refine ⟨pp,fun d hd=>sub d (I.lo d hd),?_,?_,fun W=>?_,?_⟩
 ·exact G.least (p.un g) fun y hy s hs=>p.cl _ hy _ (by
   rcases Mc.mp hs with z|z
   ·exact I.hi s z
   ·rw [LZ.mp z];exact hx)
 ·unfold List.Nodup;rw [List.pairwise_flatten];refine ⟨fun L hL=>?_,?_⟩
  ·obtain ⟨i,hi⟩:=Ms hL;have il:i<F.length:=by rw [<- hl];exact (LR.mp hi).1
   exact IU (hT i _ L (LP il) hi).srt
  ·rw [Mx];intro i j hi hj ij W hW W' hW' q;subst q;have i2:i<F.length:=by omega
   have j2:j<F.length:=by omega
   have a:=((hT i _ _ (LP i2) (LP hi)).mem W).mp hW;have b:=((hT j _ _ (LP j2) (LP hj)).mem W).mp hW';have q:=ext (Nt i2) (Nt j2) a.2 b.2;exact (Mx.mp I.nd i j i2 j2 ij) q
 ·rw [List.mem_flatten];constructor
  ·rintro ⟨L,hL,hW⟩;obtain ⟨i,hi⟩:=Ms hL;have il:i<F.length:=by rw [<- hl];exact (LR.mp hi).1
   have a:=((hT i _ L (LP il) hi).mem W).mp hW;refine ⟨a.1,fun d hd=>?_⟩;rw [a.2 d (I.lo d hd)];exact ((I.mem _).mp (Nt il)).2 d hd
  ·rintro ⟨w,z⟩;have hM:R.map (mkO P W)∈F:=(I.mem _).mpr ⟨A1 I.pt (fun y hy=>w.mlt (sub y hy)) fun y hy y' hy'=>w.add y (sub y hy) y' (sub y' hy'),fun d hd=>by
    rw [kW (I.lo d hd)];exact z d hd⟩
   obtain ⟨i,hi⟩:=Ms hM;have il:i<Ls.length:=by rw [hl];exact (LR.mp hi).1
   exact ⟨Ls[i],Nt il,((hT i _ _ hi (LP il)).mem W).mpr ⟨w,fun h hh=>(kW hh).symm⟩⟩
 ·have sl:=Bw (q:=0) Ls R.length P.length fun L hL=>by
   obtain ⟨i,hi⟩:=Ms hL;have il:i<F.length:=by rw [<- hl];exact (LR.mp hi).1
   exact (hT i _ L (LP il) hi).len
  rw [hl] at sl;have il:=I.len;refine Nat.eq_of_mul_eq_mul_right r1 ?_
  calc Ls.flatten.length * D.length * R.length=Ls.flatten.length * R.length * D.length:=by rw [Nat.mul_right_comm]
   _=F.length * P.length * D.length:=by rw [sl]
   _=F.length * D.length * P.length:=by rw [Nat.mul_right_comm]
   _=P.length * R.length:=by rw [il,Ow]
def GV (g:GT n t e) (p:IsPart n t S) (G:Gen n t e (iO n t e S) D) {W:List Nat} (w:IsW t S W m):∀ d∈D,mkO S W d=0:=by
 have m1:0<m:=NM (MI _) (w.mlt (p.un g));have bk:∀ a∈S,(mkO S W a+mkO S W (bf n t e a)) % m=0:=fun a ha=>by
  rw [<- w.add a ha _ (p.bk g ha),g.ye (p.lt a ha),w.un g p]
 have c0:∀ s∈iO n t e S,mkO S W s=0:=fun s hs=>by
  obtain ⟨a,ha,b,hb,rfl⟩:=nH.mp hs;have ab:=p.cl a ha b hb;have a':=p.bk g ha;have b':=p.bk g hb;rw [w.add _ (p.cl _ ab _ a') _ b',w.add _ ab _ a',w.add a ha b hb,Oi,Pu,Oi,<- Pu];rw [show mkO S W a+mkO S W b+mkO S W (bf n t e a)+mkO S W (bf n t e b)=(mkO S W a+mkO S W (bf n t e a))+(mkO S W b+mkO S W (bf n t e b)) by omega,Tc,bk a ha,bk b hb,Of,Pl]
 have:=G.least (R:=S.filter fun d=>decide (mkO S W d=0)) (Nl.mpr ⟨p.un g,decide_eq_true (w.un g p)⟩) fun y hy s hs=>by
  obtain ⟨y1,y2⟩:=Nl.mp hy;have sS:=qt g p s hs;refine Nl.mpr ⟨p.cl _ y1 _ sS,decide_eq_true ?_⟩;rw [w.add y y1 s sS,of_decide_eq_true y2,c0 s hs,Of,Pl]
 exact fun d hd=>of_decide_eq_true (Nl.mp (this d hd)).2
def fA.fin {F L:List (List Nat)} (I:fA n t e D S m R F) (g:GT n t e) (p:IsPart n t S) (G:Gen n t e (iO n t e S) D) (hS:∀ y∈S,y∈R) (hp:L.Perm F) (hL:L.Pairwise fun a b=>fV b a=false):JN t D S m L:=by
 have eq:R=S:=kb I.pt.srt p.srt fun y=>⟨I.hi y,hS y⟩;subst eq;refine ⟨Bk (hp.nodup_iff.mpr I.nd) hL,fun W=>?_,by rw [hp.length_eq];exact I.len⟩
 rw [hp.mem_iff,I.mem];exact ⟨fun z=>z.1,fun z=>⟨z,GV g p G z⟩⟩
def fA.few {F:List (List Nat)} (I:fA n t e D S m R F):F.length<=n:=by
 have il:=I.len;have:=I.pt.len;rcases N0 D.length with c|c
 ·rw [c,Pk] at il;have:=M9.mpr I.pt.ne;omega
 ·have:=Qd F.length c;omega
def fA.some {F:List (List Nat)} (I:fA n t e D S m R F):0<F.length:=by
 have:=M9.mpr I.pt.ne;rcases N0 F.length with c|c
 ·have:=I.len;rw [c,Qx] at this;omega
 ·exact c
end
section
variable {P:Mi} {w:World} {K:LO} {mg:Str->Option Value} {base:Heap}
def xl (K:LO):Sp:=fun vs H Q _=>∃ (v:V) (n:Nat) (t:List (List Nat)),vs=[v]/\At K H v t/\Sq n t/\Q .non H
def wJ (T:Txt K mg):aH P w K mg base CX0 1 T.iL.f T.iL.fd ["rows"] (xl K):=by
 refine T.iL.ok jN (fun vs H Q E h=>?_) (fun cdv A outer s H vs Q E hr h=>?_)
 ·obtain ⟨v,n,t,rfl,_⟩:=h;rfl
 obtain ⟨v,n,t,rfl,hT,sq,q⟩:=h;refine ⟨_,(ae (av (i:=1) jN.nd rfl (L8 rfl) (az (aT K rfl) rfl T.bB Mf (paF (pv 0) aa)))
   (ae (aS (PW.pt (gR (ax eF (pv 1) ag (aB _)) (gG (ax fP (pv 1) (cF (v:=.int 23) rfl T.xf ⟨_,rfl⟩) (aB _))))) (af cY) aE)
   (af (a8 L7 rfl (aY K rfl (pv 0)) (aJ (i:=2) jN.nd rfl (L8 rfl)) (af (aS (ax dQ (az (aT K rfl) rfl T.bB Mf (paF (pv 2) aa)) (pv 1) (aB _)) (af cY) aE)))))),?_⟩
 right;refine cB hT ?_;right;have h1:=sq.len;have h2:=sq.pos;have h3:=sq.le;refine aU (fun c=>absurd c (by omega)) (fun _=>?_)
 right;refine aU (fun c=>absurd c (by omega)) (fun _=>?_)
 right;refine dE hT (fun i σ H'=>H'=H/\∃ x,σ=[some v,some (.int t.length),x]) ⟨rfl,_,rfl⟩ (fun i σ H' h=>by rw [h.1];exact aj.refl _) ?_ ?_
 ·rintro i r w' σ' H' hr' hw ⟨rfl,x,rfl⟩;right;refine cB hw ?_;right;refine bH (fun c=>absurd (by rw [sq.row i r hr',h1]) c) (fun _=>?_)
  right;exact ⟨rfl,_,rfl⟩
 ·rintro σ' H' ⟨rfl,x,rfl⟩;exact q
def pB (K:LO):Sp:=fun vs H Q _=>∃ (v:V) (n:Nat) (t:List (List Nat)),vs=[v]/\At K H v t/\Gd n t/\Q .non H
def oW (T:Txt K mg):aH P w K mg base CX0 1 T.eR.f T.eR.fd ["rows"] (pB K):=by
 refine T.eR.ok eN (fun vs H Q E h=>?_) (fun cdv A outer s H vs Q E hr h=>?_)
 ·obtain ⟨v,n,t,rfl,_⟩:=h;rfl
 obtain ⟨v,n,t,rfl,hT,gd,q⟩:=h;refine ⟨_,(ae (av (i:=1) eN.nd rfl (L8 rfl) (az (aT K rfl) rfl T.bB Mf (paF (pv 0) aa)))
   (af (a8 L7 rfl (a9 rfl T.bD (paF (pv 1) aa)) (aJ (i:=2) eN.nd rfl (L8 rfl)) (af (a8 L7 rfl (a9 rfl T.bD (paF (pv 1) aa)) (aJ (i:=3) eN.nd rfl (L8 rfl)) (af (aS (PW.pt (gR (ax eF (aw (ah K rfl) (aw (ah K rfl) (pv 0) (pv 2) (fun _ _=>rfl)) (pv 3) (fun _ _=>rfl)) ag (aB _)) (gG (ax lj (aw (ah K rfl) (aw (ah K rfl) (pv 0) (pv 2) (fun _ _=>rfl)) (pv 3) (fun _ _=>rfl)) (pv 1) (aB _))))) (af cY) aE))))))),?_⟩
 right;refine cB hT ?_;right;have h1:=gd.len;have h3:=gd.le;rw [h1];refine bV (n:=n) rfl (by omega) (fun i σ H'=>H'=H/\∃ x y,σ=[some v,some (.int n),x,y]) ⟨rfl,_,_,rfl⟩ ?_ ?_
 ·rintro i σ' H' hi ⟨rfl,x,y,rfl⟩;right;refine bV (n:=n) rfl (by omega) (fun j σ H''=>H''=H'/\∃ y,σ=[some v,some (.int n),some (.int (i:Int)),y]) ⟨rfl,_,rfl⟩ ?_ ?_
  ·rintro j σ'' H'' hj ⟨rfl,y,rfl⟩;have hlt:=gd.lt i j hi hj;right;refine cR hT rfl (gd.get hi) fun w1 hw1=>?_;right;refine gH hw1 rfl (gd.d4 hi hj) ?_;right;refine aU (fun c=>absurd c (by omega)) (fun _=>?_)
   right;refine cR hT rfl (gd.get hi) fun w2 hw2=>?_;right;refine gH hw2 rfl (gd.d4 hi hj) ?_;right;refine aU (fun c=>absurd c (by omega)) (fun _=>?_)
   right;exact ⟨rfl,_,rfl⟩
  ·rintro σ'' H'' ⟨rfl,y,rfl⟩;exact ⟨rfl,_,_,rfl⟩
 ·rintro σ' H' ⟨rfl,x,y,rfl⟩;exact q
def xg (K:LO):Sp:=fun vs H Q _=>∃ (v:V) (n x:Nat) (t:List (List Nat)),vs=[v,.int (x:Int)]/\At K H v t/\Sq n t/\x<n/\Q (.bl (decide (pG n t x))) H
def xp (T:Txt K mg):aH P w K mg base CX0 1 T.iE.f T.iE.fd ["rows","thing"] (xg K):=by
 refine T.iE.ok nY (fun vs H Q E h=>?_) (fun cdv A outer s H vs Q E hr h=>?_)
 ·obtain ⟨v,n,x,t,rfl,_⟩:=h;rfl
 obtain ⟨v,n,x,t,rfl,hT,sq,hx,q⟩:=h;refine ⟨_,(ae (a8 L7 rfl (a9 rfl T.bD (paF (az (aT K rfl) rfl T.bB Mf (paF (pv 0) aa)) aa)) (aJ (i:=2) nY.nd rfl (L8 rfl)) (af (aS (PW.pt (gR (ax dQ (aw (ah K rfl) (aw (ah K rfl) (pv 0) (pv 1) (fun _ _=>rfl)) (pv 2) (fun _ _=>rfl)) (pv 2) (aB _)) (gG (ax dQ (aw (ah K rfl) (aw (ah K rfl) (pv 0) (pv 2) (fun _ _=>rfl)) (pv 1) (fun _ _=>rfl)) (pv 2) (aB _))))) (af (aN gQ)) aE)))
   (af (aN gQ))),?_⟩
 right;refine cB hT ?_;right;have h1:=sq.len;have h3:=sq.le;rw [h1];refine bV (n:=n) rfl (by omega) (fun i σ H'=>H'=H/\(∀ o,o<i->tb t x o=o/\tb t o x=o)/\∃ y,σ=[some v,some (.int (x:Int)),y]) ⟨rfl,fun o ho=>absurd ho (by omega),_,rfl⟩ ?_ ?_
 ·rintro i σ' H' hi ⟨rfl,hb,y,rfl⟩;have no:∀ (z:¬ (tb t x i=i/\tb t i x=i)),Q (.bl false) H':=fun z=>by
   rw [decide_eq_false (fun l:pG n t x=>z (l i hi))] at q;exact q
  right;refine cR hT rfl (sq.get hx) fun w1 hw1=>?_;right;refine gH hw1 rfl (sq.d4 hx hi) ?_;right;refine bH (fun c=>?_) (fun c1=>?_)
  ·right;exact no fun z=>c (by rw [z.1])
  ·right;refine cR hT rfl (sq.get hi) fun w2 hw2=>?_;right;refine gH hw2 rfl (sq.d4 hi hx) ?_;right;refine bH (fun c=>?_) (fun c2=>?_)
   ·right;exact no fun z=>c (by rw [z.2])
   ·right;refine ⟨rfl,fun o ho=>?_,_,rfl⟩;rcases Mv o i with z|z
    ·exact hb o z
    ·have e:o=i:=by omega
     subst e;exact ⟨by omega,by omega⟩
 ·rintro σ' H' ⟨rfl,hb,y,rfl⟩;right;rw [decide_eq_true (show pG n t x from hb)] at q;exact q
def DG (K:LO):Sp:=fun vs H Q _=>∃ (v:V) (n e:Nat) (t:List (List Nat)),vs=[v]/\At K H v t/\GT n t e/\Q (.int (e:Int)) H
def CL (T:Txt K mg):aH P w K mg base CX0 2 T.lA.f T.lA.fd ["rows"] (DG K):=by
 refine T.lA.ok tL (fun vs H Q E h=>?_) (fun cdv A outer s H vs Q E hr h=>?_)
 ·obtain ⟨v,n,e,t,rfl,_⟩:=h;rfl
 obtain ⟨v,n,e,t,rfl,hT,gt,q⟩:=h;refine ⟨_,(ae (a8 L7 rfl (a9 rfl T.bD (paF (az (aT K rfl) rfl T.bB Mf (paF (pv 0) aa)) aa)) (aJ (i:=1) tL.nd rfl (L8 rfl)) (af (aS (fX (aG T.iE (xp T) (hr.mono (by decide)) rfl (paF (pv 0) (paF (pv 1) aa)))) (af (aN (pv 1))) aE)))
   (af cY)),?_⟩
 right;refine cB hT ?_;right;have h1:=gt.len;have h3:=gt.le;rw [h1];refine bV (n:=n) rfl (by omega) (fun i σ H'=>H'=H/\i<=e/\∃ y,σ=[some v,y]) ⟨rfl,MI _,_,rfl⟩ ?_ ?_
 ·rintro i σ' H' hi ⟨rfl,hle,y,rfl⟩;right;refine ⟨v,n,i,t,rfl,hT,gt.toSq,hi,?_⟩;right;refine aU (fun c=>?_) (fun c=>?_)
  ·right;rw [(gt.sM hi).mp c];exact q
  ·right;refine ⟨rfl,?_,_,rfl⟩;have:i≠e:=fun z=>c ((gt.sM hi).mpr z);omega
 ·rintro σ' H' ⟨rfl,hle,y,rfl⟩;exact absurd gt.elt (by omega)
def C6 (K:LO):Sp:=fun vs H Q _=>∃ (v:V) (n e a:Nat) (t:List (List Nat)),vs=[v,.int (e:Int),.int (a:Int)]/\At K H v t/\GT n t e/\a<n/\Q (.int (bf n t e a:Int)) H
def BR (T:Txt K mg):aH P w K mg base CX0 1 T.lJ.f T.lJ.fd ["rows","unit","thing"] (C6 K):=by
 refine T.lJ.ok sJ (fun vs H Q E h=>?_) (fun cdv A outer s H vs Q E hr h=>?_)
 ·obtain ⟨v,n,e,a,t,rfl,_⟩:=h;rfl
 obtain ⟨v,n,e,a,t,rfl,hT,gt,ha,q⟩:=h;refine ⟨_,(ae (a8 L7 rfl (a9 rfl T.bD (paF (az (aT K rfl) rfl T.bB Mf (paF (pv 0) aa)) aa)) (aJ (i:=3) sJ.nd rfl (L8 rfl)) (af (aS (PW.pt (dB (ax bK (aw (ah K rfl) (aw (ah K rfl) (pv 0) (pv 2) (fun _ _=>rfl)) (pv 3) (fun _ _=>rfl)) (pv 1) (aB _)) (ee (ax bK (aw (ah K rfl) (aw (ah K rfl) (pv 0) (pv 3) (fun _ _=>rfl)) (pv 2) (fun _ _=>rfl)) (pv 1) (aB _))))) (af (aN (pv 3))) aE)))
   (af cY)),?_⟩
 right;refine cB hT ?_;right;have h1:=gt.len;have h3:=gt.le;rw [h1];refine bV (n:=n) rfl (by omega) (fun i σ H'=>H'=H/\(∀ o,o<i->¬ (tb t a o=e/\tb t o a=e))/\∃ y,σ=[some v,some (.int (e:Int)),some (.int (a:Int)),y]) ⟨rfl,fun o ho=>absurd ho (by omega),_,rfl⟩ ?_ ?_
 ·rintro i σ' H' hi ⟨rfl,hb,y,rfl⟩;have on:(¬ (tb t a i=e/\tb t i a=e))->∀ o,o<i+1->¬ (tb t a o=e/\tb t o a=e):=fun z o ho=>by
   rcases Mv o i with l|l
   ·exact hb o l
   ·have e':o=i:=by omega
    subst e';exact z
  right;refine cR hT rfl (gt.get ha) fun w1 hw1=>?_;right;refine gH hw1 rfl (gt.d4 ha hi) ?_;right;refine aU (fun c1=>?_) (fun c=>?_)
  ·right;refine cR hT rfl (gt.get hi) fun w2 hw2=>?_;right;refine gH hw2 rfl (gt.d4 hi ha) ?_;right;refine aU (fun c2=>?_) (fun c=>?_)
   ·right;rw [Jj hi ⟨by omega,by omega⟩ hb] at q
    exact q
   ·right;exact ⟨rfl,on fun z=>c (by rw [z.2]),_,rfl⟩
  ·refine fq ?_;right;exact ⟨rfl,on fun z=>c (by rw [z.1]),_,rfl⟩
 ·rintro σ' H' ⟨rfl,hb,y,rfl⟩;obtain ⟨b,hb',z⟩:=gt.back a ha;exact absurd z (hb b hb')
def AO (K:LO):Sp:=fun vs H Q _=>∃ (v:V) (n e:Nat) (t:List (List Nat)),vs=[v,.int (e:Int)]/\At K H v t/\GT n t e/\∀ d H',H d=none->aj H H'->Gr K H' d (bks n t e)->Q (.ref d) H'
def Au (T:Txt K mg):aH P w K mg base CX0 2 T.j7.f T.j7.fd ["rows","unit"] (AO K):=by
 refine T.j7.ok Am (fun vs H Q E h=>?_) (fun cdv A outer s H vs Q E hr h=>?_)
 ·obtain ⟨v,n,e,t,rfl,_⟩:=h;rfl
 obtain ⟨v,n,e,t,rfl,hT,gt,q⟩:=h;refine ⟨_,(af (aN (dU rfl nZ (a9 rfl T.bD (paF (az (aT K rfl) rfl T.bB Mf (paF (pv 0) aa)) aa)) (fun _ _ _ _=>⟨(aJ (i:=0) nZ.nd rfl (L8 rfl)),bZ,(aG T.lJ (BR T) (hr.mono (by decide)) rfl (paF (pv 1) (paF (pv 2) (paF (pv 0) aa))))⟩)))),?_⟩
 right;refine cB hT ?_;right;have h1:=gt.len;have h3:=gt.le;rw [h1];refine mJ K (n:=n) rfl (by omega) (fun i=>(bks n t e).take i) (fun σ'=>∃ y,σ'=[y,some v,some (.int (e:Int))]) rfl (fun i hi=>by rw [MF];omega) ⟨_,rfl⟩ ?_ ?_
 ·rintro i σ' H' d R R0 hi hs ⟨y,rfl⟩ hR hR0 hd;right;refine ⟨v,n,e,i,t,rfl,Rep.mono hs hT,gt,hi,?_⟩;exact hR _ _ (bf n t e i) _ ⟨_,rfl⟩ (aj.refl _) rfl (dk _ n i hi)
 ·intro d H' fd hs ha;have e1:(bks n t e).take n=bks n t e:=MU (by simp [bks])
  have ha':Gr K H' d ((bks n t e).take n):=ha;rw [e1] at ha';exact q d H' fd hs ha'
def qz (K:LO):Sp:=fun vs H Q _=>∃ (v:V) (n e:Nat) (t:List (List Nat)),vs=[v]/\At K H v t/\GT n t e/\Q .non H
def qD (T:Txt K mg):aH P w K mg base CX0 1 T.fv.f T.fv.fd ["rows"] (qz K):=by
 refine T.fv.ok dO (fun vs H Q E h=>?_) (fun cdv A outer s H vs Q E hr h=>?_)
 ·obtain ⟨v,n,e,t,rfl,_⟩:=h;rfl
 obtain ⟨v,n,e,t,rfl,hT,gt,q⟩:=h;refine ⟨_,(ae (av (i:=1) dO.nd rfl (L8 rfl) (az (aT K rfl) rfl T.bB Mf (paF (pv 0) aa)))
   (af (a8 L7 rfl (a9 rfl T.bD (paF (pv 1) aa)) (aJ (i:=2) dO.nd rfl (L8 rfl)) (af (a8 L7 rfl (a9 rfl T.bD (paF (pv 1) aa)) (aJ (i:=3) dO.nd rfl (L8 rfl)) (af (a8 L7 rfl (a9 rfl T.bD (paF (pv 1) aa)) (aJ (i:=4) dO.nd rfl (L8 rfl)) (af (aS (ax dQ (aw (ah K rfl) (aw (ah K rfl) (pv 0) (aw (ah K rfl) (aw (ah K rfl) (pv 0) (pv 2) (fun _ _=>rfl)) (pv 3) (fun _ _=>rfl)) (fun _ _=>rfl)) (pv 4) (fun _ _=>rfl)) (aw (ah K rfl) (aw (ah K rfl) (pv 0) (pv 2) (fun _ _=>rfl)) (aw (ah K rfl) (aw (ah K rfl) (pv 0) (pv 3) (fun _ _=>rfl)) (pv 4) (fun _ _=>rfl)) (fun _ _=>rfl)) (aB _)) (af cY) aE))))))))),?_⟩
 right;refine cB hT ?_;right;have h1:=gt.len;have h3:=gt.le;rw [h1];refine bV (n:=n) rfl (by omega) (fun i σ H'=>H'=H/\∃ x y z,σ=[some v,some (.int n),x,y,z]) ⟨rfl,_,_,_,rfl⟩ ?_ ?_
 ·rintro i σ' H' hi ⟨rfl,x,y,z,rfl⟩;right;refine bV (n:=n) rfl (by omega) (fun j σ H''=>H''=H'/\∃ y z,σ=[some v,some (.int n),some (.int (i:Int)),y,z]) ⟨rfl,_,_,rfl⟩ ?_ ?_
  ·rintro j σ'' H'' hj ⟨rfl,y,z,rfl⟩;right;refine bV (n:=n) rfl (by omega) (fun k σ H3=>H3=H''/\∃ z,σ=[some v,some (.int n),some (.int (i:Int)),some (.int (j:Int)),z]) ⟨rfl,_,rfl⟩ ?_ ?_
   ·rintro k σ3 H3 hk ⟨rfl,z,rfl⟩;have hij:=gt.lt i j hi hj;have hjk:=gt.lt j k hj hk;right;refine cR hT rfl (gt.get hi) fun w1 hw1=>?_;right;refine gH hw1 rfl (gt.d4 hi hj) ?_;refine cR hT rfl (gt.get hij) fun w2 hw2=>?_;right;refine gH hw2 rfl (gt.d4 hij hk) ?_;right;refine cR hT rfl (gt.get hi) fun w3 hw3=>?_;right;refine cR hT rfl (gt.get hj) fun w4 hw4=>?_;right;refine gH hw4 rfl (gt.d4 hj hk) ?_;refine gH hw3 rfl (gt.d4 hi hjk) ?_;right;refine bH (fun c=>absurd (by rw [gt.assoc i j k hi hj hk]) c) (fun _=>?_)
    right;exact ⟨rfl,_,rfl⟩
   ·rintro σ3 H3 ⟨rfl,z,rfl⟩;exact ⟨rfl,_,_,rfl⟩
  ·rintro σ'' H'' ⟨rfl,y,z,rfl⟩;exact ⟨rfl,_,_,_,rfl⟩
 ·rintro σ' H' ⟨rfl,x,y,z,rfl⟩;exact q
def gfs (n:Int) (r e b:V):List (Str×V):=[("many",.int n),("rows",r),("unit",e),("backs",b)]
def FW (n:Int) (r e b:V):(gfs n r e b).lookup ("many" : Str)=some (.int n):=rfl
def zh (n:Int) (r e b:V):(gfs n r e b).lookup ("rows" : Str)=some r:=rfl
def yr (n:Int) (r e b:V):(gfs n r e b).lookup ("unit" : Str)=some e:=rfl
def E4 (n:Int) (r e b:V):(gfs n r e b).lookup ("backs" : Str)=some b:=rfl
def aX (C:Addr) (H:Hp) (g:Addr) (n:Nat) (t:List (List Nat)) (e:Nat):Prop :=
 ∃ dx r b ps,H g=some (.ins C dx (gfs n (.ref r) (.int (e:Int)) (.ref b)))/\Tbl H r t ps/\H b=some (.lst (aO (bks n t e)))
def aX.mono {C:Addr} {H H':Hp} {g n e:Nat} {t:List (List Nat)} (s:aj H H') (h:aX C H g n t e):aX C H' g n t e:=by
 obtain ⟨dx,r,b,ps,h1,h2,h3⟩:=h;exact ⟨dx,r,b,ps,s _ _ h1,h2.mono s,s _ _ h3⟩
def eE {H:Hp} {b:Addr} {l:List Nat} (h:H b=some (.lst (aO l))):At K H (.ref b) l:=⟨b,_,rfl,SqL.of h,fG⟩
def jC {H:Hp} {d:Addr} {l:List Nat} (h:Gr K H d l):H d=some (.lst (aO l)):=by
 obtain ⟨ys,hy,hP⟩:=h;have e:ys=aO l:=by
  unfold aO
  clear hy
  induction hP with
  | nil=>rfl
  | cons r _ ih=>rw [Mz,<- ih];exact congrArg (· :: _) r
 rw [<- e];exact hy
def aX.get {C:Addr} {H:Hp} {g n e:Nat} {t:List (List Nat)} (h:aX C H g n t e):∃ dx r b,H g=some (.ins C dx (gfs n (.ref r) (.int (e:Int)) (.ref b)))/\At K H (.ref r) t/\At K H (.ref b) (bks n t e):=by
 obtain ⟨dx,r,b,ps,h1,h2,h3⟩:=h;exact ⟨dx,r,b,h1,h2.at,eE h3⟩
def uK {n:Nat} {t:List (List Nat)} {e a:Nat} (h:a<n):(bks n t e)[a]?=some (bf n t e a):=by
 unfold bks;simp [h]
section
variable (T:Txt K mg) {H:Hp} {g dx:Addr} {n:Int} {r e b:V} {Q:VK} (hg:H g=some (.ins T.aI dx (gfs n r e b)))
include hg
def cc (q:Q (.int n) H):isF K "many" (.ref g) H Q:=⟨g,T.aI,dx,_,_,rfl,hg,T.fH,T.oS,FW _ _ _ _,q⟩
def cb (q:Q r H):isF K "rows" (.ref g) H Q:=⟨g,T.aI,dx,_,_,rfl,hg,T.fH,T.kL,zh _ _ _ _,q⟩
def cf (q:Q e H):isF K "unit" (.ref g) H Q:=⟨g,T.aI,dx,_,_,rfl,hg,T.fH,T.kE,yr _ _ _ _,q⟩
def bN (q:Q b H):isF K "backs" (.ref g) H Q:=⟨g,T.aI,dx,_,_,rfl,hg,T.fH,T.n5,E4 _ _ _ _,q⟩
end
def F9 (C:Addr) (K:LO):Sp:=fun vs H Q _=>∃ (p dx:Addr) (r e b:V) (t:List (List Nat)),vs=[.ref p,r,e,b]/\H p=some (.ins C dx [])/\At K H r t /\
 ∀ H',H' p=some (.ins C dx (gfs t.length r e b))->(∀ a o,H a=some o->a≠p->H' a=some o)->Q .non H'
def GS (T:Txt K mg):aH P w K mg base CX0 1 T.uF T.uW ["self","rows","unit","backs"] (F9 T.aI K):=by
 refine T.IJ.ok wI (fun vs H Q E h=>?_) (fun cdv A outer s H vs Q E hr h=>?_)
 ·obtain ⟨p,dx,r,e,b,t,rfl,_⟩:=h;rfl
 obtain ⟨p,dx,r,e,b,t,rfl,hp,hT,k⟩:=h;refine ⟨_,(ae (qw K rfl (pv 0) (az (aT K rfl) rfl T.bB Mf (paF (pv 1) aa)) rfl)
   (ae (qw K rfl (pv 0) (pv 1) rfl)
   (ae (qw K rfl (pv 0) (pv 2) rfl)
   (af (qw K rfl (pv 0) (pv 3) rfl))))),?_⟩
 right;refine cB hT ?_;right;refine ⟨p,T.aI,dx,_,rfl,hp,T.fH,T.oS,(by show 0<1000;decide),?_⟩
 right;refine ⟨p,T.aI,dx,_,rfl,ar,T.fH,T.kL,(by show 1<1000;decide),?_⟩
 right;refine ⟨p,T.aI,dx,_,rfl,ar,T.fH,T.kE,(by show 2<1000;decide),?_⟩
 right;refine ⟨p,T.aI,dx,_,rfl,ar,T.fH,T.n5,(by show 3<1000;decide),?_⟩
 refine k _ ar fun a o ha hne=>?_;rw [aA hne,aA hne,aA hne,aA hne];exact ha
def Al (C:Addr) (K:LO):Sp:=fun vs H Q _=>∃ (v:V) (n e:Nat) (t:List (List Nat)),vs=[v]/\At K H v t/\GT n t e/\∀ g H',H g=none->aj H H'->aX C (since H H') g n t e->Q (.ref g) H'
def AM (T:Txt K mg):aH P w K mg base CX0 3 T.kf.f T.kf.fd ["table"] (Al T.aI K):=by
 refine T.kf.ok jv (fun vs H Q E h=>?_) (fun cdv A outer s H vs Q E hr h=>?_)
 ·obtain ⟨v,n,e,t,rfl,_⟩:=h;rfl
 obtain ⟨v,n,e,t,rfl,hT,gt,k⟩:=h;refine ⟨_,(ae (dR (i:=1) rfl jv.nd rfl (L8 rfl) oa (aY K rfl (pv 0)) (fun _ _ _ _=>⟨(aJ (i:=0) oa.nd rfl (L8 rfl)),bZ,(dz (iP K rfl) rfl T.kJ NQ (paF (pv 0) aa))⟩) rfl)
   (ae (a7 (aG T.iL (wJ T) (hr.mono (by decide)) rfl (paF (pv 1) aa)))
   (ae (a7 (aG T.eR (oW T) (hr.mono (by decide)) rfl (paF (pv 1) aa)))
   (ae (av (i:=2) jv.nd rfl (L8 rfl) (aG T.lA (CL T) (hr.mono (by decide)) rfl (paF (pv 1) aa)))
   (ae (av (i:=3) jv.nd rfl (L8 rfl) (aG T.j7 (Au T) (hr.mono (by decide)) rfl (paF (pv 1) (paF (pv 2) aa))))
   (ae (a7 (aG T.fv (qD T) (hr.mono (by decide)) rfl (paF (pv 1) aa)))
   (af (aN (Fz T.IV (GS T) (hr.mono (by decide)) rfl T.IS T.Ja .nil Dk (paF (pv 1) (paF (pv 2) (paF (pv 3) aa)))))))))))),?_⟩
 have h1:=gt.len;have h3:=gt.le;right;refine ng hT (by omega) fun d H1 ps s1 fd fps tb1=>?_
 have hd':At K H1 (.ref d) t:=tb1.at;right;refine ⟨_,n,t,rfl,hd',gt.toSq,?_⟩;right;refine ⟨_,n,t,rfl,hd',gt.toGd,?_⟩;right;refine ⟨_,n,e,t,rfl,hd',gt,?_⟩;right;refine ⟨_,n,e,t,rfl,hd',gt,fun b H2 fb s2 hb=>?_⟩;right;refine ⟨_,n,e,t,rfl,Rep.mono s2 hd',gt,?_⟩;right;intro x dx hx hdx hne;have s3:aj H2 (upd (upd H2 dx (.own x)) x (.ins T.aI dx [])):=fun b' o z=>by
  rw [aA (aQ z hx),aA (aQ z hdx)];exact z
 refine ⟨x,dx,_,_,_,t,rfl,ar,Rep.mono s3 (Rep.mono s2 hd'),fun H4 h4 k4=>⟨rfl,?_⟩⟩;have s4:aj H2 H4:=fun b' o z=>k4 b' o (s3 b' o z) (aQ z hx);have fx:H x=none:=(s1.trans s2).free hx;refine k x H4 fx (s1.trans (s2.trans s4)) ⟨dx,d,b,ps,?_,(tb1.mono (s2.trans s4)).since fd fps,?_⟩
 ·rw [mM fx,h4,h1]
 ·rw [mM (s1.free fb)];exact s4 _ _ (jC hb)
def Dv (C:Addr) (K:LO):Sp:=fun vs H Q _=>∃ (g:Addr) (v:V) (n e:Nat) (t:List (List Nat)) (l:List Nat),vs=[.ref g,v]/\aX C H g n t e/\GT n t e/\At K H v l/\(∀ x∈l,x<n)/\Q (.int (prd t e l:Int)) H
def nq (T:Txt K mg):aH P w K mg base CX0 1 T.ic.f T.ic.fd ["group","things"] (Dv T.aI K):=by
 refine T.ic.ok jZ (fun vs H Q E h=>?_) (fun cdv A outer s H vs Q E hr h=>?_)
 ·obtain ⟨g,v,n,e,t,l,rfl,_⟩:=h;rfl
 obtain ⟨g,v,n,e,t,l,rfl,hG,gt,hl,hx,q⟩:=h;obtain ⟨dx,r,b,hg,hT,hb⟩:=hG.get (K:=K);refine ⟨_,(ae (av (i:=2) jZ.nd rfl (L8 rfl) (cM K rfl (pv 0) rfl))
   (ae (a8 L7 rfl (aY K rfl (pv 1)) (aJ (i:=3) jZ.nd rfl (L8 rfl)) (af (av (i:=2) jZ.nd rfl (L8 rfl) (aw (ah K rfl) (aw (ah K rfl) (cM K rfl (pv 0) rfl) (pv 2) (fun _ _=>rfl)) (pv 3) (fun _ _=>rfl)))))
   (af (aN (pv 2))))),?_⟩
 right;refine ⟨g,T.aI,dx,_,_,rfl,hg,T.fH,T.kE,yr _ _ _ _,?_⟩;right;refine dE hl (fun i σ H'=>H'=H/\∃ x,σ=[some (.ref g),some v,some (.int (prd t e (l.take i):Int)),x]) ⟨rfl,_,rfl⟩ (fun i σ H' h=>by rw [h.1];exact aj.refl _) ?_ ?_
 ·rintro i c w' σ' H' hc hw ⟨rfl,x,rfl⟩;have hc':c<n:=hx c (LS hc);have hp:prd t e (l.take i)<n:=gt.Fj gt.elt fun y hy=>hx y (Py hy);cases (show w'=V.int (c:Int) from hw);right;refine ⟨g,T.aI,dx,_,_,rfl,hg,T.fH,T.kL,zh _ _ _ _,?_⟩;right;refine cR hT rfl (gt.get hp) fun w1 hw1=>?_;right;refine gH hw1 rfl (gt.d4 hp hc') ?_;right;refine ⟨rfl,some (.int (c:Int)),?_⟩;rw [FZ hc];rfl
 ·rintro σ' H' ⟨rfl,x,rfl⟩;right;rw [MJ];exact q
end
def dy (ns:List Int) (k:Nat):Nat:=match ns[k]? with
 | some x=>(x % 2147483647).toNat
 | none=>0
def rJ (ns:List Int) (k:Nat):dy ns k<2147483647:=by
 unfold dy
 split
 ·rename_i x _
  have:=Int.emod_lt_of_pos x (show (0:Int)<2147483647 by decide)
  have:=QT x (show (2147483647:Int)≠0 by decide)
  omega
 ·decide
structure gf (a b c s:Nat):Prop where
 a1:1<=a
 b1:1<=b
 c1:1<=c
 s1:1<=s
 s4:s<=4
 le:a * b * c * s<=23
def szL (l:List Nat):Bool:=match l with
 | [a,b,c,s]=>decide (1<=a/\1<=b/\1<=c/\1<=s/\s<=4/\a * b * c * s<=23)
 | _=>false
def Kj {l:List Nat} (h:szL l=true):∃ a b c s,l=[a,b,c,s]/\gf a b c s:=by
 match l,h with
 | [a,b,c,s],h =>
  have h':=of_decide_eq_true h;exact ⟨a,b,c,s,rfl,h'.1,h'.2.1,h'.2.2.1,h'.2.2.2.1,h'.2.2.2.2.1,h'.2.2.2.2.2⟩
def iZ {x y:Nat} (h:1<=y):x<=x * y:=by
 have:=Nn x h;omega
def gf.ab {a b c s:Nat} (h:gf a b c s):a * b<=23:=by
 have h1:=h.le;have h2:a * b<=a * b * c:=iZ h.c1;have h3:a * b * c<=a * b * c * s:=iZ h.s1;omega
def gf.abc {a b c s:Nat} (h:gf a b c s):a * b * c<=23:=by
 have h1:=h.le;have h3:a * b * c<=a * b * c * s:=iZ h.s1;omega
def gf.a23 {a b c s:Nat} (h:gf a b c s):a<=23:=by
 have h1:=h.ab;have h2:a<=a * b:=iZ h.b1;omega
def gf.b23 {a b c s:Nat} (h:gf a b c s):b<=23:=by
 have h1:=h.ab;have h2:b<=b * a:=iZ h.a1;rw [Ow] at h2;omega
def gf.c23 {a b c s:Nat} (h:gf a b c s):c<=23:=by
 have h1:=h.abc;have h2:c<=c * (a * b):=iZ (Oc h.a1 h.b1);rw [Ow] at h2;omega
def IC:GA.all szL=true:=by decide
def Ip:∀ k,k<4->6<=([8,12,6,23]:List Nat).getD k 0/\([8,12,6,23]:List Nat).getD k 0<=23:=by decide
def Hb:∀ k,k<6->1<=([2,1,2,3,2,4]:List Nat).getD k 0/\([2,1,2,3,2,4]:List Nat).getD k 0<=4:=by decide
def G6:∀ k,k<3->0<([12,276,6348]:List Nat).getD k 0/\([12,276,6348]:List Nat).getD k 0<1073741824:=by decide
def Li {fi se th st room top:Nat} (h1:1<=fi) (h2:1<=se) (h3:1<=th) (h4:1<=st) (h5:st<=4) (hfs:0<fi * se) (ht:th<=room / (fi * se)) (hr:room * st<=top) (h23:top<=23):gf fi se th st:=by
 refine ⟨h1,h2,h3,h4,h5,?_⟩;have e1:fi * se * th<=room:=M7 (Nn _ ht) (Nat.mul_div_le room (fi * se));have e2:fi * se * th * st<=room * st:=Pz _ e1;omega
section
variable {P:Mi} {w:World} {K:LO} {mg:Str->Option Value} {base:Heap}
def Ad (K:LO):Sp:=fun vs H Q _=>∃ (v:V) (ns:List Int) (k:Nat),vs=[v,.int (k:Int)]/\At K H v ns/\Q (.int (dy ns k:Int)) H
def cW (T:Txt K mg):aH P w K mg base CX0 1 T.cu.f T.cu.fd ["_law_script","_law_k"] (Ad K):=by
 refine T.cu.ok As (fun vs H Q E h=>?_) (fun cdv A outer s H vs Q E hr h=>?_)
 ·obtain ⟨v,ns,k,rfl,_⟩:=h;rfl
 obtain ⟨v,ns,k,rfl,hA,q⟩:=h;refine ⟨_,(ae (aS (ax eF (pv 1) (az (aT K rfl) rfl T.bB Mf (paF (pv 0) aa)) (aB _)) (af (aN (au aV (aw (ah K rfl) (pv 0) (pv 1) (fun _ _=>rfl)) ag))) aE)
   (af (aN ag))),?_⟩
 right;refine cB hA ?_;right;refine aU (fun c=>?_) (fun c=>?_)
 ·have hk:k<ns.length:=by omega
  right;refine jR (n:=k) hA rfl (LP hk) ?_;right;refine rX (show (0:Int)<2147483647 by decide) ?_
  unfold dy at q;rw [LP hk] at q;have:=QT ns[k] (show (2147483647:Int)≠0 by decide)
  dsimp only at q;rw [Tg this] at q;exact q
 ·have hk:¬ k<ns.length:=by omega
  right;unfold dy at q;rw [MM (by omega)] at q
  exact q
def zf (K:LO):Sp:=fun vs H Q _=>∃ one two:Nat,vs=[.int (one:Int),.int (two:Int)]/\∀ v H' a b c s,aj H H'->gf a b c s->At K H' v [a,b,c,s]->Q v H'
def zD (T:Txt K mg):aH P w K mg base CX0 1 T.jm.f T.jm.fd ["_law_one","_law_two"] (zf K):=by
 refine T.jm.ok cI (fun vs H Q E h=>?_) (fun cdv A outer s H vs Q E hr h=>?_)
 ·obtain ⟨one,two,rfl,_⟩:=h;rfl
 obtain ⟨one,two,rfl,q⟩:=h;refine ⟨_,(ae (av (i:=2) cI.nd rfl (L8 rfl) (au bq (pv 0) ag))
   (ae (aS (ax bK (au aV (pv 0) ag) ag (aB _)) (ae (av (i:=3) cI.nd rfl (L8 rfl) (aW (y7 [[2,2,1,3],[7,1,1,3],[5,1,1,4],[4,2,1,2],[3,3,1,2],[8,1,1,2]] (by trivial)).out))
   (ae (av (i:=3) cI.nd rfl (L8 rfl) (au kD (pv 3) (aW (y7 [[4,1,1,2],[2,2,2,2],[3,1,1,4],[2,2,1,2],[5,1,1,2],[9,1,1,2]] (by trivial)).out)))
   (af (aN (aw (ah K rfl) (pv 3) (au aV (pv 2) ag) (fun _ _=>rfl)))))) aE)
   (ae (av (i:=4) cI.nd rfl (L8 rfl) (aw (ah K rfl) (aW (m7 [8,12,6,23] (by trivial)).out) (au aV (pv 2) ag) (fun _ _=>rfl)))
   (ae (av (i:=5) cI.nd rfl (L8 rfl) (aw (ah K rfl) (aW (m7 [2,1,2,3,2,4] (by trivial)).out) (au aV (au bq (pv 2) ag) ag) (fun _ _=>rfl)))
   (ae (av (i:=6) cI.nd rfl (L8 rfl) (au bq (pv 4) (pv 5)))
   (ae (av (i:=7) cI.nd rfl (L8 rfl) (au bj ag (au aV (au bq (pv 2) ag) (pv 6))))
   (ae (av (i:=8) cI.nd rfl (L8 rfl) (au bj ag (au aV (pv 1) (au bq (pv 6) (pv 7)))))
   (ae (av (i:=9) cI.nd rfl (L8 rfl) (au bj ag (au aV (au bq (pv 1) ag) (au bq (pv 6) (au bS (pv 7) (pv 8))))))
   (af (aN (aW (paF (pv 7) (paF (pv 8) (paF (pv 9) (paF (pv 5) aa))))))))))))))),?_⟩
 walk_at "rx";generalize one / 3=num;walk_at "ifs";walk_at "rx";refine aU (fun _=>?_) (fun _=>?_)
 ·walk_at "rx";refine dZ (K:=K) (l:=([[2,2,1,3],[7,1,1,3],[5,1,1,4],[4,2,1,2],[3,3,1,2],[8,1,1,2]]:List (List Nat))) (u6 _ (by decide)) (by decide) fun d1 H1 f1 s1 g1=>?_
  walk_at "rx";refine dZ (K:=K) (l:=([[4,1,1,2],[2,2,2,2],[3,1,1,4],[2,2,1,2],[5,1,1,2],[9,1,1,2]]:List (List Nat))) (u6 _ (by decide)) (by decide) fun d2 H2 f2 s2 g2=>?_
  refine La (g1.mono s2).copy g2.copy (by decide) fun d3 H3 f3 s3 a3=>?_
  have a3':At K H3 (.ref d3) GA:=a3;walk_at "rx";have hm:num % 12<GA.length:=Mw _ (by decide)
  refine cR (n:=num % 12) a3' rfl (getD_some [] hm) fun w hw=>?_;obtain ⟨a,b,c,s,e,ok⟩:=Kj (MA.mp IC _ (LS (getD_some [] hm)));rw [e] at hw;exact q w H3 a b c s (s1.trans (s2.trans s3)) ok hw
 ·walk_at "rx";refine dZ (K:=K) (l:=([8,12,6,23]:List Nat)) (ky _) (by decide) fun d1 H1 f1 s1 g1=>?_
  walk_at "rx";have hm4:num % 4<4:=Mw _ (by decide)
  refine bM g1.at (getD_some 0 (show num % 4<([8,12,6,23]:List Nat).length from hm4)) ?_;obtain ⟨h6,h23⟩:=Ip (num % 4) hm4;generalize ([8,12,6,23]:List Nat).getD (num % 4) 0=top at h6 h23 ⊢;walk_at "rx";refine dZ (K:=K) (l:=([2,1,2,3,2,4]:List Nat)) (ky _) (by decide) fun d2 H2 f2 s2 g2=>?_
  walk_at "rx";have hm6:num / 4 % 6<6:=Mw _ (by decide)
  refine bM g2.at (getD_some 0 (show num / 4 % 6<([2,1,2,3,2,4]:List Nat).length from hm6)) ?_;obtain ⟨t1,t4⟩:=Hb (num / 4 % 6) hm6;generalize ([2,1,2,3,2,4]:List Nat).getD (num / 4 % 6) 0=st at t1 t4 ⊢;walk_at "rx";have hroom:0<top / st:=Th (by omega) (by omega)
  have hrs:top / st * st<=top:=Nat.div_mul_le_self _ _;generalize top / st=room at hroom hrs ⊢;have hr23:room<=23:=by
   have:=Qd room (show 0<st by omega)
   omega
  walk_at "rx";have hf:1+num / 24 % room<=room:=by
   have:=Mw (num / 24) hroom;omega
  have hf1:1<=1+num / 24 % room:=by omega
  generalize 1+num / 24 % room=fi at hf hf1 ⊢;walk_at "rx";have h2:0<room / fi:=Th hf hf1;refine sF h2 ?_;walk_at "rx";have hse:1+two % (room / fi)<=room / fi:=by
   have:=Mw two h2;omega
  have hse1:1<=1+two % (room / fi):=by omega
  generalize 1+two % (room / fi)=se at hse hse1 ⊢;have hfs:fi * se<=room:=M7 (Nn _ hse) (Nat.mul_div_le room fi);have hfs1:0<fi * se:=Oc hf1 hse1;walk_at "rx";have h3:0<room / (fi * se):=Th hfs hfs1;refine sF h3 ?_;walk_at "rx";have hth:1+two / 23 % (room / (fi * se))<=room / (fi * se):=by
   have:=Mw (two / 23) h3;omega
  have hth1:1<=1+two / 23 % (room / (fi * se)):=by omega
  generalize 1+two / 23 % (room / (fi * se))=th at hth hth1 ⊢;refine bo ?_;walk_at "rx";refine ⟨small (by show 4<=1000;decide),fun p hp=>q _ _ fi se th st (s1.trans (s2.trans (ay hp _))) (Li hf1 hse1 hth1 t1 t4 hfs1 hth hrs h23) ?_⟩
  exact ⟨p,_,rfl,SqL.of ar,.cons rfl (.cons rfl (.cons rfl (.cons rfl .nil)))⟩
def KJ (K:LO) (H:Hp) (v:V) (x a b s:Nat) (d:Addr) (n:Nat):St->Hp->Prop:=fun σ' H'=>σ'=[some v,some (.int (x:Int)),some (.ref d)]/\aj H H'/\∃ l:List Nat,Gr K H' d l/\l≠[]/\l.length<=n/\∀ k∈l,k<5/\eI a b s k=true
def KJ.put {H H':Hp} {v:V} {x a b s n k:Nat} {d:Addr} {σ':St} {N:St->Hp->Prop} (hd:H d=none) (hn:n<=1000) (h:KJ K H v x a b s d n σ' H') (h5:k<5) (hk:eI a b s k=true) (hN:∀ H'',KJ K H v x a b s d (n+1) σ' H''->N σ' H'') :
  qk (.ref d) [.int (k:Int)] H' fun _ H1=>N σ' H1:=by
 obtain ⟨e,s1,l,g,ne,ll,hl⟩:=h;refine fU (b:=k) g (by omega) rfl fun H3 g3 k3 _=>hN H3 ⟨e,aj.but hd s1 k3,_,g3,by simp,by rw [Mr];simp;omega,fun y hy=>?_⟩
 rcases Mc.mp hy with z|z
 ·exact hl y z
 ·rw [LZ.mp z];exact ⟨h5,hk⟩
def KJ.skip {H H':Hp} {v:V} {x a b s n:Nat} {d:Addr} {σ':St} (h:KJ K H v x a b s d n σ' H'):KJ K H v x a b s d (n+1) σ' H':=by
 obtain ⟨e,s1,l,g,ne,ll,hl⟩:=h;exact ⟨e,s1,l,g,ne,by omega,hl⟩
def KJ.ty {H H':Hp} {v:V} {x a b s n:Nat} {d:Addr} {σ':St} (h:KJ K H v x a b s d n σ' H'):tyV K "list" (.ref d) H':=by
 obtain ⟨e,s1,l,g,_⟩:=h;exact g.ty
def Lu {a b s:Nat} (h1:a=b) (h2:s % 2=0):eI a b s 1=true:=by subst h1;simp [eI,h2]
def Lq {a b s:Nat} (h1:a=b) (h2:s % 3=0):eI a b s 2=true:=by subst h1;simp [eI,h2]
def K2 {a b s:Nat} (h1:a % b=0) (h2:1<b) (h3:s % b=0):eI a b s 3=true:=by simp [eI,h1,h2,h3]
def Lh {a b s:Nat} (h1:a % 2=0) (h2:b % 2=0) (h3:s % 2=0):eI a b s 4=true:=by simp [eI,h1,h2,h3]
def AL (K:LO):Sp:=fun vs H Q _=>∃ (v:V) (x a b c s:Nat),vs=[v,.int (x:Int)]/\gf a b c s/\At K H v [a,b,c,s]/\∀ k H',aj H H'->k<5->eI a b s k=true->Q (.int (k:Int)) H'
def AY (T:Txt K mg):aH P w K mg base CX0 1 T.jS.f T.jS.fd ["_law_sizes_here","_law_number"] (AL K):=by
 refine T.jS.ok qQ (fun vs H Q E h=>?_) (fun cdv A outer s H vs Q E hr h=>?_)
 ·obtain ⟨v,x,a,b,c,s,rfl,_⟩:=h;rfl
 obtain ⟨v,x,a,b,c,s,rfl,sz,hS,q⟩:=h;refine ⟨_,(ae (av (i:=2) qQ.nd rfl (L8 rfl) (aW (paF ag aa)))
   (ae (aS (PW.pt (dB (ax bK (aw (ah K rfl) (pv 0) ag (fun _ _=>rfl)) (aw (ah K rfl) (pv 0) ag (fun _ _=>rfl)) (aB _)) (ee (ax bK (au aV (aw (ah K rfl) (pv 0) ag (fun _ _=>rfl)) ag) ag (aB _))))) (af (a7 (cO K rfl Mj MK ML cC (pv 2) (paF ag aa)))) aE)
   (ae (aS (PW.pt (dB (ax bK (aw (ah K rfl) (pv 0) ag (fun _ _=>rfl)) (aw (ah K rfl) (pv 0) ag (fun _ _=>rfl)) (aB _)) (ee (ax bK (au aV (aw (ah K rfl) (pv 0) ag (fun _ _=>rfl)) ag) ag (aB _))))) (af (a7 (cO K rfl Mj MK ML cC (pv 2) (paF ag aa)))) aE)
   (ae (aS (PW.pt (dB (ax bK (au aV (aw (ah K rfl) (pv 0) ag (fun _ _=>rfl)) (aw (ah K rfl) (pv 0) ag (fun _ _=>rfl))) ag (aB _)) (dB (ax fP (aw (ah K rfl) (pv 0) ag (fun _ _=>rfl)) ag (aB _)) (ee (ax bK (au aV (aw (ah K rfl) (pv 0) ag (fun _ _=>rfl)) (aw (ah K rfl) (pv 0) ag (fun _ _=>rfl))) ag (aB _)))))) (af (a7 (cO K rfl Mj MK ML cC (pv 2) (paF ag aa)))) aE)
   (ae (aS (PW.pt (dB (ax bK (au aV (aw (ah K rfl) (pv 0) ag (fun _ _=>rfl)) ag) ag (aB _)) (dB (ax bK (au aV (aw (ah K rfl) (pv 0) ag (fun _ _=>rfl)) ag) ag (aB _)) (ee (ax bK (au aV (aw (ah K rfl) (pv 0) ag (fun _ _=>rfl)) ag) ag (aB _)))))) (af (a7 (cO K rfl Mj MK ML cC (pv 2) (paF ag aa)))) aE)
   (af (aN (aw (ah K rfl) (pv 2) (au aV (pv 1) (az (aT K rfl) rfl T.bB Mf (paF (pv 2) aa))) (fun _ _=>rfl))))))))),?_⟩
 have b1:=sz.b1;walk_at "rx";refine dZ (K:=K) (l:=([0]:List Nat)) (by walk_at "wr") (by decide) fun d H1 f1 s1 g1=>?_
 have j1:KJ K H v x a b s d 1 [some v,some (.int (x:Int)),some (.ref d)] H1:=⟨rfl,s1,_,g1,by simp,by simp,fun k hk=>by rw [LZ.mp hk];exact ⟨by decide,rfl⟩⟩
 have hS1:=Rep.mono s1 hS;walk_at "rx";refine dG (KJ K H v x a b s d 2) (fun N hN=>?_) ?_
 ·walk_at "rx";refine aU (fun c1=>?_) (fun _=>?_)
  ·walk_at "rx";refine aU (fun c2=>?_) (fun _=>?_)
   ·walk_at "rx";refine ⟨j1.ty,?_⟩;walk_at "rx";exact KJ.put f1 (by decide) j1 (by decide) (Lu c1 c2) fun H2 z=>hN _ _ z
   ·walk_at "rx";exact hN _ _ j1.skip
  ·walk_at "8";exact hN _ _ j1.skip
 rintro σ2 H2 j2;obtain ⟨rfl,s2,z2⟩:=id j2;have hS2:=Rep.mono s2 hS;walk_at "rx";refine dG (KJ K H v x a b s d 3) (fun N hN=>?_) ?_
 ·walk_at "rx";refine aU (fun c1=>?_) (fun _=>?_)
  ·walk_at "rx";refine aU (fun c2=>?_) (fun _=>?_)
   ·walk_at "rx";refine ⟨j2.ty,?_⟩;walk_at "rx";exact KJ.put f1 (by decide) j2 (by decide) (Lq c1 c2) fun H2 z=>hN _ _ z
   ·walk_at "rx";exact hN _ _ j2.skip
  ·walk_at "8";exact hN _ _ j2.skip
 rintro σ3 H3 j3;obtain ⟨rfl,s3,z3⟩:=id j3;have hS3:=Rep.mono s3 hS;walk_at "rx";refine dG (KJ K H v x a b s d 4) (fun N hN=>?_) ?_
 ·walk_at "rx";refine aU (fun c1=>?_) (fun _=>?_)
  ·walk_at "rx";refine aU (fun c2=>?_) (fun _=>?_)
   ·walk_at "rx";refine aU (fun c3=>?_) (fun _=>?_)
    ·walk_at "rx";refine ⟨j3.ty,?_⟩;walk_at "rx";exact KJ.put f1 (by decide) j3 (by decide) (K2 c1 c2 c3) fun H2 z=>hN _ _ z
    ·walk_at "rx";exact hN _ _ j3.skip
   ·walk_at "8";exact hN _ _ j3.skip
  ·walk_at "8";exact hN _ _ j3.skip
 rintro σ4 H4 j4;obtain ⟨rfl,s4,z4⟩:=id j4;have hS4:=Rep.mono s4 hS;walk_at "rx";refine dG (KJ K H v x a b s d 5) (fun N hN=>?_) ?_
 ·walk_at "rx";refine aU (fun c1=>?_) (fun _=>?_)
  ·walk_at "rx";refine aU (fun c2=>?_) (fun _=>?_)
   ·walk_at "rx";refine aU (fun c3=>?_) (fun _=>?_)
    ·walk_at "rx";refine ⟨j4.ty,?_⟩;walk_at "rx";exact KJ.put f1 (by decide) j4 (by decide) (Lh c1 c2 c3) fun H2 z=>hN _ _ z
    ·walk_at "rx";exact hN _ _ j4.skip
   ·walk_at "8";exact hN _ _ j4.skip
  ·walk_at "8";exact hN _ _ j4.skip
 rintro σ5 H5 ⟨rfl,s5,l,g5,ne,ll,hl⟩;have ha5:=g5.at;have hl0:0<l.length:=M9.mpr ne;walk_at "rx";have hm:x % l.length<l.length:=Mw _ hl0;refine bM ha5 (getD_some 0 hm) ?_;have hk:=hl _ (LS (getD_some 0 hm));exact q _ H5 s5 hk.1 hk.2
def AF (K:LO):Sp:=fun vs H Q _=>∃ m s x:Nat,vs=[.int (m:Int),.int (s:Int),.int (x:Int)]/\1<=m/\m<=23/\1<=s/\s<=4/\∀ u H',aj H H'->u∈unitsOf m s->Q (.int (u:Int)) H'
def AE (T:Txt K mg):aH P w K mg base CX0 1 T.j6.f T.j6.fd ["_law_many","_law_steps","_law_number"] (AF K):=by
 refine T.j6.ok eP (fun vs H Q E h=>?_) (fun cdv A outer s H vs Q E hr h=>?_)
 ·obtain ⟨m,s,x,rfl,_⟩:=h;rfl
 obtain ⟨m,s,x,rfl,m1,m23,s1,s4,q⟩:=h;refine ⟨_,(ae (av (i:=3) eP.nd rfl (L8 rfl) (aW aa))
   (ae (a8 L7 rfl (a9 rfl T.bD (paF (pv 0) aa)) (aJ (i:=4) eP.nd rfl (L8 rfl)) (ae (av (i:=5) eP.nd rfl (L8 rfl) ag)
   (ae (a8 L7 rfl (a9 rfl T.bD (paF (pv 1) aa)) (aJ (i:=6) eP.nd rfl (L8 rfl)) (af (av (i:=5) eP.nd rfl (L8 rfl) (au aV (au bS (pv 5) (pv 4)) (pv 0)))))
   (af (aS (ax bK (pv 5) (au aV ag (pv 0)) (aB _)) (af (a7 (cO K rfl Mj MK ML cC (pv 3) (paF (pv 4) aa)))) aE)))))
   (ae (aS (PW.pt (dB (ax fP (au bS (pv 0) (pv 1)) ag (aB _)) (ee (ax fP (az (aT K rfl) rfl T.bB Mf (paF (pv 3) aa)) ag (aB _))))) (af (av (i:=3) eP.nd rfl (L8 rfl) (rT (rH K rfl) (pv 3) (ux ag) uk))) aE)
   (af (aN (aw (ah K rfl) (pv 3) (au aV (pv 2) (az (aT K rfl) rfl T.bB Mf (paF (pv 3) aa))) (fun _ _=>rfl))))))),?_⟩
 walk_at "rx";refine dZ (K:=K) (l:=([]:List Nat)) iU (by decide) fun d H1 f1 e1 g1=>?_
 walk_at "rx";refine bV (n:=m) rfl (by omega) (fun i σ H'=>aj H H'/\Gr K H' d ((LY i).filter fun u=>OF (pw u m s) (1 % m))/\∃ y z k,σ=[some (.int (m:Int)),some (.int (s:Int)),some (.int (x:Int)),some (.ref d),y,z,k]) ⟨e1,g1,_,_,_,rfl⟩ ?_ ?_
 ·rintro i σ' H' hi ⟨e2,g2,y,z,k,rfl⟩;walk_at "rx";refine bV (n:=s) rfl (by omega) (fun j σ H2=>H2=H'/\∃ k,σ=[some (.int (m:Int)),some (.int (s:Int)),some (.int (x:Int)),some (.ref d),some (.int (i:Int)),some (.int (pw i m j:Int)),k]) ⟨rfl,_,rfl⟩ ?_ ?_
  ·rintro j σ'' H2 hj ⟨rfl,k,rfl⟩;walk_at "rx";exact ⟨rfl,_,rfl⟩
  ·rintro σ'' H2 ⟨rfl,k,rfl⟩;walk_at "3";have hl:((LY i).filter fun u=>OF (pw u m s) (1 % m)).length<=100000:=by
    have:=Og (fun u=>OF (pw u m s) (1 % m)) (LY i);rw [Nj] at this;omega
   refine aU (fun c=>?_) (fun c=>?_)
   ·walk_at "rx";refine ⟨g2.ty,?_⟩;walk_at "rx";refine fU (b:=i) g2 hl rfl fun H3 g3 k3 _=>?_;refine ⟨aj.but f1 e2 k3,?_,_,_,_,rfl⟩;rw [tj,if_pos c];exact g3
   ·walk_at "rx";refine ⟨e2,?_,_,_,_,rfl⟩;rw [tj,if_neg c];exact g2
 ·rintro σ' H2 ⟨e2,g2,y,z,k,rfl⟩;have g2':Gr K H2 d (unitsOf m s):=g2;have a2:=g2'.at;have ne:=FP m1 m23 s1 s4;have ul:(unitsOf m s).length<=23:=by
   have:=Og (fun u=>OF (pw u m s) (1 % m)) (LY m);rw [Nj] at this;exact M7 this m23
  have u0:0<(unitsOf m s).length:=M9.mpr ne;walk_at "rx";refine dG (fun σ' H'=>aj H H'/\∃ (p:Addr) (l:List Nat),At K H' (.ref p) l/\0<l.length/\(∀ u∈l,u∈unitsOf m s)/\∃ y z k,σ'=[some (.int (m:Int)),some (.int (s:Int)),some (.int (x:Int)),some (.ref p),y,z,k]) (fun N hN=>?_) ?_
  ·have no:N [some (.int (m:Int)),some (.int (s:Int)),some (.int (x:Int)),some (.ref d),y,z,k] H2:=hN _ _ ⟨e2,d,_,a2,u0,fun _ z=>z,_,_,_,rfl⟩;walk_at "rx";refine aU (fun c1=>?_) (fun _=>?_)
   ·walk_at "rx";refine aU (fun c2=>?_) (fun _=>?_)
    ·walk_at "rx";refine Iy a2 fun p H3 e3 _ a3=>?_;walk_at "rx";have ec:cut (unitsOf m s) (some ((1:Nat):Int)) none=(unitsOf m s).drop 1:=F6 _;rw [ec] at a3;exact hN _ _ ⟨e2.trans e3,p,_,a3,by rw [QC];omega,fun u hu=>Px hu,_,_,_,rfl⟩
    ·walk_at "rx";exact no
   ·walk_at "8";exact no
  ·rintro σ3 H3 ⟨e3,p,l,a3,l0,hl,y,z,k,rfl⟩;walk_at "rx";have hm:x % l.length<l.length:=Mw _ l0;refine bM a3 (getD_some 0 hm) ?_;exact q _ H3 e3 (hl _ (LS (getD_some 0 hm)))
def Par.sz {a b c s kind u0 u1 u2:Nat} (h:Par a b c s kind u0 u1 u2):gf a b c s:=⟨h.a1,h.b1,h.c1,h.s1,h.s4,h.le⟩
def xk (K:LO):Sp:=fun vs H Q _=>∃ (v u:V) (p kind a b c s u0 u1 u2:Nat),vs=[.int (p:Int),v,.int (kind:Int),u]/\Par a b c s kind u0 u1 u2/\At K H v [a,b,c,s]/\At K H u [u0,u1,u2]/\p<a * b * c/\Q (.int (d7 a b c kind u0 u1 u2 p:Int)) H
def xi (T:Txt K mg):aH P w K mg base CX0 1 T.iV.f T.iV.fd ["_law_place","_law_sizes_here","_law_kind_here","_law_units"] (xk K):=by
 refine T.iV.ok cp (fun vs H Q E h=>?_) (fun cdv A outer s H vs Q E hr h=>?_)
 ·obtain ⟨v,u,p,kind,a,b,c,s,u0,u1,u2,rfl,_⟩:=h;rfl
 obtain ⟨v,u,p,kind,a,b,c,s,u0,u1,u2,rfl,pr,hS,hU,hp,q⟩:=h;refine ⟨_,(ae (av (i:=4) cp.nd rfl (L8 rfl) (au aV (pv 0) (aw (ah K rfl) (pv 1) ag (fun _ _=>rfl))))
   (ae (av (i:=5) cp.nd rfl (L8 rfl) (au aV (au bq (pv 0) (aw (ah K rfl) (pv 1) ag (fun _ _=>rfl))) (aw (ah K rfl) (pv 1) ag (fun _ _=>rfl))))
   (ae (av (i:=6) cp.nd rfl (L8 rfl) (au aV (au bS (au bq (pv 0) (au bS (aw (ah K rfl) (pv 1) ag (fun _ _=>rfl)) (aw (ah K rfl) (pv 1) ag (fun _ _=>rfl)))) (aw (ah K rfl) (pv 3) ag (fun _ _=>rfl))) (aw (ah K rfl) (pv 1) ag (fun _ _=>rfl))))
   (ae (aS (ax bK (pv 2) ag (aB _)) (af (DM (i:=4) (j:=5) rfl cp.nd rfl rfl (by decide) rfl rfl (paF (pv 5) (paF (pv 4) aa)) rfl)) (af (aS (ax bK (pv 2) ag (aB _)) (af (DM (i:=4) (j:=5) rfl cp.nd rfl rfl (by decide) rfl rfl (paF (au aV (au f9 ag (pv 5)) (aw (ah K rfl) (pv 1) ag (fun _ _=>rfl))) (paF (au aV (au f9 (pv 4) (pv 5)) (aw (ah K rfl) (pv 1) ag (fun _ _=>rfl))) aa)) rfl)) (af (aS (ax bK (pv 2) ag (aB _)) (af (av (i:=5) cp.nd rfl (L8 rfl) (au aV (au bj (pv 5) (pv 4)) (aw (ah K rfl) (pv 1) ag (fun _ _=>rfl))))) (af (aS (ax bK (pv 2) ag (aB _)) (af (av (i:=4) cp.nd rfl (L8 rfl) (au aV (au bj (pv 4) (au bS (au bq (aw (ah K rfl) (pv 1) ag (fun _ _=>rfl)) ag) (pv 5))) (aw (ah K rfl) (pv 1) ag (fun _ _=>rfl))))) (ae (av (i:=4) cp.nd rfl (L8 rfl) (au aV (au bS (pv 4) (aw (ah K rfl) (pv 3) ag (fun _ _=>rfl))) (aw (ah K rfl) (pv 1) ag (fun _ _=>rfl))))
   (af (av (i:=5) cp.nd rfl (L8 rfl) (au aV (au bS (pv 5) (aw (ah K rfl) (pv 3) ag (fun _ _=>rfl))) (aw (ah K rfl) (pv 1) ag (fun _ _=>rfl)))))))))))))
   (af (aN (au bj (pv 4) (au bS (aw (ah K rfl) (pv 1) ag (fun _ _=>rfl)) (au bj (pv 5) (au bS (aw (ah K rfl) (pv 1) ag (fun _ _=>rfl)) (pv 6))))))))))),?_⟩
 have a1:=pr.a1;have b1:=pr.b1;have c1:=pr.c1;have a23:=pr.sz.a23;have b23:=pr.sz.b23;have c23:=pr.sz.c23;have ab23:=pr.sz.ab;have ab0:0<a * b:=Oc a1 b1;have lu0:=(o8.mp pr.v0).1;have lu1:=(o8.mp pr.v1).1;have lu2:=(o8.mp pr.v2).1;walk_at "rx";refine dG (fun σ' H'=>H'=H/\∃ X Y:Nat,X+a * (Y+b * (p / (a * b) * u2 % c))=d7 a b c kind u0 u1 u2 p/\σ'=[some (.int (p:Int)),some v,some (.int (kind:Int)),some u,some (.int (X:Int)),some (.int (Y:Int)),some (.int ((p / (a * b) * u2 % c:Nat):Int))]) (fun N hN=>?_) ?_
 ·walk_at "rx";refine aU (fun k1=>?_) (fun k1=>?_)
  ·walk_at "rx";refine hN _ _ ⟨rfl,p / a % b,p % a,?_,rfl⟩;subst k1;rfl
  ·walk_at "ifs";walk_at "rx";refine aU (fun k2=>?_) (fun k2=>?_)
   ·have eab:a=b:=by
     have:=pr.kind;subst k2;simp [eI] at this;exact this.1
    have hy:p / a % b<a:=by rw [eab];exact Mw _ b1
    have hx:p % a<a:=Mw _ a1;walk_at "rx";refine rX (by omega) ?_
    walk_at "rx";refine rX (by omega) ?_
    walk_at "rx";refine hN _ _ ⟨rfl,(a - p / a % b) % a,(p % a+a - p / a % b) % a,?_,?_⟩
    ·subst k2;rfl
    ·have e1:(((0:Nat):Int) - ((p / a % b:Nat):Int)) % (a:Int)=(((a - p / a % b) % a:Nat):Int):=by
      have z:(((a - p / a % b) % a:Nat):Int)=((a - p / a % b:Nat):Int) % (a:Int):=by push_cast;rfl
      rw [z,show ((a - p / a % b:Nat):Int)=(((0:Nat):Int) - ((p / a % b:Nat):Int))+(a:Int) * 1 by omega,QV]
     have e2:(((p % a:Nat):Int) - ((p / a % b:Nat):Int)) % (a:Int)=(((p % a+a - p / a % b) % a:Nat):Int):=by
      have z:(((p % a+a - p / a % b) % a:Nat):Int)=((p % a+a - p / a % b:Nat):Int) % (a:Int):=by push_cast;rfl
      rw [z,show ((p % a+a - p / a % b:Nat):Int)=(((p % a:Nat):Int) - ((p / a % b:Nat):Int))+(a:Int) * 1 by omega,QV]
     rw [<- e1,<- e2];rfl
   ·walk_at "ifs";walk_at "rx";refine aU (fun k3=>?_) (fun k3=>?_)
    ·walk_at "rx";refine hN _ _ ⟨rfl,p % a,(p / a % b+p % a) % b,?_,rfl⟩;subst k3;rfl
    ·walk_at "ifs";walk_at "rx";refine aU (fun k4=>?_) (fun k4=>?_)
     ·walk_at "rx";refine hN _ _ ⟨rfl,(p % a+a / 2 * (p / a % b)) % a,p / a % b,?_,rfl⟩;subst k4;rfl
     ·have k0:kind=0:=by have:=pr.k5;omega
      walk_at "rx";refine hN _ _ ⟨rfl,p % a * u0 % a,p / a % b * u1 % b,?_,rfl⟩;subst k0;rfl
 ·rintro σ' H' ⟨rfl,X,Y,e,rfl⟩;walk_at "rx";rw [e];exact q
def Dj (K:LO):Sp:=fun vs H Q _=>∃ (v:V) (p r a b c s:Nat),vs=[.int (p:Int),.int (r:Int),v]/\gf a b c s/\At K H v [a,b,c,s]/\Q (.int (lsum a b c p r:Int)) H
def t7 (T:Txt K mg):aH P w K mg base CX0 1 T.jD.f T.jD.fd ["_law_one","_law_other","_law_sizes_here"] (Dj K):=by
 refine T.jD.ok iD (fun vs H Q E h=>?_) (fun cdv A outer s H vs Q E hr h=>?_)
 ·obtain ⟨v,p,r,a,b,c,s,rfl,_⟩:=h;rfl
 obtain ⟨v,p,r,a,b,c,s,rfl,sz,hS,q⟩:=h;refine ⟨_,(ae (av (i:=3) iD.nd rfl (L8 rfl) (au bS (aw (ah K rfl) (pv 2) ag (fun _ _=>rfl)) (aw (ah K rfl) (pv 2) ag (fun _ _=>rfl))))
   (ae (av (i:=4) iD.nd rfl (L8 rfl) (au aV (au bj (pv 0) (pv 1)) (aw (ah K rfl) (pv 2) ag (fun _ _=>rfl))))
   (ae (av (i:=5) iD.nd rfl (L8 rfl) (au aV (au bj (au bq (pv 0) (aw (ah K rfl) (pv 2) ag (fun _ _=>rfl))) (au bq (pv 1) (aw (ah K rfl) (pv 2) ag (fun _ _=>rfl)))) (aw (ah K rfl) (pv 2) ag (fun _ _=>rfl))))
   (ae (av (i:=6) iD.nd rfl (L8 rfl) (au aV (au bj (au bq (pv 0) (pv 3)) (au bq (pv 1) (pv 3))) (aw (ah K rfl) (pv 2) ag (fun _ _=>rfl))))
   (af (aN (au bj (au bj (pv 4) (au bS (aw (ah K rfl) (pv 2) ag (fun _ _=>rfl)) (pv 5))) (au bS (pv 3) (pv 6))))))))),?_⟩
 have a1:=sz.a1;have b1:=sz.b1;have c1:=sz.c1;have a23:=sz.a23;have b23:=sz.b23;have ab23:=sz.ab;have ab0:0<a * b:=Oc a1 b1;walk_at "rx";exact q
def yI (K:LO):Sp:=fun vs H Q _=>∃ n x:Nat,vs=[.int (n:Int),.int (x:Int)]/\n<=23/\x<2147483647/\∀ (d:Addr) (H':Hp) (π:List Nat),aj H H'->π.Perm (LY n)->At K H' (.ref d) π->Q (.ref d) H'
def yQ (T:Txt K mg):aH P w K mg base CX0 1 T.jt.f T.jt.fd ["_law_many","_law_number"] (yI K):=by
 refine T.jt.ok ip (fun vs H Q E h=>?_) (fun cdv A outer s H vs Q E hr h=>?_)
 ·obtain ⟨n,x,rfl,_⟩:=h;rfl
 obtain ⟨n,x,rfl,n23,hx,q⟩:=h;refine ⟨_,(ae (av (i:=2) ip.nd rfl (L8 rfl) (aW aa))
   (ae (a8 L7 rfl (a9 rfl T.bD (paF (pv 0) aa)) (aJ (i:=3) ip.nd rfl (L8 rfl)) (ae (av (i:=1) ip.nd rfl (L8 rfl) (au aV (au bj (au bj (au bj (au bS (pv 1) (pv 1)) (au bS ag (pv 1))) (pv 3)) ag) ag))
   (af (a7 (cO K rfl Mj Rz RA v8 (pv 2) (paF (au aV (pv 1) (au bj (pv 3) ag)) (paF (pv 3) aa)))))))
   (af (aN (pv 2))))),?_⟩
 walk_at "rx";refine dZ (K:=K) (l:=([]:List Nat)) iU (by decide) fun d H1 f1 e1 g1=>?_
 walk_at "rx";refine bV (n:=n) rfl (by omega) (fun i σ H'=>aj H H'/\∃ (π:List Nat) (y:Nat) (k:Option V),π.Perm (LY i)/\y<2147483647/\Gr K H' d π/\σ=[some (.int (n:Int)),some (.int (y:Int)),some (.ref d),k]) ⟨e1,[],x,_,.refl _,hx,g1,rfl⟩ ?_ ?_
 ·rintro i σ' H' hi ⟨e2,π,y,k,hp,hy,g2,rfl⟩;have hl:π.length=i:=by rw [hp.length_eq,Nj]
  walk_at "rx";have hy2:(y * y+48271 * y+i+11) % 2147483647<2147483647:=Mw _ (by decide)
  generalize (y * y+48271 * y+i+11) % 2147483647=y2 at hy2 ⊢;refine ⟨g2.ty,?_⟩;walk_at "rx";have hk:y2 % (i+1)<i+1:=Mw _ (by omega)
  refine Gj (b:=i) g2 (show y2 % (i+1)<=π.length by omega) (by omega) rfl fun H3 g3 k3=>?_
  exact ⟨aj.but f1 e2 k3,_,y2,_,Ha hp,hy2,g3,rfl⟩
 ·rintro σ' H2 ⟨e2,π,y,k,hp,hy,g2,rfl⟩;walk_at "rx";exact q d H2 π e2 hp g2.at
def gN {β:Type} (f:Nat->β) {n i:Nat} (h:i<n):((LY n).map f)[i]?=some (f i):=by simp [h]
def An (K:LO):Sp:=fun vs H Q _=>∃ (v tv:V) (a b c s e:Nat) (f:Nat->Nat),vs=[v,tv,.int (e:Int)]/\gf a b c s/\Tn (a * b * c) (lsum a b c) f s e/\At K H v [a,b,c,s]/\At K H tv ((LY (a * b * c)).map f) /\
 ∀ d H',aj H H'->At K H' (.ref d) (mkT (a * b * c * s) (cyc (a * b * c) (lsum a b c) f s e))->Q (.ref d) H'
def AG (T:Txt K mg):aH P w K mg base CX0 2 T.jW.f T.jW.fd ["_law_sizes_here","_law_turn","_law_end"] (An K):=by
 refine T.jW.ok cq (fun vs H Q E h=>?_) (fun cdv A outer s H vs Q E hr h=>?_)
 ·obtain ⟨v,tv,a,b,c,s,e,f,rfl,_⟩:=h;rfl
 obtain ⟨v,tv,a,b,c,s,e,f,rfl,sz,tn,hS,hT,q⟩:=h;refine ⟨_,(ae (av (i:=3) cq.nd rfl (L8 rfl) (az (aT K rfl) rfl T.bB Mf (paF (pv 1) aa)))
   (ae (av (i:=4) cq.nd rfl (L8 rfl) (aW aa))
   (ae (av (i:=5) cq.nd rfl (L8 rfl) (dz (my rfl) rfl T.kJ NQ (paF (dz qM rfl T.bD RQ (paF (pv 3) aa)) aa)))
   (ae (a8 L7 rfl (a9 rfl T.bD (paF (aw (ah K rfl) (pv 0) ag (fun _ _=>rfl)) aa)) (aJ (i:=6) cq.nd rfl (L8 rfl)) (ae (a8 L7 rfl (a9 rfl T.bD (paF (pv 3) aa)) (aJ (i:=7) cq.nd rfl (L8 rfl)) (ae (av (i:=8) cq.nd rfl (L8 rfl) (aW aa))
   (ae (a8 L7 rfl (a9 rfl T.bD (paF (aw (ah K rfl) (pv 0) ag (fun _ _=>rfl)) aa)) (aJ (i:=9) cq.nd rfl (L8 rfl)) (af (a8 L7 rfl (a9 rfl T.bD (paF (pv 3) aa)) (aJ (i:=10) cq.nd rfl (L8 rfl)) (ae (av (i:=11) cq.nd rfl (L8 rfl) (aG T.jD (t7 T) (hr.mono (by decide)) rfl (paF (pv 7) (paF (aw (ah K rfl) (pv 5) (pv 10) (fun _ _=>rfl)) (paF (pv 0) aa)))))
   (ae (aS (ax lj (au bj (pv 6) (pv 9)) (aw (ah K rfl) (pv 0) ag (fun _ _=>rfl)) (aB _)) (af (av (i:=11) cq.nd rfl (L8 rfl) (aG T.jD (t7 T) (hr.mono (by decide)) rfl (paF (pv 11) (paF (pv 2) (paF (pv 0) aa)))))) aE)
   (af (a7 (cO K rfl Mj MK ML cC (pv 8) (paF (au bj (pv 11) (au bS (pv 3) (au aV (au bj (pv 6) (pv 9)) (aw (ah K rfl) (pv 0) ag (fun _ _=>rfl))))) aa)))))))))
   (af (a7 (cO K rfl Mj MK ML cC (pv 4) (paF (pv 8) aa)))))))
   (af (dR (i:=5) rfl cq.nd rfl (L8 rfl) oi (aY K rfl (pv 5)) (fun _ _ _ _=>⟨(aJ (i:=0) oi.nd rfl (L8 rfl)),bZ,(aw (ah K rfl) (pv 1) (pv 0) (fun _ _=>rfl))⟩) rfl))))
   (af (aN (pv 4))))))),?_⟩
 have s1:=sz.s1;have s4:=sz.s4;have hle:=sz.le;have m23:=sz.abc;have m0:=tn.pos;have hlen:((LY (a * b * c)).map f).length=a * b * c:=by simp
 walk_at "rx";rw [hlen];generalize hm:a * b * c=m at hle m23 m0 hlen tn hT q ⊢;generalize hF:cyc m (lsum a b c) f s e=F at q ⊢;refine dZ (K:=K) (l:=([]:List (List Nat))) iU (by decide) fun d H1 fd e1 g1=>?_
 walk_at "rx";refine BL fun pr hpr=>?_;walk_at "rx";refine qN (K:=K) ar (by omega) fun dl H2 fl e2 gl=>?_
 have e12:aj H H2:=e1.trans ((ay hpr _).trans e2);have g2:Gr K H2 d ([]:List (List Nat)):=g1.mono ((ay hpr _).trans e2);have hdl:dl≠d:=fun z=>by
  obtain ⟨ys,hy⟩:=g1.is;have:(upd H1 pr (.rng 0 (m:Int))) d=some (.lst ys):=by rw [aA (aQ hy hpr)];exact hy
  rw [z,this] at fl;cases fl
 have hS2:=Rep.mono e12 hS;walk_at "rx";refine bV (n:=s) rfl (by omega) (fun i σ H'=>aj H H'/\Gr K H' d ((mkT (m * s) F).take (m * i))/\∃ (vl:V),At K (del H' d) vl ((LY m).map (Nat.repeat f i))/\∃ x6 x7 x8 x9 x10 x11,σ=[some v,some tv,some (.int (e:Int)),some (.int (m:Int)),some (.ref d),some vl,x6,x7,x8,x9,x10,x11]) ?_ ?_ ?_
 ·refine ⟨e12,by rw [Pk];exact g2,.ref dl,?_,_,_,_,_,_,_,rfl⟩
  have z:(LY m).map (Nat.repeat f 0)=LY m:=by
   have:Nat.repeat f 0=id:=by funext x;rfl
   rw [this,QK]
  rw [z];exact nc gl hdl
 ·rintro i σ' H3 hi ⟨e3,g3,vl,hl3,x6,x7,x8,x9,x10,x11,rfl⟩;walk_at "rx";refine bV (n:=m) rfl (by omega) (fun o σ H'=>aj H H'/\Gr K H' d ((mkT (m * s) F).take (m * i+o))/\At K (del H' d) vl ((LY m).map (Nat.repeat f i))/\∃ x7 x8 x9 x10 x11,σ=[some v,some tv,some (.int (e:Int)),some (.int (m:Int)),some (.ref d),some vl,some (.int (i:Int)),x7,x8,x9,x10,x11]) ⟨e3,g3,hl3,_,_,_,_,_,rfl⟩ ?_ ?_
  ·rintro o σ' H4 ho ⟨e4,g4,hl4,x7,x8,x9,x10,x11,rfl⟩;have hI:m * i+o<m * s:=by
    have:m * (i+1)<=m * s:=Nn m hi;rw [Oh] at this;omega
   walk_at "rx";refine dZ (K:=K) (l:=([]:List Nat)) iU (by decide) fun p H5 fp e5 g5=>?_
   have hpd:p≠d:=Eg g4.is fp;have hS5:=Rep.mono (e4.trans e5) hS;walk_at "rx";refine bV (n:=s) rfl (by omega) (fun j σ H'=>aj H4 H'/\Gr K H' p (((LY (m * s)).map fun y=>F (m * i+o) y).take (m * j))/\∃ x9 x10 x11,σ=[some v,some tv,some (.int (e:Int)),some (.int (m:Int)),some (.ref d),some vl,some (.int (i:Int)),some (.int (o:Int)),some (.ref p),x9,x10,x11]) ⟨e5,by rw [Pk];exact g5,_,_,_,rfl⟩ ?_ ?_
   ·rintro j σ' H6 hj ⟨e6,g6,x9,x10,x11,rfl⟩;walk_at "rx";refine bV (n:=m) rfl (by omega) (fun k σ H'=>aj H4 H'/\Gr K H' p (((LY (m * s)).map fun y=>F (m * i+o) y).take (m * j+k))/\∃ x10 x11,σ=[some v,some tv,some (.int (e:Int)),some (.int (m:Int)),some (.ref d),some vl,some (.int (i:Int)),some (.int (o:Int)),some (.ref p),some (.int (j:Int)),x10,x11]) ⟨e6,g6,_,_,rfl⟩ ?_ ?_
    ·rintro k σ' H7 hk ⟨e7,g7,x10,x11,rfl⟩;have hJ:m * j+k<m * s:=by
      have:m * (j+1)<=m * s:=Nn m hj;rw [Oh] at this;omega
     have hS7:=Rep.mono (e4.trans e7) hS;have hl7:At K H7 vl ((LY m).map (Nat.repeat f i)):=Rep.mono e7 (Rep.mono kH hl4);walk_at "rx";refine bM hl7 (gN _ hk) ?_;walk_at "rx";refine ⟨v,o,Nat.repeat f i k,a,b,c,s,rfl,sz,hS7,?_⟩;walk_at "rx";refine dG (fun σ' H'=>H'=H7/\σ'=[some v,some tv,some (.int (e:Int)),some (.int (m:Int)),some (.ref d),some vl,some (.int (i:Int)),some (.int (o:Int)),some (.ref p),some (.int (j:Int)),some (.int (k:Int)),some (.int ((if s<=i+j then lsum a b c (lsum a b c o (Nat.repeat f i k)) e else lsum a b c o (Nat.repeat f i k):Nat):Int))]) (fun N hN=>?_) ?_
     ·walk_at "rx";refine aU (fun c1=>?_) (fun c1=>?_)
      ·walk_at "rx";refine ⟨v,_,e,a,b,c,s,rfl,sz,hS7,?_⟩;walk_at "rx";refine hN _ _ ⟨rfl,?_⟩;rw [if_pos c1];rfl
      ·walk_at "rx";refine hN _ _ ⟨rfl,?_⟩;rw [if_neg c1];rfl
     ·rintro σ' H8 ⟨rfl,rfl⟩;walk_at "rx";refine ⟨g7.ty,?_⟩;walk_at "rx";have ev:(if s<=i+j then lsum a b c (lsum a b c o (Nat.repeat f i k)) e else lsum a b c o (Nat.repeat f i k))+m * ((i+j) % s)=F (m * i+o) (m * j+k):=by
       rw [<- hF,Ov (m * i) o,Ov (m * j) k,Ko ho hk]
      rw [ev];refine fU (b:=F (m * i+o) (m * j+k)) g7 (by rw [MF];omega) rfl fun H9 g9 k9 _=>?_
      refine ⟨aj.but fp e7 k9,?_,_,_,rfl⟩;rw [show m * j+(k+1)=(m * j+k)+1 by omega,dk (fun y=>F (m * i+o) y) (m * s) (m * j+k) hJ]
      exact g9
    ·rintro σ' H7 ⟨e7,g7,x10,x11,rfl⟩;refine ⟨e7,?_,_,_,_,rfl⟩;rw [Oh];exact g7
   ·rintro σ' H6 ⟨e6,g6,x9,x10,x11,rfl⟩;have et:((LY (m * s)).map fun y=>F (m * i+o) y).take (m * s)=(LY (m * s)).map fun y=>F (m * i+o) y:=MU (by simp)
    rw [et] at g6;have g6d:=g4.mono e6;walk_at "rx";refine ⟨g6d.ty,?_⟩;walk_at "rx";refine fU g6d (by rw [MF];omega) (nc g6 hpd) fun H7 g7 k7 _=>?_
    have hdH:H d=none:=fd;refine ⟨aj.but hdH (e4.trans e6) k7,?_,Rep.mono (Lj k7) (Rep.mono (kP e6) hl4),_,_,_,_,_,rfl⟩;rw [show m * i+(o+1)=(m * i+o)+1 by omega]
    unfold mkT;rw [dk (fun x=>(LY (m * s)).map fun y=>F x y) (m * s) (m * i+o) hI];exact g7
  ·rintro σ' H4 ⟨e4,g4,hl4,x7,x8,x9,x10,x11,rfl⟩;walk_at "rx";have hl4':At K H4 vl ((LY m).map (Nat.repeat f i)):=Rep.mono kH hl4;have hll:((LY m).map (Nat.repeat f i)).length=m:=by simp
   refine pS (β:=Nat) hl4' (by omega) (fun k=>((LY m).map (Nat.repeat f (i+1))).take k) (fun σ'=>∃ y,σ'=[y,some tv]) rfl (fun k hk=>by rw [MF];omega) ⟨_,rfl⟩ ?_ ?_
   ·rintro k z w' σ' H5 d' R R0 hz hs hw ⟨y,rfl⟩ hR hR0 hd';have hkm:k<m:=by
     have:=(LR.mp hz).1;omega
    rw [gN _ hkm] at hz;cases hz;cases (show w'=V.int ((Nat.repeat f i k:Nat):Int) from hw);have hT5:=Rep.mono (e4.trans hs) hT;walk_at "rx";refine bM hT5 (gN _ (fC tn i hkm)) ?_;exact hR _ _ (Nat.repeat f (i+1) k) _ ⟨_,rfl⟩ (aj.refl _) rfl (dk _ m k hkm)
   ·intro d' H5 fd' e5 hg;have hg':Gr K H5 d' (((LY m).map (Nat.repeat f (i+1))).take m):=by
     have:=hg;rw [hll] at this;exact this
    rw [MU (by simp)] at hg'
    walk_at "rx";refine ⟨e4.trans e5,?_,.ref d',nc hg' (Eg g4.is fd'),_,_,_,_,_,_,rfl⟩;rw [Oh];exact g4.mono e5
 ·rintro σ' H3 ⟨e3,g3,vl,hl3,x6,x7,x8,x9,x10,x11,rfl⟩;rw [MU (by simp [mkT])] at g3
  walk_at "rx";exact q d H3 e3 g3.at
def yo (K:LO):Sp:=fun vs H Q _=>∃ (v:V) (ns:List Int) (st:Nat),vs=[v,.int (st:Int)]/\At K H v ns/\∀ d H' n t e ps,aj H H'->GT n t e->Tbl H' d t ps->H d=none->(∀ p∈ps,H p=none)->Q (.ref d) H'
def zJ (T:Txt K mg):aH P w K mg base CX0 3 T.jk.f T.jk.fd ["_law_script","_law_start"] (yo K):=by
 refine T.jk.ok bp (fun vs H Q E h=>?_) (fun cdv A outer s H vs Q E hr h=>?_)
 ·obtain ⟨v,ns,st,rfl,_⟩:=h;rfl
 obtain ⟨v,ns,st,rfl,hA,q⟩:=h;refine ⟨_,(ae (av (i:=2) bp.nd rfl (L8 rfl) (aG T.cu (cW T) (hr.mono (by decide)) rfl (paF (pv 0) (paF (pv 1) aa))))
   (ae (av (i:=3) bp.nd rfl (L8 rfl) (aG T.cu (cW T) (hr.mono (by decide)) rfl (paF (pv 0) (paF (au bj (pv 1) ag) aa))))
   (ae (av (i:=4) bp.nd rfl (Qf rfl) (aG T.jm (zD T) (hr.mono (by decide)) rfl (paF (pv 2) (paF (pv 3) aa))))
   (ae (av (i:=5) bp.nd rfl (L8 rfl) (au aV (au bS (au bS (au bj (pv 3) ag) (au bj (pv 3) ag)) ag) ag))
   (ae (av (i:=6) bp.nd rfl (Qf rfl) (aG T.jS (AY T) (hr.mono (by decide)) rfl (paF (pv 4) (paF (pv 5) aa))))
   (ae (av (i:=7) bp.nd rfl (Qf rfl) (aW aa))
   (ae (a8 L7 rfl (a9 rfl T.bD (paF ag aa)) (aJ (i:=8) bp.nd rfl (L8 rfl)) (af (a7 (cO K rfl Mj MK ML cC (pv 7) (paF (aG T.j6 (AE T) (hr.mono (by decide)) rfl (paF (aw (ah K rfl) (pv 4) (pv 8) (fun _ _=>rfl)) (paF (aw (ah K rfl) (pv 4) ag (fun _ _=>rfl)) (paF (au bq (pv 5) (aw (ah K rfl) (aW (m7 [12,276,6348] (by trivial)).out) (pv 8) (fun _ _=>rfl))) aa)))) aa)))))
   (ae (av (i:=9) bp.nd rfl (L8 rfl) (au bS (au bS (aw (ah K rfl) (pv 4) ag (fun _ _=>rfl)) (aw (ah K rfl) (pv 4) ag (fun _ _=>rfl))) (aw (ah K rfl) (pv 4) ag (fun _ _=>rfl))))
   (ae (dR (i:=10) rfl bp.nd rfl (L8 rfl) l9 (a9 rfl T.bD (paF (pv 9) aa)) (fun _ _ _ _=>⟨(aJ (i:=0) l9.nd rfl (L8 rfl)),bZ,(aG T.iV (xi T) (hr.mono (by decide)) rfl (paF (pv 0) (paF (pv 2) (paF (pv 1) (paF (pv 3) aa)))))⟩) rfl)
   (ae (av (i:=11) bp.nd rfl (L8 rfl) (au aV (au aV (au bS (au bS (au bj (pv 2) ag) (au bj (pv 2) ag)) ag) ag) (pv 9)))
   (ae (aS (ax dQ (aw (ah K rfl) (pv 10) (pv 11) (fun _ _=>rfl)) (pv 11) (aB _)) (af (av (i:=11) bp.nd rfl (L8 rfl) ag)) aE)
   (ae (av (i:=12) bp.nd rfl (L8 rfl) (aG T.jW (AG T) (hr.mono (by decide)) rfl (paF (pv 4) (paF (pv 10) (paF (pv 11) aa)))))
   (ae (av (i:=13) bp.nd rfl (L8 rfl) (aG T.jt (yQ T) (hr.mono (by decide)) rfl (paF (az (aT K rfl) rfl T.bB Mf (paF (pv 12) aa)) (paF (aG T.cu (cW T) (hr.mono (by decide)) rfl (paF (pv 0) (paF (au bj (pv 1) ag) aa))) aa))))
   (ae (dR (i:=15) rfl bp.nd rfl (L8 rfl) md (aY K rfl (pv 12)) (fun _ _ _ _=>⟨(aJ (i:=0) md.nd rfl (L8 rfl)),bZ,(dz (iP K rfl) rfl T.kJ NQ (paF (pv 0) aa))⟩) rfl)
   (ae (a8 L7 rfl (zu K rfl rfl T.qP (paF (pv 12) aa)) (yi rfl (i3 (aJ (i:=16) bp.nd rfl (L8 rfl)) (i3 (aJ (i:=14) bp.nd rfl (L8 rfl)) vd))) (af (a8 L7 rfl (zu K rfl rfl T.qP (paF (pv 14) aa)) (yi rfl (i3 (aJ (i:=17) bp.nd rfl (L8 rfl)) (i3 (aJ (i:=18) bp.nd rfl (L8 rfl)) vd))) (af (l8 (aw (ah K rfl) (pv 13) (pv 18) (fun _ _=>rfl)) (mj (aw (ah K rfl) (pv 15) (aw (ah K rfl) (pv 13) (pv 16) (fun _ _=>rfl)) (fun _ _=>rfl)) (aw (ah K rfl) (pv 13) (pv 17) (fun _ _=>rfl)) set_list))))))
   (af (aN (pv 15)))))))))))))))))),?_⟩
 walk_at "rx";refine ⟨v,ns,st,rfl,hA,?_⟩;have one2:=rJ ns st;generalize dy ns st=one at one2 ⊢;walk_at "rx";refine ⟨v,ns,st+1,rfl,hA,?_⟩;have two2:=rJ ns (st+1);generalize dy ns (st+1)=two at two2 ⊢;walk_at "rx";refine ⟨one,two,rfl,fun vS H1 a b c s s1 sz hS=>?_⟩;walk_at "rx";generalize (two+11) * (two+29) * 48271 % 2147483629=stir;refine ⟨vS,stir,a,b,c,s,rfl,sz,hS,fun kind H2 s2 k5 hk=>?_⟩;have hS2:=Rep.mono s2 hS;walk_at "rx";refine dZ (K:=K) (l:=([]:List Nat)) iU (by decide) fun du H3 fu s3 gu=>?_
 walk_at "rx";refine bV (n:=3) rfl (by decide) (fun i σ H'=>aj H2 H'/\∃ us:List Nat,Gr K H' du us/\us.length=i/\(∀ j,j<i->us.getD j 0∈unitsOf ([a,b,c,s].getD j 0) s)/\∃ x8,σ=[some v,some (.int (st:Int)),some (.int (one:Int)),some (.int (two:Int)),some vS,some (.int (stir:Int)),some (.int (kind:Int)),some (.ref du),x8,none,none,none,none,none,none,none,none,none,none]) ⟨s3,[],gu,rfl,fun j hj=>absurd hj (by omega),_,rfl⟩ ?_ ?_
 ·rintro i σ' H4 hi ⟨s4,us,g4,l4,hu,x8,rfl⟩;walk_at "rx";refine ⟨g4.ty,?_⟩;have hS4:=Rep.mono s4 hS2;walk_at "rx";refine bM hS4 (getD_some 0 (show i<4 by omega)) ?_
  walk_at "rx";refine dZ (K:=K) (l:=([12,276,6348]:List Nat)) (ky _) (by decide) fun d5 H5 f5 s5 g5=>?_
  walk_at "rx";refine bM g5.at (getD_some 0 (show i<3 from hi)) ?_;obtain ⟨p1,p2⟩:=G6 i hi;refine Ej p1 p2 ?_;walk_at "rx";have hmi:1<=[a,b,c,s].getD i 0/\[a,b,c,s].getD i 0<=23:=by
   match i,hi with
   | 0,_=>exact ⟨sz.a1,sz.a23⟩
   | 1,_=>exact ⟨sz.b1,sz.b23⟩
   | 2,_=>exact ⟨sz.c1,sz.c23⟩
  refine ⟨_,s,_,rfl,hmi.1,hmi.2,sz.s1,sz.s4,fun u H6 s6 hu6=>?_⟩;walk_at "rx";refine fU (b:=u) (g4.mono (s5.trans s6)) (by omega) rfl fun H7 g7 k7 _=>?_
  refine ⟨aj.but fu (s4.trans (s5.trans s6)) k7,_,g7,by rw [Mr,l4];rfl,fun j hj=>?_,_,rfl⟩
  rcases Mv j i with z|z
  ·have e1:(us++[u]).getD j 0=us.getD j 0:=by
    rw [LU,MG (by omega),<- LU]
   rw [e1];exact hu j z
  ·have e:j=i:=by omega
   subst e;have e1:(us++[u]).getD j 0=u:=by
    rw [LU,MT (by omega),l4,Nat.sub_self]
    rfl
   rw [e1];exact hu6
 rintro σ' H4 ⟨s4,us,g4,l4,hu,x8,rfl⟩
 match us,l4 with
 | [u0,u1,u2],_ =>
 have v0:u0∈unitsOf a s:=hu 0 (by decide)
 have v1:u1∈unitsOf b s:=hu 1 (by decide)
 have v2:u2∈unitsOf c s:=hu 2 (by decide)
 have pr:Par a b c s kind u0 u1 u2:=⟨sz.a1,sz.b1,sz.c1,sz.s1,sz.s4,sz.le,k5,hk,v0,v1,v2⟩;have hS4:=Rep.mono s4 hS2;have hU4:=g4.at;have a23:=sz.a23;have ab23:=sz.ab;have m23:=sz.abc;have m0:0<a * b * c:=Oc (Oc sz.a1 sz.b1) sz.c1;walk_at "rx";refine jz K (n:=a * b * c) (β:=Nat) rfl (by omega) (fun i=>((LY (a * b * c)).map (d7 a b c kind u0 u1 u2)).take i) (fun σ'=>∃ y,σ'=[y,some (.int (kind:Int)),some vS,some (.ref du)]) rfl (fun i hi=>by rw [MF];omega) ⟨_,rfl⟩ ?_ ?_
 ·rintro i σ' H5 d' R R0 hi hs ⟨y,rfl⟩ hR hR0 hd';walk_at "rx";refine ⟨vS,_,i,kind,a,b,c,s,u0,u1,u2,rfl,pr,Rep.mono hs hS4,Rep.mono hs hU4,hi,?_⟩;exact hR _ _ _ _ ⟨_,rfl⟩ (aj.refl _) rfl (dk _ _ i hi)
 intro dt H5 s5 ht5;have ht5':At K H5 (.ref dt) ((LY (a * b * c)).map (d7 a b c kind u0 u1 u2)):=by
  have z:At K H5 (.ref dt) (((LY (a * b * c)).map (d7 a b c kind u0 u1 u2)).take (a * b * c)):=ht5;rw [MU (by simp)] at z
  exact z
 walk_at "rx";have en:(one+5) * (one+17) * 69621 % 2147483587 % (a * b * c)<a * b * c:=Mw _ m0;generalize (one+5) * (one+17) * 69621 % 2147483587 % (a * b * c)=en0 at en ⊢;refine dG (fun σ' H'=>H'=H5/\∃ e:Nat,e<a * b * c/\d7 a b c kind u0 u1 u2 e=e/\σ'=[some v,some (.int (st:Int)),some (.int (one:Int)),some (.int (two:Int)),some vS,some (.int (stir:Int)),some (.int (kind:Int)),some (.ref du),x8,some (.int ((a * b * c:Nat):Int)),some (.ref dt),some (.int (e:Int)),none,none,none,none,none,none,none]) (fun N hN=>?_) ?_
 ·walk_at "rx";refine bM ht5' (gN _ en) ?_;walk_at "rx";refine bH (fun c1=>?_) (fun c1=>?_)
  ·walk_at "rx";exact hN _ _ ⟨rfl,0,m0,BU ..,rfl⟩
  ·walk_at "rx";exact hN _ _ ⟨rfl,en0,en,c1,rfl⟩
 rintro σ' H5 ⟨rfl,e,he,fe,rfl⟩;have tn:=pr.tn he fe;have hS5:=Rep.mono s5 hS4;walk_at "rx";refine ⟨vS,_,a,b,c,s,e,_,rfl,sz,tn,hS5,ht5',fun dr H6 s6 hR6=>?_⟩;have gt:=KQ tn sz.le;have s06:aj H H6:=s1.trans (s2.trans (s4.trans (s5.trans s6)));generalize mkT (a * b * c * s) (cyc (a * b * c) (lsum a b c) (d7 a b c kind u0 u1 u2) s e)=R at gt hR6;generalize a * b * c * s=n at gt;have hA6:=Rep.mono s06 hA;walk_at "rx";rw [gt.len];refine ⟨v,ns,st+2,rfl,hA6,?_⟩;walk_at "rx";refine ⟨n,_,rfl,gt.le,rJ ns (st+2),fun dn H7 π s7 hp hN7=>?_⟩;have hR7:=Rep.mono s7 hR6;have hl:π.length=n:=by rw [hp.length_eq,Nj]
 walk_at "rx";refine ng hR7 (by rw [gt.len];have:=gt.le;omega) fun d H8 ps s8 fd fps tb8=>?_
 walk_at "rx";refine By (H₀:=H7) hR7 (fun i σ H'=>aj H7 H'/\∃ rows,Ren n π R rows i 0/\Tbl H' d rows ps/\∃ x14 x16 x17 x18,σ=[some v,some (.int (st:Int)),some (.int (one:Int)),some (.int (two:Int)),some vS,some (.int (stir:Int)),some (.int (kind:Int)),some (.ref du),x8,some (.int ((a * b * c:Nat):Int)),some (.ref dt),some (.int (e:Int)),some (.ref dr),some (.ref dn),x14,some (.ref d),x16,x17,x18]) ?_ (fun i σ' H' z=>z.1) ?_ ?_
 ·exact ⟨s8,R,⟨gt.len,gt.row,fun x y hx hy z=>absurd z (by omega)⟩,tb8,_,_,_,_,rfl⟩
 ·rintro i row wr σ' H9 H10 p hrow hwr ⟨s9,rows,rn,tb9,x14,x16,x17,x18,rfl⟩ hp9 e10 s10;have hi:i<n:=by
   have:=(LR.mp hrow).1;rw [gt.len] at this;exact this
  have hrl:row.length=n:=gt.row i row hrow;walk_at "rx";refine By (H₀:=H7) hwr (fun j σ H'=>aj H7 H'/\∃ rows,Ren n π R rows i j/\Tbl H' d rows ps/\∃ x17 x18,σ=[some v,some (.int (st:Int)),some (.int (one:Int)),some (.int (two:Int)),some vS,some (.int (stir:Int)),some (.int (kind:Int)),some (.ref du),x8,some (.int ((a * b * c:Nat):Int)),some (.ref dt),some (.int (e:Int)),some (.ref dr),some (.ref dn),some wr,some (.ref d),some (.int (i:Int)),x17,x18]) ⟨s9.trans s10,rows,rn,tb9.mono s10,_,_,rfl⟩ (fun j σ' H' z=>z.1) ?_ ?_
  ·rintro j th wt σ'' H11 H12 p2 hth hwt ⟨s11,rows2,rn2,tb11,x17,x18,rfl⟩ hp11 e12 s12;have hj:j<n:=by
    have:=(LR.mp hth).1;omega
   cases (show wt=V.int (th:Int) from hwt);have hth':th=tb R i j:=by
    have e1:=gt.get hi;rw [hrow] at e1;cases e1;have e2:=gt.d4 hi hj;rw [hth] at e2;exact ME e2
   have htl:th<n:=by rw [hth'];exact gt.lt i j hi hj
   have hN12:=Rep.mono (s11.trans s12) hN7;have tb12:=tb11.mono s12;walk_at "rx";refine bM hN12 (getD_some 0 (by omega)) ?_
   walk_at "rx";refine bM hN12 (getD_some 0 (by omega)) ?_
   have iA:=kZ hp hi;have iB:=kZ hp hj;have hrw:rows2[π.getD i 0]?=some (rows2.getD (π.getD i 0) []):=getD_some [] (by rw [rn2.len];exact iA)
   obtain ⟨pp,hpp,hHp⟩:=tb12.get hrw;refine Lz tb12 hpp ?_;walk_at "rx";refine bM hN12 (getD_some 0 (by omega)) ?_
   refine lZ hHp rfl (by unfold aO;rw [LX,rn2.row _ _ hrw];exact iB) ?_
   refine ⟨fun b' o z=>?_,_,?_,tb12.set hrw hpp,_,_,rfl⟩
   ·rw [aA (aQ z (fps pp (LS hpp)))];exact (s11.trans s12) b' o z
   ·rw [hth'];exact rn2.put hp hi hj
  ·rintro σ'' H11 ⟨s11,rows2,rn2,tb11,x17,x18,rfl⟩;rw [hrl] at rn2;exact ⟨s11,rows2,rn2.next,tb11,_,_,_,_,rfl⟩
 ·rintro σ' H9 ⟨s9,rows,rn,tb9,x14,x16,x17,x18,rfl⟩;rw [gt.len] at rn;walk_at "rx";have s07:=s06.trans s7;exact q d H9 n rows _ ps (s07.trans s9) (rn.gt hp gt) tb9 (s07.free fd) fun p hp'=>s07.free (fps p hp')
end
local macro_rules | `(tactic| walk_at "rg1")=>`(tactic| first|walk_at "rx1" | refine cc (by assumption) (by assumption) ?_|refine cb (by assumption) (by assumption) ?_|refine cf (by assumption) (by assumption) ?_|refine bN (by assumption) (by assumption) ?_)
local macro_rules | `(tactic| walk_at "rg")=>`(tactic| repeat walk_at "rg1")
section
variable {P:Mi} {w:World} {K:LO} {mg:Str->Option Value} {base:Heap}
def GU (C:Addr) (K:LO):Sp:=fun vs H Q _=>∃ (g:Addr) (n e a:Nat) (t:List (List Nat)),vs=[.ref g,.int (a:Int)]/\aX C H g n t e/\GT n t e/\a<n/\Q (.int (aZ n t e a:Int)) H
def yL (T:Txt K mg):aH P w K mg base CX0 1 T.lY.f T.lY.fd ["group","thing"] (GU T.aI K):=by
 refine T.lY.ok kA (fun vs H Q E h=>?_) (fun cdv A outer s H vs Q E hr h=>?_)
 ·obtain ⟨g,n,e,a,t,rfl,_⟩:=h;rfl
 obtain ⟨g,n,e,a,t,rfl,hG,gt,ha,q⟩:=h;obtain ⟨dx,r,b,hg,hT,hb⟩:=hG.get (K:=K);refine ⟨_,(ae (av (i:=2) kA.nd rfl (L8 rfl) ag)
   (ae (av (i:=3) kA.nd rfl (L8 rfl) (pv 1))
   (ae (i7 L7 (ax dQ (pv 3) (cM K rfl (pv 0) rfl) (aB _)) (ae (av (i:=3) kA.nd rfl (L8 rfl) (aw (ah K rfl) (aw (ah K rfl) (cM K rfl (pv 0) rfl) (pv 3) (fun _ _=>rfl)) (pv 1) (fun _ _=>rfl)))
   (af (av (i:=2) kA.nd rfl (L8 rfl) (au bj (pv 2) ag)))))
   (af (aN (pv 2)))))),?_⟩
 obtain ⟨o1,o2,o3⟩:=dJ gt ha;have o4:1<=aZ n t e a:=gj;symm;refine je (fun m σ' H'=>H'=H/\∃ k,1<=k/\k<=aZ n t e a/\m=aZ n t e a - k/\σ'=[some (.ref g),some (.int (a:Int)),some (.int (k:Int)),some (.int (aC t e a k:Int))]) (aZ n t e a - 1) ⟨rfl,1,Mb _,o4,rfl,by rw [kR gt ha];rfl⟩ ?_
 rintro m σ' H' ⟨rfl,k,k1,k2,rfl,rfl⟩;have kl:=bF gt ha k;symm;refine bH (fun c=>?_) (fun c=>?_)
 ·have k3:k<aZ n t e a:=by
   rcases Mv k (aZ n t e a) with z|z
   ·exact z
   ·have:k=aZ n t e a:=by omega
    rw [this] at c;exact absurd o2 c
  refine ⟨fun σ2 H2=>H2=H'/\σ2=[some (.ref g),some (.int (a:Int)),some (.int ((k+1:Nat):Int)),some (.int (aC t e a (k+1):Int))],fun σ2 H2 z=>⟨aZ n t e a - (k+1),by omega,z.1,k+1,by omega,k3,rfl,z.2⟩,?_⟩
  symm;refine cR hT rfl (gt.get kl) fun w1 hw1=>?_;symm;refine bM hw1 (gt.d4 kl ha) ?_;symm;exact ⟨rfl,rfl⟩
 ·have k3:k=aZ n t e a:=by
   rcases Mv k (aZ n t e a) with z|z
   ·exact absurd c (o3 k k1 z)
   ·omega
  symm;rw [k3];exact q
def F0 (k a:Nat):(Me k [V.int (a:Int)]).flatten=aO (Me k a):=by
 unfold aO
 induction k with
 | zero=>rfl
 | succ k ih=>rw [ND,Oz,ih,ND];rfl
def G7 (C:Addr) (K:LO):Sp:=fun vs H Q _=>∃ (g:Addr) (n e a:Nat) (z:Int) (t:List (List Nat)),vs=[.ref g,.int (a:Int),.int z]/\aX C H g n t e/\GT n t e/\a<n/\∀ H',aj H H'->Q (.int (aC t e a (z % (aZ n t e a:Int)).toNat:Int)) H'
def rh (T:Txt K mg):aH P w K mg base CX0 2 T.ku.f T.ku.fd ["group","thing","many"] (G7 T.aI K):=by
 refine T.ku.ok za (fun vs H Q E h=>?_) (fun cdv A outer s H vs Q E hr h=>?_)
 ·obtain ⟨g,n,e,a,z,t,rfl,_⟩:=h;rfl
 obtain ⟨g,n,e,a,z,t,rfl,hG,gt,ha,q⟩:=h;refine ⟨_,(ae (av (i:=3) za.nd rfl (L8 rfl) (au aV (pv 2) (aG T.lY (yL T) (hr.mono (by decide)) rfl (paF (pv 0) (paF (pv 1) aa)))))
   (af (aN (aG T.ic (nq T) (hr.mono (by decide)) rfl (paF (pv 0) (paF (au E2 (aW (paF (pv 1) aa)) (pv 3)) aa)))))),?_⟩
 have o1:=(dJ gt ha).1;have o4:1<=aZ n t e a:=gj;have n23:=gt.le;symm;refine ⟨g,n,e,a,t,rfl,hG,gt,ha,?_⟩;refine rX (show (0:Int)<(aZ n t e a:Int) by omega) ?_
 have z1:=QT z (show (aZ n t e a:Int)≠0 by omega)
 have z2:=Int.emod_lt_of_pos z (show (0:Int)<(aZ n t e a:Int) by omega)
 generalize hk:(z % (aZ n t e a:Int)).toNat=k at q;have ek:z % (aZ n t e a:Int)=(k:Int):=by omega
 rw [ek];walk_at "6";refine ⟨small (by show 1<=1000;decide),fun p hp=>?_⟩
 symm;refine ⟨p,_,_,rfl,rfl,ar,by omega,by omega,?_,fun p2 hp2=>?_⟩
 ·rw [Ny];exact small (by show 1 * k<=1000;omega)
 rw [Ny,F0];have s1:aj H (upd (upd H p (.lst [.int (a:Int)])) p2 (.lst (aO (Me k a)))):=(ay hp _).trans (ay hp2 _);symm;refine ⟨g,_,n,e,t,Me k a,rfl,aX.mono s1 hG,gt,eE ar,fun x hx=>by rw [(List.mem_replicate.mp hx).2];exact ha,?_⟩
 rw [zE];exact q _ s1
def cy (n:Nat) (t:List (List Nat)) (e:Nat):List Nat:=(LY n).map (aZ n t e)
def zN {n:Nat} {t:List (List Nat)} {e:Nat}:∀ s∈cy n t e,1<=s:=fun s hs=>by
 obtain ⟨a,_,rfl⟩:=Mm.mp hs;exact gj
def Hc (C:Addr) (K:LO):Sp:=fun vs H Q _=>∃ (g:Addr) (n e:Nat) (t:List (List Nat)),vs=[.ref g]/\aX C H g n t e/\GT n t e/\∀ k H',aj H H'->c8 (cy n t e) k->Q (.int (k:Int)) H'
def yN (T:Txt K mg):aH P w K mg base CX0 2 T.mB.f T.mB.fd ["group"] (Hc T.aI K):=by
 refine T.mB.ok m5 (fun vs H Q E h=>?_) (fun cdv A outer s H vs Q E hr h=>?_)
 ·obtain ⟨g,n,e,t,rfl,_⟩:=h;rfl
 obtain ⟨g,n,e,t,rfl,hG,gt,q⟩:=h;obtain ⟨dx,r,b,hg,hT,hb⟩:=hG.get (K:=K);refine ⟨_,(ae (dR (i:=1) rfl m5.nd rfl (L8 rfl) sL (a9 rfl T.bD (paF (cM K rfl (pv 0) rfl) aa)) (fun _ _ _ _=>⟨(aJ (i:=0) sL.nd rfl (L8 rfl)),bZ,(aG T.lY (yL T) (hr.mono (by decide)) rfl (paF (pv 1) (paF (pv 0) aa)))⟩) rfl)
   (ae (av (i:=2) m5.nd rfl (Qf rfl) ag)
   (ae (i7 L7 (fX (az (pU K rfl rfl) rfl T.Dc Qy (paF (dU rfl tE (aY K rfl (pv 1)) (fun _ _ _ _=>⟨(aJ (i:=0) tE.nd rfl (L8 rfl)),bZ,(dF dQ (au aV (pv 1) (pv 0)) ag (aB _))⟩)) aa))) (af (av (i:=2) m5.nd rfl (Qf rfl) (au bj (pv 2) ag))))
   (af (aN (pv 2)))))),?_⟩
 have n23:=gt.le;symm;refine jz K (n:=n) (β:=Nat) rfl (by omega) (fun i=>(cy n t e).take i) (fun σ'=>∃ y,σ'=[y,some (.ref g)]) rfl (fun i hi=>by rw [MF];omega) ⟨_,rfl⟩ ?_ ?_
 ·rintro i σ' H5 d' R R0 hi hs ⟨y,rfl⟩ hR hR0 hd';symm;refine ⟨g,n,e,i,t,rfl,aX.mono hs hG,gt,hi,?_⟩;exact hR _ _ _ _ ⟨_,rfl⟩ (aj.refl _) rfl (dk _ _ i hi)
 intro d1 H1 s1 h1;have hlen:(cy n t e).length=n:=by simp [cy]
 have h1':At K H1 (.ref d1) (cy n t e):=by
  have z:At K H1 (.ref d1) ((cy n t e).take n):=h1;rw [MU (by omega)] at z
  exact z
 symm;have b1:=Bi (zN (n:=n) (t:=t) (e:=e));refine je (fun m σ' H'=>aj H1 H'/\∃ k,1<=k/\k<=bnd (cy n t e)/\m=bnd (cy n t e) - k/\(∀ j,1<=j->j<k->∃ s,s∈cy n t e/\j % s≠0)/\σ'=[some (.ref g),some (.ref d1),some (.int (k:Int))]) (bnd (cy n t e) - 1) ⟨aj.refl _,1,Mb _,b1,rfl,fun j j1 j2=>absurd j1 (by omega),rfl⟩ ?_
 rintro m σ' H2 ⟨s2,k,k1,k2,rfl,hk,rfl⟩;have h2:=Rep.mono s2 h1';symm;refine i8 (β:=Bool) h2 (by omega) (fun i=>((cy n t e).map fun s=>!decide (k % s=0)).take i) (fun σ'=>∃ y,σ'=[y,some (.int (k:Int))]) rfl (fun i hi=>by rw [MF];omega) ⟨_,rfl⟩ ?_ ?_
 ·rintro i c w' σ' H3 d' R R0 hc hs hw ⟨y,rfl⟩ hR hR0 hd';cases (show w'=V.int (c:Int) from hw);have c1:0<c:=zN c (LS hc);symm;refine hR _ _ (!decide (k % c=0)) _ ⟨_,rfl⟩ (aj.refl _) rfl ?_;rw [MB,Mp,hc];rfl
 intro d2 H3 s3 h3;have h3':At K H3 (.ref d2) ((cy n t e).map fun s=>!decide (k % s=0)):=by
  have z:At K H3 (.ref d2) (((cy n t e).map fun s=>!decide (k % s=0)).take (cy n t e).length):=h3;rw [MU (by simp)] at z
  exact z
 symm;refine BQ h3' ?_;symm;cases hb':((cy n t e).map fun s=>!decide (k % s=0)).any id with
 | true =>
  refine oP ?_;have ex:∃ s,s∈cy n t e/\k % s≠0:=by
   obtain ⟨x,hx,ex⟩:=PN.mp hb';obtain ⟨s,hs,rfl⟩:=Mm.mp hx;exact ⟨s,hs,by simpa using ex⟩
  have k3:k<bnd (cy n t e):=by
   rcases Mv k (bnd (cy n t e)) with z|z
   ·exact z
   ·have ek:k=bnd (cy n t e):=by omega
    obtain ⟨s,hs,z⟩:=ex;rw [ek] at z;exact absurd (BN hs) z
  refine ⟨fun σ2 H4=>aj H1 H4/\σ2=[some (.ref g),some (.ref d1),some (.int ((k+1:Nat):Int))],fun σ2 H4 z=>⟨bnd (cy n t e) - (k+1),by omega,z.1,k+1,by omega,k3,rfl,fun j j1 j2=>?_,z.2⟩,?_⟩
  ·rcases Mv j k with z' | z'
   ·exact hk j j1 z'
   ·have:j=k:=by omega
    rw [this];exact ex
  symm;exact ⟨s2.trans s3,rfl⟩
 | false =>
  refine fq ?_;symm;refine q k H3 (s1.trans (s2.trans s3)) ⟨k1,fun s hs=>?_,hk⟩;rw [Qh] at hb';have:=hb' _ (Mm.mpr ⟨s,hs,rfl⟩)
  simpa using this
def ve (K:LO):Sp:=fun vs H Q _=>∃ (v:V) (n e:Nat) (t:List (List Nat)),vs=[v]/\At K H v t/\GT n t e/\Q (.int (e:Int)) H
def mn (T:Txt K mg):aH P w K mg base CX0 1 T.fD.f T.fD.fd ["_law_table"] (ve K):=by
 refine T.fD.ok mr (fun vs H Q E h=>?_) (fun cdv A outer s H vs Q E hr h=>?_)
 ·obtain ⟨v,n,e,t,rfl,_⟩:=h;rfl
 obtain ⟨v,n,e,t,rfl,hT,gt,q⟩:=h;refine ⟨_,(ae (a8 L7 rfl (a9 rfl T.bD (paF (az (aT K rfl) rfl T.bB Mf (paF (pv 0) aa)) aa)) (aJ (i:=1) mr.nd rfl (L8 rfl)) (af (aS (ax bK (aw (ah K rfl) (aw (ah K rfl) (pv 0) (pv 1) (fun _ _=>rfl)) (pv 1) (fun _ _=>rfl)) (pv 1) (aB _)) (af (aN (pv 1))) aE)))
   (af (aN ag))),?_⟩
 have n23:=gt.le;walk_at "rx";rw [gt.len];refine bV (n:=n) rfl (by omega) (fun i σ H'=>H'=H/\i<=e/\∃ y,σ=[some v,y]) ⟨rfl,MI _,_,rfl⟩ ?_ ?_
 ·rintro i σ' H' hi ⟨rfl,hle,y,rfl⟩;walk_at "3";refine cR hT rfl (gt.get hi) fun w1 hw1=>?_;walk_at "rx";refine bM hw1 (gt.d4 hi hi) ?_;walk_at "rx";refine aU (fun c=>?_) (fun c=>?_)
  ·walk_at "rx";rw [(gt.idem hi).mp c];exact q
  ·walk_at "rx";refine ⟨rfl,?_,_,rfl⟩;have:i≠e:=fun z=>c ((gt.idem hi).mpr z);omega
 ·rintro σ' H' ⟨rfl,hle,y,rfl⟩;exact absurd gt.elt (by omega)
def wO (K:LO):Sp:=fun vs H Q _=>∃ (v u:V) (n e:Nat) (t:List (List Nat)) (S:List Nat),vs=[v,u]/\At K H v t/\GT n t e/\At K H u S/\(∀ s∈S,s<n)/\∀ d H' R,H d=none->aj H H'->Gr K H' d R->Gen n t e S R->Q (.ref d) H'
def wZ (T:Txt K mg):aH P w K mg base CX0 2 T.iH.f T.iH.fd ["_law_table","_law_some"] (wO K):=by
 refine T.iH.ok ei (fun vs H Q E h=>?_) (fun cdv A outer s H vs Q E hr h=>?_)
 ·obtain ⟨v,u,n,e,t,S,rfl,_⟩:=h;rfl
 obtain ⟨v,u,n,e,t,S,rfl,hT,gt,hS,hlt,q⟩:=h;refine ⟨_,(ae (av (i:=2) ei.nd rfl (L8 rfl) (aW (paF (aG T.fD (mn T) (hr.mono (by decide)) rfl (paF (pv 0) aa)) aa)))
   (ae (av (i:=3) ei.nd rfl (L8 rfl) ag)
   (ae (i7 L7 (ax eF (pv 3) (az (aT K rfl) rfl T.bB Mf (paF (pv 2) aa)) (aB _)) (ae (a8 L7 rfl (aY K rfl (pv 1)) (aJ (i:=4) ei.nd rfl (L8 rfl)) (ae (av (i:=5) ei.nd rfl (L8 rfl) (aw (ah K rfl) (aw (ah K rfl) (pv 0) (aw (ah K rfl) (pv 2) (pv 3) (fun _ _=>rfl)) (fun _ _=>rfl)) (pv 4) (fun _ _=>rfl)))
   (af (aS (ax (f6 K rfl) (pv 5) (pv 2) (by with_unfolding_all rfl)) (af (a7 (cO K rfl Mj MK ML cC (pv 2) (paF (pv 5) aa)))) aE))))
   (af (av (i:=3) ei.nd rfl (L8 rfl) (au bj (pv 3) ag)))))
   (af (aN (az (ou K rfl) rfl T.jf NY (paF (pv 2) aa))))))),?_⟩
 have n23:=gt.le;walk_at "4";refine ⟨v,n,e,t,rfl,hT,gt,?_⟩;have s1:aj H H:=aj.refl H;walk_at "rx";refine ⟨small (by show 1<=1000;decide),fun p hp=>?_⟩
 walk_at "rx";have fp:H p=none:=s1.free hp;refine je (fun m σ' H'=>aj H H'/\∃ (F:List Nat) (k:Nat) (x y:Option V),m=n - k/\Gr K H' p F/\gq n t e S F k/\σ'=[some v,some u,some (.ref p),some (.int (k:Int)),x,y]) (n - 0)
  ⟨s1.trans (ay hp _),[e],0,none,none,rfl,⟨_,ar,.cons rfl .nil⟩,⟨by simp,fun x hx=>by rw [LZ.mp hx];exact gt.elt,by simp,MI _,fun i _ hi=>absurd hi (by omega),fun x hx=>⟨[],by simp,(LZ.mp hx).symm⟩⟩,rfl⟩ ?_
 rintro m σ' H2 ⟨s2,F,k,x,y,rfl,g2,gr,rfl⟩;have aF:=g2.at;have fl:=gr.len;walk_at "rx";refine aU (fun c=>?_) (fun c=>?_)
 ·obtain ⟨a,ha⟩:∃ a,F[k]?=some a:=⟨F[k],LP c⟩;have haF:a∈F:=LS ha;have han:=gr.lt a haF;refine ⟨fun σ3 H3=>aj H H3/\∃ (F3:List Nat) (x y:Option V),Gr K H3 p F3/\gq n t e S F3 (k+1)/\σ3=[some v,some u,some (.ref p),some (.int ((k+1:Nat):Int)),x,y],fun σ3 H3 z=>?_,?_⟩
  ·obtain ⟨z1,F3,x3,y3,z2,z3,z4⟩:=z;have:=z3.le;have:=z3.len;exact ⟨n - (k+1),by omega,z1,F3,k+1,x3,y3,rfl,z2,z3,z4⟩
  walk_at "rx";refine fg (H₀:=H) hS (fun j σ3 H3=>aj H H3/\∃ (F3:List Nat) (x y:Option V),Gr K H3 p F3/\gq n t e S F3 k/\F3[k]?=some a/\(∀ s∈S.take j,tb t a s∈F3)/\σ3=[some v,some u,some (.ref p),some (.int (k:Int)),x,y]) ⟨s2,F,x,y,g2,gr,ha,fun s hs=>absurd hs (by simp),rfl⟩ (fun j σ3 H3 z=>z.1) ?_ ?_
  ·rintro j b w' σ3 H3 hb hw ⟨s3,F3,x3,y3,g3,gr3,ha3,hj,rfl⟩;cases (show w'=V.int (b:Int) from hw);have hbS:b∈S:=LS hb;have hbn:=hlt b hbS;have aF3:=g3.at;have hT3:=Rep.mono s3 hT;have fl3:=gr3.len;walk_at "rx";refine bM aF3 ha3 ?_;refine cR hT3 rfl (gt.get han) fun w1 hw1=>?_;walk_at "rx";refine bM hw1 (gt.d4 han hbn) ?_;walk_at "3";have more:∀ F':List Nat,(∀ z∈F3,z∈F')->tb t a b∈F'->∀ s∈S.take (j+1),tb t a s∈F':=fun F' h1 h2 s hs=>by
    rw [MB,hb] at hs;rcases Mc.mp hs with z|z
    ·exact h1 _ (hj s z)
    ·have:s=b:=by simpa using z
     rw [this];exact h2
   refine bH (fun z=>?_) (fun z=>?_)
   ·walk_at "rx";refine ⟨g3.ty,?_⟩;walk_at "rx";refine fU (b:=tb t a b) g3 (by omega) rfl fun H4 g4 k4 _=>?_
    exact ⟨aj.but fp s3 k4,_,_,_,g4,gr3.put gt (LS ha3) hbS hbn z,by rw [MG (LR.mp ha3).1];exact ha3,more _ (fun y hy=>NK _ hy) (by simp),rfl⟩
   ·walk_at "rx";exact ⟨s3,_,_,_,g3,gr3,ha3,more _ (fun y hy=>hy) z,rfl⟩
  ·rintro σ3 H3 ⟨s3,F3,x3,y3,g3,gr3,ha3,hj,rfl⟩;rw [MJ] at hj;walk_at "rx";exact ⟨s3,F3,_,_,g3,gr3.next ha3 hj,rfl⟩
 ·walk_at "rn";refine zP aF (by omega) fun d l' H3 hd s3 hpm hsr g3=>?_
  exact q d H3 l' (s2.free hd) (s2.trans s3) g3 (gr.gen (by omega) hpm hsr)
def Ar {n e k:Nat} {t:List (List Nat)} (gt:GT n t e) (h1:1<=k) (hk:∀ a,a<n->aC t e a k=e) (hj:∀ j,1<=j->j<k->∃ a,a<n/\aC t e a j≠e):c8 (cy n t e) k:=by
 refine ⟨h1,fun s hs=>?_,fun j j1 j2=>?_⟩
 ·obtain ⟨a,ha,rfl⟩:=Mm.mp hs;exact Nat.mod_eq_zero_of_dvd (Jd gt (Ma.mp ha) (hk a (Ma.mp ha)))
 ·obtain ⟨a,ha,q⟩:=hj j j1 j2;refine ⟨aZ n t e a,Mm.mpr ⟨a,Ma.mpr ha,rfl⟩,fun z=>q ?_⟩;obtain ⟨c,rfl⟩:=Nq z;exact jj gt ha (dJ gt ha).2.1 c
def sD {n e:Nat} {f:Nat->Nat}:(LY n).map f=Me n e↔∀ a,a<n->f a=e:=by
 constructor
 ·intro h a ha;have:((LY n).map f)[a]?=(Me n e)[a]?:=by rw [h]
  simpa [ha] using this
 ·intro h;refine List.ext_getElem (by simp) fun i h1 h2=>?_
  simp at h1
  simpa using h i h1
def zk (K:LO):Sp:=fun vs H Q _=>∃ (v:V) (n e:Nat) (t:List (List Nat)),vs=[v]/\At K H v t/\GT n t e/\∀ k H',aj H H'->c8 (cy n t e) k->k<=n->Q (.int (k:Int)) H'
def oU (T:Txt K mg):aH P w K mg base CX0 2 T.gF.f T.gF.fd ["_law_table"] (zk K):=by
 refine T.gF.ok eU (fun vs H Q E h=>?_) (fun cdv A outer s H vs Q E hr h=>?_)
 ·obtain ⟨v,n,e,t,rfl,_⟩:=h;rfl
 obtain ⟨v,n,e,t,rfl,hT,gt,q⟩:=h;refine ⟨_,(ae (dR (i:=1) rfl eU.nd rfl (L8 rfl) l7 (aY K rfl (pv 0)) (fun _ _ _ _=>⟨(aJ (i:=0) l7.nd rfl (L8 rfl)),bZ,(aG T.fD (mn T) (hr.mono (by decide)) rfl (paF (pv 1) aa))⟩) rfl)
   (ae (av (i:=2) eU.nd rfl (Qf rfl) (dz (my rfl) rfl T.kJ NQ (paF (dz qM rfl T.bD RQ (paF (az (aT K rfl) rfl T.bB Mf (paF (pv 0) aa)) aa)) aa)))
   (ae (av (i:=3) eU.nd rfl (L8 rfl) ag)
   (ae (i7 L7 (ax (i6 K rfl Nat hr.units) (pv 2) (pv 1) (aB _)) (ae (av (i:=2) eU.nd rfl (Qf rfl) (dU rfl l6 (a9 rfl T.bD (paF (az (aT K rfl) rfl T.bB Mf (paF (pv 0) aa)) aa)) (fun _ _ _ _=>⟨(aJ (i:=0) l6.nd rfl (L8 rfl)),bZ,(aw (ah K rfl) (aw (ah K rfl) (pv 2) (aw (ah K rfl) (pv 1) (pv 0) (fun _ _=>rfl)) (fun _ _=>rfl)) (pv 0) (fun _ _=>rfl))⟩)))
   (af (av (i:=3) eU.nd rfl (L8 rfl) (au bj (pv 3) ag)))))
   (af (aN (pv 3))))))),?_⟩
 have n1:=gt.pos;have n23:=gt.le;walk_at "rn";refine i8 (β:=Nat) hT (by rw [gt.len];omega) (fun i=>Me i e) (fun σ'=>∃ y,σ'=[y,some v]) rfl (fun i _=>by simp) ⟨_,rfl⟩ ?_ ?_
 ·rintro i c w' σ' H1 d' R R0 hc hs hw ⟨y,rfl⟩ hR hR0 hd';walk_at "rn";refine ⟨v,n,e,t,rfl,Rep.mono hs hT,gt,?_⟩;exact hR _ _ _ _ ⟨_,rfl⟩ (aj.refl _) rfl Om
 intro du H1 s1 hU;rw [gt.len] at hU;have hT1:=Rep.mono s1 hT;walk_at "rx";rw [gt.len];refine BL fun pr hpr=>?_;walk_at "rx";refine qN (K:=K) ar (by omega) fun dl H2 _ s2 gl=>?_
 have s12:aj H1 H2:=(ay hpr _).trans s2;have e1:LY n=(LY n).map fun a=>aC t e a 1:=by
  refine List.ext_getElem (by simp) fun i h1 h2=>?_
  simp at h1
  simpa using (kR gt h1).symm
 have a1:=gl.at;rw [e1] at a1;walk_at "rx";refine je (fun m σ' H'=>aj H1 H'/\∃ (k:Nat) (p:Addr),m=n - k/\1<=k/\k<=n/\(∀ j,1<=j->j<k->∃ a,a<n/\aC t e a j≠e)/\At K H' (.ref p) ((LY n).map fun a=>aC t e a k)/\σ'=[some v,some (.ref du),some (.ref p),some (.int (k:Int))]) (n - 1)
  ⟨s12,1,dl,rfl,Mb _,n1,fun j j1 j2=>absurd j2 (by omega),a1,rfl⟩ ?_
 rintro m σ' H3 ⟨s3,k,p,rfl,k1,kn,hj,aP,rfl⟩;have hU3:=Rep.mono s3 hU;have hT3:=Rep.mono s3 hT1;walk_at "rx";refine mL aP hU3 ?_;walk_at "rx";refine bH (fun z=>?_) (fun z=>?_)
 ·have zz:∃ a,a<n/\aC t e a k≠e:=by
   refine OQ fun no=>z (sD.mpr fun a ha=>?_);exact OQ fun q=>no ⟨a,ha,q⟩
  have kl:k<n:=by
   rcases Mv k n with y|y
   ·exact y
   ·obtain ⟨a,ha,q⟩:=zz;have:k=n:=by omega
    rw [this] at q;exact absurd (JP gt ha) q
  refine ⟨fun σ4 H4=>aj H1 H4/\∃ (p:Addr),At K H4 (.ref p) ((LY n).map fun a=>aC t e a (k+1))/\σ4=[some v,some (.ref du),some (.ref p),some (.int ((k+1:Nat):Int))],fun σ4 H4 y=>?_,?_⟩
  ·obtain ⟨y1,p',y2,y3⟩:=y;refine ⟨n - (k+1),by omega,y1,k+1,p',rfl,by omega,by omega,fun j j1 j2=>?_,y2,y3⟩
   rcases Mv j k with u|u
   ·exact hj j j1 u
   ·have:j=k:=by omega
    rw [this];exact zz
  walk_at "rx";rw [gt.len];refine jz K (n:=n) (β:=Nat) rfl (by omega) (fun i=>((LY n).map fun a=>aC t e a (k+1)).take i) (fun σ'=>∃ y,σ'=[y,some (.ref p),some v]) rfl (fun i _=>by rw [MF];omega) ⟨_,rfl⟩ ?_ ?_
  ·rintro i σ' H4 d' R R0 hi hs ⟨y,rfl⟩ hR hR0 hd';have aP4:=Rep.mono hs aP;have hT4:=Rep.mono hs hT3;have hpl:=bF gt hi k;walk_at "rn";refine bM aP4 (c:=aC t e i k) (by simp [hi]) ?_
   refine cR hT4 rfl (gt.get hpl) fun w1 hw1=>?_;walk_at "rn";refine bM hw1 (gt.d4 hpl hi) ?_;exact hR _ _ _ _ ⟨_,rfl⟩ (aj.refl _) rfl (dk _ n i hi)
  intro dn H4 s4 h4;have h4':At K H4 (.ref dn) (((LY n).map fun a=>aC t e a (k+1)).take n):=h4;rw [MU (by simp)] at h4'
  walk_at "rx";exact ⟨s3.trans s4,dn,h4',rfl⟩
 ·walk_at "rx";exact q k H3 (s1.trans s3) (Ar gt k1 (sD.mp z) hj) kn
def J5:Option Nat->V
 | some b=>.int (b:Int)
 | none=>.non
def LM (n:Nat) (t:List (List Nat)) (a:Nat):Prop:=∀ b,b<n->tb t a b=tb t b a
instance {n:Nat} {t:List (List Nat)} {a:Nat}:Decidable (LM n t a):=inferInstanceAs (Decidable (∀ b,b<n->tb t a b=tb t b a))
def D3 (C:Addr) (K:LO):Sp:=fun vs H Q _=>∃ (g:Addr) (n e a b:Nat) (t:List (List Nat)),vs=[.ref g,.int (a:Int),.int (b:Int)]/\aX C H g n t e/\GT n t e/\a<n/\b<n/\∀ H',aj H H'->Q (.int (de n t e a b:Int)) H'
def pO (T:Txt K mg):aH P w K mg base CX0 2 T.jc.f T.jc.fd ["group","thing","by"] (D3 T.aI K):=by
 refine T.jc.ok EK (fun vs H Q E h=>?_) (fun cdv A outer s H vs Q E hr h=>?_)
 ·obtain ⟨g,n,e,a,b,t,rfl,_⟩:=h;rfl
 obtain ⟨g,n,e,a,b,t,rfl,hG,gt,ha,hb,q⟩:=h;obtain ⟨dx,r,bk,hg,hT,hB⟩:=hG.get (K:=K);refine ⟨_,(af (aN (aG T.ic (nq T) (hr.mono (by decide)) rfl (paF (pv 0) (paF (aW (paF (pv 2) (paF (pv 1) (paF (aw (ah K rfl) (cM K rfl (pv 0) rfl) (pv 2) (fun _ _=>rfl)) aa)))) aa))))),?_⟩
 walk_at "6";refine bM hB (uK hb) ?_;symm;refine ⟨small (by show 3<=1000;decide),fun p hp=>?_⟩
 have s1:aj H (upd H p (.lst (aO [b,a,bf n t e b]))):=ay hp _;symm;refine ⟨g,_,n,e,t,[b,a,bf n t e b],rfl,aX.mono s1 hG,gt,eE ar,fun x hx=>?_,?_⟩
 ·simp only [Mq,OH,or_false] at hx;rcases hx with rfl|rfl|rfl
  ·exact hb
  ·exact ha
  ·exact gt.ft hb
 ·have e1:prd t e [b,a,bf n t e b]=de n t e a b:=by
   show tb t (tb t (tb t e b) a) (bf n t e b)=_;rw [gt.unl b hb];rfl
  rw [e1];exact q _ s1
end
section
def C1 (H:Hp) (x:V):Option (Nat×Nat)->Prop
 | none=>x=.non
 | some (a,b)=>∃ p,x=.ref p/\H p=some (.tup [.int (a:Int),.int (b:Int)])
def C1.mono {H H':Hp} {x:V} (s:aj H H'):∀ {o:Option (Nat×Nat)},C1 H x o->C1 H' x o
 | none,h=>h
 | some _,⟨p,e,hp⟩=>⟨p,e,s _ _ hp⟩
def FQ (C:Addr) (K:LO):Sp:=fun vs H Q _=>∃ (g:Addr) (v:V) (n e:Nat) (t:List (List Nat)) (R:List Nat),vs=[.ref g,v]/\aX C H g n t e/\GT n t e/\At K H v R/\IsPart n t R /\
 ∀ d H' M,H d=none->aj H H'->Gr K H' d M->Gen n t e (iO n t e R) M->Q (.ref d) H'
def B0 (C:Addr) (K:LO):Sp:=fun vs H Q _=>∃ (g:Addr) (v:V) (n e:Nat) (t:List (List Nat)) (S:List Nat),vs=[.ref g,v]/\aX C H g n t e/\GT n t e/\At K H v S/\(∀ s∈S,s<n)/\S.length<=63 /\
 ∀ p dp dw H' R W pw,H dp=none->H dw=none->(∀ q∈pw,H q=none)->dp≠dw->dp∉pw->aj H H'->H' p=some (.tup [.ref dp,.ref dw])->H' dp=some (.lst (aO R))->Tbl H' dw W pw->Gen n t e S R->Words n t e S R W->Q (.ref p) H'
end
section
variable {P:Mi} {w:World} {K:LO} {mg:Str->Option Value} {base:Heap}
def IsPart.ke {n e:Nat} {t:List (List Nat)} {R:List Nat} (h:IsPart n t R) (g:GT n t e):R.length<=23:=M7 h.len g.le
def xb (C:Addr) (K:LO):Sp:=fun vs H Q _=>∃ (g:Addr) (v:V) (n e:Nat) (t:List (List Nat)) (R:List Nat),vs=[.ref g,v]/\aX C H g n t e/\GT n t e/\At K H v R/\(∀ x∈R,x<n)/\R.length<=64/\∀ H',aj H H'->Q (.bl true) H'
def wB (T:Txt K mg):aH P w K mg base CX0 1 T.dC.f T.dC.fd ["group","some"] (xb T.aI K):=by
 refine T.dC.ok nV (fun vs H Q E h=>?_) (fun cdv A outer s H vs Q E hr h=>?_)
 ·obtain ⟨g,v,n,e,t,R,rfl,_⟩:=h;rfl
 obtain ⟨g,v,n,e,t,R,rfl,hG,gt,hR,hlt,hlen,q⟩:=h;obtain ⟨dx,r,bk,hg,hT,hB⟩:=hG.get (K:=K);refine ⟨_,(af (aN (az (lG K rfl rfl) rfl T.xv Pn (paF (dU rfl fR (aY K rfl (pv 1)) (fun _ _ _ _=>⟨(aJ (i:=0) fR.nd rfl (L8 rfl)),bZ,(jF (dF lj (pv 0) ag (aB _)) (lX (dF eF (pv 0) (cM K rfl (pv 1) rfl) (aB _))))⟩)) aa)))),?_⟩;symm;refine i8 (β:=Bool) hR (by omega) (fun i=>Me i true) (fun σ'=>∃ y,σ'=[y,some (.ref g)]) rfl (fun i hi=>by simp) ⟨_,rfl⟩ ?_ ?_
 ·rintro i c w' σ' H3 d' R' R0 hc hs hw ⟨y,rfl⟩ hR' hR0 hd';cases (show w'=V.int (c:Int) from hw);have hg3:=hs _ _ hg;have c1:=hlt c (LS hc);symm;refine aU (fun _=>?_) (fun z=>absurd (MI _) z);symm;rw [decide_eq_true c1];exact hR' _ _ true _ ⟨_,rfl⟩ (aj.refl _) rfl Om
 intro d2 H3 s3 h3;symm;refine tU h3 ?_;rw [show (Me R.length true).all id=true by simp]
 exact q H3 s3
def G9 (K:LO):Sp:=fun vs H Q _=>∃ (v:V) (R:List Nat),vs=[v]/\At K H v R/\R≠[]/\R.Pairwise (· < ·)/\R.length<=64/\∀ H',aj H H'->Q (.bl true) H'
def Gv (T:Txt K mg):aH P w K mg base CX0 1 T.hZ.f T.hZ.fd ["some"] (G9 K):=by
 refine T.hZ.ok yF (fun vs H Q E h=>?_) (fun cdv A outer s H vs Q E hr h=>?_)
 ·obtain ⟨v,R,rfl,_⟩:=h;rfl
 obtain ⟨v,R,rfl,hR,ne,srt,hlen,q⟩:=h;have l0:0<R.length:=M9.mpr ne;refine ⟨_,(af (aN (az (lG K rfl rfl) rfl T.xv Pn (paF (dU rfl jP (a9 rfl T.bD (paF (au f9 (az (aT K rfl) rfl T.bB Mf (paF (pv 0) aa)) ag) aa)) (fun _ _ _ _=>⟨(aJ (i:=0) jP.nd rfl (L8 rfl)),bZ,(dF eF (aw (ah K rfl) (pv 1) (pv 0) (fun _ _=>rfl)) (aw (ah K rfl) (pv 1) (au bj (pv 0) ag) (fun _ _=>rfl)) (aB _))⟩)) aa)))),?_⟩;symm;refine jz K (n:=R.length - 1) (β:=Bool) (by omega) (by omega) (fun i=>Me i true) (fun σ'=>∃ y,σ'=[y,some v]) rfl (fun i hi=>by simp) ⟨_,rfl⟩ ?_ ?_
 ·rintro i σ' H3 d' R' R0 hi hs ⟨y,rfl⟩ hR' hR0 hd';have hR3:=Rep.mono hs hR;symm;refine bM hR3 (LP (by omega)) ?_
  symm;refine bM hR3 (LP (by omega)) ?_
  symm;rw [decide_eq_true ((Mx.mp srt) i (i+1) (by omega) (by omega) (by omega))]
  exact hR' _ _ true _ ⟨_,rfl⟩ (aj.refl _) rfl Om
 intro d2 H3 s3 h3;symm;refine tU h3 ?_;rw [show (Me (R.length - 1) true).all id=true by simp]
 exact q H3 s3
def qB (C:Addr) (K:LO):Sp:=fun vs H Q _=>∃ (g:Addr) (v:V) (n e:Nat) (t:List (List Nat)) (R:List Nat),vs=[.ref g,v]/\aX C H g n t e/\GT n t e/\At K H v R/\IsPart n t R/\Q (.bl true) H
def qA (T:Txt K mg):aH P w K mg base CX0 1 T.cg.f T.cg.fd ["group","some"] (qB T.aI K):=by
 refine T.cg.ok c6 (fun vs H Q E h=>?_) (fun cdv A outer s H vs Q E hr h=>?_)
 ·obtain ⟨g,v,n,e,t,R,rfl,_⟩:=h;rfl
 obtain ⟨g,v,n,e,t,R,rfl,hG,gt,hR,pt,q⟩:=h;obtain ⟨dx,r,bk,hg,hT,hB⟩:=hG.get (K:=K);refine ⟨_,(ae (a8 L7 rfl (aY K rfl (pv 1)) (aJ (i:=2) c6.nd rfl (L8 rfl)) (af (a8 L7 rfl (aY K rfl (pv 1)) (aJ (i:=3) c6.nd rfl (L8 rfl)) (af (aS (ax (f6 K rfl) (aw (ah K rfl) (aw (ah K rfl) (cM K rfl (pv 0) rfl) (pv 2) (fun _ _=>rfl)) (pv 3) (fun _ _=>rfl)) (pv 1) (by with_unfolding_all rfl)) (af (aN gQ)) aE)))))
   (af (aN gQ))),?_⟩
 symm;refine dE hR (fun i σ H'=>H'=H/\∃ x y,σ=[some (.ref g),some v,x,y]) ⟨rfl,_,_,rfl⟩ (fun i σ H' h=>by rw [h.1];exact aj.refl _) ?_ ?_
 ·rintro i a w' σ' H' ha hw ⟨rfl,x,y,rfl⟩;cases (show w'=V.int (a:Int) from hw);have haR:=LS ha;symm;refine dE hR (fun i σ H''=>H''=H'/\∃ y,σ=[some (.ref g),some v,some (.int (a:Int)),y]) ⟨rfl,_,rfl⟩ (fun i σ H' h=>by rw [h.1];exact aj.refl _) ?_ ?_
  ·rintro j b w2 σ' H'' hb hw2 ⟨rfl,y,rfl⟩;cases (show w2=V.int (b:Int) from hw2);have hbR:=LS hb;walk_at "5";refine cR hT rfl (gt.get (pt.lt a haR)) fun w1 hw1=>?_;symm;refine bM hw1 (gt.d4 (pt.lt a haR) (pt.lt b hbR)) ?_;symm;refine bH (fun z=>absurd (pt.cl a haR b hbR) z) (fun _=>?_);symm;exact ⟨rfl,_,rfl⟩
  ·rintro σ' H'' ⟨rfl,y,rfl⟩;exact ⟨rfl,_,_,rfl⟩
 ·rintro σ' H' ⟨rfl,x,y,rfl⟩;symm;exact q
def B3 (C:Addr) (K:LO):Sp:=fun vs H Q _=>∃ (g:Addr) (v:V) (n e:Nat) (t:List (List Nat)) (R:List Nat),vs=[.ref g,v]/\aX C H g n t e/\GT n t e/\At K H v R/\IsPart n t R/\∀ H',aj H H'->Q (.bl true) H'
def Du (T:Txt K mg):aH P w K mg base CX0 2 T.fc.f T.fc.fd ["group","some"] (B3 T.aI K):=by
 refine T.fc.ok tM (fun vs H Q E h=>?_) (fun cdv A outer s H vs Q E hr h=>?_)
 ·obtain ⟨g,v,n,e,t,R,rfl,_⟩:=h;rfl
 obtain ⟨g,v,n,e,t,R,rfl,hG,gt,hR,pt,q⟩:=h;have l0:0<R.length:=M9.mpr pt.ne;have l23:=pt.ke gt;refine ⟨_,(af (aN (jF (dF fP (az (aT K rfl) rfl T.bB Mf (paF (pv 1) aa)) ag (aB _)) (jF (aG T.dC (wB T) (hr.mono (by decide)) rfl (paF (pv 0) (paF (pv 1) aa))) (jF (aG T.hZ (Gv T) (hr.mono (by decide)) rfl (paF (pv 1) aa)) (lX (aG T.cg (qA T) (hr.mono (by decide)) rfl (paF (pv 0) (paF (pv 1) aa))))))))),?_⟩
 symm;refine aU (fun _=>?_) (fun z=>absurd l0 z);symm;refine ⟨g,v,n,e,t,R,rfl,hG,gt,hR,pt.lt,by omega,fun H1 s1=>?_⟩
 symm;refine ⟨v,R,rfl,Rep.mono s1 hR,pt.ne,pt.srt,by omega,fun H2 s2=>?_⟩
 symm;have s02:=s1.trans s2;exact ⟨g,v,n,e,t,R,rfl,hG.mono s02,gt,Rep.mono s02 hR,pt,q H2 s02⟩
def nU (C:Addr) (K:LO):Sp:=fun vs H Q _=>∃ (g:Addr) (v:V) (n e:Nat) (t:List (List Nat)) (R:List Nat),vs=[.ref g,v]/\aX C H g n t e/\GT n t e/\At K H v R/\IsPart n t R/\∀ H',aj H H'->Q .non H'
def gP (T:Txt K mg):aH P w K mg base CX0 3 T.bW.f T.bW.fd ["group","some"] (nU T.aI K):=by
 refine T.bW.ok oh (fun vs H Q E h=>?_) (fun cdv A outer s H vs Q E hr h=>?_)
 ·obtain ⟨g,v,n,e,t,R,rfl,_⟩:=h;rfl
 obtain ⟨g,v,n,e,t,R,rfl,hG,gt,hR,pt,q⟩:=h;refine ⟨_,(af (aS (uf (fX (aG T.fc (Du T) (hr.mono (by decide)) rfl (paF (pv 0) (paF (pv 1) aa))))) (af cY) aE)),?_⟩
 walk_at "5";refine ⟨g,v,n,e,t,R,rfl,hG,gt,hR,pt,fun H1 s1=>?_⟩;symm;refine fq ?_;symm;exact q H1 s1
def B7 (C:Addr) (K:LO):Sp:=fun vs H Q _=>∃ (g:Addr) (v:V) (n e b:Nat) (t:List (List Nat)) (R:List Nat),vs=[.ref g,v,.int (b:Int)]/\aX C H g n t e/\GT n t e/\At K H v R/\IsPart n t R/\b<n /\
 ∀ H' o,aj H H'->mU n t e R b o->Q (J5 o) H'
def sx (T:Txt K mg):aH P w K mg base CX0 3 T.jA.f T.jA.fd ["group","part","by"] (B7 T.aI K):=by
 refine T.jA.ok ui (fun vs H Q E h=>?_) (fun cdv A outer s H vs Q E hr h=>?_)
 ·obtain ⟨g,v,n,e,b,t,R,rfl,_⟩:=h;rfl
 obtain ⟨g,v,n,e,b,t,R,rfl,hG,gt,hR,pt,hb,q⟩:=h;refine ⟨_,(ae (a8 L7 rfl (aY K rfl (pv 1)) (aJ (i:=3) ui.nd rfl (L8 rfl)) (af (aS (ax (f6 K rfl) (aG T.jc (pO T) (hr.mono (by decide)) rfl (paF (pv 0) (paF (pv 3) (paF (pv 2) aa)))) (pv 1) (by with_unfolding_all rfl)) (af (aN (pv 3))) aE)))
   (af (aN yV))),?_⟩
 symm;refine dE hR (fun i σ H'=>aj H H'/\(∀ h∈R.take i,de n t e h b∈R)/\∃ x,σ=[some (.ref g),some v,some (.int (b:Int)),x]) ⟨aj.refl _,by simp,_,rfl⟩ (fun i σ H' h=>h.1) ?_ ?_
 ·rintro i a w' σ' H' ha hw ⟨s1,hf,x,rfl⟩;cases (show w'=V.int (a:Int) from hw);have haR:=LS ha;have hR1:=Rep.mono s1 hR;walk_at "5";refine ⟨g,n,e,a,b,t,rfl,hG.mono s1,gt,pt.lt a haR,hb,fun H2 s2=>?_⟩;have hR2:=Rep.mono s2 hR1;symm;refine bH (fun z=>?_) (fun z=>?_)
  ·symm;refine q H2 (some a) (s1.trans s2) ⟨haR,z,fun h' hh' hlt=>hf h' ?_⟩;obtain ⟨j,hj⟩:=Ms hh';obtain ⟨i1,e1⟩:=LR.mp ha;obtain ⟨i2,e2⟩:=LR.mp hj;have hji:j<i:=by
    rcases Ni j i with c|c|c
    ·exact c
    ·subst c;omega
    ·have:=(Mx.mp pt.srt) i j i1 i2 c;omega
   exact LS (i:=j) (by rw [NA hji];exact hj)
  ·symm;refine ⟨s1.trans s2,fun h hh=>?_,_,rfl⟩;rw [MB,ha] at hh;rcases Mc.mp hh with c|c
   ·exact hf h c
   ·rw [LZ.mp c];exact z
 ·rintro σ' H' ⟨s1,hf,x,rfl⟩;rw [MJ] at hf;symm;exact q H' none s1 hf
structure CW (H:Hp) (dw a:Addr) (F:List Nat) (W:List (List Nat)) (ps:List Addr):Prop where
 top:H dw=some (.dK (iw F ps))
 lst:H a=some (.lst (aO F))
 l1:ps.length=F.length
 l2:W.length=F.length
 nd:ps.Nodup
 ap:a∉ps
 row:∀ (i:Nat) (p:Addr) (w:List Nat),ps[i]?=some p->W[i]?=some w->H p=some (.lst (aO w))
def CW.mono {H H':Hp} {dw a:Addr} {F:List Nat} {W:List (List Nat)} {ps:List Addr} (s:aj H H') (c:CW H dw a F W ps):CW H' dw a F W ps :=
 ⟨s _ _ c.top,s _ _ c.lst,c.l1,c.l2,c.nd,c.ap,fun i p w e1 e2=>s _ _ (c.row i p w e1 e2)⟩
def gZ {α:Type} {l:List α} {x y:α} {i:Nat} (h:(l++[x])[i]?=some y):(i<l.length/\l[i]?=some y)\/(i=l.length/\x=y):=by
 rcases Mv i l.length with z|z
 ·rw [MG z] at h;exact .inl ⟨z,h⟩
 ·rw [MT z] at h;rcases N0 (i - l.length) with c|c
  ·rw [c] at h;exact .inr ⟨by omega,ME h⟩
  ·rw [MM (by simp;omega)] at h;cases h
def CW.put {H H2:Hp} {dw a q:Addr} {F:List Nat} {W:List (List Nat)} {ps:List Addr} {f:Nat} {w:List Nat} (c:CW H dw a F W ps) (hq:H q=some (.lst (aO w))) (hn:q∉ps) (hqa:q≠a) (h1:H2 dw=some (.dK (iw (F++[f]) (ps++[q])))) (h2:H2 a=some (.lst (aO (F++[f]))))
  (k:∀ b o,b≠a->b≠dw->H b=some o->H2 b=some o):CW H2 dw a (F++[f]) (W++[w]) (ps++[q]):=by
 have e1:=c.l1;have e2:=c.l2;refine ⟨h1,h2,by simp [e1],by simp [e2],uI c.nd hn,fun z=>?_,fun i p w' g1 g2=>?_⟩
 ·rcases Mc.mp z with z|z
  ·exact c.ap z
  ·exact hqa (LZ.mp z).symm
 ·rcases gZ g1 with ⟨i1,g1'⟩|⟨i1,g1'⟩
  ·rcases gZ g2 with ⟨i2,g2'⟩|⟨i2,g2'⟩
   ·have r:=c.row i p w' g1' g2';exact k p _ (fun z=>c.ap (z ▸ LS g1')) (fun z=>by rw [z,c.top] at r;cases r) r
   ·exact absurd i1 (by omega)
  ·rcases gZ g2 with ⟨i2,g2'⟩|⟨i2,g2'⟩
   ·exact absurd i2 (by omega)
   ·subst g1' g2';exact k q _ hqa (fun z=>by rw [z,c.top] at hq;cases hq) hq
def DH (T:Txt K mg):aH P w K mg base CX0 1 T.lB.f T.lB.fd ["group","some"] (B0 T.aI K):=by
 refine T.lB.ok eG (fun vs H Q E h=>?_) (fun cdv A outer s H vs Q E hr h=>?_)
 ·obtain ⟨g,v,n,e,t,S,rfl,_⟩:=h;rfl
 obtain ⟨g,v,n,e,t,S,rfl,hG,gt,hS,hlt,hsl,q⟩:=h;have n23:=gt.le;obtain ⟨dx,r,bk,hg,hT,hB⟩:=hG.get (K:=K);refine ⟨_,(ae (av (i:=2) eG.nd rfl (Qf rfl) (Il (FV (cM K rfl (pv 0) rfl) (aW aa) IZ) rfl rfl (by simp) (by decide)))
   (ae (av (i:=3) eG.nd rfl (L8 rfl) (aW (paF (cM K rfl (pv 0) rfl) aa)))
   (ae (av (i:=4) eG.nd rfl (L8 rfl) ag)
   (ae (i7 L7 (ax eF (pv 4) (az (aT K rfl) rfl T.bB Mf (paF (pv 3) aa)) (aB _)) (ae (a8 L7 rfl (aY K rfl (pv 1)) (aJ (i:=5) eG.nd rfl (L8 rfl)) (ae (av (i:=6) eG.nd rfl (L8 rfl) (aw (ah K rfl) (aw (ah K rfl) (cM K rfl (pv 0) rfl) (aw (ah K rfl) (pv 3) (pv 4) (fun _ _=>rfl)) (fun _ _=>rfl)) (pv 5) (fun _ _=>rfl)))
   (af (aS (jx (DV (eS hr) (pv 6) (pv 2))) (ae (A0 (eS hr) (pv 2) (pv 6) (au kD (dW (eS hr) (pv 2) (aw (ah K rfl) (pv 3) (pv 4) (fun _ _=>rfl)) (fun _ _=>rfl)) (aW (paF (pv 5) aa))) rfl)
   (af (a7 (cO K rfl Mj MK ML cC (pv 3) (paF (pv 6) aa))))) aE))))
   (af (av (i:=4) eG.nd rfl (L8 rfl) (au bj (pv 4) ag)))))
   (ae (av (i:=7) eG.nd rfl (L8 rfl) (az (ou K rfl) rfl T.jf NY (paF (pv 3) aa)))
   (af (aN (ua (paF (pv 7) (paF (dU rfl pf (aY K rfl (pv 7)) (fun _ _ _ _=>⟨(aJ (i:=0) pf.nd rfl (L8 rfl)),bZ,(dW (eS hr) (pv 1) (pv 0) (fun _ _=>rfl))⟩)) aa)))))))))),?_⟩
 symm;refine Jx (fun dw fdw=>?_);have hg1:=ay fdw (.dK []) _ _ hg;walk_at "6";refine ⟨small (by show 0<=1000;decide),fun p0 hp0=>?_⟩
 have p0d:p0≠dw:=fun z=>by rw [z,ar] at hp0;cases hp0
 have fp0:H p0=none:=by rw [aA p0d] at hp0;exact hp0
 refine ⟨by rw [aA p0d.symm];exact ar,[(nk e,.ref p0)],rfl,(by show 1<=15;decide),?_⟩
 have s2:aj H (upd (upd (upd H dw (.dK [])) p0 (.lst [])) dw (.dK (gC [] [(nk e,.ref p0)]))):=fun b o z=>by
  rw [aA (aQ z fdw),aA (aQ z fp0),aA (aQ z fdw)];exact z
 have hdw:(upd (upd (upd H dw (.dK [])) p0 (.lst [])) dw (.dK (gC [] [(nk e,.ref p0)]))) dw=some (.dK (iw [e] [p0])):=ar;have hp0':(upd (upd (upd H dw (.dK [])) p0 (.lst [])) dw (.dK (gC [] [(nk e,.ref p0)]))) p0=some (.lst (aO [])):=by
  rw [aA p0d];exact ar
 generalize upd (upd (upd H dw (.dK [])) p0 (.lst [])) dw (.dK (gC [] [(nk e,.ref p0)]))=H2 at s2 hdw hp0';have hg2:=s2 _ _ hg;walk_at "6";refine ⟨small (by show 1<=1000;decide),fun a ha=>?_⟩
 have fa:H a=none:=s2.free ha;have had:a≠dw:=fun z=>by rw [z,hdw] at ha;cases ha
 have hap:a≠p0:=fun z=>by rw [z,hp0'] at ha;cases ha
 have c0:CW (upd H2 a (.lst [.int (e:Int)])) dw a [e] [[]] [p0]:=by
  refine ⟨by rw [aA had.symm];exact hdw,ar,rfl,rfl,by simp,by simpa using hap,fun i p w g1 g2=>?_⟩
  rcases gZ (l:=[]) g1 with ⟨z,_⟩|⟨z,g1'⟩
  ·exact absurd z (by simp)
  ·rcases gZ (l:=[]) g2 with ⟨z,_⟩|⟨z,g2'⟩
   ·exact absurd z (by simp)
   ·subst g1' g2';rw [aA hap.symm];exact hp0'
 have s3:aj H (upd H2 a (.lst [.int (e:Int)])):=s2.trans (ay ha _);symm;refine je (fun m σ' H'=>aj H H'/\∃ (F:List Nat) (W:List (List Nat)) (ps:List Addr) (k:Nat) (x y z:Option V),m=n - k/\CW H' dw a F W ps/\gq n t e S F k/\iX t e S F W/\(∀ p∈ps,H p=none)/\σ'=[some (.ref g),some v,some (.ref dw),some (.ref a),some (.int (k:Int)),x,y,z]) (n - 0)
  ⟨s3,[e],[[]],[p0],0,none,none,none,rfl,c0,⟨by simp,fun x hx=>by rw [LZ.mp hx];exact gt.elt,by simp,MI _,fun i _ hi=>absurd hi (by omega),fun x hx=>⟨[],by simp,(LZ.mp hx).symm⟩⟩,iX.one,fun p hp=>by rw [LZ.mp hp];exact fp0,rfl⟩ ?_
 rintro m σ' H3 ⟨s3,F,W,ps,k,x,y,z,rfl,cw,gr,gw,fps,rfl⟩;have aF:At K H3 (.ref a) F:=eE cw.lst;have fl:=gr.len;symm;refine aU (fun c=>?_) (fun c=>?_)
 ·obtain ⟨b0,hb0⟩:∃ b0,F[k]?=some b0:=⟨F[k],LP c⟩;have hbF:b0∈F:=LS hb0;have hbn:=gr.lt b0 hbF;refine ⟨fun σ4 H4=>aj H H4/\∃ (F4:List Nat) (W4:List (List Nat)) (ps4:List Addr) (x y z:Option V),CW H4 dw a F4 W4 ps4/\gq n t e S F4 (k+1)/\iX t e S F4 W4/\(∀ p∈ps4,H p=none)/\σ4=[some (.ref g),some v,some (.ref dw),some (.ref a),some (.int ((k+1:Nat):Int)),x,y,z],fun σ4 H4 z=>?_,?_⟩
  ·obtain ⟨z1,F4,W4,ps4,x4,y4,z4,z2,z3,z5,z6,z7⟩:=z;have:=z3.le;have:=z3.len;exact ⟨n - (k+1),by omega,z1,F4,W4,ps4,k+1,x4,y4,z4,rfl,z2,z3,z5,z6,z7⟩
  symm;refine fg (H₀:=H) hS (fun j σ4 H4=>aj H H4/\∃ (F4:List Nat) (W4:List (List Nat)) (ps4:List Addr) (x y:Option V),CW H4 dw a F4 W4 ps4/\gq n t e S F4 k/\iX t e S F4 W4/\(∀ p∈ps4,H p=none)/\F4[k]?=some b0/\(∀ s∈S.take j,tb t b0 s∈F4)/\σ4=[some (.ref g),some v,some (.ref dw),some (.ref a),some (.int (k:Int)),x,y,z]) ⟨s3,F,W,ps,x,y,cw,gr,gw,fps,hb0,fun s hs=>absurd hs (by simp),rfl⟩ (fun j σ4 H4 z=>z.1) ?_ ?_
  ·rintro j b w' σ4 H4 hb hw ⟨s4,F4,W4,ps4,x4,y4,cw4,gr4,gw4,fps4,hb4,hj,rfl⟩;cases (show w'=V.int (b:Int) from hw);have hbS:b∈S:=LS hb;have hbl:=hlt b hbS;have aF4:At K H4 (.ref a) F4:=eE cw4.lst;have hg4:=s4 _ _ hg;have hT4:=Rep.mono s4 hT;have fl4:=gr4.len;symm;refine bM aF4 hb4 ?_;refine cR hT4 rfl (gt.get hbn) fun w1 hw1=>?_;symm;refine bM hw1 (gt.d4 hbn hbl) ?_;walk_at "5";refine Fd ?_;symm;refine Gu cw4.top ?_;rw [IK gr4.nd cw4.l1];symm;have more:∀ F':List Nat,(∀ z∈F4,z∈F')->tb t b0 b∈F'->∀ s∈S.take (j+1),tb t b0 s∈F':=fun F' h1 h2 s hs=>by
    rw [MB,hb] at hs;rcases Mc.mp hs with z|z
    ·exact h1 _ (hj s z)
    ·have:s=b:=by simpa using z
     rw [this];exact h2
   refine bH (fun z=>?_) (fun z=>?_)
   ·have k4:k<W4.length:=by rw [cw4.l2];exact (LR.mp hb4).1
    have k5:k<ps4.length:=by rw [cw4.l1];exact (LR.mp hb4).1
    have hwk:W4[k]?=some W4[k]:=LP k4;have hpk:ps4[k]?=some ps4[k]:=LP k5;have hrow:=cw4.row k _ _ hpk hwk;symm;refine Bu ?_;symm;refine dX ?_;symm;refine bM aF4 hb4 ?_;refine eZ cw4.top (mS gr4.nd hb4 hpk) ?_;walk_at "6";refine ⟨small (by show 1<=1000;decide),fun p1 hp1=>?_⟩
    have s5:=ay hp1 (.lst [.int (b:Int)]);have wl:W4[k].length<=1000:=by
     have:=(gw4.word k b0 _ hb4 hwk).2.1;omega
    refine Ki (K:=K) (α:=Nat) (l:=W4[k]) (r:=[b]) ⟨_,_,rfl,s5 _ _ hrow,fG⟩ ⟨p1,_,rfl,ar,fG (l:=[b])⟩ (by simp;omega) fun p2 H6 fp2 s6 g6=>?_
    have s46:=s5.trans s6;have cw6:=cw4.mono s46;have h6:=jC g6;have fp2':H4 p2=none:=s5.free fp2;symm;refine EA cw6.top (M7 Hd (by omega)) ?_
    rw [Fw cw4.l1 z];have had:a≠dw:=fun z=>by have:=cw6.lst;rw [z,cw6.top] at this;cases this
    have p2n:p2∉ps4:=fun c=>by
     obtain ⟨i,hi⟩:=Ms c;have:=cw4.row i p2 _ hi (LP (by rw [cw4.l2,<- cw4.l1];exact (LR.mp hi).1))
     rw [fp2'] at this;cases this
    have p2a:p2≠a:=fun c=>by rw [c,cw4.lst] at fp2';cases fp2'
    have g7:Gr K (upd H6 dw (.dK (iw (F4++[tb t b0 b]) (ps4++[p2])))) a F4:=⟨_,by rw [aA had];exact cw6.lst,fG⟩
    symm;refine ⟨g7.ty,?_⟩;symm;refine fU (b:=tb t b0 b) g7 (by omega) rfl fun H8 g8 k8 _=>?_
    have cw8:CW H8 dw a (F4++[tb t b0 b]) (W4++[W4[k]++[b]]) (ps4++[p2]):=cw6.put h6 p2n p2a (k8 _ _ had.symm ar) (jC g8) fun b' o h1 h2 h3=>k8 _ _ h1 (by rw [aA h2];exact h3)
    refine ⟨fun b' o zz=>k8 _ _ (aQ zz fa) (by rw [aA (aQ zz fdw)];exact s46 _ _ (s4 _ _ zz)),_,_,_,_,_,cw8,gr4.put gt (LS hb4) hbS hbl z,gw4.put hb4 hwk hbS,fun p hp=>?_,by rw [MG (LR.mp hb4).1];exact hb4,more _ (fun y hy=>NK _ hy) (by simp),rfl⟩
    rcases Mc.mp hp with c|c
    ·exact fps4 p c
    ·rw [LZ.mp c];exact s4.free fp2'
   ·symm;exact ⟨s4,_,_,_,_,_,cw4,gr4,gw4,fps4,hb4,more _ (fun y hy=>hy) z,rfl⟩
  ·rintro σ4 H4 ⟨s4,F4,W4,ps4,x4,y4,cw4,gr4,gw4,fps4,hb4,hj,rfl⟩;rw [MJ] at hj;symm;exact ⟨s4,F4,W4,ps4,_,_,_,cw4,gr4.next hb4 hj,gw4,fps4,rfl⟩
 ·walk_at "rn";refine zP aF (by omega) fun d l' H4 hd s4 hpm hsr g4=>?_
  have gen:=gr.gen (by omega) hpm hsr
  have cw4:=cw.mono s4;have hd4:=jC g4;symm;refine qy ?_;symm;have pn:∀ x∈l',∃ j:Nat,F[j]?=some x/\j<ps.length:=fun x hx=>by
   obtain ⟨j,hj⟩:=Ms (hpm.mem_iff.mp hx);exact ⟨j,hj,by rw [cw.l1];exact (LR.mp hj).1⟩
  have gl:=gen.len;refine oX (p:=d) (xs:=aO l') (by unfold aO;rw [LX];omega) (fun d' i σ' H' ys=>aj H4 H'/\∃ (V:List (List Nat)) (qs:List Addr) (y:Option L2.V),Tbl H' d' V qs/\ys=qs.map L2.V.ref/\qs.length=i /\
    (∀ (i':Nat) (p:Addr),qs[i']?=some p->∃ (r j:Nat),l'[i']?=some r/\F[j]?=some r/\ps[j]?=some p)/\(∀ (i' r:Nat) (w:List Nat),l'[i']?=some r->V[i']?=some w->∃ j:Nat,F[j]?=some r/\W[j]?=some w)/\σ'=[y,some (.ref dw)])
   (fun d' i σ' H' ys z=>SqL.of (z.1 _ _ hd4)) (SqL.of hd4) (fun d' i σ' H' ys hi ⟨_,V,qs,y,_,e1,e2,_⟩=>by rw [e1,LX,e2];exact Mb _)
   (fun d' hd'=>⟨ay hd' _,[],[],_,Tbl.nil,rfl,rfl,by simp,by simp,rfl⟩) ?_ ?_
  ·rintro d' i x' σ' H5 ys R' R0 hd' hx ⟨s5,V,qs,y',tb5,rfl,hl5,hqs,hV,rfl⟩ hys hR' hR0;unfold aO at hx;rw [Mp] at hx;obtain ⟨r0,hr0,rfl⟩:=O7.mp hx;obtain ⟨j,hj,hjl⟩:=pn r0 (LS hr0);have hpj:ps[j]?=some ps[j]:=LP hjl;have hwl:j<W.length:=by rw [cw.l2,<- cw.l1];exact hjl
   have hwj:W[j]?=some W[j]:=LP hwl;have cw5:=cw4.mono s5;symm;refine dX ?_;symm;refine eZ cw5.top (mS gr.nd hj hpj) ?_;have hpn:ps[j]∉qs:=fun c=>by
    obtain ⟨i',hi'⟩:=Ms c;obtain ⟨r1,j1,g1,g2,g3⟩:=hqs i' _ hi';obtain ⟨u1,v1⟩:=LR.mp g3;have ej:j1=j:=by
     rcases Ni j1 j with c|c|c
     ·exact absurd v1 ((Mx.mp cw.nd) j1 j u1 hjl c)
     ·exact c
     ·exact absurd v1.symm ((Mx.mp cw.nd) j j1 hjl u1 c)
    subst ej;have er:r1=r0:=ME (g2.symm.trans hj);subst er;have hi2:i' < i:=by rw [<- hl5];exact (LR.mp hi').1
    obtain ⟨u2,v2⟩:=LR.mp g1;obtain ⟨u3,v3⟩:=LR.mp hr0;have:=(Mx.mp gen.srt) i' i u2 u3 hi2;omega
   have hpd:ps[j]≠d':=fun c=>by
    have:=cw4.row j _ _ hpj hwj;rw [c,hd'] at this;cases this
   refine hR' _ _ _ hys ⟨fun b o zz=>?_,V++[W[j]],qs++[ps[j]],_,tb5.snoc (aj.refl _) (cw5.row j _ _ hpj hwj) hpn hpd,by rw [M8];rfl,by rw [Mr,hl5];rfl,fun i' p hp=>?_,fun i' r1 w1 g1 g2=>?_,rfl⟩
   ·rw [aA (aQ zz hd')];exact s5 _ _ zz
   ·rcases gZ hp with ⟨_,c⟩|⟨c,c2⟩
    ·exact hqs i' p c
    ·subst c2;rw [hl5] at c;subst c;exact ⟨r0,j,hr0,hj,hpj⟩
   ·rcases gZ g2 with ⟨_,c⟩|⟨c,c2⟩
    ·exact hV i' r1 w1 g1 c
    ·subst c2;have:i'=i:=by rw [c,<- tb5.len,hl5]
     subst this;have er:r1=r0:=ME (g1.symm.trans hr0);subst er;exact ⟨j,hj,hwj⟩
  rintro d2 σ5 H5 ys fd2 hd2 ⟨s5,V,qs,y',tb5,rfl,hl5,hqs,hV,rfl⟩;unfold aO at hl5;rw [LX] at hl5;symm;refine ⟨small (by show 2<=1000;decide),fun p9 hp9=>?_⟩
  have s9:=ay hp9 (.tup [.ref d,.ref d2]);have s04:=s3.trans s4;have s05:=s04.trans s5;have hdn:d∉qs:=fun c=>by
   obtain ⟨i',hi'⟩:=Ms c;obtain ⟨r1,j1,g1,g2,g3⟩:=hqs i' _ hi';have:=cw.row j1 d _ g3 (LP (by rw [cw.l2,<- cw.l1];exact (LR.mp g3).1))
   rw [hd] at this;cases this
  refine q p9 d d2 _ l' V qs (s3.free hd) (s04.free fd2) (fun p hp=>?_) (fun c=>?_) hdn (s05.trans s9) ar (s9 _ _ (s5 _ _ hd4)) (tb5.mono s9) gen (gw.words gr.nd fl (by rw [<- tb5.len,hl5]) hV)
  ·obtain ⟨i',hi'⟩:=Ms hp;obtain ⟨r1,j1,g1,g2,g3⟩:=hqs i' _ hi';exact fps p (LS g3)
  ·rw [<- c,hd4] at fd2;cases fd2
def Ep {α β:Type} {l:List α} {f:α->List β} {i:Nat} {c:α} (h:l[i]?=some c):(l.take (i+1)).flatMap f=(l.take i).flatMap f++f c:=by
 rw [MB,h,Te];simp
def Gk (T:Txt K mg):aH P w K mg base CX0 4 T.qi.f T.qi.fd ["group","part"] (FQ T.aI K):=by
 refine T.qi.ok nB (fun vs H Q E h=>?_) (fun cdv A outer s H vs Q E hr h=>?_)
 ·obtain ⟨g,v,n,e,t,R,rfl,_⟩:=h;rfl
 obtain ⟨g,v,n,e,t,R,rfl,hG,gt,hR,pt,q⟩:=h;obtain ⟨dx,gr,gb,hg,hT,hB⟩:=hG.get (K:=K);have n1:=gt.pos;have n23:=gt.le;have rl:=pt.len;refine ⟨_,(ae (a7 (aG T.bW (gP T) (hr.mono (by decide)) rfl (paF (pv 0) (paF (pv 1) aa))))
   (ae (av (i:=2) nB.nd rfl (L8 rfl) (aW aa))
   (ae (a8 L7 rfl (aY K rfl (pv 1)) (aJ (i:=3) nB.nd rfl (L8 rfl)) (af (a8 L7 rfl (aY K rfl (pv 1)) (aJ (i:=4) nB.nd rfl (L8 rfl)) (af (a7 (cO K rfl Mj MK ML cC (pv 2) (paF (aG T.ic (nq T) (hr.mono (by decide)) rfl (paF (pv 0) (paF (aW (paF (pv 3) (paF (pv 4) (paF (aw (ah K rfl) (cM K rfl (pv 0) rfl) (pv 3) (fun _ _=>rfl)) (paF (aw (ah K rfl) (cM K rfl (pv 0) rfl) (pv 4) (fun _ _=>rfl)) aa))))) aa))) aa)))))))
   (af (aN (aw (km K rfl) (aG T.lB (DH T) (hr.mono (by decide)) rfl (paF (pv 0) (paF (az (w9 w rfl rfl) rfl T.jf NY (paF (dz (B8 K rfl w rfl rfl) rfl T.nt PyProof.Rows.boot_set (paF (pv 2) aa)) aa)) aa))) ag (fun _ _=>rfl))))))),?_⟩
 walk_at "rn";refine ⟨g,v,n,e,t,R,rfl,hG,gt,hR,pt,fun H1 s1=>?_⟩;have aR1:=Rep.mono s1 hR;walk_at "rn";refine dZ (K:=K) (l:=([]:List Nat)) iU (by decide) fun dm H2 fm s2 g2=>?_
 walk_at "rn"
 let cm:Nat->Nat->Nat:=fun a b=>tb t (tb t (tb t a b) (bf n t e a)) (bf n t e b)
 have cml:∀ a∈R,∀ b∈R,cm a b<n:=fun a ha b hb=>gt.lt _ _ (gt.lt _ _ (gt.lt _ _ (pt.lt a ha) (pt.lt b hb)) (gt.ft (pt.lt a ha))) (gt.ft (pt.lt b hb));refine fg (H₀:=H1) aR1 (fun i σ H'=>aj H1 H'/\∃ (L:List Nat) (x3 x4:Option V),Gr K H' dm L/\L.length<=i * 23/\L=(R.take i).flatMap (fun a=>R.map (cm a))/\σ=[some (.ref g),some v,some (.ref dm),x3,x4]) ⟨s2,[],_,_,g2,by simp,rfl,rfl⟩ (fun i σ' H' z=>z.1) ?_ ?_
 ·rintro i a w' σ' H3 ha hw ⟨s3,L,x3,x4,g3,ll,hL,rfl⟩;cases (show w'=V.int (a:Int) from hw);have haR:a∈R:=LS ha;have han:=pt.lt a haR;have il:=(LR.mp ha).1;have ib:i * 23<=23 * 23:=Pz _ (by omega)
  walk_at "rn";refine fg (H₀:=H1) aR1 (fun j σ H'=>aj H1 H'/\∃ (L:List Nat) (x4:Option V),Gr K H' dm L/\L.length<=i * 23+j/\L=(R.take i).flatMap (fun a=>R.map (cm a))++(R.take j).map (cm a)/\σ=[some (.ref g),some v,some (.ref dm),some (.int (a:Int)),x4]) ⟨s3,L,_,g3,ll,by simpa using hL,rfl⟩ (fun i σ' H' z=>z.1) ?_ ?_
  ·rintro j b w' σ' H4 hb hw ⟨s4,L,x4,g4,ll,hL,rfl⟩;cases (show w'=V.int (b:Int) from hw);have hbR:b∈R:=LS hb;have hbn:=pt.lt b hbR;have jl:=(LR.mp hb).1;have s14:=s1.trans s4;have hg4:=s14 _ _ hg;have ba:=gt.ft han;have bb:=gt.ft hbn;walk_at "rn";refine ⟨g4.ty,?_⟩;walk_at "1";refine bN T hg4 ?_;walk_at "rn";refine bM (Rep.mono s14 hB) (uK han) ?_;walk_at "rn";refine bN T hg4 ?_;walk_at "rn";refine bM (Rep.mono s14 hB) (uK hbn) ?_;walk_at "rn";refine ⟨small (by show 4<=1000;decide),fun pl hpl=>?_⟩
   have s5:aj H4 (upd H4 pl (.lst (aO [a,b,bf n t e a,bf n t e b]))):=ay hpl _;have hl5:(upd H4 pl (.lst (aO [a,b,bf n t e a,bf n t e b]))) pl=some (.lst (aO [a,b,bf n t e a,bf n t e b])):=ar;have g5:Gr K (upd H4 pl (.lst (aO [a,b,bf n t e a,bf n t e b]))) dm L:=g4.mono s5;walk_at "rn";refine ⟨g,_,n,e,t,[a,b,bf n t e a,bf n t e b],rfl,aX.mono (s14.trans s5) hG,gt,eE hl5,fun x hx=>?_,?_⟩
   ·simp only [Mq,OH,or_false] at hx;rcases hx with rfl|rfl|rfl|rfl
    ·exact han
    ·exact hbn
    ·exact ba
    ·exact bb
   have e1:prd t e [a,b,bf n t e a,bf n t e b]=cm a b:=by
    show tb t (tb t (tb t (tb t e a) b) (bf n t e a)) (bf n t e b)=_;rw [gt.unl a han]
   rw [e1];walk_at "rn";refine fU (b:=cm a b) g5 (by omega) rfl fun H6 g6 k6 _=>?_
   refine ⟨aj.but fm (s4.trans s5) k6,L++[cm a b],_,g6,?_,?_,rfl⟩
   ·rw [Mr,Oe];omega
   ·rw [hL,Qj,MB,hb];simp
  ·rintro σ' H4 ⟨s4,L,x4,g4,ll,hL,rfl⟩;rw [MJ] at hL;walk_at "rn";refine ⟨s4,L,_,_,g4,?_,?_,rfl⟩
   ·rw [PY];omega
   ·rw [Ep ha];exact hL
 ·rintro σ' H3 ⟨s3,L,x3,x4,g3,ll,hL,rfl⟩;rw [MJ] at hL;have hm:L=iO n t e R:=hL;have hlt:∀ x∈L,x<n:=fun x hx=>by
   rw [hm] at hx;obtain ⟨a,ha,b,hb,rfl⟩:=nH.mp hx;exact cml a ha b hb
  walk_at "rn";refine KN g3.at (fun x hx=>by have:=hlt x hx;omega) fun sa ks fs hks nd=>?_
  have s4:=ay fs (iC w sa ks);have h4:(upd H3 sa (iC w sa ks)) sa=some (iC w sa ks):=ar;generalize upd H3 sa (iC w sa ks)=H4 at s4 h4;walk_at "rn";refine Fp h4 fun sd sl fd hp hs=>?_;have s5:=ay fd (.lst (aO sl));have h5:(upd H4 sd (.lst (aO sl))) sd=some (.lst (aO sl)):=ar;generalize upd H4 sd (.lst (aO sl))=H5 at s5 h5;have s35:=s4.trans s5;have s05:=s1.trans (s3.trans s35);have hmem:∀ x,x∈sl↔x∈iO n t e R:=fun x=>by rw [hp.mem_iff,hks x,hm]
  have sll:sl.length<=n:=eC (hp.nodup_iff.mpr nd) fun x hx=>hlt x (by rw [hm];exact (hmem x).mp hx)
  walk_at "rn";refine ⟨g,_,n,e,t,sl,rfl,aX.mono s05 hG,gt,eE h5,fun x hx=>hlt x (by rw [hm];exact (hmem x).mp hx),by omega,fun p dp dw H6 M W pw f1 f2 f3 n1 n2 s6 h6 hp6 _ G _=>?_⟩
  walk_at "rn";refine qd (i:=0) h6 rfl ?_;exact q dp H6 M (s05.free f1) (s05.trans s6) ⟨_,hp6,fG⟩ (G.congr hmem)
def lC:Sp:=fun vs H Q _=>∃ (m:Nat),vs=[.int (m:Int)]/\1<=m/\m<=60/\Q .non H
def lr (T:Txt K mg):aH P w K mg base CX0 1 T.cN.f T.cN.fd ["many"] lC:=by
 refine T.cN.ok lu (fun vs H Q E h=>?_) (fun cdv A outer s H vs Q E hr h=>?_)
 ·obtain ⟨m,rfl,_⟩:=h;rfl
 obtain ⟨m,rfl,m1,m2,q⟩:=h;refine ⟨_,(af (aS (PW.pt (gR (ax eF (pv 0) ag (aB _)) (gG (ax fP (pv 0) (cF (v:=.int 60) rfl T.oq ⟨_,rfl⟩) (aB _))))) (af cY) aE)),?_⟩;walk_at "3";refine aU (fun c=>absurd c (by omega)) (fun _=>?_)
 walk_at "rx";refine aU (fun c=>absurd c (by omega)) (fun _=>?_)
 walk_at "rx";exact q
def tS (n:Nat) (t:List (List Nat)) (e:Nat) (z:V) (m:Nat):Prop:=(z=.non/\c8 (cy n t e) m)\/(z=.int (m:Int)/\1<=m/\m<=60/\∀ k,c8 (cy n t e) k->m % k=0)
def tq (C:Addr):Sp:=fun vs H Q _=>∃ (g:Addr) (z:V) (n e m:Nat) (t:List (List Nat)),vs=[.ref g,z]/\aX C H g n t e/\GT n t e/\tS n t e z m/\∀ H',aj H H'->Q (.int (m:Int)) H'
def jX (T:Txt K mg):aH P w K mg base CX0 3 T.cP.f T.cP.fd ["group","spokes"] (tq T.aI):=by
 refine T.cP.ok jY (fun vs H Q E h=>?_) (fun cdv A outer s H vs Q E hr h=>?_)
 ·obtain ⟨g,z,n,e,m,t,rfl,_⟩:=h;rfl
 obtain ⟨g,z,n,e,m,t,rfl,hG,gt,hz,q⟩:=h;refine ⟨_,(ae (av (i:=2) jY.nd rfl (L8 rfl) (aG T.mB (yN T) (hr.mono (by decide)) rfl (paF (pv 0) aa)))
   (ae (aS (jx (ym (pv 1))) (af (aN (pv 2))) aE)
   (ae (a7 (aG T.cN (lr T) (hr.mono (by decide)) rfl (paF (pv 1) aa)))
   (ae (aS (ax dQ (au aV (pv 1) (pv 2)) ag (aB _)) (af cY) aE)
   (af (aN (pv 1))))))),?_⟩
 walk_at "rx";refine ⟨g,n,e,t,rfl,hG,gt,fun k H1 s1 hk=>?_⟩;walk_at "3";rcases hz with ⟨rfl,hm⟩|⟨rfl,m1,m2,hm⟩
 ·refine aU (fun _=>?_) (fun c=>absurd rfl c);walk_at "rx";rw [hk.uni hm];exact q _ s1
 ·refine aU (fun c=>by cases c) (fun _=>?_)
  walk_at "rx";refine ⟨m,rfl,m1,m2,?_⟩;have hk0:=hk.pos;walk_at "3";refine bH (fun c=>absurd (hm k hk) c) (fun _=>?_);walk_at "rx";exact q _ s1
end
section
def mw (C:Addr) (K:LO):Sp:=fun vs H Q _=>∃ (g:Addr) (v u z:V) (n e m l:Nat) (t:List (List Nat)) (R M:List Nat),vs=[.ref g,v,u,z]/\aX C H g n t e/\GT n t e/\At K H v R/\IsPart n t R/\At K H u M/\M.length=R.length/\(∀ x∈M,x<m) /\
 (z=.int (m:Int)\/(z=.non/\m=l))/\c8 (cy n t e) l/\m % l=0/\0<m/\m<=60/\∀ x H' o,aj H H'->C1 H' x o->fJ t R M m o->Q x H'
end
section
variable {P:Mi} {w:World} {K:LO} {mg:Str->Option Value} {base:Heap}
def uQ (K:LO):Sp:=fun vs H Q _=>∃ (v u:V) (m:Nat) (R M:List Nat),vs=[v,u,.int (m:Int)]/\At K H v R/\At K H u M/\M.length=R.length/\M.length<=1000/\(∀ x∈M,x<m)/\∀ H',aj H H'->Q .non H'
def vb (T:Txt K mg):aH P w K mg base CX0 1 T.c9.f T.c9.fd ["part","marks","spokes"] (uQ K):=by
 refine T.c9.ok mC (fun vs H Q E h=>?_) (fun cdv A outer s H vs Q E hr h=>?_)
 ·obtain ⟨v,u,m,R,M,rfl,_⟩:=h;rfl
 obtain ⟨v,u,m,R,M,rfl,hR,hM,hl,h1,mm,q⟩:=h;refine ⟨_,(ae (aS (ax dQ (az (aT K rfl) rfl T.bB Mf (paF (pv 1) aa)) (az (aT K rfl) rfl T.bB Mf (paF (pv 0) aa)) (aB _)) (af cY) aE)
   (af (aS (fX (az (pU K rfl rfl) rfl T.Dc Qy (paF (dU rfl fh (aY K rfl (pv 1)) (fun _ _ _ _=>⟨(aJ (i:=0) fh.nd rfl (L8 rfl)),bZ,(HY (dF eF (pv 0) ag (aB _)) (lX (dF lj (pv 0) (pv 1) (aB _))))⟩)) aa))) (af cY) aE))),?_⟩
 walk_at "3";refine bH (fun c=>absurd hl c) (fun _=>?_);walk_at "3";refine i8 (β:=Bool) hM (by omega) (fun i=>Me i false) (fun σ'=>∃ y,σ'=[y,some (.int (m:Int))]) rfl (fun i _=>by simp) ⟨_,rfl⟩ ?_ ?_
 ·rintro i c w' σ' H3 d' R' R0 hc hs hw ⟨y,rfl⟩ hR' hR0 hd';cases (show w'=V.int (c:Int) from hw);have c1:=mm c (LS hc);walk_at "rx";refine aU (fun c=>absurd c (by omega)) (fun _=>?_)
  walk_at "rx";rw [decide_eq_false (show ¬ c >= m by omega)]
  exact hR' _ _ false _ ⟨_,rfl⟩ (aj.refl _) rfl Om
 intro d2 H3 s3 h3;have h3':At K H3 (.ref d2) (Me M.length false):=h3;walk_at "rx";refine BQ h3' ?_;rw [show (Me M.length false).any id=false from Qh.mpr fun x hx=>by rw [O0 hx];decide]
 walk_at "rx";walk_at "8";exact q _ s3
def l5 (T:Txt K mg):aH P w K mg base CX0 4 T.bU.f T.bU.fd ["group","part","marks","spokes"] (mw T.aI K):=by
 refine T.bU.ok dq (fun vs H Q E h=>?_) (fun cdv A outer s H vs Q E hr h=>?_)
 ·obtain ⟨g,v,u,z,n,e,m,l,t,R,M,rfl,_⟩:=h;rfl
 obtain ⟨g,v,u,z,n,e,m,l,t,R,M,rfl,hG,gt,hR,pt,hM,ml,mm,hz,hl,ml0,m1,m60,q⟩:=h;have n23:=gt.le;have rl:=pt.len;have nd:=bP pt.srt;have sv:tS n t e z m:=by
  rcases hz with rfl|⟨rfl,rfl⟩
  ·exact .inr ⟨rfl,m1,m60,fun k hk=>by rw [hk.uni hl];exact ml0⟩
  ·exact .inl ⟨rfl,hl⟩
 refine ⟨_,(ae (a7 (aG T.bW (gP T) (hr.mono (by decide)) rfl (paF (pv 0) (paF (pv 1) aa))))
   (ae (av (i:=4) dq.nd rfl (L8 rfl) (aG T.cP (jX T) (hr.mono (by decide)) rfl (paF (pv 0) (paF (pv 3) aa))))
   (ae (a7 (aG T.c9 (vb T) (hr.mono (by decide)) rfl (paF (pv 1) (paF (pv 2) (paF (pv 4) aa)))))
   (ae (av (i:=5) dq.nd rfl (L8 rfl) (kg K rfl rfl rfl T.sy rfl T.sh (paF (pv 1) (paF (pv 2) aa))))
   (ae (a8 L7 rfl (aY K rfl (pv 1)) (aJ (i:=6) dq.nd rfl (L8 rfl)) (af (a8 L7 rfl (aY K rfl (pv 1)) (aJ (i:=7) dq.nd rfl (L8 rfl)) (af (aS (ax dQ (dW (eS hr) (pv 5) (aw (ah K rfl) (aw (ah K rfl) (cM K rfl (pv 0) rfl) (pv 6) (fun _ _=>rfl)) (pv 7) (fun _ _=>rfl)) (fun _ _=>rfl)) (au aV (au bj (dW (eS hr) (pv 5) (pv 6) (fun _ _=>rfl)) (dW (eS hr) (pv 5) (pv 7) (fun _ _=>rfl))) (pv 4)) (aB _)) (af (aN (ua (paF (pv 6) (paF (pv 7) aa))))) aE)))))
   (af (aN yV))))))),?_⟩
 walk_at "rn";refine ⟨g,v,n,e,t,R,rfl,hG,gt,hR,pt,fun H1 s1=>?_⟩;walk_at "rn";refine ⟨g,z,n,e,m,t,rfl,aX.mono s1 hG,gt,sv,fun H2 s2=>?_⟩;have s02:=s1.trans s2;walk_at "rn";refine ⟨v,u,m,R,M,rfl,Rep.mono s02 hR,Rep.mono s02 hM,ml,by omega,mm,fun H3 s3=>?_⟩
 have s03:=s02.trans s3;walk_at "rn";refine la ?_;walk_at "rn";refine Cn (Rep.mono s03 hR) (Rep.mono s03 hM) ml.symm nd fun d hd=>?_;have s04:=s03.trans (ay hd (.dK (d9 R M)));have hd4:upd H3 d (.dK (d9 R M)) d=some (.dK (d9 R M)):=ar;generalize upd H3 d (.dK (d9 R M))=H4 at s04 hd4 ⊢;have hG4:=aX.mono s04 hG;obtain ⟨dx,r4,bk,hg,hT,hB⟩:=hG4.get (K:=K);walk_at "rn";refine dE (Rep.mono s04 hR) (fun j σ' H'=>H'=H4/\(∀ j',j' < j->∀ k,k<R.length->i5 t R M m j' k)/\∃ x6 x7,σ'=[some (.ref g),some v,some u,some z,some (.int (m:Int)),some (.ref d),x6,x7]) ⟨rfl,fun j hj=>absurd hj (by omega),_,_,rfl⟩ (fun i σ' H' y=>by rw [y.1];exact aj.refl _) ?_ ?_
 ·rintro j a w' σ' H' ha hw ⟨rfl,hj,x6,x7,rfl⟩;cases (show w'=V.int (a:Int) from hw);have jl:j<R.length:=(LR.mp ha).1;have haR:=LS ha;have han:=pt.lt a haR;have mi:=getD_some (l:=M) 0 (show j<M.length by omega)
  have ea:R.getD j 0=a:=by rw [LU,ha];rfl
  walk_at "rn";refine dE (Rep.mono s04 hR) (fun k σ' H1=>H1=H'/\(∀ k',k' < k->i5 t R M m j k')/\∃ x7,σ'=[some (.ref g),some v,some u,some z,some (.int (m:Int)),some (.ref d),some (.int (a:Int)),x7]) ⟨rfl,fun j hj=>absurd hj (by omega),_,rfl⟩ (fun i σ' H1 y=>by rw [y.1];exact aj.refl _) ?_ ?_
  ·rintro k b w2 σ' H1 hb hw2 ⟨rfl,hk',x7,rfl⟩;cases (show w2=V.int (b:Int) from hw2);have kl:k<R.length:=(LR.mp hb).1;have hbR:=LS hb;have hbn:=pt.lt b hbR;have mk:=getD_some (l:=M) 0 (show k<M.length by omega)
   have eb:R.getD k 0=b:=by rw [LU,hb];rfl
   have hab:=pt.cl a haR b hbR;have hx:=M1 hab;have mx:=getD_some (l:=M) 0 (show R.idxOf (tb t a b)<M.length by omega)
   have oke:i5 t R M m j k↔M.getD (R.idxOf (tb t a b)) 0=(M.getD j 0+M.getD k 0) % m:=by
    unfold i5;rw [ea,eb]
   walk_at "2";refine dX ?_;symm;refine cR hT rfl (gt.get han) fun w1 hw1=>?_;walk_at "rn";refine bM hw1 (gt.d4 han hbn) ?_;refine eZ hd4 (g0 nd (kq hab) mx) ?_;walk_at "rn";refine dX ?_;walk_at "rn";refine eZ hd4 (g0 nd ha mi) ?_;walk_at "rn";refine dX ?_;walk_at "rn";refine eZ hd4 (g0 nd hb mk) ?_;walk_at "rn";refine bH (fun y=>?_) (fun y=>?_)
   ·walk_at "7";refine ⟨small (by show 2<=1000;decide),fun p hp=>?_⟩
    exact q _ _ (some (a,b)) (s04.trans (ay hp _)) ⟨p,rfl,ar⟩ ⟨j,k,jl,kl,ea,eb,fun y'=>y (oke.mp y'),hj,hk'⟩
   ·walk_at "rn";refine ⟨rfl,fun k' hk2=>?_,_,rfl⟩;rcases Mv k' k with y' | y'
    ·exact hk' k' y'
    ·have:k'=k:=by omega
     rw [this];exact oke.mpr y
  ·rintro σ' H1 ⟨rfl,hk',x7,rfl⟩;walk_at "rn";refine ⟨rfl,fun j' hj2 k hk=>?_,_,_,rfl⟩;rcases Mv j' j with y|y
   ·exact hj j' y k hk
   ·have:j'=j:=by omega
    rw [this];exact hk' k hk
 ·rintro σ' H' ⟨rfl,hj,x6,x7,rfl⟩;walk_at "rn";exact q _ _ none s04 rfl fun j hj2 k hk=>hj j hj2 k hk
def uV:∀ a b:List Nat,Cf a b=fV a b
 | [],[]=>rfl
 | [],_ :: _=>rfl
 | _ :: _,[]=>rfl
 | a :: as,b :: bs=>by
  have ih:=uV as bs;unfold Cf at ih ⊢;rw [Mz,Mz,cA,fV,ih]
  by_cases c:a=b
  ·rw [if_pos c,if_pos (by rw [c])]
  ·rw [if_neg c,if_neg (by omega),NR,decide_eq_true_iff,decide_eq_true_iff]
   omega
def wF (C:Addr) (K:LO):Sp:=fun vs H Q _=>∃ (g:Addr) (v:V) (n e x:Nat) (t:List (List Nat)) (R:List Nat),vs=[.ref g,v,.int (x:Int)]/\aX C H g n t e/\GT n t e/\At K H v R/\IsPart n t R/\x<n /\
 ∀ k H',aj H H'->1<=k->aC t e x k∈R->(∀ i,1<=i->i<k->aC t e x i∉R)->Q (.int (k:Int)) H'
def uS {n e x:Nat} {t:List (List Nat)} (gt:GT n t e) (hx:x<n) (k:Nat):aC t e x ((k:Int) % (aZ n t e x:Int)).toNat=aC t e x k:=by
 rw [<- rB gt hx k];rfl
def wN (T:Txt K mg):aH P w K mg base CX0 3 T.iR.f T.iR.fd ["group","part","thing"] (wF T.aI K):=by
 refine T.iR.ok jK (fun vs H Q E h=>?_) (fun cdv A outer s H vs Q E hr h=>?_)
 ·obtain ⟨g,v,n,e,x,t,R,rfl,_⟩:=h;rfl
 obtain ⟨g,v,n,e,x,t,R,rfl,hG,gt,hR,pt,hx,q⟩:=h;refine ⟨_,(ae (av (i:=3) jK.nd rfl (L8 rfl) ag)
   (ae (i7 L7 (ax (f6 K rfl) (aG T.ku (rh T) (hr.mono (by decide)) rfl (paF (pv 0) (paF (pv 2) (paF (pv 3) aa)))) (pv 1) (by with_unfolding_all rfl)) (af (av (i:=3) jK.nd rfl (L8 rfl) (au bj (pv 3) ag))))
   (af (aN (pv 3))))),?_⟩
 have os:=dJ gt hx;have op:=gj (n:=n) (t:=t) (e:=e) (a:=x);walk_at "rn";refine je (fun b σ' H'=>aj H H'/\∃ k,1<=k/\k<=aZ n t e x/\b=aZ n t e x - k/\(∀ i,1<=i->i<k->aC t e x i∉R)/\σ'=[some (.ref g),some v,some (.int (x:Int)),some (.int (k:Int))]) (aZ n t e x - 1)
  ⟨aj.refl _,1,Mb _,op,rfl,fun i h1 h2=>absurd h1 (by omega),rfl⟩ ?_
 rintro b σ' H1 ⟨s1,k,k1,k2,rfl,ko,rfl⟩;walk_at "rn";refine ⟨g,n,e,x,(k:Int),t,rfl,aX.mono s1 hG,gt,hx,fun H2 s2=>?_⟩;rw [uS gt hx k];have s02:=s1.trans s2;walk_at "rn";refine qv (Rep.mono s02 hR) ?_;walk_at "rn";refine bH (fun c=>?_) (fun c=>?_)
 ·have k3:k<aZ n t e x:=by
   rcases Mv k (aZ n t e x) with y|y
   ·exact y
   ·have:k=aZ n t e x:=by omega
    rw [this,os.2.1] at c;exact absurd (pt.un gt) c
  refine ⟨fun σ2 H4=>aj H H4/\σ2=[some (.ref g),some v,some (.int (x:Int)),some (.int ((k+1:Nat):Int))],fun σ2 H4 y=>⟨aZ n t e x - (k+1),by omega,y.1,k+1,by omega,k3,rfl,fun i i1 i2=>?_,y.2⟩,?_⟩
  ·rcases Mv i k with y|y
   ·exact ko i i1 y
   ·have:i=k:=by omega
    rw [this];exact c
  walk_at "rn";exact ⟨s02,rfl⟩
 ·walk_at "rn";exact q k _ s02 k1 c ko
def eX {H H':Hp} {b:Addr} {o:HO} (fb:H b=none) (s:aj H H'):aj H (upd H' b o):=fun a o' z=>by
 rw [aA (aQ z fb)];exact s _ _ z
def rm {kvs:List (Key×V)} {k:Key} {v:V} (h:k∉kvs.map (·.1)):putK kvs k v=kvs++[(k,v)]:=by
 unfold putK;rw [if_neg];intro z;obtain ⟨p,hp,e⟩:=PN.mp z;exact h (Mm.mpr ⟨p,hp,of_decide_eq_true e⟩)
def Gn {kvs:List (Key×V)} {k k':Key} {v:V} (h:k∉kvs.map (·.1)):cQ (kvs++[(k,v)]) k'=if k=k' then some v else cQ kvs k':=by
 unfold cQ;rw [List.find?_append]
 by_cases c:k=k'
 ·subst c;have:kvs.find? (fun kv=>decide (kv.1=k))=none:=List.find?_eq_none.mpr fun p hp z=>h (Mm.mpr ⟨p,hp,of_decide_eq_true z⟩);rw [this,if_pos rfl];simp
 ·rw [if_neg c];have:[(k,v)].find? (fun kv=>decide (kv.1=k'))=none:=by simp [c]
  rw [this,Option.or_none]
def yk (n:Nat) (t:List (List Nat)) (e:Nat) (R M:List Nat) (x k:Nat) (H:Hp) (kvs:List (Key×V)) (l:List Nat):Prop:=kvs.map (·.1)=l.map nk /\
 ∀ y∈l,∃ q,cQ kvs (nk y)=some (.ref q)/\H q=some (.tup [.int (mkO R M (bsO n t e R x k y):Int),.int (ixO n t e R x k y:Int)])
def yk.put {n e x k:Nat} {t:List (List Nat)} {R M:List Nat} {H H':Hp} {kvs:List (Key×V)} {l:List Nat} (h:yk n t e R M x k H kvs l) {y:Nat} (hy:y∉l) {q:Addr} (hH:∀ a xs,H a=some (.tup xs)->H' a=some (.tup xs)) (hq:H' q=some (.tup [.int (mkO R M (bsO n t e R x k y):Int),.int (ixO n t e R x k y:Int)])) :
  yk n t e R M x k H' (putK kvs (nk y) (.ref q)) (l++[y]):=by
 have no:nk y∉kvs.map (·.1):=by
  rw [h.1];intro z;obtain ⟨y',h1,h2⟩:=Mm.mp z;exact hy (mG h2 ▸ h1)
 rw [rm no];refine ⟨by rw [M8,h.1,M8];rfl,fun z hz=>?_⟩
 rw [Gn no];rcases Mc.mp hz with c|c
 ·obtain ⟨q',a,b⟩:=h.2 z c;have:¬ nk y=nk z:=fun e=>hy (mG e ▸ c);rw [if_neg this];exact ⟨q',a,hH _ _ b⟩
 ·have:=LZ.mp c;subst this;rw [if_pos rfl];exact ⟨q,rfl,hq⟩
def AR (C:Addr) (K:LO):Sp:=fun vs H Q _=>∃ (g:Addr) (v u:V) (n e x m:Nat) (t:List (List Nat)) (R M:List Nat),vs=[.ref g,v,u,.int (x:Int),.int (m:Int)]/\aX C H g n t e/\GT n t e/\At K H v R/\IsPart n t R/\At K H u M/\IsW t R M m/\x<n/\m<=60 /\
 (∀ k,1<=k->aC t e x k∈R->(∀ i,1<=i->i<k->aC t e x i∉R)->cS n t e R M x m k) /\
 ∀ p dg df H' P L,H dg=none->aj H H'->H' p=some (.tup [.ref dg,.ref df])->H' dg=some (.lst (aO P))->Rows H H' df L->Taken n t e R M x m P L->Q (.ref p) H'
def qI (T:Txt K mg):aH P w K mg base CX0 4 T.iz.f T.iz.fd ["group","part","marks","thing","spokes"] (AR T.aI K):=by
 refine T.iz.ok cT (fun vs H Q E h=>?_) (fun cdv A outer s H vs Q E hr h=>?_)
 ·obtain ⟨g,v,u,n,e,x,m,t,R,M,rfl,_⟩:=h;rfl
 obtain ⟨g,v,u,n,e,x,m,t,R,M,rfl,hG,gt,hR,pt,hM,hw,hx,m60,tk,q⟩:=h;obtain ⟨dx,gr,gb,hg,hT,hB⟩:=hG.get (K:=K);have n23:=gt.le;have rl:=pt.len;have ml:=hw.len;have nd:=bP pt.srt;refine ⟨_,(ae (av (i:=5) cT.nd rfl (L8 rfl) (kg K rfl rfl rfl T.sy rfl T.sh (paF (pv 1) (paF (pv 2) aa))))
   (ae (av (i:=6) cT.nd rfl (L8 rfl) (aG T.iR (wN T) (hr.mono (by decide)) rfl (paF (pv 0) (paF (pv 1) (paF (pv 3) aa)))))
   (ae (av (i:=7) cT.nd rfl (L8 rfl) (dW (eS hr) (pv 5) (aG T.ku (rh T) (hr.mono (by decide)) rfl (paF (pv 0) (paF (pv 3) (paF (pv 6) aa)))) (fun _ _=>rfl)))
   (ae (av (i:=8) cT.nd rfl (Qf rfl) G8)
   (ae (a8 L7 rfl (a9 rfl T.bD (paF (pv 6) aa)) (aJ (i:=9) cT.nd rfl (L8 rfl)) (af (a8 L7 rfl (aY K rfl (pv 1)) (aJ (i:=10) cT.nd rfl (L8 rfl)) (af (A0 (eS hr) (pv 8) (aw (ah K rfl) (aw (ah K rfl) (cM K rfl (pv 0) rfl) (pv 10) (fun _ _=>rfl)) (aG T.ku (rh T) (hr.mono (by decide)) rfl (paF (pv 0) (paF (pv 3) (paF (pv 9) aa)))) (fun _ _=>rfl)) (ua (paF (dW (eS hr) (pv 5) (pv 10) (fun _ _=>rfl)) (paF (pv 9) aa))) rfl)))))
   (ae (av (i:=11) cT.nd rfl (L8 rfl) (az (wX rfl) rfl T.jf NY (paF (pv 8) aa)))
   (ae (av (i:=12) cT.nd rfl (L8 rfl) (aW aa))
   (ae (a8 L7 rfl (a9 rfl T.bD (paF (pv 4) aa)) (aJ (i:=13) cT.nd rfl (Qf rfl)) (af (aS (ax bK (au aV (au bS (pv 6) (pv 13)) (pv 4)) (pv 7) (aB _)) (af (a7 (cO K rfl Mj MK ML cC (pv 12) (paF (dU rfl oo (aY K rfl (pv 11)) (fun _ _ _ _=>⟨(aJ (i:=0) oo.nd rfl (L8 rfl)),bZ,(au aV (au bj (aw (km K rfl) (dW (eS hr) (pv 1) (pv 0) (fun _ _=>rfl)) ag (fun _ _=>rfl)) (au bS (aw (km K rfl) (dW (eS hr) (pv 1) (pv 0) (fun _ _=>rfl)) ag (fun _ _=>rfl)) (pv 2))) (pv 3))⟩)) aa)))) aE)))
   (af (aN (ua (paF (pv 11) (paF (az (nQ K rfl hr.units) rfl T.jf NY (paF (pv 12) aa)) aa))))))))))))),?_⟩
 walk_at "rn";refine la ?_;walk_at "rn";refine Cn hR hM ml.symm nd fun d hd=>?_;have s1:=ay hd (.dK (d9 R M));have hd1:upd H d (.dK (d9 R M)) d=some (.dK (d9 R M)):=ar;generalize upd H d (.dK (d9 R M))=H1 at s1 hd1 ⊢;walk_at "rn";refine ⟨g,v,n,e,x,t,R,rfl,aX.mono s1 hG,gt,Rep.mono s1 hR,pt,hx,fun k H2 s2 k1 kin lM=>?_⟩;have T0:=tk k k1 kin lM;have s02:=s1.trans s2;have hd2:=s2 _ _ hd1;have pn:=fun j=>bF gt hx j;have mk0:∀ y∈R,cQ (d9 R M) (nk y)=some (.int (mkO R M y:Int)):=fun y hy=>g0 nd (kq hy) (getD_some (l:=M) 0 (by rw [ml];exact M1 hy))
 walk_at "rn";refine dX ?_;walk_at "rn";refine ⟨g,n,e,x,(k:Int),t,rfl,aX.mono s02 hG,gt,hx,fun H3 s3=>?_⟩;rw [uS gt hx k];have s03:=s02.trans s3;have hd3:=s3 _ _ hd2;refine eZ hd3 (mk0 _ kin) ?_;walk_at "rn";refine JK fun do' hdo=>?_;have s34:=ay hdo (.dK []);have w4:(upd H3 do' (.dK [])) do'=some (.dK []):=ar;generalize upd H3 do' (.dK [])=H4 at s34 w4 ⊢;have s04:=s03.trans s34;have hd4:=s34 _ _ hd3;have fo:H do'=none:=s03.free hdo;have dne:d≠do':=dP hd3 hdo;have ll:(lay t e x R k).length<=n:=eC (T0.nd gt) (T0.lt gt);have lk:k * R.length<=23:=by rw [<- uP (t:=t) (e:=e) (x:=x)];omega
 have r1:0<R.length:=M9.mpr pt.ne;have k23:k<=23:=M7 (Qd k r1) lk;have new:∀ {i j h:Nat},i<k->R[j]?=some h->tb t h (aC t e x i)∉lay t e x R i++(R.take j).map (fun h=>tb t h (aC t e x i)):=fun {i j h} hi hj z=>by
  have hh:=LS hj;rcases Mc.mp z with c|c
  ·obtain ⟨i',hi',h',hh',e'⟩:=eY.mp c;have:=(T0.one gt hh' hh (by omega) hi e').1
   omega
  ·obtain ⟨h',hh',e'⟩:=Mm.mp c;have e2:=(T0.one gt (Py hh') hh hi hi e').2;subst e2;obtain ⟨j',hj'⟩:=Ms hh';rw [List.getElem?_take] at hj'
   split at hj'
   ·have a1:=gm nd hj;have a2:=gm nd hj';omega
   ·cases hj'
 walk_at "rn";refine bV (n:=k) rfl (by omega) (fun i σ' H'=>aj H3 H'/\∃ (kvs:List (Key×V)) (x9 x10:Option V),H' do'=some (.dK kvs)/\yk n t e R M x k H' kvs (lay t e x R i)/\σ'=[some (.ref g),some v,some u,some (.int (x:Int)),some (.int (m:Int)),some (.ref d),some (.int (k:Int)),some (.int (mkO R M (aC t e x k):Int)),some (.ref do'),x9,x10,none,none,none]) ⟨s34,[],_,_,w4,⟨rfl,fun y hy=>absurd hy OH⟩,rfl⟩ ?_ ?_
 ·rintro i σ' H5 hi ⟨s5,kvs,x9,x10,w5,og,rfl⟩;walk_at "rn";refine fg (H₀:=H3) (α:=Nat) (Rep.mono s03 hR) (fun j σ' H'=>aj H3 H'/\∃ (kvs:List (Key×V)) (x10:Option V),H' do'=some (.dK kvs)/\yk n t e R M x k H' kvs (lay t e x R i++(R.take j).map fun h=>tb t h (aC t e x i))/\σ'=[some (.ref g),some v,some u,some (.int (x:Int)),some (.int (m:Int)),some (.ref d),some (.int (k:Int)),some (.int (mkO R M (aC t e x k):Int)),some (.ref do'),some (.int (i:Int)),x10,none,none,none]) ⟨s5,kvs,_,w5,by simpa using og,rfl⟩ (fun i σ' H' z=>z.1) ?_ ?_
  ·rintro j h w' σ' H6 hj hw' ⟨s6,kvs,x10,w6,og,rfl⟩;cases (show w'=V.int (h:Int) from hw');have hh:=LS hj;have hn:=pt.lt h hh;have kl:kvs.length<=100000:=by
    have e1:=congrArg QJ og.1;rw [LX,LX,Mr,LX,uP] at e1;have:(R.take j).length<=R.length:=by rw [MF];omega
    have:i * R.length<=k * R.length:=Pz _ (by omega)
    omega
   walk_at "rn";refine Bu ?_;walk_at "7";refine dX ?_;walk_at "rn";refine eZ (s6 _ _ hd3) (mk0 h hh) ?_;walk_at "rn";refine ⟨small (by show 2<=1000;decide),fun q' hq'=>?_⟩
   have s67:=ay hq' (.tup [.int (mkO R M h:Int),.int (i:Int)]);have w7:(upd H6 q' (.tup [.int (mkO R M h:Int),.int (i:Int)])) q'=some (.tup [.int (mkO R M h:Int),.int (i:Int)]):=ar;generalize upd H6 q' (.tup [.int (mkO R M h:Int),.int (i:Int)])=H7 at s67 w7 ⊢;have s07:=s03.trans (s6.trans s67);walk_at "rn";refine cb T (s07 _ _ hg) ?_;walk_at "rn";refine cR (Rep.mono s07 hT) rfl (gt.get hn) fun w1 hw1=>?_;walk_at "rn";refine ⟨g,n,e,x,(i:Int),t,rfl,aX.mono s07 hG,gt,hx,fun H8 s8=>?_⟩;rw [uS gt hx i];refine bM (Rep.mono s8 hw1) (gt.d4 hn (pn i)) ?_;have w8:=s8 _ _ (s67 _ _ w6);refine EA w8 kl ?_;refine ⟨eX hdo (s6.trans (s67.trans s8)),_,_,ar,?_,rfl⟩;have tk1:lay t e x R i++(R.take (j+1)).map (fun h=>tb t h (aC t e x i))=(lay t e x R i++(R.take j).map fun h=>tb t h (aC t e x i))++[tb t h (aC t e x i)]:=by
    rw [MB,hj,M8,Qj];rfl
   rw [tk1];refine og.put (new hi hj) (q:=q') (fun a xs z=>?_) ?_
   ·have:a≠do':=fun e1=>by rw [e1,w6] at z;cases z
    rw [aA this];exact s8 _ _ (s67 _ _ z)
   ·have:q'≠do':=fun e1=>by rw [e1,w6] at hq';cases hq'
    rw [aA this,(T0.org gt hh hi).1,(T0.org gt hh hi).2];exact s8 _ _ w7
  ·rintro σ' H6 ⟨s6,kvs,x10,w6,og,rfl⟩;rw [MJ] at og;walk_at "rn";exact ⟨s6,kvs,_,_,w6,by rw [yW];exact og,rfl⟩
 rintro σ' H5 ⟨s5,kvs,x9,x10,w5,og,rfl⟩;walk_at "rn";refine E7 w5 og.1 (by omega) fun dg Pt hdg hpt hst=>?_
 have s56:=ay hdg (.lst (aO Pt));have w6:(upd H5 dg (.lst (aO Pt))) dg=some (.lst (aO Pt)):=ar;generalize upd H5 dg (.lst (aO Pt))=H6 at s56 w6 ⊢;have s06:=s03.trans (s5.trans s56);have fdg:H dg=none:=(s03.trans s5).free hdg;have pl:Pt.length<=23:=by rw [hpt.length_eq];omega
 have pm:∀ y,y∈Pt↔y∈lay t e x R k:=fun y=>hpt.mem_iff;have ps:Pt.Pairwise (· < ·):=pV (hpt.nodup_iff.mpr (T0.nd gt)) hst;have wo6:=s56 _ _ w5;have og6:∀ y∈Pt,∃ q,cQ kvs (nk y)=some (.ref q)/\H6 q=some (.tup [.int (mkO R M (bsO n t e R x k y):Int),.int (ixO n t e R x k y:Int)]):=fun y hy=>by
  obtain ⟨q,a,b⟩:=og.2 y ((pm y).mp hy);exact ⟨q,a,s56 _ _ b⟩
 walk_at "1";refine ⟨small (by show 0<=1000;decide),fun df hdf=>?_⟩
 have s67:=ay hdf (.lst []);have w7:(upd H6 df (.lst [])) df=some (.lst []):=ar;generalize upd H6 df (.lst [])=H7 at s67 w7 ⊢;have m1:=T0.m1
 let pr:Nat->Bool:=fun y=>decide (k * y % m=mkO R M (aC t e x k))
 let row:Nat->List Nat:=fun y=>Pt.map (gY n t e R M x m k y)
 walk_at "rn";refine bV (n:=m) rfl (by omega) (fun i σ' H'=>aj H6 H'/\∃ (x13:Option V),Rows H H' df (((LY i).filter pr).map row)/\σ'=[some (.ref g),some v,some u,some (.int (x:Int)),some (.int (m:Int)),some (.ref d),some (.int (k:Int)),some (.int (mkO R M (aC t e x k):Int)),some (.ref do'),x9,x10,some (.ref dg),some (.ref df),x13]) ⟨s67,_,Rows.nil (s06.free hdf) w7,rfl⟩ ?_ ?_
 ·rintro y σ' H8 hy ⟨s8,x13,rw8,rfl⟩;have kc:((LY y).filter pr).length<=y:=by
   have:=Og pr (LY y);rw [Nj] at this;exact this
  walk_at "2";refine aU (fun c=>?_) (fun c=>?_)
  ·have pt1:(LY (y+1)).filter pr=(LY y).filter pr++[y]:=by
    rw [Pm,Q5];have:pr y=true:=decide_eq_true c;simp [List.filter,this]
   obtain ⟨hb1,ps1,hb2,hb3⟩:=id rw8;walk_at "rn";refine ⟨.inl ⟨rfl,_,SqL.of hb2⟩,?_⟩;walk_at "rn";refine pS (β:=Nat) (eE (s8 _ _ w6)) (by omega) (fun i=>(row y).take i) (fun σ'=>∃ z,σ'=[z,some (.ref do'),some (.int (y:Int)),some (.int (m:Int))]) rfl (fun i _=>by rw [MF];omega) ⟨_,rfl⟩ ?_ ?_
   ·rintro i z w' σ' H9 d' R' R0 hz hs hw' ⟨z',rfl⟩ hR' hR0 hd';cases (show w'=V.int (z:Int) from hw');obtain ⟨q1,a1,b1⟩:=og6 z (LS hz);have s69:=s8.trans hs;walk_at "rn";refine dX ?_;walk_at "rn";refine eZ (s69 _ _ wo6) a1 ?_;walk_at "rn";refine qd (i:=0) (s69 _ _ b1) rfl ?_;walk_at "rn";refine dX ?_;walk_at "rn";refine eZ (s69 _ _ wo6) a1 ?_;walk_at "rn";refine qd (i:=1) (s69 _ _ b1) rfl ?_;walk_at "rn";exact hR' _ _ _ _ ⟨_,rfl⟩ (aj.refl _) rfl (by
     rw [MB];show _++((Pt.map (gY n t e R M x m k y))[i]?).toList=_;rw [Mp,hz];rfl)
   intro dr H9 hdr s9 h9;have g9:Gr K H9 dr ((row y).take Pt.length):=h9;rw [MU (by show (Pt.map _).length<=_;simp)] at g9
   have rw9:=rw8.mono s9;walk_at "rn";refine Ac rw9 (by rw [LX];omega) ((s06.trans s8).free hdr) (dP hb2 hdr).symm (jC g9) fun H10 rw10 k10=>?_
   refine ⟨fun a o z=>?_,_,?_,rfl⟩
   ·have ha:a≠df:=dP z hdf;exact k10 a o ha (s9 _ _ (s8 _ _ z))
   ·rw [pt1,M8];exact rw10
  ·have pt1:(LY (y+1)).filter pr=(LY y).filter pr:=by
    rw [Pm,Q5];have:pr y=false:=decide_eq_false c;simp [List.filter,this]
   walk_at "rn";exact ⟨s8,_,by rw [pt1];exact rw8,rfl⟩
 rintro σ' H8 ⟨s8,x13,rw8,rfl⟩;have s08:=s06.trans s8;have fl:(((LY m).filter pr).map row).length<64:=by
  have:=Og pr (LY m);rw [Nj] at this;rw [LX];omega
 walk_at "7";refine si s08 rw8 fl fun d' L H9 hd' s9 hpm hso rw9=>?_;walk_at "rn";refine ⟨small (by show 2<=1000;decide),fun p hp=>?_⟩
 have s910:=ay hp (.tup [.ref dg,.ref d']);refine q p dg d' _ Pt L fdg (s08.trans (s9.trans s910)) ar (s910 _ _ (s9 _ _ (s8 _ _ w6))) (rw9.mono s910) (T0.taken gt ps pm hpm (hso.imp fun z=>?_));rw [<- uV];exact z
def Gg {H:Hp} {σ:St} {g:TG} {t:TS} {D:Ends} {p:Addr} {xs:List V} (Pv:Nat->St->Hp->Prop) (h0:Pv 0 σ H) (hl:∀ i σ' H',Pv i σ' H'->SqL K H' p xs)
  (hs:∀ i x σ' H',xs[i]?=some x->Pv i σ' H'->g x σ' H' fun σ2 H2=>t { D with nx:=Pv (i+1),ct:=Pv (i+1),bk:=D.nx } σ2 H2) (hd:∀ σ' H',Pv xs.length σ' H'->D.nx σ' H') :
  pJ K (.ref p) H (lK g t D σ) :=
 ⟨p,rfl,⟨xs,hl 0 σ H h0⟩,rN (K:=K) (a:=p) (xs:=xs) Pv h0 (fun i σ' H' _ q=>hl i σ' H' q) hs hd⟩
def Paired.FD {α β:Type} {F:α->β->Prop}:∀ {l:List α} {m:List β},Nk F l m->∀ {i:Nat} {a:α} {b:β},l[i]?=some a->m[i]?=some b->F a b
 | _,_,.nil,i,a,b,h,_=>by simp at h
 | _,_,.cons r t,0,a,b,h,h'=>by
  simp at h h';subst h;subst h';exact r
 | _,_,.cons r t,i+1,a,b,h,h'=>Paired.FD t (by simpa using h) (by simpa using h')
def EL (K:LO):Sp:=fun vs H Q _=>∃ (p:Addr) (H0:Hp) (as:List Addr) (Ls:List (List (List Nat))),vs=[.ref p]/\aj H0 H/\SqL K H p (as.map V.ref)/\Nk (fun a L=>Rows H0 H a L) as Ls/\(∀ L∈Ls,∀ r∈L,r≠[])/\Ls.flatten.length<=1000 /\
 ∀ d H',aj H H'->Rows H0 H' d Ls.flatten->Q (.ref d) H'
def DW (T:Txt K mg):aH P w K mg base CX0 1 T.m9.f T.m9.fd ["lists"] (EL K):=by
 refine T.m9.ok pK (fun vs H Q E h=>?_) (fun cdv A outer s H vs Q E hr h=>?_)
 ·obtain ⟨p,H0,as,Ls,rfl,_⟩:=h;rfl
 obtain ⟨p,H0,as,Ls,rfl,s0,hp,hP,hne,hl,q⟩:=h;refine ⟨_,(ae (av (i:=1) pK.nd rfl (L8 rfl) (aW aa))
   (ae (a8 L7 rfl (aY K rfl (pv 0)) (aJ (i:=2) pK.nd rfl (L8 rfl)) (af (a7 (cO K rfl Mj PySem.F.slot_list_extend PySem.F.type_list_extend Ef (pv 1) (paF (pv 2) aa)))))
   (af (aN (pv 1))))),?_⟩
 walk_at "1";refine ⟨small (by show 0<=1000;decide),fun d hd=>?_⟩
 have s1:=ay hd (.lst []);have w1:(upd H d (.lst [])) d=some (.lst []):=ar;generalize upd H d (.lst [])=H1 at s1 w1 ⊢;walk_at "rn";refine Gg (K:=K) (xs:=as.map V.ref) (fun i σ' H'=>aj H H'/\∃ x2:Option V,Rows H0 H' d (Ls.take i).flatten/\σ'=[some (.ref p),some (.ref d),x2]) ⟨s1,_,by rw [List.take_zero];exact Rows.nil (s0.free hd) w1,rfl⟩ (fun i σ' H' z=>z.1.seq hp) ?_ ?_
 ·rintro i x σ' H2 hx ⟨s2,x2,rw2,rfl⟩;rw [Mp] at hx;obtain ⟨a,ha,rfl⟩:=O7.mp hx;obtain ⟨L,hL,ra⟩:=Paired.getL hP ha;have hLm:=LS hL;have tk:(Ls.take (i+1)).flatten=(Ls.take i).flatten++L:=by
   rw [MB,hL,Ti];simp
  have len:((Ls.take i).flatten++L).length<=1000:=by
   rw [<- tk];have:(Ls.take (i+1)).flatten.length+(Ls.drop (i+1)).flatten.length=Ls.flatten.length:=by
    rw [<- Mr,<- Ti,Pe]
   omega
  obtain ⟨hb1,ps1,hb2,hb3⟩:=id rw2;walk_at "rn";refine ⟨.inl ⟨rfl,_,SqL.of hb2⟩,?_⟩;walk_at "rn";refine AQ rw2 (ra.mono s2) (hne L hLm) (by rw [Mr] at len;omega) fun H3 rw3 k3=>?_
  exact ⟨fun b o z=>k3 b o (dP z hd) (s2 _ _ z),_,by rw [tk];exact rw3,rfl⟩
 ·rintro σ' H2 ⟨s2,x2,rw2,rfl⟩;rw [LX,hP.length,MJ] at rw2;walk_at "rn";exact q d H2 s2 rw2
def uD (n:Nat) (t:List (List Nat)) (e:Nat) (R:List Nat) (x m:Nat) (H0 H:Hp) (y:V) (M:List Nat):Prop:=∃ (p dg df:Addr) (Pt:List Nat) (L:List (List Nat)),y=.ref p/\H p=some (.tup [.ref dg,.ref df])/\H dg=some (.lst (aO Pt))/\Rows H0 H df L/\Taken n t e R M x m Pt L
def uD.mono {n e x m:Nat} {t:List (List Nat)} {R M:List Nat} {H0 H H':Hp} {y:V} (s:aj H H') (h:uD n t e R x m H0 H y M):uD n t e R x m H0 H' y M:=by
 obtain ⟨p,dg,df,Pt,L,a,b,c,d,f⟩:=h;exact ⟨p,dg,df,Pt,L,a,s _ _ b,s _ _ c,d.mono s,f⟩
def zb {n e x m:Nat} {t:List (List Nat)} {R:List Nat} {H0 H:Hp}:∀ {ys:List V} {F:List (List Nat)},Nk (fun y M=>uD n t e R x m H0 H y M) ys F->∃ (dfs:List Addr) (Ls:List (List (List Nat))),Nk (fun y a=>∃ p dg,y=.ref p/\H p=some (.tup [.ref dg,.ref a])) ys dfs/\Nk (fun a L=>Rows H0 H a L) dfs Ls/\Nk (fun M L=>∃ Pt,Taken n t e R M x m Pt L) F Ls
 | _,_,.nil=>⟨[],[],.nil,.nil,.nil⟩
 | _,_,.cons r h=>by
  obtain ⟨dfs,Ls,a,b,c⟩:=zb h;obtain ⟨p,dg,df,Pt,L,r1,r2,r3,r4,r5⟩:=r;exact ⟨df :: dfs,L :: Ls,.cons ⟨p,dg,r1,r2⟩ a,.cons r4 b,.cons ⟨Pt,r5⟩ c⟩
def DU {n e l m:Nat} {t:List (List Nat)} (gt:GT n t e) (hl:c8 (cy n t e) l) (h:m % l=0) {x:Nat} (hx:x<n):aC t e x m=e:=by
 obtain ⟨c,rfl⟩:=Nq h;have ho:l % aZ n t e x=0:=hl.all _ (Mm.mpr ⟨x,Ma.mpr hx,rfl⟩);obtain ⟨d,rfl⟩:=Nq ho;rw [Qb];exact jj gt hx (dJ gt hx).2.1 _
def K4 (k:Nat):(Me k [V.int ((0:Nat):Int)]).flatten=aO (Me k 0):=by
 unfold aO
 induction k with
 | zero=>rfl
 | succ k ih=>rw [ND,Oz,ih,ND];rfl
def Bn (C:Addr) (K:LO):Sp:=fun vs H Q _=>∃ (g:Addr) (v z:V) (n e m l:Nat) (t:List (List Nat)) (S:List Nat),vs=[.ref g,v,z]/\aX C H g n t e/\GT n t e/\At K H v S/\IsPart n t S /\
 (z=.int (m:Int)\/(z=.non/\m=l))/\c8 (cy n t e) l/\m % l=0/\0<m/\m<=60/\∀ d H' D L,aj H H'->Rows H H' d L->Gen n t e (iO n t e S) D->JN t D S m L->Q (.ref d) H'
def Iw (T:Txt K mg):aH P w K mg base CX0 6 T.iW.f T.iW.fd ["group","part","spokes"] (Bn T.aI K):=by
 refine T.iW.ok fK (fun vs H Q E h=>?_) (fun cdv A outer s H vs Q E hr h=>?_)
 ·obtain ⟨g,v,z,n,e,m,l,t,S,rfl,_⟩:=h;rfl
 obtain ⟨g,v,z,n,e,m,l,t,S,rfl,hG,gt,hS,pt,hz,hl,ml0,m1,m60,q⟩:=h;have n23:=gt.le;have sv:tS n t e z m:=by
  rcases hz with rfl|⟨rfl,rfl⟩
  ·exact .inr ⟨rfl,m1,m60,fun k hk=>by rw [hk.uni hl];exact ml0⟩
  ·exact .inl ⟨rfl,hl⟩
 refine ⟨_,(ae (a7 (aG T.bW (gP T) (hr.mono (by decide)) rfl (paF (pv 0) (paF (pv 1) aa))))
   (ae (av (i:=3) fK.nd rfl (Qf rfl) (aG T.cP (jX T) (hr.mono (by decide)) rfl (paF (pv 0) (paF (pv 2) aa))))
   (ae (av (i:=4) fK.nd rfl (Qf rfl) (aG T.qi (Gk T) (hr.mono (by decide)) rfl (paF (pv 0) (paF (pv 1) aa))))
   (ae (av (i:=5) fK.nd rfl (L8 rfl) (aW (paF (au E2 (aW (paF ag aa)) (az (aT K rfl) rfl T.bB Mf (paF (pv 4) aa))) aa)))
   (ae (a8 L7 rfl (aY K rfl (pv 1)) (aJ (i:=6) fK.nd rfl (Qf rfl)) (af (aS (ax (f6 K rfl) (pv 6) (pv 4) (by with_unfolding_all rfl)) (ae (dR (i:=7) rfl fK.nd rfl (L8 rfl) v5 (aY K rfl (pv 5)) (fun _ _ _ _=>⟨(aJ (i:=0) v5.nd rfl (L8 rfl)),bZ,(aG T.iz (qI T) (hr.mono (by decide)) rfl (paF (pv 1) (paF (pv 3) (paF (pv 0) (paF (pv 4) (paF (pv 2) aa))))))⟩) rfl)
   (ae (av (i:=4) fK.nd rfl (Qf rfl) (aw (km K rfl) (aw (ah K rfl) (pv 7) ag (fun _ _=>rfl)) ag (fun _ _=>rfl)))
   (af (av (i:=5) fK.nd rfl (L8 rfl) (aG T.m9 (DW T) (hr.mono (by decide)) rfl (paF (dU rfl we (aY K rfl (pv 7)) (fun _ _ _ _=>⟨(EG K rfl (i:=0) (j:=1) rfl we.nd rfl (L8 rfl) rfl (L8 rfl)),bZ,(pv 1)⟩)) aa)))))) aE)))
   (af (aN (az (nQ K rfl hr.units) rfl T.jf NY (paF (pv 5) aa))))))))),?_⟩
 walk_at "rn";refine ⟨g,v,n,e,t,S,rfl,hG,gt,hS,pt,fun H1 s1=>?_⟩;walk_at "rn";refine ⟨g,z,n,e,m,t,rfl,aX.mono s1 hG,gt,sv,fun H2 s2=>?_⟩;have s02:=s1.trans s2;walk_at "rn";refine ⟨g,v,n,e,t,S,rfl,aX.mono s02 hG,gt,Rep.mono s02 hS,pt,fun dr H3 D fdr s3 g3 G=>?_⟩;have s03:=s02.trans s3;have I0:=fA.start gt pt G m1;have dl:=I0.pt.len;walk_at "1";refine bo ?_;walk_at "rn";refine ⟨small (by show 1<=1000;decide),fun p1 hp1=>?_⟩
 have s34:=ay hp1 (.lst [.int ((0:Nat):Int)]);have w4:(upd H3 p1 (.lst [.int ((0:Nat):Int)])) p1=some (.lst [.int ((0:Nat):Int)]):=ar;generalize upd H3 p1 (.lst [.int ((0:Nat):Int)])=H4 at s34 w4 ⊢;walk_at "rn";refine cB (eE (s34 _ _ (jC g3))) ?_;refine ⟨p1,_,_,rfl,rfl,w4,by omega,by omega,?_,fun p2 hp2=>?_⟩
 ·rw [MX];show 1 * _<=_;omega
 rw [show ((D.length:Nat):Int).toNat=D.length from rfl,K4];have s45:=ay hp2 (.lst (aO (Me D.length 0)));have w5:(upd H4 p2 (.lst (aO (Me D.length 0)))) p2=some (.lst (aO (Me D.length 0))):=ar;generalize upd H4 p2 (.lst (aO (Me D.length 0)))=H5 at s45 w5 ⊢;walk_at "rn";refine ⟨small (by show 1<=1000;decide),fun df hdf=>?_⟩
 have s56:=ay hdf (.lst [.ref p2]);have w6:(upd H5 df (.lst [.ref p2])) df=some (.lst [.ref p2]):=ar;generalize upd H5 df (.lst [.ref p2])=H6 at s56 w6 ⊢;have s04:=s03.trans s34;have s05:=s04.trans s45;have s06:=s05.trans s56;have rw6:Rows H H6 df [Me D.length 0]:=⟨s05.free hdf,[p2],w6,.cons ⟨s04.free hp2,dP w5 hdf,s56 _ _ w5⟩ .nil⟩;have hr6:=(s34.trans (s45.trans s56)) _ _ (jC g3);walk_at "rn";refine fg (H₀:=H) (α:=Nat) hS (fun i σ' H'=>aj H H'/\∃ (R:List Nat) (F:List (List Nat)) (dr df:Addr) (x6 x7:Option V),H' dr=some (.lst (aO R))/\Rows H H' df F/\fA n t e D S m R F/\(∀ y∈S.take i,y∈R)/\σ'=[some (.ref g),some v,some z,some (.int (m:Int)),some (.ref dr),some (.ref df),x6,x7]) ⟨s06,D,_,dr,df,_,_,hr6,rw6,I0,fun y hy=>absurd hy (by simp),rfl⟩ (fun i σ' H' z=>z.1) ?_ ?_
 ·rintro i x w' σ' H7 hx hw' ⟨s7,R,F,dr,df,x6,x7,hr7,rw7,I,tk,rfl⟩;cases (show w'=V.int (x:Int) from hw');have hxS:=LS hx;have hxn:=pt.lt x hxS;have tk1:∀ R':List Nat,(∀ y∈R,y∈R')->x∈R'->∀ y∈S.take (i+1),y∈R':=fun R' h1 h2 y hy=>by
   rw [MB,hx] at hy;rcases Mc.mp hy with c|c
   ·exact h1 y (tk y c)
   ·rw [show y=x by simpa using c];exact h2
  walk_at "2";refine qv (eE hr7) ?_;walk_at "rn";refine bH (fun c=>?_) (fun c=>?_)
  ·have fF:=I.few;have f0:=I.some;have rl:=I.pt.len;obtain ⟨hb1,ps1,hb2,hb3⟩:=id rw7;have pl:=hb3.length;walk_at "rn";refine oX (K:=K) (p:=df) (xs:=ps1.map V.ref) (by rw [LX];omega) (fun d i σ' H' ys=>aj H7 H'/\Nk (fun y M=>uD n t e R x m H (del H' d) y M) ys (F.take i)/\∃ y0,σ'=[y0,some (.ref g),some (.int (m:Int)),some (.ref dr),some (.int (x:Int))]) (fun d i σ' H' ys z=>z.1.seq (SqL.of hb2)) (SqL.of hb2)
    (fun d i σ' H' ys _ z=>by rw [z.2.1.length,MF];omega) (fun d hd=>⟨ay hd _,.nil,_,rfl⟩) ?_ ?_
   ·rintro d j y σ' H8 ys Rk R0 hd hy ⟨s8,pr,y0,rfl⟩ hd8 hR hR0;rw [Mp] at hy;obtain ⟨pa,hpa,rfl⟩:=O7.mp hy;obtain ⟨M,hM,ra⟩:=Paired.getL hb3 hpa;have hMF:=LS hM;have s08:=s7.trans s8;walk_at "rn";refine ⟨g,_,_,n,e,x,m,t,R,M,rfl,aX.mono s08 hG,gt,eE (s8 _ _ hr7),I.pt,eE (s8 _ _ ra.2.2),((I.mem M).mp hMF).1,hxn,m60,fun k k1 kin lM=>I.on gt pt G hxS hMF k1 kin lM m1 (DU gt hl ml0 hxn),fun p dg df' H9 Pt L fdg s9 hp9 hg9 rw9 Tk=>?_⟩;refine hR _ _ _ (s9 _ _ hd8) ⟨?_,?_,_,rfl⟩
    ·intro a o z;rw [aA (aQ z hd)];exact s9 _ _ (s8 _ _ z)
    ·rw [MB,hM];have sd:aj (del H8 d) (del (upd H9 d (.lst (ys++[.ref p]))) d):=(kP s9).trans ik;refine Paired.app (Paired.ck pr fun _ _ z=>z.mono sd) (.cons ?_ .nil);have dn:∀ {a:Addr} {o:HO},a≠d->H9 a=some o->(del (upd H9 d (.lst (ys++[.ref p]))) d) a=some o:=fun ha z=>by rw [eM ha,aA ha];exact z
     have pd:p≠d:=fun q=>by rw [q,s9 _ _ hd8] at hp9;cases hp9
     obtain ⟨c1,ps2,c2,c3⟩:=rw9;exact ⟨p,dg,df',Pt,L,rfl,dn pd hp9,dn (dP hd8 fdg).symm hg9,⟨s08.free c1,ps2,dn (dP hd8 c1).symm c2,Paired.ck c3 fun _ _ z=>⟨s08.free z.1,z.2.1,dn (dP hd8 z.1).symm z.2.2⟩⟩,Tk⟩
   intro dt σ' H8 ys hdt hd8 ⟨s8,pr,_⟩;rw [LX,pl,MJ] at pr;have pr8:=Paired.ck pr fun _ _ z=>uD.mono kH z;have yl:=pr8.length;obtain ⟨dfs,Ls,b1,b2,b3⟩:=zb pr8;obtain ⟨M0,hM0⟩:∃ M0,F[0]?=some M0:=⟨F[0],LP f0⟩;obtain ⟨y0,hy0⟩:∃ y0,ys[0]?=some y0:=⟨ys[0],LP (by omega)⟩
   obtain ⟨p0,dg0,df0,Pt,L0,e0,e1,e2,e3,e4⟩:=Paired.FD pr8 hy0 hM0;subst e0;have hT:∀ (i:Nat) (M:List Nat) (L:List (List Nat)),F[i]?=some M->Ls[i]?=some L->Taken n t e R M x m Pt L:=fun i M L h1 h2=>by
    obtain ⟨Pt',T'⟩:=Paired.FD b3 h1 h2;rw [T'.gen.uni e4.gen fun _=>Iff.rfl] at T';exact T'
   have I':=I.step gt pt hxS b3.length.symm hT;have hSn:∀ s∈R++[x],s<n:=fun s hs=>by
    rcases Mc.mp hs with c|c
    ·exact I.pt.lt s c
    ·rw [LZ.mp c];exact hxn
   have sub:∀ h∈R,h∈Pt:=fun h hh=>e4.gen.has gt (Mc.mpr (.inl hh)) (I.pt.lt h hh);have xP:x∈Pt:=e4.gen.has gt (Mc.mpr (.inr L9)) hxn;have s08:=s7.trans s8;walk_at "rn";refine ⟨dt,_,_,_,rfl,rfl,SqL.of hd8,gh (j:=0) hy0,?_⟩;walk_at "rn";refine qd (i:=0) e1 rfl ?_;walk_at "rn";refine oX (K:=K) (p:=dt) (xs:=ys) (by omega) (fun d i σ' H' zs=>aj H8 H'/\zs=(dfs.take i).map V.ref/\∃ a b,σ'=[a,b]) (fun d i σ' H' ys z=>z.1.seq (SqL.of hd8)) (SqL.of hd8)
    (fun d i σ' H' zs _ z=>by rw [z.2.1,LX,MF];omega) (fun d hd=>⟨ay hd _,rfl,_,_,rfl⟩) ?_ ?_
   ·rintro d j y σ' H9 zs Rk R0 hd hy ⟨s9,rfl,a,b,rfl⟩ hd9 hR hR0;obtain ⟨da,hda,p,dg,rfl,hpp⟩:=Paired.getL b1 hy;refine ⟨p,_,rfl,SqT.of (s9 _ _ hpp),rfl,?_⟩;refine SH _ (SH _ (And.intro rfl (SH _ (SH _ (And.intro rfl (And.intro rfl ?_))))));walk_at "rn";refine hR _ _ _ hd9 ⟨fun a' o z'=>?_,?_,_,_,rfl⟩
    ·rw [aA (aQ z' hd)];exact s9 _ _ z'
    ·rw [MB,hda,M8];rfl
   intro dj σ' H9 zs hdj hd9 ⟨s9,ez,_⟩;subst ez;rw [b1.length,MJ] at hd9;walk_at "rn";have i'l:=I'.few;refine ⟨dj,H,dfs,Ls,rfl,s08.trans s9,SqL.of hd9,Paired.ck b2 fun _ _ z=>z.mono s9,fun L hL r hr=>?_,by omega,fun d' H10 s10 rw10=>?_⟩
   ·obtain ⟨i',hi'⟩:=Ms hL;have il:i' < F.length:=by rw [b3.length];exact (LR.mp hi').1
    have w1:=((hT i' _ L (LP il) hi').mem r).mp hr;intro er;have:=w1.1.len;rw [er] at this;exact List.ne_nil_of_mem xP (O3.mp this.symm)
   walk_at "rn";exact ⟨s08.trans (s9.trans s10),Pt,_,dg0,d',_,_,s10 _ _ (s9 _ _ e2),rw10,I',tk1 Pt sub xP,rfl⟩
  ·walk_at "rn";exact ⟨s7,R,F,dr,df,_,_,hr7,rw7,I,tk1 R (fun _ h=>h) c,rfl⟩
 rintro σ' H7 ⟨s7,R,F,dr,df,x6,x7,hr7,rw7,I,tk,rfl⟩;rw [MJ] at tk;have fF:=I.few;walk_at "rn";refine si s7 rw7 (by omega) fun d' L H8 hd' s8 hpm hso rw8=>?_
 refine q d' H8 D L (s7.trans s8) rw8 G (I.fin gt pt G tk hpm (hso.imp fun z=>?_));rw [<- uV];exact z
def gK (n:Nat) (t:List (List Nat)) (L:List Int):Prop:=∃ R:List Nat,L=R.map (fun (x:Nat)=>(x:Int))/\IsPart n t R
def pN {α β γ:Type} {F:α->γ->Prop} {f:β->γ}:∀ {xs:List α} {l:List β},Nk F xs (l.map f)->Nk (fun x r=>F x (f r)) xs l
 | xs,[],h=>by
  cases xs with
  | nil=>exact .nil
  | cons x r=>cases h
 | xs,b :: l,h=>by
  cases xs with
  | nil=>cases h
  | cons x r =>
   cases h with
   | cons r1 t1=>exact .cons r1 (pN t1)
def dY {H:Hp} {v:V} {R:List Nat} (h:At K H v (R.map fun (x:Nat)=>(x:Int))):At K H v R:=by
 obtain ⟨p,xs,e,hS,hp⟩:=h;exact ⟨p,xs,e,hS,Paired.ck (pN (F:=fun (x:V) (i:Int)=>Rep.is K H x i) (f:=fun (n:Nat)=>(n:Int)) hp) fun _ _ z=>z⟩
def qo:∀ {L:List Int},(∀ x∈L,0<=x)->∃ R:List Nat,L=R.map fun (x:Nat)=>(x:Int)
 | [],_=>⟨[],rfl⟩
 | x :: L,h=>by
  obtain ⟨R,e⟩:=qo (L:=L) fun y hy=>h y (L5 _ hy);exact ⟨x.toNat :: R,by rw [Mz,<- e,Tg (h x L9)]⟩
def y8:∀ {a b:List Nat},a.map (fun (x:Nat)=>(x:Int))=b.map (fun (x:Nat)=>(x:Int))->a=b
 | [],[],_=>rfl
 | [],_ :: _,h=>by cases h
 | _ :: _,[],h=>by cases h
 | x :: a,y :: b,h=>by
  rw [Mz,Mz] at h;injection h with h1 h2;rw [y8 h2,RH h1]
def getD_get {L:List Int} {i:Nat} (h:i<L.length):L.getD i 0=L[i]:=by rw [LU,LP h];rfl
def oC {L:List Int}:L.Pairwise (· < ·)↔∀ i,i+1<L.length->L.getD i 0<L.getD (i+1) 0:=by
 constructor
 ·intro h i hi;have:=(Mx.mp h) i (i+1) (by omega) hi (by omega)
  rw [getD_get (by omega),getD_get hi]
  exact this
 ·intro h;have all:∀ k i,i+k+1<L.length->L.getD i 0<L.getD (i+k+1) 0:=by
   intro k
   induction k with
   | zero=>exact fun i hi=>h i hi
   | succ k ih =>
    intro i hi;have a:=ih i (by omega)
    have b:=h (i+k+1) hi;exact Int.lt_trans a b
  refine Mx.mpr fun i j hi hj hij=>?_;have:=all (j - i - 1) i (by omega)
  rw [show i+(j - i - 1)+1=j by omega,getD_get hi,getD_get hj] at this
  exact this
def uX (C:Addr) (K:LO):Sp:=fun vs H Q _=>∃ (g:Addr) (v:V) (n e:Nat) (t:List (List Nat)) (L:List Int),vs=[.ref g,v]/\aX C H g n t e/\GT n t e/\At K H v L/\L.length<=64 /\
 ((∀ x∈L,0<=x/\x<(n:Int))->∀ H',aj H H'->Q (.bl true) H')/\(¬ (∀ x∈L,0<=x/\x<(n:Int))->∀ H',aj H H'->Q (.bl false) H')
def uU (T:Txt K mg):aH P w K mg base CX0 1 T.dC.f T.dC.fd ["group","some"] (uX T.aI K):=by
 refine T.dC.ok nV (fun vs H Q E h=>?_) (fun cdv A outer s H vs Q E hr h=>?_)
 ·obtain ⟨g,v,n,e,t,L,rfl,_⟩:=h;rfl
 obtain ⟨g,v,n,e,t,L,rfl,hG,gt,hL,hlen,q1,q2⟩:=h;obtain ⟨dx,r,bk,hg,hT,hB⟩:=hG.get (K:=K);refine ⟨_,(af (aN (az (lG K rfl rfl) rfl T.xv Pn (paF (dU rfl fR (aY K rfl (pv 1)) (fun _ _ _ _=>⟨(aJ (i:=0) fR.nd rfl (L8 rfl)),bZ,(jF (dF lj (pv 0) ag (aB _)) (lX (dF eF (pv 0) (cM K rfl (pv 1) rfl) (aB _))))⟩)) aa)))),?_⟩;symm;refine i8 (α:=Int) (β:=Bool) hL (by omega) (fun i=>(L.take i).map fun x=>decide (0<=x/\x<(n:Int))) (fun σ'=>∃ y,σ'=[y,some (.ref g)]) rfl (fun i hi=>by rw [LX,MF];omega) ⟨_,rfl⟩ ?_ ?_
 ·rintro i c w' σ' H3 d' R' R0 hc hs hw ⟨y,rfl⟩ hR' hR0 hd';cases (show w'=V.int c from hw);have hg3:=hs _ _ hg;have e1:((L.take (i+1)).map fun x=>decide (0<=x/\x<(n:Int)))=((L.take i).map fun x=>decide (0<=x/\x<(n:Int)))++[decide (0<=c/\c<(n:Int))]:=by
   rw [MB,hc,M8];rfl
  symm;refine aU (fun z=>?_) (fun z=>?_)
  ·symm;have e2:decide (0<=c/\c<(n:Int))=decide (c<(n:Int)):=decide_eq_decide.mpr ⟨fun y=>y.2,fun y=>⟨z,y⟩⟩;rw [e2] at e1;exact hR' _ _ (decide (c<(n:Int))) _ ⟨_,rfl⟩ (aj.refl _) rfl e1
  ·have e2:decide (0<=c/\c<(n:Int))=false:=decide_eq_false fun y=>z y.1;rw [e2] at e1;exact hR' _ _ false _ ⟨_,rfl⟩ (aj.refl _) rfl e1
 intro d2 H3 s3 h3;symm;refine tU h3 ?_;rw [MJ]
 by_cases ha:∀ x∈L,0<=x/\x<(n:Int)
 ·rw [show (L.map fun x=>decide (0<=x/\x<(n:Int))).all id=true by
   rw [MA];intro y hy;obtain ⟨x,hx,rfl⟩:=Mm.mp hy;exact decide_eq_true (ha x hx)]
  exact q1 ha H3 s3
 ·rw [show (L.map fun x=>decide (0<=x/\x<(n:Int))).all id=false by
   rw [List.all_eq_false];obtain ⟨x,hx⟩:=PB.mp ha;obtain ⟨hx,hn⟩:=Qq.mp hx;exact ⟨_,Mm.mpr ⟨x,hx,rfl⟩,by rw [decide_eq_false hn];decide⟩]
  exact q2 ha H3 s3
def Eb (K:LO):Sp:=fun vs H Q _=>∃ (v:V) (L:List Int),vs=[v]/\At K H v L/\L≠[]/\L.length<=64/\(L.Pairwise (· < ·)->∀ H',aj H H'->Q (.bl true) H')/\(¬ L.Pairwise (· < ·)->∀ H',aj H H'->Q (.bl false) H')
def EV (T:Txt K mg):aH P w K mg base CX0 1 T.hZ.f T.hZ.fd ["some"] (Eb K):=by
 refine T.hZ.ok yF (fun vs H Q E h=>?_) (fun cdv A outer s H vs Q E hr h=>?_)
 ·obtain ⟨v,L,rfl,_⟩:=h;rfl
 obtain ⟨v,L,rfl,hL,ne,hlen,q1,q2⟩:=h;have l0:0<L.length:=M9.mpr ne;refine ⟨_,(af (aN (az (lG K rfl rfl) rfl T.xv Pn (paF (dU rfl jP (a9 rfl T.bD (paF (au f9 (az (aT K rfl) rfl T.bB Mf (paF (pv 0) aa)) ag) aa)) (fun _ _ _ _=>⟨(aJ (i:=0) jP.nd rfl (L8 rfl)),bZ,(dF eF (aw (ah K rfl) (pv 1) (pv 0) (fun _ _=>rfl)) (aw (ah K rfl) (pv 1) (au bj (pv 0) ag) (fun _ _=>rfl)) (aB _))⟩)) aa)))),?_⟩;symm;refine jz K (n:=L.length - 1) (β:=Bool) (by omega) (by omega) (fun i=>(LY i).map fun j=>decide (L.getD j 0<L.getD (j+1) 0)) (fun σ'=>∃ y,σ'=[y,some v]) rfl (fun i hi=>by rw [LX,Nj];omega) ⟨_,rfl⟩ ?_ ?_
 ·rintro i σ' H3 d' R' R0 hi hs ⟨y,rfl⟩ hR' hR0 hd';have hL3:=Rep.mono hs hL;symm;refine jR (n:=i) hL3 rfl (getD_some 0 (by omega)) ?_
  symm;refine jR (n:=i+1) hL3 (by omega) (getD_some 0 (by omega)) ?_
  symm;exact hR' _ _ (decide (L.getD i 0<L.getD (i+1) 0)) _ ⟨_,rfl⟩ (aj.refl _) rfl (by rw [Pm,M8];rfl)
 intro d2 H3 s3 h3;symm;refine tU h3 ?_
 by_cases ha:L.Pairwise (· < ·)
 ·rw [show ((LY (L.length - 1)).map fun j=>decide (L.getD j 0<L.getD (j+1) 0)).all id=true by
   rw [MA];intro y hy;obtain ⟨x,hx,rfl⟩:=Mm.mp hy;exact decide_eq_true (oC.mp ha x (by have:=Ma.mp hx;omega))]
  exact q1 ha H3 s3
 ·rw [show ((LY (L.length - 1)).map fun j=>decide (L.getD j 0<L.getD (j+1) 0)).all id=false by
   rw [List.all_eq_false];obtain ⟨x,hx⟩:=PB.mp (fun y=>ha (oC.mpr y));obtain ⟨hx,hn⟩:=Qq.mp hx;exact ⟨_,Mm.mpr ⟨x,Ma.mpr (by omega),rfl⟩,by rw [decide_eq_false hn];decide⟩]
  exact q2 ha H3 s3
def pI (C:Addr) (K:LO):Sp:=fun vs H Q _=>∃ (g:Addr) (v:V) (n e:Nat) (t:List (List Nat)) (R:List Nat),vs=[.ref g,v]/\aX C H g n t e/\GT n t e/\At K H v R/\(∀ x∈R,x<n) /\
 ((∀ a∈R,∀ b∈R,tb t a b∈R)->Q (.bl true) H)/\(¬ (∀ a∈R,∀ b∈R,tb t a b∈R)->Q (.bl false) H)
def qa (T:Txt K mg):aH P w K mg base CX0 1 T.cg.f T.cg.fd ["group","some"] (pI T.aI K):=by
 refine T.cg.ok c6 (fun vs H Q E h=>?_) (fun cdv A outer s H vs Q E hr h=>?_)
 ·obtain ⟨g,v,n,e,t,R,rfl,_⟩:=h;rfl
 obtain ⟨g,v,n,e,t,R,rfl,hG,gt,hR,hlt,q1,q2⟩:=h;obtain ⟨dx,r,bk,hg,hT,hB⟩:=hG.get (K:=K);refine ⟨_,(ae (a8 L7 rfl (aY K rfl (pv 1)) (aJ (i:=2) c6.nd rfl (L8 rfl)) (af (a8 L7 rfl (aY K rfl (pv 1)) (aJ (i:=3) c6.nd rfl (L8 rfl)) (af (aS (ax (f6 K rfl) (aw (ah K rfl) (aw (ah K rfl) (cM K rfl (pv 0) rfl) (pv 2) (fun _ _=>rfl)) (pv 3) (fun _ _=>rfl)) (pv 1) (by with_unfolding_all rfl)) (af (aN gQ)) aE)))))
   (af (aN gQ))),?_⟩
 symm;refine dE hR (fun i σ H'=>H'=H/\(∀ a∈R.take i,∀ b∈R,tb t a b∈R)/\∃ x y,σ=[some (.ref g),some v,x,y]) ⟨rfl,by simp,_,_,rfl⟩ (fun i σ H' h=>by rw [h.1];exact aj.refl _) ?_ ?_
 ·rintro i a w' σ' H' ha hw ⟨rfl,hf,x,y,rfl⟩;cases (show w'=V.int (a:Int) from hw);have haR:=LS ha;symm;refine dE hR (fun j σ H''=>H''=H'/\(∀ b∈R.take j,tb t a b∈R)/\∃ y,σ=[some (.ref g),some v,some (.int (a:Int)),y]) ⟨rfl,by simp,_,rfl⟩ (fun i σ H' h=>by rw [h.1];exact aj.refl _) ?_ ?_
  ·rintro j b w2 σ' H'' hb hw2 ⟨rfl,hf2,y,rfl⟩;cases (show w2=V.int (b:Int) from hw2);have hbR:=LS hb;walk_at "5";refine cR hT rfl (gt.get (hlt a haR)) fun w1 hw1=>?_;symm;refine bM hw1 (gt.d4 (hlt a haR) (hlt b hbR)) ?_;symm;refine bH (fun z=>?_) (fun z=>?_)
   ·symm;exact q2 fun y=>z (y a haR b hbR)
   symm;refine ⟨rfl,fun c hc=>?_,_,rfl⟩;rw [MB,hb] at hc;rcases Mc.mp hc with y|y
   ·exact hf2 c y
   ·rw [LZ.mp y];exact z
  ·rintro σ' H'' ⟨rfl,hf2,y,rfl⟩;rw [MJ] at hf2;refine ⟨rfl,fun c hc=>?_,_,_,rfl⟩;rw [MB,ha] at hc;rcases Mc.mp hc with y|y
   ·exact hf c y
   ·rw [LZ.mp y];exact hf2
 ·rintro σ' H' ⟨rfl,hf,x,y,rfl⟩;rw [MJ] at hf;symm;exact q1 hf
def Ao (C:Addr) (K:LO):Sp:=fun vs H Q _=>∃ (g:Addr) (v:V) (n e:Nat) (t:List (List Nat)) (L:List Int),vs=[.ref g,v]/\aX C H g n t e/\GT n t e/\At K H v L/\L.length<=64 /\
 (gK n t L->∀ H',aj H H'->Q (.bl true) H')/\(¬ gK n t L->∀ H',aj H H'->Q (.bl false) H')
def AB (T:Txt K mg):aH P w K mg base CX0 2 T.fc.f T.fc.fd ["group","some"] (Ao T.aI K):=by
 refine T.fc.ok tM (fun vs H Q E h=>?_) (fun cdv A outer s H vs Q E hr h=>?_)
 ·obtain ⟨g,v,n,e,t,L,rfl,_⟩:=h;rfl
 obtain ⟨g,v,n,e,t,L,rfl,hG,gt,hL,hlen,q1,q2⟩:=h;refine ⟨_,(af (aN (jF (dF fP (az (aT K rfl) rfl T.bB Mf (paF (pv 1) aa)) ag (aB _)) (jF (aG T.dC (uU T) (hr.mono (by decide)) rfl (paF (pv 0) (paF (pv 1) aa))) (jF (aG T.hZ (EV T) (hr.mono (by decide)) rfl (paF (pv 1) aa)) (lX (aG T.cg (qa T) (hr.mono (by decide)) rfl (paF (pv 0) (paF (pv 1) aa))))))))),?_⟩
 symm;refine aU (fun l0=>?_) (fun z=>?_)
 rotate_left
 ·refine q2 (fun ⟨R,e,pt⟩=>?_) H (aj.refl _);have:=M9.mpr pt.ne;rw [e,LX] at z;omega
 symm;refine ⟨g,v,n,e,t,L,rfl,hG,gt,hL,hlen,fun ha H1 s1=>?_,fun ha H1 s1=>?_⟩
 rotate_left
 ·symm;refine fq ?_;refine q2 (fun ⟨R,e,pt⟩=>ha fun x hx=>?_) H1 s1;rw [e] at hx;obtain ⟨y,hy,rfl⟩:=Mm.mp hx;have:=pt.lt y hy;omega
 symm;have nl:L≠[]:=fun z=>by rw [z] at l0;exact absurd l0 (by decide)
 refine ⟨v,L,rfl,Rep.mono s1 hL,nl,hlen,fun hs H2 s2=>?_,fun hs H2 s2=>?_⟩
 rotate_left
 ·symm;refine fq ?_;refine q2 (fun ⟨R,e,pt⟩=>hs ?_) H2 (s1.trans s2);rw [e,NX];exact pt.srt.imp fun h=>by omega
 symm;have s02:=s1.trans s2;obtain ⟨R,rfl⟩:=qo fun x hx=>(ha x hx).1;have rlt:∀ x∈R,x<n:=fun x hx=>by
  have:=(ha x (Mm.mpr ⟨x,hx,rfl⟩)).2;omega
 have srt:R.Pairwise (· < ·):=by
  rw [NX] at hs;exact hs.imp fun h=>by omega
 have rne:R≠[]:=fun z=>nl (by rw [z];rfl)
 refine ⟨g,v,n,e,t,R,rfl,hG.mono s02,gt,dY (Rep.mono s02 hL),rlt,fun hc=>?_,fun hc=>?_⟩
 ·exact q1 ⟨R,rfl,srt,rlt,rne,hc⟩ H2 s02
 ·refine q2 (fun ⟨R2,e2,pt⟩=>hc ?_) H2 s02;have:R=R2:=y8 e2;rw [this];exact pt.cl
def spN (CE C:Addr) (K:LO):Sp:=fun vs H _ E=>∃ (g:Addr) (v:V) (n e:Nat) (t:List (List Nat)) (L:List Int),vs=[.ref g,v]/\aX C H g n t e/\GT n t e/\At K H v L/\L.length<=64/\¬ gK n t L/\∀ H',aj H H'->E (.ref CE) none H'
def uZ (T:Txt K mg):aH P w K mg base (CXR P w) 3 T.bW.f T.bW.fd ["group","some"] (spN T.bt T.aI K):=by
 refine T.bW.fn.okX oh (fun vs H Q E h=>?_) (fun cdv A outer s H vs Q E hr h=>?_)
 ·obtain ⟨g,v,n,e,t,L,rfl,_⟩:=h;rfl
 obtain ⟨g,v,n,e,t,L,rfl,hG,gt,hL,hlen,np,q⟩:=h;refine ⟨_,fun okc=>(af (aS (uf (fX (aG T.fc (AB T) (hr.mono (by decide)) rfl (paF (pv 0) (paF (pv 1) aa))))) (af (jE lh rfl rfl T.Gz rfl T.rj (paF bG aa))) aE)),?_⟩
 walk_at "5";refine ⟨g,v,n,e,t,L,rfl,hG,gt,hL,hlen,fun z=>absurd z np,fun _ H1 s1=>?_⟩;symm;refine oP ?_;symm;refine kh ?_;symm;exact ⟨small (by show 1<=1000;decide),q H1 s1⟩
def G2 {f g:Str} {a b:V} (h:f≠g):∀ p∈[f,g].zip [a,b],(d8 g b [(f,a)]).lookup p.1=some p.2:=fun p hp=>by
 rw [gB];rcases Mq.mp hp with rfl|hp
 ·rw [if_neg h];exact Ph
 ·rcases Mq.mp hp with rfl|hp
  ·rw [if_pos rfl]
  ·cases hp
def Gh (T:Txt K mg):aH P w K mg base CX0 1 T.uC T.uG ["self","one","two"] (xB T.bE ["one","two"]):=by
 refine T.Iu.ok wK (fun vs H Q E h=>?_) (fun cdv A outer s H vs Q E hr h=>?_)
 ·obtain ⟨x,as,rfl,hl,_⟩:=h;exact congrArg (·+1) hl
 obtain ⟨x,as,rfl,hl,hx,q⟩:=h
 match as,hl,q with
 | [a,b],_,q =>
 refine ⟨_,(ae (oI K rfl (pv 0) (pv 1) rfl)
   (af (oI K rfl (pv 0) (pv 2) rfl))),?_⟩
 walk_at "rn";refine oB ?_;walk_at "rn";refine ⟨x,_,_,rfl,T.mf,T.qS,.inl ⟨hx,fun dx hdx=>?_⟩⟩;have ne:x≠dx:=aQ hx hdx;walk_at "rn";refine oB ?_;walk_at "rn";refine ⟨x,_,_,rfl,T.mf,T.qW,.inr ⟨dx,_,by rw [aA ne,ar],ar,by show 1<1000;decide,?_⟩⟩
 rw [Bt];exact q dx _ hdx (G2 (by decide))
def dD (n:Nat) (t:List (List Nat)) (e:Nat) (m:Int):Prop:=1<=m/\m<=60/\∀ k:Nat,c8 (cy n t e) k->m % (k:Int)=0
def rS (CE:Addr):Sp:=fun vs H _ E=>∃ (m:Int),vs=[.int m]/\(m<1\/60<m)/\E (.ref CE) none H
def rR (T:Txt K mg):aH P w K mg base (CXR P w) 1 T.cN.f T.cN.fd ["many"] (fun vs H Q E=>lC vs H Q E\/rS T.a0 vs H Q E):=by
 refine aH.both (lr T) ?_;refine T.cN.fn.okX lu (fun vs H Q E h=>?_) (fun cdv A outer s H vs Q E hr h=>?_)
 ·obtain ⟨m,rfl,_⟩:=h;rfl
 obtain ⟨m,rfl,hm,q⟩:=h;refine ⟨_,fun okc=>(af (aS (PW.pt (gR (ax eF (pv 0) ag (aB _)) (gG (ax fP (pv 0) (cF (v:=.int 60) rfl T.oq ⟨_,rfl⟩) (aB _))))) (af (jE lh rfl rfl T.r9 rfl T.j9 (paF bG aa))) aE)),?_⟩;walk_at "3";refine aU (fun c=>?_) (fun c=>?_)
 ·walk_at "rx";refine kh ?_;walk_at "rx";exact ⟨small (by show 1<=1000;decide),q⟩
 ·walk_at "rx";refine aU (fun c=>?_) (fun c2=>?_)
  ·walk_at "rx";refine kh ?_;walk_at "rx";exact ⟨small (by show 1<=1000;decide),q⟩
  ·exfalso
   rcases hm with z|z <;> omega
def qO (CE C:Addr):Sp:=fun vs H _ E=>∃ (g:Addr) (m:Int) (n e:Nat) (t:List (List Nat)),vs=[.ref g,.int m]/\aX C H g n t e/\GT n t e/\¬ dD n t e m/\∀ H',aj H H'->E (.ref CE) none H'
def Ai (T:Txt K mg):aH P w K mg base (CXR P w) 3 T.cP.f T.cP.fd ["group","spokes"] (qO T.a0 T.aI):=by
 refine T.cP.fn.okX jY (fun vs H Q E h=>?_) (fun cdv A outer s H vs Q E hr h=>?_)
 ·obtain ⟨g,m,n,e,t,rfl,_⟩:=h;rfl
 obtain ⟨g,m,n,e,t,rfl,hG,gt,hm,q⟩:=h;refine ⟨_,fun okc=>(ae (av (i:=2) jY.nd rfl (L8 rfl) (aG T.mB (yN T) (hr.mono (by decide)) rfl (paF (pv 0) aa)))
   (ae (aS (jx (ym (pv 1))) (af (aN (pv 2))) aE)
   (ae (a7 (iK T.cN (rR T) (hr.mono (by decide)) rfl fO (paF (pv 1) aa)))
   (ae (aS (ax dQ (au aV (pv 1) (pv 2)) ag (aB _)) (af (jE lh rfl rfl T.r9 rfl T.j9 (paF bG aa))) aE)
   (af (aN (pv 1))))))),?_⟩
 walk_at "rx";refine ⟨g,n,e,t,rfl,hG,gt,fun k H1 s1 hk=>?_⟩;walk_at "3";refine aU (fun c=>by cases c) (fun _=>?_)
 walk_at "rx"
 by_cases h1:m<1\/60<m
 ·exact .inr ⟨m,rfl,h1,q H1 s1⟩
 ·have hk0:=hk.pos;obtain ⟨j,rfl⟩:∃ j:Nat,m=(j:Int):=⟨m.toNat,by omega⟩
  refine .inl ⟨j,rfl,by omega,by omega,?_⟩
  walk_at "3";refine bH (fun c=>?_) (fun c=>?_)
  ·walk_at "rx";refine kh ?_;walk_at "rx";exact ⟨small (by show 1<=1000;decide),q H1 s1⟩
  ·exfalso
   refine hm ⟨by omega,by omega,fun k2 hk2=>?_⟩
   rw [hk2.uni hk];have:=congrArg (fun (x:Nat)=>(x:Int)) c
   simpa using this
def qX (T:Txt K mg):aH P w K mg base (CXR P w) 3 T.cP.f T.cP.fd ["group","spokes"] (fun vs H Q E=>tq T.aI vs H Q E\/qO T.a0 T.aI vs H Q E):=aH.both (jX T) (Ai T)
def mh (T:Txt K mg):aH P w K mg base (CXR P w) 3 T.bW.f T.bW.fd ["group","some"] (fun vs H Q E=>nU T.aI K vs H Q E\/spN T.bt T.aI K vs H Q E):=aH.both (gP T) (uZ T)
def sA (R:List Nat) (M:List Int) (m:Int):Prop:=M.length≠R.length\/∃ x∈M,x<0\/m<=x
def tw (CE:Addr) (K:LO):Sp:=fun vs H _ E=>∃ (v u:V) (m:Int) (R:List Nat) (M:List Int),vs=[v,u,.int m]/\At K H v R/\At K H u M/\M.length<=1000/\sA R M m/\∀ H',aj H H'->E (.ref CE) none H'
def tH (T:Txt K mg):aH P w K mg base (CXR P w) 1 T.c9.f T.c9.fd ["part","marks","spokes"] (tw T.bc K):=by
 refine T.c9.fn.okX mC (fun vs H Q E h=>?_) (fun cdv A outer s H vs Q E hr h=>?_)
 ·obtain ⟨v,u,m,R,M,rfl,_⟩:=h;rfl
 obtain ⟨v,u,m,R,M,rfl,hR,hM,hl,hb,q⟩:=h;refine ⟨_,fun okc=>(ae (aS (ax dQ (az (aT K rfl) rfl T.bB Mf (paF (pv 1) aa)) (az (aT K rfl) rfl T.bB Mf (paF (pv 0) aa)) (aB _)) (af (jE lh rfl rfl T.tZ rfl T.ka (paF bG aa))) aE)
   (af (aS (fX (az (pU K rfl rfl) rfl T.Dc Qy (paF (dU rfl fh (aY K rfl (pv 1)) (fun _ _ _ _=>⟨(aJ (i:=0) fh.nd rfl (L8 rfl)),bZ,(HY (dF eF (pv 0) ag (aB _)) (lX (dF lj (pv 0) (pv 1) (aB _))))⟩)) aa))) (af (jE lh rfl rfl T.tZ rfl T.ka (paF bG aa))) aE))),?_⟩
 walk_at "3";refine bH (fun c=>?_) (fun c=>?_)
 ·walk_at "rx";refine kh ?_;walk_at "rx";exact ⟨small (by show 1<=1000;decide),q H (aj.refl _)⟩
 have hx:∃ x∈M,x<0\/m<=x:=hb.resolve_left fun z=>z c;walk_at "3";refine i8 (α:=Int) (β:=Bool) hM (by omega) (fun i=>(M.take i).map fun x=>decide (x<0\/m<=x)) (fun σ'=>∃ y,σ'=[y,some (.int m)]) rfl (fun i _=>by rw [LX,MF];omega) ⟨_,rfl⟩ ?_ ?_
 ·rintro i c w' σ' H3 d' R' R0 hc hs hw ⟨y,rfl⟩ hR' hR0 hd';cases (show w'=V.int c from hw);have e1:((M.take (i+1)).map fun x=>decide (x<0\/m<=x))=((M.take i).map fun x=>decide (x<0\/m<=x))++[decide (c<0\/m<=c)]:=by
   rw [MB,hc,M8];rfl
  walk_at "rx";refine aU (fun z=>?_) (fun z=>?_)
  ·have e2:decide (c<0\/m<=c)=true:=decide_eq_true (.inl z);rw [e2] at e1;exact hR' _ _ true _ ⟨_,rfl⟩ (aj.refl _) rfl e1
  ·walk_at "rx";have e2:decide (c<0\/m<=c)=decide (c >= m):=decide_eq_decide.mpr ⟨fun y=>y.resolve_left z,fun y=>.inr y⟩;rw [e2] at e1;exact hR' _ _ (decide (c >= m)) _ ⟨_,rfl⟩ (aj.refl _) rfl e1
 intro d2 H3 s3 h3;have h3':At K H3 (.ref d2) ((M.take M.length).map fun x=>decide (x<0\/m<=x)):=h3;rw [MJ] at h3';walk_at "rx";refine BQ h3' ?_;rw [show (M.map fun x=>decide (x<0\/m<=x)).any id=true from PN.mpr (by
  obtain ⟨x,hx,hb⟩:=hx;exact ⟨_,Mm.mpr ⟨x,hx,rfl⟩,decide_eq_true hb⟩)]
 walk_at "rx";refine kh ?_;walk_at "rx";exact ⟨small (by show 1<=1000;decide),q H3 s3⟩
def Due (CP CB CM:Addr) (n:Nat) (t:List (List Nat)) (e:Nat) (L M:List Int) (m:Int) (C:Addr):Prop :=
 (¬ gK n t L/\C=CP)\/(∃ R:List Nat,L=R.map (fun (x:Nat)=>(x:Int))/\IsPart n t R/\((¬ dD n t e m/\C=CB)\/(dD n t e m/\sA R M m/\C=CM)))
def fQ (CP CB CM C:Addr) (K:LO):Sp:=fun vs H _ E=>∃ (g:Addr) (v u:V) (m:Int) (n e:Nat) (t:List (List Nat)) (L M:List Int) (CE:Addr),vs=[.ref g,v,u,.int m]/\aX C H g n t e/\GT n t e/\At K H v L/\L.length<=64/\At K H u M/\M.length<=1000 /\
 Due CP CB CM n t e L M m CE/\∀ H',aj H H'->E (.ref CE) none H'
def tQ (T:Txt K mg):aH P w K mg base (CXR P w) 4 T.bU.f T.bU.fd ["group","part","marks","spokes"] (fQ T.bt T.a0 T.bc T.aI K):=by
 refine T.bU.fn.okX dq (fun vs H Q E h=>?_) (fun cdv A outer s H vs Q E hr h=>?_)
 ·obtain ⟨g,v,u,m,n,e,t,L,M,CE,rfl,_⟩:=h;rfl
 obtain ⟨g,v,u,m,n,e,t,L,M,CE,rfl,hG,gt,hL,hlen,hM,ml,due,q⟩:=h;refine ⟨_,fun okc=>(ae (a7 (iK T.bW (mh T) (hr.mono (by decide)) rfl fO (paF (pv 0) (paF (pv 1) aa))))
   (ae (av (i:=4) dq.nd rfl (L8 rfl) (iK T.cP (qX T) (hr.mono (by decide)) rfl fO (paF (pv 0) (paF (pv 3) aa))))
   (ae (a7 (iK T.c9 (tH T) (hr.mono (by decide)) rfl fO (paF (pv 1) (paF (pv 2) (paF (pv 4) aa)))))
   jI))),?_⟩
 walk_at "rn";rcases due with ⟨np,rfl⟩|⟨R,rfl,pt,due⟩
 ·exact .inr ⟨g,v,n,e,t,L,rfl,hG,gt,hL,hlen,np,q⟩
 have hR:=dY hL;refine .inl ⟨g,v,n,e,t,R,rfl,hG,gt,hR,pt,fun H1 s1=>?_⟩;walk_at "rn";rcases due with ⟨ns,rfl⟩|⟨sv,bm,rfl⟩
 ·exact .inr ⟨g,m,n,e,t,rfl,hG.mono s1,gt,ns,fun H2 s2=>q H2 (s1.trans s2)⟩
 obtain ⟨m1,m2,m3⟩:=sv;obtain ⟨j,rfl⟩:∃ j:Nat,m=(j:Int):=⟨m.toNat,by omega⟩
 refine .inl ⟨g,_,n,e,j,t,rfl,hG.mono s1,gt,.inr ⟨rfl,by omega,by omega,fun k hk=>?_⟩,fun H2 s2=>?_⟩
 ·have:=m3 k hk;omega
 walk_at "rn";have s02:=s1.trans s2;exact ⟨v,u,_,R,M,rfl,Rep.mono s02 hR,Rep.mono s02 hM,ml,bm,fun H3 s3=>q H3 (s02.trans s3)⟩
def Hk {f g:Str} {a b:V} (h:f≠g):∀ p∈[f,g].zip [a,b],(d8 g b [(f,a)]).lookup p.1=some p.2:=fun p hp=>by
 rw [gB];rcases Mq.mp hp with rfl|hp
 ·rw [if_neg h];exact Ph
 ·rcases Mq.mp hp with rfl|hp
  ·rw [if_pos rfl]
  ·cases hp
def yb (T:Txt K mg):aH P w K mg base CX0 1 T.lQ T.lW ["self","turner","thing"] (xB T.bg ["turner","thing"]):=by
 refine T.Ae.ok qF (fun vs H Q E h=>?_) (fun cdv A outer s H vs Q E hr h=>?_)
 ·obtain ⟨x,as,rfl,hl,_⟩:=h;exact congrArg (·+1) hl
 obtain ⟨x,as,rfl,hl,hx,q⟩:=h
 match as,hl,q with
 | [a,b],_,q =>
 refine ⟨_,(ae (oI K rfl (pv 0) (pv 1) rfl)
   (af (oI K rfl (pv 0) (pv 2) rfl))),?_⟩
 walk_at "rn";refine oB ?_;walk_at "rn";refine ⟨x,_,_,rfl,T.lU,T.p6,.inl ⟨hx,fun dx hdx=>?_⟩⟩;have ne:x≠dx:=aQ hx hdx;walk_at "rn";refine oB ?_;walk_at "rn";refine ⟨x,_,_,rfl,T.lU,T.qC,.inr ⟨dx,_,by rw [aA ne,ar],ar,by show 1<1000;decide,?_⟩⟩
 rw [Bt];exact q dx _ hdx (Hk (by decide))
def DI (T:Txt K mg):aH P w K mg base CX0 1 T.ph T.oF ["self","thing"] (xB T.bJ ["thing"]):=by
 refine T.D5.ok uj (fun vs H Q E h=>?_) (fun cdv A outer s H vs Q E hr h=>?_)
 ·obtain ⟨x,as,rfl,hl,_⟩:=h;exact congrArg (·+1) hl
 obtain ⟨x,as,rfl,hl,hx,q⟩:=h
 match as,hl,q with
 | [a],_,q =>
 refine ⟨_,(af (oI K rfl (pv 0) (pv 1) rfl)),?_⟩;walk_at "rn";refine oB ?_;walk_at "rn";refine ⟨x,_,_,rfl,T.vU,T.so,.inl ⟨hx,fun dx hdx=>?_⟩⟩;exact q dx _ hdx fun p hp=>by
  rcases Mq.mp hp with rfl|hp
  ·exact Ph
  ·cases hp
def Km {n m:Nat} {t:List (List Nat)} {R M:List Nat} (pt:IsPart n t R) (ml:M.length=R.length) (mm:∀ x∈M,x<m) (h:fJ t R M m none):IsW t R M m:=by
 refine ⟨ml,mm,fun x hx y hy=>?_⟩;obtain ⟨i,hi⟩:=Ms hx;obtain ⟨j,hj⟩:=Ms hy;have nd:=bP pt.srt;have il:=(LR.mp hi).1;have jl:=(LR.mp hj).1;have:=h i il j jl;unfold i5 at this;rw [show R.getD i 0=x from by rw [LU,hi];rfl,show R.getD j 0=y from by rw [LU,hj];rfl] at this
 unfold mkO;rw [gm nd hi,gm nd hj];exact this
def GB {n e l m:Nat} {t:List (List Nat)} (gt:GT n t e) (hl:c8 (cy n t e) l) (h:m % l=0) {x:Nat} (hx:x<n):aC t e x m=e:=by
 obtain ⟨c,rfl⟩:=Nq h;have ho:l % aZ n t e x=0:=hl.all _ (Mm.mpr ⟨x,Ma.mpr hx,rfl⟩);obtain ⟨d,rfl⟩:=Nq ho;rw [Qb];exact jj gt hx (dJ gt hx).2.1 _
def Gq (n:Nat) (t:List (List Nat)) (e:Nat) (R M:List Nat) (x h:Nat):Prop:=h∈R/\mkO R M h≠mkO R M (de n t e h x)/\∀ h'∈R,h' < h->mkO R M h'=mkO R M (de n t e h' x)
def C3 (C:Addr) (K:LO) (H:Hp) (g:Addr) (v u z:V) (n e x m l:Nat) (t:List (List Nat)) (R M:List Nat):Prop:=aX C H g n t e/\GT n t e/\At K H v R/\IsPart n t R/\At K H u M/\M.length=R.length/\(∀ x∈M,x<m)/\fJ t R M m none /\
 (z=.int (m:Int)\/(z=.non/\m=l))/\c8 (cy n t e) l/\m % l=0/\0<m/\m<=60/\x<n
def wW (C:Addr) (K:LO):Sp:=fun vs H Q _=>∃ (g:Addr) (v u z:V) (n e x m l:Nat) (t:List (List Nat)) (R M:List Nat),vs=[.ref g,v,u,z]/\C3 C K H g v u z n e x m l t R M/\∀ H',aj H H'->Q .non H'
def pR (T:Txt K mg):aH P w K mg base CX0 5 T.cU.f T.cU.fd ["group","part","marks","spokes"] (wW T.aI K):=by
 refine T.cU.ok eV (fun vs H Q E h=>?_) (fun cdv A outer s H vs Q E hr h=>?_)
 ·obtain ⟨g,v,u,z,n,e,x,m,l,t,R,M,rfl,_⟩:=h;rfl
 obtain ⟨g,v,u,z,n,e,x,m,l,t,R,M,rfl,⟨hG,gt,hR,pt,hM,ml,mm,br,hz,hl,ml0,m1,m60,hx⟩,q⟩:=h;refine ⟨_,(ae (av (i:=4) eV.nd rfl (L8 rfl) (Lm T.bU (l5 T) (hr.mono (by decide)) rfl (paF (pv 0) (paF (pv 1) (paF (pv 2) (paF (pv 3) aa))))))
   (af (aS (jx (qf (pv 4))) (af cY) aE))),?_⟩
 walk_at "rn";refine ⟨g,v,u,z,n,e,m,l,t,R,M,rfl,hG,gt,hR,pt,hM,ml,mm,hz,hl,ml0,m1,m60,fun y H1 o s1 hy hb=>?_⟩;obtain rfl:=hb.uni br;cases (show y=.non from hy);walk_at "2";rw [if_neg (by simp)]
 walk_at "rn";exact q _ s1
def nL (C:Addr) (K:LO):Sp:=fun vs H Q _=>∃ (g:Addr) (v:V) (n e x:Nat) (t:List (List Nat)) (R:List Nat),vs=[.ref g,v,.int (x:Int)]/\aX C H g n t e/\GT n t e/\At K H v R/\IsPart n t R/\x<n/\(∀ h∈R,de n t e h x∈R)/\∀ H',aj H H'->Q .non H'
def Hy {n e x:Nat} {t:List (List Nat)} {R:List Nat} {o:Option Nat} (h:∀ y∈R,de n t e y x∈R) (ho:mU n t e R x o):o=none:=by
 cases o with
 | none=>rfl
 | some a=>exact absurd (h a ho.1) ho.2.1
def GL {n e x h:Nat} {t:List (List Nat)} {R:List Nat} {o:Option Nat} (hl:mU n t e R x (some h)) (ho:mU n t e R x o):o=some h:=by
 obtain ⟨h1,h2,h3⟩:=hl;cases o with
 | none=>exact absurd (ho h h1) h2
 | some a =>
  obtain ⟨a1,a2,a3⟩:=ho;rcases Ni a h with c|c|c
  ·exact absurd (h3 a a1 c) a2
  ·rw [c]
  ·exact absurd (a3 h h1 c) h2
def o9 (T:Txt K mg):aH P w K mg base CX0 4 T.cX.f T.cX.fd ["group","part","by"] (nL T.aI K):=by
 refine T.cX.ok iG (fun vs H Q E h=>?_) (fun cdv A outer s H vs Q E hr h=>?_)
 ·obtain ⟨g,v,n,e,x,t,R,rfl,_⟩:=h;rfl
 obtain ⟨g,v,n,e,x,t,R,rfl,hG,gt,hR,pt,hx,st,q⟩:=h;refine ⟨_,(ae (av (i:=3) iG.nd rfl (L8 rfl) (aG T.jA (sx T) (hr.mono (by decide)) rfl (paF (pv 0) (paF (pv 1) (paF (pv 2) aa)))))
   (af (aS (jx (qf (pv 3))) (af cY) aE))),?_⟩
 walk_at "rn";refine ⟨g,v,n,e,x,t,R,rfl,hG,gt,hR,pt,hx,fun H1 o s1 ho=>?_⟩;obtain rfl:=Hy st ho;walk_at "2";refine bH (fun c=>absurd rfl c) (fun _=>?_);walk_at "rn";exact q _ s1
def nM (CE C:Addr) (K:LO):Sp:=fun vs H _ E=>∃ (g:Addr) (v:V) (n e x h:Nat) (t:List (List Nat)) (R:List Nat),vs=[.ref g,v,.int (x:Int)]/\aX C H g n t e/\GT n t e/\At K H v R/\IsPart n t R/\x<n/\mU n t e R x (some h) /\
 ∀ d H',aj H H'->Fld H' d [("turner",.int (x:Int)),("thing",.int (h:Int))]->E (.ref CE) d H'
def xm (T:Txt K mg):aH P w K mg base (CXR P w) 4 T.cX.f T.cX.fd ["group","part","by"] (nM T.bg T.aI K):=by
 refine T.cX.fn.okX iG (fun vs H Q E h=>?_) (fun cdv A outer s H vs Q E hr h=>?_)
 ·obtain ⟨g,v,n,e,x,h',t,R,rfl,_⟩:=h;rfl
 obtain ⟨g,v,n,e,x,h',t,R,rfl,hG,gt,hR,pt,hx,st,q⟩:=h;refine ⟨_,fun okc=>(ae (av (i:=3) iG.nd rfl (L8 rfl) (aG T.jA (sx T) (hr.mono (by decide)) rfl (paF (pv 0) (paF (pv 1) (paF (pv 2) aa)))))
   (af (aS (jx (qf (pv 3))) (af (oV T.lU (yb T) T.AX (hr.mono (by decide)) lh rfl rfl rfl T.qH (paF (pv 2) (paF (pv 3) aa)))) aE))),?_⟩
 walk_at "rn";refine ⟨g,v,n,e,x,t,R,rfl,hG,gt,hR,pt,hx,fun H1 o s1 ho=>?_⟩;obtain rfl:=GL st ho;show _;unfold J5;walk_at "2";rw [if_pos (by simp)]
 walk_at "rn";refine rP ?_;walk_at "rn";exact rO rfl (by show 2<=1000;decide) fun d H2 s2 f2=>q d H2 (s1.trans s2) f2
def xc (T:Txt K mg):aH P w K mg base (CXR P w) 4 T.cX.f T.cX.fd ["group","part","by"] (fun vs H Q E=>nL T.aI K vs H Q E\/nM T.bg T.aI K vs H Q E):=aH.both (o9 T) (xm T)
def mz (C:Addr) (K:LO):Sp:=fun vs H Q _=>∃ (g:Addr) (v u:V) (n e x:Nat) (t:List (List Nat)) (R M:List Nat),vs=[.ref g,v,u,.int (x:Int)]/\aX C H g n t e/\GT n t e/\At K H v R/\IsPart n t R/\At K H u M/\M.length=R.length/\x<n/\(∀ h∈R,de n t e h x∈R)/\(∀ h∈R,mkO R M h=mkO R M (de n t e h x))/\∀ H',aj H H'->Q .non H'
def n0 (T:Txt K mg):aH P w K mg base CX0 3 T.cH.f T.cH.fd ["group","part","marks","by"] (mz T.aI K):=by
 refine T.cH.ok eB (fun vs H Q E h=>?_) (fun cdv A outer s H vs Q E hr h=>?_)
 ·obtain ⟨g,v,u,n,e,x,t,R,M,rfl,_⟩:=h;rfl
 obtain ⟨g,v,u,n,e,x,t,R,M,rfl,hG,gt,hR,pt,hM,ml,hx,st,kp,q⟩:=h;have nd:=bP pt.srt;refine ⟨_,(ae (av (i:=4) eB.nd rfl (L8 rfl) (kg K rfl rfl rfl T.sy rfl T.sh (paF (pv 1) (paF (pv 2) aa))))
   (af (a8 L7 rfl (aY K rfl (pv 1)) (aJ (i:=5) eB.nd rfl (L8 rfl)) (af (aS (ax dQ (dW (eS hr) (pv 4) (pv 5) (fun _ _=>rfl)) (dW (eS hr) (pv 4) (aG T.jc (pO T) (hr.mono (by decide)) rfl (paF (pv 0) (paF (pv 5) (paF (pv 3) aa)))) (fun _ _=>rfl)) (aB _)) (af cY) aE))))),?_⟩
 walk_at "rn";refine la ?_;walk_at "rn";refine Cn hR hM ml.symm nd fun d hd=>?_;have s1:=ay hd (.dK (d9 R M));have hd1:upd H d (.dK (d9 R M)) d=some (.dK (d9 R M)):=ar;generalize upd H d (.dK (d9 R M))=H1 at s1 hd1 ⊢;have mk0:∀ y∈R,cQ (d9 R M) (nk y)=some (.int (mkO R M y:Int)):=fun y hy=>g0 nd (kq hy) (getD_some (l:=M) 0 (by rw [ml];exact M1 hy))
 walk_at "rn";refine fg (H₀:=H) (α:=Nat) hR (fun i σ' H'=>aj H1 H'/\∃ x5:Option V,σ'=[some (.ref g),some v,some u,some (.int (x:Int)),some (.ref d),x5]) ⟨aj.refl _,_,rfl⟩ (fun i σ' H' z=>s1.trans z.1) ?_ ?_
 ·rintro i h w' σ' H2 hh hw' ⟨s2,x5,rfl⟩;cases (show w'=V.int (h:Int) from hw');have hR':=LS hh;walk_at "2";refine dX ?_;walk_at "rn";refine eZ (s2 _ _ hd1) (mk0 h hR') ?_;walk_at "rn";refine dX ?_;walk_at "rn";refine ⟨g,n,e,h,x,t,rfl,aX.mono (s1.trans s2) hG,gt,pt.lt h hR',hx,fun H3 s3=>?_⟩;refine eZ (s3 _ _ (s2 _ _ hd1)) (mk0 _ (st h hR')) ?_;walk_at "rn";refine bH (fun c=>absurd (kp h hR') c) (fun _=>?_);walk_at "rn";exact ⟨s2.trans s3,_,rfl⟩
 ·rintro σ' H2 ⟨s2,x5,rfl⟩;walk_at "rn";exact q _ (s1.trans s2)
def ma (CE C:Addr) (K:LO):Sp:=fun vs H _ E=>∃ (g:Addr) (v u:V) (n e x h:Nat) (t:List (List Nat)) (R M:List Nat),vs=[.ref g,v,u,.int (x:Int)]/\aX C H g n t e/\GT n t e/\At K H v R/\IsPart n t R/\At K H u M/\M.length=R.length/\x<n/\(∀ h∈R,de n t e h x∈R)/\Gq n t e R M x h /\
 ∀ d H',aj H H'->Fld H' d [("thing",.int (h:Int))]->E (.ref CE) d H'
def uu (T:Txt K mg):aH P w K mg base (CXR P w) 3 T.cH.f T.cH.fd ["group","part","marks","by"] (ma T.bJ T.aI K):=by
 refine T.cH.fn.okX eB (fun vs H Q E h=>?_) (fun cdv A outer s H vs Q E hr h=>?_)
 ·obtain ⟨g,v,u,n,e,x,h',t,R,M,rfl,_⟩:=h;rfl
 obtain ⟨g,v,u,n,e,x,h',t,R,M,rfl,hG,gt,hR,pt,hM,ml,hx,st,kp,q⟩:=h;have nd:=bP pt.srt;refine ⟨_,fun okc=>(ae (av (i:=4) eB.nd rfl (L8 rfl) (kg K rfl rfl rfl T.sy rfl T.sh (paF (pv 1) (paF (pv 2) aa))))
   (af (a8 (GX okc.dN rfl rfl rfl) rfl (aY K rfl (pv 1)) (aJ (i:=5) eB.nd rfl (L8 rfl)) (af (aS (ax dQ (dW (eS hr) (pv 4) (pv 5) (fun _ _=>rfl)) (dW (eS hr) (pv 4) (aG T.jc (pO T) (hr.mono (by decide)) rfl (paF (pv 0) (paF (pv 5) (paF (pv 3) aa)))) (fun _ _=>rfl)) (aB _)) (af (oV T.vU (DI T) T.EU (hr.mono (by decide)) lh rfl rfl rfl T.vw (paF (pv 5) aa))) aE))))),?_⟩
 walk_at "rn";refine la ?_;walk_at "rn";refine Cn hR hM ml.symm nd fun d hd=>?_;have s1:=ay hd (.dK (d9 R M));have hd1:upd H d (.dK (d9 R M)) d=some (.dK (d9 R M)):=ar;generalize upd H d (.dK (d9 R M))=H1 at s1 hd1 ⊢;have mk0:∀ y∈R,cQ (d9 R M) (nk y)=some (.int (mkO R M y:Int)):=fun y hy=>g0 nd (kq hy) (getD_some (l:=M) 0 (by rw [ml];exact M1 hy))
 obtain ⟨k1,k2,k3⟩:=kp;walk_at "rn";refine fg (H₀:=H) (α:=Nat) hR (fun i σ' H'=>aj H1 H'/\h'∉R.take i/\∃ x5:Option V,σ'=[some (.ref g),some v,some u,some (.int (x:Int)),some (.ref d),x5]) ⟨aj.refl _,by simp,_,rfl⟩ (fun i σ' H' z=>s1.trans z.1) ?_ ?_
 ·rintro i h w' σ' H2 hh hw' ⟨s2,ni,x5,rfl⟩;cases (show w'=V.int (h:Int) from hw');have hR':=LS hh;walk_at "2";refine dX ?_;walk_at "rn";refine eZ (s2 _ _ hd1) (mk0 h hR') ?_;walk_at "rn";refine dX ?_;walk_at "rn";refine ⟨g,n,e,h,x,t,rfl,aX.mono (s1.trans s2) hG,gt,pt.lt h hR',hx,fun H3 s3=>?_⟩;refine eZ (s3 _ _ (s2 _ _ hd1)) (mk0 _ (st h hR')) ?_;walk_at "rn";refine bH (fun c=>?_) (fun c=>?_)
  ·have eh:h=h':=by
    rcases Ni h h' with y|y|y
    ·exact absurd (k3 h hR' y) c
    ·exact y
    ·exfalso
     obtain ⟨j,hj⟩:=Ms k1;obtain ⟨i1,e1⟩:=LR.mp hh;obtain ⟨i2,e2⟩:=LR.mp hj;have hji:j<i:=by
      rcases Ni j i with a|a|a
      ·exact a
      ·subst a;omega
      ·have:=(Mx.mp pt.srt) i j i1 i2 a;omega
     exact ni (LS (i:=j) (by rw [NA hji];exact hj))
   subst eh;walk_at "rn";refine rP ?_;walk_at "rn";exact rO rfl (by show 1<=1000;decide) fun d H4 s4 f4=>q d H4 (s1.trans (s2.trans (s3.trans s4))) f4
  ·walk_at "rn";refine ⟨s2.trans s3,fun z=>?_,_,rfl⟩;rw [MB,hh] at z;rcases Mc.mp z with a|a
   ·exact ni a
   ·have:h'=h:=by simpa using a
    rw [this] at k2;exact k2 c
 ·rintro σ' H2 ⟨s2,ni,x5,rfl⟩;rw [MJ] at ni;exact absurd k1 ni
def vn (T:Txt K mg):aH P w K mg base (CXR P w) 3 T.cH.f T.cH.fd ["group","part","marks","by"] (fun vs H Q E=>mz T.aI K vs H Q E\/ma T.bJ T.aI K vs H Q E):=aH.both (n0 T) (uu T)
def Ln (n:Nat) (t:List (List Nat)) (e:Nat) (R M:List Nat) (x m:Nat) (H:Hp) (Q:VK):Prop:=∀ p dg df H' Pt L,H dg=none->aj H H'->H' p=some (.tup [.ref dg,.ref df])->H' dg=some (.lst (aO Pt))->Rows H H' df L->Taken n t e R M x m Pt L->Q (.ref p) H'
def yJ (C:Addr) (K:LO):Sp:=fun vs H Q _=>∃ (g:Addr) (v u z:V) (n e x m l:Nat) (t:List (List Nat)) (R M:List Nat),vs=[.ref g,v,u,.int (x:Int),z]/\C3 C K H g v u z n e x m l t R M/\(∀ h∈R,de n t e h x∈R)/\(∀ h∈R,mkO R M h=mkO R M (de n t e h x))/\Ln n t e R M x m H Q
def Gx (T:Txt K mg):aH P w K mg base CX0 6 T.eA.f T.eA.fd ["group","part","marks","thing","spokes"] (yJ T.aI K):=by
 refine T.eA.ok rg (fun vs H Q E h=>?_) (fun cdv A outer s H vs Q E hr h=>?_)
 ·obtain ⟨g,v,u,z,n,e,x,m,l,t,R,M,rfl,_⟩:=h;rfl
 obtain ⟨g,v,u,z,n,e,x,m,l,t,R,M,rfl,gi,st,kp,q⟩:=h;obtain ⟨hG,gt,hR,pt,hM,ml,mm,br,hz,hl,ml0,m1,m60,hx⟩:=id gi;have sv:tS n t e z m:=by
  rcases hz with rfl|⟨rfl,rfl⟩
  ·exact .inr ⟨rfl,m1,m60,fun k hk=>by rw [hk.uni hl];exact ml0⟩
  ·exact .inl ⟨rfl,hl⟩
 have hw:=Km pt ml mm br;refine ⟨_,(ae (a7 (aG T.cU (pR T) (hr.mono (by decide)) rfl (paF (pv 0) (paF (pv 1) (paF (pv 2) (paF (pv 4) aa))))))
   (ae (a7 (aG T.cX (o9 T) (hr.mono (by decide)) rfl (paF (pv 0) (paF (pv 1) (paF (pv 3) aa)))))
   (ae (a7 (aG T.cH (n0 T) (hr.mono (by decide)) rfl (paF (pv 0) (paF (pv 1) (paF (pv 2) (paF (pv 3) aa))))))
   (af (aN (aG T.iz (qI T) (hr.mono (by decide)) rfl (paF (pv 0) (paF (pv 1) (paF (pv 2) (paF (pv 3) (paF (aG T.cP (jX T) (hr.mono (by decide)) rfl (paF (pv 0) (paF (pv 4) aa))) aa))))))))))),?_⟩
 walk_at "rn";refine ⟨g,v,u,z,n,e,x,m,l,t,R,M,rfl,gi,fun H1 s1=>?_⟩;walk_at "rn";refine ⟨g,v,n,e,x,t,R,rfl,aX.mono s1 hG,gt,Rep.mono s1 hR,pt,hx,st,fun H2 s2=>?_⟩;have s02:=s1.trans s2;walk_at "rn";refine ⟨g,v,u,n,e,x,t,R,M,rfl,aX.mono s02 hG,gt,Rep.mono s02 hR,pt,Rep.mono s02 hM,ml,hx,st,kp,fun H3 s3=>?_⟩;have s03:=s02.trans s3;walk_at "rn";refine ⟨g,z,n,e,m,t,rfl,aX.mono s03 hG,gt,sv,fun H4 s4=>?_⟩;have s04:=s03.trans s4;walk_at "rn";refine ⟨g,v,u,n,e,x,m,t,R,M,rfl,aX.mono s04 hG,gt,Rep.mono s04 hR,pt,Rep.mono s04 hM,hw,hx,m60,fun k k1 kin lM=>⟨pt,hw,hx,st,fun h hh=>(kp h hh).symm,k1,kin,lM,m1,GB gt hl ml0 hx⟩,fun p dg df H' Pt L f1 s5 h1 h2 h3 h4=>?_⟩;walk_at "rn";exact q p dg df H' Pt L (s04.free f1) (s04.trans s5) h1 h2 (h3.since s04) h4
def vy (CS CK C:Addr) (K:LO):Sp:=fun vs H _ E=>∃ (g:Addr) (v u z:V) (n e x m l:Nat) (t:List (List Nat)) (R M:List Nat),vs=[.ref g,v,u,.int (x:Int),z]/\C3 C K H g v u z n e x m l t R M /\
 ((∃ h,mU n t e R x (some h)/\∀ d H',aj H H'->Fld H' d [("turner",.int (x:Int)),("thing",.int (h:Int))]->E (.ref CS) d H') \/
  ((∀ h∈R,de n t e h x∈R)/\∃ h,Gq n t e R M x h/\∀ d H',aj H H'->Fld H' d [("thing",.int (h:Int))]->E (.ref CK) d H'))
def Eu (T:Txt K mg):aH P w K mg base (CXR P w) 6 T.eA.f T.eA.fd ["group","part","marks","thing","spokes"] (vy T.bg T.bJ T.aI K):=by
 refine T.eA.fn.okX rg (fun vs H Q E h=>?_) (fun cdv A outer s H vs Q E hr h=>?_)
 ·obtain ⟨g,v,u,z,n,e,x,m,l,t,R,M,rfl,_⟩:=h;rfl
 obtain ⟨g,v,u,z,n,e,x,m,l,t,R,M,rfl,gi,q⟩:=h;obtain ⟨hG,gt,hR,pt,hM,ml,mm,br,hz,hl,ml0,m1,m60,hx⟩:=id gi;refine ⟨_,fun okc=>(ae (a7 (aG T.cU (pR T) (hr.mono (by decide)) rfl (paF (pv 0) (paF (pv 1) (paF (pv 2) (paF (pv 4) aa))))))
   (ae (a7 (iK T.cX (xc T) (hr.mono (by decide)) rfl fO (paF (pv 0) (paF (pv 1) (paF (pv 3) aa)))))
   (ae (a7 (iK T.cH (vn T) (hr.mono (by decide)) rfl fO (paF (pv 0) (paF (pv 1) (paF (pv 2) (paF (pv 3) aa))))))
   jI))),?_⟩
 walk_at "rn";refine ⟨g,v,u,z,n,e,x,m,l,t,R,M,rfl,gi,fun H1 s1=>?_⟩;walk_at "rn";rcases q with ⟨h,hl',q⟩|⟨st,h,kp,q⟩
 ·exact .inr ⟨g,v,n,e,x,h,t,R,rfl,aX.mono s1 hG,gt,Rep.mono s1 hR,pt,hx,hl',fun d H2 s2 f2=>q d H2 (s1.trans s2) f2⟩
 ·refine .inl ⟨g,v,n,e,x,t,R,rfl,aX.mono s1 hG,gt,Rep.mono s1 hR,pt,hx,st,fun H2 s2=>?_⟩;have s02:=s1.trans s2;walk_at "rn";exact .inr ⟨g,v,u,n,e,x,h,t,R,M,rfl,aX.mono s02 hG,gt,Rep.mono s02 hR,pt,Rep.mono s02 hM,ml,hx,st,kp,fun d H3 s3 f3=>q d H3 (s02.trans s3) f3⟩
def HH {H:Hp}:∀ {ys:List V} {l:List Int},Nk (Rep.is K H) ys l->ys=l.map V.int
 | _,_,.nil=>rfl
 | _,_,.cons r t=>by rw [Mz,<- HH t,show _=V.int _ from r]
def va {H:Hp} {d:Addr} {l:List Int} (h:Gr K H d l):H d=some (.lst (l.map V.int)):=by
 obtain ⟨ys,h1,h2⟩:=h;rw [h1,HH h2]
def zsV {R:List Nat}:(R.map fun (x:Nat)=>(x:Int)).map V.int=aO R:=by rw [Ox];rfl
abbrev SI:=Sum Str Int
def siV:SI->V
 | .inl s=>.str s
 | .inr i=>.int i
instance:Rep SI:=⟨fun _ _ v a=>v=siV a,fun _ h=>h⟩
def Je:∀ {a b:SI},siV a=siV b->a=b
 | .inl _,.inl _,h=>by injection h with h;rw [h]
 | .inr _,.inr _,h=>by injection h with h;rw [h]
 | .inl _,.inr _,h=>by cases h
 | .inr _,.inl _,h=>by cases h
def Ke:∀ {a b:SI},eqV (siV a) (siV b)=decide (a=b)
 | .inl a,.inl b=>by
  show (a == b)=_
  by_cases h:a=b
  ·subst h;simp
  ·have:(Se a:SI)≠.inl b:=fun z=>h (TX z);rw [decide_eq_false this]
   simpa using h
 | .inr a,.inr b=>by
  show (a == b)=_
  by_cases h:a=b
  ·subst h;simp
  ·have:(RB a:SI)≠.inr b:=fun z=>h (RB.inj z);rw [decide_eq_false this]
   simpa using h
 | .inl _,.inr _=>by rw [decide_eq_false (fun z=>by cases z)];rfl
 | .inr _,.inl _=>by rw [decide_eq_false (fun z=>by cases z)];rfl
def yG:∀ {a:SI},jr (siV a)=true
 | .inl _=>rfl
 | .inr _=>rfl
instance:bQ SI where
 depth:=0
 inj:=fun _ h h'=>Je ((show _=siV _ from h).symm.trans h')
 eq:=fun {X pins σ H s A x y u v a b} _ hx hy ru rv _=>by
  cases (show x=siV a from hx);cases (show y=siV b from hy);have q:=sT (A:=A) (s:=s) ru rv yG yG;rw [Ke] at q;exact q
def Fm {H:Hp}:∀ {l:List SI},Nk (Rep.is K H) (l.map siV) l
 | []=>.nil
 | _ :: _=>.cons rfl Fm
def nC {H:Hp} {p:Addr} {l:List SI} (h:H p=some (.lst (l.map siV))):At K H (.ref p) l:=⟨p,_,rfl,SqL.of h,Fm⟩
def ff {α β:Type} {F:α->β->Prop} {a:α} {b:β} {as:List α} {bs:List β} (h:Nk F (a :: as) (b :: bs)):F a b/\Nk F as bs:=by
 cases h with
 | cons r t=>exact ⟨r,t⟩
def kO (K:LO) (C D:Addr) (b:Bool):Prop:=Nw K (.ref C) (.ref D)=some b
def eK {C:Addr}:∀ {Ds:List Addr} {bs:List Bool},flagsOf K C Ds=bs.map some->Nk (kO K C) Ds bs
 | [],[],_=>.nil
 | [],_ :: _,h=>by cases h
 | _ :: _,[],h=>by cases h
 | D :: Ds,b :: bs,h=>by
  unfold flagsOf at h;rw [Mz,Mz] at h;injection h with h1 h2;exact .cons h1 (eK h2)
def names10:List Str:=["size","stranger","unit","back","together","part","steady","wheel","move","marks"]
def names5:List Str:=["way","kept","group","otherwheel","great"]
def names15:List Str:=names10++names5
def pick:List (Str×Bool)->List Str
 | []=>[]
 | (s,true) :: l=>s :: pick l
 | (_,false) :: l=>pick l
def lg:∀ {l:List (Str×Bool)} {s:Str} {b:Bool},pick (l++[(s,b)])=pick l++(if b=true then [s] else [])
 | [],s,true=>rfl
 | [],s,false=>rfl
 | (x,true) :: l,s,b=>by show x :: pick (l++[(s,b)])=x :: pick l++_;rw [lg];rfl
 | (x,false) :: l,s,b=>by show pick (l++[(s,b)])=pick l++_;rw [lg]
def rC:∀ {l:List (Str×Bool)},(pick l).length<=l.length
 | []=>Mb _
 | (_,true) :: l=>by show (pick l).length+1<=l.length+1;exact RX rC
 | (_,false) :: l=>by show (pick l).length<=l.length+1;exact Nat.le_succ_of_le rC
def xa (Ds:List Addr) (K:LO):Sp:=fun vs H Q _=>∃ x,vs=[x]/\((x=.non/\∀ d H',aj H H'->H' d=some (.lst [])->Q (.ref d) H') \/
 ∃ (y C:Addr) (di:Option Addr) (bs:List Bool),x=.ref y/\H y=some (fM y C di)/\cx K C/\Nw K (.ref C) (.type "ValueError")=some true/\Nk (kO K C) Ds bs/\∀ d H',aj H H'->H' d=some (.lst ((pick (names15.zip bs)).map V.str))->Q (.ref d) H')
def wG (T:Txt K mg):aH P w K mg base CX0 1 T.iu.f T.iu.fd ["_law_met"] (xa [T.fZ,T.fw,T.gU,T.hX,T.dI,T.bt,T.bg,T.a0,T.gX,T.bc,T.bE,T.bJ,T.d6,T.d0,T.fB] K):=by
 refine T.iu.ok cJ (fun vs H Q E h=>?_) (fun cdv A outer s H vs Q E hr h=>?_)
 ·obtain ⟨x,rfl,_⟩:=h;rfl
 obtain ⟨x,rfl,h⟩:=h;refine ⟨_,(ae (aS (jx (ym (pv 0))) (af (aN (aW aa))) aE)
   (ae (av (i:=1) cJ.nd rfl (L8 rfl) (aW (paF (az (bI K rfl) rfl T.bx Mh (paF (pv 0) (paF (cF (v:=.ref T.fZ) rfl T.Fu rfl) aa))) (paF (az (bI K rfl) rfl T.bx Mh (paF (pv 0) (paF (cF (v:=.ref T.fw) rfl T.BX rfl) aa))) (paF (az (bI K rfl) rfl T.bx Mh (paF (pv 0) (paF (cF (v:=.ref T.gU) rfl T.FN rfl) aa))) (paF (az (bI K rfl) rfl T.bx Mh (paF (pv 0) (paF (cF (v:=.ref T.hX) rfl T.Hr rfl) aa))) aa))))))
   (ae (av (i:=1) cJ.nd rfl (L8 rfl) (au kD (pv 1) (aW (paF (az (bI K rfl) rfl T.bx Mh (paF (pv 0) (paF (cF (v:=.ref T.dI) rfl T.xo rfl) aa))) (paF (az (bI K rfl) rfl T.bx Mh (paF (pv 0) (paF (cF (v:=.ref T.bt) rfl T.rj rfl) aa))) (paF (az (bI K rfl) rfl T.bx Mh (paF (pv 0) (paF (cF (v:=.ref T.bg) rfl T.qH rfl) aa))) aa))))))
   (ae (av (i:=1) cJ.nd rfl (L8 rfl) (au kD (pv 1) (aW (paF (az (bI K rfl) rfl T.bx Mh (paF (pv 0) (paF (cF (v:=.ref T.a0) rfl T.j9 rfl) aa))) (paF (az (bI K rfl) rfl T.bx Mh (paF (pv 0) (paF (cF (v:=.ref T.gX) rfl T.Hw rfl) aa))) (paF (az (bI K rfl) rfl T.bx Mh (paF (pv 0) (paF (cF (v:=.ref T.bc) rfl T.ka rfl) aa))) aa))))))
   (ae (av (i:=1) cJ.nd rfl (L8 rfl) (au kD (pv 1) (aW (paF (az (bI K rfl) rfl T.bx Mh (paF (pv 0) (paF (cF (v:=.ref T.bE) rfl T.uH rfl) aa))) (paF (az (bI K rfl) rfl T.bx Mh (paF (pv 0) (paF (cF (v:=.ref T.bJ) rfl T.vw rfl) aa))) (paF (az (bI K rfl) rfl T.bx Mh (paF (pv 0) (paF (cF (v:=.ref T.d6) rfl T.zW rfl) aa))) aa))))))
   (ae (av (i:=1) cJ.nd rfl (L8 rfl) (au kD (pv 1) (aW (paF (az (bI K rfl) rfl T.bx Mh (paF (pv 0) (paF (cF (v:=.ref T.d0) rfl T.yj rfl) aa))) (paF (az (bI K rfl) rfl T.bx Mh (paF (pv 0) (paF (cF (v:=.ref T.fB) rfl T.Co rfl) aa))) aa)))))
   (ae (av (i:=2) cJ.nd rfl (L8 rfl) (aW (paF bG (paF bG (paF bG (paF bG (paF bG (paF bG (paF bG (paF bG (paF bG (paF bG aa))))))))))))
   (ae (av (i:=2) cJ.nd rfl (L8 rfl) (au kD (pv 2) (aW (paF bG (paF bG (paF bG (paF bG (paF bG aa))))))))
   (ae (dR (i:=3) rfl cJ.nd rfl (L8 rfl) lF (IG K rfl rfl T.sh (paF (pv 2) (paF (pv 1) aa))) (fun _ _ _ _=>⟨(EG K rfl (i:=0) (j:=1) rfl lF.nd rfl (L8 rfl) rfl (L8 rfl)),(Jy (fX (pv 1))),(pv 0)⟩) rfl)
   (ae (aS (fX (az (bI K rfl) rfl T.bx Mh (paF (pv 0) (paF (uM (v:=.ty "ValueError") rfl T.zQ rfl rfl) aa)))) (af (aN (pv 3))) aE)
   (af (aN (aW (paF bG aa)))))))))))))),?_⟩
 rcases h with ⟨rfl,q⟩|⟨y,C,di,bs,rfl,hx,hc,hv,hp,q⟩
 ·walk_at "3";refine aU (fun _=>?_) (fun z=>absurd rfl z);walk_at "4";exact ⟨small (by show 0<=1000;decide),fun p hp=>q p _ (ay hp _) ar⟩
 obtain ⟨b1,b2,b3,b4,b5,b6,b7,b8,b9,b10,b11,b12,b13,b14,b15,rfl⟩:∃ b1 b2 b3 b4 b5 b6 b7 b8 b9 b10 b11 b12 b13 b14 b15,bs=[b1,b2,b3,b4,b5,b6,b7,b8,b9,b10,b11,b12,b13,b14,b15]:=by
  have e:=RC hp
  match bs,e with
  | [b1,b2,b3,b4,b5,b6,b7,b8,b9,b10,b11,b12,b13,b14,b15],_=>exact ⟨_,_,_,_,_,_,_,_,_,_,_,_,_,_,_,rfl⟩
 obtain ⟨h1,hp⟩:=ff hp;obtain ⟨h2,hp⟩:=ff hp;obtain ⟨h3,hp⟩:=ff hp;obtain ⟨h4,hp⟩:=ff hp;obtain ⟨h5,hp⟩:=ff hp;obtain ⟨h6,hp⟩:=ff hp;obtain ⟨h7,hp⟩:=ff hp;obtain ⟨h8,hp⟩:=ff hp;obtain ⟨h9,hp⟩:=ff hp;obtain ⟨h10,hp⟩:=ff hp;obtain ⟨h11,hp⟩:=ff hp;obtain ⟨h12,hp⟩:=ff hp;obtain ⟨h13,hp⟩:=ff hp;obtain ⟨h14,hp⟩:=ff hp;obtain ⟨h15,hp⟩:=ff hp;walk_at "3";refine aU (fun z=>by cases z) (fun _=>?_)
 walk_at "4";refine cL hx hc h1 ?_;walk_at "rx";refine cL hx hc h2 ?_;walk_at "rx";refine cL hx hc h3 ?_;walk_at "rx";refine cL hx hc h4 ?_;walk_at "rx";refine ⟨small (by show 4<=1000;decide),fun p1 hp1=>?_⟩
 have s1:=ay hp1 (.lst [.bl b1,.bl b2,.bl b3,.bl b4]);have g1:(upd H p1 (.lst [.bl b1,.bl b2,.bl b3,.bl b4])) p1=some (.lst ([b1,b2,b3,b4].map V.bl)):=ar;generalize upd H p1 (.lst [.bl b1,.bl b2,.bl b3,.bl b4])=H1 at s1 g1;walk_at "4";refine cL (s1 _ _ hx) hc h5 ?_;walk_at "rx";refine cL (s1 _ _ hx) hc h6 ?_;walk_at "rx";refine cL (s1 _ _ hx) hc h7 ?_;walk_at "rx";refine ⟨small (by show 3<=1000;decide),fun p4 hp4=>?_⟩
 have n4:p1≠p4:=fun e=>by rw [<- e,g1] at hp4;cases hp4
 refine ⟨p1,p4,_,_,rfl,rfl,by rw [aA n4];exact g1,ar,small (by show _<=1000;simp),fun c4 hc4=>?_⟩
 have s4:=s1.trans ((ay hp4 (.lst [.bl b5,.bl b6,.bl b7])).trans (ay hc4 (.lst ([b1,b2,b3,b4].map V.bl++[.bl b5,.bl b6,.bl b7]))));have g4:(upd (upd H1 p4 (.lst [.bl b5,.bl b6,.bl b7])) c4 (.lst ([b1,b2,b3,b4].map V.bl++[.bl b5,.bl b6,.bl b7]))) c4=some (.lst ([b1,b2,b3,b4,b5,b6,b7].map V.bl)):=ar;generalize upd (upd H1 p4 (.lst [.bl b5,.bl b6,.bl b7])) c4 (.lst ([b1,b2,b3,b4].map V.bl++[.bl b5,.bl b6,.bl b7]))=H4 at s4 g4;walk_at "4";refine cL (s4 _ _ hx) hc h8 ?_;walk_at "rx";refine cL (s4 _ _ hx) hc h9 ?_;walk_at "rx";refine cL (s4 _ _ hx) hc h10 ?_;walk_at "rx";refine ⟨small (by show 3<=1000;decide),fun p7 hp7=>?_⟩
 have n7:c4≠p7:=fun e=>by rw [<- e,g4] at hp7;cases hp7
 refine ⟨c4,p7,_,_,rfl,rfl,by rw [aA n7];exact g4,ar,small (by show _<=1000;simp),fun c7 hc7=>?_⟩
 have s7:=s4.trans ((ay hp7 (.lst [.bl b8,.bl b9,.bl b10])).trans (ay hc7 (.lst ([b1,b2,b3,b4,b5,b6,b7].map V.bl++[.bl b8,.bl b9,.bl b10]))));have g7:(upd (upd H4 p7 (.lst [.bl b8,.bl b9,.bl b10])) c7 (.lst ([b1,b2,b3,b4,b5,b6,b7].map V.bl++[.bl b8,.bl b9,.bl b10]))) c7=some (.lst ([b1,b2,b3,b4,b5,b6,b7,b8,b9,b10].map V.bl)):=ar;generalize upd (upd H4 p7 (.lst [.bl b8,.bl b9,.bl b10])) c7 (.lst ([b1,b2,b3,b4,b5,b6,b7].map V.bl++[.bl b8,.bl b9,.bl b10]))=H7 at s7 g7;walk_at "4";refine cL (s7 _ _ hx) hc h11 ?_;walk_at "rx";refine cL (s7 _ _ hx) hc h12 ?_;walk_at "rx";refine cL (s7 _ _ hx) hc h13 ?_;walk_at "rx";refine ⟨small (by show 3<=1000;decide),fun p10 hp10=>?_⟩
 have n10:c7≠p10:=fun e=>by rw [<- e,g7] at hp10;cases hp10
 refine ⟨c7,p10,_,_,rfl,rfl,by rw [aA n10];exact g7,ar,small (by show _<=1000;simp),fun c10 hc10=>?_⟩
 have s10:=s7.trans ((ay hp10 (.lst [.bl b11,.bl b12,.bl b13])).trans (ay hc10 (.lst ([b1,b2,b3,b4,b5,b6,b7,b8,b9,b10].map V.bl++[.bl b11,.bl b12,.bl b13]))));have g10:(upd (upd H7 p10 (.lst [.bl b11,.bl b12,.bl b13])) c10 (.lst ([b1,b2,b3,b4,b5,b6,b7,b8,b9,b10].map V.bl++[.bl b11,.bl b12,.bl b13]))) c10=some (.lst ([b1,b2,b3,b4,b5,b6,b7,b8,b9,b10,b11,b12,b13].map V.bl)):=ar;generalize upd (upd H7 p10 (.lst [.bl b11,.bl b12,.bl b13])) c10 (.lst ([b1,b2,b3,b4,b5,b6,b7,b8,b9,b10].map V.bl++[.bl b11,.bl b12,.bl b13]))=H10 at s10 g10;walk_at "4";refine cL (s10 _ _ hx) hc h14 ?_;walk_at "rx";refine cL (s10 _ _ hx) hc h15 ?_;walk_at "rx";refine ⟨small (by show 2<=1000;decide),fun p13 hp13=>?_⟩
 have n13:c10≠p13:=fun e=>by rw [<- e,g10] at hp13;cases hp13
 refine ⟨c10,p13,_,_,rfl,rfl,by rw [aA n13];exact g10,ar,small (by show _<=1000;simp),fun c13 hc13=>?_⟩
 have s13:=s10.trans ((ay hp13 (.lst [.bl b14,.bl b15])).trans (ay hc13 (.lst ([b1,b2,b3,b4,b5,b6,b7,b8,b9,b10,b11,b12,b13].map V.bl++[.bl b14,.bl b15]))));have g13:(upd (upd H10 p13 (.lst [.bl b14,.bl b15])) c13 (.lst ([b1,b2,b3,b4,b5,b6,b7,b8,b9,b10,b11,b12,b13].map V.bl++[.bl b14,.bl b15]))) c13=some (.lst ([b1,b2,b3,b4,b5,b6,b7,b8,b9,b10,b11,b12,b13,b14,b15].map V.bl)):=ar;generalize upd (upd H10 p13 (.lst [.bl b14,.bl b15])) c13 (.lst ([b1,b2,b3,b4,b5,b6,b7,b8,b9,b10,b11,b12,b13].map V.bl++[.bl b14,.bl b15]))=H13 at s13 g13;have bl:[b1,b2,b3,b4,b5,b6,b7,b8,b9,b10,b11,b12,b13,b14,b15].length=15:=rfl;generalize [b1,b2,b3,b4,b5,b6,b7,b8,b9,b10,b11,b12,b13,b14,b15]=bs at g13 bl q;walk_at "4";refine ⟨small (by show 10<=1000;decide),fun p14 hp14=>?_⟩
 have s14:=ay hp14 (.lst (names10.map V.str));have h14':(upd H13 p14 (.lst (names10.map V.str))) p14=some (.lst (names10.map V.str)):=ar;rw [show [V.str (Np "size"),V.str (Np "stranger"),V.str (Np "unit"),V.str (Np "back"),V.str (Np "together"),V.str (Np "part"),V.str (Np "steady"),V.str (Np "wheel"),V.str (Np "move"),V.str (Np "marks")]=names10.map V.str from rfl];generalize upd H13 p14 (.lst (names10.map V.str))=H14 at s14 h14';walk_at "4";refine ⟨small (by show 5<=1000;decide),fun p15 hp15=>?_⟩
 rw [show [V.str (Np "way"),V.str (Np "kept"),V.str (Np "group"),V.str (Np "otherwheel"),V.str (Np "great")]=names5.map V.str from rfl];have n15:p14≠p15:=fun e=>by rw [<- e,h14'] at hp15;cases hp15
 refine ⟨p14,p15,_,_,rfl,rfl,by rw [aA n15];exact h14',ar,small (by show _<=1000;decide),fun c15 hc15=>?_⟩
 have s15:=s14.trans ((ay hp15 (.lst (names5.map V.str))).trans (ay hc15 (.lst (names10.map V.str++names5.map V.str))));have g15:(upd (upd H14 p15 (.lst (names5.map V.str))) c15 (.lst (names10.map V.str++names5.map V.str))) c15=some (.lst (names15.map V.str)):=ar;generalize upd (upd H14 p15 (.lst (names5.map V.str))) c15 (.lst (names10.map V.str++names5.map V.str))=H15 at s15 g15;have s015:=s13.trans s15;have g13':=s15 _ _ g13;have nl:names15.length=15:=rfl;walk_at "rx";refine Le ?_;walk_at "rx";refine Ge (K:=K) (p:=c15) (p2:=c13) (xs:=names15.map V.str) (ys:=bs.map V.bl) (by rw [LX,LX,nl,bl]) (by rw [LX,nl];decide) (fun d i σ' H' zs=>aj H15 H'/\zs=(pick ((names15.zip bs).take i)).map V.str/\∃ y z,σ'=[y,z]) (fun d i σ' H' zs z=>z.1.seq (SqL.of g15)) (fun d i σ' H' zs z=>z.1.seq (SqL.of g13')) (SqL.of g15) (SqL.of g13')
  (fun d i σ' H' zs hi z=>by rw [z.2.1,LX];exact M7 rC (by rw [MF];omega)) ?h0 ?_ ?_
 case h0=>exact fun d hd=>⟨ay hd _,rfl,_,_,rfl⟩
 ·rintro d i x y σ' H2 H3 zs R R0 hd hi hj ⟨s2,rfl,y1,y2,rfl⟩ hz s3 hR hR0;obtain ⟨o,ho,rfl⟩:∃ o,names15[i]?=some o/\V.str o=x:=by
   rw [Mp] at hi;cases hn:names15[i]? with
   | none=>rw [hn] at hi;cases hi
   | some o'=>rw [hn] at hi;exact ⟨o',rfl,ME hi⟩
  obtain ⟨b,hb,rfl⟩:∃ b,bs[i]?=some b/\V.bl b=y:=by
   rw [Mp] at hj;cases hn:bs[i]? with
   | none=>rw [hn] at hj;cases hj
   | some o'=>rw [hn] at hj;exact ⟨o',rfl,ME hj⟩
  have et:(names15.zip bs).take (i+1)=(names15.zip bs).take i++[(o,b)]:=by
   rw [MB,(Ra (z:=(o,b))).mpr ⟨ho,hb⟩];rfl
  walk_at "rx";cases b with
  | true =>
   refine oP ?_;walk_at "rx";refine hR _ _ _ (s3 _ _ hz) ⟨fun b o zz=>by rw [aA (aQ zz hd)];exact s3 _ _ (s2 _ _ zz),?_,_,_,rfl⟩
   rw [et,lg,if_pos rfl,M8];rfl
  | false =>
   refine fq ?_;refine hR0 _ _ (s3 _ _ hz) ⟨s2.trans s3,?_,_,_,rfl⟩;rw [et,lg,if_neg (by decide),NS]
 rintro d2 σ2 H2 zs fd2 hd2 ⟨s2,rfl,y1,y2,rfl⟩;have hd2':H2 d2=some (.lst ((pick (names15.zip bs)).map V.str)):=by
  rw [hd2,MU (by rw [QM,LX,nl,bl];decide)]
 walk_at "3";refine Gf ((s015.trans s2) _ _ hx) hc hv ?_;walk_at "rx";exact q d2 H2 (s015.trans s2) hd2'
end
section
end
section
variable {P:Mi} {w:World} {K:LO} {mg:Str->Option Value} {base:Heap}
def CJ (K:LO):Sp:=fun vs H Q _=>∃ (v:V) (ns:List Int) (k:Nat),vs=[v,.int (k:Int)]/\At K H v ns/\ns.length<=63/\∀ z:Int,0<=z->Q (.int z) H
def jQ (T:Txt K mg):aH P w K mg base CX0 1 T.fS.f T.fS.fd ["_law_script","_law_k"] (CJ K):=by
 refine T.fS.ok CT (fun vs H Q E h=>?_) (fun cdv A outer s H vs Q E hr h=>?_)
 ·obtain ⟨v,ns,k,rfl,_⟩:=h;rfl
 obtain ⟨v,ns,k,rfl,hA,h63,q⟩:=h;refine ⟨_,(ae (aS (ax eF (pv 1) (az (aT K rfl) rfl T.bB Mf (paF (pv 0) aa)) (aB _)) (af (aN (au aV (aw (ah K rfl) (pv 0) (pv 1) (fun _ _=>rfl)) (au bS ag (au KW ag ag))))) aE)
   (af (aN ag))),?_⟩
 walk_at "2";refine cB hA ?_;walk_at "rn";refine aU (fun c=>?_) (fun _=>?_)
 ·walk_at "rn";refine jR (n:=k) hA rfl (LP c) ?_;walk_at "rn";refine rX ⟨by decide,by decide,by decide⟩ ?_
  refine rX (.inl ⟨by decide,by decide⟩) ?_
  refine EJ (by decide) ?_
  exact q _ (QT _ (by decide))
 ·walk_at "rn";exact q _ (by decide)
def wV (K:LO):Sp:=fun vs H Q _=>∃ (v:V) (ns:List Int) (l:Nat),vs=[v,.int (l:Int)]/\At K H v ns/\ns.length<=63/\1<=l/\l<=60/\∀ m:Int,Q (.int m) H
def wD (T:Txt K mg):aH P w K mg base CX0 2 T.iS.f T.iS.fd ["_law_script","_law_least"] (wV K):=by
 refine T.iS.ok jM (fun vs H Q E h=>?_) (fun cdv A outer s H vs Q E hr h=>?_)
 ·obtain ⟨v,ns,l,rfl,_⟩:=h;rfl
 obtain ⟨v,ns,l,rfl,hA,h63,l1,l60,q⟩:=h;have lq:0<60 / l:=Th (by omega) (by omega)
 refine ⟨_,(ae (av (i:=2) jM.nd rfl (L8 rfl) (aG T.cu (cW T) (hr.mono (by decide)) rfl (paF (pv 0) (paF ag aa))))
   (ae (av (i:=3) jM.nd rfl (L8 rfl) (au aV (pv 2) ag))
   (ae (aS (ax bK (pv 3) ag (aB _)) (af (aN (au bS (pv 1) (au f9 (au aV (au bq (pv 2) ag) ag) ag)))) aE)
   (ae (aS (ax bK (pv 3) ag (aB _)) (af (aN (au f9 (au aV (au bq (pv 2) ag) ag) ag))) aE)
   (ae (aS (ax bK (pv 3) ag (aB _)) (af (aN (au bq (aG T.fS (jQ T) (hr.mono (by decide)) rfl (paF (pv 0) (paF ag aa))) ag))) aE)
   (ae (aS (ax bK (pv 3) ag (aB _)) (af (aN (au bS (pv 1) (au bj (au bq ag (pv 1)) (au aV (au bq (pv 2) ag) ag))))) aE)
   (af (aN (au bS (pv 1) (au bj ag (au aV (au bq (pv 2) ag) (au bq ag (pv 1))))))))))))),?_⟩
 walk_at "rn";refine ⟨_,ns,7,rfl,hA,?_⟩;generalize dy ns 7=c;walk_at "2";refine aU (fun _=>?_) (fun _=>?_)
 ·walk_at "rn";refine rX (.inl ⟨by omega,by omega⟩) ?_
  exact q _
 walk_at "2";refine aU (fun _=>?_) (fun _=>?_)
 ·walk_at "rn";exact q _
 walk_at "2";refine aU (fun _=>?_) (fun _=>?_)
 ·walk_at "rn";refine ⟨_,ns,7,rfl,hA,h63,fun z hz=>?_⟩;walk_at "rn";refine tm (by decide) (by decide) ?_
  exact q _
 walk_at "2";refine aU (fun _=>?_) (fun _=>?_)
 ·walk_at "rn";exact q _
 ·walk_at "rn";exact q _
def yO (K:LO):Sp:=fun vs H Q _=>∃ (v:V) (ns:List Int) (k:Nat),vs=[v,.int (k:Int)]/\At K H v ns/\ns.length<=63/\k<=64/\∀ d H' (M:List Int),H d=none->aj H H'->H' d=some (.lst (M.map V.int))->M.length<=65->Q (.ref d) H'
def nt {M:List Int} {j:Nat} {x:Int}:(M.map V.int).set j (.int x)=(M.set j x).map V.int:=by rw [List.map_set]
def yg (T:Txt K mg):aH P w K mg base CX0 2 T.ju.f T.ju.fd ["_law_script","_law_many"] (yO K):=by
 refine T.ju.ok iq (fun vs H Q E h=>?_) (fun cdv A outer s H vs Q E hr h=>?_)
 ·obtain ⟨v,ns,k,rfl,_⟩:=h;rfl
 obtain ⟨v,ns,k,rfl,hA,h63,k64,q⟩:=h;refine ⟨_,(ae (dR (i:=2) rfl iq.nd rfl (L8 rfl) mF (a9 rfl T.bD (paF (pv 1) aa)) (fun _ _ _ _=>⟨(aJ (i:=0) mF.nd rfl (L8 rfl)),bZ,ag⟩) rfl)
   (ae (av (i:=3) iq.nd rfl (L8 rfl) (aG T.cu (cW T) (hr.mono (by decide)) rfl (paF (pv 0) (paF ag aa))))
   (ae (av (i:=4) iq.nd rfl (L8 rfl) (au aV (pv 3) ag))
   (ae (aS (PW.pt (dB (ax bK (pv 4) ag (aB _)) (ee (ax fP (pv 1) ag (aB _))))) (af (a7 (Ba K rfl Mj SJ SK Kb (pv 2)))) aE)
   (ae (aS (ax bK (pv 4) ag (aB _)) (af (a7 (cO K rfl Mj MK ML cC (pv 2) (paF ag aa)))) aE)
   (ae (aS (PW.pt (dB (ax fP (pv 4) ag (aB _)) (ee (ax fP (pv 1) ag (aB _))))) (af (l8 (au f9 (au aV (au bq (pv 3) ag) ag) ag) (mj (pv 2) (au aV (au bq (pv 3) ag) (pv 1)) set_list))) aE)
   (ae (aS (PW.pt (dB (ax bK (pv 4) ag (aB _)) (ee (ax fP (pv 1) ag (aB _))))) (af (l8 (au bj (au f9 (au aV (au bq (pv 3) ag) ag) ag) (au bq (aG T.fS (jQ T) (hr.mono (by decide)) rfl (paF (pv 0) (paF ag aa))) ag)) (mj (pv 2) (au aV (au bq (pv 3) ag) (pv 1)) set_list))) aE)
   (af (aN (pv 2)))))))))),?_⟩
 walk_at "rn";refine mJ K (n:=k) (β:=Int) rfl (by omega) (fun i=>Me i 0) (fun σ'=>∃ y,σ'=[y]) rfl (fun i _=>by simp) ⟨_,rfl⟩ ?_ ?_
 ·rintro i σ' H6 d' R' R0 hi hs ⟨y,rfl⟩ hR hR0 hd';walk_at "rn";exact hR _ _ 0 _ ⟨_,rfl⟩ (aj.refl _) rfl Om
 intro d H1 fd s1 h1;have g1:Gr K H1 d (Me k (0:Int)):=h1;have w1:=va g1;walk_at "rn";refine ⟨_,ns,8,rfl,Rep.mono s1 hA,?_⟩;generalize dy ns 8=c;walk_at "rn";refine dG (fun σ' H'=>aj H H'/\∃ M:List Int,H' d=some (.lst (M.map V.int))/\M.length<=64/\(c % 5≠1->k<=M.length)/\σ'=[some v,some (.int (k:Int)),some (.ref d),some (.int (c:Int)),some (.int ((c % 5:Nat):Int))]) (fun N hN=>?_) ?_
 ·walk_at "rn";refine aU (fun c1=>?_) (fun c1=>?_)
  ·walk_at "rn";refine aU (fun c2=>?_) (fun c2=>?_)
   ·walk_at "rn";refine ⟨.inl ⟨rfl,_,SqL.of w1⟩,?_⟩;refine ⟨d,_,.int 0,rfl,rfl,w1,by rw [Q6,Oq,if_pos (by simp;omega)],?_⟩
    refine hN _ _ ⟨eX fd s1,Me (k - 1) 0,?_,by simp;omega,fun z=>absurd c1 z,rfl⟩
    rw [ar,Q6,Q6,List.dropLast_replicate]
   ·walk_at "rn";exact hN _ _ ⟨s1,_,w1,by simp;omega,fun z=>absurd c1 z,rfl⟩
  ·walk_at "rn";exact hN _ _ ⟨s1,_,w1,by simp;omega,fun _=>by simp,rfl⟩
 rintro σ' H2 ⟨s2,M,w2,ml,mk,rfl⟩;walk_at "rn";refine dG (fun σ' H'=>aj H H'/\∃ M:List Int,H' d=some (.lst (M.map V.int))/\M.length<=65/\(2<c % 5->k<=M.length)/\σ'=[some v,some (.int (k:Int)),some (.ref d),some (.int (c:Int)),some (.int ((c % 5:Nat):Int))]) (fun N hN=>?_) ?_
 ·walk_at "rn";refine aU (fun c1=>?_) (fun c1=>?_)
  ·walk_at "rn";refine ⟨.inl ⟨rfl,_,SqL.of w2⟩,?_⟩;walk_at "rn";refine ⟨d,_,_,rfl,rfl,w2,NM (show (M.map V.int).length<=1000 by rw [LX];omega) (by rw [MX];decide),?_⟩
   refine hN _ _ ⟨eX fd s2,M++[0],by rw [ar,M8];rfl,by rw [Mr];show _+1<=_;omega,fun z=>absurd z (by omega),rfl⟩
  ·walk_at "rn";exact hN _ _ ⟨s2,M,w2,by omega,fun z=>mk (by omega),rfl⟩
 rintro σ' H3 ⟨s3,M,w3,ml,mk,rfl⟩;walk_at "rn";refine dG (fun σ' H'=>aj H H'/\∃ M:List Int,H' d=some (.lst (M.map V.int))/\M.length<=65/\(2<c % 5->k<=M.length)/\σ'=[some v,some (.int (k:Int)),some (.ref d),some (.int (c:Int)),some (.int ((c % 5:Nat):Int))]) (fun N hN=>?_) ?_
 ·walk_at "rn";refine aU (fun c1=>?_) (fun c1=>?_)
  ·walk_at "rn";refine aU (fun c2=>?_) (fun c2=>?_)
   ·have kM:=mk c1;have hj:c / 5 % k<k:=Mw _ c2;walk_at "rn";refine lZ w3 rfl (by rw [LX];omega) ?_
    rw [nt];exact hN _ _ ⟨eX fd s3,_,ar,by rw [NZ];exact ml,fun _=>by rw [NZ];exact kM,rfl⟩
   ·walk_at "rn";exact hN _ _ ⟨s3,M,w3,ml,mk,rfl⟩
  ·walk_at "rn";exact hN _ _ ⟨s3,M,w3,ml,mk,rfl⟩
 rintro σ' H4 ⟨s4,M,w4,ml,mk,rfl⟩;walk_at "rn";refine dG (fun σ' H'=>aj H H'/\∃ M:List Int,H' d=some (.lst (M.map V.int))/\M.length<=65/\σ'=[some v,some (.int (k:Int)),some (.ref d),some (.int (c:Int)),some (.int ((c % 5:Nat):Int))]) (fun N hN=>?_) ?_
 ·walk_at "rn";refine aU (fun c1=>?_) (fun c1=>?_)
  ·walk_at "rn";refine aU (fun c2=>?_) (fun c2=>?_)
   ·have kM:=mk (by omega)
    have hj:c / 5 % k<k:=Mw _ c2;walk_at "rn";refine ⟨_,ns,9,rfl,Rep.mono s4 hA,h63,fun z hz=>?_⟩;walk_at "rn";refine tm (by decide) (by decide) ?_
    refine Et ?_;walk_at "rn";refine lZ w4 rfl (by rw [LX];omega) ?_
    rw [nt];exact hN _ _ ⟨eX fd s4,_,ar,by rw [NZ];exact ml,rfl⟩
   ·walk_at "rn";exact hN _ _ ⟨s4,M,w4,ml,rfl⟩
  ·walk_at "rn";exact hN _ _ ⟨s4,M,w4,ml,rfl⟩
 rintro σ' H5 ⟨s5,M,w5,ml,rfl⟩;walk_at "rn";exact q d H5 M fd s5 w5 ml
def AH (K:LO):Sp:=fun vs H Q _=>∃ (v u:V) (ns:List Int) (n e:Nat) (t:List (List Nat)),vs=[v,u]/\At K H v ns/\ns.length<=63/\At K H u t/\GT n t e/\∀ d H' (L:List Int),H d=none->aj H H'->H' d=some (.lst (L.map V.int))->L.length<=64->Q (.ref d) H'
def BH {α:Type} {l:List α} {lo hi:Option Int} {x:α} (h:x∈cut l lo hi):x∈l:=Px (Py h)
def JZ {j n:Nat} (h:j<n):seqIndex? (j:Int) n=some j:=PySem.StrLaws.seqIndex_nonneg (i:=(j:Int)) (by omega) (by omega)
def gJ {H:Hp} {p:Addr} {l:List Int} (h:H p=some (.lst (l.map V.int))):At K H (.ref p) l:=A6 (SqL.of h)
def vJ {α β:Type} (f:α->β):∀ (l:List α) (j:Nat),(l.eraseIdx j).map f=(l.map f).eraseIdx j
 | [],_=>rfl
 | _ :: _,0=>rfl
 | a :: l,j+1=>by
  show f a :: (l.eraseIdx j).map f=f a :: (l.map f).eraseIdx j;rw [vJ f l j]
def Ag (T:Txt K mg):aH P w K mg base CX0 3 T.j5.f T.j5.fd ["_law_script","_law_table"] (AH K):=by
 refine T.j5.ok fI (fun vs H Q E h=>?_) (fun cdv A outer s H vs Q E hr h=>?_)
 ·obtain ⟨v,u,ns,n,e,t,rfl,_⟩:=h;rfl
 obtain ⟨v,u,ns,n,e,t,rfl,hA,h63,hT,gt,q⟩:=h;have n1:=gt.pos;have n23:=gt.le;refine ⟨_,(ae (av (i:=2) fI.nd rfl (L8 rfl) (aG T.cu (cW T) (hr.mono (by decide)) rfl (paF (pv 0) (paF ag aa))))
   (ae (av (i:=3) fI.nd rfl (L8 rfl) (aW (paF (au aV (aG T.cu (cW T) (hr.mono (by decide)) rfl (paF (pv 0) (paF ag aa))) (az (aT K rfl) rfl T.bB Mf (paF (pv 1) aa))) (paF (au aV (au bq (aG T.cu (cW T) (hr.mono (by decide)) rfl (paF (pv 0) (paF ag aa))) ag) (az (aT K rfl) rfl T.bB Mf (paF (pv 1) aa))) aa))))
   (ae (av (i:=4) fI.nd rfl (L8 rfl) (aG T.iH (wZ T) (hr.mono (by decide)) rfl (paF (pv 1) (paF (rT (rH K rfl) (pv 3) uk (ux (au aV (pv 2) ag))) aa))))
   (ae (av (i:=5) fI.nd rfl (L8 rfl) (au aV (au bq (pv 2) ag) ag))
   (ae (av (i:=6) fI.nd rfl (L8 rfl) (au aV (au bq (pv 2) ag) (az (aT K rfl) rfl T.bB Mf (paF (pv 4) aa))))
   (ae (aS (ax bK (pv 5) ag (aB _)) (af (a7 (Ba K rfl Mj PySem.F.slot_list_reverse PySem.F.type_list_reverse CH (pv 4)))) aE)
   (ae (aS (ax bK (pv 5) ag (aB _)) (af (a7 (cO K rfl Mj Rz RA v8 (pv 4) (paF (pv 6) (paF (aw (ah K rfl) (pv 4) (pv 6) (fun _ _=>rfl)) aa))))) aE)
   (ae (aS (ax bK (pv 5) ag (aB _)) (af (a7 (cO K rfl Mj SJ SK GI (pv 4) (paF (pv 6) aa)))) aE)
   (ae (aS (ax bK (pv 5) ag (aB _)) (af (l8 (au aV (au bq (aG T.cu (cW T) (hr.mono (by decide)) rfl (paF (pv 0) (paF ag aa))) ag) (az (aT K rfl) rfl T.bB Mf (paF (pv 1) aa))) (mj (pv 4) (pv 6) set_list))) aE)
   (ae (aS (ax bK (pv 5) ag (aB _)) (af (l8 (au f9 (au f9 ag ag) (au bq (aG T.fS (jQ T) (hr.mono (by decide)) rfl (paF (pv 0) (paF ag aa))) ag)) (mj (pv 4) (pv 6) set_list))) aE)
   (ae (aS (ax bK (pv 5) ag (aB _)) (af (l8 (au bj (az (aT K rfl) rfl T.bB Mf (paF (pv 1) aa)) (au bq (aG T.fS (jQ T) (hr.mono (by decide)) rfl (paF (pv 0) (paF ag aa))) ag)) (mj (pv 4) (pv 6) set_list))) aE)
   (af (aN (pv 4)))))))))))))),?_⟩
 walk_at "rn";refine ⟨_,ns,4,rfl,hA,?_⟩;generalize dy ns 4=c;walk_at "1";refine ⟨_,ns,5,rfl,hA,?_⟩;walk_at "rn";refine cB hT ?_;rw [gt.len];walk_at "rn";refine ⟨_,ns,5,rfl,hA,?_⟩;walk_at "rn";refine cB hT ?_;rw [gt.len];walk_at "rn";refine ⟨small (by show 2<=1000;decide),fun p1 hp1=>?_⟩
 have s1:=ay hp1 (.lst (aO [dy ns 5 % n,dy ns 5 / 23 % n]));have w1:(upd H p1 (.lst (aO [dy ns 5 % n,dy ns 5 / 23 % n]))) p1=some (.lst (aO [dy ns 5 % n,dy ns 5 / 23 % n])):=ar;have hSn:∀ y∈[dy ns 5 % n,dy ns 5 / 23 % n],y<n:=fun y hy=>by
  rcases Mq.mp hy with rfl|hy
  ·exact Mw _ (by omega)
  ·rw [LZ.mp hy];exact Mw _ (by omega)
 generalize dy ns 5=c5 at s1 w1 hSn;rw [show [V.int ((c5 % n:Nat):Int),V.int ((c5 / 23 % n:Nat):Int)]=aO [c5 % n,c5 / 23 % n] from rfl];generalize upd H p1 (.lst (aO [c5 % n,c5 / 23 % n]))=H1 at s1 w1 ⊢;walk_at "rn";refine yf (eE w1) fun p2 H2 _ s2 g2=>?_;have s02:=s1.trans s2;walk_at "rn";refine ⟨_,_,n,e,t,_,rfl,Rep.mono s02 hT,gt,g2.at,fun y hy=>hSn y (BH hy),fun d H3 R hd s3 g3 G=>?_⟩;have s03:=s02.trans s3;have fd:=s02.free hd;have pt:=G.part gt fun y hy=>hSn y (BH hy);have rl:=pt.len;have r1:0<R.length:=M9.mpr pt.ne;have w3:H3 d=some (.lst ((R.map fun (x:Nat)=>(x:Int)).map V.int)):=by rw [<- fk];exact jC g3
 walk_at "rn";refine cB g3.at ?_;walk_at "rn";have hat:c / 24 % R.length<R.length:=Mw _ r1;generalize c / 24 % R.length=j at hat;generalize c / 3 % 8=wy;have zl:(R.map fun (x:Nat)=>(x:Int)).length=R.length:=LX ..;have go:aj H H3/\∃ L:List Int,H3 d=some (.lst (L.map V.int))/\L.length<=64/\(0<wy->L=R.map fun (x:Nat)=>(x:Int)):=⟨s03,_,w3,by omega,fun _=>rfl⟩
 obtain ⟨s4,L,w4,ll,hL⟩:=go;walk_at "rn";refine dG (fun σ' H'=>aj H H'/\∃ L:List Int,H' d=some (.lst (L.map V.int))/\L.length<=64/\(1<wy->L=R.map fun (x:Nat)=>(x:Int))/\σ'=[some v,some u,some (.int (c:Int)),some (.ref p1),some (.ref d),some (.int (wy:Int)),some (.int (j:Int))]) (fun N hN=>?_) ?_
 ·walk_at "rn";refine aU (fun c1=>?_) (fun c1=>?_)
  ·have eL:=hL (by omega)
   have l1:L.length=R.length:=by rw [eL];exact zl
   walk_at "rn";refine ⟨.inl ⟨rfl,_,SqL.of w4⟩,?_⟩;refine ⟨d,_,rfl,rfl,w4,?_⟩;exact hN _ _ ⟨eX fd s4,L.reverse,by rw [ar,List.map_reverse],by rw [S7];exact ll,fun z=>absurd z (by omega),rfl⟩
  ·walk_at "rn";exact hN _ _ ⟨s4,L,w4,ll,fun z=>hL (by omega),rfl⟩
 clear s4 w4 ll hL
 rintro σ' H4 ⟨s4,L,w4,ll,hL,rfl⟩;walk_at "rn";refine dG (fun σ' H'=>aj H H'/\∃ L:List Int,H' d=some (.lst (L.map V.int))/\L.length<=64/\(2<wy->L=R.map fun (x:Nat)=>(x:Int))/\σ'=[some v,some u,some (.int (c:Int)),some (.ref p1),some (.ref d),some (.int (wy:Int)),some (.int (j:Int))]) (fun N hN=>?_) ?_
 ·walk_at "rn";refine aU (fun c1=>?_) (fun c1=>?_)
  ·have eL:=hL (by omega)
   have l1:L.length=R.length:=by rw [eL];exact zl
   walk_at "rn";refine ⟨.inl ⟨rfl,_,SqL.of w4⟩,?_⟩;walk_at "rn";refine jR (n:=j) (gJ w4) rfl (LP (by omega)) ?_
   walk_at "rn";refine ⟨d,_,_,_,rfl,rfl,w4,by omega,by rw [LX];omega,by rw [LX];omega,?_⟩
   refine hN _ _ ⟨eX fd s4,L.take j++L[j] :: L.drop j,?_,?_,fun z=>absurd z (by omega),rfl⟩
   ·rw [ar,M8,Mz,Tr,Ts];rfl
   ·rw [Mr,MO,MF,QC];omega
  ·walk_at "rn";exact hN _ _ ⟨s4,L,w4,ll,fun z=>hL (by omega),rfl⟩
 clear s4 w4 ll hL
 rintro σ' H4 ⟨s4,L,w4,ll,hL,rfl⟩;walk_at "rn";refine dG (fun σ' H'=>aj H H'/\∃ L:List Int,H' d=some (.lst (L.map V.int))/\L.length<=64/\(3<wy->L=R.map fun (x:Nat)=>(x:Int))/\σ'=[some v,some u,some (.int (c:Int)),some (.ref p1),some (.ref d),some (.int (wy:Int)),some (.int (j:Int))]) (fun N hN=>?_) ?_
 ·walk_at "rn";refine aU (fun c1=>?_) (fun c1=>?_)
  ·have eL:=hL (by omega)
   have l1:L.length=R.length:=by rw [eL];exact zl
   walk_at "rn";refine ⟨.inl ⟨rfl,_,SqL.of w4⟩,?_⟩;walk_at "rn";refine ⟨d,_,_,j,.int L[j],rfl,rfl,w4,by omega,by omega,JZ (by rw [LX];omega),by rw [Mp,LP (by omega)];rfl,?_⟩
   refine hN _ _ ⟨eX fd s4,L.eraseIdx j,?_,?_,fun z=>absurd z (by omega),rfl⟩
   ·rw [ar]
    congr 2
    exact (vJ _ _ _).symm
   ·have:=oQ L j;omega
  ·walk_at "rn";exact hN _ _ ⟨s4,L,w4,ll,fun z=>hL (by omega),rfl⟩
 clear s4 w4 ll hL
 rintro σ' H4 ⟨s4,L,w4,ll,hL,rfl⟩;walk_at "rn";refine dG (fun σ' H'=>aj H H'/\∃ L:List Int,H' d=some (.lst (L.map V.int))/\L.length<=64/\(4<wy->L=R.map fun (x:Nat)=>(x:Int))/\σ'=[some v,some u,some (.int (c:Int)),some (.ref p1),some (.ref d),some (.int (wy:Int)),some (.int (j:Int))]) (fun N hN=>?_) ?_
 ·walk_at "rn";refine aU (fun c1=>?_) (fun c1=>?_)
  ·have eL:=hL (by omega)
   have l1:L.length=R.length:=by rw [eL];exact zl
   walk_at "rn";refine ⟨_,ns,5,rfl,Rep.mono s4 hA,?_⟩;walk_at "rn";refine cB (Rep.mono s4 hT) ?_;rw [gt.len];walk_at "rn";refine lZ w4 rfl (by rw [LX];omega) ?_
   rw [nt];exact hN _ _ ⟨eX fd s4,_,ar,by rw [NZ];exact ll,fun z=>absurd z (by omega),rfl⟩
  ·walk_at "rn";exact hN _ _ ⟨s4,L,w4,ll,fun z=>hL (by omega),rfl⟩
 clear s4 w4 ll hL
 rintro σ' H4 ⟨s4,L,w4,ll,hL,rfl⟩;walk_at "rn";refine dG (fun σ' H'=>aj H H'/\∃ L:List Int,H' d=some (.lst (L.map V.int))/\L.length<=64/\(5<wy->L=R.map fun (x:Nat)=>(x:Int))/\σ'=[some v,some u,some (.int (c:Int)),some (.ref p1),some (.ref d),some (.int (wy:Int)),some (.int (j:Int))]) (fun N hN=>?_) ?_
 ·walk_at "rn";refine aU (fun c1=>?_) (fun c1=>?_)
  ·have eL:=hL (by omega)
   have l1:L.length=R.length:=by rw [eL];exact zl
   walk_at "rn";refine ⟨_,ns,6,rfl,Rep.mono s4 hA,h63,fun z hz=>?_⟩;walk_at "rn";refine tm (by decide) (by decide) ?_
   walk_at "rn";refine lZ w4 rfl (by rw [LX];omega) ?_
   rw [nt];exact hN _ _ ⟨eX fd s4,_,ar,by rw [NZ];exact ll,fun z=>absurd z (by omega),rfl⟩
  ·walk_at "rn";exact hN _ _ ⟨s4,L,w4,ll,fun z=>hL (by omega),rfl⟩
 clear s4 w4 ll hL
 rintro σ' H4 ⟨s4,L,w4,ll,hL,rfl⟩;walk_at "rn";refine dG (fun σ' H'=>aj H H'/\∃ L:List Int,H' d=some (.lst (L.map V.int))/\L.length<=64/\(6<wy->L=R.map fun (x:Nat)=>(x:Int))/\σ'=[some v,some u,some (.int (c:Int)),some (.ref p1),some (.ref d),some (.int (wy:Int)),some (.int (j:Int))]) (fun N hN=>?_) ?_
 ·walk_at "rn";refine aU (fun c1=>?_) (fun c1=>?_)
  ·have eL:=hL (by omega)
   have l1:L.length=R.length:=by rw [eL];exact zl
   walk_at "rn";refine cB (Rep.mono s4 hT) ?_;rw [gt.len];walk_at "rn";refine ⟨_,ns,6,rfl,Rep.mono s4 hA,h63,fun z hz=>?_⟩;walk_at "rn";refine tm (by decide) (by decide) ?_
   refine Et ?_;walk_at "rn";refine lZ w4 rfl (by rw [LX];omega) ?_
   rw [nt];exact hN _ _ ⟨eX fd s4,_,ar,by rw [NZ];exact ll,fun z=>absurd z (by omega),rfl⟩
  ·walk_at "rn";exact hN _ _ ⟨s4,L,w4,ll,fun z=>hL (by omega),rfl⟩
 clear s4 w4 ll hL
 rintro σ' H4 ⟨s4,L,w4,ll,hL,rfl⟩;walk_at "rn";exact q d H4 L fd s4 w4 ll
def vz {R:List Nat} (s:R.Pairwise (· < ·)) {i a:Nat} (h:R[i]?=some a):∀ i',i' < i->R[i']?≠some a:=fun i' hi' z=>by
 obtain ⟨h1,e1⟩:=LR.mp h;obtain ⟨h2,e2⟩:=LR.mp z;have:=Mx.mp s i' i h2 h1 hi';omega
def rE:Option (Nat×Nat)->List SI
 | none=>[]
 | some (a,b)=>[.inl "way",.inr (a:Int),.inr (b:Int)]
def zM (K:LO):Sp:=fun vs H Q _=>∃ (v:V) (dp dm:Addr) (n e j:Nat) (t:List (List Nat)) (R M':List Nat),vs=[v,.ref dp,.ref dm,.int (j:Int)]/\At K H v t/\GT n t e/\H dp=some (.lst (aO R))/\IsPart n t R/\At K H (.ref dm) M'/\M'.length=R.length/\0<j /\
 ∀ d H' o,aj H H'->H' d=some (.lst ((rE o).map siV))->fJ t R M' j o->Q (.ref d) H'
def yM (T:Txt K mg):aH P w K mg base CX0 1 T.jq.f T.jq.fd ["_law_table","_law_part","_law_marks_here","_law_spokes_here"] (zM K):=by
 refine T.jq.ok iM (fun vs H Q E h=>?_) (fun cdv A outer s H vs Q E hr h=>?_)
 ·obtain ⟨v,dp,dm,n,e,j,t,R,M',rfl,_⟩:=h;rfl
 obtain ⟨v,dp,dm,n,e,j,t,R,M',rfl,hT,gt,hR,pt,aM,ml',j0,q⟩:=h;have rl:=pt.len;have n23:=gt.le;have aR:At K H (.ref dp) R:=eE hR;refine ⟨_,(ae (a8 L7 rfl (aY K rfl (pv 1)) (aJ (i:=4) iM.nd rfl (L8 rfl)) (af (a8 L7 rfl (aY K rfl (pv 1)) (aJ (i:=5) iM.nd rfl (L8 rfl)) (ae (av (i:=6) iM.nd rfl (L8 rfl) (au bj (aw (ah K rfl) (pv 2) (cO K rfl Mj O2 Qe rW (pv 1) (paF (pv 4) aa)) (fun _ _=>rfl)) (aw (ah K rfl) (pv 2) (cO K rfl Mj O2 Qe rW (pv 1) (paF (pv 5) aa)) (fun _ _=>rfl))))
   (af (aS (ax dQ (aw (ah K rfl) (pv 2) (cO K rfl Mj O2 Qe rW (pv 1) (paF (aw (ah K rfl) (aw (ah K rfl) (pv 0) (pv 4) (fun _ _=>rfl)) (pv 5) (fun _ _=>rfl)) aa)) (fun _ _=>rfl)) (au aV (pv 6) (pv 3)) (aB _)) (af (aN (aW (paF bG (paF (pv 4) (paF (pv 5) aa)))))) aE))))))
   (af (aN (aW aa)))),?_⟩
 walk_at "rn";refine dE aR (fun i σ' H'=>H'=H/\(∀ j',j' < i->∀ k',k' < R.length->i5 t R M' j j' k')/\∃ x6 x7 x8,σ'=[some v,some (.ref dp),some (.ref dm),some (.int (j:Int)),x6,x7,x8]) ⟨rfl,fun j hj=>absurd hj (by omega),_,_,_,rfl⟩ (fun i σ' H' y=>by rw [y.1];exact aj.refl _) ?_ ?_
 ·rintro i a w' σ' H' hia hw ⟨rfl,hj,x6,x7,x8,rfl⟩;cases (show w'=V.int (a:Int) from hw);have il:i<R.length:=(LR.mp hia).1;have haR:=LS hia;have han:=pt.lt a haR;have mi:=getD_some (l:=M') 0 (show i<M'.length by omega)
  have ea:R.getD i 0=a:=by rw [LU,hia];rfl
  walk_at "rn";refine dE aR (fun k' σ' H1=>H1=H'/\(∀ k2,k2<k'->i5 t R M' j i k2)/\∃ x7 x8,σ'=[some v,some (.ref dp),some (.ref dm),some (.int (j:Int)),some (.int (a:Int)),x7,x8]) ⟨rfl,fun j hj=>absurd hj (by omega),_,_,rfl⟩ (fun i σ' H1 y=>by rw [y.1];exact aj.refl _) ?_ ?_
  ·rintro k' b w2 σ' H1' hb hw2 ⟨rfl,hk',x7,x8,rfl⟩;cases (show w2=V.int (b:Int) from hw2);have kl:k' < R.length:=(LR.mp hb).1;have hbR:=LS hb;have hbn:=pt.lt b hbR;have mk':=getD_some (l:=M') 0 (show k' < M'.length by omega)
   have eb:R.getD k' 0=b:=by rw [LU,hb];rfl
   have hab:=pt.cl a haR b hbR;have hx:=M1 hab;have mx:=getD_some (l:=M') 0 (show R.idxOf (tb t a b)<M'.length by omega)
   have oke:i5 t R M' j i k'↔M'.getD (R.idxOf (tb t a b)) 0=(M'.getD i 0+M'.getD k' 0) % j:=by
    unfold i5;rw [ea,eb]
   walk_at "rn";refine ⟨.inl ⟨rfl,_,SqL.of hR⟩,?_⟩;walk_at "rn";refine ur hR hia (vz pt.srt hia) ?_;refine bM aM mi ?_;walk_at "rn";refine ⟨.inl ⟨rfl,_,SqL.of hR⟩,?_⟩;walk_at "rn";refine ur hR hb (vz pt.srt hb) ?_;refine bM aM mk' ?_;walk_at "2";refine ⟨.inl ⟨rfl,_,SqL.of hR⟩,?_⟩;walk_at "rn";refine cR hT rfl (gt.get han) fun w1 hw1=>?_;walk_at "rn";refine bM hw1 (gt.d4 han hbn) ?_;walk_at "rn";refine ur hR (kq hab) (fun i' hi'=>vZ hi') ?_;refine bM aM mx ?_;walk_at "rn";refine bH (fun y=>?_) (fun y=>?_)
   ·walk_at "1";refine ⟨small (by show 3<=1000;decide),fun pd hpd=>?_⟩
    exact q pd _ (some (a,b)) (ay hpd _) ar ⟨i,k',il,kl,ea,eb,fun y'=>y (oke.mp y'),hj,hk'⟩
   ·walk_at "rn";refine ⟨rfl,fun k2 hk2=>?_,_,_,rfl⟩;rcases Mv k2 k' with y' | y'
    ·exact hk' k2 y'
    ·have:k2=k':=by omega
     rw [this];exact oke.mpr y
  ·rintro σ' H1' ⟨rfl,hk',x7,x8,rfl⟩;walk_at "rn";refine ⟨rfl,fun j' hj2 k2 hk2=>?_,_,_,_,rfl⟩;rcases Mv j' i with y|y
   ·exact hj j' y k2 hk2
   ·have:j'=i:=by omega
    rw [this];exact hk' k2 hk2
 ·rintro σ' H' ⟨rfl,hj,x6,x7,x8,rfl⟩;walk_at "1";refine ⟨small (by show 0<=1000;decide),fun pd hpd=>?_⟩
  exact q pd _ none (ay hpd _) ar (fun j' hj2 k2 hk2=>hj j' hj2 k2 hk2)
def uA (K:LO):Sp:=fun vs H Q _=>∃ (v u:V) (n e:Nat) (t:List (List Nat)) (L:List Int),vs=[v,u]/\At K H v t/\GT n t e/\At K H u L/\L.length<=64/\(gK n t L->Q (.bl true) H)/\(¬ gK n t L->Q (.bl false) H)
def pW {n:Nat} {t:List (List Nat)} {L:List Int} (h:gK n t L):(∀ i,i<L.length->0<=L.getD i 0/\L.getD i 0<(n:Int))/\∀ i j,i<j->j<L.length->L.getD i 0<L.getD j 0:=by
 obtain ⟨R,rfl,pt⟩:=h;have g:∀ i,i<R.length->(R.map fun (x:Nat)=>(x:Int)).getD i 0=((R.getD i 0:Nat):Int):=fun i hi=>by
  rw [LU,Mp,LP hi,LU,LP hi];rfl
 refine ⟨fun i hi=>?_,fun i j hij hj=>?_⟩
 ·rw [LX] at hi;rw [g i hi];have:=pt.lt _ (LS (getD_some (l:=R) 0 hi));omega
 ·rw [LX] at hj;rw [g i (by omega),g j hj]
  have:=Mx.mp pt.srt i j (by omega) hj hij
  rw [LU,LP (by omega),LU,LP hj]
  simp only [OG];omega
def vh (T:Txt K mg):aH P w K mg base CX0 1 T.gM.f T.gM.fd ["_law_table","_law_part"] (uA K):=by
 refine T.gM.ok gn (fun vs H Q E h=>?_) (fun cdv A outer s H vs Q E hr h=>?_)
 ·obtain ⟨v,u,n,e,t,L,rfl,_⟩:=h;rfl
 obtain ⟨v,u,n,e,t,L,rfl,hT,gt,hL,ll,q1,q2⟩:=h;have n23:=gt.le;refine ⟨_,(ae (aS (ax bK (az (aT K rfl) rfl T.bB Mf (paF (pv 1) aa)) ag (aB _)) (af (aN gQ)) aE)
   (ae (a8 L7 rfl (a9 rfl T.bD (paF (az (aT K rfl) rfl T.bB Mf (paF (pv 1) aa)) aa)) (aJ (i:=2) gn.nd rfl (L8 rfl)) (af (aS (PW.pt (gR (ax eF (aw (ah K rfl) (pv 1) (pv 2) (fun _ _=>rfl)) ag (aB _)) (gR (ax lj (aw (ah K rfl) (pv 1) (pv 2) (fun _ _=>rfl)) (az (aT K rfl) rfl T.bB Mf (paF (pv 0) aa)) (aB _)) (gG (PW.pt (dB (ax K9 (aw (ah K rfl) (pv 1) (pv 2) (fun _ _=>rfl)) (aw (ah K rfl) (pv 1) (az (EY rfl) rfl T.Lc PyProof.Rows.boot_max (paF (au f9 (pv 2) ag) (paF ag aa))) (fun _ _=>rfl)) (aB _)) (ee (ax fP (pv 2) ag (aB _))))))))) (af (aN gQ)) aE)))
   (ae (a8 L7 rfl (aY K rfl (pv 1)) (aJ (i:=3) gn.nd rfl (L8 rfl)) (af (a8 L7 rfl (aY K rfl (pv 1)) (aJ (i:=4) gn.nd rfl (L8 rfl)) (af (aS (ax (f6 K rfl) (aw (ah K rfl) (aw (ah K rfl) (pv 0) (pv 3) (fun _ _=>rfl)) (pv 4) (fun _ _=>rfl)) (pv 1) (by with_unfolding_all rfl)) (af (aN gQ)) aE)))))
   (af (aN gQ))))),?_⟩
 walk_at "2";refine cB hL ?_;walk_at "rn";refine aU (fun z=>?_) (fun l0=>?_)
 ·walk_at "rn";refine q2 fun ⟨R,e,pt⟩=>?_;have:=M9.mpr pt.ne;rw [e,LX] at z;omega
 walk_at "rn";refine cB hL ?_;refine bV (n:=L.length) rfl (by omega) (fun i σ' H'=>H'=H/\(∀ j,j<i->0<=L.getD j 0/\L.getD j 0<(n:Int))/\(∀ j,j+1<i->L.getD j 0<L.getD (j+1) 0)/\∃ x2 x3 x4,σ'=[some v,some u,x2,x3,x4]) ⟨rfl,fun j hj=>absurd hj (by omega),fun j hj=>absurd hj (by omega),_,_,_,rfl⟩ ?_ ?_
 ·rintro i σ' H' hi ⟨rfl,h1,h2,x2,x3,x4,rfl⟩;have gi:=getD_some (l:=L) 0 hi;have next:0<=L.getD i 0->L.getD i 0<(n:Int)->(0<i->L.getD (i - 1) 0<L.getD i 0)->(∀ j,j<i+1->0<=L.getD j 0/\L.getD j 0<(n:Int))/\(∀ j,j+1<i+1->L.getD j 0<L.getD (j+1) 0):=fun a b c=>⟨fun j hj=>by
   rcases Mv j i with y|y
   ·exact h1 j y
   ·have:j=i:=by omega
    subst this;exact ⟨a,b⟩,fun j hj=>by
   rcases Mv (j+1) i with y|y
   ·exact h2 j y
   ·have:j+1=i:=by omega
    subst this;exact c (by omega)⟩
  walk_at "2";refine jR (n:=i) hL rfl gi ?_;walk_at "rn";refine aU (fun z=>?_) (fun z1=>?_)
  ·walk_at "rn";exact q2 fun pz=>by have:=((pW pz).1 i hi).1;omega
  walk_at "rn";refine jR (n:=i) hL rfl gi ?_;walk_at "rn";refine cB hT ?_;rw [gt.len];walk_at "rn";refine aU (fun z=>?_) (fun z2=>?_)
  ·walk_at "rn";exact q2 fun pz=>by have:=((pW pz).1 i hi).2;omega
  walk_at "rn";refine jR (n:=i) hL rfl gi ?_;walk_at "rn";refine K7 ?_;have em:max ((i:Int) - ((1:Nat):Int)) ((0:Nat):Int)=((i - 1:Nat):Int):=by omega
  rw [em];refine jR (n:=i - 1) hL rfl (getD_some (l:=L) 0 (by omega)) ?_
  walk_at "rn";refine aU (fun z3=>?_) (fun z3=>?_)
  ·walk_at "rn";refine aU (fun z4=>?_) (fun z4=>?_)
   ·walk_at "rn";exact q2 fun pz=>by have:=(pW pz).2 (i - 1) i (by omega) hi;omega
   ·walk_at "rn";obtain ⟨a,b⟩:=next (by omega) (by omega) (fun y=>by omega)
    exact ⟨rfl,a,b,_,_,_,rfl⟩
  ·walk_at "rn";obtain ⟨a,b⟩:=next (by omega) (by omega) (fun y=>by omega)
   exact ⟨rfl,a,b,_,_,_,rfl⟩
 rintro σ' H' ⟨rfl,h1,h2,x2,x3,x4,rfl⟩;obtain ⟨R,rfl⟩:=qo (L:=L) fun x hx=>by
  obtain ⟨i,hi⟩:=Ms hx;have il:=(LR.mp hi).1;have:=(h1 i il).1;rw [LU,hi] at this;exact this
 have hR:=dY hL;have srt:R.Pairwise (· < ·):=by
  have:=oC.mpr h2;rw [NX] at this;exact this.imp fun z=>by omega
 have lt:∀ x∈R,x<n:=fun x hx=>by
  obtain ⟨i,hi⟩:=Ms hx;have il:=(LR.mp hi).1;have:=(h1 i (by rw [LX];exact il)).2
  rw [LU,Mp,hi] at this;have e1:((some x).map fun (x:Nat)=>(x:Int)).getD 0=(x:Int):=rfl;rw [e1] at this;omega
 rw [LX] at l0;have ne:R≠[]:=fun z=>l0 (by rw [z];rfl)
 have bad:∀ a∈R,∀ b∈R,tb t a b∉R->¬ gK n t (R.map fun (x:Nat)=>(x:Int)):=fun a ha b hb z ⟨R',e',pt⟩=>by
  have:=y8 e';subst this;exact z (pt.cl a ha b hb)
 walk_at "rn";refine dE hR (fun i σ' H1=>H1=H'/\(∀ a∈R.take i,∀ b∈R,tb t a b∈R)/\∃ x2 x3 x4,σ'=[some v,some u,x2,x3,x4]) ⟨rfl,fun a ha=>absurd ha (by simp),_,_,_,rfl⟩ (fun i σ' H1 y=>by rw [y.1];exact aj.refl _) ?_ ?_
 ·rintro i a w' σ' H1 ha hw ⟨rfl,hi,x2,x3,x4,rfl⟩;cases (show w'=V.int (a:Int) from hw);have haR:=LS ha;have han:=lt a haR;walk_at "rn";refine dE hR (fun j σ' H2=>H2=H1/\(∀ b∈R.take j,tb t a b∈R)/\∃ x2 x4,σ'=[some v,some u,x2,some (.int (a:Int)),x4]) ⟨rfl,fun a ha=>absurd ha (by simp),_,_,rfl⟩ (fun i σ' H1 y=>by rw [y.1];exact aj.refl _) ?_ ?_
  ·rintro j b w2 σ' H2 hb hw2 ⟨rfl,hj,x2,x4,rfl⟩;cases (show w2=V.int (b:Int) from hw2);have hbR:=LS hb;have hbn:=lt b hbR;walk_at "2";refine cR hT rfl (gt.get han) fun w1 hw1=>?_;walk_at "rn";refine bM hw1 (gt.d4 han hbn) ?_;walk_at "rn";refine qv hR ?_;walk_at "rn";refine bH (fun z=>?_) (fun z=>?_)
   ·walk_at "rn";exact q2 (bad a haR b hbR z)
   ·walk_at "rn";refine ⟨rfl,fun b' hb'=>?_,_,_,rfl⟩;rw [MB,hb] at hb';rcases Mc.mp hb' with y|y
    ·exact hj b' y
    ·rw [show b'=b by simpa using y];exact z
  ·rintro σ' H2 ⟨rfl,hj,x2,x4,rfl⟩;rw [MJ] at hj;walk_at "rn";refine ⟨rfl,fun a' ha' b' hb'=>?_,_,_,_,rfl⟩;rw [MB,ha] at ha';rcases Mc.mp ha' with y|y
   ·exact hi a' y b' hb'
   ·rw [show a'=a by simpa using y];exact hj b' hb'
 ·rintro σ' H1 ⟨rfl,hi,x2,x3,x4,rfl⟩;rw [MJ] at hi;walk_at "rn";exact q1 ⟨R,rfl,srt,lt,ne,hi⟩
def ir (T:Txt K mg):aH P w K mg base (CXR P w) 4 T.bU.f T.bU.fd ["group","part","marks","spokes"] (fun vs H Q E=>mw T.aI K vs H Q E\/fQ T.bt T.a0 T.bc T.aI K vs H Q E):=aH.both (l5 T) (tQ T)
def n9 (CE C:Addr) (K:LO):Sp:=fun vs H _ E=>∃ (g:Addr) (v u:V) (n e m l a b:Nat) (t:List (List Nat)) (R M:List Nat),vs=[.ref g,v,u,.int (m:Int)]/\aX C H g n t e/\GT n t e/\At K H v R/\IsPart n t R/\At K H u M/\M.length=R.length/\(∀ x∈M,x<m) /\
 c8 (cy n t e) l/\m % l=0/\0<m/\m<=60/\fJ t R M m (some (a,b))/\∀ d H',aj H H'->Fld H' d [("one",.int (a:Int)),("two",.int (b:Int))]->E (.ref CE) d H'
def wM (T:Txt K mg):aH P w K mg base (CXR P w) 5 T.cU.f T.cU.fd ["group","part","marks","spokes"] (fun vs H Q E=>fQ T.bt T.a0 T.bc T.aI K vs H Q E\/n9 T.bE T.aI K vs H Q E):=by
 refine aH.orR ?_ ?_
 ·refine T.cU.fn.okX eV (fun vs H Q E h=>?_) (fun cdv A outer s H vs Q E hr h=>?_)
  ·obtain ⟨g,v,u,m,n,e,t,L,M,CE,rfl,_⟩:=h;rfl
  obtain ⟨g,v,u,m,n,e,t,L,M,CE,rfl,h⟩:=h;refine ⟨_,fun okc=>(ae (av (i:=4) eV.nd rfl (L8 rfl) (oG T.bU (ir T) (hr.mono (by decide)) rfl fO (paF (pv 0) (paF (pv 1) (paF (pv 2) (paF (pv 3) aa))))))
   jI),?_⟩
  walk_at "rn";exact .inr ⟨g,v,u,m,n,e,t,L,M,CE,rfl,h⟩
 ·refine T.cU.fn.okX eV (fun vs H Q E h=>?_) (fun cdv A outer s H vs Q E hr h=>?_)
  ·obtain ⟨g,v,u,n,e,m,l,a,b,t,R,M,rfl,_⟩:=h;rfl
  obtain ⟨g,v,u,n,e,m,l,a,b,t,R,M,rfl,hG,gt,hR,pt,hM,ml,mm,hl,ml0,m1,m60,br,q⟩:=h;refine ⟨_,fun okc=>(ae (av (i:=4) eV.nd rfl (L8 rfl) (oG T.bU (ir T) (hr.mono (by decide)) rfl fO (paF (pv 0) (paF (pv 1) (paF (pv 2) (paF (pv 3) aa))))))
   (af (aS (jx (qf (pv 4))) (af (oV T.mf (Gh T) T.Jg (hr.mono (by decide)) lh rfl rfl rfl T.uH (paF (aw (km K rfl) (pv 4) ag (fun _ _=>rfl)) (paF (aw (km K rfl) (pv 4) ag (fun _ _=>rfl)) aa)))) aE))),?_⟩
  walk_at "rn";refine .inl ⟨g,v,u,_,n,e,m,l,t,R,M,rfl,hG,gt,hR,pt,hM,ml,mm,.inl rfl,hl,ml0,m1,m60,fun x H1 o s1 hx hb=>?_⟩;obtain rfl:=hb.uni br;obtain ⟨p,rfl,hp⟩:=hx;walk_at "2";rw [if_pos (by simp)]
  walk_at "rn";refine rP ?_;walk_at "rn";refine qd (i:=0) hp rfl ?_;walk_at "rn";refine qd (i:=1) hp rfl ?_;walk_at "rn";exact rO rfl (by show 2<=1000;decide) fun d H2 s2 f2=>q d H2 (s1.trans s2) f2
def wu (T:Txt K mg):Sp:=fun vs H Q E=>∃ (g:Addr) (v u:V) (x m:Int),vs=[.ref g,v,u,.int x,.int m]/\(fQ T.bt T.a0 T.bc T.aI K [.ref g,v,u,.int m] H Q E\/n9 T.bE T.aI K [.ref g,v,u,.int m] H Q E)
def DZ (T:Txt K mg):aH P w K mg base (CXR P w) 6 T.eA.f T.eA.fd ["group","part","marks","thing","spokes"] (wu T):=by
 refine T.eA.fn.okX rg (fun vs H Q E h=>?_) (fun cdv A outer s H vs Q E hr h=>?_)
 ·obtain ⟨g,v,u,x,m,rfl,_⟩:=h;rfl
 obtain ⟨g,v,u,x,m,rfl,h⟩:=h;refine ⟨_,fun okc=>(ae (a7 (iK T.cU (wM T) (hr.mono (by decide)) rfl fO (paF (pv 0) (paF (pv 1) (paF (pv 2) (paF (pv 4) aa))))))
   jI),?_⟩
 walk_at "rn";exact h
def Er (T:Txt K mg):aH P w K mg base (CXR P w) 6 T.eA.f T.eA.fd ["group","part","marks","thing","spokes"] (fun vs H Q E=>(yJ T.aI K vs H Q E\/vy T.bg T.bJ T.aI K vs H Q E)\/wu T vs H Q E):=aH.orR (aH.both (Gx T) (Eu T)) (DZ T)
def yD (CP CB C:Addr) (K:LO):Sp:=fun vs H _ E=>∃ (g:Addr) (v:V) (m:Int) (n e:Nat) (t:List (List Nat)) (L:List Int) (CE:Addr),vs=[.ref g,v,.int m]/\aX C H g n t e/\GT n t e/\At K H v L/\L.length<=64/\((¬ gK n t L/\CE=CP)\/(gK n t L/\¬ dD n t e m/\CE=CB))/\∀ H',aj H H'->E (.ref CE) none H'
def Hs (T:Txt K mg):aH P w K mg base (CXR P w) 6 T.iW.f T.iW.fd ["group","part","spokes"] (yD T.bt T.a0 T.aI K):=by
 refine T.iW.fn.okX fK (fun vs H Q E h=>?_) (fun cdv A outer s H vs Q E hr h=>?_)
 ·obtain ⟨g,v,m,n,e,t,L,CE,rfl,_⟩:=h;rfl
 obtain ⟨g,v,m,n,e,t,L,CE,rfl,hG,gt,hL,hlen,due,q⟩:=h;refine ⟨_,fun okc=>(ae (a7 (iK T.bW (mh T) (hr.mono (by decide)) rfl fO (paF (pv 0) (paF (pv 1) aa))))
   (ae (av (i:=3) fK.nd rfl (Qf rfl) (iK T.cP (qX T) (hr.mono (by decide)) rfl fO (paF (pv 0) (paF (pv 2) aa))))
   jI)),?_⟩
 walk_at "rn";rcases due with ⟨np,rfl⟩|⟨⟨R,rfl,pt⟩,ns,rfl⟩
 ·exact .inr ⟨g,v,n,e,t,L,rfl,hG,gt,hL,hlen,np,q⟩
 refine .inl ⟨g,v,n,e,t,R,rfl,hG,gt,dY hL,pt,fun H1 s1=>?_⟩;walk_at "rn";exact .inr ⟨g,m,n,e,t,rfl,hG.mono s1,gt,ns,fun H2 s2=>q H2 (s1.trans s2)⟩
def FC (T:Txt K mg):aH P w K mg base (CXR P w) 6 T.iW.f T.iW.fd ["group","part","spokes"] (fun vs H Q E=>Bn T.aI K vs H Q E\/yD T.bt T.a0 T.aI K vs H Q E):=aH.both (Iw T) (Hs T)
def xy (n:Nat) (t:List (List Nat)) (e:Nat) (L M:List Int) (m:Int) (l:List SI):Prop :=
 (¬ gK n t L/\l=[.inl "part"])\/∃ R:List Nat,L=R.map (fun (x:Nat)=>(x:Int))/\IsPart n t R /\
  ((¬ dD n t e m/\l=[.inl "wheel"])\/(dD n t e m/\sA R M m/\l=[.inl "marks"]) \/
  (dD n t e m/\∃ (M':List Nat) (j:Nat) (o:Option (Nat×Nat)),M=M'.map (fun (x:Nat)=>(x:Int))/\m=(j:Int)/\M'.length=R.length/\(∀ x∈M',x<j)/\fJ t R M' j o/\l=rE o))
def B4 (K:LO):Sp:=fun vs H Q _=>∃ (v:V) (dp dm:Addr) (n e:Nat) (t:List (List Nat)) (L M:List Int) (m:Int),vs=[v,.ref dp,.ref dm,.int m]/\At K H v t/\GT n t e/\H dp=some (.lst (L.map V.int))/\L.length<=64/\H dm=some (.lst (M.map V.int))/\M.length<=65 /\
 ∀ d H' (l:List SI),aj H H'->H' d=some (.lst (l.map siV))->xy n t e L M m l->Q (.ref d) H'
def Cg (T:Txt K mg):aH P w K mg base CX0 3 T.lH.f T.lH.fd ["_law_table","_law_part","_law_marks_here","_law_spokes_here"] (B4 K):=by
 refine T.lH.ok nJ (fun vs H Q E h=>?_) (fun cdv A outer s H vs Q E hr h=>?_)
 ·obtain ⟨v,dp,dm,n,e,t,L,M,m,rfl,_⟩:=h;rfl
 obtain ⟨v,dp,dm,n,e,t,L,M,m,rfl,hT,gt,h1,ll,h2,ml,q⟩:=h;have n23:=gt.le;have aL:At K H (.ref dp) L:=gJ h1;have aM:At K H (.ref dm) M:=gJ h2;have word:∀ (s:Str) (H1:Hp) (pd:Addr),aj H H1->H1 pd=none->xy n t e L M m [.inl s]->Q (.ref pd) (upd H1 pd (.lst [.str s])):=fun s H1 pd s1 hpd hd=>q pd _ _ (s1.trans (ay hpd _)) ar hd;refine ⟨_,(ae (av (i:=4) nJ.nd rfl (L8 rfl) (aG T.gF (oU T) (hr.mono (by decide)) rfl (paF (pv 0) aa)))
   (ae (aS (uf (fX (aG T.gM (vh T) (hr.mono (by decide)) rfl (paF (pv 0) (paF (pv 1) aa))))) (af (aN (aW (paF bG aa)))) aE)
   (ae (aS (PW.pt (gR (ax eF (pv 3) (pv 4) (aB _)) (gR (ax dQ (au aV (pv 3) (pv 4)) ag (aB _)) (gG (ax fP (pv 3) ag (aB _)))))) (af (aN (aW (paF bG aa)))) aE)
   (ae (aS (ax dQ (az (aT K rfl) rfl T.bB Mf (paF (pv 2) aa)) (az (aT K rfl) rfl T.bB Mf (paF (pv 1) aa)) (aB _)) (af (aN (aW (paF bG aa)))) aE)
   (ae (a8 L7 rfl (aY K rfl (pv 2)) (aJ (i:=5) nJ.nd rfl (L8 rfl)) (af (aS (PW.pt (gR (ax eF (pv 5) ag (aB _)) (gG (ax lj (pv 5) (pv 3) (aB _))))) (af (aN (aW (paF bG aa)))) aE)))
   (af (aN (aG T.jq (yM T) (hr.mono (by decide)) rfl (paF (pv 0) (paF (pv 1) (paF (pv 2) (paF (pv 3) aa)))))))))))),?_⟩
 walk_at "rn";refine ⟨_,n,e,t,rfl,hT,gt,fun k H0 s0 hk kn=>?_⟩;have k1:=hk.pos;walk_at "2";refine ⟨v,_,n,e,t,L,rfl,Rep.mono s0 hT,gt,Rep.mono s0 aL,ll,fun hpz=>?_,fun np=>?_⟩
 rotate_left
 ·walk_at "rn";refine oP ?_;walk_at "1";exact ⟨small (by show 1<=1000;decide),fun pd hpd=>word _ H0 pd s0 hpd (.inl ⟨np,rfl⟩)⟩
 obtain ⟨R,rfl,pt⟩:=hpz;have bw:¬ dD n t e m->xy n t e (R.map fun (x:Nat)=>(x:Int)) M m [.inl "wheel"]:=fun ns=>.inr ⟨R,rfl,pt,.inl ⟨ns,rfl⟩⟩;have nD:∀ pd,H0 pd=none->¬ dD n t e m->Q (.ref pd) (upd H0 pd (.lst [.str "wheel"])):=fun pd hpd ns=>word _ H0 pd s0 hpd (bw ns);walk_at "rn";refine fq ?_;walk_at "2";refine aU (fun z=>?_) (fun z1=>?_)
 ·walk_at "1";refine ⟨small (by show 1<=1000;decide),fun pd hpd=>nD pd hpd fun sv=>?_⟩
  have:=sv.2.2 k hk;have:=sv.1;rw [Int.emod_eq_of_lt (by omega) (by omega)] at *
  omega
 walk_at "rn";refine EJ (by omega) ?_
 walk_at "rn";refine bH (fun z=>?_) (fun z2=>?_)
 ·walk_at "1";exact ⟨small (by show 1<=1000;decide),fun pd hpd=>nD pd hpd fun sv=>z (sv.2.2 k hk)⟩
 walk_at "rn";refine aU (fun z=>?_) (fun z3=>?_)
 ·walk_at "1";exact ⟨small (by show 1<=1000;decide),fun pd hpd=>nD pd hpd fun sv=>by have:=sv.2.1;omega⟩
 have sv:dD n t e m:=⟨by omega,by omega,fun k2 hk2=>by rw [hk2.uni hk];exact z2⟩
 have rl:=pt.len;have aM0:=Rep.mono s0 aM;have aR0:At K H0 (.ref dp) R:=dY (Rep.mono s0 aL);have marks:∀ pd,H0 pd=none->sA R M m->Q (.ref pd) (upd H0 pd (.lst [.str "marks"])):=fun pd hpd bm=>word _ H0 pd s0 hpd (.inr ⟨R,rfl,pt,.inr (.inl ⟨sv,bm,rfl⟩)⟩);walk_at "2";refine cB aM0 ?_;walk_at "rn";refine cB aR0 ?_;walk_at "rn";refine bH (fun c=>?_) (fun c=>?_)
 ·walk_at "1";exact ⟨small (by show 1<=1000;decide),fun pd hpd=>marks pd hpd (.inl c)⟩
 walk_at "rn";refine dE aM0 (fun i σ' H'=>H'=H0/\(∀ x∈M.take i,0<=x/\x<m)/\∃ x5,σ'=[some v,some (.ref dp),some (.ref dm),some (.int m),some (.int (k:Int)),x5]) ⟨rfl,fun x hx=>absurd hx (by simp),_,rfl⟩ (fun i σ' H' y=>by rw [y.1];exact aj.refl _) ?_ ?_
 ·rintro i x w' σ' H' hx hw ⟨rfl,hi,x5,rfl⟩;cases (show w'=V.int x from hw);have hxM:=LS hx;walk_at "2";refine aU (fun z=>?_) (fun z4=>?_)
  ·walk_at "1";exact ⟨small (by show 1<=1000;decide),fun pd hpd=>marks pd hpd (.inr ⟨x,hxM,by omega⟩)⟩
  walk_at "rn";refine aU (fun z=>?_) (fun z5=>?_)
  ·walk_at "1";exact ⟨small (by show 1<=1000;decide),fun pd hpd=>marks pd hpd (.inr ⟨x,hxM,by omega⟩)⟩
  walk_at "rn";refine ⟨rfl,fun y hy=>?_,_,rfl⟩;rw [MB,hx] at hy;rcases Mc.mp hy with a|a
  ·exact hi y a
  ·rw [show y=x by simpa using a];omega
 rintro σ' H' ⟨rfl,ha,x5,rfl⟩;rw [MJ] at ha;obtain ⟨m1,m60,mk⟩:=id sv;obtain ⟨j,rfl⟩:∃ j:Nat,m=(j:Int):=⟨m.toNat,by omega⟩
 obtain ⟨M',rfl⟩:=qo fun x hx=>(ha x hx).1;have mm:∀ x∈M',x<j:=fun x hx=>by
  have:=(ha x (Mm.mpr ⟨x,hx,rfl⟩)).2;omega
 have ml':M'.length=R.length:=by rw [LX] at c;exact c
 walk_at "rn";refine ⟨v,dp,dm,n,e,j,t,R,M',rfl,Rep.mono s0 hT,gt,by rw [s0 _ _ h1,zsV],pt,dY aM0,ml',by omega,fun d H2 o s2 hd2 ho=>?_⟩
 walk_at "rn";exact q d H2 _ (s0.trans s2) hd2 (.inr ⟨R,rfl,pt,.inr (.inr ⟨sv,M',j,o,rfl,rfl,ml',mm,ho,rfl⟩)⟩)
def mV (n:Nat) (t:List (List Nat)) (e:Nat) (L M:List Int) (m:Int) (k:Nat) (l:List SI):Prop :=
 (¬ gK n t L/\l=[.inl "part"])\/∃ R:List Nat,L=R.map (fun (x:Nat)=>(x:Int))/\IsPart n t R /\
  ((¬ dD n t e m/\l=[.inl "wheel"])\/(dD n t e m/\k=1/\l=[])\/(dD n t e m/\k≠1/\sA R M m/\l=[.inl "marks"]) \/
  (dD n t e m/\k≠1/\∃ (M':List Nat) (j:Nat) (o:Option (Nat×Nat)),M=M'.map (fun (x:Nat)=>(x:Int))/\m=(j:Int)/\M'.length=R.length/\(∀ x∈M',x<j)/\fJ t R M' j o/\((k=0/\l=[])\/(k=2/\l=rE o))))
structure JX (T:Txt K mg) (H:Hp) (Q:VK) (E:XK) (l:List SI):Prop where
 FX:l=[]->∀ H',aj H H'->Q .non H'
 other:l=[]->∀ (C:Addr) (d:Option Addr) (H':Hp),(C=T.bg\/C=T.bJ)->aj H H'->E (.ref C) d H'
 part:l=[.inl "part"]->∀ H',aj H H'->E (.ref T.bt) none H'
 nD:l=[.inl "wheel"]->∀ H',aj H H'->E (.ref T.a0) none H'
 marks:l=[.inl "marks"]->∀ H',aj H H'->E (.ref T.bc) none H'
 way:∀ a b:Nat,l=[.inl "way",.inr (a:Int),.inr (b:Int)]->∀ (d:Option Addr) (H':Hp),aj H H'->Fld H' d [("one",.int (a:Int)),("two",.int (b:Int))]->E (.ref T.bE) d H'
def zi {p:Nat->Prop}:∀ k,p k->∃ m,p m/\∀ j,j<m->¬ p j:=fun k=>by
 induction k using Nat.strongRecOn with
 | ind k ih =>
  intro hk
  by_cases h:∃ j,j<k/\p j
  ·obtain ⟨j,hj,pj⟩:=h;exact ih j hj pj
  ·exact ⟨k,hk,fun j hj pj=>h ⟨j,hj,pj⟩⟩
def KZ {n e x:Nat} {t:List (List Nat)} {R:List Nat}:(∀ h∈R,de n t e h x∈R)\/∃ h,mU n t e R x (some h):=by
 by_cases c:∀ h∈R,de n t e h x∈R
 ·exact .inl c
 ·obtain ⟨h,hh⟩:=PB.mp c;obtain ⟨hR,hn⟩:=Qq.mp hh;obtain ⟨a,⟨a1,a2⟩,a3⟩:=zi (p:=fun h=>h∈R/\de n t e h x∉R) h ⟨hR,hn⟩;exact .inr ⟨a,a1,a2,fun h' hh' hlt=>OQ fun z=>a3 h' hlt ⟨hh',z⟩⟩
def K5 {n e x:Nat} {t:List (List Nat)} {R M:List Nat}:(∀ h∈R,mkO R M h=mkO R M (de n t e h x))\/∃ h,Gq n t e R M x h:=by
 by_cases c:∀ h∈R,mkO R M h=mkO R M (de n t e h x)
 ·exact .inl c
 ·obtain ⟨h,hh⟩:=PB.mp c;obtain ⟨hR,hn⟩:=Qq.mp hh;obtain ⟨a,⟨a1,a2⟩,a3⟩:=zi (p:=fun h=>h∈R/\mkO R M h≠mkO R M (de n t e h x)) h ⟨hR,hn⟩;exact .inr ⟨a,a1,a2,fun h' hh' hlt=>OQ fun z=>a3 h' hlt ⟨hh',z⟩⟩
def jU (T:Txt K mg) (H:Hp) (g hd:Addr) (x:Nat) (m:Int) (k:Nat) (l:List SI):Prop:=∃ (dp dm:Addr) (n e lz:Nat) (t:List (List Nat)) (L M:List Int),aX T.aI H g n t e/\GT n t e/\x<n/\H hd=some (.lst [.ref dp,.ref dm])/\H dp=some (.lst (L.map V.int))/\L.length<=64/\H dm=some (.lst (M.map V.int))/\M.length<=65/\c8 (cy n t e) lz/\k<=2/\mV n t e L M m k l
def wH (T:Txt K mg):Sp:=fun vs H Q E=>∃ (g hd:Addr) (x:Nat) (m:Int) (k:Nat) (l:List SI),vs=[.ref g,.ref hd,.int (x:Int),.int m,.int (k:Int)]/\jU T H g hd x m k l/\JX T H Q E l
def nR (T:Txt K mg):aH P w K mg base (CXR P w) 7 T.gD.f T.gD.fd ["_law_group_here","_law_handed","_law_thing","_law_spokes_here","_law_which"] (wH T):=by
 refine T.gD.fn.okX yR (fun vs H Q E h=>?_) (fun cdv A outer s H vs Q E hr h=>?_)
 ·obtain ⟨g,hd,x,m,k,l,rfl,_⟩:=h;rfl
 obtain ⟨g,hd,x,m,k,l,rfl,⟨dp,dm,n,e,lz,t,L,M,hG,gt,hx,hh,h1,ll,h2,ml,hl,k2,wt⟩,ao⟩:=h;have aL:At K H (.ref dp) L:=gJ h1;have aM:At K H (.ref dm) M:=gJ h2;refine ⟨_,fun okc=>(af (aS (ax bK (pv 4) ag (aB _)) (af (a7 (oG T.bU (ir T) (hr.mono (by decide)) rfl fO (paF (pv 0) (paF (aw (ah K rfl) (pv 1) ag (fun _ _=>rfl)) (paF (aw (ah K rfl) (pv 1) ag (fun _ _=>rfl)) (paF (pv 3) aa))))))) (af (aS (ax bK (pv 4) ag (aB _)) (af (a7 (oG T.iW (FC T) (hr.mono (by decide)) rfl fO (paF (pv 0) (paF (aw (ah K rfl) (pv 1) ag (fun _ _=>rfl)) (paF (pv 3) aa)))))) (af (a7 (oG T.eA (Er T) (hr.mono (by decide)) rfl fO (paF (pv 0) (paF (aw (ah K rfl) (pv 1) ag (fun _ _=>rfl)) (paF (aw (ah K rfl) (pv 1) ag (fun _ _=>rfl)) (paF (pv 2) (paF (pv 3) aa)))))))))))),?_⟩
 walk_at "2";refine aU (fun k0=>?_) (fun k0=>?_)
 ·walk_at "rn";refine ⟨hd,_,_,_,rfl,rfl,SqL.of hh,gh (j:=0) rfl,?_⟩;walk_at "rn";refine ⟨hd,_,_,_,rfl,rfl,SqL.of hh,gh (j:=1) rfl,?_⟩;walk_at "rn";rcases wt with ⟨np,el⟩|⟨R,rfl,pt,⟨ns,el⟩|⟨sv,kk,el⟩|⟨sv,kk,bm,el⟩|⟨sv,kk,M',j,o,rfl,rfl,ml',mm,br,⟨_,el⟩|⟨kk',_⟩⟩⟩
  ·exact .inr ⟨g,_,_,m,n,e,t,L,M,_,rfl,hG,gt,aL,ll,aM,by omega,.inl ⟨np,rfl⟩,ao.part el⟩
  ·exact .inr ⟨g,_,_,m,n,e,t,_,M,_,rfl,hG,gt,aL,ll,aM,by omega,.inr ⟨R,rfl,pt,.inl ⟨ns,rfl⟩⟩,ao.nD el⟩
  ·omega
  ·exact .inr ⟨g,_,_,m,n,e,t,_,M,_,rfl,hG,gt,aL,ll,aM,by omega,.inr ⟨R,rfl,pt,.inr ⟨sv,bm,rfl⟩⟩,ao.marks el⟩
  ·obtain ⟨m1,m60,mk⟩:=sv;have mk0:=mk lz hl;refine .inl ⟨g,_,_,_,n,e,j,lz,t,R,M',rfl,hG,gt,dY aL,pt,dY aM,ml',mm,.inl rfl,hl,by omega,by omega,by omega,fun y H1 o' s1 hy hb=>?_⟩
   walk_at "rn";exact ao.FX el _ s1
  ·omega
 ·walk_at "2";refine aU (fun k1=>?_) (fun k1=>?_)
  ·walk_at "rn";refine ⟨hd,_,_,_,rfl,rfl,SqL.of hh,gh (j:=0) rfl,?_⟩;walk_at "rn";rcases wt with ⟨np,el⟩|⟨R,rfl,pt,⟨ns,el⟩|⟨sv,kk,el⟩|⟨sv,kk,bm,el⟩|⟨sv,kk,_⟩⟩
   ·exact .inr ⟨g,_,m,n,e,t,L,_,rfl,hG,gt,aL,ll,.inl ⟨np,rfl⟩,ao.part el⟩
   ·exact .inr ⟨g,_,m,n,e,t,_,_,rfl,hG,gt,aL,ll,.inr ⟨⟨R,rfl,pt⟩,ns,rfl⟩,ao.nD el⟩
   ·obtain ⟨m1,m60,mk⟩:=sv;have mk0:=mk lz hl;obtain ⟨j,rfl⟩:∃ j:Nat,m=(j:Int):=⟨m.toNat,by omega⟩
    refine .inl ⟨g,_,_,n,e,j,lz,t,R,rfl,hG,gt,dY aL,pt,.inl rfl,hl,by omega,by omega,by omega,fun d' H1 D Lw s1 rw1 G O=>?_⟩
    walk_at "rn";exact ao.FX el _ s1
   ·omega
   ·omega
  ·have k22:k=2:=by omega
   walk_at "rn";refine ⟨hd,_,_,_,rfl,rfl,SqL.of hh,gh (j:=0) rfl,?_⟩;walk_at "rn";refine ⟨hd,_,_,_,rfl,rfl,SqL.of hh,gh (j:=1) rfl,?_⟩;walk_at "rn";rcases wt with ⟨np,el⟩|⟨R,rfl,pt,⟨ns,el⟩|⟨sv,kk,el⟩|⟨sv,kk,bm,el⟩|⟨sv,kk,M',j,o,rfl,rfl,ml',mm,br,⟨kk',_⟩|⟨_,el⟩⟩⟩
   ·exact .inr ⟨g,_,_,_,m,rfl,.inl ⟨g,_,_,m,n,e,t,L,M,_,rfl,hG,gt,aL,ll,aM,by omega,.inl ⟨np,rfl⟩,ao.part el⟩⟩
   ·exact .inr ⟨g,_,_,_,m,rfl,.inl ⟨g,_,_,m,n,e,t,_,M,_,rfl,hG,gt,aL,ll,aM,by omega,.inr ⟨R,rfl,pt,.inl ⟨ns,rfl⟩⟩,ao.nD el⟩⟩
   ·omega
   ·exact .inr ⟨g,_,_,_,m,rfl,.inl ⟨g,_,_,m,n,e,t,_,M,_,rfl,hG,gt,aL,ll,aM,by omega,.inr ⟨R,rfl,pt,.inr ⟨sv,bm,rfl⟩⟩,ao.marks el⟩⟩
   ·omega
   ·obtain ⟨m1,m60,mk⟩:=sv;have mk0:=mk lz hl;cases o with
    | some ab =>
     obtain ⟨a,b⟩:=ab;exact .inr ⟨g,_,_,_,_,rfl,.inr ⟨g,_,_,n,e,j,lz,a,b,t,R,M',rfl,hG,gt,dY aL,pt,dY aM,ml',mm,hl,by omega,by omega,by omega,br,ao.way a b el⟩⟩
    | none =>
     have gi:C3 T.aI K H g (.ref dp) (.ref dm) (.int (j:Int)) n e x j lz t R M':=⟨hG,gt,dY aL,pt,dY aM,ml',mm,br,.inl rfl,hl,by omega,by omega,by omega,hx⟩
     rcases KZ (n:=n) (e:=e) (x:=x) (t:=t) (R:=R) with st|⟨h,hl'⟩
     ·rcases K5 (n:=n) (e:=e) (x:=x) (t:=t) (R:=R) (M:=M') with kp|⟨h,hk⟩
      ·refine .inl (.inl ⟨g,_,_,_,n,e,x,j,lz,t,R,M',rfl,gi,st,kp,fun p dg df H1 Pt Lw _ s1 _ _ _ _=>?_⟩);walk_at "rn";exact ao.FX el _ s1
      ·exact .inl (.inr ⟨g,_,_,_,n,e,x,j,lz,t,R,M',rfl,gi,.inr ⟨st,h,hk,fun d H1 s1 _=>ao.other el _ d H1 (.inr rfl) s1⟩⟩)
     ·exact .inl (.inr ⟨g,_,_,_,n,e,x,j,lz,t,R,M',rfl,gi,.inl ⟨h,hl',fun d H1 s1 _=>ao.other el _ d H1 (.inl rfl) s1⟩⟩)
def mV.shape {n e k:Nat} {t:List (List Nat)} {L M:List Int} {m:Int} {l:List SI} (h:mV n t e L M m k l):l=[]\/l=[.inl "part"]\/l=[.inl "wheel"]\/l=[.inl "marks"]\/∃ a b:Nat,l=[.inl "way",.inr (a:Int),.inr (b:Int)]:=by
 rcases h with ⟨_,el⟩|⟨R,_,_,⟨_,el⟩|⟨_,_,el⟩|⟨_,_,_,el⟩|⟨_,_,M',j,o,_,_,_,_,_,⟨_,el⟩|⟨_,el⟩⟩⟩
 ·exact .inr (.inl el)
 ·exact .inr (.inr (.inl el))
 ·exact .inl el
 ·exact .inr (.inr (.inr (.inl el)))
 ·exact .inl el
 ·cases o with
  | none=>exact .inl el
  | some ab=>exact .inr (.inr (.inr (.inr ⟨ab.1,ab.2,el⟩)))
def Dg {l:List SI} (h:l=[]\/l=[.inl "part"]\/l=[.inl "wheel"]\/l=[.inl "marks"]\/∃ a b:Nat,l=[.inl "way",.inr (a:Int),.inr (b:Int)]):l.length<=3/\∀ i x,1<=i->l[i]?=some x->∃ z:Int,x=.inr z:=by
 rcases h with rfl|rfl|rfl|rfl|⟨a,b,rfl⟩
 ·exact ⟨by decide,fun i x _ hx=>by simp at hx⟩
 ·exact ⟨by decide,fun i x hi hx=>by have:=(LR.mp hx).1;rw [Oe] at this;omega⟩
 ·exact ⟨by decide,fun i x hi hx=>by have:=(LR.mp hx).1;rw [Oe] at this;omega⟩
 ·exact ⟨by decide,fun i x hi hx=>by have:=(LR.mp hx).1;rw [Oe] at this;omega⟩
 ·refine ⟨by show 3<=3;decide,fun i x hi hx=>?_⟩
  match i,hi,hx with
  | 1,_,hx=>cases hx;exact ⟨_,rfl⟩
  | 2,_,hx=>cases hx;exact ⟨_,rfl⟩
  | (i+3),_,hx=>simp at hx
def Di {σ:St} {H:Hp} {D:Ends} {g:TG} {t:TS} {a b:Int} {lo n:Nat} (e:a=(lo:Int)) (e2:(b - a).toNat=n) (hn:lo<=1000000) (hb:0<=b/\b<=1000000) (Pv:Nat->St->Hp->Prop) (h0:Pv 0 σ H)
  (hs:∀ i σ' H',i<n->Pv i σ' H'->g (.int ((lo+i:Nat):Int)) σ' H' fun σ2 H2=>t { D with nx:=Pv (i+1),ct:=Pv (i+1),bk:=D.nx } σ2 H2) (hd:∀ σ' H',Pv n σ' H'->D.nx σ' H'):Ia [.int a,.int b] H (lK g t D σ):=by
 subst e;refine ⟨lo,b,rfl,⟨by omega,by omega,by omega,by omega⟩,?_⟩
 rw [e2];refine ⟨fun i m σ' H'=>m=n - i/\i<=n/\Pv i σ' H',⟨n,rfl,MI _,h0⟩,?_⟩;rintro i m σ' H' ⟨rfl,hi,p⟩
 by_cases hlt:i<n
 ·refine .inr ⟨hlt,Pv (i+1),fun σ2 H2 p'=>⟨n - (i+1),by omega,rfl,hlt,p'⟩,fun x H2 y=>?_⟩
  obtain ⟨rfl,rfl⟩:=y;have q:=hs i σ' H2 hlt p;rw [show (((lo+i:Nat):Int))=(lo:Int)+(i:Int) by push_cast;rfl] at q
  exact q
 ·have e:i=n:=by omega
  subst e;exact .inl ⟨Mb i,hd σ' H' p⟩
def Aw (T:Txt K mg):Sp:=fun vs H Q _=>∃ (g hd:Addr) (x:Nat) (m:Int) (k:Nat) (l:List SI),vs=[.ref g,.ref hd,.int (x:Int),.int m,.int (k:Int)]/\jU T H g hd x m k l/\∀ d H',aj H H'->H' d=some (.lst (l.map siV))->Q (.ref d) H'
def jU.mono {T:Txt K mg} {H H':Hp} {g hd:Addr} {x:Nat} {m:Int} {k:Nat} {l:List SI} (s:aj H H') (h:jU T H g hd x m k l):jU T H' g hd x m k l:=by
 obtain ⟨dp,dm,n,e,lz,t,L,M,hG,gt,hx,hh,h1,ll,h2,ml,hl,k2,wt⟩:=h;exact ⟨dp,dm,n,e,lz,t,L,M,aX.mono s hG,gt,hx,s _ _ hh,s _ _ h1,ll,s _ _ h2,ml,hl,k2,wt⟩
def jU.shape {T:Txt K mg} {H:Hp} {g hd:Addr} {x:Nat} {m:Int} {k:Nat} {l:List SI} (h:jU T H g hd x m k l):l=[]\/l=[.inl "part"]\/l=[.inl "wheel"]\/l=[.inl "marks"]\/∃ a b:Nat,l=[.inl "way",.inr (a:Int),.inr (b:Int)]:=by
 obtain ⟨dp,dm,n,e,lz,t,L,M,hG,gt,hx,hh,h1,ll,h2,ml,hl,k2,wt⟩:=h;exact wt.shape
def Ap (T:Txt K mg):aH P w K mg base CX0 8 T.jT.f T.jT.fd ["_law_group_here","_law_handed","_law_thing","_law_spokes_here","_law_which"] (Aw T):=by
 refine T.jT.ok dv (fun vs H Q E h=>?_) (fun cdv A outer s H vs Q E hr h=>?_)
 ·obtain ⟨g,hd,x,m,k,l,rfl,_⟩:=h;rfl
 obtain ⟨g,hd,x,m,k,l,rfl,ai,q⟩:=h;obtain ⟨ll,intz⟩:=Dg ai.shape;refine ⟨_,(ae (av (i:=5) dv.nd rfl (L8 rfl) (aW aa))
   (ae (BG rfl (Bp (zx (Bz T.gD (nR T) rfl (hr.mono (by decide)) rfl (paF (pv 0) (paF (pv 1) (paF (pv 2) (paF (pv 3) (paF (pv 4) aa)))))))) (xM rfl (fun _=>(af (av (i:=5) dv.nd rfl (L8 rfl) (aW (paF bG aa))))) (xM rfl (fun _=>(af (av (i:=5) dv.nd rfl (L8 rfl) (aW (paF bG aa))))) (xM rfl (fun _=>(af (av (i:=5) dv.nd rfl (L8 rfl) (aW (paF bG aa))))) (Ib (i:=6) rfl (fun _=>(af (av (i:=5) dv.nd rfl (L8 rfl) (aW (paF bG (paF (BP K rfl (pv 6) rfl) (paF (BP K rfl (pv 6) rfl) aa))))))) (xM rfl (fun _=>(af (av (i:=5) dv.nd rfl (L8 rfl) (aW aa)))) D8 rfl T.qL) rfl T.uH dv.nd rfl rfl) rfl T.ka) rfl T.j9) rfl T.rj) rfl rfl)
   (ae (a8 L7 rfl (CU rfl T.bD (paF ag (paF (az (aT K rfl) rfl T.bB Mf (paF (pv 5) aa)) aa))) (aJ (i:=7) dv.nd rfl (L8 rfl)) (af (aS (PW.pt (gR (uf (fX (az (oz K rfl) rfl T.bx Mh (paF (aw (ah K rfl) (pv 5) (pv 7) (fun _ _=>rfl)) (paF (uM (v:=.ty "int") rfl T.Ll PyProof.Rows.boot_int rfl) aa))))) (gG (fX (az (oz K rfl) rfl T.bx Mh (paF (aw (ah K rfl) (pv 5) (pv 7) (fun _ _=>rfl)) (paF (uM (v:=.ty "bool") rfl T.JD PyProof.Rows.boot_bool rfl) aa))))))) (af (aN (aW (paF bG aa)))) aE)))
   (af (aN (pv 5)))))),?_⟩
 walk_at "1";refine ⟨small (by show 0<=1000;decide),fun p1 hp1=>?_⟩
 have s1:=ay hp1 (.lst []);have h1:(upd H p1 (.lst [])) p1=some (.lst []):=ar;generalize upd H p1 (.lst [])=H1 at s1 h1;walk_at "rn"
 rename_i N hN
 have fin:∀ (d:Addr) (H2:Hp),aj H H2->H2 d=some (.lst (l.map siV))->N [some (.ref g),some (.ref hd),some (.int (x:Int)),some (.int m),some (.int (k:Int)),some (.ref d),none,none] H2:=by
  intro d H2 s2 h2;have aD:At K H2 (.ref d) l:=nC h2;refine pQ hN ?_;walk_at "rn";refine Iv ?_;walk_at "rn";refine cB aD ?_;refine Di (lo:=1) (n:=l.length - 1) rfl (by omega) (by decide) ⟨by omega,by omega⟩ (fun i σ H'=>H'=H2/\∃ y,σ=[some (.ref g),some (.ref hd),some (.int (x:Int)),some (.int m),some (.int (k:Int)),some (.ref d),none,y]) ⟨rfl,_,rfl⟩ ?_ ?_
  ·rintro i σ' H' hi ⟨rfl,y,rfl⟩;obtain ⟨z,hz⟩:=intz (1+i) _ (by omega) (LP (by omega))
   have hg:l[1+i]?=some (.inr z):=by rw [LP (by omega),hz]
   walk_at "2";refine cR aD rfl hg fun w1 hw1=>?_;cases (show w1=V.int z from hw1);walk_at "rn";refine Fq (b:=true) (.int _) rfl ?_;walk_at "rn";refine fq ?_;walk_at "rn";refine cR aD rfl hg fun w2 hw2=>?_;cases (show w2=V.int z from hw2);walk_at "rn";refine Fq (b:=false) (.int _) rfl ?_;walk_at "rn";refine fq ?_;walk_at "rn";exact ⟨rfl,_,rfl⟩
  ·rintro σ' H' ⟨rfl,y,rfl⟩;walk_at "rn";exact q d _ s2 h2
 have word:∀ (s:Str) (H2:Hp),l=[.inl s]->aj H H2->∀ p3,H2 p3=none->N [some (.ref g),some (.ref hd),some (.int (x:Int)),some (.int m),some (.int (k:Int)),some (.ref p3),none,none] (upd H2 p3 (.lst [.str s])):=fun s H2 el s2 p3 hp3=>by
  refine fin p3 _ (s2.trans (ay hp3 _)) ?_;rw [el];exact ar
 refine JF ?_;refine BO ?_;refine Bs ?_;walk_at "rn";refine ⟨g,hd,x,m,k,l,rfl,ai.mono s1,?_,?_,?_,?_,?_,?_⟩
 ·intro el H2 s2;dsimp only;refine fin p1 H2 (s1.trans s2) ?_;rw [el];exact s2 _ _ h1
 ·intro el C d H2 hC s2;have go:∀ p3,H2 p3=none->N [some (.ref g),some (.ref hd),some (.int (x:Int)),some (.int m),some (.int (k:Int)),some (.ref p3),none,none] (upd H2 p3 (.lst [])):=fun p3 hp3=>by
   refine fin p3 _ (s1.trans (s2.trans (ay hp3 _))) ?_;rw [el];exact ar
  rcases hC with rfl|rfl
  ·refine ⟨_,rfl,.inr ⟨T.yH,.inr ⟨T.yY,.inr ⟨T.zj,.inr ⟨T.z9,.inl ⟨T.zq,?_⟩⟩⟩⟩⟩⟩;walk_at "1";exact ⟨small (by show 0<=1000;decide),go⟩
  ·refine ⟨_,rfl,.inr ⟨T.De,.inr ⟨T.Dh,.inr ⟨T.Dz,.inr ⟨T.Cj,.inl ⟨T.CI,?_⟩⟩⟩⟩⟩⟩;walk_at "1";exact ⟨small (by show 0<=1000;decide),go⟩
 ·intro el H2 s2;refine ⟨_,rfl,.inl ⟨T.Fh,?_⟩⟩;walk_at "1";exact ⟨small (by show 1<=1000;decide),word _ H2 el (s1.trans s2)⟩
 ·intro el H2 s2;refine ⟨_,rfl,.inr ⟨T.Aj,.inl ⟨T.AD,?_⟩⟩⟩;walk_at "1";exact ⟨small (by show 1<=1000;decide),word _ H2 el (s1.trans s2)⟩
 ·intro el H2 s2;refine ⟨_,rfl,.inr ⟨T.Ak,.inr ⟨T.Ay,.inl ⟨T.Av,?_⟩⟩⟩⟩;walk_at "1";exact ⟨small (by show 1<=1000;decide),word _ H2 el (s1.trans s2)⟩
 ·intro a b el di H2 s2 f2;refine ⟨_,rfl,.inr ⟨T.FY,.inr ⟨T.Gw,.inr ⟨T.GF,.inl ⟨T.Hl,fun y hy=>?_⟩⟩⟩⟩⟩;have s3:=ay hy (fM y T.bE di);have h3:(upd H2 y (fM y T.bE di)) y=some (fM y T.bE di):=ar;generalize upd H2 y (fM y T.bE di)=H3 at s3 h3;obtain ⟨dx,fs',rfl,hdx,hfs⟩:=f2.mono s3;have l1:=hfs _ (.head _);have l2:=hfs _ (.tail _ (.head _));walk_at "1";refine HG ?_;walk_at "rn";refine ⟨y,_,dx,fs',_,rfl,h3,hdx,T.vo,T.mf.hd,T.qS,l1,?_⟩;walk_at "rn";refine HG ?_;walk_at "rn";refine ⟨y,_,dx,fs',_,rfl,h3,hdx,T.vo,T.mf.hd,T.qW,l2,?_⟩;walk_at "rn";refine ⟨small (by show 3<=1000;decide),fun p4 hp4=>?_⟩
  refine fin p4 _ (s1.trans (s2.trans (s3.trans (ay hp4 _)))) ?_;rw [el];exact ar
def ya (T:Txt K mg):Sp:=fun vs H Q _=>∃ (g hd:Addr) (x:Nat) (m:Int) (k:Nat) (l:List SI),vs=[.ref g,.ref hd,.int (x:Int),.int m,.int (k:Int)]/\jU T H g hd x m k l/\l≠[]/\∀ d H',aj H H'->H' d=some (.lst ((l.take 1).map siV))->Q (.ref d) H'
def yE (T:Txt K mg):aH P w K mg base CX0 8 T.jw.f T.jw.fd ["_law_group_here","_law_handed","_law_thing","_law_spokes_here","_law_which"] (ya T):=by
 refine T.jw.ok iY (fun vs H Q E h=>?_) (fun cdv A outer s H vs Q E hr h=>?_)
 ·obtain ⟨g,hd,x,m,k,l,rfl,_⟩:=h;rfl
 obtain ⟨g,hd,x,m,k,l,rfl,ai,ln,q⟩:=h;refine ⟨_,(ae (av (i:=5) iY.nd rfl (L8 rfl) yV)
   (ae (Kq (i:=6) rfl (Bp (zx (Bz T.gD (nR T) rfl (hr.mono (by decide)) rfl (paF (pv 0) (paF (pv 1) (paF (pv 2) (paF (pv 3) (paF (pv 4) aa)))))))) (fun _=>(af (av (i:=5) iY.nd rfl (L8 rfl) (pv 6)))) rfl T.qL iY.nd rfl rfl rfl rfl)
   (af (aN (aG T.iu (wG T) (hr.mono (by decide)) rfl (paF (pv 5) aa)))))),?_⟩
 walk_at "rn";refine Ly ?_;refine BO ?_;refine Bs ?_;walk_at "rn";refine ⟨g,hd,x,m,k,l,rfl,ai,fun el=>absurd el ln,fun el=>absurd el ln,?_,?_,?_,?_⟩
 ·intro el H2 s2;refine ⟨_,rfl,T.FR,fun y hy=>?_⟩;walk_at "rn";dsimp only;walk_at "rn";exact ⟨_,rfl,.inr ⟨y,_,none,_,rfl,ar,T.FL,T.GD,eK T.Gs,fun d H3 s3 h3=>q d H3 (s2.trans ((ay hy _).trans s3)) (by rw [el];exact h3)⟩⟩
 ·intro el H2 s2;refine ⟨_,rfl,T.CD,fun y hy=>?_⟩;walk_at "rn";dsimp only;walk_at "rn";exact ⟨_,rfl,.inr ⟨y,_,none,_,rfl,ar,T.Cp,T.CF,eK T.Cy,fun d H3 s3 h3=>q d H3 (s2.trans ((ay hy _).trans s3)) (by rw [el];exact h3)⟩⟩
 ·intro el H2 s2;refine ⟨_,rfl,T.Dt,fun y hy=>?_⟩;walk_at "rn";dsimp only;walk_at "rn";exact ⟨_,rfl,.inr ⟨y,_,none,_,rfl,ar,T.Dl,T.Cd,eK T.C5,fun d H3 s3 h3=>q d H3 (s2.trans ((ay hy _).trans s3)) (by rw [el];exact h3)⟩⟩
 ·intro a b el di H2 s2 f2;refine ⟨_,rfl,T.Jf,fun y hy=>?_⟩;walk_at "rn";dsimp only;walk_at "rn";exact ⟨_,rfl,.inr ⟨y,_,di,_,rfl,ar,T.vo,T.IH,eK T.JC,fun d H3 s3 h3=>q d H3 (s2.trans ((ay hy _).trans s3)) (by rw [el];exact h3)⟩⟩
def xK (K:LO):Sp:=fun vs H Q _=>∃ (a:Addr) (ns:List Int),vs=[.ref a]/\SqL K H a (ns.map V.int)/\ns.length<=63/\∀ H',Q (.bl true) H'
def G1 {n e:Nat} {t:List (List Nat)} {L M:List Int} {m:Int} {l:List SI} (h:xy n t e L M m l) :
  mV n t e L M m 2 l/\mV n t e L M m 0 (if l≠[]/\l[0]?=some (.inl "way") then [] else l)/\mV n t e L M m 1 (if l≠[]/\l[0]?≠some (.inl "part")/\l[0]?≠some (.inl "wheel") then [] else l):=by
 rcases h with ⟨np,rfl⟩|⟨R,rL,pt,⟨ns,rfl⟩|⟨sv,bm,rfl⟩|⟨sv,M',j,o,r1,r2,r3,r4,br,rfl⟩⟩
 ·exact ⟨.inl ⟨np,rfl⟩,.inl ⟨np,by decide⟩,.inl ⟨np,by decide⟩⟩
 ·exact ⟨.inr ⟨R,rL,pt,.inl ⟨ns,rfl⟩⟩,.inr ⟨R,rL,pt,.inl ⟨ns,by decide⟩⟩,.inr ⟨R,rL,pt,.inl ⟨ns,by decide⟩⟩⟩
 ·exact ⟨.inr ⟨R,rL,pt,.inr (.inr (.inl ⟨sv,by decide,bm,rfl⟩))⟩,.inr ⟨R,rL,pt,.inr (.inr (.inl ⟨sv,by decide,bm,by decide⟩))⟩,.inr ⟨R,rL,pt,.inr (.inl ⟨sv,rfl,by decide⟩)⟩⟩
 ·refine ⟨.inr ⟨R,rL,pt,.inr (.inr (.inr ⟨sv,by decide,M',j,o,r1,r2,r3,r4,br,.inr ⟨rfl,rfl⟩⟩))⟩,.inr ⟨R,rL,pt,.inr (.inr (.inr ⟨sv,by decide,M',j,o,r1,r2,r3,r4,br,.inl ⟨rfl,?_⟩⟩))⟩,.inr ⟨R,rL,pt,.inr (.inl ⟨sv,rfl,?_⟩)⟩⟩
  ·cases o with
   | none=>rfl
   | some ab=>exact if_pos ⟨by simp [rE],rfl⟩
  ·cases o with
   | none=>rfl
   | some ab=>exact if_pos ⟨by simp [rE],by simp [rE];decide,by simp [rE];decide⟩
def JO (T:Txt K mg):aH P w K mg base CX0 12 T.qq.f T.qq.fd ["_law_script"] (xK K):=by
 refine T.qq.ok eW (fun vs H Q E h=>?_) (fun cdv A outer s H vs Q E hr h=>?_)
 ·obtain ⟨a,ns,rfl,_⟩:=h;rfl
 obtain ⟨a,ns,rfl,hS,h63,q⟩:=h;have hA:=A6 hS;refine ⟨_,(ae (av (i:=1) eW.nd rfl (L8 rfl) (aG T.jk (zJ T) (hr.mono (by decide)) rfl (paF (pv 0) (paF ag aa))))
   (ae (av (i:=2) eW.nd rfl (L8 rfl) (aG T.j5 (Ag T) (hr.mono (by decide)) rfl (paF (pv 0) (paF (pv 1) aa))))
   (ae (av (i:=3) eW.nd rfl (L8 rfl) (aG T.iS (wD T) (hr.mono (by decide)) rfl (paF (pv 0) (paF (aG T.gF (oU T) (hr.mono (by decide)) rfl (paF (pv 1) aa)) aa))))
   (ae (av (i:=4) eW.nd rfl (L8 rfl) (aG T.ju (yg T) (hr.mono (by decide)) rfl (paF (pv 0) (paF (az (aT K rfl) rfl T.bB Mf (paF (pv 2) aa)) aa))))
   (ae (av (i:=5) eW.nd rfl (L8 rfl) (au aV (aG T.cu (cW T) (hr.mono (by decide)) rfl (paF (pv 0) (paF ag aa))) (az (aT K rfl) rfl T.bB Mf (paF (pv 1) aa))))
   (ae (av (i:=6) eW.nd rfl (L8 rfl) (aG T.lH (Cg T) (hr.mono (by decide)) rfl (paF (pv 1) (paF (pv 2) (paF (pv 4) (paF (pv 3) aa))))))
   (ae (av (i:=7) eW.nd rfl (L8 rfl) (aG T.kf (AM T) (hr.mono (by decide)) rfl (paF (dU rfl yA (aY K rfl (pv 1)) (fun _ _ _ _=>⟨(aJ (i:=0) yA.nd rfl (L8 rfl)),bZ,(dz (iP K rfl) rfl T.kJ NQ (paF (pv 0) aa))⟩)) aa)))
   (ae (av (i:=8) eW.nd rfl (L8 rfl) (aW (paF (dz (iP K rfl) rfl T.kJ NQ (paF (pv 2) aa)) (paF (dz (iP K rfl) rfl T.kJ NQ (paF (pv 4) aa)) aa))))
   (ae (a8 L7 rfl (aY K rfl (aW (m7 [0,1,2] (by trivial)).out)) (aJ (i:=9) eW.nd rfl (L8 rfl)) (ae (av (i:=10) eW.nd rfl (L8 rfl) (pv 6))
   (ae (aS (PW.pt (dB (ax bK (pv 9) ag (aB _)) (dB (ax (i6 K rfl SI hr.units) (pv 6) (aW aa) (aB _)) (ee (ax bK (aw (ah K rfl) (pv 6) ag (fun _ _=>rfl)) bG (aB _)))))) (af (av (i:=10) eW.nd rfl (L8 rfl) (aW aa))) aE)
   (ae (aS (PW.pt (dB (ax bK (pv 9) ag (aB _)) (dB (ax (i6 K rfl SI hr.units) (pv 6) (aW aa) (aB _)) (dB (ax dQ (aw (ah K rfl) (pv 6) ag (fun _ _=>rfl)) bG (aB _)) (ee (ax dQ (aw (ah K rfl) (pv 6) ag (fun _ _=>rfl)) bG (aB _))))))) (af (av (i:=10) eW.nd rfl (L8 rfl) (aW aa))) aE)
   (ae (aS (PW.pt (gR (ax (i6 K rfl SI hr.units) (aG T.jT (Ap T) (hr.mono (by decide)) rfl (paF (pv 7) (paF (pv 8) (paF (pv 5) (paF (pv 3) (paF (pv 9) aa)))))) (pv 10) (aB _)) (gG (ax (i6 K rfl (List Int) hr.units) (pv 8) (aW (paF (pv 2) (paF (pv 4) aa))) (aB _))))) (af (aN gQ)) aE)
   (af (aS (ax (i6 K rfl SI hr.units) (pv 10) (aW aa) (aB _)) (af (aS (ax (i6 K rfl SI hr.units) (aG T.jw (yE T) (hr.mono (by decide)) rfl (paF (pv 7) (paF (pv 8) (paF (pv 5) (paF (pv 3) (paF (pv 9) aa)))))) (rT (rH K rfl) (pv 10) uk (ux ag)) (aB _)) (af (aN gQ)) aE)) aE)))))))
   (af (aN (dF (Jl K rfl (List Int) hr.units) (pv 8) (aW (paF (pv 2) (paF (pv 4) aa))) (aB _))))))))))))),?_⟩
 walk_at "rn";refine ⟨_,ns,0,rfl,hA,fun d1 H1 n t e ps1 s1 gt tb1 _ _=>?_⟩;have n1:=gt.pos;have n23:=gt.le;walk_at "rn";refine ⟨_,_,ns,n,e,t,rfl,Rep.mono s1 hA,h63,tb1.at,gt,fun dp H2 L fdp s2 h2 ll=>?_⟩;have s02:=s1.trans s2;have tb2:=tb1.mono s2;walk_at "rn";refine ⟨_,n,e,t,rfl,tb2.at,gt,fun lz H3 s3 hl ln=>?_⟩;have s03:=s02.trans s3;have l1:=hl.pos;walk_at "rn";refine ⟨_,ns,lz,rfl,Rep.mono s03 hA,h63,l1,by omega,fun m=>?_⟩
 have h3:=s3 _ _ h2;walk_at "rn";refine cB (gJ h3) ?_;walk_at "rn";refine ⟨_,ns,L.length,rfl,Rep.mono s03 hA,h63,ll,fun dm H4 M fdm s4 h4 ml=>?_⟩;have s04:=s03.trans s4;have tb4:=tb2.mono (s3.trans s4);walk_at "rn";refine ⟨_,ns,3,rfl,Rep.mono s04 hA,?_⟩;walk_at "rn";refine cB tb4.at ?_;rw [gt.len];refine sF (by omega) ?_
 have hx:dy ns 3 % n<n:=Mw _ (by omega)
 generalize dy ns 3 % n=x at hx;walk_at "rn";refine ⟨_,dp,dm,n,e,t,L,M,m,rfl,tb4.at,gt,s4 _ _ h3,ll,h4,ml,fun dd H5 l s5 h5 due=>?_⟩;have tb5:=tb4.mono s5;walk_at "rn";refine ng (K:=K) tb5.at (by rw [gt.len];omega) fun dh H6 psh s6 _ _ tbh=>?_
 walk_at "rn";refine ⟨_,n,e,t,rfl,tbh.at,gt,fun g H7 _ s7 hg0=>?_⟩;have hg:=aX.mono FI hg0;have s57:=s6.trans s7;have s47:=s5.trans s57;have hp7:H7 dp=some (.lst (L.map V.int)):=s47 _ _ (s4 _ _ h3);have hm7:H7 dm=some (.lst (M.map V.int)):=s47 _ _ h4;have hd7:=s57 _ _ h5;walk_at "1";refine A8 (α:=Int) (gJ hp7) fun ha H8 fha s8 g8=>?_;walk_at "rn";refine A8 (α:=Int) (gJ (s8 _ _ hm7)) fun hb H9 fhb s9 g9=>?_;walk_at "rn";refine ⟨small (by show 2<=1000;decide),fun hd hhd=>?_⟩
 have s910:=ay hhd (.lst [.ref ha,.ref hb]);have w10:(upd H9 hd (.lst [.ref ha,.ref hb])) hd=some (.lst [.ref ha,.ref hb]):=ar;generalize upd H9 hd (.lst [.ref ha,.ref hb])=H10 at s910 w10 ⊢;have s710:=s8.trans (s9.trans s910);have wa:=(s9.trans s910) _ _ (va g8);have wb:=s910 _ _ (va g9);have hg10:=aX.mono s710 hg;have hd10:=s710 _ _ hd7;obtain ⟨w2,w0,w1⟩:=G1 due;have ask:∀ (k:Nat) (lk:List SI) (H':Hp),aj H10 H'->k<=2->mV n t e L M m k lk->jU T H' g hd x m k lk:=fun k lk H' s' k2 wt=>⟨ha,hb,n,e,lz,t,L,M,aX.mono s' hg10,gt,hx,s' _ _ w10,s' _ _ wa,ll,s' _ _ wb,ml,hl,k2,wt⟩;have pair:∀ (H':Hp) (p q:Addr),aj H10 H'->H' p=some (.lst [.ref dp,.ref dm])->At K H' (.ref hd) [L,M]/\At K H' (.ref p) [L,M]:=fun H' p q s' hp=>⟨⟨hd,_,rfl,SqL.of (s' _ _ w10),.cons (gJ (s' _ _ wa)) (.cons (gJ (s' _ _ wb)) .nil)⟩,⟨p,_,rfl,SqL.of hp,.cons (gJ (s' _ _ (s710 _ _ hp7))) (.cons (gJ (s' _ _ (s710 _ _ hm7))) .nil)⟩⟩;have aD:At K H10 (.ref dd) l:=nC hd10;walk_at "rn";refine dZ (K:=K) (l:=([0,1,2]:List Nat)) (ky [0,1,2]) (by decide) fun d11 H11 _ s11 g11=>?_
 refine fg (H₀:=H11) (α:=Nat) g11.at (fun i σ' H'=>aj H11 H'/\∃ x9 x10:Option V,σ'=[some (.ref a),some (.ref d1),some (.ref dp),some (.int m),some (.ref dm),some (.int (x:Int)),some (.ref dd),some (.ref g),some (.ref hd),x9,x10]) ⟨aj.refl _,_,_,rfl⟩ (fun i σ' H' z=>z.1) ?_ ?_
 ·rintro i k w' σ' H12 hk hw ⟨s12,x9,x10,rfl⟩;cases (show w'=V.int (k:Int) from hw);have k2:k<=2:=by
   have:=LS hk;simp at this;omega
  have s1012:=s11.trans s12;have aD12:=Rep.mono s1012 aD;walk_at "rn";have hd12:=s1012 _ _ hd10;have first:l≠[]->∃ s:Str,l[0]?=some (.inl s):=fun hne=>by
   rcases w2.shape with z|z|z|z|⟨a',b',z⟩
   ·exact absurd z hne
   ·exact ⟨_,by rw [z];rfl⟩
   ·exact ⟨_,by rw [z];rfl⟩
   ·exact ⟨_,by rw [z];rfl⟩
   ·exact ⟨_,by rw [z];rfl⟩
  refine dG (fun σ' H'=>aj H12 H'/\∃ (dw:Addr) (lw:List SI),H' dw=some (.lst (lw.map siV))/\(k=0->lw=if l≠[]/\l[0]?=some (.inl "way") then [] else l)/\(k≠0->lw=l)/\σ'=[some (.ref a),some (.ref d1),some (.ref dp),some (.int m),some (.ref dm),some (.int (x:Int)),some (.ref dd),some (.ref g),some (.ref hd),some (.int (k:Int)),some (.ref dw)]) (fun N hN=>?_) ?_
  ·walk_at "rn";refine aU (fun k0=>?_) (fun k0=>?_)
   ·walk_at "1";refine ⟨small (by show 0<=1000;decide),fun p1 hp1=>?_⟩
    have s13:=ay hp1 (.lst []);refine mL (α:=SI) (as:=l) (bs:=[]) (Rep.mono s13 aD12) ⟨p1,_,rfl,SqL.of ar,.nil⟩ ?_;generalize upd H12 p1 (.lst [])=H13 at s13;walk_at "rn";refine bH (fun hne=>?_) (fun hne=>?_)
    ·obtain ⟨s',hs'⟩:=first hne;walk_at "rn";refine cR (Rep.mono s13 aD12) rfl hs' fun w1' hw1=>?_;cases (show w1'=V.str s' from hw1);walk_at "rn";refine ⟨rfl,?_⟩;walk_at "rn";refine aU (fun es=>?_) (fun es=>?_)
     ·walk_at "1";refine ⟨small (by show 0<=1000;decide),fun p2 hp2=>?_⟩
      injection es with es;subst es;exact hN _ _ ⟨s13.trans (ay hp2 _),p2,[],ar,fun _=>by rw [if_pos ⟨hne,hs'⟩],fun z=>absurd k0 z,rfl⟩
     ·walk_at "rn";refine hN _ _ ⟨s13,dd,l,s13 _ _ hd12,fun _=>?_,fun _=>rfl,rfl⟩;rw [if_neg];rintro ⟨_,z⟩;rw [hs'] at z;injection z with z;injection z with z;exact es (by rw [z])
    ·walk_at "rn";refine hN _ _ ⟨s13,dd,l,s13 _ _ hd12,fun _=>?_,fun _=>rfl,rfl⟩;rw [if_neg fun z=>z.1 hne]
   ·walk_at "rn";exact hN _ _ ⟨aj.refl _,dd,l,hd12,fun z=>absurd z k0,fun _=>rfl,rfl⟩
  rintro σ' H13 ⟨s13,dw,lw,hw13,lw0,lwn,rfl⟩;have s1013:=s1012.trans s13;have hd13:=s13 _ _ hd12;walk_at "rn";refine dG (fun σ' H'=>aj H13 H'/\∃ (dw:Addr) (lk:List SI),H' dw=some (.lst (lk.map siV))/\mV n t e L M m k lk/\σ'=[some (.ref a),some (.ref d1),some (.ref dp),some (.int m),some (.ref dm),some (.int (x:Int)),some (.ref dd),some (.ref g),some (.ref hd),some (.int (k:Int)),some (.ref dw)]) (fun N hN=>?_) ?_
  ·walk_at "rn";refine aU (fun k1=>?_) (fun k1=>?_)
   ·have el:=lwn (by omega)
    subst el;subst k1;walk_at "1";refine ⟨small (by show 0<=1000;decide),fun p1 hp1=>?_⟩
    have s14:=ay hp1 (.lst []);have aD14:=Rep.mono (s13.trans s14) aD12;refine mL (α:=SI) (as:=lw) (bs:=[]) aD14 ⟨p1,_,rfl,SqL.of ar,.nil⟩ ?_;generalize upd H13 p1 (.lst [])=H14 at s14 aD14;have keepIt:¬ (lw≠[]/\lw[0]?≠some (.inl "part")/\lw[0]?≠some (.inl "wheel"))->mV n t e L M m 1 lw:=fun z=>by
     have:=w1;rw [if_neg z] at this;exact this
    walk_at "rn";refine bH (fun hne=>?_) (fun hne=>?_)
    ·obtain ⟨s',hs'⟩:=first hne;walk_at "rn";refine cR aD14 rfl hs' fun w1' hw1=>?_;cases (show w1'=V.str s' from hw1);walk_at "rn";refine ⟨rfl,?_⟩;walk_at "rn";refine bH (fun es=>?_) (fun es=>?_)
     ·walk_at "rn";refine cR aD14 rfl hs' fun w2' hw2=>?_;cases (show w2'=V.str s' from hw2);walk_at "rn";refine ⟨rfl,?_⟩;walk_at "rn";refine bH (fun es2=>?_) (fun es2=>?_)
      ·walk_at "1";refine ⟨small (by show 0<=1000;decide),fun p2 hp2=>?_⟩
       refine hN _ _ ⟨s14.trans (ay hp2 _),p2,[],ar,?_,rfl⟩;have c1:lw[0]?≠some (.inl "part"):=fun z=>by
        rw [hs'] at z;injection z with z;injection z with z;exact es (by rw [z])
       have c2:lw[0]?≠some (.inl "wheel"):=fun z=>by
        rw [hs'] at z;injection z with z;injection z with z;exact es2 (by rw [z])
       have:=w1;rw [if_pos ⟨hne,c1,c2⟩] at this;exact this
      ·walk_at "rn";injection es2 with es2;subst es2;exact hN _ _ ⟨s14,dw,lw,s14 _ _ hw13,keepIt fun z=>z.2.2 hs',rfl⟩
     ·walk_at "rn";injection es with es;subst es;exact hN _ _ ⟨s14,dw,lw,s14 _ _ hw13,keepIt fun z=>z.2.1 hs',rfl⟩
    ·walk_at "rn";exact hN _ _ ⟨s14,dw,lw,s14 _ _ hw13,keepIt fun z=>z.1 hne,rfl⟩
   ·walk_at "rn";refine hN _ _ ⟨aj.refl _,dw,lw,hw13,?_,rfl⟩;rcases N0 k with c|c
    ·have e0:=lw0 c;subst c;rw [e0];exact w0
    ·have:k=2:=by omega
     subst this;rw [lwn (by decide)]
     exact w2
  rintro σ' H14 ⟨s14,dw,lk,hw14,wt,rfl⟩;have s1014:=s1013.trans s14;walk_at "2";refine ⟨g,hd,x,m,k,lk,rfl,ask k lk H14 s1014 k2 wt,fun d15 H15 s15 h15=>?_⟩;walk_at "rn";refine mL (α:=SI) (nC h15) (nC (s15 _ _ hw14)) ?_;walk_at "rn";refine bH (fun c=>absurd rfl c) (fun _=>?_);walk_at "1";refine ⟨small (by show 2<=1000;decide),fun p16 hp16=>?_⟩
  have s16:=ay hp16 (.lst [.ref dp,.ref dm]);obtain ⟨a1,a2⟩:=pair _ p16 p16 (s1014.trans (s15.trans s16)) ar;refine mL (α:=List Int) a1 a2 ?_;generalize upd H15 p16 (.lst [.ref dp,.ref dm])=H16 at s16;walk_at "rn";refine bH (fun c=>absurd rfl c) (fun _=>?_);have s1416:=s15.trans s16;have s1016:=s1014.trans s1416;have hw16:=s1416 _ _ hw14;walk_at "rn";walk_at "ifs";walk_at "1";refine ⟨small (by show 0<=1000;decide),fun p17 hp17=>?_⟩
  have s17:=ay hp17 (.lst []);refine mL (α:=SI) (as:=lk) (bs:=[]) (nC (s17 _ _ hw16)) ⟨p17,_,rfl,SqL.of ar,.nil⟩ ?_;generalize upd H16 p17 (.lst [])=H17 at s17;have s1117:aj H11 H17:=s12.trans (s13.trans (s14.trans (s1416.trans s17)));walk_at "rn";refine bH (fun hne=>?_) (fun _=>?_)
  ·walk_at "2";refine ⟨g,hd,x,m,k,lk,rfl,ask k lk H17 (s1016.trans s17) k2 wt,hne,fun d18 H18 s18 h18=>?_⟩;walk_at "rn";refine yf (nC (s18 _ _ (s17 _ _ hw16))) fun p19 H19 _ s19 g19=>?_;have ec:cut lk none (some ((1:Nat):Int))=lk.take 1:=by
    rcases wt.shape with z|z|z|z|⟨_,_,z⟩ <;> (rw [z];rfl)
   rw [ec] at g19;refine mL (α:=SI) (as:=lk.take 1) (bs:=lk.take 1) (nC (s19 _ _ h18)) g19.at ?_;walk_at "rn";refine bH (fun c=>absurd rfl c) (fun _=>?_);walk_at "rn";exact ⟨s1117.trans (s18.trans s19),_,_,rfl⟩
  ·walk_at "rn";exact ⟨s1117,_,_,rfl⟩
 ·rintro σ' H12 ⟨s12,x9,x10,rfl⟩;walk_at "1";refine ⟨small (by show 2<=1000;decide),fun pz hpz=>?_⟩
  have s13:=ay hpz (.lst [.ref dp,.ref dm]);obtain ⟨a1,a2⟩:=pair _ pz pz (s11.trans (s12.trans s13)) ar;refine K6 (α:=List Int) a1 a2 ?_;rw [decide_eq_true rfl];exact q _
end
def Jz {l:Sn} {w:World} {K:LO} {mg:Str->Option Value} {fa:Addr} (hfa:mg "law" = some (.ref fa)) (T:Txt K mg) (hb:∀ (s:LV) (v:Value),Q9 s T.qq.fd ⟨[v],[]⟩ [("_law_script",v)]) :
  ∃ fd:Na,(∀ (s:LV) (v:Value),Q9 s fd ⟨[v],[]⟩ [("_law_script",v)])/\∀ base:Heap,K.In base->base.Ns MP mg->aH l.prog w K mg base CX0 12 fa fd ["_law_script"] (xK K):=by
 refine ⟨T.qq.fd,hb,fun base _ _=>?_⟩;cases hfa.symm.trans T.qq.nm;exact JO T
def walk {l:Sn} {q:Mi} {loose:List Str} {XP:(Str->Option Value)->Heap->Prop} {YP:World->Heap->Prop} {d:DefRec} {K:Params->LO} (hn:l.most=some 63) (hdf:d.params.defaults=[])
  (hY:∀ (w:World) (h:Heap),YP w h->(K w.params).In h)
  (F:∀ (w:World) (mg:Str->Option Value) (fa:Addr) (h:Heap),(K w.params).In h->h.Ns MP mg->mg d.name=some (.ref fa) ->
   ∃ fd:Na,(∀ (s:LV) (u:Value),Q9 s fd ⟨[u],[]⟩ [("_law_script",u)])/\∀ base:Heap,(K w.params).In base->base.Ns MP mg->aH l.prog w (K w.params) mg base CX0 12 fa fd ["_law_script"] (xK (K w.params))) :
  PySem.W.WalkO q loose XP YP l.row.toRowW d [] (fun f vs=>PySem.call f vs) :=
 L2.Im (n:=63) (k:=12) (x:="_law_script") (CX:=fun _=>CX0) (sp:=fun w=>xK (K w.params)) hn (by decide) hdf ⟨rfl,by decide,by decide⟩ hY F (fun _ _ a ns hl _ hS=>⟨a,ns,rfl,hS,hl,fun _=>rfl⟩) fun _ _ _ _ _ z=>z
end TB
namespace PySem.W.Fast
def tw17553645591650671579:=0
def tw14243765736351764901:=0
def tw17202911599799754414:=0
def tw17270090784927844079:=0
def tw1672010856025722201:=0
def tw10398008186464301360:=0
def tw17068058314332157536:=0
def tw914991562828325554:=0
def tw3298975805198235940:=0
def tw8025767939133887404:=0
def tw8051282763016967775:=0
def tw3034589824456578972:=0
def tw2330497143368256273:=0
def tw6860874040948499758:=0
def tw11796546647856245807:=0
def tw12909684840729231722:=0
def tw4016706905430141078:=0
def tw17358652550022557090:=0
def tw1887864928209813906:=0
def tw15252564884497588664:=0
def tw9573712049799774463:=0
def tw4473452276487408280:=0
def tw642324602870567381:=0
def tw14653081065207334857:=0
def tw13779673748372964373:=0
def tw5575015646947131219:=0
def tw13735034245679092494:=0
def tw15002679396375253837:=0
def tw13060176088586871193:=0
def tw13846152701119003758:=0
def tw12300597541958650565:=0
def tw9301546068753603461:=0
def tw13216581731513922702:=0
def tw6893727660949192207:=0
def tw8464710332885362007:=0
def tw14560975852910623213:=0
def tw14399983884357524188:=0
def tw2149265909720688023:=0
def tw7908248450901944665:=0
def tw16758725418605328380:=0
def tw18003904463970666747:=0
def tw17409248318782968443:=0
def tw5585820871324335400:=0
def tw9976019800559730754:=0
def tw12817012495208446133:=0
def tw17021106773412175653:=0
def tw515194121413767231:=0
def tw2558439938208714276:=0
def tw13571321811832754920:=0
def tw12710225952856045868:=0
def tw14563578643005033783:=0
def tw11924011339417633919:=0
def tw7997053952591525101:=0
def tw6639349519286272662:=0
def tw5267406122051080664:=0
def tw12617464980368810554:=0
def tw1873391599582261808:=0
def tw12688154494238149450:=0
def tw6288463223939573188:=0
def tw844333449829015266:=0
def tw9055053588341956403:=0
def tw571967216317460543:=0
def tw4847271650913819548:=0
def tw11939911532123187715:=0
def tw6239231403141955061:=0
def tw13683793504914803632:=0
def tw7245936281110979282:=0
def tw15659818310996369656:=0
def tw6768388332107798720:=0
def tw3028576514008873205:=0
def tw8422409050771950378:=0
def tw11359655939542526090:=0
end PySem.W.Fast
open PySem PySem.W PyProof.Rows L2
set_option maxRecDepth 100000 in
set_option maxHeartbeats 0 in
theorem PySem.Challenge.cw_tracebook_k32_refused_ones_holds : PySem.Challenge.rw_tracebook_k32_refused_ones.Holds := by
 w_on;o_law;k_head;(case hw=>w_witness2)
 k_fill
 refine TB.walk (l:=PySem.Challenge.rw_tracebook_k32_refused_ones) rfl rfl (fun w h Y=>PySem.W.kIn_of Y) ?F
 case F =>
  intro w mg fa h KX G hmg
  exact TB.Jz hmg ⟨df1 KX G,df1 KX G,df1 KX G,df1 KX G,df2 KX G,df2 KX G,df3 KX G,df1 KX G,df2 KX G,df3 KX G,df2 KX G,df1 KX G,df3 KX G,df2 KX G,df2 KX G,df2 KX G,df1 KX G,df2 KX G,df2 KX G,df2 KX G,df3 KX G,df1 KX G,df2 KX G,df3 KX G,dd4 KX G,df4 KX G,df3 KX G,df4 KX G,dd5 KX G,df5 KX G,df3 KX G,dd3 KX G,df1 KX G,df2 KX G,df2 KX G,df2 KX G,df3 KX G,df4 KX G,df3 KX G,df3 KX G,df2 KX G,df2 KX G,df1 KX G,df2 KX G,df1 KX G,df2 KX G,df2 KX G,df2 KX G,df2 KX G,df2 KX G,df4 KX G,df4 KX G,df5 KX G,df5 KX G,df1 KX G,df5 KX G,df1 KX G,_,_,_,mgk KX G,LD,mkk,fnk,bd4,nF,nF,nF,nF,_,mgk KX G,_,mgk KX G,_,mgk KX G,_,mgk KX G,_,mgk KX G,_,mgk KX G,_,mgk KX G,_,mgk KX G,_,mgk KX G,_,mgk KX G,_,mgk KX G,_,mgk KX G,_,mgk KX G,_,_,_,mgk KX G,Gm,fnk,bd3,nF,nF,_,_,_,mgk KX G,Gm,fnk,bd3,nF,nF,_,_,_,mgk KX G,Gm,fnk,bd2,nF,krf,uo,krf,uo,krf,uo,uo,uo,uo,krf,krf,krf,krf,krf,krf,krf,krf,krf,krf,krf,krf,krf,krf,krf,krf,krf,krf,krf,krf,krf,krf,krf,krf,krf,krf,krf,krf,krf,krf,krf,krf,_,mgk KX G,_,mgk KX G,mgz KX G,mgz KX G,mgz KX G,mgz KX G,mgz KX G,mgz KX G,mgz KX G,mgz KX G,mgz KX G,mgz KX G,mgz KX G,mgz KX G,mgz KX G,mgz KX G,mgz KX G⟩ fun s v=>.of_eq rfl
