import PyProof.Rows.All
import Wide.All
import OpenK.AllK
import Wide.FinOn
import Lean
import PyProof.EqAt
import PyProof.EqKinds
import PyProof.TupleCall
import PyProof.NeKinds
import PySem.Challenge.RW_tracebook_k46_refused_lifts
local macro_rules | `(tactic| trivial) => `(tactic| decide +kernel)
theorem Th {α:Type} {a:α} {q:Prop}:a=a\/q:=Or.inl rfl
open Array renaming length_toList->MW,getElem?_eq_getElem->M1,getElem?_toList->Nr,getElem?_eq_some_iff->NI,getD_eq_getD_getElem?->N1,getElem?_eq_none->Oy
open Bool renaming false_ne_true->Mu,and_eq_true->NO,eq_iff_iff->NX,not_eq_true'->Pg,false_eq_true->QM
open Classical renaming not_forall->Ol,not_imp->OV,byContradiction->Po
open False renaming elim->Nh
open ForInStep renaming yield->O8
open Int renaming toNat_natCast->NT,emod_nonneg->Oh,add_mul_emod_self_left->QE,emod_lt_of_pos->QP,toNat->Q8,toNat_of_nonneg->SO,zero_add->S6
open Int.ofNat renaming inj->Ro
open List renaming length_map->LO,getElem?_eq_getElem->LP,getElem?_eq_some_iff->LQ,mem_of_getElem?->LR,getD_eq_getElem?_getD->LS,range->L4,mem_singleton->Md,getElem?_map->Mf,mem_cons_of_mem->Mh,mem_range->Mj,mem_map->Mm,mem_cons_self->Mn,length_append->Mo,replicate->Mv,mem_cons->My,length_take->Mz,all_eq_true->MA,mem_append->MC,take_of_length_le->MD,size_toArray->ME,idxOf_lt_length_of_mem->MI,take_add_one->MK,getElem?_append_right->MM,mem_append_right->MN,map_cons->MO,getElem?_append_left->MP,map_append->MQ,length_pos_iff->MR,length_range->MU,length_cons->MX,getElem?_of_mem->Ni,lookup_cons->Nk,nodup_cons->Nm,length_singleton->Nq,getElem_mem->Nu,pairwise_iff_getElem->Nv,mem_append_left->Nw,mem_filter->Nz,getElem?_eq_none->ND,take_length->NF,getElem?_set_self->NL,getElem?_take_of_lt->NS,getElem_idxOf->NY,pairwise_cons->NZ,getElem?_set_ne->N2,filterMap_cons->N7,mem_flatten->OB,map_map->OH,lookup_append->OI,length_filter_le->OK,append_nil->OQ,find?_cons->OR,replicate_succ->OZ,getElem?_range->O0,nodup_range->O5,pairwise_map->Pf,mem_of_mem_drop->Pl,mem_of_mem_take->Pm,lookup->Pt,map_congr_left->Pu,any_cons->PJ,length_nil->PK,range_succ->PX,filter_cons_of_neg->PY,ne_nil_of_mem->PZ,any_eq_false->P2,flatten_cons->P5,nodup_append->P6,idxOf_append->P9,all_eq_false->Qb,take_append_drop->Qg,getElem_inj->Qi,length_drop->Qj,any_eq_true->Qk,not_mem_nil->Ql,replicate_succ'->Qm,length_set->Qt,map_id->Qu,getElem_of_mem->Qv,perm_ext_iff_of_nodup->QD,nodup_nil->QU,append_assoc->Q3,ext_getElem?->Q6,idxOf_lt_length_iff->Q7,find?_range_eq_some->Rb,find?_range_eq_none->Rc,eq_of_mem_replicate->Rg,length->Rl,all_cons->Rm,length_eq_zero_iff->Rp,filter_cons_of_pos->Rv,getElem_map->RC,perm_middle->RF,pairwise_lt_range->RN,of_mem_zip->RW,forIn_cons->RZ,length_zip->R9,lookup_cons_self->Se,pairwise_append->Su,mem_iff_getElem->Sw,idxOf_cons_self->Sx,filter_sublist->SM,flatten_append->SN,map_nil->S5
open List.Pairwise renaming nil->Q5,filter->Sv
open Nat renaming le_refl->Mi,lt_of_lt_of_le->Ml,ne_of_lt->Mp,mod_lt->MF,lt_or_ge->MH,le_trans->Na,mod_eq_of_lt->Nc,zero_le->Nd,mul_le_mul_left->Np,div_lt_of_lt_mul->Nx,lt_of_le_of_lt->Ny,lt_irrefl->NG,add_mul_mod_self_left->NN,div_eq_of_lt->NQ,add_mul_div_left->N4,lt_succ_of_lt->Oa,lt_trichotomy->Ob,mul_pos->Oc,le_of_lt->Oe,eq_of_beq_eq_true->Og,lt_succ_self->Oi,zero_add->Ou,beq->Oz,add_comm->OG,add_zero->OJ,le_succ->OL,ne_of_gt->OX,mul_succ->OY,add_mod_mod->Pc,mul_zero->Pd,le_add_right->Pq,mul_comm->Py,div_add_mod->PV,dvd_of_mod_eq_zero->P0,mul_left_comm->Qa,lt_trans->Qf,add_assoc->Qq,eq_zero_or_pos->QK,mod_self->QN,add_sub_of_le->Rf,mul_add->Ru,le_of_not_lt->RB,div_div_eq_div_mul->RO,le_of_eq->RU,mod_add_div->Sf,mod_add_mod->Sg,zero_div->Si,zero_mod->Sj,mul_assoc->SW,sub_self->S7,div_pos->Tf
open Ne renaming symm->NV
open Option renaming getD_some->O4,map_some->Qw,isSome_iff_exists->Q2,map_eq_some_iff->RL
open Option.some renaming inj->ML
open Or renaming inl->Mg,inr->Pz
open PyProof.Rows renaming boot_isinstance->Mr,boot_list->Ng,callWith_type1->NA,boot_all->NU,boot_sorted->PD,boot_any->Qh,assignInOrder_cons->QG,AllBare->Ri,IntsAre->Rn,boot_range->Rw,subscriptTail_builtinR->RI,boot_int->Sk,Constant_none->SR
open PyProof.Rows.F renaming plain_set_update_loop->PU,entry_set_update_loop->Rt
open PySem renaming wpAny_bind->LN,Shared->LU,mainGlobals->LY,wpAny_pure->Mb,Program->Ms,boot_len->Mt,sizeLine->MB,Around->MY,starEach->MZ,mem_of_lookup->M0,FuncData->M9,wpAny_mono->Nj,wpAny_holding->Nl,Paired->Nt,sizeLine_eq->NJ,SetTable->N0,wpAny_truthy_bool->N8,wpAny_newObj_type->N9,codeAny_builtin->Of,wpAny_field->Oj,wpAny_call_entry->OA,codeAny_mono->OD,wpAny_Call_Name_kw->OE,codeAny_call_builtin->OM,wpAny_passesOwn->ON,wpAny_setState_of->OU,wpAny_callSpecial?_slot->O1,wpAny_execs_nil->O7,Builtin->O9,NameKind->Pe,wpAny_attempt->Ph,wpAny_loadPart_at->Pj,wpAny_comprehension_free->PB,wpAny_standAt->PF,wpAny_setField_rec->PN,plainId_quiet->PQ,wpAny_pyIter_list->P1,plainObj_wpAny_Assign_Attribute->P4,GenState->Qc,ZipApart->Qd,ExceptHandler->Qn,Within->QF,tupleKind_room_in1->QJ,wpAny_loadPart->QT,Result->QZ,wpAny_call->Q1,call_meets->Q4,BindsTo->Rk,wpAny_execs_cons->Rx,wpAny_lookBehind->Rz,pastItsLine_dict->RA,wpAny_pyIter_zip->RD,wpAny_isInstance->RE,wpAny_askSetting->RG,codeAny_compStart_list->RJ,richCompare_meets_room->RK,wpAny_nextOf_list_item->RM,wpAny_isTrue_Compare1->RQ,Keyword->RV,wpAny_pyNext_zip_item->R1,pushCells_keeps->R5,wpAny_typeOf->R8,codeAny_of_tree->Sb,builtinLookup_eq_fast->Sd,intKind_is->Sn,wpAny_pyNext_zip_end->Ss,IsPair->Sy,wpAny_setField->Sz,entryFor_alias->SA,wpAny_seqItems->SD,wpAny_isSubtype_exc->SK,wpAny_rule->SX,wpAny_nsSet1->S1,seqIndex_neg->S4,seqIndex_of->Tc,wpAny_alloc->Td,putSet_of->Te
open PySem.Around renaming under_plainId->N3,under->S2
open PySem.Builtin.Dict renaming updateFrom->Rq
open PySem.Builtin.List renaming listTooLong->Px,listExtendWith->Qz,listSameRef->Ra
open PySem.Builtin.Range renaming rangeSize->Rj
open PySem.Builtin.SmallTypes renaming ownedTupleIsFree->NR,nextOf->Pn
open PySem.Calls renaming Name_function_global->QC,evalArgs_plain->Sr
open PySem.Code renaming quiet_builtin->PL,isFrame->S3
open PySem.Data renaming cell->SS,fields->Tb
open PySem.EntryCells renaming newEntry->SG
open PySem.F renaming plainAttrs_list->MG,slot_list_append->M5,type_list_append->M7,slot_list_index->Om,type_list_index->O2,attrBase_ValueError->Pa,called_set->Pb,excBase_ValueError->Pk,slot_zip_getattribute->PM,slot_zip_next->Qy
open PySem.Heap renaming get?_push_of_some->LV,lt_size->Me,get?_push_size->Mx,get?_update_other->Nf,get?_update_self->NC,size_push->NW,SameBut->OW,get?_none_of_le->So
open PySem.Heap.Ns1 renaming of_empty->Q0
open PySem.Heap.SameBut renaming update->SJ
open PySem.NameKind renaming cell->NH,free->NP
open PySem.Obj renaming mapSeq->Pw,data_mapFields->QL,putSet->Q9,isFreed_of_fields->R6,mapFields->SU
open PySem.Paired renaming length->OC
open PySem.PassesOwn renaming never->Mq
open PySem.SeqAt renaming EqAt->SY
open PySem.SeqAt.EqAt renaming same->RX
open PySem.SetTable renaming below->M4,insertAt->OS,toList_insertAt->OT,bits->PR,turns->Qe,fits->Qp,grown->QV,fill->Rr,runEnd->Sa,probeStart->SH,layClean->S0,probe->Tg
open PySem.SetTable.below renaming go->P7
open PySem.SetTable.layClean renaming free->O6
open PySem.SetTable.probe renaming go->P8
open PySem.Shared renaming TypeIs->SV
open PySem.Str renaming ofString->N6,empty->RT
open PySem.Value renaming ref->Mw,none->Ov,int->O3,bool->Sl,type->Sm,str->SQ,float->Ta
open PySem.W renaming Frag->LM,keepIn->LW,nsIn->LX,mg_of->LZ,codeIn->L9,findIn->Ma,fnOf->Mc,kitOne->MJ,emptyDict->MT,mg_none_of->M8,hasDictIn->Nb,exmOne->Nn,kia_one->NB,looks_findIn->NK,plainGet->N5,mroIn->Od,excIn->Oo,Looks->Oq,isFn->Ot,plainOver->Ow,instObj->Ox,callWith_K->OF,makesIn->OO,specialIn->OP,any_some->Pp,looks_clsIn->Pr,clsIn->Qo,plainGet_of->Qr,takesIn->Qs,looks_mroIn->Qx,lookIn->QQ,InstAt->QR,methodObj->QW,set_plain->QX,handedIn->Ry,cellsFrom_some->RH,takerIn->RS,OpenLaw->RY,methodCall_KW->R7,findObj_own->SE
open PySem.W.Looks renaming here->QI
open PySem.Within renaming cons->QY
open PySem.pickOrder renaming go->S8
open Sum renaming inr->Rh,inl->RP
open Sum.inl renaming inj->S9
open True renaming intro->NM
set_option Elab.async false
set_option linter.all false
set_option maxRecDepth 100000
namespace L2
open PySem PySem.Spec PyProof.Rows
abbrev Key:=Sum Int Str
def tV:Key->Value->Bool
 | .inl k,v=>Value.isInt k v
 | .inr x,v=>Value.isStrOf x v
def LI (w:World):Key->Int
 | .inl k=>hashInt k
 | .inr x=>hashStr w x
theorem dS:∀ {k:Key} {v:Value},tV k v=true->(∃ i t,k=RP i/\v=O3 i t)\/(∃ x t,k=Rh x/\v=SQ x t)
 | .inl i,v,h=>by
  obtain ⟨t,e⟩:=Value.isInt_shape (k:=i) (v:=v) h;exact .inl ⟨i,t,rfl,e⟩
 | .inr x,v,h=>by
  obtain ⟨t,e⟩:=Value.isStrOf_shape (x:=x) (v:=v) h;exact .inr ⟨x,t,rfl,e⟩
theorem FP (i:Int) (t:Tok):tV (.inl i) (.int i t)=true:=by simp [tV,Value.isInt]
theorem EA (x:Str) (t:Tok):tV (.inr x) (.str x t)=true:=by simp [tV,Value.isStrOf]
theorem Kc (a b:Int):decide ((RP a:Key)=RP b)=(a == b):=by
 by_cases e:a=b
 ·subst e;simp
 ·have h:¬ (RP a:Key)=RP b:=fun q=>e (S9 q);rw [decide_eq_false h];exact (beq_eq_false_iff_ne.mpr e).symm
theorem J5 (a b:Str):decide ((Rh a:Key)=Rh b)=decide (a=b):=by
 by_cases e:a=b
 ·subst e;simp
 ·have h:¬ (Rh a:Key)=Rh b:=fun q=>e (Rh.inj q);rw [decide_eq_false h,decide_eq_false e]
theorem J4 (a:Int) (b:Str):decide ((RP a:Key)=Rh b)=false:=decide_eq_false (fun q=>nomatch q)
theorem Ka (a:Str) (b:Int):decide ((Rh a:Key)=RP b)=false:=decide_eq_false (fun q=>nomatch q)
def dz (prog:Ms) (w:World):PySem.KeyKind prog w Key where
 is:=tV
 hash:=LI w
 inj:=fun v a b ha hb=>by
  rcases dS ha with ⟨i,t,rfl,rfl⟩|⟨x,t,rfl,rfl⟩
  ·rcases dS hb with ⟨j,u,rfl,e⟩|⟨y,u,rfl,e⟩
   ·injection e with e1 _;rw [e1]
   ·exact nomatch e
  ·rcases dS hb with ⟨j,u,rfl,e⟩|⟨y,u,rfl,e⟩
   ·exact nomatch e
   ·injection e with e1 _;rw [e1]
 byValue:=fun k v h=>by
  rcases dS h with ⟨i,t,rfl,rfl⟩|⟨x,t,rfl,rfl⟩ <;> rfl
 pyHash:=fun hv h=>by
  rcases dS hv with ⟨i,t,rfl,rfl⟩|⟨x,t,rfl,rfl⟩
  ·exact wpAny_pyHash_int h
  ·exact wpAny_pyHash_str h
 eqBool:=fun hu hv h=>by
  rcases dS hu with ⟨i,t,rfl,rfl⟩|⟨x,t,rfl,rfl⟩
  ·rcases dS hv with ⟨j,u,rfl,rfl⟩|⟨y,u,rfl,rfl⟩
   ·rw [Kc] at h;exact wpAny_eqBool_int h
   ·rw [J4] at h;exact SeqAt.EqAt.int_str i t y u _ _ _ _ h
  ·rcases dS hv with ⟨j,u,rfl,rfl⟩|⟨y,u,rfl,rfl⟩
   ·rw [Ka] at h;exact SeqAt.EqAt.str_int x t j u _ _ _ _ h
   ·rw [J5] at h;exact wpAny_eqBool_str h
 «strs»:=fun k x t v h=>by
  rcases dS h with ⟨i,u,rfl,e⟩|⟨y,u,rfl,e⟩
  ·exact nomatch e
  ·injection e with e1 _;subst e1;cases v <;> rfl
theorem Bo (prog:Ms) (w:World) (i:Int) (t:Tok):(dz prog w).is (.inl i) (.int i t)=true:=FP i t
theorem BK (prog:Ms) (w:World) (x:Str) (t:Tok):(dz prog w).is (.inr x) (.str x t)=true:=EA x t
inductive V where
 | non|bl (b:Bool)|int (i:Int)|str (x:Str)|byt (b:Array UInt8)|flt (b:UInt64)|ref (a:Addr)|ty (n:String)
 deriving DecidableEq
def RelV:V->Value->Prop
 | .non,u=>u=Ov
 | .bl b,u=>u=Sl b
 | .int i,u=>∃ t,u=O3 i t
 | .str x,u=>∃ t,u=SQ x t
 | .byt b,u=>∃ t,u=Value.bytes b t
 | .flt b,u=>∃ t,u=Ta b t
 | .ref a,u=>u=Mw a
 | .ty n,u=>u=Sm n
abbrev Vals:List V->List Value->Prop:=Nt RelV
theorem Vals.length {xs:List V} {us:List Value} (r:Vals xs us):xs.length=us.length:=OC r
theorem Vals.get:∀ {xs:List V} {us:List Value} {i:Nat} {x:V},Vals xs us->xs[i]?=some x->∃ u,us[i]?=some u/\RelV x u
 | _,_,_,_,.nil,e=>by simp at e
 | _,_,0,_,.cons r _,e=>by simp at e;subst e;exact ⟨_,rfl,r⟩
 | _,_,i+1,x,.cons _ t,e=>by
  obtain ⟨u,h1,h2⟩:=Vals.get (i:=i) (x:=x) t (by simpa using e)
  exact ⟨u,by simpa using h1,h2⟩
theorem Vals.set {x:V} {u:Value} (r:RelV x u):∀ {xs:List V} {us:List Value} (i:Nat),Vals xs us->Vals (xs.set i x) (us.set i u)
 | _,_,_,.nil=>.nil
 | _,_,0,.cons _ t=>.cons r t
 | _,_,i+1,.cons q t=>.cons q (Vals.set r i t)
theorem Vals.append:∀ {xs ys:List V} {us ws:List Value},Vals xs us->Vals ys ws->Vals (xs++ys) (us++ws)
 | _,_,_,_,.nil,s=>s
 | _,_,_,_,.cons r t,s=>.cons r (Vals.append t s)
theorem Vals.take:∀ {xs:List V} {us:List Value} (n:Nat),Vals xs us->Vals (xs.take n) (us.take n)
 | _,_,0,_=>.nil
 | _,_,_+1,.nil=>.nil
 | _,_,n+1,.cons r t=>.cons r (Vals.take n t)
theorem Vals.drop:∀ {xs:List V} {us:List Value} (n:Nat),Vals xs us->Vals (xs.drop n) (us.drop n)
 | _,_,0,r=>r
 | _,_,_+1,.nil=>.nil
 | _,_,n+1,.cons _ t=>Vals.drop n t
def iF:Option V->Option Value->Prop
 | some v,some u=>RelV v u
 | none,none=>True
 | _,_=>False
def KV {κ:Type}:List (κ×V)->List (κ×Value)->Prop:=Nt fun (p:κ×V) (q:κ×Value)=>p.1=q.1/\RelV p.2 q.2
def kV:Key->V
 | .inl i=>.int i
 | .inr x=>.str x
inductive HO where
  | lst (xs:List V)
  | tup (xs:List V)
  | dK (kvs:List (Key×V))|dT (kvs:List (List Key×V))
  | set (S:Int->Bool) (n:Nat)
  | ins (C dx:Addr) (fs:List (Str×V))
  | own (x:Addr)
  | xd (fs:List (Str×V))
  | met (f x:Addr)
  | rng (lo hi:Int)
  | frz (o:Obj) (u:HO)
  | tbl (ps:Array Value)
  | ext (φ:Heap->Prop)
abbrev Hp:=Addr->Option HO
def upd (H:Hp) (a:Addr) (o:HO):Hp:=fun b=>if b=a then some o else H b
theorem ao {H:Hp} {a:Addr} {o:HO}:upd H a o a=some o:=by unfold upd;rw [if_pos rfl]
theorem aq {H:Hp} {a b:Addr} {o:HO} (h:b≠a):upd H a o b=H b:=by unfold upd;rw [if_neg h]
theorem Jr {H:Hp} {a:Addr} {o u:HO}:upd (upd H a o) a u=upd H a u:=by
 funext b;unfold upd;split <;> rfl
theorem Lp {H:Hp} {a b:Addr} {o u:HO} (h:H a=some o) (h':H b=some u) (d:o≠u):a≠b:=by
 intro e;subst e;rw [h] at h';exact d (ML h')
theorem aA {H:Hp} {a b:Addr} {o:HO} (h:H a=some o) (h':H b=none):a≠b:=by
 intro e;subst e;rw [h] at h';cases h'
section
variable (P:Ms) (w:World)
def bB (H:Hp) (h:Heap) (a:Addr):HO->Prop
 | .lst xs=>xs.length<=MB/\∃ (its:List Value) (n:Nat),Vals xs its/\h.get? a=some { cls:=.type "list",data:=.seq its.toArray n }
 | .tup xs=>xs.length<=MB/\∃ its:List Value,Vals xs its/\IsTup h a its.toArray
 | .dK kvs=>kvs.length<=MB/\(a == sysModules)=false/\∃ vs,KV kvs vs/\h.DictOf (dz P w) a vs
 | .dT kvs=>kvs.length<=MB/\(a == sysModules)=false/\∃ xs:List (List Key×Addr×Value),
   Nt (fun (p:List Key×V) (q:List Key×Addr×Value)=>p.1=q.1/\H q.2.1=some (.tup (p.1.map kV))/\RelV p.2 q.2.2) kvs xs /\
   ∃ o es ep,h.get? a=some o/\o.ExactDict/\o.data=.dict es ep/\es.toList=xs.map (entryOfKey (tupleKind (dz P w)))/\(xs.map (·.1)).Nodup
 | .set S n=>h.SetOf (intKind P w) a S n
 | .ins C dx fs=>H dx=some (.own a)/\fs.length<=1000/\dx≠a/\h.get? a=some (Ox C dx) /\
   ∃ mA,h.Ns1 dx mA/\(∀ f,iF (fs.lookup f) (mA f))/\QF mA (fs.map (·.1))
 | .own _=>∃ o,h.get? a=some o
 | .xd fs=>∃ mA,h.Ns1 a mA/\∀ f,iF (fs.lookup f) (mA f)
 | .rng lo hi=>∃ t u v,h.get? a=some { cls:=.type "range",data:=.fields #[.int lo t,.int hi u,.int 1 v] }
 | .frz o u=>h.get? a=some o/\bB H h a u
 | .tbl ps=>h.get? a=some { cls:=.none,data:=.fields ps }
 | .met f x=>h.get? a=some (QW (.ref f) (.ref x))
 | .ext φ=>φ h/\(∃ o,h.get? a=some o)/\∀ h1 h2:Heap,φ h1->(∀ o,h1.get? a=some o->h2.get? a=some o)->φ h2
def HOk (H:Hp) (h:Heap):Prop:=∀ a o,H a=some o->bB P w H h a o
end
section
variable {P:Ms} {w:World} {H H':Hp} {h h':Heap} {a:Addr} {o:HO}
theorem bB.lt (x:bB P w H h a o):a<h.objs.size:=by
 cases o with
 | lst xs=>obtain ⟨_,_,_,_,e⟩:=x;exact Me e
 | tup xs=>obtain ⟨_,_,_,p⟩:=x;exact p.lt
 | dK kvs=>obtain ⟨_,_,_,_,o,_,_,e,_⟩:=x;exact Me e
 | dT kvs=>obtain ⟨_,_,_,_,o,_,_,e,_⟩:=x;exact Me e
 | set S n=>obtain ⟨o,_,_,_,e,_⟩:=x;exact Me e
 | ins C dx fs=>obtain ⟨_,_,_,e,_⟩:=x;exact Me e
 | own y=>obtain ⟨_,e⟩:=x;exact Me e
 | xd fs=>obtain ⟨_,⟨_,_,_,e,_⟩,_⟩:=x;exact Me e
 | rng lo hi=>obtain ⟨_,_,_,e⟩:=x;exact Me e
 | frz ob u=>obtain ⟨e,_⟩:=x;exact Me e
 | tbl ps=>exact Me (show h.get? a=some _ from x)
 | met f y=>exact Me (show h.get? a=some _ from x)
 | ext φ=>obtain ⟨_,⟨_,e⟩,_⟩:=x;exact Me e
theorem Paired.dY {α β:Type} {F G:α->β->Prop}:∀ {l₁:List α} {l₂:List β},Nt F l₁ l₂->(∀ a b,F a b->G a b)->Nt G l₁ l₂
 | _,_,.nil,_=>.nil
 | _,_,.cons r t,f=>.cons (f _ _ r) (Paired.dY t f)
theorem bB.oi (x:bB P w H h a o) (k:∀ b u,(b=a\/H b=some (.own a))->h.get? b=some u->h'.get? b=some u)
  (ho:∀ b,H b=some (.own a)->H' b=some (.own a)) (ht:∀ b xs,H b=some (.tup xs)->H' b=some (.tup xs)):bB P w H' h' a o:=by
 induction o with
 | lst xs=>obtain ⟨z,its,n,r,e⟩:=x;exact ⟨z,its,n,r,k _ _ (.inl rfl) e⟩
 | tup xs=>obtain ⟨z,its,r,ob,e,c⟩:=x;exact ⟨z,its,r,ob,k _ _ (.inl rfl) e,c⟩
 | dK kvs=>obtain ⟨z,y,vs,r,ob,es,ep,e,c⟩:=x;exact ⟨z,y,vs,r,ob,es,ep,k _ _ (.inl rfl) e,c⟩
 | dT kvs =>
  obtain ⟨z,y,xs,r,ob,es,ep,e,c⟩:=x;exact ⟨z,y,xs,Paired.dY r fun p q z=>⟨z.1,ht _ _ z.2.1,z.2.2⟩,ob,es,ep,k _ _ (.inl rfl) e,c⟩
 | set S n=>obtain ⟨ob,es,ep,t,e,c⟩:=x;exact ⟨ob,es,ep,t,k _ _ (.inl rfl) e,c⟩
 | ins C dx fs =>
  obtain ⟨d,z,ne,e,mA,⟨od,es,ep,e2,c⟩,r⟩:=x;exact ⟨ho _ d,z,ne,k _ _ (.inl rfl) e,mA,⟨od,es,ep,k _ _ (.inr d) e2,c⟩,r⟩
 | own y=>obtain ⟨ob,e⟩:=x;exact ⟨ob,k _ _ (.inl rfl) e⟩
 | xd fs=>obtain ⟨mA,⟨od,es,ep,e,c⟩,r⟩:=x;exact ⟨mA,⟨od,es,ep,k _ _ (.inl rfl) e,c⟩,r⟩
 | rng lo hi=>obtain ⟨t,u,v,e⟩:=x;exact ⟨t,u,v,k _ _ (.inl rfl) e⟩
 | frz ob u ih=>obtain ⟨e,q⟩:=x;exact ⟨k _ _ (.inl rfl) e,ih q⟩
 | tbl ps =>
  have e:h.get? a=some { cls:=.none,data:=.fields ps }:=x;show h'.get? a=some { cls:=.none,data:=.fields ps };exact k a _ (.inl rfl) e
 | met f y =>
  have e:h.get? a=some (QW (.ref f) (.ref y)):=x;show h'.get? a=some (QW (.ref f) (.ref y));exact k a _ (.inl rfl) e
 | ext φ=>obtain ⟨p,⟨o,e⟩,st⟩:=x;exact ⟨st _ _ p fun o q=>k _ _ (.inl rfl) q,⟨o,k _ _ (.inl rfl) e⟩,st⟩
theorem HOk.lt (x:HOk P w H h) (e:H a=some o):a<h.objs.size:=(x a o e).lt
theorem HOk.fresh (x:HOk P w H h) (e:h.objs.size<=a):H a=none:=by
 cases q:H a with
 | none=>rfl
 | some u=>exact absurd (Ml (x.lt q) e) (NG _)
theorem HOk.kept (x:HOk P w H h) (k:∀ b u,h.get? b=some u->h'.get? b=some u):HOk P w H h':=fun a o e =>
 (x a o e).oi (fun b u _ q=>k b u q) (fun _ q=>q) fun _ _ q=>q
theorem HOk.laid (x:HOk P w H h) (k:∀ b u,h.get? b=some u->h'.get? b=some u) (hp:h.objs.size<=a) (new:bB P w (upd H a o) h' a o):HOk P w (upd H a o) h':=fun b u e=>by
 have hn:=x.fresh hp
 by_cases hb:b=a
 ·subst hb;rw [ao] at e;cases e;exact new
 ·rw [aq hb] at e;exact (x b u e).oi (fun c v _ q=>k c v q) (fun c q=>by rw [aq (aA q hn)];exact q) fun c xs q=>by rw [aq (aA q hn)];exact q
end
def Rd (H:Hp) (a:Addr) (u:HO):Prop:=H a=some u\/∃ o,H a=some (.frz o u)
theorem Rd.ok {P:Ms} {w:World} {H:Hp} {h:Heap} {a:Addr} {u:HO} (r:Rd H a u) (x:HOk P w H h):bB P w H h a u:=by
 rcases r with r|⟨o,r⟩
 ·exact x a u r
 ·obtain ⟨_,q⟩:=x a _ r;exact q
def Mut:Option HO->Prop
 | some (.lst _)=>True
 | some (.dK _)=>True
 | some (.dT _)=>True
 | some (.set _ _)=>True
 | some (.ins _ _ _)=>True
 | some (.ext _)=>True
 | _=>False
section
variable {P:Ms} {w:World} {H:Hp} {h h':Heap} {x e:Addr} {o':HO}
theorem HOk.write (ok:HOk P w H h) (mu:Mut (H x)) (he:e=x\/H e=some (.own x)) (k:∀ b u,b≠e->h.get? b=some u->h'.get? b=some u) (heo:∃ u,h'.get? e=some u)
  (new:bB P w (upd H x o') h' x o'):HOk P w (upd H x o') h':=fun b u q=>by
 have nown:∀ c y,H c=some (.own y)->c≠x:=fun c y r z=>by subst z;rw [r] at mu;exact mu
 have ntup:∀ c xs,H c=some (.tup xs)->c≠x:=fun c xs r z=>by subst z;rw [r] at mu;exact mu
 by_cases hb:b=x
 ·subst hb;rw [ao] at q;cases q;exact new
 ·rw [aq hb] at q
  by_cases hbe:b=e
  ·have q':H b=some (.own x):=by
    rcases he with z|z
    ·exact absurd (hbe.trans z) hb
    ·rw [hbe];exact z
   rw [q] at q';cases q';obtain ⟨v,hv⟩:=heo;exact ⟨v,by rw [hbe];exact hv⟩
  ·refine (ok b u q).oi (fun c v hc r=>k c v ?_ r) (fun c r=>by rw [aq (nown c b r)];exact r) fun c xs r=>by rw [aq (ntup c xs r)];exact r
   rcases hc with rfl|hc
   ·exact hbe
   ·rintro rfl;rcases he with z|z
    ·exact nown c b hc z
    ·rw [hc] at z;cases z;exact hb rfl
end
structure Un (fs ex:List Addr) (H H':Hp) (h h':Heap):Prop where
 keep:∀ b o,h.get? b=some o->H b=none->b∉fs->b∉ex->h'.get? b=some o
 slot:∀ b o,h.get? b=some o->H b=none->b∈fs->b∉ex->∃ sl,h'.get? b=some { o with slots:=sl }
 free:∀ b o,h.get? b=some o->H b=none->b∉ex->H' b=none
 there:∀ b o,h.get? b=some o->b∉ex->∃ o',h'.get? b=some o'
 jP:∀ b xs,H b=some (.tup xs)->H' b=some (.tup xs)
 i8:∀ b o u,H b=some (.frz o u)->H' b=some (.frz o u)
 jQ:∀ b ps,H b=some (.tbl ps)->∃ more,H' b=some (.tbl (ps++more))
section
variable {fs fs' ex ex':List Addr} {H H1 H2:Hp} {h h1 h2 h':Heap} {a x e:Addr} {o:HO}
theorem Un.any (u:Un fs ex H H1 h h1) {b:Addr} {ob:Obj} (q:h.get? b=some ob) (n:H b=none) (hx:b∉ex):∃ sl,h1.get? b=some { ob with slots:=sl }:=by
 by_cases hb:b∈fs
 ·exact u.slot b ob q n hb hx
 ·exact ⟨ob.slots,u.keep b ob q n hb hx⟩
theorem Un.trans (a:Un fs ex H H1 h h1) (b:Un fs ex H1 H2 h1 h2):Un fs ex H H2 h h2 where
 keep:=fun c ob q n hc hx=>b.keep c ob (a.keep c ob q n hc hx) (a.free c ob q n hx) hc hx
 slot:=fun c ob q n hc hx=>by
  obtain ⟨sl,e1⟩:=a.slot c ob q n hc hx;obtain ⟨sl',e2⟩:=b.slot c _ e1 (a.free c ob q n hx) hc hx;exact ⟨sl',e2⟩
 free:=fun c ob q n hx=>by
  obtain ⟨o',e1⟩:=a.there c ob q hx;exact b.free c o' e1 (a.free c ob q n hx) hx
 there:=fun c ob q hx=>by
  obtain ⟨o',e1⟩:=a.there c ob q hx;exact b.there c o' e1 hx
 jP:=fun c xs q=>b.jP c xs (a.jP c xs q)
 i8:=fun c ob xs q=>b.i8 c ob xs (a.i8 c ob xs q)
 jQ:=fun c ps q=>by
  obtain ⟨m1,e1⟩:=a.jQ c ps q;obtain ⟨m2,e2⟩:=b.jQ c _ e1;exact ⟨m1++m2,by rw [e2,Array.append_assoc]⟩
theorem Un.kept (k:∀ b u,h.get? b=some u->h'.get? b=some u):Un fs ex H H h h' :=
 ⟨fun b ob q _ _ _=>k b ob q,fun b ob q _ _ _=>⟨ob.slots,k b ob q⟩,fun _ _ _ n _=>n,fun b ob q _=>⟨ob,k b ob q⟩,fun _ _ q=>q,fun _ _ _ q=>q,fun _ ps q=>⟨#[],by rw [q];simp⟩⟩
theorem Un.refl:Un fs ex H H h h:=Un.kept fun _ _ q=>q
theorem Un.laid (k:∀ b u,h.get? b=some u->h'.get? b=some u) (hp:h.objs.size<=a) (hn:H a=none):Un fs ex H (upd H a o) h h' where
 keep:=fun b u q _ _ _=>k b u q
 slot:=fun b u q _ _ _=>⟨u.slots,k b u q⟩
 free:=fun b u q n _=>by rw [aq (Mp (Ml (Me q) hp))];exact n
 there:=fun b u q _=>⟨u,k b u q⟩
 jP:=fun b xs q=>by rw [aq (aA q hn)];exact q
 i8:=fun b u xs q=>by rw [aq (aA q hn)];exact q
 jQ:=fun b ps q=>⟨#[],by rw [aq (aA q hn),q];simp⟩
theorem Un.write (mu:Mut (H x)) (he:e=x\/H e=some (.own x)) (k:∀ b u,b≠e->h.get? b=some u->h'.get? b=some u) (heo:∃ u,h'.get? e=some u):Un fs ex H (upd H x o) h h':=by
 have hx:∀ b,H b=none->b≠x:=fun b n z=>by subst z;rw [n] at mu;exact mu
 have hb:∀ b,H b=none->b≠e:=fun b n z=>by
  subst z;rcases he with r|r
  ·exact hx b n r
  ·rw [n] at r;cases r
 have hm:∀ b u,H b=some u->¬ Mut (some u)->b≠x:=fun b u q nm z=>by subst z;rw [q] at mu;exact nm mu
 refine ⟨fun b u q n _ _=>k b u (hb b n) q,fun b u q n _ _=>⟨u.slots,k b u (hb b n) q⟩,fun b u q n _=>by rw [aq (hx b n)];exact n,fun b u q _=>?_,
  fun b xs q=>by rw [aq (hm b _ q fun z=>z)];exact q,fun b u xs q=>by rw [aq (hm b _ q fun z=>z)];exact q,fun b ps q=>⟨#[],by rw [aq (hm b _ q fun z=>z),q];simp⟩⟩
 by_cases hbe:b=e
 ·subst hbe;exact heo
 ·exact ⟨u,k b u hbe q⟩
theorem Un.mono (u:Un fs ex H H1 h h1) (hs:∀ b∈fs,b∈fs') (hx:∀ b∈ex,b∈ex'):Un fs' ex' H H1 h h1 :=
 ⟨fun b ob q n hb he=>u.keep b ob q n (fun z=>hb (hs b z)) fun z=>he (hx b z),fun _ _ q n _ he=>u.any q n fun z=>he (hx _ z),fun b ob q n he=>u.free b ob q n fun z=>he (hx b z),fun b ob q he=>u.there b ob q fun z=>he (hx b z),u.jP,u.i8,u.jQ⟩
end
def trk (h:Heap) (H:Hp):List Addr:=(L4 h.objs.size).filter fun a=>(H a).isSome
def qM (h:Heap) (H:Hp):Heap:=PySem.W.hideAll h (trk h H)
theorem Fq (h:Heap) (H:Hp):(qM h H).objs.size=h.objs.size:=PySem.W.hideAll_size _ _
theorem Hn {h:Heap} {H:Hp} {b:Addr} {o:Obj} (e:h.get? b=some o) (n:H b=none):(qM h H).get? b=some o :=
 PySem.W.hideAll_get _ e fun hm=>by
  have q:(H b).isSome=true:=(Nz.mp hm).2;rw [n] at q;simp at q
theorem IL {h:Heap} {H:Hp} {b:Addr} {o:Obj} (e:(qM h H).get? b=some o):h.get? b=some o/\H b=none:=by
 have e':h.get? b=some o:=PySem.W.of_hideAll (trk h H) e;refine ⟨e',?_⟩;cases q:H b with
 | none=>rfl
 | some x =>
  have hm:b∈trk h H:=Nz.mpr ⟨Mj.mpr (Me e'),by simp [q]⟩
  have z:(qM h H).get? b=none:=PySem.W.hideAll_none (trk h H) hm;rw [z] at e;cases e
structure Mod (K:LM) (mg:Str->Option Value) (base:Heap):Prop where
 kin:K.In base
 glob:base.Ns LY mg
 blt:∃ mb,base.Ns builtinsNs mb/\∀ x:Str,x ≠ "__name__" -> mb x=bootBuiltins x
 nolimit:base.NoLimit
structure Cx where
 prog:Ms
 w:World
 K:LM
 mg:Str->Option Value
 base:Heap
 A:MY
 N:List Str
 s₀:LU
 H₀:Hp
 env:Env
 outer:List Env
 stack:List Env
 ex:List Addr
 fn:Str->Bool
 calm:Bool
 pn:List (Addr×Obj)
 xe:Value->LU->Prop
def frs (l:List Env):List Addr:=l.filterMap (·.frame)
abbrev Cx.fs (X:Cx):List Addr:=frs X.outer
def Vis (sc:Scope) (x:Str):Prop:=sc.names.lookup x=some .local\/sc.names.lookup x=some .cell\/sc.names.lookup x=some .free
def Loc (sc:Scope) (x:Str):Prop:=sc.names.lookup x=some .local\/sc.names.lookup x=some .cell
def Look (env:Env) (h:Heap) (m:Str->Option Value) (x:Str) (u:Value):Prop :=
 (env.kindOf x=some .local/\m x=some u)\/((env.kindOf x=some .cell\/env.kindOf x=some .free)/\∃ c,env.cells.lookup x=some c/\h.IsCell c (some u))
structure Cx.Ok (X:Cx):Prop where
 mod:Mod X.K X.mg X.base
 kind:X.env.scope.kind=.function
 glob:X.env.globals=LY
 blt:X.env.builtins=builtinsNs
 above:X.s₀.heap.objs.size<=X.env.locals
 inj:∀ x y c,X.env.cells.lookup x=some c->X.env.cells.lookup y=some c->x=y
 has:∀ x,(X.env.kindOf x=some .cell\/X.env.kindOf x=some .free)->∃ c,X.env.cells.lookup x=some c
 cab:∀ x c,X.fn x=true->X.env.cells.lookup x=some c->X.s₀.heap.objs.size<=c
 hd:X.calm=true->X.A.handled=none
 frames:X.A.frames=some X.stack
 stk:X.stack=X.outer\/(X.stack=X.env :: X.outer/\X.env.frame=some X.env.locals)
 exf:∀ b∈X.ex,b≠X.env.locals/\∀ x c,X.env.cells.lookup x=some c->c≠b
 bs:∀ b o,X.base.get? b=some o->X.s₀.heap.get? b=some o/\X.H₀ b=none
 bsz:X.base.objs.size<=X.s₀.heap.objs.size
 u5:∀ b o,X.base.get? b=some o->b∉X.ex
 sM:∀ b∈X.ex,b∉X.fs
 gf:X.s₀.heap.FunFrames X.base X.outer
 frf:∀ b∈X.fs,X.H₀ b=none
structure Inv (X:Cx) (pins:List (Addr×Obj)) (σ:List (Option V)) (H:Hp) (s:LU):Prop where
 ok:X.Ok
 os:s.os=X.s₀.os
 bare:Ri s.gens
 base:Un X.fs X.ex X.H₀ H X.s₀.heap s.heap
 loc:∃ m,s.heap.Ns X.env.locals m/\∀ (i:Nat) (x:Str) (v:V),X.N[i]?=some x->σ[i]?=some (some v)->Vis X.env.scope x->∃ u,RelV v u/\Look X.env s.heap m x u
 cell:∀ x c,X.env.cells.lookup x=some c->∃ v,s.heap.IsCell c v
 free:H X.env.locals=none
 fC:∀ x c,X.env.cells.lookup x=some c->H c=none
 pin:∀ p∈X.pn++pins,s.heap.get? p.1=some p.2/\H p.1=none/\p.1≠X.env.locals/\p.1∉X.fs/\∀ v,p.2.data≠.cell v
 hok:HOk X.prog X.w H s.heap
 len:σ.length=X.N.length
section
variable {X:Cx} {pins:List (Addr×Obj)} {σ:List (Option V)} {H H':Hp} {s:LU} {h':Heap}
theorem Cx.Ok.LH (ok:X.Ok) {b:Addr} {o:Obj} (e:X.base.get? b=some o):b∉X.fs:=fun hb=>by
 have:=(ok.gf.mem hb).1;rw [e] at this;cases this
theorem Inv.bs (I:Inv X pins σ H s):∀ b o,X.base.get? b=some o->s.heap.get? b=some o/\H b=none:=fun b o e =>
 ⟨I.base.keep b o (I.ok.bs b o e).1 (I.ok.bs b o e).2 (I.ok.LH e) (I.ok.u5 b o e),I.base.free b o (I.ok.bs b o e).1 (I.ok.bs b o e).2 (I.ok.u5 b o e)⟩
theorem Inv.bk (I:Inv X pins σ H s):∀ b o,X.base.get? b=some o->s.heap.get? b=some o:=fun b o e=>(I.bs b o e).1
theorem Inv.mod (I:Inv X pins σ H s):Mod X.K X.mg X.base:=I.ok.mod
theorem Inv.kIn (I:Inv X pins σ H s):X.K.In s.heap:=I.ok.mod.kin.keeps I.bk
theorem Inv.lt (I:Inv X pins σ H s):X.env.locals<s.heap.objs.size:=let ⟨_,hn,_⟩:=I.loc;hn.lt
theorem Inv.sz (I:Inv X pins σ H s):X.s₀.heap.objs.size<=s.heap.objs.size:=Na I.ok.above (Oe I.lt)
theorem Inv.LJ (I:Inv X pins σ H s) {a:Addr} (h:s.heap.objs.size<=a):a∉X.fs:=fun hb=>by
 obtain ⟨_,o,ho,_⟩:=I.ok.gf.mem hb;exact absurd (Ml (Me ho) (Na I.sz h)) (NG _)
theorem Inv.cne (I:Inv X pins σ H s):∀ x c,X.env.cells.lookup x=some c->c≠X.env.locals:=fun x c e z=>by
 obtain ⟨v,o,ho,hd⟩:=I.cell x c e;obtain ⟨m,⟨o',es,ep,ho',hd',_⟩,_⟩:=I.loc;rw [z,ho'] at ho;cases ho;rw [hd'] at hd;cases hd
theorem Inv.gf (I:Inv X pins σ H s):s.heap.FunFrames X.base X.outer:=by
 have all:∀ (l:List Env),(∀ b∈frs l,b∈X.fs)->X.s₀.heap.FunFrames X.base l->s.heap.FunFrames X.base l:=by
  intro l
  induction l with
  | nil=>intro _ _;trivial
  | cons env r ih =>
   intro hs hl;obtain ⟨hk,⟨L,o,hf,hn,ho,hd⟩,hr⟩:=hl;have hL:L∈X.fs:=hs L (by unfold frs;rw [N7,hf];exact Mn)
   obtain ⟨sl,e⟩:=I.base.slot L o ho (I.ok.frf L hL) hL fun z=>I.ok.sM L z hL;exact ⟨hk,⟨L,_,hf,hn,e,hd⟩,ih (fun b hb=>hs b (by unfold frs;rw [N7,hf];exact Mh _ hb)) hr⟩
 exact all X.outer (fun _ hb=>hb) I.ok.gf
theorem Inv.stack (I:Inv X pins σ H s):s.heap.FunFrames X.base X.stack:=by
 rcases I.ok.stk with e|⟨e,hf⟩
 ·rw [e];exact I.gf
 ·rw [e];obtain ⟨m,hn,_⟩:=I.loc;refine .cons (by rw [I.ok.kind];decide) hf hn ?_ I.gf
  exact So (Na I.ok.bsz I.ok.above)
theorem Inv.sZ (I:Inv X pins σ H s):∀ b∈frs X.stack,b∈X.env.locals :: X.fs:=fun b hb=>by
 rcases I.ok.stk with e|⟨e,hf⟩
 ·rw [e] at hb;exact Mh _ hb
 ·rw [e] at hb;unfold frs at hb;rw [N7,hf] at hb;exact hb
theorem Inv.wW (I:Inv X pins σ H s):∀ b∈frs X.stack,H b=none:=fun b hb=>by
 rcases My.mp (I.sZ b hb) with e|hb
 ·rw [e];exact I.free
 ·obtain ⟨_,o,ho,_⟩:=I.ok.gf.mem hb;exact I.base.free b o ho (I.ok.frf b hb) fun z=>I.ok.sM b z hb
theorem Inv.step {g':Array Qc} {t':Nat} {d':Drawn} {ch:List Addr} (I:Inv X pins σ H s)
  (hch:∀ b∈ch,(b∈X.ex\/X.s₀.heap.objs.size<=b)/\b≠X.env.locals/\(∀ x c,X.env.cells.lookup x=some c->c≠b)/\∀ p∈X.pn++pins,p.1≠b)
  (keep:∀ b o,b≠X.env.locals->b∉X.fs->b∉ch->s.heap.get? b=some o->H b=none->h'.get? b=some o)
  (slot:∀ b o,b≠X.env.locals->b∈X.fs->b∉ch->s.heap.get? b=some o->H b=none->∃ sl,h'.get? b=some { o with slots:=sl }) (free:∀ b o,b∉ch->s.heap.get? b=some o->H b=none->H' b=none)
  (there:∀ b o,b∉ch->s.heap.get? b=some o->∃ o',h'.get? b=some o')
  (jP:∀ b xs,H b=some (.tup xs)->H' b=some (.tup xs)) (i8:∀ b o u,H b=some (.frz o u)->H' b=some (.frz o u)) (jQ:∀ b ps,H b=some (.tbl ps)->∃ more,H' b=some (.tbl (ps++more)))
  (ns:∀ m,s.heap.Ns X.env.locals m->h'.Ns X.env.locals m) (hok:HOk X.prog X.w H' h') (hg:Ri g') :
  Inv X pins σ H' { s with heap:=h',gens:=g',drawn:=d',toks:=t' }:=by
 have neL:∀ b o,X.s₀.heap.get? b=some o->b≠X.env.locals:=fun b o e=>Mp (Ml (Me e) I.ok.above);have neC:∀ b o,X.s₀.heap.get? b=some o->b∉X.ex->b∉ch:=fun b o e hx hb=>by
  rcases (hch b hb).1 with z|z
  ·exact hx z
  ·exact absurd (Ml (Me e) z) (NG _)
 have cellK:∀ x c,X.env.cells.lookup x=some c->∀ v,s.heap.IsCell c v->h'.IsCell c v:=fun x c e v ⟨o,ho,hd⟩=>by
  have nch:c∉ch:=fun z=>(hch c z).2.2.1 x c e rfl
  by_cases hc:c∈X.fs
  ·obtain ⟨sl,q⟩:=slot c o (I.cne x c e) hc nch ho (I.fC x c e);exact ⟨_,q,hd⟩
  ·exact ⟨o,keep c o (I.cne x c e) hc nch ho (I.fC x c e),hd⟩
 refine ⟨I.ok,I.os,hg,⟨fun b o e n hb hx=>?_,fun b o e n hb hx=>?_,fun b o e n hx=>?_,fun b o e hx=>?_,fun b xs e=>jP b xs (I.base.jP b xs e),fun b o xs e=>i8 b o xs (I.base.i8 b o xs e),fun b ps e=>?_⟩,?_,fun x c e=>?_,?_,fun x c e=>?_,fun p hp=>?_,hok,I.len⟩
 ·exact keep b o (neL b o e) hb (neC b o e hx) (I.base.keep b o e n hb hx) (I.base.free b o e n hx)
 ·obtain ⟨sl,e1⟩:=I.base.slot b o e n hb hx;obtain ⟨sl',e2⟩:=slot b _ (neL b o e) hb (neC b o e hx) e1 (I.base.free b o e n hx);exact ⟨sl',e2⟩
 ·obtain ⟨o',e1⟩:=I.base.there b o e hx;exact free b o' (neC b o e hx) e1 (I.base.free b o e n hx)
 ·obtain ⟨o',e1⟩:=I.base.there b o e hx;exact there b o' (neC b o e hx) e1
 ·obtain ⟨m1,e1⟩:=I.base.jQ b ps e;obtain ⟨m2,e2⟩:=jQ b _ e1;exact ⟨m1++m2,by rw [e2,Array.append_assoc]⟩
 ·obtain ⟨m,hn,hl⟩:=I.loc;refine ⟨m,ns m hn,fun i x v e1 e2 e3=>?_⟩;obtain ⟨u,r,l⟩:=hl i x v e1 e2 e3;refine ⟨u,r,?_⟩;rcases l with l|⟨k,c,e,z⟩
  ·exact .inl l
  ·exact .inr ⟨k,c,e,cellK x c e _ z⟩
 ·obtain ⟨v,z⟩:=I.cell x c e;exact ⟨v,cellK x c e v z⟩
 ·obtain ⟨m,⟨o,_,_,ho,_⟩,_⟩:=I.loc;exact free _ o (fun z=>(hch _ z).2.1 rfl) ho I.free
 ·obtain ⟨v,o,ho,hd⟩:=I.cell x c e;exact free c o (fun z=>(hch c z).2.2.1 x c e rfl) ho (I.fC x c e)
 ·obtain ⟨e,n,ne,nf,d⟩:=I.pin p hp;have nch:p.1∉ch:=fun z=>(hch p.1 z).2.2.2 p hp rfl;exact ⟨keep p.1 p.2 ne nf nch e n,free p.1 p.2 nch e n,ne,nf,d⟩
theorem Inv.un {t':Nat} (I:Inv X pins σ H s) (u:Un X.fs [] H H' s.heap h') (hok:HOk X.prog X.w H' h'):Inv X pins σ H' { s with heap:=h',toks:=t' }:=by
 obtain ⟨m,⟨o,es,ep,ho,r⟩,_⟩:=id I.loc;obtain ⟨sl,hL⟩:=u.any ho I.free (by simp)
 exact I.step (g':=s.gens) (d':=s.drawn) (ch:=[]) (fun _ z=>nomatch z) (fun b o _ hb _ e n=>u.keep b o e n hb (by simp)) (fun b o _ hb _ e n=>u.slot b o e n hb (by simp)) (fun b o _ e n=>u.free b o e n (by simp)) (fun b o _ e=>u.there b o e (by simp)) u.jP u.i8 u.jQ (fun m' hm=>by
  obtain ⟨o',es',ep',ho',r'⟩:=hm;rw [ho] at ho';cases ho';exact ⟨_,es',ep',hL,r'⟩) hok I.bare
theorem Inv.call {g':Array Qc} {t':Nat} {d':Drawn} {ch:List Addr} (I:Inv X pins σ H s) (u:Un (frs X.stack) ch H H' s.heap h') (hok:HOk X.prog X.w H' h') (hg:Ri g')
  (hch:∀ b∈ch,(b∈X.ex\/X.s₀.heap.objs.size<=b)/\b≠X.env.locals/\(∀ x c,X.env.cells.lookup x=some c->c≠b)/\∀ p∈X.pn++pins,p.1≠b) :
  Inv X pins σ H' { s with heap:=h',gens:=g',drawn:=d',toks:=t' }:=by
 obtain ⟨m,⟨o,es,ep,ho,r⟩,_⟩:=id I.loc;obtain ⟨sl,hL⟩:=u.any ho I.free fun z=>(hch _ z).2.1 rfl;exact I.step (ch:=ch) hch (fun b o hL hb hc e n=>u.keep b o e n (fun z=>(My.mp (I.sZ b z)).elim hL hb) hc) (fun b o _ _ hc e n=>u.any e n hc) (fun b o hc e n=>u.free b o e n hc) (fun b o hc e=>u.there b o e hc) u.jP u.i8 u.jQ (fun m' hm=>by
  obtain ⟨o',es',ep',ho',r'⟩:=hm;rw [ho] at ho';cases ho';exact ⟨_,es',ep',hL,r'⟩) hok hg
theorem Inv.turned {t':Nat} {it:Addr} (I:Inv X pins σ H s) (k:∀ b o,b≠it->s.heap.get? b=some o->h'.get? b=some o) (hn:H it=none) (hL:it≠X.env.locals)
  (h1:it∈X.ex\/X.s₀.heap.objs.size<=it) (h2:∀ x c,X.env.cells.lookup x=some c->c≠it) (h3:∀ p∈X.pn++pins,p.1≠it):Inv X pins σ H { s with heap:=h',toks:=t' }:=by
 have nit:∀ b u,H b=some u->b≠it:=fun b u e z=>by rw [z,hn] at e;cases e
 refine I.step (g':=s.gens) (d':=s.drawn) (ch:=[it]) (fun b hb=>?_) (fun b o _ _ hc e _=>k b o (fun z=>hc (by simp [z])) e) (fun b o _ _ hc e _=>⟨o.slots,k b o (fun z=>hc (by simp [z])) e⟩) (fun _ _ _ _ n=>n)
  (fun b o hc e=>⟨o,k b o (fun z=>hc (by simp [z])) e⟩) (fun _ _ e=>e) (fun _ _ _ e=>e) (fun b ps e=>⟨#[],by rw [e];simp⟩) (fun m hm=>?_) (fun b u e=>?_) I.bare
 ·have e:b=it:=by simpa using hb
  subst e;exact ⟨h1,hL,h2,h3⟩
 ·obtain ⟨o,es,ep,ho,r⟩:=hm;exact ⟨o,es,ep,k _ o (NV hL) ho,r⟩
 ·refine (I.hok b u e).oi (fun c v hc q=>k c v ?_ q) (fun _ q=>q) fun _ _ q=>q;rcases hc with z|z
  ·rw [z];exact nit b u e
  ·exact nit c _ z
theorem Inv.tok (I:Inv X pins σ H s) (t:Nat):Inv X pins σ H { s with toks:=t }:=I.un (h':=s.heap) (t':=t) Un.refl I.hok
theorem Inv.kept {t':Nat} (I:Inv X pins σ H s) (k:∀ b u,s.heap.get? b=some u->h'.get? b=some u):Inv X pins σ H { s with heap:=h',toks:=t' }:=I.un (Un.kept k) (I.hok.kept k)
theorem Inv.laid {a:Addr} {o:HO} {t':Nat} (I:Inv X pins σ H s) (k:∀ b u,s.heap.get? b=some u->h'.get? b=some u) (hp:s.heap.objs.size<=a) (new:bB X.prog X.w (upd H a o) h' a o) :
  Inv X pins σ (upd H a o) { s with heap:=h',toks:=t' }:=I.un (Un.laid k hp (I.hok.fresh hp)) (I.hok.laid k hp new)
theorem Inv.write {x e:Addr} {o:HO} {t':Nat} (I:Inv X pins σ H s) (mu:Mut (H x)) (he:e=x\/H e=some (.own x)) (k:∀ b u,b≠e->s.heap.get? b=some u->h'.get? b=some u) (heo:∃ u,h'.get? e=some u)
  (new:bB X.prog X.w (upd H x o) h' x o):Inv X pins σ (upd H x o) { s with heap:=h',toks:=t' }:=I.un (Un.write mu he k heo) (I.hok.write mu he k heo new)
theorem Inv.Cf {pins':List (Addr×Obj)} (I:Inv X pins σ H s) (h:∀ p∈pins',s.heap.get? p.1=some p.2/\H p.1=none/\p.1≠X.env.locals/\p.1∉X.fs/\∀ v,p.2.data≠.cell v):Inv X pins' σ H s :=
 ⟨I.ok,I.os,I.bare,I.base,I.loc,I.cell,I.free,I.fC,fun p hp=>(MC.mp hp).elim (fun z=>I.pin p (Nw _ z)) (h p),I.hok,I.len⟩
theorem u6 {N:List Str} (hN:N.Nodup) {i j:Nat} {x:Str} (a:N[i]?=some x) (b:N[j]?=some x):i=j:=by
 obtain ⟨h1,e1⟩:=LQ.mp a;obtain ⟨h2,e2⟩:=LQ.mp b;exact (Qi hN).mp (e1.trans e2.symm)
theorem yq {M:Model} {A:MY} {E:Value->LU->Prop} {i:Nat} {x:Str} {v:V} {u:Value} {Q:Unit->LU->Prop} (I:Inv X pins σ H s) (hN:X.N.Nodup) (hi:X.N[i]?=some x) (hx:Loc X.env.scope x) (r:RelV v u)
  (h:∀ s',Inv X pins (σ.set i (some v)) H s'->(∃ a,OW a s.heap s'.heap/\(a=X.env.locals\/X.env.cells.lookup x=some a))->Q () s') (hf:X.fn x=true\/X.env.scope.names.lookup x=some .local:=by first|exact .inl rfl|exact .inr rfl|assumption):wpAny M A (storeName X.env x u) Q E s:=by
 obtain ⟨m,hn,hl⟩:=id I.loc;have hcls:(X.env.scope.kind == .class || (X.env.scope.kind == .module && X.env.locals != X.env.globals))=false:=by rw [I.ok.kind];rfl
 have hiσ:i<σ.length:=by rw [I.len];exact (LQ.mp hi).1
 have cne:=I.cne;have tracked:∀ {a:Addr} {h':Heap},(∃ o,s.heap.get? a=some o/\H a=none)->OW a s.heap h'->HOk X.prog X.w H h':=fun {a h'} ha hs b ob e=>by
  obtain ⟨_,_,hfree⟩:=ha;refine (I.hok b ob e).oi (fun c w' hc q=>(hs.2 c ?_).trans q) (fun _ q=>q) fun _ _ q=>q;rintro rfl;rcases hc with rfl|hc
  ·rw [hfree] at e;cases e
  ·rw [hfree] at hc;cases hc
 rcases hx with hk|hk
 ·refine wpAny_storeName_local hk hn (fun h' hn' hs=>?_) hcls;obtain ⟨oL,_,_,hoL,_⟩:=id hn;refine h _ ⟨I.ok,I.os,I.bare,⟨fun b o e n hb hx=>?_,fun b o e n hb hx=>?_,I.base.free,fun b o e hx=>?_,I.base.jP,I.base.i8,I.base.jQ⟩,⟨_,hn',fun j y v' e1 e2 e3=>?_⟩,fun y c e=>?_,I.free,I.fC,fun p hp=>?_,tracked ⟨oL,hoL,I.free⟩ hs,by simpa using I.len⟩ ⟨_,hs,.inl rfl⟩
  ·exact (hs.2 b (Mp (Ml (Me e) I.ok.above))).trans (I.base.keep b o e n hb hx)
  ·obtain ⟨sl,e1⟩:=I.base.slot b o e n hb hx;exact ⟨sl,(hs.2 b (Mp (Ml (Me e) I.ok.above))).trans e1⟩
  ·obtain ⟨o',e1⟩:=I.base.there b o e hx;exact ⟨o',(hs.2 b (Mp (Ml (Me e) I.ok.above))).trans e1⟩
  ·by_cases hj:j=i
   ·subst hj;rw [hi] at e1;cases e1;rw [NL hiσ] at e2;cases e2;exact ⟨u,r,.inl ⟨hk,by simp⟩⟩
   ·rw [N2 (NV hj)] at e2;obtain ⟨u',r',q⟩:=hl j y v' e1 e2 e3;refine ⟨u',r',?_⟩;rcases q with ⟨k,e⟩|⟨k,c,e,z⟩
    ·refine .inl ⟨k,?_⟩;have:y≠x:=fun e=>hj (u6 hN e1 (e ▸ hi));simp [this,e]
    ·exact .inr ⟨k,c,e,z.sameBut hs (cne y c e)⟩
  ·obtain ⟨w',z⟩:=I.cell y c e;exact ⟨w',z.sameBut hs (cne y c e)⟩
  ·obtain ⟨e,n,ne,nf,d⟩:=I.pin p hp;exact ⟨(hs.2 p.1 ne).trans e,n,ne,nf,d⟩
 ·have hfn:X.fn x=true:=by
   rcases hf with z|z
   ·exact z
   ·rw [z] at hk;cases hk
  obtain ⟨c,hc⟩:=I.ok.has x (.inl hk);obtain ⟨w',z⟩:=I.cell x c hc;refine wpAny_storeName_cell I.ok.kind hk hc z (fun h' hc' hs=>?_);obtain ⟨oc,hoc,hocd⟩:=id z;refine h { s with heap:=h' } ⟨I.ok,I.os,I.bare,⟨fun b o e n hb hx=>?_,fun b o e n hb hx=>?_,I.base.free,fun b o e hx=>?_,I.base.jP,I.base.i8,I.base.jQ⟩,⟨m,hn.sameBut hs (NV (cne x c hc)),fun j y v' e1 e2 e3=>?_⟩,fun y c' e=>?_,I.free,I.fC,fun p hp=>?_,tracked ⟨oc,hoc,I.fC x c hc⟩ hs,by simpa using I.len⟩ ⟨c,hs,.inr hc⟩
  ·exact (hs.2 b (Mp (Ml (Me e) (I.ok.cab x c hfn hc)))).trans (I.base.keep b o e n hb hx)
  ·obtain ⟨sl,e1⟩:=I.base.slot b o e n hb hx;exact ⟨sl,(hs.2 b (Mp (Ml (Me e) (I.ok.cab x c hfn hc)))).trans e1⟩
  ·obtain ⟨o',e1⟩:=I.base.there b o e hx;exact ⟨o',(hs.2 b (Mp (Ml (Me e) (I.ok.cab x c hfn hc)))).trans e1⟩
  ·by_cases hj:j=i
   ·subst hj;rw [hi] at e1;cases e1;rw [NL hiσ] at e2;cases e2;exact ⟨u,r,.inr ⟨.inl hk,c,hc,hc'⟩⟩
   ·rw [N2 (NV hj)] at e2;obtain ⟨u',r',q⟩:=hl j y v' e1 e2 e3;refine ⟨u',r',?_⟩;rcases q with q|⟨k,c',e,z'⟩
    ·exact .inl q
    ·refine .inr ⟨k,c',e,z'.sameBut hs ?_⟩;rintro rfl;exact hj (u6 hN e1 (I.ok.inj _ _ _ e hc ▸ hi))
  ·by_cases hcc:c'=c
   ·subst hcc;exact ⟨_,hc'⟩
   ·obtain ⟨w2,z2⟩:=I.cell y c' e;exact ⟨w2,z2.sameBut hs hcc⟩
  ·obtain ⟨e,n,ne,nf,d⟩:=I.pin p hp;refine ⟨(hs.2 p.1 ?_).trans e,n,ne,nf,d⟩;intro q;rw [q,hoc] at e;have q':oc=p.2:=ML e;exact d w' (by rw [<- q'];exact hocd)
theorem oF {M:Model} {A:MY} {E:Value->LU->Prop} {i:Nat} {x:Str} {v:V} {u:Value} {Q:Unit->LU->Prop} (I:Inv X pins σ H s) (hN:X.N.Nodup) (hi:X.N[i]?=some x) (hx:Loc X.env.scope x) (r:RelV v u)
  (h:∀ s',Inv X pins (σ.set i (some v)) H s'->Q () s') (hf:X.fn x=true\/X.env.scope.names.lookup x=some .local:=by first|exact .inl rfl|exact .inr rfl|assumption):wpAny M A (storeName X.env x u) Q E s :=
 yq I hN hi hx r (fun s' I' _=>h s' I') hf
theorem Inv.Dv {s':LU} {ch:List Addr} (I:Inv X pins σ H s) (ho:s'.os=s.os) (u:Un (frs X.stack) ch H H' s.heap s'.heap) (hok:HOk X.prog X.w H' s'.heap) (hg:Ri s'.gens)
  (hch:∀ b∈ch,(b∈X.ex\/X.s₀.heap.objs.size<=b)/\b≠X.env.locals/\(∀ x c,X.env.cells.lookup x=some c->c≠b)/\∀ p∈X.pn++pins,p.1≠b):Inv X pins σ H' s':=by
 obtain ⟨h',g',d',t',o'⟩:=s';have e:o'=s.os:=ho;subst e;exact I.call (g':=g') (t':=t') (d':=d') u hok hg hch
end
abbrev XK:=Value->Option Addr->Hp->Prop
abbrev St:=List (Option V)
abbrev VK:=V->Hp->Prop
abbrev TE:=St->Hp->VK->Prop
abbrev TT:=St->Hp->(Bool->Hp->Prop)->Prop
abbrev TA:=St->Hp->(List V->Hp->Prop)->Prop
structure Ends where
 nx:St->Hp->Prop
 rt:VK
 bk:St->Hp->Prop:=fun _ _=>False
 ct:St->Hp->Prop:=fun _ _=>False
abbrev TS:=Ends->St->Hp->Prop
def EP (X:Cx) (pins:List (Addr×Obj)) (σ:St) (Q:VK) (u:Value) (s':LU):Prop:=∃ v H',Inv X pins σ H' s'/\RelV v u/\Q v H'
def TP (X:Cx) (pins:List (Addr×Obj)) (σ:St) (Q:Bool->Hp->Prop) (b:Bool) (s':LU):Prop:=∃ H',Inv X pins σ H' s'/\Q b H'
def AP (X:Cx) (pins:List (Addr×Obj)) (σ:St) (Q:List V->Hp->Prop) (us:List Value) (s':LU):Prop:=∃ vs H',Inv X pins σ H' s'/\Vals vs us/\Q vs H'
def SP (X:Cx) (pins:List (Addr×Obj)) (D:Ends) (f:Flow) (s':LU):Prop :=
 match f with
 | .next=>∃ σ' H',Inv X pins σ' H' s'/\D.nx σ' H'
 | .brk=>∃ σ' H',Inv X pins σ' H' s'/\D.bk σ' H'
 | .cont=>∃ σ' H',Inv X pins σ' H' s'/\D.ct σ' H'
 | .ret u=>∃ v σ' H',Inv X pins σ' H' s'/\RelV v u/\D.rt v H'
def PE (X:Cx) (e:Expr) (t:TE):Prop :=
 ∀ (pins:List (Addr×Obj)) (s:LU) (σ:St) (H:Hp) (Q:VK),Inv X pins σ H s->t σ H Q->wpAny (model X.prog X.w) X.A (eval e X.env) (EP X pins σ Q) X.xe s
def PT (X:Cx) (e:Expr) (t:TT):Prop :=
 ∀ (pins:List (Addr×Obj)) (s:LU) (σ:St) (H:Hp) (Q:Bool->Hp->Prop),Inv X pins σ H s->t σ H Q->wpAny (model X.prog X.w) X.A (isTrue e X.env (eval e X.env)) (TP X pins σ Q) X.xe s
def PW (X:Cx) (e:Expr) (t:TT):Prop :=
 ∀ (whole:Sem Value) (pins:List (Addr×Obj)) (s:LU) (σ:St) (H:Hp) (Q:Bool->Hp->Prop),Inv X pins σ H s->t σ H Q->wpAny (model X.prog X.w) X.A (isTrue e X.env whole) (TP X pins σ Q) X.xe s
theorem PW.pt {X:Cx} {e:Expr} {t:TT} (h:PW X e t):PT X e t:=h _
def PA (X:Cx) (es:List Expr) (t:TA):Prop :=
 ∀ (pos:Pos) (pins:List (Addr×Obj)) (s:LU) (σ:St) (H:Hp) (Q:List V->Hp->Prop),Inv X pins σ H s->t σ H Q->wpAny (model X.prog X.w) X.A (spliced (backTo pos (MZ es X.env))) (AP X pins σ Q) X.xe s
def PS (X:Cx) (st:Stmt) (t:TS):Prop :=
 ∀ (pins:List (Addr×Obj)) (s:LU) (σ:St) (H:Hp) (D:Ends),Inv X pins σ H s->t D σ H->wpAny (model X.prog X.w) X.A (exec st X.env) (SP X pins D) X.xe s
def PSs (X:Cx) (st:List Stmt) (t:TS):Prop :=
 ∀ (pins:List (Addr×Obj)) (s:LU) (σ:St) (H:Hp) (D:Ends),Inv X pins σ H s->t D σ H->wpAny (model X.prog X.w) X.A (execs st X.env) (SP X pins D) X.xe s
theorem thn {α:Type} {t:Sem α} {Q Q':α->LU->Prop} {M:Model} {A:MY} {E:Value->LU->Prop} {s:LU} (h:wpAny M A t Q E s) (hQ:∀ a s,Q a s->Q' a s):wpAny M A t Q' E s:=Nj h hQ fun _ _ x=>x
section
variable {X:Cx}
def uZ (i:Nat):TE:=fun σ H Q=>∃ v,σ[i]?=some (some v)/\Q v H
def tC (v:V):TE:=fun _ H Q=>Q v H
theorem Kt {i:Nat} {x:Str} {pos:Pos} (hN:X.N[i]?=some x) (hv:Vis X.env.scope x) (hd:(x == ("__debug__" : Str))=false:=by decide) (hcd:(x == ("__classdict__" : Str))=false:=by decide):PE X (.Name x pos) (uZ i):=by
 intro pins s σ H Q I h;obtain ⟨v,e,h⟩:=h;obtain ⟨m,hn,hl⟩:=I.loc;obtain ⟨u,r,l⟩:=hl i x v hN e hv;have fin:EP X pins σ Q u s:=⟨v,H,I,r,h⟩;rcases l with ⟨hk,hm⟩|⟨hk,c,hc,hcell⟩
 ·exact wpAny_Name (wpAny_loadName_local I.ok.kind hk hn hm fin) hd
 ·rcases hk with hk|hk
  ·exact wpAny_Name (wpAny_loadName_cell I.ok.kind hk hc hcell fin) hd
  ·exact wpAny_Name (wpAny_loadName_free I.ok.kind hk hc hcell fin hcd) hd
theorem af {i j pos}:PE X (.Constant (.int i) j pos) (tC (.int i)):=fun _ _ _ H _ I h=>wpAny_Constant_int ⟨.int i,H,I.tok _,⟨_,rfl⟩,h⟩
theorem eP {b j pos}:PE X (.Constant (.bool b) j pos) (tC (.bl b)):=fun _ _ _ H _ I h=>Constant_bool ⟨.bl b,H,I,rfl,h⟩
theorem EE {j pos}:PE X (.Constant .none j pos) (tC .non):=fun _ _ _ H _ I h=>SR ⟨.non,H,I,rfl,h⟩
theorem cQ {x j pos}:PE X (.Constant (.str x) j pos) (tC (.str x)):=fun _ _ _ H _ I h=>Calls.Constant_str ⟨.str x,H,I.tok _,⟨_,rfl⟩,h⟩
def Gl (X:Cx) (x:Str):Prop:=X.env.kindOf x=some .globalImplicit
theorem kI {E:Value->LU->Prop} {pins:List (Addr×Obj)} {s:LU} {σ:St} {H:Hp} {x:Str} {u:Value} {pos:Pos} {Q:Value->LU->Prop} (I:Inv X pins σ H s) (hg:Gl X x) (hm:X.mg x=some u) (h:Q u s)
  (hd:(x == ("__debug__" : Str))=false:=by decide):wpAny (model X.prog X.w) X.A (eval (.Name x pos) X.env) Q E s :=
 QC I.ok.kind hg (Calls.loadGlobal_global (by rw [I.ok.glob];exact I.mod.glob.keeps I.bk) hm h) hd
theorem mO {E:Value->LU->Prop} {pins:List (Addr×Obj)} {s:LU} {σ:St} {H:Hp} {x:Str} {u:Value} {pos:Pos} {Q:Value->LU->Prop} (I:Inv X pins σ H s) (hg:Gl X x) (hm:X.mg x=none) (hv:bootBuiltins x=some u) (h:Q u s)
  (hn:x ≠ "__name__":=by decide) (hd:(x == ("__debug__" : Str))=false:=by decide):wpAny (model X.prog X.w) X.A (eval (.Name x pos) X.env) Q E s:=by
 obtain ⟨mb,h1,h2⟩:=I.mod.blt;exact QC I.ok.kind hg (Calls.loadGlobal_builtin (by rw [I.ok.glob];exact I.mod.glob.keeps I.bk) hm (by rw [I.ok.blt];exact h1.keeps I.bk) ((h2 x hn).trans hv) h) hd
theorem cM {x:Str} {v:V} {u:Value} {pos:Pos} (hg:Gl X x) (hm:X.mg x=some u) (r:RelV v u) (hd:(x == ("__debug__" : Str))=false:=by decide):PE X (.Name x pos) (tC v) :=
 fun _ _ _ H _ I h=>kI I hg hm ⟨v,H,I,r,h⟩ hd
theorem wM {x:Str} {v:V} {u:Value} {pos:Pos} (hg:Gl X x) (hm:X.mg x=none) (hv:bootBuiltins x=some u) (r:RelV v u) (hn:x ≠ "__name__":=by decide) (hd:(x == ("__debug__" : Str))=false:=by decide):PE X (.Name x pos) (tC v) :=
 fun _ _ _ H _ I h=>mO I hg hm hv ⟨v,H,I,r,h⟩ hn hd
variable {a b:Expr} {ta tb:TE} {pos:Pos}
def PC (X:Cx) (op:CmpOp) (a b:Expr) (t:TE):Prop :=
 ∀ (pins:List (Addr×Obj)) (s:LU) (σ:St) (H:Hp) (Q:VK),Inv X pins σ H s->t σ H Q ->
  wpAny (model X.prog X.w) X.A (eval a X.env) (fun v s₁=>wpAny (model X.prog X.w) X.A (eval b X.env) (fun u s₂=>wpAny (model X.prog X.w) X.A (compareOp op v u) (EP X pins σ Q) X.xe s₂) X.xe s₁) X.xe s
theorem As (b:Expr) {op:CmpOp} (h:op≠.In) (h2:op≠.NotIn):behindInMarks op b=false:=by
 have e1:(op == CmpOp.In)=false:=by cases op <;> first|rfl|exact absurd rfl h
 have e2:(op == CmpOp.NotIn)=false:=by cases op <;> first|rfl|exact absurd rfl h2
 cases b <;> simp [behindInMarks,e1,e2]
def Kw (ta:TE):TE:=fun σ H Q=>ta σ H fun x H1=>Q (.bl (decide (x=.non))) H1
def HU (ta:TE):TE:=fun σ H Q=>ta σ H fun x H1=>Q (.bl (!decide (x=.non))) H1
theorem RelV.AN {x:V} {v:Value} (r:RelV x v):(v == Ov)=decide (x=.non):=by
 cases x with
 | non=>cases r;rfl
 | bl _=>cases r;rfl
 | int _=>obtain ⟨t,rfl⟩:=r;rfl
 | str _=>obtain ⟨t,rfl⟩:=r;rfl
 | byt _=>obtain ⟨t,rfl⟩:=r;rfl
 | flt _=>obtain ⟨t,rfl⟩:=r;rfl
 | ref _=>cases r;rfl
 | ty _=>cases r;rfl
theorem AD {j pos'} (ha:PE X a ta):PC X .Is a (.Constant .none j pos') (Kw ta):=by
 intro pins s σ H Q I h;refine thn (ha pins s σ H _ I h) fun v s1 ⟨x,H1,I1,r1,q1⟩=>?_;exact SR (is_none_gen ⟨.bl _,H1,I1,by rw [r1.AN];rfl,q1⟩)
theorem Cp {j pos'} (ha:PE X a ta):PC X .IsNot a (.Constant .none j pos') (HU ta):=by
 intro pins s σ H Q I h;refine thn (ha pins s σ H _ I h) fun v s1 ⟨x,H1,I1,r1,q1⟩=>?_;exact SR (isnot_none_gen ⟨.bl _,H1,I1,by rw [r1.AN];rfl,q1⟩)
def tB (t:TE):TT:=fun σ H Q=>t σ H fun x H1=>∃ c,x=.bl c/\Q c H1
theorem JZ {op:CmpOp} {t:TE} (h:PC X op a b t) (h1:behindInMarks op b=false:=by first|exact As _ (by decide) (by decide)|rfl):PE X (.Compare a [op] [b] pos) t:=fun pins s σ H Q I hw=>wpAny_Compare1 (h pins s σ H Q I hw) h1
theorem tj {op:CmpOp} {t:TE} (h:PC X op a b t) (h1:behindInMarks op b=false:=by first|exact As _ (by decide) (by decide)|rfl):PT X (.Compare a [op] [b] pos) (tB t):=by
 intro pins s σ H Q I hw;refine RQ (thn (h pins s σ H _ I hw) fun v s1 h1=>thn h1 fun u s2 h2=>thn h2 fun c s3 ⟨x,H1,I1,r1,q1⟩=>?_) h1;obtain ⟨d,rfl,q⟩:=q1;cases r1;exact N8 ⟨H1,I1,q⟩
theorem dW {e:Expr} {t:TE} (h:PE X e t) (he:∀ whole,isTrue e X.env whole=(do let v <- whole;standAt e.pos;holding [v] (truthy v)):=by intro _;rfl):PT X e (tB t):=by
 intro pins s σ H Q I hw;refine isTrue_plain (thn (h pins s σ H _ I hw) fun v s1 ⟨x,H1,I1,r1,q1⟩=>?_) (he _);obtain ⟨d,rfl,q⟩:=q1;cases r1;exact N8 ⟨H1,I1,q⟩
variable {tA tB':TT} {rest:List Expr}
def Kx (t u:TT):TT:=fun σ H Q=>t σ H fun c H1=>if c=true then u σ H1 Q else Q false H1
def tOr (t u:TT):TT:=fun σ H Q=>t σ H fun c H1=>if c=true then Q true H1 else u σ H1 Q
def Km (t:TT):TT:=fun σ H Q=>t σ H fun c H1=>Q (!c) H1
theorem lO (ha:PT X a tA):PW X (.BoolOp .And [a] pos) tA:=by
 intro wh pins s σ H Q I h;refine isTrue_and (thn (ha pins s σ H Q I h) fun c s1 e=>?_);cases c with
 | true=>exact isTrue_and_nil e
 | false=>exact e
theorem m5 (ha:PT X a tA):PW X (.BoolOp .Or [a] pos) tA:=by
 intro wh pins s σ H Q I h;refine isTrue_or (thn (ha pins s σ H Q I h) fun c s1 e=>?_);cases c with
 | false=>exact isTrue_or_nil e
 | true=>exact e
theorem lF (ha:PT X a tA) (hb:PW X (.BoolOp .And (b :: rest) pos) tB'):PW X (.BoolOp .And (a :: b :: rest) pos) (Kx tA tB'):=by
 intro wh pins s σ H Q I h;refine isTrue_and (thn (ha pins s σ H _ I h) fun c s1 ⟨H1,I1,q1⟩=>?_);cases c with
 | true=>exact hb wh pins s1 σ H1 Q I1 q1
 | false=>exact ⟨H1,I1,q1⟩
theorem nH (ha:PT X a tA) (hb:PW X (.BoolOp .Or (b :: rest) pos) tB'):PW X (.BoolOp .Or (a :: b :: rest) pos) (tOr tA tB'):=by
 intro wh pins s σ H Q I h;refine isTrue_or (thn (ha pins s σ H _ I h) fun c s1 ⟨H1,I1,q1⟩=>?_);cases c with
 | true=>exact ⟨H1,I1,q1⟩
 | false=>exact hb wh pins s1 σ H1 Q I1 q1
theorem gF (ha:PT X a tA):PT X (.UnaryOp .Not a pos) (Km tA):=by
 intro pins s σ H Q I h;exact isTrue_not (ha pins s σ H (fun c H1=>Q (!c) H1) I h)
def HN (ta tb:TE):TE:=fun σ H Q=>ta σ H fun x H1=>∃ c,x=.bl c/\if c=true then tb σ H1 Q else Q (.bl false) H1
def K3 (ta tb:TE):TE:=fun σ H Q=>ta σ H fun x H1=>∃ c,x=.bl c/\if c=true then Q (.bl true) H1 else tb σ H1 Q
def Io (ta:TE):TE:=fun σ H Q=>ta σ H fun x H1=>∃ c,x=.bl c/\Q (.bl (!c)) H1
theorem jh {op} {t:TE} (h:PE X a t):PE X (.BoolOp op [a] pos) t:=fun pins s σ H Q I hw=>BoolOp_one (h pins s σ H Q I hw)
theorem fP (ha:PE X a ta) (hb:PE X (.BoolOp .And (b :: rest) pos) tb):PE X (.BoolOp .And (a :: b :: rest) pos) (HN ta tb):=by
 intro pins s σ H Q I h;refine BoolOp_and (thn (ha pins s σ H _ I h) fun v s1 ⟨x,H1,I1,r1,q1⟩=>?_);obtain ⟨c,rfl,q1⟩:=q1;cases r1;refine N8 ?_;cases c with
 | true=>exact hb pins s1 σ H1 Q I1 q1
 | false=>exact ⟨.bl false,H1,I1,rfl,q1⟩
theorem Ie (ha:PE X a ta) (hb:PE X (.BoolOp .Or (b :: rest) pos) tb):PE X (.BoolOp .Or (a :: b :: rest) pos) (K3 ta tb):=by
 intro pins s σ H Q I h;refine BoolOp_or (thn (ha pins s σ H _ I h) fun v s1 ⟨x,H1,I1,r1,q1⟩=>?_);obtain ⟨c,rfl,q1⟩:=q1;cases r1;refine N8 ?_;cases c with
 | false=>exact hb pins s1 σ H1 Q I1 q1
 | true=>exact ⟨.bl true,H1,I1,rfl,q1⟩
theorem Kh (ha:PE X a ta):PE X (.UnaryOp .Not a pos) (Io ta):=by
 intro pins s σ H Q I h;refine UnaryOp_ (thn (ha pins s σ H _ I h) fun v s1 ⟨x,H1,I1,r1,q1⟩=>?_);obtain ⟨c,rfl,q1⟩:=q1;cases r1;exact not_of (N8 ⟨.bl (!c),H1,I1,rfl,q1⟩)
end
def SqL (K:LM) (H:Hp) (a:Addr) (xs:List V):Prop :=
 Rd H a (.lst xs) \/
  ∃ (o:Obj) (its:Array Value) (n:Nat),K.lookup a=some o/\o.cls=.type "list" /\ o.dict=none/\o.data=.seq its n/\its.size<=MB/\Vals xs its.toList
def SqT (K:LM) (H:Hp) (a:Addr) (xs:List V):Prop :=
 Rd H a (.tup xs) \/
  ∃ (o:Obj) (its:Array Value) (n:Nat),K.lookup a=some o/\o.cls=.type "tuple" /\ o.data=.seq its n/\its.size<=MB/\Vals xs its.toList
def LD:Value->Option V
 | .none=>some .non
 | .bool b=>some (.bl b)
 | .int i _=>some (.int i)
 | .str x _=>some (.str x)
 | .bytes b _=>some (.byt b)
 | .float b _=>some (.flt b)
 | .ref a=>some (.ref a)
 | .type n=>some (.ty n)
 | _=>none
theorem RelV.abs {x:V} {u:Value} (r:RelV x u):LD u=some x:=by
 cases x with
 | non=>cases r;rfl
 | bl _=>cases r;rfl
 | int _=>obtain ⟨t,rfl⟩:=r;rfl
 | str _=>obtain ⟨t,rfl⟩:=r;rfl
 | byt _=>obtain ⟨t,rfl⟩:=r;rfl
 | flt _=>obtain ⟨t,rfl⟩:=r;rfl
 | ref _=>cases r;rfl
 | ty _=>cases r;rfl
theorem RelV.inj {x y:V} {u:Value} (r:RelV x u) (q:RelV y u):x=y:=ML (r.abs.symm.trans q.abs)
theorem Vals.inj:∀ {xs ys:List V} {us:List Value},Vals xs us->Vals ys us->xs=ys
 | _,_,_,.nil,.nil=>rfl
 | _,_,_,.cons r t,.cons r' t'=>by rw [r.inj r',Vals.inj t t']
section
variable {X:Cx} {pins:List (Addr×Obj)} {σ:St} {H:Hp} {s:LU} {a:Addr} {xs ys:List V}
theorem SqL.of {K:LM} (h:H a=some (.lst xs)):SqL K H a xs:=.inl (.inl h)
theorem SqT.of {K:LM} (h:H a=some (.tup xs)):SqT K H a xs:=.inl (.inl h)
theorem Inv.list (I:Inv X pins σ H s) (h:SqL X.K H a xs):∃ its:List Value,Vals xs its/\PlainL s.heap a its.toArray/\xs.length<=MB:=by
 rcases h with h|⟨o,its,n,hk,hc,hd,hs,hz,r⟩
 ·obtain ⟨z,its,n,r,e⟩:=h.ok I.hok;exact ⟨its,r,⟨_,n,e,rfl,rfl,rfl⟩,z⟩
 ·refine ⟨its.toList,r,⟨o,n,I.kIn a o hk,hc,hd,by simpa using hs⟩,?_⟩
  have e:=r.length;simp only [MW] at e;omega
theorem Inv.tuple (I:Inv X pins σ H s) (h:SqT X.K H a xs):∃ its:List Value,Vals xs its/\IsTup s.heap a its.toArray/\xs.length<=MB:=by
 rcases h with h|⟨o,its,n,hk,hc,hs,hz,r⟩
 ·obtain ⟨z,its,r,p⟩:=h.ok I.hok;exact ⟨its,r,p,z⟩
 ·refine ⟨its.toList,r,⟨o,I.kIn a o hk,hc,n,by simpa using hs⟩,?_⟩
  have e:=r.length;simp only [MW] at e;omega
theorem Inv.mh (I:Inv X pins σ H s) (h:SqL X.K H a xs) (h':SqL X.K H a ys):xs=ys:=by
 obtain ⟨its,r,⟨o,n,e,_,_,d⟩,_⟩:=I.list h;obtain ⟨its',r',⟨o',n',e',_,_,d'⟩,_⟩:=I.list h';rw [e] at e';cases e';rw [d] at d';injection d' with d1 _;have:its=its':=by simpa using congrArg Array.toList d1
 subst this;exact r.inj r'
theorem Inv.xR (I:Inv X pins σ H s) (h:SqT X.K H a xs) (h':SqT X.K H a ys):xs=ys:=by
 obtain ⟨its,r,⟨o,e,_,n,d⟩,_⟩:=I.tuple h;obtain ⟨its',r',⟨o',e',_,n',d'⟩,_⟩:=I.tuple h';rw [e] at e';cases e';rw [d] at d';injection d' with d1 _;have:its=its':=by simpa using congrArg Array.toList d1
 subst this;exact r.inj r'
end
abbrev Cx.iZ (X:Cx) (E:Value->LU->Prop):Cx:={ X with xe:=E }
abbrev Cx.nox (X:Cx):Cx:=X.iZ fun _ _=>False
theorem Cx.Ok.iZ {X:Cx} (ok:X.Ok) (E:Value->LU->Prop):(X.iZ E).Ok :=
 ⟨ok.mod,ok.kind,ok.glob,ok.blt,ok.above,ok.inj,ok.has,ok.cab,ok.hd,ok.frames,ok.stk,ok.exf,ok.bs,ok.bsz,ok.u5,ok.sM,ok.gf,ok.frf⟩
theorem Cx.Ok.dU {X:Cx} {E:Value->LU->Prop} (ok:(X.iZ E).Ok):X.Ok :=
 ⟨ok.mod,ok.kind,ok.glob,ok.blt,ok.above,ok.inj,ok.has,ok.cab,ok.hd,ok.frames,ok.stk,ok.exf,ok.bs,ok.bsz,ok.u5,ok.sM,ok.gf,ok.frf⟩
section
variable {X:Cx} {pins:List (Addr×Obj)} {σ:St} {H:Hp} {s:LU} {E:Value->LU->Prop}
theorem Inv.iZ (I:Inv X pins σ H s) (E:Value->LU->Prop):Inv (X.iZ E) pins σ H s:=⟨I.ok.iZ E,I.os,I.bare,I.base,I.loc,I.cell,I.free,I.fC,I.pin,I.hok,I.len⟩
theorem Inv.dU (I:Inv (X.iZ E) pins σ H s):Inv X pins σ H s:=⟨I.ok.dU,I.os,I.bare,I.base,I.loc,I.cell,I.free,I.fC,I.pin,I.hok,I.len⟩
theorem SP.dU {D:Ends} {f:Flow} {s':LU} (h:SP (X.iZ E) pins D f s'):SP X pins D f s':=by
 cases f with
 | next=>obtain ⟨σ',H',I,q⟩:=h;exact ⟨σ',H',I.dU,q⟩
 | brk=>obtain ⟨σ',H',I,q⟩:=h;exact ⟨σ',H',I.dU,q⟩
 | cont=>obtain ⟨σ',H',I,q⟩:=h;exact ⟨σ',H',I.dU,q⟩
 | ret u=>obtain ⟨v,σ',H',I,r,q⟩:=h;exact ⟨v,σ',H',I.dU,r,q⟩
theorem PSs.nox {st:List Stmt} {t:TS} (h:PSs X.nox st t):PSs X st t:=fun pins s σ H D I hw =>
 Nj (h pins s σ H D (I.iZ _) hw) (fun _ _ q=>q.dU) fun _ _ z=>Nh z
end
section
variable {X:Cx} {st:Stmt} {rest:List Stmt} {t u:TS} {e:Expr} {te:TE} {pos:Pos}
def Iv:TS:=fun D σ H=>D.nx σ H
def KG (t u:TS):TS:=fun D σ H=>t { D with nx:=u D } σ H
theorem aQ:PSs X [] Iv:=fun _ _ σ H _ I h=>O7 ⟨σ,H,I,h⟩
theorem ae (h1:PS X st t) (h2:PSs X rest u):PSs X (st :: rest) (KG t u):=by
 intro pins s σ H D I h;refine Rx (thn (h1 pins s σ H { D with nx:=u D } I h) fun f s1 q=>?_);cases f with
 | next =>
  obtain ⟨σ',H',I',q⟩:=q;exact h2 pins s1 σ' H' D I' q
 | ret v=>exact q
 | brk=>exact q
 | cont=>exact q
theorem ah (h1:PS X st t):PSs X [st] t:=by
 intro pins s σ H D I h;refine Rx (thn (h1 pins s σ H D I h) fun f s1 q=>?_);cases f with
 | next=>exact O7 q
 | ret v=>exact q
 | brk=>exact q
 | cont=>exact q
theorem Inv.quiet {pins:List (Addr×Obj)} {σ:St} {H:Hp} {s:LU} (I:Inv X pins σ H s):interactive X.env=false:=by simp [interactive,I.ok.kind]
def Ig (te:TE):TS:=fun D σ H=>te σ H fun _ H1=>D.nx σ H1
theorem bC (he:PE X e te) (hs:swapsWith e none pos.line X.env=pure false:=by rfl):PS X (.Expr e pos) (Ig te):=by
 intro pins s σ H D I h;exact wpAny_Expr_any (thn (he pins s σ H _ I h) fun v s1 ⟨x,H1,I1,r1,q1⟩=>⟨σ,H1,I1,q1⟩) I.quiet hs
def KW (te:TE):TS:=fun D σ H=>te σ H D.rt
theorem aK (he:PE X e te):PS X (.Return (some e) pos) (KW te):=by
 intro pins s σ H D I h;exact wpAny_Return_some (thn (he pins s σ H _ I h) fun v s1 ⟨x,H1,I1,r1,q1⟩=>⟨x,σ,H1,I1,r1,q1⟩)
def Gh (c:TT) (t u:TS):TS:=fun D σ H=>c σ H fun b H1=>if b=true then t D σ H1 else u D σ H1
theorem aW {c:Expr} {a b:List Stmt} {tc:TT} (hc:PT X c tc) (ha:PSs X a t) (hb:PSs X b u):PS X (.If c a b pos) (Gh tc t u):=by
 intro pins s σ H D I h;refine wpAny_If (thn (hc pins s σ H _ I h) fun d s1 ⟨H1,I1,q1⟩=>?_);cases d with
 | true=>exact ha pins s1 σ H1 D I1 q1
 | false=>exact hb pins s1 σ H1 D I1 q1
def FE:TS:=fun _ _ _=>False
theorem eF:PS X st FE:=fun _ _ _ _ _ _ h=>h.elim
theorem oZ {sts:List Stmt}:PSs X sts FE:=fun _ _ _ _ _ _ h=>h.elim
end
abbrev TG:=V->St->Hp->(St->Hp->Prop)->Prop
abbrev TGs:=List V->St->Hp->(St->Hp->Prop)->Prop
def PG (X:Cx) (target:Expr) (t:TG):Prop :=
 ∀ (pins:List (Addr×Obj)) (s:LU) (σ:St) (H:Hp) (v:V) (u:Value) (Q:St->Hp->Prop),Inv X pins σ H s->RelV v u->t v σ H Q ->
  wpAny (model X.prog X.w) X.A (assign target X.env u) (fun _ s'=>∃ σ' H',Inv X pins σ' H' s'/\Q σ' H') X.xe s
def PGs (X:Cx) (ts:List Expr) (t:TGs):Prop :=
 ∀ (pins:List (Addr×Obj)) (s:LU) (σ:St) (H:Hp) (vs:List V) (us:List Value) (Q:St->Hp->Prop),Inv X pins σ H s->Vals vs us->t vs σ H Q ->
  wpAny (model X.prog X.w) X.A (assignInOrder ((assignEach ts X.env).map (·.2)) us) (fun _ s'=>∃ σ' H',Inv X pins σ' H' s'/\Q σ' H') X.xe s
abbrev DI:=V->V->V->Hp->(Hp->Prop)->Prop
def Ky (X:Cx) (t:DI):Prop :=
 ∀ (pins:List (Addr×Obj)) (s:LU) (σ:St) (H:Hp) (o i v:V) (ov iv u:Value) (Q:Hp->Prop),Inv X pins σ H s->RelV o ov->RelV i iv->RelV v u->t o i v H Q ->
  wpAny (model X.prog X.w) X.A (setItem ov iv u) (fun _ s'=>∃ H',Inv X pins σ H' s'/\Q H') X.xe s
section
variable {X:Cx} {pos:Pos}
def gj (i:Nat):TG:=fun v σ H Q=>Q (σ.set i (some v)) H
theorem az {i:Nat} {x:Str} (hN:X.N.Nodup) (hi:X.N[i]?=some x) (hx:Loc X.env.scope x) (hf:X.fn x=true\/X.env.scope.names.lookup x=some .local:=by first|exact .inl rfl|exact .inr rfl|assumption):PG X (.Name x pos) (gj i):=by
 intro pins s σ H v u Q I r h;exact wpAny_assign_Name (oF I hN hi hx r (fun s' I'=>⟨_,H,I',h⟩) hf)
def zY:TGs:=fun vs σ H Q=>vs=[]/\Q σ H
def nK (t:TG) (u:TGs):TGs:=fun vs σ H Q=>∃ v r,vs=v :: r/\t v σ H fun σ' H'=>u r σ' H' Q
theorem kC:PGs X [] zY:=by
 intro pins s σ H vs us Q I r h;obtain ⟨e,h⟩:=h;subst e;cases r;exact assignInOrder_nil ⟨σ,H,I,h⟩
theorem cA {e:Expr} {es:List Expr} {t:TG} {u:TGs} (h1:PG X e t) (h2:PGs X es u)
  (hs:(assignEach (e :: es) X.env).map (·.2)=assign e X.env :: (assignEach es X.env).map (·.2):=by rfl):PGs X (e :: es) (nK t u):=by
 intro pins s σ H vs us Q I r h;obtain ⟨v,vr,e1,h⟩:=h;subst e1;cases r with
 | cons r rr =>
  rw [hs];refine QG (thn (h1 pins s σ H _ _ _ I r h) fun _ s1 ⟨σ1,H1,I1,q1⟩=>?_);exact h2 pins s1 σ1 H1 _ _ Q I1 rr q1
def Am (K:LM) (n:Nat) (t:TGs):TG:=fun v σ H Q=>∃ a xs,v=.ref a/\SqT K H a xs/\xs.length=n/\t xs σ H Q
theorem mP {es:List Expr} {k:Nat} {t:TGs} {n:Nat} (hc:X.calm=true) (h:PGs X es t)
  (hn:(assignEach es X.env).length=n:=by rfl) (hst:(assignEach es X.env).findIdx? (·.1)=none:=by rfl):PG X (.Tuple es k pos) (Am X.K n t):=by
 intro pins s σ H v u Q I r hw;obtain ⟨a,xs,e1,hq,hl,hw⟩:=hw;subst e1;cases r;obtain ⟨its,rv,ht,hz⟩:=I.tuple hq;refine assign_Tuple_tuple (I.ok.hd hc) ht (by simp [hn,<- hl,rv.length]) hst fun h' hx=>?_
 have I1:Inv X pins σ H { s with heap:=h' }:=I.kept (t':=s.toks) fun b o e=>hx b o (Mp (Me e)) e;exact h pins _ σ H xs _ Q I1 (by simpa using rv) hw
def Ko (to ti:TE) (t:DI):TG:=fun v σ H Q=>to σ H fun o H1=>ti σ H1 fun i H2=>t o i v H2 fun H3=>Q σ H3
theorem Bh {o i:Expr} {to ti:TE} {t:DI} (ho:PE X o to) (hi:PE X i ti) (hs:Ky X t)
  (ha:∀ v,assign (.Subscript o i pos) X.env v=(do
   let ov <- holding [v] (eval o X.env)
   let iv <- holding [v,ov] (eval i X.env)
   standAt pos
   holding [v,ov,iv] (setItem ov iv v)
   release [v,ov,iv] []):=by intro _;rfl):PG X (.Subscript o i pos) (Ko to ti t):=by
 intro pins s σ H v u Q I r h;rw [ha];refine LN (Nl (thn (ho pins s σ H _ I h) fun ov s1 ⟨x,H1,I1,r1,q1⟩=>?_));refine LN (Nl (thn (hi pins s1 σ H1 _ I1 q1) fun iv s2 ⟨y,H2,I2,r2,q2⟩=>?_));refine LN (PF (LN (Nl (thn (hs pins s2 σ H2 x y v ov iv u _ I2 r1 r2 r q2) fun _ s3 ⟨H3,I3,q3⟩=>?_))));exact wpAny_release ⟨σ,H3,I3,q3⟩
def Dm (te:TE) (g:TG):TS:=fun D σ H=>te σ H fun x H1=>g x σ H1 D.nx
theorem sE {tg e:Expr} {te:TE} {g:TG} (he:PE X e te) (hg:PG X tg g) (hs:swapsWithSole [tg] e pos.line X.env=pure false:=by rfl) (hw:swappedStores [tg] e X.env=pure none:=by rfl)
  (h1:(assignEach [tg] X.env).map (·.2)=[assign tg X.env]:=by rfl):PS X (.Assign [tg] e pos) (Dm te g):=by
 intro pins s σ H D I h;refine wpAny_Assign_stores (thn (he pins s σ H _ I h) fun v s1 ⟨x,H1,I1,r1,q1⟩=>?_) hs hw;rw [h1];exact thn (hg pins s1 σ H1 x v _ I1 r1 q1) fun _ s2 q=>q
theorem au {i:Nat} {x:Str} {e:Expr} {te:TE} {pos':Pos} (hN:X.N.Nodup) (hi:X.N[i]?=some x) (hx:Loc X.env.scope x) (he:PE X e te) (hs:swapsWith e (some (.Name x pos')) pos.line X.env=pure false:=by rfl) (hf:X.fn x=true\/X.env.scope.names.lookup x=some .local:=by first|exact .inl rfl|exact .inr rfl|assumption) :
  PS X (.Assign [.Name x pos'] e pos) (Dm te (gj i)):=by
 intro pins s σ H D I h;refine wpAny_Assign_Name (thn (he pins s σ H _ I h) fun v s1 ⟨y,H1,I1,r1,q1⟩=>?_) hs;exact oF I1 hN hi hx r1 (fun s2 I2=>⟨_,H1,I2,q1⟩) hf
def Kp (i j:Nat) (ta:TA):TS:=fun D σ H=>ta σ H fun vs H1=>∃ v w,vs=[v,w]/\D.nx ((σ.set i (some v)).set j (some w)) H1
theorem EK {i j:Nat} {x y:Str} {a b:Expr} {ta:TA} {px py pt:Pos} {kt k2 pt2} (hc:X.calm=true) (hN:X.N.Nodup) (hi:X.N[i]?=some x) (hj:X.N[j]?=some y) (hij:i≠j)
  (hx:X.env.scope.names.lookup x=some .local) (hy:X.env.scope.names.lookup y=some .local) (ha:PA X [a,b] ta)
  (hw:swappedStores [.Tuple [.Name x px,.Name y py] kt pt] (.Tuple [a,b] k2 pt2) X.env=pure (some [x,y]))
  (hs:swapsWithSole [.Tuple [.Name x px,.Name y py] kt pt] (.Tuple [a,b] k2 pt2) pos.line X.env=pure false:=by rfl) :
  PS X (.Assign [.Tuple [.Name x px,.Name y py] kt pt] (.Tuple [a,b] k2 pt2) pos) (Kp i j ta):=by
 intro pins s σ H D I h;rw [exec_Assign_arm];refine LN (PF ?_);rw [hs];refine LN (Mb ?_);rw [if_neg (by decide)]
 refine LN (Tuple_ (thn (ha _ pins s σ H _ I h) fun us s1 ⟨vs,H1,I1,r1,q1⟩=>?_));obtain ⟨v,w,e1,q1⟩:=q1;subst e1;obtain ⟨u1,u2,rfl,rv,rw'⟩:∃ u1 u2,us=[u1,u2]/\RelV v u1/\RelV w u2:=by
  cases r1 with
  | cons p q =>
   cases q with
   | cons p' q' =>
    cases q';exact ⟨_,_,rfl,p,p'⟩
 refine N9 ?_ (by show 2<=MB;decide)
 have I2:Inv X pins σ H1 { s1 with heap:=s1.heap.push { cls:=.type "tuple",data:=.seq [u1,u2].toArray } }:=I1.kept (t':=s1.toks) fun b o e=>LV _ e;rw [hw];refine LN (Mb ?_);show wpAny (model X.prog X.w) X.A (do rule "assign.swapped-stores";let items <- unpackItems (.ref s1.heap.objs.size) 2 none;assignInOrder [fun v=>bindName X.env y v,fun v=>bindName X.env x v] items.reverse;pure Flow.next) _ _ _;refine LN (SX (LN (unpackItems_tuple (items:=#[u1,u2]) (I.ok.hd hc) (IsTup.new s1.heap _) fun h' hx'=>?_)));have I3:=I2.kept (h':=h') (t':=s1.toks) fun b o e=>hx' b o (Mp (Me e)) e;show wpAny _ _ (assignInOrder [fun v=>bindName X.env y v,fun v=>bindName X.env x v] [u2,u1] >>= fun _=>pure Flow.next) _ _ _;refine LN (QG (wpAny_bindName (oF I3 hN hj (.inl hy) rw' (fun s2 I4=>?_) (.inr hy))));refine QG (wpAny_bindName (oF I4 hN hi (.inl hx) rv (fun s3 I5=>assignInOrder_nil (Mb ?_)) (.inr hx)));rw [List.set_comm _ _ (NV hij)] at I5;exact ⟨_,H1,I5,q1⟩
def Fx (c:TT) (tb:TS):TS:=fun D σ H=>∃ W:Nat->St->Hp->Prop,(∃ m,W m σ H)/\∀ m σ H,W m σ H ->
 c σ H fun b H1=>if b=true then ∃ N:St->Hp->Prop,(∀ σ' H',N σ' H'->∃ m',m' < m/\W m' σ' H')/\tb { D with nx:=N,ct:=N,bk:=D.nx } σ H1 else D.nx σ H1
theorem oB {c:Expr} {body:List Stmt} {tc:TT} {tb:TS} (hp:PassesOwn (model X.prog X.w) X.A X.env X.xe) (hc:PT X c tc) (hb:PSs X body tb):PS X (.While c body [] pos) (Fx tc tb):=by
 intro pins s σ H D I h;obtain ⟨W,⟨m0,w0⟩,turn⟩:=h;refine wpAny_While (codeAny_whileLoop (fun n s'=>∃ σ' H',Inv X pins σ' H' s'/\W n σ' H') ?_ m0 ⟨σ,H,I,w0⟩);rintro n s1 ⟨σ1,H1,I1,w1⟩;refine ON hp (thn (hc pins s1 σ1 H1 _ I1 (turn n σ1 H1 w1)) fun b s2 ⟨H2,I2,q2⟩=>?_);cases b with
 | true =>
  obtain ⟨N,hN,q2⟩:=q2;rw [if_pos rfl];refine ON hp (thn (hb pins s2 σ1 H2 _ I2 q2) fun f s3 q3=>?_);cases f with
  | next =>
   obtain ⟨σ3,H3,I3,n3⟩:=q3;obtain ⟨m',hm,w3⟩:=hN σ3 H3 n3;exact ⟨m',hm,σ3,H3,I3,w3⟩
  | cont =>
   obtain ⟨σ3,H3,I3,n3⟩:=q3;obtain ⟨m',hm,w3⟩:=hN σ3 H3 n3;exact ⟨m',hm,σ3,H3,I3,w3⟩
  | brk=>exact q3
  | ret v=>exact q3
 | false =>
  rw [if_neg Mu];exact O7 ⟨σ1,H2,I2,q2⟩
end
structure It where
 go:Nat->Hp->Prop
 yld:Nat->Hp->V->Hp->Prop
 stop:Nat->Hp->Prop
def lD (X:Cx) (pins:List (Addr×Obj)) (H:Hp) (b:Addr):Prop :=
 H b=none/\b≠X.env.locals/\b∉X.fs/\(b∈X.ex\/X.s₀.heap.objs.size<=b)/\(∀ x c,X.env.cells.lookup x=some c->c≠b)/\∀ p∈X.pn++pins,p.1≠b
theorem Inv.uJ {X:Cx} {pins:List (Addr×Obj)} {σ:St} {H H':Hp} {s:LU} {b:Addr} (I:Inv X pins σ H s) (hb:s.heap.objs.size<=b) (hn:H' b=none):lD X pins H' b:=by
 refine ⟨hn,OX (Ml I.lt hb),I.LJ hb,.inr (Na I.sz hb),fun x c e z=>?_,fun p hp z=>?_⟩
 ·obtain ⟨v,q⟩:=I.cell x c e;exact absurd (Ml q.lt (by rw [z];exact hb)) (NG _)
 ·exact absurd (Ml (Me (I.pin p hp).1) (by rw [z];exact hb)) (NG _)
structure Turn (P:Ms) (w:World) (K:LM) (tg:Expr) (J:It) (fp:List Addr) (it:Addr) (tn:Nat->Heap->Prop):Prop where
 mem:it∈fp
 obj:∀ i h,tn i h->∀ b∈fp,∃ o,h.get? b=some o/\∀ v,o.data≠.cell v
 keep:∀ i h h',tn i h->(∀ b∈fp,∀ o,h.get? b=some o->h'.get? b=some o)->tn i h'
 item:∀ (X:Cx),X.prog=P->X.w=w->X.K=K->X.calm=true->∀ (i:Nat) (pins:List (Addr×Obj)) (s:LU) (σ:St) (H:Hp) (E:Value->LU->Prop),Inv X pins σ H s->(∀ b∈fp,lD X pins H b)->tn i s.heap->J.go i H ->
  wpAny (model P w) X.A (pyNext (.ref it)) (fun r s1=>∃ u,r=some u /\
   wpAny (model P w) X.A (letOwnedTupleGo tg (.ref it) u) (fun _ s2=>∃ x H',Inv X pins σ H' s2/\RelV x u/\J.yld i H x H'/\tn (i+1) s2.heap/\∀ b∈fp,H' b=none) E s1) E s
 done:∀ (X:Cx),X.prog=P->X.w=w->X.K=K->X.calm=true->∀ (i:Nat) (pins:List (Addr×Obj)) (s:LU) (σ:St) (H:Hp) (E:Value->LU->Prop),Inv X pins σ H s->(∀ b∈fp,lD X pins H b)->tn i s.heap->J.stop i H ->
  wpAny (model P w) X.A (pyNext (.ref it)) (fun r s1=>r=none/\Inv X pins σ H s1) E s
 self:∀ (A:MY) (i:Nat) (s:LU) (Q:Value->LU->Prop) (E:Value->LU->Prop),tn i s.heap->Q (.ref it) s->wpAny (model P w) A (pyIter (.ref it)) Q E s
abbrev TI:=St->Hp->(It->Hp->Prop)->Prop
def PIE (X:Cx) (pins:List (Addr×Obj)) (σ:St) (tg:Expr) (R:It->Hp->Prop) (itv:Value) (s2:LU):Prop :=
 ∃ (it:Addr) (fp:List Addr) (tn:Nat->Heap->Prop) (J:It) (H':Hp),itv=.ref it/\Inv X pins σ H' s2/\Turn X.prog X.w X.K tg J fp it tn/\tn 0 s2.heap/\(∀ b∈fp,lD X pins H' b)/\R J H'
def PI (X:Cx) (tg iter:Expr) (wi:TI):Prop :=
 ∀ (pins:List (Addr×Obj)) (s:LU) (σ:St) (H:Hp) (R:It->Hp->Prop),Inv X pins σ H s->wi σ H R ->
  wpAny (model X.prog X.w) X.A (eval iter X.env) (fun v s1=>wpAny (model X.prog X.w) X.A (pyIter v) (PIE X pins σ tg R) X.xe s1) X.xe s
theorem HJ {M:Model} {A:MY} {E:Value->LU->Prop} {s:LU} {tg:Expr} {it:Addr} {u:Value} {o:Obj} {n:String} {vs:Array Value} {Q:Unit->LU->Prop} (ho:s.heap.get? it=some o) (hc:o.cls=.type n) (hd:o.data=.fields vs)
  (hn:["enumerate","zip","dict_itemiterator","dict_reverseitemiterator","odict_iterator","itertools.zip_longest","itertools.pairwise"].contains n=false) (hQ:Q () s):wpAny M A (letOwnedTupleGo tg (.ref it) u) Q E s:=by
 unfold letOwnedTupleGo;cases tg <;> first
  | exact Mb hQ
  | (cases u <;> first
    | exact Mb hQ
    | (refine LN (wpAny_load ho ?_)
       rw [hc,hd];show wpAny M A (if (["enumerate","zip","dict_itemiterator","dict_reverseitemiterator","odict_iterator","itertools.zip_longest","itertools.pairwise"].contains n && vs[0]? == some (rawInt _))=true then _ else _) Q E s;rw [if_neg (by intro h;rw [hn,Bool.false_and] at h;cases h)]
       exact Mb hQ))
def Itl (K:LM) (a:Addr):It :=
 ⟨fun i H=>∃ xs x,SqL K H a xs/\xs[i]?=some x,fun i H x H'=>H'=H/\∀ xs,SqL K H a xs->xs[i]?=some x,fun i H=>∃ xs,SqL K H a xs/\xs.length<=i⟩
def Itr (lo:Int) (n:Nat):It:=⟨fun i _=>i<n,fun i H x H'=>H'=H/\x=.int (lo+i),fun i _=>n<=i⟩
theorem FK {P:Ms} {w:World} {K:LM} {tg:Expr} (a it:Addr):Turn P w K tg (Itl K a) [it] it (fun i h=>h.IsListIter it a i) where
 mem:=by simp
 obj:=fun i h st b hb=>by
  have e:b=it:=by simpa using hb
  subst e;obtain ⟨o,e,c,d⟩:=st;exact ⟨o,e,fun v z=>by rw [d] at z;cases z⟩
 keep:=fun i h h' st k=>st.at fun o e=>k it (by simp) o e
 item:=by
  intro X hP hw hK hc i pins s σ H E I hf st hg;subst hP hw hK;obtain ⟨xs,x,hq,hx⟩:=hg;obtain ⟨its,rv,p,hz⟩:=I.list hq;obtain ⟨u,hu,ru⟩:=rv.get hx;obtain ⟨f0,f1,f2,f3,f4,f5⟩:=hf it (by simp)
  refine wpAny_pyNext_list_item st p.isList (x:=u) (by simpa using hu) fun h' st' sb=>?_
  have I1:Inv X pins σ H { s with heap:=h' }:=I.turned (t':=s.toks) (fun b o hb e=>(sb.2 b hb).trans e) f0 f1 f3 f4 f5;obtain ⟨o,e,c,d⟩:=id st';exact ⟨u,rfl,HJ (s:={ s with heap:=h' }) e c d (by decide) ⟨x,H,I1,ru,⟨rfl,fun ys hy=>by rw [I.mh hy hq];exact hx⟩,st',fun b hb=>(hf b hb).1⟩⟩
 done:=by
  intro X hP hw hK hc i pins s σ H E I hf st hg;subst hP hw hK;obtain ⟨xs,hq,hx⟩:=hg;obtain ⟨its,rv,p,hz⟩:=I.list hq;obtain ⟨f0,f1,f2,f3,f4,f5⟩:=hf it (by simp)
  have hl:=rv.length;exact wpAny_pyNext_list_end (I.ok.hd hc) st p.isList (by simp;omega) fun h' eb=>⟨rfl,I.turned (t':=s.toks) (fun b o hb e=>eb b o hb e) f0 f1 f3 f4 f5⟩
 self:=fun _ _ _ _ _ st h=>wpAny_pyIter_listiter st h
theorem D1 {P:Ms} {w:World} {K:LM} {tg:Expr} (it:Addr) (lo:Int) (n:Nat):Turn P w K tg (Itr lo n) [it] it (fun i h=>IsRangeIter h it (lo+(i:Nat) * 1) ((n:Int) - (i:Nat)) 1) where
 mem:=by simp
 obj:=fun i h st b hb=>by
  have e:b=it:=by simpa using hb
  subst e;exact ⟨_,st,fun v z=>by
   have z':Tb _=SS v:=z;cases z'⟩
 keep:=fun i h h' st k=>k it (by simp) _ st
 item:=by
  intro X hP hw hK hc i pins s σ H E I hf st hg;subst hP hw hK;obtain ⟨f0,f1,f2,f3,f4,f5⟩:=hf it (by simp)
  have W:=Walks.range (prog:=X.prog) (w:=X.w) (I.ok.hd hc) it lo 1 n;refine W.item i s _ _ hg st fun v h' tk hv st' kk=>?_;obtain ⟨t,rfl⟩:=hv;have I1:Inv X pins σ H { s with heap:=h',toks:=tk }:=I.turned (fun b o hb e=>kk b o (by simpa using hb) e) f0 f1 f3 f4 f5
  refine ⟨_,rfl,HJ (s:={ s with heap:=h',toks:=tk }) (n:="range_iterator") st' rfl rfl (by decide) ⟨.int (lo+i),H,I1,⟨t,?_⟩,⟨rfl,rfl⟩,st',fun b hb=>(hf b hb).1⟩⟩
  rw [Int.mul_one]
 done:=by
  intro X hP hw hK hc i pins s σ H E I hf st hg;subst hP hw hK;obtain ⟨f0,f1,f2,f3,f4,f5⟩:=hf it (by simp)
  exact wpAny_pyNext_range_end (I.ok.hd hc) st (by have:n<=i:=hg;omega) fun h' eb=>⟨rfl,I.turned (t':=s.toks) (fun b o hb e=>eb b o hb e) f0 f1 f3 f4 f5⟩
 self:=fun _ _ _ _ _ st h=>wpAny_pyIter_rangeiter st h
section
variable {X:Cx} {tg:Expr}
def zd (K:LM) (tl:TE):TI:=fun σ H R=>tl σ H fun x H1=>∃ a,x=.ref a/\(∃ xs,SqL K H1 a xs)/\R (Itl K a) H1
theorem JG {l:Expr} {tl:TE} (hl:PE X l tl):PI X tg l (zd X.K tl):=by
 intro pins s σ H R I h;refine thn (hl pins s σ H _ I h) fun v s1 ⟨x,H1,I1,r1,q1⟩=>?_;obtain ⟨a,e,⟨xs,hq⟩,q⟩:=q1;subst e;cases r1;obtain ⟨its,rv,p,hz⟩:=I1.list hq;refine P1 p.isList ?_;refine ⟨s1.heap.objs.size,[s1.heap.objs.size],_,_,H1,rfl,I1.kept (t':=s1.toks) fun b o e=>LV _ e,FK a _,⟨_,Mx _ rfl,rfl,rfl⟩,fun b hb=>?_,q⟩;have e:b=s1.heap.objs.size:=by simpa using hb
 subst e;exact I1.uJ (Mi _) (I1.hok.fresh (Mi _))
theorem Hr {pins:List (Addr×Obj)} {σ:St} {H:Hp} {s:LU} {R:It->Hp->Prop} {E:Value->LU->Prop} {lo hi:Int} {t u v:Tok} {tk:Nat} (I:Inv X pins σ H s) (h1:-(2 ^ 62)<=lo) (h2:lo<2 ^ 62) (h3:-(2 ^ 62)<=hi) (h4:hi<2 ^ 62)
  (q:R (Itr lo (hi - lo).toNat) H):wpAny (model X.prog X.w) X.A (pyIter (.ref s.heap.objs.size)) (PIE X pins σ tg R) E { s with heap:=s.heap.push { cls:=.type "range",data:=.fields #[.int lo t,.int hi u,.int 1 v] },toks:=tk }:=by
 refine wpAny_pyIter_range (IsRange.new ..) (small_one h1 h2 h3 h4) ?_;have I1:Inv X pins σ H { s with heap:=s.heap.push { cls:=.type "range",data:=.fields #[.int lo t,.int hi u,.int 1 v] },toks:=tk }:=I.kept fun b o e=>LV _ e;refine ⟨(s.heap.push { cls:=.type "range",data:=.fields #[.int lo t,.int hi u,.int 1 v] }).objs.size,[(s.heap.push { cls:=.type "range",data:=.fields #[.int lo t,.int hi u,.int 1 v] }).objs.size],_,_,H,rfl,
  I1.kept (t':=tk) fun b o e=>LV _ e,D1 _ lo (hi - lo).toNat,?_,fun b hb=>?_,q⟩
 ·have e1:lo+((0:Nat):Int) * 1=lo:=by simp
  have e2:(((hi - lo).toNat:Nat):Int) - ((0:Nat):Int)=Rj lo hi 1:=by rw [rangeSize_one];split <;> omega
  show IsRangeIter _ _ (lo+((0:Nat):Int) * 1) ((((hi - lo).toNat:Nat):Int) - ((0:Nat):Int)) 1;rw [e1,e2];exact Mx _ rfl
 ·have e:b=(s.heap.push { cls:=.type "range",data:=.fields #[.int lo t,.int hi u,.int 1 v] }).objs.size:=by simpa using hb
  subst e;exact I1.uJ (Mi _) (I1.hok.fresh (Mi _))
def DA (ta:TA):TI:=fun σ H R=>ta σ H fun vs H1=>∃ j:Int,vs=[.int j]/\-(2 ^ 62)<=j/\j<2 ^ 62/\R (Itr 0 j.toNat) H1
theorem Eu {a:Expr} {ta:TA} {p pos:Pos} (hg:Gl X "range") (hm:X.mg "range" = none) (ha:PA X [a] ta) (hs:MZ [a] X.env=[(false,eval a X.env)]:=by rfl):PI X tg (.Call (.Name "range" p) [a] [] pos) (DA ta):=by
 intro pins s σ H R I h;refine Call_ (mO I hg hm boot_range (NA (thn (ha pos pins s σ H _ I h) fun us s1 ⟨vs,H1,I1,r1,q1⟩=>?_) hs rfl));obtain ⟨j,e,q1,q2,q⟩:=q1;subst e;cases r1 with
 | cons r rr =>
  cases rr;obtain ⟨t,rfl⟩:=r;exact call_range_1 (Hr I1 (by omega) (by omega) q1 q2 (by simpa using q))
def Kg (wi:TI) (g:TG) (tb:TS):TS:=fun D σ H=>wi σ H fun J H1=>∃ W:Nat->Nat->St->Hp->Prop,(∃ m,W 0 m σ H1)/\∀ i m σ H,W i m σ H ->
 (J.stop i H/\D.nx σ H)\/(J.go i H/\∃ N:St->Hp->Prop,(∀ σ' H',N σ' H'->∃ m',m' < m/\W (i+1) m' σ' H')/\∀ x H',J.yld i H x H'->g x σ H' fun σ2 H2=>tb { D with nx:=N,ct:=N,bk:=D.nx } σ2 H2)
def mQ (fp:List Addr) (h:Heap):List (Addr×Obj):=fp.filterMap fun b=>(h.get? b).map fun o=>(b,o)
theorem jL {fp:List Addr} {h:Heap} {b:Addr} {o:Obj} (hb:b∈fp) (e:h.get? b=some o):(b,o)∈mQ fp h:=List.mem_filterMap.mpr ⟨b,hb,by rw [e];rfl⟩
theorem FI {fp:List Addr} {h:Heap} {p:Addr×Obj} (hp:p∈mQ fp h):p.1∈fp/\h.get? p.1=some p.2:=by
 obtain ⟨b,hb,e⟩:=List.mem_filterMap.mp hp;cases q:h.get? b with
 | none=>rw [q] at e;cases e
 | some o =>
  rw [q] at e;have e':(b,o)=p:=ML e;subst e';exact ⟨hb,q⟩
theorem Inv.pinned {pins:List (Addr×Obj)} {σ:St} {H:Hp} {s:LU} {fp:List Addr} (I:Inv X pins σ H s) (hf:∀ b∈fp,lD X pins H b) (ho:∀ b∈fp,∃ o,s.heap.get? b=some o/\∀ v,o.data≠.cell v):Inv X (pins++mQ fp s.heap) σ H s :=
 I.Cf fun p hp=>(MC.mp hp).elim (fun z=>I.pin p (MN _ z)) fun z=>by
  obtain ⟨hb,e⟩:=FI z;obtain ⟨f0,f1,f2,_⟩:=hf p.1 hb;obtain ⟨o,e',d⟩:=ho p.1 hb;rw [e] at e';cases e';exact ⟨e,f0,f1,f2,d⟩
theorem Inv.ou {pins pl:List (Addr×Obj)} {σ:St} {H:Hp} {s:LU} (I:Inv X (pins++pl) σ H s):Inv X pins σ H s:=I.Cf fun p hp=>I.pin p (MN _ (Nw _ hp))
theorem bE {iter:Expr} {body:List Stmt} {wi:TI} {g:TG} {tb:TS} {pos:Pos} (hp:PassesOwn (model X.prog X.w) X.A X.env X.xe) (hc:X.calm=true) (hi:PI X tg iter wi) (hg:PG X tg g) (hb:PSs X body tb)
  (hs:∀ x,foldedSetIterable iter X.env x=pure x:=by intro _;rfl):PS X (.For tg iter body [] pos) (Kg wi g tb):=by
 intro pins s σ H D I h;refine wpAny_For (thn (hi pins s σ H _ I h) fun v s1 h1=>thn h1 fun itv s2 h2=>?_) hs;obtain ⟨it,fp,tn,J,H2,e,I2,T,st2,f2,W,⟨m0,w0⟩,turn⟩:=h2;subst e;have stat:∀ {H':Hp},(∀ b∈fp,H' b=none)->∀ b∈fp,lD X pins H' b:=fun hn b hb=>⟨hn b hb,(f2 b hb).2⟩;refine codeAny_forLoop_any (fun n s'=>∃ i σ' H',Inv X pins σ' H' s'/\tn i s'.heap/\(∀ b∈fp,H' b=none)/\W i n σ' H') ?_ m0 ⟨0,σ,H2,I2,st2,fun b hb=>(f2 b hb).1,w0⟩;rintro n s3 ⟨i,σ3,H3,I3,st3,fr3,w3⟩;rcases turn i n σ3 H3 w3 with ⟨stop,qn⟩|⟨go,N,hN,step⟩
 ·refine ON hp (thn (T.done X rfl rfl rfl hc i pins s3 σ3 H3 X.xe I3 (stat fr3) st3 stop) fun r s4 ⟨hr,I4⟩=>?_);subst hr;exact O7 ⟨σ3,H3,I4,qn⟩
 ·refine ON hp (thn (T.item X rfl rfl rfl hc i pins s3 σ3 H3 X.xe I3 (stat fr3) st3 go) fun r s4 ⟨u,hr,h4⟩=>?_);subst hr;refine ON hp (thn h4 fun _ s5 ⟨x,H5,I5,r5,y5,st5,fr5⟩=>?_);have I5':=I5.pinned (stat fr5) (T.obj _ _ st5);refine ON hp (thn (hg _ s5 σ3 H5 x u _ I5' r5 (step x H5 y5)) fun _ s6 ⟨σ6,H6,I6,q6⟩=>?_);refine ON hp (thn (hb _ s6 σ6 H6 _ I6 q6) fun f s7 q7=>?_);have again:∀ {σ7:St} {H7:Hp},Inv X (pins++mQ fp s5.heap) σ7 H7 s7->N σ7 H7->∃ m,m<n/\∃ i σ' H',Inv X pins σ' H' s7/\tn i s7.heap/\(∀ b∈fp,H' b=none)/\W i m σ' H':=fun {σ7 H7} I7 n7=>by
   obtain ⟨m',hm,w7⟩:=hN σ7 H7 n7;refine ⟨m',hm,i+1,σ7,H7,I7.ou,T.keep _ _ _ st5 fun b hb o e=>(I7.pin (b,o) (MN _ (MN _ (jL hb e)))).1,fun b hb=>?_,w7⟩;obtain ⟨o,e,d⟩:=T.obj _ _ st5 b hb;exact (I7.pin (b,o) (MN _ (MN _ (jL hb e)))).2.1
  cases f with
  | next=>obtain ⟨σ7,H7,I7,n7⟩:=q7;exact again I7 n7
  | cont=>obtain ⟨σ7,H7,I7,n7⟩:=q7;exact again I7 n7
  | brk=>obtain ⟨σ7,H7,I7,q7⟩:=q7;exact ⟨σ7,H7,I7.ou,q7⟩
  | ret v=>obtain ⟨x7,σ7,H7,I7,r7,q7⟩:=q7;exact ⟨x7,σ7,H7,I7.ou,r7,q7⟩
end
theorem HC {K:LM} {a:Addr} {xs:List V} {g:TG} {tb:TS} {D:Ends} {σ:St} {H:Hp} (Pv:Nat->St->Hp->Prop) (h0:Pv 0 σ H) (hl:∀ i σ H,i<=xs.length->Pv i σ H->SqL K H a xs)
  (hs:∀ i x σ H,xs[i]?=some x->Pv i σ H->g x σ H fun σ2 H2=>tb { D with nx:=Pv (i+1),ct:=Pv (i+1),bk:=D.nx } σ2 H2) (hd:∀ σ H,Pv xs.length σ H->D.nx σ H) :
  ∃ W:Nat->Nat->St->Hp->Prop,(∃ m,W 0 m σ H)/\∀ i m σ H,W i m σ H ->
   ((Itl K a).stop i H/\D.nx σ H)\/((Itl K a).go i H/\∃ N:St->Hp->Prop,(∀ σ' H',N σ' H'->∃ m',m' < m/\W (i+1) m' σ' H')/\∀ x H',(Itl K a).yld i H x H'->g x σ H' fun σ2 H2=>tb { D with nx:=N,ct:=N,bk:=D.nx } σ2 H2):=by
 refine ⟨fun i m σ H=>m=xs.length - i/\i<=xs.length/\Pv i σ H,⟨xs.length,by simp,Nd _,h0⟩,?_⟩
 rintro i m σ H ⟨rfl,hi,p⟩;have q:=hl i σ H hi p
 by_cases hlt:i<xs.length
 ·refine .inr ⟨⟨xs,xs[i],q,by simp [hlt]⟩,Pv (i+1),fun σ' H' p'=>⟨xs.length - (i+1),by omega,rfl,hlt,p'⟩,fun x H' y=>?_⟩
  obtain ⟨e,y⟩:=y;subst e;exact hs i x σ _ (y xs q) p
 ·have e:i=xs.length:=by omega
  subst e;exact .inl ⟨⟨xs,q,Mi _⟩,hd σ H p⟩
theorem FT {lo:Int} {n:Nat} {g:TG} {tb:TS} {D:Ends} {σ:St} {H:Hp} (Pv:Nat->St->Hp->Prop) (h0:Pv 0 σ H)
  (hs:∀ i σ H,i<n->Pv i σ H->g (.int (lo+i)) σ H fun σ2 H2=>tb { D with nx:=Pv (i+1),ct:=Pv (i+1),bk:=D.nx } σ2 H2) (hd:∀ σ H,Pv n σ H->D.nx σ H) :
  ∃ W:Nat->Nat->St->Hp->Prop,(∃ m,W 0 m σ H)/\∀ i m σ H,W i m σ H ->
   ((Itr lo n).stop i H/\D.nx σ H)\/((Itr lo n).go i H/\∃ N:St->Hp->Prop,(∀ σ' H',N σ' H'->∃ m',m' < m/\W (i+1) m' σ' H')/\∀ x H',(Itr lo n).yld i H x H'->g x σ H' fun σ2 H2=>tb { D with nx:=N,ct:=N,bk:=D.nx } σ2 H2):=by
 refine ⟨fun i m σ H=>m=n - i/\i<=n/\Pv i σ H,⟨n,by simp,Nd _,h0⟩,?_⟩
 rintro i m σ H ⟨rfl,hi,p⟩
 by_cases hlt:i<n
 ·refine .inr ⟨hlt,Pv (i+1),fun σ' H' p'=>⟨n - (i+1),by omega,rfl,hlt,p'⟩,fun x H' y=>?_⟩
  obtain ⟨e,y⟩:=y;subst e y;exact hs i σ _ hlt p
 ·have e:i=n:=by omega
  subst e;exact .inl ⟨Mi _,hd σ H p⟩
abbrev R2:=V->V->Hp->VK->Prop
def OpR (X:Cx) (f:Value->Value->Sem Value) (r:R2):Prop :=
 ∀ (pins:List (Addr×Obj)) (s:LU) (σ:St) (H:Hp) (x y:V) (v u:Value) (Q:VK),Inv X pins σ H s->RelV x v->RelV y u->r x y H Q ->
  wpAny (model X.prog X.w) X.A (f v u) (EP X pins σ Q) X.xe s
def UnR (X:Cx) (f:Value->Sem Value) (r:V->Hp->VK->Prop):Prop :=
 ∀ (pins:List (Addr×Obj)) (s:LU) (σ:St) (H:Hp) (x:V) (v:Value) (Q:VK),Inv X pins σ H s->RelV x v->r x H Q ->
  wpAny (model X.prog X.w) X.A (f v) (EP X pins σ Q) X.xe s
def cW (X:Cx) (f:Value) (r:List V->Hp->VK->Prop):Prop :=
 ∀ (pins:List (Addr×Obj)) (s:LU) (σ:St) (H:Hp) (xs:List V) (us:List Value) (Q:VK),Inv X pins σ H s->Vals xs us->r xs H Q ->
  wpAny (model X.prog X.w) X.A (call f us) (EP X pins σ Q) X.xe s
def tOp (r:R2) (ta tb:TE):TE:=fun σ H Q=>ta σ H fun x H1=>tb σ H1 fun y H2=>r x y H2 Q
def tUn (r:V->Hp->VK->Prop) (ta:TE):TE:=fun σ H Q=>ta σ H fun x H1=>r x H1 Q
def rI (C:Int->Int->Prop) (g:Int->Int->V):R2:=fun x y H Q=>∃ i j,x=.int i/\y=.int j/\C i j/\Q (g i j) H
def rI0 (g:Int->Int->V):R2:=fun x y H Q=>∃ i j,x=.int i/\y=.int j/\Q (g i j) H
def rU (g:Int->V):V->Hp->VK->Prop:=fun x H Q=>∃ i,x=.int i/\Q (g i) H
section
variable {X:Cx} {a b c:Expr} {ta tb tc:TE} {pos:Pos}
theorem Gk (ha:PE X a ta) (hb:PE X b tb) {pins:List (Addr×Obj)} {s:LU} {σ:St} {H:Hp} {R:V->V->Hp->Prop} (I:Inv X pins σ H s)
  (h:ta σ H fun x H1=>tb σ H1 fun y H2=>R x y H2) {Q:Value->LU->Prop} {f:Value->Value->Sem Value}
  (hf:∀ v u s2 x y H2,Inv X pins σ H2 s2->RelV x v->RelV y u->R x y H2->wpAny (model X.prog X.w) X.A (f v u) Q X.xe s2) :
  wpAny (model X.prog X.w) X.A (eval a X.env) (fun v s₁=>wpAny (model X.prog X.w) X.A (eval b X.env) (fun u s₂=>wpAny (model X.prog X.w) X.A (f v u) Q X.xe s₂) X.xe s₁) X.xe s:=by
 refine thn (ha pins s σ H _ I h) fun v s1 ⟨x,H1,I1,r1,q1⟩=>?_;refine thn (hb pins s1 σ H1 _ I1 q1) fun u s2 ⟨y,H2,I2,r2,q2⟩=>?_;exact hf v u s2 x y H2 I2 r1 r2 q2
theorem ak {op:Operator} {r:R2} (ho:OpR X (binaryOp op) r) (ha:PE X a ta) (hb:PE X b tb):PE X (.BinOp a op b pos) (tOp r ta tb):=by
 intro pins s σ H Q I h;exact wpAny_BinOp (Gk ha hb I h fun v u s2 x y H2 I2 rx ry q=>ho pins s2 σ H2 x y v u Q I2 rx ry q)
theorem K4 {op:UnaryOp} {r:V->Hp->VK->Prop} (ho:UnR X (unaryOp op) r) (ha:PE X a ta):PE X (.UnaryOp op a pos) (tUn r ta):=by
 intro pins s σ H Q I h;exact UnaryOp_ (thn (ha pins s σ H _ I h) fun v s1 ⟨x,H1,I1,r1,q1⟩=>ho pins s1 σ H1 x v Q I1 r1 q1)
theorem opI {f:Value->Value->Sem Value} {C:Int->Int->Prop} {g:Int->Int->Int}
  (rule:∀ (i j:Int) (t u:Tok) (s:LU) (Q:Value->LU->Prop) (E:Value->LU->Prop),C i j->Q (.int (g i j) s.toks) { s with toks:=s.toks+1 }->wpAny (model X.prog X.w) X.A (f (.int i t) (.int j u)) Q E s) :
  OpR X f (rI C fun i j=>.int (g i j)):=by
 intro pins s σ H x y v u Q I rx ry h;obtain ⟨i,j,rfl,rfl,hc,q⟩:=h;obtain ⟨t,rfl⟩:=rx;obtain ⟨t',rfl⟩:=ry;exact rule i j t t' s _ _ hc ⟨.int (g i j),H,I.tok _,⟨_,rfl⟩,q⟩
theorem JV {f:Value->Value->Sem Value} {g:Int->Int->Int}
  (rule:∀ (i j:Int) (t u:Tok) (s:LU) (Q:Value->LU->Prop) (E:Value->LU->Prop),Q (.int (g i j) s.toks) { s with toks:=s.toks+1 }->wpAny (model X.prog X.w) X.A (f (.int i t) (.int j u)) Q E s) :
  OpR X f (rI0 fun i j=>.int (g i j)):=by
 intro pins s σ H x y v u Q I rx ry h;obtain ⟨i,j,rfl,rfl,q⟩:=h;obtain ⟨t,rfl⟩:=rx;obtain ⟨t',rfl⟩:=ry;exact rule i j t t' s _ _ ⟨.int (g i j),H,I.tok _,⟨_,rfl⟩,q⟩
theorem DY {f:Value->Value->Sem Value} {g:Int->Int->Bool}
  (rule:∀ (i j:Int) (t u:Tok) (s:LU) (Q:Value->LU->Prop) (E:Value->LU->Prop),Q (.bool (g i j)) s->wpAny (model X.prog X.w) X.A (f (.int i t) (.int j u)) Q E s) :
  OpR X f (rI0 fun i j=>.bl (g i j)):=by
 intro pins s σ H x y v u Q I rx ry h;obtain ⟨i,j,rfl,rfl,q⟩:=h;obtain ⟨t,rfl⟩:=rx;obtain ⟨t',rfl⟩:=ry;exact rule i j t t' s _ _ ⟨.bl (g i j),H,I,rfl,q⟩
def GI (i j:Int):Prop:=0<j/\j<1073741824
def LA (i j:Int):Prop:=0<=j/\j<=1000000/\i.natAbs<2 ^ 64
def DE (i j:Int):Prop:=(-(2 ^ 64)<i/\i<2 ^ 64)\/(-(2 ^ 64)<j/\j<2 ^ 64)
theorem DE.ok {i j:Int} (h:DE i j):IntMulOk i j:=by
 rcases h with ⟨h1,h2⟩|⟨h1,h2⟩
 ·exact .of_left (intBits_le_64 h1 h2)
 ·exact .of_right (intBits_le_64 h1 h2)
theorem a0:OpR X (binaryOp .Add) (rI0 fun i j=>.int (i+j)):=JV fun _ _ _ _ _ _ _ q=>add_int q
theorem iI:OpR X (binaryOp .Sub) (rI0 fun i j=>.int (i - j)):=JV fun _ _ _ _ _ _ _ q=>sub_int q
theorem bL:OpR X (binaryOp .Mult) (rI DE fun i j=>.int (i * j)):=opI fun _ _ _ _ _ _ _ hc q=>mul_int q hc.ok
theorem bA:OpR X (binaryOp .FloorDiv) (rI GI fun i j=>.int (i / j)):=opI fun i j _ _ _ _ _ hc q=>by
 have h1:(0:Int)<j:=hc.1;have h2:j<1073741824:=hc.2;exact floordiv_int (by omega) (by rw [Int.fdiv_eq_ediv_of_nonneg i (by omega)];exact q) (.inl (PyProof.noPylong_small (by omega)))
theorem aT:OpR X (binaryOp .Mod) (rI (fun _ j=>0<j) fun i j=>.int (i % j)):=opI fun i j _ _ _ _ _ hc q=>by
 have h1:(0:Int)<j:=hc;exact mod_int' (by omega) (by rw [Int.fmod_eq_emod_of_nonneg i (by omega)];exact q)
theorem Es:OpR X (binaryOp .Pow) (rI LA fun i j=>.int (i ^ j.toNat)):=opI fun _ _ _ _ _ _ _ hc q=>pow_int_small hc.1 hc.2.1 hc.2.2 q
theorem unI {f:Value->Sem Value} {g:Int->Int}
  (rule:∀ (i:Int) (t:Tok) (s:LU) (Q:Value->LU->Prop) (E:Value->LU->Prop),Q (.int (g i) s.toks) { s with toks:=s.toks+1 }->wpAny (model X.prog X.w) X.A (f (.int i t)) Q E s) :
  UnR X f (rU fun i=>.int (g i)):=by
 intro pins s σ H x v Q I rx h;obtain ⟨i,rfl,q⟩:=h;obtain ⟨t,rfl⟩:=rx;exact rule i t s _ _ ⟨.int (g i),H,I.tok _,⟨_,rfl⟩,q⟩
theorem Kv:UnR X (unaryOp .USub) (rU fun i=>.int (-i)):=unI fun _ _ _ _ _ q=>neg_int q
end
def K1:V->V->Bool
 | .non,.non=>true | .non,.int _=>true | .int _,.non=>true | .non,.bl _=>true | .bl _,.non=>true | .non,.str _=>true | .str _,.non=>true
 | .int _,.int _=>true | .bl _,.bl _=>true | .str _,.str _=>true | .byt _,.byt _=>true
 | .int _,.str _=>true | .str _,.int _=>true | .bl _,.str _=>true | .str _,.bl _=>true
 | _,_=>false
def rEq:R2:=fun x y H Q=>K1 x y=true/\Q (.bl (decide (x=y))) H
def rNe:R2:=fun x y H Q=>K1 x y=true/\Q (.bl (!decide (x=y))) H
theorem B5 {i j:Int}:decide (V.int i=V.int j)=(i == j):=by
 rw [NX];simp
theorem FD {i j:Bool}:decide (V.bl i=V.bl j)=(i == j):=by
 rw [NX];simp
theorem Cc {i j:Str}:decide (V.str i=V.str j)=(i == j):=by
 rw [NX];simp
theorem B7 {i j:Array UInt8}:decide (V.byt i=V.byt j)=(i.toList == j.toList):=by
 rw [NX];cases i;cases j;simp
section
variable {X:Cx} {a b c:Expr} {ta tb tc:TE} {pos:Pos}
theorem bO {pins:List (Addr×Obj)} {σ:St} {H:Hp} {s:LU} {Q:VK} {k k':Bool} (I:Inv X pins σ H s) (q:Q (.bl k) H) (e:k=k'):EP X pins σ Q (.bool k') s:=by
 subst e;exact ⟨.bl k,H,I,rfl,q⟩
theorem bM:OpR X (compareOp .Eq) rEq:=by
 intro pins s σ H x y v u Q I rx ry h;obtain ⟨hs,q⟩:=h;cases x with
 | non =>
  cases rx;cases y with
  | non=>cases ry;exact PySem.EqNone.eq_none_none (bO I q (by simp))
  | bl j=>cases ry;exact PySem.EqNone.eq_none_bool (bO I q (by simp))
  | int j=>obtain ⟨t',rfl⟩:=ry;exact PySem.EqNone.eq_none_int (bO I q (by simp))
  | str j=>obtain ⟨t',rfl⟩:=ry;exact PySem.EqNone.eq_none_str (bO I q (by simp))
  | _=>exact absurd (show false=true from hs) Mu
 | bl i =>
  cases rx;cases y with
  | non=>cases ry;exact PySem.EqNone.eq_bool_none (bO I q (by simp))
  | bl j=>cases ry;exact eq_bool (bO I q FD)
  | str j=>obtain ⟨t',rfl⟩:=ry;exact PySem.EqMixed.eq_bool_str (bO I q (by simp))
  | _=>exact absurd (show false=true from hs) Mu
 | int i =>
  obtain ⟨t,rfl⟩:=rx;cases y with
  | non=>cases ry;exact PySem.EqNone.eq_int_none (bO I q (by simp))
  | int j=>obtain ⟨t',rfl⟩:=ry;exact eq_int (bO I q B5)
  | str j=>obtain ⟨t',rfl⟩:=ry;exact PySem.EqMixed.eq_int_str (bO I q (by simp))
  | _=>exact absurd (show false=true from hs) Mu
 | str i =>
  obtain ⟨t,rfl⟩:=rx;cases y with
  | non=>cases ry;exact PySem.EqNone.eq_str_none (bO I q (by simp))
  | bl j=>cases ry;exact PySem.EqMixed.eq_str_bool (bO I q (by simp))
  | int j=>obtain ⟨t',rfl⟩:=ry;exact PySem.EqMixed.eq_str_int (bO I q (by simp))
  | str j=>obtain ⟨t',rfl⟩:=ry;exact eq_str (bO I q Cc)
  | _=>exact absurd (show false=true from hs) Mu
 | byt i =>
  obtain ⟨t,rfl⟩:=rx;cases y with
  | byt j=>obtain ⟨t',rfl⟩:=ry;exact PySem.W.eq_bytes (bO I q B7)
  | _=>exact absurd (show false=true from hs) Mu
 | _=>cases y <;> exact absurd (show false=true from hs) Mu
theorem fQ:OpR X (compareOp .NotEq) rNe:=by
 intro pins s σ H x y v u Q I rx ry h;obtain ⟨hs,q⟩:=h;cases x with
 | non =>
  cases rx;cases y with
  | non=>cases ry;exact PySem.EqNone.ne_none_none (bO I q (by simp))
  | bl j=>cases ry;exact PySem.EqNone.ne_none_bool (bO I q (by simp))
  | int j=>obtain ⟨t',rfl⟩:=ry;exact PySem.EqNone.ne_none_int (bO I q (by simp))
  | str j=>obtain ⟨t',rfl⟩:=ry;exact PySem.EqNone.ne_none_str (bO I q (by simp))
  | _=>exact absurd (show false=true from hs) Mu
 | bl i =>
  cases rx;cases y with
  | non=>cases ry;exact PySem.EqNone.ne_bool_none (bO I q (by simp))
  | bl j=>cases ry;exact ne_bool (bO I q (congrArg not FD))
  | str j=>obtain ⟨t',rfl⟩:=ry;exact PySem.EqMixed.ne_bool_str (bO I q (by simp))
  | _=>exact absurd (show false=true from hs) Mu
 | int i =>
  obtain ⟨t,rfl⟩:=rx;cases y with
  | non=>cases ry;exact PySem.EqNone.ne_int_none (bO I q (by simp))
  | int j=>obtain ⟨t',rfl⟩:=ry;exact ne_int (bO I q (congrArg not B5))
  | str j=>obtain ⟨t',rfl⟩:=ry;exact PySem.EqMixed.ne_int_str (bO I q (by simp))
  | _=>exact absurd (show false=true from hs) Mu
 | str i =>
  obtain ⟨t,rfl⟩:=rx;cases y with
  | non=>cases ry;exact PySem.EqNone.ne_str_none (bO I q (by simp))
  | bl j=>cases ry;exact PySem.EqMixed.ne_str_bool (bO I q (by simp))
  | int j=>obtain ⟨t',rfl⟩:=ry;exact PySem.EqMixed.ne_str_int (bO I q (by simp))
  | str j=>obtain ⟨t',rfl⟩:=ry;exact ne_str (bO I q (congrArg not Cc))
  | _=>exact absurd (show false=true from hs) Mu
 | byt i =>
  obtain ⟨t,rfl⟩:=rx;cases y with
  | byt j=>obtain ⟨t',rfl⟩:=ry;exact PySem.W.ne_bytes (bO I q (congrArg not B7))
  | _=>exact absurd (show false=true from hs) Mu
 | _=>cases y <;> exact absurd (show false=true from hs) Mu
theorem i7:OpR X (compareOp .Lt) (rI0 fun i j=>.bl (decide (i<j))):=DY fun _ _ _ _ _ _ _ q=>lt_int q
theorem Ib:OpR X (compareOp .LtE) (rI0 fun i j=>.bl (decide (i<=j))):=DY fun _ _ _ _ _ _ _ q=>le_int q
theorem pj:OpR X (compareOp .Gt) (rI0 fun i j=>.bl (decide (j<i))):=DY fun _ _ _ _ _ _ _ q=>gt_int q
theorem oU:OpR X (compareOp .GtE) (rI0 fun i j=>.bl (decide (j<=i))):=DY fun _ _ _ _ _ _ _ q=>ge_int q
theorem aE (b:Expr) {op:CmpOp} (h:op≠.In:=by decide) (h2:op≠.NotIn:=by decide):behindInMarks op b=false:=by
 have e1:(op == CmpOp.In)=false:=by cases op <;> first|rfl|exact absurd rfl h
 have e2:(op == CmpOp.NotIn)=false:=by cases op <;> first|rfl|exact absurd rfl h2
 cases b <;> simp [behindInMarks,e1,e2]
theorem bS {op:CmpOp} {r:R2} (ho:OpR X (compareOp op) r) (ha:PE X a ta) (hb:PE X b tb) (hm:behindInMarks op b=false):PE X (.Compare a [op] [b] pos) (tOp r ta tb):=by
 intro pins s σ H Q I h;exact wpAny_Compare1 (Gk ha hb I h fun v u s2 x y H2 I2 rx ry q=>ho pins s2 σ H2 x y v u Q I2 rx ry q) hm
def HS (t:TE):TT:=fun σ H Q=>t σ H fun x H'=>∃ k,x=.bl k/\Q k H'
theorem aH {op:CmpOp} {r:R2} (ho:OpR X (compareOp op) r) (ha:PE X a ta) (hb:PE X b tb) (hm:behindInMarks op b=false):PT X (.Compare a [op] [b] pos) (HS (tOp r ta tb)):=by
 intro pins s σ H Q I h;refine RQ (thn (ha pins s σ H _ I h) fun v s1 ⟨x,H1,I1,r1,q1⟩=>thn (hb pins s1 σ H1 _ I1 q1) fun u s2 ⟨y,H2,I2,r2,q2⟩ =>
  thn (ho pins s2 σ H2 x y v u _ I2 r1 r2 q2) fun c s3 ⟨z,H3,I3,r3,k,e,q3⟩=>?_) hm
 subst e;cases r3;exact N8 ⟨H3,I3,q3⟩
theorem vB:(MB:Nat)<2 ^ 63:=by rw [NJ];decide
theorem vals1 {x:V} {us:List Value} (r:Vals [x] us):∃ u,us=[u]/\RelV x u:=by
 cases r with
 | cons r1 r2=>cases r2;exact ⟨_,rfl,r1⟩
theorem Fi:cW X (.type "int") (fun xs H Q=>(∃ i,xs=[.int i]/\Q (.int i) H)\/∃ k,xs=[.bl k]/\Q (.int (if k then 1 else 0)) H):=by
 intro pins s σ H xs us Q I r h;rcases h with ⟨i,rfl,q⟩|⟨k,rfl,q⟩
 ·obtain ⟨u,rfl,t,rfl⟩:=vals1 r;exact call_int_int ⟨.int i,H,I,⟨_,rfl⟩,q⟩
 ·obtain ⟨u,rfl,r1⟩:=vals1 r;cases r1;exact call_int_bool ⟨.int (if k then 1 else 0),H,I.tok _,⟨_,rfl⟩,q⟩
end
structure va (h:Heap) (x dx C:Addr) (mA:Str->Option Value):Prop where
 obj:h.get? x=some (Ox C dx)
 ns:h.Ns1 dx mA
 ne:dx≠x
theorem so {h:Heap} {dx:Addr} {mA:Str->Option Value} (n:h.Ns1 dx mA):∃ od,h.get? dx=some od/\∀ name,QQ name od=some (mA name):=by
 obtain ⟨o,es,ep,ho,hd,hk,_,hm⟩:=n;refine ⟨o,ho,fun name=>?_⟩;have e:=hm name;unfold nsFind findBy at e;rw [<- Array.find?_toList] at e;unfold QQ;rw [hd];dsimp only
 split
 ·rename_i y q
  rw [q] at e;exact congrArg some e
 ·rename_i q
  rw [q] at e;have a:es.toList.any (·.refKey)=false:=by
   rw [P2];intro y hy;obtain ⟨z,t,hkey⟩:=hk y (Array.mem_toList_iff.mp hy);simp [DictEntry.refKey,hkey]
  have a':¬ es.toList.any (·.refKey)=true:=by rw [a];exact Mu
  rw [if_neg a'];exact congrArg some e
theorem va.look {h:Heap} {x dx C:Addr} {mA:Str->Option Value} (I:va h x dx C mA):∃ od,QR h x (Ox C dx) C (some od)/\∀ name,QQ name od=some (mA name) :=
 let ⟨od,ho,hl⟩:=so I.ns
 ⟨od,⟨I.obj,rfl,rfl,ho⟩,hl⟩
section
variable {prog:Ms} {w:World} {A:MY} {E:Value->LU->Prop} {s:LU} {K:LM} {x dx C f:Addr} {mA:Str->Option Value} {name:Str} {v:Value}
theorem get_map {expr:Bool} {Q:Value->LU->Prop} (X:K.In s.heap) (I:va s.heap x dx C mA) (hg:N5 K C name=true) (hh:Nb K C=true)
  (ha:Ma K (.ref C) name=some none) (hv:mA name=some v) (hv':Ry v=true) (h:Q v { s with toks:=s.toks+1 }) :
  wpAny (model prog w) A (getAttr (.ref x) name expr) Q E s:=by
 obtain ⟨od,J,hl⟩:=I.look;exact PySem.W.get_value X J (Qr hg).1 (SE hh ha rfl (by rw [hl,hv])) hv' h
theorem Gv {pl:Sem Bool} {Q:Value×List Value->LU->Prop} (X:K.In s.heap) (I:va s.heap x dx C mA) (hg:N5 K C name=true)
  (hf:Ma K (.ref C) name=some (some (.ref f))) (ht:Ot K (.ref f)=true) (hv:mA name=none) (h:Q (.ref f,[.ref x]) s) :
  wpAny (model prog w) A (getMethod (.ref x) name pl) Q E s:=by
 obtain ⟨od,J,hl⟩:=I.look;exact PySem.W.method_fn X J (Qr hg).1 (Qr hg).2 hf (beq_iff_eq.mp ht) (by show (QQ name od).map (·.isSome)=some false;rw [hl,hv];rfl) h
theorem Jk {ns:List Str} {Q:Unit->LU->Prop} (X:K.In s.heap) (I:va s.heap x dx C mA)
  (hs:Ma K (.ref C) "__setattr__" = some (some (.builtin "object.__setattr__"))) (hp:Ow K C=true) (ht:RS K C name=some none) (hh:Nb K C=true)
  (hw:QF mA ns) (hsz:ns.length<=MB)
  (h:∀ h',va h' x dx C (fun y=>if y=name then some v else mA y)->OW dx s.heap h'->Q () { s with heap:=h',toks:=s.toks+2 }) :
  wpAny (model prog w) A (setAttr (.ref x) name v) Q E s:=by
 obtain ⟨od,J,hl⟩:=I.look;refine QX X J hs (PySem.W.osa_open (s:={ s with toks:=s.toks+1 }) (r:=none) X J hp ht fun b=>?_);obtain ⟨cd,hc,hd'⟩:=Pp hh;have hx:s.heap.get? x=some ⟨.ref C,some dx,.plain,#[]⟩:=I.obj;refine LN (Mb (LN (LN (QT hx (LN (QI (s:={ s with toks:=s.toks+1 }) (Pr X hc) ?_))))));rw [hd'];refine Mb (a:=some dx) (LN (Mb (LN ?_)));refine S1 (s:={ s with toks:=s.toks+1 }) I.ns fun h' hn2 hs2=>?_;obtain ⟨oD,esD,epD,hoD,hdD,hcD⟩:=hn2.count (QY name v hw);refine LN (Rz hoD (by rw [hdD];exact RA (Na hcD (by rw [MX];omega))) ?_)
 exact Mb (h _ ⟨(hs2.2 _ (NV I.ne)).trans I.obj,hn2,I.ne⟩ hs2)
theorem Az {R:QZ->LU->Prop} {vs:List Value} {kw:List (Str×Value)} (X:K.In s.heap) (hm:OO K C=true)
  (hi:Ma K (.ref C) "__init__" = some (some (.ref f))) (hf:PySem.W.typeIn K (.ref f)=some (.type "function"))
  (h:codeAny (model prog w) (A.under (.builtin "type.__call__" ⟨.ref C :: vs,kw⟩)) (.call (.ref f) ⟨.ref (s.heap.objs.size+1) :: vs,kw⟩) (PySem.W.InitBack (s.heap.objs.size+1) R)
   { s with heap:=(s.heap.push MT).push (Ox C s.heap.objs.size) }) :
  codeAny (model prog w) A (.call (.ref C) ⟨vs,kw⟩) R s:=by
 obtain ⟨hh,g,d,t,os⟩:=s;exact PySem.W.make_core (PySem.W.makes_of X hm) (NK X hi) (fun self=>PySem.W.bind_fn X self hf) (.inl rfl) h
end
def cI (f:Str) (v:V):List (Str×V)->List (Str×V)
 | []=>[(f,v)]
 | (g,x) :: r=>if g=f then (g,v) :: r else (g,x) :: cI f v r
theorem mF (f g:Str) (v:V):∀ fs:List (Str×V),(cI f v fs).lookup g=if g=f then some v else fs.lookup g
 | []=>by
  show Pt g [(f,v)]=_
  by_cases h:g=f
  ·have hb:(g == f)=true:=beq_iff_eq.mpr h;simp only [Pt,hb,if_pos h]
  ·have hb:(g == f)=false:=beq_eq_false_iff_ne.mpr h;simp only [Pt,hb,if_neg h]
 | (k,x) :: r=>by
  have ih:=mF f g v r;rw [show cI f v ((k,x) :: r)=(if k=f then (k,v) :: r else (k,x) :: cI f v r) from rfl]
  by_cases hk:k=f
  ·rw [if_pos hk]
   by_cases h:g=k
   ·have hb:(g == k)=true:=beq_iff_eq.mpr h;simp only [Pt,hb,if_pos (h.trans hk)]
   ·have hb:(g == k)=false:=beq_eq_false_iff_ne.mpr h;simp only [Pt,hb,if_neg (fun e:g=f=>h (e.trans hk.symm))]
  ·rw [if_neg hk]
   by_cases h:g=k
   ·have hb:(g == k)=true:=beq_iff_eq.mpr h;simp only [Pt,hb,if_neg (fun e:g=f=>hk (h.symm.trans e))]
   ·have hb:(g == k)=false:=beq_eq_false_iff_ne.mpr h;simp only [Pt,hb];exact ih
theorem rQ (f:Str) (v:V):∀ fs:List (Str×V),f∈(cI f v fs).map (·.1)/\∀ g,g∈fs.map (·.1)->g∈(cI f v fs).map (·.1)
 | []=>⟨by simp [cI],fun g h=>by simp at h⟩
 | (k,x) :: r=>by
  obtain ⟨i1,i2⟩:=rQ f v r;rw [show cI f v ((k,x) :: r)=(if k=f then (k,v) :: r else (k,x) :: cI f v r) from rfl]
  by_cases hk:k=f
  ·rw [if_pos hk];subst hk;exact ⟨by simp,fun g h=>by simpa using h⟩
  ·rw [if_neg hk];refine ⟨?_,fun g h=>?_⟩
   ·rw [MO];exact Mh _ i1
   ·rw [MO] at h ⊢;rcases My.mp h with e|e
    ·exact My.mpr (.inl e)
    ·exact Mh _ (i2 g e)
theorem ux (f:Str) (v:V):∀ fs:List (Str×V),(cI f v fs).length<=fs.length+1
 | []=>by simp [cI]
 | (k,x) :: r=>by
  have ih:=ux f v r;rw [show cI f v ((k,x) :: r)=(if k=f then (k,v) :: r else (k,x) :: cI f v r) from rfl]
  by_cases hk:k=f
  ·rw [if_pos hk,MX,MX];omega
  ·rw [if_neg hk,MX,MX];omega
theorem iF.some_of {v:V} {o:Option Value} (r:iF (some v) o):∃ u,o=some u/\RelV v u:=by
 cases o with
 | none=>exact (show False from r).elim
 | some u=>exact ⟨u,rfl,r⟩
theorem iF.none_of {o:Option Value} (r:iF none o):o=none:=by
 cases o with
 | none=>rfl
 | some u=>exact (show False from r).elim
theorem yh {v:V} {u:Value} (r:RelV v u):Ry u=true:=by
 cases v with
 | non=>cases (show u=Ov from r);rfl
 | bl b=>cases (show u=Sl b from r);rfl
 | int i=>obtain ⟨t,e⟩:=(show ∃ t,u=O3 i t from r);cases e;rfl
 | str x=>obtain ⟨t,e⟩:=(show ∃ t,u=SQ x t from r);cases e;rfl
 | byt b=>obtain ⟨t,e⟩:=(show ∃ t,u=Value.bytes b t from r);cases e;rfl
 | flt b=>obtain ⟨t,e⟩:=(show ∃ t,u=Ta b t from r);cases e;rfl
 | ref a=>cases (show u=Mw a from r);rfl
 | ty n=>cases (show u=Sm n from r);rfl
section
variable {P:Ms} {w:World} {H H':Hp} {h h':Heap} {a C dx:Addr} {fs fs':List (Str×V)}
theorem tI (hok:HOk P w H h) (e:H a=some (.ins C dx fs)):∃ mA,va h a dx C mA/\(∀ f,iF (fs.lookup f) (mA f))/\QF mA (fs.map (·.1))/\fs.length<=1000/\H dx=some (.own a):=by
 obtain ⟨d,z,ne,ob,mA,n,r,q⟩:=(show bB P w H h a (.ins C dx fs) from hok a _ e);exact ⟨mA,⟨ob,n,ne⟩,r,q,z,d⟩
end
structure Cls (K:LM) (C:Addr):Prop where
 pg:N5 K C RT=true
 hd:Nb K C=true
 po:Ow K C=true
 sa:Ma K (.ref C) "__setattr__" = some (some (.builtin "object.__setattr__"))
theorem Cls.get {K:LM} {C:Addr} (c:Cls K C) (f:Str):N5 K C f=true:=c.pg
def bf (K:LM) (C:Addr) (f:Str):Prop:=Ma K (.ref C) f=some none
theorem bf.Lq {K:LM} {C:Addr} {f:Str} (n:bf K C f):RS K C f=some none:=by
 unfold RS;rw [show Ma K (.ref C) f=some none from n];rfl
structure Meth (K:LM) (C:Addr) (m:Str) (f:Addr):Prop where
 at_:Ma K (.ref C) m=some (some (.ref f))
 fn:Ot K (.ref f)=true
 kp:LW K (.ref f)=true
section
variable {X:Cx} {pins:List (Addr×Obj)} {σ:St} {H:Hp} {s:LU} {a C dx:Addr} {fs:List (Str×V)} {f:Str} {v:V} {A:MY} {E:Value->LU->Prop}
theorem D3 {b:Bool} {Q:Value->LU->Prop} (I:Inv X pins σ H s) (e:H a=some (.ins C dx fs)) (c:Cls X.K C) (n:bf X.K C f) (l:fs.lookup f=some v)
  (h:∀ u s',Inv X pins σ H s'->RelV v u->Q u s'):wpAny (model X.prog X.w) A (getAttr (.ref a) f b) Q E s:=by
 obtain ⟨mA,O,r,_,_,_⟩:=tI I.hok e;obtain ⟨u,hu,ru⟩:=iF.some_of (v:=v) (o:=mA f) (by rw [<- l];exact r f)
 exact get_map I.kIn O (c.get f) c.hd n hu (yh ru) (h u _ (I.tok _) ru)
theorem CT {m:Str} {g:Addr} {pl:Sem Bool} {Q:Value×List Value->LU->Prop} (I:Inv X pins σ H s) (e:H a=some (.ins C dx fs)) (c:Cls X.K C) (k:Meth X.K C m g) (l:fs.lookup m=none)
  (h:Q (.ref g,[.ref a]) s):wpAny (model X.prog X.w) A (getMethod (.ref a) m pl) Q E s:=by
 obtain ⟨mA,O,r,_,_,_⟩:=tI I.hok e;have hn:mA m=none:=iF.none_of (by rw [<- l];exact r m)
 exact Gv I.kIn O (c.get m) k.at_ k.fn hn h
theorem D6 {y:V} {u:Value} {Q:Unit->LU->Prop} (I:Inv X pins σ H s) (e:H a=some (.ins C dx fs)) (c:Cls X.K C) (n:bf X.K C f) (hl:fs.length<1000) (ry:RelV y u)
  (h:∀ s',Inv X pins σ (upd H a (.ins C dx (cI f y fs))) s'->Q () s'):wpAny (model X.prog X.w) A (setAttr (.ref a) f u) Q E s:=by
 obtain ⟨mA,O,r,wi,_,ho⟩:=tI I.hok e;have hz:(fs.map (·.1)).length<=MB:=by rw [LO,NJ];omega
 refine Jk I.kIn O c.sa c.po n.Lq c.hd wi hz fun h' O' sb=>h _ ?_;have hd:∃ o,h'.get? dx=some o:=let ⟨o,_,_,e',_⟩:=O'.ns;⟨o,e'⟩;refine I.write (x:=a) (e:=dx) (by rw [e];exact NM) (.inr ho) (fun b q hb z=>(sb.2 b hb).trans z) hd ?_
 refine ⟨by rw [aq O.ne];exact ho,?_,O.ne,O'.obj,_,O'.ns,fun g=>?_,fun g hg=>?_⟩
 ·have:=ux f y fs;omega
 ·show iF ((cI f y fs).lookup g) (if g=f then some u else mA g);rw [mF]
  by_cases q:g=f
  ·rw [if_pos q,if_pos q];exact ry
  ·rw [if_neg q,if_neg q];exact r g
 ·by_cases q:g=f
  ·rw [q];exact (rQ f y fs).1
  ·refine (rQ f y fs).2 g (wi g fun z=>hg ?_);show (if g=f then some u else mA g)=none;rw [if_neg q];exact z
theorem Inv.made (I:Inv X pins σ H s):Inv X pins σ (upd (upd H s.heap.objs.size (.own (s.heap.objs.size+1))) (s.heap.objs.size+1) (.ins C s.heap.objs.size []))
  { s with heap:=(s.heap.push MT).push (Ox C s.heap.objs.size) }:=by
 have e1:(s.heap.push MT).get? s.heap.objs.size=some MT:=Mx s.heap rfl;have e2:((s.heap.push MT).push (Ox C s.heap.objs.size)).get? (s.heap.objs.size+1)=some (Ox C s.heap.objs.size):=by
  have:=Mx (s.heap.push MT) (o:=Ox C s.heap.objs.size) rfl
  rwa [NW] at this
 have e3:(s.heap.push MT).Ns s.heap.objs.size (fun _=>none):=⟨MT,#[],_,e1,rfl,(fun e he=>absurd he (by simp)),fun _=>rfl⟩
 have I1:=I.laid (a:=s.heap.objs.size) (o:=.own (s.heap.objs.size+1)) (h':=s.heap.push MT) (t':=s.toks) (fun b u q=>LV _ q) (Mi _) ⟨_,e1⟩;refine I1.laid (a:=s.heap.objs.size+1) (o:=.ins C s.heap.objs.size []) (t':=s.toks) (fun b u q=>LV _ q) (RU (NW _ _)) ?_;have ne:s.heap.objs.size≠s.heap.objs.size+1:=Mp (Oi _);refine ⟨by rw [aq ne,ao],Nd _,ne,e2,fun _=>none,(Q0 e3).at fun o q=>LV _ q,fun _=>NM,fun y hy=>absurd rfl hy⟩
theorem Cz {prog:Ms} {w:World} {env:Env} {e:Expr} {f:Str} {pos:Pos} {s:LU} {Q:Value->LU->Prop} (hb:attributeBase e f env (eval e env)=eval e env)
  (h:wpAny (model prog w) A (eval e env) (fun o s₁=>wpAny (model prog w) A (getAttr o f true) Q E s₁) E s):wpAny (model prog w) A (eval (.Attribute e f pos) env) Q E s :=
 Attribute_any_ h (by rw [arm_eval_Attribute,hb])
end
def GU (K:LM) (ta:TE) (f:Str):TE:=fun σ H Q=>ta σ H fun x H1=>∃ a C dx fs v,x=.ref a/\H1 a=some (.ins C dx fs)/\Cls K C/\bf K C f/\fs.lookup f=some v/\Q v H1
def Gs (K:LM) (ta tv:TE) (f:Str):TS:=fun D σ H=>tv σ H fun y H1=>ta σ H1 fun x H2=>∃ a C dx fs,x=.ref a/\H2 a=some (.ins C dx fs)/\Cls K C/\bf K C f/\fs.length<1000 /\
 D.nx σ (upd H2 a (.ins C dx (cI f y fs)))
section
variable {X:Cx} {o e value:Expr} {f:Str} {pos pos' tpos:Pos} {ta tv:TE}
theorem JR (he:PE X e ta) (hb:attributeBase e f X.env (eval e X.env)=eval e X.env):PE X (.Attribute e f pos) (GU X.K ta f):=by
 intro pins s σ H Q I h;refine Cz hb (thn (he pins s σ H _ I h) fun u s1 ⟨x,H1,I1,rx,a,C,dx,fs,v,ex,ea,c,n,l,q⟩=>?_);subst ex;obtain rfl:u=Mw a:=rx;exact D3 I1 ea c n l fun u' s2 I2 ru=>⟨v,H1,I2,ru,q⟩
theorem KR (ha:PE X o ta) (hv:PE X value tv) (hs:swapsWith value (some (.Attribute o f pos')) pos.line X.env=pure false):PS X (.Assign [.Attribute o f pos'] value pos) (Gs X.K ta tv f):=by
 intro pins s σ H D I h;refine P4 (thn (hv pins s σ H _ I h) fun u s1 ⟨y,H1,I1,ry,q⟩=>thn (ha pins s1 σ H1 _ I1 q) fun ov s2 ⟨x,H2,I2,rx,a,C,dx,fs,ex,ea,c,n,l,q2⟩=>?_) hs;subst ex;obtain rfl:ov=Mw a:=rx;exact D6 I2 ea c n l ry fun s3 I3=>⟨σ,_,I3,q2⟩
end
section
variable {X:Cx} {pins:List (Addr×Obj)} {σ:St} {H:Hp} {s:LU} {A:MY} {E:Value->LU->Prop} {Q:Value->LU->Prop} {c:Value} {b:Bool}
inductive kr (K:LM) (H:Hp):V->Value->Prop where
 | non:kr K H .non (.type "NoneType")
 | bl (x:Bool):kr K H (.bl x) (.type "bool")
 | int (i:Int):kr K H (.int i) (.type "int")
 | str (x:Str):kr K H (.str x) (.type "str")
 | flt (x:UInt64):kr K H (.flt x) (.type "float")
 | lst {a:Addr} {xs:List V} (e:H a=some (.lst xs)):kr K H (.ref a) (.type "list")
 | frz {a:Addr} {o:Obj} {xs:List V} (e:H a=some (.frz o (.lst xs))):kr K H (.ref a) (.type "list")
 | tup {a:Addr} {xs:List V} (e:H a=some (.tup xs)):kr K H (.ref a) (.type "tuple")
 | dK {a:Addr} {kvs:List (Key×V)} (e:H a=some (.dK kvs)):kr K H (.ref a) (.type "dict")
 | dT {a:Addr} {kvs:List (List Key×V)} (e:H a=some (.dT kvs)):kr K H (.ref a) (.type "dict")
 | ins {a C dx:Addr} {fs:List (Str×V)} (e:H a=some (.ins C dx fs)) (cl:Cls K C) (ha:Ma K (.ref C) "__class__" = some (some (.builtin "object.__class__")))
   (hn:OP K (.builtin "object.__class__") "__get__" = some (some (.builtin "getset_descriptor.__get__"))) (htk:Qs K (.builtin "object.__class__")=some true)
   (hm:Od K C (.type "object")=some true):kr K H (.ref a) (.ref C)
theorem EH {x:V} {u t:Value} (I:Inv X pins σ H s) (rx:RelV x u) (ty:kr X.K H x t) (e:MJ X.K t c=some b) (h:∀ tk,Q (.bool b) { s with toks:=tk }) :
  wpAny (model X.prog X.w) A (call (.builtin "isinstance") [u,c]) Q E s:=by
 cases ty with
 | non=>cases (show u=Ov from rx);exact NB PySem.W.kitx_none I.kIn NM e (fun z=>nomatch z) h
 | bl y=>cases (show u=Sl y from rx);exact NB PySem.W.kitx_bool I.kIn NM e (fun z=>nomatch z) h
 | int i=>obtain ⟨t,q⟩:=(show ∃ t,u=O3 i t from rx);cases q;exact NB PySem.W.kitx_int I.kIn NM e (fun z=>nomatch z) h
 | str y=>obtain ⟨t,q⟩:=(show ∃ t,u=SQ y t from rx);cases q;exact NB PySem.W.kitx_str I.kIn NM e (fun z=>nomatch z) h
 | flt y=>obtain ⟨t,q⟩:=(show ∃ t,u=Ta y t from rx);cases q;exact NB PySem.W.kitx_float I.kIn NM e (fun z=>nomatch z) h
 | @lst a xs ea =>
  cases (show u=Mw a from rx);obtain ⟨_,_,n,_,h1⟩:=(show bB X.prog X.w H s.heap a (.lst xs) from I.hok a _ ea);exact NB PySem.W.kitx_list I.kIn ⟨_,h1,rfl⟩ e (fun z=>nomatch z) h
 | @frz a ob xs ea =>
  cases (show u=Mw a from rx);obtain ⟨_,_,_,n,_,h1⟩:=(show bB X.prog X.w H s.heap a (.frz ob (.lst xs)) from I.hok a _ ea);exact NB PySem.W.kitx_list I.kIn ⟨_,h1,rfl⟩ e (fun z=>nomatch z) h
 | @tup a xs ea =>
  cases (show u=Mw a from rx);obtain ⟨_,_,_,p⟩:=(show bB X.prog X.w H s.heap a (.tup xs) from I.hok a _ ea);obtain ⟨o,h1,h2,_⟩:=p;exact NB PySem.W.kitx_tuple I.kIn ⟨o,h1,h2⟩ e (fun z=>nomatch z) h
 | @dK a kvs ea =>
  cases (show u=Mw a from rx);obtain ⟨_,_,vs,_,p⟩:=(show bB X.prog X.w H s.heap a (.dK kvs) from I.hok a _ ea);obtain ⟨o,es,ep,h1,h2,_⟩:=p;exact NB PySem.W.kitx_dict I.kIn ⟨o,h1,h2.1⟩ e (fun z=>nomatch z) h
 | @dT a kvs ea =>
  cases (show u=Mw a from rx);obtain ⟨_,_,xs,_,o,es,ep,h1,h2,_⟩:=(show bB X.prog X.w H s.heap a (.dT kvs) from I.hok a _ ea);exact NB PySem.W.kitx_dict I.kIn ⟨o,h1,h2.1⟩ e (fun z=>nomatch z) h
 | @ins a C dx fs ea cl ha hn htk hm =>
  cases (show u=Mw a from rx);obtain ⟨mA,O,_⟩:=tI I.hok ea;obtain ⟨od,J,_⟩:=O.look;exact NB (PySem.W.kitx_own (cl.get _) cl.hd ha hn htk hm) I.kIn J e (fun z=>nomatch z) h
end
structure bT (k:Nat) (A:MY):Prop where
 hd:A.handled=none
 dp:A.depth+3 * k+5<recursionLimit
 un:A.units+16 * k+200<cLine
theorem bT.mono {j k:Nat} {A:MY} (r:bT k A) (h:j<=k):bT j A:=⟨r.hd,by have:=r.dp;omega,by have:=r.un;omega⟩
theorem bT.deeper {k:Nat} {A:MY} (r:bT (k+1) A) (env:Env):bT k (A.deeper env) :=
 ⟨r.hd,by have:=r.dp;show A.depth+1+3 * k+5<_;omega,by have:=r.un;show A.units+3+16 * k+200<_;omega⟩
theorem bT.in1 {k:Nat} {A:MY} (r:bT (k+1) A):bT k A.in1 :=
 ⟨r.hd,by have:=r.dp;show A.depth+3 * k+5<_;omega,by have:=r.un;show A.units+1+16 * k+200<_;omega⟩
theorem Dx {A:MY} {C:Addr} {us:List Value} {kw:List (Str×Value)}:(A.under (.builtin "type.__call__" ⟨.ref C :: us,kw⟩)).depth=A.depth+1:=by
 first|rfl|simp [S2,Code.weight,Code.isCreation,Code.isGuard,Code.isCaller,Code.frames,S3,guardIds]
theorem Dl {A:MY} {C:Addr} {us:List Value} {kw:List (Str×Value)}:(A.under (.builtin "type.__call__" ⟨.ref C :: us,kw⟩)).units=A.units+1:=by
 first|rfl|simp [S2,Code.cUnits,Code.frames,S3]
theorem bT.make {k:Nat} {A:MY} (r:bT (k+1) A) (C:Addr) (us:List Value) (kw:List (Str×Value)):bT k (A.under (.builtin "type.__call__" ⟨.ref C :: us,kw⟩)) :=
 ⟨r.hd,by have:=r.dp;rw [Dx];omega,by have:=r.un;rw [Dl];omega⟩
theorem bT.depth {k:Nat} {A:MY} (r:bT k A):A.depth<recursionLimit:=by have:=r.dp;omega
theorem bT.units {k:Nat} {A:MY} (r:bT k A):A.units+64<cLine:=by have:=r.un;omega
def tE:TA:=fun _ H Q=>Q [] H
def lq (ta:TE) (tr:TA):TA:=fun σ H Q=>ta σ H fun x H1=>tr σ H1 fun xs H2=>Q (x :: xs) H2
section
variable {X:Cx} {e:Expr} {es:List Expr} {te:TE} {t:TA} {pos:Pos}
theorem aa:PA X [] tE:=fun _ _ _ _ H Q I h=>Calls.spliced_nil ⟨[],H,I,.nil,h⟩
theorem wY (ha:PE X e te) (hr:PA X es t) (hs:MZ (e :: es) X.env=(false,eval e X.env) :: MZ es X.env:=by rfl):PA X (e :: es) (lq te t):=by
 intro pos pins s σ H Q I h;rw [hs];show wpAny _ _ (spliced ((false,eval e X.env) :: backTo pos (MZ es X.env))) _ _ s;refine Calls.spliced_cons (thn (ha pins s σ H _ I h) fun u s1 ⟨x,H1,I1,r1,q1⟩=>?_);exact thn (hr pos pins s1 σ H1 _ I1 q1) fun us s2 ⟨xs,H2,I2,r2,q2⟩=>⟨x :: xs,H2,I2,.cons r1 r2,q2⟩
def CK (t:TA):TE:=fun σ H Q=>t σ H fun xs H1=>xs.length<=MB/\∀ p,H1 p=none->Q (.ref p) (upd H1 p (.tup xs))
def AO (t:TA):TE:=fun σ H Q=>t σ H fun xs H1=>xs.length<=MB/\∀ p,H1 p=none->Q (.ref p) (upd H1 p (.lst xs))
theorem oq {x1} (h:PA X es t):PE X (.Tuple es x1 pos) (CK t):=by
 intro pins s σ H Q I hq;refine wpAny_Tuple_spliced (thn (h pos pins s σ H _ I hq) fun us s1 ⟨xs,H1,I1,r,z,q⟩=>⟨by rw [<- r.length];exact z,?_⟩)
 have hf:H1 s1.heap.objs.size=none:=I1.hok.fresh (Mi _);refine ⟨.ref s1.heap.objs.size,upd H1 s1.heap.objs.size (.tup xs),I1.laid (t':=s1.toks) (fun b u e=>LV _ e) (Mi _) ?_,rfl,q _ hf⟩;exact ⟨z,us,r,⟨_,Mx _ rfl,rfl,_,rfl⟩⟩
theorem bg (h:PA X es t):PE X (.List es pos) (AO t):=by
 intro pins s σ H Q I hq;refine wpAny_List_spliced (thn (h pos pins s σ H _ I hq) fun us s1 ⟨xs,H1,I1,r,z,q⟩=>⟨by rw [<- r.length];exact z,?_⟩)
 have hf:H1 s1.heap.objs.size=none:=I1.hok.fresh (Mi _);refine ⟨.ref s1.heap.objs.size,upd H1 s1.heap.objs.size (.lst xs),I1.laid (t':=s1.toks) (fun b u e=>LV _ e) (Mi _) ?_,rfl,q _ hf⟩;exact ⟨z,us,0,r,Mx _ rfl⟩
end
abbrev Sp:=List V->Hp->VK->XK->Prop
abbrev CXT:=List Env->Hp->LU->XK->Value->LU->Prop
structure pE (P:Ms) (w:World) (K:LM) (mg:Str->Option Value) (base:Heap) (A:MY) (outer:List Env) (s:LU) (H:Hp):Prop where
 frames:A.frames=some outer
 mod:Mod K mg base
 bs:∀ b o,base.get? b=some o->s.heap.get? b=some o/\H b=none
 bsz:base.objs.size<=s.heap.objs.size
 gf:s.heap.FunFrames base outer
 frf:∀ b∈frs outer,H b=none
 hok:HOk P w H s.heap
 bare:Ri s.gens
def CE (outer:List Env) (P:Ms) (w:World) (H:Hp) (s:LU) (Q:VK) (u:Value) (s':LU):Prop :=
 ∃ v H',s'.os=s.os/\Ri s'.gens/\Un (frs outer) [] H H' s.heap s'.heap/\HOk P w H' s'.heap/\RelV v u/\Q v H'
def CR (CX:CXT) (outer:List Env) (P:Ms) (w:World) (H:Hp) (s:LU) (Q:VK) (E:XK) (r:QZ) (s':LU):Prop :=
 match r with
 | .ok (.ret u)=>CE outer P w H s Q u s'
 | .ok _=>False
 | .error e=>CX outer H s E e s'
structure aI (P:Ms) (w:World) (K:LM) (mg:Str->Option Value) (base:Heap) (CX:CXT) (k:Nat) (f:Addr) (fd:M9) (ps:List Str) (sp:Sp):Prop where
 len:∀ vs H Q E,sp vs H Q E->vs.length=ps.length
 run:∀ (A:MY) (outer:List Env) (s:LU) (H:Hp) (args:Args) (us:List Value) (vs:List V) (Q:VK) (E:XK),bT k A->pE P w K mg base A outer s H->Rk s fd args (ps.zip us)->Vals vs us->sp vs H Q E ->
  codeAny (model P w) A (.call (.ref f) args) (CR CX outer P w H s Q E) s
theorem aI.mono {P:Ms} {w:World} {K:LM} {mg:Str->Option Value} {base:Heap} {CX:CXT} {j k:Nat} {f:Addr} {fd:M9} {ps:List Str} {sp:Sp} (F:aI P w K mg base CX j f fd ps sp) (h:j<=k) :
  aI P w K mg base CX k f fd ps sp:=⟨F.len,fun A outer s H args us vs Q E hr=>F.run A outer s H args us vs Q E (hr.mono h)⟩
theorem pE.make {P:Ms} {w:World} {K:LM} {mg:Str->Option Value} {base:Heap} {A:MY} {outer:List Env} {s:LU} {H:Hp} (e:pE P w K mg base A outer s H) (C:Addr) (us:List Value) (kw:List (Str×Value)) :
  pE P w K mg base (A.under (.builtin "type.__call__" ⟨.ref C :: us,kw⟩)) outer s H:=⟨by first|exact e.frames|(simpa [S2,Code.envs,S3,pushEnvs] using e.frames),e.mod,e.bs,e.bsz,e.gf,e.frf,e.hok,e.bare⟩
theorem pE.in1 {P:Ms} {w:World} {K:LM} {mg:Str->Option Value} {base:Heap} {A:MY} {outer:List Env} {s:LU} {H:Hp} (e:pE P w K mg base A outer s H) :
  pE P w K mg base A.in1 outer s H:=⟨e.frames,e.mod,e.bs,e.bsz,e.gf,e.frf,e.hok,e.bare⟩
section
variable {X:Cx} {pins:List (Addr×Obj)} {σ:St} {H:Hp} {s s':LU}
theorem Inv.Dn (I:Inv X pins σ H s):pE X.prog X.w X.K X.mg X.base X.A X.stack s H :=
 ⟨I.ok.frames,I.ok.mod,I.bs,Na I.ok.bsz I.sz,I.stack,I.wW,I.hok,I.bare⟩
theorem Inv.after {Q:VK} {u:Value} (I:Inv X pins σ H s) (h:CE X.stack X.prog X.w H s Q u s'):EP X pins σ Q u s':=by
 obtain ⟨v,H',os,bare,un,hok,r,q⟩:=h;obtain ⟨hh,g,d,t,os'⟩:=s';obtain rfl:os'=s.os:=os;exact ⟨v,H',I.call (h':=hh) (g':=g) (d':=d) (t':=t) (ch:=[]) un hok bare (fun b z=>absurd z (by simp)),r,q⟩
end
def oR (sp:Sp) (dvs:List V) (E:XK) (t:TA):TE:=fun σ H Q=>t σ H fun vs H1=>sp (vs++dvs) H1 Q E
def Dr (C:Addr) (sp:Sp) (dvs:List V) (E:XK) (t:TA):TE:=fun σ H Q=>t σ H fun vs H1=>∀ x dx,H1 x=none->H1 dx=none->dx≠x ->
 sp (.ref x :: (vs++dvs)) (upd (upd H1 dx (.own x)) x (.ins C dx [])) (fun v H2=>v=.non/\Q (.ref x) H2) E
def Binds (K:LM) (fd:M9) (ps:List Str) (ds:List Value):Prop :=
 ∀ (s:LU) (us:List Value),K.In s.heap->(us++ds).length=ps.length->Rk s fd ⟨us,[]⟩ (ps.zip (us++ds))
theorem Binds.all {K:LM} {fd:M9} {ps:List Str} (h:∀ us:List Value,us.length=ps.length->bindArgs fd ⟨us,[]⟩=pure (ps.zip us)):Binds K fd ps []:=fun s us _ hl=>by
 rw [OQ] at hl ⊢;exact .of_eq (h us hl)
def Passes (CX:CXT) (X:Cx) (E:XK):Prop:=∀ (pins:List (Addr×Obj)) (σ:St) (H:Hp) (s:LU) (e:Value) (s':LU),Inv X pins σ H s->CX X.stack H s E e s'->X.xe e s'
section
variable {X:Cx} {CX:CXT} {k:Nat} {f C:Addr} {fd:M9} {ps:List Str} {sp:Sp} {dvs:List V} {ds:List Value} {E:XK} {x m:Str} {p pos apos:Pos} {e o:Expr} {es:List Expr} {ta:TE} {t:TA}
theorem A6 {pins:List (Addr×Obj)} {σ:St} {H:Hp} {s:LU} {Q:VK} {us:List Value} {vs:List V} (F:aI X.prog X.w X.K X.mg X.base CX k f fd ps sp) (hr:bT k X.A) (hb:Binds X.K fd ps ds) (hd:Vals dvs ds) (hx:Passes CX X E)
  (I:Inv X pins σ H s) (r:Vals vs us) (h:sp (vs++dvs) H Q E):wpAny (model X.prog X.w) X.A (call (.ref f) us) (EP X pins σ Q) X.xe s:=by
 have r2:Vals (vs++dvs) (us++ds):=r.append hd;have hl:(us++ds).length=ps.length:=by rw [<- r2.length];exact F.len _ _ _ _ h
 refine Q1 (OD (F.run X.A X.stack s H ⟨us,[]⟩ (us++ds) (vs++dvs) Q E hr I.Dn (hb s us I.kIn hl) r2 h) fun r s' hq=>?_);cases r with
 | error e=>exact hx pins σ H s e s' I hq
 | ok fl =>
  cases fl with
  | ret u=>exact I.after hq
  | next=>exact Nh hq
  | brk=>exact Nh hq
  | cont=>exact Nh hq
theorem tO (F:aI X.prog X.w X.K X.mg X.base CX k f fd ps sp) (hr:bT k X.A) (hg:Gl X x) (hm:X.mg x=some (.ref f)) (hk:LW X.K (.ref f)=true) (hb:Binds X.K fd ps ds) (hd:Vals dvs ds) (hx:Passes CX X E)
  (ha:PA X (e :: es) t) (hdb:(x == ("__debug__" : Str))=false:=by decide) (he:MZ (e :: es) X.env=(false,eval e X.env) :: MZ es X.env:=by rfl) (hpl:(backTo pos (MZ es X.env)).any (·.1)=false:=by rfl) :
  PE X (.Call (.Name x p) (e :: es) [] pos) (oR sp dvs E t):=by
 intro pins s σ H Q I h;refine OE (kI I hg hm ?_ hdb);refine OF (h₀:=X.base) I.ok.mod.kin hk (thn (ha pos pins s σ H _ I h) fun us s1 ⟨vs,H1,I1,r,q⟩=>⟨I1.kIn,?_⟩) he hpl;exact A6 F hr hb hd hx I1 r q
structure Mk (K:LM) (C f:Addr):Prop where
 makes:OO K C=true
 init:Ma K (.ref C) "__init__" = some (some (.ref f))
 fn:Ot K (.ref f)=true
 kp:LW K (.ref C)=true
theorem He {pins:List (Addr×Obj)} {σ:St} {H:Hp} {s:LU} {Q:VK} {us:List Value} {vs:List V} (M:Mk X.K C f) (F:aI X.prog X.w X.K X.mg X.base CX k f fd ps sp) (hr:bT (k+1) X.A) (hb:Binds X.K fd ps ds) (hd:Vals dvs ds)
  (hx:Passes CX X E) (I:Inv X pins σ H s) (r:Vals vs us)
  (h:∀ x dx,H x=none->H dx=none->dx≠x->sp (.ref x :: (vs++dvs)) (upd (upd H dx (.own x)) x (.ins C dx [])) (fun v H2=>v=.non/\Q (.ref x) H2) E) :
  wpAny (model X.prog X.w) X.A (call (.ref C) us) (EP X pins σ Q) X.xe s:=by
 have hq:=h (s.heap.objs.size+1) s.heap.objs.size (I.hok.fresh (OL _)) (I.hok.fresh (Mi _)) (Mp (Oi _));have I2:=Inv.made (C:=C) I;have r2:Vals (V.ref (s.heap.objs.size+1) :: (vs++dvs)) (Mw (s.heap.objs.size+1) :: (us++ds)):=.cons rfl (r.append hd);have hl:(Mw (s.heap.objs.size+1) :: us++ds).length=ps.length:=by
  have e:=r2.length;rw [F.len _ _ _ _ hq] at e;exact e.symm
 refine Q1 (Az (f:=f) I.kIn M.makes M.init (beq_iff_eq.mp M.fn) (OD (F.run _ X.stack _ _ ⟨Mw (s.heap.objs.size+1) :: us,[]⟩ (Mw (s.heap.objs.size+1) :: (us++ds)) _ _ E (hr.make C us [])
  (I2.Dn.make C us []) (hb _ (Mw (s.heap.objs.size+1) :: us) I2.kIn hl) r2 hq) fun r s' hq'=>?_))
 cases r with
 | error e=>exact hx pins σ _ _ e s' I2 hq'
 | ok fl =>
  cases fl with
  | ret u =>
   obtain ⟨v,H',I3,rv,ev,q3⟩:=I2.after hq';subst ev;exact ⟨rv,⟨V.ref (s.heap.objs.size+1),H',I3,rfl,q3⟩⟩
  | next=>exact Nh hq'
  | brk=>exact Nh hq'
  | cont=>exact Nh hq'
theorem Jt (M:Mk X.K C f) (F:aI X.prog X.w X.K X.mg X.base CX k f fd ps sp) (hr:bT (k+1) X.A) (hg:Gl X x) (hm:X.mg x=some (.ref C)) (hb:Binds X.K fd ps ds) (hd:Vals dvs ds) (hx:Passes CX X E)
  (ha:PA X (e :: es) t) (hdb:(x == ("__debug__" : Str))=false:=by decide) (he:MZ (e :: es) X.env=(false,eval e X.env) :: MZ es X.env:=by rfl) (hpl:(backTo pos (MZ es X.env)).any (·.1)=false:=by rfl) :
  PE X (.Call (.Name x p) (e :: es) [] pos) (Dr C sp dvs E t):=by
 intro pins s σ H Q I h;refine OE (kI I hg hm ?_ hdb);refine OF (h₀:=X.base) I.ok.mod.kin M.kp (thn (ha pos pins s σ H _ I h) fun us s1 ⟨vs,H1,I1,r,q⟩=>⟨I1.kIn,?_⟩) he hpl;exact He M F hr hb hd hx I1 r q
end
section
variable {X:Cx} {CX:CXT} {k:Nat} {f C:Addr} {fd:M9} {ps ks:List Str} {sp:Sp} {E:XK} {x m:Str} {p pos apos kpos:Pos} {e o:Expr} {es:List Expr} {kws:List RV} {te ta:TE} {t tk:TA} {nm:Option Str}
structure v8 (K:LM) (fd:M9) (ps ks:List Str) (g:List Value->List Value->List Value) (gV:List V->List V->List V):Prop where
 to:∀ (s:LU) (us ws:List Value),K.In s.heap->(g us ws).length=ps.length->Rk s fd ⟨us,ks.zip ws⟩ (ps.zip (g us ws))
 rel:∀ {vs:List V} {us:List Value} {zs:List V} {ws:List Value},Vals vs us->Vals zs ws->Vals (gV vs zs) (g us ws)
variable {g:List Value->List Value->List Value} {gV:List V->List V->List V}
end
structure aN (N P:List Str) (sc:Scope):Prop where
 kind:sc.kind=.function
 co:sc.isCoroutine=false
 gen:sc.isGenerator=false
 nd:N.Nodup
 pre:N.take P.length=P
 par:∀ x∈P,sc.names.lookup x=some .local\/sc.names.lookup x=some .cell
 Ki:∀ y∈sc.names,y.2≠.free
theorem xJ {kindOf:Str->Option Pe} {x:Str}:∀ {binds:List (Str×Value)} {m:Str->Option Value},(∀ v,(x,v)∉binds)->bindL kindOf binds m x=m x
 | [],_,_=>rfl
 | (n,v) :: r,m,h=>by
  unfold bindL;rw [xJ fun w hw=>h w (Mh _ hw)]
  split
  ·have:x≠n:=by rintro rfl;exact h v Mn
   simp [this]
  ·rfl
theorem ym {kindOf:Str->Option Pe} {x:Str}:∀ {binds:List (Str×Value)} {m:Str->Option Value},(∀ v,(x,v)∉binds)->bindC kindOf binds m x=m x
 | [],_,_=>rfl
 | (n,v) :: r,m,h=>by
  unfold bindC;rw [ym fun w hw=>h w (Mh _ hw)]
  split
  ·rfl
  ·have:x≠n:=by rintro rfl;exact h v Mn
   simp [this]
theorem yp {kindOf:Str->Option Pe} {x:Str} {v:Value}:∀ {P:List Str} {vs:List Value} {i:Nat} {m:Str->Option Value},P.Nodup->P[i]?=some x->vs[i]?=some v->kindOf x=some .local ->
  bindL kindOf (P.zip vs) m x=some v
 | [],_,_,_,_,h,_,_=>by simp at h
 | _ :: _,[],_,_,_,_,h,_=>by simp at h
 | p :: P,w :: vs,0,m,nd,h1,h2,hk=>by
  simp at h1 h2;subst h1;subst h2;show bindL kindOf ((p,w) :: P.zip vs) m p=_;unfold bindL;rw [xJ fun v hv=>(Nm.mp nd).1 (RW hv).1,if_pos hk];simp
 | p :: P,w :: vs,i+1,m,nd,h1,h2,hk=>by
  show bindL kindOf ((p,w) :: P.zip vs) m x=_;unfold bindL;exact yp (i:=i) (Nm.mp nd).2 (by simpa using h1) (by simpa using h2) hk
theorem xV {kindOf:Str->Option Pe} {x:Str} {v:Value}:∀ {P:List Str} {vs:List Value} {i:Nat} {m:Str->Option Value},P.Nodup->P[i]?=some x->vs[i]?=some v->kindOf x≠some .local ->
  bindC kindOf (P.zip vs) m x=some v
 | [],_,_,_,_,h,_,_=>by simp at h
 | _ :: _,[],_,_,_,_,h,_=>by simp at h
 | p :: P,w :: vs,0,m,nd,h1,h2,hk=>by
  simp at h1 h2;subst h1;subst h2;show bindC kindOf ((p,w) :: P.zip vs) m p=_;unfold bindC;rw [ym fun v hv=>(Nm.mp nd).1 (RW hv).1,if_neg hk];simp
 | p :: P,w :: vs,i+1,m,nd,h1,h2,hk=>by
  show bindC kindOf ((p,w) :: P.zip vs) m x=_;unfold bindC;exact xV (i:=i) (Nm.mp nd).2 (by simpa using h1) (by simpa using h2) hk
def start (N:List Str) (vs:List V):St:=vs.map some++Mv (N.length - vs.length) none
def lh (CX:CXT) (P:Ms) (w:World) (K:LM) (mg:Str->Option Value) (base:Heap) (N:List Str) (qual:Str) (scope:Scope) (f:Addr) (cd:Value) (A:MY) (outer:List Env) (s:LU) (H:Hp) (E:XK):Cx where
 prog:=P
 w:=w
 K:=K
 mg:=mg
 base:=base
 A:=A.deeper (envOfC qual scope s.heap.objs.size f cd)
 N:=N
 s₀:=s
 H₀:=H
 env:=envOfC qual scope s.heap.objs.size f cd
 outer:=outer
 stack:=envOfC qual scope s.heap.objs.size f cd :: outer
 ex:=[]
 calm:=true
 fn:=fun _=>true
 pn:=[]
 xe:=fun e s'=>wpAny (model P w) (A.deeper (envOfC qual scope s.heap.objs.size f cd)) (leaving (envOfC qual scope s.heap.objs.size f cd) e) (fun _ s''=>CX outer H s E e s'') (fun e' s''=>CX outer H s E e' s'') s'
theorem AZ {sc:Scope} {n:Nat} {x:Str} (h:sc.names.lookup x=some .cell):∃ c,(cellsFrom n sc.names []).lookup x=some c:=by
 have q:=RH sc.names n [] (.inl h);exact Q2.mp q
theorem Fo {CX:CXT} {P:Ms} {w:World} {K:LM} {mg:Str->Option Value} {base:Heap} {N ps:List Str} {qual:Str} {scope:Scope} {f:Addr} {cd:Value} {A:MY} {outer:List Env} {s s1:LU} {H:Hp} {E:XK} {us:List Value} {vs:List V}
  (S:aN N ps scope) (hd:A.handled=none) (e0:pE P w K mg base A outer s H) (hl:vs.length=ps.length) (r:Vals vs us)
  (x:InCallC s s.heap.objs.size (bindL (envOfC qual scope s.heap.objs.size f cd).kindOf (ps.zip us) fun _=>none) (cellsFrom (s.heap.objs.size+1) scope.names []) (bindC (envOfC qual scope s.heap.objs.size f cd).kindOf (ps.zip us) fun _=>none) s1) :
  Inv (lh CX P w K mg base N qual scope f cd A outer s H E) [] (start N vs) H s1:=by
 have hpl:ps.length<=N.length:=by have:=congrArg Rl S.pre;rw [Mz] at this;omega
 obtain ⟨h1,tk,rfl,hk⟩:=x.done;have noA:∀ b:Addr,b∉(lh CX P w K mg base N qual scope f cd A outer s H E).ex:=fun b z=>absurd (show b∈([]:List Addr) from z) (by simp)
 refine ⟨⟨e0.mod,S.kind,rfl,rfl,Mi _,fun y z c h1 h2=>?_,fun y hy=>?_,fun y c _ h=>?_,fun _=>hd,Around.frames_deeper e0.frames,.inr ⟨rfl,rfl⟩,fun b z=>absurd z (noA b),e0.bs,e0.bsz,fun b _ _=>noA b,fun b z=>absurd z (noA b),e0.gf,e0.frf⟩,
  rfl,e0.bare,Un.kept hk,⟨_,x.toInCall.ns,fun i y v h1 h2 h3=>?_⟩,fun y c h=>⟨_,x.cell y c h⟩,e0.hok.fresh (Mi _),fun y c h=>?_,fun p hp=>absurd (show p∈([]:List (Addr×Obj)) from hp) (by simp),e0.hok.kept hk,?_⟩
 ·exact name_of_addr x.apart (M0 h1) (M0 h2)
 ·have hy:scope.names.lookup y=some .cell\/scope.names.lookup y=some .free:=hy;rcases hy with hy|hy
  ·exact AZ hy
  ·exact absurd rfl (S.Ki _ (M0 hy))
 ·exact Oe (x.above y c (M0 h))
 ·have hi:i<vs.length:=by
   unfold start at h2
   by_cases hi:i<vs.length
   ·exact hi
   ·rw [MM (by simpa using hi)] at h2
    rw [List.getElem?_replicate] at h2
    split at h2 <;> cases h2
  have ha:vs[i]?=some v:=by
   unfold start at h2;rw [MP (by simpa using hi),Mf] at h2
   cases e:vs[i]? with
   | none=>rw [e] at h2;cases h2
   | some a=>rw [e] at h2;cases h2;rfl
  obtain ⟨u,hu,rv⟩:=r.get ha;have hp:ps[i]?=some y:=by
   rw [<- S.pre,NS (by omega)];exact h1
  have ndP:ps.Nodup:=by rw [<- S.pre];exact S.nd.sublist (List.take_sublist _ _)
  refine ⟨u,rv,?_⟩;rcases S.par y (LR hp) with k|k
  ·exact .inl ⟨k,yp ndP hp hu k⟩
  ·obtain ⟨c,e⟩:=AZ (n:=s.heap.objs.size+1) k;refine .inr ⟨.inl k,c,e,?_⟩;have q:=x.cell y c e;rw [xV ndP hp hu (by show scope.names.lookup y≠_;rw [k];decide)] at q
   exact q
 ·exact e0.hok.fresh (Oe (x.above y c (M0 h)))
 ·unfold start;show _=N.length;rw [Mo,LO,List.length_replicate];omega
theorem zf {CX:CXT} {P:Ms} {w:World} {K:LM} {mg:Str->Option Value} {base:Heap} {k:Nat} {f:Addr} {name qual:Str} {params:Arguments} {body:List Stmt} {scope:Scope} {dV kV doc pm cdv ct oc:Value} {an od:Option Addr}
  {osl:Array (Option Value)} {N ps:List Str} {sp:Sp} (lk:K.lookup f=some ⟨oc,od,.func (Mc name qual params body scope dV kV doc pm an cdv ct),osl⟩) (hcd:L9 K cdv qual=true) (S:aN N ps scope)
  (len:∀ vs H Q E,sp vs H Q E->vs.length=ps.length)
  (hbody:∀ (A:MY) (outer:List Env) (s:LU) (H:Hp) (vs:List V) (Q:VK) (E:XK),bT k (A.deeper (envOfC qual scope s.heap.objs.size f cdv))->sp vs H Q E ->
   ∃ t,PSs (lh CX P w K mg base N qual scope f cdv A outer s H E) body t/\t { nx:=fun _ H'=>Q .non H',rt:=Q } (start N vs) H) :
  aI P w K mg base CX (k+1) f (Mc name qual params body scope dV kV doc pm an cdv ct) ps sp:=by
 refine ⟨len,fun A outer s H args us vs Q E hr e0 hb r hsp=>?_⟩;have hl:=len _ _ _ _ hsp;have KX:K.In s.heap:=e0.mod.kin.keeps fun b o e=>(e0.bs b o e).1;have lim:s.heap.NoLimit:=e0.mod.nolimit.keeps fun b o e=>(e0.bs b o e).1;have hkind:∀ y∈ps.zip us,scope.names.lookup y.1=some .local\/(scope.names.lookup y.1=some .cell/\((cellsFrom (s.heap.objs.size+1) scope.names []).lookup y.1).isSome=true):=fun ⟨n,v⟩ hy=>by
  rcases S.par n (RW hy).1 with q|q
  ·exact .inl q
  ·exact .inr ⟨q,RH _ _ _ (.inl q)⟩
 refine codeAny_call_function hr.depth (KX _ _ lk) rfl S.co S.gen rfl (PySem.W.codeRec_of KX hcd) (hb _ _ _ _ ?_);refine wpAny_newFunctionEnv_cells S.kind hkind fun env he s1 x=>?_;subst he;refine ⟨lim.keeps x.toInCall.keep,codeAny_func ?_⟩;obtain ⟨t,ht,hq⟩:=hbody A outer s H vs Q E (hr.deeper _) hsp;have I:Inv (lh CX P w K mg base N qual scope f cdv A outer s H E) [] (start N vs) H s1:=Fo S hr.hd e0 hl r x;refine Nj (ht [] s1 (start N vs) H _ I hq) (fun fl s' hs=>?_) fun e s' hs=>hs;have fin:∀ {σ':St} {H':Hp} {v:V} {u:Value},Inv (lh CX P w K mg base N qual scope f cdv A outer s H E) [] σ' H' s'->RelV v u->Q v H'->CE outer P w H s Q u s' :=
  fun {σ' H' v u} J rv q=>⟨v,H',J.os,J.bare,J.base,J.hok,rv,q⟩
 cases fl with
 | ret u =>
  obtain ⟨v,σ',H',J,rv,q⟩:=hs;exact fin J rv q
 | next =>
  obtain ⟨σ',H',J,q⟩:=hs;exact fin (v:=V.non) (u:=Ov) J rfl q
 | brk =>
  obtain ⟨_,_,_,q⟩:=hs;exact Nh q
 | cont =>
  obtain ⟨_,_,_,q⟩:=hs;exact Nh q
section
variable {X:Cx} {x:Str} {p pos:Pos} {e:Expr} {es:List Expr} {t:TA} {id T:String} {r:List V->Hp->VK->Prop}
def tCB (r:List V->Hp->VK->Prop) (t:TA):TE:=fun σ H Q=>t σ H fun vs H1=>r vs H1 Q
theorem G5 (hc:cW X (.builtin id) r) (hg:Gl X x) (hm:X.mg x=none) (hv:bootBuiltins x=some (.builtin id)) (ha:PA X (e :: es) t) (hn:x ≠ "__name__":=by decide) (hdb:(x == ("__debug__" : Str))=false:=by decide)
  (he:MZ (e :: es) X.env=(false,eval e X.env) :: MZ es X.env:=by rfl) (hpl:(backTo pos (MZ es X.env)).any (·.1)=false:=by rfl):PE X (.Call (.Name x p) (e :: es) [] pos) (tCB r t):=by
 intro pins s σ H Q I h;refine OE (mO I hg hm hv ?_ hn hdb);exact PyProof.Rows.callWith_builtin1 (thn (ha pos pins s σ H _ I h) fun us s1 ⟨vs,H1,I1,r1,q1⟩=>hc pins s1 σ H1 vs us Q I1 r1 q1) he hpl
theorem ER (hc:cW X (.type T) r) (hg:Gl X x) (hm:X.mg x=none) (hv:bootBuiltins x=some (.type T)) (ha:PA X (e :: es) t) (hn:x ≠ "__name__":=by decide) (hdb:(x == ("__debug__" : Str))=false:=by decide)
  (he:MZ (e :: es) X.env=(false,eval e X.env) :: MZ es X.env:=by rfl) (hpl:(backTo pos (MZ es X.env)).any (·.1)=false:=by rfl):PE X (.Call (.Name x p) (e :: es) [] pos) (tCB r t):=by
 intro pins s σ H Q I h;refine OE (mO I hg hm hv ?_ hn hdb);exact NA (thn (ha pos pins s σ H _ I h) fun us s1 ⟨vs,H1,I1,r1,q1⟩=>hc pins s1 σ H1 vs us Q I1 r1 q1) he hpl
end
end L2
namespace HT
open PySem PyProof.Rows
section
open PySem.SeqAt
open PySem.AutoSeq1 (wpAny_loadPart')
open PySem.MeetsSeq PySem.MeetsSeq2 PySem.MeetsSeq3
end
section
variable {prog:Ms} {w:World} {A:MY} {E:Value->LU->Prop} {s:LU}
def sIx (n d:Nat):Option Int->Nat
 | none=>d
 | some v=>if v<0 then (v+(n:Int)).toNat else min v.toNat n
theorem Gf (n d:Nat):sIx n d none=d:=rfl
theorem IJ (n d k:Nat):sIx n d (some (k:Int))=min k n:=by
 show (if (k:Int)<0 then ((k:Int)+(n:Int)).toNat else min (k:Int).toNat n)=min k n;rw [if_neg (by omega),NT]
end
end HT
namespace L2
open PySem PySem.Spec PyProof.Rows
abbrev TO:=St->Hp->(Option Int->Hp->Prop)->Prop
def PO (X:Cx) (e:Option Expr) (t:TO):Prop :=
 ∀ (pins:List (Addr×Obj)) (s:LU) (σ:St) (H:Hp) (Q:Option Int->Hp->Prop),Inv X pins σ H s->t σ H Q ->
  wpAny (model X.prog X.w) X.A (evalPart e X.env) (fun u s'=>∃ o H',Inv X pins σ H' s'/\IsPart u o/\Q o H') X.xe s
def B1:TO:=fun _ H Q=>Q none H
def HR (t:TE):TO:=fun σ H Q=>t σ H fun x H1=>∃ i,x=.int i/\Q (some i) H1
section
variable {X:Cx} {e:Expr} {te:TE} {lo hi:Option Expr} {tl th:TO} {pos p2:Pos}
theorem jz:PO X none B1:=by
 intro pins s σ H Q I h;rw [evalPart_none];exact Mb ⟨none,H,I,.none,h⟩
theorem gL (h:PE X e te):PO X (some e) (HR te):=by
 intro pins s σ H Q I hw;rw [evalPart_some];refine thn (h pins s σ H _ I hw) fun u s1 ⟨x,H1,I1,r1,q1⟩=>?_;obtain ⟨i,rfl,q⟩:=q1;obtain ⟨t,rfl⟩:=r1;exact ⟨some i,H1,I1,.int i t,q⟩
def SlR (X:Cx) (r:V->Option Int->Option Int->Hp->VK->Prop):Prop :=
 ∀ (pins:List (Addr×Obj)) (s:LU) (σ:St) (H:Hp) (x:V) (v vl vu:Value) (lo hi:Option Int) (sl:Addr) (Q:VK),Inv X pins σ H s->RelV x v->s.heap.IsSliceOf sl vl vu .none->IsPart vl lo->IsPart vu hi->r x lo hi H Q ->
  ∃ T id,typeLookup (.type T) "__getitem__" = pure (some (.builtin id))/\s.TypeIs v T/\wpAny (model X.prog X.w) X.A (getItem v (.ref sl)) (EP X pins σ Q) X.xe s
def tSl (r:V->Option Int->Option Int->Hp->VK->Prop) (te:TE) (tl th:TO):TE:=fun σ H Q=>te σ H fun x H1=>tl σ H1 fun l H2=>th σ H2 fun u H3=>r x l u H3 Q
theorem fV {r:V->Option Int->Option Int->Hp->VK->Prop} (hr:SlR X r) (he:PE X e te) (hl:PO X lo tl) (hu:PO X hi th):PE X (.Subscript e (.Slice lo hi none p2) pos) (tSl r te tl th):=by
 intro pins s σ H Q I h;refine Subscript_ (thn (he pins s σ H _ I h) fun v s1 ⟨x,H1,I1,r1,q1⟩=>?_);refine wpAny_Slice (thn (hl pins s1 σ H1 _ I1 q1) fun vl s2 ⟨l,H2,I2,pl,q2⟩=>thn (hu pins s2 σ H2 _ I2 q2) fun vu s3 ⟨u,H3,I3,pu,q3⟩=>?_);rw [evalPart_none];refine Mb ?_;have I4:Inv X pins σ H3 { s3 with heap:=s3.heap.push { cls:=.type "slice",data:=.fields #[vl,vu,.none] } }:=I3.kept (t':=s3.toks) fun b ob q=>LV _ q;obtain ⟨T,id,hT,ht,hg⟩:=hr pins { s3 with heap:=s3.heap.push { cls:=.type "slice",data:=.fields #[vl,vu,.none] } } σ H3 x v vl vu l u s3.heap.objs.size Q I4 r1 (Heap.IsSliceOf.new ..) pl pu q3;show wpAny (model X.prog X.w) X.A (subscriptTail e (.Slice lo hi none p2) v (.ref s3.heap.objs.size)) (EP X pins σ Q) X.xe { s3 with heap:=s3.heap.push { cls:=.type "slice",data:=.fields #[vl,vu,.none] } };exact tail_any (ops:=[.ref s3.heap.objs.size,v]) ht hT hg (by with_unfolding_all rfl)
def uQ (xs:List V) (lo hi:Option Int):List V:=(xs.drop (HT.sIx xs.length 0 lo)).take (HT.sIx xs.length xs.length hi - HT.sIx xs.length 0 lo)
theorem BR (xs:List V) (lo hi:Option Int):(uQ xs lo hi).length<=xs.length:=by
 unfold uQ;rw [Mz,Qj];omega
end
def ixN (n:Nat) (i:Int):Option Nat:=if 0<=i then (if i<n then some i.toNat else none) else if -(n:Int)<=i then some (i+n).toNat else none
def atI {α:Type} (xs:List α) (i:Int):Option α:=(ixN xs.length i).bind fun j=>xs[j]?
theorem B0 {n:Nat} {i:Int} {j:Nat} (h:ixN n i=some j):seqIndex? i n=some j/\j<n/\-(n:Int)<=i/\i<n:=by
 unfold ixN at h
 by_cases h0:0<=i
 ·rw [if_pos h0] at h
  by_cases h1:i<n
  ·rw [if_pos h1] at h;have e:i.toNat=j:=ML h;exact ⟨by rw [Tc h0 h1,e],by omega,by omega,h1⟩
  ·rw [if_neg h1] at h;cases h
 ·rw [if_neg h0] at h
  by_cases h1:-(n:Int)<=i
  ·rw [if_pos h1] at h;have e:(i+n).toNat=j:=ML h;exact ⟨by rw [S4 (by omega) h1,e],by omega,h1,by omega⟩
  ·rw [if_neg h1] at h;cases h
theorem Cq {α:Type} {xs:List α} {i:Int} {v:α} (h:atI xs i=some v):∃ j,seqIndex? i xs.length=some j/\xs[j]?=some v/\j<xs.length/\-(xs.length:Int)<=i/\i<xs.length:=by
 unfold atI at h;cases e:ixN xs.length i with
 | none=>rw [e] at h;cases h
 | some j =>
  rw [e] at h;obtain ⟨h1,h2,h3,h4⟩:=B0 e;exact ⟨j,h1,h,h2,h3,h4⟩
theorem qy {α:Type} {xs:List α} {j:Nat} {v:α} (h:xs[j]?=some v):atI xs (j:Int)=some v:=by
 have hj:j<xs.length:=(LQ.mp h).1;have e:ixN xs.length (j:Int)=some j:=by
  unfold ixN;rw [if_pos (by omega),if_pos (by omega)];simp
 unfold atI;rw [e];exact h
def IC (b:Expr):Prop:=∀ o i,subscripted b false o i=operate [o,i] (getItem o i)
def IxR (X:Cx) (r:R2):Prop :=
 ∀ (value slice:Expr) (pins:List (Addr×Obj)) (s:LU) (σ:St) (H:Hp) (x y:V) (v u:Value) (Q:VK),Inv X pins σ H s->RelV x v->RelV y u->r x y H Q ->
  subscripted slice false v u=operate [v,u] (getItem v u)->wpAny (model X.prog X.w) X.A (subscriptTail value slice v u) (EP X pins σ Q) X.xe s
def MtR (X:Cx) (id:String) (r:V->List V->Hp->VK->Prop):Prop :=
 ∀ (pins:List (Addr×Obj)) (s:LU) (σ:St) (H:Hp) (x:V) (xs:List V) (v:Value) (us:List Value) (Q:VK),Inv X pins σ H s->RelV x v->Vals xs us->r x xs H Q ->
  wpAny (model X.prog X.w) X.A (call (.builtin id) (v :: us)) (EP X pins σ Q) X.xe s
section
variable {X:Cx} {a b:Expr} {ta tb:TE} {pos:Pos}
theorem ar {r:R2} (hr:IxR X r) (ha:PE X a ta) (hb:PE X b tb) (hs:IC b):PE X (.Subscript a b pos) (tOp r ta tb):=by
 intro pins s σ H Q I h;exact Subscript_ (Gk ha hb I h fun v u s2 x y H2 I2 rx ry q=>hr a b pins s2 σ H2 x y v u Q I2 rx ry q (hs _ _))
def qR (K:LM):R2:=fun x y H Q=>∃ p xs i v,x=.ref p/\y=.int i/\SqL K H p xs/\atI xs i=some v/\Q v H
def GR (K:LM):R2:=fun x y H Q=>∃ p xs i v,x=.ref p/\y=.int i/\SqT K H p xs/\atI xs i=some v/\Q v H
theorem Jn:IxR X (qR X.K):=by
 intro value slice pins s σ H x y v u Q I rx ry h hs;obtain ⟨p,xs,i,z,rfl,rfl,hq,he,q⟩:=h;cases rx;obtain ⟨t,rfl⟩:=ry;obtain ⟨its,r,pl,hz⟩:=I.list hq;obtain ⟨j,h1,h2,h3,h4,h5⟩:=Cq he;obtain ⟨w,ew,rw'⟩:=r.get h2;have hl:=r.length;have hn:=vB;have fin:EP X pins σ Q w s:=⟨z,H,I,rw',q⟩
 by_cases h0:0<=i
 ·have hj:i.toNat=j:=by
   rw [Tc h0 h5] at h1;exact ML h1
  exact item_listR pl.isList h0 (by omega) (by rw [hj];simpa using ew) fin hs
 ·have hj:(i+(its.toArray.size:Int)).toNat=j:=by
   rw [S4 (by omega) h4] at h1
   rw [ME,<- hl];exact ML h1
  exact RI (x:=w) pl.isList.typeIs slot_list_getitem.lookup
   (wpAny_getItem_list_neg (Q:=fun r s'=>r=w/\EP X pins σ Q r s') pl.isList (by omega) (by rw [ME] <;> omega) (by omega) (by rw [hj];simpa using ew) ⟨rfl,fin⟩) hs
theorem KH:IxR X (GR X.K):=by
 intro value slice pins s σ H x y v u Q I rx ry h hs;obtain ⟨p,xs,i,z,rfl,rfl,hq,he,q⟩:=h;cases rx;obtain ⟨t,rfl⟩:=ry;obtain ⟨its,r,pl,hz⟩:=I.tuple hq;obtain ⟨j,h1,h2,h3,h4,h5⟩:=Cq he;obtain ⟨w,ew,rw'⟩:=r.get h2;have hl:=r.length;have hn:=vB;have fin:EP X pins σ Q w s:=⟨z,H,I,rw',q⟩;exact RI (x:=w) pl.typeIs slot_tuple_getitem.lookup
  (getItem_tuple (j:=j) (Q:=fun r s'=>r=w/\EP X pins σ Q r s') pl (by omega) (by omega) (by rw [ME,<- hl];exact h1) (by simpa using ew) ⟨rfl,fin⟩) hs
theorem D9 (its:List Value) (n j:Nat) (u:Value):Pw (·.setIfInBounds j u) { cls:=.type "list",data:=.seq its.toArray n }={ cls:=.type "list",data:=.seq (its.set j u).toArray n }:=by
 simp [Pw]
theorem Inv.lst {pins:List (Addr×Obj)} {σ:St} {H:Hp} {s:LU} {p:Addr} {xs:List V} (I:Inv X pins σ H s) (h:H p=some (.lst xs)) :
  ∃ (its:List Value) (n:Nat),Vals xs its/\s.heap.get? p=some { cls:=.type "list",data:=.seq its.toArray n }/\xs.length<=MB:=by
 obtain ⟨z,its,n,r,e⟩:=I.hok p _ h;exact ⟨its,n,r,e,z⟩
theorem Inv.J0 {pins:List (Addr×Obj)} {σ:St} {H:Hp} {s:LU} {p:Addr} {xs ys:List V} {its its':List Value} {n n':Nat} {f:Obj->Obj} (I:Inv X pins σ H s) (h:H p=some (.lst xs))
  (ho:s.heap.get? p=some { cls:=.type "list",data:=.seq its.toArray n }) (hf:f { cls:=.type "list",data:=.seq its.toArray n }={ cls:=.type "list",data:=.seq its'.toArray n' }) (r:Vals ys its') (hz:ys.length<=MB) (t:Nat) :
  Inv X pins σ (upd H p (.lst ys)) { s with heap:=s.heap.update p f,toks:=t }:=by
 have e:(s.heap.update p f).get? p=some { cls:=.type "list",data:=.seq its'.toArray n' }:=by
  rw [NC f ho (by rw [hf] <;> rfl),hf]
 refine I.write (x:=p) (e:=p) (by rw [h];trivial) (.inl rfl) (fun b u hb q=>(Nf _ _ (NV hb)).trans q) ⟨_,e⟩ ?_
 exact ⟨hz,its',n',r,e⟩
def HM:V->V->V->Hp->(Hp->Prop)->Prop:=fun o i v H Q=>∃ p xs k j,o=.ref p/\i=.int k/\H p=some (.lst xs)/\ixN xs.length k=some j/\Q (upd H p (.lst (xs.set j v)))
theorem set_list:Ky X HM:=by
 intro pins s σ H o i v ov iv u Q I ro ri rv h;obtain ⟨p,xs,k,j,rfl,rfl,hp,hj,q⟩:=h;cases ro;obtain ⟨t,rfl⟩:=ri;obtain ⟨its,n,r,ho,hz⟩:=I.lst hp;obtain ⟨h1,h2,h3,h4⟩:=B0 hj;have hl:=r.length;have hn:=vB;have I':Inv X pins σ (upd H p (.lst (xs.set j v))) { s with heap:=s.heap.update p (Pw (·.setIfInBounds j u)) } :=
  I.J0 hp ho (D9 its n j u) (r.set rv j) (by rw [Qt];exact hz) s.toks
 by_cases h0:0<=k
 ·have hk:k.toNat=j:=by
   rw [Tc h0 h4] at h1;exact ML h1
  exact PySem.W.ki_setAt ho h0 (by omega) (by rw [ME,<- hl];exact h4) (by rw [hk];exact ⟨_,I',q⟩)
 ·have hk:(k+(its.toArray.size:Int)).toNat=j:=by
   rw [S4 (by omega) h3] at h1
   rw [ME,<- hl];exact ML h1
  exact PySem.W.ki_setBack ho (by omega) (by rw [ME,<- hl];exact h3) (by omega) (by rw [hk];exact ⟨_,I',q⟩)
theorem Bc (lo hi:Option Int) (n:Nat):(sliceBounds lo hi none n).1=((HT.sIx n 0 lo:Nat):Int)/\(sliceBounds lo hi none n).2.1=((HT.sIx n n hi:Nat):Int)/\(sliceBounds lo hi none n).2.2=1:=by
 refine ⟨?_,?_,rfl⟩
 ·cases lo with
  | none=>simp [sliceBounds,HT.sIx]
  | some i =>
   simp only [sliceBounds,HT.sIx,Option.getD_none,show (1:Int) > 0 by decide,if_true]
   by_cases h:i<0
   ·simp only [h,if_true] <;> omega
   ·simp only [h,if_false] <;> omega
 ·cases hi with
  | none=>simp [sliceBounds,HT.sIx]
  | some i =>
   simp only [sliceBounds,HT.sIx,Option.getD_none,show (1:Int) > 0 by decide,if_true]
   by_cases h:i<0
   ·simp only [h,if_true] <;> omega
   ·simp only [h,if_false] <;> omega
theorem yG (its:List Value) (lo hi:Option Int):slicePick its.toArray lo hi none=((its.drop (HT.sIx its.length 0 lo)).take (HT.sIx its.length its.length hi - HT.sIx its.length 0 lo)).toArray:=by
 obtain ⟨h1,h2,h3⟩:=Bc lo hi its.toArray.size;unfold slicePick;rw [h1,h2,h3];simp only [sliceRange_one,pick_run,ME] <;> rfl
def C2 (K:LM):V->Option Int->Option Int->Hp->VK->Prop:=fun x lo hi H Q=>∃ a xs,x=.ref a/\SqL K H a xs/\∀ p,H p=none->Q (.ref p) (upd H p (.lst (uQ xs lo hi)))
theorem JA:SlR X (C2 X.K):=by
 intro pins s σ H x v vl vu lo hi sl Q I rx hs pl pu h;obtain ⟨a,xs,rfl,hx,q⟩:=h;cases rx;obtain ⟨its,r,ht,hz⟩:=I.list hx;have hlen:=r.length;refine ⟨"list",_,slot_list_getitem.lookup,ht.isList.typeIs,?_⟩;refine wpAny_getItem_list_slice ht.isList hs pl pu .none (by simp) ?_ (by rw [ME] <;> omega)
 rw [yG,<- hlen];refine ⟨.ref s.heap.objs.size,_,I.laid (t':=s.toks) (o:=.lst (uQ xs lo hi)) (fun b ob q=>LV _ q) (Mi _) ?_,rfl,q _ (I.hok.fresh (Mi _))⟩;exact ⟨Na (BR xs lo hi) hz,_,0,(r.drop (HT.sIx xs.length 0 lo)).take (HT.sIx xs.length xs.length hi - HT.sIx xs.length 0 lo),Mx _ rfl⟩
def mC:V->Bool
 | .non=>true
 | .bl _=>true
 | .int _=>true
 | .str _=>true
 | _=>false
def eqV:V->V->Bool
 | .non,.non=>true
 | .bl a,.bl b=>a == b
 | .bl a,.int b=>(if a then 1 else 0) == b
 | .int a,.bl b=>a == (if b then 1 else 0)
 | .int a,.int b=>a == b
 | .str a,.str b=>a == b
 | _,_=>false
theorem rS {A:MY} {s:LU} {y x:V} {u v:Value} (ry:RelV y u) (rx:RelV x v) (fy:mC y=true) (fx:mC x=true):SY A s u v (eqV y x):=by
 cases y with
 | non =>
  cases ry;cases x with
  | non=>cases rx;exact RX _
  | bl b=>cases rx;exact SeqAt.EqAt.none_bool b
  | int b=>obtain ⟨t,rfl⟩:=rx;exact SeqAt.EqAt.none_int b t
  | str b=>obtain ⟨t,rfl⟩:=rx;exact SeqAt.EqAt.none_str b t
  | _=>exact absurd (show false=true from fx) Mu
 | bl a =>
  cases ry;cases x with
  | non=>cases rx;exact SeqAt.EqAt.bool_none a
  | bl b=>cases rx;exact SeqAt.EqAt.bool_bool a b
  | int b=>obtain ⟨t,rfl⟩:=rx;exact SeqAt.EqAt.bool_int a b t
  | str b=>obtain ⟨t,rfl⟩:=rx;exact SeqAt.EqAt.bool_str a b t
  | _=>exact absurd (show false=true from fx) Mu
 | int a =>
  obtain ⟨t',rfl⟩:=ry;cases x with
  | non=>cases rx;exact SeqAt.EqAt.int_none a t'
  | bl b=>cases rx;exact SeqAt.EqAt.int_bool a t' b
  | int b=>obtain ⟨t,rfl⟩:=rx;exact SeqAt.EqAt.int_int a t' b t
  | str b=>obtain ⟨t,rfl⟩:=rx;exact SeqAt.EqAt.int_str a t' b t
  | _=>exact absurd (show false=true from fx) Mu
 | str a =>
  obtain ⟨t',rfl⟩:=ry;cases x with
  | non=>cases rx;exact SeqAt.EqAt.str_none a t'
  | bl b=>cases rx;exact SeqAt.EqAt.str_bool a t' b
  | int b=>obtain ⟨t,rfl⟩:=rx;exact SeqAt.EqAt.str_int a t' b t
  | str b=>obtain ⟨t,rfl⟩:=rx;exact SeqAt.EqAt.str_str a t' b t
  | _=>exact absurd (show false=true from fx) Mu
 | _=>exact absurd (show false=true from fy) Mu
def eqU (x:V) (u:Value):Bool:=match u with
 | .none=>eqV .non x
 | .bool b=>eqV (.bl b) x
 | .int i _=>eqV (.int i) x
 | .str z _=>eqV (.str z) x
 | _=>false
theorem Ec {x y:V} {u:Value} (r:RelV y u) (f:mC y=true):eqU x u=eqV y x:=by
 cases y with
 | non=>cases r;rfl
 | bl b=>cases r;rfl
 | int i=>obtain ⟨t,rfl⟩:=r;rfl
 | str z=>obtain ⟨t,rfl⟩:=r;rfl
 | _=>exact absurd (show false=true from f) Mu
theorem qj {x:V}:∀ {xs:List V} {us:List Value},Vals xs us->xs.all mC=true->us.any (eqU x)=xs.any fun y=>eqV y x
 | _,_,.nil,_=>rfl
 | y :: xs,u :: us,.cons r t,f=>by
  rw [Rm,NO] at f;rw [PJ,PJ,Ec r f.1,qj t f.2]
theorem n9 {A:MY} {s:LU} {x:V} {v:Value} (rx:RelV x v) (fx:mC x=true):∀ {xs:List V} {us:List Value},Vals xs us->xs.all mC=true->∀ u∈us,SY A s u v (eqU x u)
 | _,_,.nil,_=>fun u hu=>by cases hu
 | y :: xs,u :: us,.cons r t,f=>fun u' hu=>by
  rw [Rm,NO] at f;rcases My.mp hu with rfl|hu
  ·rw [Ec r f.1];exact rS r rx f.1 fx
  ·exact n9 rx fx t f.2 u' hu
def inV (x:V) (xs:List V):Bool:=xs.any fun y=>eqV y x
def rIn (K:LM) (neg:Bool):R2:=fun x y H Q=>∃ p xs,y=.ref p/\(SqL K H p xs\/SqT K H p xs)/\mC x=true/\xs.all mC=true/\Q (.bl (if neg then !inV x xs else inV x xs)) H
theorem El:OpR X (compareOp .In) (rIn X.K false):=by
 intro pins s σ H x y v u Q I rx ry h;obtain ⟨p,xs,rfl,hq,fx,fs,q⟩:=h;cases ry;rcases hq with hq|hq
 ·obtain ⟨its,r,pl,hz⟩:=I.list hq;refine SeqAt.in_listAt (eqU x) pl.isList (fun w hw=>n9 rx fx r fs w (by simpa using hw)) ⟨.bl _,H,I,rfl,?_⟩
  rw [show its.toArray.any (eqU x)=its.any (eqU x) by simp,qj r fs]
  exact q
 ·obtain ⟨its,r,pl,hz⟩:=I.tuple hq;refine SeqAt.in_tupleAt (eqU x) pl (fun w hw=>n9 rx fx r fs w (by simpa using hw)) ⟨.bl _,H,I,rfl,?_⟩
  rw [show its.toArray.any (eqU x)=its.any (eqU x) by simp,qj r fs]
  exact q
theorem AM:OpR X (compareOp .NotIn) (rIn X.K true):=by
 intro pins s σ H x y v u Q I rx ry h;obtain ⟨p,xs,rfl,hq,fx,fs,q⟩:=h;cases ry;rcases hq with hq|hq
 ·obtain ⟨its,r,pl,hz⟩:=I.list hq;refine SeqAt.notIn_listAt (eqU x) pl.isList (fun w hw=>n9 rx fx r fs w (by simpa using hw)) ⟨.bl _,H,I,rfl,?_⟩
  rw [show its.toArray.any (eqU x)=its.any (eqU x) by simp,qj r fs]
  exact q
 ·obtain ⟨its,r,pl,hz⟩:=I.tuple hq;refine SeqAt.notIn_tupleAt (eqU x) pl (fun w hw=>n9 rx fx r fs w (by simpa using hw)) ⟨.bl _,H,I,rfl,?_⟩
  rw [show its.toArray.any (eqU x)=its.any (eqU x) by simp,qj r fs]
  exact q
theorem zr:cW X (.builtin "len") (fun xs H Q=>∃ p ys,xs=[.ref p]/\(SqL X.K H p ys\/SqT X.K H p ys)/\Q (.int ys.length) H):=by
 intro pins s σ H xs us Q I r h;obtain ⟨p,ys,rfl,hq,q⟩:=h;obtain ⟨u,rfl,rx⟩:=vals1 r;cases rx;have hn:=vB;rcases hq with hq|hq
 ·obtain ⟨its,r',pl,hz⟩:=I.list hq;have hlen:=r'.length;exact Calls.call_len_list pl.isList (by simp only [ME] <;> omega) ⟨.int ys.length,H,I.tok _,⟨s.toks+1,by rw [ME,hlen]⟩,q⟩
 ·obtain ⟨its,r',pl,hz⟩:=I.tuple hq;have hlen:=r'.length;exact len_tuple pl (by simp only [ME] <;> omega) ⟨.int ys.length,H,I.tok _,⟨s.toks+1,by rw [ME,hlen]⟩,q⟩
theorem AU:cW X (.type "list") (fun xs H Q=>∃ p ys,xs=[.ref p]/\(SqL X.K H p ys\/SqT X.K H p ys)/\∀ l,H l=none->Q (.ref l) (upd H l (.lst ys))):=by
 intro pins s σ H xs us Q I r h;obtain ⟨p,ys,rfl,hq,q⟩:=h;obtain ⟨u,rfl,rx⟩:=vals1 r;cases rx;have fin:∀ (its:List Value),Vals ys its->ys.length<=MB->∀ (h':Heap) (c':Nat),(∀ b o',s.heap.get? b=some o'->h'.get? b=some o') ->
   h'.get? s.heap.objs.size=some { cls:=.type "list",dict:=none,data:=.seq its.toArray c',slots:=#[] }->EP X pins σ Q (.ref s.heap.objs.size) { s with heap:=h' }:=fun its r' hz h' c' kp e =>
  ⟨.ref s.heap.objs.size,_,I.laid (t':=s.toks) kp (Mi _) (show bB X.prog X.w _ h' _ (.lst ys) from ⟨hz,its,c',r',e⟩),rfl,q _ (I.hok.fresh (Mi _))⟩
 rcases hq with hq|hq
 ·obtain ⟨its,r',pl,hz⟩:=I.list hq;have hlen:=r'.length;obtain ⟨o,ho,hc,n,hd⟩:=pl.isList;exact call_list_seq p (.inl rfl) ho hc hd (fun h' c' kp e=>fin its r' hz h' c' kp e) (by simp only [ME] <;> omega)
 ·obtain ⟨its,r',pl,hz⟩:=I.tuple hq;have hlen:=r'.length;obtain ⟨o,ho,hc,n,hd⟩:=pl;exact call_list_seq p (.inr rfl) ho hc hd (fun h' c' kp e=>fin its r' hz h' c' kp e) (by simp only [ME] <;> omega)
def tyV (K:LM) (T:String) (x:V) (H:Hp):Prop:=match x with
 | .str _=>T = "str"
 | .int _=>T = "int"
 | .ref p=>(T = "list" /\ ∃ xs,SqL K H p xs)\/(T = "tuple" /\ ∃ o,K.lookup p=some o/\o.cls=.type "tuple" /\ o.dict=none) \/
   (T = "dict" /\ ((∃ kvs,H p=some (.dK kvs))\/∃ kvs,H p=some (.dT kvs)))\/(T = "set" /\ ∃ S n,H p=some (.set S n))
 | _=>False
theorem Ks {pins:List (Addr×Obj)} {σ:St} {H:Hp} {s:LU} {T:String} {x:V} {v:Value} (I:Inv X pins σ H s) (r:RelV x v) (ty:tyV X.K T x H) :
  s.TypeIs v T/\∀ a,v=.ref a->∃ ob,s.heap.get? a=some ob/\ob.dict=none:=by
 cases x with
 | str z =>
  obtain ⟨t,rfl⟩:=r;cases (show T = "str" from ty);exact ⟨typeIs_str s z t,fun _ e=>nomatch e⟩
 | int i =>
  obtain ⟨t,rfl⟩:=r;cases (show T = "int" from ty);exact ⟨typeIs_int s i t,fun _ e=>nomatch e⟩
 | ref p =>
  cases r;rcases ty with ⟨rfl,xs,hq⟩|⟨rfl,o,hk,hc,hd⟩|⟨rfl,hk⟩|⟨rfl,S,n,hk⟩
  ·obtain ⟨its,_,pl,_⟩:=I.list hq;refine ⟨pl.isList.typeIs,fun a e=>?_⟩;cases e;obtain ⟨o,n,e,c,hd,_⟩:=pl;exact ⟨o,e,hd⟩
  ·refine ⟨⟨o,I.kIn p o hk,hc⟩,fun a e=>?_⟩;cases e;exact ⟨o,I.kIn _ o hk,hd⟩
  ·have z:∃ o,s.heap.get? p=some o/\o.ExactDict:=by
    rcases hk with ⟨kvs,hk⟩|⟨kvs,hk⟩
    ·obtain ⟨_,_,_,_,o,_,_,e,ex,_⟩:=I.hok p _ hk;exact ⟨o,e,ex⟩
    ·obtain ⟨_,_,_,_,o,_,_,e,ex,_⟩:=I.hok p _ hk;exact ⟨o,e,ex⟩
   obtain ⟨o,e,ex⟩:=z;refine ⟨⟨o,e,ex.1⟩,fun a e2=>?_⟩;cases e2;exact ⟨o,e,ex.2.1⟩
  ·obtain ⟨o,_,_,_,e,ex,_⟩:=I.hok p _ hk;refine ⟨⟨o,e,ex.1⟩,fun a e2=>?_⟩;cases e2;exact ⟨o,e,ex.2.1⟩
 | _=>exact Nh ty
def tBM (K:LM) (T:String) (r:V->List V->Hp->VK->Prop) (to:TE) (t:TA):TE:=fun σ H Q=>to σ H fun x H1=>tyV K T x H1/\t σ H1 fun xs H2=>r x xs H2 Q
variable {o e:Expr} {es:List Expr} {to:TE} {t:TA} {name:Str} {apos cpos:Pos} {T id:String} {r:V->List V->Hp->VK->Prop}
theorem Lv (pa:PlainAttrs T) (slot:Slot T name id) (hty:typeOf (.builtin id)=pure (.type "method_descriptor")) (hm:MtR X id r) (ho:PE X o to) (ha:PA X (e :: es) t)
  (hbase:attributeBase o name X.env (eval o X.env)=eval o X.env:=by rfl)
  (hfew:((backTo cpos (MZ (e :: es) X.env)).all (fun x=>!x.1) && (backToKw cpos (keywordEach [] X.env)).all (fun x=>x.1.isSome)
   && decide ((e :: es).length+([]:List RV).length+(if ([]:List RV).isEmpty then 0 else 1)<30))=true:=by rfl)
  (hline:(apos.endLine == cpos.line)=true:=by rfl) (hs:MZ (e :: es) X.env=(false,eval e X.env) :: MZ es X.env:=by rfl) (hplain:(backTo cpos (MZ es X.env)).any (·.1)=false:=by rfl) :
  PE X (.Call (.Attribute o name apos) (e :: es) [] cpos) (tBM X.K T r to t):=by
 intro pins s σ H Q I h;refine wpAny_Call_method_late hbase hfew hline rfl (thn (ho pins s σ H _ I h) fun v s1 ⟨x,H1,I1,r1,ty,q1⟩=>?_);obtain ⟨h1,h2⟩:=Ks I1 r1 ty;refine ⟨T,id,pa,slot,hty,h1,h2,?_⟩;have hA:=ha cpos pins s1 σ H1 _ I1 q1;rw [hs] at hA ⊢;refine Calls.callWith_builtin (by show (false || (backTo cpos (MZ es X.env)).any (·.1))=false;rw [hplain] <;> rfl) (Sr ?_)
 exact thn hA fun us s2 ⟨vs,H2,I2,r2,q2⟩=>hm pins s2 σ H2 x vs v us Q I2 r1 r2 q2
/- xs.append(e),list.index on a module's tuple .. are MtR facts of 06m -/
end
def MtM (X:Cx) (id:String) (r:V->List V->Hp->VK->Prop):Prop :=
 ∀ (pins:List (Addr×Obj)) (s:LU) (σ:St) (H:Hp) (x:V) (xs:List V) (v:Value) (us:List Value) (Q:VK),Inv X pins σ H s->RelV x v->Vals xs us->r x xs H Q ->
  wpAny (model X.prog X.w) X.A (call (.builtin id) (v :: us)) (EP X pins σ Q) X.xe s
theorem Vals.one {x:V} {us:List Value} (h:Vals [x] us):∃ u,us=[u]/\RelV x u:=by
 cases h with
 | cons r t=>cases t;exact ⟨_,rfl,r⟩
theorem Vals.two {x y:V} {us:List Value} (h:Vals [x,y] us):∃ u v,us=[u,v]/\RelV x u/\RelV y v:=by
 cases h with
 | cons r t =>
  cases t with
  | cons q e=>cases e;exact ⟨_,_,rfl,r,q⟩
theorem Vals.rep {xs:List V} {us:List Value} (h:Vals xs us):∀ k:Nat,Vals (Mv k xs).flatten (Mv k us).flatten
 | 0=>.nil
 | k+1=>by
  rw [OZ,OZ,P5,P5];exact Vals.append h (Vals.rep h k)
theorem foldl_rep (its:List Value):∀ (k:Nat) (acc:List Value),
  List.foldl (fun x1 x2=>x1++x2) acc.toArray (Mv k its.toArray)=(acc++(Mv k its).flatten).toArray
 | 0,acc=>by simp
 | k+1,acc=>by
  have e:acc.toArray++its.toArray=(acc++its).toArray:=by simp
  have e2:(acc++its)++(Mv k its).flatten=acc++(Mv (k+1) its).flatten:=by
   rw [OZ,P5,Q3]
  rw [<- e2,<- foldl_rep its k (acc++its),<- e,OZ,List.foldl_cons]
section
variable {X:Cx} {pins:List (Addr×Obj)} {σ:St} {H:Hp} {s:LU} {l b:Addr} {xs ys zs:List V}
theorem Inv.JS {its its':List Value} {n:Nat} {f:Array Value->Array Value} {t':Nat} (I:Inv X pins σ H s) (hH:H l=some (.lst xs))
  (e:s.heap.get? l=some { cls:=.type "list",data:=.seq its.toArray n }) (hf:f its.toArray=its'.toArray) (hv:Vals ys its') (hz:ys.length<=MB) :
  Inv X pins σ (upd H l (.lst ys)) { s with heap:=s.heap.update l (Pw f),toks:=t' }:=by
 have q:=PySem.IsL.update e f;rw [hf] at q;refine I.write (x:=l) (e:=l) (by rw [hH];exact trivial) (.inl rfl) (fun b' u hb hu=>(Nf s.heap (Pw f) (NV hb)).trans hu) ⟨_,q⟩ ?_
 exact ⟨hz,its',_,hv,q⟩
theorem Inv.J6 {its:List Value} {t':Nat} (I:Inv X pins σ H s) (hv:Vals ys its) (hz:ys.length<=MB) :
  Inv X pins σ (upd H s.heap.objs.size (.lst ys)) { s with heap:=s.heap.push { cls:=.type "list",data:=.seq its.toArray },toks:=t' } :=
 I.laid (fun _ _ q=>LV _ q) (Mi _) ⟨hz,its,0,hv,Mx _ rfl⟩
theorem Inv.fresh (I:Inv X pins σ H s):H s.heap.objs.size=none:=I.hok.fresh (Mi _)
theorem Inv.xa (I:Inv X pins σ H s) (hH:H l=some (.lst xs)):xs.length<=MB/\∃ (its:List Value) (n:Nat),Vals xs its/\xs.length=its.length/\s.heap.get? l=some { cls:=.type "list",data:=.seq its.toArray n }:=by
 obtain ⟨z,its,n,r,e⟩:=I.hok l _ hH;exact ⟨z,its,n,r,r.length,e⟩
theorem GO {n:Nat} (h:n<=MB):Px n=false:=by
 unfold Px;exact decide_eq_false (by omega)
end
section
variable {X:Cx}
def wK:V->List V->Hp->VK->Prop:=fun x vs H Q=>∃ l xs y,x=.ref l/\vs=[y]/\H l=some (.lst xs)/\xs.length<MB/\Q .non (upd H l (.lst (xs++[y])))
theorem dE:MtM X "list.append" wK:=by
 intro pins s σ H x vs v us Q I rx rv h;obtain ⟨l,xs,y,rfl,rfl,hH,hz,q⟩:=h;cases rx;obtain ⟨u,rfl,ru⟩:=rv.one;obtain ⟨z,its,n,r,hl,e⟩:=I.xa hH;refine Q4 F.slot_list_append ⟨_,e,rfl⟩ F.entry_list_append (F.args_list_append_2 _ _) (PySem.list_append l its.toArray n u (by rw [ME];omega)) ⟨e,?_⟩
 refine ⟨.non,_,I.JS (its':=its++[u]) hH e (by simp) (r.append (.cons ru .nil)) ?_,rfl,q⟩
 rw [Mo,Nq];omega
def Gb:R2:=fun x y H Q=>∃ l b xs zs,x=.ref l/\y=.ref b/\H l=some (.lst xs)/\H b=some (.lst zs)/\xs.length+zs.length<=MB/\∀ p,H p=none->Q (.ref p) (upd H p (.lst (xs++zs)))
theorem fv:OpR X (binaryOp .Add) Gb:=by
 intro pins s σ H x y v u Q I rx ry h;obtain ⟨l,b,xs,zs,rfl,rfl,hH,hB,hz,q⟩:=h;cases rx;cases ry;obtain ⟨z,its,n,r,hl,e⟩:=I.xa hH;obtain ⟨z2,its2,n2,r2,hl2,e2⟩:=I.xa hB;refine PySem.P.add_list e e2 ?_ (by rw [ME,ME];omega)
 have ea:its.toArray++its2.toArray=(its++its2).toArray:=by simp
 rw [ea];exact ⟨.ref _,_,I.J6 (t':=s.toks) (r.append r2) (by rw [Mo];omega),rfl,q _ I.fresh⟩
def Lz:R2:=fun x y H Q=>∃ l k xs,x=.ref l/\y=.int k/\H l=some (.lst xs)/\-(2 ^ 63)<=k/\k<2 ^ 63/\xs.length * k.toNat<=MB /\
 ∀ p,H p=none->Q (.ref p) (upd H p (.lst (Mv k.toNat xs).flatten))
theorem len_rep {α:Type} (xs:List α) (k:Nat):(Mv k xs).flatten.length=k * xs.length:=by
 induction k with
 | zero=>simp
 | succ k ih=>rw [OZ,P5,Mo,ih,Nat.succ_mul,OG]
theorem Ke:OpR X (binaryOp .Mult) Lz:=by
 intro pins s σ H x y v u Q I rx ry h;obtain ⟨l,k,xs,rfl,rfl,hH,h1,h2,hz,q⟩:=h;cases rx;obtain ⟨t,rfl⟩:=ry;obtain ⟨z,its,n,r,hl,e⟩:=I.xa hH;have hlen:its.toArray.size * k.toNat<=MB:=by rw [ME,<- hl];exact hz
 have hcap:¬ its.toArray.size * k.toNat > (2 ^ 63 - 1) / 8:=by
  have:(MB:Nat)<=(2 ^ 63 - 1) / 8:=by decide
  omega
 have hfit:¬ (!Builtin.List.listFitsIndex k)=true:=by
  rw [fitsIndex_both h1 h2];exact Mu
 have hlong:¬ Px (its.toArray.size * k.toNat)=true:=by
  rw [GO hlen];exact Mu
 have hnew:List.foldl (fun x1 x2=>x1++x2) #[] (Mv (if its.toArray.isEmpty=true then 0 else k.toNat) its.toArray)=(Mv k.toNat its).flatten.toArray:=by
  have f0:∀ m:Nat,List.foldl (fun x1 x2=>x1++x2) #[] (Mv m its.toArray)=(Mv m its).flatten.toArray:=fun m=>by
   have:=foldl_rep its m [];rw [List.nil_append] at this;exact this
  rw [f0];cases its with
  | nil=>simp
  | cons a r'=>rw [if_neg (by simp)]
 refine wpAny_binaryOp_repeat_ref (T:="list") (U:="int") (by decide) ⟨_,e,rfl⟩ (fun s'=>typeIs_int s' k t) noFill_list_mul F.fills_int_mul F.slot_int_rmul repeat_list F.slot_int_index.lookup
  (Q4 F.slot_int_rmul (typeIs_int s k t) F.entry_int_rmul (F.args_int_rmul_2 _ _) (int___rmul___int_list k t l its.toArray n)
   ⟨e,rfl,⟨_,e,rfl⟩,Q4 F.slot_list_mul ⟨_,e,rfl⟩ F.entry_list_mul (F.args_list_mul_2 _ _) (AutoListH.list___mul___list_int_3 l its.toArray n k t hfit hcap hlong) ⟨e,?_⟩⟩)
 rw [hnew];exact ⟨.ref _,_,I.J6 (t':=s.toks) (r.rep k.toNat) (by rw [len_rep,Py];exact hz),rfl,q _ I.fresh⟩
end
section
variable {prog:Ms} {w:World} {A:MY} {E:Value->LU->Prop} {s:LU}
end
section
variable {X:Cx}
end
end L2
namespace Att
open PySem PySem.W PySem.Calls PyProof.Rows
theorem vn {P:Params} {h:Heap}:∀ (ns:List Int) (vs:List Value),WellAll P h vs (ns.map WData.int)->Rn vs ns:=by
 intro ns
 induction ns with
 | nil =>
  intro vs w;rw [S5] at w;cases w;exact .nil
 | cons n ns ih =>
  intro vs w;rw [MO] at w;cases w with
  | cons a b =>
   cases a;exact .cons _ _ (ih _ b)
theorem FG {l:OpenLaw} {n:Nat} (hn:l.most=some n) {P:Params} {h:Heap} {args:List WData} {vals:List Value}
  (hpre:l.row.toRowW.claim.pre args=true) (hwl:WellAll P h vals args) :
  ∃ a vs ns,vals=[Mw a]/\args=[WData.list (ns.map WData.int)]/\h.get? a=some { cls:=.type "list",data:=.seq vs.toArray }/\Rn vs ns/\ns.length<=n:=by
 have hsh:WShape.hasAll [] args [.list .int]=true:=(pre_splitW hpre).1;have hc:l.pre.holds [] { args:=args }=true:=(pre_splitW hpre).2;obtain ⟨d,r,rfl,h1,h2⟩:=hasAllW_cons hsh;obtain rfl:=hasAllW_nil h2;obtain ⟨xs,rfl,h3⟩:=hasW_list h1;obtain ⟨ns,rfl⟩:=items_int h3;have hlen:ns.length<=n:=by
  unfold OpenLaw.pre at hc;have h4:(WTm.not (.lt (.lit (.int (n:Int))) (.len (.arg 0)))).holds [] { args:=[.list (ns.map .int)] }=true:=by
   have h4:=(holds_andW hc).1;rw [hn] at h4;exact h4
  have h5:=condW_of h4 (w_not (w_lt w_lit (w_len_list (w_arg rfl))));rw [LO] at h5;refine RB fun q=>?_;have q':(n:Int)<((ns.length:Nat):Int):=by omega
  first
   | (rw [decide_eq_true q'] at h5;exact absurd h5 (by decide))
   | (simp at h5;omega)
 cases hwl with
 | cons w1 w2 =>
  cases w2;cases w1 with
  | list ho hall=>exact ⟨_,_,ns,rfl,rfl,ho,vn ns _ hall,hlen⟩
theorem Eg (l:OpenLaw) (args:List WData):l.row.toRowW.claim.post args (.bool true) args=true :=
 postW_of (r:=l.row.toRowW) (X:=(true == true))
  (show WShape.has [] (.bool true) .bool=true by first|rfl|decide|simp [WShape.has,WShape.arms,WShape.armsAll])
  (show (WTm.eq .res (.lit (.bool true))).value [] { args:=args,res:=some (.bool true),after:=args }=some (.bool (true == true)) from w_eq_bool (w_res rfl) w_lit) rfl
theorem Br {l:OpenLaw} {n:Nat} {q:Ms} {loose:List Str} {XP:(Str->Option Value)->Heap->Prop} {YP:World->Heap->Prop} {d:DefRec}
  (hn:l.most=some n) (hdf:d.params.defaults=[])
  (call:∀ (w:World) (s₀ s₁:LU) (mg mb:Str->Option Value) (fa:Addr) (o:Obj) (pm cd doc:Value) (a:Addr) (vs:List Value) (ns:List Int),
   Ground q loose [] XP w s₀ mg mb s₁.heap->YP w s₁.heap ->
   s₁.heap.get? fa=some o->o.data=.func (docDef d.name d.params d.body d.scope pm cd doc)->s₁.heap.CodeRec cd d.name->mg d.name=some (.ref fa) ->
   s₁.heap.get? a=some { cls:=.type "list",data:=.seq vs.toArray }->Rn vs ns->ns.length<=n->s₁.gens=#[] ->
   codeAny (model l.prog w) callerA (.call (.ref fa) ⟨[.ref a],[]⟩) (fun r s'=>r=.ok (.ret (.bool true))/\OldK s₁.heap s'.heap/\s'.os=s₁.os/\Ri s'.gens) s₁) :
  WalkO q loose XP YP l.row.toRowW d [] (fun f vs=>PySem.call f vs):=by
 intro w s₀ s₁ mg mb G Y fa o pm cd doc dV kV ho hd hcd hD hmg hg args vals as hpre hlay hrd hwl hlo;obtain rfl:dV=.none:=Dflts.none hD hdf;obtain rfl:kV=.none:=Dflts.noKw hD;obtain ⟨a,vs,ns,rfl,rfl,hobj,hints,hlen⟩:=FG hn hpre hwl;refine enter_call (OD (call w s₀ s₁ mg mb fa o pm cd doc a vs ns G Y ho (fd_plain hd) hcd hmg hobj hints hlen hg) fun r s' hq=>?_);obtain ⟨rfl,h2,h3,h4⟩:=hq;exact ⟨.inl ⟨.bool true,.bool true,[],rfl,fun _=>rfl,.bool true,Eg l _,fun _=>⟨Q5,fun _ hm=>(nomatch hm)⟩⟩,h2,h3,h4⟩
section
variable {prog:Ms} {w:World} {A:MY} {E:Value->LU->Prop} {s:LU} {K:Frag}
end
end Att
namespace L2
open PySem PySem.Spec PyProof.Rows
theorem xG:∀ {vs:List Value} {ns:List Int},Rn vs ns->Vals (ns.map V.int) vs
 | _,_,.nil=>.nil
 | _,_,.cons n t h=>.cons ⟨t,rfl⟩ (xG h)
def G2 (H:Hp):Prop:=∀ b,H b=none\/∃ o xs,H b=some (.frz o (.lst xs))
theorem Gu {P:Ms} {w:World} {K:LM} {mg mb:Str->Option Value} {CX:CXT} {k:Nat} {fa a:Addr} {fd:M9} {x:Str} {sp:Sp} {s₁:LU} {vs:List Value} {ns:List Int}
  (KX:K.In s₁.heap) (hns:s₁.heap.Ns LY mg) (hb:s₁.heap.Ns builtinsNs mb) (hbb:∀ x:Str,x ≠ "__name__" -> mb x=bootBuiltins x) (hlim:s₁.heap.NoLimit) (hg:s₁.gens=#[])
  (ha:s₁.heap.get? a=some { cls:=.type "list",data:=.seq vs.toArray }) (hi:Rn vs ns) (hl:ns.length<=MB) (hr:bT k callerA)
  (F:∀ base:Heap,K.In base->base.Ns LY mg->aI P w K mg base CX k fa fd [x] sp) (hbind:∀ (s:LU) (u:Value),Rk s fd ⟨[u],[]⟩ [(x,u)])
  (hsp:∀ H:Hp,G2 H->SqL K H a (ns.map V.int)->sp [.ref a] H (fun v _=>v=.bl true) fun _ _ _=>False)
  (hCX:∀ H e s',CX [] H s₁ (fun _ _ _=>False) e s'->False) :
  codeAny (model P w) callerA (.call (.ref fa) ⟨[.ref a],[]⟩) (fun r s'=>r=.ok (.ret (.bool true))/\OldK s₁.heap s'.heap/\s'.os=s₁.os/\Ri s'.gens) s₁:=by
 have rv:=xG hi;have lenV:=hi.length;have core:∀ H:Hp,G2 H->SqL K H a (ns.map V.int)->HOk P w H s₁.heap->(∀ b,H b≠none->b=a)->(H a≠none->K.lookup a=none) ->
   codeAny (model P w) callerA (.call (.ref fa) ⟨[.ref a],[]⟩) (fun r s'=>r=.ok (.ret (.bool true))/\OldK s₁.heap s'.heap/\s'.os=s₁.os/\Ri s'.gens) s₁:=by
  intro H hO hS hok hA hK;have base_of:∀ {b:Addr} {o:Obj},s₁.heap.get? b=some o->H b=none->(qM s₁.heap H).get? b=some o:=fun e n=>Hn e n;have noA:∀ {b:Addr} {o:Obj} {es:Array DictEntry} {ep:Nat},s₁.heap.get? b=some o->o.data=.dict es ep->H b=none:=fun {b o es ep} e d=>by
   cases q:H b with
   | none=>rfl
   | some u =>
    have e':b=a:=hA b (by rw [q];simp)
    subst e';rw [ha] at e;cases e;have d':Data.seq vs.toArray _=Data.dict es ep:=d;cases d'
  have nsK:∀ {b:Addr} {m:Str->Option Value},s₁.heap.Ns b m->(qM s₁.heap H).Ns b m:=fun {b m} ⟨o,es,ep,e,d,r⟩=>⟨o,es,ep,base_of e (noA e d),d,r⟩;have hKb:K.In (qM s₁.heap H):=fun b o e=>base_of (KX b o e) (by
   cases q:H b with
   | none=>rfl
   | some u =>
    have e':b=a:=hA b (by rw [q];simp)
    subst e';rw [hK (by rw [q];simp)] at e;cases e)
  have hM:Mod K mg (qM s₁.heap H):=⟨hKb,nsK hns,⟨mb,nsK hb,hbb⟩,let ⟨mc,h1,h2⟩:=hlim;⟨mc,nsK h1,h2⟩⟩;have e0:pE P w K mg (qM s₁.heap H) callerA [] s₁ H:=⟨rfl,hM,fun b o e=>IL e,RU (Fq _ _),trivial,fun b hb=>absurd (show b∈([]:List Addr) from hb) (by simp),hok,.of_eq hg⟩
  refine OD ((F _ hKb (nsK hns)).run callerA [] s₁ H ⟨[.ref a],[]⟩ [.ref a] [.ref a] _ _ hr e0 (hbind s₁ (.ref a)) (.cons rfl .nil) (hsp H hO hS)) fun r s' h=>?_;cases r with
  | error e=>exact (hCX H e s' h).elim
  | ok fl =>
   cases fl with
   | next=>exact Nh h
   | brk=>exact Nh h
   | cont=>exact Nh h
   | ret u =>
    obtain ⟨v,H',os,bare,un,hok',r',q⟩:=h;have q':v=.bl true:=q;subst q';obtain rfl:u=Sl true:=r';refine ⟨rfl,OldK.of_keep fun b o e=>?_,os,bare⟩;cases q:H b with
    | none=>exact un.keep b o e q (by intro z;exact absurd (show b∈([]:List Addr) from z) (by simp)) (by simp)
    | some u =>
     rcases hO b with z|⟨ob,xs,z⟩
     ·rw [q] at z;cases z
     ·have z2:=un.i8 b ob _ z;obtain ⟨e1,_⟩:=hok b _ z;obtain ⟨e2,_⟩:=hok' b _ z2;rw [e] at e1;cases e1;exact e2
 cases hk:K.lookup a with
 | some o =>
  have e:=KX a o hk;rw [ha] at e;cases e;refine core (fun _=>none) (fun _=>.inl rfl) (.inr ⟨_,vs.toArray,_,hk,rfl,rfl,rfl,by rw [ME,lenV];exact hl,by simpa using rv⟩) (fun b u z=>by have z':(none:Option HO)=some u:=z;cases z') (fun b z=>absurd rfl z) fun z=>absurd rfl z
 | none =>
  refine core (fun b=>if b=a then some (.frz { cls:=.type "list",data:=.seq vs.toArray } (.lst (ns.map V.int))) else none) (fun b=>?_) (.inl (.inr ⟨{ cls:=.type "list",data:=.seq vs.toArray },if_pos rfl⟩)) (fun b u z=>?_) (fun b z=>?_) fun _=>hk
  ·by_cases hb:b=a
   ·exact .inr ⟨_,_,if_pos hb⟩
   ·exact .inl (if_neg hb)
  ·by_cases hb:b=a
   ·have z':=(if_pos hb).symm.trans z;cases z';subst hb;exact ⟨ha,by rw [LO];exact hl,vs,_,rv,ha⟩
   ·have z':=(if_neg hb).symm.trans z;cases z'
  ·by_cases hb:b=a
   ·exact hb
   ·exact absurd (if_neg hb) z
theorem IG {l:RY} {n k:Nat} {q:Ms} {loose:List Str} {XP:(Str->Option Value)->Heap->Prop} {YP:World->Heap->Prop} {d:DefRec} {K:Params->LM} {CX:World->CXT} {sp:World->Sp} {x:Str}
  (hn:l.most=some n) (hn2:n<=MB) (hdf:d.params.defaults=[]) (hr:bT k callerA)
  (hY:∀ (w:World) (h:Heap),YP w h->(K w.params).In h)
  (F:∀ (w:World) (mg:Str->Option Value) (fa:Addr) (h:Heap),(K w.params).In h->h.Ns LY mg->mg d.name=some (.ref fa) ->
   ∃ fd:M9,(∀ (s:LU) (u:Value),Rk s fd ⟨[u],[]⟩ [(x,u)]) /\
    ∀ base:Heap,(K w.params).In base->base.Ns LY mg->aI l.prog w (K w.params) mg base (CX w) k fa fd [x] (sp w))
  (hsp:∀ (w:World) (H:Hp) (a:Addr) (ns:List Int),ns.length<=n->G2 H->SqL (K w.params) H a (ns.map V.int)->sp w [.ref a] H (fun v _=>v=.bl true) fun _ _ _=>False)
  (hCX:∀ (w:World) (H:Hp) (s:LU) (e:Value) (s':LU),CX w [] H s (fun _ _ _=>False) e s'->False) :
  PySem.W.WalkO q loose XP YP l.row.toRowW d [] (fun f vs=>PySem.call f vs):=by
 refine Att.Br hn hdf fun w s₀ s₁ mg mb fa o pm cd doc a vs ns G Y ho hd hcd hmg hobj hints hlen hg=>?_;have KX:=hY w _ Y;obtain ⟨fd,hb,hF⟩:=F w mg fa _ KX G.T.g hmg;exact Gu KX G.T.g G.T.b G.T.builtins G.T.nolimit hg hobj hints (Na hlen hn2) hr hF hb (fun H hO hS=>hsp w H a ns hlen hO hS) fun H e s'=>hCX w H s₁ e s'
def inClass (s:Stmt) (j:Nat):Stmt:=match s with
 | .ClassDef _ _ _ body _ _ _ _ _ _ _=>body.getD j (.Pass ⟨0,0,0,0⟩)
 | _=>.Pass ⟨0,0,0,0⟩
def aJ (s:Stmt):Arguments:=match s with
 | .FunctionDef _ a _ _ _ _ _ _ _ _=>a
 | _=>{ posonlyargs:=[],args:=[],vararg:=none,kwonlyargs:=[],kw_defaults:=[],kwarg:=none,defaults:=[] }
def aG (s:Stmt):List Stmt:=match s with
 | .FunctionDef _ _ b _ _ _ _ _ _ _=>b
 | _=>[]
def ag (s:Stmt):Scope:=match s with
 | .FunctionDef _ _ _ _ _ _ sc _ _ _=>sc
 | _=>{ kind:=.function,names:=[],isGenerator:=false,isCoroutine:=false }
abbrev CX0:CXT:=fun _ _ _ _ _ _=>False
abbrev E0:XK:=fun _ _ _=>False
theorem tJ {X:Cx}:Passes CX0 X E0:=fun _ _ _ _ _ _ _ h=>h.elim
structure Fun (K:LM) (x qual:Str) (st:Stmt) (f:Addr) (fd:M9):Prop where
 ex:∃ (oc:Value) (od:Option Addr) (kV doc pm:Value) (an:Option Addr) (cdv ct:Value) (osl:Array (Option Value)),
  fd=Mc x qual (aJ st) (aG st) (ag st) .none kV doc pm an cdv ct/\K.lookup f=some ⟨oc,od,.func fd,osl⟩/\L9 K cdv qual=true
 kp:LW K (.ref f)=true
section
variable {P:Ms} {w:World} {K:LM} {mg:Str->Option Value} {base:Heap}
theorem Fun.ok {x qual:Str} {st:Stmt} {f:Addr} {fd:M9} {N ps:List Str} {k:Nat} {sp:Sp} (F:Fun K x qual st f fd) (S:aN N ps (ag st)) (len:∀ vs H Q E,sp vs H Q E->vs.length=ps.length)
  (hbody:∀ (cdv:Value) (A:MY) (outer:List Env) (s:LU) (H:Hp) (vs:List V) (Q:VK) (E:XK),bT k (A.deeper (envOfC qual (ag st) s.heap.objs.size f cdv))->sp vs H Q E ->
   ∃ t,PSs (lh CX0 P w K mg base N qual (ag st) f cdv A outer s H E).nox (aG st) t/\t { nx:=fun _ H'=>Q .non H',rt:=Q } (start N vs) H):aI P w K mg base CX0 (k+1) f fd ps sp:=by
 obtain ⟨oc,od,kV,doc,pm,an,cdv,ct,osl,rfl,lk,hcd⟩:=F.ex;refine zf lk hcd S len fun A outer s H vs Q E hr hsp=>?_;obtain ⟨t,h,q⟩:=hbody cdv A outer s H vs Q E hr hsp;exact ⟨t,h.nox,q⟩
theorem Fun.binds {x qual:Str} {st:Stmt} {f:Addr} {fd:M9} {ps:List Str} (F:Fun K x qual st f fd)
  (h:∀ (kV doc pm:Value) (an:Option Addr) (cdv ct:Value) (us:List Value),us.length=ps.length->bindArgs (Mc x qual (aJ st) (aG st) (ag st) .none kV doc pm an cdv ct) ⟨us,[]⟩=pure (ps.zip us)):Binds K fd ps []:=by
 obtain ⟨oc,od,kV,doc,pm,an,cdv,ct,osl,rfl,lk,hcd⟩:=F.ex;exact .all (h kV doc pm an cdv ct)
theorem aX {x qual:Str} {st:Stmt} {f:Addr} {oc:Value} {od an:Option Addr} {osl:Array (Option Value)} {kV doc pm cdv ct:Value} (l:K.lookup f=some ⟨oc,od,.func (Mc x qual (aJ st) (aG st) (ag st) .none kV doc pm an cdv ct),osl⟩)
  (c:L9 K cdv qual=true) (k:LW K (.ref f)=true):Fun K x qual st f (Mc x qual (aJ st) (aG st) (ag st) .none kV doc pm an cdv ct):=⟨⟨oc,od,kV,doc,pm,an,cdv,ct,osl,rfl,l,c⟩,k⟩
end
theorem mG {A:MY} {k:Nat} (hr:bT k A):A.units+1<cLine:=Ny (Nat.add_le_add_left (by decide:1<=64) _) hr.units
theorem Ei {n:Nat} (h:n<=1000):n<MB:=Ny h (by decide)
section
variable {X:Cx}
theorem pv (i:Nat) {x:Str} {pos:Pos} (hN:X.N[i]?=some x:=by rfl) (hv:Vis X.env.scope x:=by first|exact Mg rfl|exact Pz (Mg rfl)|exact Pz (Pz rfl)) (hd:(x == ("__debug__" : Str))=false:=by decide)
  (hcd:(x == ("__classdict__" : Str))=false:=by decide):PE X (.Name x pos) (uZ i):=Kt hN hv hd hcd
end
theorem dF {A B:Prop} (h:B):if false=true then A else B:=by
 rw [if_neg Mu];exact h
theorem lT {A B:Prop} (h:A):if true=true then A else B:=by
 rw [if_pos rfl];exact h
def aj (H H':Hp):Prop:=∀ b o,H b=some o->H' b=some o
theorem aj.refl (H:Hp):aj H H:=fun _ _ h=>h
theorem aj.trans {H H1 H2:Hp} (a:aj H H1) (b:aj H1 H2):aj H H2:=fun c o h=>b c o (a c o h)
theorem aj.free {H H':Hp} (e:aj H H') {l:Addr} (h:H' l=Option.none):H l=Option.none:=by
 cases q:H l with
 | none=>rfl
 | some o =>
  rw [e l o q] at h;cases h
theorem aj.seq {K:LM} {H H':Hp} {a:Addr} {xs:List V} (e:aj H H') (h:SqL K H a xs):SqL K H' a xs:=by
 rcases h with (h|⟨o,h⟩)|h
 ·exact .inl (.inl (e _ _ h))
 ·exact .inl (.inr ⟨o,e _ _ h⟩)
 ·exact .inr h
def eS (env:Env):List (Str×Pe)->List (Str×Addr)->List (Str×Addr)
 | [],acc=>acc
 | (n,k) :: r,acc=>eS env r (if k == .free then (n,(env.cells.lookup n).getD 0) :: acc else acc)
theorem A3 (env:Env):∀ (l:List (Str×Pe)) (acc:List (Str×Addr)),(∀ x∈l,x.2=.free->∃ c,env.cells.lookup x.1=some c) ->
  (forIn l acc (fun x r=>if (x.snd == NP)=true then (do let c <- cellOf env x.fst;pure (O8 ((x.fst,c) :: r))) else pure (O8 r)):Sem (List (Str×Addr)))=pure (eS env l acc)
 | [],acc,_=>rfl
 | (n,k) :: r,acc,h=>by
  rw [RZ];have ih:=A3 env r;unfold eS
  by_cases hk:(k == NP)=true
  ·obtain ⟨c,hc⟩:=h (n,k) Mn (by simpa using hk)
   have e:cellOf env n=pure c:=by unfold cellOf;rw [hc]
   have hc':env.cells.lookup n=some c:=hc;dsimp only;rw [if_pos hk,if_pos hk,e,hc'];exact ih _ fun x hx=>h x (Mh _ hx)
  ·dsimp only;rw [if_neg hk,if_neg hk];exact ih _ fun x hx=>h x (Mh _ hx)
theorem xl {scope:Scope} {env:Env} (h:∀ x∈scope.names,x.2=.free->∃ c,env.cells.lookup x.1=some c):closureFor scope env=pure (eS env scope.names []):=by
 simp only [closureFor];rw [A3 env scope.names [] h];rfl
theorem uR {env:Env}:∀ (l:List (Str×Pe)) (acc:List (Str×Addr)),(∀ x∈l,x.2=.free->∃ c,env.cells.lookup x.1=some c)->(∀ x c,acc.lookup x=some c->env.cells.lookup x=some c) ->
  ∀ x c,(eS env l acc).lookup x=some c->env.cells.lookup x=some c
 | [],acc,_,ha=>ha
 | (n,k) :: r,acc,h,ha=>by
  unfold eS;refine uR r _ (fun x hx=>h x (Mh _ hx)) fun x c e=>?_
  by_cases hk:(k == NP)=true
  ·rw [if_pos hk] at e;obtain ⟨c',hc⟩:=h (n,k) Mn (by simpa using hk)
   have hc':env.cells.lookup n=some c':=hc;rw [Nk] at e
   split at e
   ·rename_i q
    have q':x=n:=by simpa using q
    subst q';rw [hc'] at e ⊢
    simpa using e
   ·exact ha x c e
  ·rw [if_neg hk] at e;exact ha x c e
theorem xX {env:Env}:∀ (l:List (Str×Pe)) (acc:List (Str×Addr)) (x:Str),(∃ c,acc.lookup x=some c)->∃ c,(eS env l acc).lookup x=some c
 | [],_,_,h=>h
 | (n,k) :: r,acc,x,h=>by
  unfold eS;refine xX r _ x ?_
  by_cases hk:(k == NP)=true
  ·rw [if_pos hk,Nk]
   split
   ·exact ⟨_,rfl⟩
   ·exact h
  ·rw [if_neg hk];exact h
theorem om {env:Env}:∀ (l:List (Str×Pe)) (acc:List (Str×Addr)) (x:Str),(x,NP)∈l->∃ c,(eS env l acc).lookup x=some c
 | (n,k) :: r,acc,x,h=>by
  unfold eS;rcases My.mp h with e|h
  ·cases e;refine xX r _ _ ?_;rw [if_pos (by rfl),Nk]
   simp
  ·exact om r _ x h
theorem oj {env:Env}:∀ {names:List (Str×Pe)} {x:Str},names.lookup x=some .free ->
  (names.map fun (n,k)=>if (k == NP && env.scope.kind == .function && env.kindOf n == some .cell) then (n,NH) else (n,k)).lookup x=some .cell \/
  (names.map fun (n,k)=>if (k == NP && env.scope.kind == .function && env.kindOf n == some .cell) then (n,NH) else (n,k)).lookup x=some .free
 | [],_,h=>by simp at h
 | (n,k) :: r,x,h=>by
  rw [MO]
  by_cases hx:(x == n)=true
  ·rw [Nk,hx] at h;dsimp only at h ⊢;cases h
   split
   ·rw [Nk,hx];exact .inl rfl
   ·rw [Nk,hx];exact .inr rfl
  ·have hx':(x == n)=false:=by simpa using hx
   rw [Nk,hx'] at h;have ih:=oj (env:=env) (names:=r) (x:=x) h;dsimp only at h ⊢
   split
   ·rw [Nk,hx'];exact ih
   ·rw [Nk,hx'];exact ih
theorem nh {env:Env}:∀ {names:List (Str×Pe)} {x:Str},
  ((names.map fun (n,k)=>if (k == NP && env.scope.kind == .function && env.kindOf n == some .cell) then (n,NH) else (n,k)).lookup x=some .cell \/
  (names.map fun (n,k)=>if (k == NP && env.scope.kind == .function && env.kindOf n == some .cell) then (n,NH) else (n,k)).lookup x=some .free) ->
  (x,NP)∈names\/(x,NH)∈names
 | [],_,h=>by simp at h
 | (n,k) :: r,x,h=>by
  rw [MO] at h
  by_cases hx:(x == n)=true
  ·have q':x=n:=by simpa using hx
   dsimp only at h
   split at h
   ·rename_i hc
    have:k=NP:=by
     cases k <;> simp_all
    subst this q';exact .inl Mn
   ·rw [Nk,hx] at h;dsimp only at h;subst q';rcases h with h|h
    ·cases h;exact .inr Mn
    ·cases h;exact .inl Mn
  ·have hx':(x == n)=false:=by simpa using hx
   have ih:=nh (env:=env) (names:=r) (x:=x);dsimp only at h
   split at h
   ·rw [Nk,hx'] at h;exact (ih h).elim (fun z=>.inl (Mh _ z)) fun z=>.inr (Mh _ z)
   ·rw [Nk,hx'] at h;exact (ih h).elim (fun z=>.inl (Mh _ z)) fun z=>.inr (Mh _ z)
def j6 (own:List Str) (fr:List Nat) (N:List Str):List Str:=own++fr.map fun i=>(N[i]?).getD ("" : Str)
def bW (own:List Str) (fr:List Nat) (σ:St):St:=own.map (fun _=>none)++fr.map fun i=>(σ[i]?).join
def dk (X:Cx) (scope:Scope) (own:List Str) (fr:List Nat) (C:Addr) (s₂:LU) (H₂:Hp) (fp:List Addr):Cx :=
 { X with N:=j6 own fr X.N,s₀:=s₂,H₀:=H₂,env:=compEnvC scope (eS X.env scope.names []) C X.env,outer:=X.stack,ex:=fp,fn:=fun _=>false,pn:=[],xe:=fun _ _=>False }
structure bu (sc:Scope) (N:List Str) (scope:Scope) (own:List Str) (fr:List Nat):Prop where
 kind:scope.kind=.function
 FR:∀ y∈scope.names,y.2≠.cell
 names:∀ y∈scope.names,y.2=.local->scope.names.lookup y.1=some .local
 free:∀ y∈scope.names,y.2=.free->sc.names.lookup y.1=some .cell\/sc.names.lookup y.1=some .free
 fr0:∀ i∈fr,(N[i]?.bind fun x=>scope.names.lookup x)=some .free
 nd:(j6 own fr N).Nodup
theorem bu.fr {sc:Scope} {N:List Str} {scope:Scope} {own:List Str} {fr:List Nat} (S:bu sc N scope own fr):∀ i∈fr,∃ x,N[i]?=some x/\scope.names.lookup x=some .free:=fun i hi=>by
 have q:=S.fr0 i hi;cases e:N[i]? with
 | none=>rw [e] at q;cases q
 | some x=>rw [e] at q;exact ⟨x,rfl,q⟩
section
variable {X:Cx} {scope:Scope} {own:List Str} {fr:List Nat} {pins:List (Addr×Obj)} {σ:St} {H₂:Hp} {s₂:LU} {fp:List Addr} {C D:Addr} {h₁:Heap} {m:Str->Option Value} {tk:Nat}
theorem bu.cells (S:bu X.env.scope X.N scope own fr) (ok:X.Ok):∀ x∈scope.names,x.2=.free->∃ c,X.env.cells.lookup x.1=some c:=fun x hx hf=>ok.has x.1 (S.free x hx hf)
theorem wB {i:Nat} {v:V} (h:(bW own fr σ)[i]?=some (some v)):∃ j,own.length<=i/\fr[i - own.length]?=some j/\σ[j]?=some (some v):=by
 unfold bW at h
 by_cases hi:i<own.length
 ·rw [MP (by simpa using hi),Mf] at h
  cases e:own[i]? with
  | none=>rw [e] at h;cases h
  | some a=>rw [e] at h;cases h
 ·rw [MM (by simpa using hi),Mf,LO] at h
  cases e:fr[i - own.length]? with
  | none=>rw [e] at h;cases h
  | some j =>
   rw [e] at h;refine ⟨j,by omega,rfl,?_⟩
   have h':(σ[j]?).join=some v:=by simpa using h
   cases q:σ[j]? with
   | none=>rw [q] at h';cases h'
   | some o=>rw [q] at h';exact congrArg some h'
theorem Gn (S:bu X.env.scope X.N scope own fr) (I:Inv X pins σ H₂ s₂) (f2:∀ b∈fp,lD X pins H₂ b) (fo:∀ b∈fp,b<s₂.heap.objs.size)
  (hC:s₂.heap.objs.size<=C) (hD:s₂.heap.objs.size<=D) (hDC:D≠C) (old:∀ b o,s₂.heap.get? b=some o->h₁.get? b=some o) (hns:h₁.Ns C m) (new:∃ n,h₁.get? D=some { cls:=.type "list",data:=.seq #[] n }) :
  Inv (dk X scope own fr C s₂ H₂ fp) [] (bW own fr σ) (upd H₂ D (.lst [])) { s₂ with heap:=h₁,toks:=tk }:=by
 have hk:=S.cells I.ok;have sub:=uR (env:=X.env) scope.names [] hk (fun x c e=>by cases e)
 have fl:∀ x c,(eS X.env scope.names []).lookup x=some c->∃ v,s₂.heap.IsCell c v:=fun x c e=>I.cell x c (sub x c e);have okX:(dk X scope own fr C s₂ H₂ fp).Ok:=by
  refine ⟨I.ok.mod,S.kind,I.ok.glob,I.ok.blt,hC,fun x y c e1 e2=>I.ok.inj x y c (sub x c e1) (sub y c e2),fun x hx=>?_,fun x c hf=>absurd hf (by intro z;cases z),I.ok.hd,I.ok.frames,.inl rfl,fun b hb=>⟨?_,fun x c e z=>?_⟩,
   I.bs,Na I.ok.bsz I.sz,fun b o e hb=>?_,fun b hb=>?_,I.stack,I.wW⟩
  ·rcases nh hx with z|z
   ·exact om _ _ _ z
   ·exact absurd rfl (S.FR _ z)
  ·exact Mp (Ml (fo b hb) hC)
  ·exact (f2 b hb).2.2.2.2.1 x c (sub x c e) z
  ·obtain ⟨_,_,_,f3,_⟩:=f2 b hb;rcases f3 with z|z
   ·exact I.ok.u5 b o e z
   ·exact absurd (Ml (Me (I.ok.bs b o e).1) z) (NG _)
  ·obtain ⟨_,f1,f2',_⟩:=f2 b hb;intro z;rcases My.mp (I.sZ b z) with q|q
   ·exact f1 q
   ·exact f2' q
 have frH:∀ a,s₂.heap.objs.size<=a->H₂ a=none:=fun a h=>I.hok.fresh h;refine ⟨okX,rfl,I.bare,Un.laid old hD (frH D hD),⟨m,hns,fun i x v e1 e2 e3=>?_⟩,fun x c e=>?_,?_,fun x c e=>?_,fun p hp=>absurd (show p∈([]:List (Addr×Obj)) from hp) (by simp),I.hok.laid old hD ?_,?_⟩
 ·obtain ⟨j,hi,hj,hv⟩:=wB e2;have hx:X.N[j]?=some x:=by
   obtain ⟨y,hy,_⟩:=S.fr j (LR hj);have e1':(j6 own fr X.N)[i]?=some x:=e1;unfold j6 at e1';rw [MM hi,Mf,hj] at e1';have e1'':(X.N[j]?).getD ("" : Str)=x:=by simpa using e1'
   rw [hy] at e1'' ⊢;exact congrArg some e1''
  obtain ⟨y,hy,hfree⟩:=S.fr j (LR hj);rw [hx] at hy;cases hy;have hkind:X.env.kindOf x=some .cell\/X.env.kindOf x=some .free:=S.free _ (M0 hfree) rfl;obtain ⟨mo,hno,hlo⟩:=I.loc;obtain ⟨u,r,l⟩:=hlo j x v hx hv (hkind.elim (fun z=>.inr (.inl z)) fun z=>.inr (.inr z));refine ⟨u,r,.inr ⟨oj hfree,?_⟩⟩;obtain ⟨c,hc⟩:=om (env:=X.env) scope.names [] x (M0 hfree);refine ⟨c,hc,?_⟩;have hc':=sub x c hc;rcases l with ⟨k,_⟩|⟨_,c',e,o,z1,z2⟩
  ·rcases hkind with z|z
   ·rw [k] at z;cases z
   ·rw [k] at z;cases z
  ·rw [hc'] at e;cases e;exact ⟨o,old _ _ z1,z2⟩
 ·obtain ⟨v,o,z1,z2⟩:=fl x c e;exact ⟨v,o,old _ _ z1,z2⟩
 ·show (upd H₂ D (.lst [])) C=none;rw [aq (NV hDC)];exact frH C hC
 ·obtain ⟨v,o,z1,z2⟩:=fl x c e;rw [aq (Mp (Ml (Me z1) hD))];exact I.fC x c (sub x c e)
 ·obtain ⟨n,e⟩:=new;exact ⟨Nd _,[],n,.nil,e⟩
 ·show (bW own fr σ).length=(j6 own fr X.N).length;simp [bW,j6]
end
def PIf (X:Cx) (ifs:List Expr) (t:TT):Prop :=
 ∀ (pins:List (Addr×Obj)) (s:LU) (σ:St) (H:Hp) (Q:Bool->Hp->Prop),Inv X pins σ H s->t σ H Q ->
  wpAny (model X.prog X.w) X.A (forIn ifs true fun c r=>if r=true then (do let ok <- isTrue c X.env (eval c X.env);pure (O8 ok)) else pure (O8 r)) (TP X pins σ Q) X.xe s
def w5:TT:=fun _ H Q=>Q true H
theorem bj {X:Cx}:PIf X [] w5:=fun _ _ _ H _ I h=>wpAny_tests_nil ⟨H,I,h⟩
theorem Cv {X:Cx} {c:Expr} {t:TT} (h:PT X c t):PIf X [c] t:=fun pins s σ H Q I hw=>wpAny_tests_one (h pins s σ H Q I hw)
section
variable {prog:Ms} {w:World} {A:MY} {R:QZ->LU->Prop} {s:LU}
theorem xZ {elt target iter:Expr} {ifs:List Expr} {scope:Scope} {pos:Pos} {it acc:Value} {env:Env} (J:Nat->LU->Prop)
  (turn:∀ n s,J n s->wpAny (model prog w) A (pyNext it) (fun r s₁=>match r with
   | none=>R (.ok .next) s₁
   | some v=>wpAny (model prog w) A (letOwnedTupleGo target it v) (fun _ s₂=>wpAny (model prog w) A (assign target env v) (fun _ s₃ =>
     wpAny (model prog w) A (forIn ifs true fun c r=>if r=true then (do let ok <- isTrue c env (eval c env);pure (O8 ok)) else pure (O8 r)) (fun ok s₄ =>
      if ok=true then wpAny (model prog w) A (eval elt env) (fun x s₅=>wpAny (model prog w) A (call (.builtin "list.append") [acc,x]) (fun _ s₆=>∃ m,m<n/\J m s₆) (fun _ _=>False) s₅) (fun _ _=>False) s₄
      else ∃ m,m<n/\J m s₄) (fun _ _=>False) s₃) (fun _ _=>False) s₂) (fun _ _=>False) s₁) (fun _ _=>False) s)
  (n:Nat) (h:J n s):codeAny (model prog w) A (.compLoop (.ListComp elt [⟨target,iter,ifs,0⟩] scope pos) 0 it acc env) R s:=by
 refine codeAny_loop rfl J (fun n s hJ=>?_) n h;show wpAny _ A ((compTurn (.ListComp elt [⟨target,iter,ifs,0⟩] scope pos) 0 it acc env).onRaise (fun x=>(do noteFrame x env;theTreesLotGoes x))) _ _ s;have nf:∀ {x:Value} {s':LU},False->notedBy (model prog w) A env (fun e s'=>R (.error e) s') x s':=fun z=>z.elim;refine wpAny_noted ?_;rw [compTurn_list];refine LN (PF (LN (Nj (turn n s hJ) (fun r s₁ h₁=>?_) fun _ _ z=>nf z)));cases r with
 | none=>exact Mb h₁
 | some v =>
  refine LN (Nj h₁ (fun _ s₂ h₂=>?_) fun _ _ z=>nf z);refine LN (Nj h₂ (fun _ s₃ h₃=>?_) fun _ _ z=>nf z);refine LN (Nj h₃ (fun ok s₄ h₄=>?_) fun _ _ z=>nf z);cases ok with
  | false=>exact Mb ⟨rfl,h₄⟩
  | true =>
   refine LN (LN (Nj h₄ (fun x s₅ h₅=>?_) fun _ _ z=>nf z));exact LN (Nj h₅ (fun _ s₆ h₆=>Mb (Mb ⟨rfl,h₆⟩)) fun _ _ z=>nf z)
end
def qD (own:List Str) (fr:List Nat) (wi:TI) (g:TG) (tt:TT) (te:TE):TE:=fun σ H Q=>wi σ H fun J H1=>∀ D,H1 D=none ->
 ∃ W:Nat->Nat->St->Hp->Prop,(∃ m,W 0 m (bW own fr σ) (upd H1 D (.lst [])))/\∀ i m σ' H',W i m σ' H' ->
  (J.stop i H'/\Q (.ref D) H')\/(J.go i H'/\∀ x H2,J.yld i H' x H2->g x σ' H2 fun σ2 H3=>tt σ2 H3 fun ok H4 =>
   if ok=true then te σ2 H4 fun y H5=>∃ ys,H5 D=some (.lst ys)/\ys.length<MB/\∃ m',m' < m/\W (i+1) m' σ2 (upd H5 D (.lst (ys++[y]))) else ∃ m',m' < m/\W (i+1) m' σ2 H4)
section
variable {X:Cx} {elt tg iter:Expr} {ifs:List Expr} {scope:Scope} {pos:Pos} {own:List Str} {fr:List Nat} {wi:TI} {g:TG} {tt:TT} {te:TE}
theorem yb {pins:List (Addr×Obj)} {s:LU} {σ:St} {H:Hp} {Q:VK} {RR:Value->Addr->QZ->LU->Prop} (hc:X.calm=true) (S:bu X.env.scope X.N scope own fr) (hi:PI X tg iter wi)
  (hb:∀ C s₂ H₂ fp,PG (dk X scope own fr C s₂ H₂ fp) tg g/\PIf (dk X scope own fr C s₂ H₂ fp) ifs tt/\PE (dk X scope own fr C s₂ H₂ fp) elt te)
  (I:Inv X pins σ H s) (h:qD own fr wi g tt te σ H Q)
  (hRR:∀ D C s' H' m',Inv X pins σ H' s'->Q (.ref D) H'->lD X pins H' C->s'.heap.Ns C m'->RR (.ref D) C (.ok .next) s') :
  wpAny (model X.prog X.w) X.A (eval iter X.env) (fun v s₁=>wpAny (model X.prog X.w) X.A (pyIter v) (fun it s₂=>wpAny (model X.prog X.w) X.A (newList []) (fun acc s₃ =>
   wpAny (model X.prog X.w) X.A (newFunctionEnv scope X.env.globals (eS X.env scope.names []) [] X.env.qual none .none (some X.env)) (fun cenv s₄ =>
    codeAny (model X.prog X.w) X.A (.compStart (.ListComp elt [⟨tg,iter,ifs,0⟩] scope pos) 0 it acc { cenv with scope:=relabel scope X.env }) (RR acc cenv.locals) s₄) X.xe s₃) X.xe s₂) X.xe s₁) X.xe s:=by
 refine thn (hi pins s σ H _ I h) fun v s1 h1=>thn h1 fun itv s2 h2=>?_;obtain ⟨it,fp,tn,J,H2,e,I2,T,st2,f2,hq⟩:=h2;subst e;refine N9 (wpAny_newFunctionEnv S.FR (by intro y hy;simp at hy) (fun h₁ hns₁ hsb₁=>?_) S.kind)
 dsimp only at hns₁ hsb₁ ⊢;have hD:=I2.hok.fresh (Mi s2.heap.objs.size);obtain ⟨W,⟨m0,w0⟩,turn⟩:=hq s2.heap.objs.size hD;generalize hH2:s2.heap.push { cls:=.type "list",dict:=none,data:=.seq ([]:List Value).toArray }=G at hns₁ hsb₁ ⊢;have hG:G.objs.size=s2.heap.objs.size+1:=by rw [<- hH2,NW]
 have hDC:s2.heap.objs.size≠G.objs.size:=by rw [hG];exact Mp (Oi _)
 have hC:s2.heap.objs.size<=G.objs.size:=by rw [hG];exact OL _
 have old:∀ b o,s2.heap.get? b=some o->h₁.get? b=some o:=fun b o e =>
  hsb₁.extBut b o (by rw [hG];exact Mp (Oa (Me e))) (LV _ (hH2 ▸ LV _ e))
 have new:h₁.get? s2.heap.objs.size=some { cls:=.type "list",data:=.seq #[] 0 }:=hsb₁.extBut _ _ hDC (LV _ (hH2 ▸ Mx _ rfl));have fo:∀ b∈fp,b<s2.heap.objs.size:=fun b hb'=>let ⟨o,e,_⟩:=T.obj 0 _ st2 b hb';Me e;have I4:Inv (dk X scope own fr G.objs.size s2 H2 fp) [] (bW own fr σ) (upd H2 s2.heap.objs.size (.lst [])) { s2 with heap:=h₁,toks:=s2.toks+([]:List (Str×Value)).length } :=
  Gn S I2 f2 fo hC (Mi _) hDC old hns₁ ⟨_,new⟩
 obtain ⟨hg,ht,he⟩:=hb G.objs.size s2 H2 fp;have fpX:∀ {H':Hp},(∀ b∈fp,H' b=none)->∀ b∈fp,lD (dk X scope own fr G.objs.size s2 H2 fp) [] H' b:=fun {H'} hn b hb'=>by
  refine ⟨hn b hb',Mp (Ml (fo b hb') hC),I4.ok.sM b hb',.inl hb',(I4.ok.exf b hb').2,fun p hp=>absurd (show p∈([]:List (Addr×Obj)) from hp) (by simp)⟩
 have fr0:∀ b∈fp,(upd H2 s2.heap.objs.size (.lst [])) b=none:=fun b hb'=>by
  rw [aq (Mp (fo b hb'))];exact (f2 b hb').1
 have tn0:tn 0 h₁:=T.keep _ _ _ st2 fun b hb' o e=>old b o e;have loop:codeAny (model X.prog X.w) X.A (.compLoop (.ListComp elt [⟨tg,iter,ifs,0⟩] scope pos) 0 (.ref it) (.ref s2.heap.objs.size) (compEnvC scope (eS X.env scope.names []) G.objs.size X.env))
   (RR (.ref s2.heap.objs.size) G.objs.size) { s2 with heap:=h₁,toks:=s2.toks+([]:List (Str×Value)).length }:=by
  refine xZ (fun n s'=>∃ i σ' H',Inv (dk X scope own fr G.objs.size s2 H2 fp) [] σ' H' s'/\tn i s'.heap/\(∀ b∈fp,H' b=none)/\W i n σ' H') ?_ m0 ⟨0,_,_,I4,tn0,fr0,w0⟩;rintro n s3 ⟨i,σ3,H3,I3,st3,fr3,w3⟩;have nfp:∀ {H':Hp} {s':LU} {σ':St} {pl:List (Addr×Obj)},Inv (dk X scope own fr G.objs.size s2 H2 fp) pl σ' H' s'->pl=mQ fp s'.heap->True:=fun _ _=>trivial;rcases turn i n σ3 H3 w3 with ⟨stop,qn⟩|⟨go,step⟩
  ·refine thn (T.done (dk X scope own fr G.objs.size s2 H2 fp) rfl rfl rfl hc i [] s3 σ3 H3 (fun _ _=>False) I3 (fpX fr3) st3 stop) fun r s4 ⟨hr,I5⟩=>?_;subst hr;have IX:Inv X pins σ H3 s4:=I2.Dv (ch:=fp) I5.os I5.base I5.hok I5.bare fun b hb'=>let ⟨_,f1,_,f3,f4,f5⟩:=f2 b hb';⟨f3,f1,f4,f5⟩;obtain ⟨m',hn',_⟩:=I5.loc;exact hRR _ _ _ _ m' IX qn (I2.uJ hC I5.free) hn'
  ·refine thn (T.item (dk X scope own fr G.objs.size s2 H2 fp) rfl rfl rfl hc i [] s3 σ3 H3 (fun _ _=>False) I3 (fpX fr3) st3 go) fun r s4 ⟨u,hr,h4⟩=>?_;subst hr;refine thn h4 fun _ s5 ⟨x,H5,I5,r5,y5,st5,fr5⟩=>?_;have I5':=I5.pinned (fpX fr5) (T.obj _ _ st5);refine thn (hg _ s5 σ3 H5 x u _ I5' r5 (step x H5 y5)) fun _ s6 ⟨σ6,H6,I6,q6⟩=>?_;have again:∀ {s7:LU} {σ7:St} {H7:Hp} {m':Nat},Inv (dk X scope own fr G.objs.size s2 H2 fp) ([]++mQ fp s5.heap) σ7 H7 s7->m' < n->W (i+1) m' σ7 H7 ->
     ∃ m,m<n/\∃ i σ' H',Inv (dk X scope own fr G.objs.size s2 H2 fp) [] σ' H' s7/\tn i s7.heap/\(∀ b∈fp,H' b=none)/\W i m σ' H':=fun {s7 σ7 H7 m'} I7 hm w7=>by
    refine ⟨m',hm,i+1,σ7,H7,I7.ou,T.keep _ _ _ st5 fun b hb' o e=>(I7.pin (b,o) (MN _ (MN _ (jL hb' e)))).1,fun b hb'=>?_,w7⟩;obtain ⟨o,e,d⟩:=T.obj _ _ st5 b hb';exact (I7.pin (b,o) (MN _ (MN _ (jL hb' e)))).2.1
   refine thn (ht _ s6 σ6 H6 _ I6 q6) fun ok s7 ⟨H7,I7,q7⟩=>?_;cases ok with
   | false =>
    rw [if_neg Mu] at q7 ⊢;obtain ⟨m',hm,w7⟩:=q7;exact again I7 hm w7
   | true =>
    rw [if_pos rfl] at q7 ⊢;refine thn (he _ s7 σ6 H7 _ I7 q7) fun y s8 ⟨yv,H8,I8,r8,q8⟩=>?_;obtain ⟨ys,hy,hl,m',hm,w8⟩:=q8;refine thn (dE _ s8 σ6 H8 (.ref s2.heap.objs.size) [yv] _ [y] (fun _ H9=>H9=upd H8 s2.heap.objs.size (.lst (ys++[yv]))) I8 rfl (.cons r8 .nil) ⟨_,ys,yv,rfl,rfl,hy,hl,rfl⟩) fun _ s9 ⟨_,H9,I9,_,e9⟩=>?_;subst e9;exact again I9 hm w8
 exact RJ loop (T.self X.A 0 _ _ _ tn0 loop)
theorem bJ (hc:X.calm=true) (S:bu X.env.scope X.N scope own fr) (hi:PI X tg iter wi)
  (hb:∀ C s₂ H₂ fp,PG (dk X scope own fr C s₂ H₂ fp) tg g/\PIf (dk X scope own fr C s₂ H₂ fp) ifs tt/\PE (dk X scope own fr C s₂ H₂ fp) elt te)
  (hs:∀ x,foldedSetIterable iter X.env x=pure x:=by intro _;rfl):PE X (.ListComp elt [⟨tg,iter,ifs,0⟩] scope pos) (qD own fr wi g tt te):=by
 intro pins s σ H Q I h;rw [eval_ListComp];refine PB (use:=none) rfl hs (xl (S.cells I.ok)) S.kind S.names ?_;refine yb (RR:=fun acc C=>compPost (model X.prog X.w) X.A X.xe none (EP X pins σ Q) acc C) hc S hi hb I h ?_;intro D C s' H' m' I' q f hn;obtain ⟨f0,f1,f2,f3,f4,f5⟩:=f;exact ⟨m',hn,fun h' sb=>⟨.ref D,H',I'.turned (t':=s'.toks) (fun b o hb e=>(sb.2 b hb).trans e) f0 f1 f3 f4 f5,rfl,q⟩⟩
theorem eR {i:Nat} {y:Str} {py lY:Pos} (hc:X.calm=true) (hN:X.N.Nodup) (hi':X.N[i]?=some y) (hy:Loc X.env.scope y) (S:bu X.env.scope X.N scope own fr) (hi:PI X tg iter wi)
  (hb:∀ C s₂ H₂ fp,PG (dk X scope own fr C s₂ H₂ fp) tg g/\PIf (dk X scope own fr C s₂ H₂ fp) ifs tt/\PE (dk X scope own fr C s₂ H₂ fp) elt te)
  (hsw:swapsWith (.ListComp elt [⟨tg,iter,ifs,0⟩] scope pos) (some (.Name y py)) lY.line X.env=pure true)
  (hs:∀ x,foldedSetIterable iter X.env x=pure x:=by intro _;rfl) (hf:X.fn y=true\/X.env.scope.names.lookup y=some .local:=by first|exact .inl rfl|exact .inr rfl|assumption) :
  PS X (.Assign [.Name y py] (.ListComp elt [⟨tg,iter,ifs,0⟩] scope pos) lY) (Dm (qD own fr wi g tt te) (gj i)):=by
 intro pins s σ H D I h;rw [exec_Assign_Name_used _ _ _ _ hsw];refine LN (PF (LN ?_));show wpAny _ X.A (do let _ <- comprehension (.ListComp elt [⟨tg,iter,ifs,0⟩] scope pos) scope X.env _ (newList []) false (eval iter X.env) (some (assign (.Name y py) X.env))) _ _ s;refine LN (Nj (PB (use:=some (assign (.Name y py) X.env)) (Q:=fun _ s'=>SP X pins D .next s') rfl hs (xl (S.cells I.ok)) S.kind S.names ?_) (fun _ s' hq=>Mb (Mb hq)) fun _ _ e=>e);refine yb (RR:=fun acc C=>compPost (model X.prog X.w) X.A X.xe (some (assign (.Name y py) X.env)) (fun _ s'=>SP X pins D .next s') acc C) hc S hi hb I h ?_;intro D' C s' H' m' I' q f hn;show wpAny _ _ (assign (.Name y py) X.env (.ref D')) _ _ _;refine wpAny_assign_Name (yq I' hN hi' hy (v:=.ref D') rfl (fun s2 I2 ⟨a,sb,ha⟩=>?_) hf);obtain ⟨f0,f1,f2,f3,f4,f5⟩:=f;have hCa:C≠a:=by
  rcases ha with e|e
  ·rw [e];exact f1
  ·exact fun z=>f4 y a e z.symm
 refine ⟨m',hn.sameBut sb hCa,fun h' sb'=>?_⟩;exact ⟨_,H',I2.turned (t':=s2.toks) (fun b o hb e=>(sb'.2 b hb).trans e) f0 f1 f3 f4 f5,q⟩
end
class Rep (α:Type) where
 is:LM->Hp->V->α->Prop
 mono:∀ {K:LM} {H H':Hp} {v:V} {a:α},aj H H'->is K H v a->is K H' v a
instance:Rep Int:=⟨fun _ _ v a=>v=.int a,fun _ h=>h⟩
instance:Rep Nat:=⟨fun _ _ v a=>v=.int (a:Int),fun _ h=>h⟩
instance:Rep Bool:=⟨fun _ _ v a=>v=.bl a,fun _ h=>h⟩
theorem Paired.get {α β:Type} {F:α->β->Prop}:∀ {l₁:List α} {l₂:List β} {i:Nat} {b:β},Nt F l₁ l₂->l₂[i]?=some b->∃ a,l₁[i]?=some a/\F a b
 | _,_,_,_,.nil,e=>by simp at e
 | _,_,0,_,.cons r _,e=>by simp at e;subst e;exact ⟨_,rfl,r⟩
 | _,_,i+1,b,.cons _ t,e=>by
  obtain ⟨a,h1,h2⟩:=Paired.get (i:=i) (b:=b) t (by simpa using e)
  exact ⟨a,by simpa using h1,h2⟩
theorem Paired.getL {α β:Type} {F:α->β->Prop}:∀ {l₁:List α} {l₂:List β} {i:Nat} {a:α},Nt F l₁ l₂->l₁[i]?=some a->∃ b,l₂[i]?=some b/\F a b
 | _,_,_,_,.nil,e=>by simp at e
 | _,_,0,_,.cons r _,e=>by simp at e;subst e;exact ⟨_,rfl,r⟩
 | _,_,i+1,b,.cons _ t,e=>by
  obtain ⟨a,h1,h2⟩:=Paired.getL (i:=i) (a:=b) t (by simpa using e)
  exact ⟨a,by simpa using h1,h2⟩
theorem Paired.app {α β:Type} {F:α->β->Prop}:∀ {l₁ l₃:List α} {l₂ l₄:List β},Nt F l₁ l₂->Nt F l₃ l₄->Nt F (l₁++l₃) (l₂++l₄)
 | _,_,_,_,.nil,s=>s
 | _,_,_,_,.cons r t,s=>.cons r (Paired.app t s)
theorem Paired.zm {α β:Type} {F:α->β->Prop}:∀ {l₁:List α} {l₂:List β} (n:Nat),Nt F l₁ l₂->Nt F (l₁.take n) (l₂.take n)
 | _,_,0,_=>.nil
 | _,_,_+1,.nil=>.nil
 | _,_,n+1,.cons r t=>.cons r (Paired.zm n t)
theorem Paired.y6 {α β:Type} {F:α->β->Prop}:∀ {l₁:List α} {l₂:List β} (n:Nat),Nt F l₁ l₂->Nt F (l₁.drop n) (l₂.drop n)
 | _,_,0,r=>r
 | _,_,_+1,.nil=>.nil
 | _,_,n+1,.cons _ t=>Paired.y6 n t
theorem Paired.of_map {α β γ:Type} {F:α->β->Prop} {f:γ->α} {g:γ->β} (h:∀ c,F (f c) (g c)):∀ l:List γ,Nt F (l.map f) (l.map g)
 | []=>.nil
 | c :: r=>.cons (h c) (Paired.of_map h r)
instance {α:Type} [Rep α]:Rep (List α) :=
 ⟨fun K H v l=>∃ p xs,v=.ref p/\SqL K H p xs/\Nt (Rep.is K H) xs l,fun e ⟨p,xs,h1,h2,h3⟩=>⟨p,xs,h1,e.seq h2,Paired.dY h3 fun _ _ q=>Rep.mono e q⟩⟩
theorem aj.tup {K:LM} {H H':Hp} {a:Addr} {xs:List V} (e:aj H H') (h:SqT K H a xs):SqT K H' a xs:=by
 rcases h with (h|⟨o,h⟩)|h
 ·exact .inl (.inl (e _ _ h))
 ·exact .inl (.inr ⟨o,e _ _ h⟩)
 ·exact .inr h
instance {α β:Type} [Rep α] [Rep β]:Rep (α×β) :=
 ⟨fun K H v l=>∃ p x y,v=.ref p/\SqT K H p [x,y]/\Rep.is K H x l.1/\Rep.is K H y l.2,fun e ⟨p,x,y,h1,h2,h3,h4⟩=>⟨p,x,y,h1,e.tup h2,Rep.mono e h3,Rep.mono e h4⟩⟩
abbrev At {α:Type} [Rep α] (K:LM) (H:Hp) (v:V) (a:α):Prop:=Rep.is K H v a
theorem fH {K:LM} {H:Hp} {p:Addr} {ns:List Int} (h:SqL K H p (ns.map V.int)):At K H (.ref p) ns:=⟨p,_,rfl,h,by
 have q:=Paired.of_map (F:=fun (v:V) (a:Int)=>v=.int a) (f:=V.int) (g:=id) (fun _=>rfl) ns;rw [Qu] at q;exact q⟩
theorem lZ {K:LM} {H:Hp} {v:V} {ns:List Nat} (h:At K H v ns):∃ p,v=.ref p/\SqL K H p (ns.map fun (n:Nat)=>V.int (n:Int)):=by
 obtain ⟨p,xs,rfl,hS,hP⟩:=h;refine ⟨p,rfl,?_⟩;have e:xs=ns.map fun (n:Nat)=>V.int (n:Int):=by
  clear hS
  induction hP with
  | nil=>rfl
  | cons r _ ih=>rw [MO,<- ih];exact congrArg (· :: _) r
 rw [<- e];exact hS
theorem At.item {α:Type} [Rep α] {K:LM} {H:Hp} {v:V} {l:List α} {i:Nat} {a:α} (h:At K H v l) (e:l[i]?=some a):∃ p xs x,v=.ref p/\SqL K H p xs/\atI xs (i:Int)=some x/\At K H x a:=by
 obtain ⟨p,xs,rfl,hS,hP⟩:=h;obtain ⟨x,hx,r⟩:=Paired.get hP e;exact ⟨p,xs,x,rfl,hS,qy hx,r⟩
theorem At.len {α:Type} [Rep α] {K:LM} {H:Hp} {v:V} {l:List α} (h:At K H v l):∃ p xs,v=.ref p/\SqL K H p xs/\xs.length=l.length:=by
 obtain ⟨p,xs,rfl,hS,hP⟩:=h;exact ⟨p,xs,rfl,hS,hP.length⟩
class bQ (α:Type) [Rep α] [DecidableEq α] where
 depth:Nat
 inj:∀ {X:Cx} {pins:List (Addr×Obj)} {σ:St} {H:Hp} {s:LU} {x:V} {a b:α},Inv X pins σ H s->At X.K H x a->At X.K H x b->a=b
 eq:∀ {X:Cx} {pins:List (Addr×Obj)} {σ:St} {H:Hp} {s:LU} {A:MY} {x y:V} {u v:Value} {a b:α},Inv X pins σ H s->At X.K H x a->At X.K H y b->RelV x u->RelV y v->A.units+depth<cLine ->
  SY A s u v (decide (a=b))
instance:bQ Int where
 depth:=0
 inj:=fun _ h h'=>by cases h;cases h';rfl
 eq:=fun {X pins σ H s A x y u v a b} _ hx hy ru rv _=>by
  cases hx;cases hy;have q:=rS (A:=A) (s:=s) ru rv rfl rfl;have e:eqV (.int a) (.int b)=decide (a=b):=rfl;rw [e] at q;exact q
instance:bQ Nat where
 depth:=0
 inj:=fun _ h h'=>by
  have q:=(show _=V.int _ from h).symm.trans (show _=V.int _ from h');injection q with q;exact Ro q
 eq:=fun {X pins σ H s A x y u v a b} _ hx hy ru rv _=>by
  cases hx;cases hy;have q:=rS (A:=A) (s:=s) ru rv rfl rfl;have e:eqV (.int (a:Int)) (.int (b:Int))=decide (a=b):=by
   show decide ((a:Int)=(b:Int))=decide (a=b);exact decide_eq_decide.mpr Int.ofNat_inj
  rw [e] at q;exact q
theorem G8 {A:MY} {n:Nat} (h:A.units+(n+1)<cLine):A.in1.units+n<cLine:=by
 show A.units+1+n<cLine;omega
theorem qP {X:Cx} {pins:List (Addr×Obj)} {σ:St} {H:Hp} {s:LU} {α:Type} [Rep α] [DecidableEq α] [bQ α] (I:Inv X pins σ H s) :
  ∀ {xs:List V} {as bs:List α},Nt (Rep.is X.K H) xs as->Nt (Rep.is X.K H) xs bs->as=bs
 | _,_,_,.nil,.nil=>rfl
 | _,_,_,.cons r t,.cons r' t'=>by rw [bQ.inj I r r',qP I t t']
theorem range_all {α:Type} [DecidableEq α]:∀ (as bs:List α),as.length=bs.length->((L4 as.length).all fun j=>decide (as[j]?=bs[j]?))=decide (as=bs):=by
 intro as bs hl;rw [NX];simp only [MA,Mj,decide_eq_true_eq];constructor
 ·intro h;refine Q6 fun i=>?_
  by_cases hi:i<as.length
  ·exact h i hi
  ·rw [ND (by omega),ND (by omega)]
 ·intro h i _;rw [h]
theorem wR {X:Cx} {pins:List (Addr×Obj)} {σ:St} {H:Hp} {s:LU} {A:MY} {α:Type} [Rep α] [DecidableEq α] [bQ α] {p q:Addr} {xs ys:List V} {as bs:List α}
  (I:Inv X pins σ H s) (h1:SqL X.K H p xs) (r1:Nt (Rep.is X.K H) xs as) (h2:SqL X.K H q ys) (r2:Nt (Rep.is X.K H) ys bs) (hu:A.units+(bQ.depth α+1)<cLine) (hl:as.length=bs.length) :
  ∃ its its2:List Value,s.heap.IsList p its.toArray/\s.heap.IsList q its2.toArray/\its.toArray.size=its2.toArray.size/\its.toArray.size=as.length /\
   ∀ j (h1:j<its.toArray.size) (h2:j<its2.toArray.size),SY A.in1 s its.toArray[j] its2.toArray[j] (decide (as[j]?=bs[j]?)):=by
 obtain ⟨its,v1,p1,_⟩:=I.list h1;obtain ⟨its2,v2,p2,_⟩:=I.list h2;have e1:=v1.length;have e2:=v2.length;have e3:=r1.length;have e4:=r2.length;refine ⟨its,its2,p1.isList,p2.isList,by simp;omega,by simp;omega,fun j h1 h2=>?_⟩
 have h1':j<its.length:=by simpa using h1
 have h2':j<its2.length:=by simpa using h2
 have hx:j<xs.length:=by omega
 have hy:j<ys.length:=by omega
 obtain ⟨u,hu1,ru⟩:=v1.get (i:=j) (x:=xs[j]) (by simp [hx])
 obtain ⟨v,hv1,rv⟩:=v2.get (i:=j) (x:=ys[j]) (by simp [hy])
 obtain ⟨a,ha,ra⟩:=Paired.getL r1 (i:=j) (a:=xs[j]) (by simp [hx])
 obtain ⟨b,hb,rb⟩:=Paired.getL r2 (i:=j) (a:=ys[j]) (by simp [hy])
 have eu:its.toArray[j]=u:=by
  have:its[j]?=some its[j]:=by simp [h1']
  rw [this] at hu1
  simpa using hu1
 have ev:its2.toArray[j]=v:=by
  have:its2[j]?=some its2[j]:=by simp [h2']
  rw [this] at hv1
  simpa using hv1
 rw [eu,ev,ha,hb];have z:=bQ.eq (A:=A.in1) I ra rb ru rv (G8 hu);have e:decide (some a=some b)=decide (a=b):=by simp
 rw [e];exact z
instance {α:Type} [Rep α] [DecidableEq α] [bQ α]:bQ (List α) where
 depth:=bQ.depth α+1
 inj:=fun {X pins σ H s x a b} I h h'=>by
  obtain ⟨p,xs,e,h1,r1⟩:=h;obtain ⟨q,ys,e',h2,r2⟩:=h';subst e;cases e';have:=I.mh h1 h2;subst this;exact qP I r1 r2
 eq:=fun {X pins σ H s A x y u v a b} I hx hy ru rv hu=>by
  obtain ⟨p,xs,e,h1,r1⟩:=hx;obtain ⟨q,ys,e',h2,r2⟩:=hy;subst e e';cases (show u=Mw p from ru);cases (show v=Mw q from rv)
  by_cases hpq:p=q
  ·subst hpq;have:=I.mh h1 h2;subst this;have:=qP I r1 r2;subst this;rw [decide_eq_true rfl];exact RX _
  ·refine SeqAt.EqAt.of_refs hpq ?_;have hu0:A.units<cLine:=by omega
   by_cases hl:a.length=b.length
   ·obtain ⟨its,its2,l1,l2,e1,e2,he⟩:=wR (A:=A) I h1 r1 h2 r2 hu hl;have z:=SeqAt.RcAt.lists l1 l2 e1 hu0 he;rw [e2,range_all a b hl] at z;exact z
   ·obtain ⟨its,v1,p1,_⟩:=I.list h1;obtain ⟨its2,v2,p2,_⟩:=I.list h2;have e1:=v1.length;have e2:=v2.length;have e3:=r1.length;have e4:=r2.length;rw [decide_eq_false (fun z=>hl (by rw [z]))]
    exact SeqAt.RcAt.lists_lengths p1.isList p2.isList (by simp;omega) hu0
theorem JX {X:Cx} (α:Type) [Rep α] [DecidableEq α] [bQ α] (hu:X.A.units+64<cLine) (hd:bQ.depth α<=32:=by decide) :
  OpR X (compareOp .Eq) (fun x y H Q=>∃ as bs:List α,At X.K H x as/\At X.K H y bs/\Q (.bl (decide (as=bs))) H):=by
 intro pins s σ H x y u v Q I ru rv h;obtain ⟨as,bs,⟨p,xs,e,h1,r1⟩,⟨q,ys,e',h2,r2⟩,hq⟩:=h;subst e e';cases (show u=Mw p from ru);cases (show v=Mw q from rv);have hu0:X.A.units<cLine:=by omega
 by_cases hl:as.length=bs.length
 ·obtain ⟨its,its2,l1,l2,e1,e2,he⟩:=wR (A:=X.A) I h1 r1 h2 r2 (by omega) hl
  refine SeqAt.eq_listAt l1 l2 e1 hu0 he ?_;rw [e2,range_all as bs hl];exact ⟨.bl _,H,I,rfl,hq⟩
 ·obtain ⟨its,v1,p1,_⟩:=I.list h1;obtain ⟨its2,v2,p2,_⟩:=I.list h2;have e1:=v1.length;have e2:=v2.length;have e3:=r1.length;have e4:=r2.length;rw [decide_eq_false (fun z=>hl (by rw [z]))] at hq
  exact SeqAt.eq_list_lengthsAt p1.isList p2.isList (by simp;omega) hu0 ⟨.bl false,H,I,rfl,hq⟩
theorem KP {X:Cx} (α:Type) [Rep α] [DecidableEq α] [bQ α] (hu:X.A.units+64<cLine) (hd:bQ.depth α<=32:=by decide) :
  OpR X (compareOp .NotEq) (fun x y H Q=>∃ as bs:List α,At X.K H x as/\At X.K H y bs/\Q (.bl (!decide (as=bs))) H):=by
 intro pins s σ H x y u v Q I ru rv h;obtain ⟨as,bs,⟨p,xs,e,h1,r1⟩,⟨q,ys,e',h2,r2⟩,hq⟩:=h;subst e e';cases (show u=Mw p from ru);cases (show v=Mw q from rv);have hu0:X.A.units<cLine:=by omega
 have fin:∀ k:Bool,Q (.bl k) H->Sl k≠Value.notImplemented/\EP X pins σ Q (.bool k) s:=fun k z=>⟨(fun z=>nomatch z),.bl k,H,I,rfl,z⟩
 by_cases hl:as.length=bs.length
 ·obtain ⟨its,its2,l1,l2,e1,e2,he⟩:=wR (A:=X.A) I h1 r1 h2 r2 (by omega) hl
  obtain ⟨⟨cls,dd,data,sl⟩,ho,hc,n,hd'⟩:=id l1;obtain ⟨⟨cls2,dd2,data2,sl2⟩,ho2,hc2,n2,hd2⟩:=id l2;simp only at hc hd' hc2 hd2;subst hc hd' hc2 hd2;have hq':=fin _ hq;rw [<- range_all as bs hl,<- e2] at hq';exact RK (op:=.NotEq) ⟨_,ho,rfl⟩ ⟨_,ho2,rfl⟩ F.slot_list_ne F.entry_list_ne (F.args_list_ne_2 _ _) (SeqAt.list_neAt p q _ _ n n2 dd dd2 sl sl2 e1 _) ⟨ho,ho2,he,hq'⟩ hu0
 ·obtain ⟨its,v1,p1,_⟩:=I.list h1;obtain ⟨its2,v2,p2,_⟩:=I.list h2;have e1:=v1.length;have e2:=v2.length;have e3:=r1.length;have e4:=r2.length;rw [decide_eq_false (fun z=>hl (by rw [z]))] at hq
  obtain ⟨⟨cls,dd,data,sl⟩,ho,hc,n,hd'⟩:=id p1.isList;obtain ⟨⟨cls2,dd2,data2,sl2⟩,ho2,hc2,n2,hd2⟩:=id p2.isList;simp only at hc hd' hc2 hd2;subst hc hd' hc2 hd2;exact RK (op:=.NotEq) ⟨_,ho,rfl⟩ ⟨_,ho2,rfl⟩ F.slot_list_ne F.entry_list_ne (F.args_list_ne_2 _ _) (SeqAt.list_ne_lengthsAt p q _ _ n n2 dd dd2 sl sl2 (by simp;omega)) ⟨ho,ho2,fin _ hq⟩ hu0
theorem BO {X:Cx}:cW X (.builtin "isinstance") (fun xs H Q=>∃ x n t b,xs=[x,.ty n]/\kr X.K H x t/\MJ X.K t (.type n)=some b/\Q (.bl b) H):=by
 intro pins s σ H xs us Q I r h;obtain ⟨x,n,t,b,rfl,ty,e,q⟩:=h;obtain ⟨u,v,rfl,ru,rv⟩:=r.two;cases (show v=Sm n from rv);exact EH I ru ty e fun tk=>⟨.bl b,H,I.tok tk,rfl,q⟩
structure Df (K:LM) (mg:Str->Option Value) (x:Str) (st:Stmt) (ps:List Str) where
 f:Addr
 fd:M9
 fn:Fun K x x st f fd
 bd:Binds K fd ps []
 nm:mg x=some (.ref f)
section
variable {X:Cx} {x:Str} {st:Stmt} {ps:List Str} {k:Nat} {sp:Sp} {p pos:Pos} {e:Expr} {es:List Expr} {t:TA}
theorem Ld (d:Df X.K X.mg x st ps) (G:aI X.prog X.w X.K X.mg X.base CX0 k d.f d.fd ps sp) (hr:bT k X.A) (hg:Gl X x) (ha:PA X (e :: es) t) (hdb:(x == ("__debug__" : Str))=false:=by decide)
  (he:MZ (e :: es) X.env=(false,eval e X.env) :: MZ es X.env:=by rfl) (hpl:(backTo pos (MZ es X.env)).any (·.1)=false:=by rfl) :
  PE X (.Call (.Name x p) (e :: es) [] pos) (oR sp [] E0 t):=tO G hr hg d.nm d.fn.kp d.bd .nil tJ ha hdb he hpl
end
theorem Df.ok {P:Ms} {w:World} {K:LM} {mg:Str->Option Value} {base:Heap} {x:Str} {st:Stmt} {N ps:List Str} {k:Nat} {sp:Sp} (d:Df K mg x st ps) (S:aN N ps (ag st)) (len:∀ vs H Q E,sp vs H Q E->vs.length=ps.length)
  (hbody:∀ (cdv:Value) (A:MY) (outer:List Env) (s:LU) (H:Hp) (vs:List V) (Q:VK) (E:XK),bT k (A.deeper (envOfC x (ag st) s.heap.objs.size d.f cdv))->sp vs H Q E ->
   ∃ t,PSs (lh CX0 P w K mg base N x (ag st) d.f cdv A outer s H E).nox (aG st) t/\t { nx:=fun _ H'=>Q .non H',rt:=Q } (start N vs) H):aI P w K mg base CX0 (k+1) d.f d.fd ps sp :=
 d.fn.ok S len hbody
theorem ay {H:Hp} {p:Addr} (h:H p=none) (o:HO):aj H (upd H p o):=fun b u q=>by rw [aq (aA q h)];exact q
theorem small {n:Nat} (h:n<=1000):n<=MB:=Oe (Ei h)
def isB (x:V) (H:Hp) (QB:Bool->Hp->Prop):Prop:=∃ k,x=.bl k/\QB k H
abbrev isF (K:LM) (f:Str) (x:V) (H1:Hp) (Q:VK):Prop:=∃ a C dx fs v,x=.ref a/\H1 a=some (.ins C dx fs)/\Cls K C/\bf K C f/\fs.lookup f=some v/\Q v H1
def isI (x:V) (H:Hp) (QO:Option Int->Hp->Prop):Prop:=∃ i,x=.int i/\QO (some i) H
def tT (g:TG) (t:TS) (D:Ends) (σ:St):It->Hp->Prop:=fun J H1=>∃ W:Nat->Nat->St->Hp->Prop,(∃ m,W 0 m σ H1)/\∀ i m σ H,W i m σ H ->
  (J.stop i H/\D.nx σ H)\/(J.go i H/\∃ N:St->Hp->Prop,(∀ σ' H',N σ' H'->∃ m',m' < m/\W (i+1) m' σ' H')/\∀ x H',J.yld i H x H'->g x σ H' fun σ2 H2=>t { D with nx:=N,ct:=N,bk:=D.nx } σ2 H2)
def fF (own:List Str) (fr:List Nat) (g:TG) (tt:TT) (ta:TE) (σ:St) (Q:VK):It->Hp->Prop:=fun J H1=>∀ d,H1 d=none->∃ W:Nat->Nat->St->Hp->Prop,(∃ m,W 0 m (bW own fr σ) (upd H1 d (.lst [])))/\∀ i m σ' H',W i m σ' H' ->
  (J.stop i H'/\Q (.ref d) H')\/(J.go i H'/\∀ x H2,J.yld i H' x H2->g x σ' H2 fun σ2 H3=>tt σ2 H3 fun ok H4 =>
   if ok=true then ta σ2 H4 fun y H5=>∃ ys,H5 d=some (.lst ys)/\ys.length<MB/\∃ m',m' < m/\W (i+1) m' σ2 (upd H5 d (.lst (ys++[y]))) else ∃ m',m' < m/\W (i+1) m' σ2 H4)
def m9 (K:LM) (x:V) (H:Hp) (R:It->Hp->Prop):Prop:=∃ a,x=.ref a/\(∃ xs,SqL K H a xs)/\R (Itl K a) H
def zK (vs:List V) (H:Hp) (R:It->Hp->Prop):Prop:=∃ j:Int,vs=[.int j]/\-(2 ^ 62)<=j/\j<2 ^ 62/\R (Itr 0 j.toNat) H
section
variable {σ:St} {H:Hp} {Q:VK} {QB:Bool->Hp->Prop} {D:Ends} {K:LM} {t u:TS} {ta tb tc:TE} {g:TG} {i:Nat} {v x y:V} {tt tu:TT} {tA:TA} {a b:Int}
theorem vm (h:D.nx σ H):Iv D σ H:=h
theorem yW (h:ta σ H fun x H1=>g x σ H1 D.nx):Dm ta g D σ H:=h
theorem sH {QS:St->Hp->Prop} (h:QS (σ.set i (some v)) H):gj i v σ H QS:=h
theorem vw (h:ta σ H fun _ H1=>D.nx σ H1):Ig ta D σ H:=h
theorem zk (h:ta σ H D.rt):KW ta D σ H:=h
theorem HP (h:tt σ H fun b H1=>if b=true then t D σ H1 else u D σ H1):Gh tt t u D σ H:=h
theorem iw (J:St->Hp->Prop) (main:∀ N:St->Hp->Prop,(∀ σ' H',J σ' H'->N σ' H')->tt σ H fun b H1=>if b=true then t { D with nx:=N } σ H1 else u { D with nx:=N } σ H1)
  (key:∀ σ' H',J σ' H'->D.nx σ' H'):Gh tt t u D σ H:=main D.nx key
theorem y8 (e:σ[i]?=some (some v)) (h:Q v H):uZ i σ H Q:=⟨v,e,h⟩
theorem r_C (h:Q v H):tC v σ H Q:=h
theorem CZ {r:R2} (h:ta σ H fun x H1=>tb σ H1 fun y H2=>r x y H2 Q):tOp r ta tb σ H Q:=h
theorem DX {r:V->Hp->VK->Prop} (h:ta σ H fun x H1=>r x H1 Q):tUn r ta σ H Q:=h
theorem zo {f:Int->Int->V} (h:Q (f a b) H):rI0 f (.int a) (.int b) H Q:=⟨a,b,rfl,rfl,h⟩
theorem pG {C:Int->Int->Prop} {f:Int->Int->V} (c:C a b) (h:Q (f a b) H):rI C f (.int a) (.int b) H Q:=⟨a,b,rfl,rfl,c,h⟩
theorem vL (h:Q (.bl (decide (a=b))) H):rEq (.int a) (.int b) H Q:=⟨rfl,by
 have e:decide (V.int a=V.int b)=decide (a=b):=decide_eq_decide.mpr ⟨fun z=>by injection z,fun z=>by rw [z]⟩
 rw [e];exact h⟩
theorem vv (h:Q (.bl (!decide (a=b))) H):rNe (.int a) (.int b) H Q:=⟨rfl,by
 have e:decide (V.int a=V.int b)=decide (a=b):=decide_eq_decide.mpr ⟨fun z=>by injection z,fun z=>by rw [z]⟩
 rw [e];exact h⟩
theorem vx (h:ta σ H fun x H'=>isB x H' QB):HS ta σ H QB:=h
theorem De (h:ta σ H fun x H1=>isB x H1 QB):tB ta σ H QB:=h
theorem Di {c:Bool} (h:QB c H):isB (.bl c) H QB:=⟨c,rfl,h⟩
theorem y7 (h:tt σ H fun c H1=>if c=true then tu σ H1 QB else QB false H1):Kx tt tu σ H QB:=h
theorem C3 (h:tt σ H fun c H1=>if c=true then QB true H1 else tu σ H1 QB):tOr tt tu σ H QB:=h
theorem zc (h:tt σ H fun c H1=>QB (!c) H1):Km tt σ H QB:=h
theorem v9 (h:ta σ H fun x H1=>isB x H1 fun c H1=>if c=true then tb σ H1 Q else Q (.bl false) H1):HN ta tb σ H Q:=h
theorem za (h:ta σ H fun x H1=>isB x H1 fun c H1=>if c=true then Q (.bl true) H1 else tb σ H1 Q):K3 ta tb σ H Q:=h
theorem vV (h:ta σ H fun x H1=>isB x H1 fun c H1=>Q (.bl (!c)) H1):Io ta σ H Q:=h
theorem y9 {QA:List V->Hp->Prop} (h:QA [] H):tE σ H QA:=h
theorem vh {QA:List V->Hp->Prop} (h:ta σ H fun x H1=>tA σ H1 fun xs H2=>QA (x :: xs) H2):lq ta tA σ H QA:=h
theorem Dw {r:List V->Hp->VK->Prop} (h:tA σ H fun vs H1=>r vs H1 Q):tCB r tA σ H Q:=h
theorem wj {sp:Sp} {E:XK} (h:tA σ H fun vs H1=>sp (vs++[]) H1 Q E):oR sp [] E tA σ H Q:=h
theorem bZ (h:tA σ H fun xs H1=>xs.length<=MB/\∀ p,H1 p=none->Q (.ref p) (upd H1 p (.lst xs))):AO tA σ H Q:=h
theorem oX (h:tA σ H fun xs H1=>xs.length<=MB/\∀ p,H1 p=none->Q (.ref p) (upd H1 p (.tup xs))):CK tA σ H Q:=h
theorem zp (h:ta σ H fun x H1=>Q (.bl (decide (x=.non))) H1):Kw ta σ H Q:=h
theorem vb (h:ta σ H fun x H1=>Q (.bl (!decide (x=.non))) H1):HU ta σ H Q:=h
theorem yX {wi:TI} (h:wi σ H (tT g t D σ)):Kg wi g t D σ H:=h
theorem uh {R:It->Hp->Prop} (h:ta σ H fun x H1=>m9 K x H1 R):zd K ta σ H R:=h
theorem uc {R:It->Hp->Prop} (h:tA σ H fun vs H1=>zK vs H1 R):DA tA σ H R:=h
theorem v5 {own:List Str} {fr:List Nat} {wi:TI} (h:wi σ H (fF own fr g tt ta σ Q)):qD own fr wi g tt ta σ H Q:=h
theorem CL {r:V->Option Int->Option Int->Hp->VK->Prop} {tl th:TO} (h:ta σ H fun x H1=>tl σ H1 fun l H2=>th σ H2 fun u H3=>r x l u H3 Q):tSl r ta tl th σ H Q:=h
theorem qK {QO:Option Int->Hp->Prop} (h:QO none H):B1 σ H QO:=h
theorem vW {QO:Option Int->Hp->Prop} (h:ta σ H fun x H1=>isI x H1 QO):HR ta σ H QO:=h
theorem vG {QO:Option Int->Hp->Prop} (h:QO (some a) H):isI (.int a) H QO:=⟨a,rfl,h⟩
theorem DL {T:String} {r:V->List V->Hp->VK->Prop} (h:ta σ H fun x H1=>tyV K T x H1/\tA σ H1 fun xs H2=>r x xs H2 Q):tBM K T r ta tA σ H Q:=h
theorem yZ {f:Str} (h:ta σ H fun x H1=>isF K f x H1 Q):GU K ta f σ H Q:=h
theorem vI {C:Addr} {sp:Sp} {dvs:List V} {E:XK} (h:tA σ H fun vs H1=>∀ x dx,H1 x=none->H1 dx=none->dx≠x->sp (.ref x :: (vs++dvs)) (upd (upd H1 dx (.own x)) x (.ins C dx [])) (fun v H2=>v=.non/\Q (.ref x) H2) E):Dr C sp dvs E tA σ H Q:=h
theorem vj {f:Str} (h:tb σ H fun y H1=>ta σ H1 fun x H2=>∃ a C dx fs,x=.ref a/\H2 a=some (.ins C dx fs)/\Cls K C/\bf K C f/\fs.length<1000/\D.nx σ (upd H2 a (.ins C dx (cI f y fs)))):Gs K ta tb f D σ H:=h
theorem dI {α:Type} [Rep α] {l:List α} {n:Nat} {c:α} (h:At K H v l) (e:a=(n:Int)) (hn:l[n]?=some c) (q:∀ w,At K H w c->Q w H):qR K v (.int a) H Q:=by
 obtain ⟨p,xs,x,rfl,hS,hx,hc⟩:=h.item hn;subst e;exact ⟨p,xs,_,x,rfl,rfl,hS,hx,q x hc⟩
theorem j7 {l:List Nat} {n c:Nat} (h:At K H v l) (e:a=(n:Int)) (hn:l[n]?=some c) (q:Q (.int (c:Int)) H):qR K v (.int a) H Q :=
 dI h e hn fun w hw=>by cases (show w=V.int (c:Int) from hw);exact q
theorem tG {l:List Int} {n:Nat} {c:Int} (h:At K H v l) (e:a=(n:Int)) (hn:l[n]?=some c) (q:Q (.int c) H):qR K v (.int a) H Q :=
 dI h e hn fun w hw=>by cases (show w=V.int c from hw);exact q
theorem cb {n:Nat} (e:a=(n:Int)) (hn:n<=1000000) (Pv:Nat->St->Hp->Prop) (h0:Pv 0 σ H)
  (hs:∀ i σ' H',i<n->Pv i σ' H'->g (.int (i:Int)) σ' H' fun σ2 H2=>t { D with nx:=Pv (i+1),ct:=Pv (i+1),bk:=D.nx } σ2 H2) (hd:∀ σ' H',Pv n σ' H'->D.nx σ' H') :
  zK [.int a] H (tT g t D σ):=by
 subst e;refine ⟨n,rfl,by omega,by omega,?_⟩
 have z:((n:Int)).toNat=n:=by omega
 show tT g t D σ (Itr 0 (n:Int).toNat) H;rw [z];exact FT Pv h0 (fun i σ' H' hi p=>by rw [S6];exact hs i σ' H' hi p) hd
theorem gv {α:Type} [Rep α] {l:List α} (h:At K H v l) (Pv:Nat->St->Hp->Prop) (h0:Pv 0 σ H) (hl:∀ i σ' H',Pv i σ' H'->aj H H')
  (hs:∀ i c w σ' H',l[i]?=some c->At K H' w c->Pv i σ' H'->g w σ' H' fun σ2 H2=>t { D with nx:=Pv (i+1),ct:=Pv (i+1),bk:=D.nx } σ2 H2) (hd:∀ σ' H',Pv l.length σ' H'->D.nx σ' H') :
  m9 K v H (tT g t D σ):=by
 obtain ⟨p,xs,rfl,hS,hP⟩:=h;refine ⟨p,rfl,⟨xs,hS⟩,HC (K:=K) (a:=p) (xs:=xs) Pv h0 (fun i σ' H' _ q=>(hl i σ' H' q).seq hS) (fun i x σ' H' hx q=>?_) (fun σ' H' q=>?_)⟩
 ·obtain ⟨c,hc,r⟩:=Paired.getL hP hx;exact hs i c x σ' H' hc (Rep.mono (hl i σ' H' q) r) q
 ·rw [hP.length] at q;exact hd σ' H' q
def del (H:Hp) (d:Addr):Hp:=fun a=>if a=d then none else H a
theorem gK {H:Hp} {d b:Addr} (h:b≠d):del H d b=H b:=if_neg h
theorem qI {H H':Hp} {d:Addr} (e:aj H H'):aj (del H d) (del H' d):=fun b o h=>by
 by_cases hb:b=d
 ·rw [hb] at h;have z:del H d d=none:=if_pos rfl;rw [z] at h;cases h
 ·rw [gK hb] at h ⊢;exact e b o h
theorem lX {H:Hp} {d:Addr} {o:HO}:aj (del H d) (del (upd H d o) d):=fun b u h=>by
 by_cases hb:b=d
 ·rw [hb] at h;have z:del H d d=none:=if_pos rfl;rw [z] at h;cases h
 ·rw [gK hb] at h ⊢;rw [aq hb];exact h
theorem pM {H:Hp} {d:Addr}:aj (del H d) H:=fun b u h=>by
 by_cases hb:b=d
 ·rw [hb] at h;have z:del H d d=none:=if_pos rfl;rw [z] at h;cases h
 ·rw [gK hb] at h;exact h
theorem xm {β:Type} [Rep β] {J:It} {n:Nat} {own:List Str} {fr:List Nat} (Src:Nat->V->Hp->Prop) (acc:Nat->List β) (Sh:St->Prop)
  (hgo:∀ i H',i<n->aj H H'->J.go i H') (hst:∀ H',aj H H'->J.stop n H') (hy:∀ i H' x H2,i<n->aj H H'->J.yld i H' x H2->H2=H'/\Src i x H')
  (hz:n<=100000) (ha0:acc 0=[]) (hal:∀ i,i<=n->(acc i).length<=i) (h0:Sh (bW own fr σ))
  (turn:∀ i w σ' H' (d:Addr) (R:St->V->Hp->Prop) (R0:St->Hp->Prop),i<n->aj H H'->Src i w H'->Sh σ' ->
   (∀ σ2 y b H5,Sh σ2->aj H' H5->At K (del H5 d) y b->acc (i+1)=acc i++[b]->R σ2 y H5)->(∀ σ2 H5,Sh σ2->aj H' H5->acc (i+1)=acc i->R0 σ2 H5)->(∃ ys,H' d=some (.lst ys)) ->
   g w σ' H' fun σ2 H3=>tt σ2 H3 fun ok H4=>if ok=true then ta σ2 H4 (R σ2) else R0 σ2 H4)
  (fin:∀ d H',H d=none->aj H H'->(∃ ys,H' d=some (.lst ys)/\Nt (Rep.is K (del H' d)) ys (acc n))->Q (.ref d) H') (d:Addr) (hd:H d=none) :
  ∃ W:Nat->Nat->St->Hp->Prop,(∃ m,W 0 m (bW own fr σ) (upd H d (.lst [])))/\∀ i m σ' H',W i m σ' H' ->
   (J.stop i H'/\Q (.ref d) H')\/(J.go i H'/\∀ x H2,J.yld i H' x H2->g x σ' H2 fun σ2 H3=>tt σ2 H3 fun ok H4 =>
    if ok=true then ta σ2 H4 fun y H5=>∃ ys,H5 d=some (.lst ys)/\ys.length<MB/\∃ m',m' < m/\W (i+1) m' σ2 (upd H5 d (.lst (ys++[y]))) else ∃ m',m' < m/\W (i+1) m' σ2 H4):=by
 refine ⟨fun i m σ' H'=>m=n - i/\i<=n/\Sh σ'/\aj H H'/\∃ ys,H' d=some (.lst ys)/\Nt (Rep.is K (del H' d)) ys (acc i),⟨n,rfl,Nd _,h0,ay hd _,[],ao,by rw [ha0];exact .nil⟩,?_⟩
 rintro i m σ' H' ⟨rfl,hi,hsh,hs,ys,hys,hp⟩
 by_cases hlt:i<n
 ·refine .inr ⟨hgo i H' hlt hs,fun x H2 hx=>?_⟩;obtain ⟨rfl,hsrc⟩:=hy i H' x H2 hlt hs hx;refine turn i x σ' H2 d _ _ hlt hs hsrc hsh (fun σ2 y b H5 h1 h2 h3 h4=>?_) (fun σ2 H5 h1 h2 h4=>?_) ⟨ys,hys⟩
  ·have hl:=hp.length;have hl2:=hal i hi;refine ⟨ys,h2 _ _ hys,Ny (show ys.length<=100000 by omega) (by rw [NJ];decide),n - (i+1),by omega,rfl,hlt,h1,fun b' o e=>?_,ys++[y],ao,?_⟩
   ·rw [aq (aA e hd)];exact h2 _ _ (hs _ _ e)
   ·rw [h4];exact Paired.app (Paired.dY hp fun _ _ q=>Rep.mono lX (Rep.mono (qI h2) q)) (.cons (Rep.mono lX h3) .nil)
  ·refine ⟨n - (i+1),by omega,rfl,hlt,h1,hs.trans h2,ys,h2 _ _ hys,?_⟩
   rw [h4];exact Paired.dY hp fun _ _ q=>Rep.mono (qI h2) q
 ·have e:i=n:=by omega
  subst e;exact .inl ⟨hst H' hs,fin d H' hd hs ⟨ys,hys,hp⟩⟩
theorem o6 {α β:Type} [Rep α] [Rep β] {l:List α} {own:List Str} {fr:List Nat} (h:At K H v l) (hz:l.length<=100000) (acc:Nat->List β) (Sh:St->Prop) (ha0:acc 0=[]) (hal:∀ i,i<=l.length->(acc i).length<=i) (h0:Sh (bW own fr σ))
  (turn:∀ i c w σ' H' (d:Addr) (R:St->V->Hp->Prop) (R0:St->Hp->Prop),l[i]?=some c->aj H H'->At K H' w c->Sh σ' ->
   (∀ σ2 y b H5,Sh σ2->aj H' H5->At K (del H5 d) y b->acc (i+1)=acc i++[b]->R σ2 y H5)->(∀ σ2 H5,Sh σ2->aj H' H5->acc (i+1)=acc i->R0 σ2 H5)->(∃ ys,H' d=some (.lst ys)) ->
   g w σ' H' fun σ2 H3=>tt σ2 H3 fun ok H4=>if ok=true then ta σ2 H4 (R σ2) else R0 σ2 H4)
  (fin:∀ d H',H d=none->aj H H'->(∃ ys,H' d=some (.lst ys)/\Nt (Rep.is K (del H' d)) ys (acc l.length))->Q (.ref d) H') :
  m9 K v H (fF own fr g tt ta σ Q):=by
 obtain ⟨p,xs,rfl,hS,hP⟩:=h;have hl:=hP.length;refine ⟨p,rfl,⟨xs,hS⟩,xm (J:=Itl K p) (n:=l.length) (fun i w H'=>∃ c,l[i]?=some c/\At K H' w c) acc Sh (fun i H' hi e=>⟨xs,xs[i]'(by omega),e.seq hS,by simp [hl,hi]⟩) (fun H' e=>⟨xs,e.seq hS,RU hl⟩)
  (fun i H' x H2 hi e hy=>?_) hz ha0 hal h0 (fun i w σ' H' d R R0 hi e ⟨c,hc,hw⟩=>turn i c w σ' H' d R R0 hc e hw) fin⟩
 obtain ⟨e1,e2⟩:=hy;have z:=e2 xs (e.seq hS);obtain ⟨c,hc,r⟩:=Paired.getL hP z;exact ⟨e1,c,hc,Rep.mono e r⟩
theorem nB (K:LM) {β:Type} [Rep β] {n:Nat} {own:List Str} {fr:List Nat} (e:a=(n:Int)) (hz:n<=100000) (acc:Nat->List β) (Sh:St->Prop) (ha0:acc 0=[]) (hal:∀ i,i<=n->(acc i).length<=i) (h0:Sh (bW own fr σ))
  (turn:∀ i σ' H' (d:Addr) (R:St->V->Hp->Prop) (R0:St->Hp->Prop),i<n->aj H H'->Sh σ' ->
   (∀ σ2 y b H5,Sh σ2->aj H' H5->At K (del H5 d) y b->acc (i+1)=acc i++[b]->R σ2 y H5)->(∀ σ2 H5,Sh σ2->aj H' H5->acc (i+1)=acc i->R0 σ2 H5)->(∃ ys,H' d=some (.lst ys)) ->
   g (.int (i:Int)) σ' H' fun σ2 H3=>tt σ2 H3 fun ok H4=>if ok=true then ta σ2 H4 (R σ2) else R0 σ2 H4)
  (fin:∀ d H',H d=none->aj H H'->(∃ ys,H' d=some (.lst ys)/\Nt (Rep.is K (del H' d)) ys (acc n))->Q (.ref d) H') :
  zK [.int a] H (fF own fr g tt ta σ Q):=by
 subst e;refine ⟨n,rfl,by omega,by omega,?_⟩
 have z:((n:Int)).toNat=n:=by omega
 show fF own fr g tt ta σ Q (Itr 0 (n:Int).toNat) H;rw [z];refine xm (J:=Itr 0 n) (n:=n) (fun i w _=>w=.int (i:Int)) acc Sh (fun i H' hi _=>hi) (fun H' _=>Mi n) (fun i H' x H2 hi e hy=>?_) hz ha0 hal h0 (fun i w σ' H' d R R0 hi e hw=>?_) fin
 ·obtain ⟨e1,e2⟩:=hy;exact ⟨e1,by rw [e2,S6]⟩
 ·subst hw;exact turn i σ' H' d R R0 hi e
theorem hV {α β:Type} [Rep α] [Rep β] {l:List α} {own:List Str} {fr:List Nat} (h:At K H v l) (hz:l.length<=100000) (acc:Nat->List β) (Sh:St->Prop) (ha0:acc 0=[]) (hal:∀ i,i<=l.length->(acc i).length<=i) (h0:Sh (bW own fr σ))
  (turn:∀ i c w σ' H' (d:Addr) (R:St->V->Hp->Prop) (R0:St->Hp->Prop),l[i]?=some c->aj H H'->At K H' w c->Sh σ' ->
   (∀ σ2 y b H5,Sh σ2->aj H' H5->At K (del H5 d) y b->acc (i+1)=acc i++[b]->R σ2 y H5)->(∀ σ2 H5,Sh σ2->aj H' H5->acc (i+1)=acc i->R0 σ2 H5)->(∃ ys,H' d=some (.lst ys)) ->
   g w σ' H' fun σ2 H3=>tt σ2 H3 fun ok H4=>if ok=true then ta σ2 H4 (R σ2) else R0 σ2 H4)
  (fin:∀ d H',aj H H'->At K H' (.ref d) (acc l.length)->Q (.ref d) H') :
  m9 K v H (fF own fr g tt ta σ Q) :=
 o6 h hz acc Sh ha0 hal h0 turn fun d H' _ hs ⟨ys,hys,hp⟩=>fin d H' hs ⟨d,ys,rfl,SqL.of hys,Paired.dY hp fun _ _ q=>Rep.mono pM q⟩
theorem kH (K:LM) {β:Type} [Rep β] {n:Nat} {own:List Str} {fr:List Nat} (e:a=(n:Int)) (hz:n<=100000) (acc:Nat->List β) (Sh:St->Prop) (ha0:acc 0=[]) (hal:∀ i,i<=n->(acc i).length<=i) (h0:Sh (bW own fr σ))
  (turn:∀ i σ' H' (d:Addr) (R:St->V->Hp->Prop) (R0:St->Hp->Prop),i<n->aj H H'->Sh σ' ->
   (∀ σ2 y b H5,Sh σ2->aj H' H5->At K (del H5 d) y b->acc (i+1)=acc i++[b]->R σ2 y H5)->(∀ σ2 H5,Sh σ2->aj H' H5->acc (i+1)=acc i->R0 σ2 H5)->(∃ ys,H' d=some (.lst ys)) ->
   g (.int (i:Int)) σ' H' fun σ2 H3=>tt σ2 H3 fun ok H4=>if ok=true then ta σ2 H4 (R σ2) else R0 σ2 H4)
  (fin:∀ d H',aj H H'->At K H' (.ref d) (acc n)->Q (.ref d) H') :
  zK [.int a] H (fF own fr g tt ta σ Q) :=
 nB K e hz acc Sh ha0 hal h0 turn fun d H' _ hs ⟨ys,hys,hp⟩=>fin d H' hs ⟨d,ys,rfl,SqL.of hys,Paired.dY hp fun _ _ q=>Rep.mono pM q⟩
theorem v7 (h:QB true H):w5 σ H QB:=h
theorem vz {A B:Prop} (h:A):if true=true then A else B:=lT h
end
theorem aU {c A B:Prop} [Decidable c] (h1:c->A) (h2:¬ c->B):if decide c=true then A else B:=by
 by_cases h:c
 ·rw [decide_eq_true h];exact lT (h1 h)
 ·rw [decide_eq_false h];exact dF (h2 h)
theorem cy {c A B:Prop} [Decidable c] (h1:¬ c->A) (h2:c->B):if (!decide c)=true then A else B:=by
 by_cases h:c
 ·rw [decide_eq_true h];exact dF (h2 h)
 ·rw [decide_eq_false h];exact lT (h1 h)
def Gr {β:Type} [Rep β] (K:LM) (H:Hp) (d:Addr) (l:List β):Prop:=∃ ys,H d=some (.lst ys)/\Nt (Rep.is K (del H d)) ys l
section
variable {β:Type} [Rep β] {K:LM} {H H':Hp} {d:Addr} {l:List β} {y:V} {b:β} {Q:VK}
theorem Gr.at (h:Gr K H d l):At K H (.ref d) l:=by
 obtain ⟨ys,h1,h2⟩:=h;exact ⟨d,ys,rfl,SqL.of h1,Paired.dY h2 fun _ _ q=>Rep.mono pM q⟩
theorem Gr.mono (s:aj H H') (h:Gr K H d l):Gr K H' d l:=by
 obtain ⟨ys,h1,h2⟩:=h;exact ⟨ys,s _ _ h1,Paired.dY h2 fun _ _ q=>Rep.mono (qI s) q⟩
theorem Gr.is (h:Gr K H d l):∃ ys,H d=some (.lst ys):=let ⟨ys,h1,_⟩:=h;⟨ys,h1⟩
theorem Gr.ty (h:Gr K H d l):tyV K "list" (.ref d) H:=by
 obtain ⟨ys,h1,_⟩:=h;exact .inl ⟨rfl,_,SqL.of h1⟩
theorem ko (h:Gr K H d l) (hl:l.length<=100000) (hy:At K (del H d) y b) (q:∀ H',Gr K H' d (l++[b])->(∀ a o,a≠d->H a=some o->H' a=some o)->(∀ a,a≠d->H' a=H a)->Q .non H'):wK (.ref d) [y] H Q:=by
 obtain ⟨ys,h1,h2⟩:=h;have e:=h2.length;refine ⟨d,ys,y,rfl,rfl,h1,Ny (show ys.length<=100000 by omega) (by rw [NJ];decide),?_⟩
 refine q _ ⟨_,ao,Paired.app (Paired.dY h2 fun _ _ z=>Rep.mono lX z) (.cons (Rep.mono lX hy) .nil)⟩ (fun a o ha z=>by rw [aq ha];exact z) fun a ha=>aq ha
theorem aj.but {H₀:Hp} (hd:H₀ d=none) (s:aj H₀ H) (k:∀ a o,a≠d->H a=some o->H' a=some o):aj H₀ H':=fun a o z=>k a o (aA z hd) (s a o z)
end
def cut {α:Type} (l:List α) (lo hi:Option Int):List α:=(l.drop (HT.sIx l.length 0 lo)).take (HT.sIx l.length l.length hi - HT.sIx l.length 0 lo)
theorem IU {α:Type} [Rep α] {K:LM} {H:Hp} {v:V} {Q:VK} {l:List α} {lo hi:Option Int} (h:At K H v l) (q:∀ p H',aj H H'->H p=none->At K H' (.ref p) (cut l lo hi)->Q (.ref p) H'):C2 K v lo hi H Q:=by
 obtain ⟨p,xs,rfl,hS,hP⟩:=h;refine ⟨p,xs,rfl,hS,fun d hd=>q d _ (ay hd _) hd ⟨d,_,rfl,SqL.of ao,?_⟩⟩;have e:=hP.length;unfold uQ cut;rw [e];exact Paired.zm _ (Paired.y6 _ (Paired.dY hP fun _ _ z=>Rep.mono (ay hd _) z))
theorem Cd {α:Type} {l:List α} {lo hi:Option Int} {x:α} (h:x∈cut l lo hi):x∈l:=Pl (Pm h)
theorem nV {α:Type} (l:List α) (lo hi:Option Int):(cut l lo hi).length<=l.length:=by
 unfold cut;rw [Mz,Qj];omega
theorem EU {H:Hp} {d p:Addr} (hd:∃ ys,H d=some (.lst ys)) (hp:H p=none):p≠d:=fun e=>by
 obtain ⟨ys,hd⟩:=hd;rw [e,hd] at hp;cases hp
def Kj (K:LM):List V->Hp->VK->Prop:=fun xs H Q=>∃ p ys,xs=[.ref p]/\(SqL K H p ys\/SqT K H p ys)/\Q (.int ys.length) H
def D7 (K:LM):List V->Hp->VK->Prop:=fun xs H Q=>∃ p ys,xs=[.ref p]/\(SqL K H p ys\/SqT K H p ys)/\∀ l,H l=none->Q (.ref l) (upd H l (.lst ys))
def Ip (K:LM):List V->Hp->VK->Prop:=fun xs H Q=>∃ x n t b,xs=[x,.ty n]/\kr K H x t/\MJ K t (.type n)=some b/\Q (.bl b) H
def Kb (α:Type) [Rep α] [DecidableEq α] (K:LM):R2:=fun x y H Q=>∃ as bs:List α,At K H x as/\At K H y bs/\Q (.bl (decide (as=bs))) H
def KD (α:Type) [Rep α] [DecidableEq α] (K:LM):R2:=fun x y H Q=>∃ as bs:List α,At K H x as/\At K H y bs/\Q (.bl (!decide (as=bs))) H
section
variable {K:LM} {H:Hp} {Q:VK} {v x y:V} {α:Type} [Rep α] {l:List α}
theorem cX (h:At K H v l) (q:Q (.int (l.length:Int)) H):Kj K [v] H Q:=by
 obtain ⟨p,xs,rfl,hS,e⟩:=h.len;exact ⟨p,xs,rfl,.inl hS,by rw [e];exact q⟩
theorem Ey {n:String} {t:Value} {b:Bool} (ty:kr K H x t) (e:MJ K t (.type n)=some b) (q:Q (.bl b) H):Ip K [x,.ty n] H Q:=⟨x,n,t,b,rfl,ty,e,q⟩
theorem HI [DecidableEq α] {as bs:List α} (ha:At K H x as) (hb:At K H y bs) (q:Q (.bl (decide (as=bs))) H):Kb α K x y H Q:=⟨as,bs,ha,hb,q⟩
theorem HX [DecidableEq α] {as bs:List α} (ha:At K H x as) (hb:At K H y bs) (q:Q (.bl (!decide (as=bs))) H):KD α K x y H Q:=⟨as,bs,ha,hb,q⟩
end
section
variable {X:Cx} (K:LM) (hK:X.K=K) {e l o value:Expr} {ta tv tl:TE} {f:Str} {pos pos':Pos}
include hK
theorem ai:IxR X (qR K):=by subst hK;exact Jn
theorem js:IxR X (GR K):=by subst hK;exact KH
theorem cu (he:PE X e ta) (hb:attributeBase e f X.env (eval e X.env)=eval e X.env):PE X (.Attribute e f pos) (GU K ta f):=by subst hK;exact JR he hb
theorem iP (ha:PE X o ta) (hv:PE X value tv) (hs:swapsWith value (some (.Attribute o f pos')) pos.line X.env=pure false):PS X (.Assign [.Attribute o f pos'] value pos) (Gs K ta tv f):=by subst hK;exact KR ha hv hs
theorem aZ {tg:Expr} (hl:PE X l tl):PI X tg l (zd K tl):=by subst hK;exact JG hl
theorem fZ:SlR X (C2 K):=by subst hK;exact JA
theorem aV:cW X (.builtin "len") (Kj K):=by subst hK;exact zr
theorem fR:cW X (.type "list") (D7 K):=by subst hK;exact AU
theorem sy:cW X (.builtin "isinstance") (Ip K):=by subst hK;exact BO
theorem CF (α:Type) [Rep α] [DecidableEq α] [bQ α] (hu:X.A.units+64<cLine) (hd:bQ.depth α<=32:=by decide) :
  OpR X (compareOp .Eq) (Kb α K):=by subst hK;exact JX α hu hd
theorem Cw (α:Type) [Rep α] [DecidableEq α] [bQ α] (hu:X.A.units+64<cLine) (hd:bQ.depth α<=32:=by decide) :
  OpR X (compareOp .NotEq) (KD α K):=by subst hK;exact KP α hu hd
theorem JP {T id:String} {name:Str} {r:V->List V->Hp->VK->Prop} {to:TE} {t:TA} {e:Expr} {es:List Expr} {apos cpos:Pos} (pa:PlainAttrs T) (slot:Slot T name id) (hty:typeOf (.builtin id)=pure (.type "method_descriptor")) (hm:MtR X id r) (ho:PE X o to) (ha:PA X (e :: es) t)
  (hbase:attributeBase o name X.env (eval o X.env)=eval o X.env:=by rfl)
  (hfew:((backTo cpos (MZ (e :: es) X.env)).all (fun x=>!x.1) && (backToKw cpos (keywordEach [] X.env)).all (fun x=>x.1.isSome)
   && decide ((e :: es).length+([]:List RV).length+(if ([]:List RV).isEmpty then 0 else 1)<30))=true:=by rfl)
  (hline:(apos.endLine == cpos.line)=true:=by rfl) (hs:MZ (e :: es) X.env=(false,eval e X.env) :: MZ es X.env:=by rfl) (hplain:(backTo cpos (MZ es X.env)).any (·.1)=false:=by rfl) :
  PE X (.Call (.Attribute o name apos) (e :: es) [] cpos) (tBM K T r to t):=by subst hK;exact Lv pa slot hty hm ho ha hbase hfew hline hs hplain
end
section
variable {X:Cx} {pins:List (Addr×Obj)} {σ:St} {H:Hp} {s:LU} {h':Heap} {t':Nat} {fp:List Addr} {p:Addr} {o:HO}
theorem Inv.xQ (I:Inv X pins σ H s) (hf:∀ b∈fp,lD X pins H b) (k:∀ b ob,b∉fp->s.heap.get? b=some ob->h'.get? b=some ob) (hp:s.heap.objs.size<=p) (new:bB X.prog X.w (upd H p o) h' p o) :
  Inv X pins σ (upd H p o) { s with heap:=h',toks:=t' }:=by
 have hn:=I.hok.fresh hp;have lt:∀ {b:Addr} {ob:Obj},s.heap.get? b=some ob->b≠p:=fun e=>Mp (Ml (Me e) hp);have nofp:∀ b u,H b=some u->b∉fp:=fun b u e hb=>by rw [(hf b hb).1] at e;cases e
 refine I.step (g':=s.gens) (d':=s.drawn) (ch:=fp) (fun b hb=>let ⟨_,f1,_,f3,f4,f5⟩:=hf b hb;⟨f3,f1,f4,f5⟩) (fun b ob _ _ hc e _=>k b ob hc e) (fun b ob _ _ hc e _=>⟨ob.slots,k b ob hc e⟩)
  (fun b ob _ e n=>by rw [aq (lt e)];exact n) (fun b ob hc e=>⟨ob,k b ob hc e⟩) (fun b xs e=>by rw [aq (aA e hn)];exact e) (fun b ob u e=>by rw [aq (aA e hn)];exact e)
  (fun b ps e=>⟨#[],by rw [aq (aA e hn),e];simp⟩) (fun m hm=>?_) (fun b u e=>?_) I.bare
 ·obtain ⟨ob,es,ep,e,r⟩:=hm;exact ⟨ob,es,ep,k _ ob (fun hb=>(hf _ hb).2.1 rfl) e,r⟩
 ·by_cases hb:b=p
  ·subst hb;rw [ao] at e;cases e;exact new
  ·rw [aq hb] at e;refine (I.hok b u e).oi (fun c v hc q=>k c v ?_ q) (fun c q=>by rw [aq (aA q hn)];exact q) fun c xs q=>by rw [aq (aA q hn)];exact q
   rcases hc with z|z
   ·rw [z];exact nofp b u e
   ·exact nofp c _ z
end
def Ite (K:LM) (a:Addr):It :=
 ⟨fun i H=>∃ xs x,SqL K H a xs/\xs[i]?=some x,fun i H v H'=>∃ p x,v=.ref p/\H p=none/\H'=upd H p (.tup [.int (i:Int),x])/\∀ xs,SqL K H a xs->xs[i]?=some x,fun i H=>∃ xs,SqL K H a xs/\xs.length<=i⟩
theorem Ft {P:Ms} {w:World} {K:LM} {es:List Expr} {kk:Nat} {tpos:Pos} (a e it:Addr) (hei:e≠it) :
  Turn P w K (.Tuple es kk tpos) (Ite K a) [e,it] e (fun i h=>(∃ old,IsEnum h e it i old)/\h.IsListIter it a i) where
 mem:=by simp
 obj:=fun i h st b hb=>by
  obtain ⟨⟨old,he⟩,o,e1,c,d⟩:=st;rcases My.mp hb with z|hb
  ·rw [z];exact ⟨_,he,fun v z=>by
    have z':Tb _=SS v:=z;cases z'⟩
  ·rw [Md.mp hb];exact ⟨o,e1,fun v z=>by rw [d] at z;cases z⟩
 keep:=fun i h h' st k=>⟨let ⟨old,he⟩:=st.1;⟨old,k e (by simp) _ he⟩,st.2.at fun o e=>k it (by simp) o e⟩
 item:=by
  intro X hP hw hK hc i pins s σ H E I hf st hg;subst hP hw hK;obtain ⟨xs,x,hq,hx⟩:=hg;obtain ⟨its,rv,p,hz⟩:=I.list hq;obtain ⟨u,hu,ru⟩:=rv.get hx;obtain ⟨⟨old,he⟩,hit⟩:=st;refine wpAny_pyNext_enum_item he hit p.isList (x:=u) (by simpa using hu) hei fun h' ho hit' hT hsz hk=>?_
  refine ⟨_,rfl,?_⟩;have I1:Inv X pins σ (upd H s.heap.objs.size (.tup [.int (i:Int),x])) { s with heap:=h',toks:=s.toks+1 } :=
   I.xQ hf (fun b ob hb q=>hk b ob (fun z=>hb (by simp [z])) (fun z=>hb (by simp [z])) q) (Mi _) ⟨by show 2<=MB;decide,[.int i s.toks,u],.cons ⟨_,rfl⟩ (.cons ru .nil),⟨_,hT,rfl,_,rfl⟩⟩
  have fE:=hf e (by simp)
  have hlt:e<s.heap.objs.size:=Me he;have hlt2:it<s.heap.objs.size:=by obtain ⟨_,z,_⟩:=hit;exact Me z
  refine wpAny_letOwnedTupleGo_enum ho fun h2 he2 hs2=>?_;have nE:(upd H s.heap.objs.size (.tup [.int (i:Int),x])) e=none:=by rw [aq (Mp hlt)];exact fE.1
  refine ⟨.ref s.heap.objs.size,_,I1.turned (t':=s.toks+1) (fun b ob hb q=>(hs2.2 b hb).trans q) nE fE.2.1 fE.2.2.2.1 fE.2.2.2.2.1 fE.2.2.2.2.2,rfl,⟨_,x,rfl,I.hok.fresh (Mi _),rfl,fun ys hy=>by rw [I.mh hy hq];exact hx⟩,?_,fun b hb=>?_⟩
  ·refine ⟨⟨u,?_⟩,hit'.at fun o q=>(hs2.2 it (NV hei)).trans q⟩;have e1:((i+1:Nat):Int)=(i:Int)+1:=by omega
   rw [e1];exact he2
  ·have hb':b<s.heap.objs.size:=by
    rcases My.mp hb with z|hb
    ·rw [z];exact hlt
    ·rw [Md.mp hb];exact hlt2
   rw [aq (Mp hb')];exact (hf b hb).1
 done:=by
  intro X hP hw hK hc i pins s σ H E I hf st hg;subst hP hw hK;obtain ⟨xs,hq,hx⟩:=hg;obtain ⟨its,rv,p,hz⟩:=I.list hq;obtain ⟨⟨old,he⟩,hit⟩:=st;have hl:=rv.length;obtain ⟨f0,f1,f2,f3,f4,f5⟩:=hf it (by simp)
  exact wpAny_pyNext_enum_end (I.ok.hd hc) he hit p.isList (by simp;omega) fun h' eb=>⟨rfl,I.turned (t':=s.toks) (fun b o hb e=>eb b o hb e) f0 f1 f3 f4 f5⟩
 self:=fun _ _ _ _ _ st h=>by
  obtain ⟨⟨old,he⟩,_⟩:=st;exact wpAny_pyIter_enum he h
def CY (K:LM) (vs:List V) (H:Hp) (R:It->Hp->Prop):Prop:=∃ a xs,vs=[.ref a]/\SqL K H a xs/\R (Ite K a) H
def CO (K:LM) (ta:TA):TI:=fun σ H R=>ta σ H fun vs H1=>CY K vs H1 R
theorem HA {X:Cx} (K:LM) (hK:X.K=K) {tgs:List Expr} {kk:Nat} {tpos:Pos} {a:Expr} {ta:TA} {p pos:Pos} (hg:Gl X "enumerate") (hm:X.mg "enumerate" = none) (ha:PA X [a] ta) (hs:MZ [a] X.env=[(false,eval a X.env)]:=by rfl) :
  PI X (.Tuple tgs kk tpos) (.Call (.Name "enumerate" p) [a] [] pos) (CO K ta):=by
 subst hK;intro pins s σ H R I h;refine Call_ (mO I hg hm boot_enumerate (NA (thn (ha pos pins s σ H _ I h) fun us s1 ⟨vs,H1,I1,r1,q1⟩=>?_) hs rfl));obtain ⟨l,xs,e,hS,q⟩:=q1;subst e;cases r1 with
 | cons r rr =>
  cases rr;cases (show _=Mw l from r);obtain ⟨its,rv,pl,hz⟩:=I1.list hS;refine call_enumerate_list pl.isList fun h' he hit hsz hk=>?_;refine wpAny_pyIter_enum he ?_;have I2:Inv X pins σ H1 { s1 with heap:=h' }:=I1.kept (t':=s1.toks) hk;refine ⟨s1.heap.objs.size+1,[s1.heap.objs.size+1,s1.heap.objs.size],_,_,H1,rfl,I2,Ft l _ _ (Nat.succ_ne_self _),⟨⟨.none,he⟩,hit⟩,fun b hb=>?_,q⟩;rcases My.mp hb with z|hb
  ·rw [z];exact I1.uJ (OL _) (I1.hok.fresh (OL _))
  ·rw [Md.mp hb];exact I1.uJ (Mi _) (I1.hok.fresh (Mi _))
def Ci:V->List V->Hp->VK->Prop:=fun x vs H Q=>∃ (l:Addr) (xs:List V) (k:Int) (y:V),x=.ref l/\vs=[.int k,y]/\H l=some (.lst xs)/\0<=k/\k.toNat<=xs.length/\xs.length<1000000/\Q .non (upd H l (.lst (xs.take k.toNat++y :: xs.drop k.toNat)))
theorem DD (its:List Value) (u2:Value) (k:Int) (h0:0<=k) (hi:k.toNat<=its.length) :
  (fun xs:Array Value=>(xs.extract 0 (if k<0 then (k+(xs.size:Int)).toNat else min k.toNat xs.size)).push u2++xs.extract (if k<0 then (k+(xs.size:Int)).toNat else min k.toNat xs.size)) its.toArray=(its.take k.toNat++u2 :: its.drop k.toNat).toArray:=by
 have h1:¬ (k<0):=by omega
 have hm:min k.toNat its.toArray.size=k.toNat:=by rw [ME];omega
 dsimp only;rw [if_neg h1,hm];simp;exact MD (by simp)
theorem E4 {X:Cx}:MtM X "list.insert" Ci:=by
 intro pins s σ H x vs v us Q I rx rv h;obtain ⟨l,xs,k,y,rfl,rfl,hH,h0,hi,hl,q⟩:=h;cases rx;obtain ⟨u1,u2,rfl,r1,r2⟩:=rv.two;obtain ⟨t,rfl⟩:=(show ∃ t,u1=O3 k t from r1);obtain ⟨z,its,n,r,hl',e⟩:=I.xa hH;have hz2:its.toArray.size<=MB:=by
  have e1:its.toArray.size=its.length:=ME ..;omega
 have hfit:¬ (!Builtin.List.listFitsIndex k)=true:=by
  unfold Builtin.List.listFitsIndex;simp;omega
 have M3:=AutoSeq1.list_insert_list_int_val_1 l its.toArray n k t u2 hfit hz2;refine Q4 F.slot_list_insert ⟨_,e,rfl⟩ F.entry_list_insert (F.args_list_insert_3 _ _ _) M3 ⟨e,?_⟩;have hv:Vals (xs.take k.toNat++y :: xs.drop k.toNat) (its.take k.toNat++u2 :: its.drop k.toNat):=(Vals.take k.toNat r).append (.cons r2 (Vals.drop k.toNat r));refine ⟨.non,_,I.JS (its':=its.take k.toNat++u2 :: its.drop k.toNat) hH e (DD its u2 k h0 (by omega)) hv ?_,rfl,q⟩
 rw [Mo,MX,Mz,Qj,NJ];omega
def FL:List V->Hp->VK->Prop:=fun xs H Q=>∃ j:Int,xs=[.int j]/\∀ p,H p=none->Q (.ref p) (upd H p (.rng 0 j))
theorem uB {X:Cx}:cW X (.type "range") FL:=by
 intro pins s σ H xs us Q I r h;obtain ⟨j,rfl,q⟩:=h;obtain ⟨u,rfl,ru⟩:=vals1 r;obtain ⟨t,rfl⟩:=(show ∃ t,u=O3 j t from ru);refine call_range_1 ?_;refine ⟨.ref s.heap.objs.size,_,I.laid (fun b u e=>LV _ e) (Mi _) ?_,rfl,q _ (I.hok.fresh (Mi _))⟩;exact ⟨_,_,_,Mx _ rfl⟩
def wa:List V->Hp->VK->Prop:=fun xs H Q=>∃ (p:Addr) (n:Nat),xs=[.ref p]/\H p=some (.rng 0 (n:Int))/\n<=1000000/\∀ l,H l=none->Q (.ref l) (upd H l (.lst ((L4 n).map fun (i:Nat)=>V.int (i:Int))))
theorem uy:∀ {xs:List V} {us:List Value},xs.length=us.length->(∀ (i:Nat) (x:V) (u:Value),xs[i]?=some x->us[i]?=some u->RelV x u)->Vals xs us
 | [],[],_,_=>.nil
 | [],_ :: _,h,_=>by cases h
 | _ :: _,[],h,_=>by cases h
 | x :: xs,u :: us,h,g=>.cons (g 0 x u rfl rfl) (uy (by simpa using h) fun i y v hy hv=>g (i+1) y v (by simpa using hy) (by simpa using hv))
theorem Ep {n:Nat} (h:n<=1000000):n<=MB:=by rw [NJ];omega
theorem qr {X:Cx} (hc:X.calm=true):cW X (.type "list") wa:=by
 intro pins s σ H xs us Q I r h;obtain ⟨p,n,rfl,hp,hn,q⟩:=h;obtain ⟨u,rfl,ru⟩:=vals1 r;cases (show u=Mw p from ru);obtain ⟨t1,t2,t3,hr⟩:=(show bB X.prog X.w H s.heap p (.rng 0 (n:Int)) from I.hok p _ hp);have hs:Rj 0 (n:Int) 1=n:=by rw [rangeSize_one];split <;> omega
 refine call_list_range (n:=n) (I.ok.hd hc) hr (small_one (by omega) (by omega) (by omega) (by omega)) (by exact_mod_cast hs) (by omega) fun h' tk acc c' hk hS hacc=>?_
 refine ⟨.ref s.heap.objs.size,_,I.laid hk (Mi _) ?_,rfl,q _ (I.hok.fresh (Mi _))⟩;obtain ⟨ha1,ha2⟩:=hacc;have hl:((L4 n).map fun (i:Nat)=>V.int (i:Int)).length=acc.toList.length:=by simp;exact ha1.symm
 refine ⟨by simp;exact Ep hn,acc.toList,c',uy hl fun i x u hx hu=>?_,by simpa using hS⟩
 have hi:i<n:=by
  have:=(LQ.mp hx).1
  simpa using this
 obtain ⟨t,e⟩:=ha2 i u (by simpa using hu)
 have ex:x=V.int (i:Int):=by
  rw [Mf,O0 hi] at hx;exact (ML hx).symm
 rw [ex];exact ⟨t,by simpa using e⟩
section
variable {σ:St} {H:Hp} {Q:VK} {D:Ends} {K:LM} {t:TS} {ta tb:TE} {g:TG} {v w x y:V} {tA:TA} {a:Int}
theorem B9 {n:Int} (q:∀ p,H p=none->Q (.ref p) (upd H p (.rng 0 n))):FL [.int n] H Q:=⟨n,rfl,q⟩
theorem me {l:List Nat}:Nt (Rep.is K H) (l.map fun (n:Nat)=>V.int (n:Int)) l:=by
 have q:=Paired.of_map (F:=fun (v:V) (a:Nat)=>v=.int (a:Int)) (f:=fun (n:Nat)=>V.int (n:Int)) (g:=id) (fun _=>rfl) l;rw [Qu] at q;exact q
theorem uA {p:Addr} {n:Nat} (hp:H p=some (.rng 0 (n:Int))) (hn:n<=1000000) (q:∀ l H',H l=none->aj H H'->Gr K H' l (L4 n)->Q (.ref l) H'):wa [.ref p] H Q :=
 ⟨p,n,rfl,hp,hn,fun l hl=>q l _ hl (ay hl _) ⟨_,ao,me⟩⟩
theorem vC {to ti:TE} {ts:DI} {QS:St->Hp->Prop} (h:to σ H fun o H1=>ti σ H1 fun i H2=>ts o i v H2 fun H3=>QS σ H3):Ko to ti ts v σ H QS:=h
theorem Ao {p:Addr} {xs:List V} {j:Nat} {QH:Hp->Prop} (hp:H p=some (.lst xs)) (e:a=(j:Int)) (hj:j<xs.length) (q:QH (upd H p (.lst (xs.set j v)))):HM (.ref p) (.int a) v H QH:=by
 subst e;refine ⟨p,xs,_,j,rfl,rfl,hp,?_,q⟩;unfold ixN;rw [if_pos (by omega),if_pos (by omega)]
 rfl
def isP (vs:List V) (H:Hp) (k:V->V->Hp->Prop):Prop:=∃ v w,vs=[v,w]/\k v w H
theorem yV {i j:Nat} (h:tA σ H fun vs H1=>isP vs H1 fun v w H1=>D.nx ((σ.set i (some v)).set j (some w)) H1):Kp i j tA D σ H:=h
theorem vE {k:V->V->Hp->Prop} (h:k x y H):isP [x,y] H k:=⟨x,y,rfl,h⟩
theorem ug {R:It->Hp->Prop} (h:tA σ H fun vs H1=>CY K vs H1 R):CO K tA σ H R:=h
theorem t9 {α:Type} [Rep α] {l:List α} {ia ib:Nat} {H₀:Hp} (h:At K H₀ v l) (Pv:Nat->St->Hp->Prop) (h0:Pv 0 σ H) (hl:∀ i σ' H',Pv i σ' H'->aj H₀ H')
  (hs:∀ i c w σ' H' H'' p,l[i]?=some c->At K H₀ w c->Pv i σ' H'->H' p=none->H''=upd H' p (.tup [.int (i:Int),w])->aj H' H''->t { D with nx:=Pv (i+1),ct:=Pv (i+1),bk:=D.nx } ((σ'.set ia (some (.int (i:Int)))).set ib (some w)) H'')
  (hd:∀ σ' H',Pv l.length σ' H'->D.nx σ' H'):CY K [v] H (tT (Am K 2 (nK (gj ia) (nK (gj ib) zY))) t D σ):=by
 obtain ⟨p,xs,rfl,hS,hP⟩:=h;have hlen:=hP.length;refine ⟨p,xs,rfl,(hl 0 σ H h0).seq hS,fun i m σ' H'=>m=xs.length - i/\i<=xs.length/\Pv i σ' H',⟨xs.length,by simp,Nd _,h0⟩,?_⟩
 rintro i m σ' H' ⟨rfl,hi,p0⟩;have q:=(hl i σ' H' p0).seq hS
 by_cases hlt:i<xs.length
 ·refine .inr ⟨⟨xs,xs[i],q,by simp [hlt]⟩,Pv (i+1),fun σ2 H2 p'=>⟨xs.length - (i+1),by omega,rfl,hlt,p'⟩,fun z H2 yl=>?_⟩
  obtain ⟨d,w,rfl,hd',rfl,hw⟩:=yl;have hx:=hw xs q;obtain ⟨c,hc,r⟩:=Paired.getL hP hx;refine ⟨d,[.int (i:Int),w],rfl,SqT.of ao,rfl,⟨_,_,rfl,⟨_,_,rfl,⟨rfl,?_⟩⟩⟩⟩;exact hs i c w σ' H' _ d hc r p0 hd' rfl (ay hd' _)
 ·have e:i=xs.length:=by omega
  subst e;exact .inl ⟨⟨xs,q,Mi _⟩,hd σ' H' (by rw [hlen] at p0;exact p0)⟩
end
def aY (r:List Nat):List V:=r.map fun (n:Nat)=>V.int (n:Int)
structure Tbl (H:Hp) (d:Addr) (rows:List (List Nat)) (ps:List Addr):Prop where
 top:H d=some (.lst (ps.map V.ref))
 nd:ps.Nodup
 ap:d∉ps
 len:ps.length=rows.length
 row:∀ (i:Nat) (p:Addr) (r:List Nat),ps[i]?=some p->rows[i]?=some r->H p=some (.lst (aY r))
section
variable {H H':Hp} {d:Addr} {rows:List (List Nat)} {ps:List Addr} {K:LM}
theorem Tbl.mono (s:aj H H') (h:Tbl H d rows ps):Tbl H' d rows ps:=⟨s _ _ h.top,h.nd,h.ap,h.len,fun i p r e1 e2=>s _ _ (h.row i p r e1 e2)⟩
theorem rM {α β:Type} {F:α->β->Prop}:∀ {xs:List α} {ys:List β},xs.length=ys.length->(∀ (i:Nat) (x:α) (y:β),xs[i]?=some x->ys[i]?=some y->F x y)->Nt F xs ys
 | [],[],_,_=>.nil
 | [],_ :: _,h,_=>by cases h
 | _ :: _,[],h,_=>by cases h
 | x :: xs,y :: ys,h,g=>.cons (g 0 x y rfl rfl) (rM (by simpa using h) fun i u v hu hv=>g (i+1) u v (by simpa using hu) (by simpa using hv))
theorem Tbl.at (h:Tbl H d rows ps):At K H (.ref d) rows:=by
 refine ⟨d,_,rfl,SqL.of h.top,rM (by rw [LO,h.len]) fun i x r hx hr=>?_⟩
 rw [Mf] at hx;cases e:ps[i]? with
 | none=>rw [e] at hx;cases hx
 | some p =>
  rw [e] at hx;have hx':x=V.ref p:=(ML hx).symm;rw [hx'];exact ⟨p,_,rfl,SqL.of (h.row i p r e hr),me⟩
theorem Tbl.get (h:Tbl H d rows ps) {i:Nat} {r:List Nat} (e:rows[i]?=some r):∃ p,ps[i]?=some p/\H p=some (.lst (aY r)):=by
 have hi:i<ps.length:=by rw [h.len];exact (LQ.mp e).1
 exact ⟨ps[i],by simp [hi],h.row i _ r (by simp [hi]) e⟩
theorem Tbl.set (h:Tbl H d rows ps) {i j n:Nat} {p:Addr} {r:List Nat} (e:rows[i]?=some r) (hp:ps[i]?=some p):Tbl (upd H p (.lst ((aY r).set j (.int (n:Int))))) d (rows.set i (r.set j n)) ps:=by
 have hi:i<ps.length:=(LQ.mp hp).1;have mem:p∈ps:=LR hp;refine ⟨by rw [aq (fun z=>h.ap (by rw [z];exact mem))];exact h.top,h.nd,h.ap,by rw [Qt];exact h.len,fun k q r' hq hr=>?_⟩
 by_cases hk:k=i
 ·subst hk;rw [hp] at hq;cases hq;rw [NL (by rw [<- h.len];exact hi)] at hr
  cases hr;rw [ao];unfold aY;rw [List.map_set]
 ·rw [N2 (NV hk)] at hr;have hne:q≠p:=fun z=>hk (by
   subst z;have h1:=(LQ.mp hq);have h2:=(LQ.mp hp);exact (Qi h.nd).mp (h1.2.trans h2.2.symm))
  rw [aq hne];exact h.row k q r' hq hr
end
theorem qN {K:LM} {H:Hp} {v:V} {Q:VK} {σ:St} {rows:List (List Nat)} {x:Str} (h:At K H v rows) (hz:rows.length<=100000) (fin:∀ d H' ps,aj H H'->H d=none->(∀ p∈ps,H p=none)->Tbl H' d rows ps->Q (.ref d) H') :
  m9 K v H (fF [x] [] (gj 0) w5 (tCB (D7 K) (lq (uZ 0) tE)) σ Q):=by
 obtain ⟨p,xs,rfl,hS,hP⟩:=h;have hl:=hP.length;refine ⟨p,rfl,⟨xs,hS⟩,fun d hd=>?_⟩;refine ⟨fun i m σ' H'=>m=xs.length - i/\i<=xs.length/\(∃ y,σ'=[y])/\aj H H'/\∃ ps,(∀ p∈ps,H p=none)/\Tbl H' d (rows.take i) ps,⟨xs.length,rfl,Nd _,⟨_,rfl⟩,ay hd _,[],by simp,⟨ao,QU,by simp,by simp,fun i p r e _=>by simp at e⟩⟩,?_⟩
 rintro i m σ' H' ⟨rfl,hi,⟨y,rfl⟩,hs,ps,hps,T⟩
 by_cases hlt:i<xs.length
 ·refine .inr ⟨⟨xs,xs[i],hs.seq hS,by simp [hlt]⟩,fun z H2 yl=>?_⟩
  obtain ⟨rfl,hz'⟩:=yl;have hx:=hz' xs (hs.seq hS);obtain ⟨c,hc,r⟩:=Paired.getL hP hx;obtain ⟨q,e,hq⟩:=lZ (Rep.mono hs r);subst e;have tl:=T.len;have hci:i<rows.length:=(LQ.mp hc).1;rw [Mz,Nat.min_eq_left (by omega)] at tl
  refine sH ?_;refine v7 ?_;refine lT ?_;refine ⟨_,rfl,q,_,rfl,.inl hq,fun l hl'=>?_⟩;have nld:l≠d:=fun e=>by rw [e,T.top] at hl';cases hl'
  have hHl:H l=none:=hs.free hl';refine ⟨_,(by rw [aq nld.symm];exact T.top),?_,xs.length - (i+1),by omega,rfl,hlt,⟨_,rfl⟩,fun b o eb=>?_,ps++[l],fun p' hp'=>?_,?_⟩
  ·rw [LO,tl,NJ];omega
  ·rw [aq (aA eb hd),aq (aA eb hHl)];exact hs b o eb
  ·rcases MC.mp hp' with z|z
   ·exact hps p' z
   ·rw [Md.mp z];exact hHl
  ·have nlp:l∉ps:=fun z=>by
    obtain ⟨k,hk⟩:=Ni z;have hk':k<i:=by have:=(LQ.mp hk).1;omega
    have hr:(rows.take i)[k]?=some (rows[k]'(by omega)):=by rw [NS hk'];simp
    have z1:=T.row k l _ hk hr;rw [z1] at hl';cases hl'
   refine ⟨by rw [ao,MQ];rfl,?_,?_,?_,fun k p' r' hk hr=>?_⟩
   ·rw [P6];exact ⟨T.nd,by simp,fun a ha b hb=>by rw [Md.mp hb];exact fun z=>nlp (z ▸ ha)⟩
   ·intro z;rcases MC.mp z with z|z
    ·exact T.ap z
    ·exact nld (Md.mp z).symm
   ·rw [Mo,Mz,Nat.min_eq_left (by omega)];simp;omega
   ·have nd':p'≠d:=fun z=>by
     rw [z] at hk;rcases MC.mp (LR hk) with z' | z'
     ·exact T.ap z'
     ·exact nld (Md.mp z').symm
    rw [aq nd']
    by_cases hki:k<i
    ·rw [MP (by omega)] at hk
     have hr2:(rows.take i)[k]?=some r':=by
      rw [NS (by omega)] at hr ⊢;exact hr
     have np:p'≠l:=fun z=>nlp (by rw [<- z];exact LR hk)
     rw [aq np];exact T.row k p' r' hk hr2
    ·have hk2:k<i+1:=by
      have:=(LQ.mp hr).1;rw [Mz] at this;omega
     have ek:k=i:=by omega
     subst ek;rw [MM (by omega),tl,S7] at hk
     have e1:l=p':=by simpa using hk
     subst e1;rw [NS (by omega),hc] at hr
     cases hr;rw [ao];unfold aY;rfl
 ·have e:i=xs.length:=by omega
  subst e;refine .inl ⟨⟨xs,hs.seq hS,Mi _⟩,?_⟩;rw [hl,NF] at T;exact fin d H' ps hs hd hps T
def Wr (K:LM) {α:Type} [Rep α] (t:TE) (a:α):Prop:=∀ σ H Q,(∀ v H',aj H H'->At K H' v a->Q v H')->t σ H Q
def WrA (K:LM) {α:Type} [Rep α] (t:TA) (l:List α):Prop:=∀ σ H Q,(∀ vs H',aj H H'->Nt (Rep.is K H') vs l->Q vs H')->t σ H Q
section
variable {K:LM} {α:Type} [Rep α] {t:TE} {tA:TA} {a:α} {l:List α}
theorem E5 {n:Nat} {i:Int} (e:i=(n:Int)):Wr K (tC (.int i)) n:=fun _ H _ q=>q _ H (aj.refl _) (by rw [e];rfl)
theorem jS:WrA K tE ([]:List α):=fun _ H _ q=>q [] H (aj.refl _) .nil
theorem t6 (h:Wr K t a) (hr:WrA K tA l):WrA K (lq t tA) (a :: l):=fun σ H Q q=>h σ H _ fun v H1 s1 a1=>hr σ H1 _ fun vs H2 s2 a2=>q _ H2 (s1.trans s2) (.cons (Rep.mono s2 a1) a2)
theorem FQ (h:WrA K tA l) (hz:l.length<=1000):Wr K (AO tA) l:=fun σ H Q q=>h σ H _ fun vs H1 s1 a1=>⟨by have:=a1.length;exact small (by omega),fun p hp=>q _ _ (s1.trans (ay hp _)) ⟨p,vs,rfl,SqL.of ao,Paired.dY a1 fun _ _ z=>Rep.mono (ay hp _) z⟩⟩
end
theorem HY {K:LM} {α:Type} [Rep α] {H:Hp} {x y:V} {l r:List α} {Q:VK} (hx:∃ p xs,x=.ref p/\H p=some (.lst xs)/\Nt (Rep.is K H) xs l) (hy:∃ p xs,y=.ref p/\H p=some (.lst xs)/\Nt (Rep.is K H) xs r) (hz:l.length+r.length<=100000)
  (q:∀ d H',H d=none->aj H H'->At K H' (.ref d) (l++r)->Q (.ref d) H'):Gb x y H Q:=by
 obtain ⟨p,xs,rfl,h1,r1⟩:=hx;obtain ⟨p',ys,rfl,h2,r2⟩:=hy;have e1:=r1.length;have e2:=r2.length;refine ⟨p,p',xs,ys,rfl,rfl,h1,h2,by rw [NJ];omega,fun d hd=>q d _ hd (ay hd _) ⟨d,_,rfl,SqL.of ao,Paired.app (Paired.dY r1 fun _ _ z=>Rep.mono (ay hd _) z) (Paired.dY r2 fun _ _ z=>Rep.mono (ay hd _) z)⟩⟩
def isStar:Expr->Bool
 | .Starred ..=>true
 | _=>false
theorem bD {e:Expr} {es:List Expr} {env:Env} (h:isStar e=false):MZ (e :: es) env=(false,eval e env) :: MZ es env:=by
 cases e <;> first|rfl|cases h
theorem cg {env:Env} {pos:Pos}:∀ {es:List Expr},es.all (fun e=>!isStar e)=true->(backTo pos (MZ es env)).any (·.1)=false
 | [],_=>rfl
 | e :: es,h=>by
  rw [Rm,NO] at h;rw [bD (by simpa using h.1)]
  have ih:=cg (env:=env) (pos:=pos) h.2;show (backTo pos ((false,eval e env) :: MZ es env)).any (·.1)=false;unfold backTo at ih ⊢
  simpa using ih
theorem GA {env:Env} {pos:Pos} {es:List Expr} (h:es.all (fun e=>!isStar e)=true) (hl:es.length<30):((backTo pos (MZ es env)).all (fun x=>!x.1) && (backToKw pos (keywordEach [] env)).all (fun x=>x.1.isSome)
   && decide (es.length+([]:List RV).length+(if ([]:List RV).isEmpty then 0 else 1)<30))=true:=by
 have h1:=cg (env:=env) (pos:=pos) h;have h2:(backTo pos (MZ es env)).all (fun x=>!x.1)=true:=by
  rw [P2] at h1;rw [MA];intro x hx;have:=h1 x hx
  simpa using this
 rw [h2];show (true && true && decide (es.length+0+0<30))=true
 simpa using hl
section
variable {X:Cx} {e o:Expr} {es:List Expr} {te:TE} {t:TA} {x:Str} {st:Stmt} {ps:List Str} {k:Nat} {sp:Sp} {p pos:Pos}
theorem paF (ha:PE X e te) (hr:PA X es t) (hn:isStar e=false:=by rfl):PA X (e :: es) (lq te t):=wY ha hr (bD hn)
theorem aO (d:Df X.K X.mg x st ps) (G:aI X.prog X.w X.K X.mg X.base CX0 k d.f d.fd ps sp) (hr:bT k X.A) (hg:Gl X x) (ha:PA X (e :: es) t) (hn:isStar e=false:=by rfl) (hall:es.all (fun e=>!isStar e)=true:=by rfl) (hdb:(x == ("__debug__" : Str))=false:=by decide) :
  PE X (.Call (.Name x p) (e :: es) [] pos) (oR sp [] E0 t):=Ld d G hr hg ha hdb (bD hn) (cg hall)
theorem av {id:String} {r:List V->Hp->VK->Prop} (hc:cW X (.builtin id) r) (hg:Gl X x) (hm:X.mg x=none) (hv:bootBuiltins x=some (.builtin id)) (ha:PA X (e :: es) t) (hn':isStar e=false:=by rfl) (hall:es.all (fun e=>!isStar e)=true:=by rfl) (hn:x ≠ "__name__":=by decide) (hdb:(x == ("__debug__" : Str))=false:=by decide) :
  PE X (.Call (.Name x p) (e :: es) [] pos) (tCB r t):=G5 hc hg hm hv ha hn hdb (bD hn') (cg hall)
theorem cp {T:String} {r:List V->Hp->VK->Prop} (hc:cW X (.type T) r) (hg:Gl X x) (hm:X.mg x=none) (hv:bootBuiltins x=some (.type T)) (ha:PA X (e :: es) t) (hn':isStar e=false:=by rfl) (hall:es.all (fun e=>!isStar e)=true:=by rfl) (hn:x ≠ "__name__":=by decide) (hdb:(x == ("__debug__" : Str))=false:=by decide) :
  PE X (.Call (.Name x p) (e :: es) [] pos) (tCB r t):=ER hc hg hm hv ha hn hdb (bD hn') (cg hall)
theorem fA (K:LM) (hK:X.K=K) {T id:String} {name:Str} {r:V->List V->Hp->VK->Prop} {to:TE} {apos cpos:Pos} (pa:PlainAttrs T) (slot:Slot T name id) (hty:typeOf (.builtin id)=pure (.type "method_descriptor")) (hm:MtR X id r) (ho:PE X o to) (ha:PA X (e :: es) t)
  (hbase:attributeBase o name X.env (eval o X.env)=eval o X.env:=by rfl) (hn:isStar e=false:=by rfl) (hall:es.all (fun e=>!isStar e)=true:=by rfl) (hl:(e :: es).length<30:=by decide) (hline:(apos.endLine == cpos.line)=true:=by rfl) :
  PE X (.Call (.Attribute o name apos) (e :: es) [] cpos) (tBM K T r to t) :=
 JP K hK pa slot hty hm ho ha hbase (GA (by rw [Rm,hn,hall];rfl) hl) hline (bD hn) (cg hall)
theorem bb {tg a:Expr} {ta:TA} (hg:Gl X "range") (hm:X.mg "range" = none) (ha:PA X [a] ta) (hn:isStar a=false:=by rfl):PI X tg (.Call (.Name "range" p) [a] [] pos) (DA ta):=Eu hg hm ha (bD hn)
theorem oy (K:LM) (hK:X.K=K) {tgs:List Expr} {kk:Nat} {tpos:Pos} {a:Expr} {ta:TA} (hg:Gl X "enumerate") (hm:X.mg "enumerate" = none) (ha:PA X [a] ta) (hn:isStar a=false:=by rfl) :
  PI X (.Tuple tgs kk tpos) (.Call (.Name "enumerate" p) [a] [] pos) (CO K ta):=HA K hK hg hm ha (bD hn)
end
section
variable {X:Cx} {CX:CXT} {k:Nat} {f C:Addr} {fd:M9} {ps:List Str} {sp:Sp} {dvs:List V} {ds:List Value} {E:XK} {x:Str} {p pos:Pos} {e:Expr} {es:List Expr} {t:TA}
theorem Aa (M:Mk X.K C f) (F:aI X.prog X.w X.K X.mg X.base CX k f fd ps sp) (hr:bT (k+1) X.A) (hg:Gl X x) (hm:X.mg x=some (.ref C)) (hb:Binds X.K fd ps ds) (hd:Vals dvs ds) (hx:Passes CX X E)
  (ha:PA X (e :: es) t) (hn:isStar e=false:=by rfl) (hall:es.all (fun e=>!isStar e)=true:=by rfl) (hdb:(x == ("__debug__" : Str))=false:=by decide):PE X (.Call (.Name x p) (e :: es) [] pos) (Dr C sp dvs E t) :=
 Jt M F hr hg hm hb hd hx ha hdb (bD hn) (cg hall)
end
section
variable {σ:St} {H H':Hp} {Q:VK} {K:LM} {a b:Nat}
theorem LG {n:Nat} (h:Q (.int ((@OfNat.ofNat Nat n (instOfNatNat n):Nat):Int)) H):tC (.int (@OfNat.ofNat Int n instOfNat)) σ H Q:=h
theorem J7 (q:Q (.int ((a+b:Nat):Int)) H):rI0 (fun i j=>.int (i+j)) (.int (a:Int)) (.int (b:Int)) H Q:=⟨a,b,rfl,rfl,by
 have e:(a:Int)+(b:Int)=((a+b:Nat):Int):=by omega
 dsimp only;rw [e];exact q⟩
theorem zV (h:a<18446744073709551616\/b<18446744073709551616) (q:Q (.int ((a * b:Nat):Int)) H):rI DE (fun i j=>.int (i * j)) (.int (a:Int)) (.int (b:Int)) H Q:=⟨a,b,rfl,rfl,by
 rcases h with h|h
 ·exact .inl ⟨by omega,by omega⟩
 ·exact .inr ⟨by omega,by omega⟩,by
 have e:(a:Int) * (b:Int)=((a * b:Nat):Int):=by push_cast;rfl
 dsimp only;rw [e];exact q⟩
theorem zL (h:0<b) (q:Q (.int ((a % b:Nat):Int)) H):rI (fun _ j=>0<j) (fun i j=>.int (i % j)) (.int (a:Int)) (.int (b:Int)) H Q:=⟨a,b,rfl,rfl,by omega,by
 have e:(a:Int) % (b:Int)=((a % b:Nat):Int):=by push_cast;rfl
 dsimp only;rw [e];exact q⟩
theorem zE (h:0<b) (h2:b<1073741824) (q:Q (.int ((a / b:Nat):Int)) H):rI GI (fun i j=>.int (i / j)) (.int (a:Int)) (.int (b:Int)) H Q:=⟨a,b,rfl,rfl,⟨by omega,by omega⟩,by
 have e:(a:Int) / (b:Int)=((a / b:Nat):Int):=by push_cast;rfl
 dsimp only;rw [e];exact q⟩
theorem nZ {p q:Prop} [Decidable p] [Decidable q] (h:p↔q) {R:Bool->Prop} (z:R (decide q)):R (decide p):=by
 rw [decide_eq_decide.mpr h];exact z
theorem Li (q:Q (.bl (decide (a=b))) H):rEq (.int (a:Int)) (.int (b:Int)) H Q:=vL (nZ (R:=fun k=>Q (.bl k) H) (by omega) q)
theorem Lw (q:Q (.bl (!decide (a=b))) H):rNe (.int (a:Int)) (.int (b:Int)) H Q:=vv (nZ (R:=fun k=>Q (.bl (!k)) H) (by omega) q)
theorem Lb (q:Q (.bl (decide (a<b))) H):rI0 (fun i j=>.bl (decide (i<j))) (.int (a:Int)) (.int (b:Int)) H Q:=⟨a,b,rfl,rfl,nZ (R:=fun k=>Q (.bl k) H) (by omega) q⟩
theorem K6 (q:Q (.bl (decide (b<a))) H):rI0 (fun i j=>.bl (decide (j<i))) (.int (a:Int)) (.int (b:Int)) H Q:=⟨a,b,rfl,rfl,nZ (R:=fun k=>Q (.bl k) H) (by omega) q⟩
theorem Lh (q:Q (.bl (decide (b<=a))) H):rI0 (fun i j=>.bl (decide (j<=i))) (.int (a:Int)) (.int (b:Int)) H Q:=⟨a,b,rfl,rfl,nZ (R:=fun k=>Q (.bl k) H) (by omega) q⟩
theorem bF {v:V} {l:List Nat} {n c:Nat} (h:At K H v l) (hn:l[n]?=some c) (q:Q (.int (c:Int)) H):qR K v (.int (n:Int)) H Q:=j7 h rfl hn q
end
section
variable {β:Type} [Rep β] {K:LM} {H H':Hp} {d:Addr} {l:List β} {y:V} {b:β} {Q:VK}
theorem Gy {k:Nat} (h:Gr K H d l) (hk:k<=l.length) (hl:l.length<=100000) (hy:At K (del H d) y b) (q:∀ H',Gr K H' d (l.take k++b :: l.drop k)->(∀ a o,a≠d->H a=some o->H' a=some o)->Q .non H'):Ci (.ref d) [.int (k:Int),y] H Q:=by
 obtain ⟨ys,h1,h2⟩:=h;have e:=h2.length;refine ⟨d,ys,k,y,rfl,rfl,h1,by omega,by omega,by omega,?_⟩
 refine q _ ⟨_,ao,?_⟩ (fun a o ha z=>by rw [aq ha];exact z)
 rw [NT];exact Paired.app (Paired.zm k (Paired.dY h2 fun _ _ z=>Rep.mono lX z)) (.cons (Rep.mono lX hy) (Paired.y6 k (Paired.dY h2 fun _ _ z=>Rep.mono lX z)))
end
theorem Lc {H H':Hp} {d:Addr} (k:∀ a o,a≠d->H a=some o->H' a=some o):aj (del H d) (del H' d):=fun b o h=>by
 by_cases hb:b=d
 ·rw [hb] at h;have z:del H d d=none:=if_pos rfl;rw [z] at h;cases h
 ·rw [gK hb] at h ⊢;exact k b o hb h
theorem qY {K:LM} {H:Hp} {p d:Addr} {l:List Nat} (h:Gr K H p l) (hne:p≠d):At K (del H d) (.ref p) l:=by
 obtain ⟨ys,hy,hP⟩:=h;refine ⟨p,ys,rfl,SqL.of (by rw [gK hne];exact hy),?_⟩
 exact Paired.dY hP fun _ _ z=>z
theorem Le {K:LM} {H:Hp} {d:Addr} {rows:List (List Nat)} {ps:List Addr} {i:Nat} {p:Addr} {Q:VK} (h:Tbl H d rows ps) (hp:ps[i]?=some p) (q:Q (.ref p) H):qR K (.ref d) (.int (i:Int)) H Q :=
 ⟨d,_,_,_,rfl,rfl,SqL.of h.top,qy (by rw [Mf,hp];rfl),q⟩
theorem G7 {α:Type} (l:List α):cut l (some 1) none=l.drop 1:=by
 unfold cut;have e:HT.sIx l.length 0 (some 1)=min 1 l.length:=HT.IJ l.length 0 1;rw [e,HT.Gf];cases l with
 | nil=>rfl
 | cons x r =>
  have:min 1 (x :: r).length=1:=by simp
  rw [this];exact MD (by simp)
theorem Gr.copy {α:Type} [Rep α] {K:LM} {H:Hp} {d:Addr} {l:List α} (h:Gr K H d l):∃ p xs,V.ref d=.ref p/\H p=some (.lst xs)/\Nt (Rep.is K H) xs l:=by
 obtain ⟨ys,h1,h2⟩:=h;exact ⟨d,ys,rfl,h1,Paired.dY h2 fun _ _ z=>Rep.mono pM z⟩
theorem cV {K:LM} {α:Type} [Rep α] {tA:TA} {l:List α} (h:WrA K tA l) (hz:l.length<=1000) {σ:St} {H:Hp} {Q:VK} (q:∀ d H',H d=none->aj H H'->Gr K H' d l->Q (.ref d) H'):AO tA σ H Q :=
 h σ H _ fun vs H1 s1 a1=>⟨by have:=a1.length;exact small (by omega),fun p hp=>q p _ (s1.free hp) (s1.trans (ay hp _)) ⟨vs,ao,Paired.dY a1 fun _ _ z=>Rep.mono (fun b o e=>by
  have hb:b≠p:=aA e hp;rw [gK hb,aq hb];exact e) z⟩⟩
def since (H H':Hp):Hp:=fun a=>match H a with
 | none=>H' a
 | some _=>none
section
variable {H H' H'':Hp} {a d:Addr} {rows:List (List Nat)} {ps:List Addr} {K:LM}
theorem ky (h:H a=none):since H H' a=H' a:=by unfold since;rw [h]
theorem Hh:aj (since H H') H':=fun b o h=>by
 unfold since at h
 split at h
 ·exact h
 ·cases h
theorem Tbl.since (h:Tbl H' d rows ps) (fd:H d=none) (fps:∀ p∈ps,H p=none):Tbl (since H H') d rows ps :=
 ⟨by rw [ky fd];exact h.top,h.nd,h.ap,h.len,fun i p r e1 e2=>by rw [ky (fps p (LR e1))];exact h.row i p r e1 e2⟩
end
theorem oo {c:TT} {t:TS} {D:Ends} {σ:St} {H:Hp} (W:Nat->St->Hp->Prop) (m:Nat) (h0:W m σ H)
  (hs:∀ m σ' H',W m σ' H'->c σ' H' fun b H1=>if b=true then ∃ N:St->Hp->Prop,(∀ σ2 H2,N σ2 H2->∃ m',m' < m/\W m' σ2 H2)/\t { D with nx:=N,ct:=N,bk:=D.nx } σ' H1 else D.nx σ' H1):Fx c t D σ H:=⟨W,⟨m,h0⟩,hs⟩
def HG (K:LM):List V->Hp->VK->Prop:=fun xs H Q=>∃ (p:Addr) (bs:List Bool),xs=[.ref p]/\SqL K H p (bs.map V.bl)/\Q (.bl (bs.any id)) H
def HD (K:LM):List V->Hp->VK->Prop:=fun xs H Q=>∃ (p:Addr) (bs:List Bool),xs=[.ref p]/\SqL K H p (bs.map V.bl)/\Q (.bl (bs.all id)) H
theorem tq:∀ {bs:List Bool} {its:List Value},Vals (bs.map V.bl) its->∀ (i:Nat) (v:Value),its[i]?=some v->∃ b,bs[i]?=some b/\v=.bool b
 | [],_,.nil,i,v,e=>by simp at e
 | b :: bs,_,.cons r t,0,v,e=>by
  simp at e;subst e;exact ⟨b,rfl,r⟩
 | b :: bs,_,.cons r t,i+1,v,e=>by
  obtain ⟨c,h1,h2⟩:=tq (bs:=bs) t i v (by simpa using e)
  exact ⟨c,by simpa using h1,h2⟩
theorem DK (bs:List Bool):((L4 bs.length).any fun i=>(bs[i]?).getD false)=bs.any id:=by
 rw [NX,Qk,Qk];constructor
 ·rintro ⟨i,hi,e⟩;have hi':=Mj.mp hi;simp only [LP hi',O4] at e;exact ⟨_,Nu hi',e⟩
 ·rintro ⟨b,hb,e⟩;obtain ⟨i,hi,rfl⟩:=Qv hb;exact ⟨i,Mj.mpr hi,by simp only [LP hi,O4];exact e⟩
theorem Ea (bs:List Bool):((L4 bs.length).all fun i=>(bs[i]?).getD true)=bs.all id:=by
 rw [NX,MA,MA];constructor
 ·intro h b hb;obtain ⟨i,hi,rfl⟩:=Qv hb;have:=h i (Mj.mpr hi);simp only [LP hi,O4] at this;exact this
 ·intro h i hi;have hi':=Mj.mp hi;simp only [LP hi',O4];exact h _ (Nu hi')
theorem ED {X:Cx} (hc:X.calm=true):cW X (.builtin "any") (HG X.K):=by
 intro pins s σ H xs us Q I r h;obtain ⟨p,bs,rfl,hS,q⟩:=h;obtain ⟨u,rfl,ru⟩:=vals1 r;cases (show u=Mw p from ru);obtain ⟨its,rv,pl,hz⟩:=I.list hS;have hl:=pl.isList;have hlen:its.length=bs.length:=by have:=rv.length;simp at this;omega
 have hlt:p<s.heap.objs.size:=by obtain ⟨_,e,_⟩:=hl;exact Me e
 refine call_any_walk (P1 hl ?_);refine ⟨s.heap.objs.size,[s.heap.objs.size,p],[s.heap.objs.size],its.toArray.size,_,_,fun i=>(bs[i]?).getD false,rfl,Walks.list (A:=X.A.in1) (I.ok.hd hc) _ p (Mp hlt) its.toArray,
  ⟨⟨_,Mx _ rfl,rfl,rfl⟩,hl.push _⟩,fun i v s' Q' E' hP hQ=>?_,fun h' tk hk=>?_⟩
 ·obtain ⟨b,e,rfl⟩:=tq rv i v (by simpa using hP)
  simp only [e,O4] at hQ;exact N8 hQ
 ·have e:((L4 its.toArray.size).any fun i=>(bs[i]?).getD false)=bs.any id:=by
   rw [ME,hlen];exact DK bs
  rw [e];exact ⟨.bl _,H,I.kept (t':=tk) (fun b x e=>hk b x (fun hm=>by rw [Md.mp hm] at e;exact NG _ (Me e)) (LV _ e)),rfl,q⟩
theorem E8 {X:Cx} (hc:X.calm=true):cW X (.builtin "all") (HD X.K):=by
 intro pins s σ H xs us Q I r h;obtain ⟨p,bs,rfl,hS,q⟩:=h;obtain ⟨u,rfl,ru⟩:=vals1 r;cases (show u=Mw p from ru);obtain ⟨its,rv,pl,hz⟩:=I.list hS;have hl:=pl.isList;have hlen:its.length=bs.length:=by have:=rv.length;simp at this;omega
 have hlt:p<s.heap.objs.size:=by obtain ⟨_,e,_⟩:=hl;exact Me e
 refine call_all_walk (P1 hl ?_);refine ⟨s.heap.objs.size,[s.heap.objs.size,p],[s.heap.objs.size],its.toArray.size,_,_,fun i=>(bs[i]?).getD true,rfl,Walks.list (A:=X.A.in1) (I.ok.hd hc) _ p (Mp hlt) its.toArray,
  ⟨⟨_,Mx _ rfl,rfl,rfl⟩,hl.push _⟩,fun i v s' Q' E' hP hQ=>?_,fun h' tk hk=>?_⟩
 ·obtain ⟨b,e,rfl⟩:=tq rv i v (by simpa using hP)
  simp only [e,O4] at hQ;exact N8 hQ
 ·have e:((L4 its.toArray.size).all fun i=>(bs[i]?).getD true)=bs.all id:=by
   rw [ME,hlen];exact Ea bs
  rw [e];exact ⟨.bl _,H,I.kept (t':=tk) (fun b x e=>hk b x (fun hm=>by rw [Md.mp hm] at e;exact NG _ (Me e)) (LV _ e)),rfl,q⟩
theorem rY {X:Cx} (K:LM) (hK:X.K=K) (hc:X.calm=true):cW X (.builtin "any") (HG K):=by subst hK;exact ED hc
theorem jc {X:Cx} (K:LM) (hK:X.K=K) (hc:X.calm=true):cW X (.builtin "all") (HD K):=by subst hK;exact E8 hc
section
variable {σ:St} {H H':Hp} {Q:VK} {K:LM} {v:V}
theorem Aw {bs:List Bool} (h:At K H v bs):∃ p,v=.ref p/\SqL K H p (bs.map V.bl):=by
 obtain ⟨p,xs,rfl,hS,hP⟩:=h;refine ⟨p,rfl,?_⟩;have e:xs=bs.map V.bl:=by
  clear hS
  induction hP with
  | nil=>rfl
  | cons r _ ih=>rw [MO,<- ih];exact congrArg (· :: _) r
 rw [<- e];exact hS
theorem DO {bs:List Bool} (h:At K H v bs) (q:Q (.bl (bs.any id)) H):HG K [v] H Q:=by
 obtain ⟨p,rfl,hS⟩:=Aw h;exact ⟨p,bs,rfl,hS,q⟩
theorem oE {bs:List Bool} (h:At K H v bs) (q:Q (.bl (bs.all id)) H):HD K [v] H Q:=by
 obtain ⟨p,rfl,hS⟩:=Aw h;exact ⟨p,bs,rfl,hS,q⟩
theorem Lx {f:Int->V} {a:Int} (h:Q (f a) H):rU f (.int a) H Q:=⟨a,rfl,h⟩
end
theorem qC:∀ {ns:List Int} {its:List Value},Vals (ns.map V.int) its->Rn its ns
 | [],_,.nil=>.nil
 | n :: ns,_,.cons r t=>by
  obtain ⟨tk,e⟩:=(show ∃ tk,_=O3 n tk from r);subst e;exact .cons n tk (qC t)
def EW:V->List V->Hp->VK->Prop:=fun x vs H Q=>∃ (l:Addr) (ns:List Int) (k:Int),x=.ref l/\vs=[.int k]/\H l=some (.lst (ns.map V.int))/\k∈ns/\Q (.int (ns.idxOf k:Nat)) H
theorem qO {X:Cx}:MtM X "list.index" EW:=by
 intro pins s σ H x vs v us Q I rx rv h;obtain ⟨l,ns,k,rfl,rfl,hH,hk,q⟩:=h;cases rx;obtain ⟨u,rfl,ru⟩:=rv.one;obtain ⟨t,rfl⟩:=(show ∃ t,u=O3 k t from ru);obtain ⟨z,its,n,r,hl',e⟩:=I.xa hH;have hi:=qC r;have hlen:=hi.length;have hj:ns.idxOf k<ns.length:=Q7.mpr hk;have hz:ns.length<=MB:=by simpa using z
 rw [NJ] at hz;refine Q4 Om ⟨_,e,rfl⟩ PySem.F.entry_list_index (PySem.F.args_list_index_2 _ _)
  (SeqAt.list_indexAt l its.toArray n none #[] (.int k t) (isInt k) (ns.idxOf k) (by simpa [hlen] using hj) (by omega) ?_ ?_) ⟨e,fun y hy=>(eq_isInt k t hi y (by simpa using hy)).at _ _,⟨.int _,H,I.tok _,⟨_,rfl⟩,q⟩⟩
 ·show isInt k its[ns.idxOf k]=true;rw [isInt_at k hi _ (by omega) hj]
  simpa using NY hj
 ·intro j hjs hlt;show isInt k its[j]=false;rw [isInt_at k hi j (by simpa using hjs) (by omega)]
  exact ne_of_lt_idxOf hlt _
theorem tF {H:Hp} {Q:VK} {p:Addr} {r:List Nat} {k j:Nat} (h:H p=some (.lst (aY r))) (hk:r[j]?=some k) (hf:∀ i,i<j->r[i]?≠some k) (q:Q (.int (j:Int)) H):EW (.ref p) [.int (k:Int)] H Q:=by
 have hj:j<r.length:=(LQ.mp hk).1;have e1:aY r=(r.map fun (n:Nat)=>(n:Int)).map V.int:=by
  unfold aY;rw [OH];rfl
 have e2:(r.map fun (n:Nat)=>(n:Int)).idxOf (k:Int)=j:=by
  have hm:(k:Int)∈r.map fun (n:Nat)=>(n:Int):=Mm.mpr ⟨k,LR hk,rfl⟩;have hlt:=Q7.mpr hm;have hat:=NY hlt;rw [LO] at hlt;have hat':r[(r.map fun (n:Nat)=>(n:Int)).idxOf (k:Int)]?=some k:=by
   rw [LP hlt];rw [RC] at hat;exact congrArg some (Ro hat)
  rcases Ob ((r.map fun (n:Nat)=>(n:Int)).idxOf (k:Int)) j with z|z|z
  ·exact absurd hat' (hf _ z)
  ·exact z
  ·exfalso
   have:=ne_of_lt_idxOf z (by rw [LO];exact hj)
   rw [LP hj] at hk;have hk':=ML hk;simp [hk'] at this
 refine ⟨p,r.map fun (n:Nat)=>(n:Int),k,rfl,rfl,by rw [<- e1];exact h,Mm.mpr ⟨k,LR hk,rfl⟩,?_⟩
 rw [e2];exact q
theorem JN {K:LM} {H:Hp} {σ:St} {Q:VK} {g:TG} {tt:TT} {ta:TE} {d:Addr} {rows:List (List Nat)} {ps:List Addr} {β:Type} [Rep β] {own:List Str} {fr:List Nat} (h:Tbl H d rows ps) (hz:rows.length<=100000) (acc:Nat->List β) (Sh:St->Prop) (ha0:acc 0=[]) (hal:∀ i,i<=rows.length->(acc i).length<=i) (h0:Sh (bW own fr σ))
  (turn:∀ i c p σ' H' (d:Addr) (R:St->V->Hp->Prop) (R0:St->Hp->Prop),rows[i]?=some c->aj H H'->H' p=some (.lst (aY c))->Sh σ' ->
   (∀ σ2 y b H5,Sh σ2->aj H' H5->At K (del H5 d) y b->acc (i+1)=acc i++[b]->R σ2 y H5)->(∀ σ2 H5,Sh σ2->aj H' H5->acc (i+1)=acc i->R0 σ2 H5)->(∃ ys,H' d=some (.lst ys)) ->
   g (.ref p) σ' H' fun σ2 H3=>tt σ2 H3 fun ok H4=>if ok=true then ta σ2 H4 (R σ2) else R0 σ2 H4)
  (fin:∀ d H',H d=none->aj H H'->(∃ ys,H' d=some (.lst ys)/\Nt (Rep.is K (del H' d)) ys (acc rows.length))->Q (.ref d) H') :
  m9 K (.ref d) H (fF own fr g tt ta σ Q):=by
 have hl:(ps.map V.ref).length=rows.length:=by rw [LO,h.len]
 refine ⟨d,rfl,⟨_,SqL.of h.top⟩,xm (J:=Itl K d) (n:=rows.length) (fun i w H'=>∃ p c,w=.ref p/\rows[i]?=some c/\H' p=some (.lst (aY c))) acc Sh (fun i H' hi e=>⟨_,(ps.map V.ref)[i]'(by omega),e.seq (SqL.of h.top),LP (by omega)⟩) (fun H' e=>⟨_,e.seq (SqL.of h.top),RU hl⟩)
  (fun i H' x H2 hi e hy=>?_) hz ha0 hal h0 (fun i w σ' H' d' R R0 hi e ⟨p,c,hw,hc,hp⟩=>by subst hw;exact turn i c p σ' H' d' R R0 hc e hp) fin⟩
 obtain ⟨e1,e2⟩:=hy;have z:=e2 _ (e.seq (SqL.of h.top));rw [Mf] at z;cases q:ps[i]? with
 | none=>rw [q] at z;cases z
 | some p =>
  rw [q] at z;refine ⟨e1,p,rows[i],(ML z).symm,LP hi,e _ _ (h.row i p _ q (LP hi))⟩
theorem iE {α:Type} [Rep α] {K:LM} {H:Hp} {v:V} {Q:VK} {l:List α} {lo hi:Option Int} (h:At K H v l) (q:∀ p H',H p=none->aj H H'->Gr K H' p (cut l lo hi)->Q (.ref p) H'):C2 K v lo hi H Q:=by
 obtain ⟨p,xs,rfl,hS,hP⟩:=h;refine ⟨p,xs,rfl,hS,fun d hd=>q d _ hd (ay hd _) ⟨_,ao,?_⟩⟩;have e:=hP.length;have sm:aj H (del (upd H d (.lst (uQ xs lo hi))) d):=fun b o z=>by
  have hb:b≠d:=aA z hd;rw [gK hb,aq hb];exact z
 unfold uQ cut at *;rw [e] at sm ⊢;exact Paired.zm _ (Paired.y6 _ (Paired.dY hP fun _ _ z=>Rep.mono sm z))
theorem J9 {K:LM} {i:Int}:Wr K (tC (.int i)) i:=fun _ H _ q=>q _ H (aj.refl _) rfl
def Dq:Expr->Option Int
 | .Constant (.int i) _ _=>some i
 | _=>none
def vk:List Expr->Option (List Int)
 | []=>some []
 | e :: es=>match Dq e,vk es with
  | some i,some l=>some (i :: l)
  | _,_=>none
def Kn:Expr->Option (List Int)
 | .List es _=>vk es
 | _=>none
def zb:List Expr->Option (List (List Int))
 | []=>some []
 | e :: es=>match Kn e,zb es with
  | some i,some l=>some (i :: l)
  | _,_=>none
def tP:List Int->TA
 | []=>tE
 | i :: l=>lq (tC (.int i)) (tP l)
def vR:List (List Int)->TA
 | []=>tE
 | r :: l=>lq (AO (tP r)) (vR l)
theorem uN {X:Cx}:∀ {es:List Expr} (ns:List Int),vk es=some ns->PA X es (tP ns)
 | [],ns,h=>by cases h;exact aa
 | e :: es,ns,h=>by
  unfold vk at h
  split at h
  ·rename_i i l h1 h2
   cases h;cases e with
   | Constant c j pos =>
    cases c with
    | int k =>
     have hk:k=i:=by simpa [Dq] using h1
     subst hk;exact wY af (uN l h2) (bD rfl)
    | _=>simp [Dq] at h1
   | _=>simp [Dq] at h1
  ·cases h
theorem A5 {X:Cx}:∀ {es:List Expr} (rs:List (List Int)),zb es=some rs->PA X es (vR rs)
 | [],rs,h=>by cases h;exact aa
 | e :: es,rs,h=>by
  unfold zb at h
  split at h
  ·rename_i i l h1 h2
   cases h;cases e with
   | List ls pos=>exact wY (bg (uN i h1)) (A5 l h2) (bD rfl)
   | _=>simp [Kn] at h1
  ·cases h
@[irreducible] def AJ (es:List Expr) (ns:List Int):Bool:=decide (vk es=some ns)
@[irreducible] def zD (es:List Expr) (rs:List (List Int)):Bool:=decide (zb es=some rs)
theorem Jq {X:Cx} {es:List Expr} (ns:List Int) (h:AJ es ns=true):PA X es (tP ns):=uN ns (by unfold AJ at h;exact of_decide_eq_true h)
theorem JH {X:Cx} {es:List Expr} (rs:List (List Int)) (h:zD es rs=true):PA X es (vR rs):=A5 rs (by unfold zD at h;exact of_decide_eq_true h)
structure IsP (p:Prop):Prop where
 out:p
theorem kq {X:Cx} {es:List Expr} (ns:List Int) (h:AJ es ns=true):IsP (PA X es (tP ns)):=⟨Jq ns h⟩
theorem AL {X:Cx} {es:List Expr} (rs:List (List Int)) (h:zD es rs=true):IsP (PA X es (vR rs)):=⟨JH rs h⟩
section
variable {K:LM}
theorem jI:∀ (l:List Nat),WrA K (tP (l.map fun (n:Nat)=>(n:Int))) l
 | []=>jS
 | n :: l=>t6 (E5 rfl) (jI l)
theorem xh:∀ (rs:List (List Nat)),(∀ r∈rs,r.length<=1000)->WrA K (vR (rs.map fun r=>r.map fun (n:Nat)=>(n:Int))) rs
 | [],_=>jS
 | r :: rs,h=>t6 (FQ (jI r) (h r Mn)) (xh rs fun x hx=>h x (Mh _ hx))
end
theorem sx:∀ {its:List Value} {ns:List Int},Rn its ns->Vals (ns.map V.int) its
 | _,_,.nil=>.nil
 | _,_,.cons n t r=>.cons ⟨t,rfl⟩ (sx r)
def xf (K:LM):List V->Hp->VK->Prop:=fun xs H Q=>∃ (p:Addr) (ns:List Int),xs=[.ref p]/\SqL K H p (ns.map V.int)/\ns.length<64 /\
 ∀ (d:Addr) (ns':List Int),H d=none->ns'.Perm ns->ns'.Pairwise (·<=·)->Q (.ref d) (upd H d (.lst (ns'.map V.int)))
theorem Aj {X:Cx}:cW X (.builtin "sorted") (xf X.K):=by
 intro pins s σ H xs us Q I r h;obtain ⟨p,ns,rfl,hS,h64,q⟩:=h;obtain ⟨u,rfl,ru⟩:=vals1 r;cases (show u=Mw p from ru);obtain ⟨its,rv,pl,hz⟩:=I.list hS;have hi:=qC rv;have hlen:=hi.length;refine sorted_ints pl.isList hi (by omega) fun out ns' a1 a2 a3=>?_
 obtain ⟨c,hc⟩:=sortedAll_at s.heap its out;have hn:H (s.heap.objs.size+1)=none:=I.hok.fresh (OL _);have hl':ns'.length=ns.length:=a2.length_eq;refine ⟨.ref (s.heap.objs.size+1),_,I.laid (o:=.lst (ns'.map V.int)) (fun b o e=>sortedAll_old e) (OL _) ⟨?_,out.toList,c,sx a1,?_⟩,rfl,q _ ns' hn a2 a3⟩
 ·rw [LO];exact small (by omega)
 ·simpa [seqObj] using hc
theorem rW {X:Cx} (K:LM) (hK:X.K=K):cW X (.builtin "sorted") (xf K):=by subst hK;exact Aj
section
variable {σ:St} {H H':Hp} {Q:VK} {K:LM} {v:V}
theorem xH {ns':List Int} {l:List Nat} (h:ns'.Perm (l.map fun (n:Nat)=>(n:Int))):∃ l':List Nat,ns'=l'.map (fun (n:Nat)=>(n:Int))/\l'.Perm l:=by
 refine ⟨ns'.map Q8,?_,?_⟩
 ·rw [OH];have e:∀ x∈ns',((fun (n:Nat)=>(n:Int)) ∘ Q8) x=x:=fun x hx=>by
   obtain ⟨n,_,rfl⟩:=Mm.mp (h.mem_iff.mp hx);rfl
  have:ns'.map ((fun (n:Nat)=>(n:Int)) ∘ Q8)=ns'.map id:=Pu e;rw [this,Qu]
 ·have:=h.map Q8;rw [OH] at this;have e:(Q8 ∘ fun (n:Nat)=>(n:Int))=id:=by funext n;rfl
  rw [e,Qu] at this;exact this
theorem nC (l:List Nat):aY l=(l.map fun (n:Nat)=>(n:Int)).map V.int:=by
 unfold aY;rw [OH];rfl
theorem z8 {l:List Nat} (h:At K H v l) (hl:l.length<64) (q:∀ (d:Addr) (l':List Nat) (H':Hp),H d=none->aj H H'->l'.Perm l->l'.Pairwise (·<=·)->Gr K H' d l'->Q (.ref d) H'):xf K [v] H Q:=by
 obtain ⟨p,rfl,hS⟩:=lZ h;have hS':SqL K H p ((l.map fun (n:Nat)=>(n:Int)).map V.int):=by
  have e:=nC l;unfold aY at e;rw [<- e];exact hS
 refine ⟨p,_,rfl,hS',by rw [LO];exact hl,fun d ns' hd hp hs=>?_⟩
 obtain ⟨l',rfl,hp'⟩:=xH hp;have hs':l'.Pairwise (·<=·):=by
  rw [Pf] at hs;exact hs.imp fun z=>by omega
 rw [<- nC];exact q d l' _ hd (ay hd _) hp' hs' ⟨_,ao,me⟩
theorem yr (l:List Nat):(l.map fun (n:Nat)=>V.int (n:Int)).all mC=true:=by
 rw [MA];intro x hx;obtain ⟨n,_,rfl⟩:=Mm.mp hx;rfl
theorem wH (x:Nat):∀ l:List Nat,inV (.int (x:Int)) (l.map fun (n:Nat)=>V.int (n:Int))=decide (x∈l)
 | []=>rfl
 | a :: l=>by
  have ih:=wH x l;rw [MO];simp only [inV] at ih ⊢;rw [PJ,ih];have e1:eqV (V.int (a:Int)) (V.int (x:Int))=decide (x=a):=by
   show ((a:Int) == (x:Int))=decide (x=a);rw [NX];simp;omega
  rw [e1,NX];simp
theorem wQ {l:List Nat} {x:Nat} (h:At K H v l) (q:Q (.bl (decide (x∈l))) H):rIn K false (.int (x:Int)) v H Q:=by
 obtain ⟨p,rfl,hS⟩:=lZ h;refine ⟨p,_,rfl,.inl hS,rfl,yr l,?_⟩;rw [wH];exact q
theorem II {l:List Nat} {x:Nat} (h:At K H v l) (q:Q (.bl (!decide (x∈l))) H):rIn K true (.int (x:Int)) v H Q:=by
 obtain ⟨p,rfl,hS⟩:=lZ h;refine ⟨p,_,rfl,.inl hS,rfl,yr l,?_⟩;rw [wH];exact q
end
theorem sP {X:Cx} (K:LM) (hK:X.K=K):OpR X (compareOp .In) (rIn K false):=by subst hK;exact El
theorem xU {X:Cx} (K:LM) (hK:X.K=K):OpR X (compareOp .NotIn) (rIn K true):=by subst hK;exact AM
theorem mW {K:LM} {α:Type} [Rep α] {H:Hp} {x y:V} {l r:List α} {Q:VK} (hx:∃ p xs,x=.ref p/\H p=some (.lst xs)/\Nt (Rep.is K H) xs l) (hy:∃ p xs,y=.ref p/\H p=some (.lst xs)/\Nt (Rep.is K H) xs r) (hz:l.length+r.length<=100000)
  (q:∀ d H',H d=none->aj H H'->Gr K H' d (l++r)->Q (.ref d) H'):Gb x y H Q:=by
 obtain ⟨p,xs,rfl,h1,r1⟩:=hx;obtain ⟨p',ys,rfl,h2,r2⟩:=hy;have e1:=r1.length;have e2:=r2.length;have sm:∀ {d:Addr} {o:HO},H d=none->aj H (del (upd H d o) d):=fun {d o} hd b u z=>by
  have hb:b≠d:=aA z hd;rw [gK hb,aq hb];exact z
 refine ⟨p,p',xs,ys,rfl,rfl,h1,h2,by rw [NJ];omega,fun d hd=>q d _ hd (ay hd _) ⟨_,ao,Paired.app (Paired.dY r1 fun _ _ z=>Rep.mono (sm hd) z) (Paired.dY r2 fun _ _ z=>Rep.mono (sm hd) z)⟩⟩
section
variable {X:Cx} {pins:List (Addr×Obj)} {σ:St} {H:Hp} {s:LU} {A:MY} {α β:Type} [Rep α] [DecidableEq α] [bQ α] [Rep β] [DecidableEq β] [bQ β]
theorem Jv {p q:Addr} {x1 x2 y1 y2:V} {a c:α} {b d:β} (I:Inv X pins σ H s) (hp:SqT X.K H p [x1,x2]) (h1:At X.K H x1 a) (h2:At X.K H x2 b) (hq:SqT X.K H q [y1,y2]) (h3:At X.K H y1 c) (h4:At X.K H y2 d)
  (hu:A.units+(max (bQ.depth α) (bQ.depth β)+1)<cLine):SeqAt.RcAt A s (.ref p) (.ref q) (decide ((a,b)=(c,d))):=by
 obtain ⟨its,v1,t1,_⟩:=I.tuple hp;obtain ⟨its2,v2,t2,_⟩:=I.tuple hq;obtain ⟨u1,u2,rfl,r1,r2⟩:=v1.two;obtain ⟨w1,w2,rfl,r3,r4⟩:=v2.two;have e1:=bQ.eq (A:=A.in1) I h1 h3 r1 r3 (by show A.units+1+_<_;omega)
 have e2:=bQ.eq (A:=A.in1) I h2 h4 r2 r4 (by show A.units+1+_<_;omega)
 have z:=SeqAt.RcAt.tuples (A:=A) (e:=fun j=>if j=0 then decide (a=c) else decide (b=d)) t1 t2 (by omega) fun j hj1 hj2=>by
  have hj:j<2:=by simpa using hj1
  match j,hj with
  | 0,_=>exact e1
  | 1,_=>exact e2
 have ek:((L4 (min (#[u1,u2]:Array Value).size (#[w1,w2]:Array Value).size)).all (fun j=>if j=0 then decide (a=c) else decide (b=d)) && (#[u1,u2]:Array Value).size == (#[w1,w2]:Array Value).size)=decide ((a,b)=(c,d)):=by
  have:(L4 (min (#[u1,u2]:Array Value).size (#[w1,w2]:Array Value).size))=[0,1]:=rfl;rw [this,NX];simp
 rw [<- ek];exact z
instance:bQ (α×β) where
 depth:=max (bQ.depth α) (bQ.depth β)+1
 inj:=fun {X pins σ H s x a b} I h h'=>by
  obtain ⟨p,x1,x2,e,h1,h2,h3⟩:=h;obtain ⟨q,y1,y2,e',h4,h5,h6⟩:=h';subst e;cases e';have z:=I.xR h1 h4;cases z;exact Prod.ext (bQ.inj I h2 h5) (bQ.inj I h3 h6)
 eq:=fun {X pins σ H s A x y u v a b} I hx hy ru rv hu=>by
  obtain ⟨p,x1,x2,e,h1,h2,h3⟩:=hx;obtain ⟨q,y1,y2,e',h4,h5,h6⟩:=hy;subst e e';cases (show u=Mw p from ru);cases (show v=Mw q from rv)
  by_cases hpq:p=q
  ·subst hpq;have z:=I.xR h1 h4;cases z;have e1:a=b:=Prod.ext (bQ.inj I h2 h5) (bQ.inj I h3 h6);rw [decide_eq_true e1];exact RX _
  ·exact SeqAt.EqAt.of_refs hpq (Jv I h1 h2 h3 h4 h5 h6 hu)
end
section
variable {σ:St} {H:Hp} {Q:VK} {K:LM}
theorem nM {p:Addr} {xs:List V} {i:Nat} {x:V} (h:H p=some (.tup xs)) (hx:xs[i]?=some x) (q:Q x H):GR K (.ref p) (.int (i:Int)) H Q:=⟨p,xs,_,x,rfl,rfl,SqT.of h,qy hx,q⟩
theorem Jd {p:Addr} {a b:Nat} (h:H p=some (.tup [.int (a:Int),.int (b:Int)])):At K H (.ref p) ((a,b):Nat×Nat):=⟨p,_,_,rfl,SqT.of h,rfl,rfl⟩
end
theorem Et {X:Cx} (K:LM) (hK:X.K=K) {pos p1 p2:Pos} {i j k:Nat} {x y:Str} (hc:X.calm=true) (hN:X.N.Nodup) (hi:X.N[i]?=some x) (hx:Loc X.env.scope x) (hj:X.N[j]?=some y) (hy:Loc X.env.scope y)
  (hf:X.fn x=true\/X.env.scope.names.lookup x=some .local:=by first|exact .inl rfl|exact .inr rfl|assumption) (hf':X.fn y=true\/X.env.scope.names.lookup y=some .local:=by first|exact .inl rfl|exact .inr rfl|assumption) :
  PG X (.Tuple [.Name x p1,.Name y p2] k pos) (Am K 2 (nK (gj i) (nK (gj j) zY))):=by
 subst hK;exact mP hc (cA (az hN hi hx hf) (cA (az hN hj hy hf') kC))
theorem ue {K:LM} {α:Type} [Rep α] {H:Hp} {v:V} {Q:VK} {l:List α} (h:At K H v l) (q:∀ p H',H p=none->aj H H'->Gr K H' p l->Q (.ref p) H'):D7 K [v] H Q:=by
 obtain ⟨p,xs,rfl,hS,hP⟩:=h;refine ⟨p,xs,rfl,.inl hS,fun d hd=>q d _ hd (ay hd _) ⟨_,ao,Paired.dY hP fun _ _ z=>Rep.mono (fun b o z=>?_) z⟩⟩;have hb:b≠d:=aA z hd;rw [gK hb,aq hb];exact z
theorem nF {H:Hp} {p d:Addr} {o:HO} (h:H p=some o) (hd:H d=none):p≠d:=fun e=>by rw [e,hd] at h;cases h
section
variable {X:Cx} {pins:List (Addr×Obj)} {σ:St} {H:Hp} {s:LU} {h':Heap} {t':Nat} {fp:List Addr}
theorem Inv.Eb (I:Inv X pins σ H s) (hf:∀ b∈fp,lD X pins H b) (k:∀ b ob,b∉fp->s.heap.get? b=some ob->h'.get? b=some ob):Inv X pins σ H { s with heap:=h',toks:=t' }:=by
 have nofp:∀ b u,H b=some u->b∉fp:=fun b u e hb=>by rw [(hf b hb).1] at e;cases e
 refine I.step (g':=s.gens) (d':=s.drawn) (ch:=fp) (fun b hb=>let ⟨_,f1,_,f3,f4,f5⟩:=hf b hb;⟨f3,f1,f4,f5⟩) (fun b ob _ _ hc e _=>k b ob hc e) (fun b ob _ _ hc e _=>⟨ob.slots,k b ob hc e⟩)
  (fun _ _ _ _ n=>n) (fun b ob hc e=>⟨ob,k b ob hc e⟩) (fun _ _ e=>e) (fun _ _ _ e=>e) (fun b ps e=>⟨#[],by rw [e];simp⟩) (fun m hm=>?_) (fun b u e=>?_) I.bare
 ·obtain ⟨ob,es,ep,e,r⟩:=hm;exact ⟨ob,es,ep,k _ ob (fun hb=>(hf _ hb).2.1 rfl) e,r⟩
 ·refine (I.hok b u e).oi (fun c v hc q=>k c v ?_ q) (fun _ q=>q) fun _ _ q=>q;rcases hc with z|z
  ·rw [z];exact nofp b u e
  ·exact nofp c _ z
end
theorem Jo {a b:Nat} (h:¬ a=b):@Ne Addr a b:=h
theorem xy (n l l':Nat) (h1:l<n) (h2:l' < n):Qd (n+4) (n+2) (n+3) n (n+1) l l':=by
 constructor <;> (refine Jo ?_;omega)
def Itz (K:LM) (a b:Addr):It :=
 ⟨fun i H=>∃ xs x ys y,SqL K H a xs/\xs[i]?=some x/\SqL K H b ys/\ys[i]?=some y,fun i H v H'=>∃ p x y,v=.ref p/\H p=none/\H'=upd H p (.tup [x,y])/\(∀ xs,SqL K H a xs->xs[i]?=some x)/\∀ ys,SqL K H b ys->ys[i]?=some y,
  fun i H=>∃ xs ys,SqL K H a xs/\SqL K H b ys/\(xs.length<=i\/ys.length<=i)⟩
theorem GD {P:Ms} {w:World} {K:LM} {es:List Expr} {kk:Nat} {tpos:Pos} (a b z TI TO i1 i2:Addr) (D:Qd z TI TO i1 i2 a b) :
  Turn P w K (.Tuple es kk tpos) (Itz K a b) [z,TI,TO,i1,i2] z (fun i h=>IsZip h z TI TO .none/\Sy h TI (.ref i1) (.ref i2)/\(∃ c d,Sy h TO c d)/\h.IsListIter i1 a i/\h.IsListIter i2 b i) where
 mem:=by simp
 obj:=fun i h st c hc=>by
  obtain ⟨hz,hTI,⟨u,v,hTO⟩,⟨o1,e1,_,d1⟩,o2,e2,_,d2⟩:=st;have hc':c=z\/c=TI\/c=TO\/c=i1\/c=i2:=by simpa using hc
  rcases hc' with rfl|rfl|rfl|rfl|rfl
  ·exact ⟨_,hz,fun v y=>by
    have y':Tb _=SS v:=y;cases y'⟩
  ·exact ⟨_,hTI,fun v y=>by
    have y':Data.seq _ _=SS v:=y;cases y'⟩
  ·exact ⟨_,hTO,fun v y=>by
    have y':Data.seq _ _=SS v:=y;cases y'⟩
  ·exact ⟨o1,e1,fun v y=>by rw [d1] at y;cases y⟩
  ·exact ⟨o2,e2,fun v y=>by rw [d2] at y;cases y⟩
 keep:=fun i h h' st k=>by
  obtain ⟨hz,hTI,⟨u,v,hTO⟩,h1,h2⟩:=st;exact ⟨k z (by simp) _ hz,k TI (by simp) _ hTI,⟨u,v,k TO (by simp) _ hTO⟩,h1.at fun o e=>k i1 (by simp) o e,h2.at fun o e=>k i2 (by simp) o e⟩
 item:=by
  intro X hP hw hK hc i pins s σ H E I hf st hg;subst hP hw hK;obtain ⟨xs,x,ys,y,hq,hx,hq2,hy⟩:=hg;obtain ⟨its,rv,p,_⟩:=I.list hq;obtain ⟨its2,rv2,p2,_⟩:=I.list hq2;obtain ⟨u,hu,ru⟩:=rv.get hx;obtain ⟨u2,hu2,ru2⟩:=rv2.get hy;obtain ⟨hz,hTI,⟨c,d,hTO⟩,h1,h2⟩:=st;have lz:z<s.heap.objs.size:=Me hz;have lTI:TI<s.heap.objs.size:=Me hTI;have lTO:TO<s.heap.objs.size:=Me hTO;have l1:i1<s.heap.objs.size:=by obtain ⟨_,q,_⟩:=h1;exact Me q
  have l2:i2<s.heap.objs.size:=by obtain ⟨_,q,_⟩:=h2;exact Me q
  refine R1 D hz hTI hTO h1 h2 p.isList p2.isList (x:=u) (y:=u2) (by simpa using hu) (by simpa using hu2) fun h' a1 a2 a3 a4 a5 a6 hk=>?_
  refine ⟨_,rfl,?_⟩;have I1:Inv X pins σ (upd H s.heap.objs.size (.tup [x,y])) { s with heap:=h',toks:=s.toks } :=
   I.xQ hf (fun b ob hb q=>hk b ob (fun z=>hb (by simp [z])) (fun z=>hb (by simp [z])) (fun z=>hb (by simp [z])) (fun z=>hb (by simp [z])) q) (Mi _) ⟨by show 2<=MB;decide,[u,u2],.cons ru (.cons ru2 .nil),⟨_,a5,rfl,_,rfl⟩⟩
  have fE:=hf z (by simp)
  refine wpAny_letOwnedTupleGo_zip a1 fun h2' hz2 hs2=>?_;have nE:(upd H s.heap.objs.size (.tup [x,y])) z=none:=by rw [aq (Mp lz)];exact fE.1
  refine ⟨.ref s.heap.objs.size,_,I1.turned (t':=s.toks) (fun b ob hb q=>(hs2.2 b hb).trans q) nE fE.2.1 fE.2.2.2.1 fE.2.2.2.2.1 fE.2.2.2.2.2,rfl,⟨_,x,y,rfl,I.hok.fresh (Mi _),rfl,fun zs hz=>by rw [I.mh hz hq];exact hx,fun zs hz=>by rw [I.mh hz hq2];exact hy⟩,?_,fun b hb=>?_⟩
  ·exact ⟨hz2,hs2.extBut _ _ D.TIz (hk _ _ D.TIz D.TITO D.TIi1 D.TIi2 hTI),⟨_,_,hs2.extBut _ _ D.TOz a2⟩,a3.extBut hs2.extBut D.i1z,a4.extBut hs2.extBut D.i2z⟩
  ·have hb2:b=z\/b=TI\/b=TO\/b=i1\/b=i2:=by simpa using hb
   have hb':b<s.heap.objs.size:=by rcases hb2 with rfl|rfl|rfl|rfl|rfl <;> assumption
   rw [aq (Mp hb')];exact (hf b hb).1
 done:=by
  intro X hP hw hK hc i pins s σ H E I hf st hg;subst hP hw hK;obtain ⟨xs,ys,hq,hq2,hx⟩:=hg;obtain ⟨its,rv,p,_⟩:=I.list hq;obtain ⟨its2,rv2,p2,_⟩:=I.list hq2;obtain ⟨hz,hTI,⟨c,d,hTO⟩,h1,h2⟩:=st;have e1:=rv.length;have e2:=rv2.length;refine Ss (I.ok.hd hc) D hz hTI hTO h1 h2 p.isList p2.isList (by
   rcases hx with z|z
   ·exact .inl (by simp;omega)
   ·exact .inr (by simp;omega)) fun h' hk=>⟨rfl,I.Eb (t':=s.toks) hf fun b ob hb q=>hk b ob (fun z=>hb (by simp [z])) (fun z=>hb (by simp [z])) (fun z=>hb (by simp [z])) (fun z=>hb (by simp [z])) q⟩
 self:=fun _ _ _ _ _ st h=>RD st.1 h
def Gw (K:LM) (vs:List V) (H:Hp) (R:It->Hp->Prop):Prop:=∃ a b xs ys,vs=[.ref a,.ref b]/\SqL K H a xs/\SqL K H b ys/\R (Itz K a b) H
def J3 (K:LM) (ta:TA):TI:=fun σ H R=>ta σ H fun vs H1=>Gw K vs H1 R
theorem Ll {K:LM} {ta:TA} {σ:St} {H:Hp} {R:It->Hp->Prop} (h:ta σ H fun vs H1=>Gw K vs H1 R):J3 K ta σ H R:=h
theorem JD {X:Cx} (K:LM) (hK:X.K=K) {tgs:List Expr} {kk:Nat} {tpos:Pos} {a b:Expr} {ta:TA} {p pos:Pos} (hg:Gl X "zip") (hm:X.mg "zip" = none) (ha:PA X [a,b] ta) (hn:isStar a=false:=by rfl) (hn2:isStar b=false:=by rfl) :
  PI X (.Tuple tgs kk tpos) (.Call (.Name "zip" p) [a,b] [] pos) (J3 K ta):=by
 subst hK;intro pins s σ H R I h;refine Call_ (mO I hg hm boot_zip (NA (thn (ha pos pins s σ H _ I h) fun us s1 ⟨vs,H1,I1,r1,q1⟩=>?_) (bD hn) (cg (by simp [hn2]))))
 obtain ⟨l,l',xs,ys,e,hS,hS2,q⟩:=q1;subst e;cases r1 with
 | cons r rr =>
  cases rr with
  | cons r2 rr2 =>
   cases rr2;cases (show _=Mw l from r);cases (show _=Mw l' from r2);obtain ⟨its,rv,pl,_⟩:=I1.list hS;obtain ⟨its2,rv2,pl2,_⟩:=I1.list hS2;have lt1:l<s1.heap.objs.size:=by obtain ⟨_,z,_⟩:=pl.isList;exact Me z
   have lt2:l' < s1.heap.objs.size:=by obtain ⟨_,z,_⟩:=pl2.isList;exact Me z
   refine call_zip_2 pl.isList pl2.isList fun h' hz hTI hTO hi1 hi2 hsz hk=>?_;refine RD hz ?_;have I2:Inv X pins σ H1 { s1 with heap:=h' }:=I1.kept (t':=s1.toks) hk;have D:Qd (s1.heap.objs.size+4) (s1.heap.objs.size+2) (s1.heap.objs.size+3) s1.heap.objs.size (s1.heap.objs.size+1) l l':=by
    exact xy _ _ _ lt1 lt2
   refine ⟨s1.heap.objs.size+4,[s1.heap.objs.size+4,s1.heap.objs.size+2,s1.heap.objs.size+3,s1.heap.objs.size,s1.heap.objs.size+1],_,_,H1,rfl,I2,GD l l' _ _ _ _ _ D,⟨hz,hTI,⟨_,_,hTO⟩,hi1,hi2⟩,fun b hb=>?_,q⟩;have hb2:b=s1.heap.objs.size+4\/b=s1.heap.objs.size+2\/b=s1.heap.objs.size+3\/b=s1.heap.objs.size\/b=s1.heap.objs.size+1:=by simpa using hb
   have hb':s1.heap.objs.size<=b:=by rcases hb2 with rfl|rfl|rfl|rfl|rfl <;> omega
   exact I1.uJ hb' (I1.hok.fresh hb')
theorem Jx {K:LM} {H H₀:Hp} {σ:St} {t:TS} {D:Ends} {p p2:Addr} {xs ys:List V} {ia ib:Nat} (hS:SqL K H₀ p xs) (hS2:SqL K H₀ p2 ys) (he:xs.length=ys.length) (Pv:Nat->St->Hp->Prop) (h0:Pv 0 σ H) (hl:∀ i σ' H',Pv i σ' H'->aj H₀ H')
  (hs:∀ i w w2 σ' H' H'' p,xs[i]?=some w->ys[i]?=some w2->Pv i σ' H'->H' p=none->H''=upd H' p (.tup [w,w2])->aj H' H''->t { D with nx:=Pv (i+1),ct:=Pv (i+1),bk:=D.nx } ((σ'.set ia (some w)).set ib (some w2)) H'')
  (hd:∀ σ' H',Pv xs.length σ' H'->D.nx σ' H'):Gw K [.ref p,.ref p2] H (tT (Am K 2 (nK (gj ia) (nK (gj ib) zY))) t D σ):=by
 refine ⟨p,p2,xs,ys,rfl,(hl 0 σ H h0).seq hS,(hl 0 σ H h0).seq hS2,fun i m σ' H'=>m=xs.length - i/\i<=xs.length/\Pv i σ' H',⟨xs.length,by simp,Nd _,h0⟩,?_⟩
 rintro i m σ' H' ⟨rfl,hi,p0⟩;have q:=(hl i σ' H' p0).seq hS;have q2:=(hl i σ' H' p0).seq hS2
 by_cases hlt:i<xs.length
 ·have hlt2:i<ys.length:=by omega
  refine .inr ⟨⟨xs,xs[i],ys,ys[i],q,by simp [hlt],q2,by simp [hlt2]⟩,Pv (i+1),fun σ2 H2 p'=>⟨xs.length - (i+1),by omega,rfl,hlt,p'⟩,fun z H2 yl=>?_⟩
  obtain ⟨d,w,w2,rfl,hd',rfl,hw,hw2⟩:=yl;refine ⟨d,[w,w2],rfl,SqT.of ao,rfl,⟨_,_,rfl,⟨_,_,rfl,⟨rfl,?_⟩⟩⟩⟩;exact hs i w w2 σ' H' _ d (hw xs q) (hw2 ys q2) p0 hd' rfl (ay hd' _)
 ·refine .inl ⟨⟨xs,ys,q,q2,.inl (by omega)⟩,?_⟩
  have:i=xs.length:=by omega
  rw [this] at p0;exact hd σ' H' p0
section
variable {prog:Ms} {w:World} {A:MY} {E:Value->LU->Prop}
variable {s:LU}
end
section
variable {X:Cx} {pos:Pos}
end
structure pD (K:LM) (x qual:Str) (st:Stmt) (f:Addr) (fd:M9):Prop where
 ex:∃ (oc:Value) (od:Option Addr) (D:Addr) (kV doc pm:Value) (an:Option Addr) (cdv ct:Value) (osl:Array (Option Value)) (dc:Value) (dd:Option Addr) (n:Nat) (dsl:Array (Option Value)),
  fd=Mc x qual (aJ st) (aG st) (ag st) (.ref D) kV doc pm an cdv ct/\K.lookup f=some ⟨oc,od,.func fd,osl⟩/\L9 K cdv qual=true/\K.lookup D=some ⟨dc,dd,.seq #[.none] n,dsl⟩
 kp:LW K (.ref f)=true
section
variable {P:Ms} {w:World} {K:LM} {mg:Str->Option Value} {base:Heap} {x qual:Str} {st:Stmt} {f:Addr} {fd:M9} {ps:List Str}
theorem pD.ok {N:List Str} {k:Nat} {sp:Sp} (F:pD K x qual st f fd) (S:aN N ps (ag st)) (len:∀ vs H Q E,sp vs H Q E->vs.length=ps.length)
  (hbody:∀ (cdv:Value) (A:MY) (outer:List Env) (s:LU) (H:Hp) (vs:List V) (Q:VK) (E:XK),bT k (A.deeper (envOfC qual (ag st) s.heap.objs.size f cdv))->sp vs H Q E ->
   ∃ t,PSs (lh CX0 P w K mg base N qual (ag st) f cdv A outer s H E).nox (aG st) t/\t { nx:=fun _ H'=>Q .non H',rt:=Q } (start N vs) H):aI P w K mg base CX0 (k+1) f fd ps sp:=by
 obtain ⟨oc,od,D,kV,doc,pm,an,cdv,ct,osl,dc,dd,n,dsl,rfl,lk,hcd,_⟩:=F.ex;refine zf lk hcd S len fun A outer s H vs Q E hr hsp=>?_;obtain ⟨t,h,q⟩:=hbody cdv A outer s H vs Q E hr hsp;exact ⟨t,h.nox,q⟩
theorem pD.to {s:LU} {args:Args} {bs:List (Str×Value)} (F:pD K x qual st f fd) (KI:K.In s.heap)
  (h:∀ (D:Addr) (kV doc pm:Value) (an:Option Addr) (cdv ct:Value),∃ k:Option (Array Value)->Sem (List (Str×Value)),bindArgs (Mc x qual (aJ st) (aG st) (ag st) (.ref D) kV doc pm an cdv ct) args=seqItems? (.ref D) >>= k/\k (some #[.none])=pure bs):Rk s fd args bs:=by
 obtain ⟨oc,od,D,kV,doc,pm,an,cdv,ct,osl,dc,dd,n,dsl,rfl,lk,hcd,dl⟩:=F.ex;obtain ⟨k,h1,h2⟩:=h D kV doc pm an cdv ct;exact BindsTo.of_defaults (fd:=Mc x qual (aJ st) (aG st) (ag st) (.ref D) kV doc pm an cdv ct) (T:=D) rfl (KI _ _ dl) rfl h1 h2
theorem xo {D:Addr} {oc dc:Value} {od an dd:Option Addr} {osl dsl:Array (Option Value)} {kV doc pm cdv ct:Value} {n:Nat} (l:K.lookup f=some ⟨oc,od,.func (Mc x qual (aJ st) (aG st) (ag st) (.ref D) kV doc pm an cdv ct),osl⟩)
  (d:K.lookup D=some ⟨dc,dd,.seq #[.none] n,dsl⟩) (c:L9 K cdv qual=true) (k:LW K (.ref f)=true):pD K x qual st f (Mc x qual (aJ st) (aG st) (ag st) (.ref D) kV doc pm an cdv ct) :=
 ⟨⟨oc,od,D,kV,doc,pm,an,cdv,ct,osl,dc,dd,n,dsl,rfl,l,c,d⟩,k⟩
end
def byName {α:Type} (k:Nat) (us ws:List α):List α:=if us.length=k/\ws.length=1 then us++ws else []
theorem DW {k:Nat} {vs zs:List V} {us ws:List Value} (r:Vals vs us) (rz:Vals zs ws):Vals (byName k vs zs) (byName k us ws):=by
 have h1:=r.length;have h2:=rz.length;unfold byName;rw [h1,h2]
 split
 ·exact r.append rz
 ·exact .nil
theorem qL {K:LM} {fd:M9} {ps:List Str} {k:Nat} (hk:ps.length=k+1) (h:∀ (s:LU) (us:List Value),K.In s.heap->us.length=k->Rk s fd ⟨us,[]⟩ (ps.zip (us++[.none]))):Binds K fd ps [.none]:=fun s us KI hl=>h s us KI (by
 rw [Mo,hk] at hl;have:([Ov]:List Value).length=1:=rfl;omega)
theorem qS {K:LM} {fd:M9} {ps:List Str} {y:Str} {k:Nat} (hk:ps.length=k+1) (h:∀ (s:LU) (us:List Value) (w:Value),K.In s.heap->us.length=k->Rk s fd ⟨us,[(y,w)]⟩ (ps.zip (us++[w]))):v8 K fd ps [y] (byName k) (byName k):=by
 refine ⟨fun s us ws KI hl=>?_,DW⟩;unfold byName at hl ⊢
 split at hl
 ·rename_i c
  rw [if_pos c]
  match ws,c.2 with
  | [w],_=>exact h s us w KI c.1
 ·rw [hk] at hl;cases hl
structure DfD (K:LM) (mg:Str->Option Value) (x:Str) (st:Stmt) (ps:List Str) (y:Str) (k:Nat) where
 f:Addr
 fd:M9
 fn:pD K x x st f fd
 bd:Binds K fd ps []
 bn:Binds K fd ps [.none]
 bk:v8 K fd ps [y] (byName k) (byName k)
 nm:mg x=some (.ref f)
theorem DfD.ok {P:Ms} {w:World} {K:LM} {mg:Str->Option Value} {base:Heap} {x y:Str} {st:Stmt} {N ps:List Str} {k j:Nat} {sp:Sp} (d:DfD K mg x st ps y j) (S:aN N ps (ag st)) (len:∀ vs H Q E,sp vs H Q E->vs.length=ps.length)
  (hbody:∀ (cdv:Value) (A:MY) (outer:List Env) (s:LU) (H:Hp) (vs:List V) (Q:VK) (E:XK),bT k (A.deeper (envOfC x (ag st) s.heap.objs.size d.f cdv))->sp vs H Q E ->
   ∃ t,PSs (lh CX0 P w K mg base N x (ag st) d.f cdv A outer s H E).nox (aG st) t/\t { nx:=fun _ H'=>Q .non H',rt:=Q } (start N vs) H):aI P w K mg base CX0 (k+1) d.f d.fd ps sp :=
 d.fn.ok S len hbody
section
variable {X:Cx} {x y:Str} {st:Stmt} {ps:List Str} {k j:Nat} {sp:Sp} {p pos kpos:Pos} {e a:Expr} {es:List Expr} {t:TA} {te:TE}
theorem Ln (d:DfD X.K X.mg x st ps y j) (G:aI X.prog X.w X.K X.mg X.base CX0 k d.f d.fd ps sp) (hr:bT k X.A) (hg:Gl X x) (ha:PA X (e :: es) t) (hn:isStar e=false:=by rfl) (hall:es.all (fun e=>!isStar e)=true:=by rfl) (hdb:(x == ("__debug__" : Str))=false:=by decide) :
  PE X (.Call (.Name x p) (e :: es) [] pos) (oR sp [] E0 t):=tO G hr hg d.nm d.fn.kp d.bd .nil tJ ha hdb (bD hn) (cg hall)
end
end L2
set_option Elab.async false
set_option linter.all false
set_option maxRecDepth 100000
namespace L2
open PySem PySem.Spec PyProof.Rows
section
variable (P:Ms) (w:World)
end
section
variable {P:Ms} {w:World} {H H':Hp} {h h':Heap} {a:Addr} {o:HO}
end
section
variable {P:Ms} {w:World} {H:Hp} {h h':Heap} {x e:Addr} {o':HO}
end
section
variable {fs fs' ex ex':List Addr} {H H1 H2:Hp} {h h1 h2 h':Heap} {a x e:Addr} {o:HO}
end
section
variable {X:Cx} {pins:List (Addr×Obj)} {σ:List (Option V)} {H H':Hp} {s:LU} {h':Heap}
end
section
variable {X:Cx}
variable {a b:Expr} {ta tb:TE} {pos:Pos}
variable {tA tB':TT} {rest:List Expr}
end
section
variable {X:Cx} {pins:List (Addr×Obj)} {σ:St} {H:Hp} {s:LU} {a:Addr} {xs ys:List V}
end
section
variable {X:Cx} {pins:List (Addr×Obj)} {σ:St} {H:Hp} {s:LU} {E:Value->LU->Prop}
end
section
variable {X:Cx} {st:Stmt} {rest:List Stmt} {t u:TS} {e:Expr} {te:TE} {pos:Pos}
end
section
variable {X:Cx} {pos:Pos}
end
section
variable {X:Cx} {tg:Expr}
end
section
variable {X:Cx} {a b c:Expr} {ta tb tc:TE} {pos:Pos}
end
section
variable {prog:Ms} {w:World} {A:MY} {E:Value->LU->Prop} {s:LU} {K:LM} {x dx C f:Addr} {mA:Str->Option Value} {name:Str} {v:Value}
end
section
variable {P:Ms} {w:World} {H H':Hp} {h h':Heap} {a C dx:Addr} {fs fs':List (Str×V)}
end
section
variable {X:Cx} {pins:List (Addr×Obj)} {σ:St} {H:Hp} {s:LU} {a C dx:Addr} {fs:List (Str×V)} {f:Str} {v:V} {A:MY} {E:Value->LU->Prop}
end
section
variable {X:Cx} {o e value:Expr} {f:Str} {pos pos' tpos:Pos} {ta tv:TE}
end
section
variable {X:Cx} {pins:List (Addr×Obj)} {σ:St} {H:Hp} {s:LU} {A:MY} {E:Value->LU->Prop} {Q:Value->LU->Prop} {c:Value} {b:Bool}
end
section
variable {X:Cx} {e:Expr} {es:List Expr} {te:TE} {t:TA} {pos:Pos}
end
section
variable {X:Cx} {pins:List (Addr×Obj)} {σ:St} {H:Hp} {s s':LU}
end
section
variable {X:Cx} {CX:CXT} {k:Nat} {f C:Addr} {fd:M9} {ps:List Str} {sp:Sp} {dvs:List V} {ds:List Value} {E:XK} {x m:Str} {p pos apos:Pos} {e o:Expr} {es:List Expr} {ta:TE} {t:TA}
end
section
variable {X:Cx} {CX:CXT} {k:Nat} {f C:Addr} {fd:M9} {ps ks:List Str} {sp:Sp} {E:XK} {x m:Str} {p pos apos kpos:Pos} {e o:Expr} {es:List Expr} {kws:List RV} {te ta:TE} {t tk:TA} {nm:Option Str}
variable {g:List Value->List Value->List Value} {gV:List V->List V->List V}
end
section
variable {X:Cx} {x:Str} {p pos:Pos} {e:Expr} {es:List Expr} {t:TA} {id T:String} {r:List V->Hp->VK->Prop}
end
section
variable {κ:Type} [DecidableEq κ]
def cS (kvs:List (κ×V)) (k:κ):Option V:=(kvs.find? fun kv=>decide (kv.1=k)).map (·.2)
def putK (kvs:List (κ×V)) (k:κ) (v:V):List (κ×V) :=
 if (kvs.any fun kv=>decide (kv.1=k))=true then kvs.map (fun kv=>if kv.1=k then (kv.1,v) else kv) else kvs++[(k,v)]
theorem eC {p:κ×V} {r:List (κ×V)} {k:κ} (e:p.1=k):cS (p :: r) k=some p.2:=by simp [cS,OR,e]
theorem dJ {p:κ×V} {r:List (κ×V)} {k:κ} (e:¬ p.1=k):cS (p :: r) k=cS r k:=by simp [cS,OR,e]
theorem og (k:κ):∀ kvs:List (κ×V),(kvs.any fun kv=>decide (kv.1=k))=(cS kvs k).isSome
 | []=>rfl
 | p :: r=>by
  rw [PJ]
  by_cases e:p.1=k
  ·simp only [eC e,decide_eq_true e,Bool.true_or,Option.isSome_some]
  ·rw [dJ e,decide_eq_false e,Bool.false_or];exact og k r
theorem Be (k j:κ) (y:V):∀ kvs:List (κ×V),cS (kvs.map fun kv=>if kv.1=k then (kv.1,y) else kv) j=(cS kvs j).map fun x=>if j=k then y else x
 | []=>rfl
 | p :: r=>by
  have ih:=Be k j y r;rw [MO]
  by_cases h:p.1=k
  ·rw [if_pos h]
   by_cases e:p.1=j
   ·rw [eC (p:=(p.1,y)) e,eC e,Qw,if_pos (e.symm.trans h)]
   ·rw [dJ (p:=(p.1,y)) e,dJ e,ih]
  ·rw [if_neg h]
   by_cases e:p.1=j
   ·rw [eC (p:=p) e,eC e,Qw,if_neg (fun z=>h (e.trans z))]
   ·rw [dJ (p:=p) e,dJ e,ih]
theorem xw (k j:κ) (y:V):∀ kvs:List (κ×V),cS kvs k=none->cS (kvs++[(k,y)]) j=if j=k then some y else cS kvs j
 | [],_=>by
  by_cases e:k=j
  ·rw [if_pos e.symm];exact eC (p:=(k,y)) e
  ·rw [if_neg (fun z=>e z.symm)];exact dJ (p:=(k,y)) e
 | p :: r,hn=>by
  rw [List.cons_append];have hk:¬ p.1=k:=fun z=>by rw [eC z] at hn;cases hn
  rw [dJ hk] at hn;have ih:=xw k j y r hn
  by_cases e:p.1=j
  ·rw [eC e,eC e,if_neg (fun z=>hk (e.trans z))]
  ·rw [dJ e,dJ e,ih]
theorem Gx (kvs:List (κ×V)) (k j:κ) (y:V):cS (putK kvs k y) j=if j=k then some y else cS kvs j:=by
 unfold putK
 by_cases a:(kvs.any fun kv=>decide (kv.1=k))=true
 ·rw [if_pos a,Be];rw [og] at a
  by_cases e:j=k
  ·obtain ⟨x,hx⟩:=Q2.mp a;rw [if_pos e,e,hx,Qw,if_pos rfl]
  ·rw [if_neg e];cases cS kvs j with
   | none=>rfl
   | some x=>rw [Qw,if_neg e]
 ·rw [if_neg a];refine xw k j y kvs ?_;rw [og] at a;cases q:cS kvs k with
  | none=>rfl
  | some x=>rw [q] at a;exact (a rfl).elim
theorem mB (kvs:List (κ×V)) (k:κ) (v:V):(putK kvs k v).length<=kvs.length+1:=by
 unfold putK
 split
 ·rw [LO];omega
 ·rw [Mo,MX,PK];omega
theorem GW {kvs:List (κ×V)} {k:κ} (v:V) (h:cS kvs k=none):putK kvs k v=kvs++[(k,v)]:=by
 unfold putK;rw [og,h];exact if_neg (by decide)
theorem iF.sC {o:Option V} {u:Option Value} (r:iF o u):o.isSome=u.isSome:=by
 cases o with
 | none=>cases u with
  | none=>rfl
  | some _=>exact (show False from r).elim
 | some _=>cases u with
  | none=>exact (show False from r).elim
  | some _=>rfl
theorem KV.val {kvs:List (κ×V)} {vs:List (κ×Value)} (r:KV kvs vs) (k:κ):iF (cS kvs k) (valueAt vs k):=by
 unfold KV at r
 induction r with
 | nil=>exact NM
 | @cons p q ps qs h t ih =>
  obtain ⟨h1,h2⟩:=h
  by_cases e:p.1=k
  ·have e':q.1=k:=h1.symm.trans e;have b:valueAt (q :: qs) k=some q.2:=by simp [valueAt,OR,e']
   rw [eC e,b];exact h2
  ·have e':¬ q.1=k:=fun z=>e (h1.trans z);have b:valueAt (q :: qs) k=valueAt qs k:=by simp [valueAt,OR,e']
   rw [dJ e,b];exact ih
theorem KV.any {kvs:List (κ×V)} {vs:List (κ×Value)} (r:KV kvs vs) (k:κ):(kvs.any fun kv=>decide (kv.1=k))=vs.any fun kv=>decide (kv.1=k):=by
 unfold KV at r
 induction r with
 | nil=>rfl
 | cons h t ih=>rw [PJ,PJ,ih,h.1]
theorem KV.Hb {kvs:List (κ×V)} {vs:List (κ×Value)} (r:KV kvs vs) (k:κ) {y:V} {u:Value} (ry:RelV y u) :
  KV (kvs.map fun kv=>if kv.1=k then (kv.1,y) else kv) (vs.map fun kv=>if kv.1=k then (kv.1,u) else kv):=by
 unfold KV at r ⊢
 induction r with
 | nil=>exact .nil
 | @cons p q ps qs h t ih =>
  rw [MO,MO];refine .cons ?_ ih;obtain ⟨h1,h2⟩:=h
  by_cases e:p.1=k
  ·rw [if_pos e,if_pos (h1.symm.trans e)];exact ⟨h1,ry⟩
  ·rw [if_neg e,if_neg (fun z=>e (h1.trans z))];exact ⟨h1,h2⟩
theorem KV.put {kvs:List (κ×V)} {vs:List (κ×Value)} (r:KV kvs vs) (k:κ) {y:V} {u:Value} (ry:RelV y u):KV (putK kvs k y) (stored vs k u):=by
 unfold putK stored;rw [r.any k]
 by_cases e:(vs.any fun kv=>decide (kv.1=k))=true
 ·rw [if_pos e,if_pos e];exact r.Hb k ry
 ·rw [if_neg e,if_neg e];exact Paired.snoc r ⟨rfl,ry⟩
theorem KV.length {kvs:List (κ×V)} {vs:List (κ×Value)} (r:KV kvs vs):kvs.length=vs.length:=OC r
end
theorem tW {P:Ms} {w:World} {k:Key} {u:Value} (r:RelV (kV k) u):(dz P w).is k u=true:=by
 cases k with
 | inl i=>obtain ⟨t,e⟩:=(show ∃ t,u=O3 i t from r);subst e;exact Bo P w i t
 | inr x=>obtain ⟨t,e⟩:=(show ∃ t,u=SQ x t from r);subst e;exact BK P w x t
theorem xP {P:Ms} {w:World}:∀ {ks:List Key} {us:List Value},Vals (ks.map kV) us->ItemsAre (dz P w) ks us
 | [],_,r=>by rw [S5] at r;cases r;exact .nil
 | k :: ks,_,r=>by
  rw [MO] at r;cases r with
  | cons h t=>exact .cons (tW h) (xP t)
abbrev KT (H:Hp):List (List Key×V)->List (List Key×Addr×Value)->Prop:=Nt fun p q=>p.1=q.1/\H q.2.1=some (.tup (p.1.map kV))/\RelV p.2 q.2.2
theorem KT.val {H:Hp} {kvs:List (List Key×V)} {xs:List (List Key×Addr×Value)} (r:KT H kvs xs) (k:List Key):iF (cS kvs k) ((atKey xs k).map (·.2)):=by
 induction r with
 | nil=>exact NM
 | @cons p q ps qs h t ih =>
  obtain ⟨h1,_,h2⟩:=h
  by_cases e:p.1=k
  ·have e':q.1=k:=h1.symm.trans e;have b:atKey (q :: qs) k=some q.2:=by simp [atKey,OR,e']
   rw [eC e,b];exact h2
  ·have e':¬ q.1=k:=fun z=>e (h1.trans z);have b:atKey (q :: qs) k=atKey qs k:=by simp [atKey,OR,e']
   rw [dJ e,b];exact ih
theorem KT.Hb {H:Hp} {kvs:List (List Key×V)} {xs:List (List Key×Addr×Value)} (r:KT H kvs xs) (k:List Key) {y:V} {u:Value} (ry:RelV y u) :
  KT H (kvs.map fun kv=>if kv.1=k then (kv.1,y) else kv) (xs.map (putAt k u)):=by
 induction r with
 | nil=>exact .nil
 | @cons p q ps qs h t ih =>
  rw [MO,MO];refine .cons ?_ ih;obtain ⟨h1,h2,h3⟩:=h;unfold putAt
  by_cases e:p.1=k
  ·rw [if_pos e,if_pos (h1.symm.trans e)];exact ⟨h1,h2,ry⟩
  ·rw [if_neg e,if_neg (fun z=>e (h1.trans z))];exact ⟨h1,h2,h3⟩
theorem KT.put {H:Hp} {kvs:List (List Key×V)} {xs:List (List Key×Addr×Value)} (r:KT H kvs xs) (k:List Key) {b:Addr} {y:V} {u:Value} (hb:H b=some (.tup (k.map kV))) (ry:RelV y u) :
  KT H (putK kvs k y) (storedH xs k b u):=by
 have e:(kvs.any fun kv=>decide (kv.1=k))=(atKey xs k).isSome:=by
  rw [og,(r.val k).sC,Option.isSome_map]
 unfold putK storedH;rw [e]
 by_cases q:(atKey xs k).isSome=true
 ·rw [if_pos q,if_pos q];exact r.Hb k ry
 ·rw [if_neg q,if_neg q];exact Paired.snoc r ⟨rfl,hb,ry⟩
theorem KT.keeps {H H':Hp} {kvs:List (List Key×V)} {xs:List (List Key×Addr×Value)} (r:KT H kvs xs) (ht:∀ b ys,H b=some (.tup ys)->H' b=some (.tup ys)):KT H' kvs xs :=
 Paired.dY r fun _ _ z=>⟨z.1,ht _ _ z.2.1,z.2.2⟩
section
variable {P:Ms} {w:World} {H:Hp} {h:Heap} {a:Addr}
theorem Iq {u:HO} (ok:HOk P w H h) (e:Rd H a u):bB P w H h a u:=e.ok ok
theorem y0 {kvs:List (Key×V)} (ok:HOk P w H h) (e:Rd H a (.dK kvs)):kvs.length<=MB/\(a == sysModules)=false/\∃ vs,KV kvs vs/\h.DictOf (dz P w) a vs :=
 show bB P w H h a (.dK kvs) from Iq ok e
theorem Ij {kvs:List (Key×V)} (ok:HOk P w H h) (e:H a=some (.dK kvs)):kvs.length<=MB/\(a == sysModules)=false/\∃ vs,KV kvs vs/\h.DictOf (dz P w) a vs:=y0 ok (.inl e)
theorem vq {ks:List Key} (ok:HOk P w H h) (e:H a=some (.tup (ks.map kV))):(tupleKind (dz P w)).is h ks a:=by
 obtain ⟨_,its,r,o,h1,h2,n,h3⟩:=(show bB P w H h a (.tup (ks.map kV)) from ok a _ e);exact ⟨o,its.toArray,n,h1,h2,h3,by simpa using xP r⟩
theorem ze {kvs:List (List Key×V)} (ok:HOk P w H h) (e:Rd H a (.dT kvs)):kvs.length<=MB/\(a == sysModules)=false /\
  ∃ xs,KT H kvs xs/\h.DictOfH (tupleKind (dz P w)) a xs:=by
 obtain ⟨z,y,xs,r,o,es,ep,h1,h2,h3,h4,h5⟩:=(show bB P w H h a (.dT kvs) from Iq ok e);refine ⟨z,y,xs,r,o,es,ep,h1,h2,h3,h4,fun x hx=>?_,h5⟩;have all:∀ {l:List (List Key×V)} {m:List (List Key×Addr×Value)},KT H l m->∀ x∈m,(tupleKind (dz P w)).is h x.1 x.2.1:=by
  intro l m q
  induction q with
  | nil=>intro x hx;exact nomatch hx
  | @cons p q ps qs hq t ih =>
   intro x hx;rcases My.mp hx with e|hx
   ·subst e;exact vq ok (by rw [<- hq.1];exact hq.2.1)
   ·exact ih x hx
 exact all r x hx
theorem Lf {kvs:List (List Key×V)} (ok:HOk P w H h) (e:H a=some (.dT kvs)):kvs.length<=MB/\(a == sysModules)=false /\
  ∃ xs,KT H kvs xs/\h.DictOfH (tupleKind (dz P w)) a xs:=ze ok (.inl e)
end
def mj (H:Hp) (a:Addr) (y:V) (r:Option V):Prop :=
 (∃ kvs k,Rd H a (.dK kvs)/\y=kV k/\r=cS kvs k)\/∃ kvs k b,Rd H a (.dT kvs)/\y=.ref b/\H b=some (.tup (k.map kV))/\r=cS kvs k
def sN (H:Hp) (a:Addr) (y v:V) (H':Hp):Prop :=
 (∃ kvs k,H a=some (.dK kvs)/\y=kV k/\kvs.length<MB/\H'=upd H a (.dK (putK kvs k v))) \/
 ∃ kvs k b,H a=some (.dT kvs)/\y=.ref b/\H b=some (.tup (k.map kV))/\kvs.length<MB/\H'=upd H a (.dT (putK kvs k v))
theorem mj.k {H:Hp} {a:Addr} {kvs:List (Key×V)} {k:Key} (e:H a=some (.dK kvs)):mj H a (kV k) (cS kvs k):=.inl ⟨kvs,k,.inl e,rfl,rfl⟩
theorem mj.t {H:Hp} {a b:Addr} {kvs:List (List Key×V)} {k:List Key} (e:H a=some (.dT kvs)) (eb:H b=some (.tup (k.map kV))):mj H a (.ref b) (cS kvs k):=.inr ⟨kvs,k,b,.inl e,rfl,eb,rfl⟩
theorem sN.k {H:Hp} {a:Addr} {kvs:List (Key×V)} {k:Key} {v:V} (e:H a=some (.dK kvs)) (hl:kvs.length<MB):sN H a (kV k) v (upd H a (.dK (putK kvs k v))):=.inl ⟨kvs,k,e,rfl,hl,rfl⟩
theorem sN.t {H:Hp} {a b:Addr} {kvs:List (List Key×V)} {k:List Key} {v:V} (e:H a=some (.dT kvs)) (eb:H b=some (.tup (k.map kV))) (hl:kvs.length<MB) :
  sN H a (.ref b) v (upd H a (.dT (putK kvs k v))):=.inr ⟨kvs,k,b,e,rfl,eb,hl,rfl⟩
section
variable {X:Cx} {pins:List (Addr×Obj)} {σ:St} {H:Hp} {s:LU} {a:Addr} {y v:V} {u r:Value} {o:Option V} {A:MY} {E:Value->LU->Prop}
theorem Inv.big (I:Inv X pins σ H s):sysModules<s.heap.objs.size:=by
 have h:LY<s.heap.objs.size:=(I.mod.glob.keeps I.bk).lt;exact Qf (by decide) h
theorem Ff {Q:Value->LU->Prop} (hu:A.units+1<cLine) (I:Inv X pins σ H s) (g:mj H a y (some v)) (ry:RelV y u) (h:∀ w' s',Inv X pins σ H s'->RelV v w'->Q w' s') :
  wpAny (model X.prog X.w) A (getItem (.ref a) u) Q E s:=by
 rcases g with ⟨kvs,k,e,ey,l⟩|⟨kvs,k,b,e,ey,eb,l⟩
 ·subst ey;obtain ⟨z,hd,vs,rel,dd⟩:=y0 I.hok e;obtain ⟨w',hw,rw'⟩:=iF.some_of (v:=v) (o:=valueAt vs k) (by rw [l];exact rel.val k)
  exact wpAny_getItem_of (tW ry) dd.mapOf hw (h w' _ (I.tok _) rw')
 ·subst ey;cases (show u=Mw b from ry);obtain ⟨z,hd,xs,rel,dd⟩:=ze I.hok e;obtain ⟨w',hw,rw'⟩:=iF.some_of (v:=v) (o:=(atKey xs k).map (·.2)) (by rw [l];exact rel.val k)
  obtain ⟨p,hp,hp2⟩:=RL.mp hw;refine wpAny_getItem_heap (QJ hu) (vq I.hok eb) dd hp ?_;rw [hp2];exact h w' _ (I.tok _) rw'
theorem IP {Q:Value->LU->Prop} (hu:A.units+1<cLine) (I:Inv X pins σ H s) (g:mj H a y o) (ry:RelV y u) (h:∀ s',Inv X pins σ H s'->Q (.bool (!o.isSome)) s') :
  wpAny (model X.prog X.w) A (compareOp .NotIn u (.ref a)) Q E s:=by
 rcases g with ⟨kvs,k,e,ey,l⟩|⟨kvs,k,b,e,ey,eb,l⟩
 ·subst ey;obtain ⟨z,hd,vs,rel,dd⟩:=y0 I.hok e;refine wpAny_notIn_of (tW ry) hd dd.mapOf ?_;rw [<- (rel.val k).sC,<- l];exact h _ (I.tok _)
 ·subst ey;cases (show u=Mw b from ry);obtain ⟨z,hd,xs,rel,dd⟩:=ze I.hok e;refine wpAny_notIn_heap (QJ hu) (vq I.hok eb) hd dd ?_;have q:=(rel.val k).sC;rw [Option.isSome_map] at q;rw [<- q,<- l];exact h _ (I.tok _)
theorem wL {h':Heap} {t':Nat} {ob:HO} (I:Inv X pins σ H s) (mu:Mut (H a)) (hs:OW a s.heap h') (he:∃ q,h'.get? a=some q) (new:bB X.prog X.w (upd H a ob) h' a ob) :
  Inv X pins σ (upd H a ob) { s with heap:=h',toks:=t' } :=
 I.write (x:=a) (e:=a) mu (.inl rfl) (fun b q hb z=>(hs.2 b hb).trans z) he new
theorem zM {P:Ms} {w:World} {H':Hp} {h':Heap} {kvs:List (Key×V)} {vs:List (Key×Value)} (z:kvs.length<=MB) (hd:(a == sysModules)=false) (rel:KV kvs vs) (dd:h'.DictOf (dz P w) a vs) :
  bB P w H' h' a (.dK kvs):=⟨z,hd,vs,rel,dd⟩
theorem EB {H':Hp} {Q:Unit->LU->Prop} (hu:A.units+1<cLine) (I:Inv X pins σ H s) (g:sN H a y v H') (ry:RelV y u) (rv:RelV v r) (h:∀ s',Inv X pins σ H' s'->Q () s') :
  wpAny (model X.prog X.w) A (setItem (.ref a) u r) Q E s:=by
 rcases g with ⟨kvs,k,e,ey,l,eH⟩|⟨kvs,k,b,e,ey,eb,l,eH⟩
 ·subst ey eH;obtain ⟨z,hd,vs,rel,dd⟩:=Ij I.hok e;have hz:vs.length<=MB:=by rw [<- rel.length];exact z
  have hl:(putK kvs k v).length<=MB:=by have:=mB kvs k v;omega
  refine wpAny_setItem_pairs (hsz:=hz) (tW ry) dd fun h' dd' hs=>h _ ?_;have he:∃ q,h'.get? a=some q:=let ⟨q,_,_,hq,_⟩:=dd';⟨q,hq⟩;exact wL I (by rw [e];exact NM) hs he (zM hl hd (rel.put k rv) dd')
 ·subst ey eH;cases (show u=Mw b from ry);obtain ⟨z,hd,xs,rel,dd⟩:=Lf I.hok e;have hz:xs.length<=MB:=by rw [<- OC rel];exact z
  have hl:(putK kvs k v).length<=MB:=by have:=mB kvs k v;omega
  refine wpAny_setItem_heap (hsz:=hz) (QJ hu) (vq I.hok eb) dd fun h' dd' hs=>h _ ?_;obtain ⟨q,es,ep,hq,h2,h3,h4,_,h5⟩:=dd';refine wL I (by rw [e];exact NM) hs ⟨q,hq⟩ ⟨hl,hd,_,(rel.put k eb rv).keeps fun c ys ec=>?_,q,es,ep,hq,h2,h3,h4,h5⟩
  rw [aq (Lp ec e (fun z=>nomatch z))];exact ec
end
section
variable {X:Cx} {pins:List (Addr×Obj)} {σ:St} {H:Hp} {s:LU} {a:Addr} {kvs:List (Key×V)} {k:Key} {u:Value} {A:MY} {E:Value->LU->Prop}
end
def Kl (i:Expr):Prop:=∀ ov iv,subscripted i false ov iv=operate [ov,iv] (getItem ov iv)
theorem JO {prog:Ms} {w:World} {A:MY} {E:Value->LU->Prop} {s:LU} {env:Env} {value slice:Expr} {pos:Pos} {T id:String} {Q:Value->LU->Prop}
  (hl:typeLookup (.type T) "__getitem__" = pure (some (.builtin id))) (hs:Kl slice)
  (h:wpAny (model prog w) A (eval value env) (fun o s₁=>wpAny (model prog w) A (eval slice env) (fun i s₂=>s₂.TypeIs o T/\wpAny (model prog w) A (getItem o i) Q E s₂) E s₁) E s) :
  wpAny (model prog w) A (eval (.Subscript value slice pos) env) Q E s:=by
 refine Subscript_ (Nj h (fun o s₁ h₁=>Nj h₁ (fun i s₂ h₂=>?_) fun _ _ x=>x) fun _ _ x=>x);obtain ⟨hT,h₂⟩:=h₂;unfold subscriptTail;refine LN ?_;rw [getitemInPython_of_ne hT.not_modules];refine LN (wpAny_specialOf hT hl ?_);have fin:wpAny (model prog w) A (subscripted slice false o i) (fun r s₃=>wpAny (model prog w) A (letTemporaryGo value o r >>= fun _=>pure r) Q E s₃) E s₂:=by
  rw [hs o i];exact wpAny_operating (Nj h₂ (fun r s₃ h₃=>LN (wpAny_letTemporaryGo (Mb h₃))) fun _ _ x=>x)
 first
  | exact Mb (LN fin)
  | exact LN (Mb (LN fin))
  | exact LN fin
theorem BG {X:Cx} {pins:List (Addr×Obj)} {σ:St} {H:Hp} {s:LU} {a:Addr} {y:V} {o:Option V} (I:Inv X pins σ H s) (g:mj H a y o):s.TypeIs (.ref a) "dict":=by
 rcases g with ⟨kvs,k,e,_,_⟩|⟨kvs,k,b,e,_,_,_⟩
 ·obtain ⟨_,_,vs,_,dd⟩:=y0 I.hok e;exact dd.typeIs
 ·obtain ⟨_,_,xs,_,dd⟩:=ze I.hok e;exact dd.typeIs
def Ii (td ty:TE):TE:=fun σ H Q=>td σ H fun x H1=>ty σ H1 fun y H2=>∃ a v,x=.ref a/\mj H2 a y (some v)/\Q v H2
def Cn (ty td:TE):TE:=fun σ H Q=>ty σ H fun y H1=>td σ H1 fun x H2=>∃ a o,x=.ref a/\mj H2 a y o/\Q (.bl (!o.isSome)) H2
def HL (td ty tv:TE):TS:=fun D σ H=>tv σ H fun v H1=>td σ H1 fun x H2=>ty σ H2 fun y H3=>∃ a H4,x=.ref a/\sN H3 a y v H4/\D.nx σ H4
section
variable {X:Cx} {o i e value:Expr} {pos pos' tpos:Pos} {td ty tv:TE}
theorem lJ (hu:X.A.units+1<cLine) (ho:PE X o td) (hi:PE X i ty) (hs:Kl i):PE X (.Subscript o i pos) (Ii td ty):=by
 intro pins s σ H Q I h;refine JO PySem.F.slot_dict_getitem.lookup hs (thn (ho pins s σ H _ I h) fun u s1 ⟨x,H1,I1,rx,q1⟩=>thn (hi pins s1 σ H1 _ I1 q1) fun iv s2 ⟨y,H2,I2,ry,a,v,ex,g,q2⟩=>?_);subst ex;obtain rfl:u=Mw a:=rx;exact ⟨BG I2 g,Ff hu I2 g ry fun w' s3 I3 rw'=>⟨v,H2,I3,rw',q2⟩⟩
theorem FO (hu:X.A.units+1<cLine) (hi:PE X i ty) (ho:PE X o td):PC X .NotIn i o (Cn ty td):=by
 intro pins s σ H Q I h;refine thn (hi pins s σ H _ I h) fun iv s1 ⟨y,H1,I1,ry,q1⟩=>thn (ho pins s1 σ H1 _ I1 q1) fun u s2 ⟨x,H2,I2,rx,a,ov,ex,g,q2⟩=>?_;subst ex;obtain rfl:u=Mw a:=rx;exact IP hu I2 g ry fun s3 I3=>⟨.bl (!ov.isSome),H2,I3,rfl,q2⟩
theorem CH (hu:X.A.units+1<cLine) (ho:PE X o td) (hi:PE X i ty) (hv:PE X value tv) (hs:swapsWith value (some (.Subscript o i pos')) pos.line X.env=pure false) :
  PS X (.Assign [.Subscript o i pos'] value pos) (HL td ty tv):=by
 intro pins s σ H D I h;refine wpAny_Assign_Subscript (thn (hv pins s σ H _ I h) fun r s1 ⟨v,H1,I1,rv,q1⟩=>thn (ho pins s1 σ H1 _ I1 q1) fun u s2 ⟨x,H2,I2,rx,q2⟩=>thn (hi pins s2 σ H2 _ I2 q2) fun iv s3 ⟨y,H3,I3,ry,a,H4,ex,g,q3⟩=>?_) hs;subst ex;obtain rfl:u=Mw a:=rx;exact EB hu I3 g ry rv fun s4 I4=>⟨σ,H4,I4,q3⟩
end
theorem AV {P:Ms} {w:World} {H:Hp} (h:Heap) (hb:sysModules<h.objs.size):bB P w H (h.push { cls:=.type "dict",data:=.dict #[] }) h.objs.size (.dK []) :=
 ⟨Nd _,beq_eq_false_iff_ne.mpr (NV (Mp hb)),[],.nil,Heap.DictOf.new h⟩
def FC:TE:=fun _ H Q=>∀ p,H p=none->Q (.ref p) (upd H p (.dK []))
section
variable {X:Cx} {pos:Pos}
theorem GV:PE X (.Dict [] [] pos) FC:=fun pins s σ H Q I h =>
 wpAny_Dict_empty ⟨.ref s.heap.objs.size,_,I.laid (a:=s.heap.objs.size) (o:=.dK []) (t':=s.toks) (fun _ _ q=>LV _ q) (Mi _) (AV s.heap I.big),rfl,h _ (I.hok.fresh (Mi _))⟩
end
def zJ:List (TE×TE)->St->Hp->(List (V×V)->Hp->Prop)->Prop
 | [],_,H,Q=>Q [] H
 | (tk,tv) :: r,σ,H,Q=>tk σ H fun x H1=>tv σ H1 fun y H2=>zJ r σ H2 fun ps H3=>Q ((x,y) :: ps) H3
abbrev VV:List (V×V)->List (Value×Value)->Prop:=Nt fun p q=>RelV p.1 q.1/\RelV p.2 q.2
def PPs (X:Cx) (pos:Pos) (keys:List (Option Expr)) (values:List Expr) (trs:List (TE×TE)):Prop :=
 ∀ (pins:List (Addr×Obj)) (s:LU) (σ:St) (H:Hp) (Q:List (V×V)->Hp->Prop),Inv X pins σ H s->zJ trs σ H Q ->
  wpAny (model X.prog X.w) X.A (evalPairs (pairTrees keys values X.env pos)) (fun vs s'=>∃ ps H',Inv X pins σ H' s'/\VV ps vs/\Q ps H') X.xe s
theorem JE {X:Cx} {pos:Pos}:PPs X pos [] [] []:=fun pins s σ H Q I h=>pairTrees_nil_walk ⟨[],H,I,.nil,h⟩
theorem G1 {X:Cx} {pos:Pos} {k v:Expr} {ks:List (Option Expr)} {vs:List Expr} {tk tv:TE} {trs:List (TE×TE)} (hk:PE X k tk) (hv:PE X v tv) (hr:PPs X pos ks vs trs) :
  PPs X pos (some k :: ks) (v :: vs) ((tk,tv) :: trs):=fun pins s σ H Q I h =>
 pairTrees_cons_walk (thn (hk pins s σ H _ I h) fun u s1 ⟨x,H1,I1,rx,q1⟩=>thn (hv pins s1 σ H1 _ I1 q1) fun w2 s2 ⟨y,H2,I2,ry,q2⟩ =>
  thn (hr pins s2 σ H2 _ I2 q2) fun ws s3 ⟨ps,H3,I3,rel,q3⟩=>⟨(x,y) :: ps,H3,I3,.cons ⟨rx,ry⟩ rel,q3⟩)
def la (kvs more:List (Key×V)):List (Key×V):=more.foldl (fun acc kv=>putK acc kv.1 kv.2) kvs
theorem KV.merge:∀ {more:List (Key×V)} {rs:List (Key×Value)} {kvs:List (Key×V)} {vs:List (Key×Value)},KV more rs->KV kvs vs->KV (la kvs more) (merged vs rs):=by
 intro more rs kvs vs r;unfold KV at r
 induction r generalizing kvs vs with
 | nil=>intro q;exact q
 | @cons p q ps qs h t ih =>
  intro r0;have e:KV (putK kvs p.1 p.2) (stored vs q.1 q.2):=by
   have:=r0.put p.1 h.2;rw [<- h.1];exact this
  exact ih e
theorem rh:∀ (more kvs:List (Key×V)),(la kvs more).length<=kvs.length+more.length
 | [],kvs=>by show kvs.length<=kvs.length+0;omega
 | p :: r,kvs=>by
  have h1:=rh r (putK kvs p.1 p.2);have h2:=mB kvs p.1 p.2;show (la (putK kvs p.1 p.2) r).length<=_;rw [MX];omega
theorem vK {P:Ms} {w:World}:∀ {kvs:List (Key×V)} {ws:List (Value×Value)},VV (kvs.map fun kv=>(kV kv.1,kv.2)) ws->∃ rs,Carries (dz P w) ws rs/\KV kvs rs
 | [],_,r=>by rw [S5] at r;cases r;exact ⟨[],NM,.nil⟩
 | p :: kvs,_,r=>by
  rw [MO] at r;cases r with
  | @cons a b as bs h t =>
   obtain ⟨rs,c,q⟩:=vK (P:=P) (w:=w) t;obtain ⟨b1,b2⟩:=b;exact ⟨(p.1,b2) :: rs,⟨tW h.1,rfl,c⟩,.cons ⟨rfl,h.2⟩ q⟩
def HV (trs:List (TE×TE)):TE:=fun σ H Q=>∀ p,H p=none->zJ trs σ (upd H p (.dK [])) fun ps H2=>H2 p=some (.dK [])/\∃ kvs:List (Key×V),ps=kvs.map (fun kv=>(kV kv.1,kv.2))/\kvs.length<=15/\Q (.ref p) (upd H2 p (.dK (la [] kvs)))
theorem IQ {X:Cx} {pos:Pos} {keys:List (Option Expr)} {values:List Expr} {trs:List (TE×TE)} (h:PPs X pos keys values trs) (hall:keys.all (·.isSome)=true) (hl:keys.length=values.length) (h0:keys≠[])
  (h15:keys.length<=15):PE X (.Dict keys values pos) (HV trs):=by
 intro pins s σ H Q I q;have hn:=I.hok.fresh (Mi s.heap.objs.size);have I1:=I.laid (a:=s.heap.objs.size) (o:=.dK []) (h':=s.heap.push { cls:=.type "dict",data:=.dict #[] }) (t':=s.toks) (fun _ _ q=>LV _ q) (Mi _) (AV s.heap I.big);refine wpAny_Dict_walk (knd:=dz X.prog X.w) hall hl h0 h15 (thn (h pins _ σ _ _ I1 (q _ hn)) fun ws s2 ⟨ps,H2,I2,rel,e,kvs,ep,lk,q2⟩=>?_);subst ep;obtain ⟨rs,c,rk⟩:=vK (P:=X.prog) (w:=X.w) rel;obtain ⟨z,hd,vs0,r0,dd⟩:=Ij I2.hok e;cases r0;refine ⟨rs,c,dd,fun h' dd' hs=>⟨.ref s.heap.objs.size,_,?_,rfl,q2⟩⟩;have hz:(la [] kvs).length<=MB:=by
  have h1:=rh kvs [];rw [PK] at h1;rw [NJ];omega
 have he:∃ q,h'.get? s.heap.objs.size=some q:=let ⟨q,_,_,hq,_⟩:=dd';⟨q,hq⟩;exact wL I2 (by rw [e];exact NM) hs he (zM hz hd (rk.merge .nil) dd')
section
variable {X:Cx} {pins:List (Addr×Obj)} {σ:St} {H:Hp} {s:LU} {a:Addr} {y d:V} {u r:Value} {o:Option V} {A:MY} {E:Value->LU->Prop}
end
section
variable {X:Cx} {o e f:Expr} {apos cpos:Pos} {td ty tx:TE}
end
section
variable {X:Cx} {pins:List (Addr×Obj)} {σ:St} {H:Hp} {s:LU} {a:Addr} {kvs:List (Key×V)} {A:MY} {E:Value->LU->Prop}
end
section
variable {X:Cx} {pins:List (Addr×Obj)} {σ:St} {H:Hp} {s:LU} {a:Addr} {y:V} {u:Value} {A:MY} {E:Value->LU->Prop}
end
end L2
namespace Att
open PySem PySem.W PySem.Calls PyProof.Rows
section
variable {prog:Ms} {w:World} {A:MY} {E:Value->LU->Prop} {s:LU} {K:Frag}
end
end Att
namespace L2
open PySem PySem.Spec PyProof.Rows
section
variable {P:Ms} {w:World} {K:LM} {mg:Str->Option Value} {base:Heap}
end
section
variable {X:Cx}
end
section
variable {κ:Type} [DecidableEq κ]
theorem B6:∀ {l:List κ} {k:κ},l.Nodup->¬ k∈l->(l++[k]).Nodup
 | [],k,_,_=>by simp
 | a :: r,k,h,hk=>by
  obtain ⟨h1,h2⟩:=Nm.mp h;show (a :: (r++[k])).Nodup;refine Nm.mpr ⟨fun m=>?_,B6 h2 fun m=>hk (My.mpr (Pz m))⟩;rcases MC.mp m with q|q
  ·exact h1 q
  ·exact hk (My.mpr (Mg (Md.mp q).symm))
end
section
variable {K:LM} {H:Hp} {σ:St} {Q:VK} {g:TG} {tt:TT} {ta:TE} {own:List Str} {fr:List Nat}
theorem uS {J:It} {n:Nat} (W:Addr->Nat->St->Hp->List V->Prop) (hz:n<=100000)
  (hgo:∀ d i σ' H' ys,i<n->W d i σ' H' ys->J.go i H') (hst:∀ d σ' H' ys,W d n σ' H' ys->J.stop n H')
  (hal:∀ d i σ' H' ys,i<=n->W d i σ' H' ys->ys.length<=i) (h0:∀ d,H d=none->W d 0 (bW own fr σ) (upd H d (.lst [])) [])
  (turn:∀ d i σ' H' ys x H2 (R:St->V->Hp->Prop) (R0:St->Hp->Prop),H d=none->i<n->W d i σ' H' ys->H' d=some (.lst ys)->J.yld i H' x H2 ->
   (∀ σ2 y H5,H5 d=some (.lst ys)->W d (i+1) σ2 (upd H5 d (.lst (ys++[y]))) (ys++[y])->R σ2 y H5)->(∀ σ2 H5,H5 d=some (.lst ys)->W d (i+1) σ2 H5 ys->R0 σ2 H5) ->
   g x σ' H2 fun σ2 H3=>tt σ2 H3 fun ok H4=>if ok=true then ta σ2 H4 (R σ2) else R0 σ2 H4)
  (fin:∀ d σ' H' ys,H d=none->H' d=some (.lst ys)->W d n σ' H' ys->Q (.ref d) H'):fF own fr g tt ta σ Q J H:=by
 intro d hd;refine ⟨fun i m σ' H'=>m=n - i/\i<=n/\∃ ys,H' d=some (.lst ys)/\W d i σ' H' ys,⟨n,rfl,Nd _,[],ao,h0 d hd⟩,?_⟩;rintro i m σ' H' ⟨rfl,hi,ys,hys,w⟩
 by_cases hlt:i<n
 ·refine .inr ⟨hgo d i σ' H' ys hlt w,fun x H2 hx=>turn d i σ' H' ys x H2 _ _ hd hlt w hys hx (fun σ2 y H5 h1 h2=>?_) (fun σ2 H5 h1 h2=>?_)⟩
  ·have hl:=hal d i σ' H' ys hi w;exact ⟨ys,h1,Ny (show ys.length<=100000 by omega) (by rw [NJ];decide),n - (i+1),by omega,rfl,hlt,_,ao,h2⟩
  ·exact ⟨n - (i+1),by omega,rfl,hlt,ys,h1,h2⟩
 ·have e:i=n:=by omega
  subst e;exact .inl ⟨hst d σ' H' ys w,fin d σ' H' ys hd hys w⟩
theorem CJ {a:Int} {n:Nat} (e:a=(n:Int)) (hz:n<=100000) (W:Addr->Nat->St->Hp->List V->Prop)
  (hal:∀ d i σ' H' ys,i<=n->W d i σ' H' ys->ys.length<=i) (h0:∀ d,H d=none->W d 0 (bW own fr σ) (upd H d (.lst [])) [])
  (turn:∀ d i σ' H' ys (R:St->V->Hp->Prop) (R0:St->Hp->Prop),H d=none->i<n->W d i σ' H' ys->H' d=some (.lst ys) ->
   (∀ σ2 y H5,H5 d=some (.lst ys)->W d (i+1) σ2 (upd H5 d (.lst (ys++[y]))) (ys++[y])->R σ2 y H5)->(∀ σ2 H5,H5 d=some (.lst ys)->W d (i+1) σ2 H5 ys->R0 σ2 H5) ->
   g (.int (i:Int)) σ' H' fun σ2 H3=>tt σ2 H3 fun ok H4=>if ok=true then ta σ2 H4 (R σ2) else R0 σ2 H4)
  (fin:∀ d σ' H' ys,H d=none->H' d=some (.lst ys)->W d n σ' H' ys->Q (.ref d) H'):zK [.int a] H (fF own fr g tt ta σ Q):=by
 subst e;refine ⟨n,rfl,by omega,by omega,?_⟩
 have z:((n:Int)).toNat=n:=by omega
 show fF own fr g tt ta σ Q (Itr 0 (n:Int).toNat) H;rw [z];refine uS (n:=n) W hz (fun d i σ' H' ys hi _=>hi) (fun d σ' H' ys _=>Mi n) hal h0 (fun d i σ' H' ys x H2 R R0 hd hi w hys hy=>?_) fin;obtain ⟨e1,e2⟩:=hy;subst e1 e2;rw [S6];exact turn d i σ' _ ys R R0 hd hi w hys
theorem kN {p:Addr} {xs:List V} (hz:xs.length<=100000) (W:Addr->Nat->St->Hp->List V->Prop) (hw:∀ d i σ' H' ys,W d i σ' H' ys->SqL K H' p xs) (hS:SqL K H p xs)
  (hal:∀ d i σ' H' ys,i<=xs.length->W d i σ' H' ys->ys.length<=i) (h0:∀ d,H d=none->W d 0 (bW own fr σ) (upd H d (.lst [])) [])
  (turn:∀ d i x σ' H' ys (R:St->V->Hp->Prop) (R0:St->Hp->Prop),H d=none->xs[i]?=some x->W d i σ' H' ys->H' d=some (.lst ys) ->
   (∀ σ2 y H5,H5 d=some (.lst ys)->W d (i+1) σ2 (upd H5 d (.lst (ys++[y]))) (ys++[y])->R σ2 y H5)->(∀ σ2 H5,H5 d=some (.lst ys)->W d (i+1) σ2 H5 ys->R0 σ2 H5) ->
   g x σ' H' fun σ2 H3=>tt σ2 H3 fun ok H4=>if ok=true then ta σ2 H4 (R σ2) else R0 σ2 H4)
  (fin:∀ d σ' H' ys,H d=none->H' d=some (.lst ys)->W d xs.length σ' H' ys->Q (.ref d) H'):m9 K (.ref p) H (fF own fr g tt ta σ Q):=by
 refine ⟨p,rfl,⟨xs,hS⟩,uS (J:=Itl K p) (n:=xs.length) W hz (fun d i σ' H' ys hi w=>⟨xs,xs[i],hw d i σ' H' ys w,by simp [hi]⟩) (fun d σ' H' ys w=>⟨xs,hw d _ σ' H' ys w,Mi _⟩) hal h0 (fun d i σ' H' ys x H2 R R0 hd hi w hys hy=>?_) fin⟩
 obtain ⟨e1,e2⟩:=hy;subst e1;exact turn d i x σ' _ ys R R0 hd (e2 xs (hw d i σ' _ ys w)) w hys
theorem FU {p:Addr} {xs:List V} {ia ib:Nat} (hz:xs.length<=100000) (W:Addr->Nat->St->Hp->List V->Prop) (hw:∀ d i σ' H' ys,W d i σ' H' ys->SqL K H' p xs) (hS:SqL K H p xs)
  (hal:∀ d i σ' H' ys,i<=xs.length->W d i σ' H' ys->ys.length<=i) (h0:∀ d,H d=none->W d 0 (bW own fr σ) (upd H d (.lst [])) [])
  (turn:∀ d i x σ' H' H2 ys (R:St->V->Hp->Prop) (R0:St->Hp->Prop),H d=none->xs[i]?=some x->W d i σ' H' ys->H' d=some (.lst ys)->aj H' H2 ->
   (∀ σ2 y H5,H5 d=some (.lst ys)->W d (i+1) σ2 (upd H5 d (.lst (ys++[y]))) (ys++[y])->R σ2 y H5)->(∀ σ2 H5,H5 d=some (.lst ys)->W d (i+1) σ2 H5 ys->R0 σ2 H5) ->
   tt ((σ'.set ia (some (.int (i:Int)))).set ib (some x)) H2 fun ok H4=>if ok=true then ta ((σ'.set ia (some (.int (i:Int)))).set ib (some x)) H4 (R ((σ'.set ia (some (.int (i:Int)))).set ib (some x))) else R0 ((σ'.set ia (some (.int (i:Int)))).set ib (some x)) H4)
  (fin:∀ d σ' H' ys,H d=none->H' d=some (.lst ys)->W d xs.length σ' H' ys->Q (.ref d) H'):CY K [.ref p] H (fF own fr (Am K 2 (nK (gj ia) (nK (gj ib) zY))) tt ta σ Q):=by
 refine ⟨p,xs,rfl,hS,uS (J:=Ite K p) (n:=xs.length) W hz (fun d i σ' H' ys hi w=>⟨xs,xs[i],hw d i σ' H' ys w,by simp [hi]⟩) (fun d σ' H' ys w=>⟨xs,hw d _ σ' H' ys w,Mi _⟩) hal h0 (fun d i σ' H' ys x H2 R R0 hd hi w hys hy hR hR0=>?_) fin⟩
 obtain ⟨q,x',rfl,hq,rfl,e2⟩:=hy;have hx:=e2 xs (hw d i σ' H' ys w);refine ⟨q,[.int (i:Int),x'],rfl,SqT.of ao,rfl,⟨_,_,rfl,⟨_,_,rfl,⟨rfl,?_⟩⟩⟩⟩;exact turn d i x' σ' H' _ ys R R0 hd hx w hys (ay hq _) hR hR0
end
theorem Tbl.nil {H:Hp} {d:Addr}:Tbl (upd H d (.lst [])) d [] []:=⟨ao,QU,by simp,rfl,fun i p r e=>by simp at e⟩
theorem Tbl.snoc {H H5:Hp} {d p:Addr} {L:List (List Nat)} {ps:List Addr} {s:List Nat} (h:Tbl H d L ps) (hs:aj H H5) (hp:H5 p=some (.lst (aY s))) (hn:p∉ps) (hd:p≠d) :
  Tbl (upd H5 d (.lst (ps.map V.ref++[.ref p]))) d (L++[s]) (ps++[p]):=by
 refine ⟨?_,?_,?_,?_,fun i q r e1 e2=>?_⟩
 ·rw [ao,MQ];rfl
 ·exact B6 h.nd hn
 ·intro z;rcases MC.mp z with z|z
  ·exact h.ap z
  ·exact hd (Md.mp z).symm
 ·rw [Mo,Mo,h.len];rfl
 ·have hl:=h.len;rcases MH i ps.length with z|z
  ·rw [MP z] at e1;rw [MP (by omega)] at e2
   have hq:q≠d:=fun c=>h.ap (c ▸ LR e1);rw [aq hq];exact hs _ _ (h.row i q r e1 e2)
  ·rw [MM z] at e1;rw [MM (by omega)] at e2
   have i0:i - ps.length=0:=by
    rcases QK (i - ps.length) with c|c
    ·exact c
    ·rw [ND (by simp;omega)] at e1;cases e1
   rw [i0] at e1;rw [show i - L.length=0 by omega] at e2
   cases e1;cases e2;rw [aq hd];exact hp
section
variable {H:Hp} {σ:St} {Q:VK} {td ty tv:TE}
def nk (k:Nat):Key:=RP (k:Int)
def Ic (x y:V) (H:Hp) (Q:VK):Prop:=∃ a v,x=.ref a/\mj H a y (some v)/\Q v H
def Cr (y x:V) (H:Hp) (Q:VK):Prop:=∃ a o,x=.ref a/\mj H a y o/\Q (.bl (!o.isSome)) H
def HK (x y v:V) (H:Hp) (D:Hp->Prop):Prop:=∃ a H4,x=.ref a/\sN H a y v H4/\D H4
theorem lK (h:td σ H fun x H1=>ty σ H1 fun y H2=>Ic x y H2 Q):Ii td ty σ H Q:=h
theorem Fd (h:ty σ H fun y H1=>td σ H1 fun x H2=>Cr y x H2 Q):Cn ty td σ H Q:=h
theorem Cm {D:Ends} (h:tv σ H fun v H1=>td σ H1 fun x H2=>ty σ H2 fun y H3=>HK x y v H3 (D.nx σ)):HL td ty tv D σ H:=h
theorem oz {a:Addr} {k:Nat} {kvs:List (Key×V)} {v:V} (h:H a=some (.dK kvs)) (hv:cS kvs (nk k)=some v) (q:Q v H):Ic (.ref a) (.int (k:Int)) H Q :=
 ⟨a,v,rfl,by rw [<- hv];exact mj.k (k:=nk k) h,q⟩
theorem Hm {a:Addr} {k:Nat} {kvs:List (Key×V)} (h:H a=some (.dK kvs)) (q:Q (.bl (!(cS kvs (nk k)).isSome)) H):Cr (.int (k:Int)) (.ref a) H Q :=
 ⟨a,_,rfl,mj.k (k:=nk k) h,q⟩
theorem Fv {D:Hp->Prop} {a:Addr} {k:Nat} {kvs:List (Key×V)} {v:V} (h:H a=some (.dK kvs)) (hl:kvs.length<=100000) (q:D (upd H a (.dK (putK kvs (nk k) v)))):HK (.ref a) (.int (k:Int)) v H D :=
 ⟨a,_,rfl,sN.k (k:=nk k) h (Ny hl (by rw [NJ];decide)),q⟩
theorem JQ (h:∀ p,H p=none->Q (.ref p) (upd H p (.dK []))):FC σ H Q:=h
theorem Jb {tk:TE} (h:∀ p,H p=none->tk σ (upd H p (.dK [])) fun x H1=>tv σ H1 fun y H2=>H2 p=some (.dK [])/\∃ kvs:List (Key×V),[(x,y)]=kvs.map (fun kv=>(kV kv.1,kv.2))/\kvs.length<=15/\Q (.ref p) (upd H2 p (.dK (la [] kvs)))):HV [(tk,tv)] σ H Q:=h
theorem vF {a b:Nat} (h:nk a=nk b):a=b:=Ro (S9 h)
end
section
variable {prog:Ms} {w:World} {A:MY} {s:LU} {R:QZ->LU->Prop}
variable {I:Addr} {fp wr:List Addr} {G:Array Qc->Array Qc->Prop} {n:Nat} {P:Nat->Value->Prop} {St:Nat->LU->Prop}
end
section
variable {prog:Ms} {w:World} {A:MY} {s:LU} {R:QZ->LU->Prop} {E:Value->LU->Prop}
variable {I:Addr} {fp wr:List Addr} {G:Array Qc->Array Qc->Prop} {n:Nat} {P:Nat->Value->Prop} {St:Nat->LU->Prop}
end
section
variable {X:Cx} {pins:List (Addr×Obj)} {σ:St} {H:Hp} {s:LU} {a:Addr} {kvs:List (Key×V)} {ep:Nat}
end
section
variable {P:Ms} {w:World} {σ:St} {H:Hp} {Q:VK} {td ty:TE} {tl:TE} {ta:TA} {K:LM}
end
section
variable {X:Cx} {CX:CXT} {k:Nat} {f C:Addr} {fd:M9} {ps:List Str} {sp:Sp} {m:Str} {pos apos:Pos} {e o:Expr} {es:List Expr} {ta:TE} {t:TA}
end
section
variable {σ:St} {H:Hp} {Q:VK} {K:LM}
theorem Fj {a b:Int} (q:Q (.int (a+b)) H):rI0 (fun i j=>.int (i+j)) (.int a) (.int b) H Q:=⟨a,b,rfl,rfl,q⟩
theorem Au {a b:Int} (q:Q (.int (a - b)) H):rI0 (fun i j=>.int (i - j)) (.int a) (.int b) H Q:=⟨a,b,rfl,rfl,q⟩
theorem dG {a b:Int} (h:0<b) (q:Q (.int (a % b)) H):rI (fun _ j=>0<j) (fun i j=>.int (i % j)) (.int a) (.int b) H Q:=⟨a,b,rfl,rfl,h,q⟩
theorem gQ {a b:Int} (h:0<b) (h2:b<1073741824) (q:Q (.int (a / b)) H):rI GI (fun i j=>.int (i / j)) (.int a) (.int b) H Q:=⟨a,b,rfl,rfl,⟨by omega,by omega⟩,q⟩
end
section
variable {σ:St} {H:Hp} {Q:VK} {D:Ends} {g:TG} {t:TS} {tA:TA} {tt:TT} {ta:TE} {own:List Str} {fr:List Nat}
end
theorem cC:∀ (names:List (Str×Pe)) (n:Nat) (acc:List (Str×Addr)),cellsFrom n names acc=cellsFrom n names []++acc
 | [],_,_=>rfl
 | (x,k) :: r,n,acc=>by
  unfold cellsFrom
  split
  ·rw [cC r (n+1) ((x,n) :: acc),cC r (n+1) [(x,n)],Q3];rfl
  ·exact cC r n acc
theorem j9:∀ (names:List (Str×Pe)) (n:Nat) (x:Str),(x,NH)∈names->∃ c,(cellsFrom n names []).lookup x=some c
 | (y,k) :: r,n,x,h=>by
  unfold cellsFrom;rcases My.mp h with e|h
  ·cases e;rw [if_pos (show (NH == NH)=true from rfl),cC,OI];cases q:(cellsFrom (n+1) r []).lookup y with
   | some c=>exact ⟨c,rfl⟩
   | none=>exact ⟨n,by simp⟩
  ·split
   ·obtain ⟨c,hc⟩:=j9 r (n+1) x h;rw [cC,OI,hc];exact ⟨c,rfl⟩
   ·exact j9 r n x h
theorem nc:∀ (names:List (Str×Pe)) (n:Nat) (x:Str) (c:Addr),(x,c)∈cellsFrom n names []->(x,NH)∈names
 | [],_,_,_,h=>by simp [cellsFrom] at h
 | (y,k) :: r,n,x,c,h=>by
  unfold cellsFrom at h
  split at h
  ·rename_i hk
   rw [cC] at h;rcases MC.mp h with z|z
   ·exact Mh _ (nc r (n+1) x c z)
   ·have z':=Md.mp z;cases z';have:k=NH:=by simpa using hk
    rw [this];exact Mn
  ·exact Mh _ (nc r n x c h)
theorem uq {M:Model} {A:MY} {E:Value->LU->Prop} {s:LU} {scope:Scope} {globals:Addr} {cl:List (Str×Addr)} {qual:Str} {env:Env} {Q:Env->LU->Prop}
  (h:Q (newEnv scope s.heap.objs.size globals (cellsFrom (s.heap.objs.size+1) scope.names cl) qual none .none (some env) builtinsNs) { s with heap:=pushCells (s.heap.push { cls:=.type "dict",data:=.dict #[] }) scope.names }) :
  wpAny M A (newFunctionEnv scope globals cl [] qual none .none (some env)) Q E s:=by
 simp only [newFunctionEnv,Option.isSome_some,if_true];refine LN (Td ?_);refine LN (wpAny_layCells _ (fun name kind cells=>by cases hkc:kind == NH <;> simp [hkc]) _ _ _ _ ?_)
 rw [show ({ s with heap:=s.heap.push { cls:=.type "dict",data:=.dict #[] } }:LU).heap.objs.size=s.heap.objs.size+1 from NW ..];exact LN (Mb (Mb h))
def dB (X:Cx) (scope:Scope) (own:List Str) (fr:List Nat) (C:Addr) (s₂:LU) (H₂:Hp) (fp:List Addr):Cx :=
 { X with N:=j6 own fr X.N,s₀:=s₂,H₀:=H₂,env:=compEnvC scope (cellsFrom (C+1) scope.names (eS X.env scope.names [])) C X.env,outer:=X.stack,ex:=fp,fn:=fun x=>decide ((x,NH)∈scope.names),pn:=[],xe:=fun _ _=>False }
structure gH (sc:Scope) (N:List Str) (scope:Scope) (own:List Str) (fr:List Nat):Prop where
 kind:scope.kind=.function
 cf0:∀ y∈scope.names,y.2=.cell->(y.1,NP)∉scope.names
 names:∀ y∈scope.names,y.2=.local->scope.names.lookup y.1=some .local
 free:∀ y∈scope.names,y.2=.free->sc.names.lookup y.1=some .cell\/sc.names.lookup y.1=some .free
 fr0:∀ i∈fr,(N[i]?.bind fun x=>scope.names.lookup x)=some .free
 nd:(j6 own fr N).Nodup
theorem gH.cf {sc:Scope} {N:List Str} {scope:Scope} {own:List Str} {fr:List Nat} (S:gH sc N scope own fr) (x:Str) (h:(x,NH)∈scope.names):(x,NP)∉scope.names:=S.cf0 _ h rfl
theorem gH.fr {sc:Scope} {N:List Str} {scope:Scope} {own:List Str} {fr:List Nat} (S:gH sc N scope own fr):∀ i∈fr,∃ x,N[i]?=some x/\scope.names.lookup x=some .free:=fun i hi=>by
 have q:=S.fr0 i hi;cases e:N[i]? with
 | none=>rw [e] at q;cases q
 | some x=>rw [e] at q;exact ⟨x,rfl,q⟩
section
variable {X:Cx} {scope:Scope} {own:List Str} {fr:List Nat} {pins:List (Addr×Obj)} {σ:St} {H₂:Hp} {s₂:LU} {fp:List Addr} {C D:Addr} {h₁:Heap} {m:Str->Option Value} {tk:Nat}
theorem gH.cells (S:gH X.env.scope X.N scope own fr) (ok:X.Ok):∀ x∈scope.names,x.2=.free->∃ c,X.env.cells.lookup x.1=some c:=fun x hx hf=>ok.has x.1 (S.free x hx hf)
theorem FV (S:gH X.env.scope X.N scope own fr) (I:Inv X pins σ H₂ s₂) (f2:∀ b∈fp,lD X pins H₂ b) (fo:∀ b∈fp,b<s₂.heap.objs.size)
  (hC:s₂.heap.objs.size<=C) (hD:s₂.heap.objs.size<=D) (hDC:D≠C) (hDC':D<C) (old:∀ b o,s₂.heap.get? b=some o->h₁.get? b=some o) (hns:h₁.Ns C m) (new:∃ n,h₁.get? D=some { cls:=.type "list",data:=.seq #[] n }) (okc:CellsOk h₁ (C+1) (cellsFrom (C+1) scope.names [])) :
  Inv (dB X scope own fr C s₂ H₂ fp) [] (bW own fr σ) (upd H₂ D (.lst [])) { s₂ with heap:=h₁,toks:=tk }:=by
 have hk:=S.cells I.ok;have sub:=uR (env:=X.env) scope.names [] hk (fun x c e=>by cases e)
 have fl:∀ x c,(eS X.env scope.names []).lookup x=some c->∃ v,s₂.heap.IsCell c v:=fun x c e=>I.cell x c (sub x c e);have two:∀ x c,(cellsFrom (C+1) scope.names (eS X.env scope.names [])).lookup x=some c->((cellsFrom (C+1) scope.names []).lookup x=some c)\/(eS X.env scope.names []).lookup x=some c:=fun x c e=>by
  rw [cC,OI] at e;cases q:(cellsFrom (C+1) scope.names []).lookup x with
  | none=>rw [q] at e;exact .inr e
  | some c'=>rw [q] at e;exact .inl e
 have nw:∀ x c,(cellsFrom (C+1) scope.names []).lookup x=some c->h₁.IsCell c none/\C+1<=c:=fun x c e=>okc.empty x c (M0 e);have ge:∀ x c,(cellsFrom (C+1) scope.names []).lookup x=some c->s₂.heap.objs.size<=c:=fun x c e=>Na hC (Oe (nw x c e).2);have olt:∀ x c,(eS X.env scope.names []).lookup x=some c->c<s₂.heap.objs.size:=fun x c e=>by
  obtain ⟨v,o,z1,_⟩:=fl x c e;exact Me z1
 have okX:(dB X scope own fr C s₂ H₂ fp).Ok:=by
  refine ⟨I.ok.mod,S.kind,I.ok.glob,I.ok.blt,hC,fun x y c e1 e2=>?_,fun x hx=>?_,fun x c hf e=>?_,I.ok.hd,I.ok.frames,.inl rfl,fun b hb=>⟨?_,fun x c e z=>?_⟩,
   I.bs,Na I.ok.bsz I.sz,fun b o e hb=>?_,fun b hb=>?_,I.stack,I.wW⟩
  ·rcases two x c e1 with z1|z1 <;> rcases two y c e2 with z2|z2
   ·exact name_of_addr okc.apart (M0 z1) (M0 z2)
   ·exact absurd (Ny (ge x c z1) (olt y c z2)) (NG _)
   ·exact absurd (Ny (ge y c z2) (olt x c z1)) (NG _)
   ·exact I.ok.inj x y c (sub x c z1) (sub y c z2)
  ·show ∃ c,(cellsFrom (C+1) scope.names (eS X.env scope.names [])).lookup x=some c;rw [cC,OI];cases q:(cellsFrom (C+1) scope.names []).lookup x with
   | some c'=>exact ⟨c',rfl⟩
   | none =>
    rcases nh hx with z|z
    ·exact om _ _ _ z
    ·obtain ⟨c,hc⟩:=j9 scope.names (C+1) x z;rw [q] at hc;cases hc
  ·rcases two x c e with z|z
   ·exact ge x c z
   ·exfalso
    have hf':(x,NH)∈scope.names:=of_decide_eq_true hf;have e':(cellsFrom (C+1) scope.names (eS X.env scope.names [])).lookup x=some c:=e;obtain ⟨c',hc'⟩:=j9 scope.names (C+1) x hf';rw [cC,OI,hc'] at e';cases e';exact absurd (Ny (ge x _ hc') (olt x _ z)) (NG _)
  ·exact Mp (Ml (fo b hb) hC)
  ·rcases two x c e with y|y
   ·exact absurd (Ny (ge x c y) (z ▸ fo b hb)) (NG _)
   ·exact (f2 b hb).2.2.2.2.1 x c (sub x c y) z
  ·obtain ⟨_,_,_,f3,_⟩:=f2 b hb;rcases f3 with z|z
   ·exact I.ok.u5 b o e z
   ·exact absurd (Ml (Me (I.ok.bs b o e).1) z) (NG _)
  ·obtain ⟨_,f1,f2',_⟩:=f2 b hb;intro z;rcases My.mp (I.sZ b z) with q|q
   ·exact f1 q
   ·exact f2' q
 have frH:∀ a,s₂.heap.objs.size<=a->H₂ a=none:=fun a h=>I.hok.fresh h;refine ⟨okX,rfl,I.bare,Un.laid old hD (frH D hD),⟨m,hns,fun i x v e1 e2 e3=>?_⟩,fun x c e=>?_,?_,fun x c e=>?_,fun p hp=>absurd (show p∈([]:List (Addr×Obj)) from hp) (by simp),I.hok.laid old hD ?_,?_⟩
 ·obtain ⟨j,hi,hj,hv⟩:=wB e2;have hx:X.N[j]?=some x:=by
   obtain ⟨y,hy,_⟩:=S.fr j (LR hj);have e1':(j6 own fr X.N)[i]?=some x:=e1;unfold j6 at e1';rw [MM hi,Mf,hj] at e1';have e1'':(X.N[j]?).getD ("" : Str)=x:=by simpa using e1'
   rw [hy] at e1'' ⊢;exact congrArg some e1''
  obtain ⟨y,hy,hfree⟩:=S.fr j (LR hj);rw [hx] at hy;cases hy;have hkind:X.env.kindOf x=some .cell\/X.env.kindOf x=some .free:=S.free _ (M0 hfree) rfl;obtain ⟨mo,hno,hlo⟩:=I.loc;obtain ⟨u,r,l⟩:=hlo j x v hx hv (hkind.elim (fun z=>.inr (.inl z)) fun z=>.inr (.inr z));refine ⟨u,r,.inr ⟨oj hfree,?_⟩⟩;obtain ⟨c,hc⟩:=om (env:=X.env) scope.names [] x (M0 hfree);have hno:(cellsFrom (C+1) scope.names []).lookup x=none:=by
   cases q:(cellsFrom (C+1) scope.names []).lookup x with
   | none=>rfl
   | some c'=>exact absurd (M0 hfree) (S.cf x (nc scope.names (C+1) x c' (M0 q)))
  refine ⟨c,by show (cellsFrom (C+1) scope.names (eS X.env scope.names [])).lookup x=some c;rw [cC,OI,hno];exact hc,?_⟩
  have hc':=sub x c hc;rcases l with ⟨k,_⟩|⟨_,c',e,o,z1,z2⟩
  ·rcases hkind with z|z
   ·rw [k] at z;cases z
   ·rw [k] at z;cases z
  ·rw [hc'] at e;cases e;exact ⟨o,old _ _ z1,z2⟩
 ·rcases two x c e with y|y
  ·exact ⟨none,(nw x c y).1⟩
  ·obtain ⟨v,o,z1,z2⟩:=fl x c y;exact ⟨v,o,old _ _ z1,z2⟩
 ·show (upd H₂ D (.lst [])) C=none;rw [aq (NV hDC)];exact frH C hC
 ·rcases two x c e with y|y
  ·rw [aq (show c≠D from OX (Qf hDC' (nw x c y).2))];exact frH c (ge x c y)
  ·obtain ⟨v,o,z1,z2⟩:=fl x c y;rw [aq (Mp (Ml (Me z1) hD))];exact I.fC x c (sub x c y)
 ·obtain ⟨n,e⟩:=new;exact ⟨Nd _,[],n,.nil,e⟩
 ·show (bW own fr σ).length=(j6 own fr X.N).length;simp [bW,j6]
end
section
variable {X:Cx} {elt tg iter:Expr} {ifs:List Expr} {scope:Scope} {pos:Pos} {own:List Str} {fr:List Nat} {wi:TI} {g:TG} {tt:TT} {te:TE}
theorem DM {pins:List (Addr×Obj)} {s:LU} {σ:St} {H:Hp} {Q:VK} {RR:Value->Addr->QZ->LU->Prop} (hc:X.calm=true) (S:gH X.env.scope X.N scope own fr) (hi:PI X tg iter wi)
  (hb:∀ C s₂ H₂ fp,PG (dB X scope own fr C s₂ H₂ fp) tg g/\PIf (dB X scope own fr C s₂ H₂ fp) ifs tt/\PE (dB X scope own fr C s₂ H₂ fp) elt te)
  (I:Inv X pins σ H s) (h:qD own fr wi g tt te σ H Q)
  (hRR:∀ D C s' H' m',Inv X pins σ H' s'->Q (.ref D) H'->lD X pins H' C->s'.heap.Ns C m'->RR (.ref D) C (.ok .next) s') :
  wpAny (model X.prog X.w) X.A (eval iter X.env) (fun v s₁=>wpAny (model X.prog X.w) X.A (pyIter v) (fun it s₂=>wpAny (model X.prog X.w) X.A (newList []) (fun acc s₃ =>
   wpAny (model X.prog X.w) X.A (newFunctionEnv scope X.env.globals (eS X.env scope.names []) [] X.env.qual none .none (some X.env)) (fun cenv s₄ =>
    codeAny (model X.prog X.w) X.A (.compStart (.ListComp elt [⟨tg,iter,ifs,0⟩] scope pos) 0 it acc { cenv with scope:=relabel scope X.env }) (RR acc cenv.locals) s₄) X.xe s₃) X.xe s₂) X.xe s₁) X.xe s:=by
 refine thn (hi pins s σ H _ I h) fun v s1 h1=>thn h1 fun itv s2 h2=>?_;obtain ⟨it,fp,tn,J,H2,e,I2,T,st2,f2,hq⟩:=h2;subst e;refine N9 (uq ?_);dsimp only;have hD:=I2.hok.fresh (Mi s2.heap.objs.size);obtain ⟨W,⟨m0,w0⟩,turn⟩:=hq s2.heap.objs.size hD;generalize hH2:s2.heap.push { cls:=.type "list",dict:=none,data:=.seq ([]:List Value).toArray }=G at ⊢;have hG:G.objs.size=s2.heap.objs.size+1:=by rw [<- hH2,NW]
 have hDC:s2.heap.objs.size≠G.objs.size:=by rw [hG];exact Mp (Oi _)
 have hC:s2.heap.objs.size<=G.objs.size:=by rw [hG];exact OL _
 have old:∀ b o,s2.heap.get? b=some o->(pushCells (G.push { cls:=.type "dict",data:=.dict #[] }) scope.names).get? b=some o:=fun b o e =>
  R5 _ _ b o (LV _ (hH2 ▸ LV _ e))
 have new:(pushCells (G.push { cls:=.type "dict",data:=.dict #[] }) scope.names).get? s2.heap.objs.size=some { cls:=.type "list",data:=.seq #[] 0 } :=
  R5 _ _ _ _ (LV _ (hH2 ▸ Mx _ rfl))
 have hns₁:(pushCells (G.push { cls:=.type "dict",data:=.dict #[] }) scope.names).Ns G.objs.size (fun _=>none):=(Heap.Ns.new G (.type "dict")).keeps (R5 _ _);have okc:=cellsFrom_ok scope.names (G.push { cls:=.type "dict",data:=.dict #[] }) (G.objs.size+1) [] ⟨fun _ _ hm=>(nomatch hm),Q5⟩ (by rw [NW];exact Mi _)
 rw [NW] at okc;generalize hh1:pushCells (G.push { cls:=.type "dict",data:=.dict #[] }) scope.names=h₁ at old new hns₁ okc ⊢;have fo:∀ b∈fp,b<s2.heap.objs.size:=fun b hb'=>let ⟨o,e,_⟩:=T.obj 0 _ st2 b hb';Me e;have I4:Inv (dB X scope own fr G.objs.size s2 H2 fp) [] (bW own fr σ) (upd H2 s2.heap.objs.size (.lst [])) { s2 with heap:=h₁ } :=
  FV (tk:=s2.toks) S I2 f2 fo hC (Mi _) hDC (by rw [hG];exact Oi _) old hns₁ ⟨_,new⟩ okc
 obtain ⟨hg,ht,he⟩:=hb G.objs.size s2 H2 fp;have fpX:∀ {H':Hp},(∀ b∈fp,H' b=none)->∀ b∈fp,lD (dB X scope own fr G.objs.size s2 H2 fp) [] H' b:=fun {H'} hn b hb'=>by
  refine ⟨hn b hb',Mp (Ml (fo b hb') hC),I4.ok.sM b hb',.inl hb',(I4.ok.exf b hb').2,fun p hp=>absurd (show p∈([]:List (Addr×Obj)) from hp) (by simp)⟩
 have fr0:∀ b∈fp,(upd H2 s2.heap.objs.size (.lst [])) b=none:=fun b hb'=>by
  rw [aq (Mp (fo b hb'))];exact (f2 b hb').1
 have tn0:tn 0 h₁:=T.keep _ _ _ st2 fun b hb' o e=>old b o e;have loop:codeAny (model X.prog X.w) X.A (.compLoop (.ListComp elt [⟨tg,iter,ifs,0⟩] scope pos) 0 (.ref it) (.ref s2.heap.objs.size) (compEnvC scope (cellsFrom (G.objs.size+1) scope.names (eS X.env scope.names [])) G.objs.size X.env))
   (RR (.ref s2.heap.objs.size) G.objs.size) { s2 with heap:=h₁ }:=by
  refine xZ (fun n s'=>∃ i σ' H',Inv (dB X scope own fr G.objs.size s2 H2 fp) [] σ' H' s'/\tn i s'.heap/\(∀ b∈fp,H' b=none)/\W i n σ' H') ?_ m0 ⟨0,_,_,I4,tn0,fr0,w0⟩;rintro n s3 ⟨i,σ3,H3,I3,st3,fr3,w3⟩;have nfp:∀ {H':Hp} {s':LU} {σ':St} {pl:List (Addr×Obj)},Inv (dB X scope own fr G.objs.size s2 H2 fp) pl σ' H' s'->pl=mQ fp s'.heap->True:=fun _ _=>trivial;rcases turn i n σ3 H3 w3 with ⟨stop,qn⟩|⟨go,step⟩
  ·refine thn (T.done (dB X scope own fr G.objs.size s2 H2 fp) rfl rfl rfl hc i [] s3 σ3 H3 (fun _ _=>False) I3 (fpX fr3) st3 stop) fun r s4 ⟨hr,I5⟩=>?_;subst hr;have IX:Inv X pins σ H3 s4:=I2.Dv (ch:=fp) I5.os I5.base I5.hok I5.bare fun b hb'=>let ⟨_,f1,_,f3,f4,f5⟩:=f2 b hb';⟨f3,f1,f4,f5⟩;obtain ⟨m',hn',_⟩:=I5.loc;exact hRR _ _ _ _ m' IX qn (I2.uJ hC I5.free) hn'
  ·refine thn (T.item (dB X scope own fr G.objs.size s2 H2 fp) rfl rfl rfl hc i [] s3 σ3 H3 (fun _ _=>False) I3 (fpX fr3) st3 go) fun r s4 ⟨u,hr,h4⟩=>?_;subst hr;refine thn h4 fun _ s5 ⟨x,H5,I5,r5,y5,st5,fr5⟩=>?_;have I5':=I5.pinned (fpX fr5) (T.obj _ _ st5);refine thn (hg _ s5 σ3 H5 x u _ I5' r5 (step x H5 y5)) fun _ s6 ⟨σ6,H6,I6,q6⟩=>?_;have again:∀ {s7:LU} {σ7:St} {H7:Hp} {m':Nat},Inv (dB X scope own fr G.objs.size s2 H2 fp) ([]++mQ fp s5.heap) σ7 H7 s7->m' < n->W (i+1) m' σ7 H7 ->
     ∃ m,m<n/\∃ i σ' H',Inv (dB X scope own fr G.objs.size s2 H2 fp) [] σ' H' s7/\tn i s7.heap/\(∀ b∈fp,H' b=none)/\W i m σ' H':=fun {s7 σ7 H7 m'} I7 hm w7=>by
    refine ⟨m',hm,i+1,σ7,H7,I7.ou,T.keep _ _ _ st5 fun b hb' o e=>(I7.pin (b,o) (MN _ (MN _ (jL hb' e)))).1,fun b hb'=>?_,w7⟩;obtain ⟨o,e,d⟩:=T.obj _ _ st5 b hb';exact (I7.pin (b,o) (MN _ (MN _ (jL hb' e)))).2.1
   refine thn (ht _ s6 σ6 H6 _ I6 q6) fun ok s7 ⟨H7,I7,q7⟩=>?_;cases ok with
   | false =>
    rw [if_neg Mu] at q7 ⊢;obtain ⟨m',hm,w7⟩:=q7;exact again I7 hm w7
   | true =>
    rw [if_pos rfl] at q7 ⊢;refine thn (he _ s7 σ6 H7 _ I7 q7) fun y s8 ⟨yv,H8,I8,r8,q8⟩=>?_;obtain ⟨ys,hy,hl,m',hm,w8⟩:=q8;refine thn (dE _ s8 σ6 H8 (.ref s2.heap.objs.size) [yv] _ [y] (fun _ H9=>H9=upd H8 s2.heap.objs.size (.lst (ys++[yv]))) I8 rfl (.cons r8 .nil) ⟨_,ys,yv,rfl,rfl,hy,hl,rfl⟩) fun _ s9 ⟨_,H9,I9,_,e9⟩=>?_;subst e9;exact again I9 hm w8
 exact RJ loop (T.self X.A 0 _ _ _ tn0 loop)
theorem AW (hc:X.calm=true) (S:gH X.env.scope X.N scope own fr) (hi:PI X tg iter wi)
  (hb:∀ C s₂ H₂ fp,PG (dB X scope own fr C s₂ H₂ fp) tg g/\PIf (dB X scope own fr C s₂ H₂ fp) ifs tt/\PE (dB X scope own fr C s₂ H₂ fp) elt te)
  (hs:∀ x,foldedSetIterable iter X.env x=pure x:=by intro _;rfl):PE X (.ListComp elt [⟨tg,iter,ifs,0⟩] scope pos) (qD own fr wi g tt te):=by
 intro pins s σ H Q I h;rw [eval_ListComp];refine PB (use:=none) rfl hs (xl (S.cells I.ok)) S.kind S.names ?_;refine DM (RR:=fun acc C=>compPost (model X.prog X.w) X.A X.xe none (EP X pins σ Q) acc C) hc S hi hb I h ?_;intro D C s' H' m' I' q f hn;obtain ⟨f0,f1,f2,f3,f4,f5⟩:=f;exact ⟨m',hn,fun h' sb=>⟨.ref D,H',I'.turned (t':=s'.toks) (fun b o hb e=>(sb.2 b hb).trans e) f0 f1 f3 f4 f5,rfl,q⟩⟩
end
section
variable {K:LM} {H:Hp} {σ:St} {Q:VK} {tt:TT} {ta:TE} {own:List Str} {fr:List Nat}
end
section
variable {X:Cx}
end
end L2
namespace L2
section
variable {α:Type} {us:List α}
theorem len0 (h:us.length=0):us=[]:=Rp.mp h
theorem zT {n:Nat} (h:us.length=n+1):∃ a r,us=a :: r/\r.length=n:=by
 cases us with
 | nil=>simp at h
 | cons a r=>exact ⟨a,r,rfl,by simpa using h⟩
theorem kT (h:us.length=1):∃ a,us=[a]:=by
 obtain ⟨a,r,rfl,h2⟩:=zT h;obtain rfl:=len0 h2;exact ⟨a,rfl⟩
theorem dX (h:us.length=2):∃ a b,us=[a,b]:=by
 obtain ⟨a,r,rfl,h2⟩:=zT h;obtain ⟨b,rfl⟩:=kT h2;exact ⟨a,b,rfl⟩
theorem mq (h:us.length=3):∃ a b c,us=[a,b,c]:=by
 obtain ⟨a,r,rfl,h2⟩:=zT h;obtain ⟨b,c,rfl⟩:=dX h2;exact ⟨a,b,c,rfl⟩
theorem km (h:us.length=4):∃ a b c d,us=[a,b,c,d]:=by
 obtain ⟨a,r,rfl,h2⟩:=zT h;obtain ⟨b,c,d,rfl⟩:=mq h2;exact ⟨a,b,c,d,rfl⟩
theorem LB (h:us.length=5):∃ a b c d e,us=[a,b,c,d,e]:=by
 obtain ⟨a,r,rfl,h2⟩:=zT h;obtain ⟨b,c,d,e,rfl⟩:=km h2;exact ⟨a,b,c,d,e,rfl⟩
end
end L2
namespace L2
open PySem PySem.Spec PyProof.Rows
theorem bB.there {P:Ms} {w:World} {H:Hp} {h:Heap} {a:Addr} {o:HO} (x:bB P w H h a o):∃ ob,h.get? a=some ob:=by
 cases o with
 | lst xs=>obtain ⟨_,_,_,_,e⟩:=x;exact ⟨_,e⟩
 | tup xs=>obtain ⟨_,_,_,ob,e,_⟩:=x;exact ⟨_,e⟩
 | dK kvs=>obtain ⟨_,_,_,_,o,_,_,e,_⟩:=x;exact ⟨_,e⟩
 | dT kvs=>obtain ⟨_,_,_,_,o,_,_,e,_⟩:=x;exact ⟨_,e⟩
 | set S n=>obtain ⟨o,_,_,_,e,_⟩:=x;exact ⟨_,e⟩
 | ins C dx fs=>obtain ⟨_,_,_,e,_⟩:=x;exact ⟨_,e⟩
 | own y=>exact x
 | xd fs=>obtain ⟨_,⟨_,_,_,e,_⟩,_⟩:=x;exact ⟨_,e⟩
 | rng lo hi=>obtain ⟨_,_,_,e⟩:=x;exact ⟨_,e⟩
 | frz ob u=>obtain ⟨e,_⟩:=x;exact ⟨_,e⟩
 | tbl ps=>exact ⟨_,(show h.get? a=some _ from x)⟩
 | met f y=>exact ⟨_,(show h.get? a=some _ from x)⟩
 | ext φ=>obtain ⟨_,e,_⟩:=x;exact e
def kj (h:Heap) (x T C:Addr) (d:Option Addr) (fl:Value):Prop:=∃ oe vs oT ts,h.get? x=some oe/\oe.cls=.ref C/\oe.dict=d/\oe.data=.fields vs/\vs[1]?=some (.ref T)/\T≠x/\h.get? T=some oT/\oT.data=.fields ts/\ts[3]?=some fl
abbrev pK (h:Heap) (x T C:Addr) (d:Option Addr):Prop:=kj h x T C d .none
def pI (h:Heap) (x C:Addr) (d:Option Addr):Prop:=∃ oe vs,h.get? x=some oe/\oe.cls=.ref C/\oe.dict=d/\oe.data=.fields vs/\vs[1]?=some .none
def vT (h:Heap) (b:Addr):Prop:=∃ o vs,h.get? b=some o/\o.data=.fields vs
theorem kj.sr {h:Heap} {x T C:Addr} {d:Option Addr} {fl:Value} (e:kj h x T C d fl):∀ b∈[x,T],vT h b:=fun b hb=>by
 obtain ⟨oe,vs,oT,ts,e1,_,_,e3,_,_,e6,e7,_⟩:=e;rcases My.mp hb with rfl|hb
 ·exact ⟨_,_,e1,e3⟩
 ·obtain rfl:=Md.mp hb;exact ⟨_,_,e6,e7⟩
theorem pI.sr {h:Heap} {x C:Addr} {d:Option Addr} (e:pI h x C d):∀ b∈[x],vT h b:=fun b hb=>by
 obtain ⟨oe,vs,e1,_,_,e3,_⟩:=e;obtain rfl:=Md.mp hb;exact ⟨_,_,e1,e3⟩
structure eQ (l:List Env) (x:Addr) (ts:List Addr) (C:Addr) (d:Option Addr) (fl:Value) (T:Addr) (h h':Heap):Prop where
 keep:∀ b o,b∉frs l->b≠x->b∉ts->h.get? b=some o->h'.get? b=some o
 slot:∀ b o,b∈frs l->h.get? b=some o->∃ sl,h'.get? b=some { o with slots:=sl }
 exc:kj h' x T C d fl
 new:T∈ts\/h.get? T=none
theorem eQ.on {l:List Env} {x T C:Addr} {ts:List Addr} {d:Option Addr} {f1 f2:Value} {h h1 h2:Heap} (a:eQ l x ts C d f1 T h h1) (b:eQ l x [T] C d f2 T h1 h2):eQ l x ts C d f2 T h h2 where
 keep:=fun c o k1 k2 k3 q=>b.keep c o k1 k2 (fun z=>by
  rw [Md.mp z] at k3 q;exact a.new.elim k3 fun y=>by rw [y] at q;cases q) (a.keep c o k1 k2 k3 q)
 slot:=fun c o k q=>by
  obtain ⟨s1,q1⟩:=a.slot c o k q;obtain ⟨s2,q2⟩:=b.slot c _ k q1;exact ⟨s2,q2⟩
 exc:=b.exc
 new:=a.new
section
variable {M:Model} {A:MY} {E:Value->LU->Prop} {s:LU} {base:Heap} {env:Env} {outer:List Env} {L x T C:Addr} {d:Option Addr} {fl:Value} {Q:Unit->LU->Prop}
theorem wJ (f:Array Value->Array Value) (o:Obj):(SU f o).dict=o.dict:=by
 obtain ⟨oc,od,odt,osl⟩:=o;cases odt <;> rfl
theorem ye {head:Value} {hadNext:Bool} {oe:Obj} {vs:Array Value} (hfr:A.frames=some (env :: outer)) (hl:s.heap.FunFrames base (env :: outer)) (hf:env.frame=some L)
  (he:s.heap.get? x=some oe) (hc:oe.cls=.ref C) (hi:oe.dict=d) (hd:oe.data=.fields vs) (hz:1<vs.size) (h:∀ h' T,eQ (env :: outer) x [] C d (rawInt L) T s.heap h'->Q () { s with heap:=h' }) :
  wpAny M A (frameOf env >>= fun a=>entryPlaceOf L hadNext >>= fun pl=>SG head a .none (rawInt L) .none pl >>= fun b=>setField (.ref x) 1 b) Q E s:=by
 have nx:x∉frs (env :: outer):=fun hm=>by
  obtain ⟨_,o,ho,hn⟩:=hl.mem hm;rw [he] at ho;cases ho;exact hn vs hd
 refine LN (wpAny_frameOf_fun hfr hl hf fun h1 hs=>LN (wpAny_entryPlaceOf fun pl hpl=>?_));unfold SG newFields;refine LN (N9 ?_ (hpl.sizeOk5 _ _ _ _ _));have h3:([head,.ref L,.none,rawInt L,.none]++(if pl.isEmpty then Mv 6 Ov else pl)).toArray[3]?=some (rawInt L):=by simp
 generalize ([head,.ref L,.none,rawInt L,.none]++(if pl.isEmpty then Mv 6 Ov else pl)).toArray=arr at h3;have e1:h1.get? x=some oe:=(hs.2.1 x nx).trans he;have nT:h1.objs.size≠x:=OX (Me e1);have fresh:s.heap.get? h1.objs.size=none:=by
  cases q:s.heap.get? h1.objs.size with
  | none=>rfl
  | some o =>
   obtain ⟨sl,z⟩:=hs.2.2 _ _ q;exact absurd (Me z) (NG _)
 refine Sz (LV _ e1) hd hz (h _ h1.objs.size ⟨fun b o k1 k2 _ q=>?_,fun b o k1 q=>?_,?_,.inr fresh⟩)
 ·rw [Nf _ _ (NV k2)];exact LV _ ((hs.2.1 b k1).trans q)
 ·obtain ⟨sl,z⟩:=hs.2.2 b o q;refine ⟨sl,?_⟩;rw [Nf _ _ (fun y=>nx (by rw [y];exact k1))]
  exact LV _ z
 ·have hd':=QL hd (·.setIfInBounds 1 (Mw h1.objs.size));exact ⟨_,_,_,arr,NC _ (LV _ e1) (R6 hd'),(Obj.cls_mapFields _ _).trans hc,(wJ _ _).trans hi,hd',by simp [hz],nT,
   (Nf _ _ (NV nT)).trans (Mx h1 rfl),rfl,h3⟩
theorem DZ (hfr:A.frames=some (env :: outer)) (hl:s.heap.FunFrames base (env :: outer)) (hf:env.frame=some L) (he:pI s.heap x C d)
  (h:∀ h' T,eQ (env :: outer) x [] C d (rawInt L) T s.heap h'->Q () { s with heap:=h' }):wpAny M A (noteFrame (.ref x) env) Q E s:=by
 obtain ⟨oe,vs,e1,e2,e3,e4,e5⟩:=he;unfold noteFrame;simp only [hf];refine LN (Oj e1 e4 e5 ?_);rw [if_neg (by decide)]
 exact ye hfr hl hf e1 e2 e3 e4 (NI.mp e5).1 h
theorem zG (hfr:A.frames=some (env :: outer)) (hl:s.heap.FunFrames base (env :: outer)) (hf:env.frame=some L) (he:kj s.heap x T C d fl) (hne:fl≠rawInt L)
  (h:∀ h' T',eQ (env :: outer) x [T] C d (rawInt L) T' s.heap h'->Q () { s with heap:=h' }):wpAny M A (noteFrame (.ref x) env) Q E s:=by
 obtain ⟨oe,vs,oT,ts,e1,e2,e3,e4,e5,e6,e7,e8,e9⟩:=he;unfold noteFrame;simp only [hf];refine LN (Oj e1 e4 e5 ?_);rw [if_pos (by simp)]
 refine LN (Oj e7 e8 e9 ?_);rw [if_neg (fun z=>hne (eq_of_beq z))];have hz:=(NI.mp e9).1;refine LN (Sz e7 e8 hz ?_);have other:∀ b,b≠T->(s.heap.update T (SU (·.setIfInBounds 3 Ov))).get? b=s.heap.get? b:=fun b hb=>Nf _ _ (NV hb);have norec:∀ b o,s.heap.get? b=some o->(∀ vs,o.data≠.fields vs)->b≠T:=fun b o q n z=>by
  rw [z,e7] at q;cases q;exact n ts e8
 refine ye hfr (hl.of_keeps fun b o q n=>⟨o,(other b (norec b o q n)).trans q,rfl⟩) hf ((other x (NV e6)).trans e1) e2 e3 e4 (NI.mp e5).1 fun h' T' F=>h h' T' ⟨fun b o k1 k2 k3 q=>?_,fun b o k1 q=>?_,F.exc,?_⟩
 ·exact F.keep b o k1 k2 (by simp) ((other b fun z=>k3 (z ▸ .head _)).trans q)
 ·obtain ⟨_,o',ho',hn⟩:=hl.mem k1;rw [q] at ho';cases ho';exact F.slot b o k1 ((other b (norec b o q hn)).trans q)
 ·rcases F.new with z|z
  ·simp at z
  ·by_cases y:T'=T
   ·exact .inl (y ▸ .head _)
   ·rw [other T' y] at z;exact .inr z
theorem Co (hfr:A.frames=some (env :: outer)) (hl:s.heap.FunFrames base (env :: outer)) (hf:env.frame=some L) (he:pK s.heap x T C d)
  (h:∀ h' T',eQ (env :: outer) x [T] C d (rawInt L) T' s.heap h'->Q () { s with heap:=h' }):wpAny M A (noteFrame (.ref x) env) Q E s:=zG hfr hl hf he (by simp [rawInt]) h
theorem wF (hf:env.frame=some L) (he:kj s.heap x T C d (rawInt L)) (h:Q () s):wpAny M A (noteFrame (.ref x) env) Q E s:=by
 obtain ⟨oe,vs,oT,ts,e1,e2,e3,e4,e5,e6,e7,e8,e9⟩:=he;unfold noteFrame;simp only [hf];refine LN (Oj e1 e4 e5 ?_);rw [if_pos (by simp)]
 refine LN (Oj e7 e8 e9 ?_);rw [if_pos (by simp)]
 exact Mb h
theorem Gz {l:List Env} {fr:Option Addr} (hl:s.heap.FunFrames base l) (he:kj s.heap x T C d fl)
  (h:∀ h',(∀ b,b≠T->h'.get? b=s.heap.get? b)->eQ l x [T] C d (fr.elim .none fun f=>rawInt f) T s.heap h'->Q () { s with heap:=h' }):wpAny M A (setFlight (.ref x) fr) Q E s:=by
 obtain ⟨oe,vs,oT,ts,e1,e2,e3,e4,e5,e6,e7,e8,e9⟩:=he;unfold setFlight;refine LN (Oj e1 e4 e5 ?_);rw [if_pos (by simp)]
 have hz:=(NI.mp e9).1;have other:∀ b,b≠T->(s.heap.update T (SU (·.setIfInBounds 3 (fr.elim Ov fun f=>rawInt f)))).get? b=s.heap.get? b:=fun b hb=>Nf _ _ (NV hb);refine Sz e7 e8 hz (h _ other ⟨fun b o _ _ k3 q=>(other b fun z=>k3 (z ▸ .head _)).trans q,fun b o k1 q=>?_,?_,.inl (.head _)⟩)
 ·obtain ⟨_,o',ho',hn⟩:=hl.mem k1;refine ⟨o.slots,(other b fun z=>?_).trans q⟩;rw [z,e7] at ho';cases ho';exact hn ts e8
 ·exact ⟨oe,vs,_,_,(other x (NV e6)).trans e1,e2,e3,e4,e5,e6,NC _ e7 (R6 (QL e8 _)),QL e8 _,by simp [hz]⟩
theorem jA {l:List Env} (hl:s.heap.FunFrames base l) (he:kj s.heap x T C d fl) (h:∀ h',eQ l x [T] C d .none T s.heap h'->Q () { s with heap:=h' }):wpAny M A (setFlight (.ref x) none) Q E s:=Gz hl he fun h' _ F=>h h' F
theorem eQ.gf {l:List Env} {ts:List Addr} {h h':Heap} (F:eQ l x ts C d fl T h h') (hl:h.FunFrames base l):h'.FunFrames base l:=by
 have all:∀ m:List Env,(∀ b∈frs m,b∈frs l)->h.FunFrames base m->h'.FunFrames base m:=by
  intro m
  induction m with
  | nil=>intro _ _;trivial
  | cons e r ih =>
   intro hs ⟨hk,⟨L,o,hf,hn,ho,hd⟩,hr⟩;have e1:frs (e :: r)=L :: frs r:=by unfold frs;rw [N7,hf]
   rw [e1] at hs;obtain ⟨sl,q⟩:=F.slot L o (hs L (.head _)) ho;exact ⟨hk,⟨L,_,hf,hn,q,hd⟩,ih (fun b hb=>hs b (.tail _ hb)) hr⟩
 exact all l (fun _ z=>z) hl
theorem Dc (hfr:A.frames=some (env :: outer)) (hl:s.heap.FunFrames base (env :: outer)) (hf:env.frame=some L) (he:pK s.heap x T C d)
  (h:∀ h' T',eQ (env :: outer) x [T] C d .none T' s.heap h'->Q () { s with heap:=h' }):wpAny M A (leaving env (.ref x)) Q E s:=by
 unfold leaving;exact LN (Co hfr hl hf he fun h1 T1 F1=>jA (s:={ s with heap:=h1 }) (F1.gf hl) F1.exc fun h2 F2=>h h2 T1 (F1.on F2))
theorem BH (hfr:A.frames=some (env :: outer)) (hl:s.heap.FunFrames base (env :: outer)) (hf:env.frame=some L) (he:pI s.heap x C d)
  (h:∀ h' T',eQ (env :: outer) x [] C d .none T' s.heap h'->Q () { s with heap:=h' }):wpAny M A (leaving env (.ref x)) Q E s:=by
 unfold leaving;exact LN (DZ hfr hl hf he fun h1 T1 F1=>jA (s:={ s with heap:=h1 }) (F1.gf hl) F1.exc fun h2 F2=>h h2 T1 (F1.on F2))
theorem leave_held (hl:s.heap.FunFrames base (env :: outer)) (hf:env.frame=some L) (he:kj s.heap x T C d (rawInt L))
  (h:∀ h',eQ (env :: outer) x [T] C d .none T s.heap h'->Q () { s with heap:=h' }):wpAny M A (leaving env (.ref x)) Q E s:=by
 unfold leaving;exact LN (wF hf he (jA hl he h))
theorem GZ (hfr:A.frames=some (env :: outer)) (hl:s.heap.FunFrames base (env :: outer)) (hf:env.frame=some L) (he:kj s.heap x T C d fl)
  (h:∀ h' T',eQ (env :: outer) x [T] C d (rawInt L) T' s.heap h'->Q () { s with heap:=h' }):wpAny M A (noteFrame (.ref x) env) Q E s:=by
 by_cases hne:fl=rawInt L
 ·subst hne;exact wF hf he (h s.heap T ⟨fun _ _ _ _ _ q=>q,fun b o _ q=>⟨o.slots,q⟩,he,.inl (.head _)⟩)
 ·exact zG hfr hl hf he hne h
theorem Fl (hfr:A.frames=some (env :: outer)) (hl:s.heap.FunFrames base (env :: outer)) (hf:env.frame=some L) (he:kj s.heap x T C d fl)
  (h:∀ h' T',eQ (env :: outer) x [T] C d .none T' s.heap h'->Q () { s with heap:=h' }):wpAny M A (leaving env (.ref x)) Q E s:=by
 unfold leaving;exact LN (GZ hfr hl hf he fun h1 T1 F1=>jA (s:={ s with heap:=h1 }) (F1.gf hl) F1.exc fun h2 F2=>h h2 T1 (F1.on F2))
theorem EF (hfr:A.frames=some (env :: outer)) (hl:s.heap.FunFrames base (env :: outer)) (hf:env.frame=some L) (he:pK s.heap x T C d)
  (h:∀ h' T',eQ (env :: outer) x [T] C d .none T' s.heap h'->Q () { s with heap:=h' }):wpAny M A (noteFrame (.ref x) env) (fun _ s₂=>wpAny M A (setFlight (.ref x) none) Q E s₂) E s :=
 Co hfr hl hf he fun h1 T1 F1=>jA (s:={ s with heap:=h1 }) (F1.gf hl) F1.exc fun h2 F2=>h h2 T1 (F1.on F2)
end
structure Up (X:Cx) (pins:List (Addr×Obj)) (σ:St) (H:Hp) (s:LU) (x:Addr) (ts:List Addr):Prop where
 inv:Inv X pins σ H s
 fx:H x=none
 fT:∀ b∈ts,H b=none
 nx:X.s₀.heap.get? x=none
 nT:∀ b∈ts,X.s₀.heap.get? b=none
 px:∀ p∈X.pn++pins,p.1≠x/\p.1∉ts
section
variable {X:Cx} {pins:List (Addr×Obj)} {σ:St} {H H':Hp} {s s':LU} {x T C:Addr} {d:Option Addr} {fl:Value} {ts:List Addr} {h':Heap} {E:XK} {e:Value}
theorem Inv.fsF (I:Inv X pins σ H s):∀ b∈X.fs,H b=none:=fun b hb=>by
 obtain ⟨_,o,ho,_⟩:=I.ok.gf.mem hb;exact I.base.free b o ho (I.ok.frf b hb) fun z=>I.ok.sM b z hb
theorem Inv.wG (I:Inv X pins σ H s) {b:Addr} (r:vT s.heap b):b≠X.env.locals/\(∀ y c,X.env.cells.lookup y=some c->c≠b)/\b∉frs X.stack/\b∉X.fs:=by
 obtain ⟨o,vs,ho,hd⟩:=r;refine ⟨fun z=>?_,fun y c e z=>?_,fun z=>?_,fun z=>?_⟩
 ·obtain ⟨m,⟨oL,es,ep,hoL,hdL,_⟩,_⟩:=I.loc;rw [<- z,ho] at hoL;cases hoL;rw [hd] at hdL;cases hdL
 ·obtain ⟨v,oc,hoc,hdc⟩:=I.cell y c e;rw [z,ho] at hoc;cases hoc;rw [hd] at hdc;cases hdc
 ·obtain ⟨_,o',ho',hnf⟩:=I.stack.mem z;rw [ho] at ho';cases ho';exact hnf vs hd
 ·obtain ⟨_,o',ho',hnf⟩:=I.gf.mem z;rw [ho] at ho';cases ho';exact hnf vs hd
theorem Inv.land {ch:List Addr} (I:Inv X pins σ H s)
  (hch:∀ b∈ch,X.s₀.heap.get? b=none/\b≠X.env.locals/\(∀ x c,X.env.cells.lookup x=some c->c≠b)/\∀ p∈X.pn++pins,p.1≠b) (hfr:∀ b∈ch,H b=none)
  (keep:∀ b o,b≠X.env.locals->b∉X.fs->b∉ch->s.heap.get? b=some o->h'.get? b=some o)
  (slot:∀ b o,b=X.env.locals\/b∈X.fs->s.heap.get? b=some o->∃ sl,h'.get? b=some { o with slots:=sl }):Inv X pins σ H { s with heap:=h' }:=by
 have neL:∀ b o,X.s₀.heap.get? b=some o->b≠X.env.locals:=fun b o e=>Mp (Ml (Me e) I.ok.above);have neC:∀ b o,X.s₀.heap.get? b=some o->b∉ch:=fun b o e hb=>by rw [(hch b hb).1] at e;cases e
 have trk:∀ b u o,H b=some u->s.heap.get? b=some o->h'.get? b=some o:=fun b u o e q =>
  keep b o (fun z=>by rw [z,I.free] at e;cases e) (fun z=>by rw [I.fsF b z] at e;cases e) (fun z=>by rw [hfr b z] at e;cases e) q
 have any:∀ b o,b∉ch->s.heap.get? b=some o->∃ sl,h'.get? b=some { o with slots:=sl }:=fun b o hb q=>by
  by_cases z:b=X.env.locals\/b∈X.fs
  ·exact slot b o z q
  ·exact ⟨o.slots,keep b o (fun y=>z (.inl y)) (fun y=>z (.inr y)) hb q⟩
 have cellK:∀ x c,X.env.cells.lookup x=some c->∀ v,s.heap.IsCell c v->h'.IsCell c v:=fun x c e v ⟨o,ho,hd⟩=>by
  obtain ⟨sl,q⟩:=any c o (fun z=>(hch c z).2.2.1 x c e rfl) ho;exact ⟨_,q,hd⟩
 refine ⟨I.ok,I.os,I.bare,⟨fun b o e n hb hx=>keep b o (neL b o e) hb (neC b o e) (I.base.keep b o e n hb hx),fun b o e n hb hx=>?_,I.base.free,fun b o e hx=>?_,I.base.jP,I.base.i8,I.base.jQ⟩,?_,fun x c e=>?_,I.free,I.fC,fun p hp=>?_,fun a o e=>?_,I.len⟩
 ·obtain ⟨sl,e1⟩:=I.base.slot b o e n hb hx;obtain ⟨sl',e2⟩:=slot b _ (.inr hb) e1;exact ⟨sl',e2⟩
 ·obtain ⟨o',e1⟩:=I.base.there b o e hx;obtain ⟨sl,q⟩:=any b o' (neC b o e) e1;exact ⟨_,q⟩
 ·obtain ⟨m,hn,hl⟩:=I.loc;obtain ⟨oL,es,ep,ho,r⟩:=hn;obtain ⟨sl,hL⟩:=slot _ oL (.inl rfl) ho;refine ⟨m,⟨_,es,ep,hL,r⟩,fun i x v e1 e2 e3=>?_⟩;obtain ⟨u,r,l⟩:=hl i x v e1 e2 e3;refine ⟨u,r,?_⟩;rcases l with l|⟨k,c,e,z⟩
  ·exact .inl l
  ·exact .inr ⟨k,c,e,cellK x c e _ z⟩
 ·obtain ⟨v,z⟩:=I.cell x c e;exact ⟨v,cellK x c e v z⟩
 ·obtain ⟨e,n,ne,nf,d⟩:=I.pin p hp;exact ⟨keep p.1 p.2 ne nf (fun z=>(hch p.1 z).2.2.2 p hp rfl) e,n,ne,nf,d⟩
 ·refine (I.hok a o e).oi (fun b u hb q=>?_) (fun _ q=>q) fun _ _ q=>q;rcases hb with rfl|hb
  ·exact trk _ _ _ e q
  ·exact trk _ _ _ hb q
theorem Up.land (U:Up X pins σ H s x ts) (hex:X.ex=[]) (hd:∀ b∈x :: ts,vT s.heap b) (F:eQ X.stack x ts C d fl T s.heap h'):Up X pins σ H { s with heap:=h' } x [T]:=by
 have I:=U.inv;have hch:∀ b∈x :: ts,X.s₀.heap.get? b=none/\H b=none/\∀ p∈X.pn++pins,p.1≠b:=fun b hb=>by
  rcases My.mp hb with rfl|hb
  ·exact ⟨U.nx,U.fx,fun p hp=>(U.px p hp).1⟩
  ·exact ⟨U.nT b hb,U.fT b hb,fun p hp z=>(U.px p hp).2 (z ▸ hb)⟩
 have J:Inv X pins σ H { s with heap:=h' }:=by
  refine I.land (ch:=x :: ts) (fun b hb=>⟨(hch b hb).1,(I.wG (hd b hb)).1,(I.wG (hd b hb)).2.1,(hch b hb).2.2⟩) (fun b hb=>(hch b hb).2.1) (fun b o h1 h2 h3 q=>?_) (fun b o hb q=>?_)
  ·exact F.keep b o (fun z=>(My.mp (I.sZ b z)).elim h1 h2) (fun z=>h3 (z ▸ .head _)) (fun z=>h3 (.tail _ z)) q
  ·by_cases z:b∈frs X.stack
   ·exact F.slot b o z q
   ·have nr:b∉x :: ts:=fun y=>by
     obtain ⟨n1,_,_,n4⟩:=I.wG (hd b y);exact hb.elim n1 n4
    exact ⟨o.slots,F.keep b o z (fun y=>nr (y ▸ .head _)) (fun y=>nr (.tail _ y)) q⟩
 have hor:=F.new;refine ⟨J,U.fx,fun b hb=>?_,U.nx,fun b hb=>?_,fun p hp=>⟨(U.px p hp).1,fun hb=>?_⟩⟩
 ·obtain rfl:=Md.mp hb;rcases hor with z|z
  ·exact U.fT _ z
  ·cases q:H b with
   | none=>rfl
   | some u=>obtain ⟨ob,e⟩:=(I.hok b u q).there;rw [z] at e;cases e
 ·obtain rfl:=Md.mp hb;rcases hor with z|z
  ·exact U.nT _ z
  ·cases q:X.s₀.heap.get? b with
   | none=>rfl
   | some o=>obtain ⟨ob,e⟩:=I.base.there b o q (by rw [hex];simp);rw [z] at e;cases e
 ·have hb':=Md.mp hb;rcases hor with z|z
  ·exact (U.px p hp).2 (hb' ▸ z)
  ·have e:=(I.pin p hp).1;rw [hb',z] at e;cases e
def CXR (P:Ms) (w:World):CXT:=fun outer H s E e s'=>∃ x T C d H',e=.ref x/\s'.os=s.os/\Ri s'.gens/\Un (frs outer) [] H H' s.heap s'.heap/\HOk P w H' s'.heap/\s.heap.get? x=none/\s.heap.get? T=none /\
 H' x=none/\H' T=none/\pK s'.heap x T C d/\E (.ref C) d H'
theorem xN (I:Inv X pins σ H s) (hex:X.ex=[]) (h:CXR X.prog X.w X.stack H s E e s'):∃ x T C d H',e=.ref x/\pK s'.heap x T C d/\Up X pins σ H' s' x [T]/\E (.ref C) d H':=by
 obtain ⟨x,T,C,d,H',rfl,os,bare,un,hok,nx,nT,fx,fT,he,q⟩:=h;have nw:∀ b,s.heap.get? b=none->X.s₀.heap.get? b=none:=fun b n=>by
  cases q:X.s₀.heap.get? b with
  | none=>rfl
  | some o=>obtain ⟨ob,e⟩:=I.base.there b o q (by rw [hex];simp);rw [n] at e;cases e
 refine ⟨x,T,C,d,H',rfl,he,⟨I.Dv (ch:=[]) os un hok bare (fun b z=>absurd z (by simp)),fx,fun b hb=>?_,nw _ nx,fun b hb=>?_,fun p hp=>⟨fun z=>?_,fun z=>?_⟩⟩,q⟩
 ·obtain rfl:=Md.mp hb;exact fT
 ·obtain rfl:=Md.mp hb;exact nw _ nT
 ·have e:=(I.pin p hp).1;rw [z,nx] at e;cases e
 ·have e:=(I.pin p hp).1;rw [Md.mp z,nT] at e;cases e
end
def Lets (X:Cx) (E:XK):Prop:=∀ (pins:List (Addr×Obj)) (σ:St) (H:Hp) (s:LU) (x C:Addr) (d:Option Addr),Up X pins σ H s x []->pI s.heap x C d->E (.ref C) d H->X.xe (.ref x) s
section
variable {P:Ms} {w:World} {K:LM} {mg:Str->Option Value} {base:Heap} {N:List Str} {qual:Str} {scope:Scope} {f:Addr} {cd:Value} {A:MY} {outer:List Env} {s:LU} {H:Hp} {E:XK}
theorem wc {pins:List (Addr×Obj)} {σ:St} {H':Hp} {s':LU} {x T C:Addr} {d:Option Addr} (U:Up (lh (CXR P w) P w K mg base N qual scope f cd A outer s H E) pins σ H' s' x [T]) (he:pK s'.heap x T C d) (q:E (.ref C) d H') :
  CXR P w outer H s E (.ref x) s' :=
 ⟨x,T,C,d,H',rfl,U.inv.os,U.inv.bare,U.inv.base,U.inv.hok,U.nx,U.nT T (.head _),U.fx,U.fT T (.head _),he,q⟩
end
abbrev bmV:List Value:=[.type "ValueError",.type "Exception",.type "BaseException",.type "object"]
abbrev n8:String:="ValueError.__new__"
theorem ID {K:LM} {h:Heap} {C:Addr} {bmB:List Value} {newId:String} (X:K.In h) (q:Oo K C bmB newId=true) :
  ∃ bm N nm qn bs hdct sn sub ab col dd k0 k1 k2 k3 k5 mN,h.get? C=some (excClassObj nm qn C N bs bm hdct sn sub ab col dd k0 k1 k2 k3 k5 newId)/\h.Ns N mN/\mN "__init__" = none/\OwnTail h bmB bm:=by
 unfold Oo at q
 split at q
 ·rename_i dd cd sl ho
  split at q
  ·rename_i C' bm k0 k1 k2 k3 n k5 hm hs
   simp only [NO,beq_iff_eq,Pg] at q;obtain ⟨⟨⟨⟨⟨rfl,rfl⟩,hdel⟩,ht⟩,hok⟩,hni⟩:=q;obtain ⟨nm,bs,mro,ns,qn,hd,sn,sub,ab,col,del⟩:=cd;dsimp only at hm hdel hok hni;subst hm hdel;have hsl:sl=#[k0,k1,k2,k3,some (.builtin n),k5]:=by
    obtain ⟨l⟩:=sl;simp only at hs;rw [hs]
   subst hsl;exact ⟨bm,ns,nm,qn,bs,hd,sn,sub,ab,col,dd,k0,k1,k2,k3,k5,_,X _ _ ho,.of_isNs (PySem.W.isNs_of_in X hok),PySem.W.nsMap_none_of_in X hok hni,PySem.W.tail_of_in X ht⟩
  ·cases q
 ·cases q
section
variable {X:Cx} {E:XK} {C:Addr} {x:Str} {np cpos pos:Pos} {e:Expr} {es:List Expr} {ta:TA}
def A2 (C:Addr) (E:XK) (ta:TA):TS:=fun _ σ H=>ta σ H fun vs H1=>vs.length<=MB/\E (.ref C) none H1
theorem Inv.JJ {pins:List (Addr×Obj)} {σ:St} {H:Hp} {s:LU} {h':Heap} {e:Addr} {us:List Value} (I:Inv X pins σ H s) (hex:X.ex=[]) (m:Heap.MadeExcOf s.heap h' e (.ref C) us):Up X pins σ H { s with heap:=h' } e []/\pI h' e C none:=by
 obtain ⟨t,ht,_,_⟩:=m.there;refine ⟨⟨I.un (t':=s.toks) (Un.kept m.keeps) (I.hok.kept m.keeps),?_,fun b hb=>absurd hb (by simp),?_,fun b hb=>absurd hb (by simp),fun p hp=>⟨fun z=>?_,by simp⟩⟩,⟨_,_,ht,rfl,rfl,rfl,rfl⟩⟩
 ·cases q:H e with
  | none=>rfl
  | some u=>obtain ⟨ob,e1⟩:=(I.hok e u q).there;rw [m.new] at e1;cases e1
 ·cases q:X.s₀.heap.get? e with
  | none=>rfl
  | some o=>obtain ⟨ob,e1⟩:=I.base.there e o q (by rw [hex];simp);rw [m.new] at e1;cases e1
 ·have e1:=(I.pin p hp).1;rw [z,m.new] at e1;cases e1
theorem FZ (hL:Lets X E) (hex:X.ex=[]) (hcalm:X.calm=true) (hq:Oo X.K C bmV n8=true) (hg:Gl X x) (hm:X.mg x=some (.ref C)) (ha:PA X (e :: es) ta)
  (hdb:(x == ("__debug__" : Str))=false:=by decide) (he:MZ (e :: es) X.env=(false,eval e X.env) :: MZ es X.env:=by rfl) (hpl:(backTo cpos (MZ es X.env)).any (·.1)=false:=by rfl) :
  PS X (.Raise (some (.Call (.Name x np) (e :: es) [] cpos)) none pos) (A2 C E ta):=by
 intro pins s σ H D I h;obtain ⟨bm,N,nm,qn,bs,hdct,sn,sub,ab,col,dd,k0,k1,k2,k3,k5,mN,hC,hN,hni,T⟩:=ID I.mod.kin hq;have Fb:=Pk;refine wpAny_Raise_call_subU (C:=C) (nm:=nm) (q:=qn) (N:=N) (bs:=bs) (bm:=bm) (hdct:=hdct) (sn:=sn) (sub:=sub) (ab:=ab) (col:=col) (dd:=dd) (k0:=k0) (k1:=k1) (k2:=k2) (k3:=k3) (k5:=k5)
  Fb (by trivial) Fb (mN:=mN) (T.hasType Fb.hasBase) (I.ok.hd hcalm) (by rw [he];show (false || (backTo cpos (MZ es X.env)).any (·.1))=false;rw [hpl];rfl) hni (kI I hg hm ⟨rfl,?_⟩ hdb)
 have h0:=ha cpos pins s σ H _ I h;rw [he] at h0 ⊢;refine Sr (thn h0 fun us s2 ⟨vs,H2,I2,r,z,q⟩=>⟨rfl,by rw [<- r.length];exact z,I2.bk _ _ hC,hN.keeps I2.bk,T.keeps I2.bk,fun h' e' m=>?_⟩)
 obtain ⟨U,hn⟩:=I2.JJ hex m;exact hL pins σ H2 _ e' C none U hn q
end
abbrev TXs:=Ends->(St->Hp->Addr->Option Addr->Prop)->St->Hp->Prop
abbrev TXe:=St->Hp->VK->(Hp->Addr->Option Addr->Prop)->Prop
def XP (X:Cx) (pins:List (Addr×Obj)) (Ex:St->Hp->Addr->Option Addr->Prop) (e:Value) (s':LU):Prop:=∃ x T C d σ' H',e=.ref x/\pK s'.heap x T C d/\Up X pins σ' H' s' x [T]/\Ex σ' H' C d
def PSx (X:Cx) (sts:List Stmt) (t:TXs):Prop :=
 ∀ (pins:List (Addr×Obj)) (s:LU) (σ:St) (H:Hp) (D:Ends) (Ex:St->Hp->Addr->Option Addr->Prop),Inv X pins σ H s->t D Ex σ H->wpAny (model X.prog X.w) X.A (execs sts X.env) (SP X pins D) (XP X pins Ex) s
def GB (X:Cx) (st:Stmt) (t:TXs):Prop :=
 ∀ (pins:List (Addr×Obj)) (s:LU) (σ:St) (H:Hp) (D:Ends) (Ex:St->Hp->Addr->Option Addr->Prop),Inv X pins σ H s->t D Ex σ H->wpAny (model X.prog X.w) X.A (exec st X.env) (SP X pins D) (XP X pins Ex) s
def PEx (X:Cx) (e:Expr) (t:TXe):Prop :=
 ∀ (pins:List (Addr×Obj)) (s:LU) (σ:St) (H:Hp) (Q:VK) (Ex:Hp->Addr->Option Addr->Prop),Inv X pins σ H s->t σ H Q Ex->wpAny (model X.prog X.w) X.A (eval e X.env) (EP X pins σ Q) (XP X pins fun σ' H' C d=>σ'=σ/\Ex H' C d) s
section
variable {X:Cx} {pos:Pos}
theorem qo {st:Stmt} {t:TXs} (h:GB X st t):PSx X [st] t:=by
 intro pins s σ H D Ex I q;refine Rx (Nj (h pins s σ H D Ex I q) (fun f s1 z=>?_) fun _ _ z=>z);cases f with
 | next=>exact O7 z
 | ret v=>exact z
 | brk=>exact z
 | cont=>exact z
def JW (c:TT) (t u:TXs):TXs:=fun D Ex σ H=>c σ H fun b H1=>if b=true then t D Ex σ H1 else u D Ex σ H1
theorem EG {c:Expr} {a b:List Stmt} {tc:TT} {t u:TXs} (hc:PT X.nox c tc) (ha:PSx X a t) (hb:PSx X b u):GB X (.If c a b pos) (JW tc t u):=by
 intro pins s σ H D Ex I h;refine wpAny_If (Nj (hc pins s σ H _ (I.iZ _) h) (fun d s1 ⟨H1,I1,q1⟩=>?_) fun _ _ z=>Nh z);cases d with
 | true=>exact ha pins s1 σ H1 D Ex I1.dU q1
 | false=>exact hb pins s1 σ H1 D Ex I1.dU q1
def FF (te:TXe):TXs:=fun D Ex σ H=>te σ H (fun _ H1=>D.nx σ H1) (fun H1 C d=>Ex σ H1 C d)
theorem uP {e:Expr} {te:TXe} (he:PEx X e te) (hs:swapsWith e none pos.line X.env=pure false:=by rfl):GB X (.Expr e pos) (FF te):=by
 intro pins s σ H D Ex I h;refine wpAny_Expr_any (Nj (he pins s σ H _ _ I h) (fun v s1 ⟨x,H1,I1,r1,q1⟩=>⟨σ,H1,I1,q1⟩) fun e s1 ⟨x,T,C,d,σ',H',e1,e2,e3,e4,e5⟩=>⟨x,T,C,d,σ,H',e1,e2,?_,e5⟩) I.quiet hs;rw [<- e4];exact e3
def zS (C:Addr) (sp:Sp) (t:TA):TXe:=fun σ H Q Ex=>t σ H fun vs H1=>∀ x dx,H1 x=none->H1 dx=none->dx≠x ->
 sp (.ref x :: vs) (upd (upd H1 dx (.own x)) x (.ins C dx [])) (fun v H2=>v=.non/\Q (.ref x) H2) (fun c d H2=>∃ C,c=.ref C/\Ex H2 C d)
theorem GS {k:Nat} {C f:Addr} {fd:M9} {ps:List Str} {sp:Sp} {x:Str} {p:Pos} {e:Expr} {es:List Expr} {t:TA} (M:Mk X.K C f) (F:aI X.prog X.w X.K X.mg X.base (CXR X.prog X.w) k f fd ps sp) (hex:X.ex=[]) (hr:bT (k+1) X.A) (hg:Gl X x) (hm:X.mg x=some (.ref C))
  (hb:Binds X.K fd ps []) (ha:PA X.nox (e :: es) t) (hdb:(x == ("__debug__" : Str))=false:=by decide) (he:MZ (e :: es) X.env=(false,eval e X.env) :: MZ es X.env:=by rfl) (hpl:(backTo pos (MZ es X.env)).any (·.1)=false:=by rfl) :
  PEx X (.Call (.Name x p) (e :: es) [] pos) (zS C sp t):=by
 intro pins s0 σ H0 Q Ex I0 h0;refine OE (kI I0 hg hm ?_ hdb);refine OF (h₀:=X.base) I0.ok.mod.kin M.kp (Nj (ha pos pins s0 σ H0 _ (I0.iZ _) h0) (fun us s ⟨vs,H,I',r,h⟩=>?_) fun _ _ z=>Nh z) he hpl;have I:=I'.dU;refine ⟨I.kIn,?_⟩;have hq:=h (s.heap.objs.size+1) s.heap.objs.size (I.hok.fresh (OL _)) (I.hok.fresh (Mi _)) (Mp (Oi _));have I2:=Inv.made (C:=C) I;have r2:Vals (V.ref (s.heap.objs.size+1) :: vs) (Mw (s.heap.objs.size+1) :: us):=.cons rfl r;have hl:(Mw (s.heap.objs.size+1) :: us++[]).length=ps.length:=by
  have e:=r2.length;rw [F.len _ _ _ _ hq] at e;rw [OQ];exact e.symm
 have hb':=hb _ (Mw (s.heap.objs.size+1) :: us) I2.kIn hl;rw [OQ] at hb';refine Q1 (Az (f:=f) I.kIn M.makes M.init (beq_iff_eq.mp M.fn) (OD (F.run _ X.stack _ _ ⟨Mw (s.heap.objs.size+1) :: us,[]⟩ (Mw (s.heap.objs.size+1) :: us) _ _ _ (hr.make C us [])
  (I2.Dn.make C us []) hb' r2 hq) fun r s' hq'=>?_))
 cases r with
 | error e =>
  have hq2:CXR X.prog X.w X.stack _ _ (fun c d H2=>∃ C,c=Mw C/\Ex H2 C d) e s':=hq';obtain ⟨x,T,C',d,H',rfl,he,U,C'',hc,q⟩:=xN I2 hex hq2;cases hc;exact ⟨x,T,C',d,σ,H',rfl,he,U,rfl,q⟩
 | ok fl =>
  cases fl with
  | ret u =>
   obtain ⟨v,H',I3,rv,ev,q3⟩:=I2.after hq';subst ev;exact ⟨rv,⟨V.ref (s.heap.objs.size+1),H',I3,rfl,q3⟩⟩
  | next=>exact Nh hq'
  | brk=>exact Nh hq'
  | cont=>exact Nh hq'
end
def ka (x C:Addr) (d:Option Addr) (h:Heap):Prop:=∃ o vs,h.get? x=some o/\o.cls=.ref C/\o.dict=d/\o.data=.fields vs
abbrev iD (x C:Addr) (d:Option Addr:=none):HO:=.ext (ka x C d)
theorem JC {P:Ms} {w:World} {H:Hp} {h:Heap} {x C:Addr} {d:Option Addr} (e:ka x C d h):bB P w H h x (iD x C d):=by
 obtain ⟨o,vs,h1,h2,h3,h4⟩:=id e;exact ⟨e,⟨o,h1⟩,fun a b ⟨o,vs,h1,h2,h3,h4⟩ k=>⟨o,vs,k o h1,h2,h3,h4⟩⟩
theorem kj.isExc {h:Heap} {x T C:Addr} {d:Option Addr} {fl:Value} (e:kj h x T C d fl):ka x C d h:=by
 obtain ⟨oe,vs,_,_,e1,e2,e3,e4,_⟩:=e;exact ⟨oe,vs,e1,e2,e3,e4⟩
section
variable {X:Cx} {pins:List (Addr×Obj)} {σ:St} {H:Hp} {s:LU} {x T C:Addr} {ts:List Addr}
theorem Up.adopt (U:Up X pins σ H s x ts) {o:HO} (hr:vT s.heap x) (new:bB X.prog X.w (upd H x o) s.heap x o):Inv X pins σ (upd H x o) s:=by
 have I:=U.inv;obtain ⟨n1,n2,n3,n4⟩:=I.wG hr;have nn:∀ b u,H b=some u->b≠x:=fun b u e z=>by rw [z,U.fx] at e;cases e
 refine ⟨I.ok,I.os,I.bare,⟨I.base.keep,I.base.slot,fun b ob e n hx=>?_,I.base.there,fun b xs e=>?_,fun b ob u e=>?_,fun b ps e=>?_⟩,I.loc,I.cell,?_,fun y c e=>?_,fun p hp=>?_,fun b u e=>?_,I.len⟩
 ·have:b≠x:=fun z=>by rw [z,U.nx] at e;cases e
  rw [aq this];exact I.base.free b ob e n hx
 ·have q:=I.base.jP b xs e;rw [aq (nn _ _ q)];exact q
 ·have q:=I.base.i8 b ob u e;rw [aq (nn _ _ q)];exact q
 ·obtain ⟨m,q⟩:=I.base.jQ b ps e;exact ⟨m,by rw [aq (nn _ _ q)];exact q⟩
 ·rw [aq n1.symm];exact I.free
 ·rw [aq (n2 y c e)];exact I.fC y c e
 ·obtain ⟨e,n,ne,nf,d⟩:=I.pin p hp;exact ⟨e,by rw [aq (U.px p hp).1];exact n,ne,nf,d⟩
 ·by_cases hb:b=x
  ·subst hb;rw [ao] at e;cases e;exact new
  ·rw [aq hb] at e;refine (I.hok b u e).oi (fun c v _ q=>q) (fun c q=>by rw [aq (nn _ _ q)];exact q) fun c xs q=>by rw [aq (nn _ _ q)];exact q
theorem ua {M:Model} {A:MY} {E:Value->LU->Prop} {i:Nat} {n:Str} {pos:Pos} {Q:Unit->LU->Prop} (I:Inv X pins σ H s) (hN:X.N.Nodup) (hi:X.N[i]?=some n) (hk:X.env.kindOf n=some .local)
  (h:∀ s',Inv X pins (σ.set i none) H s'->Q () s'):wpAny M A (do bindName X.env n .none;unbindBehindTheSuite X.env n pos) Q E s:=by
 obtain ⟨m,hn,hl⟩:=id I.loc;have hcls:(X.env.scope.kind == .class || (X.env.scope.kind == .module && X.env.locals != X.env.globals))=false:=by rw [I.ok.kind];rfl
 have hiσ:i<σ.length:=by rw [I.len];exact (LQ.mp hi).1
 have cne:=I.cne;refine wpAny_nameGoes_keeps hk hn hcls (fun h' v hn' hs=>?_);refine h _ ⟨I.ok,I.os,I.bare,⟨fun b o e n hb hx=>?_,fun b o e n hb hx=>?_,I.base.free,fun b o e hx=>?_,I.base.jP,I.base.i8,I.base.jQ⟩,⟨_,hn',fun j y v' e1 e2 e3=>?_⟩,fun y c e=>?_,I.free,I.fC,fun p hp=>?_,fun b ob e=>?_,by simpa using I.len⟩
 ·exact (hs.2 b (Mp (Ml (Me e) I.ok.above))).trans (I.base.keep b o e n hb hx)
 ·obtain ⟨sl,e1⟩:=I.base.slot b o e n hb hx;exact ⟨sl,(hs.2 b (Mp (Ml (Me e) I.ok.above))).trans e1⟩
 ·obtain ⟨o',e1⟩:=I.base.there b o e hx;exact ⟨o',(hs.2 b (Mp (Ml (Me e) I.ok.above))).trans e1⟩
 ·by_cases hj:j=i
  ·subst hj;rw [NL hiσ] at e2;cases e2
  ·rw [N2 (NV hj)] at e2;obtain ⟨u',r',q⟩:=hl j y v' e1 e2 e3;refine ⟨u',r',?_⟩;rcases q with ⟨k,e⟩|⟨k,c,e,z⟩
   ·refine .inl ⟨k,?_⟩;have:y≠n:=fun e=>hj (u6 hN e1 (e ▸ hi));simp [this,e]
   ·exact .inr ⟨k,c,e,z.sameBut hs (cne y c e)⟩
 ·obtain ⟨w',z⟩:=I.cell y c e;exact ⟨w',z.sameBut hs (cne y c e)⟩
 ·obtain ⟨e,n,ne,nf,d⟩:=I.pin p hp;exact ⟨(hs.2 p.1 ne).trans e,n,ne,nf,d⟩
 ·refine (I.hok b ob e).oi (fun c w' hc q=>(hs.2 c ?_).trans q) (fun _ q=>q) fun _ _ q=>q;rintro rfl;rcases hc with hc|hc
  ·rw [<- hc,I.free] at e;cases e
  ·rw [I.free] at hc;cases hc
end
abbrev Cx.nj (X:Cx) (e:Value):Cx:={ X with A:=X.A.mark (some e),calm:=false,xe:=fun _ _=>False }
section
variable {X:Cx} {pins:List (Addr×Obj)} {σ:St} {H:Hp} {s:LU} {e:Value}
theorem Inv.nj (I:Inv X pins σ H s) (e:Value):Inv (X.nj e) pins σ H s :=
 ⟨⟨I.ok.mod,I.ok.kind,I.ok.glob,I.ok.blt,I.ok.above,I.ok.inj,I.ok.has,I.ok.cab,fun z=>Bool.noConfusion z,I.ok.frames,I.ok.stk,I.ok.exf,I.ok.bs,I.ok.bsz,I.ok.u5,I.ok.sM,I.ok.gf,I.ok.frf⟩,I.os,I.bare,I.base,I.loc,I.cell,I.free,I.fC,I.pin,I.hok,I.len⟩
theorem Inv.ub (I:Inv (X.nj e) pins σ H s) (ok:X.Ok):Inv X pins σ H s:=⟨ok,I.os,I.bare,I.base,I.loc,I.cell,I.free,I.fC,I.pin,I.hok,I.len⟩
abbrev TH:=Ends->St->Hp->Addr->Option Addr->Prop
def PH (X:Cx) (hs:List Qn) (t:TH):Prop:=∀ (pins:List (Addr×Obj)) (s:LU) (σ:St) (H:Hp) (D:Ends) (x T C:Addr) (d:Option Addr),Up X pins σ H s x [T]->pK s.heap x T C d->t D σ H C d->wpAny (model X.prog X.w) X.A (handleBy (.ref x) X.env hs) (SP X pins D) X.xe s
def LL:TH:=fun _ _ _ _ _=>False
theorem KS:PH X [] LL:=fun _ _ _ _ _ _ _ _ _ _ _ z=>Nh z
def hAs (K:LM) (B:Addr) (i:Nat) (ts:TS) (t:TH):TH:=fun D σ H C d=>(Nn K (.ref C) (.ref B)=some true/\∀ x,H x=none ->
 ts { nx:=fun σ2 H2=>D.nx (σ2.set i none) H2,rt:=D.rt,bk:=fun σ2 H2=>D.bk (σ2.set i none) H2,ct:=fun σ2 H2=>D.ct (σ2.set i none) H2 } (σ.set i (some (.ref x))) (upd H x (iD x C d))) \/
 (Nn K (.ref C) (.ref B)=some false/\t D σ H C d)
section
variable {x T C B:Addr} {d:Option Addr} {cn:Str} {np:Pos} {b:Bool}
theorem yi {name:Option Str} {su:List Stmt} {hp:Pos} {rest:List Qn} {D:Ends} (U:Up X pins σ H s x [T]) (he:pK s.heap x T C d) (hg:Gl X cn) (hm:X.mg cn=some (.ref B)) (hdb:(cn == ("__debug__" : Str))=false) (hx:Nn X.K (.ref C) (.ref B)=some b)
  (h:if b=true then codeAny (model X.prog X.w) (X.A.mark (some (.ref x))) (.handlers (.ref x) [.ExceptHandler none name su hp] X.env) (fun r s₂=>match r with
     | .ok f=>(match name with
      | none=>SP X pins D f s₂
      | some n=>wpAny (model X.prog X.w) X.A (do bindName X.env n .none;unbindBehindTheSuite X.env n hp) (fun _ s₃=>SP X pins D f s₃) X.xe s₂)
     | .error x=>cameBackBy (model X.prog X.w) X.A X.env X.xe x s₂) s else wpAny (model X.prog X.w) X.A (handleBy (.ref x) X.env rest) (SP X pins D) X.xe s) :
  wpAny (model X.prog X.w) X.A (handleBy (.ref x) X.env (.ExceptHandler (some (.Name cn np)) name su hp :: rest)) (SP X pins D) X.xe s:=by
 have I2:=U.inv;refine wpAny_handleBy_cons (codeAny_handlers_test (Nj (Q:=fun c s'=>c=.ref B/\s'=s) (E:=fun _ _=>False) (show wpAny (model X.prog X.w) (X.A.mark (some (.ref x))) (eval (.Name cn np) X.env) _ _ _ from kI (X:=X.nj (.ref x)) (I2.nj _) hg hm ⟨rfl,rfl⟩ hdb) (fun c s3 ⟨e1,e2⟩=>?_) fun _ _ z=>Nh z)) (by intro q;cases q)
 subst e1 e2;have LT:Oq (model X.prog X.w) s3.heap (typeOf (.ref x)) (.ref C):=by
  obtain ⟨o,vs,e1,e2,_⟩:=he.isExc;exact e2 ▸ (PySem.W.Looks.ld e1).andThen .now
 refine (PySem.W.exm_one I2.kIn LT hx).at ?_;cases b with
 | true=>exact h
 | false=>exact h
end
theorem Lr {b₀:Stmt} {su:List Stmt} {cn n:Str} {np hp:Pos} {B:Addr} {i:Nat} {ts:TS} {rest:List Qn} {t:TH} (hex:X.ex=[]) (hs:∀ e,PSs (X.nj e) (b₀ :: su) ts) (hr:PH X rest t)
  (hg:Gl X cn) (hm:X.mg cn=some (.ref B)) (hN:X.N.Nodup) (hi:X.N[i]?=some n) (hk:X.env.kindOf n=some .local) (hdb:(cn == ("__debug__" : Str))=false:=by decide) :
  PH X (.ExceptHandler (some (.Name cn np)) (some n) (b₀ :: su) hp :: rest) (hAs X.K B i ts t):=by
 intro pins s1 σ' H' D x T C d U he q;rcases q with ⟨hm1,q⟩|⟨hm1,q⟩
 ·refine yi U he hg hm hdb hm1 ?_;rw [if_pos rfl];refine codeAny_handlers_suite_as ?_;refine jA U.inv.stack he fun h3 F3=>?_;have U3:=U.land hex he.sr F3;have he3:=F3.exc;have I3:=U3.adopt (he3.sr x (.head _)) (JC he3.isExc);refine oF (X:=X.nj (.ref x)) (v:=.ref x) (I3.nj _) hN hi (.inl hk) rfl (fun s4 I4=>?_) (.inr hk);refine Nj (hs (.ref x) pins s4 _ _ _ I4 (q x U3.fx)) (fun f s5 z=>?_) fun _ _ z=>Nh z;have ok:=U.inv.ok;cases f with
  | next =>
   obtain ⟨σ6,H6,I6,q6⟩:=z;exact ua (I6.ub ok) hN hi hk fun s7 I7=>⟨_,H6,I7,q6⟩
  | ret u =>
   obtain ⟨v,σ6,H6,I6,r6,q6⟩:=z;exact ua (I6.ub ok) hN hi hk fun s7 I7=>⟨v,_,H6,I7,r6,q6⟩
  | brk =>
   obtain ⟨σ6,H6,I6,q6⟩:=z;exact ua (I6.ub ok) hN hi hk fun s7 I7=>⟨_,H6,I7,q6⟩
  | cont =>
   obtain ⟨σ6,H6,I6,q6⟩:=z;exact ua (I6.ub ok) hN hi hk fun s7 I7=>⟨_,H6,I7,q6⟩
 ·refine yi U he hg hm hdb hm1 ?_;rw [if_neg (by decide)]
  exact hr pins s1 σ' H' D x T C d U he q
def La (tb:TXs) (th:TH):TS:=fun D σ H=>tb D (fun σ' H' C d=>th D σ' H' C d) σ H
theorem Jh {body:List Stmt} {h₀:Qn} {hs:List Qn} {pos:Pos} {tb:TXs} {th:TH} (hex:X.ex=[]) (hb:PSx X body tb) (hh:PH X (h₀ :: hs) th) (hst:X.stack=X.env :: X.outer) (hfr:X.env.frame=some X.env.locals) :
  PS X (.Try body (h₀ :: hs) [] [] pos) (La tb th):=by
 intro pins s σ H D I h;refine wpAny_Try_except (Nj (hb pins s σ H D _ I h) (fun f s1 z=>?_) fun e s1 z=>?_)
 ·cases f with
  | next=>exact O7 z
  | ret v=>exact z
  | brk=>exact z
  | cont=>exact z
 obtain ⟨x,T,C,d,σ',H',rfl,he,U,q⟩:=z;have fr:X.A.frames=some (X.env :: X.outer):=by rw [<- hst];exact I.ok.frames
 have sk1:s1.heap.FunFrames X.base (X.env :: X.outer):=by rw [<- hst];exact U.inv.stack
 refine EF (L:=X.env.locals) (outer:=X.outer) fr sk1 hfr he fun h2 T2 F2=>?_;rw [<- hst] at F2;exact hh pins _ σ' H' D x T2 C d (U.land hex he.sr F2) F2.exc q
def Kf (K:LM) (B:Addr) (i:Nat) (tb:TXs) (ts:TS):TS:=fun D σ H=>tb D (fun σ' H' C d=>Nn K (.ref C) (.ref B)=some true/\∀ x,H' x=none ->
 ts { nx:=fun σ2 H2=>D.nx (σ2.set i none) H2,rt:=D.rt,bk:=fun σ2 H2=>D.bk (σ2.set i none) H2,ct:=fun σ2 H2=>D.ct (σ2.set i none) H2 } (σ'.set i (some (.ref x))) (upd H' x (iD x C d))) σ H
theorem KO {body:List Stmt} {b₀:Stmt} {su:List Stmt} {cn n:Str} {np hp pos:Pos} {B:Addr} {i:Nat} {tb:TXs} {ts:TS} (hex:X.ex=[]) (hb:PSx X body tb) (hs:∀ e,PSs (X.nj e) (b₀ :: su) ts)
  (hg:Gl X cn) (hm:X.mg cn=some (.ref B)) (hN:X.N.Nodup) (hi:X.N[i]?=some n) (hk:X.env.kindOf n=some .local) (hst:X.stack=X.env :: X.outer) (hfr:X.env.frame=some X.env.locals)
  (hdb:(cn == ("__debug__" : Str))=false:=by decide) :
  PS X (.Try body [.ExceptHandler (some (.Name cn np)) (some n) (b₀ :: su) hp] [] [] pos) (Kf X.K B i tb ts):=by
 intro pins s σ H D I h;have hb':PSx X body (fun D Ex σ H=>tb D (fun σ' H' C d=>Nn X.K (.ref C) (.ref B)=some true/\∀ x,H' x=none->ts { nx:=fun σ2 H2=>D.nx (σ2.set i none) H2,rt:=D.rt,bk:=fun σ2 H2=>D.bk (σ2.set i none) H2,ct:=fun σ2 H2=>D.ct (σ2.set i none) H2 } (σ'.set i (some (.ref x))) (upd H' x (iD x C d))) σ H/\∀ σ' H' C d,(Nn X.K (.ref C) (.ref B)=some true/\∀ x,H' x=none->ts { nx:=fun σ2 H2=>D.nx (σ2.set i none) H2,rt:=D.rt,bk:=fun σ2 H2=>D.bk (σ2.set i none) H2,ct:=fun σ2 H2=>D.ct (σ2.set i none) H2 } (σ'.set i (some (.ref x))) (upd H' x (iD x C d)))->Ex σ' H' C d):=fun pins s σ H D Ex I z =>
  Nj (hb pins s σ H D _ I z.1) (fun _ _ y=>y) fun e s1 ⟨x,T,C,d,σ',H',e1,e2,e3,e4⟩=>⟨x,T,C,d,σ',H',e1,e2,e3,z.2 _ _ _ _ e4⟩
 exact Jh hex hb' (Lr hex hs KS hg hm hN hi hk hdb) hst hfr pins s σ H D I ⟨h,fun _ _ _ _ z=>.inl z⟩
end
section
variable {X:Cx} {x:Str} {st:Stmt} {ps:List Str} {k:Nat} {sp:Sp} {p pos:Pos} {e:Expr} {es:List Expr} {t:TA} {E:XK}
theorem m7 (d:Df X.K X.mg x st ps) (G:aI X.prog X.w X.K X.mg X.base (CXR X.prog X.w) k d.f d.fd ps sp) (hr:bT k X.A) (hg:Gl X x) (hx:Passes (CXR X.prog X.w) X E) (ha:PA X (e :: es) t) (hn:isStar e=false:=by rfl) (hall:es.all (fun e=>!isStar e)=true:=by rfl) (hdb:(x == ("__debug__" : Str))=false:=by decide) :
  PE X (.Call (.Name x p) (e :: es) [] pos) (oR sp [] E t):=tO G hr hg d.nm d.fn.kp d.bd .nil hx ha hdb (bD hn) (cg hall)
theorem sI {C f:Addr} {fd:M9} (M:Mk X.K C f) (G:aI X.prog X.w X.K X.mg X.base (CXR X.prog X.w) k f fd ps sp) (hex:X.ex=[]) (hr:bT (k+1) X.A) (hg:Gl X x) (hm:X.mg x=some (.ref C)) (hb:Binds X.K fd ps []) (ha:PA X.nox (e :: es) t) (hn:isStar e=false:=by rfl) (hall:es.all (fun e=>!isStar e)=true:=by rfl) (hdb:(x == ("__debug__" : Str))=false:=by decide) :
  PEx X (.Call (.Name x p) (e :: es) [] pos) (zS C sp t):=GS M G hex hr hg hm hb ha hdb (bD hn) (cg hall)
theorem mV {C:Addr} {np cpos:Pos} (hL:Lets X E) (hex:X.ex=[]) (hcalm:X.calm=true) (hq:Oo X.K C bmV n8=true) (hg:Gl X x) (hm:X.mg x=some (.ref C)) (ha:PA X (e :: es) t) (hn:isStar e=false:=by rfl) (hall:es.all (fun e=>!isStar e)=true:=by rfl)
  (hdb:(x == ("__debug__" : Str))=false:=by decide):PS X (.Raise (some (.Call (.Name x np) (e :: es) [] cpos)) none pos) (A2 C E t):=FZ hL hex hcalm hq hg hm ha hdb (bD hn) (cg hall)
end
section
variable {K:LM} {B C:Addr} {i:Nat} {tb t u:TXs} {ts:TS} {D:Ends} {σ:St} {H:Hp} {c:TT} {te:TXe} {sp:Sp} {ta:TA} {Q:VK} {Ex:St->Hp->Addr->Option Addr->Prop} {Eh:Hp->Addr->Option Addr->Prop} {E:XK} {th:TH}
theorem K5 (h:tb D (fun σ' H' C d=>Nn K (.ref C) (.ref B)=some true/\∀ x,H' x=none ->
 ts { nx:=fun σ2 H2=>D.nx (σ2.set i none) H2,rt:=D.rt,bk:=fun σ2 H2=>D.bk (σ2.set i none) H2,ct:=fun σ2 H2=>D.ct (σ2.set i none) H2 } (σ'.set i (some (.ref x))) (upd H' x (iD x C d))) σ H):Kf K B i tb ts D σ H:=h
theorem DB (h:c σ H fun b H1=>if b=true then t D Ex σ H1 else u D Ex σ H1):JW c t u D Ex σ H:=h
theorem w6 (h:te σ H (fun _ H1=>D.nx σ H1) (fun H1 C d=>Ex σ H1 C d)):FF te D Ex σ H:=h
theorem wN (h:ta σ H fun vs H1=>∀ x dx,H1 x=none->H1 dx=none->dx≠x ->
 sp (.ref x :: vs) (upd (upd H1 dx (.own x)) x (.ins C dx [])) (fun v H2=>v=.non/\Q (.ref x) H2) (fun c d H2=>∃ C,c=.ref C/\Eh H2 C d)):zS C sp ta σ H Q Eh:=h
theorem nP (h:ta σ H fun vs H1=>vs.length<=MB/\E (.ref C) none H1):A2 C E ta D σ H:=h
end
structure cq (K:LM) (C:Addr):Prop where
 cls:PySem.W.isClsIn K C=true
 ga:Ma K (.ref C) "__getattribute__" = some (some (.builtin "BaseException.__getattribute__"))
 gt:Ma K (.ref C) "__getattr__" = some none
 kc:Ma K (.ref C) "__class__" = some (some (.builtin "object.__class__"))
 gg:OP K (.builtin "object.__class__") "__get__" = some (some (.builtin "getset_descriptor.__get__"))
 tk:Qs K (.builtin "object.__class__")=some true
 ob:Od K C (.type "object")=some true
 be:Od K C (.type "BaseException")=some true
section
open PySem.Calls PySem.Builtin PySem.Builtin.ObjectAttr PySem.Builtin.Getset_descriptor
variable {prog:Ms} {w:World} {A:MY} {E:Value->LU->Prop} {K:LM} {x C:Addr} {di:Option Addr} {h:Heap} {g:Array Qc} {d:Drawn} {t:Nat} {os:OsState}
theorem pY {M:Model} (e:ka x C di h):Oq M h (typeOf (.ref x)) (.ref C):=by
 obtain ⟨o,vs,e1,e2,_⟩:=e;exact e2 ▸ (PySem.W.Looks.ld e1).andThen .now
theorem Hj {M:Model} (X:K.In h) (c:cq K C):Oq M h (find (.ref x) (.ref C) "__class__") (.bind (.builtin "getset_descriptor.__get__") (.builtin "object.__class__")):=by
 have L1:=NK (M:=M) X c.kc;have L2:Oq M h (getOf (some (.builtin "object.__class__"))) (some (.builtin "getset_descriptor.__get__")):=PySem.W.looks_specialIn X c.gg;have L3:=PySem.W.looks_takesIn (M:=M) X c.tk;exact L1.andThen (L2.andThen ((show Oq M h (dataDescriptor? (some (.builtin "object.__class__")) (some (.builtin "getset_descriptor.__get__"))) (some (.builtin "getset_descriptor.__get__",.builtin "object.__class__")) from L3.andThen .now).andThen (PySem.W.Looks.tag .now)))
theorem yC {R:QZ->LU->Prop} {tp:Value} (X:K.In h) (c:cq K C) (e:ka x C di h) (hq:R (.ok (.ret (.ref C))) ⟨h,g,d,t,os⟩) :
  codeAny (model prog w) A (.call (.builtin "getset_descriptor.__get__") ⟨[.builtin "object.__class__",.ref x,tp],[]⟩) R ⟨h,g,d,t,os⟩:=by
 have L0:=pY (M:=model prog w) e;have L1:=Qx (M:=model prog w) X c.ob;refine OM PySem.W.KF.slot_gs.plain PySem.W.KF.entry_gs (PySem.W.KF.slot_gs.check _ _ _ _ _ _ _ _ PySem.W.KF.type_class (PySem.W.KF.args_gs _ _ _) ?_);unfold O9.«getset_descriptor.__get__» descrGet;rw [PySem.W.dga_obj];refine LN (Mb ?_);unfold descrGetter descrCheckInstance descrNameAndClass isInstance;simp only [PySem.W.KF.owner_class]
 repeat lk
 refine ⟨PL _ (by trivial),Of PySem.W.KF.entry_class ?_⟩
 unfold O9.«object.__class__» shownTypeOf
 repeat lk
 exact hq
theorem xv {M:Model} {nameV:Value} {Q:Unit->LU->Prop} (X:K.In h) (c:cq K C) (e:ka x C di h) (hq:Q () ⟨h,g,d,t,os⟩):wpAny M A (checkBuiltinCall "BaseException.__getattribute__" ⟨[.ref x,nameV],[]⟩) Q E ⟨h,g,d,t,os⟩:=by
 have hk:builtinKind "BaseException.__getattribute__" = some .slot:=by trivial
 have hsplit:splitId "BaseException.__getattribute__" = some ("BaseException","__getattribute__"):=by trivial
 have ha:=F.args_bexc_ga (.ref x) nameV;have L0:=pY (M:=M) e;have L1:=Qx (M:=M) X c.be;simp only [checkBuiltinCall,hk,hsplit];refine LN ?_;have L2:Oq M h (isInstance (.ref x) (.type "BaseException")) true:=L0.andThen L1;refine L2.at ?_
 repeat (first|assumption|wp_step)
theorem Ez {tk:Tok} {Q:Fin->LU->Prop} (X:K.In h) (c:cq K C) (e:ka x C di h) (hq:Q (.done (.ret (.ref C))) ⟨h,g,d,t,os⟩) :
  wpAny (model prog w) A (O9.«object.__getattribute__» ⟨[.ref x,.str "__class__" tk],[]⟩) Q E ⟨h,g,d,t,os⟩:=by
 have L0:=pY (M:=model prog w) e;have L1:=Hj (M:=model prog w) (x:=x) X c
 repeat (any_goals (first|assumption|with_reducible refine PySem.W.Looks.at (by assumption) ?_|wp_step))
 refine yC X c e ?_
 repeat (any_goals (first|assumption|wp_step))
theorem HH {tk:Tok} {R:QZ->LU->Prop} (X:K.In h) (c:cq K C) (e:ka x C di h) (hq:R (.ok (.ret (.ref C))) ⟨h,g,d,t,os⟩) :
  codeAny (model prog w) A (.call (.builtin "BaseException.__getattribute__") ⟨[.ref x,.str "__class__" tk],[]⟩) R ⟨h,g,d,t,os⟩ :=
 OM Pa.ga.plain F.entry_bexc_ga (xv X c e (Ez X c e hq))
theorem FJ {Q:Option Value->LU->Prop} (X:K.In h) (c:cq K C) (e:ka x C di h) (hq:Q (some (.ref C)) ⟨h,g,d,t+1,os⟩):wpAny (model prog w) A (getAttr? (.ref x) "__class__") Q E ⟨h,g,d,t,os⟩:=by
 have L0:=pY (M:=model prog w) e;have L1:=NK (M:=model prog w) X c.ga;have L2:=NK (M:=model prog w) X c.gt;have f3:=Pa.ga.bind (.ref x);unfold getAttr? getAttrBy? getAttrBy;refine LN (wpAny_mkText (LN (Ph (Nl (LN (L0.at (LN (L1.at ?_))))))));show wpAny _ _ (getAttrByItsOwn _ _ _ _ _ _) _ _ _;unfold getAttrByItsOwn hookBefore;refine LN ?_;rw [if_pos (by rfl)]
 refine L2.at ?_;refine LN (Ph (Nl ?_));unfold callGetattribute
 repeat (any_goals (first|assumption|wp_step))
 refine HH X c e ?_
 repeat (any_goals (first|assumption|wp_step))
theorem Hz (c:cq K C):PySem.W.KitX K (.ref x) (.ref C) (ka x C di) where
 ty:=fun _ _ _ e=>pY e
 it:=fun M h X e=>by
  have hc:(Qo K C).isSome=true:=c.cls;unfold Qo at hc
  split at hc
  ·rename_i ho
   intro A' Q' E' s' k q;unfold isType loadHead;exact LN (QT (k _ _ (X _ _ ho)) (Mb q))
  ·cases hc
 ne:=fun h tp dd its n sl X htp=>by
  refine Bool.eq_false_iff.mpr fun q=>?_;have e:C=tp:=Mw.inj (beq_iff_eq.mp q);subst e;have hc:(Qo K C).isSome=true:=c.cls;unfold Qo at hc
  split at hc
  ·rename_i ho
   have z:=(X _ _ ho).symm.trans htp;cases z
  ·cases hc
 ca:=fun {prog w A E Q s} X e k=>by
  obtain ⟨h,g,d,t,os⟩:=s;exact FJ X c e k
end
def Bf (K:LM) (xs:List V) (H:Hp) (Q:VK):Prop:=∃ (x C:Addr) (d:Option Addr) (c:V) (cv:Value) (b:Bool),xs=[.ref x,c]/\H x=some (iD x C d)/\cq K C/\RelV c cv/\(∀ u,RelV c u->u=cv)/\MJ K (.ref C) cv=some b/\Q (.bl b) H
theorem bI {X:Cx} (K:LM) (hK:X.K=K):cW X (.builtin "isinstance") (Bf K):=by
 subst hK;intro pins s σ H xs us Q I r h;obtain ⟨x,C,d,c,cv,b,rfl,hx,hc,r2,r3,e,q⟩:=h;obtain ⟨u,v,rfl,ru,rv⟩:=r.two;cases (show u=Mw x from ru);cases r3 v rv;obtain ⟨p,_,_⟩:=(show bB X.prog X.w H s.heap x (iD x C d) from I.hok x _ hx);exact NB (Hz hc) I.kIn p e (fun z=>nomatch z) fun tk=>⟨.bl b,H,I.tok tk,rfl,q⟩
section
variable {K:LM} {H:Hp} {Q:VK} {x C D:Addr} {d:Option Addr} {b:Bool}
theorem Hf {n:String} (hx:H x=some (iD x C d)) (hc:cq K C) (e:MJ K (.ref C) (.type n)=some b) (q:Q (.bl b) H):Bf K [.ref x,.ty n] H Q:=⟨x,C,d,.ty n,.type n,b,rfl,hx,hc,rfl,fun _ z=>z,e,q⟩
theorem cT (hx:H x=some (iD x C d)) (hc:cq K C) (e:MJ K (.ref C) (.ref D)=some b) (q:Q (.bl b) H):Bf K [.ref x,.ref D] H Q:=⟨x,C,d,.ref D,.ref D,b,rfl,hx,hc,rfl,fun _ z=>z,e,q⟩
end
section
variable {M:Model} {A:MY} {E:Value->LU->Prop} {s:LU} {base:Heap} {env:Env} {l:List Env} {L x T C:Addr} {d:Option Addr}
end
section
variable {X:Cx} {pins:List (Addr×Obj)} {σ:St} {H:Hp} {s s':LU} {x T C:Addr} {d:Option Addr} {ts:List Addr} {h':Heap} {E:XK} {e:Value} {fl:Value}
inductive zQ (h:Heap) (x:Addr) (C:Addr) (d:Option Addr) (L:Addr):List Addr->Prop
 | new:pI h x C d->zQ h x C d L []
 | fly {T:Addr}:pK h x T C d->zQ h x C d L [T]
 | held {T:Addr}:kj h x T C d (rawInt L)->zQ h x C d L [T]
 | any {T:Addr} {fl:Value}:kj h x T C d fl->zQ h x C d L [T]
def XR (X:Cx) (E:XK) (e:Value) (s':LU):Prop:=∃ x ts C d σ H,e=.ref x/\Up X [] σ H s' x ts/\zQ s'.heap x C d X.env.locals ts/\E (.ref C) d H
theorem Up.bare (U:Up X pins σ H s x ts):Up X [] σ H s x ts:=by
 have I:=U.inv;exact ⟨⟨I.ok,I.os,I.bare,I.base,I.loc,I.cell,I.free,I.fC,fun p hp=>I.pin p (by rw [OQ] at hp;exact Nw _ hp),I.hok,I.len⟩,U.fx,U.fT,U.nx,U.nT,fun p hp=>U.px p (by rw [OQ] at hp;exact Nw _ hp)⟩
theorem Up.dU {F:Value->LU->Prop} (U:Up (X.iZ F) pins σ H s x ts):Up X pins σ H s x ts:=⟨U.inv.dU,U.fx,U.fT,U.nx,U.nT,U.px⟩
end
section
variable {P:Ms} {w:World} {K:LM} {mg:Str->Option Value} {base:Heap} {N:List Str} {qual:Str} {scope:Scope} {f:Addr} {cd:Value} {A:MY} {outer:List Env} {s:LU} {H:Hp} {E:XK}
abbrev cxR (P:Ms) (w:World) (K:LM) (mg:Str->Option Value) (base:Heap) (N:List Str) (qual:Str) (scope:Scope) (f:Addr) (cd:Value) (A:MY) (outer:List Env) (s:LU) (H:Hp) (E:XK):Cx :=
 (lh (CXR P w) P w K mg base N qual scope f cd A outer s H E).iZ (XR (lh (CXR P w) P w K mg base N qual scope f cd A outer s H E) E)
theorem tM:Lets (cxR P w K mg base N qual scope f cd A outer s H E) E:=fun pins σ H' s' x C d U he q=>⟨x,[],C,d,σ,H',rfl,U.dU.bare,.new he,q⟩
theorem mE:Passes (CXR P w) (cxR P w K mg base N qual scope f cd A outer s H E) E:=fun pins σ H1 s1 e s' I h=>by
 obtain ⟨x,T,C,d,H',rfl,he,U,q⟩:=xN I rfl h;exact ⟨x,[T],C,d,σ,H',rfl,U.dU.bare,.fly he,q⟩
theorem xI {e:Value} {s':LU} (h:XR (lh (CXR P w) P w K mg base N qual scope f cd A outer s H E) E e s'):(lh (CXR P w) P w K mg base N qual scope f cd A outer s H E).xe e s':=by
 obtain ⟨x,ts,C,d,σ,H',rfl,U,fl,q⟩:=h;cases fl with
 | new he=>exact BH (L:=s.heap.objs.size) (outer:=outer) U.inv.ok.frames U.inv.stack rfl he fun h' T' F=>wc (U.land rfl he.sr F) F.exc q
 | fly he=>exact Dc (L:=s.heap.objs.size) (outer:=outer) U.inv.ok.frames U.inv.stack rfl he fun h' T' F=>wc (U.land rfl he.sr F) F.exc q
 | held he=>exact leave_held (L:=s.heap.objs.size) (outer:=outer) U.inv.stack rfl he fun h' F=>wc (U.land rfl he.sr F) F.exc q
 | any he=>exact Fl (L:=s.heap.objs.size) (outer:=outer) U.inv.ok.frames U.inv.stack rfl he fun h' T' F=>wc (U.land rfl he.sr F) F.exc q
theorem Fun.okX {x qual:Str} {st:Stmt} {f:Addr} {fd:M9} {N ps:List Str} {k:Nat} {sp:Sp} (F:Fun K x qual st f fd) (S:aN N ps (ag st)) (len:∀ vs H Q E,sp vs H Q E->vs.length=ps.length)
  (hbody:∀ (cdv:Value) (A:MY) (outer:List Env) (s:LU) (H:Hp) (vs:List V) (Q:VK) (E:XK),bT k (A.deeper (envOfC qual (ag st) s.heap.objs.size f cdv))->sp vs H Q E ->
   ∃ t,((cxR P w K mg base N qual (ag st) f cdv A outer s H E).Ok->PSs (cxR P w K mg base N qual (ag st) f cdv A outer s H E) (aG st) t)/\t { nx:=fun _ H'=>Q .non H',rt:=Q } (start N vs) H):aI P w K mg base (CXR P w) (k+1) f fd ps sp:=by
 obtain ⟨oc,od,kV,doc,pm,an,cdv,ct,osl,rfl,lk,hcd⟩:=F.ex;refine zf lk hcd S len fun A outer s H vs Q E hr hsp=>?_;obtain ⟨t,h,q⟩:=hbody cdv A outer s H vs Q E hr hsp;refine ⟨t,fun pins s' σ H' D I z=>?_,q⟩;exact Nj (h (I.iZ _).ok pins s' σ H' D (I.iZ _) z) (fun _ _ y=>y.dU) fun _ _ y=>xI y
theorem aI.both {k:Nat} {f:Addr} {fd:M9} {ps:List Str} {sp1 sp2:Sp} (F1:aI P w K mg base CX0 k f fd ps sp1) (F2:aI P w K mg base (CXR P w) k f fd ps sp2):aI P w K mg base (CXR P w) k f fd ps (fun vs H Q E=>sp1 vs H Q E\/sp2 vs H Q E) :=
 ⟨fun vs H Q E h=>h.elim (F1.len vs H Q E) (F2.len vs H Q E),fun A outer s H args us vs Q E hr he hb hv h=>by
  rcases h with h|h
  ·refine OD (F1.run A outer s H args us vs Q E hr he hb hv h) fun r s' z=>?_;cases r with
   | error e=>exact Nh z
   | ok fl=>cases fl <;> exact z
  ·exact F2.run A outer s H args us vs Q E hr he hb hv h⟩
end
section
variable {X:Cx} {pos:Pos}
end
section
variable {σ:St} {H:Hp} {Q:VK} {D:Ends} {Ex:St->Hp->Addr->Option Addr->Prop} {Eh:Hp->Addr->Option Addr->Prop}
end
end L2
namespace L2
def Back (U N:St->Hp->Prop):Prop:=∀ σ' H',U σ' H'->N σ' H'
theorem vM {t u:TS} {D:Ends} {σ:St} {H:Hp} (h:∀ N:St->Hp->Prop,Back (u D) N->t { D with nx:=N } σ H):KG t u D σ H:=h _ fun _ _ z=>z
theorem r9 {U N:St->Hp->Prop} {σ:St} {H:Hp} (h:Back U N) (q:U σ H):N σ H:=h σ H q
end L2
namespace L2
open PySem PySem.Spec PyProof.Rows
structure Ia (K:LM) (C:Addr) (m:Str) (f:Addr):Prop where
 ga:OP K (.ref C) "__getattribute__" = some (some (.builtin "type.__getattribute__"))
 rd:PySem.W.readsIn K C (.type "type")=true
 fc:PySem.W.findCls K (.ref C) (.type "type") m=some (.val (.ref f))
 kp:LW K (.ref f)=true
section
variable {X:Cx} {k:Nat} {f C:Addr} {fd:M9} {ps:List Str} {sp:Sp} {x m:Str} {p pos apos:Pos} {e:Expr} {es:List Expr} {t:TA}
theorem oH {pl:Sem Bool} (hg:Gl X x) (hm:X.mg x=some (.ref C)) (hc:Ia X.K C m f) (F:aI X.prog X.w X.K X.mg X.base CX0 k f fd ps sp) (hr:bT k X.A) (hb:Binds X.K fd ps []) (ha:PA X (e :: es) t)
  (hn:isStar e=false:=by rfl) (hall:es.all (fun e=>!isStar e)=true:=by rfl) (hdb:(x == ("__debug__" : Str))=false:=by decide)
  (ht:eval (.Call (.Attribute (.Name x p) m apos) (e :: es) [] pos) X.env=(do
   let ov <- eval (.Name x p) X.env
   standAt apos.atName
   let (f,first) <- holding [ov] (getMethod ov m pl)
   callWith pos f first (backTo pos (MZ (e :: es) X.env)) (backToKw pos (keywordEach [] X.env))):=by rfl) :
  PE X (.Call (.Attribute (.Name x p) m apos) (e :: es) [] pos) (oR sp [] E0 t):=by
 intro pins s σ H Q I h;refine R7 (pl:=pl) (kI I hg hm ?_ hdb) ht;refine PySem.W.method_cls I.kIn hc.ga (PySem.W.cls_value I.kIn hc.rd hc.fc rfl ?_);refine OF (first:=[]) (h₀:=X.base) I.ok.mod.kin hc.kp (thn (ha pos pins _ σ H _ (I.tok (s.toks+1)) h) fun us s2 ⟨vs,H2,I2,r,q2⟩=>⟨I2.kIn,?_⟩) (bD hn) (cg hall);exact A6 F hr hb .nil tJ I2 r q2
end
section
variable {X:Cx} {k:Nat} {f C:Addr} {fd:M9} {ps ks:List Str} {sp:Sp} {x:Str} {p pos kpos:Pos} {e a:Expr} {es:List Expr} {kws:List RV} {t tk:TA} {te:TE} {g:List Value->List Value->List Value} {gV:List V->List V->List V}
end
section
variable {X:Cx} {pins:List (Addr×Obj)} {σ:St} {H:Hp} {s:LU} {A:MY} {α β:Type} [Rep α] [DecidableEq α] [bQ α] [Rep β] [DecidableEq β] [bQ β]
end
end L2
namespace PySem
open Sem (wp)
theorem Jj:typeLookup (.type "zip") "__getattr__" = pure none:=am_miss_of_fast (by kernel_rfl)
theorem IZ:typeLookup (.type "zip") "keys" = pure none:=am_miss_of_fast (by kernel_rfl)
theorem Hc:entryFor table "zip.__getattribute__" = some O9.«object.__getattribute__» :=
 SA (id':="object.__getattribute__") (by kernel_rfl) (by trivial) (by trivial) (by kernel_rfl)
theorem Hx (z:Addr) (fs:Array Value) (u:Tok) :
  Meets (O9.«object.__getattribute__» ⟨[.ref z,.str "keys" u],[]⟩) (fun A R s=>s.heap.get? z=some { cls:=.type "zip",dict:=none,data:=.fields fs,slots:=#[] }/\raisesAttr (.ref z) "keys" A R s) :=
 Meets.of_wp fun prog w A R s hs=>by
  obtain ⟨hp,g,d,tk,os⟩:=s;obtain ⟨hx,hA,hs⟩:=hs;have hT:(⟨hp,g,d,tk,os⟩:LU).TypeIs (.ref z) "zip":=⟨_,hx,rfl⟩;have hk:=IZ;unfold O9.«object.__getattribute__»
  repeat (any_goals (first|assumption|wp_step))
  exact wpAny_raiseAttrError hA hs (attrMsg_fits (by trivial) (by trivial))
section
variable {prog:Ms} {w:World} {A:MY} {E:Value->LU->Prop} {s:LU}
theorem BY {z:Addr} {fs:Array Value} {Q:Option Value->LU->Prop} (hx:s.heap.get? z=some { cls:=.type "zip",dict:=none,data:=.fields fs,slots:=#[] }) (hA:A.handled=none)
  (h:∀ h' tk,(∀ b o,s.heap.get? b=some o->h'.get? b=some o)->Q none { s with heap:=h',toks:=tk }):wpAny (model prog w) A (getAttr? (.ref z) "keys") Q E s:=by
 obtain ⟨hp,g,d,tk,os⟩:=s;have hT:∀ tk',(⟨hp,g,d,tk',os⟩:LU).TypeIs (.ref z) "zip":=fun _=>⟨_,hx,rfl⟩;have f1:=sub_AttributeError;have f3:=PM.lookup;have f4:=PM.bind (.ref z);have f5:=Jj;unfold getAttr? getAttrBy? getAttrBy
 repeat (any_goals (first|assumption|exact hT _|((with_reducible show wpAny _ _ (call (Value.builtin "zip.__getattribute__") _ _) _ _ _);refine Q4 PM (hT _) Hc (F.args_zip_getattribute_2 _ _) (Hx z fs _) ⟨hx,hA,fun h' tk' e hn=>?_⟩)|wp_step))
 obtain ⟨t',u',he⟩:=hn.there;show wpAny _ _ (getattributeRaised _ _ _ _ _ _ _) _ _ _;unfold getattributeRaised
 repeat (any_goals (first|assumption|wp_step))
 exact h _ _ hn.keeps
end
end PySem
namespace PySem
open Sem (wp)
section
variable {prog:Ms} {w:World} {A:MY} {E:Value->LU->Prop} {s:LU}
abbrev jv (h:Heap) (z TI TO T:Addr) (b:Bool):Prop:=h.get? z=some { cls:=.type "zip",dict:=none,data:=.fields #[rawInt T,.bool b,.bool false,.ref TI,.ref TO],slots:=#[] }
theorem ya {z TI TO T:Addr} {b:Bool} {oT:Obj} {Q:Bool->LU->Prop} (gz:jv s.heap z TI TO T b) (gT:s.heap.get? T=some oT)
  (h:∀ h',jv h' z TI TO T true->OW z s.heap h'->Q false { s with heap:=h' }):wpAny (model prog w) A (NR (.ref z)) Q E s:=by
 unfold NR;refine LN (Oj gz rfl (x:=rawInt T) rfl ?_);have al:∀ {R:Option Obj->LU->Prop},R (some oT) s->wpAny (model prog w) A (loadIfAlive ((T:Int).toNat)) R E s:=fun {R} r=>by
  intro Γ q hΓ;show R (s.heap.get? ((T:Int).toNat)) s;rw [show ((T:Int).toNat)=T from NT T,gT];exact r
 refine LN (al ?_);rw [if_neg (fun z=>nomatch z)];refine LN (Oj gz rfl (x:=.bool b) rfl ?_);cases b with
 | true =>
  rw [if_neg (by decide)]
  exact Mb (h _ gz ⟨rfl,fun _ _=>rfl⟩)
 | false =>
  rw [if_pos (by decide)]
  exact LN (PN gz (by simp) fun h1 gz1 hs1=>Mb (h h1 gz1 hs1))
theorem yz {z TI TO T i1 i2 l1 l2:Addr} {k1 k2:Nat} {xs ys:Array Value} {x y:Value} {b:Bool} {oT:Obj} {Q:Value->LU->Prop} (D:Qd z TI TO i1 i2 l1 l2)
  (gz:jv s.heap z TI TO T b) (gT:s.heap.get? T=some oT) (gI:Sy s.heap TI (.ref i1) (.ref i2))
  (g1:s.heap.IsListIter i1 l1 k1) (g2:s.heap.IsListIter i2 l2 k2) (gl1:s.heap.IsList l1 xs) (gl2:s.heap.IsList l2 ys) (gx:xs[k1]?=some x) (gy:ys[k2]?=some y)
  (hQ:∀ h',jv h' z TI TO T true->h'.IsListIter i1 l1 (k1+1)->h'.IsListIter i2 l2 (k2+1)->Sy h' s.heap.objs.size x y ->
   (∀ c o,c≠z->c≠i1->c≠i2->s.heap.get? c=some o->h'.get? c=some o)->Q (.ref s.heap.objs.size) { s with heap:=h' }) :
  wpAny (model prog w) A (O9.«zip.__next__» ⟨[.ref z],[]⟩) (fun fin s'=>∃ v,fin=.done (.ret v)/\Q v s') E s:=by
 show wpAny _ _ (field (.ref z) 2 >>= _) _ _ _;refine LN (Oj gz rfl (x:=.bool false) rfl ?_);show wpAny _ _ (field (.ref z) 3 >>= _) _ _ _;refine LN (Oj gz rfl (x:=.ref TI) rfl ?_);refine LN (SD gI rfl ?_);show wpAny _ _ (NR (.ref z) >>= _) _ _ _;refine LN (ya gz gT fun h1 gz1 hs1=>?_);simp only [QM,if_false,List.forIn_toArray,RZ,List.forIn_nil];refine LN (LN (LN (Nl ?_)));show wpAny _ _ (Pn (.ref i1) >>= _) _ _ _;refine LN (RM (g1.extBut hs1.extBut D.i1z) (gl1.extBut hs1.extBut D.l1z) gx fun h2 g12 hs2=>Mb (Mb ?_));refine LN (LN (Nl ?_));show wpAny _ _ (Pn (.ref i2) >>= _) _ _ _;refine LN (RM ((g2.extBut hs1.extBut D.i2z).extBut hs2.extBut D.i12.symm) ((gl2.extBut hs1.extBut D.l2z).extBut hs2.extBut D.l2i1) gy fun h3 g23 hs3=>Mb (Mb (Mb ?_)));refine LN (wpAny_newTuple (Mb ⟨_,rfl,?_⟩) (show 2<=MB by decide))
 have e1:h1.objs.size=s.heap.objs.size:=hs1.1;have e2:h2.objs.size=h1.objs.size:=hs2.1;have e3:h3.objs.size=h2.objs.size:=hs3.1;have ez:h3.objs.size=s.heap.objs.size:=e3.trans (e2.trans e1);have up:∀ c o,c≠z->c≠i1->c≠i2->s.heap.get? c=some o->h3.get? c=some o:=fun c o n1 n2 n3 q=>hs3.extBut _ _ n3 (hs2.extBut _ _ n2 (hs1.extBut _ _ n1 q));have q:=hQ (h3.push { cls:=.type "tuple",data:=.seq #[x,y] }) (LV _ (hs3.extBut _ _ D.i2z.symm (hs2.extBut _ _ D.i1z.symm gz1))) ((g12.extBut hs3.extBut D.i12).at fun o e=>LV _ e) (g23.at fun o e=>LV _ e)
  (by rw [<- ez];exact Mx _ rfl) fun c o n1 n2 n3 q=>LV _ (up c o n1 n2 n3 q)
 rw [<- ez] at q;exact q
theorem EJ {z TI TO T i1 i2 l1 l2:Addr} {k1 k2:Nat} {xs ys:Array Value} {x y:Value} {b:Bool} {oT:Obj} {Q:Option Value->LU->Prop} (D:Qd z TI TO i1 i2 l1 l2)
  (gz:jv s.heap z TI TO T b) (gT:s.heap.get? T=some oT) (gI:Sy s.heap TI (.ref i1) (.ref i2))
  (g1:s.heap.IsListIter i1 l1 k1) (g2:s.heap.IsListIter i2 l2 k2) (gl1:s.heap.IsList l1 xs) (gl2:s.heap.IsList l2 ys) (gx:xs[k1]?=some x) (gy:ys[k2]?=some y)
  (hQ:∀ h',jv h' z TI TO T true->h'.IsListIter i1 l1 (k1+1)->h'.IsListIter i2 l2 (k2+1)->Sy h' s.heap.objs.size x y ->
   (∀ c o,c≠z->c≠i1->c≠i2->s.heap.get? c=some o->h'.get? c=some o)->Q (some (.ref s.heap.objs.size)) { s with heap:=h' }) :
  wpAny (model prog w) A (pyNext (.ref z)) Q E s:=by
 have tz:s.TypeIs (.ref z) "zip":=⟨_,gz,rfl⟩;unfold pyNext;refine LN (Ph (O1 (name:=N6 "__next__") tz Qy (OA Qy tz F.entry_zip_next ?_ (F.args_zip_next_1 _))));exact yz D gz gT gI g1 g2 gl1 gl2 gx gy fun h' a1 a2 a3 a4 a5=>Mb (hQ h' a1 a2 a3 a4 a5)
theorem Af {z TI TO T i1 i2 l1 l2:Addr} {k1:Nat} {xs:Array Value} {b:Bool} {oT:Obj} {Q:Fin->LU->Prop} (hh:A.handled=none) (D:Qd z TI TO i1 i2 l1 l2)
  (gz:jv s.heap z TI TO T b) (gT:s.heap.get? T=some oT) (gI:Sy s.heap TI (.ref i1) (.ref i2))
  (g1:s.heap.IsListIter i1 l1 k1) (gl1:s.heap.IsList l1 xs) (gx:xs[k1]?=none)
  (hE:∀ h' e,(∀ c o,c≠z->c≠i1->c≠i2->s.heap.get? c=some o->h'.get? c=some o)->(∃ o,h'.get? e=some o/\o.cls=.type "StopIteration")->E (.ref e) { s with heap:=h' }) :
  wpAny (model prog w) A (O9.«zip.__next__» ⟨[.ref z],[]⟩) Q E s:=by
 show wpAny _ _ (field (.ref z) 2 >>= _) _ _ _;refine LN (Oj gz rfl (x:=.bool false) rfl ?_);show wpAny _ _ (field (.ref z) 3 >>= _) _ _ _;refine LN (Oj gz rfl (x:=.ref TI) rfl ?_);refine LN (SD gI rfl ?_);show wpAny _ _ (NR (.ref z) >>= _) _ _ _;refine LN (ya gz gT fun h1 gz1 hs1=>?_);simp only [QM,if_false,List.forIn_toArray,RZ,List.forIn_nil];refine LN (LN (LN (Nl ?_)));show wpAny _ _ (Pn (.ref i1) >>= _) _ _ _;exact LN (wpAny_nextOf_list_end hh (g1.extBut hs1.extBut D.i1z) (gl1.extBut hs1.extBut D.l1z) gx fun h2 e hs2 he=>hE h2 e (fun c o n1 n2 n3 q=>hs2 _ _ n2 (hs1.extBut _ _ n1 q)) he)
theorem Ho {z TI TO T i1 i2 l1 l2:Addr} {k1:Nat} {xs:Array Value} {b:Bool} {oT:Obj} {Q:Option Value->LU->Prop} (hh:A.handled=none) (D:Qd z TI TO i1 i2 l1 l2)
  (gz:jv s.heap z TI TO T b) (gT:s.heap.get? T=some oT) (gI:Sy s.heap TI (.ref i1) (.ref i2))
  (g1:s.heap.IsListIter i1 l1 k1) (gl1:s.heap.IsList l1 xs) (gx:xs[k1]?=none)
  (hQ:∀ h',(∀ c o,c≠z->c≠i1->c≠i2->s.heap.get? c=some o->h'.get? c=some o)->Q none { s with heap:=h' }):wpAny (model prog w) A (pyNext (.ref z)) Q E s:=by
 have tz:s.TypeIs (.ref z) "zip":=⟨_,gz,rfl⟩;unfold pyNext;refine LN (Ph (O1 (name:=N6 "__next__") tz Qy (OA Qy tz F.entry_zip_next (Af hh D gz gT gI g1 gl1 gx fun h' e hk he=>?_) (F.args_zip_next_1 _))));obtain ⟨o,ho,hc⟩:=he;exact LN (RE (T:="StopIteration") (b:=true) ⟨o,ho,hc⟩ isSubtype_stop (Mb (hQ _ hk)))
end
end PySem
namespace PySem
open Sem (wp)
theorem A7:entryFor table "dict.update.loop" = some O9.«dict.update.loop»:=entryFor_of_tree (by kernel_rfl)
theorem q9:plainId "dict.update.loop" = true:=by trivial
structure nA (h:Heap) (z TI TO i1 i2 l1 l2:Addr) (i:Nat) (xs ys:Array Value):Prop where
 own:(IsZip h z TI TO .none/\∃ a b,Sy h TO a b)\/∃ (T:Addr) (b:Bool) (oT:Obj),jv h z TI TO T b/\h.get? T=some oT/\T≠z/\T≠i1/\T≠i2
 ins:Sy h TI (.ref i1) (.ref i2)
 it1:h.IsListIter i1 l1 i
 it2:h.IsListIter i2 l2 i
 ls1:h.IsList l1 xs
 ls2:h.IsList l2 ys
theorem nA.keep {h h':Heap} {z TI TO i1 i2 l1 l2 d:Addr} {i:Nat} {xs ys:Array Value} (Z:nA h z TI TO i1 i2 l1 l2 i xs ys) (nz:z≠d) (nI:TI≠d) (nO:TO≠d) (n1:i1≠d) (n2:i2≠d) (n3:l1≠d) (n4:l2≠d)
  (k:∀ c o,c≠d->h.get? c=some o->h'.get? c=some o) (hd:∃ o,h'.get? d=some o):nA h' z TI TO i1 i2 l1 l2 i xs ys where
 own:=by
  rcases Z.own with ⟨gz,a,b,gO⟩|⟨T,b,oT,gz,gT,t1,t2,t3⟩
  ·exact .inl ⟨k _ _ nz gz,a,b,k _ _ nO gO⟩
  ·by_cases e:T=d
   ·obtain ⟨o,ho⟩:=hd;exact .inr ⟨T,b,o,k _ _ nz gz,by rw [e];exact ho,t1,t2,t3⟩
   ·exact .inr ⟨T,b,oT,k _ _ nz gz,k _ _ e gT,t1,t2,t3⟩
 ins:=k _ _ nI Z.ins
 it1:=Z.it1.at fun o q=>k _ o n1 q
 it2:=Z.it2.at fun o q=>k _ o n2 q
 ls1:=Z.ls1.at fun o q=>k _ o n3 q
 ls2:=Z.ls2.at fun o q=>k _ o n4 q
section
variable {prog:Ms} {w:World} {A:MY} {E:Value->LU->Prop} {s:LU} {z TI TO i1 i2 l1 l2:Addr} {xs ys:Array Value}
theorem DC {i:Nat} {x y:Value} {Q:Option Value->LU->Prop} (D:Qd z TI TO i1 i2 l1 l2) (Z:nA s.heap z TI TO i1 i2 l1 l2 i xs ys) (gx:xs[i]?=some x) (gy:ys[i]?=some y)
  (hQ:∀ h',nA h' z TI TO i1 i2 l1 l2 (i+1) xs ys->Sy h' s.heap.objs.size x y->(∀ c o,c≠z->c≠TO->c≠i1->c≠i2->s.heap.get? c=some o->h'.get? c=some o)->Q (some (.ref s.heap.objs.size)) { s with heap:=h' }) :
  wpAny (model prog w) A (pyNext (.ref z)) Q E s:=by
 have lt:∀ {c:Addr} {o:Obj},s.heap.get? c=some o->s.heap.objs.size≠c:=fun e=>OX (Me e);rcases Z.own with ⟨gz,a,b,gO⟩|⟨T,b,oT,gz,gT,t1,t2,t3⟩
 ·refine R1 D gz Z.ins gO Z.it1 Z.it2 Z.ls1 Z.ls2 gx gy fun h' a1 a2 a3 a4 a5 a6 hk=>hQ h' ⟨.inr ⟨s.heap.objs.size,false,_,a1,a5,lt gz,?_,?_⟩,hk _ _ D.TIz D.TITO D.TIi1 D.TIi2 Z.ins,a3,a4,Z.ls1.at fun o e=>hk _ o D.l1z D.l1TO D.l1i1 D.l1i2 e,Z.ls2.at fun o e=>hk _ o D.l2z D.l2TO D.l2i1 D.l2i2 e⟩ a5 hk
  ·obtain ⟨_,e,_⟩:=Z.it1;exact lt e
  ·obtain ⟨_,e,_⟩:=Z.it2;exact lt e
 ·exact EJ D gz gT Z.ins Z.it1 Z.it2 Z.ls1 Z.ls2 gx gy fun h' a1 a2 a3 a4 hk=>hQ h' ⟨.inr ⟨T,true,oT,a1,hk _ _ t1 t2 t3 gT,t1,t2,t3⟩,hk _ _ D.TIz D.TIi1 D.TIi2 Z.ins,a2,a3,Z.ls1.at fun o e=>hk _ o D.l1z D.l1i1 D.l1i2 e,Z.ls2.at fun o e=>hk _ o D.l2z D.l2i1 D.l2i2 e⟩ a4 fun c o c1 _ c3 c4 e=>hk c o c1 c3 c4 e
theorem Ed {i:Nat} {Q:Option Value->LU->Prop} (hh:A.handled=none) (D:Qd z TI TO i1 i2 l1 l2) (Z:nA s.heap z TI TO i1 i2 l1 l2 i xs ys) (gx:xs[i]?=none)
  (hQ:∀ h',(∀ c o,c≠z->c≠TO->c≠i1->c≠i2->s.heap.get? c=some o->h'.get? c=some o)->Q none { s with heap:=h' }):wpAny (model prog w) A (pyNext (.ref z)) Q E s:=by
 rcases Z.own with ⟨gz,a,b,gO⟩|⟨T,b,oT,gz,gT,t1,t2,t3⟩
 ·exact Ss hh D gz Z.ins gO Z.it1 Z.it2 Z.ls1 Z.ls2 (.inl gx) fun h' hk=>hQ h' hk
 ·exact Ho hh D gz gT Z.ins Z.it1 Z.ls1 gx fun h' hk=>hQ h' fun c o c1 _ c3 c4 e=>hk c o c1 c3 c4 e
end
section
variable {prog:Ms} {w:World} {A:MY} {E:Value->LU->Prop} {Kk:Type} [DecidableEq Kk] {knd:KeyKind prog w Kk} {d z TI TO i1 i2 l1 l2:Addr} {xs ys:Array Value} {kvs:List (Kk×Value)}
theorem Jf {R:QZ->LU->Prop} (hh:A.handled=none) (D:Qd z TI TO i1 i2 l1 l2) (nz:z≠d) (nI:TI≠d) (nO:TO≠d) (n1:i1≠d) (n2:i2≠d) (n3:l1≠d) (n4:l2≠d) (hl:kvs.length=xs.size) (hz:kvs.length<=MB)
  (hkv:∀ (i:Nat) (k:Kk) (v:Value),kvs[i]?=some (k,v)->∃ x,xs[i]?=some x/\knd.is k x=true/\ys[i]?=some v) :
  ∀ (m i:Nat) (j:Int) (s:LU),kvs.length - i=m->i<=kvs.length->nA s.heap z TI TO i1 i2 l1 l2 i xs ys->s.heap.DictOf knd d (merged [] (kvs.take i)) ->
   (∀ h' t',h'.DictOf knd d (merged [] kvs)->(∀ c o,c≠d->c≠z->c≠TO->c≠i1->c≠i2->s.heap.get? c=some o->h'.get? c=some o)->R (.ok (.ret .none)) { s with heap:=h',toks:=t' }) ->
   codeAny (model prog w) A (.builtin "dict.update.loop" ⟨[.ref d,.ref z,rawInt j,.none],[]⟩) R s:=by
 intro m
 induction m with
 | zero =>
  intro i j s hm hi Z hd hR;have e:i=kvs.length:=by omega
  subst e;rw [NF] at hd;refine Of A7 ?_;rw [N3 q9 _];show wpAny _ A.in1 (pyNext (.ref z) >>= _) _ _ s;refine LN (Ed (by simpa using hh) D Z (Oy (by omega)) fun h' hk=>?_)
  show wpAny _ A.in1 (Builtin.Dict.addKeywords d [] >>= _) _ _ _;refine LN (Mb (Mb (hR h' s.toks ?_ fun c o _ c1 c2 c3 c4 q=>hk c o c1 c2 c3 c4 q)));obtain ⟨o,es,ep,ho,rest⟩:=hd;exact ⟨o,es,ep,hk _ _ nz.symm nO.symm n1.symm n2.symm ho,rest⟩
 | succ m ih =>
  intro i j s hm hi Z hd hR;have hlt:i<kvs.length:=by omega
  obtain ⟨⟨k,v⟩,hg⟩:∃ p,kvs[i]?=some p:=⟨_,LP hlt⟩;obtain ⟨x,gx,kx,gy⟩:=hkv i k v hg;refine Of A7 ?_;rw [N3 q9 _];show wpAny _ A.in1 (pyNext (.ref z) >>= _) _ _ s;refine LN (DC D Z gx gy fun h1 Z1 gp hk=>?_);show wpAny _ A.in1 (holding [Mw s.heap.objs.size] _ >>= _) _ _ _;refine LN (Nl ?_);refine LN (wpAny_tryCatch ?_);unfold Builtin.Dict.pairItems;refine LN (R8 (T:="tuple") ⟨_,gp,rfl⟩ ?_);rw [if_pos (by decide)]
  refine LN (SD gp rfl (Mb ?_));show wpAny _ A.in1 (holding [x,v] (dictSet d x v)) _ _ _;refine Nl ?_;have hd1:h1.DictOf knd d (merged [] (kvs.take i)):=by
   obtain ⟨o,es,ep,ho,rest⟩:=hd;exact ⟨o,es,ep,hk _ _ nz.symm nO.symm n1.symm n2.symm ho,rest⟩
  have ml:=merged_length_le ([]:List (Kk×Value)) (kvs.take i);have tl:(kvs.take i).length<=i:=List.length_take_le ..;refine wpAny_dictSet_pairs (s:={ s with heap:=h1 }) (hsz:=by rw [PK,Ou] at ml;omega) kx hd1 fun h2 hd2 hs2=>?_
  rw [<- merged_take_succ [] kvs i (k,v) hg] at hd2;have he:∃ o,h2.get? d=some o:=let ⟨o,_,_,ho,_⟩:=hd2;⟨o,ho⟩;refine Mb ⟨PQ q9 _,ih (i+1) (j+1) _ (by omega) hlt (Z1.keep nz nI nO n1 n2 n3 n4 (fun c o c1 q=>(hs2.2 c c1).trans q) he) hd2 fun h3 t3 hd3 hk3=>?_⟩
  exact hR h3 t3 hd3 fun c o c0 c1 c2 c3 c4 q=>hk3 c o c0 c1 c2 c3 c4 ((hs2.2 c c0).trans (hk c o c1 c2 c3 c4 q))
theorem yR {s:LU} {Q:Value->LU->Prop} (hh:A.handled=none) (D:Qd z TI TO i1 i2 l1 l2) (gz:IsZip s.heap z TI TO .none) (Z:nA s.heap z TI TO i1 i2 l1 l2 0 xs ys) (hl:kvs.length=xs.size) (hz:kvs.length<=MB)
  (hkv:∀ (i:Nat) (k:Kk) (v:Value),kvs[i]?=some (k,v)->∃ x,xs[i]?=some x/\knd.is k x=true/\ys[i]?=some v) (nd:(kvs.map (·.1)).Nodup) (gO:∃ o,s.heap.get? TO=some o)
  (h:∀ h' t',h'.DictOf knd s.heap.objs.size kvs->(∀ c o,c≠z->c≠TO->c≠i1->c≠i2->s.heap.get? c=some o->h'.get? c=some o)->Q (.ref s.heap.objs.size) { s with heap:=h',toks:=t' }) :
  wpAny (model prog w) A (call (.type "dict") [.ref z]) Q E s:=by
 refine callType_codes (Q₁:=fun obj s₁=>obj=.ref s.heap.objs.size/\s₁={ s with heap:=s.heap.push { cls:=.type "dict",data:=.dict #[] } }) F.kt_called_dict (F.kt_typeCall_dict_1 _) F.entry_dict_init (kt_code_dict_new _ ⟨rfl,rfl⟩) ?_;rintro obj s₁ ⟨rfl,rfl⟩;have anew:(s.heap.push { cls:=.type "dict",data:=.dict #[] }).DictOf knd s.heap.objs.size []:=Heap.DictOf.new s.heap;have lt:∀ {c:Addr} {o:Obj},s.heap.get? c=some o->c≠s.heap.objs.size:=fun e=>Mp (Me e);have gz1:IsZip (s.heap.push { cls:=.type "dict",data:=.dict #[] }) z TI TO .none:=LV _ gz;have nz:=lt gz;have nI:=lt Z.ins;have nO:TO≠s.heap.objs.size:=let ⟨_,e⟩:=gO;lt e;have n1:i1≠s.heap.objs.size:=let ⟨_,e,_⟩:=Z.it1;lt e;have n2:i2≠s.heap.objs.size:=let ⟨_,e,_⟩:=Z.it2;lt e;have n3:l1≠s.heap.objs.size:=let ⟨_,e,_⟩:=Z.ls1;lt e;have n4:l2≠s.heap.objs.size:=let ⟨_,e,_⟩:=Z.ls2;lt e;refine ⟨anew.typeIs,F.args_dict_init_2 _ _,?_⟩;unfold O9.«dict.__init__»;refine LN ?_;unfold Builtin.Dict.selfAndRest;refine LN (wpAny_notOrdered_dict anew.typeIs ?_);show wpAny _ _ (pure (s.heap.objs.size,[Mw z])) _ _ _;refine Mb ?_;show wpAny _ _ (Rq "dict.__init__" s.heap.objs.size (.ref z) [] .none) _ _ _;unfold Rq;refine LN (R8 (T:="zip") ⟨_,gz1,rfl⟩ ?_);rw [if_pos (by decide)]
 refine LN (BY gz1 (by simpa using hh) fun h1 t1 k1=>?_)
 rw [if_pos (show (none:Option Value).isNone=true from rfl)];refine LN (SX ?_);refine LN (RD (k1 _ _ gz1) ?_);have up:∀ c o,s.heap.get? c=some o->h1.get? c=some o:=fun c o e=>k1 c o (LV _ e);have anew1:h1.DictOf knd s.heap.objs.size []:=by
  obtain ⟨o,es,ep,ho,rest⟩:=anew;exact ⟨o,es,ep,k1 _ _ ho,rest⟩
 have Z1:nA h1 z TI TO i1 i2 l1 l2 0 xs ys:=Z.keep nz nI nO n1 n2 n3 n4 (fun c o _ e=>up c o e) (let ⟨o,_,_,ho,_⟩:=anew1;⟨o,ho⟩);refine Mb ⟨PQ q9 _,Jf (by simpa using hh) D nz nI nO n1 n2 n3 n4 hl hz hkv kvs.length 0 0 _ rfl (Nd _) Z1 anew1 fun h' t' hd' hk'=>?_⟩
 rw [merged_nil_of_nodup kvs nd] at hd';exact ⟨rfl,h h' t' hd' fun c o c1 c2 c3 c4 e=>hk' c o (lt e) c1 c2 c3 c4 (up c o e)⟩
end
end PySem
namespace L2
open PySem PySem.Spec PyProof.Rows
theorem EC:∀ {ks:List Key} {ys:List V} {us:List Value},Vals ys us->KV (ks.zip ys) (ks.zip us)
 | [],_,_,_=>by
  rw [List.zip_nil_left,List.zip_nil_left];exact Paired.nil
 | _ :: _,_,_,.nil=>Paired.nil
 | _ :: _,_,_,.cons r rr=>Paired.cons ⟨rfl,r⟩ (EC rr)
def zU (K:LM) (vs:List V) (H:Hp) (Q:VK):Prop:=∃ (a b:Addr) (ks:List Key) (ys:List V),vs=[.ref a,.ref b]/\SqL K H a (ks.map kV)/\SqL K H b ys/\ks.length=ys.length/\ks.Nodup/\∀ d,H d=none->Q (.ref d) (upd H d (.dK (ks.zip ys)))
def AX (K:LM) (ta:TA):TE:=fun σ H Q=>ta σ H fun vs H1=>zU K vs H1 Q
theorem EO {K:LM} {ta:TA} {σ:St} {H:Hp} {Q:VK} (h:ta σ H fun vs H1=>zU K vs H1 Q):AX K ta σ H Q:=h
theorem CS {X:Cx} (K:LM) (hK:X.K=K) (hc:X.calm=true) {a b:Expr} {ta:TA} {p p2 pos pos2:Pos} (hg1:Gl X "dict") (hm1:X.mg "dict" = none) (hg2:Gl X "zip") (hm2:X.mg "zip" = none) (ha:PA X [a,b] ta) (hn:isStar a=false:=by rfl) (hn2:isStar b=false:=by rfl) :
  PE X (.Call (.Name "dict" p) [.Call (.Name "zip" p2) [a,b] [] pos2] [] pos) (AX K ta):=by
 subst hK;intro pins s σ H Q I h;refine Call_ (mO I hg1 hm1 PyProof.Rows.boot_dict (NA ?_ (bD rfl) (cg rfl)));rw [bD rfl];show wpAny _ _ (spliced ((false,eval (.Call (.Name "zip" p2) [a,b] [] pos2) X.env) :: backTo pos (MZ [] X.env))) _ _ s;refine Calls.spliced_cons ?_;refine Call_ (mO I hg2 hm2 boot_zip (NA (thn (ha pos2 pins s σ H _ I h) fun us s1 ⟨vs,H1,I1,r1,q1⟩=>?_) (bD hn) (cg (by simp [hn2]))))
 obtain ⟨l,l',ks,ys,e,hS,hS2,hlen,hnd,q⟩:=q1;subst e;cases r1 with
 | cons r rr =>
  cases rr with
  | cons r2 rr2 =>
   cases rr2;cases (show _=Mw l from r);cases (show _=Mw l' from r2);obtain ⟨its,rv,pl,hz1⟩:=I1.list hS;obtain ⟨its2,rv2,pl2,hz2⟩:=I1.list hS2;have e1:=rv.length;have e2:=rv2.length;rw [LO] at e1 hz1;have zl:(ks.zip its2).length=ks.length:=by rw [R9];omega
   have zv:(ks.zip ys).length=ks.length:=by rw [R9];omega
   have lt1:l<s1.heap.objs.size:=by obtain ⟨_,z,_⟩:=pl.isList;exact Me z
   have lt2:l' < s1.heap.objs.size:=by obtain ⟨_,z,_⟩:=pl2.isList;exact Me z
   refine call_zip_2 pl.isList pl2.isList fun h' gz gI gO g1 g2 gs hk=>?_;refine Calls.spliced_nil ?_;refine yR (knd:=dz X.prog X.w) (kvs:=ks.zip its2) (s:={ s1 with heap:=h' }) (I.ok.hd hc) (xy _ _ _ lt1 lt2) gz ⟨.inl ⟨gz,_,_,gO⟩,gI,g1,g2,pl.isList.at fun o e=>hk _ o e,pl2.isList.at fun o e=>hk _ o e⟩ (by rw [zl];simpa using e1) (by rw [zl];exact hz1) (fun i k v e=>?_) ?_ ⟨_,gO⟩ fun h2 t2 hd hk2=>?_
   ·obtain ⟨z1,z2⟩:=List.getElem?_zip_eq_some.mp e;obtain ⟨u,hu,ru⟩:=rv.get (show (ks.map kV)[i]?=some (kV k) by rw [Mf,z1];rfl)
    exact ⟨u,by simpa using hu,tW ru,by simpa using z2⟩
   ·rw [List.map_fst_zip (by omega)]
    exact hnd
   ·have gs':h'.objs.size=s1.heap.objs.size+5:=gs;have hp:s1.heap.objs.size<=h'.objs.size:=by rw [gs'];exact Pq _ _
    refine ⟨.ref h'.objs.size,upd H1 h'.objs.size (.dK (ks.zip ys)),I1.laid (a:=h'.objs.size) (o:=.dK (ks.zip ys)) (fun b o e=>?_) hp (zM (by rw [zv];exact hz1) (beq_eq_false_iff_ne.mpr (NV (Mp (Ml I1.big hp)))) (EC rv2) hd),rfl,q _ (I1.hok.fresh hp)⟩
    have lb:=Me e;exact hk2 b o (Mp (Ml lb (Pq _ _))) (Mp (Ml lb (Pq _ _))) (Mp lb) (Mp (Ml lb (Pq _ _))) (hk b o e)
def ee (R M:List Nat):List (Key×V):=(R.map nk).zip (aY M)
theorem oJ:∀ {F M:List Nat} {j f c:Nat},F.Nodup->F[j]?=some f->M[j]?=some c->cS (ee F M) (nk f)=some (.int (c:Int))
 | [],_,_,_,_,_,h,_=>by simp at h
 | _ :: _,[],_,_,_,_,_,h=>by simp at h
 | a :: F,q :: M,0,f,c,_,h1,h2=>by
  cases h1;cases h2;exact eC rfl
 | a :: F,q :: M,j+1,f,c,nd,h1,h2=>by
  have h1':F[j]?=some f:=h1;have h2':M[j]?=some c:=h2;obtain ⟨n1,n2⟩:=Nm.mp nd;have h3:¬ nk a=nk f:=fun z=>n1 (by rw [vF z];exact LR h1')
  show cS ((nk a,V.int (q:Int)) :: ee F M) (nk f)=_;rw [dJ h3];exact oJ n2 h1' h2'
theorem AA:∀ {R:List Nat},R.Nodup->(R.map nk).Nodup
 | [],_=>QU
 | a :: R,h=>by
  obtain ⟨h1,h2⟩:=Nm.mp h;refine Nm.mpr ⟨fun z=>?_,AA h2⟩;obtain ⟨b,hb,e⟩:=Mm.mp z;exact h1 (by rw [<- vF e];exact hb)
theorem Je (R:List Nat):(R.map nk).map kV=aY R:=by
 unfold aY;rw [OH];rfl
theorem LK {K:LM} {H:Hp} {Q:VK} {x y:V} {R M:List Nat} (hR:At K H x R) (hM:At K H y M) (e:R.length=M.length) (nd:R.Nodup) (q:∀ d,H d=none->Q (.ref d) (upd H d (.dK (ee R M)))):zU K [x,y] H Q:=by
 obtain ⟨p,rfl,h1⟩:=lZ hR;obtain ⟨p2,rfl,h2⟩:=lZ hM;exact ⟨p,p2,R.map nk,aY M,rfl,by rw [Je];exact h1,h2,by unfold aY;rw [LO,LO];exact e,AA nd,q⟩
def Er (Cs:Addr->Prop) (m:Str) (sp:Sp) (ta:TE) (t:TA):TE:=fun σ H Q=>ta σ H fun x H1=>∃ C a dx fs,Cs C/\x=.ref a/\H1 a=some (.ins C dx fs)/\fs.lookup m=none/\t σ H1 fun vs H2=>sp (x :: (vs++[])) H2 Q E0
section
variable {X:Cx} {k:Nat} {f:Addr} {Cs:Addr->Prop} {fd:M9} {ps:List Str} {sp:Sp} {m:Str} {pos apos:Pos} {e o:Expr} {es:List Expr} {ta:TE} {t:TA}
theorem z7 {pl:Sem Bool} (he:PE X o ta) (c:∀ C,Cs C->Cls X.K C/\Meth X.K C m f) (F:aI X.prog X.w X.K X.mg X.base CX0 k f fd ps sp) (hr:bT k X.A) (hb:Binds X.K fd ps []) (ha:PA X (e :: es) t)
  (hn:isStar e=false:=by rfl) (hall:es.all (fun e=>!isStar e)=true:=by rfl)
  (ht:eval (.Call (.Attribute o m apos) (e :: es) [] pos) X.env=(do
   let ov <- eval o X.env
   standAt apos.atName
   let (f,first) <- holding [ov] (getMethod ov m pl)
   callWith pos f first (backTo pos (MZ (e :: es) X.env)) (backToKw pos (keywordEach [] X.env))):=by rfl) :
  PE X (.Call (.Attribute o m apos) (e :: es) [] pos) (Er Cs m sp ta t):=by
 intro pins s σ H Q I h;refine R7 (pl:=pl) (thn (he pins s σ H _ I h) fun u s1 ⟨x,H1,I1,rx,C,a,dx,fs,hC,ex,ea,l,q⟩=>?_) ht;subst ex;obtain rfl:u=Mw a:=rx;refine CT I1 ea (c C hC).1 (c C hC).2 l ?_;refine OF (first:=[.ref a]) (h₀:=X.base) I.ok.mod.kin (c C hC).2.kp (thn (ha pos pins s1 σ H1 _ I1 q) fun us s2 ⟨vs,H2,I2,r,q2⟩=>⟨I2.kIn,?_⟩) (bD hn) (cg hall);exact A6 (us:=.ref a :: us) (vs:=.ref a :: vs) F hr hb .nil tJ I2 (.cons rfl r) q2
end
theorem Jp {σ:St} {H:Hp} {Q:VK} {Cs:Addr->Prop} {m:Str} {sp:Sp} {ta:TE} {t:TA} (h:ta σ H fun x H1=>∃ C a dx fs,Cs C/\x=.ref a/\H1 a=some (.ins C dx fs)/\fs.lookup m=none/\t σ H1 fun vs H2=>sp (x :: (vs++[])) H2 Q E0):Er Cs m sp ta t σ H Q:=h
section
variable {X:Cx}
end
end L2
namespace L2
open PySem
theorem uW {xs:Array Nat} {j:Nat} (hs:xs.toList.Pairwise (· < ·)):∀ (fuel lo hi:Nat),hi - lo<=fuel->lo<=hi->hi<=xs.size->(∀ (i y:Nat),i<lo->xs[i]?=some y->y<j)->(∀ (i y:Nat),hi<=i->xs[i]?=some y->j<=y) ->
  P7 xs j fuel lo hi<=xs.size/\(∀ (i y:Nat),i<P7 xs j fuel lo hi->xs[i]?=some y->y<j)/\∀ (i y:Nat),P7 xs j fuel lo hi<=i->xs[i]?=some y->j<=y
 | 0,lo,hi,h1,h2,h3,h4,h5=>by
  have e:lo=hi:=by omega
  subst e;exact ⟨h3,h4,h5⟩
 | fuel+1,lo,hi,h1,h2,h3,h4,h5=>by
  unfold P7
  by_cases c:lo<hi
  ·rw [if_pos c];have hm:(lo+hi) / 2<xs.size:=by omega
   have get:=M1 hm;have mono:∀ (a b x y:Nat),a<b->xs[a]?=some x->xs[b]?=some y->x<y:=fun a b x y hab ha hb=>by
    rw [<- Nr] at ha hb;obtain ⟨ha1,rfl⟩:=LQ.mp ha;obtain ⟨hb1,rfl⟩:=LQ.mp hb;exact Nv.mp hs a b ha1 hb1 hab
   dsimp only;have gd:xs.getD ((lo+hi) / 2) j=xs[(lo+hi) / 2]:=by simp [Array.getD,hm]
   rw [gd]
   by_cases d:xs[(lo+hi) / 2]<j
   ·rw [if_pos d];refine uW hs fuel _ _ (by omega) (by omega) h3 (fun i y hi' hy=>?_) h5
    rcases MH i ((lo+hi) / 2) with z|z
    ·exact Qf (mono _ _ _ _ z hy get) d
    ·have:i=(lo+hi) / 2:=by omega
     subst this;rw [get] at hy;cases hy;exact d
   ·rw [if_neg d];refine uW hs fuel _ _ (by omega) (by omega) (by omega) h4 fun i y hi' hy=>?_
    rcases MH ((lo+hi) / 2) i with z|z
    ·exact Na (RB d) (Oe (mono _ _ _ _ z get hy))
    ·have:i=(lo+hi) / 2:=by omega
     subst this;rw [get] at hy;cases hy;exact RB d
  ·rw [if_neg c];have e:lo=hi:=by omega
   subst e;exact ⟨h3,h4,h5⟩
theorem vN {xs:Array Nat} (hs:xs.toList.Pairwise (· < ·)) (j:Nat):M4 xs j<=xs.size/\(∀ (i y:Nat),i<M4 xs j->xs[i]?=some y->y<j)/\∀ (i y:Nat),M4 xs j<=i->xs[i]?=some y->j<=y :=
 uW hs _ _ _ (by omega) (Nd _) (Mi _) (fun i y h=>absurd h (Nat.not_lt_zero _)) fun i y h hy=>by
  have:=(NI.mp hy).1;omega
theorem G3 {xs:Array Nat} (hs:xs.toList.Pairwise (· < ·)) {j:Nat} (hj:j∉xs.toList):(OS xs (M4 xs j) j).toList.Pairwise (· < ·):=by
 obtain ⟨h1,h2,h3⟩:=vN hs j;rw [OT];have a:∀ y∈xs.toList.take (M4 xs j),y<j:=fun y hy=>by
  obtain ⟨i,hi⟩:=Ni hy;have hlt:i<M4 xs j:=by
   have:=(LQ.mp hi).1;rw [Mz] at this;omega
  rw [NS hlt,Nr] at hi;exact h2 i y hlt hi
 have b:∀ y∈xs.toList.drop (M4 xs j),j<y:=fun y hy=>by
  obtain ⟨i,hi⟩:=Ni hy;rw [List.getElem?_drop,Nr] at hi;have c:=h3 _ y (Pq _ i) hi;have:y≠j:=fun e=>hj (by rw [<- e];exact Pl hy)
  omega
 rw [Su];refine ⟨hs.sublist (List.take_sublist _ _),?_,fun x hx y hy=>?_⟩
 ·rw [NZ];exact ⟨b,hs.sublist (List.drop_sublist _ _)⟩
 ·rcases My.mp hy with rfl|hy
  ·exact a x hx
  ·exact Qf (a x hx) (b y hy)
theorem CW {t:N0} (hs:t.place.toList.Pairwise (· < ·)) (hd:t.dummies=#[]) {j:Nat} (hj:j∉t.place.toList):t.slot j=.empty:=by
 unfold SetTable.slot;have:(t.place[M4 t.place j]? == some j)=false:=by
  rw [beq_eq_false_iff_ne];intro e;rw [<- Nr] at e;exact hj (LR e)
 rw [hd];simp only [this];rfl
theorem E3 {t u:N0} (hm:t.mask=u.mask) (hp:t.place=u.place) (hd:t.dummies=u.dummies) (h:Int):t.freeSlot h=u.freeSlot h:=by
 have hs:∀ j,t.slot j=u.slot j:=fun j=>by unfold SetTable.slot;rw [hp,hd]
 have ha:∀ p,t.advance p=u.advance p:=fun p=>by unfold SetTable.advance;rw [hm]
 have go:∀ (f:Nat) (p:SetTable.Probe),P8 t (fun _=>h+1) h f p=P8 u (fun _=>h+1) h f p:=fun f=>by
  induction f with
  | zero=>intro p;rfl
  | succ f ih =>
   intro p;unfold P8;rw [hs,ha,ih];simp only [ha,ih]
 unfold SetTable.freeSlot Tg SH;rw [hm,go]
def subs:Nat->Nat->List (List Nat)
 | 0,_=>[[]]
 | n+1,k=>subs n (k+1)++(subs n (k+1)).map (k :: ·)
theorem qF:∀ (n k:Nat) (l:List Nat),l.Pairwise (· < ·)->(∀ x∈l,k<=x/\x<k+n)->l∈subs n k
 | 0,k,[],_,_=>by unfold subs;simp
 | 0,k,x :: l,_,h=>by have:=h x Mn;omega
 | n+1,k,l,hp,h=>by
  unfold subs;rw [MC];cases l with
  | nil=>exact .inl (qF n (k+1) [] hp fun x hx=>by cases hx)
  | cons x l =>
   rw [NZ] at hp;rcases MH k x with z|z
   ·refine .inl (qF n (k+1) _ (NZ.mpr hp) fun y hy=>?_);have:=h y hy;rcases My.mp hy with rfl|hy'
    ·omega
    ·have:=hp.1 y hy';omega
   ·have e:x=k:=by have:=h x Mn;omega
    subst e;refine .inr (Mm.mpr ⟨l,qF n (x+1) l hp.2 fun y hy=>?_,rfl⟩);have:=h y (Mh _ hy);have:=hp.1 y hy;omega
def Ad (l:List Nat):N0:={ mask:=7,place:=l.toArray,dummies:=#[],finger:=0,led:=true,moves:=0,plain:=true }
def Fu (l:List Nat) (h:Nat):Bool:=match (Ad l).freeSlot (h:Int) with
 | some (j,false)=>decide (j<8) && !(l.contains j)
 | _=>false
theorem GC:(subs 8 0).all (fun l=>decide (4<l.length) || (L4 23).all (Fu l))=true:=by trivial
theorem Lg {t:N0} (hm:t.mask=7) (hd:t.dummies=#[]) (hs:t.place.toList.Pairwise (· < ·)) (h8:∀ x∈t.place.toList,x<8) (h4:t.place.size<=4) {h:Nat} (h23:h<23):∃ j,t.freeSlot (h:Int)=some (j,false)/\j<8/\j∉t.place.toList:=by
 have m:=qF 8 0 _ hs fun x hx=>⟨Nd _,by have:=h8 x hx;omega⟩
 have a:=MA.mp GC _ m;rw [Bool.or_eq_true] at a;rcases a with a|a
 ·have:=of_decide_eq_true a;rw [MW] at this;omega
 ·have b:=MA.mp a h (Mj.mpr h23);unfold Fu at b;rw [<- E3 (t:=t) (u:=Ad t.place.toList) hm (by unfold Ad;simp) hd] at b
  split at b
  ·rename_i j e
   rw [NO] at b;refine ⟨j,e,of_decide_eq_true b.1,fun z=>?_⟩;have:=b.2;rw [Pg] at this;rw [List.contains_eq_mem,decide_eq_false_iff_not] at this;exact this z
  ·cases b
theorem AG {h:Nat} (h23:h<23):PR (h:Int)=h:=by
 unfold PR;have h64:(23:Int)<=2 ^ 64:=by decide
 rw [Int.emod_eq_of_lt (by omega) (by omega)]
 rfl
theorem IF {t:N0} (hm:23<=t.mask+1) (hd:t.dummies=#[]) (hs:t.place.toList.Pairwise (· < ·)) {h:Nat} (h23:h<23) (hh:h∉t.place.toList):t.freeSlot (h:Int)=some (h,false):=by
 have e:=CW hs hd hh;unfold SetTable.freeSlot Tg SH;rw [AG h23,Nc (show h<t.mask+1 by omega)]
 have f:10 * Qe t.mask=(10 * t.mask+149)+1:=by unfold Qe;omega
 rw [f];unfold P8;dsimp only;rw [e];rfl
theorem GP {mask:Nat} {owner:Array (Option Nat)} {h:Nat} (hz:owner.size=mask+1) (hm:h<mask+1) (ho:owner.getD h none=none) (f p:Nat):O6 mask owner (f+1) h p=some h:=by
 unfold O6;have e1:owner.getD h (some 0)=none:=by
  have hl:h<owner.size:=by omega
  simp only [Array.getD,hl,dite_true] at ho ⊢;exact ho
 have e2:∃ k,Sa mask h+1 - h=k+1:=⟨Sa mask h - h,by unfold Sa;split <;> omega⟩
 obtain ⟨k,e2⟩:=e2;rw [e2,List.range_succ_eq_map,OR];simp only [OJ,e1,Option.isNone_none]
def at? (l:List Nat) (j:Nat):Option Nat:=if j∈l then some (l.idxOf j) else none
def w9 (mask:Nat) (acc:Option (Array (Option Nat)×Nat)) (h:Int):Option (Array (Option Nat)×Nat):=do
 let (owner,k) <- acc
 let j <- O6 mask owner (Qe mask) (PR h % (mask+1)) (PR h)
 pure (owner.setIfInBounds j (some k),k+1)
theorem Ca {mask:Nat}:∀ (ks done:List Nat) (owner:Array (Option Nat)),owner.size=mask+1->(∀ k∈ks,k<23)->23<=mask+1->(done++ks).Nodup->(∀ j,j<mask+1->owner.getD j none=at? done j) ->
  ∃ owner',(ks.map fun (k:Nat)=>(k:Int)).foldl (w9 mask) (some (owner,done.length))=some (owner',(done++ks).length)/\owner'.size=mask+1/\∀ j,j<mask+1->owner'.getD j none=at? (done++ks) j
 | [],done,owner,hz,_,_,_,ho=>⟨owner,by simp,hz,by simpa using ho⟩
 | k :: ks,done,owner,hz,hk,hm,nd,ho=>by
  have k23:=hk k Mn;have kd:k∉done:=fun z=>by
   rw [P6] at nd;exact nd.2.2 k z k Mn rfl
  have o1:owner.getD k none=none:=by rw [ho k (by omega)];unfold at?;rw [if_neg kd]
  have e:done++k :: ks=(done++[k])++ks:=by simp
  rw [e] at nd ⊢;have:=Ca ks (done++[k]) (owner.setIfInBounds k (some done.length)) (by rw [Array.size_setIfInBounds];exact hz) (fun x hx=>hk x (Mh _ hx)) hm nd fun j hj=>by
   rw [N1,Array.getElem?_setIfInBounds]
   by_cases c:k=j
   ·subst c;rw [if_pos rfl,if_pos (by omega)]
    unfold at?;rw [if_pos (by simp),P9,if_neg kd]
    simp
   ·rw [if_neg c,<- N1,ho j hj];unfold at?;have mm:(j∈done++[k])↔j∈done:=by
     rw [MC,Md];exact ⟨fun z=>z.elim id fun z=>absurd z.symm c,.inl⟩
    by_cases d:j∈done
    ·rw [if_pos d,if_pos (mm.mpr d),P9,if_pos d]
    ·rw [if_neg d,if_neg fun z=>d (mm.mp z)]
  obtain ⟨owner',w1,w2,w3⟩:=this;refine ⟨owner',?_,w2,w3⟩;rw [MO,List.foldl_cons];have st:w9 mask (some (owner,done.length)) (k:Int)=some (owner.setIfInBounds k (some done.length),done.length+1):=by
   show (O6 mask owner (Qe mask) (PR (k:Int) % (mask+1)) (PR (k:Int))).bind _=_;rw [AG k23,Nc (show k<mask+1 by omega),show Qe mask=(mask+14)+1 from rfl,GP hz (by omega) o1]
   rfl
  rw [st];rw [Mo] at w1;exact w1
def bX (mask:Nat) (ks:List Nat):List Nat:=(L4 (mask+1)).filter fun j=>decide (j∈ks)
theorem yg {mask:Nat} {ks:List Nat} (h:∀ k∈ks,k<mask+1) {j:Nat}:j∈bX mask ks↔j∈ks:=by
 unfold bX;rw [Nz,Mj,decide_eq_true_iff];exact ⟨fun z=>z.2,fun z=>⟨h j z,z⟩⟩
theorem wq {mask:Nat} {ks:List Nat} (h:∀ k∈ks,k<mask+1) (nd:ks.Nodup):(bX mask ks).Perm ks :=
 (QD (O5.filter _) nd).mpr fun _=>yg h
theorem AI {α β:Type} {f g:α->Option β}:∀ {l:List α},(∀ x∈l,f x=g x)->l.filterMap f=l.filterMap g
 | [],_=>rfl
 | x :: l,h=>by rw [N7,N7,h x Mn,AI fun y hy=>h y (Mh _ hy)]
theorem GQ {mask finger moves:Nat} {led plain:Bool} {ks:List Nat} (h23:∀ k∈ks,k<23) (hm:23<=mask+1) (nd:ks.Nodup) :
  SetTable.laid mask finger moves led plain (ks.map fun (k:Nat)=>(k:Int)).toArray=some ({ mask,place:=(bX mask ks).toArray,dummies:=#[],finger,led,moves,plain },((bX mask ks).map fun j=>ks.idxOf j).toArray):=by
 obtain ⟨owner,h1,h2,h3⟩:=Ca ks [] (Array.replicate (mask+1) none) (by simp) h23 hm (by simpa using nd) fun j hj=>by
  unfold at?;simp [N1,hj]
 have lc:S0 mask (ks.map fun (k:Nat)=>(k:Int)).toArray=some owner:=by
  unfold S0;rw [List.foldl_toArray];have:(ks.map fun (k:Nat)=>(k:Int)).foldl (w9 mask) (some (Array.replicate (mask+1) none,0))=some (owner,([]++ks).length):=h1;exact congrArg (Option.map (·.1)) this
 unfold SetTable.laid;rw [lc];have lv:((L4 (mask+1)).filterMap fun j=>(owner.getD j none).map (j,·))=(bX mask ks).map fun j=>(j,ks.idxOf j):=by
  unfold bX;rw [<- List.filterMap_eq_map,List.filterMap_filter];refine AI fun j hj=>?_;rw [h3 j (Mj.mp hj)];unfold at?;simp only [List.nil_append,decide_eq_true_eq]
  by_cases d:j∈ks
  ·rw [if_pos d,if_pos d];rfl
  ·rw [if_neg d,if_neg d];rfl
 show some _=some _;rw [lv,OH,OH]
 congr 2
 simp [Function.comp_def]
structure Good (led:Bool) (es:Array (Int×Value)) (t:N0) (ks:List Nat):Prop where
 plain:t.plain=true
 led:t.led=led
 dum:t.dummies=#[]
 size:t.place.size=es.size
 rise:t.place.toList.Pairwise (· < ·)
 keys:es.toList.map (·.1)=ks.map fun (k:Nat)=>(k:Int)
 nd:ks.Nodup
 lt:∀ k∈ks,k<23
 st:(t.mask=7/\es.size<=4/\∀ j∈t.place.toList,j<8)\/((t.mask=31/\es.size<=18\/t.mask=127)/\t.place.toList=ks)
theorem Good.len {led:Bool} {es:Array (Int×Value)} {t:N0} {ks:List Nat} (g:Good led es t ks):es.size=ks.length:=by
 have:=congrArg Rl g.keys;rw [LO,LO,MW] at this;exact this
theorem my {ks:List Nat} (nd:ks.Nodup) (h:∀ k∈ks,k<23):ks.length<=23:=by
 have e:=(wq (mask:=22) h nd).length_eq;have:(bX 22 ks).length<=23:=by
  unfold bX;exact Na (OK _ _) (by simp)
 omega
theorem BC {es:Array (Int×Value)} {ks:List Nat} (h:es.toList.map (·.1)=ks.map fun (k:Nat)=>(k:Int)) (p k:Nat) (x:Value):(OS es p ((k:Int),x)).toList.map (·.1)=(ks.take p++k :: ks.drop p).map fun (k:Nat)=>(k:Int):=by
 rw [OT,MQ,MO,List.map_take,List.map_drop,h,MQ,MO,List.map_take,List.map_drop]
theorem Bs {ks:List Nat} (p k:Nat):(ks.take p++k :: ks.drop p).Perm (k :: ks):=by
 have:=RF (a:=k) (l₁:=ks.take p) (l₂:=ks.drop p);rw [Qg] at this;exact this
theorem Jg {ks:List Nat} (nd:ks.Nodup):ks.map (fun j=>ks.idxOf j)=L4 ks.length:=by
 refine Q6 fun i=>?_;rw [Mf];rcases MH i ks.length with h|h
 ·rw [LP h,O0 h];show some (ks.idxOf ks[i])=_;rw [nd.idxOf_getElem i h]
 ·rw [ND h,ND (by rw [MU];exact h)]
  rfl
theorem vH {led:Bool} {es:Array (Int×Value)} {t:N0} {ks:List Nat} {wanted M:Nat} (hp:t.plain=true) (hl:t.led=led) (hk:es.toList.map (·.1)=ks.map fun (k:Nat)=>(k:Int)) (nd:ks.Nodup) (lt:∀ k∈ks,k<23)
  (hM:SetTable.sizeAbove wanted - 1=M) (h2:M=31/\es.size<=18\/M=127):∃ es2 t2 ks2,relayAll t es wanted=(es2,t2,false)/\Good led es2 t2 ks2/\ks2.Perm ks:=by
 have n23:=my nd lt;have m23:23<=M+1:=by omega
 have lt':∀ k∈ks,k<M+1:=fun k hk=>by have:=lt k hk;omega
 have pm:=wq lt' nd;have el:es.size=ks.length:=by
  have:=congrArg Rl hk;rw [LO,LO,MW] at this;exact this
 have ea:es.map (·.1)=(ks.map fun (k:Nat)=>(k:Int)).toArray:=by
  rw [<- hk];apply Array.toList_inj.mp;simp
 have nk:∀ (i:Nat) (e:Int×Value),es[i]?=some e->∃ k,ks[i]?=some k/\e.1=(k:Int):=fun i e he=>by
  have:=congrArg (fun l=>l[i]?) hk;rw [Mf,Mf,Nr,he] at this;cases q:ks[i]? with
  | none=>rw [q] at this;cases this
  | some k=>rw [q] at this;exact ⟨k,rfl,ML this⟩
 have key:∀ (l:List Nat),(∀ j∈l,j∈ks)->((l.map fun j=>ks.idxOf j).filterMap (es[·]?)).map (·.1)=l.map fun (k:Nat)=>(k:Int):=fun l=>by
  induction l with
  | nil=>intro _;rfl
  | cons j l ih =>
   intro h;have hj:=h j Mn;have il:ks.idxOf j<es.size:=by rw [el];exact MI hj
   have he:=M1 il;obtain ⟨k,hk1,hk2⟩:=nk _ _ he;have:k=j:=by
    rw [LP (MI hj),NY] at hk1;exact (ML hk1).symm
   subst this;rw [MO,N7,he];show _ :: _=_ :: _;dsimp only;rw [hk2,ih fun x hx=>h x (Mh _ hx)]
 have k2:=key (bX M ks) fun j hj=>(yg lt').mp hj;have l2:((((bX M ks).map fun j=>ks.idxOf j).toArray).filterMap (es[·]?)).toList=(((bX M ks).map fun j=>ks.idxOf j).filterMap (es[·]?)):=by simp
 have z2:((((bX M ks).map fun j=>ks.idxOf j).toArray).filterMap (es[·]?)).size=(bX M ks).length:=by
  rw [<- MW,l2];have:=congrArg Rl k2
  rwa [LO,LO] at this
 have c1:coversAll ((bX M ks).map fun j=>ks.idxOf j).toArray es.size=true:=by
  unfold coversAll;rw [List.isPerm_iff,el,<- Jg nd];exact pm.map _
 refine ⟨(((bX M ks).map fun j=>ks.idxOf j).toArray).filterMap (es[·]?),{ mask:=M,place:=(bX M ks).toArray,dummies:=#[],finger:=t.finger,led:=t.led,moves:=t.movedTo M,plain:=t.plain },bX M ks,?_,⟨hp,hl,rfl,?_,?_,?_,?_,?_,?_⟩,pm⟩
 ·unfold relayAll SetTable.relaid;rw [hM,ea,GQ lt m23 nd];dsimp only;rw [c1];have f:Qp { mask:=M,place:=(bX M ks).toArray,dummies:=#[],finger:=t.finger,led:=t.led,moves:=t.movedTo M,plain:=t.plain } ((((bX M ks).map fun j=>ks.idxOf j).toArray).filterMap (es[·]?)).size=true:=by
   unfold Qp Rr;have:=pm.length_eq;rw [z2];simp;omega
  rw [f];rfl
 ·show (bX M ks).toArray.size=_;rw [z2];simp
 ·show (bX M ks).toArray.toList.Pairwise (· < ·);exact Sv _ RN
 ·rw [l2];exact k2
 ·exact pm.nodup_iff.mpr nd
 ·exact fun k hk=>lt k (pm.mem_iff.mp hk)
 ·refine .inr ⟨?_,rfl⟩;rw [z2,pm.length_eq,<- el];exact h2
theorem Good.fresh (led:Bool):Good led #[] (.fresh 0 0 led) []:=⟨rfl,rfl,rfl,rfl,Q5,rfl,QU,(fun k hk=>by cases hk),.inl ⟨rfl,Nd _,fun j hj=>by cases hj⟩⟩
theorem uE {α:Type} (xs:Array α) (p:Nat) (x:α):(OS xs p x).size=xs.size+1:=by
 have:=(SetTable.insertAt_perm xs p x).length_eq;rw [MW,MW,Array.size_push] at this;exact this
theorem Good.add {led:Bool} {es:Array (Int×Value)} {t:N0} {ks:List Nat} (g:Good led es t ks) {k:Nat} (hk:k<23) (hn:k∉ks) (x:Value) :
  ∃ es1 t1,layNew t es (k:Int) x=(es1,t1,false,false)/\t1.plain=true/\((t1.tooFull=false/\∃ ks1,Good led es1 t1 ks1/\ks1.Perm (k :: ks))\/(t1.tooFull=true/\∃ es2 t2 ks2,relayAll t1 es1 (QV es1.size)=(es2,t2,false)/\Good led es2 t2 ks2/\ks2.Perm (k :: ks))):=by
 have el:=g.len;have nd1:(k :: ks).Nodup:=Nm.mpr ⟨hn,g.nd⟩;have lt1:∀ y∈k :: ks,y<23:=fun y hy=>by
  rcases My.mp hy with rfl|hy
  ·exact hk
  ·exact g.lt y hy
 have l23:=my nd1 lt1;rw [MX] at l23;obtain ⟨j,hf,hj,hb⟩:∃ j,t.freeSlot (k:Int)=some (j,false)/\j∉t.place.toList/\((t.mask=7/\es.size<=4/\(∀ y∈t.place.toList,y<8)/\j<8)\/((t.mask=31/\es.size<=18\/t.mask=127)/\t.place.toList=ks/\j=k)):=by
  rcases g.st with ⟨h1,h2,h3⟩|⟨h1,h2⟩
  ·obtain ⟨j,a,b,c⟩:=Lg h1 g.dum g.rise h3 (by rw [g.size];exact h2) hk
   exact ⟨j,a,c,.inl ⟨h1,h2,h3,b⟩⟩
  ·have kp:k∉t.place.toList:=by rw [h2];exact hn
   exact ⟨k,IF (by omega) g.dum g.rise hk kp,kp,.inr ⟨h1,h2,rfl⟩⟩
 have hput:t.put j=({ t with place:=OS t.place (M4 t.place j) j,dummies:=#[] },M4 t.place j):=by
  unfold SetTable.put;rw [g.dum];rfl
 have rise1:=G3 g.rise hj;have z1:=uE t.place (M4 t.place j) j;have z2:=uE es (M4 t.place j) ((k:Int),x);have keys1:=BC g.keys (M4 t.place j) k x;have pm:=Bs (ks:=ks) (M4 t.place j) k;generalize hP:OS t.place (M4 t.place j) j=pl at hput rise1 z1;generalize hE:OS es (M4 t.place j) ((k:Int),x)=es1 at z2 keys1;have fits:Qp { t with place:=pl,dummies:=#[] } es1.size=true:=by
  unfold Qp Rr;rw [NO];refine ⟨by simp [z1,z2,g.size],decide_eq_true ?_⟩
  show pl.size+0<=t.mask;rw [z1,g.size];omega
 have nd2:=pm.nodup_iff.mpr nd1;have lt2:∀ y∈ks.take (M4 t.place j)++k :: ks.drop (M4 t.place j),y<23:=fun y hy=>lt1 y (pm.mem_iff.mp hy);refine ⟨es1,{ t with place:=pl,dummies:=#[] },?_,g.plain,?_⟩
 ·unfold layNew;rw [hf];dsimp only;rw [hput];dsimp only;rw [hE];unfold SetTable.orStandIn;rw [fits];rfl
 ·have tf:SetTable.tooFull { t with place:=pl,dummies:=#[] }=decide ((es.size+1) * 5 >= t.mask * 3):=by
   unfold SetTable.tooFull Rr;show decide ((pl.size+0) * 5 >= t.mask * 3)=_;rw [z1,g.size]
  rw [tf]
  by_cases c:(es.size+1) * 5 >= t.mask * 3
  ·refine .inr ⟨decide_eq_true c,?_⟩;rcases hb with ⟨b1,b2,b3,b4⟩|⟨b1,b2,b3⟩
   ·have e5:es1.size=5:=by omega
    obtain ⟨es2,t2,ks2,w1,w2,w3⟩:=vH (led:=led) (t:={ t with place:=pl,dummies:=#[] }) (wanted:=QV es1.size) (M:=31) g.plain g.led keys1 nd2 lt2 (by rw [e5];decide) (.inl ⟨rfl,by omega⟩)
    exact ⟨es2,t2,ks2,w1,w2,w3.trans pm⟩
   ·rcases b1 with ⟨b1,b4⟩|b1
    ·have e5:es1.size=19:=by omega
     obtain ⟨es2,t2,ks2,w1,w2,w3⟩:=vH (led:=led) (t:={ t with place:=pl,dummies:=#[] }) (wanted:=QV es1.size) (M:=127) g.plain g.led keys1 nd2 lt2 (by rw [e5];decide) (.inr rfl)
     exact ⟨es2,t2,ks2,w1,w2,w3.trans pm⟩
    ·omega
  ·refine .inl ⟨decide_eq_false c,_,⟨g.plain,g.led,rfl,?_,rise1,keys1,nd2,lt2,?_⟩,pm⟩
   ·show pl.size=_;rw [z1,z2,g.size]
   ·rcases hb with ⟨b1,b2,b3,b4⟩|⟨b1,b2,b3⟩
    ·refine .inl ⟨b1,by omega,fun y hy=>?_⟩
     rw [<- hP,OT] at hy;have hy':y∈t.place.toList\/y=j:=by
      rcases MC.mp hy with z|z
      ·exact .inl (Pm z)
      ·rcases My.mp z with z|z
       ·exact .inr z
       ·exact .inl (Pl z)
     rcases hy' with z|rfl
     ·exact b3 y z
     ·exact b4
    ·refine .inr ⟨?_,?_⟩
     ·show t.mask=31/\es1.size<=18\/t.mask=127;rcases b1 with ⟨b1,b4⟩|b1
      ·exact .inl ⟨b1,by omega⟩
      ·exact .inr b1
     ·show pl.toList=_;rw [<- hP,OT,b2,b3]
end L2
namespace L2
open PySem PySem.Spec PyProof.Rows
def bt (w:World):Bool:=w.params.followText "set-order"
theorem zX {k:Nat} (h:k<23):hashInt (k:Int)=(k:Int):=by
 have:∀ i:_root_.Fin 23,hashInt ((i.val:Nat):Int)=((i.val:Nat):Int):=by trivial
 exact this ⟨k,h⟩
def Nums (es:Array (Int×Value)):Prop:=∀ e∈es.toList,∃ (k:Nat) (tk:Tok),k<23/\e=((k:Int),O3 (k:Int) tk)
theorem Nums.elems {prog:Ms} {w:World} {es:Array (Int×Value)} (h:Nums es):ElemsOf (intKind prog w) es.toList:=fun e he=>by
 obtain ⟨k,tk,hk,rfl⟩:=h e he;exact ⟨⟨(k:Int),Sn _ _ _ _,(zX hk).symm⟩,rfl⟩
theorem Nums.perm {es es':Array (Int×Value)} (h:Nums es) (p:es'.toList.Perm es.toList):Nums es':=fun e he=>h e (p.mem_iff.mp he)
theorem Good.fits {led:Bool} {es:Array (Int×Value)} {t:N0} {ks:List Nat} (g:Good led es t ks):t.fits es.size=true:=by
 unfold Qp Rr;have l:=g.len;have n:=my g.nd g.lt;have z:=g.size;rw [g.dum,NO];refine ⟨by simp [z],decide_eq_true ?_⟩
 show t.place.size+0<=t.mask;rcases g.st with ⟨h1,h2,_⟩|⟨h1,_⟩ <;> omega
def gD (h:Heap) (a:Addr) (led:Bool) (ks:List Nat):Prop:=∃ o es ep t,h.get? a=some o/\o.ExactSet/\o.data=.set es ep t/\Nums es/\Good led es t ks
section
variable {prog:Ms} {w:World} {A:MY} {E:Value->LU->Prop} {s:LU}
theorem Ga {a:Addr} {led:Bool} {ks:List Nat} {k:Nat} {tk:Tok} {Q:Bool->LU->Prop} (hk:k<23) (hS:gD s.heap a led ks)
  (h:∀ b h' ks',OW a s.heap h'->gD h' a led ks'->(∀ x,x∈ks'↔x∈ks\/x=k)->Q b { s with heap:=h' }) :
  wpAny (model prog w) A (setAddHashed a (.int (k:Int) tk) (hashInt (k:Int))) Q E s:=by
 obtain ⟨o,es,ep,t,ho,hex,hd,hnum,g⟩:=hS;have l:=g.len;have n:=my g.nd g.lt;have hb:es.size<scanBound:=by show es.size<4096;omega
 have hel:=hnum.elems (prog:=prog) (w:=w);have hmem:∀ j,j∈ks↔∃ e∈es.toList,(intKind prog w).is (j:Int) e.2=true:=fun j=>by
  have kk:=g.keys;constructor
  ·intro hj;have:(j:Int)∈es.toList.map (·.1):=by rw [kk];exact Mm.mpr ⟨j,hj,rfl⟩
   obtain ⟨e,he,e1⟩:=Mm.mp this;obtain ⟨k',tk',_,rfl⟩:=hnum e he;refine ⟨_,he,?_⟩;dsimp only at e1 ⊢;rw [e1];exact Sn _ _ _ _
  ·rintro ⟨e,he,q⟩;obtain ⟨k',tk',_,rfl⟩:=hnum e he;have e2:(j:Int)=(k':Int):=(intKind prog w).inj _ _ _ q (Sn _ _ _ _);have:(j:Int)∈ks.map fun (k:Nat)=>(k:Int):=by rw [<- kk,e2];exact Mm.mpr ⟨_,he,rfl⟩
   obtain ⟨j',hj',e3⟩:=Mm.mp this;have:j'=j:=by omega
   exact this ▸ hj'
 unfold setAddHashed setAddHashedIn;refine Nl (LN (OU ho hd g.fits ?_));dsimp only;rw [byScan_of rfl hb hel,if_pos rfl];unfold setAddByScan;refine LN (LN (SX (LN (wpAny_setScan_of (knd:=intKind prog w) (Sn _ _ _ _) ho hd g.fits hel ?_))));cases hr:List.findIdx? (fun e=>(intKind prog w).is (k:Int) e.2) es.toList with
 | some j =>
  obtain ⟨hj,q,_⟩:=List.findIdx?_eq_some_iff_getElem.mp hr;have hin:k∈ks:=(hmem k).mpr ⟨_,Nu hj,q⟩;dsimp only;refine Mb (Mb ?_);exact h false s.heap ks (Heap.SameBut.refl a s.heap) ⟨o,es,ep,t,ho,hex,hd,hnum,g⟩ fun x=>⟨.inl,fun z=>z.elim id fun z=>z ▸ hin⟩
 | none =>
  have hn:k∉ks:=fun z=>by
   obtain ⟨e,he,q⟩:=(hmem k).mp z;have:=List.findIdx?_eq_none_iff.mp hr e he;rw [q] at this;cases this
  dsimp only;have lp:=layNew_perm t es (k:Int) (.int (k:Int) tk);obtain ⟨es1,t1,hl,hp1,alt⟩:=g.add hk hn (.int (k:Int) tk);rw [zX hk,hl];rw [hl,Array.toList_push] at lp;dsimp only at lp;have num1:Nums es1:=fun e he=>by
   rcases MC.mp (lp.mem_iff.mp he) with z|z
   ·exact hnum e z
   ·exact ⟨k,tk,hk,Md.mp z⟩
  dsimp only;refine LN (Mb ?_);rw [hp1,if_pos rfl];refine LN ?_;rw [hashByValue_scannable 8 rfl];refine Mb ?_;rw [if_pos (show plainKind (O3 (k:Int) tk)=true from rfl)];have s1:es1.size<scanBound:=by
   have:=lp.length_eq;rw [MW,Mo,MW,Nq] at this;show es1.size<4096;omega
  have o1:(s.heap.update a (Q9 es1 t1)).get? a=some { o with data:=.set es1 (ep+1) t1 }:=by
   have:=NC (Q9 es1 t1) ho (by rw [Te es1 t1 hd];rfl)
   rw [Te es1 t1 hd] at this;exact this
  have b1:=SJ s.heap a (Q9 es1 t1);have mm:∀ {ks':List Nat},ks'.Perm (k :: ks)->∀ x,x∈ks'↔x∈ks\/x=k:=fun p x=>by rw [p.mem_iff,My];exact Or.comm
  refine LN (wpAny_storeSet_of ho hd ?_ (fits_of_scanBound s1));rcases alt with ⟨tf,ks1,g1,p1⟩|⟨tf,es2,t2,ks2,hrl,g2,p2⟩
  ·rw [tf];refine Mb (Mb ?_);exact h true _ ks1 b1 ⟨_,es1,ep+1,t1,o1,hex,rfl,num1,g1⟩ (mm p1)
  ·have rp:=relayAll_perm t1 es1 (QV es1.size);rw [tf,hrl];rw [hrl] at rp;dsimp only at rp;have s2:es2.size<scanBound:=by
    have:=rp.length_eq;rw [MW,MW] at this;show es2.size<4096;have:es1.size<4096:=s1;omega
   refine LN (Mb (LN (wpAny_storeSet_of o1 rfl ?_ (fits_of_scanBound s2))));have o2:((s.heap.update a (Q9 es1 t1)).update a (Q9 es2 t2)).get? a=some { o with data:=.set es2 (ep+1+1) t2 }:=by
    have:=NC (Q9 es2 t2) o1 (by rw [Te es2 t2 rfl];rfl)
    rw [Te es2 t2 rfl] at this;exact this
   refine Mb (Mb ?_);exact h true _ ks2 (b1.trans (SJ _ a _)) ⟨_,es2,ep+1+1,t2,o2,hex,rfl,num1.perm rp,g2⟩ (mm p2)
theorem Ef {I:Addr} {fp wr:List Addr} {G:Array Qc->Array Qc->Prop} {n:Nat} {P:Nat->Value->Prop} {St:Nat->LU->Prop} {R:QZ->LU->Prop} (W:WalksS prog w A.in1 I fp wr G n P St) (a:Addr) (ha:a∉fp) {led:Bool}
  (val:Nat->Nat) (hval:∀ i v,P i v->∃ t,v=.int (val i:Int) t) (h23:∀ i,i<n->val i<23) :
  ∀ (k i:Nat) (s:LU) (ks:List Nat),n - i=k->i<=n->St i s->gD s.heap a led ks->(∀ x,x∈ks↔∃ j,j<i/\val j=x) ->
   (∀ s' ks',Moved (a :: wr) G s s'->gD s'.heap a led ks'->(∀ x,x∈ks'↔∃ j,j<n/\val j=x)->R (.ok (.ret .none)) s') ->
   codeAny (model prog w) A (.builtin "set.update.loop" ⟨[.ref a,.ref I],[]⟩) R s:=by
 have haw:a∉wr:=fun z=>ha (W.sub _ z);have up:∀ b∈wr,b∈a :: wr:=fun b hb=>Mh _ hb;have keepS:∀ {s s':LU} {ks:List Nat},Moved wr G s s'->gD s.heap a led ks->gD s'.heap a led ks:=fun hm ⟨o,es,ep,t,ho,r⟩=>⟨o,es,ep,t,hm.heap a _ haw ho,r⟩;intro k
 induction k with
 | zero =>
  intro i s ks hk hi hst hS hm hR;have e:i=n:=by omega
  subst e;refine Of Rt ?_;rw [N3 PU _];show wpAny _ A.in1 (pyNext (.ref I) >>= _) _ _ s;refine LN (W.done s _ _ hst fun s' mv=>?_);exact Mb (hR s' ks (mv.mono up) (keepS mv hS) hm)
 | succ k ih =>
  intro i s ks hk hi hst hS hm hR;have il:i<n:=by omega
  refine Of Rt ?_;rw [N3 PU _];show wpAny _ A.in1 (pyNext (.ref I) >>= _) _ _ s;refine LN (W.item i s _ _ il hst fun v s' hP hst' mv=>?_);obtain ⟨tk,rfl⟩:=hval i v hP;show wpAny _ A.in1 (holding [O3 (val i:Int) tk] (setAdd a (.int (val i:Int) tk)) >>= _) _ _ s';refine LN (Nl ?_);unfold setAdd;refine Nl (LN ((intKind prog w).pyHash (k:=(val i:Int)) (Sn _ _ _ _) ?_));refine Ga (s:={ s' with toks:=s'.toks+1 }) (h23 i il) (show gD s'.heap a led ks from keepS mv hS) fun b h' ks' sb hS' hm'=>?_;refine Mb ⟨PQ PU _,ih (i+1) _ ks' (by omega) il (W.frame _ s' _ _ hst' (OL _) fun b hb o e=>?_) hS' (fun x=>?_) fun s'' ks'' mv' hS'' hm''=>?_⟩
  ·rw [sb.2 b (fun z=>ha (z ▸ hb))];exact e
  ·rw [hm' x,hm x];constructor
   ·rintro (⟨j,hj,e⟩|rfl)
    ·exact ⟨j,by omega,e⟩
    ·exact ⟨i,by omega,rfl⟩
   ·rintro ⟨j,hj,e⟩;rcases MH j i with z|z
    ·exact .inl ⟨j,z,e⟩
    ·have:j=i:=by omega
     exact .inr (by rw [<- e,this])
  ·refine hR s'' ks'' (Moved.trans W.gtrans ((mv.mono up).then_heap (OL _) fun b o hb e=>?_) mv') hS'' hm'';rw [sb.2 b (fun z=>hb (z ▸ Mn))];exact e
abbrev mT (w:World):Obj:={ cls:=.type "set",dict:=none,data:=.set #[] 0 (.fresh 0 0 (!bt w)) }
theorem Ej (x:Value) {Q:Value->LU->Prop} (h:Q (.ref s.heap.objs.size) { s with heap:=s.heap.push (mT w) }) :
  codeAny (model prog w) A (.call (.builtin "set.__new__") ⟨[.type "set",x],[]⟩) (wants Q E) s:=by
 refine Sb ?_;show wpAny _ A.in1 (do checkBuiltinCall "set.__new__" ⟨[.type "set",x],[]⟩;again (.builtin "set.__new__" ⟨[.type "set",x],[]⟩)) _ _ s;refine LN (wpAny_of_eq (F.newCall_set_1 x) (Mb ⟨PQ F.plain_set_new _,Of F.entry_set_new ?_⟩));rw [N3 F.plain_set_new _];unfold O9.«set.__new__» Builtin.Frozenset.newClass;have hsub:=sub_set_self;obtain ⟨hp,g,d,tk,os⟩:=s;dsimp only
 wp_walk
 refine RG (Mb ?_);dsimp only;simp only [newObj];refine LN (Td (Mb ?_));exact Mb h
set_option maxHeartbeats 3200000 in
theorem C1 {l:Addr} {items:Array Value} {ns:List Nat} {Q:Value->LU->Prop} (hh:A.handled=none) (hl:s.heap.IsList l items) (hi:Rn items.toList (ns.map fun (n:Nat)=>(n:Int))) (h23:∀ x∈ns,x<23)
  (h:∀ (h':Heap) (tk:Nat) (ks:List Nat),gD h' s.heap.objs.size (!bt w) ks->(∀ x,x∈ks↔x∈ns)->(∀ b o,b<s.heap.objs.size->s.heap.get? b=some o->h'.get? b=some o)->Q (.ref s.heap.objs.size) { s with heap:=h',toks:=tk }) :
  wpAny (model prog w) A (call (.type "set") [.ref l]) Q E s:=by
 have hz:items.size=ns.length:=by
  have:=hi.length;rw [MW,LO] at this;exact this
 obtain ⟨c,tl,hmro⟩:=Pb.mro;have hmade:=Pb.made;have hsub:=Pb.sub;refine Q1 (Sb ?_);show wpAny _ _ (callAny (.type "set") _) _ _ _;refine Mb ⟨PL _ (by trivial),Of F.entry_type_call ?_⟩
 rw [Around.under_plain (weight_type_call_type "set" [.ref l] []) rfl];have h1:=Pb.notType;have h2:=Pb.canCreate;have hct:=F.typeCall_set_1 (.ref l)
 repeat (any_goals (first|assumption|wp_step))
 refine OD (Ej (.ref l) (E:=E) (Q:=fun obj s₁=>obj=.ref s.heap.objs.size/\s₁={ s with heap:=s.heap.push (mT w) }) ⟨rfl,rfl⟩) fun r s₁ hr=>?_;cases r with
 | error e=>exact hr
 | ok fl =>
  cases fl with
  | next=>exact hr.elim
  | brk=>exact hr.elim
  | cont=>exact hr.elim
  | ret obj =>
   obtain ⟨rfl,rfl⟩:=hr;have hS:(s.heap.push (mT w)).get? s.heap.objs.size=some (mT w):=Mx _ rfl;have hT:SV { s with heap:=s.heap.push (mT w) } (.ref s.heap.objs.size) "set":=⟨_,hS,rfl⟩;have hli:=Pb.init.lookup;have hbi:=Pb.init.bind (.ref s.heap.objs.size)
   repeat (any_goals (first|assumption|wp_step))
   refine OD (OM (R:=wants (fun r s₂=>r=.none/\∃ h' tk ks,s₂={ s with heap:=h',toks:=tk }/\gD h' s.heap.objs.size (!bt w) ks/\(∀ x,x∈ks↔x∈ns)/\∀ b o,b<s.heap.objs.size->s.heap.get? b=some o->h'.get? b=some o) E) Pb.init.plain F.entry_set_init (check_set_init_1 hT ?_)) fun r₂ s₂ hr₂=>?_
   ·have hlS:l<s.heap.objs.size:=by obtain ⟨_,ho,_⟩:=hl;exact Me ho
    have hl1:(s.heap.push (mT w)).IsList l items:=hl.push _;obtain ⟨⟨lc,ld,ldt,lsl⟩,hol,hcl,nl,hdl⟩:=id hl1;simp only at hcl hdl;subst hcl;subst hdl;have hsls:=F.sub_list_set;have hslf:=F.sub_list_frozenset;have hne:(Sm "list" == Sm "dict")=false:=by decide
    unfold O9.«set.__init__» noKeywords Builtin.Frozenset.updateFrom;generalize hPI:pyIter=PI
    wp_walk
    subst hPI;refine P1 hl1 (LN (wpAny_runValue ?_));have hh3:A.in1.in1.in1.handled=none:=by simp [hh]
    have z1:(s.heap.push (mT w)).objs.size=s.heap.objs.size+1:=NW ..;have hval:∀ (i:Nat) (v:Value),items[i]?=some v->∃ t,v=.int ((ns.getD i 0:Nat):Int) t:=fun i v hv=>by
     obtain ⟨t,e⟩:=IntsAre.int_at hi i v (by rw [Nr];exact hv)
     refine ⟨t,?_⟩;rw [e,LS,LS,Mf];cases ns[i]? <;> rfl
    refine Ef (led:=!bt w) ((Walks.list hh3 _ l (by rw [z1];exact Mp (Oa hlS)) items).toS) s.heap.objs.size (by rw [z1];simp only [My,Ql,or_false,not_or];exact ⟨Mp (Oi _),OX hlS⟩) (fun i=>ns.getD i 0) hval (fun i hil=>?_) (items.size - 0) 0 _ [] (by omega) (Nd _)
     ⟨⟨_,Mx _ rfl,rfl,rfl⟩,(hl1.push _)⟩ ?hS0 (fun x=>?_) ?hR
    ·have:i<ns.length:=by omega
     rw [LS,LP this];exact h23 _ (Nu this)
    case hS0=>exact ⟨mT w,#[],0,.fresh 0 0 (!bt w),LV _ hS,⟨rfl,rfl,rfl⟩,rfl,(fun e he=>by cases he),Good.fresh _⟩
    ·exact ⟨(fun z=>by cases z),fun ⟨j,hj,_⟩=>absurd hj (Nat.not_lt_zero _)⟩
    case hR =>
     intro s' ks mv hS' hm;obtain ⟨h',g',d',tk',os'⟩:=s';have eg:g'=s.gens:=mv.gens;have ed:d'=s.drawn:=mv.drawn;have eo:os'=s.os:=mv.os;subst eg;subst ed;subst eo;refine Mb (Mb ⟨rfl,h',tk',ks,rfl,hS',fun x=>?_,fun b o hb e=>?_⟩)
     ·rw [hm x,hz];constructor
      ·rintro ⟨j,hj,e⟩;rw [LS,LP hj] at e;rw [<- show ns[j]=x from e];exact Nu hj
      ·intro hx;obtain ⟨j,hj,e⟩:=Qv hx;exact ⟨j,hj,by rw [LS,LP hj];exact e⟩
     ·exact mv.heap b o (by rw [z1];simp only [My,Ql,or_false,not_or];exact ⟨Mp hb,Mp (Oa hb)⟩) (LV _ (LV _ e))
   ·cases r₂ with
    | error e=>exact hr₂
    | ok fl₂ =>
     cases fl₂ with
     | next=>exact hr₂.elim
     | brk=>exact hr₂.elim
     | cont=>exact hr₂.elim
     | ret r =>
      obtain ⟨rfl,h',tk,ks,rfl,hS',hm,hk'⟩:=hr₂
      repeat (any_goals (first|assumption|wp_step))
      exact h _ _ ks hS' hm hk'
end
theorem Ar:entryFor table "set.__iter__" = some O9.«frozenset.__iter__»:=SA (id':="frozenset.__iter__") (by kernel_rfl) rfl (by trivial) (by kernel_rfl)
theorem lN:Slot "set_iterator" "__next__" "set_iterator.__next__" :=
 .of (owner:="set_iterator") (n:="__next__") (by rw [typeLookup_type,Sd];kernel_rfl) (by trivial) (by trivial) (by trivial)
  (by first|exact .inl (by trivial)|exact .inr (by trivial)) (by rw [isSubtype_type];kernel_rfl)
theorem yf:entryFor table "set_iterator.__next__" = some O9.«set_iterator.__next__»:=entryFor_of_tree (by kernel_rfl)
theorem yd:Manifest.owners.lookup (String.ofList ['r','o','t','a','r','e','t','i','_','t','e','s'].reverse)=some Manifest.sig_set_iterator:=by kernel_rfl
theorem xE (a:Value):argsOk "set_iterator.__next__" ⟨[a],[]⟩:=by
 unfold argsOk;rw [signature?_of (id:="set_iterator.__next__") (n:=['_','_','t','x','e','n','_','_']) (o:=['r','o','t','a','r','e','t','i','_','t','e','s']) (by kernel_rfl) yd];kernel_rfl
def cK (h:Heap) (it a:Addr) (slot i n ep:Nat):Prop:=h.get? it=some { cls:=.type "set_iterator",dict:=none,data:=.fields #[.int slot 0,.int i 0,.ref a,.int n 0,.int ep 0],slots:=#[] }
theorem Dd {α:Type} {l:List α} {i:Nat} (h:i<l.length):(l[i] :: l.eraseIdx i).Perm l:=by
 have e:l=l.take i++l[i] :: l.drop (i+1):=by rw [List.getElem_cons_drop,Qg]
 rw [List.eraseIdx_eq_take_drop_succ];exact RF.symm.trans (List.Perm.of_eq e.symm)
theorem Ce {α:Type} (next:Nat->Nat):∀ (fuel k:Nat) (left:List α) (out:Array α),fuel=left.length->(S8 next fuel k left out).toList.Perm (out.toList++left)
 | 0,k,left,out,h=>by
  have:left=[]:=Rp.mp h.symm;subst this;unfold S8;simp
 | fuel+1,k,left,out,h=>by
  unfold S8;have hl:next k % left.length<left.length:=MF _ (by omega)
  rw [LP hl];dsimp only;refine (Ce next fuel (k+1) _ _ (by rw [List.length_eraseIdx,if_pos hl];omega)).trans ?_
  rw [Array.toList_push,Q3];exact List.Perm.append_left _ (Dd hl)
theorem Fn {α:Type} (next:Nat->Nat) (xs:Array α):(pickOrder next xs).toList.Perm xs.toList:=by
 have:=Ce next xs.size 0 xs.toList #[] (by simp)
 simpa [pickOrder] using this
def kX (h:Heap) (a:Addr) (es:Array (Int×Value)) (ep:Nat) (t:N0):Prop:=∃ o,h.get? a=some o/\o.ExactSet/\o.data=.set es ep t
def eM (w:World) (a:Addr) (es:Array (Int×Value)) (ep:Nat):Array (Int×Value):=if bt w=true then pickOrder (w.params.setOrder a ep) es else es
theorem xY {w:World} {a:Addr} {es:Array (Int×Value)} {ep:Nat}:(eM w a es ep).toList.Perm es.toList:=by
 unfold eM
 split
 ·exact Fn _ _
 ·exact List.Perm.refl _
theorem pf {w:World} {a:Addr} {es:Array (Int×Value)} {ep:Nat}:(eM w a es ep).size=es.size:=by
 have:=(xY (w:=w) (a:=a) (es:=es) (ep:=ep)).length_eq
 rwa [MW,MW] at this
def slotAt (t:N0) (i:Nat):Nat:=if i=0 then 0 else t.place.getD (i - 1) 0+1
theorem below_at {led:Bool} {es:Array (Int×Value)} {t:N0} {ks:List Nat} (g:Good led es t ks) {i:Nat} (hi:i<=es.size):M4 t.place (slotAt t i)=i:=by
 obtain ⟨h1,h2,h3⟩:=vN g.rise (slotAt t i);have z:=g.size;have gd:∀ k,k<t.place.size->t.place[k]?=some (t.place.getD k 0):=fun k hk=>by
  rw [M1 hk,N1,M1 hk];rfl
 have mono:∀ (a b:Nat),a<b->b<t.place.size->t.place.getD a 0<t.place.getD b 0:=fun a b hab hb=>by
  have ha:=gd a (by omega)
  have hb':=gd b hb;rw [<- Nr] at ha hb';obtain ⟨x1,x2⟩:=LQ.mp ha;obtain ⟨y1,y2⟩:=LQ.mp hb';rw [<- x2,<- y2];exact Nv.mp g.rise a b x1 y1 hab
 rcases Ob (M4 t.place (slotAt t i)) i with c|c|c
 ·have q:=h3 (i - 1) _ (by omega) (gd (i - 1) (by omega))
  unfold slotAt at q;rw [if_neg (by omega)] at q
  omega
 ·exact c
 ·have q:=h2 i _ c (gd i (by omega))
  unfold slotAt at q
  split at q
  ·omega
  ·have:=mono (i - 1) i (by omega) (by omega)
   omega
section
variable {prog:Ms} {w:World} {A:MY} {E:Value->LU->Prop} {s:LU}
theorem cK.typeIs {it a:Addr} {slot i n ep:Nat} (x:cK s.heap it a slot i n ep):s.TypeIs (.ref it) "set_iterator":=⟨_,x,rfl⟩
theorem uH {Q:Bool->LU->Prop} (h:Q (bt w) s):wpAny (model prog w) A setsByText Q E s:=by
 unfold setsByText;exact LN (RG (Mb h))
theorem C0 {a:Addr} {ep:Nat} {es:Array (Int×Value)} {t:N0} {ks:List Nat} {Q:Array (Int×Value)->LU->Prop} (g:Good (!bt w) es t ks) (hS:kX s.heap a es ep t) (ht:bt w=true) (hQ:Q (eM w a es ep) s):wpAny (model prog w) A (setWalk a) Q E s:=by
 obtain ⟨os,hos,hex,hds⟩:=id hS;unfold setWalk;refine LN (OU hos hds g.fits ?_);dsimp only;refine LN (uH ?_);rw [if_pos ht];refine LN (RG (Mb ?_));unfold eM at hQ;rw [if_pos ht] at hQ;exact hQ
theorem xB {a:Addr} {sl i ep:Nat} {es:Array (Int×Value)} {t:N0} {ks:List Nat} {Q:Option (Value×Nat)->LU->Prop} (g:Good (!bt w) es t ks) (hS:kX s.heap a es ep t) (hi:i<=es.size) (hsl:bt w=false->sl=slotAt t i)
  (hQ:Q ((eM w a es ep)[i]?.map fun e=>(e.2,if bt w=true then sl else slotAt t (i+1))) s):wpAny (model prog w) A (setNext a sl i ep) Q E s:=by
 obtain ⟨os,hos,hex,hds⟩:=id hS;unfold setNext;refine LN (OU hos hds g.fits ?_);dsimp only;refine LN (uH ?_);cases ht:bt w with
 | true =>
  rw [if_pos rfl,if_neg (by simp)]
  refine LN (C0 g hS ht (Mb ?_));rw [ht] at hQ
  simpa using hQ
 | false =>
  rw [if_neg Mu]
  split
  ·rename_i hdr
   have:(!t.plain && decide (es.size > 1))=true:=hdr;rw [g.plain] at this;cases this
  refine LN ?_;have hled:t.led=true:=by rw [g.led,ht];rfl
  show wpAny _ _ (if (!t.led && !es.isEmpty)=true then unsupported "set:maker-not-led" else pure ()) _ _ _;rw [if_neg (by rw [hled];exact Mu)]
  refine Mb (Mb ?_);rw [hsl ht,below_at g hi];rw [ht] at hQ;unfold eM at hQ;rw [ht,if_neg Mu,if_neg Mu] at hQ;rcases MH i es.size with c|c
  ·have pl:i<t.place.size:=by rw [g.size];exact c
   rw [M1 c] at hQ ⊢;rw [M1 pl];have e1:slotAt t (i+1)=t.place[i]+1:=by
    unfold slotAt;rw [if_neg (by omega),Nat.add_sub_cancel,N1,M1 pl]
    rfl
   rw [e1] at hQ;exact hQ
  ·rw [Oy c] at hQ ⊢;exact hQ
theorem DG {it a:Addr} {i ep:Nat} {es:Array (Int×Value)} {t:N0} {ks:List Nat} {Q:Option Value->LU->Prop} (g:Good (!bt w) es t ks) (hne:a≠it) (hit:cK s.heap it a (slotAt t i) i es.size ep\/(bt w=true/\∃ sl,cK s.heap it a sl i es.size ep)) (hS:kX s.heap a es ep t) {e:Int×Value} (he:(eM w a es ep)[i]?=some e)
  (hQ:∀ h',(cK h' it a (slotAt t (i+1)) (i+1) es.size ep\/(bt w=true/\∃ sl,cK h' it a sl (i+1) es.size ep))->OW it s.heap h'->Q (some e.2) { s with heap:=h' }) :
  wpAny (model prog w) A (pyNext (.ref it)) Q E s:=by
 obtain ⟨sl,hit',hsl⟩:∃ sl,cK s.heap it a sl i es.size ep/\(bt w=false->sl=slotAt t i):=by
  rcases hit with z|⟨z,sl,z'⟩
  ·exact ⟨_,z,fun _=>rfl⟩
  ·exact ⟨sl,z',fun c=>by rw [z] at c;cases c⟩
 have ho:=hit';unfold cK at ho;obtain ⟨os,hos,hex,hds⟩:=id hS;unfold pyNext;refine LN (Ph (O1 (name:=N6 "__next__") hit'.typeIs lN (OA lN hit'.typeIs yf ?_ (xE _))));show wpAny _ _ (fieldsOf (.ref it) >>= _) _ _ s;refine LN (wpAny_fieldsOf ho rfl ?_);dsimp only;refine LN (LN (OU hos hds g.fits (Mb ?_)));dsimp only;rw [if_neg (by simp)]
 have hi:i<es.size:=by
  have:=(NI.mp he).1
  rwa [pf] at this
 rw [NT,NT,NT];refine LN (xB g hS (Oe hi) hsl ?_);rw [he];show wpAny _ _ (setField (Mw it) 0 _ >>= _) _ _ _;refine LN (PN ho (by show 0<5;decide) fun h1 e1 b1=>?_)
 refine LN (PN (s:={ s with heap:=h1 }) e1 (by show 1<5;decide) fun h2 e2 b2=>?_)
 refine Mb ⟨_,rfl,Mb (hQ h2 ?_ (b1.trans b2))⟩;cases ht:bt w with
 | true =>
  refine .inr ⟨rfl,sl,?_⟩;rw [ht] at e2;exact e2
 | false =>
  rw [ht] at e2;exact .inl e2
theorem Fy {it a:Addr} {ep:Nat} {es:Array (Int×Value)} {t:N0} {ks:List Nat} {Q:Option Value->LU->Prop} (hh:A.handled=none) (g:Good (!bt w) es t ks) (hit:cK s.heap it a (slotAt t es.size) es.size es.size ep\/(bt w=true/\∃ sl,cK s.heap it a sl es.size es.size ep)) (hS:kX s.heap a es ep t)
  (hQ:∀ h',Heap.ExtBut it s.heap h'->Q none { s with heap:=h' }):wpAny (model prog w) A (pyNext (.ref it)) Q E s:=by
 obtain ⟨sl,hit',hsl⟩:∃ sl,cK s.heap it a sl es.size es.size ep/\(bt w=false->sl=slotAt t es.size):=by
  rcases hit with z|⟨z,sl,z'⟩
  ·exact ⟨_,z,fun _=>rfl⟩
  ·exact ⟨sl,z',fun c=>by rw [z] at c;cases c⟩
 have ho:=hit';unfold cK at ho;obtain ⟨os,hos,hex,hds⟩:=id hS;unfold pyNext;refine LN (Ph (O1 (name:=N6 "__next__") hit'.typeIs lN (OA lN hit'.typeIs yf ?_ (xE _))));show wpAny _ _ (fieldsOf (.ref it) >>= _) _ _ s;refine LN (wpAny_fieldsOf ho rfl ?_);dsimp only;refine LN (LN (OU hos hds g.fits (Mb ?_)));dsimp only;rw [if_neg (by simp)]
 rw [NT,NT,NT];refine LN (xB g hS (Mi _) hsl ?_);rw [Oy (by rw [pf];exact Mi _)]
 show wpAny _ _ (setField (Mw it) 2 _ >>= _) _ _ _;refine LN (PN ho (by show 2<5;decide) fun h1 e1 b1=>?_)
 refine LN ?_;simp only [newExc,newTuple];refine LN (N9 ?_ (by size_fits))
 refine LN (m:=firstArgMember _ _) (wpAny_of_eq (a:=Ov) (by first|rfl|(simp only [firstArgMember];rfl)) ?_)
 refine N9 ?_ (by size_fits)
 simp only [raiseNew];refine LN (wpAny_handled ?_);rw [show A.in1.handled=none from hh];refine LN (Mb (wpAny_throw ?_));refine LN (RE (T:="StopIteration") (b:=true) ⟨_,Mx _ rfl,rfl⟩ isSubtype_stop ?_);exact Mb (hQ _ ((b1.extBut.push _).push _))
end
theorem wm:Slot "set_iterator" "__iter__" "set_iterator.__iter__" :=
 .of (owner:="set_iterator") (n:="__iter__") (by rw [typeLookup_type,Sd];kernel_rfl) (by trivial) (by trivial) (by trivial)
  (by first|exact .inl (by trivial)|exact .inr (by trivial)) (by rw [isSubtype_type];kernel_rfl)
theorem Bv:entryFor table "set_iterator.__iter__" = some O9.«dict_keyiterator.__iter__»:=SA (id':="dict_keyiterator.__iter__") (by kernel_rfl) rfl (by trivial) (by kernel_rfl)
theorem Bl (a:Value):argsOk "set_iterator.__iter__" ⟨[a],[]⟩:=by
 unfold argsOk;rw [signature?_of (id:="set_iterator.__iter__") (n:=['_','_','r','e','t','i','_','_']) (o:=['r','o','t','a','r','e','t','i','_','t','e','s']) (by kernel_rfl) yd];kernel_rfl
def qU (w:World) (h:Heap) (it a:Addr) (t:N0) (i n ep:Nat):Prop:=cK h it a (slotAt t i) i n ep\/(bt w=true/\∃ sl,cK h it a sl i n ep)
section
variable {prog:Ms} {w:World} {A:MY} {E:Value->LU->Prop} {s:LU}
theorem qU.typeIs {it a:Addr} {t:N0} {i n ep:Nat} (x:qU w s.heap it a t i n ep):s.TypeIs (.ref it) "set_iterator":=by
 rcases x with z|⟨_,sl,z⟩ <;> exact ⟨_,z,rfl⟩
theorem qU.keep {h h':Heap} {it a:Addr} {t:N0} {i n ep:Nat} (x:qU w h it a t i n ep) (k:∀ o,h.get? it=some o->h'.get? it=some o):qU w h' it a t i n ep:=by
 rcases x with z|⟨c,sl,z⟩
 ·exact .inl (k _ z)
 ·exact .inr ⟨c,sl,k _ z⟩
theorem kX.keep {h h':Heap} {a:Addr} {es:Array (Int×Value)} {ep:Nat} {t:N0} (x:kX h a es ep t) (k:∀ o,h.get? a=some o->h'.get? a=some o):kX h' a es ep t:=let ⟨o,ho,r⟩:=x;⟨o,k _ ho,r⟩
theorem Fc (hh:A.handled=none) (I a:Addr) (hne:a≠I) {ep:Nat} {es:Array (Int×Value)} {t:N0} {ks:List Nat} (g:Good (!bt w) es t ks) :
  Walks prog w A I [I,a] [I] es.size (fun i v=>∃ e,(eM w a es ep)[i]?=some e/\v=e.2) (fun i h=>qU w h I a t i es.size ep/\kX h a es ep t) where
 sub:=fun b hb=>by simp at hb;simp [hb]
 frame:=fun i h h' st hk=>⟨st.1.keep fun o e=>hk I (by simp) o e,st.2.keep fun o e=>hk a (by simp) o e⟩
 item:=fun i s Q E hi st hQ=>by
  have hl:i<(eM w a es ep).size:=by rw [pf];exact hi
  refine DG g hne st.1 st.2 (M1 hl) fun h' it' sb=>?_;exact hQ _ h' s.toks ⟨_,M1 hl,rfl⟩ ⟨it',st.2.keep fun o e=>(sb.2 a hne).trans e⟩ fun b o hb e=>(sb.2 b (fun z=>hb (by simp [z]))).trans e
 done:=fun s Q E st hQ=>Fy hh g st.1 st.2 fun h' he=>hQ h' s.toks fun b o hb e=>he b o (fun z=>hb (by simp [z])) e
 self:=fun i s Q E st hQ=>by
  refine wpAny_pyIter_slot st.1.typeIs wm (OA wm st.1.typeIs Bv ?_ (Bl _));show wpAny _ _ (ret (.ref I)) _ _ s;exact Mb ⟨_,rfl,"set_iterator",_,st.1.typeIs,lN.lookup,hQ⟩
theorem C7 {a:Addr} {ep:Nat} {es:Array (Int×Value)} {t:N0} {ks:List Nat} {Q:Value->LU->Prop} (g:Good (!bt w) es t ks) (hS:kX s.heap a es ep t)
  (hQ:∀ h',qU w h' s.heap.objs.size a t 0 es.size ep->(∀ b o,s.heap.get? b=some o->h'.get? b=some o)->h'.objs.size=s.heap.objs.size+1->Q (.ref s.heap.objs.size) { s with heap:=h' }) :
  wpAny (model prog w) A (pyIter (.ref a)) Q E s:=by
 obtain ⟨os,hos,hex,hds⟩:=id hS;have hT:s.TypeIs (.ref a) "set":=⟨os,hos,hex.1⟩;refine wpAny_pyIter_slot hT F.slot_set_iter (OA F.slot_set_iter hT Ar ?_ (F.args_set_iter_1 _));unfold O9.«frozenset.__iter__» Builtin.Frozenset.slot0 slotArgs;simp only [List.isEmpty_nil,Bool.not_true,QM,↓reduceIte,bind_assoc,PK,bne_self_eq_false];unfold Builtin.Frozenset.addrOf Builtin.Frozenset.sizeOf setDrawn;refine LN (Mb ?_);dsimp only;refine LN (Mb ?_);refine LN (LN (wpAny_setEntries_of hos hds g.fits (Mb ?_)));refine LN (LN (OU hos hds g.fits ?_));dsimp only;refine LN (uH (Mb ?_));have dr:∀ b:Bool,(b && (!t.plain && decide (es.size > 1)))=false:=fun b=>by rw [g.plain];cases b <;> rfl
 split
 ·rename_i hc
  have:(!bt w && (!t.plain && decide (es.size > 1)))=true:=hc;rw [dr] at this;cases this
 refine LN (Mb ?_);refine LN (wpAny_setEpoch_of hos hds g.fits ?_);refine LN (N9 (Mb ⟨_,rfl,"set_iterator",_,⟨_,Mx _ rfl,rfl⟩,lN.lookup,?_⟩));exact hQ _ (.inl (Mx _ rfl)) (fun b o e=>LV _ e) (NW ..)
theorem BD {a:Addr} {ep:Nat} {es:Array (Int×Value)} {t:N0} {ks:List Nat} {Q:List Value->LU->Prop} (hh:A.handled=none) (g:Good (!bt w) es t ks) (hS:kX s.heap a es ep t)
  (hQ:∀ (h':Heap) (tk:Nat),s.heap.objs.size<=h'.objs.size->(∀ b o,s.heap.get? b=some o->h'.get? b=some o)->Q ((eM w a es ep).toList.map (·.2)) { s with heap:=h',toks:=tk }):wpAny (model prog w) A (collect (.ref a)) Q E s:=by
 have n23:=my g.nd g.lt;have el:=g.len;obtain ⟨os,hos,hex,hds⟩:=id hS;have alt:a<s.heap.objs.size:=Me hos;unfold collect;refine LN (wpAny_runValue (Of F.entry_proto_collect ?_));rw [N3 F.plain_proto_collect _];show wpAny _ A.in1 (newList [] >>= fun l=>again (.builtin "list.__iadd__" ⟨[l,.ref a],[]⟩)) _ _ s;refine LN (N9 ?_);refine Mb ⟨PQ F.plain_list_iadd _,Of F.entry_list_iadd ?_⟩;rw [N3 F.plain_list_iadd _];show wpAny _ A.in1 (Qz (.ref s.heap.objs.size) (.ref a) (.ref s.heap.objs.size)) _ _ _;generalize hp1:s.heap.push { cls:=.type "list",data:=.seq ([]:List Value).toArray }=h1;have o1:h1.get? s.heap.objs.size=some { cls:=.type "list",data:=.seq ([]:List Value).toArray }:=by rw [<- hp1];exact Mx _ rfl
 have k1:∀ b o,s.heap.get? b=some o->h1.get? b=some o:=fun b o e=>by rw [<- hp1];exact LV _ e
 have z1:h1.objs.size=s.heap.objs.size+1:=by rw [<- hp1];exact NW ..
 have hS1:kX h1 a es ep t:=hS.keep fun o e=>k1 _ _ e;unfold Qz;have hT1:SV { s with heap:=h1 } (.ref a) "set":=⟨os,k1 _ _ hos,hex.1⟩;refine LN (R8 hT1 ?_);have nS:Ra (.ref s.heap.objs.size) (.ref a)=false:=by
  have:s.heap.objs.size≠a:=OX alt;simp [Ra,this]
 rw [if_neg (by rw [nS];decide)]
 refine LN (C7 g hS1 fun h2 it2 k2 z2=>?_);have o2:=k2 _ _ o1;have hT2:SV { s with heap:=h2 } (.ref a) "set":=⟨os,k2 _ _ (k1 _ _ hos),hex.1⟩;refine LN (Nl ?_);unfold Builtin.List.listLengthHint;refine LN (wpAny_specialOf hT2 F.slot_set_len.lookup ?_);generalize hid:("set.__len__" : String)=id0
 (fail_if_success (clear hid id0))
 wp_delta
 rw [show splitId id0=some ("set","__len__") from by subst hid;decide +kernel]
 subst hid;refine LN (RE (b:=true) hT2 sub_set_self ?_);show wpAny _ _ (typeOf (.ref a) >>= _) _ _ _;refine LN (R8 hT2 ?_);refine Mb ?_;show wpAny _ A.in1 (rule "list.extend.makes-room" >>= fun _=>Builtin.List.listTouch (.ref s.heap.objs.size) >>= fun _=>again (.builtin "list.extend.loop" ⟨[.ref s.heap.objs.size,.ref h1.objs.size,.ref s.heap.objs.size],[]⟩)) _ _ _;refine LN (SX (LN ?_));show wpAny _ A.in1 (updateSeq s.heap.objs.size (·.push .none) >>= fun _=>updateSeq s.heap.objs.size (·.pop)) _ _ _;refine LN (wpAny_updateSeq o2 rfl ?_);have o3:=NC (Pw (·.push Ov)) o2 rfl;refine wpAny_updateSeq (hz:=by seq_fits) o3 rfl ?_
 have o4:=NC (Pw (·.pop)) o3 rfl;have k4:∀ b o,b≠s.heap.objs.size->h2.get? b=some o->((h2.update s.heap.objs.size (Pw (·.push Ov))).update s.heap.objs.size (Pw (·.pop))).get? b=some o :=
  fun b o hb e=>(Nf _ _ (NV hb)).trans ((Nf _ _ (NV hb)).trans e)
 have ne1:h1.objs.size≠s.heap.objs.size:=by rw [z1];exact OX (Oi _)
 have ne2:a≠s.heap.objs.size:=Mp alt;have ne3:a≠h1.objs.size:=by rw [z1];exact Mp (Oa alt)
 have W:=(Fc (prog:=prog) (A:=A.in1) (by simp [hh]) h1.objs.size a ne3 (ep:=ep) g).toS
 refine Mb ⟨PQ F.plain_extend_loop _,codeAny_extend_loopS W (by rw [NJ];omega) s.heap.objs.size (by simp only [My,Ql,or_false,not_or];exact ⟨NV ne1,NV ne2⟩) _ es.size 0 _ _ _ rfl (Nd _)
  ⟨it2.keep fun o e=>k4 _ _ ne1 e,(hS1.keep fun o e=>k2 _ _ e).keep fun o e=>k4 _ _ ne2 e⟩ o4 (ItemsOf.nil _) fun s' acc c' mv o5 items=>?_⟩
 obtain ⟨h',g',d',tk',os'⟩:=s';have eg:g'=s.gens:=mv.gens;have ed:d'=s.drawn:=mv.drawn;have eo:os'=s.os:=mv.os;subst eg;subst ed;subst eo;show wpAny _ A (load s.heap.objs.size >>= _) _ _ _;refine LN (wpAny_load o5 (Mb ?_));have ea:acc.toList=(eM w a es ep).toList.map (·.2):=by
  refine Q6 fun j=>?_;rw [Mf,Nr,Nr];rcases MH j acc.size with c|c
  ·have q:=M1 c;obtain ⟨e,he,ev⟩:=items.2 j _ q;rw [q,he,ev];rfl
  ·rw [Oy c,Oy (by rw [pf,<- items.1];exact c)]
   rfl
 rw [ea];refine hQ h' tk' (Oe (Me o5)) fun b o e=>mv.heap b o ?_ (k4 b o ?_ (k2 _ _ (k1 _ _ e)))
 ·have:=Me e;simp only [My,Ql,or_false,not_or];exact ⟨Mp this,by rw [z1];exact Mp (Oa this)⟩
 ·exact Mp (Me e)
theorem yk:∀ {es:List (Int×Value)},(∀ e∈es,∃ (k:Nat) (tk:Tok),k<23/\e=((k:Int),O3 (k:Int) tk))->Rn (es.map (·.2)) ((es.map fun e=>e.1.toNat).map fun (k:Nat)=>(k:Int))
 | [],_=>.nil
 | e :: es,h=>by
  obtain ⟨k,tk,_,rfl⟩:=h e Mn;exact .cons _ _ (yk fun e he=>h e (Mh _ he))
theorem GF {es:List (Int×Value)} {ks:List Nat} (h:es.map (·.1)=ks.map fun (k:Nat)=>(k:Int)):es.map (fun e=>e.1.toNat)=ks:=by
 have:=congrArg (List.map Q8) h;rw [OH,OH] at this;have e:(Q8 ∘ fun (k:Nat)=>(k:Int))=id:=by funext n;rfl
 rw [e,Qu] at this;exact this
theorem Dt {a:Addr} {ks:List Nat} {Q:Value->LU->Prop} (hh:A.handled=none) (hS:gD s.heap a (!bt w) ks)
  (h:∀ (h':Heap) (tk:Nat) (d:Addr) (out:Array Value) (c:Nat) (l:List Nat),Rn out.toList (l.map fun (k:Nat)=>(k:Int))->l.Perm ks->l.Pairwise (·<=·)->s.heap.objs.size<=d->h'.get? d=some (seqObj "list" out c)->(∀ b o,s.heap.get? b=some o->h'.get? b=some o)->Q (.ref d) { s with heap:=h',toks:=tk }) :
  wpAny (model prog w) A (call (.builtin "sorted") [.ref a]) Q E s:=by
 obtain ⟨o,es,ep,t,ho,hex,hd,hnum,g⟩:=hS;have n23:=my g.nd g.lt;have el:=g.len;refine Calls.call_function_entry kind_sorted plain_sorted entry_sorted (args_sorted1 _) ?_;unfold O9.«sorted»;refine LN (m:=checkCount "sorted" 1 1 _) (Mb ?_);refine LN (BD (by simp [hh]) g ⟨o,ho,hex,hd⟩ fun h1 tk1 kz k1=>?_)
 have wp:=xY (w:=w) (a:=a) (es:=es) (ep:=ep);have hI:=yk (es:=(eM w a es ep).toList) fun e he=>hnum e (wp.mem_iff.mp he);have kp:((eM w a es ep).toList.map fun e=>e.1.toNat).Perm ks:=by
  have:=wp.map fun e=>e.1.toNat
  rwa [GF g.keys] at this
 generalize (eM w a es ep).toList.map (fun e=>e.1.toNat)=kw at hI kp;generalize hv:(eM w a es ep).toList.map (·.2)=vs at hI;have vl:vs.length<64:=by
  have:=hI.length;rw [LO,kp.length_eq] at this;omega
 refine LN (wpAny_newList ?_);have oL:(h1.push (seqObj "list" vs.toArray 0)).get? h1.objs.size=some (seqObj "list" vs.toArray 0):=Mx _ rfl;refine LN (Nl (OA slot_list_sort ⟨_,oL,rfl⟩ entry_list_sort (list_sort_tree oL hI vl fun out ns' a1 a2 a3=>⟨_,rfl,?_⟩) (args_list_sort _)));obtain ⟨c,hc⟩:=sortedHeap_at (out:=out) oL;obtain ⟨l,rfl,lp⟩:=xH a2;refine Mb ⟨_,rfl,h _ tk1 _ out c l a1 (lp.trans kp) ?_ kz hc fun b ob e=>?_⟩
 ·rw [Pf] at a3;exact a3.imp fun z=>by omega
 ·have e1:=k1 _ _ e;rw [sortedHeap_old (Mp (Me e1)) (by rw [NW];exact Oa (Me e1))]
  exact LV _ e1
end
theorem gD.there {h:Heap} {a:Addr} {led:Bool} {ks:List Nat} (x:gD h a led ks):∃ o,h.get? a=some o:=let ⟨o,_,_,_,ho,_⟩:=x;⟨o,ho⟩
theorem gD.nd {h:Heap} {a:Addr} {led:Bool} {ks:List Nat} (x:gD h a led ks):ks.Nodup/\∀ k∈ks,k<23:=let ⟨_,_,_,_,_,_,_,_,g⟩:=x;⟨g.nd,g.lt⟩
theorem gD.keep {h h':Heap} {a:Addr} {led:Bool} {ks:List Nat} (x:gD h a led ks) (k:∀ o,h.get? a=some o->h'.get? a=some o):gD h' a led ks:=let ⟨o,es,ep,t,ho,r⟩:=x;⟨o,es,ep,t,k _ ho,r⟩
abbrev kW (w:World) (a:Addr) (ks:List Nat):HO:=.ext fun h=>gD h a (!bt w) ks
theorem Jm {P:Ms} {w:World} {H:Hp} {h:Heap} {a:Addr} {ks:List Nat} (e:gD h a (!bt w) ks):bB P w H h a (kW w a ks) :=
 ⟨e,e.there,fun _ _ x k=>x.keep k⟩
def CI (w:World) (K:LM):List V->Hp->VK->Prop:=fun xs H Q=>∃ (p:Addr) (ns:List Nat),xs=[.ref p]/\SqL K H p ((ns.map fun (n:Nat)=>(n:Int)).map V.int)/\(∀ x∈ns,x<23) /\
 ∀ (a:Addr) (ks:List Nat),H a=none->(∀ x,x∈ks↔x∈ns)->ks.Nodup->Q (.ref a) (upd H a (kW w a ks))
theorem E2 {X:Cx} (hc:X.calm=true):cW X (.type "set") (CI X.w X.K):=by
 intro pins s σ H xs us Q I r h;obtain ⟨p,ns,rfl,hS,h23,q⟩:=h;obtain ⟨u,rfl,ru⟩:=vals1 r;cases (show u=Mw p from ru);obtain ⟨its,rv,pl,hz⟩:=I.list hS;have hi:=qC rv;refine C1 (I.ok.hd hc) pl.isList (by simpa using hi) h23 fun h' tk ks hG hm hk=>?_
 exact ⟨.ref s.heap.objs.size,_,I.laid (o:=kW X.w s.heap.objs.size ks) (fun b o e=>hk b o (Me e) e) (Mi _) (Jm hG),rfl,q _ ks (I.hok.fresh (Mi _)) hm hG.nd.1⟩
theorem DJ {X:Cx} (K:LM) (hK:X.K=K) (w:World) (hw:X.w=w) (hc:X.calm=true):cW X (.type "set") (CI w K):=by subst hK;subst hw;exact E2 hc
def uY (w:World):List V->Hp->VK->Prop:=fun xs H Q=>∃ (a:Addr) (ks:List Nat),xs=[.ref a]/\H a=some (kW w a ks) /\
 ∀ (d:Addr) (l:List Nat),H d=none->l.Perm ks->l.Pairwise (·<=·)->Q (.ref d) (upd H d (.lst (aY l)))
theorem AF {X:Cx} (hc:X.calm=true):cW X (.builtin "sorted") (uY X.w):=by
 intro pins s σ H xs us Q I r h;obtain ⟨a,ks,rfl,hx,q⟩:=h;obtain ⟨u,rfl,ru⟩:=vals1 r;cases (show u=Mw a from ru);obtain ⟨p,_,_⟩:=(show bB X.prog X.w H s.heap a (kW X.w a ks) from I.hok a _ hx);have hG:gD s.heap a (!bt X.w) ks:=p;have n23:=my hG.nd.1 hG.nd.2;refine Dt (I.ok.hd hc) hG fun h' tk d out c l a1 a2 a3 hd ho hk=>?_;have hn:H d=none:=I.hok.fresh hd;refine ⟨.ref d,_,I.laid (o:=.lst (aY l)) hk hd ⟨?_,out.toList,c,?_,?_⟩,rfl,q d l hn a2 a3⟩
 ·unfold aY;rw [LO,a2.length_eq];exact small (by omega)
 ·rw [nC];exact sx a1
 ·simpa [seqObj] using ho
theorem yI {X:Cx} (w:World) (hw:X.w=w) (hc:X.calm=true):cW X (.builtin "sorted") (uY w):=by subst hw;exact AF hc
section
variable {H:Hp} {Q:VK} {K:LM} {v:V} {w:World}
theorem KL {l:List Nat} (h:At K H v l) (h23:∀ x∈l,x<23) (q:∀ (a:Addr) (ks:List Nat),H a=none->(∀ x,x∈ks↔x∈l)->ks.Nodup->Q (.ref a) (upd H a (kW w a ks))):CI w K [v] H Q:=by
 obtain ⟨p,rfl,hS⟩:=lZ h;have e:=nC l;unfold aY at e;exact ⟨p,l,rfl,by rw [<- e];exact hS,h23,q⟩
theorem E6 {a:Addr} {ks:List Nat} (h:H a=some (kW w a ks)) (q:∀ (d:Addr) (l:List Nat),H d=none->l.Perm ks->l.Pairwise (·<=·)->Q (.ref d) (upd H d (.lst (aY l)))):uY w [.ref a] H Q:=⟨a,ks,rfl,h,q⟩
end
section
variable {X:Cx} {elt tg iter:Expr} {ifs:List Expr} {scope:Scope} {pos:Pos} {own:List Str} {fr:List Nat} {wi:TI} {g:TG} {tt:TT} {te:TE}
end
def tw:List Value->List Value
 | .ref _ :: r=>tw r
 | l=>l
def HQ (K:LM) (C:Addr):Bool:=(Qo K C).any fun cd=>tw cd.mro == bmV
def CV (K:LM) (C:Addr):Bool:=(K.lookup C).any fun o=>o.cls == .type "type" && (o.slots.toList.length == 6 && o.slots.toList[4]? == some (some (.builtin n8))) &&
 (match o.data with
  | .cls cd=>cd.mro.head? == some (.ref C) && (!cd.hasDel && PySem.W.tailIn K bmV cd.mro.tail)
  | _=>false)
structure oG (K:LM) (C f:Addr):Prop where
 ob:CV K C=true
 init:Ma K (.ref C) "__init__" = some (some (.ref f))
 fn:Ot K (.ref f)=true
 sa:Ma K (.ref C) "__setattr__" = some (some (.builtin "object.__setattr__"))
 hd:Nb K C=true
 ov:HQ K C=true
 kp:LW K (.ref C)=true
theorem sJ {g:Str}:∀ {fs:List (Str×V)},g∉fs.map (·.1)->fs.lookup g=none
 | [],_=>rfl
 | (p1,p2) :: r,m=>by
  rw [Nk];have z:(g == p1)=false:=by
   rw [beq_eq_false_iff_ne];exact fun z=>m (by rw [z];exact .head _)
  rw [z];exact sJ fun y=>m (.tail _ y)
theorem rN (self:Value) (what:Str):∀ l:List Value,refuseLoop self what l=refuseLoop self what (tw l)
 | []=>rfl
 | v :: r=>by
  cases v with
  | ref c=>rw [refuseLoop_ref];exact rN self what r
  | _=>rfl
theorem ve {v:Value}:∀ l:List Value,(tw l).contains v=true->l.contains v=true
 | [],h=>h
 | u :: r,h=>by
  cases u with
  | ref c=>rw [List.contains_cons,ve r h,Bool.or_true]
  | _=>exact h
theorem xq {K:LM} {h:Heap} {C:Addr} (X:K.In h) (q:CV K C=true) :
  ∃ bm N nm qn bs hdct sn sub ab col dd k0 k1 k2 k3 k5,h.get? C=some (excClassObj nm qn C N bs bm hdct sn sub ab col dd k0 k1 k2 k3 k5 n8)/\OwnTail h bmV bm:=by
 obtain ⟨o,ho,q⟩:=Pp q;obtain ⟨oc,od,odt,sl⟩:=o;simp only [NO,beq_iff_eq] at q;obtain ⟨⟨h1,h2,h3⟩,h4⟩:=q;subst h1;cases odt with
 | cls cd =>
  simp only [NO,beq_iff_eq,Pg] at h4;obtain ⟨h5,h6,h7⟩:=h4;obtain ⟨nm,bs,mro,ns,qn,hd,sn,sub,ab,col,del⟩:=cd;dsimp only at h5 h6 h7;subst h6;cases mro with
  | nil=>cases h5
  | cons m bm =>
   cases h5;obtain ⟨l⟩:=sl
   match l,h2,h3 with
   | [k0,k1,k2,k3,k4,k5],_,h3 =>
    cases h3;exact ⟨bm,ns,nm,qn,bs,hd,sn,sub,ab,col,od,k0,k1,k2,k3,k5,X _ _ ho,PySem.W.tail_of_in X h7⟩
 | _=>cases h4
abbrev tK (rest:List Value):Obj:={ cls:=.type "tuple",data:=.seq rest.toArray }
abbrev sW (C t:Addr):Obj:={ cls:=.ref C,data:=.fields #[.ref t,.none,.none,.none,.bool false,.none] }
section
variable {prog:Ms} {w:World} {A:MY} {K:LM} {C f:Addr} {R:QZ->LU->Prop} {h:Heap} {g:Array Qc} {d:Drawn} {t:Nat} {os:OsState}
theorem yT {rest:List Value} {Q:Fin->LU->Prop} {E:Value->LU->Prop} (X:K.In h) (c:oG K C f) (hz:rest.length<=MB)
  (hq:wpAny (model prog w) A (call (.ref f) (.ref (h.objs.size+1) :: rest)) (fun r s'=>r=.none/\Q (.done (.ret (.ref (h.objs.size+1)))) s') E ⟨(h.push (tK rest)).push (sW C h.objs.size),g,d,t,os⟩) :
  wpAny (model prog w) A (O9.«type.__call__» ⟨.ref C :: rest,[]⟩) Q E ⟨h,g,d,t,os⟩:=by
 obtain ⟨bm,N,nm,qn,bs,hdct,sn,sub,ab,col,dd,k0,k1,k2,k3,k5,hC,T⟩:=xq X c.ob;have Fb:=Pk;have hB:bmV.contains (.type "ValueError")=true:=by trivial
 have hi:=NK (M:=model prog w) X c.init;have hb:=fun self=>PySem.W.bind_fn (M:=model prog w) X self (beq_iff_eq.mp c.fn);have k:∀ b o,h.get? b=some o->((h.push { cls:=.type "tuple",data:=.seq rest.toArray }).push { cls:=.ref C,data:=.fields #[.ref h.objs.size,.none,.none,.none,.bool false,.none] }).get? b=some o:=fun b o e=>LV _ (LV _ e)
 repeat (first|with_reducible refine Pj hC ?_|with_reducible refine wpAny_madeBy_exc hC ?_|wp_step)
 refine codeAny_call_builtin_code (PL _ Fb.quiet) (wpAny_check_new_subU Fb hB T hC (codeAny_exc_new_subU Fb hB Fb T hC ?_ hz));show wpAny _ _ _ _ _ _;have hC1:=k _ _ hC;have hx:((h.push { cls:=.type "tuple",data:=.seq rest.toArray }).push { cls:=.ref C,data:=.fields #[.ref h.objs.size,.none,.none,.none,.bool false,.none] }).get? (h.objs.size+1)=some { cls:=.ref C,data:=.fields #[.ref h.objs.size,.none,.none,.none,.bool false,.none] }:=by heap_get
 have hcC:(Mw C :: bm).contains (.ref C)=true:=by simp
 unfold isInstance
 repeat (first|with_reducible refine Pj hx ?_|(with_reducible refine SK hC1 ?_;rw [hcC])|wp_step)
 show wpAny _ _ (typeLookup (.ref C) _) _ _ _;refine (hi.keeps k).at ?_;refine Nl (LN (((hb (.ref (h.objs.size+1))).keeps k).at ?_));refine LN (Nj hq (fun r s' hr=>?_) fun _ _ z=>z);obtain ⟨rfl,hQ⟩:=hr
 wp_walk
 exact hQ
theorem G9 {rest:List Value} (X:K.In h) (c:oG K C f) (hz:rest.length<=MB)
  (hq:codeAny (model prog w) (A.under (.builtin "type.__call__" ⟨.ref C :: rest,[]⟩)) (.call (.ref f) ⟨.ref (h.objs.size+1) :: rest,[]⟩) (PySem.W.InitBack (h.objs.size+1) R) ⟨(h.push (tK rest)).push (sW C h.objs.size),g,d,t,os⟩) :
  codeAny (model prog w) A (.call (.ref C) ⟨rest,[]⟩) R ⟨h,g,d,t,os⟩:=by
 obtain ⟨bm,N,nm,qn,bs,hdct,sn,sub,ab,col,dd,k0,k1,k2,k3,k5,hC,T⟩:=xq X c.ob;have f1:=tc_lookup;have f2:=tc_bind (.ref C);have hT:(⟨h,g,d,t,os⟩:LU).TypeIs (.ref C) "type":=⟨_,hC,rfl⟩;refine Sb ?_;show wpAny _ _ (callAny (.ref C) _) _ _ _
 repeat (any_goals (first|assumption|with_reducible refine Pj hC ?_|wp_step))
 refine ⟨rfl,?_⟩;refine codeAny_call_builtin_at (PL _ (by trivial)) entry_typeCall (wpAny_check_type_call_sub hC (yT X c hz (Q1 (OD hq fun r s' z=>?_))))
 rcases r with e|(_|_|_|_) <;> first|exact z|exact Nh z
end
section
variable {prog:Ms} {w:World} {A:MY} {E:Value->LU->Prop} {s:LU} {K:LM} {C x f:Addr} {name:Str} {v:Value}
theorem Ck {R:QZ->LU->Prop} {ox:Obj} {od:Option Obj} {tk:Tok} (X:K.In s.heap) (I:QR s.heap x ox C od) (c:oG K C f) (ht:bf K C name)
  (h:∀ b,wpAny (model prog w) A.in1 (Builtin.ObjectAttr.storeInOwnDict (.ref x) (.ref C) (.str name tk) name v b)
   (fun fin s'=>match fin with | .done f=>R (.ok f) s' | .again c'=>c'.quiet=true/\codeAny (model prog w) A c' R s') (fun e s'=>R (.error e) s') s) :
  codeAny (model prog w) A (.call (.builtin "object.__setattr__") ⟨[.ref x,.str name tk,v],[]⟩) R s:=by
 have SF:=PySem.F.store_object;obtain ⟨cd,hc,ho⟩:=Pp c.ov;have ho:tw cd.mro=bmV:=beq_iff_eq.mp ho;have hm:Oq (model prog w) s.heap (mroOf (.ref C)) cd.mro:=(Pr X hc).andThen .now;have has:cd.mro.contains (.type "object")=true:=ve _ (by rw [ho];decide +kernel)
 have ne:¬ cd.mro.isEmpty=true:=fun z=>by
  rw [List.isEmpty_iff.mp z] at has;cases has
 have sub:Oq (model prog w) s.heap (isInstance (.ref x) (.type "object")) true:=I.type.andThen (Qx X (by unfold Od;rw [hc,Option.bind_some,if_neg ne,has]))
 refine OM SF.slot.plain SF.entry (@PySem.W.check_slot (model prog w) _ _ s "object.__setattr__" "object" "__setattr__" (.ref x) [.str name tk,v] [] _ SF.kind SF.split sub (SF.args (.ref x) (.str name tk) v) ?_);have L2:=NK (M:=model prog w) X (show Ma K (.ref C) name=some none from ht);have L3:Oq (model prog w) s.heap (Builtin.ObjectAttr.storeTaker? none) none:=.now;rw [PySem.W.osa_eq,refuse_eq];refine LN (LN (I.type.here (LN (hm.here ?_))));rw [rN,ho,PySem.F.store_ValueError.passes];exact Mb (LN (I.type.here (LN (L2.here (LN (L3.here (h _)))))))
theorem HE {vs:Array Value} {sl:Array (Option Value)} {Q:Unit->LU->Prop} (X:K.In s.heap) (hx:s.heap.get? x=some ⟨.ref C,none,.fields vs,sl⟩) (c:oG K C f) (ht:bf K C name)
  (h:∀ h',h'.Ns1 s.heap.objs.size (fun y=>if y=name then some v else none)->OW s.heap.objs.size ((s.heap.push MT).update x fun o=>{ o with dict:=some s.heap.objs.size }) h'->Q () { s with heap:=h',toks:=s.toks+2 }) :
  wpAny (model prog w) A (setAttr (.ref x) name v) Q E s:=by
 have I:QR s.heap x ⟨.ref C,none,.fields vs,sl⟩ C none:=⟨hx,rfl,rfl,NM⟩;refine QX X I c.sa (Ck (s:={ s with toks:=s.toks+1 }) X I c ht fun b=>?_);obtain ⟨cd,hc,hd'⟩:=Pp c.hd;refine LN (Mb (LN (LN (QT hx (LN (QI (s:={ s with toks:=s.toks+1 }) (Pr X hc) ?_))))));rw [hd'];have hx1:=LV MT hx;have ne:s.heap.objs.size≠x:=OX (Me hx);have hn:((s.heap.push MT).update x fun o=>{ o with dict:=some s.heap.objs.size }).Ns s.heap.objs.size (fun _=>none) :=
  ⟨_,#[],_,(Heap.get?_update_ne _ _ _ _ ne).trans (Mx s.heap rfl),rfl,fun e he=>absurd he (by simp),fun _=>rfl⟩
 refine LN (Td (LN (wpAny_update hx1 ?_)));refine Mb (a:=some s.heap.objs.size) (LN (Mb (LN ?_)));refine S1 (Q0 hn) fun h' hn2 hs2=>?_;obtain ⟨oD,esD,epD,hoD,hdD,hcD⟩:=hn2.count (QY name v PySem.Within.nil);refine LN (Rz hoD (by rw [hdD];exact RA (Na hcD (by rw [MX,PK,NJ];omega))) ?_)
 exact Mb (h _ hn2 hs2)
theorem Gj {vs:Array Value} {sl:Array (Option Value)} {dx:Addr} {mA:Str->Option Value} {ns:List Str} {Q:Unit->LU->Prop} (X:K.In s.heap) (hx:s.heap.get? x=some ⟨.ref C,some dx,.fields vs,sl⟩) (hn:s.heap.Ns1 dx mA) (hw:QF mA ns) (hz:ns.length<=MB) (c:oG K C f) (ht:bf K C name)
  (h:∀ h',h'.Ns1 dx (fun y=>if y=name then some v else mA y)->OW dx s.heap h'->Q () { s with heap:=h',toks:=s.toks+2 }) :
  wpAny (model prog w) A (setAttr (.ref x) name v) Q E s:=by
 obtain ⟨od,ho,_⟩:=so hn;have I:QR s.heap x ⟨.ref C,some dx,.fields vs,sl⟩ C (some od):=⟨hx,rfl,rfl,ho⟩;refine QX X I c.sa (Ck (s:={ s with toks:=s.toks+1 }) X I c ht fun b=>?_);obtain ⟨cd,hc,hd'⟩:=Pp c.hd;refine LN (Mb (LN (LN (QT hx (LN (QI (s:={ s with toks:=s.toks+1 }) (Pr X hc) ?_))))));rw [hd'];refine Mb (a:=some dx) (LN (Mb (LN ?_)));refine S1 (s:={ s with toks:=s.toks+1 }) hn fun h' hn2 hs2=>?_;obtain ⟨oD,esD,epD,hoD,hdD,hcD⟩:=hn2.count (QY name v hw);refine LN (Rz hoD (by rw [hdD];exact RA (Na hcD (by rw [MX];omega))) ?_)
 exact Mb (h _ hn2 hs2)
end
def K8 (x C:Addr) (d:Option Addr) (h:Heap):Prop:=pI h x C d
abbrev ei (x C:Addr) (d:Option Addr):HO:=.ext (K8 x C d)
theorem Cg {P:Ms} {w:World} {H:Hp} {h:Heap} {x C:Addr} {d:Option Addr} (e:pI h x C d):bB P w H h x (ei x C d):=by
 obtain ⟨o,vs,h1,h2,h3,h4,h5⟩:=id e;exact ⟨e,⟨o,h1⟩,fun a b ⟨o,vs,h1,h2,h3,h4,h5⟩ k=>⟨o,vs,k o h1,h2,h3,h4,h5⟩⟩
def KY (dx:Addr) (fs:List (Str×V)) (h:Heap):Prop:=∃ mA,h.Ns1 dx mA/\∀ f,iF (fs.lookup f) (mA f)
abbrev xdO (dx:Addr) (fs:List (Str×V)):HO:=.ext (KY dx fs)
theorem zA {P:Ms} {w:World} {H:Hp} {h:Heap} {dx:Addr} {fs:List (Str×V)} (e:KY dx fs h):bB P w H h dx (xdO dx fs):=by
 obtain ⟨mA,⟨o,es,ep,h1,h2⟩,h3⟩:=id e;exact ⟨e,⟨o,h1⟩,fun a b ⟨mA,⟨o,es,ep,h1,h2⟩,h3⟩ k=>⟨mA,⟨o,es,ep,k o h1,h2⟩,h3⟩⟩
theorem IT {H:Hp} {a n:Addr} {o u v:HO}:upd (upd (upd H n u) a o) n v=upd (upd H a o) n v:=by
 funext b
 unfold upd
 by_cases h1:b=n
 ·simp [h1]
 ·simp [h1]
def K0 (K:LM) (ta tv:TE) (f:Str):TS:=fun D σ H=>tv σ H fun y H1=>ta σ H1 fun x H2=>∃ a C i,x=.ref a/\oG K C i/\bf K C f /\
 ((H2 a=some (ei a C none)/\∀ dx,H2 dx=none->D.nx σ (upd (upd H2 a (ei a C (some dx))) dx (xdO dx [(f,y)]))) \/
  ∃ dx fs,H2 a=some (ei a C (some dx))/\H2 dx=some (xdO dx fs)/\fs.length<1000/\D.nx σ (upd H2 dx (xdO dx (cI f y fs))))
section
variable {X:Cx} {pins:List (Addr×Obj)} {σ:St} {H:Hp} {s:LU} {a C i dx:Addr} {fs:List (Str×V)} {f:Str} {y:V} {u:Value} {A:MY} {E:Value->LU->Prop}
theorem JK {Q:Unit->LU->Prop} (I:Inv X pins σ H s) (e:H a=some (ei a C none)) (c:oG X.K C i) (n:bf X.K C f) (ry:RelV y u)
  (h:∀ dx s',H dx=none->Inv X pins σ (upd (upd H a (ei a C (some dx))) dx (xdO dx [(f,y)])) s'->Q () s'):wpAny (model X.prog X.w) A (setAttr (.ref a) f u) Q E s:=by
 obtain ⟨⟨oe,vs,e1,e2,e3,e4,e5⟩,_,_⟩:=(show bB X.prog X.w H s.heap a (ei a C none) from I.hok a _ e);obtain ⟨oc,od,odt,sl⟩:=oe;dsimp only at e2 e3 e4;subst e2 e3 e4;refine HE I.kIn e1 c n fun h' hn hs=>?_;have fr:=I.hok.fresh (Mi s.heap.objs.size);have nea:s.heap.objs.size≠a:=OX (Me e1);have g1:(s.heap.push MT).get? s.heap.objs.size=some MT:=Mx s.heap rfl;have I1:=I.laid (a:=s.heap.objs.size) (o:=xdO s.heap.objs.size []) (h':=s.heap.push MT) (t':=s.toks+2) (fun b u q=>LV _ q) (Mi _)
  (zA ⟨fun _=>none,Q0 ⟨MT,#[],_,g1,rfl,(fun e he=>absurd he (by simp)),fun _=>rfl⟩,fun _=>NM⟩)
 have ea:upd H s.heap.objs.size (xdO s.heap.objs.size []) a=some (ei a C none):=by rw [aq (NV nea)];exact e
 have g2:=NC (fun o:Obj=>{ o with dict:=some s.heap.objs.size }) (LV MT e1) rfl;have I2:=I1.write (x:=a) (e:=a) (o:=ei a C (some s.heap.objs.size)) (t':=s.toks+2) (h':=(s.heap.push MT).update a fun o=>{ o with dict:=some s.heap.objs.size }) (by rw [ea];exact NM) (.inl rfl) (fun b q hb z=>(Nf _ _ (NV hb)).trans z) ⟨_,g2⟩
  (Cg ⟨_,vs,g2,rfl,rfl,rfl,e5⟩)
 have en:upd (upd H s.heap.objs.size (xdO s.heap.objs.size [])) a (ei a C (some s.heap.objs.size)) s.heap.objs.size=some (xdO s.heap.objs.size []):=by rw [aq nea,ao]
 have I3:=I2.write (x:=s.heap.objs.size) (e:=s.heap.objs.size) (o:=xdO s.heap.objs.size [(f,y)]) (t':=s.toks+2) (h':=h') (by rw [en];exact NM) (.inl rfl) (fun b q hb z=>(hs.2 b hb).trans z) (let ⟨o,_,_,e',_⟩:=hn;⟨o,e'⟩)
  (zA ⟨_,hn,fun g=>by
   by_cases q:g=f
   ·subst q;rw [if_pos rfl,Se];exact ry
   ·rw [if_neg q];have:Pt g [(f,y)]=none:=by
     rw [Nk];have z:(g == f)=false:=by simpa using q
     rw [z];rfl
    rw [this];exact NM⟩)
 rw [IT] at I3;exact h _ _ fr I3
theorem JI {Q:Unit->LU->Prop} (I:Inv X pins σ H s) (e:H a=some (ei a C (some dx))) (ed:H dx=some (xdO dx fs)) (hl:fs.length<1000) (c:oG X.K C i) (n:bf X.K C f) (ry:RelV y u)
  (h:∀ s',Inv X pins σ (upd H dx (xdO dx (cI f y fs))) s'->Q () s'):wpAny (model X.prog X.w) A (setAttr (.ref a) f u) Q E s:=by
 obtain ⟨⟨oe,vs,e1,e2,e3,e4,e5⟩,_,_⟩:=(show bB X.prog X.w H s.heap a (ei a C (some dx)) from I.hok a _ e);obtain ⟨oc,od,odt,sl⟩:=oe;dsimp only at e2 e3 e4;subst e2 e3 e4;obtain ⟨⟨mA,hn,r⟩,_,_⟩:=(show bB X.prog X.w H s.heap dx (xdO dx fs) from I.hok dx _ ed);have wi:QF mA (fs.map (·.1)):=fun g hg=>by
  have z:=r g;cases q:fs.lookup g with
  | none=>rw [q] at z;exact absurd (iF.none_of z) hg
  | some v =>
   rcases Classical.em (g∈fs.map (·.1)) with m|m
   ·exact m
   ·rw [sJ m] at q;cases q
 refine Gj I.kIn e1 hn wi (by rw [LO,NJ];omega) c n fun h' hn' hs=>h _ ?_
 refine I.write (x:=dx) (e:=dx) (by rw [ed];exact NM) (.inl rfl) (fun b q hb z=>(hs.2 b hb).trans z) (let ⟨o,_,_,e',_⟩:=hn';⟨o,e'⟩) (zA ⟨_,hn',fun g=>?_⟩)
 rw [mF]
 by_cases q:g=f
 ·rw [if_pos q,if_pos q];exact ry
 ·rw [if_neg q,if_neg q];exact r g
theorem Ee {o value:Expr} {pos pos':Pos} {ta tv:TE} (K:LM) (hK:X.K=K) (ha:PE X o ta) (hv:PE X value tv) (hs:swapsWith value (some (.Attribute o f pos')) pos.line X.env=pure false):PS X (.Assign [.Attribute o f pos'] value pos) (K0 K ta tv f):=by
 subst hK;intro pins s σ H D I h;refine P4 (thn (hv pins s σ H _ I h) fun u s1 ⟨y,H1,I1,ry,q⟩=>thn (ha pins s1 σ H1 _ I1 q) fun ov s2 ⟨x,H2,I2,rx,a,C,i,ex,c,n,q2⟩=>?_) hs;subst ex;obtain rfl:ov=Mw a:=rx;rcases q2 with ⟨e,q2⟩|⟨dx,fs,e,ed,hl,q2⟩
 ·exact JK I2 e c n ry fun dx s3 hd I3=>⟨σ,_,I3,q2 dx hd⟩
 ·exact JI I2 e ed hl c n ry fun s3 I3=>⟨σ,_,I3,q2⟩
end
section
variable {prog:Ms} {w:World} {A:MY} {E:Value->LU->Prop} {s:LU} {env:Env} {C:Addr} {Q:Flow->LU->Prop}
theorem DU {N:Addr} {nm qn:Str} {bs bm:List Value} {hdct:Bool} {sn:List Str} {sub:List Value} {ab:Bool} {col:Option Bool} {dd:Option Addr} {k0 k1 k2 k3 k5:Option Value} {newId:String} {x:Sem Value} (hB:bm.contains (.type "BaseException")=true) (hh:A.handled=none)
  (h:wpAny (model prog w) A x (fun v s₁=>∃ e d,v=.ref e/\s₁.heap.get? C=some (excClassObj nm qn C N bs bm hdct sn sub ab col dd k0 k1 k2 k3 k5 newId)/\pI s₁.heap e C d/\E (.ref e) s₁) E s) :
  wpAny (model prog w) A (raiseStmt env (some x) none) Q E s:=by
 have hcB:(Mw C :: bm).contains (.type "BaseException")=true:=by rw [List.contains_cons,hB,Bool.or_true]
 unfold raiseStmt;refine LN (Nj h (fun v s₁ ⟨e,di,ev,hC,⟨oe,vs,he,hc,hd,hf,h1⟩,hE⟩=>?_) fun _ _ z=>z);subst ev;obtain ⟨hp,g,d,tk,os⟩:=s₁;obtain ⟨oc,od,odt,sl⟩:=oe;dsimp only at hc hd hf;subst hc hd hf
 repeat (first|with_reducible refine Pj hC ?_|with_reducible refine Pj he ?_|(with_reducible refine Oj he rfl h1 ?_)|(with_reducible refine SK hC ?_;rw [hcB])|wp_step)
 exact wpAny_raiseNew_none hh hE
end
def Cb (C:Addr) (sp:Sp) (E:XK) (ta:TA):TS:=fun _ σ H=>ta σ H fun vs H1=>vs.length<=MB/\∀ y,H1 y=none ->
 sp (.ref y :: vs) (upd H1 y (ei y C none)) (fun v H2=>v=.non/\∃ d,H2 y=some (ei y C d)/\E (.ref C) d (del H2 y)) E0
section
variable {X:Cx} {pins:List (Addr×Obj)} {σ:St} {H:Hp} {s:LU} {E:XK} {C:Addr}
theorem Inv.drop {n:Addr} {φ:Heap->Prop} (I:Inv X pins σ H s) (e:H n=some (.ext φ)) (nx:X.s₀.heap.get? n=none):Up X pins σ (del H n) s n []:=by
 have ne:∀ b,H b=none->del H n b=none:=fun b z=>by unfold del;split <;> first|rfl|exact z
 have nn:∀ b u,H b=some u->u≠.ext φ->del H n b=some u:=fun b u q z=>by
  rw [gK (fun y=>z (by rw [y,e] at q;cases q;rfl))];exact q
 refine ⟨⟨I.ok,I.os,I.bare,⟨I.base.keep,I.base.slot,fun b o q m hx=>ne b (I.base.free b o q m hx),I.base.there,fun b xs q=>nn b _ (I.base.jP b xs q) (by intro z;cases z),fun b o u q=>nn b _ (I.base.i8 b o u q) (by intro z;cases z),fun b ps q=>?_⟩,
  I.loc,I.cell,ne _ I.free,fun x c q=>ne _ (I.fC x c q),fun p hp=>?_,fun b u q=>?_,I.len⟩,by unfold del;rw [if_pos rfl],fun b hb=>absurd hb (by simp),nx,fun b hb=>absurd hb (by simp),fun p hp=>⟨fun z=>?_,by simp⟩⟩
 ·obtain ⟨m,q⟩:=I.base.jQ b ps q;exact ⟨m,nn b _ q (by intro z;cases z)⟩
 ·obtain ⟨a1,a2,a3⟩:=I.pin p hp;exact ⟨a1,ne _ a2,a3⟩
 ·have bn:b≠n:=fun z=>by unfold del at q;rw [if_pos z] at q;cases q
  rw [gK bn] at q;exact (I.hok b u q).oi (fun _ _ _ z=>z) (fun c z=>nn c _ z (by intro y;cases y)) fun c xs z=>nn c _ z (by intro y;cases y)
 ·have q:=(I.pin p hp).2.1;rw [z,e] at q;cases q
theorem FX {k:Nat} {f:Addr} {fd:M9} {ps:List Str} {sp:Sp} {x:Str} {np cpos pos:Pos} {e:Expr} {es:List Expr} {ta:TA} (c:oG X.K C f) (F:aI X.prog X.w X.K X.mg X.base CX0 k f fd ps sp) (hb:Binds X.K fd ps []) (hr:bT (k+1) X.A)
  (hL:Lets X E) (hex:X.ex=[]) (hcalm:X.calm=true) (hg:Gl X x) (hm:X.mg x=some (.ref C)) (ha:PA X (e :: es) ta) (hn:isStar e=false:=by rfl) (hall:es.all (fun e=>!isStar e)=true:=by rfl) (hdb:(x == ("__debug__" : Str))=false:=by decide) :
  PS X (.Raise (some (.Call (.Name x np) (e :: es) [] cpos)) none pos) (Cb C sp E ta):=by
 intro pins s σ H D I h;obtain ⟨bm,N,nm,qn,bs,hdct,sn,sub,ab,col,dd,k0,k1,k2,k3,k5,hC,T⟩:=xq I.mod.kin c.ob;have hB:=T.hasType Pk.hasBase;rw [arm_exec_Raise];refine LN (PF (DU (C:=C) (nm:=nm) (qn:=qn) (N:=N) (bs:=bs) (bm:=bm) (hdct:=hdct) (sn:=sn) (sub:=sub) (ab:=ab) (col:=col) (dd:=dd) (k0:=k0) (k1:=k1) (k2:=k2) (k3:=k3) (k5:=k5) (newId:=n8) hB (I.ok.hd hcalm) ?_));refine LN (Nj (OE (kI I hg hm ?_ hdb)) (fun v s3 h3=>LN (PF (Mb h3))) fun _ _ z=>z);refine OF (h₀:=X.base) I.ok.mod.kin c.kp (thn (ha cpos pins s σ H _ I h) fun us s1 ⟨vs,H1,I1,r,hz,q⟩=>⟨I1.kIn,?_⟩) (bD hn) (cg hall);have fr:s1.heap.objs.size<=s1.heap.objs.size+1:=OL _;have hq:=q (s1.heap.objs.size+1) (I1.hok.fresh fr);have hx:((s1.heap.push (tK us)).push (sW C s1.heap.objs.size)).get? (s1.heap.objs.size+1)=some (sW C s1.heap.objs.size):=by heap_get
 have I2:Inv X pins σ (upd H1 (s1.heap.objs.size+1) (ei (s1.heap.objs.size+1) C none)) { s1 with heap:=(s1.heap.push (tK us)).push (sW C s1.heap.objs.size) } :=
  I1.laid (t':=s1.toks) (fun b u q=>LV _ (LV _ q)) fr (Cg ⟨_,_,hx,rfl,rfl,rfl,rfl⟩)
 have r2:Vals (V.ref (s1.heap.objs.size+1) :: vs) (Mw (s1.heap.objs.size+1) :: us):=.cons rfl r;have hl:(Mw (s1.heap.objs.size+1) :: us++[]).length=ps.length:=by
  have e:=r2.length;rw [F.len _ _ _ _ hq] at e;rw [OQ];exact e.symm
 have hb':=hb _ (Mw (s1.heap.objs.size+1) :: us) I2.kIn hl;rw [OQ] at hb';refine Q1 (G9 I1.kIn c (show us.length<=MB by rw [<- r.length];exact hz) (OD (F.run _ X.stack _ _ ⟨Mw (s1.heap.objs.size+1) :: us,[]⟩ (Mw (s1.heap.objs.size+1) :: us) _ _ _ (hr.make C us []) (I2.Dn.make C us []) hb' r2 hq) fun r s' hq'=>?_))
 cases r with
 | error e=>exact Nh hq'
 | ok fl =>
  cases fl with
  | ret u =>
   obtain ⟨v,H',I3,rv,ev,d,hy,qE⟩:=I2.after hq';subst ev;obtain ⟨hN,_,_⟩:=(show bB X.prog X.w H' s'.heap _ (ei (s1.heap.objs.size+1) C d) from I3.hok _ _ hy);exact ⟨rv,_,d,rfl,I3.bk _ _ hC,hN,hL pins σ _ s' _ C d (I3.drop hy (So (Na I1.sz fr))) hN qE⟩
  | next=>exact Nh hq'
  | brk=>exact Nh hq'
  | cont=>exact Nh hq'
end
section
open PySem.Calls PySem.Builtin PySem.Builtin.ObjectAttr
variable {prog:Ms} {w:World} {A:MY} {E:Value->LU->Prop} {K:LM} {x C dx:Addr} {di:Option Addr} {h:Heap} {g:Array Qc} {d:Drawn} {t:Nat} {os:OsState} {name:Str} {v:Value} {mA:Str->Option Value}
theorem Hu {M:Model} (X:K.In h) (e:ka x C (some dx) h) (hn:h.Ns1 dx mA) (hd:Nb K C=true) (ha:bf K C name) (hv:mA name=some v):Oq M h (find (.ref x) (.ref C) name) (.value v):=by
 obtain ⟨⟨oc,od,odt,sl⟩,vs,e1,e2,e3,e4⟩:=e;dsimp only at e2 e3 e4;subst e2 e3 e4;obtain ⟨od,ho,hl⟩:=so hn;exact PySem.W.looks_find X (ox:=⟨.ref C,some dx,.fields vs,sl⟩) ⟨e1,rfl,rfl,ho⟩ (SE hd ha rfl (by rw [hl,hv]))
theorem Js {expr:Bool} {Q:Value->LU->Prop} (X:K.In h) (c:cq K C) (e:ka x C (some dx) h) (hn:h.Ns1 dx mA) (hd:Nb K C=true) (ha:bf K C name) (hv:mA name=some v) (hv':Ry v=true)
  (hq:Q v ⟨h,g,d,t+1,os⟩):wpAny (model prog w) A (getAttr (.ref x) name expr) Q E ⟨h,g,d,t,os⟩:=by
 have L0:=pY (M:=model prog w) e;have L1:=NK (M:=model prog w) X c.ga;have L2:=NK (M:=model prog w) X c.gt;have L3:=Hu (M:=model prog w) X e hn hd ha hv;have f3:=Pa.ga.bind (.ref x);have ho:=PySem.W.handedOut_of hv';unfold getAttr getAttrBy;refine LN (wpAny_mkText (Nl (LN (L0.at (LN (L1.at ?_))))));show wpAny _ _ (getAttrByItsOwn _ _ _ _ _ _) _ _ _;unfold getAttrByItsOwn hookBefore;refine LN ?_;rw [if_pos (by rfl)]
 refine L2.at ?_;refine LN (Ph (Nl ?_));unfold callGetattribute;rw [show (expr && onTheHeap (Value.builtin "BaseException.__getattribute__"))=false by cases expr <;> rfl,if_neg (by decide)]
 unfold boundAndCalled
 repeat (any_goals (first|assumption|wp_step))
 refine OM Pa.ga.plain F.entry_bexc_ga (xv X c e ?_)
 repeat (any_goals (first|assumption|with_reducible refine PySem.W.Looks.at (by assumption) ?_|wp_step))
end
def KN (K:LM) (ta:TE) (f:Str):TE:=fun σ H Q=>ta σ H fun x H1=>∃ a C dx fs v,x=.ref a/\H1 a=some (iD a C (some dx))/\H1 dx=some (xdO dx fs)/\cq K C/\Nb K C=true/\bf K C f/\fs.lookup f=some v/\Q v H1
theorem tH {X:Cx} {e:Expr} {f:Str} {pos:Pos} {ta:TE} (K:LM) (hK:X.K=K) (he:PE X e ta) (hb:attributeBase e f X.env (eval e X.env)=eval e X.env):PE X (.Attribute e f pos) (KN K ta f):=by
 subst hK;intro pins s σ H Q I h;refine Cz hb (thn (he pins s σ H _ I h) fun u s1 ⟨x,H1,I1,rx,a,C,dx,fs,v,ex,ea,ed,c,hd,n,l,q⟩=>?_);subst ex;obtain rfl:u=Mw a:=rx;obtain ⟨p,_,_⟩:=(show bB X.prog X.w H1 s1.heap a (iD a C (some dx)) from I1.hok a _ ea);obtain ⟨⟨mA,hn,r⟩,_,_⟩:=(show bB X.prog X.w H1 s1.heap dx (xdO dx fs) from I1.hok dx _ ed);obtain ⟨w',hw,rw'⟩:=iF.some_of (v:=v) (o:=mA f) (by rw [<- l];exact r f)
 obtain ⟨hh,g,d,t,os⟩:=s1;exact Js I1.kIn c p hn hd n hw (yh rw') ⟨v,H1,I1.tok _,rw',q⟩
section
variable {K:LM} {σ:St} {H:Hp} {Q:VK} {D:Ends} {ta tv:TE} {tA:TA} {f:Str} {E:XK} {C:Addr} {sp:Sp}
theorem zg (h:ta σ H fun x H1=>∃ a C dx fs v,x=.ref a/\H1 a=some (iD a C (some dx))/\H1 dx=some (xdO dx fs)/\cq K C/\Nb K C=true/\bf K C f/\fs.lookup f=some v/\Q v H1):KN K ta f σ H Q:=h
theorem GL (h:tA σ H fun vs H1=>vs.length<=MB/\∀ y,H1 y=none ->
 sp (.ref y :: vs) (upd H1 y (ei y C none)) (fun v H2=>v=.non/\∃ d,H2 y=some (ei y C d)/\E (.ref C) d (del H2 y)) E0):Cb C sp E tA D σ H:=h
theorem ET (h:tv σ H fun y H1=>ta σ H1 fun x H2=>∃ a C i,x=.ref a/\oG K C i/\bf K C f /\
 ((H2 a=some (ei a C none)/\∀ dx,H2 dx=none->D.nx σ (upd (upd H2 a (ei a C (some dx))) dx (xdO dx [(f,y)]))) \/
  ∃ dx fs,H2 a=some (ei a C (some dx))/\H2 dx=some (xdO dx fs)/\fs.length<1000/\D.nx σ (upd H2 dx (xdO dx (cI f y fs))))):K0 K ta tv f D σ H:=h
end
def Fld (H:Hp) (d:Option Addr) (l:List (Str×V)):Prop:=∃ dx fs,d=some dx/\H dx=some (xdO dx fs)/\∀ p∈l,fs.lookup p.1=some p.2
theorem Fld.mono {H H':Hp} {d:Option Addr} {l:List (Str×V)} (s:aj H H'):Fld H d l->Fld H' d l
 | ⟨dx,fs,e,h,k⟩=>⟨dx,fs,e,s _ _ h,k⟩
def IB (C:Addr) (ns:List Str):Sp:=fun vs H Q _=>∃ (x:Addr) (as:List V),vs=.ref x :: as/\as.length=ns.length/\H x=some (ei x C none) /\
 ∀ dx fs,H dx=none->(∀ p∈ns.zip as,fs.lookup p.1=some p.2)->Q .non (upd (upd H x (ei x C (some dx))) dx (xdO dx fs))
theorem G0 {H:Hp} {E:XK} {C:Addr} {vs:List V} {ns:List Str} (hl:vs.length=ns.length) (hz:vs.length<=1000) (h:∀ d H2,aj H H2->Fld H2 d (ns.zip vs)->E (.ref C) d H2) :
  vs.length<=MB/\∀ y,H y=none->IB C ns (.ref y :: vs) (upd H y (ei y C none)) (fun v H2=>v=.non/\∃ d,H2 y=some (ei y C d)/\E (.ref C) d (del H2 y)) E0:=by
 refine ⟨small hz,fun y hy=>⟨y,vs,rfl,hl,ao,fun dx fs hd hf=>⟨rfl,some dx,?_,?_⟩⟩⟩
 ·have ne:dx≠y:=fun z=>by rw [z,ao] at hd;cases hd
  rw [aq (NV ne),ao]
 ·have ne:dx≠y:=fun z=>by rw [z,ao] at hd;cases hd
  rw [aq ne] at hd;refine h _ _ (fun b o q=>?_) ⟨dx,fs,rfl,?_,hf⟩
  ·rw [gK (aA q hy),aq (aA q hd),aq (aA q hy),aq (aA q hy)];exact q
  ·rw [gK ne,ao]
def flagsOf (K:LM) (C:Addr) (Ds:List Addr):List (Option Bool):=Ds.map fun D=>MJ K (.ref C) (.ref D)
def mS (n k:Nat):List Bool:=(L4 n).map fun i=>decide (i=k)
section
variable {P:Ms} {w:World} {K:LM} {mg:Str->Option Value} {base:Heap} {x qual:Str} {st:Stmt} {f:Addr} {fd:M9} {N ps:List Str} {k:Nat} {sp:Sp}
theorem pD.okX (F:pD K x qual st f fd) (S:aN N ps (ag st)) (len:∀ vs H Q E,sp vs H Q E->vs.length=ps.length)
  (hbody:∀ (cdv:Value) (A:MY) (outer:List Env) (s:LU) (H:Hp) (vs:List V) (Q:VK) (E:XK),bT k (A.deeper (envOfC qual (ag st) s.heap.objs.size f cdv))->sp vs H Q E ->
   ∃ t,((cxR P w K mg base N qual (ag st) f cdv A outer s H E).Ok->PSs (cxR P w K mg base N qual (ag st) f cdv A outer s H E) (aG st) t)/\t { nx:=fun _ H'=>Q .non H',rt:=Q } (start N vs) H):aI P w K mg base (CXR P w) (k+1) f fd ps sp:=by
 obtain ⟨oc,od,D,kV,doc,pm,an,cdv,ct,osl,dc,dd,n,dsl,rfl,lk,hcd,_⟩:=F.ex;refine zf lk hcd S len fun A outer s H vs Q E hr hsp=>?_;obtain ⟨t,h,q⟩:=hbody cdv A outer s H vs Q E hr hsp;exact ⟨t,fun pins s' σ H' D I z=>Nj (h (I.iZ _).ok pins s' σ H' D (I.iZ _) z) (fun _ _ y=>y.dU) fun _ _ y=>xI y,q⟩
end
section
variable {X:Cx} {x y:Str} {st:Stmt} {ps:List Str} {k j:Nat} {sp:Sp} {p pos:Pos} {e:Expr} {es:List Expr} {t:TA} {E:XK}
theorem EZ (d:DfD X.K X.mg x st ps y j) (G:aI X.prog X.w X.K X.mg X.base (CXR X.prog X.w) k d.f d.fd ps sp) (hr:bT k X.A) (hg:Gl X x) (hx:Passes (CXR X.prog X.w) X E) (ha:PA X (e :: es) t) (hn:isStar e=false:=by rfl) (hall:es.all (fun e=>!isStar e)=true:=by rfl) (hdb:(x == ("__debug__" : Str))=false:=by decide) :
  PE X (.Call (.Name x p) (e :: es) [] pos) (oR sp [] E t):=tO G hr hg d.nm d.fn.kp d.bd .nil hx ha hdb (bD hn) (cg hall)
end
theorem aI.orR {P:Ms} {w:World} {K:LM} {mg:Str->Option Value} {base:Heap} {k:Nat} {f:Addr} {fd:M9} {ps:List Str} {sp1 sp2:Sp} (F1:aI P w K mg base (CXR P w) k f fd ps sp1) (F2:aI P w K mg base (CXR P w) k f fd ps sp2):aI P w K mg base (CXR P w) k f fd ps (fun vs H Q E=>sp1 vs H Q E\/sp2 vs H Q E) :=
 ⟨fun vs H Q E h=>h.elim (F1.len vs H Q E) (F2.len vs H Q E),fun A outer s H args us vs Q E hr he hb hv h=>h.elim (F1.run A outer s H args us vs Q E hr he hb hv) (F2.run A outer s H args us vs Q E hr he hb hv)⟩
section
variable {prog:Ms} {w:World} {A:MY} {R:QZ->LU->Prop} {s:LU}
end
section
variable {X:Cx} {scope:Scope} {own:List Str} {fr fp:List Addr} {C:Addr} {s₂:LU} {H₂:Hp} {E:XK} {pins:List (Addr×Obj)} {σ:St}
end
section
variable {X:Cx} {elt tg iter:Expr} {ifs:List Expr} {scope:Scope} {pos:Pos} {own:List Str} {fr:List Nat} {wi:TI} {g:TG} {tt:TT} {te:TE}
end
end L2
set_option maxHeartbeats 4000000
namespace TB
open PySem L2
seal PE PA PS PSs PT PI PG PGs PO
local macro_rules | `(tactic| walk_at "rd1")=>`(tactic| with_reducible first
 | refine vM (fun _ _=>?_)|refine r9 (by assumption) ?_|refine vm ?_|refine yW ?_|refine sH ?_|refine vw ?_|refine zk ?_|refine r_retN ?_|refine HP ?_
 | refine r_C ?_|refine CZ ?_|refine DX ?_|refine zo ?_|refine vL ?_|refine vv ?_|refine vx ?_|refine De ?_|refine Di ?_
 | refine y7 ?_|refine C3 ?_|refine zc ?_|refine v9 ?_|refine za ?_|refine vV ?_|refine r_if ?_|refine y9 ?_|refine vh ?_|refine Dw ?_|refine wj ?_|refine bZ ?_|refine oX ?_
 | refine yX ?_|refine uh ?_|refine uc ?_|refine v5 ?_|refine CL ?_|refine qK ?_|refine vW ?_|refine vG ?_|refine DL ?_|refine yZ ?_|refine vI ?_|refine vj ?_|refine yV ?_|refine vE ?_|refine vC ?_|refine ug ?_
 | refine zp ?_|refine vb ?_|refine v7 ?_|refine vz ?_|(refine' y8 ?e ?_;(case e=>with_unfolding_all exact rfl)))
local macro_rules | `(tactic| walk_at "rs1")=>`(tactic| with_reducible first
 | refine vM (fun _ _=>?_)|refine r9 (by assumption) ?_|refine vm ?_|refine yW ?_|refine sH ?_|refine vw ?_|refine zk ?_|refine r_retN ?_
 | refine r_C ?_|refine CZ ?_|refine DX ?_|refine zo ?_|refine vL ?_|refine vv ?_|refine vx ?_|refine De ?_|refine Di ?_
 | refine y7 ?_|refine C3 ?_|refine zc ?_|refine v9 ?_|refine za ?_|refine vV ?_|refine r_if ?_|refine y9 ?_|refine vh ?_|refine Dw ?_|refine wj ?_|refine bZ ?_|refine oX ?_
 | refine yX ?_|refine uh ?_|refine uc ?_|refine v5 ?_|refine CL ?_|refine qK ?_|refine vW ?_|refine vG ?_|refine DL ?_|refine yZ ?_|refine vI ?_|refine vj ?_|refine yV ?_|refine vE ?_|refine vC ?_|refine ug ?_
 | refine zp ?_|refine vb ?_|refine v7 ?_|refine vz ?_|(refine' y8 ?e ?_;(case e=>with_unfolding_all exact rfl)))
local macro_rules | `(tactic| walk_at "rs")=>`(tactic| repeat walk_at "rs1")
local macro_rules | `(tactic| walk_at "rd")=>`(tactic| repeat walk_at "rd1")
local macro_rules | `(tactic| walk_at "rw1")=>`(tactic| with_reducible first
 | refine vM (fun _ _=>?_)|refine r9 (by assumption) ?_|refine vm ?_|refine yW ?_|refine sH ?_|refine vw ?_|refine zk ?_|refine r_retN ?_
 | refine r_C ?_|refine CZ ?_|refine DX ?_|refine zo ?_|refine vL ?_|refine vv ?_|refine vx ?_|refine De ?_|refine Di ?_
 | refine y7 ?_|refine C3 ?_|refine zc ?_|refine v9 ?_|refine za ?_|refine vV ?_|refine r_if ?_|refine y9 ?_|refine vh ?_|refine Dw ?_|refine wj ?_
 | refine yX ?_|refine uh ?_|refine uc ?_|refine v5 ?_|refine CL ?_|refine qK ?_|refine vW ?_|refine vG ?_|refine DL ?_|refine yZ ?_|refine vI ?_|refine vj ?_|refine yV ?_|refine vE ?_|refine vC ?_|refine ug ?_
 | refine zp ?_|refine vb ?_|refine v7 ?_|refine vz ?_|(refine' y8 ?e ?_;(case e=>with_unfolding_all exact rfl)))
local macro_rules | `(tactic| walk_at "rw")=>`(tactic| repeat walk_at "rw1")
local macro_rules | `(tactic| walk_at "wr")=>`(tactic| repeat (first|exact jS|refine t6 ?_ ?_|refine FQ ?_ (by decide)|exact E5 rfl))
local macro_rules | `(tactic| walk_at "rn1")=>`(tactic| with_reducible first
 | refine vM (fun _ _=>?_)|refine r9 (by assumption) ?_|refine vm ?_|refine yW ?_|refine sH ?_|refine vw ?_|refine zk ?_|refine r_retN ?_
 | refine LG ?_|refine r_C ?_|refine CZ ?_|refine DX ?_|refine Lx ?_|refine J7 ?_|refine Li ?_|refine Lw ?_|refine Lb ?_|refine r_leN ?_|refine K6 ?_|refine Lh ?_
 | refine zL (by first|assumption|omega) ?_|refine zE (by first|assumption|omega) (by first|assumption|omega) ?_|refine zV (by omega) ?_
 | refine zo ?_|refine vL ?_|refine vv ?_|refine vx ?_|refine De ?_|refine Di ?_
 | refine y7 ?_|refine C3 ?_|refine zc ?_|refine v9 ?_|refine za ?_|refine vV ?_|refine r_if ?_|refine y9 ?_|refine vh ?_|refine Dw ?_|refine wj ?_
 | refine yX ?_|refine uh ?_|refine uc ?_|refine v5 ?_|refine CL ?_|refine qK ?_|refine vW ?_|refine vG ?_|refine DL ?_|refine r_bm0 ?_|refine yZ ?_|refine vI ?_|refine vj ?_|refine yV ?_|refine vE ?_|refine vC ?_|refine ug ?_
 | refine zp ?_|refine vb ?_|refine v7 ?_|refine vz ?_|(refine' y8 ?e ?_;(case e=>with_unfolding_all exact rfl)))
local macro_rules | `(tactic| walk_at "rx1")=>`(tactic| first|walk_at "rn1" | refine bF (by assumption) (by rfl) ?_|refine cX (by assumption) ?_|refine wQ (by assumption) ?_|refine II (by assumption) ?_)
local macro_rules | `(tactic| walk_at "rx")=>`(tactic| repeat walk_at "rx1")
local macro_rules | `(tactic| walk_at "ifs")=>`(tactic| with_reducible refine HP ?_)
local macro_rules | `(tactic| walk_at "rn")=>`(tactic| repeat walk_at "rn1")
local macro_rules | `(tactic| walk_at "1") => `(tactic| (walk_at "rn";refine dF ?_;walk_at "rn";walk_at "ifs";walk_at "rn"))
local macro_rules | `(tactic| walk_at "2") => `(tactic| (walk_at "rn";walk_at "ifs";walk_at "rn"))
local macro_rules | `(tactic| walk_at "3") => `(tactic| (walk_at "rn";refine bZ ?_;walk_at "rn"))
local macro_rules | `(tactic| walk_at "4") => `(tactic| (walk_at "rx";walk_at "ifs";walk_at "rx"))
local macro_rules | `(tactic| walk_at "5") => `(tactic| (walk_at "rx";refine bZ ?_;walk_at "rx"))
local macro_rules | `(tactic| walk_at "6") => `(tactic| (walk_at "rn";refine oX ?_;walk_at "rn"))
local macro_rules | `(tactic| walk_at "7") => `(tactic| (walk_at "rg";walk_at "ifs";walk_at "rg"))
local macro_rules | `(tactic| walk_at "8") => `(tactic| (walk_at "rn";refine dF ?_;walk_at "rn"))
local macro_rules | `(tactic| walk_at "9") => `(tactic| (refine dF ?_;walk_at "rx"))
def top (i:Nat):Stmt:=PySem.Challenge.pw_tracebook_k46_refused_lifts.main.body.getD i (.Pass ⟨0,0,0,0⟩)
abbrev ig:Stmt:=top 21
abbrev gU:Stmt:=top 22
abbrev dy:Stmt:=top 23
abbrev kB:Stmt:=top 24
abbrev gP:Stmt:=top 25
abbrev ir:Stmt:=top 26
abbrev kG:Stmt:=top 27
abbrev dO:Stmt:=top 28
abbrev nW:Stmt:=top 29
abbrev kL:Stmt:=top 30
abbrev gA:Stmt:=top 32
abbrev kF:Stmt:=top 33
abbrev fh:Stmt:=top 34
abbrev lV:Stmt:=top 35
abbrev dM:Stmt:=top 36
abbrev kP:Stmt:=top 37
abbrev jd:Stmt:=top 38
abbrev eE:Stmt:=top 39
abbrev lU:Stmt:=top 40
abbrev ff:Stmt:=top 43
abbrev kA:Stmt:=top 45
abbrev eG:Stmt:=top 46
abbrev fG:Stmt:=top 47
abbrev iO:Stmt:=top 48
abbrev fw:Stmt:=top 53
abbrev jD:Stmt:=top 56
abbrev iR:Stmt:=top 57
abbrev jH:Stmt:=top 58
abbrev jy:Stmt:=top 59
abbrev gR:Stmt:=top 60
abbrev kK:Stmt:=top 61
abbrev iq:Stmt:=top 62
abbrev iM:Stmt:=top 63
abbrev eV:Stmt:=top 64
abbrev iW:Stmt:=top 65
abbrev jk:Stmt:=top 66
abbrev iU:Stmt:=top 67
abbrev eX:Stmt:=top 68
abbrev iN:Stmt:=top 69
abbrev fB:Stmt:=top 70
abbrev hX:Stmt:=top 71
abbrev eJ:Stmt:=top 72
abbrev iQ:Stmt:=top 73
abbrev ic:Stmt:=top 74
abbrev gM:Stmt:=top 75
abbrev dH:Stmt:=top 76
abbrev d9:Stmt:=top 77
abbrev jE:Stmt:=top 78
abbrev gG:Stmt:=top 79
abbrev jf:Stmt:=top 80
abbrev iY:Stmt:=top 81
abbrev kJ:Stmt:=top 82
abbrev mK:Stmt:=top 83
abbrev gC:Stmt:=inClass (top 13) 0
abbrev gS:Stmt:=inClass (top 20) 0
abbrev jF:Stmt:=inClass (top 50) 0
abbrev iS:Stmt:=inClass (top 50) 1
abbrev dP:Stmt:=inClass (top 51) 0
abbrev eB:Stmt:=inClass (top 52) 0
abbrev eA:Stmt:=inClass (top 54) 0
theorem mD:aN ["table","rows","unit","backs"] ["table"] (ag ig):=⟨rfl,rfl,rfl,by trivial,rfl,by trivial,by trivial⟩
theorem ng:aN ["rows","many","row"] ["rows"] (ag gU):=⟨rfl,rfl,rfl,by trivial,rfl,by trivial,by trivial⟩
theorem fL:aN ["rows","many","row","column"] ["rows"] (ag dy):=⟨rfl,rfl,rfl,by trivial,rfl,by trivial,by trivial⟩
theorem wz:aN ["rows","thing"] ["rows"] (ag kB):=⟨rfl,rfl,rfl,by trivial,rfl,by trivial,by trivial⟩
theorem rC:aN ["rows","thing","other"] ["rows","thing"] (ag gP):=⟨rfl,rfl,rfl,by trivial,rfl,by trivial,by trivial⟩
theorem Bq:aN ["rows","unit"] ["rows","unit"] (ag ir):=⟨rfl,rfl,rfl,by trivial,rfl,by trivial,by trivial⟩
theorem wk:aN ["rows","unit","thing","other"] ["rows","unit","thing"] (ag kG):=⟨rfl,rfl,rfl,by trivial,rfl,by trivial,by trivial⟩
theorem eK:aN ["rows","many","one","two","three"] ["rows"] (ag dO):=⟨rfl,rfl,rfl,by trivial,rfl,by trivial,by trivial⟩
theorem oh:aN ["group","thing","many","reached"] ["group","thing"] (ag nW):=⟨rfl,rfl,rfl,by trivial,rfl,by trivial,by trivial⟩
theorem qQ:aN ["group","orders","many"] ["group"] (ag kL):=⟨rfl,rfl,rfl,by trivial,rfl,by trivial,by trivial⟩
theorem rm:aN ["group","some"] ["group","some"] (ag gA):=⟨rfl,rfl,rfl,by trivial,rfl,by trivial,by trivial⟩
theorem vY:aN ["group","some"] ["group","some"] (ag kF):=⟨rfl,rfl,rfl,by trivial,rfl,by trivial,by trivial⟩
theorem rL:aN ["group","some"] ["group","some"] (ag fh):=⟨rfl,rfl,rfl,by trivial,rfl,by trivial,by trivial⟩
theorem zx:aN ["some"] ["some"] (ag lV):=⟨rfl,rfl,rfl,by trivial,rfl,by trivial,by trivial⟩
theorem dD:aN ["group","some","one","other"] ["group","some"] (ag dM):=⟨rfl,rfl,rfl,by trivial,rfl,by trivial,by trivial⟩
theorem Ak:aN ["group","part","by_thing"] ["group","part"] (ag kP):=⟨rfl,rfl,rfl,by trivial,rfl,by trivial,by trivial⟩
theorem CU:aN ["group","part","thing"] ["group","part","thing"] (ag jd):=⟨rfl,rfl,rfl,by trivial,rfl,by trivial,by trivial⟩
theorem wV:aN ["group","part"] ["group","part"] (ag eE):=⟨rfl,rfl,rfl,by trivial,rfl,by trivial,by trivial⟩
theorem Ai:aN ["group","part"] ["group","part"] (ag lU):=⟨rfl,rfl,rfl,by trivial,rfl,by trivial,by trivial⟩
theorem pA:aN ["many"] ["many"] (ag ff):=⟨rfl,rfl,rfl,by trivial,rfl,by trivial,by trivial⟩
theorem nD:aN ["group","spokes","least"] ["group","spokes"] (ag kA):=⟨rfl,rfl,rfl,by trivial,rfl,by trivial,by trivial⟩
theorem qA:aN ["part","marks","spokes"] ["part","marks","spokes"] (ag eG):=⟨rfl,rfl,rfl,by trivial,rfl,by trivial,by trivial⟩
theorem dN:aN ["group","part","marks","spokes","many","mark","one","other"] ["group","part","marks","spokes"] (ag fG):=⟨rfl,rfl,rfl,by trivial,rfl,by trivial,by trivial⟩
theorem gw:aN ["group","part","marks","spokes","found"] ["group","part","marks","spokes"] (ag iO):=⟨rfl,rfl,rfl,by trivial,rfl,by trivial,by trivial⟩
theorem eI:aN ["group","part","carriers","found","number","carrier","k","thing"] ["group","part"] (ag fw):=⟨rfl,rfl,rfl,by trivial,rfl,by trivial,by trivial⟩
theorem BE:aN ["_law_script","_law_k"] ["_law_script","_law_k"] (ag jD):=⟨rfl,rfl,rfl,by trivial,rfl,by trivial,by trivial⟩
theorem cO:aN ["_law_one_here","_law_two","_law_number","_law_some_here","_law_top","_law_steps","_law_room","_law_first","_law_second","_law_third"] ["_law_one_here","_law_two"] (ag iR):=⟨rfl,rfl,rfl,by trivial,rfl,by trivial,by trivial⟩
theorem uC:aN ["_law_sizes_here","_law_number","_law_kinds"] ["_law_sizes_here","_law_number"] (ag jH):=⟨rfl,rfl,rfl,by trivial,rfl,by trivial,by trivial⟩
theorem gh:aN ["_law_many","_law_steps","_law_number","_law_units","_law_u","_law_found","_law_k"] ["_law_many","_law_steps","_law_number"] (ag jy):=⟨rfl,rfl,rfl,by trivial,rfl,by trivial,by trivial⟩
theorem cE:aN ["_law_place","_law_sizes_here","_law_kind_here","_law_units","_law_x","_law_y","_law_w"] ["_law_place","_law_sizes_here","_law_kind_here","_law_units"] (ag gR):=⟨rfl,rfl,rfl,by trivial,rfl,by trivial,by trivial⟩
theorem lE:aN ["_law_one_here","_law_other","_law_sizes_here","_law_both","_law_x","_law_y","_law_w"] ["_law_one_here","_law_other","_law_sizes_here"] (ag kK):=⟨rfl,rfl,rfl,by trivial,rfl,by trivial,by trivial⟩
theorem cD:aN ["_law_sizes_here","_law_turn","_law_end","_law_calm","_law_rows_here","_law_led","_law_i","_law_one_here","_law_row","_law_j","_law_other","_law_place"] ["_law_sizes_here","_law_turn","_law_end"] (ag iq):=⟨rfl,rfl,rfl,by trivial,rfl,by trivial,by trivial⟩
theorem lu:aN ["_law_many","_law_number","_law_names_here","_law_k"] ["_law_many","_law_number"] (ag iM):=⟨rfl,rfl,rfl,by trivial,rfl,by trivial,by trivial⟩
theorem bw:aN ["_law_script","_law_start","_law_one_here","_law_two","_law_sizes_here","_law_stirred","_law_kind_here","_law_units","_law_k","_law_calm","_law_turn","_law_end","_law_rows_here","_law_names_here","_law_row","_law_table","_law_a","_law_b","_law_thing_here"] ["_law_script","_law_start"] (ag eV):=⟨rfl,rfl,rfl,by trivial,rfl,by trivial,by trivial⟩
theorem zN:aN ["_law_found"] ["_law_found"] (ag iW):=⟨rfl,rfl,rfl,by trivial,rfl,by trivial,by trivial⟩
theorem C4:aN ["_law_table"] ["_law_table"] (ag jk):=⟨rfl,rfl,rfl,by trivial,rfl,by trivial,by trivial⟩
theorem sS:aN ["_law_cell_here","_law_k","_law_many","_law_number"] ["_law_cell_here","_law_k","_law_many"] (ag iU):=⟨rfl,rfl,rfl,by trivial,rfl,by trivial,by trivial⟩
theorem gq:aN ["_law_table","_law_one_here","_law_powers","_law_many"] ["_law_table"] (ag eX):=⟨rfl,rfl,rfl,by trivial,rfl,by trivial,by trivial⟩
theorem gn:aN ["_law_table","_law_thing_here","_law_one_here","_law_found","_law_many"] ["_law_table","_law_thing_here"] (ag iN):=⟨rfl,rfl,rfl,by trivial,rfl,by trivial,by trivial⟩
theorem bG:aN ["_law_table","_law_some_here","_law_spokes_here","_law_cell_here","_law_given","_law_k","_law_size","_law_marks","_law_found","_law_at","_law_good","_law_one_here","_law_mark","_law_thing_here","_law_total","_law_part"] ["_law_table","_law_some_here","_law_spokes_here","_law_cell_here"] (ag fB):=⟨rfl,rfl,rfl,by trivial,rfl,by trivial,by trivial⟩
theorem uw:aN ["_law_table","_law_cell_here","_law_number"] ["_law_table","_law_cell_here"] (ag hX):=⟨rfl,rfl,rfl,by trivial,rfl,by trivial,by trivial⟩
theorem pV:aN ["_law_table","_law_some_here","_law_one_here"] ["_law_table","_law_some_here"] (ag eJ):=⟨rfl,rfl,rfl,by trivial,rfl,by trivial,by trivial⟩
theorem jj:aN ["_law_met_here","_law_flags_here"] ["_law_met_here"] (ag iQ):=⟨rfl,rfl,rfl,by trivial,rfl,by trivial,by trivial⟩
theorem pH:aN ["_law_met_here","_law_name","_law_names_here","_law_due_here"] ["_law_met_here","_law_name"] (ag ic):=⟨rfl,rfl,rfl,by trivial,rfl,by trivial,by trivial⟩
theorem rG:aN ["_law_least","_law_cell_here","_law_number"] ["_law_least","_law_cell_here"] (ag gM):=⟨rfl,rfl,rfl,by trivial,rfl,by trivial,by trivial⟩
theorem oY:aN ["_law_table","_law_part","_law_cell_here","_law_at"] ["_law_table","_law_part","_law_cell_here"] (ag dH):=⟨rfl,rfl,rfl,by trivial,rfl,by trivial,by trivial⟩
theorem iC:aN ["_law_marks","_law_spokes_here","_law_cell_here","_law_way","_law_at","_law_mark"] ["_law_marks","_law_spokes_here","_law_cell_here","_law_way"] (ag d9):=⟨rfl,rfl,rfl,by trivial,rfl,by trivial,by trivial⟩
theorem da:aN ["_law_table","_law_least","_law_cell_here","_law_way","_law_spokes_here","_law_part","_law_marks"] ["_law_table","_law_least","_law_cell_here"] (ag jE):=⟨rfl,rfl,rfl,by trivial,rfl,by trivial,by trivial⟩
theorem yO:aN ["_law_least","_law_spokes_here"] ["_law_least","_law_spokes_here"] (ag gG):=⟨rfl,rfl,rfl,by trivial,rfl,by trivial,by trivial⟩
theorem ij:aN ["_law_table","_law_least","_law_made_here","_law_part","_law_marks","_law_spokes_here","_law_one_here","_law_other","_law_total"] ["_law_table","_law_least","_law_made_here"] (ag jf):=⟨rfl,rfl,rfl,by trivial,rfl,by trivial,by trivial⟩
theorem kY:aN ["_law_group_here","_law_plain","_law_handed","_law_spokes_here","_law_way","_law_caught","e"] ["_law_group_here","_law_plain","_law_handed","_law_spokes_here","_law_way"] (ag iY):=⟨rfl,rfl,rfl,by trivial,rfl,by trivial,by trivial⟩
theorem D4:aN ["_law_caught","_law_due_here"] ["_law_caught","_law_due_here"] (ag kJ):=⟨rfl,rfl,rfl,by trivial,rfl,by trivial,by trivial⟩
theorem jR:aN ["_law_script","_law_table","_law_group_here","_law_least","_law_plain","_law_cell_here","_law_made_here","_law_handed","_law_due_here","_law_way"] ["_law_script"] (ag mK):=⟨rfl,rfl,rfl,by trivial,rfl,by trivial,by trivial⟩
theorem yJ:aN ["self","one","two"] ["self","one","two"] (ag gC):=⟨rfl,rfl,rfl,by trivial,rfl,by trivial,by trivial⟩
theorem yD:aN ["self","rows","unit","backs"] ["self","rows","unit","backs"] (ag gS):=⟨rfl,rfl,rfl,by trivial,rfl,by trivial,by trivial⟩
theorem BB:aN ["self","group","spokes","deeds"] ["self","group","spokes","deeds"] (ag jF):=⟨rfl,rfl,rfl,by trivial,rfl,by trivial,by trivial⟩
theorem Ah:aN ["self","thing"] ["self","thing"] (ag iS):=⟨rfl,rfl,rfl,by trivial,rfl,by trivial,by trivial⟩
theorem i5:aN ["self","group","spokes","deeds"] ["self","group","spokes"] (ag dP):=⟨rfl,rfl,rfl,by trivial,rfl,by trivial,by trivial⟩
theorem lP:aN ["self","group","part","marks","spokes","deeds"] ["self","group","part","marks","spokes"] (ag eB):=⟨rfl,rfl,rfl,by trivial,rfl,by trivial,by trivial⟩
theorem qw:aN ["self","way","part"] ["self","way","part"] (ag eA):=⟨rfl,rfl,rfl,by trivial,rfl,by trivial,by trivial⟩
theorem rB:bu (ag ig) ["table","rows","unit","backs"] { kind:=.function,names:=[(".0",.local),("row",.local),("list",.globalImplicit)],isGenerator:=false,isCoroutine:=false,more:=[] } ["row"] []:=⟨rfl,by trivial,by trivial,by trivial,by trivial,by trivial⟩
theorem rD:bu (ag ir) ["rows","unit"] { kind:=.function,names:=[(".0",.local),("thing",.local),("back_of",.globalImplicit),("rows",.free),("unit",.free)],isGenerator:=false,isCoroutine:=false,more:=[] } ["thing"] [0,1]:=⟨rfl,by trivial,by trivial,by trivial,by trivial,by trivial⟩
theorem wy:bu (ag kL) ["group","orders","many"] { kind:=.function,names:=[(".0",.local),("thing",.local),("order",.globalImplicit),("group",.free)],isGenerator:=false,isCoroutine:=false,more:=[] } ["thing"] [0]:=⟨rfl,by trivial,by trivial,by trivial,by trivial,by trivial⟩
theorem vX:bu (ag kL) ["group","orders","many"] { kind:=.function,names:=[(".0",.local),("times",.local),("many",.free)],isGenerator:=false,isCoroutine:=false,more:=[] } ["times"] [2]:=⟨rfl,by trivial,by trivial,by trivial,by trivial,by trivial⟩
theorem i6:bu (ag fh) ["group","some"] { kind:=.function,names:=[(".0",.local),("number",.local),("group",.free)],isGenerator:=false,isCoroutine:=false,more:=[] } ["number"] [0]:=⟨rfl,by trivial,by trivial,by trivial,by trivial,by trivial⟩
theorem nJ:bu (ag lV) ["some"] { kind:=.function,names:=[(".0",.local),("place",.local),("some",.free)],isGenerator:=false,isCoroutine:=false,more:=[] } ["place"] [0]:=⟨rfl,by trivial,by trivial,by trivial,by trivial,by trivial⟩
theorem vf:bu (ag kP) ["group","part","by_thing"] { kind:=.function,names:=[(".0",.local),("thing",.local),("side_of",.globalImplicit),("group",.free),("part",.free)],isGenerator:=false,isCoroutine:=false,more:=[] } ["thing"] [0,1]:=⟨rfl,by trivial,by trivial,by trivial,by trivial,by trivial⟩
theorem v3:bu (ag kP) ["group","part","by_thing"] { kind:=.function,names:=[(".0",.local),("thing",.local),("side",.local)],isGenerator:=false,isCoroutine:=false,more:=[] } ["thing","side"] []:=⟨rfl,by trivial,by trivial,by trivial,by trivial,by trivial⟩
theorem sG:bu (ag jd) ["group","part","thing"] { kind:=.function,names:=[(".0",.local),("other",.local),("group",.free),("thing",.free)],isGenerator:=false,isCoroutine:=false,more:=[] } ["other"] [0,2]:=⟨rfl,by trivial,by trivial,by trivial,by trivial,by trivial⟩
theorem n5:bu (ag eE) ["group","part"] { kind:=.function,names:=[(".0",.local),("side",.local)],isGenerator:=false,isCoroutine:=false,more:=[] } ["side"] []:=⟨rfl,by trivial,by trivial,by trivial,by trivial,by trivial⟩
theorem wu:gH (ag lU) ["group","part"] { kind:=.function,names:=[(".0",.local),("one",.cell),("group",.free),("part",.free)],isGenerator:=false,isCoroutine:=false,more:=[] } ["one"] [0,1]:=⟨rfl,by trivial,by trivial,by trivial,by trivial,by trivial⟩
theorem vU:bu { kind:=.function,names:=[(".0",.local),("one",.cell),("group",.cell),("part",.cell)],isGenerator:=false,isCoroutine:=false,more:=[] } ["one","group","part"] { kind:=.function,names:=[(".0",.local),("other",.local),("group",.free),("one",.free),("part",.free)],isGenerator:=false,isCoroutine:=false,more:=[] } ["other"] [1,0,2]:=⟨rfl,by trivial,by trivial,by trivial,by trivial,by trivial⟩
theorem iy:bu (ag eG) ["part","marks","spokes"] { kind:=.function,names:=[(".0",.local),("mark",.local),("spokes",.free)],isGenerator:=false,isCoroutine:=false,more:=[] } ["mark"] [2]:=⟨rfl,by trivial,by trivial,by trivial,by trivial,by trivial⟩
theorem pB:gH (ag fw) ["group","part","carriers","found","number","carrier","k","thing"] { kind:=.function,names:=[(".0",.local),("row",.cell),("carriers",.free),("found",.free)],isGenerator:=false,isCoroutine:=false,more:=[] } ["row"] [2,3]:=⟨rfl,by trivial,by trivial,by trivial,by trivial,by trivial⟩
theorem pk:bu { kind:=.function,names:=[(".0",.local),("row",.cell),("carriers",.cell),("found",.cell)],isGenerator:=false,isCoroutine:=false,more:=[] } ["row","carriers","found"] { kind:=.function,names:=[(".0",.local),("carrier",.local),("found",.free),("row",.free)],isGenerator:=false,isCoroutine:=false,more:=[] } ["carrier"] [2,0]:=⟨rfl,by trivial,by trivial,by trivial,by trivial,by trivial⟩
theorem rE:bu (ag iq) ["_law_sizes_here","_law_turn","_law_end","_law_calm","_law_rows_here","_law_led","_law_i","_law_one_here","_law_row","_law_j","_law_other","_law_place"] { kind:=.function,names:=[(".0",.local),("_law_place",.local),("_law_turn",.free)],isGenerator:=false,isCoroutine:=false,more:=[] } ["_law_place"] [1]:=⟨rfl,by trivial,by trivial,by trivial,by trivial,by trivial⟩
theorem pT:bu (ag eV) ["_law_script","_law_start","_law_one_here","_law_two","_law_sizes_here","_law_stirred","_law_kind_here","_law_units","_law_k","_law_calm","_law_turn","_law_end","_law_rows_here","_law_names_here","_law_row","_law_table","_law_a","_law_b","_law_thing_here"] { kind:=.function,names:=[(".0",.local),("_law_place",.local),("_law_turned",.globalImplicit),("_law_kind_here",.free),("_law_sizes_here",.free),("_law_units",.free)],isGenerator:=false,isCoroutine:=false,more:=[] } ["_law_place"] [6,4,7]:=⟨rfl,by trivial,by trivial,by trivial,by trivial,by trivial⟩
theorem qk:bu (ag eV) ["_law_script","_law_start","_law_one_here","_law_two","_law_sizes_here","_law_stirred","_law_kind_here","_law_units","_law_k","_law_calm","_law_turn","_law_end","_law_rows_here","_law_names_here","_law_row","_law_table","_law_a","_law_b","_law_thing_here"] { kind:=.function,names:=[(".0",.local),("_law_row",.local),("list",.globalImplicit)],isGenerator:=false,isCoroutine:=false,more:=[] } ["_law_row"] []:=⟨rfl,by trivial,by trivial,by trivial,by trivial,by trivial⟩
theorem sj:bu (ag jk) ["_law_table"] { kind:=.function,names:=[(".0",.local),("_law_thing_here",.local),("_law_table",.free)],isGenerator:=false,isCoroutine:=false,more:=[] } ["_law_thing_here"] [0]:=⟨rfl,by trivial,by trivial,by trivial,by trivial,by trivial⟩
theorem qb:bu (ag eX) ["_law_table","_law_one_here","_law_powers","_law_many"] { kind:=.function,names:=[(".0",.local),("_law_end",.local),("_law_one_here",.free)],isGenerator:=false,isCoroutine:=false,more:=[] } ["_law_end"] [1]:=⟨rfl,by trivial,by trivial,by trivial,by trivial,by trivial⟩
theorem qp:bu (ag eX) ["_law_table","_law_one_here","_law_powers","_law_many"] { kind:=.function,names:=[(".0",.local),("_law_thing_here",.local),("_law_powers",.free),("_law_table",.free)],isGenerator:=false,isCoroutine:=false,more:=[] } ["_law_thing_here"] [2,0]:=⟨rfl,by trivial,by trivial,by trivial,by trivial,by trivial⟩
theorem pe:bu (ag fB) ["_law_table","_law_some_here","_law_spokes_here","_law_cell_here","_law_given","_law_k","_law_size","_law_marks","_law_found","_law_at","_law_good","_law_one_here","_law_mark","_law_thing_here","_law_total","_law_part"] { kind:=.function,names:=[(".0",.local),("_law_thing_here",.local),("int",.globalImplicit),("_law_good",.free),("_law_marks",.free)],isGenerator:=false,isCoroutine:=false,more:=[] } ["_law_thing_here"] [10,7]:=⟨rfl,by trivial,by trivial,by trivial,by trivial,by trivial⟩
theorem rJ:bu (ag hX) ["_law_table","_law_cell_here","_law_number"] { kind:=.function,names:=[(".0",.local),("_law_k",.local),("_law_thing",.globalImplicit),("len",.globalImplicit),("_law_cell_here",.free),("_law_table",.free)],isGenerator:=false,isCoroutine:=false,more:=[] } ["_law_k"] [1,0]:=⟨rfl,by trivial,by trivial,by trivial,by trivial,by trivial⟩
theorem oA:bu (ag eJ) ["_law_table","_law_some_here","_law_one_here"] { kind:=.function,names:=[(".0",.local),("_law_other",.local),("_law_one_here",.free),("_law_some_here",.free),("_law_table",.free)],isGenerator:=false,isCoroutine:=false,more:=[] } ["_law_other"] [2,1,0]:=⟨rfl,by trivial,by trivial,by trivial,by trivial,by trivial⟩
theorem rq:bu (ag ic) ["_law_met_here","_law_name","_law_names_here","_law_due_here"] { kind:=.function,names:=[(".0",.local),("_law_other",.local),("_law_name",.free)],isGenerator:=false,isCoroutine:=false,more:=[] } ["_law_other"] [1]:=⟨rfl,by trivial,by trivial,by trivial,by trivial,by trivial⟩
theorem ni:bu (ag dH) ["_law_table","_law_part","_law_cell_here","_law_at"] { kind:=.function,names:=[(".0",.local),("_law_k",.local),("len",.globalImplicit),("_law_part",.free)],isGenerator:=false,isCoroutine:=false,more:=[] } ["_law_k"] [1]:=⟨rfl,by trivial,by trivial,by trivial,by trivial,by trivial⟩
theorem sL:bu (ag jf) ["_law_table","_law_least","_law_made_here","_law_part","_law_marks","_law_spokes_here","_law_one_here","_law_other","_law_total"] { kind:=.function,names:=[(".0",.local),("_law_mark",.local),("_law_spokes_here",.free)],isGenerator:=false,isCoroutine:=false,more:=[] } ["_law_mark"] [5]:=⟨rfl,by trivial,by trivial,by trivial,by trivial,by trivial⟩
theorem Al:bu (ag mK) ["_law_script","_law_table","_law_group_here","_law_least","_law_plain","_law_cell_here","_law_made_here","_law_handed","_law_due_here","_law_way"] { kind:=.function,names:=[(".0",.local),("_law_row",.local),("list",.globalImplicit)],isGenerator:=false,isCoroutine:=false,more:=[] } ["_law_row"] []:=⟨rfl,by trivial,by trivial,by trivial,by trivial,by trivial⟩
theorem gm:bu (ag dP) ["self","group","spokes","deeds"] { kind:=.function,names:=[(".0",.local),("row",.local)],isGenerator:=false,isCoroutine:=false,more:=[] } ["row"] []:=⟨rfl,by trivial,by trivial,by trivial,by trivial,by trivial⟩
theorem gk:bu { kind:=.function,names:=[(".0",.local),("row",.local)],isGenerator:=false,isCoroutine:=false,more:=[] } ["row"] { kind:=.function,names:=[(".0",.local),("place",.local)],isGenerator:=false,isCoroutine:=false,more:=[] } ["place"] []:=⟨rfl,by trivial,by trivial,by trivial,by trivial,by trivial⟩
theorem oK:bu (ag eB) ["self","group","part","marks","spokes","deeds"] { kind:=.function,names:=[(".0",.local),("moves",.local),("marks",.free)],isGenerator:=false,isCoroutine:=false,more:=[] } ["moves"] [3]:=⟨rfl,by trivial,by trivial,by trivial,by trivial,by trivial⟩
theorem oa:bu { kind:=.function,names:=[(".0",.local),("moves",.local),("marks",.cell)],isGenerator:=false,isCoroutine:=false,more:=[] } ["moves","marks"] { kind:=.function,names:=[(".0",.local),("number",.local),("k",.local),("marks",.free)],isGenerator:=false,isCoroutine:=false,more:=[] } ["number","k"] [1]:=⟨rfl,by trivial,by trivial,by trivial,by trivial,by trivial⟩
theorem ix:bu (ag eA) ["self","way","part"] { kind:=.function,names:=[(".0",.local),("thing",.local),("way",.free)],isGenerator:=false,isCoroutine:=false,more:=[] } ["thing"] [1]:=⟨rfl,by trivial,by trivial,by trivial,by trivial,by trivial⟩
set_option genInjectivity false in
set_option genSizeOf false in
structure Txt (K:LM) (mg:Str->Option Value) where
 jB:Df K mg "group_of" ig ["table"]
 i9:Df K mg "check_size" gU ["rows"]
 eL:Df K mg "check_strangers" dy ["rows"]
 mY:Df K mg "unit_of" kB ["rows"]
 jg:Df K mg "leaves_all" gP ["rows","thing"]
 lr:Df K mg "backs_of" ir ["rows","unit"]
 mM:Df K mg "back_of" kG ["rows","unit","thing"]
 fk:Df K mg "check_together" dO ["rows"]
 qh:Df K mg "order" nW ["group","thing"]
 nR:Df K mg "turns" kL ["group"]
 bP:Df K mg "check_part" gA ["group","some"]
 fS:Df K mg "is_part" kF ["group","some"]
 dg:Df K mg "all_things" fh ["group","some"]
 ju:Df K mg "rises" lV ["some"]
 bY:Df K mg "holds_products" dM ["group","some"]
 qe:Df K mg "sides" kP ["group","part"]
 mU:Df K mg "side_of" jd ["group","part","thing"]
 iL:Df K mg "carriers_of" eE ["group","part"]
 jG:Df K mg "inner" lU ["group","part"]
 cF:Df K mg "check_spokes" ff ["many"]
 cJ:Df K mg "serving" kA ["group","spokes"]
 cR:Df K mg "check_marks" eG ["part","marks","spokes"]
 bU:DfD K mg "first_break" fG ["group","part","marks","spokes"] "spokes" 3
 de:Df K mg "check_way" iO ["group","part","marks","spokes"]
 jn:Df K mg "side_moves" fw ["group","part"]
 ik:Df K mg "_law_cell" jD ["_law_script","_law_k"]
 jZ:Df K mg "_law_sizes" iR ["_law_one_here","_law_two"]
 lA:Df K mg "_law_kind" jH ["_law_sizes_here","_law_number"]
 lC:Df K mg "_law_unit" jy ["_law_many","_law_steps","_law_number"]
 jq:Df K mg "_law_turned" gR ["_law_place","_law_sizes_here","_law_kind_here","_law_units"]
 kR:Df K mg "_law_sum" kK ["_law_one_here","_law_other","_law_sizes_here"]
 kZ:Df K mg "_law_rows" iq ["_law_sizes_here","_law_turn","_law_end"]
 jY:Df K mg "_law_names" iM ["_law_many","_law_number"]
 jV:Df K mg "_law_group" eV ["_law_script","_law_start"]
 iV:Df K mg "_law_whole" iW ["_law_found"]
 gX:Df K mg "_law_one" jk ["_law_table"]
 eT:Df K mg "_law_thing" iU ["_law_cell_here","_law_k","_law_many"]
 jX:Df K mg "_law_turns" eX ["_law_table"]
 jW:Df K mg "_law_order" iN ["_law_table","_law_thing_here"]
 je:Df K mg "_law_marked" fB ["_law_table","_law_some_here","_law_spokes_here","_law_cell_here"]
 lg:Df K mg "_law_some" hX ["_law_table","_law_cell_here"]
 fJ:Df K mg "_law_is_part" eJ ["_law_table","_law_some_here"]
 j5:Df K mg "_law_flags" iQ ["_law_met_here"]
 kU:Df K mg "_law_only" ic ["_law_met_here","_law_name"]
 jm:Df K mg "_law_spokes" gM ["_law_least","_law_cell_here"]
 gN:Df K mg "_law_bad_part" dH ["_law_table","_law_part","_law_cell_here"]
 dj:Df K mg "_law_bad_marks" d9 ["_law_marks","_law_spokes_here","_law_cell_here","_law_way"]
 lG:Df K mg "_law_made" jE ["_law_table","_law_least","_law_cell_here"]
 gE:Df K mg "_law_serves" gG ["_law_least","_law_spokes_here"]
 mX:Df K mg "_law_due" jf ["_law_table","_law_least","_law_made_here"]
 jU:Df K mg "_law_asked" iY ["_law_group_here","_law_plain","_law_handed","_law_spokes_here","_law_way"]
 m6:Df K mg "_law_met" kJ ["_law_caught","_law_due_here"]
 yY:Df K mg "law" mK ["_law_script"]
 aS:Addr
 tU:Addr
 ui:M9
 kE:Cls K aS
 CC:mg "Group" = some (.ref aS)
 Cu:Mk K aS tU
 Cy:Fun K "__init__" "Group.__init__" gS tU ui
 B8:Binds K ui ["self","rows","unit","backs"] []
 nY:bf K aS "many"
 ow:bf K aS "rows"
 oM:bf K aS "unit"
 rF:bf K aS "backs"
 i4:Addr
 vd:Addr
 zq:M9
 K9:Cls K i4
 tN:mg "Way" = some (.ref i4)
 K7:Mk K i4 vd
 Ih:Fun K "__init__" "Way.__init__" jF vd zq
 ud:Binds K zq ["self","group","spokes","deeds"] []
 tS:Ia K i4 "__init__" vd
 BW:bf K i4 "group"
 AE:bf K i4 "spokes"
 DF:bf K i4 "size"
 Bt:bf K i4 "deeds"
 eZ:Addr
 mH:M9
 BM:Meth K i4 "moves" eZ
 uv:Fun K "moves" "Way.moves" iS eZ mH
 pC:Binds K mH ["self","thing"] []
 bR:Addr
 kS:Addr
 gW:M9
 sD:Cls K bR
 tD:mg "Regular" = some (.ref bR)
 sY:Mk K bR kS
 sk:pD K "__init__" "Regular.__init__" dP kS gW
 yo:Binds K gW ["self","group","spokes"] []
 wb:Binds K gW ["self","group","spokes"] [.none]
 DV:v8 K gW ["self","group","spokes"] ["spokes"] (byName 2) (byName 2)
 o7:Meth K bR "moves" eZ
 oW:bf K bR "group"
 n0:bf K bR "spokes"
 pP:bf K bR "size"
 ph:bf K bR "deeds"
 bo:Addr
 lQ:Addr
 jo:M9
 oC:Cls K bo
 Av:mg "Lifted" = some (.ref bo)
 zR:Mk K bo lQ
 uG:pD K "__init__" "Lifted.__init__" eB lQ jo
 An:Binds K jo ["self","group","part","marks","spokes"] []
 ES:Binds K jo ["self","group","part","marks","spokes"] [.none]
 EV:v8 K jo ["self","group","part","marks","spokes"] ["spokes"] (byName 4) (byName 4)
 ql:Meth K bo "moves" eZ
 rf:bf K bo "part"
 p9:bf K bo "marks"
 pZ:bf K bo "group"
 oQ:bf K bo "spokes"
 rj:bf K bo "size"
 qf:bf K bo "deeds"
 ck:Addr
 mn:Addr
 lH:M9
 uM:Cls K ck
 zC:mg "Within" = some (.ref ck)
 zH:Mk K ck mn
 uI:Fun K "__init__" "Within.__init__" eA mn lH
 zO:Binds K lH ["self","way","part"] []
 qa:Meth K ck "moves" eZ
 qg:bf K ck "group"
 oP:bf K ck "spokes"
 rK:bf K ck "size"
 qz:bf K ck "deeds"
 bx:Addr
 u9:mg "NoPart" = some (.ref bx)
 ba:Addr
 nv:mg "BadWheel" = some (.ref ba)
 bq:Addr
 nG:mg "BadMarks" = some (.ref bq)
 fU:Addr
 uz:mg "BookError" = some (.ref fU)
 cY:Addr
 uD:mg "NotSteady" = some (.ref cY)
 fY:Addr
 Bd:mg "NoMove" = some (.ref fY)
 cN:Addr
 rT:mg "OtherGroup" = some (.ref cN)
 cP:Addr
 rP:mg "OtherWheel" = some (.ref cP)
 dR:Addr
 wg:mg "TooGreat" = some (.ref dR)
 eU:Addr
 xM:mg "NotKept" = some (.ref eU)
 eW:Addr
 xA:mg "BadSize" = some (.ref eW)
 dQ:Addr
 vo:mg "Stranger" = some (.ref dQ)
 fX:Addr
 AQ:mg "NoUnit" = some (.ref fX)
 fW:Addr
 zy:mg "NoBack" = some (.ref fW)
 cB:Addr
 rH:mg "NotTogether" = some (.ref cB)
 bV:Addr
 tR:Addr
 tZ:M9
 xk:mg "NoWay" = some (.ref bV)
 kQ:oG K bV tR
 CD:Fun K "__init__" "NoWay.__init__" gC tR tZ
 Cj:Binds K tZ ["self","one","two"] []
 mJ:bf K bV "one"
 mI:bf K bV "two"
 lW:Oo K bx bmV n8=true
 lM:cq K bx
 ip:Oo K ba bmV n8=true
 jM:cq K ba
 hZ:Oo K bq bmV n8=true
 jx:cq K bq
 iT:cq K bV
 w_get:OP K (.builtin "object.__class__") "__get__" = some (some (.builtin "getset_descriptor.__get__"))
 vO:Qs K (.builtin "object.__class__")=some true
 qi:Ma K (.ref bR) "__class__" = some (some (.builtin "object.__class__"))
 pL:Od K bR (.type "object")=some true
 qu:MJ K (.ref bR) (.ref i4)=some true
 pO:Ma K (.ref bo) "__class__" = some (some (.builtin "object.__class__"))
 qv:Od K bo (.type "object")=some true
 pW:MJ K (.ref bo) (.ref i4)=some true
 qc:Ma K (.ref ck) "__class__" = some (some (.builtin "object.__class__"))
 pU:Od K ck (.type "object")=some true
 qt:MJ K (.ref ck) (.ref i4)=some true
 ku:Nn K (.ref bx) (.ref fU)=some true
 iz:Nn K (.ref ba) (.ref fU)=some true
 jN:Nn K (.ref bq) (.ref fU)=some true
 nX:Nn K (.ref bV) (.ref fU)=some true
 lI:MJ K (.ref bx) (.type "ValueError")=some true
 jC:MJ K (.ref ba) (.type "ValueError")=some true
 jt:MJ K (.ref bq) (.type "ValueError")=some true
 nQ:MJ K (.ref bV) (.type "ValueError")=some true
 md:flagsOf K bx [bx,cY,ba,fY,bq,bV,cN,cP,dR,eU,eW,dQ,fX,fW,cB]=(mS 15 0).map some
 jw:flagsOf K ba [bx,cY,ba,fY,bq,bV,cN,cP,dR,eU,eW,dQ,fX,fW,cB]=(mS 15 2).map some
 jK:flagsOf K bq [bx,cY,ba,fY,bq,bV,cN,cP,dR,eU,eW,dQ,fX,fW,cB]=(mS 15 4).map some
 nN:flagsOf K bV [bx,cY,ba,fY,bq,bV,cN,cP,dR,eU,eW,dQ,fX,fW,cB]=(mS 15 5).map some
 iK:Tok
 eD:mg "MOST_SPOKES" = some (.int 60 iK)
 iG:Tok
 fI:mg "MOST_THINGS" = some (.int 23 iG)
 gJ:mg "ValueError" = none
 kf:mg "all" = none
 oV:mg "any" = none
 pN:mg "bool" = none
 qm:mg "dict" = none
 cZ:mg "enumerate" = none
 qJ:mg "int" = none
 bc:mg "isinstance" = none
 bz:mg "len" = none
 fj:mg "list" = none
 bp:mg "range" = none
 tQ:mg "set" = none
 ja:mg "sorted" = none
 qG:mg "zip" = none
def tb (t:List (List Nat)) (i j:Nat):Nat:=(t.getD i []).getD j 0
structure Sq (n:Nat) (t:List (List Nat)):Prop where
 len:t.length=n
 pos:1<=n
 le:n<=23
 row:∀ (i:Nat) (r:List Nat),t[i]?=some r->r.length=n
structure Gd (n:Nat) (t:List (List Nat)):Prop extends Sq n t where
 lt:∀ i j,i<n->j<n->tb t i j<n
structure GT (n:Nat) (t:List (List Nat)) (e:Nat):Prop extends Gd n t where
 elt:e<n
 unl:∀ i,i<n->tb t e i=i
 unr:∀ i,i<n->tb t i e=i
 back:∀ i,i<n->∃ b,b<n/\tb t i b=e/\tb t b i=e
 assoc:∀ i j k,i<n->j<n->k<n->tb t (tb t i j) k=tb t i (tb t j k)
theorem Sq.get {n:Nat} {t:List (List Nat)} (s:Sq n t) {i:Nat} (h:i<n):t[i]?=some (t.getD i []):=by
 have hl:i<t.length:=by rw [s.len];exact h
 rw [LS,LP hl];simp
theorem Sq.ef {n:Nat} {t:List (List Nat)} (s:Sq n t) {i j:Nat} (h:i<n) (h':j<n):(t.getD i [])[j]?=some (tb t i j):=by
 have hr:(t.getD i []).length=n:=s.row i _ (s.get h);have hl:j<(t.getD i []).length:=by rw [hr];exact h'
 unfold tb;rw [LS (l:=t.getD i []),LP hl];simp
def sf (n:Nat) (t:List (List Nat)) (x:Nat):Prop:=∀ o,o<n->tb t x o=o/\tb t o x=o
instance {n:Nat} {t:List (List Nat)} {x:Nat}:Decidable (sf n t x):=inferInstanceAs (Decidable (∀ o,o<n->tb t x o=o/\tb t o x=o))
theorem GT.wD {n:Nat} {t:List (List Nat)} {e x:Nat} (g:GT n t e) (hx:x<n):sf n t x↔x=e:=by
 constructor
 ·intro h;have h1:=(h e g.elt).1;have h2:=g.unr x hx;rw [h2] at h1;exact h1
 ·rintro rfl o ho;exact ⟨g.unl o ho,g.unr o ho⟩
def bN (n:Nat) (t:List (List Nat)) (e a:Nat):Nat:=((L4 n).find? fun b=>decide (tb t a b=e/\tb t b a=e)).getD 0
theorem JB {n:Nat} {t:List (List Nat)} {e a b:Nat} (hb:b<n) (h:tb t a b=e/\tb t b a=e) (hn:∀ c,c<b->¬ (tb t a c=e/\tb t c a=e)):bN n t e a=b:=by
 unfold bN;have:(L4 n).find? (fun b=>decide (tb t a b=e/\tb t b a=e))=some b:=by
  rw [Rb];refine ⟨by simpa using h,by simpa using hb,fun j hj=>?_⟩
  have:=hn j hj;simp only [Pg,decide_eq_false_iff_not];exact this
 rw [this];rfl
theorem GT.bk {n:Nat} {t:List (List Nat)} {e a:Nat} (g:GT n t e) (ha:a<n):bN n t e a<n/\tb t a (bN n t e a)=e/\tb t (bN n t e a) a=e:=by
 obtain ⟨b,hb,h⟩:=g.back a ha;unfold bN;cases q:(L4 n).find? (fun b=>decide (tb t a b=e/\tb t b a=e)) with
 | none =>
  rw [Rc] at q;have:=q b hb;simp at this;exact this.elim (fun z=>absurd h.1 z) fun z=>absurd h.2 z
 | some c =>
  have h1:=List.find?_some q;have h2:=Mj.mp (List.mem_of_find?_eq_some q);simp only [decide_eq_true_eq] at h1;exact ⟨h2,h1⟩
def bks (n:Nat) (t:List (List Nat)) (e:Nat):List Nat:=(L4 n).map (bN n t e)
def prd (t:List (List Nat)) (e:Nat) (l:List Nat):Nat:=l.foldl (tb t) e
theorem cU {β:Type} (f:Nat->β) (n i:Nat) (h:i<n):((L4 n).map f).take (i+1)=((L4 n).map f).take i++[f i]:=by
 rw [MK];simp [h]
def mkT (n:Nat) (f:Nat->Nat->Nat):List (List Nat):=(L4 n).map fun a=>(L4 n).map fun b=>f a b
theorem KZ {n:Nat} {f:Nat->Nat->Nat} {a b:Nat} (ha:a<n) (hb:b<n):tb (mkT n f) a b=f a b:=by
 unfold tb mkT;simp [LS,ha,hb]
theorem JY {n:Nat} {f:Nat->Nat->Nat} (h1:1<=n) (h2:n<=23):Sq n (mkT n f):=by
 refine ⟨by simp [mkT],h1,h2,fun i r h=>?_⟩
 have:r∈mkT n f:=LR h;unfold mkT at this;obtain ⟨a,_,rfl⟩:=Mm.mp this;simp
theorem Fz {n:Nat} {f:Nat->Nat->Nat} {e:Nat} (h1:1<=n) (h2:n<=23) (lt:∀ a b,a<n->b<n->f a b<n) (elt:e<n) (unl:∀ a,a<n->f e a=a) (unr:∀ a,a<n->f a e=a)
  (back:∀ a,a<n->∃ b,b<n/\f a b=e/\f b a=e) (assoc:∀ a b c,a<n->b<n->c<n->f (f a b) c=f a (f b c)):GT n (mkT n f) e:=by
 have q:∀ {a b:Nat},a<n->b<n->tb (mkT n f) a b=f a b:=fun ha hb=>KZ ha hb;refine ⟨⟨JY h1 h2,fun i j hi hj=>by rw [q hi hj];exact lt i j hi hj⟩,elt,fun i hi=>by rw [q elt hi];exact unl i hi,fun i hi=>by rw [q hi elt];exact unr i hi,fun i hi=>?_,fun i j k hi hj hk=>?_⟩
 ·obtain ⟨b,hb,x,y⟩:=back i hi;exact ⟨b,hb,by rw [q hi hb];exact x,by rw [q hb hi];exact y⟩
 ·rw [q hi hj,q hj hk,q (lt i j hi hj) hk,q hi (lt j k hj hk)];exact assoc i j k hi hj hk
structure Ab (m:Nat) (ad:Nat->Nat->Nat):Prop where
 pos:0<m
 lt:∀ x y,x<m->y<m->ad x y<m
 assoc:∀ x y z,x<m->y<m->z<m->ad (ad x y) z=ad x (ad y z)
 comm:∀ x y,x<m->y<m->ad x y=ad y x
 zero:∀ x,x<m->ad x 0=x
 neg:∀ x,x<m->∃ y,y<m/\ad x y=0
structure Tn (m:Nat) (ad:Nat->Nat->Nat) (f:Nat->Nat) (s e:Nat):Prop extends Ab m ad where
 lY:0<s
 flt:∀ x,x<m->f x<m
 fad:∀ x y,x<m->y<m->f (ad x y)=ad (f x) (f y)
 per:∀ x,x<m->Nat.repeat f s x=x
 elt:e<m
 fe:f e=e
def tim (ad:Nat->Nat->Nat) (e:Nat):Nat->Nat
 | 0=>0
 | k+1=>ad (tim ad e k) e
def cyc (m:Nat) (ad:Nat->Nat->Nat) (f:Nat->Nat) (s e I J:Nat):Nat :=
 (let p:=ad (I % m) (Nat.repeat f (I / m) (J % m));if I / m+J / m >= s then ad p e else p)+m * ((I / m+J / m) % s)
section
variable {m:Nat} {ad:Nat->Nat->Nat} {f:Nat->Nat} {s e:Nat}
theorem iH (T:Tn m ad f s e):∀ (k:Nat) {x:Nat},x<m->Nat.repeat f k x<m
 | 0,_,h=>h
 | k+1,_,h=>T.flt _ (iH T k h)
theorem sX (T:Tn m ad f s e):∀ (k:Nat) {x y:Nat},x<m->y<m->Nat.repeat f k (ad x y)=ad (Nat.repeat f k x) (Nat.repeat f k y)
 | 0,_,_,_,_=>rfl
 | k+1,x,y,hx,hy=>by
  show f (Nat.repeat f k (ad x y))=ad (f (Nat.repeat f k x)) (f (Nat.repeat f k y));rw [sX T k hx hy,T.fad _ _ (iH T k hx) (iH T k hy)]
theorem Im (T:Tn m ad f s e):∀ k:Nat,Nat.repeat f k e=e
 | 0=>rfl
 | k+1=>by show f (Nat.repeat f k e)=e;rw [Im T k,T.fe]
theorem nU (f:Nat->Nat) (x:Nat):∀ i j:Nat,Nat.repeat f (i+j) x=Nat.repeat f i (Nat.repeat f j x)
 | 0,j=>by rw [Ou];rfl
 | i+1,j=>by
  have e:i+1+j=(i+j)+1:=by omega
  rw [e];show f (Nat.repeat f (i+j) x)=f (Nat.repeat f i (Nat.repeat f j x));rw [nU f x i j]
theorem Jl (T:Tn m ad f s e) {x:Nat} (hx:x<m) {k:Nat} (hk:k<2 * s):Nat.repeat f (k % s) x=Nat.repeat f k x:=by
 have hs:=T.lY
 by_cases h:k<s
 ·rw [Nc h]
 ·have e1:k % s=k - s:=by rw [Nat.mod_eq_sub_mod (by omega),Nc (by omega)]
  have e2:k=(k - s)+s:=by omega
  rw [e1]
  conv=>rhs;rw [e2,nU,T.per x hx]
theorem fM (T:Tn m ad f s e):∀ k,tim ad e k<m
 | 0=>T.pos
 | k+1=>T.lt _ _ (fM T k) T.elt
theorem FY (T:Ab m ad) {x:Nat} (hx:x<m):ad 0 x=x:=by rw [T.comm 0 x T.pos hx,T.zero x hx]
theorem xc (T:Tn m ad f s e):∀ i j,tim ad e (i+j)=ad (tim ad e i) (tim ad e j)
 | i,0=>by rw [OJ];show _=ad _ 0;rw [T.zero _ (fM T i)]
 | i,j+1=>by
  show ad (tim ad e (i+j)) e=ad (tim ad e i) (ad (tim ad e j) e);rw [xc T i j,T.assoc _ _ _ (fM T i) (fM T j) T.elt]
theorem xg (T:Tn m ad f s e) (k:Nat):∀ j,Nat.repeat f k (tim ad e j)=tim ad e j
 | 0=>by
  show Nat.repeat f k 0=0;have h0:Nat.repeat f k 0<m:=iH T k T.pos;have h1:ad (Nat.repeat f k 0) (Nat.repeat f k 0)=Nat.repeat f k 0:=by rw [<- sX T k T.pos T.pos,T.zero 0 T.pos]
  obtain ⟨y,hy,e1⟩:=T.neg _ h0;have h2:ad (ad (Nat.repeat f k 0) (Nat.repeat f k 0)) y=ad (Nat.repeat f k 0) y:=by rw [h1]
  rw [T.assoc _ _ _ h0 h0 hy,e1,T.zero _ h0] at h2;exact h2
 | j+1=>by
  show Nat.repeat f k (ad (tim ad e j) e)=ad (tim ad e j) e;rw [sX T k (fM T j) T.elt,xg T k j,Im T k]
theorem m4 (T:Tn m ad f s e) {x y i j:Nat} (hx:x<m) (hy:y<m) (hi:i<s) (hj:j<s) :
  cyc m ad f s e (x+m * i) (y+m * j)=ad (ad x (Nat.repeat f i y)) (tim ad e ((i+j) / s))+m * ((i+j) % s):=by
 have hm:=T.pos;have d1:(x+m * i) / m=i:=by rw [N4 _ _ hm,NQ hx,Ou]
 have d2:(y+m * j) / m=j:=by rw [N4 _ _ hm,NQ hy,Ou]
 have r1:(x+m * i) % m=x:=by rw [NN,Nc hx]
 have r2:(y+m * j) % m=y:=by rw [NN,Nc hy]
 unfold cyc;rw [d1,d2,r1,r2];dsimp only;have hp:ad x (Nat.repeat f i y)<m:=T.lt _ _ hx (iH T i hy)
 by_cases h:i+j >= s
 ·have q:(i+j) / s=1:=by
   have:i+j=(i+j - s)+s * 1:=by omega
   rw [this,N4 _ _ T.lY,NQ (by omega)]
  rw [if_pos h,q];show _=ad _ (ad 0 e)+_;rw [FY T.toAb T.elt]
 ·have q:(i+j) / s=0:=NQ (by omega)
  rw [if_neg h,q];show _=ad _ 0+_;rw [T.zero _ hp]
theorem dm (m:Nat) (I:Nat):I=I % m+m * (I / m):=(Sf I m).symm
theorem Fw (T:Tn m ad f s e) {I J:Nat} (hI:I<m * s) (hJ:J<m * s):cyc m ad f s e I J<m * s:=by
 have hm:=T.pos;have hi:I / m<s:=Nx hI;have hj:J / m<s:=Nx hJ;rw [dm m I,dm m J,m4 T (MF _ hm) (MF _ hm) hi hj];have h1:ad (ad (I % m) (Nat.repeat f (I / m) (J % m))) (tim ad e ((I / m+J / m) / s))<m:=T.lt _ _ (T.lt _ _ (MF _ hm) (iH T _ (MF _ hm))) (fM T _);have h2:(I / m+J / m) % s<s:=MF _ T.lY;have h3:m * ((I / m+J / m) % s)+m<=m * s:=by
  rw [<- OY];exact Np _ h2
 omega
theorem tm (T:Tn m ad f s e) {I J L:Nat} (hI:I<m * s) (hJ:J<m * s) (hL:L<m * s):cyc m ad f s e (cyc m ad f s e I J) L=cyc m ad f s e I (cyc m ad f s e J L):=by
 have hm:=T.pos;have hi:I / m<s:=Nx hI;have hj:J / m<s:=Nx hJ;have hl:L / m<s:=Nx hL;rw [dm m I,dm m J,dm m L];generalize I / m=i at hi;generalize J / m=j at hj;generalize L / m=l at hl;have hx:I % m<m:=MF _ hm;have hy:J % m<m:=MF _ hm;have hz:L % m<m:=MF _ hm;generalize I % m=x at hx;generalize J % m=y at hy;generalize L % m=z at hz;have hs:=T.lY;have hij:(i+j) % s<s:=MF _ hs;have hjl:(j+l) % s<s:=MF _ hs;have fy:=iH T i hy;have fz:=iH T j hz;have t1:=fM T ((i+j) / s);have t2:=fM T ((j+l) / s);have p1:ad x (Nat.repeat f i y)<m:=T.lt _ _ hx fy;have p2:ad y (Nat.repeat f j z)<m:=T.lt _ _ hy fz;rw [m4 T hx hy hi hj,m4 T hy hz hj hl,m4 T (T.lt _ _ p1 t1) hz hij hl,m4 T hx (T.lt _ _ p2 t2) hi hjl];have em:((i+j) % s+l) % s=(i+(j+l) % s) % s:=by rw [Sg,Pc,Qq]
 have ed:(i+j) / s+((i+j) % s+l) / s=(j+l) / s+(i+(j+l) % s) / s:=by
  have a1:=PV (i+j) s;have a2:=PV (j+l) s;have a3:=PV ((i+j) % s+l) s;have a4:=PV (i+(j+l) % s) s;rw [em] at a3;have:s * ((i+j) / s+((i+j) % s+l) / s)=s * ((j+l) / s+(i+(j+l) % s) / s):=by
   rw [Ru,Ru];omega
  exact Nat.eq_of_mul_eq_mul_left hs this
 rw [em]
 congr 1
 have fz2:Nat.repeat f ((i+j) % s) z<m:=iH T _ hz;have efz:Nat.repeat f ((i+j) % s) z=Nat.repeat f i (Nat.repeat f j z):=by rw [Jl T hz (by omega),nU]
 have fz3:Nat.repeat f i (Nat.repeat f j z)<m:=iH T i fz;rw [sX T i p2 t2,sX T i hy fz,xg T i,efz];have t3:=fM T (((i+j) % s+l) / s);have t4:=fM T ((i+(j+l) % s) / s);rw [T.assoc _ _ _ p1 t1 fz3,T.comm _ _ t1 fz3,<- T.assoc _ _ _ p1 fz3 t1,T.assoc _ _ _ (T.lt _ _ p1 fz3) t1 t3,<- xc T,ed];rw [T.assoc _ _ _ hx fy fz3,<- T.assoc _ _ _ hx (T.lt _ _ fy fz3) t2,T.assoc _ _ _ (T.lt _ _ hx (T.lt _ _ fy fz3)) t2 t4,<- xc T]
theorem Jz (T:Tn m ad f s e) {I:Nat} (hI:I<m * s):cyc m ad f s e 0 I=I:=by
 have hm:=T.pos;have hi:I / m<s:=Nx hI;have hx:I % m<m:=MF _ hm;have h:=m4 T (x:=0) (y:=I % m) (i:=0) (j:=I / m) hm hx T.lY hi;rw [<- dm m I,Pd,OJ,Ou,NQ hi,Nc hi] at h;rw [h];show ad (ad 0 (I % m)) 0+_=_;rw [FY T.toAb hx,T.zero _ hx,<- dm m I]
theorem wU (T:Tn m ad f s e) {I:Nat} (hI:I<m * s):cyc m ad f s e I 0=I:=by
 have hm:=T.pos;have hi:I / m<s:=Nx hI;have hx:I % m<m:=MF _ hm;have h:=m4 T (x:=I % m) (y:=0) (i:=I / m) (j:=0) hx hm hi T.lY;rw [<- dm m I,Pd,OJ,OJ,NQ hi,Nc hi] at h;rw [h];have z0:Nat.repeat f (I / m) 0=0:=xg T (I / m) 0;show ad (ad (I % m) (Nat.repeat f (I / m) 0)) 0+_=_;rw [z0,T.zero _ hx,T.zero _ hx,<- dm m I]
theorem xO (T:Tn m ad f s e) {I:Nat} (hI:I<m * s):∃ J,J<m * s/\cyc m ad f s e I J=0:=by
 have hm:=T.pos;have hs:=T.lY;have hi:I / m<s:=Nx hI;have hx:I % m<m:=MF _ hm;have hj:(s - I / m) % s<s:=MF _ hs;have hw:ad (I % m) (tim ad e ((I / m+(s - I / m) % s) / s))<m:=T.lt _ _ hx (fM T _);obtain ⟨v,hv,ev⟩:=T.neg _ hw;have hy:Nat.repeat f ((s - I / m) % s) v<m:=iH T _ hv;refine ⟨Nat.repeat f ((s - I / m) % s) v+m * ((s - I / m) % s),?_,?_⟩
 ·have h3:m * ((s - I / m) % s)+m<=m * s:=by
   rw [<- OY];exact Np _ hj
  omega
 ·have h:=m4 T (x:=I % m) (y:=Nat.repeat f ((s - I / m) % s) v) (i:=I / m) (j:=(s - I / m) % s) hx hy hi hj;rw [<- dm m I] at h;rw [h];have er:Nat.repeat f (I / m) (Nat.repeat f ((s - I / m) % s) v)=v:=by
   rw [<- nU]
   by_cases h0:I / m=0
   ·rw [h0,Nat.sub_zero,QN];rfl
   ·rw [Nc (Nat.sub_lt hs (Nat.pos_of_ne_zero h0))];have:I / m+(s - I / m)=s:=Rf (Oe hi);rw [this,T.per v hv]
  have e0:(I / m+(s - I / m) % s) % s=0:=by
   rw [Pc];have:I / m+(s - I / m)=s:=Rf (Oe hi);rw [this,QN]
  rw [er,e0,Pd,OJ,T.assoc _ _ _ hx hv (fM T _),T.comm _ _ hv (fM T _),<- T.assoc _ _ _ hx (fM T _) hv];exact ev
theorem Hk (T:Tn m ad f s e) {I:Nat} (hI:I<m * s):∃ J,J<m * s/\cyc m ad f s e I J=0/\cyc m ad f s e J I=0:=by
 obtain ⟨J,hJ,e1⟩:=xO T hI;obtain ⟨L,hL,e2⟩:=xO T hJ;refine ⟨J,hJ,e1,?_⟩;have hJI:=Fw T hJ hI;have h1:cyc m ad f s e J I=cyc m ad f s e (cyc m ad f s e J I) (cyc m ad f s e J L):=by rw [e2,wU T hJI]
 rw [h1,<- tm T hJI hJ hL,tm T hJ hI hJ,e1,wU T hJ,e2]
end
def lsum (a b c p q:Nat):Nat:=(p+q) % a+a * ((p / a+q / a) % b)+a * b * ((p / (a * b)+q / (a * b)) % c)
section
variable {a b c:Nat}
theorem Ik {x y w:Nat} (hx:x<a):(x+a * y+a * b * w) % a=x:=by
 rw [SW,Qq,<- Ru,NN,Nc hx]
theorem HZ {x y w:Nat} (ha:0<a) (hx:x<a):(x+a * y+a * b * w) / a=y+b * w:=by
 rw [SW,Qq,<- Ru,N4 _ _ ha,NQ hx,Ou]
theorem Iy {x y w:Nat} (ha:0<a) (hx:x<a) (hy:y<b):(x+a * y+a * b * w) / a % b=y:=by
 rw [HZ ha hx,NN,Nc hy]
theorem Iw {x y w:Nat} (ha:0<a) (hb:0<b) (hx:x<a) (hy:y<b):(x+a * y+a * b * w) / (a * b)=w:=by
 rw [<- RO,HZ ha hx,N4 _ _ hb,NQ hy,Ou]
theorem Fm {x y w:Nat} (hx:x<a) (hy:y<b) (hw:w<c):x+a * y+a * b * w<a * b * c:=by
 have h1:a * y+a<=a * b:=by rw [<- OY];exact Np _ hy
 have h2:a * b * w+a * b<=a * b * c:=by rw [<- OY];exact Np _ hw
 omega
theorem K2 (ha:0<a) (hb:0<b) (p:Nat):p % a+a * (p / a % b)+a * b * (p / (a * b))=p:=by
 rw [<- RO,SW,Qq,<- Ru,Sf,Sf]
theorem B3 {p:Nat} (hp:p<a * b * c):p / (a * b)<c:=Nx hp
theorem FN (ha:0<a) (p q:Nat):lsum a b c p q % a=(p+q) % a:=Ik (MF _ ha)
theorem FA (ha:0<a) (hb:0<b) (p q:Nat):lsum a b c p q / a % b=(p / a+q / a) % b:=Iy ha (MF _ ha) (MF _ hb)
theorem FW (ha:0<a) (hb:0<b) (p q:Nat):lsum a b c p q / (a * b)=(p / (a * b)+q / (a * b)) % c:=Iw ha hb (MF _ ha) (MF _ hb)
theorem jT (x y k:Nat):(x % k+y) % k=(x+y) % k:=Sg x k y
theorem IE (ha:0<a) (hb:0<b) (hc:0<c):Ab (a * b * c) (lsum a b c) where
 pos:=Oc (Oc ha hb) hc
 lt:=fun x y _ _=>Fm (MF _ ha) (MF _ hb) (MF _ hc)
 comm:=fun x y _ _=>by unfold lsum;rw [OG x y,OG (x / a),OG (x / (a * b))]
 assoc:=fun x y z _ _ _=>by
  have e1:(lsum a b c x y+z) % a=(x+lsum a b c y z) % a:=by
   rw [<- jT,FN ha,jT,OG x (lsum a b c y z),<- jT (lsum a b c y z),FN ha,jT]
   congr 1;omega
  have e2:(lsum a b c x y / a+z / a) % b=(x / a+lsum a b c y z / a) % b:=by
   rw [<- jT,FA ha hb,jT,OG (x / a) (lsum a b c y z / a),<- jT (lsum a b c y z / a),FA ha hb,jT]
   congr 1;omega
  have e3:(lsum a b c x y / (a * b)+z / (a * b)) % c=(x / (a * b)+lsum a b c y z / (a * b)) % c:=by
   rw [FW ha hb,FW ha hb,jT,OG (x / (a * b)) (_ % c),jT]
   congr 1;omega
  show (lsum a b c x y+z) % a+a * ((lsum a b c x y / a+z / a) % b)+a * b * ((lsum a b c x y / (a * b)+z / (a * b)) % c)=(x+lsum a b c y z) % a+a * ((x / a+lsum a b c y z / a) % b)+a * b * ((x / (a * b)+lsum a b c y z / (a * b)) % c);rw [e1,e2,e3]
 zero:=fun x hx=>by
  unfold lsum;rw [Si,Si,OJ,OJ,OJ,Nc (B3 hx),K2 ha hb]
 neg:=fun x hx=>by
  have hx1:x % a<a:=MF _ ha;have hy1:x / a % b<b:=MF _ hb;have hw1:x / (a * b)<c:=B3 hx;have lx:(a - x % a) % a<a:=MF _ ha;have ly:(b - x / a % b) % b<b:=MF _ hb;have lw:(c - x / (a * b)) % c<c:=MF _ hc;refine ⟨(a - x % a) % a+a * ((b - x / a % b) % b)+a * b * ((c - x / (a * b)) % c),Fm lx ly lw,?_⟩;have f1:(x+((a - x % a) % a+a * ((b - x / a % b) % b)+a * b * ((c - x / (a * b)) % c))) % a=0:=by
   rw [Nat.add_mod,Ik lx,Pc];have:x % a+(a - x % a)=a:=by omega
   rw [this,QN]
  have f2:(x / a+((a - x % a) % a+a * ((b - x / a % b) % b)+a * b * ((c - x / (a * b)) % c)) / a) % b=0:=by
   rw [Nat.add_mod,Iy ha lx ly,Pc];have:x / a % b+(b - x / a % b)=b:=by omega
   rw [this,QN]
  have f3:(x / (a * b)+((a - x % a) % a+a * ((b - x / a % b) % b)+a * b * ((c - x / (a * b)) % c)) / (a * b)) % c=0:=by
   rw [Iw ha hb lx ly,Pc];have:x / (a * b)+(c - x / (a * b))=c:=Rf (Oe hw1);rw [this,QN]
  unfold lsum;rw [f1,f2,f3,Pd,Pd]
end
def fD (a b c kind u0 u1 u2 p:Nat):Nat :=
 let x:=p % a
 let y:=p / a % b
 let w:=p / (a * b) * u2 % c
 match kind with
 | 1=>y+a * (x+b * w)
 | 2=>(a - y) % a+a * ((x+a - y) % a+b * w)
 | 3=>x+a * ((y+x) % b+b * w)
 | 4=>(x+a / 2 * y) % a+a * (y+b * w)
 | _=>x * u0 % a+a * (y * u1 % b+b * w)
def iter (f:Nat->Nat):Nat->Nat->Nat
 | 0,x=>x
 | n+1,x=>iter f n (f x)
def pw (u m:Nat):Nat->Nat
 | 0=>1
 | n+1=>pw u m n * u % m
def wA (a b c s kind u0 u1 u2:Nat):Bool :=
 (L4 (a * b * c)).all fun p=>Nat.blt (fD a b c kind u0 u1 u2 p) (a * b * c) && (Oz (iter (fD a b c kind u0 u1 u2) s p) p &&
  (L4 (a * b * c)).all fun q=>Oz (fD a b c kind u0 u1 u2 (lsum a b c p q)) (lsum a b c (fD a b c kind u0 u1 u2 p) (fD a b c kind u0 u1 u2 q)))
def fN (a b s kind:Nat):Bool:=kind == 0 || (kind == 1 && (a == b && s % 2 == 0)) || (kind == 2 && (a == b && s % 3 == 0)) || (kind == 3 && (a % b == 0 && (decide (1<b) && s % b == 0))) || (kind == 4 && (a % 2 == 0 && (b % 2 == 0 && s % 2 == 0)))
def unitsOf (m s:Nat):List Nat:=(L4 m).filter fun u=>Oz (pw u m s) (1 % m)
def Em:Bool:=(L4 4).all fun s'=>let s:=s'+1
 (L4 (23 / s)).all fun a'=>let a:=a'+1
 (L4 (23 / (s * a))).all fun b'=>let b:=b'+1
 (L4 (23 / (s * a * b))).all fun c'=>let c:=c'+1
 (L4 5).all fun k=>!fN a b s k || ((if Oz k 0 then unitsOf a s else [0]).all fun u0=>(if Oz k 0 then unitsOf b s else [0]).all fun u1=>(unitsOf c s).all fun u2=>wA a b c s k u0 u1 u2)
set_option maxRecDepth 1000000 in
theorem EI:Em=true:=by trivial
theorem AY (f:Nat->Nat):∀ (n x:Nat),iter f n x=Nat.repeat f n x
 | 0,_=>rfl
 | n+1,x=>by
  show iter f n (f x)=f (Nat.repeat f n x);rw [AY f n (f x)];have h1:=nU f x n 1;have h2:=nU f x 1 n;rw [OG] at h2;have e:Nat.repeat f n (Nat.repeat f 1 x)=Nat.repeat f 1 (Nat.repeat f n x):=h1.symm.trans h2;exact e
theorem sR {m s u:Nat}:u∈unitsOf m s↔u<m/\pw u m s=1 % m:=by
 unfold unitsOf;rw [Nz,Mj];simp
structure Par (a b c s kind u0 u1 u2:Nat):Prop where
 a1:1<=a
 b1:1<=b
 c1:1<=c
 s1:1<=s
 s4:s<=4
 le:a * b * c * s<=23
 k5:kind<5
 kind:fN a b s kind=true
 v0:u0∈unitsOf a s
 v1:u1∈unitsOf b s
 v2:u2∈unitsOf c s
theorem rV {x k n:Nat} (hx:1<=x) (hk:1<=k) (h:k * x<=n):x - 1<n / k:=by
 have:x<=n / k:=(Nat.le_div_iff_mul_le (by omega)).mpr (by rw [Py];exact h)
 omega
theorem JM {a b c kind u0 u1 u2:Nat} (h:kind≠0) (h5:kind<5):fD a b c kind u0 u1 u2=fD a b c kind 0 0 u2:=by
 match kind,h,h5 with
 | 1,_,_=>rfl
 | 2,_,_=>rfl
 | 3,_,_=>rfl
 | 4,_,_=>rfl
 | 0,h,_=>exact absurd rfl h
theorem Par.chk {a b c s kind u0 u1 u2:Nat} (P:Par a b c s kind u0 u1 u2):wA a b c s kind u0 u1 u2=true:=by
 have hle:=P.le;have h1:s * a<=23:=by
  have:s * a * (b * c)=a * b * c * s:=by simp only [Py,Qa]
  have z:s * a * 1<=s * a * (b * c):=Np _ (Oc P.b1 P.c1);omega
 have h2:s * a * b<=23:=by
  have:s * a * b * c=a * b * c * s:=by simp only [Py,Qa]
  have z:s * a * b * 1<=s * a * b * c:=Np _ P.c1;omega
 have h3:s * a * b * c<=23:=by
  have:s * a * b * c=a * b * c * s:=by simp only [Py,Qa]
  omega
 have sa:1<=s * a:=Oc P.s1 P.a1;have sab:1<=s * a * b:=Oc sa P.b1;have q0:=EI;unfold Em at q0;have q1:=MA.mp q0 (s - 1) (Mj.mpr (by have:=P.s1;have:=P.s4;omega))
 have es:s - 1+1=s:=by have:=P.s1;omega
 have ea:a - 1+1=a:=by have:=P.a1;omega
 have eb:b - 1+1=b:=by have:=P.b1;omega
 have ec:c - 1+1=c:=by have:=P.c1;omega
 try dsimp only at q1
 rw [es] at q1;have q2:=MA.mp q1 (a - 1) (Mj.mpr (rV P.a1 P.s1 h1))
 try dsimp only at q2
 rw [ea] at q2;have q3:=MA.mp q2 (b - 1) (Mj.mpr (rV P.b1 sa h2))
 try dsimp only at q3
 rw [eb] at q3;have q4:=MA.mp q3 (c - 1) (Mj.mpr (rV P.c1 sab h3))
 try dsimp only at q4
 rw [ec] at q4;have q5:=MA.mp q4 kind (Mj.mpr P.k5);rw [P.kind] at q5;simp only [Bool.not_true,Bool.false_or] at q5
 by_cases hk:kind=0
 ·subst hk;have q6:=MA.mp q5 u0 P.v0;have q7:=MA.mp q6 u1 P.v1;exact MA.mp q7 u2 P.v2
 ·have hb:Oz kind 0=false:=by
   cases h:Oz kind 0 with
   | false=>rfl
   | true=>exact absurd (Og h) hk
  rw [hb] at q5;have q6:=MA.mp q5 0 (Md.mpr rfl);have q7:=MA.mp q6 0 (Md.mpr rfl);have q8:=MA.mp q7 u2 P.v2;unfold wA at q8 ⊢;rw [JM hk P.k5];exact q8
theorem Par.tn {a b c s kind u0 u1 u2 e:Nat} (P:Par a b c s kind u0 u1 u2) (he:e<a * b * c) (fe:fD a b c kind u0 u1 u2 e=e):Tn (a * b * c) (lsum a b c) (fD a b c kind u0 u1 u2) s e:=by
 have q:=P.chk;unfold wA at q;have q':∀ p,p<a * b * c->_:=fun p hp=>MA.mp q p (Mj.mpr hp);simp only [NO,MA,Mj] at q';refine { IE P.a1 P.b1 P.c1 with lY:=P.s1,flt:=fun x hx=>?_,fad:=fun x y hx hy=>?_,per:=fun x hx=>?_,elt:=he,fe:=fe }
 ·have z:=(q' x hx).1;exact Nat.le_of_ble_eq_true z
 ·exact Og ((q' x hx).2.2 y hy)
 ·rw [<- AY];exact Og (q' x hx).2.1
theorem GT.rel {n:Nat} {t t':List (List Nat)} {e:Nat} (g:GT n t e) (π:List Nat) (hl:π.length=n) (hm:∀ x,x∈π↔x<n) (sq:Sq n t')
  (h:∀ a b,a<n->b<n->tb t' (π.getD a 0) (π.getD b 0)=π.getD (tb t a b) 0):GT n t' (π.getD e 0):=by
 have into:∀ a,a<n->π.getD a 0<n:=fun a ha=>by
  have:π.getD a 0∈π:=by
   rw [LS,LP (by omega)]
   exact Nu _
  exact (hm _).mp this
 have onto:∀ i,i<n->∃ a,a<n/\π.getD a 0=i:=fun i hi=>by
  obtain ⟨a,ha,e'⟩:=Sw.mp ((hm i).mpr hi);refine ⟨a,by omega,?_⟩
  rw [LS,LP ha,e'];rfl
 refine ⟨⟨sq,fun i j hi hj=>?_⟩,into e g.elt,fun i hi=>?_,fun i hi=>?_,fun i hi=>?_,fun i j k hi hj hk=>?_⟩
 ·obtain ⟨a,ha,rfl⟩:=onto i hi;obtain ⟨b,hb,rfl⟩:=onto j hj;rw [h a b ha hb];exact into _ (g.lt a b ha hb)
 ·obtain ⟨a,ha,rfl⟩:=onto i hi;rw [h e a g.elt ha,g.unl a ha]
 ·obtain ⟨a,ha,rfl⟩:=onto i hi;rw [h a e ha g.elt,g.unr a ha]
 ·obtain ⟨a,ha,rfl⟩:=onto i hi;obtain ⟨b,hb,x,y⟩:=g.back a ha;exact ⟨π.getD b 0,into b hb,by rw [h a b ha hb,x],by rw [h b a hb ha,y]⟩
 ·obtain ⟨a,ha,rfl⟩:=onto i hi;obtain ⟨b,hb,rfl⟩:=onto j hj;obtain ⟨d,hd,rfl⟩:=onto k hk;rw [h a b ha hb,h b d hb hd,h _ d (g.lt a b ha hb) hd,h a _ ha (g.lt b d hb hd),g.assoc a b d ha hb hd]
theorem KA {m:Nat} {ad:Nat->Nat->Nat} {f:Nat->Nat} {s e:Nat} (T:Tn m ad f s e) (h:m * s<=23):GT (m * s) (mkT (m * s) (cyc m ad f s e)) 0 :=
 Fz (Oc T.pos T.lY) h (fun _ _ ha hb=>Fw T ha hb) (Oc T.pos T.lY) (fun _ ha=>Jz T ha) (fun _ ha=>wU T ha) (fun _ ha=>Hk T ha) (fun _ _ _ ha hb hc=>tm T ha hb hc)
theorem getD_some {α:Type} {l:List α} {i:Nat} (d:α) (h:i<l.length):l[i]?=some (l.getD i d):=by
 rw [LS,LP h];rfl
theorem KC {m:Nat} {ad:Nat->Nat->Nat} {f:Nat->Nat} {s e x y i j:Nat} (hx:x<m) (hy:y<m) :
  cyc m ad f s e (x+m * i) (y+m * j)=(if s<=i+j then ad (ad x (Nat.repeat f i y)) e else ad x (Nat.repeat f i y))+m * ((i+j) % s):=by
 have hm:0<m:=by omega
 have d1:(x+m * i) / m=i:=by rw [N4 _ _ hm,NQ hx,Ou]
 have d2:(y+m * j) / m=j:=by rw [N4 _ _ hm,NQ hy,Ou]
 have r1:(x+m * i) % m=x:=by rw [NN,Nc hx]
 have r2:(y+m * j) % m=y:=by rw [NN,Nc hy]
 unfold cyc;rw [d1,d2,r1,r2]
theorem Dj (a b c kind u0 u1 u2:Nat):fD a b c kind u0 u1 u2 0=0:=by
 unfold fD;have e1:(0:Nat) / (a * b) * u2 % c=0:=by rw [Si,Nat.zero_mul,Sj]
 have e2:(0:Nat) / a % b=0:=by rw [Si,Sj]
 simp only [e1,e2,Sj]
 split <;> simp
def JT:Bool:=(L4 24).all fun m=>(L4 5).all fun s=>Oz m 0 || (Oz s 0 || !(unitsOf m s).isEmpty)
theorem Ji:JT=true:=by trivial
theorem Gq {m s:Nat} (h1:1<=m) (h2:m<=23) (h3:1<=s) (h4:s<=4):unitsOf m s≠[]:=by
 have q0:=Ji;unfold JT at q0;have q1:=MA.mp q0 m (Mj.mpr (by omega))
 have q2:=MA.mp q1 s (Mj.mpr (by omega))
 have b1:Oz m 0=false:=by
  cases h:Oz m 0 with
  | false=>rfl
  | true=>have:=Og h;omega
 have b2:Oz s 0=false:=by
  cases h:Oz s 0 with
  | false=>rfl
  | true=>have:=Og h;omega
 rw [b1,b2] at q2;intro e;rw [e] at q2;exact absurd q2 (by decide)
theorem vy (m s i:Nat):((L4 (i+1)).filter fun u=>Oz (pw u m s) (1 % m))=(if pw i m s=1 % m then ((L4 i).filter fun u=>Oz (pw u m s) (1 % m))++[i] else (L4 i).filter fun u=>Oz (pw u m s) (1 % m)):=by
 rw [PX,List.filter_append]
 by_cases h:pw i m s=1 % m
 ·rw [if_pos h];have:Oz (pw i m s) (1 % m)=true:=by rw [h];exact Nat.beq_refl _
  simp [this]
 ·rw [if_neg h];have:Oz (pw i m s) (1 % m)=false:=by
   cases q:Oz (pw i m s) (1 % m) with
   | false=>rfl
   | true=>exact absurd (Og q) h
  simp [this]
theorem Hs {π:List Nat} {k i:Nat} (h:π.Perm (L4 i)):(π.take k++i :: π.drop k).Perm (L4 (i+1)):=by
 refine RF.trans ?_;rw [Qg,PX];exact (List.Perm.cons i h).trans (List.perm_append_singleton i (L4 i)).symm
theorem KQ {rows:List (List Nat)} {n i j i' j' x:Nat} (hl:rows.length=n) (hr:∀ (k:Nat) (r:List Nat),rows[k]?=some r->r.length=n) (hi:i<n) (hj:j<n) :
  tb (rows.set i ((rows.getD i []).set j x)) i' j'=if i'=i/\j'=j then x else tb rows i' j':=by
 have hi2:i<rows.length:=by omega
 unfold tb
 by_cases e:i'=i
 ·subst e;have hrow:(rows.getD i' []).length=n:=hr i' _ (by rw [LS,LP hi2];rfl)
  have e1:(rows.set i' ((rows.getD i' []).set j x)).getD i' []=(rows.getD i' []).set j x:=by
   rw [LS,NL hi2];rfl
  rw [e1]
  by_cases e2:j'=j
  ·subst e2;rw [if_pos ⟨rfl,rfl⟩,LS,NL (by omega)]
   rfl
  ·rw [if_neg (fun z=>e2 z.2),LS,N2 (NV e2),<- LS]
 ·rw [if_neg (fun z=>e z.1)];have e1:(rows.set i ((rows.getD i []).set j x)).getD i' []=rows.getD i' []:=by
   rw [LS,N2 (NV e),<- LS]
  rw [e1]
theorem o9 {π:List Nat} {n a:Nat} (h:π.Perm (L4 n)) (ha:a<n):π.getD a 0<n:=by
 have hl:π.length=n:=by rw [h.length_eq,MU]
 have:π.getD a 0∈π:=by
  rw [LS,LP (by omega)]
  exact Nu _
 exact Mj.mp (h.mem_iff.mp this)
theorem A9 {π:List Nat} {n a b:Nat} (h:π.Perm (L4 n)) (ha:a<n) (hb:b<n) (e:π.getD a 0=π.getD b 0):a=b:=by
 have hl:π.length=n:=by rw [h.length_eq,MU]
 have nd:π.Nodup:=h.nodup_iff.mpr O5;have ha':a<π.length:=by omega
 have hb':b<π.length:=by omega
 rw [LS,LS,LP ha',LP hb'] at e;exact (Qi nd).mp e
structure Ren (n:Nat) (π:List Nat) (R rows:List (List Nat)) (A B:Nat):Prop where
 len:rows.length=n
 row:∀ (i:Nat) (r:List Nat),rows[i]?=some r->r.length=n
 at_:∀ a b,a<n->b<n->(a<A\/(a=A/\b<B))->tb rows (π.getD a 0) (π.getD b 0)=π.getD (tb R a b) 0
theorem Ren.put {n:Nat} {π:List Nat} {R rows:List (List Nat)} {A B:Nat} (h:Ren n π R rows A B) (hp:π.Perm (L4 n)) (hA:A<n) (hB:B<n) :
  Ren n π R (rows.set (π.getD A 0) ((rows.getD (π.getD A 0) []).set (π.getD B 0) (π.getD (tb R A B) 0))) A (B+1):=by
 have iA:=o9 hp hA;have iB:=o9 hp hB;refine ⟨by rw [Qt];exact h.len,fun i r e=>?_,fun a b ha hb c=>?_⟩
 ·by_cases q:i=π.getD A 0
  ·subst q;rw [NL (by rw [h.len];exact iA)] at e
   cases e;rw [Qt];exact h.row (π.getD A 0) _ (getD_some [] (by rw [h.len];exact iA))
  ·rw [N2 (NV q)] at e;exact h.row i r e
 ·rw [KQ h.len h.row iA iB]
  by_cases q:a=A/\b=B
  ·obtain ⟨rfl,rfl⟩:=q;rw [if_pos ⟨rfl,rfl⟩]
  ·rw [if_neg fun z=>q ⟨A9 hp ha hA z.1,A9 hp hb hB z.2⟩];refine h.at_ a b ha hb ?_;omega
theorem Ren.next {n:Nat} {π:List Nat} {R rows:List (List Nat)} {A:Nat} (h:Ren n π R rows A n):Ren n π R rows (A+1) 0 :=
 ⟨h.len,h.row,fun a b ha hb c=>h.at_ a b ha hb (by omega)⟩
theorem Ren.gt {n:Nat} {π:List Nat} {R rows:List (List Nat)} {e:Nat} (h:Ren n π R rows n 0) (hp:π.Perm (L4 n)) (g:GT n R e):GT n rows (π.getD e 0) :=
 g.rel π (by rw [hp.length_eq,MU]) (fun x=>by rw [hp.mem_iff,Mj]) ⟨h.len,g.pos,g.le,h.row⟩ fun a b ha hb=>h.at_ a b ha hb (.inl ha)
def GJ:List (List Nat):=[[2,2,1,3],[7,1,1,3],[5,1,1,4],[4,2,1,2],[3,3,1,2],[8,1,1,2],[4,1,1,2],[2,2,2,2],[3,1,1,4],[2,2,1,2],[5,1,1,2],[9,1,1,2]]
theorem uj (p:Nat->Bool) (i:Nat):(L4 (i+1)).filter p=if p i=true then (L4 i).filter p++[i] else (L4 i).filter p:=by
 rw [PX,List.filter_append];cases q:p i with
 | true=>simp [q]
 | false=>simp [q]
theorem uX (p:Nat->Bool) (i:Nat):((L4 i).filter p).length<=i:=by
 have:=OK p (L4 i);rw [MU] at this;exact this
theorem sub_len:∀ {l1 l2:List Nat},l1.Nodup->(∀ x∈l1,x∈l2)->l1.length<=l2.length
 | [],_,_,_=>Nd _
 | a :: l1,l2,nd,h=>by
  have ha:a∈l2:=h a Mn;rw [Nm] at nd;have ih:=sub_len (l1:=l1) (l2:=l2.erase a) nd.2 fun x hx=>(List.mem_erase_of_ne (show x≠a from fun e=>nd.1 (by rw [<- e];exact hx))).mpr (h x (Mh _ hx))
  rw [List.length_erase_of_mem ha] at ih;have:0<l2.length:=List.length_pos_of_mem ha;rw [MX];omega
theorem mZ {f:Nat->Nat}:∀ {l:List Nat},l.Nodup->(∀ x∈l,∀ y∈l,f x=f y->x=y)->(l.map f).Nodup
 | [],_,_=>by simp
 | a :: l,nd,h=>by
  rw [Nm] at nd;rw [MO,Nm];refine ⟨fun z=>?_,mZ nd.2 fun x hx y hy=>h x (Mh _ hx) y (Mh _ hy)⟩;obtain ⟨b,hb,e⟩:=Mm.mp z;exact nd.1 (h b (Mh _ hb) a Mn e ▸ hb)
theorem x3 (p:Nat->Bool):∀ l:List Nat,l.length=(l.filter p).length+(l.filter fun y=>!p y).length
 | []=>rfl
 | a :: l=>by
  have ih:=x3 p l;cases h:p a with
  | true =>
   rw [Rv h,PY (by simp [h]),MX,MX]
   omega
  | false =>
   rw [PY (by simp [h]),Rv (by simp [h]),MX,MX]
   omega
theorem php {n:Nat} {f:Nat->Nat} (h:∀ i,i<=n->f i<n):∃ i j,i<j/\j<=n/\f i=f j:=by
 by_cases q:∃ i j,i<j/\j<=n/\f i=f j
 ·exact q
 ·exfalso
  have nd:((L4 (n+1)).map f).Nodup:=mZ O5 fun x hx y hy e=>by
   have hx':=Mj.mp hx;have hy':=Mj.mp hy;rcases Ob x y with z|z|z
   ·exact absurd ⟨x,y,z,by omega,e⟩ q
   ·exact z
   ·exact absurd ⟨y,x,z,by omega,e.symm⟩ q
  have:=sub_len nd (l2:=L4 n) fun x hx=>by
   obtain ⟨i,hi,rfl⟩:=Mm.mp hx;exact Mj.mpr (h i (by have:=Mj.mp hi;omega))
  simp at this;omega
section
variable {n:Nat} {t:List (List Nat)} {e:Nat}
theorem GT.tX (g:GT n t e) {a:Nat} (ha:a<n):bN n t e a<n:=(g.bk ha).1
theorem GT.wX (g:GT n t e) {a:Nat} (ha:a<n):tb t a (bN n t e a)=e:=(g.bk ha).2.1
theorem GT.Bj (g:GT n t e) {a:Nat} (ha:a<n):tb t (bN n t e a) a=e:=(g.bk ha).2.2
theorem GT.ki (g:GT n t e) {x y z:Nat} (hx:x<n) (hy:y<n) (hz:z<n) (h:tb t x y=tb t x z):y=z:=by
 have hb:=g.tX hx;have h1:tb t (bN n t e x) (tb t x y)=tb t (bN n t e x) (tb t x z):=by rw [h]
 rw [<- g.assoc _ _ _ hb hx hy,<- g.assoc _ _ _ hb hx hz,g.Bj hx,g.unl y hy,g.unl z hz] at h1;exact h1
theorem GT.idem (g:GT n t e) {x:Nat} (hx:x<n):tb t x x=x↔x=e:=by
 constructor
 ·intro h;refine g.ki hx hx g.elt ?_;rw [h,g.unr x hx]
 ·rintro rfl;exact g.unl _ hx
theorem GT.EM (g:GT n t e) {a b:Nat} (ha:a<n) (hb:b<n) (h:tb t a b=e):b=bN n t e a :=
 g.ki ha hb (g.tX ha) (h.trans (g.wX ha).symm)
def bH (t:List (List Nat)) (e a:Nat):Nat->Nat
 | 0=>e
 | k+1=>tb t (bH t e a k) a
variable {a:Nat}
theorem cw (g:GT n t e) (ha:a<n):∀ k,bH t e a k<n
 | 0=>g.elt
 | k+1=>g.lt _ _ (cw g ha k) ha
theorem ot (g:GT n t e) (ha:a<n):bH t e a 1=a:=g.unl a ha
theorem ji (g:GT n t e) (ha:a<n) (i:Nat):∀ j,bH t e a (i+j)=tb t (bH t e a i) (bH t e a j)
 | 0=>(g.unr _ (cw g ha i)).symm
 | j+1=>by
  show tb t (bH t e a (i+j)) a=tb t (bH t e a i) (tb t (bH t e a j) a);rw [ji g ha i j,g.assoc _ _ _ (cw g ha i) (cw g ha j) ha]
theorem Jw (g:GT n t e) (ha:a<n):∃ k,k<n/\bH t e a (k+1)=e:=by
 obtain ⟨i,j,hij,hj,q⟩:=php (f:=bH t e a) (n:=n) fun i _=>cw g ha i;refine ⟨j - i - 1,by omega,?_⟩
 have e1:j=i+(j - i - 1+1):=by omega
 rw [e1,ji g ha] at q;refine (g.ki (cw g ha i) (cw g ha _) g.elt ?_);rw [<- q,g.unr _ (cw g ha i)]
def bh (n:Nat) (t:List (List Nat)) (e a:Nat):Nat:=((L4 n).find? fun k=>decide (bH t e a (k+1)=e)).getD 0+1
theorem gi (g:GT n t e) (ha:a<n):bh n t e a<=n/\bH t e a (bh n t e a)=e/\∀ k,1<=k->k<bh n t e a->bH t e a k≠e:=by
 obtain ⟨k,hk,h⟩:=Jw g ha;unfold bh;cases q:(L4 n).find? (fun k=>decide (bH t e a (k+1)=e)) with
 | none =>
  rw [Rc] at q;have:=q k hk;simp at this;exact absurd h this
 | some c =>
  rw [Rb] at q;obtain ⟨h1,h2,h3⟩:=q;have h2':c<n:=by simpa using h2
  refine ⟨by show c+1<=n;omega,by simpa using h1,fun k k1 k2 z=>?_⟩
  have k2':k<c+1:=k2;have:=h3 (k - 1) (by omega)
  rw [show k - 1+1=k by omega,z] at this
  simp at this
theorem jJ:1<=bh n t e a:=Nat.succ_le_succ (Nd _)
theorem qH (g:GT n t e) (ha:a<n) {o:Nat} (h:bH t e a o=e):∀ k,bH t e a (o * k)=e
 | 0=>rfl
 | k+1=>by rw [OY,ji g ha,qH g ha h k,h,g.unl e g.elt]
theorem AH (g:GT n t e) (ha:a<n) (k:Nat):bH t e a (k % bh n t e a)=bH t e a k:=by
 have h:=(gi g ha).2.1
 conv=>rhs;rw [<- PV k (bh n t e a),ji g ha,qH g ha h,g.unl _ (cw g ha _)]
theorem Ay (g:GT n t e) (ha:a<n) {i j:Nat} (hi:i<bh n t e a) (hj:j<bh n t e a) (h:bH t e a i=bH t e a j):i=j:=by
 have key:∀ {i j:Nat},i<j->j<bh n t e a->bH t e a i=bH t e a j->False:=fun {i j} hij hj h=>by
  have e1:j=i+(j - i):=by omega
  rw [e1,ji g ha] at h;have:=g.ki (cw g ha i) (cw g ha (j - i)) g.elt (by rw [<- h,g.unr _ (cw g ha i)])
  exact (gi g ha).2.2 (j - i) (by omega) (by omega) this
 rcases Ob i j with z|z|z
 ·exact (key z hj h).elim
 ·exact z
 ·exact (key z hi h.symm).elim
theorem IV (g:GT n t e) (ha:a<n) {k:Nat} (h:bH t e a k=e):bh n t e a ∣ k:=by
 have h1:=AH g ha k;rw [h] at h1;have h2:k % bh n t e a<bh n t e a:=MF _ jJ;have h3:=Ay g ha h2 (i:=k % bh n t e a) (j:=0) jJ h1;exact P0 h3
theorem Ag (g:GT n t e) {P:List Nat} (nd:P.Nodup) (lt:∀ h∈P,h<n) (he:e∈P) (cl:∀ h∈P,∀ k∈P,tb t h k∈P) (bk:∀ h∈P,bN n t e h∈P) :
  ∀ (k:Nat) (S:List Nat),S.length<=k->S.Nodup->(∀ x∈S,x<n)->(∀ x∈S,∀ h∈P,tb t x h∈S)->P.length ∣ S.length
 | 0,S,hk,_,_,_=>by
  have:S.length=0:=by omega
  rw [this];exact Nat.dvd_zero _
 | k+1,[],_,_,_,_=>Nat.dvd_zero _
 | k+1,x :: S,hk,hn,hl,hc=>by
  have hx:x<n:=hl x Mn
  let C:=P.map (tb t x)
  have cn:C.Nodup:=mZ nd fun y hy z hz q=>g.ki hx (lt y hy) (lt z hz) q;have cs:∀ y∈C,y∈x :: S:=fun y hy=>by
   obtain ⟨h,hh,rfl⟩:=Mm.mp hy;exact hc x Mn h hh
  have xC:x∈C:=Mm.mpr ⟨e,he,g.unr x hx⟩;have ih:=Ag g nd lt he cl bk k ((x :: S).filter fun y=>!decide (y∈C)) (by
    have:((x :: S).filter fun y=>!decide (y∈C))=S.filter fun y=>!decide (y∈C):=by
     rw [PY];simp [xC]
    rw [this];have:=OK (fun y=>!decide (y∈C)) S;rw [MX] at hk;omega)
   (hn.sublist SM) (fun y hy=>hl y (Nz.mp hy).1) fun y hy h hh=>by
    have hy1:=Nz.mp hy;have hyn:=hl y hy1.1;refine Nz.mpr ⟨hc y hy1.1 h hh,?_⟩;have ny:y∉C:=by simpa using hy1.2
    simp only [Pg,decide_eq_false_iff_not];intro z;obtain ⟨h',hh',q⟩:=Mm.mp z;have hb:=bk h hh;refine ny (Mm.mpr ⟨tb t h' (bN n t e h),cl h' hh' _ hb,?_⟩);rw [<- g.assoc _ _ _ hx (lt h' hh') (lt _ hb),q,g.assoc _ _ _ hyn (lt h hh) (lt _ hb),g.wX (lt h hh),g.unr y hyn]
  have e1:((x :: S).filter fun y=>decide (y∈C)).length=P.length:=by
   have l1:((x :: S).filter fun y=>decide (y∈C)).length<=C.length:=sub_len (hn.sublist SM) fun y hy=>by simpa using (Nz.mp hy).2
   have l2:C.length<=((x :: S).filter fun y=>decide (y∈C)).length:=sub_len cn fun y hy=>Nz.mpr ⟨cs y hy,by simpa using hy⟩
   have l3:C.length=P.length:=LO ..;omega
  have e2:(x :: S).length=((x :: S).filter fun y=>decide (y∈C)).length+((x :: S).filter fun y=>!decide (y∈C)).length:=x3 _ _;rw [e2,e1];exact (Nat.dvd_add_right (Nat.dvd_refl _)).mpr ih
theorem E9 (g:GT n t e) (ha:a<n):bh n t e a ∣ n:=by
 let P:=(L4 (bh n t e a)).map (bH t e a)
 have mem:∀ k,bH t e a k∈P:=fun k=>by
  rw [<- AH g ha k];exact Mm.mpr ⟨_,Mj.mpr (MF _ jJ),rfl⟩
 have frm:∀ h∈P,∃ k,k<bh n t e a/\bH t e a k=h:=fun h hh=>by
  obtain ⟨k,hk,q⟩:=Mm.mp hh;exact ⟨k,Mj.mp hk,q⟩
 have r:=Ag g (P:=P) (mZ O5 fun x hx y hy q=>Ay g ha (Mj.mp hx) (Mj.mp hy) q)
  (fun h hh=>by obtain ⟨k,_,rfl⟩:=frm h hh;exact cw g ha k) (mem 0)
  (fun h hh k hk=>by
   obtain ⟨i,_,rfl⟩:=frm h hh;obtain ⟨j,_,rfl⟩:=frm k hk;rw [<- ji g ha];exact mem _)
  (fun h hh=>by
   obtain ⟨i,hi,rfl⟩:=frm h hh;have q:tb t (bH t e a i) (bH t e a (bh n t e a - i))=e:=by
    rw [<- ji g ha,show i+(bh n t e a - i)=bh n t e a by omega]
    exact (gi g ha).2.1
   rw [<- g.EM (cw g ha i) (cw g ha _) q];exact mem _)
  n (L4 n) (by simp) O5 (fun x hx=>Mj.mp hx) fun x hx h hh=>by
   obtain ⟨k,_,rfl⟩:=frm h hh;exact Mj.mpr (g.lt _ _ (Mj.mp hx) (cw g ha k))
 have e1:P.length=bh n t e a:=by simp [P]
 rw [e1,MU] at r;exact r
theorem JU (g:GT n t e) (ha:a<n):bH t e a n=e:=by
 obtain ⟨k,hk⟩:=E9 g ha
 conv=>lhs;rw [hk]
 exact qH g ha (gi g ha).2.1 k
end
theorem D2 {n:Nat} {t:List (List Nat)} {e:Nat} (g:GT n t e):((L4 n).filter fun a=>decide (tb t a a=a))[0]?=some e:=by
 have he:e∈(L4 n).filter fun a=>decide (tb t a a=a):=Nz.mpr ⟨Mj.mpr g.elt,by simpa using (g.idem g.elt).mpr rfl⟩
 cases q:(L4 n).filter fun a=>decide (tb t a a=a) with
 | nil=>rw [q] at he;cases he
 | cons x r =>
  have hx:x∈(L4 n).filter fun a=>decide (tb t a a=a):=by rw [q];exact Mn
  have h1:=Nz.mp hx;have h2:=(g.idem (Mj.mp h1.1)).mp (by simpa using h1.2)
  rw [h2];rfl
structure dq (l:List Nat) (k:Nat):Prop where
 pos:1<=k
 all:∀ s∈l,k % s=0
 least:∀ j,1<=j->j<k->∃ s,s∈l/\j % s≠0
theorem dq.uni {l:List Nat} {k k':Nat} (h:dq l k) (h':dq l k'):k=k':=by
 rcases Ob k k' with z|z|z
 ·obtain ⟨s,hs,q⟩:=h'.least k h.pos z;exact absurd (h.all s hs) q
 ·exact z
 ·obtain ⟨s,hs,q⟩:=h.least k' h'.pos z;exact absurd (h'.all s hs) q
def bnd:List Nat->Nat
 | []=>1
 | s :: l=>s * bnd l
theorem CA:∀ {l:List Nat},(∀ s∈l,1<=s)->1<=bnd l
 | [],_=>Mi _
 | s :: l,h=>Oc (h s Mn) (CA fun x hx=>h x (Mh _ hx))
theorem B4:∀ {l:List Nat} {s:Nat},s∈l->bnd l % s=0
 | a :: l,s,h=>by
  rcases My.mp h with z|z
  ·subst z;exact Nat.mul_mod_right s (bnd l)
  ·have ih:=B4 z;obtain ⟨c,hc⟩:=P0 ih;show a * bnd l % s=0;rw [hc,Qa];exact Nat.mul_mod_right s _
theorem qV:∀ {l r:List Nat},l.Pairwise (· < ·)->r.Pairwise (· < ·)->(∀ x,x∈l↔x∈r)->l=r
 | [],[],_,_,_=>rfl
 | [],b :: r,_,_,h=>absurd ((h b).mpr Mn) (by simp)
 | a :: l,[],_,_,h=>absurd ((h a).mp Mn) (by simp)
 | a :: l,b :: r,hl,hr,h=>by
  rw [NZ] at hl hr;have e:a=b:=by
   rcases My.mp ((h a).mp Mn) with z|z
   ·exact z
   ·rcases My.mp ((h b).mpr Mn) with y|y
    ·exact y.symm
    ·have h1:=hr.1 a z;have h2:=hl.1 b y;omega
  subst e;refine congrArg (a :: ·) (qV hl.2 hr.2 fun x=>?_);constructor
  ·intro hx;rcases My.mp ((h x).mp (Mh _ hx)) with z|z
   ·have:=hl.1 x hx;omega
   ·exact z
  ·intro hx;rcases My.mp ((h x).mpr (Mh _ hx)) with z|z
   ·have:=hr.1 x hx;omega
   ·exact z
theorem oS:∀ {l:List Nat},l.Nodup->l.Pairwise (·<=·)->l.Pairwise (· < ·)
 | [],_,_=>.nil
 | a :: l,nd,h=>by
  rw [Nm] at nd;rw [NZ] at h ⊢;refine ⟨fun b hb=>?_,oS nd.2 h.2⟩;have h1:=h.1 b hb;have h2:a≠b:=fun z=>nd.1 (by rw [z];exact hb)
  omega
theorem cz {l:List Nat} (h:l.Pairwise (· < ·)):l.Nodup:=h.imp fun z=>Mp z
theorem i3 {l:List Nat} {n:Nat} (nd:l.Nodup) (h:∀ x∈l,x<n):l.length<=n:=by
 have:=sub_len nd (l2:=L4 n) fun x hx=>Mj.mpr (h x hx)
 simpa using this
section
variable {n:Nat} {t:List (List Nat)} {e:Nat}
theorem E1 (g:GT n t e) {x:Nat} (hx:x<n):∀ (l:List Nat) {a:Nat},a<n->(∀ y∈l,y<n)->prd t (tb t x a) l=tb t x (prd t a l)
 | [],_,_,_=>rfl
 | y :: l,a,ha,hl=>by
  have hy:=hl y Mn;show prd t (tb t (tb t x a) y) l=tb t x (prd t (tb t a y) l);rw [g.assoc x a y hx ha hy];exact E1 g hx l (g.lt a y ha hy) fun z hz=>hl z (Mh _ hz)
theorem zB (g:GT n t e) {x:Nat} (hx:x<n) {l:List Nat} (hl:∀ y∈l,y<n):prd t x l=tb t x (prd t e l):=by
 rw [<- E1 g hx l g.elt hl,g.unr x hx]
theorem Ju (a:Nat) (l r:List Nat):prd t a (l++r)=prd t (prd t a l) r:=by
 unfold prd;rw [List.foldl_append]
structure Gen (n:Nat) (t:List (List Nat)) (e:Nat) (S P:List Nat):Prop where
 srt:P.Pairwise (· < ·)
 lt:∀ x∈P,x<n
 un:e∈P
 cl:∀ x∈P,∀ s∈S,tb t x s∈P
 wd:∀ x∈P,∃ l,(∀ y∈l,y∈S)/\prd t e l=x
structure IsPart (n:Nat) (t:List (List Nat)) (P:List Nat):Prop where
 srt:P.Pairwise (· < ·)
 lt:∀ x∈P,x<n
 ne:P≠[]
 cl:∀ x∈P,∀ y∈P,tb t x y∈P
variable {S P:List Nat}
theorem Gen.walk (G:Gen n t e S P):∀ (l:List Nat) {x:Nat},x∈P->(∀ y∈l,y∈S)->prd t x l∈P
 | [],_,hx,_=>hx
 | y :: l,x,hx,hl=>G.walk l (G.cl x hx y (hl y Mn)) fun z hz=>hl z (Mh _ hz)
theorem Gen.part (G:Gen n t e S P) (g:GT n t e) (hS:∀ s∈S,s<n):IsPart n t P:=by
 refine ⟨G.srt,G.lt,PZ G.un,fun x hx y hy=>?_⟩;obtain ⟨l,hl,rfl⟩:=G.wd y hy;rw [<- zB g (G.lt x hx) fun z hz=>hS z (hl z hz)];exact G.walk l hx hl
theorem IsPart.pow (h:IsPart n t P) (g:GT n t e) {x:Nat} (hx:x∈P):∀ k,bH t e x (k+1)∈P
 | 0=>by rw [ot g (h.lt x hx)];exact hx
 | k+1=>h.cl _ (h.pow g hx k) _ hx
theorem IsPart.un (h:IsPart n t P) (g:GT n t e):e∈P:=by
 obtain ⟨x,hx⟩:=List.exists_mem_of_ne_nil _ h.ne;have o:=gi g (h.lt x hx);have:=h.pow g hx (bh n t e x - 1);rw [show bh n t e x - 1+1=bh n t e x by have:=jJ (n:=n) (t:=t) (e:=e) (a:=x);omega,o.2.1] at this
 exact this
theorem IsPart.bk (h:IsPart n t P) (g:GT n t e) {x:Nat} (hx:x∈P):bN n t e x∈P:=by
 have hn:=h.lt x hx;have o:=gi g hn;have op:1<=bh n t e x:=jJ;have q:tb t x (bH t e x (bh n t e x - 1))=e:=by
  have:=ji g hn 1 (bh n t e x - 1);rw [show 1+(bh n t e x - 1)=bh n t e x by omega,o.2.1,ot g hn] at this
  exact this.symm
 rw [<- g.EM hn (cw g hn _) q];cases h1:bh n t e x - 1 with
 | zero=>exact h.un g
 | succ k=>exact h.pow g hx k
theorem IsPart.len (h:IsPart n t P):P.length<=n:=i3 (cz h.srt) h.lt
theorem Gen.len (G:Gen n t e S P):P.length<=n:=i3 (cz G.srt) G.lt
structure oI (n:Nat) (t:List (List Nat)) (e:Nat) (S F:List Nat) (A:Nat):Prop where
 nd:F.Nodup
 lt:∀ x∈F,x<n
 un:e∈F
 le:A<=F.length
 cl:∀ i x,i<A->F[i]?=some x->∀ s∈S,tb t x s∈F
 wd:∀ x∈F,∃ l,(∀ y∈l,y∈S)/\prd t e l=x
theorem oI.len {F:List Nat} {A:Nat} (G:oI n t e S F A):F.length<=n:=i3 G.nd G.lt
theorem oI.put {F:List Nat} {A x s:Nat} (G:oI n t e S F A) (g:GT n t e) (hx:x∈F) (hs:s∈S) (hn:s<n) (h:tb t x s∉F):oI n t e S (F++[tb t x s]) A:=by
 refine ⟨?_,fun y hy=>?_,Nw _ G.un,by rw [Mo];have:=G.le;omega,fun i y hi e' r hr=>?_,fun y hy=>?_⟩
 ·rw [P6];exact ⟨G.nd,by simp,fun a ha b hb=>by rw [Md.mp hb];exact fun z=>h (z ▸ ha)⟩
 ·rcases MC.mp hy with z|z
  ·exact G.lt y z
  ·rw [Md.mp z];exact g.lt x s (G.lt x hx) hn
 ·rw [MP (Ml hi G.le)] at e';exact Nw _ (G.cl i y hi e' r hr)
 ·rcases MC.mp hy with z|z
  ·exact G.wd y z
  ·obtain ⟨l,hl,q⟩:=G.wd x hx;refine ⟨l++[s],fun u hu=>?_,?_⟩
   ·rcases MC.mp hu with z' | z'
    ·exact hl u z'
    ·rw [Md.mp z'];exact hs
   ·rw [Ju,q,Md.mp z];rfl
theorem oI.next {F:List Nat} {A x:Nat} (G:oI n t e S F A) (hx:F[A]?=some x) (h:∀ s∈S,tb t x s∈F):oI n t e S F (A+1) :=
 ⟨G.nd,G.lt,G.un,(LQ.mp hx).1,fun i y hi e'=>by
  rcases MH i A with z|z
  ·exact G.cl i y z e'
  ·have:i=A:=by omega
   subst this;rw [hx] at e';cases e';exact h,G.wd⟩
theorem oI.gen {F P:List Nat} {A:Nat} (G:oI n t e S F A) (hA:F.length<=A) (hp:P.Perm F) (hs:P.Pairwise (·<=·)):Gen n t e S P:=by
 refine ⟨oS (hp.nodup_iff.mpr G.nd) hs,fun x hx=>G.lt x (hp.mem_iff.mp hx),hp.mem_iff.mpr G.un,fun x hx s hs'=>?_,fun x hx=>G.wd x (hp.mem_iff.mp hx)⟩;obtain ⟨i,hi,e'⟩:=Sw.mp (hp.mem_iff.mp hx);exact hp.mem_iff.mpr (G.cl i x (by omega) (by rw [LP hi,e']) s hs')
end
def thg (c:Int) (k n:Nat):Nat:=((c % 2147483647).toNat * 48271+69621 * k * k+7 * k) % 2147483629 * (((c % 2147483647).toNat * 48271+69621 * k * k+7 * k) % 2147483629) % 2147483587 % n
theorem EL (c:Int) (k:Nat) {n:Nat} (h:1<=n):thg c k n<n:=MF _ h
structure zj (n:Nat) (t:List (List Nat)) (e:Nat) (R:List Nat) (L:List (List Nat)):Prop where
 ne:∀ s∈L,s≠[]
 srt:∀ s∈L,s.Pairwise (· < ·)
 lt:∀ s∈L,∀ x∈s,x<n
 len:∀ s∈L,s.length=R.length
 side:∀ s∈L,∀ x∈s,tb t (bN n t e (s.getD 0 0)) x∈R
 heads:(L.map fun s=>s.getD 0 0).Pairwise (· < ·)
 all:L.flatten.Perm (L4 n)
section
variable {n:Nat} {t:List (List Nat)} {e:Nat} {R:List Nat}
theorem jr (g:GT n t e) (p:IsPart n t R) {x y:Nat} (hx:x<n) (hy:y<n):tb t (bN n t e x) y∈R↔∃ h,h∈R/\tb t x h=y:=by
 have hb:=g.tX hx;constructor
 ·intro h;refine ⟨_,h,?_⟩;rw [<- g.assoc _ _ _ hx hb hy,g.wX hx,g.unl y hy]
 ·rintro ⟨h,hh,rfl⟩;rw [<- g.assoc _ _ _ hb hx (p.lt h hh),g.Bj hx,g.unl h (p.lt h hh)];exact hh
theorem yc (g:GT n t e) (p:IsPart n t R) {x:Nat} (hx:x<n):tb t (bN n t e x) x∈R:=by
 rw [g.Bj hx];exact p.un g
theorem mR (g:GT n t e) (p:IsPart n t R) {a x y:Nat} (ha:a<n) (hx:x<n) (hy:y<n) (h1:tb t (bN n t e a) x∈R) (h2:tb t (bN n t e a) y∈R):tb t (bN n t e x) y∈R:=by
 obtain ⟨k1,hk1,rfl⟩:=(jr g p ha hx).mp h1;obtain ⟨k2,hk2,rfl⟩:=(jr g p ha hy).mp h2;have l1:=p.lt k1 hk1;have l2:=p.lt k2 hk2;have lb:=g.tX l1;refine (jr g p hx hy).mpr ⟨tb t (bN n t e k1) k2,p.cl _ (p.bk g hk1) _ hk2,?_⟩;rw [g.assoc _ _ _ ha l1 (g.lt _ _ lb l2),<- g.assoc k1 _ _ l1 lb l2,g.wX l1,g.unl k2 l2]
theorem eY (g:GT n t e) (p:IsPart n t R) {a x:Nat} (ha:a<n) (hx:x<n) (h:tb t (bN n t e a) x∈R):tb t (bN n t e x) a∈R:=mR g p ha hx ha h (yc g p ha)
structure dZ (n:Nat) (t:List (List Nat)) (e:Nat) (R:List Nat) (L:List (List Nat)) (i:Nat):Prop where
 ne:∀ s∈L,s≠[]
 srt:∀ s∈L,s.Pairwise (· < ·)
 lt:∀ s∈L,∀ x∈s,x<n
 len:∀ s∈L,s.length=R.length
 full:∀ s∈L,∀ y,y<n->(y∈s↔tb t (bN n t e (s.getD 0 0)) y∈R)
 heads:(L.map fun s=>s.getD 0 0).Pairwise (· < ·)
 hl:∀ s∈L,s.getD 0 0<i
 nd:L.flatten.Nodup
 cov:∀ y,y<i->y∈L.flatten
theorem dZ.nil:dZ n t e R [] 0 :=
 ⟨by simp,by simp,by simp,by simp,by simp,by simp,by simp,by simp,fun y h=>absurd h (by omega)⟩
theorem head_mem {s:List Nat} (h:s≠[]):s.getD 0 0∈s:=by
 cases s with
 | nil=>exact absurd rfl h
 | cons a r=>simp
theorem dZ.old {L:List (List Nat)} {i:Nat} (S:dZ n t e R L i) (h:i∈L.flatten):dZ n t e R L (i+1) :=
 ⟨S.ne,S.srt,S.lt,S.len,S.full,S.heads,fun s hs=>Oa (S.hl s hs),S.nd,fun y hy=>by
  rcases MH y i with z|z
  ·exact S.cov y z
  ·have:y=i:=by omega
   rw [this];exact h⟩
theorem dZ.new {L:List (List Nat)} {i:Nat} {s:List Nat} (S:dZ n t e R L i) (g:GT n t e) (p:IsPart n t R) (hi:i<n) (h:i∉L.flatten) (hs:s.Pairwise (· < ·)) (hm:∀ y,y∈s↔∃ k,k∈R/\tb t i k=y):dZ n t e R (L++[s]) (i+1):=by
 have hlt:∀ y∈s,y<n:=fun y hy=>by
  obtain ⟨k,hk,rfl⟩:=(hm y).mp hy;exact g.lt _ _ hi (p.lt k hk)
 have his:i∈s:=(hm i).mpr ⟨e,p.un g,g.unr i hi⟩;have hne:s≠[]:=PZ his;have apart:∀ y∈s,y∉L.flatten:=fun y hy hf=>by
  obtain ⟨s',hs',hy'⟩:=OB.mp hf;have hn:=hlt y hy;have h0:=S.lt s' hs' _ (head_mem (S.ne s' hs'));have q1:=(S.full s' hs' y hn).mp hy';have q2:tb t (bN n t e i) y∈R:=(jr g p hi hn).mpr ((hm y).mp hy);have q3:=eY g p hi hn q2;have q4:=mR g p hn h0 hi (eY g p h0 hn q1) q3;exact h (OB.mpr ⟨s',hs',(S.full s' hs' i hi).mpr q4⟩)
 have hge:∀ y∈s,i<=y:=fun y hy=>by
  rcases MH y i with z|z
  ·exact absurd (S.cov y z) (apart y hy)
  ·exact z
 have h0:s.getD 0 0=i:=by
  have h1:=hge _ (head_mem hne);cases s with
  | nil=>exact absurd rfl hne
  | cons a r =>
   have h1:i<=a:=h1;show a=i;rcases My.mp his with z|z
   ·exact z.symm
   ·have:=(NZ.mp hs).1 i z;omega
 have hnd:=cz hs;have hlen:s.length=R.length:=by
  have m1:(R.map (tb t i)).Nodup:=mZ (cz p.srt) fun x hx y hy q=>g.ki hi (p.lt x hx) (p.lt y hy) q;have e1:=sub_len hnd (l2:=R.map (tb t i)) fun y hy=>by
   obtain ⟨k,hk,q⟩:=(hm y).mp hy;exact Mm.mpr ⟨k,hk,q⟩
  have e2:=sub_len m1 (l2:=s) fun y hy=>by
   obtain ⟨k,hk,q⟩:=Mm.mp hy;exact (hm y).mpr ⟨k,hk,q⟩
  rw [LO] at e1 e2;omega
 have two:∀ {Z:List Nat->Prop},(∀ s'∈L,Z s')->Z s->∀ s'∈L++[s],Z s':=fun {Z} a b s' hs'=>by
  rcases MC.mp hs' with z|z
  ·exact a s' z
  ·rw [Md.mp z];exact b
 refine ⟨two S.ne hne,two S.srt hs,two S.lt hlt,two S.len hlen,two S.full fun y hy=>?_,?_,two (fun s' hs'=>Oa (S.hl s' hs')) (by omega),?_,fun y hy=>?_⟩
 ·rw [h0,hm y];exact (jr g p hi hy).symm
 ·rw [MQ];refine Su.mpr ⟨S.heads,by simp,fun a ha b hb=>?_⟩
  obtain ⟨s',hs',rfl⟩:=Mm.mp ha;have:b=s.getD 0 0:=by simpa using hb
  rw [this,h0];exact S.hl s' hs'
 ·rw [SN];refine P6.mpr ⟨S.nd,by simpa using hnd,fun x hx y hy q=>?_⟩
  have hy':y∈s:=by simpa using hy
  rw [q] at hx;exact apart y hy' hx
 ·rw [SN];rcases MH y i with z|z
  ·exact Nw _ (S.cov y z)
  ·have:y=i:=by omega
   rw [this];exact MN _ (by simpa using his)
theorem dZ.fin {L:List (List Nat)} (S:dZ n t e R L n):zj n t e R L:=by
 refine ⟨S.ne,S.srt,S.lt,S.len,fun s hs x hx=>(S.full s hs x (S.lt s hs x hx)).mp hx,S.heads,?_⟩;refine (QD S.nd O5).mpr fun x=>⟨fun hx=>?_,fun hx=>S.cov x (Mj.mp hx)⟩;obtain ⟨s,hs,hx'⟩:=OB.mp hx;exact Mj.mpr (S.lt s hs x hx')
end
section
variable {n:Nat} {t:List (List Nat)} {e:Nat} {S F:List Nat} {W:List (List Nat)}
end
section
variable {n:Nat} {t:List (List Nat)} {e:Nat} {R:List Nat}
theorem B2 {s:List Nat} (hs:s.Pairwise (· < ·)) {x:Nat} (hx:x∈s):s.getD 0 0<=x:=by
 cases s with
 | nil=>exact absurd hx (by simp)
 | cons a r =>
  show a<=x;rcases My.mp hx with rfl|z
  ·exact Mi _
  ·exact Oe ((NZ.mp hs).1 x z)
theorem dZ.step {L:List (List Nat)} {i:Nat} {s:List Nat} (S:dZ n t e R L i) (g:GT n t e) (p:IsPart n t R) (hi:i<n) (hs:s.Pairwise (· < ·)) (hm:∀ y,y∈s↔∃ k,k∈R/\tb t i k=y) :
  i∈s/\(s.getD 0 0=i->i∉L.flatten)/\(s.getD 0 0≠i->i∈L.flatten):=by
 have is:i∈s:=(hm i).mpr ⟨e,p.un g,g.unr i hi⟩;have hh:=head_mem (PZ is);have le:=B2 hs is;refine ⟨is,fun eh hf=>?_,fun eh=>?_⟩
 ·obtain ⟨s',hs',hi'⟩:=OB.mp hf;have h1:=S.hl s' hs';have h2:=(S.full s' hs' i hi).mp hi';have h3:=eY g p (by omega) hi h2
  obtain ⟨k,hk,ek⟩:=(jr g p hi (by omega)).mp h3
  have:=B2 hs ((hm _).mpr ⟨k,hk,ek⟩);omega
 ·obtain ⟨s',hs',hi'⟩:=OB.mp (S.cov (s.getD 0 0) (by omega))
  have h1:=S.hl s' hs';have h2:=(S.full s' hs' _ (by omega)).mp hi'
  have h3:=eY g p (by omega) (by omega) h2
  have h4:=(jr g p hi (by omega)).mpr ((hm _).mp hh)
  have h5:=eY g p hi (by omega) h4
  exact OB.mpr ⟨s',hs',(S.full s' hs' i hi).mpr (mR g p (by omega) (by omega) hi h3 h5)⟩
end
section
variable {t:List (List Nat)} {R M:List Nat} {m:Nat}
def ie (t:List (List Nat)) (R M:List Nat) (m j k:Nat):Prop:=M.getD (R.idxOf (tb t (R.getD j 0) (R.getD k 0))) 0=(M.getD j 0+M.getD k 0) % m
def kM (t:List (List Nat)) (R M:List Nat) (m:Nat):Option (Nat×Nat)->Prop
 | none=>∀ j,j<R.length->∀ k,k<R.length->ie t R M m j k
 | some (a,b)=>∃ j k,j<R.length/\k<R.length/\R.getD j 0=a/\R.getD k 0=b/\¬ ie t R M m j k/\(∀ j',j' < j->∀ k',k' < R.length->ie t R M m j' k')/\∀ k',k' < k->ie t R M m j k'
theorem kM.uni {o o':Option (Nat×Nat)} (h:kM t R M m o) (h':kM t R M m o'):o=o':=by
 cases o with
 | none =>
  cases o' with
  | none=>rfl
  | some p =>
   obtain ⟨a,b⟩:=p;obtain ⟨j,k,hj,hk,_,_,q,_⟩:=h';exact absurd (h j hj k hk) q
 | some p =>
  obtain ⟨a,b⟩:=p;obtain ⟨j,k,hj,hk,ea,eb,q,q1,q2⟩:=h;cases o' with
  | none=>exact absurd (h' j hj k hk) q
  | some p' =>
   obtain ⟨a',b'⟩:=p';obtain ⟨j',k',hj',hk',ea',eb',q',q1',q2'⟩:=h';have ej:j=j':=by
    rcases Ob j j' with z|z|z
    ·exact absurd (q1' j z k hk) q
    ·exact z
    ·exact absurd (q1 j' z k' hk') q'
   subst ej;have ek:k=k':=by
    rcases Ob k k' with z|z|z
    ·exact absurd (q2' k z) q
    ·exact z
    ·exact absurd (q2 k' z) q'
   subst ek;rw [<- ea,<- eb,<- ea',<- eb']
theorem wI {l:List Nat} {x:Nat} (h:x∈l):l[l.idxOf x]?=some x:=by
 rw [LP (MI h)];simp
theorem si:∀ {l:List Nat} {x i:Nat},i<l.idxOf x->l[i]?≠some x
 | [],_,_,h=>absurd h (by simp)
 | y :: l,x,i,h=>by
  rw [List.idxOf_cons] at h
  by_cases e:y=x
  ·subst e;simp at h
  ·have hb:(y == x)=false:=by simp [e]
   rw [hb] at h;cases i with
   | zero=>simpa using e
   | succ i =>
    have h':i<l.idxOf x:=by simpa using h
    simpa using si h'
end
section
variable {n:Nat} {t:List (List Nat)} {e:Nat} {R:List Nat}
def EY (n:Nat) (t:List (List Nat)) (e:Nat) (R:List Nat) (x:Nat):Bool:=decide (∀ y,y<x->tb t (bN n t e y) x∉R)
def vD (n:Nat) (t:List (List Nat)) (e:Nat) (R:List Nat) (i:Nat):List Nat:=(L4 i).filter (EY n t e R)
def cG (n:Nat) (t:List (List Nat)) (e:Nat) (R:List Nat):List Nat:=vD n t e R n
theorem DP {i x:Nat}:x∈vD n t e R i↔x<i/\∀ y,y<x->tb t (bN n t e y) x∉R:=by
 unfold vD EY;rw [Nz,Mj,decide_eq_true_iff]
theorem lR {x:Nat}:x∈cG n t e R↔x<n/\∀ y,y<x->tb t (bN n t e y) x∉R:=DP
theorem D8 {i:Nat}:(vD n t e R i).Pairwise (· < ·):=Sv _ RN
theorem uO:(cG n t e R).Pairwise (· < ·):=D8
theorem iX {x:Nat} (h:x∈cG n t e R):x<n:=(lR.mp h).1
theorem uV:(cG n t e R).length<=n:=i3 (cz uO) fun x hx=>iX hx
theorem IK (g:GT n t e) (p:IsPart n t R) (x:Nat) (hx:x<n):∃ c,c∈cG n t e R/\tb t (bN n t e c) x∈R:=by
 induction x using Nat.strongRecOn with
 | ind x ih =>
  by_cases h:∀ y,y<x->tb t (bN n t e y) x∉R
  ·exact ⟨x,lR.mpr ⟨hx,h⟩,yc g p hx⟩
  ·obtain ⟨y,hy⟩:=Ol.mp h;obtain ⟨yx,hr⟩:=OV.mp hy;have hr':=Classical.not_not.mp hr;have yn:=Qf yx hx;obtain ⟨c,hc,q⟩:=ih y yx yn;exact ⟨c,hc,mR g p yn (iX hc) hx (eY g p (iX hc) yn q) hr'⟩
theorem Gm (g:GT n t e) (p:IsPart n t R) {x c c':Nat} (hx:x<n) (hc:c∈cG n t e R) (hc':c'∈cG n t e R) (h:tb t (bN n t e c) x∈R) (h':tb t (bN n t e c') x∈R):c=c':=by
 have l:=iX hc;have l':=iX hc';have q:=mR g p hx l l' (eY g p l hx h) (eY g p l' hx h');have q':=eY g p l l' q;rcases Ob c c' with z|z|z
 ·exact absurd q ((lR.mp hc').2 c z)
 ·exact z
 ·exact absurd q' ((lR.mp hc).2 c' z)
theorem Bg {s:List Nat} {x:Nat} (h:s.Pairwise (· < ·)) (hx:x∈s):s.getD 0 0<=x:=by
 cases s with
 | nil=>cases hx
 | cons a r =>
  show a<=x;rcases My.mp hx with z|z
  ·omega
  ·have:=(NZ.mp h).1 x z;omega
theorem zj.cG {L:List (List Nat)} (S:zj n t e R L) (g:GT n t e) (p:IsPart n t R):L.map (fun s=>s.getD 0 0)=cG n t e R:=by
 refine qV S.heads uO fun x=>?_;have full:∀ s∈L,∀ y,y<n->tb t (bN n t e (s.getD 0 0)) y∈R->y∈s:=fun s hs y hy h=>by
  refine Po fun no=>?_;have h0:=S.lt s hs _ (head_mem (S.ne s hs));have nd:(y :: s).Nodup:=Nm.mpr ⟨no,cz (S.srt s hs)⟩;have:=sub_len nd (l2:=R.map (tb t (s.getD 0 0))) fun z hz=>by
   have hzr:z<n/\tb t (bN n t e (s.getD 0 0)) z∈R:=by
    rcases My.mp hz with q|q
    ·rw [q];exact ⟨hy,h⟩
    ·exact ⟨S.lt s hs z q,S.side s hs z q⟩
   obtain ⟨k,hk,q⟩:=(jr g p h0 hzr.1).mp hzr.2;exact Mm.mpr ⟨k,hk,q⟩
  rw [MX,LO,S.len s hs] at this;omega
 constructor
 ·intro hx;obtain ⟨s,hs,rfl⟩:=Mm.mp hx;have h0:=S.lt s hs _ (head_mem (S.ne s hs));refine lR.mpr ⟨h0,fun y hy q=>?_⟩;have hyn:=Qf hy h0;have ys:=full s hs y hyn (eY g p hyn h0 q);have:=Bg (S.srt s hs) ys;have hy':y<s.getD 0 0:=hy;omega
 ·intro hx;obtain ⟨hxn,h⟩:=lR.mp hx;obtain ⟨s,hs,xs⟩:=OB.mp (S.all.mem_iff.mpr (Mj.mpr hxn));refine Mm.mpr ⟨s,hs,?_⟩;have h1:=S.side s hs x xs;have hle:=Bg (S.srt s hs) xs;show s.getD 0 0=x;rcases MH (s.getD 0 0) x with z|z
  ·exact absurd h1 (h _ z)
  ·omega
def hm (n:Nat) (t:List (List Nat)) (e:Nat) (R:List Nat) (x:Nat):Nat:=(cG n t e R).findIdx fun c=>decide (tb t (bN n t e c) x∈R)
def ov (n:Nat) (t:List (List Nat)) (e:Nat) (R:List Nat) (x:Nat):Nat:=tb t (bN n t e ((cG n t e R).getD (hm n t e R x) 0)) x
theorem Ir (g:GT n t e) (p:IsPart n t R) {x i c:Nat} (hx:x<n) (hi:(cG n t e R)[i]?=some c) (h:tb t (bN n t e c) x∈R):hm n t e R x=i:=by
 obtain ⟨hl,ec⟩:=LQ.mp hi;have hex:∃ c,c∈cG n t e R/\decide (tb t (bN n t e c) x∈R)=true:=⟨c,LR hi,decide_eq_true h⟩;have hlt:hm n t e R x<(cG n t e R).length:=List.findIdx_lt_length_of_exists hex;have hget:=List.findIdx_getElem (w:=hlt);have h2:tb t (bN n t e ((cG n t e R)[hm n t e R x])) x∈R:=of_decide_eq_true hget;have hc2:(cG n t e R)[hm n t e R x]∈cG n t e R:=Nu hlt;have:=Gm g p hx (LR hi) hc2 h h2;have nd:=cz (uO (n:=n) (t:=t) (e:=e) (R:=R));exact (Qi nd).mp (by rw [ec,<- this])
theorem Iu (g:GT n t e) (p:IsPart n t R) {x:Nat} (hx:x<n):∃ c,(cG n t e R)[hm n t e R x]?=some c/\c<n/\tb t (bN n t e c) x=ov n t e R x/\ov n t e R x∈R:=by
 obtain ⟨c,hc,h⟩:=IK g p x hx;obtain ⟨i,hi⟩:=Ni hc;have q:=Ir g p hx hi h;have hg:(cG n t e R).getD i 0=c:=by rw [LS,hi];rfl
 have ho:ov n t e R x=tb t (bN n t e c) x:=by unfold ov;rw [q,hg]
 exact ⟨c,by rw [q];exact hi,iX hc,ho.symm,by rw [ho];exact h⟩
theorem Iz (g:GT n t e) (p:IsPart n t R) {x i c k h:Nat} (hi:(cG n t e R)[i]?=some c) (hk:R[k]?=some h) (q:tb t c h=x):hm n t e R x=i/\R.idxOf (ov n t e R x)=k:=by
 have hc:=LR hi;have hh:=LR hk;have cn:=iX hc;have hn:=p.lt h hh;have hx:x<n:=by rw [<- q];exact g.lt _ _ cn hn
 have hb:=g.tX cn;have e1:tb t (bN n t e c) x=h:=by rw [<- q,<- g.assoc _ _ _ hb cn hn,g.Bj cn,g.unl h hn]
 have h1:=Ir g p hx hi (by rw [e1];exact hh)
 obtain ⟨c',a1,_,a3,_⟩:=Iu g p hx;rw [h1,hi] at a1;cases a1;refine ⟨h1,?_⟩;rw [<- a3,e1];obtain ⟨hl,eh⟩:=LQ.mp hk;rw [<- eh];exact (cz p.srt).idxOf_getElem k hl
theorem Il (g:GT n t e) (p:IsPart n t R) {x:Nat} (hx:x<n):∃ c k,(cG n t e R)[hm n t e R x]?=some c/\R[k]?=some (ov n t e R x)/\R.idxOf (ov n t e R x)=k/\tb t c (ov n t e R x)=x:=by
 obtain ⟨c,a1,a2,a3,a4⟩:=Iu g p hx;refine ⟨c,_,a1,?_,rfl,?_⟩
 ·rw [LP (MI a4),NY]
 ·rw [<- a3,<- g.assoc _ _ _ a2 (g.tX a2) hx,g.wX a2,g.unl x hx]
def o8 (n:Nat) (t:List (List Nat)) (e:Nat) (R:List Nat):List (List (Nat×Nat)):=(L4 n).map fun a=>(cG n t e R).map fun c=>(hm n t e R (tb t a c),R.idxOf (ov n t e R (tb t a c)))
def tL (n:Nat) (t:List (List Nat)) (e:Nat) (R M:List Nat):List (List (Nat×Nat)):=(L4 n).map fun a=>(cG n t e R).map fun c=>(hm n t e R (tb t a c),M.getD (R.idxOf (ov n t e R (tb t a c))) 0)
variable {S:List Nat}
theorem qW {m:Nat} {f:Nat->Nat} {μ:Nat->Nat} (G:Gen n t e S R) (m1:0<m) (hf:∀ x∈R,f x<m) (hs:∀ x∈R,∀ s∈S,f (tb t x s)=(f x+μ s) % m) :
  ∀ (l:List Nat) {x:Nat},x∈R->(∀ y∈l,y∈S)->f (prd t x l)=(f x+(l.map μ).sum) % m
 | [],x,hx,_=>by
  show f x=(f x+0) % m;rw [OJ,Nc (hf x hx)]
 | y :: l,x,hx,hl=>by
  have hy:=hl y Mn;show f (prd t (tb t x y) l)=(f x+(μ y+(l.map μ).sum)) % m;rw [qW G m1 hf hs l (G.cl x hx y hy) fun z hz=>hl z (Mh _ hz),hs x hx y hy,Sg,Qq]
theorem FH {m:Nat} {f:Nat->Nat} {μ:Nat->Nat} (g:GT n t e) (G:Gen n t e S R) (hS:∀ s∈S,s<n) (m1:0<m) (hf:∀ x∈R,f x<m) (he:f e=0) (hs:∀ x∈R,∀ s∈S,f (tb t x s)=(f x+μ s) % m) :
  ∀ x∈R,∀ y∈R,f (tb t x y)=(f x+f y) % m:=fun x hx y hy=>by
 obtain ⟨l,hl,rfl⟩:=G.wd y hy;have h1:=qW G m1 hf hs l hx hl;have h2:=qW G m1 hf hs l G.un hl;rw [he,Ou] at h2;rw [zB g (G.lt x hx) fun z hz=>hS z (hl z hz)] at h1;rw [h1,h2,Pc]
theorem J1 {m:Nat} {f:Nat->Nat} (p:IsPart n t R) (h:∀ x∈R,∀ y∈R,f (tb t x y)=(f x+f y) % m) {j k:Nat} (hj:j<R.length) (hk:k<R.length):ie t R (R.map f) m j k:=by
 have gd:∀ i,i<R.length->R.getD i 0=R[i]!/\(R.map f).getD i 0=f (R.getD i 0)/\R.getD i 0∈R:=fun i hi=>by
  have e1:R.getD i 0=R[i]:=by rw [LS,LP hi];rfl
  refine ⟨by rw [e1];simp [hi],?_,by rw [e1];exact Nu hi⟩
  rw [LS,Mf,LP hi,e1];rfl
 obtain ⟨_,b1,c1⟩:=gd j hj;obtain ⟨_,b2,c2⟩:=gd k hk;have hab:=p.cl _ c1 _ c2;have hi:=MI hab;obtain ⟨_,b3,c3⟩:=gd _ hi;unfold ie;rw [b1,b2,b3,<- h _ c1 _ c2]
 congr 1
 rw [LS,LP hi,NY];rfl
theorem JF {m:Nat} {j k:Nat}:ie t R (Mv R.length 0) m j k:=by
 have z:∀ i,(Mv R.length 0).getD i 0=0:=fun i=>by
  rw [LS];cases h:(Mv R.length 0)[i]? with
  | none=>rfl
  | some x =>
   have:=Rg (LR h);rw [this];rfl
 unfold ie;rw [z,z,z];exact (Sj m).symm
end
section
variable {n:Nat} {t:List (List Nat)} {e:Nat} {R:List Nat}
def pF (t:List (List Nat)) (R:List Nat):List (List Nat):=R.map fun a=>R.map fun b=>R.idxOf (tb t a b)
theorem map_getD {β:Type} (f:Nat->β):∀ (R:List Nat),R.map f=(L4 R.length).map fun i=>f (R.getD i 0):=fun R=>by
 refine List.ext_getElem (by simp) fun i h1 h2=>?_
 simp at h1;simp [LS,h1]
theorem IH:pF t R=mkT R.length fun i j=>R.idxOf (tb t (R.getD i 0) (R.getD j 0)):=by
 unfold pF mkT;rw [map_getD];refine Pu fun i _=>?_;rw [map_getD]
theorem gY (p:IsPart n t R) {i:Nat} (h:i<R.length):R.getD i 0∈R/\R.idxOf (R.getD i 0)=i:=by
 have e1:R.getD i 0=R[i]:=by rw [LS,LP h];rfl
 rw [e1];exact ⟨Nu h,(cz p.srt).idxOf_getElem i h⟩
theorem gZ {x:Nat} (h:x∈R):R.idxOf x<R.length/\R.getD (R.idxOf x) 0=x:=by
 have hi:=MI h;refine ⟨hi,?_⟩;rw [LS,LP hi,NY];rfl
theorem Kr (g:GT n t e) (p:IsPart n t R):GT R.length (pF t R) (R.idxOf e):=by
 have un:=p.un g;have rl:=p.len;have n23:=g.le;rw [IH];refine Fz (MR.mpr p.ne) (by omega) (fun a b ha hb=>?_) (gZ un).1 (fun a ha=>?_) (fun a ha=>?_) (fun a ha=>?_) fun a b c ha hb hc=>?_
 ·exact (gZ (p.cl _ (gY p ha).1 _ (gY p hb).1)).1
 ·obtain ⟨h1,h2⟩:=gY p ha;rw [(gZ un).2,g.unl _ (p.lt _ h1)];exact h2
 ·obtain ⟨h1,h2⟩:=gY p ha;rw [(gZ un).2,g.unr _ (p.lt _ h1)];exact h2
 ·obtain ⟨h1,_⟩:=gY p ha;have hb:=p.bk g h1;refine ⟨R.idxOf (bN n t e (R.getD a 0)),(gZ hb).1,?_,?_⟩
  ·rw [(gZ hb).2,g.wX (p.lt _ h1)]
  ·rw [(gZ hb).2,g.Bj (p.lt _ h1)]
 ·obtain ⟨h1,_⟩:=gY p ha;obtain ⟨h2,_⟩:=gY p hb;obtain ⟨h3,_⟩:=gY p hc;rw [(gZ (p.cl _ h1 _ h2)).2,(gZ (p.cl _ h2 _ h3)).2,g.assoc _ _ _ (p.lt _ h1) (p.lt _ h2) (p.lt _ h3)]
def qB {α:Type} (D:List (List α)) (R:List Nat):List (List α):=R.map fun a=>D.getD a []
end
section
variable {P:Ms} {w:World} {K:LM} {mg:Str->Option Value} {base:Heap}
def yL (K:LM):Sp:=fun vs H Q _=>∃ (v:V) (n:Nat) (t:List (List Nat)),vs=[v]/\At K H v t/\Sq n t/\Q .non H
theorem yE (T:Txt K mg):aI P w K mg base CX0 1 T.i9.f T.i9.fd ["rows"] (yL K):=by
 refine T.i9.ok ng (fun vs H Q E h=>?_) (fun cdv A outer s H vs Q E hr h=>?_)
 ·obtain ⟨v,n,t,rfl,_⟩:=h;rfl
 obtain ⟨v,n,t,rfl,hT,sq,q⟩:=h;refine ⟨_,(ae (au (i:=1) ng.nd rfl (Mg rfl) (av (aV K rfl) rfl T.bz Mt (paF (pv 0) aa)))
   (ae (aW (PW.pt (nH (aH i7 (pv 1) af (aE _)) (m5 (aH pj (pv 1) (cM (v:=.int 23) rfl T.fI ⟨_,rfl⟩) (aE _))))) (ah eF) aQ)
   (ah (bE Mq rfl (aZ K rfl (pv 0)) (az (i:=2) ng.nd rfl (Mg rfl)) (ah (aW (aH fQ (av (aV K rfl) rfl T.bz Mt (paF (pv 2) aa)) (pv 1) (aE _)) (ah eF) aQ)))))),?_⟩
 walk_at "rd";refine cX hT ?_;walk_at "rd";have h1:=sq.len;have h2:=sq.pos;have h3:=sq.le;refine aU (fun c=>absurd c (by omega)) (fun _=>?_)
 walk_at "rd";refine aU (fun c=>absurd c (by omega)) (fun _=>?_)
 walk_at "rd";refine gv hT (fun i σ H'=>H'=H/\∃ x,σ=[some v,some (.int t.length),x]) ⟨rfl,_,rfl⟩ (fun i σ H' h=>by rw [h.1];exact aj.refl _) ?_ ?_
 ·rintro i r w' σ' H' hr' hw ⟨rfl,x,rfl⟩;walk_at "rd";refine cX hw ?_;walk_at "rd";refine cy (fun c=>absurd (by rw [sq.row i r hr',h1]) c) (fun _=>?_)
  walk_at "rd";exact ⟨rfl,_,rfl⟩
 ·rintro σ' H' ⟨rfl,x,rfl⟩;exact q
def sO (K:LM):Sp:=fun vs H Q _=>∃ (v:V) (n:Nat) (t:List (List Nat)),vs=[v]/\At K H v t/\Gd n t/\Q .non H
theorem sh (T:Txt K mg):aI P w K mg base CX0 1 T.eL.f T.eL.fd ["rows"] (sO K):=by
 refine T.eL.ok fL (fun vs H Q E h=>?_) (fun cdv A outer s H vs Q E hr h=>?_)
 ·obtain ⟨v,n,t,rfl,_⟩:=h;rfl
 obtain ⟨v,n,t,rfl,hT,gd,q⟩:=h;refine ⟨_,(ae (au (i:=1) fL.nd rfl (Mg rfl) (av (aV K rfl) rfl T.bz Mt (paF (pv 0) aa)))
   (ah (bE Mq rfl (bb rfl T.bp (paF (pv 1) aa)) (az (i:=2) fL.nd rfl (Mg rfl)) (ah (bE Mq rfl (bb rfl T.bp (paF (pv 1) aa)) (az (i:=3) fL.nd rfl (Mg rfl)) (ah (aW (PW.pt (nH (aH i7 (ar (ai K rfl) (ar (ai K rfl) (pv 0) (pv 2) (fun _ _=>rfl)) (pv 3) (fun _ _=>rfl)) af (aE _)) (m5 (aH oU (ar (ai K rfl) (ar (ai K rfl) (pv 0) (pv 2) (fun _ _=>rfl)) (pv 3) (fun _ _=>rfl)) (pv 1) (aE _))))) (ah eF) aQ))))))),?_⟩
 walk_at "rd";refine cX hT ?_;walk_at "rd";have h1:=gd.len;have h3:=gd.le;rw [h1];refine cb (n:=n) rfl (by omega) (fun i σ H'=>H'=H/\∃ x y,σ=[some v,some (.int n),x,y]) ⟨rfl,_,_,rfl⟩ ?_ ?_
 ·rintro i σ' H' hi ⟨rfl,x,y,rfl⟩;walk_at "rd";refine cb (n:=n) rfl (by omega) (fun j σ H''=>H''=H'/\∃ y,σ=[some v,some (.int n),some (.int (i:Int)),y]) ⟨rfl,_,rfl⟩ ?_ ?_
  ·rintro j σ'' H'' hj ⟨rfl,y,rfl⟩;have hlt:=gd.lt i j hi hj;walk_at "rd";refine dI hT rfl (gd.get hi) fun w1 hw1=>?_;walk_at "rd";refine j7 hw1 rfl (gd.ef hi hj) ?_;walk_at "rd";refine aU (fun c=>absurd c (by omega)) (fun _=>?_)
   walk_at "rd";refine dI hT rfl (gd.get hi) fun w2 hw2=>?_;walk_at "rd";refine j7 hw2 rfl (gd.ef hi hj) ?_;walk_at "rd";refine aU (fun c=>absurd c (by omega)) (fun _=>?_)
   walk_at "rd";exact ⟨rfl,_,rfl⟩
  ·rintro σ'' H'' ⟨rfl,y,rfl⟩;exact ⟨rfl,_,_,rfl⟩
 ·rintro σ' H' ⟨rfl,x,y,rfl⟩;exact q
def yw (K:LM):Sp:=fun vs H Q _=>∃ (v:V) (n x:Nat) (t:List (List Nat)),vs=[v,.int (x:Int)]/\At K H v t/\Sq n t/\x<n/\Q (.bl (decide (sf n t x))) H
theorem yB (T:Txt K mg):aI P w K mg base CX0 1 T.jg.f T.jg.fd ["rows","thing"] (yw K):=by
 refine T.jg.ok rC (fun vs H Q E h=>?_) (fun cdv A outer s H vs Q E hr h=>?_)
 ·obtain ⟨v,n,x,t,rfl,_⟩:=h;rfl
 obtain ⟨v,n,x,t,rfl,hT,sq,hx,q⟩:=h;refine ⟨_,(ae (bE Mq rfl (bb rfl T.bp (paF (av (aV K rfl) rfl T.bz Mt (paF (pv 0) aa)) aa)) (az (i:=2) rC.nd rfl (Mg rfl)) (ah (aW (PW.pt (nH (aH fQ (ar (ai K rfl) (ar (ai K rfl) (pv 0) (pv 1) (fun _ _=>rfl)) (pv 2) (fun _ _=>rfl)) (pv 2) (aE _)) (m5 (aH fQ (ar (ai K rfl) (ar (ai K rfl) (pv 0) (pv 2) (fun _ _=>rfl)) (pv 1) (fun _ _=>rfl)) (pv 2) (aE _))))) (ah (aK eP)) aQ)))
   (ah (aK eP))),?_⟩
 walk_at "rd";refine cX hT ?_;walk_at "rd";have h1:=sq.len;have h3:=sq.le;rw [h1];refine cb (n:=n) rfl (by omega) (fun i σ H'=>H'=H/\(∀ o,o<i->tb t x o=o/\tb t o x=o)/\∃ y,σ=[some v,some (.int (x:Int)),y]) ⟨rfl,fun o ho=>absurd ho (by omega),_,rfl⟩ ?_ ?_
 ·rintro i σ' H' hi ⟨rfl,hb,y,rfl⟩;have no:∀ (z:¬ (tb t x i=i/\tb t i x=i)),Q (.bl false) H':=fun z=>by
   rw [decide_eq_false (fun l:sf n t x=>z (l i hi))] at q;exact q
  walk_at "rd";refine dI hT rfl (sq.get hx) fun w1 hw1=>?_;walk_at "rd";refine j7 hw1 rfl (sq.ef hx hi) ?_;walk_at "rd";refine cy (fun c=>?_) (fun c1=>?_)
  ·walk_at "rd";exact no fun z=>c (by rw [z.1])
  ·walk_at "rd";refine dI hT rfl (sq.get hi) fun w2 hw2=>?_;walk_at "rd";refine j7 hw2 rfl (sq.ef hi hx) ?_;walk_at "rd";refine cy (fun c=>?_) (fun c2=>?_)
   ·walk_at "rd";exact no fun z=>c (by rw [z.2])
   ·walk_at "rd";refine ⟨rfl,fun o ho=>?_,_,rfl⟩;rcases MH o i with z|z
    ·exact hb o z
    ·have e:o=i:=by omega
     subst e;exact ⟨by omega,by omega⟩
 ·rintro σ' H' ⟨rfl,hb,y,rfl⟩;walk_at "rd";rw [decide_eq_true (show sf n t x from hb)] at q;exact q
def DS (K:LM):Sp:=fun vs H Q _=>∃ (v:V) (n e:Nat) (t:List (List Nat)),vs=[v]/\At K H v t/\GT n t e/\Q (.int (e:Int)) H
theorem Dk (T:Txt K mg):aI P w K mg base CX0 2 T.mY.f T.mY.fd ["rows"] (DS K):=by
 refine T.mY.ok wz (fun vs H Q E h=>?_) (fun cdv A outer s H vs Q E hr h=>?_)
 ·obtain ⟨v,n,e,t,rfl,_⟩:=h;rfl
 obtain ⟨v,n,e,t,rfl,hT,gt,q⟩:=h;refine ⟨_,(ae (bE Mq rfl (bb rfl T.bp (paF (av (aV K rfl) rfl T.bz Mt (paF (pv 0) aa)) aa)) (az (i:=1) wz.nd rfl (Mg rfl)) (ah (aW (dW (aO T.jg (yB T) (hr.mono (by decide)) rfl (paF (pv 0) (paF (pv 1) aa)))) (ah (aK (pv 1))) aQ)))
   (ah eF)),?_⟩
 walk_at "rd";refine cX hT ?_;walk_at "rd";have h1:=gt.len;have h3:=gt.le;rw [h1];refine cb (n:=n) rfl (by omega) (fun i σ H'=>H'=H/\i<=e/\∃ y,σ=[some v,y]) ⟨rfl,Nd _,_,rfl⟩ ?_ ?_
 ·rintro i σ' H' hi ⟨rfl,hle,y,rfl⟩;walk_at "rd";refine ⟨v,n,i,t,rfl,hT,gt.toSq,hi,?_⟩;walk_at "rd";refine aU (fun c=>?_) (fun c=>?_)
  ·walk_at "rd";rw [(gt.wD hi).mp c];exact q
  ·walk_at "rd";refine ⟨rfl,?_,_,rfl⟩;have:i≠e:=fun z=>c ((gt.wD hi).mpr z);omega
 ·rintro σ' H' ⟨rfl,hle,y,rfl⟩;exact absurd gt.elt (by omega)
def Dg (K:LM):Sp:=fun vs H Q _=>∃ (v:V) (n e a:Nat) (t:List (List Nat)),vs=[v,.int (e:Int),.int (a:Int)]/\At K H v t/\GT n t e/\a<n/\Q (.int (bN n t e a:Int)) H
theorem D0 (T:Txt K mg):aI P w K mg base CX0 1 T.mM.f T.mM.fd ["rows","unit","thing"] (Dg K):=by
 refine T.mM.ok wk (fun vs H Q E h=>?_) (fun cdv A outer s H vs Q E hr h=>?_)
 ·obtain ⟨v,n,e,a,t,rfl,_⟩:=h;rfl
 obtain ⟨v,n,e,a,t,rfl,hT,gt,ha,q⟩:=h;refine ⟨_,(ae (bE Mq rfl (bb rfl T.bp (paF (av (aV K rfl) rfl T.bz Mt (paF (pv 0) aa)) aa)) (az (i:=3) wk.nd rfl (Mg rfl)) (ah (aW (PW.pt (lF (aH bM (ar (ai K rfl) (ar (ai K rfl) (pv 0) (pv 2) (fun _ _=>rfl)) (pv 3) (fun _ _=>rfl)) (pv 1) (aE _)) (lO (aH bM (ar (ai K rfl) (ar (ai K rfl) (pv 0) (pv 3) (fun _ _=>rfl)) (pv 2) (fun _ _=>rfl)) (pv 1) (aE _))))) (ah (aK (pv 3))) aQ)))
   (ah eF)),?_⟩
 walk_at "rd";refine cX hT ?_;walk_at "rd";have h1:=gt.len;have h3:=gt.le;rw [h1];refine cb (n:=n) rfl (by omega) (fun i σ H'=>H'=H/\(∀ o,o<i->¬ (tb t a o=e/\tb t o a=e))/\∃ y,σ=[some v,some (.int (e:Int)),some (.int (a:Int)),y]) ⟨rfl,fun o ho=>absurd ho (by omega),_,rfl⟩ ?_ ?_
 ·rintro i σ' H' hi ⟨rfl,hb,y,rfl⟩;have on:(¬ (tb t a i=e/\tb t i a=e))->∀ o,o<i+1->¬ (tb t a o=e/\tb t o a=e):=fun z o ho=>by
   rcases MH o i with l|l
   ·exact hb o l
   ·have e':o=i:=by omega
    subst e';exact z
  walk_at "rd";refine dI hT rfl (gt.get ha) fun w1 hw1=>?_;walk_at "rd";refine j7 hw1 rfl (gt.ef ha hi) ?_;walk_at "rd";refine aU (fun c1=>?_) (fun c=>?_)
  ·walk_at "rd";refine dI hT rfl (gt.get hi) fun w2 hw2=>?_;walk_at "rd";refine j7 hw2 rfl (gt.ef hi ha) ?_;walk_at "rd";refine aU (fun c2=>?_) (fun c=>?_)
   ·walk_at "rd";rw [JB hi ⟨by omega,by omega⟩ hb] at q
    exact q
   ·walk_at "rd";exact ⟨rfl,on fun z=>c (by rw [z.2]),_,rfl⟩
  ·refine dF ?_;walk_at "rd";exact ⟨rfl,on fun z=>c (by rw [z.1]),_,rfl⟩
 ·rintro σ' H' ⟨rfl,hb,y,rfl⟩;obtain ⟨b,hb',z⟩:=gt.back a ha;exact absurd z (hb b hb')
def By (K:LM):Sp:=fun vs H Q _=>∃ (v:V) (n e:Nat) (t:List (List Nat)),vs=[v,.int (e:Int)]/\At K H v t/\GT n t e/\∀ d H',H d=none->aj H H'->Gr K H' d (bks n t e)->Q (.ref d) H'
theorem BF (T:Txt K mg):aI P w K mg base CX0 2 T.lr.f T.lr.fd ["rows","unit"] (By K):=by
 refine T.lr.ok Bq (fun vs H Q E h=>?_) (fun cdv A outer s H vs Q E hr h=>?_)
 ·obtain ⟨v,n,e,t,rfl,_⟩:=h;rfl
 obtain ⟨v,n,e,t,rfl,hT,gt,q⟩:=h;refine ⟨_,(ah (aK (bJ rfl rD (bb rfl T.bp (paF (av (aV K rfl) rfl T.bz Mt (paF (pv 0) aa)) aa)) (fun _ _ _ _=>⟨(az (i:=0) rD.nd rfl (Mg rfl)),bj,(aO T.mM (D0 T) (hr.mono (by decide)) rfl (paF (pv 1) (paF (pv 2) (paF (pv 0) aa))))⟩)))),?_⟩
 walk_at "rd";refine cX hT ?_;walk_at "rd";have h1:=gt.len;have h3:=gt.le;rw [h1];refine nB K (n:=n) rfl (by omega) (fun i=>(bks n t e).take i) (fun σ'=>∃ y,σ'=[y,some v,some (.int (e:Int))]) rfl (fun i hi=>by rw [Mz];omega) ⟨_,rfl⟩ ?_ ?_
 ·rintro i σ' H' d R R0 hi hs ⟨y,rfl⟩ hR hR0 hd;walk_at "rd";refine ⟨v,n,e,i,t,rfl,Rep.mono hs hT,gt,hi,?_⟩;exact hR _ _ (bN n t e i) _ ⟨_,rfl⟩ (aj.refl _) rfl (cU _ n i hi)
 ·intro d H' fd hs ha;have e1:(bks n t e).take n=bks n t e:=MD (by simp [bks])
  have ha':Gr K H' d ((bks n t e).take n):=ha;rw [e1] at ha';exact q d H' fd hs ha'
def uk (K:LM):Sp:=fun vs H Q _=>∃ (v:V) (n e:Nat) (t:List (List Nat)),vs=[v]/\At K H v t/\GT n t e/\Q .non H
theorem um (T:Txt K mg):aI P w K mg base CX0 1 T.fk.f T.fk.fd ["rows"] (uk K):=by
 refine T.fk.ok eK (fun vs H Q E h=>?_) (fun cdv A outer s H vs Q E hr h=>?_)
 ·obtain ⟨v,n,e,t,rfl,_⟩:=h;rfl
 obtain ⟨v,n,e,t,rfl,hT,gt,q⟩:=h;refine ⟨_,(ae (au (i:=1) eK.nd rfl (Mg rfl) (av (aV K rfl) rfl T.bz Mt (paF (pv 0) aa)))
   (ah (bE Mq rfl (bb rfl T.bp (paF (pv 1) aa)) (az (i:=2) eK.nd rfl (Mg rfl)) (ah (bE Mq rfl (bb rfl T.bp (paF (pv 1) aa)) (az (i:=3) eK.nd rfl (Mg rfl)) (ah (bE Mq rfl (bb rfl T.bp (paF (pv 1) aa)) (az (i:=4) eK.nd rfl (Mg rfl)) (ah (aW (aH fQ (ar (ai K rfl) (ar (ai K rfl) (pv 0) (ar (ai K rfl) (ar (ai K rfl) (pv 0) (pv 2) (fun _ _=>rfl)) (pv 3) (fun _ _=>rfl)) (fun _ _=>rfl)) (pv 4) (fun _ _=>rfl)) (ar (ai K rfl) (ar (ai K rfl) (pv 0) (pv 2) (fun _ _=>rfl)) (ar (ai K rfl) (ar (ai K rfl) (pv 0) (pv 3) (fun _ _=>rfl)) (pv 4) (fun _ _=>rfl)) (fun _ _=>rfl)) (aE _)) (ah eF) aQ))))))))),?_⟩
 walk_at "rd";refine cX hT ?_;walk_at "rd";have h1:=gt.len;have h3:=gt.le;rw [h1];refine cb (n:=n) rfl (by omega) (fun i σ H'=>H'=H/\∃ x y z,σ=[some v,some (.int n),x,y,z]) ⟨rfl,_,_,_,rfl⟩ ?_ ?_
 ·rintro i σ' H' hi ⟨rfl,x,y,z,rfl⟩;walk_at "rd";refine cb (n:=n) rfl (by omega) (fun j σ H''=>H''=H'/\∃ y z,σ=[some v,some (.int n),some (.int (i:Int)),y,z]) ⟨rfl,_,_,rfl⟩ ?_ ?_
  ·rintro j σ'' H'' hj ⟨rfl,y,z,rfl⟩;walk_at "rd";refine cb (n:=n) rfl (by omega) (fun k σ H3=>H3=H''/\∃ z,σ=[some v,some (.int n),some (.int (i:Int)),some (.int (j:Int)),z]) ⟨rfl,_,rfl⟩ ?_ ?_
   ·rintro k σ3 H3 hk ⟨rfl,z,rfl⟩;have hij:=gt.lt i j hi hj;have hjk:=gt.lt j k hj hk;walk_at "rd";refine dI hT rfl (gt.get hi) fun w1 hw1=>?_;walk_at "rd";refine j7 hw1 rfl (gt.ef hi hj) ?_;refine dI hT rfl (gt.get hij) fun w2 hw2=>?_;walk_at "rd";refine j7 hw2 rfl (gt.ef hij hk) ?_;walk_at "rd";refine dI hT rfl (gt.get hi) fun w3 hw3=>?_;walk_at "rd";refine dI hT rfl (gt.get hj) fun w4 hw4=>?_;walk_at "rd";refine j7 hw4 rfl (gt.ef hj hk) ?_;refine j7 hw3 rfl (gt.ef hi hjk) ?_;walk_at "rd";refine cy (fun c=>absurd (by rw [gt.assoc i j k hi hj hk]) c) (fun _=>?_)
    walk_at "rd";exact ⟨rfl,_,rfl⟩
   ·rintro σ3 H3 ⟨rfl,z,rfl⟩;exact ⟨rfl,_,_,rfl⟩
  ·rintro σ'' H'' ⟨rfl,y,z,rfl⟩;exact ⟨rfl,_,_,_,rfl⟩
 ·rintro σ' H' ⟨rfl,x,y,z,rfl⟩;exact q
def gfs (n:Int) (r e b:V):List (Str×V):=[("many",.int n),("rows",r),("unit",e),("backs",b)]
theorem Hl (n:Int) (r e b:V):(gfs n r e b).lookup ("many" : Str)=some (.int n):=rfl
theorem Hi (n:Int) (r e b:V):(gfs n r e b).lookup ("rows" : Str)=some r:=rfl
theorem GG (n:Int) (r e b:V):(gfs n r e b).lookup ("unit" : Str)=some e:=rfl
def bK (C:Addr) (H:Hp) (g:Addr) (n:Nat) (t:List (List Nat)) (e:Nat):Prop :=
 ∃ dx r b ps,H g=some (.ins C dx (gfs n (.ref r) (.int (e:Int)) (.ref b)))/\Tbl H r t ps/\H b=some (.lst (aY (bks n t e)))
theorem bK.mono {C:Addr} {H H':Hp} {g n e:Nat} {t:List (List Nat)} (s:aj H H') (h:bK C H g n t e):bK C H' g n t e:=by
 obtain ⟨dx,r,b,ps,h1,h2,h3⟩:=h;exact ⟨dx,r,b,ps,s _ _ h1,h2.mono s,s _ _ h3⟩
theorem eN {H:Hp} {b:Addr} {l:List Nat} (h:H b=some (.lst (aY l))):At K H (.ref b) l:=⟨b,_,rfl,SqL.of h,me⟩
theorem fq {H:Hp} {d:Addr} {l:List Nat} (h:Gr K H d l):H d=some (.lst (aY l)):=by
 obtain ⟨ys,hy,hP⟩:=h;have e:ys=aY l:=by
  unfold aY
  clear hy
  induction hP with
  | nil=>rfl
  | cons r _ ih=>rw [MO,<- ih];exact congrArg (· :: _) r
 rw [<- e];exact hy
theorem bK.get {C:Addr} {H:Hp} {g n e:Nat} {t:List (List Nat)} (h:bK C H g n t e):∃ dx r b,H g=some (.ins C dx (gfs n (.ref r) (.int (e:Int)) (.ref b)))/\At K H (.ref r) t/\At K H (.ref b) (bks n t e):=by
 obtain ⟨dx,r,b,ps,h1,h2,h3⟩:=h;exact ⟨dx,r,b,h1,h2.at,eN h3⟩
section
variable (T:Txt K mg) {H:Hp} {g dx:Addr} {n:Int} {r e b:V} {Q:VK} (hg:H g=some (.ins T.aS dx (gfs n r e b)))
include hg
theorem dA (q:Q (.int n) H):isF K "many" (.ref g) H Q:=⟨g,T.aS,dx,_,_,rfl,hg,T.kE,T.nY,Hl _ _ _ _,q⟩
theorem cL (q:Q r H):isF K "rows" (.ref g) H Q:=⟨g,T.aS,dx,_,_,rfl,hg,T.kE,T.ow,Hi _ _ _ _,q⟩
theorem dC (q:Q e H):isF K "unit" (.ref g) H Q:=⟨g,T.aS,dx,_,_,rfl,hg,T.kE,T.oM,GG _ _ _ _,q⟩
end
def GY (C:Addr) (K:LM):Sp:=fun vs H Q _=>∃ (p dx:Addr) (r e b:V) (t:List (List Nat)),vs=[.ref p,r,e,b]/\H p=some (.ins C dx [])/\At K H r t /\
 ∀ H',H' p=some (.ins C dx (gfs t.length r e b))->(∀ a o,H a=some o->a≠p->H' a=some o)->Q .non H'
theorem Hd (T:Txt K mg):aI P w K mg base CX0 1 T.tU T.ui ["self","rows","unit","backs"] (GY T.aS K):=by
 refine T.Cy.ok yD (fun vs H Q E h=>?_) (fun cdv A outer s H vs Q E hr h=>?_)
 ·obtain ⟨p,dx,r,e,b,t,rfl,_⟩:=h;rfl
 obtain ⟨p,dx,r,e,b,t,rfl,hp,hT,k⟩:=h;refine ⟨_,(ae (iP K rfl (pv 0) (av (aV K rfl) rfl T.bz Mt (paF (pv 1) aa)) rfl)
   (ae (iP K rfl (pv 0) (pv 1) rfl)
   (ae (iP K rfl (pv 0) (pv 2) rfl)
   (ah (iP K rfl (pv 0) (pv 3) rfl))))),?_⟩
 walk_at "rd";refine cX hT ?_;walk_at "rd";refine ⟨p,T.aS,dx,_,rfl,hp,T.kE,T.nY,(by show 0<1000;decide),?_⟩
 walk_at "rd";refine ⟨p,T.aS,dx,_,rfl,ao,T.kE,T.ow,(by show 1<1000;decide),?_⟩
 walk_at "rd";refine ⟨p,T.aS,dx,_,rfl,ao,T.kE,T.oM,(by show 2<1000;decide),?_⟩
 walk_at "rd";refine ⟨p,T.aS,dx,_,rfl,ao,T.kE,T.rF,(by show 3<1000;decide),?_⟩
 refine k _ ao fun a o ha hne=>?_;rw [aq hne,aq hne,aq hne,aq hne];exact ha
def BU (C:Addr) (K:LM):Sp:=fun vs H Q _=>∃ (v:V) (n e:Nat) (t:List (List Nat)),vs=[v]/\At K H v t/\GT n t e/\∀ g H',H g=none->aj H H'->bK C (since H H') g n t e->Q (.ref g) H'
theorem uF (T:Txt K mg):aI P w K mg base CX0 3 T.jB.f T.jB.fd ["table"] (BU T.aS K):=by
 refine T.jB.ok mD (fun vs H Q E h=>?_) (fun cdv A outer s H vs Q E hr h=>?_)
 ·obtain ⟨v,n,e,t,rfl,_⟩:=h;rfl
 obtain ⟨v,n,e,t,rfl,hT,gt,k⟩:=h;refine ⟨_,(ae (eR (i:=1) rfl mD.nd rfl (Mg rfl) rB (aZ K rfl (pv 0)) (fun _ _ _ _=>⟨(az (i:=0) rB.nd rfl (Mg rfl)),bj,(cp (fR K rfl) rfl T.fj Ng (paF (pv 0) aa))⟩) rfl)
   (ae (bC (aO T.i9 (yE T) (hr.mono (by decide)) rfl (paF (pv 1) aa)))
   (ae (bC (aO T.eL (sh T) (hr.mono (by decide)) rfl (paF (pv 1) aa)))
   (ae (au (i:=2) mD.nd rfl (Mg rfl) (aO T.mY (Dk T) (hr.mono (by decide)) rfl (paF (pv 1) aa)))
   (ae (au (i:=3) mD.nd rfl (Mg rfl) (aO T.lr (BF T) (hr.mono (by decide)) rfl (paF (pv 1) (paF (pv 2) aa))))
   (ae (bC (aO T.fk (um T) (hr.mono (by decide)) rfl (paF (pv 1) aa)))
   (ah (aK (Aa T.Cu (Hd T) (hr.mono (by decide)) rfl T.CC T.B8 .nil tJ (paF (pv 1) (paF (pv 2) (paF (pv 3) aa)))))))))))),?_⟩
 have h1:=gt.len;have h3:=gt.le;walk_at "rd";refine qN hT (by omega) fun d H1 ps s1 fd fps tb1=>?_
 have hd':At K H1 (.ref d) t:=tb1.at;walk_at "rd";refine ⟨_,n,t,rfl,hd',gt.toSq,?_⟩;walk_at "rd";refine ⟨_,n,t,rfl,hd',gt.toGd,?_⟩;walk_at "rd";refine ⟨_,n,e,t,rfl,hd',gt,?_⟩;walk_at "rd";refine ⟨_,n,e,t,rfl,hd',gt,fun b H2 fb s2 hb=>?_⟩;walk_at "rd";refine ⟨_,n,e,t,rfl,Rep.mono s2 hd',gt,?_⟩;walk_at "rd";intro x dx hx hdx hne;have s3:aj H2 (upd (upd H2 dx (.own x)) x (.ins T.aS dx [])):=fun b' o z=>by
  rw [aq (aA z hx),aq (aA z hdx)];exact z
 refine ⟨x,dx,_,_,_,t,rfl,ao,Rep.mono s3 (Rep.mono s2 hd'),fun H4 h4 k4=>⟨rfl,?_⟩⟩;have s4:aj H2 H4:=fun b' o z=>k4 b' o (s3 b' o z) (aA z hx);have fx:H x=none:=(s1.trans s2).free hx;refine k x H4 fx (s1.trans (s2.trans s4)) ⟨dx,d,b,ps,?_,(tb1.mono (s2.trans s4)).since fd fps,?_⟩
 ·rw [ky fx,h4,h1]
 ·rw [ky (s1.free fb)];exact s4 _ _ (fq hb)
end
def qT (ns:List Int) (k:Nat):Nat:=match ns[k]? with
 | some x=>(x % 2147483647).toNat
 | none=>0
theorem uK (ns:List Int) (k:Nat):qT ns k<2147483647:=by
 unfold qT
 split
 ·rename_i x _
  have:=QP x (show (0:Int)<2147483647 by decide)
  have:=Oh x (show (2147483647:Int)≠0 by decide)
  omega
 ·decide
structure jb (a b c s:Nat):Prop where
 a1:1<=a
 b1:1<=b
 c1:1<=c
 s1:1<=s
 s4:s<=4
 le:a * b * c * s<=23
def szL (l:List Nat):Bool:=match l with
 | [a,b,c,s]=>decide (1<=a/\1<=b/\1<=c/\1<=s/\s<=4/\a * b * c * s<=23)
 | _=>false
theorem Kz {l:List Nat} (h:szL l=true):∃ a b c s,l=[a,b,c,s]/\jb a b c s:=by
 match l,h with
 | [a,b,c,s],h =>
  have h':=of_decide_eq_true h;exact ⟨a,b,c,s,rfl,h'.1,h'.2.1,h'.2.2.1,h'.2.2.2.1,h'.2.2.2.2.1,h'.2.2.2.2.2⟩
theorem mf {x y:Nat} (h:1<=y):x<=x * y:=by
 have:=Np x h;omega
theorem jb.ab {a b c s:Nat} (h:jb a b c s):a * b<=23:=by
 have h1:=h.le;have h2:a * b<=a * b * c:=mf h.c1;have h3:a * b * c<=a * b * c * s:=mf h.s1;omega
theorem jb.abc {a b c s:Nat} (h:jb a b c s):a * b * c<=23:=by
 have h1:=h.le;have h3:a * b * c<=a * b * c * s:=mf h.s1;omega
theorem jb.a23 {a b c s:Nat} (h:jb a b c s):a<=23:=by
 have h1:=h.ab;have h2:a<=a * b:=mf h.b1;omega
theorem jb.b23 {a b c s:Nat} (h:jb a b c s):b<=23:=by
 have h1:=h.ab;have h2:b<=b * a:=mf h.a1;rw [Py] at h2;omega
theorem jb.c23 {a b c s:Nat} (h:jb a b c s):c<=23:=by
 have h1:=h.abc;have h2:c<=c * (a * b):=mf (Oc h.a1 h.b1);rw [Py] at h2;omega
theorem Ja:GJ.all szL=true:=by decide
theorem IM:∀ k,k<4->6<=([8,12,6,23]:List Nat).getD k 0/\([8,12,6,23]:List Nat).getD k 0<=23:=by decide
theorem GN:∀ k,k<6->1<=([2,1,2,3,2,4]:List Nat).getD k 0/\([2,1,2,3,2,4]:List Nat).getD k 0<=4:=by decide
theorem Ge:∀ k,k<3->0<([12,276,6348]:List Nat).getD k 0/\([12,276,6348]:List Nat).getD k 0<1073741824:=by decide
theorem Lo {fi se th st room top:Nat} (h1:1<=fi) (h2:1<=se) (h3:1<=th) (h4:1<=st) (h5:st<=4) (hfs:0<fi * se) (ht:th<=room / (fi * se)) (hr:room * st<=top) (h23:top<=23):jb fi se th st:=by
 refine ⟨h1,h2,h3,h4,h5,?_⟩;have e1:fi * se * th<=room:=Na (Np _ ht) (Nat.mul_div_le room (fi * se));have e2:fi * se * th * st<=room * st:=Nat.mul_le_mul_right _ e1;omega
section
variable {P:Ms} {w:World} {K:LM} {mg:Str->Option Value} {base:Heap}
def Bp (K:LM):Sp:=fun vs H Q _=>∃ (v:V) (ns:List Int) (k:Nat),vs=[v,.int (k:Int)]/\At K H v ns/\Q (.int (qT ns k:Int)) H
theorem pJ (T:Txt K mg):aI P w K mg base CX0 1 T.ik.f T.ik.fd ["_law_script","_law_k"] (Bp K):=by
 refine T.ik.ok BE (fun vs H Q E h=>?_) (fun cdv A outer s H vs Q E hr h=>?_)
 ·obtain ⟨v,ns,k,rfl,_⟩:=h;rfl
 obtain ⟨v,ns,k,rfl,hA,q⟩:=h;refine ⟨_,(ae (aW (aH i7 (pv 1) (av (aV K rfl) rfl T.bz Mt (paF (pv 0) aa)) (aE _)) (ah (aK (ak aT (ar (ai K rfl) (pv 0) (pv 1) (fun _ _=>rfl)) af))) aQ)
   (ah (aK af))),?_⟩
 walk_at "rd";refine cX hA ?_;walk_at "rd";refine aU (fun c=>?_) (fun c=>?_)
 ·have hk:k<ns.length:=by omega
  walk_at "rd";refine tG (n:=k) hA rfl (LP hk) ?_;walk_at "rd";refine pG (show (0:Int)<2147483647 by decide) ?_
  unfold qT at q;rw [LP hk] at q;have:=Oh ns[k] (show (2147483647:Int)≠0 by decide)
  dsimp only at q;rw [SO this] at q;exact q
 ·have hk:¬ k<ns.length:=by omega
  walk_at "rd";unfold qT at q;rw [ND (by omega)] at q
  exact q
def AK (K:LM):Sp:=fun vs H Q _=>∃ one two:Nat,vs=[.int (one:Int),.int (two:Int)]/\∀ v H' a b c s,aj H H'->jb a b c s->At K H' v [a,b,c,s]->Q v H'
theorem AS (T:Txt K mg):aI P w K mg base CX0 1 T.jZ.f T.jZ.fd ["_law_one_here","_law_two"] (AK K):=by
 refine T.jZ.ok cO (fun vs H Q E h=>?_) (fun cdv A outer s H vs Q E hr h=>?_)
 ·obtain ⟨one,two,rfl,_⟩:=h;rfl
 obtain ⟨one,two,rfl,q⟩:=h;refine ⟨_,(ae (au (i:=2) cO.nd rfl (Mg rfl) (ak bA (pv 0) af))
   (ae (aW (aH bM (ak aT (pv 0) af) af (aE _)) (ae (au (i:=3) cO.nd rfl (Mg rfl) (bg (AL [[2,2,1,3],[7,1,1,3],[5,1,1,4],[4,2,1,2],[3,3,1,2],[8,1,1,2]] (by trivial)).out))
   (ae (au (i:=3) cO.nd rfl (Mg rfl) (ak fv (pv 3) (bg (AL [[4,1,1,2],[2,2,2,2],[3,1,1,4],[2,2,1,2],[5,1,1,2],[9,1,1,2]] (by trivial)).out)))
   (ah (aK (ar (ai K rfl) (pv 3) (ak aT (pv 2) af) (fun _ _=>rfl)))))) aQ)
   (ae (au (i:=4) cO.nd rfl (Mg rfl) (ar (ai K rfl) (bg (kq [8,12,6,23] (by trivial)).out) (ak aT (pv 2) af) (fun _ _=>rfl)))
   (ae (au (i:=5) cO.nd rfl (Mg rfl) (ar (ai K rfl) (bg (kq [2,1,2,3,2,4] (by trivial)).out) (ak aT (ak bA (pv 2) af) af) (fun _ _=>rfl)))
   (ae (au (i:=6) cO.nd rfl (Mg rfl) (ak bA (pv 4) (pv 5)))
   (ae (au (i:=7) cO.nd rfl (Mg rfl) (ak a0 af (ak aT (ak bA (pv 2) af) (pv 6))))
   (ae (au (i:=8) cO.nd rfl (Mg rfl) (ak a0 af (ak aT (pv 1) (ak bA (pv 6) (pv 7)))))
   (ae (au (i:=9) cO.nd rfl (Mg rfl) (ak a0 af (ak aT (ak bA (pv 1) af) (ak bA (pv 6) (ak bL (pv 7) (pv 8))))))
   (ah (aK (bg (paF (pv 7) (paF (pv 8) (paF (pv 9) (paF (pv 5) aa))))))))))))))),?_⟩
 walk_at "rx";generalize one / 3=num;walk_at "ifs";walk_at "rx";refine aU (fun _=>?_) (fun _=>?_)
 ·walk_at "rx";refine cV (K:=K) (l:=([[2,2,1,3],[7,1,1,3],[5,1,1,4],[4,2,1,2],[3,3,1,2],[8,1,1,2]]:List (List Nat))) (xh _ (by decide)) (by decide) fun d1 H1 f1 s1 g1=>?_
  walk_at "rx";refine cV (K:=K) (l:=([[4,1,1,2],[2,2,2,2],[3,1,1,4],[2,2,1,2],[5,1,1,2],[9,1,1,2]]:List (List Nat))) (xh _ (by decide)) (by decide) fun d2 H2 f2 s2 g2=>?_
  refine HY (g1.mono s2).copy g2.copy (by decide) fun d3 H3 f3 s3 a3=>?_
  have a3':At K H3 (.ref d3) GJ:=a3;walk_at "rx";have hm:num % 12<GJ.length:=MF _ (by decide)
  refine dI (n:=num % 12) a3' rfl (getD_some [] hm) fun w hw=>?_;obtain ⟨a,b,c,s,e,ok⟩:=Kz (MA.mp Ja _ (LR (getD_some [] hm)));rw [e] at hw;exact q w H3 a b c s (s1.trans (s2.trans s3)) ok hw
 ·walk_at "rx";refine cV (K:=K) (l:=([8,12,6,23]:List Nat)) (jI _) (by decide) fun d1 H1 f1 s1 g1=>?_
  walk_at "rx";have hm4:num % 4<4:=MF _ (by decide)
  refine bF g1.at (getD_some 0 (show num % 4<([8,12,6,23]:List Nat).length from hm4)) ?_;obtain ⟨h6,h23⟩:=IM (num % 4) hm4;generalize ([8,12,6,23]:List Nat).getD (num % 4) 0=top at h6 h23 ⊢;walk_at "rx";refine cV (K:=K) (l:=([2,1,2,3,2,4]:List Nat)) (jI _) (by decide) fun d2 H2 f2 s2 g2=>?_
  walk_at "rx";have hm6:num / 4 % 6<6:=MF _ (by decide)
  refine bF g2.at (getD_some 0 (show num / 4 % 6<([2,1,2,3,2,4]:List Nat).length from hm6)) ?_;obtain ⟨t1,t4⟩:=GN (num / 4 % 6) hm6;generalize ([2,1,2,3,2,4]:List Nat).getD (num / 4 % 6) 0=st at t1 t4 ⊢;walk_at "rx";have hroom:0<top / st:=Tf (by omega) (by omega)
  have hrs:top / st * st<=top:=Nat.div_mul_le_self _ _;generalize top / st=room at hroom hrs ⊢;have hr23:room<=23:=by
   have:=Nat.le_mul_of_pos_right room (show 0<st by omega)
   omega
  walk_at "rx";have hf:1+num / 24 % room<=room:=by
   have:=MF (num / 24) hroom;omega
  have hf1:1<=1+num / 24 % room:=by omega
  generalize 1+num / 24 % room=fi at hf hf1 ⊢;walk_at "rx";have h2:0<room / fi:=Tf hf hf1;refine zL h2 ?_;walk_at "rx";have hse:1+two % (room / fi)<=room / fi:=by
   have:=MF two h2;omega
  have hse1:1<=1+two % (room / fi):=by omega
  generalize 1+two % (room / fi)=se at hse hse1 ⊢;have hfs:fi * se<=room:=Na (Np _ hse) (Nat.mul_div_le room fi);have hfs1:0<fi * se:=Oc hf1 hse1;walk_at "rx";have h3:0<room / (fi * se):=Tf hfs hfs1;refine zL h3 ?_;walk_at "rx";have hth:1+two / 23 % (room / (fi * se))<=room / (fi * se):=by
   have:=MF (two / 23) h3;omega
  have hth1:1<=1+two / 23 % (room / (fi * se)):=by omega
  generalize 1+two / 23 % (room / (fi * se))=th at hth hth1 ⊢;refine bZ ?_;walk_at "rx";refine ⟨small (by show 4<=1000;decide),fun p hp=>q _ _ fi se th st (s1.trans (s2.trans (ay hp _))) (Lo hf1 hse1 hth1 t1 t4 hfs1 hth hrs h23) ?_⟩
  exact ⟨p,_,rfl,SqL.of ao,.cons rfl (.cons rfl (.cons rfl (.cons rfl .nil)))⟩
def KJ (K:LM) (H:Hp) (v:V) (x a b s:Nat) (d:Addr) (n:Nat):St->Hp->Prop:=fun σ' H'=>σ'=[some v,some (.int (x:Int)),some (.ref d)]/\aj H H'/\∃ l:List Nat,Gr K H' d l/\l≠[]/\l.length<=n/\∀ k∈l,k<5/\fN a b s k=true
theorem KJ.put {H H':Hp} {v:V} {x a b s n k:Nat} {d:Addr} {σ':St} {N:St->Hp->Prop} (hd:H d=none) (hn:n<=1000) (h:KJ K H v x a b s d n σ' H') (h5:k<5) (hk:fN a b s k=true) (hN:∀ H'',KJ K H v x a b s d (n+1) σ' H''->N σ' H'') :
  wK (.ref d) [.int (k:Int)] H' fun _ H1=>N σ' H1:=by
 obtain ⟨e,s1,l,g,ne,ll,hl⟩:=h;refine ko (b:=k) g (by omega) rfl fun H3 g3 k3 _=>hN H3 ⟨e,aj.but hd s1 k3,_,g3,by simp,by rw [Mo];simp;omega,fun y hy=>?_⟩
 rcases MC.mp hy with z|z
 ·exact hl y z
 ·rw [Md.mp z];exact ⟨h5,hk⟩
theorem KJ.skip {H H':Hp} {v:V} {x a b s n:Nat} {d:Addr} {σ':St} (h:KJ K H v x a b s d n σ' H'):KJ K H v x a b s d (n+1) σ' H':=by
 obtain ⟨e,s1,l,g,ne,ll,hl⟩:=h;exact ⟨e,s1,l,g,ne,by omega,hl⟩
theorem KJ.ty {H H':Hp} {v:V} {x a b s n:Nat} {d:Addr} {σ':St} (h:KJ K H v x a b s d n σ' H'):tyV K "list" (.ref d) H':=by
 obtain ⟨e,s1,l,g,_⟩:=h;exact g.ty
theorem Lk {a b s:Nat} (h1:a=b) (h2:s % 2=0):fN a b s 1=true:=by subst h1;simp [fN,h2]
theorem Lu {a b s:Nat} (h1:a=b) (h2:s % 3=0):fN a b s 2=true:=by subst h1;simp [fN,h2]
theorem Lj {a b s:Nat} (h1:a % b=0) (h2:1<b) (h3:s % b=0):fN a b s 3=true:=by simp [fN,h1,h2,h3]
theorem Lm {a b s:Nat} (h1:a % 2=0) (h2:b % 2=0) (h3:s % 2=0):fN a b s 4=true:=by simp [fN,h1,h2,h3]
def BS (K:LM):Sp:=fun vs H Q _=>∃ (v:V) (x a b c s:Nat),vs=[v,.int (x:Int)]/\jb a b c s/\At K H v [a,b,c,s]/\∀ k H',aj H H'->k<5->fN a b s k=true->Q (.int (k:Int)) H'
theorem BL (T:Txt K mg):aI P w K mg base CX0 1 T.lA.f T.lA.fd ["_law_sizes_here","_law_number"] (BS K):=by
 refine T.lA.ok uC (fun vs H Q E h=>?_) (fun cdv A outer s H vs Q E hr h=>?_)
 ·obtain ⟨v,x,a,b,c,s,rfl,_⟩:=h;rfl
 obtain ⟨v,x,a,b,c,s,rfl,sz,hS,q⟩:=h;refine ⟨_,(ae (au (i:=2) uC.nd rfl (Mg rfl) (bg (paF af aa)))
   (ae (aW (PW.pt (lF (aH bM (ar (ai K rfl) (pv 0) af (fun _ _=>rfl)) (ar (ai K rfl) (pv 0) af (fun _ _=>rfl)) (aE _)) (lO (aH bM (ak aT (ar (ai K rfl) (pv 0) af (fun _ _=>rfl)) af) af (aE _))))) (ah (bC (fA K rfl MG M5 M7 dE (pv 2) (paF af aa)))) aQ)
   (ae (aW (PW.pt (lF (aH bM (ar (ai K rfl) (pv 0) af (fun _ _=>rfl)) (ar (ai K rfl) (pv 0) af (fun _ _=>rfl)) (aE _)) (lO (aH bM (ak aT (ar (ai K rfl) (pv 0) af (fun _ _=>rfl)) af) af (aE _))))) (ah (bC (fA K rfl MG M5 M7 dE (pv 2) (paF af aa)))) aQ)
   (ae (aW (PW.pt (lF (aH bM (ak aT (ar (ai K rfl) (pv 0) af (fun _ _=>rfl)) (ar (ai K rfl) (pv 0) af (fun _ _=>rfl))) af (aE _)) (lF (aH pj (ar (ai K rfl) (pv 0) af (fun _ _=>rfl)) af (aE _)) (lO (aH bM (ak aT (ar (ai K rfl) (pv 0) af (fun _ _=>rfl)) (ar (ai K rfl) (pv 0) af (fun _ _=>rfl))) af (aE _)))))) (ah (bC (fA K rfl MG M5 M7 dE (pv 2) (paF af aa)))) aQ)
   (ae (aW (PW.pt (lF (aH bM (ak aT (ar (ai K rfl) (pv 0) af (fun _ _=>rfl)) af) af (aE _)) (lF (aH bM (ak aT (ar (ai K rfl) (pv 0) af (fun _ _=>rfl)) af) af (aE _)) (lO (aH bM (ak aT (ar (ai K rfl) (pv 0) af (fun _ _=>rfl)) af) af (aE _)))))) (ah (bC (fA K rfl MG M5 M7 dE (pv 2) (paF af aa)))) aQ)
   (ah (aK (ar (ai K rfl) (pv 2) (ak aT (pv 1) (av (aV K rfl) rfl T.bz Mt (paF (pv 2) aa))) (fun _ _=>rfl))))))))),?_⟩
 have b1:=sz.b1;walk_at "rx";refine cV (K:=K) (l:=([0]:List Nat)) (by walk_at "wr") (by decide) fun d H1 f1 s1 g1=>?_
 have j1:KJ K H v x a b s d 1 [some v,some (.int (x:Int)),some (.ref d)] H1:=⟨rfl,s1,_,g1,by simp,by simp,fun k hk=>by rw [Md.mp hk];exact ⟨by decide,rfl⟩⟩
 have hS1:=Rep.mono s1 hS;walk_at "rx";refine iw (KJ K H v x a b s d 2) (fun N hN=>?_) ?_
 ·walk_at "rx";refine aU (fun c1=>?_) (fun _=>?_)
  ·walk_at "rx";refine aU (fun c2=>?_) (fun _=>?_)
   ·walk_at "rx";refine ⟨j1.ty,?_⟩;walk_at "rx";exact KJ.put f1 (by decide) j1 (by decide) (Lk c1 c2) fun H2 z=>hN _ _ z
   ·walk_at "rx";exact hN _ _ j1.skip
  ·walk_at "9";exact hN _ _ j1.skip
 rintro σ2 H2 j2;obtain ⟨rfl,s2,z2⟩:=id j2;have hS2:=Rep.mono s2 hS;walk_at "rx";refine iw (KJ K H v x a b s d 3) (fun N hN=>?_) ?_
 ·walk_at "rx";refine aU (fun c1=>?_) (fun _=>?_)
  ·walk_at "rx";refine aU (fun c2=>?_) (fun _=>?_)
   ·walk_at "rx";refine ⟨j2.ty,?_⟩;walk_at "rx";exact KJ.put f1 (by decide) j2 (by decide) (Lu c1 c2) fun H2 z=>hN _ _ z
   ·walk_at "rx";exact hN _ _ j2.skip
  ·walk_at "9";exact hN _ _ j2.skip
 rintro σ3 H3 j3;obtain ⟨rfl,s3,z3⟩:=id j3;have hS3:=Rep.mono s3 hS;walk_at "rx";refine iw (KJ K H v x a b s d 4) (fun N hN=>?_) ?_
 ·walk_at "rx";refine aU (fun c1=>?_) (fun _=>?_)
  ·walk_at "rx";refine aU (fun c2=>?_) (fun _=>?_)
   ·walk_at "rx";refine aU (fun c3=>?_) (fun _=>?_)
    ·walk_at "rx";refine ⟨j3.ty,?_⟩;walk_at "rx";exact KJ.put f1 (by decide) j3 (by decide) (Lj c1 c2 c3) fun H2 z=>hN _ _ z
    ·walk_at "rx";exact hN _ _ j3.skip
   ·walk_at "9";exact hN _ _ j3.skip
  ·walk_at "9";exact hN _ _ j3.skip
 rintro σ4 H4 j4;obtain ⟨rfl,s4,z4⟩:=id j4;have hS4:=Rep.mono s4 hS;walk_at "rx";refine iw (KJ K H v x a b s d 5) (fun N hN=>?_) ?_
 ·walk_at "rx";refine aU (fun c1=>?_) (fun _=>?_)
  ·walk_at "rx";refine aU (fun c2=>?_) (fun _=>?_)
   ·walk_at "rx";refine aU (fun c3=>?_) (fun _=>?_)
    ·walk_at "rx";refine ⟨j4.ty,?_⟩;walk_at "rx";exact KJ.put f1 (by decide) j4 (by decide) (Lm c1 c2 c3) fun H2 z=>hN _ _ z
    ·walk_at "rx";exact hN _ _ j4.skip
   ·walk_at "9";exact hN _ _ j4.skip
  ·walk_at "9";exact hN _ _ j4.skip
 rintro σ5 H5 ⟨rfl,s5,l,g5,ne,ll,hl⟩;have ha5:=g5.at;have hl0:0<l.length:=MR.mpr ne;walk_at "rx";have hm:x % l.length<l.length:=MF _ hl0;refine bF ha5 (getD_some 0 hm) ?_;have hk:=hl _ (LR (getD_some 0 hm));exact q _ H5 s5 hk.1 hk.2
def Bk (K:LM):Sp:=fun vs H Q _=>∃ m s x:Nat,vs=[.int (m:Int),.int (s:Int),.int (x:Int)]/\1<=m/\m<=23/\1<=s/\s<=4/\∀ u H',aj H H'->u∈unitsOf m s->Q (.int (u:Int)) H'
theorem BI (T:Txt K mg):aI P w K mg base CX0 1 T.lC.f T.lC.fd ["_law_many","_law_steps","_law_number"] (Bk K):=by
 refine T.lC.ok gh (fun vs H Q E h=>?_) (fun cdv A outer s H vs Q E hr h=>?_)
 ·obtain ⟨m,s,x,rfl,_⟩:=h;rfl
 obtain ⟨m,s,x,rfl,m1,m23,s1,s4,q⟩:=h;refine ⟨_,(ae (au (i:=3) gh.nd rfl (Mg rfl) (bg aa))
   (ae (bE Mq rfl (bb rfl T.bp (paF (pv 0) aa)) (az (i:=4) gh.nd rfl (Mg rfl)) (ae (au (i:=5) gh.nd rfl (Mg rfl) af)
   (ae (bE Mq rfl (bb rfl T.bp (paF (pv 1) aa)) (az (i:=6) gh.nd rfl (Mg rfl)) (ah (au (i:=5) gh.nd rfl (Mg rfl) (ak aT (ak bL (pv 5) (pv 4)) (pv 0)))))
   (ah (aW (aH bM (pv 5) (ak aT af (pv 0)) (aE _)) (ah (bC (fA K rfl MG M5 M7 dE (pv 3) (paF (pv 4) aa)))) aQ)))))
   (ae (aW (PW.pt (lF (aH pj (ak bL (pv 0) (pv 1)) af (aE _)) (lO (aH pj (av (aV K rfl) rfl T.bz Mt (paF (pv 3) aa)) af (aE _))))) (ah (au (i:=3) gh.nd rfl (Mg rfl) (fV (fZ K rfl) (pv 3) (gL af) jz))) aQ)
   (ah (aK (ar (ai K rfl) (pv 3) (ak aT (pv 2) (av (aV K rfl) rfl T.bz Mt (paF (pv 3) aa))) (fun _ _=>rfl))))))),?_⟩
 walk_at "rx";refine cV (K:=K) (l:=([]:List Nat)) jS (by decide) fun d H1 f1 e1 g1=>?_
 walk_at "rx";refine cb (n:=m) rfl (by omega) (fun i σ H'=>aj H H'/\Gr K H' d ((L4 i).filter fun u=>Oz (pw u m s) (1 % m))/\∃ y z k,σ=[some (.int (m:Int)),some (.int (s:Int)),some (.int (x:Int)),some (.ref d),y,z,k]) ⟨e1,g1,_,_,_,rfl⟩ ?_ ?_
 ·rintro i σ' H' hi ⟨e2,g2,y,z,k,rfl⟩;walk_at "rx";refine cb (n:=s) rfl (by omega) (fun j σ H2=>H2=H'/\∃ k,σ=[some (.int (m:Int)),some (.int (s:Int)),some (.int (x:Int)),some (.ref d),some (.int (i:Int)),some (.int (pw i m j:Int)),k]) ⟨rfl,_,rfl⟩ ?_ ?_
  ·rintro j σ'' H2 hj ⟨rfl,k,rfl⟩;walk_at "rx";exact ⟨rfl,_,rfl⟩
  ·rintro σ'' H2 ⟨rfl,k,rfl⟩;walk_at "4";have hl:((L4 i).filter fun u=>Oz (pw u m s) (1 % m)).length<=100000:=by
    have:=OK (fun u=>Oz (pw u m s) (1 % m)) (L4 i);rw [MU] at this;omega
   refine aU (fun c=>?_) (fun c=>?_)
   ·walk_at "rx";refine ⟨g2.ty,?_⟩;walk_at "rx";refine ko (b:=i) g2 hl rfl fun H3 g3 k3 _=>?_;refine ⟨aj.but f1 e2 k3,?_,_,_,_,rfl⟩;rw [vy,if_pos c];exact g3
   ·walk_at "rx";refine ⟨e2,?_,_,_,_,rfl⟩;rw [vy,if_neg c];exact g2
 ·rintro σ' H2 ⟨e2,g2,y,z,k,rfl⟩;have g2':Gr K H2 d (unitsOf m s):=g2;have a2:=g2'.at;have ne:=Gq m1 m23 s1 s4;have ul:(unitsOf m s).length<=23:=by
   have:=OK (fun u=>Oz (pw u m s) (1 % m)) (L4 m);rw [MU] at this;exact Na this m23
  have u0:0<(unitsOf m s).length:=MR.mpr ne;walk_at "rx";refine iw (fun σ' H'=>aj H H'/\∃ (p:Addr) (l:List Nat),At K H' (.ref p) l/\0<l.length/\(∀ u∈l,u∈unitsOf m s)/\∃ y z k,σ'=[some (.int (m:Int)),some (.int (s:Int)),some (.int (x:Int)),some (.ref p),y,z,k]) (fun N hN=>?_) ?_
  ·have no:N [some (.int (m:Int)),some (.int (s:Int)),some (.int (x:Int)),some (.ref d),y,z,k] H2:=hN _ _ ⟨e2,d,_,a2,u0,fun _ z=>z,_,_,_,rfl⟩;walk_at "rx";refine aU (fun c1=>?_) (fun _=>?_)
   ·walk_at "rx";refine aU (fun c2=>?_) (fun _=>?_)
    ·walk_at "rx";refine IU a2 fun p H3 e3 _ a3=>?_;walk_at "rx";have ec:cut (unitsOf m s) (some ((1:Nat):Int)) none=(unitsOf m s).drop 1:=G7 _;rw [ec] at a3;exact hN _ _ ⟨e2.trans e3,p,_,a3,by rw [Qj];omega,fun u hu=>Pl hu,_,_,_,rfl⟩
    ·walk_at "rx";exact no
   ·walk_at "9";exact no
  ·rintro σ3 H3 ⟨e3,p,l,a3,l0,hl,y,z,k,rfl⟩;walk_at "rx";have hm:x % l.length<l.length:=MF _ l0;refine bF a3 (getD_some 0 hm) ?_;exact q _ H3 e3 (hl _ (LR (getD_some 0 hm)))
theorem Par.sz {a b c s kind u0 u1 u2:Nat} (h:Par a b c s kind u0 u1 u2):jb a b c s:=⟨h.a1,h.b1,h.c1,h.s1,h.s4,h.le⟩
def yK (K:LM):Sp:=fun vs H Q _=>∃ (v u:V) (p kind a b c s u0 u1 u2:Nat),vs=[.int (p:Int),v,.int (kind:Int),u]/\Par a b c s kind u0 u1 u2/\At K H v [a,b,c,s]/\At K H u [u0,u1,u2]/\p<a * b * c/\Q (.int (fD a b c kind u0 u1 u2 p:Int)) H
theorem yU (T:Txt K mg):aI P w K mg base CX0 1 T.jq.f T.jq.fd ["_law_place","_law_sizes_here","_law_kind_here","_law_units"] (yK K):=by
 refine T.jq.ok cE (fun vs H Q E h=>?_) (fun cdv A outer s H vs Q E hr h=>?_)
 ·obtain ⟨v,u,p,kind,a,b,c,s,u0,u1,u2,rfl,_⟩:=h;rfl
 obtain ⟨v,u,p,kind,a,b,c,s,u0,u1,u2,rfl,pr,hS,hU,hp,q⟩:=h;refine ⟨_,(ae (au (i:=4) cE.nd rfl (Mg rfl) (ak aT (pv 0) (ar (ai K rfl) (pv 1) af (fun _ _=>rfl))))
   (ae (au (i:=5) cE.nd rfl (Mg rfl) (ak aT (ak bA (pv 0) (ar (ai K rfl) (pv 1) af (fun _ _=>rfl))) (ar (ai K rfl) (pv 1) af (fun _ _=>rfl))))
   (ae (au (i:=6) cE.nd rfl (Mg rfl) (ak aT (ak bL (ak bA (pv 0) (ak bL (ar (ai K rfl) (pv 1) af (fun _ _=>rfl)) (ar (ai K rfl) (pv 1) af (fun _ _=>rfl)))) (ar (ai K rfl) (pv 3) af (fun _ _=>rfl))) (ar (ai K rfl) (pv 1) af (fun _ _=>rfl))))
   (ae (aW (aH bM (pv 2) af (aE _)) (ah (EK (i:=4) (j:=5) rfl cE.nd rfl rfl (by decide) rfl rfl (paF (pv 5) (paF (pv 4) aa)) rfl)) (ah (aW (aH bM (pv 2) af (aE _)) (ah (EK (i:=4) (j:=5) rfl cE.nd rfl rfl (by decide) rfl rfl (paF (ak aT (ak iI af (pv 5)) (ar (ai K rfl) (pv 1) af (fun _ _=>rfl))) (paF (ak aT (ak iI (pv 4) (pv 5)) (ar (ai K rfl) (pv 1) af (fun _ _=>rfl))) aa)) rfl)) (ah (aW (aH bM (pv 2) af (aE _)) (ah (au (i:=5) cE.nd rfl (Mg rfl) (ak aT (ak a0 (pv 5) (pv 4)) (ar (ai K rfl) (pv 1) af (fun _ _=>rfl))))) (ah (aW (aH bM (pv 2) af (aE _)) (ah (au (i:=4) cE.nd rfl (Mg rfl) (ak aT (ak a0 (pv 4) (ak bL (ak bA (ar (ai K rfl) (pv 1) af (fun _ _=>rfl)) af) (pv 5))) (ar (ai K rfl) (pv 1) af (fun _ _=>rfl))))) (ae (au (i:=4) cE.nd rfl (Mg rfl) (ak aT (ak bL (pv 4) (ar (ai K rfl) (pv 3) af (fun _ _=>rfl))) (ar (ai K rfl) (pv 1) af (fun _ _=>rfl))))
   (ah (au (i:=5) cE.nd rfl (Mg rfl) (ak aT (ak bL (pv 5) (ar (ai K rfl) (pv 3) af (fun _ _=>rfl))) (ar (ai K rfl) (pv 1) af (fun _ _=>rfl)))))))))))))
   (ah (aK (ak a0 (pv 4) (ak bL (ar (ai K rfl) (pv 1) af (fun _ _=>rfl)) (ak a0 (pv 5) (ak bL (ar (ai K rfl) (pv 1) af (fun _ _=>rfl)) (pv 6))))))))))),?_⟩
 have a1:=pr.a1;have b1:=pr.b1;have c1:=pr.c1;have a23:=pr.sz.a23;have b23:=pr.sz.b23;have c23:=pr.sz.c23;have ab23:=pr.sz.ab;have ab0:0<a * b:=Oc a1 b1;have lu0:=(sR.mp pr.v0).1;have lu1:=(sR.mp pr.v1).1;have lu2:=(sR.mp pr.v2).1;walk_at "rx";refine iw (fun σ' H'=>H'=H/\∃ X Y:Nat,X+a * (Y+b * (p / (a * b) * u2 % c))=fD a b c kind u0 u1 u2 p/\σ'=[some (.int (p:Int)),some v,some (.int (kind:Int)),some u,some (.int (X:Int)),some (.int (Y:Int)),some (.int ((p / (a * b) * u2 % c:Nat):Int))]) (fun N hN=>?_) ?_
 ·walk_at "rx";refine aU (fun k1=>?_) (fun k1=>?_)
  ·walk_at "rx";refine hN _ _ ⟨rfl,p / a % b,p % a,?_,rfl⟩;subst k1;rfl
  ·walk_at "ifs";walk_at "rx";refine aU (fun k2=>?_) (fun k2=>?_)
   ·have eab:a=b:=by
     have:=pr.kind;subst k2;simp [fN] at this;exact this.1
    have hy:p / a % b<a:=by rw [eab];exact MF _ b1
    have hx:p % a<a:=MF _ a1;walk_at "rx";refine pG (by omega) ?_
    walk_at "rx";refine pG (by omega) ?_
    walk_at "rx";refine hN _ _ ⟨rfl,(a - p / a % b) % a,(p % a+a - p / a % b) % a,?_,?_⟩
    ·subst k2;rfl
    ·have e1:(((0:Nat):Int) - ((p / a % b:Nat):Int)) % (a:Int)=(((a - p / a % b) % a:Nat):Int):=by
      have z:(((a - p / a % b) % a:Nat):Int)=((a - p / a % b:Nat):Int) % (a:Int):=by push_cast;rfl
      rw [z,show ((a - p / a % b:Nat):Int)=(((0:Nat):Int) - ((p / a % b:Nat):Int))+(a:Int) * 1 by omega,QE]
     have e2:(((p % a:Nat):Int) - ((p / a % b:Nat):Int)) % (a:Int)=(((p % a+a - p / a % b) % a:Nat):Int):=by
      have z:(((p % a+a - p / a % b) % a:Nat):Int)=((p % a+a - p / a % b:Nat):Int) % (a:Int):=by push_cast;rfl
      rw [z,show ((p % a+a - p / a % b:Nat):Int)=(((p % a:Nat):Int) - ((p / a % b:Nat):Int))+(a:Int) * 1 by omega,QE]
     rw [<- e1,<- e2];rfl
   ·walk_at "ifs";walk_at "rx";refine aU (fun k3=>?_) (fun k3=>?_)
    ·walk_at "rx";refine hN _ _ ⟨rfl,p % a,(p / a % b+p % a) % b,?_,rfl⟩;subst k3;rfl
    ·walk_at "ifs";walk_at "rx";refine aU (fun k4=>?_) (fun k4=>?_)
     ·walk_at "rx";refine hN _ _ ⟨rfl,(p % a+a / 2 * (p / a % b)) % a,p / a % b,?_,rfl⟩;subst k4;rfl
     ·have k0:kind=0:=by have:=pr.k5;omega
      walk_at "rx";refine hN _ _ ⟨rfl,p % a * u0 % a,p / a % b * u1 % b,?_,rfl⟩;subst k0;rfl
 ·rintro σ' H' ⟨rfl,X,Y,e,rfl⟩;walk_at "rx";rw [e];exact q
def Dh (K:LM):Sp:=fun vs H Q _=>∃ (v:V) (p r a b c s:Nat),vs=[.int (p:Int),.int (r:Int),v]/\jb a b c s/\At K H v [a,b,c,s]/\Q (.int (lsum a b c p r:Int)) H
theorem wx (T:Txt K mg):aI P w K mg base CX0 1 T.kR.f T.kR.fd ["_law_one_here","_law_other","_law_sizes_here"] (Dh K):=by
 refine T.kR.ok lE (fun vs H Q E h=>?_) (fun cdv A outer s H vs Q E hr h=>?_)
 ·obtain ⟨v,p,r,a,b,c,s,rfl,_⟩:=h;rfl
 obtain ⟨v,p,r,a,b,c,s,rfl,sz,hS,q⟩:=h;refine ⟨_,(ae (au (i:=3) lE.nd rfl (Mg rfl) (ak bL (ar (ai K rfl) (pv 2) af (fun _ _=>rfl)) (ar (ai K rfl) (pv 2) af (fun _ _=>rfl))))
   (ae (au (i:=4) lE.nd rfl (Mg rfl) (ak aT (ak a0 (pv 0) (pv 1)) (ar (ai K rfl) (pv 2) af (fun _ _=>rfl))))
   (ae (au (i:=5) lE.nd rfl (Mg rfl) (ak aT (ak a0 (ak bA (pv 0) (ar (ai K rfl) (pv 2) af (fun _ _=>rfl))) (ak bA (pv 1) (ar (ai K rfl) (pv 2) af (fun _ _=>rfl)))) (ar (ai K rfl) (pv 2) af (fun _ _=>rfl))))
   (ae (au (i:=6) lE.nd rfl (Mg rfl) (ak aT (ak a0 (ak bA (pv 0) (pv 3)) (ak bA (pv 1) (pv 3))) (ar (ai K rfl) (pv 2) af (fun _ _=>rfl))))
   (ah (aK (ak a0 (ak a0 (pv 4) (ak bL (ar (ai K rfl) (pv 2) af (fun _ _=>rfl)) (pv 5))) (ak bL (pv 3) (pv 6))))))))),?_⟩
 have a1:=sz.a1;have b1:=sz.b1;have c1:=sz.c1;have a23:=sz.a23;have b23:=sz.b23;have ab23:=sz.ab;have ab0:0<a * b:=Oc a1 b1;walk_at "rx";exact q
def zW (K:LM):Sp:=fun vs H Q _=>∃ n x:Nat,vs=[.int (n:Int),.int (x:Int)]/\n<=23/\x<2147483647/\∀ (d:Addr) (H':Hp) (π:List Nat),aj H H'->π.Perm (L4 n)->At K H' (.ref d) π->Q (.ref d) H'
theorem AR (T:Txt K mg):aI P w K mg base CX0 1 T.jY.f T.jY.fd ["_law_many","_law_number"] (zW K):=by
 refine T.jY.ok lu (fun vs H Q E h=>?_) (fun cdv A outer s H vs Q E hr h=>?_)
 ·obtain ⟨n,x,rfl,_⟩:=h;rfl
 obtain ⟨n,x,rfl,n23,hx,q⟩:=h;refine ⟨_,(ae (au (i:=2) lu.nd rfl (Mg rfl) (bg aa))
   (ae (bE Mq rfl (bb rfl T.bp (paF (pv 0) aa)) (az (i:=3) lu.nd rfl (Mg rfl)) (ae (au (i:=1) lu.nd rfl (Mg rfl) (ak aT (ak a0 (ak a0 (ak a0 (ak bL (pv 1) (pv 1)) (ak bL af (pv 1))) (pv 3)) af) af))
   (ah (bC (fA K rfl MG PySem.F.slot_list_insert PySem.F.type_list_insert E4 (pv 2) (paF (ak aT (pv 1) (ak a0 (pv 3) af)) (paF (pv 3) aa)))))))
   (ah (aK (pv 2))))),?_⟩
 walk_at "rx";refine cV (K:=K) (l:=([]:List Nat)) jS (by decide) fun d H1 f1 e1 g1=>?_
 walk_at "rx";refine cb (n:=n) rfl (by omega) (fun i σ H'=>aj H H'/\∃ (π:List Nat) (y:Nat) (k:Option V),π.Perm (L4 i)/\y<2147483647/\Gr K H' d π/\σ=[some (.int (n:Int)),some (.int (y:Int)),some (.ref d),k]) ⟨e1,[],x,_,.refl _,hx,g1,rfl⟩ ?_ ?_
 ·rintro i σ' H' hi ⟨e2,π,y,k,hp,hy,g2,rfl⟩;have hl:π.length=i:=by rw [hp.length_eq,MU]
  walk_at "rx";have hy2:(y * y+48271 * y+i+11) % 2147483647<2147483647:=MF _ (by decide)
  generalize (y * y+48271 * y+i+11) % 2147483647=y2 at hy2 ⊢;refine ⟨g2.ty,?_⟩;walk_at "rx";have hk:y2 % (i+1)<i+1:=MF _ (by omega)
  refine Gy (b:=i) g2 (show y2 % (i+1)<=π.length by omega) (by omega) rfl fun H3 g3 k3=>?_
  exact ⟨aj.but f1 e2 k3,_,y2,_,Hs hp,hy2,g3,rfl⟩
 ·rintro σ' H2 ⟨e2,π,y,k,hp,hy,g2,rfl⟩;walk_at "rx";exact q d H2 π e2 hp g2.at
theorem j8 {β:Type} (f:Nat->β) {n i:Nat} (h:i<n):((L4 n).map f)[i]?=some (f i):=by simp [h]
def BA (K:LM):Sp:=fun vs H Q _=>∃ (v tv:V) (a b c s e:Nat) (f:Nat->Nat),vs=[v,tv,.int (e:Int)]/\jb a b c s/\Tn (a * b * c) (lsum a b c) f s e/\At K H v [a,b,c,s]/\At K H tv ((L4 (a * b * c)).map f) /\
 ∀ d H',aj H H'->At K H' (.ref d) (mkT (a * b * c * s) (cyc (a * b * c) (lsum a b c) f s e))->Q (.ref d) H'
theorem Bu (T:Txt K mg):aI P w K mg base CX0 2 T.kZ.f T.kZ.fd ["_law_sizes_here","_law_turn","_law_end"] (BA K):=by
 refine T.kZ.ok cD (fun vs H Q E h=>?_) (fun cdv A outer s H vs Q E hr h=>?_)
 ·obtain ⟨v,tv,a,b,c,s,e,f,rfl,_⟩:=h;rfl
 obtain ⟨v,tv,a,b,c,s,e,f,rfl,sz,tn,hS,hT,q⟩:=h;refine ⟨_,(ae (au (i:=3) cD.nd rfl (Mg rfl) (av (aV K rfl) rfl T.bz Mt (paF (pv 1) aa)))
   (ae (au (i:=4) cD.nd rfl (Mg rfl) (bg aa))
   (ae (au (i:=5) cD.nd rfl (Mg rfl) (cp (qr rfl) rfl T.fj Ng (paF (cp uB rfl T.bp Rw (paF (pv 3) aa)) aa)))
   (ae (bE Mq rfl (bb rfl T.bp (paF (ar (ai K rfl) (pv 0) af (fun _ _=>rfl)) aa)) (az (i:=6) cD.nd rfl (Mg rfl)) (ae (bE Mq rfl (bb rfl T.bp (paF (pv 3) aa)) (az (i:=7) cD.nd rfl (Mg rfl)) (ae (au (i:=8) cD.nd rfl (Mg rfl) (bg aa))
   (ae (bE Mq rfl (bb rfl T.bp (paF (ar (ai K rfl) (pv 0) af (fun _ _=>rfl)) aa)) (az (i:=9) cD.nd rfl (Mg rfl)) (ah (bE Mq rfl (bb rfl T.bp (paF (pv 3) aa)) (az (i:=10) cD.nd rfl (Mg rfl)) (ae (au (i:=11) cD.nd rfl (Mg rfl) (aO T.kR (wx T) (hr.mono (by decide)) rfl (paF (pv 7) (paF (ar (ai K rfl) (pv 5) (pv 10) (fun _ _=>rfl)) (paF (pv 0) aa)))))
   (ae (aW (aH oU (ak a0 (pv 6) (pv 9)) (ar (ai K rfl) (pv 0) af (fun _ _=>rfl)) (aE _)) (ah (au (i:=11) cD.nd rfl (Mg rfl) (aO T.kR (wx T) (hr.mono (by decide)) rfl (paF (pv 11) (paF (pv 2) (paF (pv 0) aa)))))) aQ)
   (ah (bC (fA K rfl MG M5 M7 dE (pv 8) (paF (ak a0 (pv 11) (ak bL (pv 3) (ak aT (ak a0 (pv 6) (pv 9)) (ar (ai K rfl) (pv 0) af (fun _ _=>rfl))))) aa)))))))))
   (ah (bC (fA K rfl MG M5 M7 dE (pv 4) (paF (pv 8) aa)))))))
   (ah (eR (i:=5) rfl cD.nd rfl (Mg rfl) rE (aZ K rfl (pv 5)) (fun _ _ _ _=>⟨(az (i:=0) rE.nd rfl (Mg rfl)),bj,(ar (ai K rfl) (pv 1) (pv 0) (fun _ _=>rfl))⟩) rfl))))
   (ah (aK (pv 4))))))),?_⟩
 have s1:=sz.s1;have s4:=sz.s4;have hle:=sz.le;have m23:=sz.abc;have m0:=tn.pos;have hlen:((L4 (a * b * c)).map f).length=a * b * c:=by simp
 walk_at "rx";rw [hlen];generalize hm:a * b * c=m at hle m23 m0 hlen tn hT q ⊢;generalize hF:cyc m (lsum a b c) f s e=F at q ⊢;refine cV (K:=K) (l:=([]:List (List Nat))) jS (by decide) fun d H1 fd e1 g1=>?_
 walk_at "rx";refine B9 fun pr hpr=>?_;walk_at "rx";refine uA (K:=K) ao (by omega) fun dl H2 fl e2 gl=>?_
 have e12:aj H H2:=e1.trans ((ay hpr _).trans e2);have g2:Gr K H2 d ([]:List (List Nat)):=g1.mono ((ay hpr _).trans e2);have hdl:dl≠d:=fun z=>by
  obtain ⟨ys,hy⟩:=g1.is;have:(upd H1 pr (.rng 0 (m:Int))) d=some (.lst ys):=by rw [aq (aA hy hpr)];exact hy
  rw [z,this] at fl;cases fl
 have hS2:=Rep.mono e12 hS;walk_at "rx";refine cb (n:=s) rfl (by omega) (fun i σ H'=>aj H H'/\Gr K H' d ((mkT (m * s) F).take (m * i))/\∃ (vl:V),At K (del H' d) vl ((L4 m).map (Nat.repeat f i))/\∃ x6 x7 x8 x9 x10 x11,σ=[some v,some tv,some (.int (e:Int)),some (.int (m:Int)),some (.ref d),some vl,x6,x7,x8,x9,x10,x11]) ?_ ?_ ?_
 ·refine ⟨e12,by rw [Pd];exact g2,.ref dl,?_,_,_,_,_,_,_,rfl⟩
  have z:(L4 m).map (Nat.repeat f 0)=L4 m:=by
   have:Nat.repeat f 0=id:=by funext x;rfl
   rw [this,Qu]
  rw [z];exact qY gl hdl
 ·rintro i σ' H3 hi ⟨e3,g3,vl,hl3,x6,x7,x8,x9,x10,x11,rfl⟩;walk_at "rx";refine cb (n:=m) rfl (by omega) (fun o σ H'=>aj H H'/\Gr K H' d ((mkT (m * s) F).take (m * i+o))/\At K (del H' d) vl ((L4 m).map (Nat.repeat f i))/\∃ x7 x8 x9 x10 x11,σ=[some v,some tv,some (.int (e:Int)),some (.int (m:Int)),some (.ref d),some vl,some (.int (i:Int)),x7,x8,x9,x10,x11]) ⟨e3,g3,hl3,_,_,_,_,_,rfl⟩ ?_ ?_
  ·rintro o σ' H4 ho ⟨e4,g4,hl4,x7,x8,x9,x10,x11,rfl⟩;have hI:m * i+o<m * s:=by
    have:m * (i+1)<=m * s:=Np m hi;rw [OY] at this;omega
   walk_at "rx";refine cV (K:=K) (l:=([]:List Nat)) jS (by decide) fun p H5 fp e5 g5=>?_
   have hpd:p≠d:=EU g4.is fp;have hS5:=Rep.mono (e4.trans e5) hS;walk_at "rx";refine cb (n:=s) rfl (by omega) (fun j σ H'=>aj H4 H'/\Gr K H' p (((L4 (m * s)).map fun y=>F (m * i+o) y).take (m * j))/\∃ x9 x10 x11,σ=[some v,some tv,some (.int (e:Int)),some (.int (m:Int)),some (.ref d),some vl,some (.int (i:Int)),some (.int (o:Int)),some (.ref p),x9,x10,x11]) ⟨e5,by rw [Pd];exact g5,_,_,_,rfl⟩ ?_ ?_
   ·rintro j σ' H6 hj ⟨e6,g6,x9,x10,x11,rfl⟩;walk_at "rx";refine cb (n:=m) rfl (by omega) (fun k σ H'=>aj H4 H'/\Gr K H' p (((L4 (m * s)).map fun y=>F (m * i+o) y).take (m * j+k))/\∃ x10 x11,σ=[some v,some tv,some (.int (e:Int)),some (.int (m:Int)),some (.ref d),some vl,some (.int (i:Int)),some (.int (o:Int)),some (.ref p),some (.int (j:Int)),x10,x11]) ⟨e6,g6,_,_,rfl⟩ ?_ ?_
    ·rintro k σ' H7 hk ⟨e7,g7,x10,x11,rfl⟩;have hJ:m * j+k<m * s:=by
      have:m * (j+1)<=m * s:=Np m hj;rw [OY] at this;omega
     have hS7:=Rep.mono (e4.trans e7) hS;have hl7:At K H7 vl ((L4 m).map (Nat.repeat f i)):=Rep.mono e7 (Rep.mono pM hl4);walk_at "rx";refine bF hl7 (j8 _ hk) ?_;walk_at "rx";refine ⟨v,o,Nat.repeat f i k,a,b,c,s,rfl,sz,hS7,?_⟩;walk_at "rx";refine iw (fun σ' H'=>H'=H7/\σ'=[some v,some tv,some (.int (e:Int)),some (.int (m:Int)),some (.ref d),some vl,some (.int (i:Int)),some (.int (o:Int)),some (.ref p),some (.int (j:Int)),some (.int (k:Int)),some (.int ((if s<=i+j then lsum a b c (lsum a b c o (Nat.repeat f i k)) e else lsum a b c o (Nat.repeat f i k):Nat):Int))]) (fun N hN=>?_) ?_
     ·walk_at "rx";refine aU (fun c1=>?_) (fun c1=>?_)
      ·walk_at "rx";refine ⟨v,_,e,a,b,c,s,rfl,sz,hS7,?_⟩;walk_at "rx";refine hN _ _ ⟨rfl,?_⟩;rw [if_pos c1];rfl
      ·walk_at "rx";refine hN _ _ ⟨rfl,?_⟩;rw [if_neg c1];rfl
     ·rintro σ' H8 ⟨rfl,rfl⟩;walk_at "rx";refine ⟨g7.ty,?_⟩;walk_at "rx";have ev:(if s<=i+j then lsum a b c (lsum a b c o (Nat.repeat f i k)) e else lsum a b c o (Nat.repeat f i k))+m * ((i+j) % s)=F (m * i+o) (m * j+k):=by
       rw [<- hF,OG (m * i) o,OG (m * j) k,KC ho hk]
      rw [ev];refine ko (b:=F (m * i+o) (m * j+k)) g7 (by rw [Mz];omega) rfl fun H9 g9 k9 _=>?_
      refine ⟨aj.but fp e7 k9,?_,_,_,rfl⟩;rw [show m * j+(k+1)=(m * j+k)+1 by omega,cU (fun y=>F (m * i+o) y) (m * s) (m * j+k) hJ]
      exact g9
    ·rintro σ' H7 ⟨e7,g7,x10,x11,rfl⟩;refine ⟨e7,?_,_,_,_,rfl⟩;rw [OY];exact g7
   ·rintro σ' H6 ⟨e6,g6,x9,x10,x11,rfl⟩;have et:((L4 (m * s)).map fun y=>F (m * i+o) y).take (m * s)=(L4 (m * s)).map fun y=>F (m * i+o) y:=MD (by simp)
    rw [et] at g6;have g6d:=g4.mono e6;walk_at "rx";refine ⟨g6d.ty,?_⟩;walk_at "rx";refine ko g6d (by rw [Mz];omega) (qY g6 hpd) fun H7 g7 k7 _=>?_
    have hdH:H d=none:=fd;refine ⟨aj.but hdH (e4.trans e6) k7,?_,Rep.mono (Lc k7) (Rep.mono (qI e6) hl4),_,_,_,_,_,rfl⟩;rw [show m * i+(o+1)=(m * i+o)+1 by omega]
    unfold mkT;rw [cU (fun x=>(L4 (m * s)).map fun y=>F x y) (m * s) (m * i+o) hI];exact g7
  ·rintro σ' H4 ⟨e4,g4,hl4,x7,x8,x9,x10,x11,rfl⟩;walk_at "rx";have hl4':At K H4 vl ((L4 m).map (Nat.repeat f i)):=Rep.mono pM hl4;have hll:((L4 m).map (Nat.repeat f i)).length=m:=by simp
   refine o6 (β:=Nat) hl4' (by omega) (fun k=>((L4 m).map (Nat.repeat f (i+1))).take k) (fun σ'=>∃ y,σ'=[y,some tv]) rfl (fun k hk=>by rw [Mz];omega) ⟨_,rfl⟩ ?_ ?_
   ·rintro k z w' σ' H5 d' R R0 hz hs hw ⟨y,rfl⟩ hR hR0 hd';have hkm:k<m:=by
     have:=(LQ.mp hz).1;omega
    rw [j8 _ hkm] at hz;cases hz;cases (show w'=V.int ((Nat.repeat f i k:Nat):Int) from hw);have hT5:=Rep.mono (e4.trans hs) hT;walk_at "rx";refine bF hT5 (j8 _ (iH tn i hkm)) ?_;exact hR _ _ (Nat.repeat f (i+1) k) _ ⟨_,rfl⟩ (aj.refl _) rfl (cU _ m k hkm)
   ·intro d' H5 fd' e5 hg;have hg':Gr K H5 d' (((L4 m).map (Nat.repeat f (i+1))).take m):=by
     have:=hg;rw [hll] at this;exact this
    rw [MD (by simp)] at hg'
    walk_at "rx";refine ⟨e4.trans e5,?_,.ref d',qY hg' (EU g4.is fd'),_,_,_,_,_,_,rfl⟩;rw [OY];exact g4.mono e5
 ·rintro σ' H3 ⟨e3,g3,vl,hl3,x6,x7,x8,x9,x10,x11,rfl⟩;rw [MD (by simp [mkT])] at g3
  walk_at "rx";exact q d H3 e3 g3.at
def zZ (K:LM):Sp:=fun vs H Q _=>∃ (v:V) (ns:List Int) (st:Nat),vs=[v,.int (st:Int)]/\At K H v ns/\∀ d H' n t e ps,aj H H'->GT n t e->Tbl H' d t ps->H d=none->(∀ p∈ps,H p=none)->Q (.ref d) H'
theorem Bi (T:Txt K mg):aI P w K mg base CX0 3 T.jV.f T.jV.fd ["_law_script","_law_start"] (zZ K):=by
 refine T.jV.ok bw (fun vs H Q E h=>?_) (fun cdv A outer s H vs Q E hr h=>?_)
 ·obtain ⟨v,ns,st,rfl,_⟩:=h;rfl
 obtain ⟨v,ns,st,rfl,hA,q⟩:=h;refine ⟨_,(ae (au (i:=2) bw.nd rfl (Mg rfl) (aO T.ik (pJ T) (hr.mono (by decide)) rfl (paF (pv 0) (paF (pv 1) aa))))
   (ae (au (i:=3) bw.nd rfl (Mg rfl) (aO T.ik (pJ T) (hr.mono (by decide)) rfl (paF (pv 0) (paF (ak a0 (pv 1) af) aa))))
   (ae (au (i:=4) bw.nd rfl (Pz rfl) (aO T.jZ (AS T) (hr.mono (by decide)) rfl (paF (pv 2) (paF (pv 3) aa))))
   (ae (au (i:=5) bw.nd rfl (Mg rfl) (ak aT (ak bL (ak bL (ak a0 (pv 3) af) (ak a0 (pv 3) af)) af) af))
   (ae (au (i:=6) bw.nd rfl (Pz rfl) (aO T.lA (BL T) (hr.mono (by decide)) rfl (paF (pv 4) (paF (pv 5) aa))))
   (ae (au (i:=7) bw.nd rfl (Pz rfl) (bg aa))
   (ae (bE Mq rfl (bb rfl T.bp (paF af aa)) (az (i:=8) bw.nd rfl (Mg rfl)) (ah (bC (fA K rfl MG M5 M7 dE (pv 7) (paF (aO T.lC (BI T) (hr.mono (by decide)) rfl (paF (ar (ai K rfl) (pv 4) (pv 8) (fun _ _=>rfl)) (paF (ar (ai K rfl) (pv 4) af (fun _ _=>rfl)) (paF (ak bA (pv 5) (ar (ai K rfl) (bg (kq [12,276,6348] (by trivial)).out) (pv 8) (fun _ _=>rfl))) aa)))) aa)))))
   (ae (au (i:=9) bw.nd rfl (Mg rfl) (ak bL (ak bL (ar (ai K rfl) (pv 4) af (fun _ _=>rfl)) (ar (ai K rfl) (pv 4) af (fun _ _=>rfl))) (ar (ai K rfl) (pv 4) af (fun _ _=>rfl))))
   (ae (eR (i:=10) rfl bw.nd rfl (Mg rfl) pT (bb rfl T.bp (paF (pv 9) aa)) (fun _ _ _ _=>⟨(az (i:=0) pT.nd rfl (Mg rfl)),bj,(aO T.jq (yU T) (hr.mono (by decide)) rfl (paF (pv 0) (paF (pv 2) (paF (pv 1) (paF (pv 3) aa)))))⟩) rfl)
   (ae (au (i:=11) bw.nd rfl (Mg rfl) (ak aT (ak aT (ak bL (ak bL (ak a0 (pv 2) af) (ak a0 (pv 2) af)) af) af) (pv 9)))
   (ae (aW (aH fQ (ar (ai K rfl) (pv 10) (pv 11) (fun _ _=>rfl)) (pv 11) (aE _)) (ah (au (i:=11) bw.nd rfl (Mg rfl) af)) aQ)
   (ae (au (i:=12) bw.nd rfl (Mg rfl) (aO T.kZ (Bu T) (hr.mono (by decide)) rfl (paF (pv 4) (paF (pv 10) (paF (pv 11) aa)))))
   (ae (au (i:=13) bw.nd rfl (Mg rfl) (aO T.jY (AR T) (hr.mono (by decide)) rfl (paF (av (aV K rfl) rfl T.bz Mt (paF (pv 12) aa)) (paF (aO T.ik (pJ T) (hr.mono (by decide)) rfl (paF (pv 0) (paF (ak a0 (pv 1) af) aa))) aa))))
   (ae (eR (i:=15) rfl bw.nd rfl (Mg rfl) qk (aZ K rfl (pv 12)) (fun _ _ _ _=>⟨(az (i:=0) qk.nd rfl (Mg rfl)),bj,(cp (fR K rfl) rfl T.fj Ng (paF (pv 0) aa))⟩) rfl)
   (ae (bE Mq rfl (oy K rfl rfl T.cZ (paF (pv 12) aa)) (mP rfl (cA (az (i:=16) bw.nd rfl (Mg rfl)) (cA (az (i:=14) bw.nd rfl (Mg rfl)) kC))) (ah (bE Mq rfl (oy K rfl rfl T.cZ (paF (pv 14) aa)) (mP rfl (cA (az (i:=17) bw.nd rfl (Mg rfl)) (cA (az (i:=18) bw.nd rfl (Mg rfl)) kC))) (ah (sE (ar (ai K rfl) (pv 13) (pv 18) (fun _ _=>rfl)) (Bh (ar (ai K rfl) (pv 15) (ar (ai K rfl) (pv 13) (pv 16) (fun _ _=>rfl)) (fun _ _=>rfl)) (ar (ai K rfl) (pv 13) (pv 17) (fun _ _=>rfl)) set_list))))))
   (ah (aK (pv 15)))))))))))))))))),?_⟩
 walk_at "rx";refine ⟨v,ns,st,rfl,hA,?_⟩;have one2:=uK ns st;generalize qT ns st=one at one2 ⊢;walk_at "rx";refine ⟨v,ns,st+1,rfl,hA,?_⟩;have two2:=uK ns (st+1);generalize qT ns (st+1)=two at two2 ⊢;walk_at "rx";refine ⟨one,two,rfl,fun vS H1 a b c s s1 sz hS=>?_⟩;walk_at "rx";generalize (two+11) * (two+29) * 48271 % 2147483629=stir;refine ⟨vS,stir,a,b,c,s,rfl,sz,hS,fun kind H2 s2 k5 hk=>?_⟩;have hS2:=Rep.mono s2 hS;walk_at "rx";refine cV (K:=K) (l:=([]:List Nat)) jS (by decide) fun du H3 fu s3 gu=>?_
 walk_at "rx";refine cb (n:=3) rfl (by decide) (fun i σ H'=>aj H2 H'/\∃ us:List Nat,Gr K H' du us/\us.length=i/\(∀ j,j<i->us.getD j 0∈unitsOf ([a,b,c,s].getD j 0) s)/\∃ x8,σ=[some v,some (.int (st:Int)),some (.int (one:Int)),some (.int (two:Int)),some vS,some (.int (stir:Int)),some (.int (kind:Int)),some (.ref du),x8,none,none,none,none,none,none,none,none,none,none]) ⟨s3,[],gu,rfl,fun j hj=>absurd hj (by omega),_,rfl⟩ ?_ ?_
 ·rintro i σ' H4 hi ⟨s4,us,g4,l4,hu,x8,rfl⟩;walk_at "rx";refine ⟨g4.ty,?_⟩;have hS4:=Rep.mono s4 hS2;walk_at "rx";refine bF hS4 (getD_some 0 (show i<4 by omega)) ?_
  walk_at "rx";refine cV (K:=K) (l:=([12,276,6348]:List Nat)) (jI _) (by decide) fun d5 H5 f5 s5 g5=>?_
  walk_at "rx";refine bF g5.at (getD_some 0 (show i<3 from hi)) ?_;obtain ⟨p1,p2⟩:=Ge i hi;refine zE p1 p2 ?_;walk_at "rx";have hmi:1<=[a,b,c,s].getD i 0/\[a,b,c,s].getD i 0<=23:=by
   match i,hi with
   | 0,_=>exact ⟨sz.a1,sz.a23⟩
   | 1,_=>exact ⟨sz.b1,sz.b23⟩
   | 2,_=>exact ⟨sz.c1,sz.c23⟩
  refine ⟨_,s,_,rfl,hmi.1,hmi.2,sz.s1,sz.s4,fun u H6 s6 hu6=>?_⟩;walk_at "rx";refine ko (b:=u) (g4.mono (s5.trans s6)) (by omega) rfl fun H7 g7 k7 _=>?_
  refine ⟨aj.but fu (s4.trans (s5.trans s6)) k7,_,g7,by rw [Mo,l4];rfl,fun j hj=>?_,_,rfl⟩
  rcases MH j i with z|z
  ·have e1:(us++[u]).getD j 0=us.getD j 0:=by
    rw [LS,MP (by omega),<- LS]
   rw [e1];exact hu j z
  ·have e:j=i:=by omega
   subst e;have e1:(us++[u]).getD j 0=u:=by
    rw [LS,MM (by omega),l4,S7]
    rfl
   rw [e1];exact hu6
 rintro σ' H4 ⟨s4,us,g4,l4,hu,x8,rfl⟩
 match us,l4 with
 | [u0,u1,u2],_ =>
 have v0:u0∈unitsOf a s:=hu 0 (by decide)
 have v1:u1∈unitsOf b s:=hu 1 (by decide)
 have v2:u2∈unitsOf c s:=hu 2 (by decide)
 have pr:Par a b c s kind u0 u1 u2:=⟨sz.a1,sz.b1,sz.c1,sz.s1,sz.s4,sz.le,k5,hk,v0,v1,v2⟩;have hS4:=Rep.mono s4 hS2;have hU4:=g4.at;have a23:=sz.a23;have ab23:=sz.ab;have m23:=sz.abc;have m0:0<a * b * c:=Oc (Oc sz.a1 sz.b1) sz.c1;walk_at "rx";refine kH K (n:=a * b * c) (β:=Nat) rfl (by omega) (fun i=>((L4 (a * b * c)).map (fD a b c kind u0 u1 u2)).take i) (fun σ'=>∃ y,σ'=[y,some (.int (kind:Int)),some vS,some (.ref du)]) rfl (fun i hi=>by rw [Mz];omega) ⟨_,rfl⟩ ?_ ?_
 ·rintro i σ' H5 d' R R0 hi hs ⟨y,rfl⟩ hR hR0 hd';walk_at "rx";refine ⟨vS,_,i,kind,a,b,c,s,u0,u1,u2,rfl,pr,Rep.mono hs hS4,Rep.mono hs hU4,hi,?_⟩;exact hR _ _ _ _ ⟨_,rfl⟩ (aj.refl _) rfl (cU _ _ i hi)
 intro dt H5 s5 ht5;have ht5':At K H5 (.ref dt) ((L4 (a * b * c)).map (fD a b c kind u0 u1 u2)):=by
  have z:At K H5 (.ref dt) (((L4 (a * b * c)).map (fD a b c kind u0 u1 u2)).take (a * b * c)):=ht5;rw [MD (by simp)] at z
  exact z
 walk_at "rx";have en:(one+5) * (one+17) * 69621 % 2147483587 % (a * b * c)<a * b * c:=MF _ m0;generalize (one+5) * (one+17) * 69621 % 2147483587 % (a * b * c)=en0 at en ⊢;refine iw (fun σ' H'=>H'=H5/\∃ e:Nat,e<a * b * c/\fD a b c kind u0 u1 u2 e=e/\σ'=[some v,some (.int (st:Int)),some (.int (one:Int)),some (.int (two:Int)),some vS,some (.int (stir:Int)),some (.int (kind:Int)),some (.ref du),x8,some (.int ((a * b * c:Nat):Int)),some (.ref dt),some (.int (e:Int)),none,none,none,none,none,none,none]) (fun N hN=>?_) ?_
 ·walk_at "rx";refine bF ht5' (j8 _ en) ?_;walk_at "rx";refine cy (fun c1=>?_) (fun c1=>?_)
  ·walk_at "rx";exact hN _ _ ⟨rfl,0,m0,Dj ..,rfl⟩
  ·walk_at "rx";exact hN _ _ ⟨rfl,en0,en,c1,rfl⟩
 rintro σ' H5 ⟨rfl,e,he,fe,rfl⟩;have tn:=pr.tn he fe;have hS5:=Rep.mono s5 hS4;walk_at "rx";refine ⟨vS,_,a,b,c,s,e,_,rfl,sz,tn,hS5,ht5',fun dr H6 s6 hR6=>?_⟩;have gt:=KA tn sz.le;have s06:aj H H6:=s1.trans (s2.trans (s4.trans (s5.trans s6)));generalize mkT (a * b * c * s) (cyc (a * b * c) (lsum a b c) (fD a b c kind u0 u1 u2) s e)=R at gt hR6;generalize a * b * c * s=n at gt;have hA6:=Rep.mono s06 hA;walk_at "rx";rw [gt.len];refine ⟨v,ns,st+2,rfl,hA6,?_⟩;walk_at "rx";refine ⟨n,_,rfl,gt.le,uK ns (st+2),fun dn H7 π s7 hp hN7=>?_⟩;have hR7:=Rep.mono s7 hR6;have hl:π.length=n:=by rw [hp.length_eq,MU]
 walk_at "rx";refine qN hR7 (by rw [gt.len];have:=gt.le;omega) fun d H8 ps s8 fd fps tb8=>?_
 walk_at "rx";refine t9 (H₀:=H7) hR7 (fun i σ H'=>aj H7 H'/\∃ rows,Ren n π R rows i 0/\Tbl H' d rows ps/\∃ x14 x16 x17 x18,σ=[some v,some (.int (st:Int)),some (.int (one:Int)),some (.int (two:Int)),some vS,some (.int (stir:Int)),some (.int (kind:Int)),some (.ref du),x8,some (.int ((a * b * c:Nat):Int)),some (.ref dt),some (.int (e:Int)),some (.ref dr),some (.ref dn),x14,some (.ref d),x16,x17,x18]) ?_ (fun i σ' H' z=>z.1) ?_ ?_
 ·exact ⟨s8,R,⟨gt.len,gt.row,fun x y hx hy z=>absurd z (by omega)⟩,tb8,_,_,_,_,rfl⟩
 ·rintro i row wr σ' H9 H10 p hrow hwr ⟨s9,rows,rn,tb9,x14,x16,x17,x18,rfl⟩ hp9 e10 s10;have hi:i<n:=by
   have:=(LQ.mp hrow).1;rw [gt.len] at this;exact this
  have hrl:row.length=n:=gt.row i row hrow;walk_at "rx";refine t9 (H₀:=H7) hwr (fun j σ H'=>aj H7 H'/\∃ rows,Ren n π R rows i j/\Tbl H' d rows ps/\∃ x17 x18,σ=[some v,some (.int (st:Int)),some (.int (one:Int)),some (.int (two:Int)),some vS,some (.int (stir:Int)),some (.int (kind:Int)),some (.ref du),x8,some (.int ((a * b * c:Nat):Int)),some (.ref dt),some (.int (e:Int)),some (.ref dr),some (.ref dn),some wr,some (.ref d),some (.int (i:Int)),x17,x18]) ⟨s9.trans s10,rows,rn,tb9.mono s10,_,_,rfl⟩ (fun j σ' H' z=>z.1) ?_ ?_
  ·rintro j th wt σ'' H11 H12 p2 hth hwt ⟨s11,rows2,rn2,tb11,x17,x18,rfl⟩ hp11 e12 s12;have hj:j<n:=by
    have:=(LQ.mp hth).1;omega
   cases (show wt=V.int (th:Int) from hwt);have hth':th=tb R i j:=by
    have e1:=gt.get hi;rw [hrow] at e1;cases e1;have e2:=gt.ef hi hj;rw [hth] at e2;exact ML e2
   have htl:th<n:=by rw [hth'];exact gt.lt i j hi hj
   have hN12:=Rep.mono (s11.trans s12) hN7;have tb12:=tb11.mono s12;walk_at "rx";refine bF hN12 (getD_some 0 (by omega)) ?_
   walk_at "rx";refine bF hN12 (getD_some 0 (by omega)) ?_
   have iA:=o9 hp hi;have iB:=o9 hp hj;have hrw:rows2[π.getD i 0]?=some (rows2.getD (π.getD i 0) []):=getD_some [] (by rw [rn2.len];exact iA)
   obtain ⟨pp,hpp,hHp⟩:=tb12.get hrw;refine Le tb12 hpp ?_;walk_at "rx";refine bF hN12 (getD_some 0 (by omega)) ?_
   refine Ao hHp rfl (by unfold aY;rw [LO,rn2.row _ _ hrw];exact iB) ?_
   refine ⟨fun b' o z=>?_,_,?_,tb12.set hrw hpp,_,_,rfl⟩
   ·rw [aq (aA z (fps pp (LR hpp)))];exact (s11.trans s12) b' o z
   ·rw [hth'];exact rn2.put hp hi hj
  ·rintro σ'' H11 ⟨s11,rows2,rn2,tb11,x17,x18,rfl⟩;rw [hrl] at rn2;exact ⟨s11,rows2,rn2.next,tb11,_,_,_,_,rfl⟩
 ·rintro σ' H9 ⟨s9,rows,rn,tb9,x14,x16,x17,x18,rfl⟩;rw [gt.len] at rn;walk_at "rx";have s07:=s06.trans s7;exact q d H9 n rows _ ps (s07.trans s9) (rn.gt hp gt) tb9 (s07.free fd) fun p hp'=>s07.free (fps p hp')
def zP (K:LM):Sp:=fun vs H Q _=>∃ i:Int,vs=[.int i]/\Q (.bl true) H
theorem rZ (T:Txt K mg):aI P w K mg base CX0 1 T.iV.f T.iV.fd ["_law_found"] (zP K):=by
 refine T.iV.ok zN (fun vs H Q E h=>?_) (fun cdv A outer s H vs Q E hr h=>?_)
 ·obtain ⟨i,rfl,_⟩:=h;rfl
 obtain ⟨i,rfl,q⟩:=h;refine ⟨_,(ah (aK (fP (av (sy K rfl) rfl T.bc Mr (paF (pv 0) (paF (wM (v:=.ty "int") rfl T.qJ Sk rfl) aa))) (jh (Kh (av (sy K rfl) rfl T.bc Mr (paF (pv 0) (paF (wM (v:=.ty "bool") rfl T.pN PyProof.Rows.boot_bool rfl) aa)))))))),?_⟩;walk_at "rx";refine Ey (b:=true) (.int i) rfl ?_;walk_at "rx";refine Ey (b:=false) (.int i) rfl ?_;walk_at "rx";exact q
def C8 (K:LM):Sp:=fun vs H Q _=>∃ (v:V) (n e:Nat) (t:List (List Nat)),vs=[v]/\At K H v t/\GT n t e/\∀ H',aj H H'->Q (.int (e:Int)) H'
theorem nu (T:Txt K mg):aI P w K mg base CX0 1 T.gX.f T.gX.fd ["_law_table"] (C8 K):=by
 refine T.gX.ok C4 (fun vs H Q E h=>?_) (fun cdv A outer s H vs Q E hr h=>?_)
 ·obtain ⟨v,n,e,t,rfl,_⟩:=h;rfl
 obtain ⟨v,n,e,t,rfl,hT,gt,q⟩:=h;refine ⟨_,(ah (aK (ar (ai K rfl) (bJ rfl sj (bb rfl T.bp (paF (av (aV K rfl) rfl T.bz Mt (paF (pv 0) aa)) aa)) (fun _ _ _ _=>⟨(az (i:=0) sj.nd rfl (Mg rfl)),(Cv (aH bM (ar (ai K rfl) (ar (ai K rfl) (pv 1) (pv 0) (fun _ _=>rfl)) (pv 0) (fun _ _=>rfl)) (pv 0) (aE _))),(pv 0)⟩)) af (fun _ _=>rfl)))),?_⟩;have n23:=gt.le;walk_at "rx";rw [gt.len];refine kH K (n:=n) (β:=Nat) rfl (by omega) (fun i=>(L4 i).filter fun a=>decide (tb t a a=a)) (fun σ'=>∃ y,σ'=[y,some v]) rfl (fun i _=>uX _ i) ⟨_,rfl⟩ ?_ ?_
 ·rintro i σ' H5 d' R R0 hi hs ⟨y,rfl⟩ hR hR0 hd';have ft:=uj (fun a=>decide (tb t a a=a)) i;have hT5:=Rep.mono hs hT;walk_at "rx";refine dI hT5 rfl (gt.get hi) fun w1 hw1=>?_;walk_at "rx";refine bF hw1 (gt.ef hi hi) ?_;walk_at "rx";refine aU (fun z=>?_) (fun z=>?_)
  ·walk_at "rx";rw [if_pos (by simpa using z)] at ft
   exact hR _ _ i _ ⟨_,rfl⟩ (aj.refl _) rfl ft
  ·rw [if_neg (by simpa using z)] at ft
   exact hR0 _ _ ⟨_,rfl⟩ (aj.refl _) ft
 ·intro d H' hs ha;walk_at "rn";exact bF ha (D2 gt) (q H' hs)
def zI (K:LM):Sp:=fun vs H Q _=>∃ (c:Int) (k n:Nat),vs=[.int c,.int (k:Int),.int (n:Int)]/\k<=100/\1<=n/\(thg c k n<n->Q (.int (thg c k n:Int)) H)
theorem lB (T:Txt K mg):aI P w K mg base CX0 1 T.eT.f T.eT.fd ["_law_cell_here","_law_k","_law_many"] (zI K):=by
 refine T.eT.ok sS (fun vs H Q E h=>?_) (fun cdv A outer s H vs Q E hr h=>?_)
 ·obtain ⟨c,k,n,rfl,_⟩:=h;rfl
 obtain ⟨c,k,n,rfl,hk,hn,q⟩:=h;have q:=q (EL c k hn);unfold thg at q;refine ⟨_,(ae (au (i:=3) sS.nd rfl (Mg rfl) (ak aT (ak a0 (ak a0 (ak bL (ak aT (pv 0) af) af) (ak bL (ak bL af (pv 1)) (pv 1))) (ak bL af (pv 1))) af))
   (ah (aK (ak aT (ak aT (ak bL (pv 3) (pv 3)) af) (pv 2))))),?_⟩
 walk_at "rx";refine pG (by decide) ?_
 have c1:=Oh c (show ((2147483647:Nat):Int)≠0 by decide)
 generalize hx:(c % ((2147483647:Nat):Int)).toNat=x;have ex:c % ((2147483647:Nat):Int)=(x:Int):=by omega
 rw [ex];have hx':(c % 2147483647).toNat=x:=hx;rw [hx'] at q;walk_at "rx";have hy:(x * 48271+69621 * k * k+7 * k) % 2147483629<2147483629:=MF _ (by decide)
 generalize (x * 48271+69621 * k * k+7 * k) % 2147483629=y at hy q ⊢;walk_at "rx";exact q
end
local macro_rules | `(tactic| walk_at "rg1")=>`(tactic| first|walk_at "rx1" | refine dA (by assumption) (by assumption) ?_|refine cL (by assumption) (by assumption) ?_|refine dC (by assumption) (by assumption) ?_|refine r_gbacks (by assumption) (by assumption) ?_)
local macro_rules | `(tactic| walk_at "rg")=>`(tactic| repeat walk_at "rg1")
section
variable {P:Ms} {w:World} {K:LM} {mg:Str->Option Value} {base:Heap}
def Hy (C:Addr) (K:LM):Sp:=fun vs H Q _=>∃ (g:Addr) (n e a:Nat) (t:List (List Nat)),vs=[.ref g,.int (a:Int)]/\bK C H g n t e/\GT n t e/\a<n/\Q (.int (bh n t e a:Int)) H
theorem HB (T:Txt K mg):aI P w K mg base CX0 1 T.qh.f T.qh.fd ["group","thing"] (Hy T.aS K):=by
 refine T.qh.ok oh (fun vs H Q E h=>?_) (fun cdv A outer s H vs Q E hr h=>?_)
 ·obtain ⟨g,n,e,a,t,rfl,_⟩:=h;rfl
 obtain ⟨g,n,e,a,t,rfl,hG,gt,ha,q⟩:=h;obtain ⟨dx,r,b,hg,hT,hb⟩:=hG.get (K:=K);refine ⟨_,(ae (au (i:=2) oh.nd rfl (Mg rfl) af)
   (ae (au (i:=3) oh.nd rfl (Mg rfl) (pv 1))
   (ae (oB Mq (aH fQ (pv 3) (cu K rfl (pv 0) rfl) (aE _)) (ae (au (i:=3) oh.nd rfl (Mg rfl) (ar (ai K rfl) (ar (ai K rfl) (cu K rfl (pv 0) rfl) (pv 3) (fun _ _=>rfl)) (pv 1) (fun _ _=>rfl)))
   (ah (au (i:=2) oh.nd rfl (Mg rfl) (ak a0 (pv 2) af)))))
   (ah (aK (pv 2)))))),?_⟩
 obtain ⟨o1,o2,o3⟩:=gi gt ha;have o4:1<=bh n t e a:=jJ;walk_at "rg";refine oo (fun m σ' H'=>H'=H/\∃ k,1<=k/\k<=bh n t e a/\m=bh n t e a - k/\σ'=[some (.ref g),some (.int (a:Int)),some (.int (k:Int)),some (.int (bH t e a k:Int))]) (bh n t e a - 1) ⟨rfl,1,Mi _,o4,rfl,by rw [ot gt ha];rfl⟩ ?_
 rintro m σ' H' ⟨rfl,k,k1,k2,rfl,rfl⟩;have kl:=cw gt ha k;walk_at "rg";refine cy (fun c=>?_) (fun c=>?_)
 ·have k3:k<bh n t e a:=by
   rcases MH k (bh n t e a) with z|z
   ·exact z
   ·have:k=bh n t e a:=by omega
    rw [this] at c;exact absurd o2 c
  refine ⟨fun σ2 H2=>H2=H'/\σ2=[some (.ref g),some (.int (a:Int)),some (.int ((k+1:Nat):Int)),some (.int (bH t e a (k+1):Int))],fun σ2 H2 z=>⟨bh n t e a - (k+1),by omega,z.1,k+1,by omega,k3,rfl,z.2⟩,?_⟩
  walk_at "rg";refine dI hT rfl (gt.get kl) fun w1 hw1=>?_;walk_at "rg";refine bF hw1 (gt.ef kl ha) ?_;walk_at "rg";exact ⟨rfl,rfl⟩
 ·have k3:k=bh n t e a:=by
   rcases MH k (bh n t e a) with z|z
   ·exact absurd c (o3 k k1 z)
   ·omega
  walk_at "rg";rw [k3];exact q
def cH (n:Nat) (t:List (List Nat)) (e:Nat):List Nat:=(L4 n).map (bh n t e)
theorem zw {n:Nat} {t:List (List Nat)} {e:Nat}:∀ s∈cH n t e,1<=s:=fun s hs=>by
 obtain ⟨a,_,rfl⟩:=Mm.mp hs;exact jJ
def Ha (C:Addr) (K:LM):Sp:=fun vs H Q _=>∃ (g:Addr) (n e:Nat) (t:List (List Nat)),vs=[.ref g]/\bK C H g n t e/\GT n t e/\∀ k H',aj H H'->dq (cH n t e) k->Q (.int (k:Int)) H'
theorem AB (T:Txt K mg):aI P w K mg base CX0 2 T.nR.f T.nR.fd ["group"] (Ha T.aS K):=by
 refine T.nR.ok qQ (fun vs H Q E h=>?_) (fun cdv A outer s H vs Q E hr h=>?_)
 ·obtain ⟨g,n,e,t,rfl,_⟩:=h;rfl
 obtain ⟨g,n,e,t,rfl,hG,gt,q⟩:=h;obtain ⟨dx,r,b,hg,hT,hb⟩:=hG.get (K:=K);refine ⟨_,(ae (eR (i:=1) rfl qQ.nd rfl (Mg rfl) wy (bb rfl T.bp (paF (cu K rfl (pv 0) rfl) aa)) (fun _ _ _ _=>⟨(az (i:=0) wy.nd rfl (Mg rfl)),bj,(aO T.qh (HB T) (hr.mono (by decide)) rfl (paF (pv 1) (paF (pv 0) aa)))⟩) rfl)
   (ae (au (i:=2) qQ.nd rfl (Pz rfl) af)
   (ae (oB Mq (dW (av (rY K rfl rfl) rfl T.oV Qh (paF (bJ rfl vX (aZ K rfl (pv 1)) (fun _ _ _ _=>⟨(az (i:=0) vX.nd rfl (Mg rfl)),bj,(bS fQ (ak aT (pv 1) (pv 0)) af (aE _))⟩)) aa))) (ah (au (i:=2) qQ.nd rfl (Pz rfl) (ak a0 (pv 2) af))))
   (ah (aK (pv 2)))))),?_⟩
 have n23:=gt.le;walk_at "rg";refine kH K (n:=n) (β:=Nat) rfl (by omega) (fun i=>(cH n t e).take i) (fun σ'=>∃ y,σ'=[y,some (.ref g)]) rfl (fun i hi=>by rw [Mz];omega) ⟨_,rfl⟩ ?_ ?_
 ·rintro i σ' H5 d' R R0 hi hs ⟨y,rfl⟩ hR hR0 hd';walk_at "rg";refine ⟨g,n,e,i,t,rfl,bK.mono hs hG,gt,hi,?_⟩;exact hR _ _ _ _ ⟨_,rfl⟩ (aj.refl _) rfl (cU _ _ i hi)
 intro d1 H1 s1 h1;have hlen:(cH n t e).length=n:=by simp [cH]
 have h1':At K H1 (.ref d1) (cH n t e):=by
  have z:At K H1 (.ref d1) ((cH n t e).take n):=h1;rw [MD (by omega)] at z
  exact z
 walk_at "rg";have b1:=CA (zw (n:=n) (t:=t) (e:=e));refine oo (fun m σ' H'=>aj H1 H'/\∃ k,1<=k/\k<=bnd (cH n t e)/\m=bnd (cH n t e) - k/\(∀ j,1<=j->j<k->∃ s,s∈cH n t e/\j % s≠0)/\σ'=[some (.ref g),some (.ref d1),some (.int (k:Int))]) (bnd (cH n t e) - 1) ⟨aj.refl _,1,Mi _,b1,rfl,fun j j1 j2=>absurd j1 (by omega),rfl⟩ ?_
 rintro m σ' H2 ⟨s2,k,k1,k2,rfl,hk,rfl⟩;have h2:=Rep.mono s2 h1';walk_at "rg";refine hV (β:=Bool) h2 (by omega) (fun i=>((cH n t e).map fun s=>!decide (k % s=0)).take i) (fun σ'=>∃ y,σ'=[y,some (.int (k:Int))]) rfl (fun i hi=>by rw [Mz];omega) ⟨_,rfl⟩ ?_ ?_
 ·rintro i c w' σ' H3 d' R R0 hc hs hw ⟨y,rfl⟩ hR hR0 hd';cases (show w'=V.int (c:Int) from hw);have c1:0<c:=zw c (LR hc);walk_at "rg";refine hR _ _ (!decide (k % c=0)) _ ⟨_,rfl⟩ (aj.refl _) rfl ?_;rw [MK,Mf,hc];rfl
 intro d2 H3 s3 h3;have h3':At K H3 (.ref d2) ((cH n t e).map fun s=>!decide (k % s=0)):=by
  have z:At K H3 (.ref d2) (((cH n t e).map fun s=>!decide (k % s=0)).take (cH n t e).length):=h3;rw [MD (by simp)] at z
  exact z
 walk_at "rg";refine DO h3' ?_;walk_at "rg";cases hb':((cH n t e).map fun s=>!decide (k % s=0)).any id with
 | true =>
  refine lT ?_;have ex:∃ s,s∈cH n t e/\k % s≠0:=by
   obtain ⟨x,hx,ex⟩:=Qk.mp hb';obtain ⟨s,hs,rfl⟩:=Mm.mp hx;exact ⟨s,hs,by simpa using ex⟩
  have k3:k<bnd (cH n t e):=by
   rcases MH k (bnd (cH n t e)) with z|z
   ·exact z
   ·have ek:k=bnd (cH n t e):=by omega
    obtain ⟨s,hs,z⟩:=ex;rw [ek] at z;exact absurd (B4 hs) z
  refine ⟨fun σ2 H4=>aj H1 H4/\σ2=[some (.ref g),some (.ref d1),some (.int ((k+1:Nat):Int))],fun σ2 H4 z=>⟨bnd (cH n t e) - (k+1),by omega,z.1,k+1,by omega,k3,rfl,fun j j1 j2=>?_,z.2⟩,?_⟩
  ·rcases MH j k with z' | z'
   ·exact hk j j1 z'
   ·have:j=k:=by omega
    rw [this];exact ex
  walk_at "rg";exact ⟨s2.trans s3,rfl⟩
 | false =>
  refine dF ?_;walk_at "rg";refine q k H3 (s1.trans (s2.trans s3)) ⟨k1,fun s hs=>?_,hk⟩;rw [P2] at hb';have:=hb' _ (Mm.mpr ⟨s,hs,rfl⟩)
  simpa using this
end
section
def Du (H:Hp) (x:V):Option (Nat×Nat)->Prop
 | none=>x=.non
 | some (a,b)=>∃ p,x=.ref p/\H p=some (.tup [.int (a:Int),.int (b:Int)])
theorem Du.mono {H H':Hp} {x:V} (s:aj H H'):∀ {o:Option (Nat×Nat)},Du H x o->Du H' x o
 | none,h=>h
 | some _,⟨p,e,hp⟩=>⟨p,e,s _ _ hp⟩
def Gg (C:Addr) (K:LM):Sp:=fun vs H Q _=>∃ (g:Addr) (v:V) (n e:Nat) (t:List (List Nat)) (R:List Nat),vs=[.ref g,v]/\bK C H g n t e/\GT n t e/\At K H v R/\IsPart n t R /\
 ∀ d H' L ps,H d=none->(∀ p∈ps,H p=none)->aj H H'->Tbl H' d L ps->zj n t e R L->Q (.ref d) H'
end
section
variable {P:Ms} {w:World} {K:LM} {mg:Str->Option Value} {base:Heap}
theorem IsPart.my {n e:Nat} {t:List (List Nat)} {R:List Nat} (h:IsPart n t R) (g:GT n t e):R.length<=23:=Na h.len g.le
def yN (C:Addr) (K:LM):Sp:=fun vs H Q _=>∃ (g:Addr) (v:V) (n e:Nat) (t:List (List Nat)) (R:List Nat),vs=[.ref g,v]/\bK C H g n t e/\GT n t e/\At K H v R/\(∀ x∈R,x<n)/\R.length<=64/\∀ H',aj H H'->Q (.bl true) H'
theorem yA (T:Txt K mg):aI P w K mg base CX0 1 T.dg.f T.dg.fd ["group","some"] (yN T.aS K):=by
 refine T.dg.ok rL (fun vs H Q E h=>?_) (fun cdv A outer s H vs Q E hr h=>?_)
 ·obtain ⟨g,v,n,e,t,R,rfl,_⟩:=h;rfl
 obtain ⟨g,v,n,e,t,R,rfl,hG,gt,hR,hlt,hlen,q⟩:=h;obtain ⟨dx,r,bk,hg,hT,hB⟩:=hG.get (K:=K);refine ⟨_,(ah (aK (av (jc K rfl rfl) rfl T.kf NU (paF (bJ rfl i6 (aZ K rfl (pv 1)) (fun _ _ _ _=>⟨(az (i:=0) i6.nd rfl (Mg rfl)),bj,(fP (bS oU (pv 0) af (aE _)) (jh (bS i7 (pv 0) (cu K rfl (pv 1) rfl) (aE _))))⟩)) aa)))),?_⟩;walk_at "rg";refine hV (β:=Bool) hR (by omega) (fun i=>Mv i true) (fun σ'=>∃ y,σ'=[y,some (.ref g)]) rfl (fun i hi=>by simp) ⟨_,rfl⟩ ?_ ?_
 ·rintro i c w' σ' H3 d' R' R0 hc hs hw ⟨y,rfl⟩ hR' hR0 hd';cases (show w'=V.int (c:Int) from hw);have hg3:=hs _ _ hg;have c1:=hlt c (LR hc);walk_at "rg";refine aU (fun _=>?_) (fun z=>absurd (Nd _) z);walk_at "rg";rw [decide_eq_true c1];exact hR' _ _ true _ ⟨_,rfl⟩ (aj.refl _) rfl Qm
 intro d2 H3 s3 h3;walk_at "rg";refine oE h3 ?_;rw [show (Mv R.length true).all id=true by simp]
 exact q H3 s3
def G4 (K:LM):Sp:=fun vs H Q _=>∃ (v:V) (R:List Nat),vs=[v]/\At K H v R/\R≠[]/\R.Pairwise (· < ·)/\R.length<=64/\∀ H',aj H H'->Q (.bl true) H'
theorem GH (T:Txt K mg):aI P w K mg base CX0 1 T.ju.f T.ju.fd ["some"] (G4 K):=by
 refine T.ju.ok zx (fun vs H Q E h=>?_) (fun cdv A outer s H vs Q E hr h=>?_)
 ·obtain ⟨v,R,rfl,_⟩:=h;rfl
 obtain ⟨v,R,rfl,hR,ne,srt,hlen,q⟩:=h;have l0:0<R.length:=MR.mpr ne;refine ⟨_,(ah (aK (av (jc K rfl rfl) rfl T.kf NU (paF (bJ rfl nJ (bb rfl T.bp (paF (ak iI (av (aV K rfl) rfl T.bz Mt (paF (pv 0) aa)) af) aa)) (fun _ _ _ _=>⟨(az (i:=0) nJ.nd rfl (Mg rfl)),bj,(bS i7 (ar (ai K rfl) (pv 1) (pv 0) (fun _ _=>rfl)) (ar (ai K rfl) (pv 1) (ak a0 (pv 0) af) (fun _ _=>rfl)) (aE _))⟩)) aa)))),?_⟩;walk_at "rg";refine kH K (n:=R.length - 1) (β:=Bool) (by omega) (by omega) (fun i=>Mv i true) (fun σ'=>∃ y,σ'=[y,some v]) rfl (fun i hi=>by simp) ⟨_,rfl⟩ ?_ ?_
 ·rintro i σ' H3 d' R' R0 hi hs ⟨y,rfl⟩ hR' hR0 hd';have hR3:=Rep.mono hs hR;walk_at "rg";refine bF hR3 (LP (by omega)) ?_
  walk_at "rg";refine bF hR3 (LP (by omega)) ?_
  walk_at "rg";rw [decide_eq_true ((Nv.mp srt) i (i+1) (by omega) (by omega) (by omega))]
  exact hR' _ _ true _ ⟨_,rfl⟩ (aj.refl _) rfl Qm
 intro d2 H3 s3 h3;walk_at "rg";refine oE h3 ?_;rw [show (Mv (R.length - 1) true).all id=true by simp]
 exact q H3 s3
def ur (C:Addr) (K:LM):Sp:=fun vs H Q _=>∃ (g:Addr) (v:V) (n e:Nat) (t:List (List Nat)) (R:List Nat),vs=[.ref g,v]/\bK C H g n t e/\GT n t e/\At K H v R/\IsPart n t R/\Q (.bl true) H
theorem uo (T:Txt K mg):aI P w K mg base CX0 1 T.bY.f T.bY.fd ["group","some"] (ur T.aS K):=by
 refine T.bY.ok dD (fun vs H Q E h=>?_) (fun cdv A outer s H vs Q E hr h=>?_)
 ·obtain ⟨g,v,n,e,t,R,rfl,_⟩:=h;rfl
 obtain ⟨g,v,n,e,t,R,rfl,hG,gt,hR,pt,q⟩:=h;obtain ⟨dx,r,bk,hg,hT,hB⟩:=hG.get (K:=K);refine ⟨_,(ae (bE Mq rfl (aZ K rfl (pv 1)) (az (i:=2) dD.nd rfl (Mg rfl)) (ah (bE Mq rfl (aZ K rfl (pv 1)) (az (i:=3) dD.nd rfl (Mg rfl)) (ah (aW (aH (xU K rfl) (ar (ai K rfl) (ar (ai K rfl) (cu K rfl (pv 0) rfl) (pv 2) (fun _ _=>rfl)) (pv 3) (fun _ _=>rfl)) (pv 1) (by with_unfolding_all rfl)) (ah (aK eP)) aQ)))))
   (ah (aK eP))),?_⟩
 walk_at "rg";refine gv hR (fun i σ H'=>H'=H/\∃ x y,σ=[some (.ref g),some v,x,y]) ⟨rfl,_,_,rfl⟩ (fun i σ H' h=>by rw [h.1];exact aj.refl _) ?_ ?_
 ·rintro i a w' σ' H' ha hw ⟨rfl,x,y,rfl⟩;cases (show w'=V.int (a:Int) from hw);have haR:=LR ha;walk_at "rg";refine gv hR (fun i σ H''=>H''=H'/\∃ y,σ=[some (.ref g),some v,some (.int (a:Int)),y]) ⟨rfl,_,rfl⟩ (fun i σ H' h=>by rw [h.1];exact aj.refl _) ?_ ?_
  ·rintro j b w2 σ' H'' hb hw2 ⟨rfl,y,rfl⟩;cases (show w2=V.int (b:Int) from hw2);have hbR:=LR hb;walk_at "7";refine dI hT rfl (gt.get (pt.lt a haR)) fun w1 hw1=>?_;walk_at "rg";refine bF hw1 (gt.ef (pt.lt a haR) (pt.lt b hbR)) ?_;walk_at "rg";refine cy (fun z=>absurd (pt.cl a haR b hbR) z) (fun _=>?_);walk_at "rg";exact ⟨rfl,_,rfl⟩
  ·rintro σ' H'' ⟨rfl,y,rfl⟩;exact ⟨rfl,_,_,rfl⟩
 ·rintro σ' H' ⟨rfl,x,y,rfl⟩;walk_at "rg";exact q
def CN (C:Addr) (K:LM):Sp:=fun vs H Q _=>∃ (g:Addr) (v:V) (n e:Nat) (t:List (List Nat)) (R:List Nat),vs=[.ref g,v]/\bK C H g n t e/\GT n t e/\At K H v R/\IsPart n t R/\∀ H',aj H H'->Q (.bl true) H'
theorem C6 (T:Txt K mg):aI P w K mg base CX0 2 T.fS.f T.fS.fd ["group","some"] (CN T.aS K):=by
 refine T.fS.ok vY (fun vs H Q E h=>?_) (fun cdv A outer s H vs Q E hr h=>?_)
 ·obtain ⟨g,v,n,e,t,R,rfl,_⟩:=h;rfl
 obtain ⟨g,v,n,e,t,R,rfl,hG,gt,hR,pt,q⟩:=h;have l0:0<R.length:=MR.mpr pt.ne;have l23:=pt.my gt;refine ⟨_,(ah (aK (fP (bS pj (av (aV K rfl) rfl T.bz Mt (paF (pv 1) aa)) af (aE _)) (fP (aO T.dg (yA T) (hr.mono (by decide)) rfl (paF (pv 0) (paF (pv 1) aa))) (fP (aO T.ju (GH T) (hr.mono (by decide)) rfl (paF (pv 1) aa)) (jh (aO T.bY (uo T) (hr.mono (by decide)) rfl (paF (pv 0) (paF (pv 1) aa))))))))),?_⟩
 walk_at "rg";refine aU (fun _=>?_) (fun z=>absurd l0 z);walk_at "rg";refine ⟨g,v,n,e,t,R,rfl,hG,gt,hR,pt.lt,by omega,fun H1 s1=>?_⟩
 walk_at "rg";refine ⟨v,R,rfl,Rep.mono s1 hR,pt.ne,pt.srt,by omega,fun H2 s2=>?_⟩
 walk_at "rg";have s02:=s1.trans s2;exact ⟨g,v,n,e,t,R,rfl,hG.mono s02,gt,Rep.mono s02 hR,pt,q H2 s02⟩
def rg (C:Addr) (K:LM):Sp:=fun vs H Q _=>∃ (g:Addr) (v:V) (n e:Nat) (t:List (List Nat)) (R:List Nat),vs=[.ref g,v]/\bK C H g n t e/\GT n t e/\At K H v R/\IsPart n t R/\∀ H',aj H H'->Q .non H'
theorem kg (T:Txt K mg):aI P w K mg base CX0 3 T.bP.f T.bP.fd ["group","some"] (rg T.aS K):=by
 refine T.bP.ok rm (fun vs H Q E h=>?_) (fun cdv A outer s H vs Q E hr h=>?_)
 ·obtain ⟨g,v,n,e,t,R,rfl,_⟩:=h;rfl
 obtain ⟨g,v,n,e,t,R,rfl,hG,gt,hR,pt,q⟩:=h;refine ⟨_,(ah (aW (gF (dW (aO T.fS (C6 T) (hr.mono (by decide)) rfl (paF (pv 0) (paF (pv 1) aa))))) (ah eF) aQ)),?_⟩
 walk_at "7";refine ⟨g,v,n,e,t,R,rfl,hG,gt,hR,pt,fun H1 s1=>?_⟩;walk_at "rg";refine dF ?_;walk_at "rg";exact q H1 s1
def C5 (C:Addr) (K:LM):Sp:=fun vs H Q _=>∃ (g:Addr) (v:V) (n e x:Nat) (t:List (List Nat)) (R:List Nat),vs=[.ref g,v,.int (x:Int)]/\bK C H g n t e/\GT n t e/\At K H v R/\IsPart n t R/\x<n /\
 ∀ d H' s,H d=none->aj H H'->Gr K H' d s->s.Pairwise (· < ·)->(∀ y,y∈s↔∃ k,k∈R/\tb t x k=y)->Q (.ref d) H'
theorem Dp (T:Txt K mg):aI P w K mg base CX0 1 T.mU.f T.mU.fd ["group","part","thing"] (C5 T.aS K):=by
 refine T.mU.ok CU (fun vs H Q E h=>?_) (fun cdv A outer s H vs Q E hr h=>?_)
 ·obtain ⟨g,v,n,e,x,t,R,rfl,_⟩:=h;rfl
 obtain ⟨g,v,n,e,x,t,R,rfl,hG,gt,hR,pt,hx,q⟩:=h;obtain ⟨dx,r,bk,hg,hT,hB⟩:=hG.get (K:=K);have l23:=pt.my gt;refine ⟨_,(ah (aK (av (rW K rfl) rfl T.ja PD (paF (bJ rfl sG (aZ K rfl (pv 1)) (fun _ _ _ _=>⟨(az (i:=0) sG.nd rfl (Mg rfl)),bj,(ar (ai K rfl) (ar (ai K rfl) (cu K rfl (pv 1) rfl) (pv 2) (fun _ _=>rfl)) (pv 0) (fun _ _=>rfl))⟩)) aa)))),?_⟩;walk_at "rg";refine hV (β:=Nat) hR (by omega) (fun i=>(R.map fun k=>tb t x k).take i) (fun σ'=>∃ y,σ'=[y,some (.ref g),some (.int (x:Int))]) rfl (fun i hi=>by rw [Mz];omega) ⟨_,rfl⟩ ?_ ?_
 ·rintro i c w' σ' H3 d' R' R0 hc hs hw ⟨y,rfl⟩ hR' hR0 hd';cases (show w'=V.int (c:Int) from hw);have hg3:=hs _ _ hg;have hT3:=Rep.mono hs hT;have c1:=pt.lt c (LR hc);walk_at "rg";refine dI hT3 rfl (gt.get hx) fun w1 hw1=>?_;walk_at "rg";refine bF hw1 (gt.ef hx c1) ?_;refine hR' _ _ (tb t x c) _ ⟨_,rfl⟩ (aj.refl _) rfl ?_;rw [MK,Mf,hc];rfl
 intro d2 H3 s3 h3;have h3':At K H3 (.ref d2) (R.map fun k=>tb t x k):=by
  have z:At K H3 (.ref d2) ((R.map fun k=>tb t x k).take R.length):=h3;rw [MD (by simp)] at z
  exact z
 walk_at "rn";refine z8 h3' (by rw [LO];omega) fun d l' H4 hd s4 hpm hsr g4=>?_
 have nd:(R.map fun k=>tb t x k).Nodup:=by
  have z:=cz pt.srt;unfold List.Nodup at z ⊢;rw [Pf];exact z.imp_of_mem fun ha hb hne c=>hne (gt.ki hx (pt.lt _ ha) (pt.lt _ hb) c)
 refine q d H4 l' (s3.free hd) (s3.trans s4) g4 (oS (hpm.nodup_iff.mpr nd) hsr) fun y=>?_;rw [hpm.mem_iff,Mm]
theorem GX (T:Txt K mg):aI P w K mg base CX0 4 T.qe.f T.qe.fd ["group","part"] (Gg T.aS K):=by
 refine T.qe.ok Ak (fun vs H Q E h=>?_) (fun cdv A outer s H vs Q E hr h=>?_)
 ·obtain ⟨g,v,n,e,t,R,rfl,_⟩:=h;rfl
 obtain ⟨g,v,n,e,t,R,rfl,hG,gt,hR,pt,q⟩:=h;have n23:=gt.le;refine ⟨_,(ae (bC (aO T.bP (kg T) (hr.mono (by decide)) rfl (paF (pv 0) (paF (pv 1) aa))))
   (ae (eR (i:=2) rfl Ak.nd rfl (Mg rfl) vf (bb rfl T.bp (paF (cu K rfl (pv 0) rfl) aa)) (fun _ _ _ _=>⟨(az (i:=0) vf.nd rfl (Mg rfl)),bj,(aO T.mU (Dp T) (hr.mono (by decide)) rfl (paF (pv 1) (paF (pv 2) (paF (pv 0) aa))))⟩) rfl)
   (ah (aK (bJ rfl v3 (oy K rfl rfl T.cZ (paF (pv 2) aa)) (fun _ _ _ _=>⟨(Et K rfl (i:=0) (j:=1) rfl v3.nd rfl (Mg rfl) rfl (Mg rfl)),(Cv (aH bM (ar (ai K rfl) (pv 1) af (fun _ _=>rfl)) (pv 0) (aE _))),(pv 1)⟩)))))),?_⟩
 walk_at "rg";refine ⟨g,v,n,e,t,R,rfl,hG,gt,hR,pt,fun H1 s1=>?_⟩;have hG1:=hG.mono s1;have hR1:=Rep.mono s1 hR;obtain ⟨dx,r,bk,hg,hT,hB⟩:=hG1.get (K:=K);walk_at "rg";refine CJ (n:=n) rfl (by omega) (fun d i σ' H' ys=>aj H1 H'/\∃ (L:List (List Nat)) (ps:List Addr) (y:Option V),Tbl H' d L ps/\ys=ps.map V.ref/\ps.length=i/\(∀ p∈ps,H1 p=none)/\(∀ (j:Nat) (s:List Nat),L[j]?=some s->s.Pairwise (· < ·)/\∀ y,y∈s↔∃ k,k∈R/\tb t j k=y)/\σ'=[y,some (.ref g),some v])
  (fun d i σ' H' ys hi ⟨_,L,ps,y,_,e1,e2,_⟩=>by rw [e1,LO,e2];exact Mi _) (fun d hd=>⟨ay hd _,[],[],_,Tbl.nil,rfl,rfl,by simp,by simp,rfl⟩) ?_ ?_
 ·rintro d i σ' H' ys R' R0 hd hi ⟨s2,L,ps,y,tb2,rfl,hl,fps,hL,rfl⟩ hys hR' hR0;walk_at "rg";refine ⟨g,v,n,e,i,t,R,rfl,hG1.mono s2,gt,Rep.mono s2 hR1,pt,hi,fun p H3 sd fp s3 g3 srt hm=>?_⟩;have hp:=fq g3;have hdl:H3 d=some (.lst (ps.map V.ref)):=s3 _ _ tb2.top;have hpd:p≠d:=fun c=>by rw [c,tb2.top] at fp;cases fp
  refine hR' _ _ _ hdl ⟨fun b o z=>?_,L++[sd],ps++[p],some (.int (i:Int)),tb2.snoc s3 hp (fun c=>?_) hpd,by rw [MQ];rfl,by rw [Mo,hl];rfl,fun q' hq'=>?_,fun j s' hj=>?_,rfl⟩
  ·rw [aq (aA z hd)];exact s3 _ _ (s2 _ _ z)
  ·obtain ⟨j,hj⟩:=Ni c;have:=tb2.row j p _ hj (LP (by rw [<- tb2.len];exact (LQ.mp hj).1))
   rw [fp] at this;cases this
  ·rcases MC.mp hq' with z|z
   ·exact fps q' z
   ·rw [Md.mp z];exact s2.free fp
  ·have e1:L.length=i:=by rw [<- tb2.len];exact hl
   rcases MH j L.length with z|z
   ·rw [MP z] at hj;exact hL j s' hj
   ·rw [MM z] at hj;have j0:j - L.length=0:=by
     rcases QK (j - L.length) with c|c
     ·exact c
     ·rw [ND (by simp;omega)] at hj;cases hj
    rw [j0] at hj;cases hj;have:j=i:=by omega
    rw [this];exact ⟨srt,hm⟩
 rintro d1 σ1 H2 ys fd1 hd1 ⟨s2,L,ps,y,tb2,rfl,hl,fps,hL,rfl⟩;have s02:=s1.trans s2;have lL:L.length=n:=by rw [<- tb2.len];exact hl
 walk_at "rg";refine FU (xs:=ps.map V.ref) (by rw [LO];omega) (fun d i σ' H' ys=>aj H2 H'/\∃ (L':List (List Nat)) (ps':List Addr) (y z:Option V),Tbl H' d L' ps'/\ys=ps'.map V.ref/\ps'.length<=i/\(∀ p∈ps',p∈ps.take i)/\dZ n t e R L' i/\σ'=[y,z])
  (fun d i σ' H' ys ⟨z,_⟩=>SqL.of (z _ _ tb2.top)) (SqL.of tb2.top) (fun d i σ' H' ys hi ⟨_,L',ps',y,z,_,e1,e2,_⟩=>by rw [e1,LO];exact e2)
  (fun d hd=>⟨ay hd _,[],[],_,_,Tbl.nil,rfl,Nd _,by simp,dZ.nil,rfl⟩) ?_ ?_
 ·rintro d i x σ' H3 H4 ys R' R0 hd hx ⟨s3,L',ps',y,z,tb3,rfl,hl',hps',st,rfl⟩ hys s4 hR' hR0;rw [Mf] at hx;obtain ⟨p,hp,rfl⟩:=RL.mp hx;have hi:i<n:=by rw [<- hl];exact (LQ.mp hp).1
  obtain ⟨sd,hsd⟩:∃ sd,L[i]?=some sd:=⟨L[i],LP (by omega)⟩
  obtain ⟨srt,hm⟩:=hL i sd hsd;obtain ⟨k1,k2,k3⟩:=st.step gt pt hi srt hm;have hp4:H4 p=some (.lst (aY sd)):=s4 _ _ (s3 _ _ (tb2.row i p sd hp hsd));have ap4:At K H4 (.ref p) sd:=eN hp4;have l0:0<sd.length:=MR.mpr (PZ k1);walk_at "rg";refine bF ap4 (getD_some 0 l0) ?_;walk_at "rg";have hin:∀ q∈ps',q∈ps.take (i+1):=fun q hq=>by
   rw [MK];exact Nw _ (hps' q hq)
  refine aU (fun c=>?_) (fun c=>?_)
  ·walk_at "rg";have hn:p∉ps':=fun c=>by
    have z1:=hps' p c;obtain ⟨j,hj⟩:=Ni z1;have hj1:j<i:=by
     have:=(LQ.mp hj).1;rw [Mz] at this;omega
    rw [NS hj1] at hj;obtain ⟨i1,e1⟩:=(LQ.mp hj);obtain ⟨i2,e2⟩:=(LQ.mp hp);exact (Nv.mp tb2.nd) j i i1 i2 hj1 (e1.trans e2.symm)
   have hpd:p≠d:=fun c=>by
    have:=tb2.row i p sd hp hsd;rw [c,hd] at this;cases this
   refine hR' _ _ _ (s4 _ _ hys) ⟨fun b o zz=>?_,L'++[sd],ps'++[p],_,_,tb3.snoc s4 hp4 hn hpd,by rw [MQ];rfl,by rw [Mo];show _+1<=_;omega,fun q' hq'=>?_,st.new gt pt hi (k2 c) srt hm,rfl⟩
   ·rw [aq (aA zz hd)];exact s4 _ _ (s3 _ _ zz)
   ·rcases MC.mp hq' with z|z
    ·exact hin q' z
    ·rw [Md.mp z,MK,hp];simp
  ·refine hR0 _ _ (s4 _ _ hys) ⟨s3.trans s4,L',ps',_,_,tb3.mono s4,rfl,by omega,hin,st.old (k3 c),rfl⟩
 rintro d2 σ2 H3 ys fd2 hd2 ⟨s3,L',ps',y,z,tb3,rfl,hl',hps',st,rfl⟩;rw [LO,hl] at st;walk_at "rg";exact q d2 H3 L' ps' (s02.free fd2) (fun p hp=>s1.free (fps p (Pm (hps' p hp)))) (s02.trans s3) tb3 st.fin
def pz:Sp:=fun vs H Q _=>∃ (m:Nat),vs=[.int (m:Int)]/\1<=m/\m<=60/\Q .non H
theorem oO (T:Txt K mg):aI P w K mg base CX0 1 T.cF.f T.cF.fd ["many"] pz:=by
 refine T.cF.ok pA (fun vs H Q E h=>?_) (fun cdv A outer s H vs Q E hr h=>?_)
 ·obtain ⟨m,rfl,_⟩:=h;rfl
 obtain ⟨m,rfl,m1,m2,q⟩:=h;refine ⟨_,(ah (aW (PW.pt (nH (aH i7 (pv 0) af (aE _)) (m5 (aH pj (pv 0) (cM (v:=.int 60) rfl T.eD ⟨_,rfl⟩) (aE _))))) (ah eF) aQ)),?_⟩;walk_at "4";refine aU (fun c=>absurd c (by omega)) (fun _=>?_)
 walk_at "rx";refine aU (fun c=>absurd c (by omega)) (fun _=>?_)
 walk_at "rx";exact q
def vZ (n:Nat) (t:List (List Nat)) (e:Nat) (z:V) (m:Nat):Prop:=(z=.non/\dq (cH n t e) m)\/(z=.int (m:Int)/\1<=m/\m<=60/\∀ k,dq (cH n t e) k->m % k=0)
def vc (C:Addr):Sp:=fun vs H Q _=>∃ (g:Addr) (z:V) (n e m:Nat) (t:List (List Nat)),vs=[.ref g,z]/\bK C H g n t e/\GT n t e/\vZ n t e z m/\∀ H',aj H H'->Q (.int (m:Int)) H'
theorem nL (T:Txt K mg):aI P w K mg base CX0 3 T.cJ.f T.cJ.fd ["group","spokes"] (vc T.aS):=by
 refine T.cJ.ok nD (fun vs H Q E h=>?_) (fun cdv A outer s H vs Q E hr h=>?_)
 ·obtain ⟨g,z,n,e,m,t,rfl,_⟩:=h;rfl
 obtain ⟨g,z,n,e,m,t,rfl,hG,gt,hz,q⟩:=h;refine ⟨_,(ae (au (i:=2) nD.nd rfl (Mg rfl) (aO T.nR (AB T) (hr.mono (by decide)) rfl (paF (pv 0) aa)))
   (ae (aW (tj (AD (pv 1))) (ah (aK (pv 2))) aQ)
   (ae (bC (aO T.cF (oO T) (hr.mono (by decide)) rfl (paF (pv 1) aa)))
   (ae (aW (aH fQ (ak aT (pv 1) (pv 2)) af (aE _)) (ah eF) aQ)
   (ah (aK (pv 1))))))),?_⟩
 walk_at "rx";refine ⟨g,n,e,t,rfl,hG,gt,fun k H1 s1 hk=>?_⟩;walk_at "4";rcases hz with ⟨rfl,hm⟩|⟨rfl,m1,m2,hm⟩
 ·refine aU (fun _=>?_) (fun c=>absurd rfl c);walk_at "rx";rw [hk.uni hm];exact q _ s1
 ·refine aU (fun c=>by cases c) (fun _=>?_)
  walk_at "rx";refine ⟨m,rfl,m1,m2,?_⟩;have hk0:=hk.pos;walk_at "4";refine cy (fun c=>absurd (hm k hk) c) (fun _=>?_);walk_at "rx";exact q _ s1
end
section
def pR (C:Addr) (K:LM):Sp:=fun vs H Q _=>∃ (g:Addr) (v u z:V) (n e m l:Nat) (t:List (List Nat)) (R M:List Nat),vs=[.ref g,v,u,z]/\bK C H g n t e/\GT n t e/\At K H v R/\IsPart n t R/\At K H u M/\M.length=R.length/\(∀ x∈M,x<m) /\
 (z=.int (m:Int)\/(z=.non/\m=l))/\dq (cH n t e) l/\m % l=0/\0<m/\m<=60/\∀ x H' o,aj H H'->Du H' x o->kM t R M m o->Q x H'
end
section
variable {P:Ms} {w:World} {K:LM} {mg:Str->Option Value} {base:Heap}
def xp (K:LM):Sp:=fun vs H Q _=>∃ (v u:V) (m:Nat) (R M:List Nat),vs=[v,u,.int (m:Int)]/\At K H v R/\At K H u M/\M.length=R.length/\M.length<=1000/\(∀ x∈M,x<m)/\∀ H',aj H H'->Q .non H'
theorem xt (T:Txt K mg):aI P w K mg base CX0 1 T.cR.f T.cR.fd ["part","marks","spokes"] (xp K):=by
 refine T.cR.ok qA (fun vs H Q E h=>?_) (fun cdv A outer s H vs Q E hr h=>?_)
 ·obtain ⟨v,u,m,R,M,rfl,_⟩:=h;rfl
 obtain ⟨v,u,m,R,M,rfl,hR,hM,hl,h1,mm,q⟩:=h;refine ⟨_,(ae (aW (aH fQ (av (aV K rfl) rfl T.bz Mt (paF (pv 1) aa)) (av (aV K rfl) rfl T.bz Mt (paF (pv 0) aa)) (aE _)) (ah eF) aQ)
   (ah (aW (dW (av (rY K rfl rfl) rfl T.oV Qh (paF (bJ rfl iy (aZ K rfl (pv 1)) (fun _ _ _ _=>⟨(az (i:=0) iy.nd rfl (Mg rfl)),bj,(Ie (bS i7 (pv 0) af (aE _)) (jh (bS oU (pv 0) (pv 1) (aE _))))⟩)) aa))) (ah eF) aQ))),?_⟩
 walk_at "4";refine cy (fun c=>absurd hl c) (fun _=>?_);walk_at "4";refine hV (β:=Bool) hM (by omega) (fun i=>Mv i false) (fun σ'=>∃ y,σ'=[y,some (.int (m:Int))]) rfl (fun i _=>by simp) ⟨_,rfl⟩ ?_ ?_
 ·rintro i c w' σ' H3 d' R' R0 hc hs hw ⟨y,rfl⟩ hR' hR0 hd';cases (show w'=V.int (c:Int) from hw);have c1:=mm c (LR hc);walk_at "rx";refine aU (fun c=>absurd c (by omega)) (fun _=>?_)
  walk_at "rx";rw [decide_eq_false (show ¬ c >= m by omega)]
  exact hR' _ _ false _ ⟨_,rfl⟩ (aj.refl _) rfl Qm
 intro d2 H3 s3 h3;have h3':At K H3 (.ref d2) (Mv M.length false):=h3;walk_at "rx";refine DO h3' ?_;rw [show (Mv M.length false).any id=false from P2.mpr fun x hx=>by rw [Rg hx];decide]
 walk_at "rx";walk_at "9";exact q _ s3
theorem pX (T:Txt K mg):aI P w K mg base CX0 4 T.bU.f T.bU.fd ["group","part","marks","spokes"] (pR T.aS K):=by
 refine T.bU.ok dN (fun vs H Q E h=>?_) (fun cdv A outer s H vs Q E hr h=>?_)
 ·obtain ⟨g,v,u,z,n,e,m,l,t,R,M,rfl,_⟩:=h;rfl
 obtain ⟨g,v,u,z,n,e,m,l,t,R,M,rfl,hG,gt,hR,pt,hM,ml,mm,hz,hl,ml0,m1,m60,q⟩:=h;have n23:=gt.le;have rl:=pt.len;have nd:=cz pt.srt;have sv:vZ n t e z m:=by
  rcases hz with rfl|⟨rfl,rfl⟩
  ·exact .inr ⟨rfl,m1,m60,fun k hk=>by rw [hk.uni hl];exact ml0⟩
  ·exact .inl ⟨rfl,hl⟩
 refine ⟨_,(ae (bC (aO T.bP (kg T) (hr.mono (by decide)) rfl (paF (pv 0) (paF (pv 1) aa))))
   (ae (au (i:=4) dN.nd rfl (Mg rfl) (aO T.cJ (nL T) (hr.mono (by decide)) rfl (paF (pv 0) (paF (pv 3) aa))))
   (ae (bC (aO T.cR (xt T) (hr.mono (by decide)) rfl (paF (pv 1) (paF (pv 2) (paF (pv 4) aa)))))
   (ae (au (i:=5) dN.nd rfl (Mg rfl) (CS K rfl rfl rfl T.qm rfl T.qG (paF (pv 1) (paF (pv 2) aa))))
   (ae (bE Mq rfl (aZ K rfl (pv 1)) (az (i:=6) dN.nd rfl (Mg rfl)) (ah (bE Mq rfl (aZ K rfl (pv 1)) (az (i:=7) dN.nd rfl (Mg rfl)) (ah (aW (aH fQ (lJ (mG hr) (pv 5) (ar (ai K rfl) (ar (ai K rfl) (cu K rfl (pv 0) rfl) (pv 6) (fun _ _=>rfl)) (pv 7) (fun _ _=>rfl)) (fun _ _=>rfl)) (ak aT (ak a0 (lJ (mG hr) (pv 5) (pv 6) (fun _ _=>rfl)) (lJ (mG hr) (pv 5) (pv 7) (fun _ _=>rfl))) (pv 4)) (aE _)) (ah (aK (oq (paF (pv 6) (paF (pv 7) aa))))) aQ)))))
   (ah (aK EE))))))),?_⟩
 walk_at "rn";refine ⟨g,v,n,e,t,R,rfl,hG,gt,hR,pt,fun H1 s1=>?_⟩;walk_at "rn";refine ⟨g,z,n,e,m,t,rfl,bK.mono s1 hG,gt,sv,fun H2 s2=>?_⟩;have s02:=s1.trans s2;walk_at "rn";refine ⟨v,u,m,R,M,rfl,Rep.mono s02 hR,Rep.mono s02 hM,ml,by omega,mm,fun H3 s3=>?_⟩
 have s03:=s02.trans s3;walk_at "rn";refine EO ?_;walk_at "rn";refine LK (Rep.mono s03 hR) (Rep.mono s03 hM) ml.symm nd fun d hd=>?_;have s04:=s03.trans (ay hd (.dK (ee R M)));have hd4:upd H3 d (.dK (ee R M)) d=some (.dK (ee R M)):=ao;generalize upd H3 d (.dK (ee R M))=H4 at s04 hd4 ⊢;have hG4:=bK.mono s04 hG;obtain ⟨dx,r4,bk,hg,hT,hB⟩:=hG4.get (K:=K);walk_at "rn";refine gv (Rep.mono s04 hR) (fun j σ' H'=>H'=H4/\(∀ j',j' < j->∀ k,k<R.length->ie t R M m j' k)/\∃ x6 x7,σ'=[some (.ref g),some v,some u,some z,some (.int (m:Int)),some (.ref d),x6,x7]) ⟨rfl,fun j hj=>absurd hj (by omega),_,_,rfl⟩ (fun i σ' H' y=>by rw [y.1];exact aj.refl _) ?_ ?_
 ·rintro j a w' σ' H' ha hw ⟨rfl,hj,x6,x7,rfl⟩;cases (show w'=V.int (a:Int) from hw);have jl:j<R.length:=(LQ.mp ha).1;have haR:=LR ha;have han:=pt.lt a haR;have mi:=getD_some (l:=M) 0 (show j<M.length by omega)
  have ea:R.getD j 0=a:=by rw [LS,ha];rfl
  walk_at "rn";refine gv (Rep.mono s04 hR) (fun k σ' H1=>H1=H'/\(∀ k',k' < k->ie t R M m j k')/\∃ x7,σ'=[some (.ref g),some v,some u,some z,some (.int (m:Int)),some (.ref d),some (.int (a:Int)),x7]) ⟨rfl,fun j hj=>absurd hj (by omega),_,rfl⟩ (fun i σ' H1 y=>by rw [y.1];exact aj.refl _) ?_ ?_
  ·rintro k b w2 σ' H1 hb hw2 ⟨rfl,hk',x7,rfl⟩;cases (show w2=V.int (b:Int) from hw2);have kl:k<R.length:=(LQ.mp hb).1;have hbR:=LR hb;have hbn:=pt.lt b hbR;have mk:=getD_some (l:=M) 0 (show k<M.length by omega)
   have eb:R.getD k 0=b:=by rw [LS,hb];rfl
   have hab:=pt.cl a haR b hbR;have hx:=MI hab;have mx:=getD_some (l:=M) 0 (show R.idxOf (tb t a b)<M.length by omega)
   have oke:ie t R M m j k↔M.getD (R.idxOf (tb t a b)) 0=(M.getD j 0+M.getD k 0) % m:=by
    unfold ie;rw [ea,eb]
   walk_at "2";refine lK ?_;walk_at "rg";refine dI hT rfl (gt.get han) fun w1 hw1=>?_;walk_at "rn";refine bF hw1 (gt.ef han hbn) ?_;refine oz hd4 (oJ nd (wI hab) mx) ?_;walk_at "rn";refine lK ?_;walk_at "rn";refine oz hd4 (oJ nd ha mi) ?_;walk_at "rn";refine lK ?_;walk_at "rn";refine oz hd4 (oJ nd hb mk) ?_;walk_at "rn";refine cy (fun y=>?_) (fun y=>?_)
   ·walk_at "6";refine ⟨small (by show 2<=1000;decide),fun p hp=>?_⟩
    exact q _ _ (some (a,b)) (s04.trans (ay hp _)) ⟨p,rfl,ao⟩ ⟨j,k,jl,kl,ea,eb,fun y'=>y (oke.mp y'),hj,hk'⟩
   ·walk_at "rn";refine ⟨rfl,fun k' hk2=>?_,_,rfl⟩;rcases MH k' k with y' | y'
    ·exact hk' k' y'
    ·have:k'=k:=by omega
     rw [this];exact oke.mpr y
  ·rintro σ' H1 ⟨rfl,hk',x7,rfl⟩;walk_at "rn";refine ⟨rfl,fun j' hj2 k hk=>?_,_,_,rfl⟩;rcases MH j' j with y|y
   ·exact hj j' y k hk
   ·have:j'=j:=by omega
    rw [this];exact hk' k hk
 ·rintro σ' H' ⟨rfl,hj,x6,x7,rfl⟩;walk_at "rn";exact q _ _ none s04 rfl fun j hj2 k hk=>hj j hj2 k hk
def nq (n:Nat) (t:List (List Nat)) (L:List Int):Prop:=∃ R:List Nat,L=R.map (fun (x:Nat)=>(x:Int))/\IsPart n t R
theorem rO {α β γ:Type} {F:α->γ->Prop} {f:β->γ}:∀ {xs:List α} {l:List β},Nt F xs (l.map f)->Nt (fun x r=>F x (f r)) xs l
 | xs,[],h=>by
  cases xs with
  | nil=>exact .nil
  | cons x r=>cases h
 | xs,b :: l,h=>by
  cases xs with
  | nil=>cases h
  | cons x r =>
   cases h with
   | cons r1 t1=>exact .cons r1 (rO t1)
theorem mw {H:Hp} {v:V} {R:List Nat} (h:At K H v (R.map fun (x:Nat)=>(x:Int))):At K H v R:=by
 obtain ⟨p,xs,e,hS,hp⟩:=h;exact ⟨p,xs,e,hS,Paired.dY (rO (F:=fun (x:V) (i:Int)=>Rep.is K H x i) (f:=fun (n:Nat)=>(n:Int)) hp) fun _ _ z=>z⟩
theorem tY:∀ {L:List Int},(∀ x∈L,0<=x)->∃ R:List Nat,L=R.map fun (x:Nat)=>(x:Int)
 | [],_=>⟨[],rfl⟩
 | x :: L,h=>by
  obtain ⟨R,e⟩:=tY (L:=L) fun y hy=>h y (Mh _ hy);exact ⟨x.toNat :: R,by rw [MO,<- e,SO (h x Mn)]⟩
theorem Ap:∀ {a b:List Nat},a.map (fun (x:Nat)=>(x:Int))=b.map (fun (x:Nat)=>(x:Int))->a=b
 | [],[],_=>rfl
 | [],_ :: _,h=>by cases h
 | _ :: _,[],h=>by cases h
 | x :: a,y :: b,h=>by
  rw [MO,MO] at h;injection h with h1 h2;rw [Ap h2,Ro h1]
theorem getD_get {L:List Int} {i:Nat} (h:i<L.length):L.getD i 0=L[i]:=by rw [LS,LP h];rfl
theorem yt {L:List Int}:L.Pairwise (· < ·)↔∀ i,i+1<L.length->L.getD i 0<L.getD (i+1) 0:=by
 constructor
 ·intro h i hi;have:=(Nv.mp h) i (i+1) (by omega) hi (by omega)
  rw [getD_get (by omega),getD_get hi]
  exact this
 ·intro h;have all:∀ k i,i+k+1<L.length->L.getD i 0<L.getD (i+k+1) 0:=by
   intro k
   induction k with
   | zero=>exact fun i hi=>h i hi
   | succ k ih =>
    intro i hi;have a:=ih i (by omega)
    have b:=h (i+k+1) hi;exact Int.lt_trans a b
  refine Nv.mpr fun i j hi hj hij=>?_;have:=all (j - i - 1) i (by omega)
  rw [show i+(j - i - 1)+1=j by omega,getD_get hi,getD_get hj] at this
  exact this
def xj (C:Addr) (K:LM):Sp:=fun vs H Q _=>∃ (g:Addr) (v:V) (n e:Nat) (t:List (List Nat)) (L:List Int),vs=[.ref g,v]/\bK C H g n t e/\GT n t e/\At K H v L/\L.length<=64 /\
 ((∀ x∈L,0<=x/\x<(n:Int))->∀ H',aj H H'->Q (.bl true) H')/\(¬ (∀ x∈L,0<=x/\x<(n:Int))->∀ H',aj H H'->Q (.bl false) H')
theorem xb (T:Txt K mg):aI P w K mg base CX0 1 T.dg.f T.dg.fd ["group","some"] (xj T.aS K):=by
 refine T.dg.ok rL (fun vs H Q E h=>?_) (fun cdv A outer s H vs Q E hr h=>?_)
 ·obtain ⟨g,v,n,e,t,L,rfl,_⟩:=h;rfl
 obtain ⟨g,v,n,e,t,L,rfl,hG,gt,hL,hlen,q1,q2⟩:=h;obtain ⟨dx,r,bk,hg,hT,hB⟩:=hG.get (K:=K);refine ⟨_,(ah (aK (av (jc K rfl rfl) rfl T.kf NU (paF (bJ rfl i6 (aZ K rfl (pv 1)) (fun _ _ _ _=>⟨(az (i:=0) i6.nd rfl (Mg rfl)),bj,(fP (bS oU (pv 0) af (aE _)) (jh (bS i7 (pv 0) (cu K rfl (pv 1) rfl) (aE _))))⟩)) aa)))),?_⟩;walk_at "rg";refine hV (α:=Int) (β:=Bool) hL (by omega) (fun i=>(L.take i).map fun x=>decide (0<=x/\x<(n:Int))) (fun σ'=>∃ y,σ'=[y,some (.ref g)]) rfl (fun i hi=>by rw [LO,Mz];omega) ⟨_,rfl⟩ ?_ ?_
 ·rintro i c w' σ' H3 d' R' R0 hc hs hw ⟨y,rfl⟩ hR' hR0 hd';cases (show w'=V.int c from hw);have hg3:=hs _ _ hg;have e1:((L.take (i+1)).map fun x=>decide (0<=x/\x<(n:Int)))=((L.take i).map fun x=>decide (0<=x/\x<(n:Int)))++[decide (0<=c/\c<(n:Int))]:=by
   rw [MK,hc,MQ];rfl
  walk_at "rg";refine aU (fun z=>?_) (fun z=>?_)
  ·walk_at "rg";have e2:decide (0<=c/\c<(n:Int))=decide (c<(n:Int)):=decide_eq_decide.mpr ⟨fun y=>y.2,fun y=>⟨z,y⟩⟩;rw [e2] at e1;exact hR' _ _ (decide (c<(n:Int))) _ ⟨_,rfl⟩ (aj.refl _) rfl e1
  ·have e2:decide (0<=c/\c<(n:Int))=false:=decide_eq_false fun y=>z y.1;rw [e2] at e1;exact hR' _ _ false _ ⟨_,rfl⟩ (aj.refl _) rfl e1
 intro d2 H3 s3 h3;walk_at "rg";refine oE h3 ?_;rw [NF]
 by_cases ha:∀ x∈L,0<=x/\x<(n:Int)
 ·rw [show (L.map fun x=>decide (0<=x/\x<(n:Int))).all id=true by
   rw [MA];intro y hy;obtain ⟨x,hx,rfl⟩:=Mm.mp hy;exact decide_eq_true (ha x hx)]
  exact q1 ha H3 s3
 ·rw [show (L.map fun x=>decide (0<=x/\x<(n:Int))).all id=false by
   rw [Qb];obtain ⟨x,hx⟩:=Ol.mp ha;obtain ⟨hx,hn⟩:=OV.mp hx;exact ⟨_,Mm.mpr ⟨x,hx,rfl⟩,by rw [decide_eq_false hn];decide⟩]
  exact q2 ha H3 s3
def Fs (K:LM):Sp:=fun vs H Q _=>∃ (v:V) (L:List Int),vs=[v]/\At K H v L/\L≠[]/\L.length<=64/\(L.Pairwise (· < ·)->∀ H',aj H H'->Q (.bl true) H')/\(¬ L.Pairwise (· < ·)->∀ H',aj H H'->Q (.bl false) H')
theorem EX (T:Txt K mg):aI P w K mg base CX0 1 T.ju.f T.ju.fd ["some"] (Fs K):=by
 refine T.ju.ok zx (fun vs H Q E h=>?_) (fun cdv A outer s H vs Q E hr h=>?_)
 ·obtain ⟨v,L,rfl,_⟩:=h;rfl
 obtain ⟨v,L,rfl,hL,ne,hlen,q1,q2⟩:=h;have l0:0<L.length:=MR.mpr ne;refine ⟨_,(ah (aK (av (jc K rfl rfl) rfl T.kf NU (paF (bJ rfl nJ (bb rfl T.bp (paF (ak iI (av (aV K rfl) rfl T.bz Mt (paF (pv 0) aa)) af) aa)) (fun _ _ _ _=>⟨(az (i:=0) nJ.nd rfl (Mg rfl)),bj,(bS i7 (ar (ai K rfl) (pv 1) (pv 0) (fun _ _=>rfl)) (ar (ai K rfl) (pv 1) (ak a0 (pv 0) af) (fun _ _=>rfl)) (aE _))⟩)) aa)))),?_⟩;walk_at "rg";refine kH K (n:=L.length - 1) (β:=Bool) (by omega) (by omega) (fun i=>(L4 i).map fun j=>decide (L.getD j 0<L.getD (j+1) 0)) (fun σ'=>∃ y,σ'=[y,some v]) rfl (fun i hi=>by rw [LO,MU];omega) ⟨_,rfl⟩ ?_ ?_
 ·rintro i σ' H3 d' R' R0 hi hs ⟨y,rfl⟩ hR' hR0 hd';have hL3:=Rep.mono hs hL;walk_at "rg";refine tG (n:=i) hL3 rfl (getD_some 0 (by omega)) ?_
  walk_at "rg";refine tG (n:=i+1) hL3 (by omega) (getD_some 0 (by omega)) ?_
  walk_at "rg";exact hR' _ _ (decide (L.getD i 0<L.getD (i+1) 0)) _ ⟨_,rfl⟩ (aj.refl _) rfl (by rw [PX,MQ];rfl)
 intro d2 H3 s3 h3;walk_at "rg";refine oE h3 ?_
 by_cases ha:L.Pairwise (· < ·)
 ·rw [show ((L4 (L.length - 1)).map fun j=>decide (L.getD j 0<L.getD (j+1) 0)).all id=true by
   rw [MA];intro y hy;obtain ⟨x,hx,rfl⟩:=Mm.mp hy;exact decide_eq_true (yt.mp ha x (by have:=Mj.mp hx;omega))]
  exact q1 ha H3 s3
 ·rw [show ((L4 (L.length - 1)).map fun j=>decide (L.getD j 0<L.getD (j+1) 0)).all id=false by
   rw [Qb];obtain ⟨x,hx⟩:=Ol.mp (fun y=>ha (yt.mpr y));obtain ⟨hx,hn⟩:=OV.mp hx;exact ⟨_,Mm.mpr ⟨x,Mj.mpr (by omega),rfl⟩,by rw [decide_eq_false hn];decide⟩]
  exact q2 ha H3 s3
def sU (C:Addr) (K:LM):Sp:=fun vs H Q _=>∃ (g:Addr) (v:V) (n e:Nat) (t:List (List Nat)) (R:List Nat),vs=[.ref g,v]/\bK C H g n t e/\GT n t e/\At K H v R/\(∀ x∈R,x<n) /\
 ((∀ a∈R,∀ b∈R,tb t a b∈R)->Q (.bl true) H)/\(¬ (∀ a∈R,∀ b∈R,tb t a b∈R)->Q (.bl false) H)
theorem sT (T:Txt K mg):aI P w K mg base CX0 1 T.bY.f T.bY.fd ["group","some"] (sU T.aS K):=by
 refine T.bY.ok dD (fun vs H Q E h=>?_) (fun cdv A outer s H vs Q E hr h=>?_)
 ·obtain ⟨g,v,n,e,t,R,rfl,_⟩:=h;rfl
 obtain ⟨g,v,n,e,t,R,rfl,hG,gt,hR,hlt,q1,q2⟩:=h;obtain ⟨dx,r,bk,hg,hT,hB⟩:=hG.get (K:=K);refine ⟨_,(ae (bE Mq rfl (aZ K rfl (pv 1)) (az (i:=2) dD.nd rfl (Mg rfl)) (ah (bE Mq rfl (aZ K rfl (pv 1)) (az (i:=3) dD.nd rfl (Mg rfl)) (ah (aW (aH (xU K rfl) (ar (ai K rfl) (ar (ai K rfl) (cu K rfl (pv 0) rfl) (pv 2) (fun _ _=>rfl)) (pv 3) (fun _ _=>rfl)) (pv 1) (by with_unfolding_all rfl)) (ah (aK eP)) aQ)))))
   (ah (aK eP))),?_⟩
 walk_at "rg";refine gv hR (fun i σ H'=>H'=H/\(∀ a∈R.take i,∀ b∈R,tb t a b∈R)/\∃ x y,σ=[some (.ref g),some v,x,y]) ⟨rfl,by simp,_,_,rfl⟩ (fun i σ H' h=>by rw [h.1];exact aj.refl _) ?_ ?_
 ·rintro i a w' σ' H' ha hw ⟨rfl,hf,x,y,rfl⟩;cases (show w'=V.int (a:Int) from hw);have haR:=LR ha;walk_at "rg";refine gv hR (fun j σ H''=>H''=H'/\(∀ b∈R.take j,tb t a b∈R)/\∃ y,σ=[some (.ref g),some v,some (.int (a:Int)),y]) ⟨rfl,by simp,_,rfl⟩ (fun i σ H' h=>by rw [h.1];exact aj.refl _) ?_ ?_
  ·rintro j b w2 σ' H'' hb hw2 ⟨rfl,hf2,y,rfl⟩;cases (show w2=V.int (b:Int) from hw2);have hbR:=LR hb;walk_at "7";refine dI hT rfl (gt.get (hlt a haR)) fun w1 hw1=>?_;walk_at "rg";refine bF hw1 (gt.ef (hlt a haR) (hlt b hbR)) ?_;walk_at "rg";refine cy (fun z=>?_) (fun z=>?_)
   ·walk_at "rg";exact q2 fun y=>z (y a haR b hbR)
   walk_at "rg";refine ⟨rfl,fun c hc=>?_,_,rfl⟩;rw [MK,hb] at hc;rcases MC.mp hc with y|y
   ·exact hf2 c y
   ·rw [Md.mp y];exact z
  ·rintro σ' H'' ⟨rfl,hf2,y,rfl⟩;rw [NF] at hf2;refine ⟨rfl,fun c hc=>?_,_,_,rfl⟩;rw [MK,ha] at hc;rcases MC.mp hc with y|y
   ·exact hf c y
   ·rw [Md.mp y];exact hf2
 ·rintro σ' H' ⟨rfl,hf,x,y,rfl⟩;rw [NF] at hf;walk_at "rg";exact q1 hf
def Bz (C:Addr) (K:LM):Sp:=fun vs H Q _=>∃ (g:Addr) (v:V) (n e:Nat) (t:List (List Nat)) (L:List Int),vs=[.ref g,v]/\bK C H g n t e/\GT n t e/\At K H v L/\L.length<=64 /\
 (nq n t L->∀ H',aj H H'->Q (.bl true) H')/\(¬ nq n t L->∀ H',aj H H'->Q (.bl false) H')
theorem Bw (T:Txt K mg):aI P w K mg base CX0 2 T.fS.f T.fS.fd ["group","some"] (Bz T.aS K):=by
 refine T.fS.ok vY (fun vs H Q E h=>?_) (fun cdv A outer s H vs Q E hr h=>?_)
 ·obtain ⟨g,v,n,e,t,L,rfl,_⟩:=h;rfl
 obtain ⟨g,v,n,e,t,L,rfl,hG,gt,hL,hlen,q1,q2⟩:=h;refine ⟨_,(ah (aK (fP (bS pj (av (aV K rfl) rfl T.bz Mt (paF (pv 1) aa)) af (aE _)) (fP (aO T.dg (xb T) (hr.mono (by decide)) rfl (paF (pv 0) (paF (pv 1) aa))) (fP (aO T.ju (EX T) (hr.mono (by decide)) rfl (paF (pv 1) aa)) (jh (aO T.bY (sT T) (hr.mono (by decide)) rfl (paF (pv 0) (paF (pv 1) aa))))))))),?_⟩
 walk_at "rg";refine aU (fun l0=>?_) (fun z=>?_)
 rotate_left
 ·refine q2 (fun ⟨R,e,pt⟩=>?_) H (aj.refl _);have:=MR.mpr pt.ne;rw [e,LO] at z;omega
 walk_at "rg";refine ⟨g,v,n,e,t,L,rfl,hG,gt,hL,hlen,fun ha H1 s1=>?_,fun ha H1 s1=>?_⟩
 rotate_left
 ·walk_at "rg";refine dF ?_;refine q2 (fun ⟨R,e,pt⟩=>ha fun x hx=>?_) H1 s1;rw [e] at hx;obtain ⟨y,hy,rfl⟩:=Mm.mp hx;have:=pt.lt y hy;omega
 walk_at "rg";have nl:L≠[]:=fun z=>by rw [z] at l0;exact absurd l0 (by decide)
 refine ⟨v,L,rfl,Rep.mono s1 hL,nl,hlen,fun hs H2 s2=>?_,fun hs H2 s2=>?_⟩
 rotate_left
 ·walk_at "rg";refine dF ?_;refine q2 (fun ⟨R,e,pt⟩=>hs ?_) H2 (s1.trans s2);rw [e,Pf];exact pt.srt.imp fun h=>by omega
 walk_at "rg";have s02:=s1.trans s2;obtain ⟨R,rfl⟩:=tY fun x hx=>(ha x hx).1;have rlt:∀ x∈R,x<n:=fun x hx=>by
  have:=(ha x (Mm.mpr ⟨x,hx,rfl⟩)).2;omega
 have srt:R.Pairwise (· < ·):=by
  rw [Pf] at hs;exact hs.imp fun h=>by omega
 have rne:R≠[]:=fun z=>nl (by rw [z];rfl)
 refine ⟨g,v,n,e,t,R,rfl,hG.mono s02,gt,mw (Rep.mono s02 hL),rlt,fun hc=>?_,fun hc=>?_⟩
 ·exact q1 ⟨R,rfl,srt,rlt,rne,hc⟩ H2 s02
 ·refine q2 (fun ⟨R2,e2,pt⟩=>hc ?_) H2 s02;have:R=R2:=Ap e2;rw [this];exact pt.cl
def spN (CE C:Addr) (K:LM):Sp:=fun vs H _ E=>∃ (g:Addr) (v:V) (n e:Nat) (t:List (List Nat)) (L:List Int),vs=[.ref g,v]/\bK C H g n t e/\GT n t e/\At K H v L/\L.length<=64/\¬ nq n t L/\∀ H',aj H H'->E (.ref CE) none H'
theorem qx (T:Txt K mg):aI P w K mg base (CXR P w) 3 T.bP.f T.bP.fd ["group","some"] (spN T.bx T.aS K):=by
 refine T.bP.fn.okX rm (fun vs H Q E h=>?_) (fun cdv A outer s H vs Q E hr h=>?_)
 ·obtain ⟨g,v,n,e,t,L,rfl,_⟩:=h;rfl
 obtain ⟨g,v,n,e,t,L,rfl,hG,gt,hL,hlen,np,q⟩:=h;refine ⟨_,fun okc=>(ah (aW (gF (dW (aO T.fS (Bw T) (hr.mono (by decide)) rfl (paF (pv 0) (paF (pv 1) aa))))) (ah (mV tM rfl rfl T.lW rfl T.u9 (paF cQ aa))) aQ)),?_⟩
 walk_at "7";refine ⟨g,v,n,e,t,L,rfl,hG,gt,hL,hlen,fun z=>absurd z np,fun _ H1 s1=>?_⟩;walk_at "rg";refine lT ?_;walk_at "rg";refine nP ?_;walk_at "rg";exact ⟨small (by show 1<=1000;decide),q H1 s1⟩
theorem Fh (T:Txt K mg):aI P w K mg base (CXR P w) 4 T.jG.f T.jG.fd ["group","part"] (spN T.bx T.aS K):=by
 refine T.jG.fn.okX Ai (fun vs H Q E h=>?_) (fun cdv A outer s H vs Q E hr h=>?_)
 ·obtain ⟨g,v,n,e,t,L,rfl,_⟩:=h;rfl
 obtain ⟨g,v,n,e,t,L,rfl,h⟩:=h;refine ⟨_,fun okc=>(ae (bC (m7 T.bP (qx T) (hr.mono (by decide)) rfl mE (paF (pv 0) (paF (pv 1) aa))))
   oZ),?_⟩
 walk_at "rn";exact ⟨g,v,n,e,t,L,rfl,h⟩
theorem Hw {f g:Str} {a b:V} (h:f≠g):∀ p∈[f,g].zip [a,b],(cI g b [(f,a)]).lookup p.1=some p.2:=fun p hp=>by
 rw [mF];rcases My.mp hp with rfl|hp
 ·rw [if_neg h];exact Se
 ·rcases My.mp hp with rfl|hp
  ·rw [if_pos rfl]
  ·cases hp
theorem Hq (T:Txt K mg):aI P w K mg base CX0 1 T.tR T.tZ ["self","one","two"] (IB T.bV ["one","two"]):=by
 refine T.CD.ok yJ (fun vs H Q E h=>?_) (fun cdv A outer s H vs Q E hr h=>?_)
 ·obtain ⟨x,as,rfl,hl,_⟩:=h;exact congrArg (·+1) hl
 obtain ⟨x,as,rfl,hl,hx,q⟩:=h
 match as,hl,q with
 | [a,b],_,q =>
 refine ⟨_,(ae (Ee K rfl (pv 0) (pv 1) rfl)
   (ah (Ee K rfl (pv 0) (pv 2) rfl))),?_⟩
 walk_at "rn";refine ET ?_;walk_at "rn";refine ⟨x,_,_,rfl,T.kQ,T.mJ,.inl ⟨hx,fun dx hdx=>?_⟩⟩;have ne:x≠dx:=aA hx hdx;walk_at "rn";refine ET ?_;walk_at "rn";refine ⟨x,_,_,rfl,T.kQ,T.mI,.inr ⟨dx,_,by rw [aq ne,ao],ao,by show 1<1000;decide,?_⟩⟩
 rw [Jr];exact q dx _ hdx (Hw (by decide))
def gB (n:Nat) (t:List (List Nat)) (e:Nat) (m:Int):Prop:=1<=m/\m<=60/\∀ k:Nat,dq (cH n t e) k->m % (k:Int)=0
def uL (CE:Addr):Sp:=fun vs H _ E=>∃ (m:Int),vs=[.int m]/\(m<1\/60<m)/\E (.ref CE) none H
theorem uT (T:Txt K mg):aI P w K mg base (CXR P w) 1 T.cF.f T.cF.fd ["many"] (fun vs H Q E=>pz vs H Q E\/uL T.ba vs H Q E):=by
 refine aI.both (oO T) ?_;refine T.cF.fn.okX pA (fun vs H Q E h=>?_) (fun cdv A outer s H vs Q E hr h=>?_)
 ·obtain ⟨m,rfl,_⟩:=h;rfl
 obtain ⟨m,rfl,hm,q⟩:=h;refine ⟨_,fun okc=>(ah (aW (PW.pt (nH (aH i7 (pv 0) af (aE _)) (m5 (aH pj (pv 0) (cM (v:=.int 60) rfl T.eD ⟨_,rfl⟩) (aE _))))) (ah (mV tM rfl rfl T.ip rfl T.nv (paF cQ aa))) aQ)),?_⟩;walk_at "4";refine aU (fun c=>?_) (fun c=>?_)
 ·walk_at "rx";refine nP ?_;walk_at "rx";exact ⟨small (by show 1<=1000;decide),q⟩
 ·walk_at "rx";refine aU (fun c=>?_) (fun c2=>?_)
  ·walk_at "rx";refine nP ?_;walk_at "rx";exact ⟨small (by show 1<=1000;decide),q⟩
  ·exfalso
   rcases hm with z|z <;> omega
def mL (CE C:Addr):Sp:=fun vs H _ E=>∃ (g:Addr) (m:Int) (n e:Nat) (t:List (List Nat)),vs=[.ref g,.int m]/\bK C H g n t e/\GT n t e/\¬ gB n t e m/\∀ H',aj H H'->E (.ref CE) none H'
theorem Bm (T:Txt K mg):aI P w K mg base (CXR P w) 3 T.cJ.f T.cJ.fd ["group","spokes"] (mL T.ba T.aS):=by
 refine T.cJ.fn.okX nD (fun vs H Q E h=>?_) (fun cdv A outer s H vs Q E hr h=>?_)
 ·obtain ⟨g,m,n,e,t,rfl,_⟩:=h;rfl
 obtain ⟨g,m,n,e,t,rfl,hG,gt,hm,q⟩:=h;refine ⟨_,fun okc=>(ae (au (i:=2) nD.nd rfl (Mg rfl) (aO T.nR (AB T) (hr.mono (by decide)) rfl (paF (pv 0) aa)))
   (ae (aW (tj (AD (pv 1))) (ah (aK (pv 2))) aQ)
   (ae (bC (m7 T.cF (uT T) (hr.mono (by decide)) rfl mE (paF (pv 1) aa)))
   (ae (aW (aH fQ (ak aT (pv 1) (pv 2)) af (aE _)) (ah (mV tM rfl rfl T.ip rfl T.nv (paF cQ aa))) aQ)
   (ah (aK (pv 1))))))),?_⟩
 walk_at "rx";refine ⟨g,n,e,t,rfl,hG,gt,fun k H1 s1 hk=>?_⟩;walk_at "4";refine aU (fun c=>by cases c) (fun _=>?_)
 walk_at "rx"
 by_cases h1:m<1\/60<m
 ·exact .inr ⟨m,rfl,h1,q H1 s1⟩
 ·have hk0:=hk.pos;obtain ⟨j,rfl⟩:∃ j:Nat,m=(j:Int):=⟨m.toNat,by omega⟩
  refine .inl ⟨j,rfl,by omega,by omega,?_⟩
  walk_at "4";refine cy (fun c=>?_) (fun c=>?_)
  ·walk_at "rx";refine nP ?_;walk_at "rx";exact ⟨small (by show 1<=1000;decide),q H1 s1⟩
  ·exfalso
   refine hm ⟨by omega,by omega,fun k2 hk2=>?_⟩
   rw [hk2.uni hk];have:=congrArg (fun (x:Nat)=>(x:Int)) c
   simpa using this
theorem uu (T:Txt K mg):aI P w K mg base (CXR P w) 3 T.cJ.f T.cJ.fd ["group","spokes"] (fun vs H Q E=>vc T.aS vs H Q E\/mL T.ba T.aS vs H Q E):=aI.both (nL T) (Bm T)
theorem xr (T:Txt K mg):aI P w K mg base (CXR P w) 3 T.bP.f T.bP.fd ["group","some"] (fun vs H Q E=>rg T.aS K vs H Q E\/spN T.bx T.aS K vs H Q E):=aI.both (kg T) (qx T)
def zh (R:List Nat) (M:List Int) (m:Int):Prop:=M.length≠R.length\/∃ x∈M,x<0\/m<=x
def vQ (CE:Addr) (K:LM):Sp:=fun vs H _ E=>∃ (v u:V) (m:Int) (R:List Nat) (M:List Int),vs=[v,u,.int m]/\At K H v R/\At K H u M/\M.length<=1000/\zh R M m/\∀ H',aj H H'->E (.ref CE) none H'
theorem vg (T:Txt K mg):aI P w K mg base (CXR P w) 1 T.cR.f T.cR.fd ["part","marks","spokes"] (vQ T.bq K):=by
 refine T.cR.fn.okX qA (fun vs H Q E h=>?_) (fun cdv A outer s H vs Q E hr h=>?_)
 ·obtain ⟨v,u,m,R,M,rfl,_⟩:=h;rfl
 obtain ⟨v,u,m,R,M,rfl,hR,hM,hl,hb,q⟩:=h;refine ⟨_,fun okc=>(ae (aW (aH fQ (av (aV K rfl) rfl T.bz Mt (paF (pv 1) aa)) (av (aV K rfl) rfl T.bz Mt (paF (pv 0) aa)) (aE _)) (ah (mV tM rfl rfl T.hZ rfl T.nG (paF cQ aa))) aQ)
   (ah (aW (dW (av (rY K rfl rfl) rfl T.oV Qh (paF (bJ rfl iy (aZ K rfl (pv 1)) (fun _ _ _ _=>⟨(az (i:=0) iy.nd rfl (Mg rfl)),bj,(Ie (bS i7 (pv 0) af (aE _)) (jh (bS oU (pv 0) (pv 1) (aE _))))⟩)) aa))) (ah (mV tM rfl rfl T.hZ rfl T.nG (paF cQ aa))) aQ))),?_⟩
 walk_at "4";refine cy (fun c=>?_) (fun c=>?_)
 ·walk_at "rx";refine nP ?_;walk_at "rx";exact ⟨small (by show 1<=1000;decide),q H (aj.refl _)⟩
 have hx:∃ x∈M,x<0\/m<=x:=hb.resolve_left fun z=>z c;walk_at "4";refine hV (α:=Int) (β:=Bool) hM (by omega) (fun i=>(M.take i).map fun x=>decide (x<0\/m<=x)) (fun σ'=>∃ y,σ'=[y,some (.int m)]) rfl (fun i _=>by rw [LO,Mz];omega) ⟨_,rfl⟩ ?_ ?_
 ·rintro i c w' σ' H3 d' R' R0 hc hs hw ⟨y,rfl⟩ hR' hR0 hd';cases (show w'=V.int c from hw);have e1:((M.take (i+1)).map fun x=>decide (x<0\/m<=x))=((M.take i).map fun x=>decide (x<0\/m<=x))++[decide (c<0\/m<=c)]:=by
   rw [MK,hc,MQ];rfl
  walk_at "rx";refine aU (fun z=>?_) (fun z=>?_)
  ·have e2:decide (c<0\/m<=c)=true:=decide_eq_true (.inl z);rw [e2] at e1;exact hR' _ _ true _ ⟨_,rfl⟩ (aj.refl _) rfl e1
  ·walk_at "rx";have e2:decide (c<0\/m<=c)=decide (c >= m):=decide_eq_decide.mpr ⟨fun y=>y.resolve_left z,fun y=>.inr y⟩;rw [e2] at e1;exact hR' _ _ (decide (c >= m)) _ ⟨_,rfl⟩ (aj.refl _) rfl e1
 intro d2 H3 s3 h3;have h3':At K H3 (.ref d2) ((M.take M.length).map fun x=>decide (x<0\/m<=x)):=h3;rw [NF] at h3';walk_at "rx";refine DO h3' ?_;rw [show (M.map fun x=>decide (x<0\/m<=x)).any id=true from Qk.mpr (by
  obtain ⟨x,hx,hb⟩:=hx;exact ⟨_,Mm.mpr ⟨x,hx,rfl⟩,decide_eq_true hb⟩)]
 walk_at "rx";refine nP ?_;walk_at "rx";exact ⟨small (by show 1<=1000;decide),q H3 s3⟩
def Due (CP CB CM:Addr) (n:Nat) (t:List (List Nat)) (e:Nat) (L M:List Int) (m:Int) (C:Addr):Prop :=
 (¬ nq n t L/\C=CP)\/(∃ R:List Nat,L=R.map (fun (x:Nat)=>(x:Int))/\IsPart n t R/\((¬ gB n t e m/\C=CB)\/(gB n t e m/\zh R M m/\C=CM)))
def fK (CP CB CM C:Addr) (K:LM):Sp:=fun vs H _ E=>∃ (g:Addr) (v u:V) (m:Int) (n e:Nat) (t:List (List Nat)) (L M:List Int) (CE:Addr),vs=[.ref g,v,u,.int m]/\bK C H g n t e/\GT n t e/\At K H v L/\L.length<=64/\At K H u M/\M.length<=1000 /\
 Due CP CB CM n t e L M m CE/\∀ H',aj H H'->E (.ref CE) none H'
theorem we (T:Txt K mg):aI P w K mg base (CXR P w) 4 T.bU.f T.bU.fd ["group","part","marks","spokes"] (fK T.bx T.ba T.bq T.aS K):=by
 refine T.bU.fn.okX dN (fun vs H Q E h=>?_) (fun cdv A outer s H vs Q E hr h=>?_)
 ·obtain ⟨g,v,u,m,n,e,t,L,M,CE,rfl,_⟩:=h;rfl
 obtain ⟨g,v,u,m,n,e,t,L,M,CE,rfl,hG,gt,hL,hlen,hM,ml,due,q⟩:=h;refine ⟨_,fun okc=>(ae (bC (m7 T.bP (xr T) (hr.mono (by decide)) rfl mE (paF (pv 0) (paF (pv 1) aa))))
   (ae (au (i:=4) dN.nd rfl (Mg rfl) (m7 T.cJ (uu T) (hr.mono (by decide)) rfl mE (paF (pv 0) (paF (pv 3) aa))))
   (ae (bC (m7 T.cR (vg T) (hr.mono (by decide)) rfl mE (paF (pv 1) (paF (pv 2) (paF (pv 4) aa)))))
   oZ))),?_⟩
 walk_at "rn";rcases due with ⟨np,rfl⟩|⟨R,rfl,pt,due⟩
 ·exact .inr ⟨g,v,n,e,t,L,rfl,hG,gt,hL,hlen,np,q⟩
 have hR:=mw hL;refine .inl ⟨g,v,n,e,t,R,rfl,hG,gt,hR,pt,fun H1 s1=>?_⟩;walk_at "rn";rcases due with ⟨ns,rfl⟩|⟨sv,bm,rfl⟩
 ·exact .inr ⟨g,m,n,e,t,rfl,hG.mono s1,gt,ns,fun H2 s2=>q H2 (s1.trans s2)⟩
 obtain ⟨m1,m2,m3⟩:=sv;obtain ⟨j,rfl⟩:∃ j:Nat,m=(j:Int):=⟨m.toNat,by omega⟩
 refine .inl ⟨g,_,n,e,j,t,rfl,hG.mono s1,gt,.inr ⟨rfl,by omega,by omega,fun k hk=>?_⟩,fun H2 s2=>?_⟩
 ·have:=m3 k hk;omega
 walk_at "rn";have s02:=s1.trans s2;exact ⟨v,u,_,R,M,rfl,Rep.mono s02 hR,Rep.mono s02 hM,ml,bm,fun H3 s3=>q H3 (s02.trans s3)⟩
def kb (T:Txt K mg) (C:Addr):Prop:=C=T.bR\/C=T.bo\/C=T.ck
theorem En (T:Txt K mg):kb T T.ck:=.inr (.inr rfl)
structure LC (K:LM) (D C:Addr):Prop where
 cls:Cls K C
 g:bf K C "group"
 s:bf K C "spokes"
 z:bf K C "size"
 d:bf K C "deeds"
 cc:Ma K (.ref C) "__class__" = some (some (.builtin "object.__class__"))
 mr:Od K C (.type "object")=some true
 kt:MJ K (.ref C) (.ref D)=some true
theorem uf (T:Txt K mg) {C:Addr} (h:kb T C):LC K T.i4 C:=by
 rcases h with rfl|rfl|rfl
 ·exact ⟨T.sD,T.oW,T.n0,T.pP,T.ph,T.qi,T.pL,T.qu⟩
 ·exact ⟨T.oC,T.pZ,T.oQ,T.rj,T.qf,T.pO,T.qv,T.pW⟩
 ·exact ⟨T.uM,T.qg,T.oP,T.rK,T.qz,T.qc,T.pU,T.qt⟩
theorem yj (T:Txt K mg):∀ C,kb T C->Cls K C/\Meth K C "moves" T.eZ:=by
 rintro C (rfl|rfl|rfl)
 ·exact ⟨T.sD,T.o7⟩
 ·exact ⟨T.oC,T.ql⟩
 ·exact ⟨T.uM,T.qa⟩
def jO (H:Hp) (p:Addr) (r:List (Nat×Nat)):Prop:=∃ qs:List Addr,H p=some (.lst (qs.map V.ref))/\qs.length=r.length/\∀ (i:Nat) (q:Addr) (x:Nat×Nat),qs[i]?=some q->r[i]?=some x->H q=some (.tup [.int (x.1:Int),.int (x.2:Int)])
def eO (H:Hp) (d:Addr) (D:List (List (Nat×Nat))):Prop:=∃ ps:List Addr,H d=some (.lst (ps.map V.ref))/\ps.length=D.length/\∀ (i:Nat) (p:Addr) (r:List (Nat×Nat)),ps[i]?=some p->D[i]?=some r->jO H p r
theorem jO.mono {H H':Hp} {p:Addr} {r:List (Nat×Nat)} (s:aj H H') (h:jO H p r):jO H' p r:=by
 obtain ⟨qs,h1,h2,h3⟩:=h;exact ⟨qs,s _ _ h1,h2,fun i q x a b=>s _ _ (h3 i q x a b)⟩
theorem eO.mono {H H':Hp} {d:Addr} {D:List (List (Nat×Nat))} (s:aj H H') (h:eO H d D):eO H' d D:=by
 obtain ⟨ps,h1,h2,h3⟩:=h;exact ⟨ps,s _ _ h1,h2,fun i p r a b=>(h3 i p r a b).mono s⟩
theorem sV {α β:Type} {F:α->β->Prop}:∀ {as:List α} {bs:List β},as.length=bs.length->(∀ (i:Nat) (a:α) (b:β),as[i]?=some a->bs[i]?=some b->F a b)->Nt F as bs
 | [],[],_,_=>.nil
 | [],_ :: _,h,_=>by cases h
 | _ :: _,[],h,_=>by cases h
 | a :: as,b :: bs,h,f=>.cons (f 0 a b rfl rfl) (sV (Nat.succ.inj h) fun i x y h1 h2=>f (i+1) x y h1 h2)
theorem jO.at {H:Hp} {p:Addr} {r:List (Nat×Nat)} (h:jO H p r):At K H (.ref p) r:=by
 obtain ⟨qs,h1,h2,h3⟩:=h;refine ⟨p,_,rfl,SqL.of h1,sV (by rw [LO];exact h2) fun i a b ha hb=>?_⟩
 rw [Mf] at ha;cases hq:qs[i]? with
 | none=>rw [hq] at ha;cases ha
 | some q =>
  rw [hq] at ha;cases ha;exact Jd (h3 i q b hq hb)
theorem eO.at {H:Hp} {d:Addr} {D:List (List (Nat×Nat))} (h:eO H d D):At K H (.ref d) D:=by
 obtain ⟨ps,h1,h2,h3⟩:=h;refine ⟨d,_,rfl,SqL.of h1,sV (by rw [LO];exact h2) fun i a b ha hb=>?_⟩
 rw [Mf] at ha;cases hq:ps[i]? with
 | none=>rw [hq] at ha;cases ha
 | some q =>
  rw [hq] at ha;cases ha;exact (h3 i q b hq hb).at
theorem eO.but {H H':Hp} {d p C dx:Addr} {fs:List (Str×V)} {D:List (List (Nat×Nat))} (h:eO H d D) (hp:H p=some (.ins C dx fs)) (k:∀ a o,H a=some o->a≠p->H' a=some o):eO H' d D:=by
 obtain ⟨ps,h1,h2,h3⟩:=h;have no:∀ (a:Addr) (o:HO),H a=some o->(∀ C dx fs,o≠.ins C dx fs)->H' a=some o:=fun a o ha n=>k a o ha fun e=>by
  rw [e,hp] at ha;exact n _ _ _ (ML ha).symm
 refine ⟨ps,no _ _ h1 (fun _ _ _ z=>by cases z),h2,fun i q r a b=>?_⟩
 obtain ⟨qs,g1,g2,g3⟩:=h3 i q r a b;exact ⟨qs,no _ _ g1 (fun _ _ _ z=>by cases z),g2,fun j q' x y z=>no _ _ (g3 j q' x y z) (fun _ _ _ z=>by cases z)⟩
theorem jO.keep {H:Hp} {p d:Addr} {r:List (Nat×Nat)} {ys:List V} {o:HO} (h:jO H p r) (hd:H d=some (.lst ys)) (np:p≠d):jO (upd H d o) p r:=by
 obtain ⟨qs,h1,h2,h3⟩:=h;refine ⟨qs,by rw [aq np];exact h1,h2,fun i q x a b=>?_⟩
 have z:=h3 i q x a b;rw [aq (fun e=>by rw [e,hd] at z;cases z)]
 exact z
theorem qZ {α:Type} {l:List α} {x y:α} {i:Nat} (h:(l++[x])[i]?=some y):(i<l.length/\l[i]?=some y)\/(i=l.length/\x=y):=by
 rcases MH i l.length with z|z
 ·rw [MP z] at h;exact .inl ⟨z,h⟩
 ·rw [MM z] at h;have:i - l.length=0:=by
   rcases QK (i - l.length) with y' | y'
   ·exact y'
   ·rw [ND (by simp;omega)] at h;cases h
  rw [this] at h;exact .inr ⟨by omega,ML h⟩
theorem kD {α β:Type} {F:α->β->Prop}:∀ {as:List α} {bs:List β} {i:Nat} {a:α},Nt F as bs->as[i]?=some a->∃ b,bs[i]?=some b/\F a b
 | _,_,0,_,.cons h _,e=>⟨_,rfl,by cases e;exact h⟩
 | _,_,i+1,_,.cons _ t,e=>kD (i:=i) t e
 | _,_,_,_,.nil,e=>by simp at e
theorem eO.get {H H2:Hp} {d:Addr} {D:List (List (Nat×Nat))} {i:Nat} {r:List (Nat×Nat)} {Q:VK} (h:eO H d D) (s:aj H H2) (hi:D[i]?=some r) (q:∀ p,jO H p r->Q (.ref p) H2):qR K (.ref d) (.int (i:Int)) H2 Q:=by
 obtain ⟨ps,h1,h2,h3⟩:=h;have hl:i<ps.length:=by rw [h2];exact (LQ.mp hi).1
 refine ⟨d,_,_,.ref ps[i],rfl,rfl,SqL.of (s _ _ h1),qy (by rw [Mf,LP hl];rfl),q _ (h3 i _ r (LP hl) hi)⟩
theorem Ac {H H':Hp} {b:Addr} {o:HO} (fb:H b=none) (s:aj H H'):aj H (upd H' b o):=fun a o' z=>by
 rw [aq (aA z fb)];exact s _ _ z
def n6 (r:List Nat):List (Nat×Nat):=r.map fun x=>(x,0)
def iJ (t:List (List Nat)):List (List (Nat×Nat)):=t.map n6
theorem IS {H:Hp} {v:V} {Q:VK} {σ:St} {r:List Nat} {y:Str} (h:At K H v r) (hz:r.length<=1000) (fin:∀ d H',H d=none->aj H H'->jO H' d (n6 r)->Q (.ref d) H') :
  m9 K v H (fF [y] [] (gj 0) w5 (CK (lq (uZ 0) (lq (tC (V.int 0)) tE))) σ Q):=by
 obtain ⟨p,xs,rfl,hS,hP⟩:=h;have hl:=OC hP;refine kN (p:=p) (xs:=xs) (by omega) (fun d i σ' H' ys=>aj H H'/\∃ (qs:List Addr) (x:Option V),ys=qs.map V.ref/\qs.length=i/\(∀ (j:Nat) (q:Addr) (c:Nat),qs[j]?=some q->r[j]?=some c->H' q=some (.tup [.int (c:Int),.int ((0:Nat):Int)]))/\σ'=[x])
  (fun d i σ' H' ys z=>z.1.seq hS) hS (fun d i σ' H' ys hi z=>by obtain ⟨_,qs,x,e,e2,_⟩:=z;rw [e,LO,e2];exact Mi _) (fun d hd=>⟨ay hd _,[],_,rfl,rfl,fun j q c z=>by simp at z,rfl⟩) ?_ ?_
 ·rintro d i o σ' H2 ys R R0 hd hi ⟨s2,qs,x,rfl,hq,hc,rfl⟩ hys hR hR0;obtain ⟨c,hc1,hc2⟩:=kD hP hi;cases (show o=V.int (c:Int) from hc2);walk_at "rx";refine oX ?_;walk_at "rx";refine ⟨small (by show 2<=1000;decide),fun a ha=>?_⟩
  have s3:=ay ha (.tup [.int (c:Int),.int ((0:Nat):Int)]);have na:a≠d:=fun e=>by rw [e,hys] at ha;cases ha
  refine hR _ _ _ (s3 _ _ hys) ⟨fun b o zz=>by rw [aq (aA zz hd)];exact s3 _ _ (s2 _ _ zz),qs++[a],_,by rw [MQ];rfl,by rw [Mo,hq];rfl,fun j q c' hj hj'=>?_,rfl⟩
  rcases qZ hj with ⟨_,z⟩|⟨z1,z2⟩
  ·have zz:=hc j q c' z hj';rw [aq (fun e=>by rw [e,hys] at zz;cases zz)]
   exact s3 _ _ zz
  ·subst z2;rw [z1,hq,hc1] at hj';cases hj';rw [aq na];exact ao
 ·rintro d σ' H2 ys fd hd ⟨s2,qs,x,rfl,hq,hc,rfl⟩;refine fin d H2 fd s2 ⟨qs,hd,by unfold n6;rw [LO,hq];omega,fun i q x h1 h2=>?_⟩
  unfold n6 at h2;rw [Mf] at h2;cases hr:r[i]? with
  | none=>rw [hr] at h2;cases h2
  | some c=>rw [hr] at h2;cases h2;exact hc i q c h1 hr
theorem Ax {H:Hp} {v:V} {Q:VK} {σ:St} {t:List (List Nat)} {x y:Str} (h:At K H v t) (hz:t.length<=1000) (hr:∀ r∈t,r.length<=1000) (fin:∀ d H',H d=none->aj H H'->eO H' d (iJ t)->Q (.ref d) H') :
  m9 K v H (fF [x] [] (gj 0) w5 (qD [y] [] (zd K (uZ 0)) (gj 0) w5 (CK (lq (uZ 0) (lq (tC (V.int 0)) tE)))) σ Q):=by
 obtain ⟨p,xs,rfl,hS,hP⟩:=h;have hl:=OC hP;refine kN (p:=p) (xs:=xs) (by omega) (fun d i σ' H' ys=>aj H H'/\∃ (ps:List Addr) (x:Option V),ys=ps.map V.ref/\ps.length=i/\(∀ p∈ps,p≠d)/\(∀ (j:Nat) (p:Addr) (r:List Nat),ps[j]?=some p->t[j]?=some r->jO H' p (n6 r))/\σ'=[x])
  (fun d i σ' H' ys z=>z.1.seq hS) hS (fun d i σ' H' ys hi z=>by obtain ⟨_,qs,x,e,e2,_⟩:=z;rw [e,LO,e2];exact Mi _) (fun d hd=>⟨ay hd _,[],_,rfl,rfl,(fun p hp=>by cases hp),(fun j q c z=>by simp at z),rfl⟩) ?_ ?_
 ·rintro d i o σ' H2 ys R R0 hd hi ⟨s2,ps,x,rfl,hq,hnd,hc,rfl⟩ hys hR hR0;obtain ⟨r,hr1,hr2⟩:=kD hP hi;have hrr:=hr r (LR hr1);walk_at "rx";refine IS (Rep.mono s2 hr2) hrr fun a H3 fa s3 ra=>?_;have na:a≠d:=fun e=>by rw [e,hys] at fa;cases fa
  have hys3:=s3 _ _ hys;refine hR _ _ _ hys3 ⟨fun b o zz=>by rw [aq (aA zz hd)];exact s3 _ _ (s2 _ _ zz),ps++[a],_,by rw [MQ];rfl,by rw [Mo,hq];rfl,fun p hp=>?_,fun j p' r' hj hj'=>?_,rfl⟩
  ·rcases MC.mp hp with z|z
   ·exact hnd p z
   ·rw [Md.mp z];exact na
  ·rcases qZ hj with ⟨_,z⟩|⟨z1,z2⟩
   ·exact ((hc j p' r' z hj').mono s3).keep hys3 (hnd p' (LR z))
   ·subst z2;rw [z1,hq,hr1] at hj';cases hj';exact ra.keep hys3 na
 ·rintro d σ' H2 ys fd hd ⟨s2,ps,x,rfl,hq,hnd,hc,rfl⟩;refine fin d H2 fd s2 ⟨ps,hd,by unfold iJ;rw [LO,hq];omega,fun i p r h1 h2=>?_⟩
  unfold iJ at h2;rw [Mf] at h2;cases hr':t[i]? with
  | none=>rw [hr'] at h2;cases h2
  | some c=>rw [hr'] at h2;cases h2;exact hc i p c h1 hr'
theorem F0 {m:Nat} {r:List Nat} (m1:1<=m):∀ y∈n6 r,y.2<m:=fun y hy=>by
 unfold n6 at hy;obtain ⟨x,_,rfl⟩:=Mm.mp hy;exact m1
theorem Ct {H:Hp} {p:Addr} {xs:List V} {Q:VK} {σ:St} {g:TG} {tt:TT} {ta:TE} {own:List Str} {fr:List Nat} (r:List (Nat×Nat)) (Sh:St->Prop) (hS:SqL K H p xs) (hl:xs.length=r.length) (hz:r.length<=1000) (h0:Sh (bW own fr σ))
  (turn:∀ (i:Nat) (x:V) (y:Nat×Nat) σ' H' (R:St->V->Hp->Prop) (R0:St->Hp->Prop),xs[i]?=some x->r[i]?=some y->aj H H'->Sh σ'->(∀ σ2 q H5,Sh σ2->aj H' H5->H5 q=some (.tup [.int (y.1:Int),.int (y.2:Int)])->R σ2 (.ref q) H5) ->
   g x σ' H' fun σ2 H3=>tt σ2 H3 fun ok H4=>if ok=true then ta σ2 H4 (R σ2) else R0 σ2 H4)
  (fin:∀ d H',H d=none->aj H H'->jO H' d r->Q (.ref d) H'):m9 K (.ref p) H (fF own fr g tt ta σ Q):=by
 refine kN (p:=p) (xs:=xs) (by omega) (fun d i σ' H' ys=>aj H H'/\∃ (qs:List Addr),ys=qs.map V.ref/\qs.length=i/\(∀ (j:Nat) (q:Addr) (c:Nat×Nat),qs[j]?=some q->r[j]?=some c->H' q=some (.tup [.int (c.1:Int),.int (c.2:Int)]))/\Sh σ')
  (fun d i σ' H' ys z=>z.1.seq hS) hS (fun d i σ' H' ys hi z=>by obtain ⟨_,qs,e,e2,_⟩:=z;rw [e,LO,e2];exact Mi _) (fun d hd=>⟨ay hd _,[],rfl,rfl,(fun j q c z=>by simp at z),h0⟩) ?_ ?_
 ·rintro d i o σ' H2 ys R R0 hd hi ⟨s2,qs,rfl,hq,hc,hsh⟩ hys hR hR0;have hil:i<r.length:=by rw [<- hl];exact (LQ.mp hi).1
  refine turn i o _ σ' H2 R R0 hi (LP hil) s2 hsh fun σ2 a H5 hs2 s5 ha=>?_;have na:a≠d:=fun e=>by rw [e,s5 _ _ hys] at ha;cases ha
  refine hR _ _ _ (s5 _ _ hys) ⟨fun b o zz=>by rw [aq (aA zz hd)];exact s5 _ _ (s2 _ _ zz),qs++[a],by rw [MQ];rfl,by rw [Mo,hq];rfl,fun j q c' hj hj'=>?_,hs2⟩
  rcases qZ hj with ⟨_,z⟩|⟨z1,z2⟩
  ·have zz:=s5 _ _ (hc j q c' z hj');rw [aq (fun e=>by rw [e,s5 _ _ hys] at zz;cases zz)]
   exact zz
  ·subst z2;rw [z1,hq,LP hil] at hj';cases hj';rw [aq na];exact ha
 ·rintro d σ' H2 ys fd hd ⟨s2,qs,rfl,hq,hc,_⟩;exact fin d H2 fd s2 ⟨qs,hd,by omega,hc⟩
theorem u7 {H:Hp} {p:Addr} {xs:List V} {Q:VK} {σ:St} {g:TG} {tt:TT} {ta:TE} {own:List Str} {fr:List Nat} (D:List (List (Nat×Nat))) (Sh:St->Prop) (hS:SqL K H p xs) (hl:xs.length=D.length) (hz:D.length<=1000) (h0:Sh (bW own fr σ))
  (turn:∀ (i:Nat) (x:V) (r:List (Nat×Nat)) σ' H' (R:St->V->Hp->Prop) (R0:St->Hp->Prop),xs[i]?=some x->D[i]?=some r->aj H H'->Sh σ'->(∀ σ2 q H5,Sh σ2->aj H' H5->H' q=none->jO H5 q r->R σ2 (.ref q) H5) ->
   g x σ' H' fun σ2 H3=>tt σ2 H3 fun ok H4=>if ok=true then ta σ2 H4 (R σ2) else R0 σ2 H4)
  (fin:∀ d H',H d=none->aj H H'->eO H' d D->Q (.ref d) H'):m9 K (.ref p) H (fF own fr g tt ta σ Q):=by
 refine kN (p:=p) (xs:=xs) (by omega) (fun d i σ' H' ys=>aj H H'/\∃ (ps:List Addr),ys=ps.map V.ref/\ps.length=i/\(∀ p∈ps,p≠d)/\(∀ (j:Nat) (p:Addr) (r:List (Nat×Nat)),ps[j]?=some p->D[j]?=some r->jO H' p r)/\Sh σ')
  (fun d i σ' H' ys z=>z.1.seq hS) hS (fun d i σ' H' ys hi z=>by obtain ⟨_,qs,e,e2,_⟩:=z;rw [e,LO,e2];exact Mi _) (fun d hd=>⟨ay hd _,[],rfl,rfl,(fun p hp=>by cases hp),(fun j q c z=>by simp at z),h0⟩) ?_ ?_
 ·rintro d i o σ' H2 ys R R0 hd hi ⟨s2,ps,rfl,hq,hnd,hc,hsh⟩ hys hR hR0;have hil:i<D.length:=by rw [<- hl];exact (LQ.mp hi).1
  refine turn i o _ σ' H2 R R0 hi (LP hil) s2 hsh fun σ2 a H5 hs2 s5 fa ra=>?_;have na:a≠d:=fun e=>by rw [e,hys] at fa;cases fa
  have hys5:=s5 _ _ hys;refine hR _ _ _ hys5 ⟨fun b o zz=>by rw [aq (aA zz hd)];exact s5 _ _ (s2 _ _ zz),ps++[a],by rw [MQ];rfl,by rw [Mo,hq];rfl,fun p hp=>?_,fun j p' r' hj hj'=>?_,hs2⟩
  ·rcases MC.mp hp with z|z
   ·exact hnd p z
   ·rw [Md.mp z];exact na
  ·rcases qZ hj with ⟨_,z⟩|⟨z1,z2⟩
   ·exact ((hc j p' r' z hj').mono s5).keep hys5 (hnd p' (LR z))
   ·subst z2;rw [z1,hq,LP hil] at hj';cases hj';exact ra.keep hys5 na
 ·rintro d σ' H2 ys fd hd ⟨s2,ps,rfl,hq,hnd,hc,_⟩;exact fin d H2 fd s2 ⟨ps,hd,by omega,hc⟩
def xi (C:Addr) (K:LM):Sp:=fun vs H Q _=>∃ (g:Addr) (v:V) (n e:Nat) (t:List (List Nat)) (R:List Nat),vs=[.ref g,v]/\bK C H g n t e/\GT n t e/\At K H v R/\IsPart n t R /\
 ∀ d H',H d=none->aj H H'->Gr K H' d (cG n t e R)->Q (.ref d) H'
theorem xu (T:Txt K mg):aI P w K mg base CX0 5 T.iL.f T.iL.fd ["group","part"] (xi T.aS K):=by
 refine T.iL.ok wV (fun vs H Q E h=>?_) (fun cdv A outer s H vs Q E hr h=>?_)
 ·obtain ⟨g,v,n,e,t,R,rfl,_⟩:=h;rfl
 obtain ⟨g,v,n,e,t,R,rfl,hG,gt,hR,pt,q⟩:=h;have n23:=gt.le;refine ⟨_,(ah (aK (bJ rfl n5 (aZ K rfl (aO T.qe (GX T) (hr.mono (by decide)) rfl (paF (pv 0) (paF (pv 1) aa)))) (fun _ _ _ _=>⟨(az (i:=0) n5.nd rfl (Mg rfl)),bj,(ar (ai K rfl) (pv 0) af (fun _ _=>rfl))⟩)))),?_⟩
 walk_at "rn";refine ⟨g,v,n,e,t,R,rfl,hG,gt,hR,pt,fun d H1 L ps fd fps s1 hL hsd=>?_⟩;have ec:=hsd.cG gt pt;have ll:L.length<=n:=by
  have:=congrArg Rl ec;rw [LO] at this;rw [this];exact uV
 walk_at "rn";refine JN (β:=Nat) hL (by omega) (fun i=>(L.map fun s=>s.getD 0 0).take i) (fun σ'=>∃ y,σ'=[y]) rfl (fun i _=>by rw [Mz];omega) ⟨_,rfl⟩ ?_ ?_
 ·rintro i c p σ' H5 d' R' R0 hc hs hp ⟨y,rfl⟩ hR' hR0 hd';have cne:=hsd.ne c (LR hc);walk_at "rn";refine bF (n:=0) (eN hp) (c:=c.getD 0 0) (getD_some 0 (MR.mpr cne)) ?_;exact hR' _ _ _ _ ⟨_,rfl⟩ (aj.refl _) rfl (by rw [MK,Mf,hc];rfl)
 ·intro d' H5 fd' hs hg;have hg':Gr K H5 d' ((L.map fun s=>s.getD 0 0).take L.length):=hg;rw [MD (by simp),ec] at hg'
  exact q d' H5 (s1.free fd') (s1.trans hs) hg'
def MV (n:Nat) (t:List (List Nat)) (e:Nat) (R:List Nat) (H:Hp) (kvs:List (Key×V)) (i k:Nat):Prop:=∀ i' k' c h,(i' < i\/(i'=i/\k' < k))->(cG n t e R)[i']?=some c->R[k']?=some h ->
 ∃ q,cS kvs (nk (tb t c h))=some (.ref q)/\H q=some (.tup [.int ((i':Nat):Int),.int ((k':Nat):Int)])
theorem MV.mono {n e i k:Nat} {t:List (List Nat)} {R:List Nat} {H H':Hp} {kvs:List (Key×V)} (s:aj H H') (h:MV n t e R H kvs i k):MV n t e R H' kvs i k:=fun i' k' c x a b d=>by
 obtain ⟨q,z1,z2⟩:=h i' k' c x a b d;exact ⟨q,z1,s _ _ z2⟩
theorem MV.nil {n e:Nat} {t:List (List Nat)} {R:List Nat} {H:Hp}:MV n t e R H [] 0 0:=fun i' k' c x a=>by omega
theorem MV.next {n e i:Nat} {t:List (List Nat)} {R:List Nat} {H:Hp} {kvs:List (Key×V)} (h:MV n t e R H kvs i R.length):MV n t e R H kvs (i+1) 0:=fun i' k' c x a b d=>by
 have:=(LQ.mp d).1;exact h i' k' c x (by omega) b d
theorem MV.put {n e i k c x:Nat} {t:List (List Nat)} {R:List Nat} {H:Hp} {kvs:List (Key×V)} {q df:Addr} (gt:GT n t e) (pt:IsPart n t R) (h:MV n t e R H kvs i k) (hd:H df=some (.dK kvs)) (hc:(cG n t e R)[i]?=some c) (hx:R[k]?=some x)
  (hq:H q=some (.tup [.int (i:Int),.int (k:Int)])):MV n t e R (upd H df (.dK (putK kvs (nk (tb t c x)) (.ref q)))) (putK kvs (nk (tb t c x)) (.ref q)) i (k+1):=fun i' k' c' x' a b d=>by
 have no:∀ {p:Addr} {ys:List V},H p=some (.tup ys)->p≠df:=fun z y=>by rw [y,hd] at z;cases z
 rw [Gx];obtain ⟨a1,a2⟩:=Iz gt pt hc hx rfl
 by_cases hk:nk (tb t c' x')=nk (tb t c x)
 ·rw [if_pos hk];obtain ⟨b1,b2⟩:=Iz gt pt b d (vF hk);refine ⟨q,rfl,?_⟩;rw [aq (no hq),<- b1,<- b2,a1,a2];exact hq
 ·rw [if_neg hk];have ne:¬ (i'=i/\k'=k):=fun ⟨z1,z2⟩=>hk (by
   subst z1 z2;rw [hc] at b;rw [hx] at d;cases b;cases d;rfl)
  obtain ⟨q',z1,z2⟩:=h i' k' c' x' (by omega) b d
  exact ⟨q',z1,by rw [aq (no z2)];exact z2⟩
def yP (C:Addr) (K:LM):Sp:=fun vs H Q _=>∃ (g:Addr) (v:V) (n e:Nat) (t:List (List Nat)) (R:List Nat),vs=[.ref g,v]/\bK C H g n t e/\GT n t e/\At K H v R/\IsPart n t R /\
 ∀ d H',H d=none->aj H H'->eO H' d (o8 n t e R)->Q (.ref d) H'
theorem yu (T:Txt K mg):aI P w K mg base CX0 6 T.jn.f T.jn.fd ["group","part"] (yP T.aS K):=by
 refine T.jn.ok eI (fun vs H Q E h=>?_) (fun cdv A outer s H vs Q E hr h=>?_)
 ·obtain ⟨g,v,n,e,t,R,rfl,_⟩:=h;rfl
 obtain ⟨g,v,n,e,t,R,rfl,hG,gt,hR,pt,q⟩:=h;have n23:=gt.le;have rl:=pt.len;have cl:=uV (n:=n) (t:=t) (e:=e) (R:=R);refine ⟨_,(ae (au (i:=2) eI.nd rfl (Pz rfl) (aO T.iL (xu T) (hr.mono (by decide)) rfl (paF (pv 0) (paF (pv 1) aa))))
   (ae (au (i:=3) eI.nd rfl (Pz rfl) GV)
   (ae (bE Mq rfl (oy K rfl rfl T.cZ (paF (pv 2) aa)) (mP rfl (cA (az (i:=4) eI.nd rfl (Mg rfl)) (cA (az (i:=5) eI.nd rfl (Mg rfl)) kC))) (ah (bE Mq rfl (oy K rfl rfl T.cZ (paF (pv 1) aa)) (mP rfl (cA (az (i:=6) eI.nd rfl (Mg rfl)) (cA (az (i:=7) eI.nd rfl (Mg rfl)) kC))) (ah (CH (mG hr) (pv 3) (ar (ai K rfl) (ar (ai K rfl) (cu K rfl (pv 0) rfl) (pv 5) (fun _ _=>rfl)) (pv 7) (fun _ _=>rfl)) (oq (paF (pv 4) (paF (pv 6) aa))) rfl)))))
   (ah (aK (AW rfl pB (aZ K rfl (cu K rfl (pv 0) rfl)) (fun _ _ _ _=>⟨(az (i:=0) pB.nd rfl (Pz rfl)),bj,(bJ rfl pk (aZ K rfl (pv 1)) (fun _ _ _ _=>⟨(az (i:=0) pk.nd rfl (Mg rfl)),bj,(lJ (mG hr) (pv 1) (ar (ai K rfl) (pv 2) (pv 0) (fun _ _=>rfl)) (fun _ _=>rfl))⟩))⟩))))))),?_⟩
 walk_at "rn";refine ⟨g,v,n,e,t,R,rfl,hG,gt,hR,pt,fun dc H1 fdc s1 gc=>?_⟩;have hG1:=bK.mono s1 hG;have hR1:=Rep.mono s1 hR;obtain ⟨dx,r4,bk,hg,hT,hB⟩:=hG1.get (K:=K);walk_at "rn";refine JQ fun df hdf=>?_;walk_at "rn";refine t9 (H₀:=H1) gc.at (fun i σ' H'=>aj H1 H'/\(∃ kvs,H' df=some (.dK kvs)/\kvs.length<=i * 23/\MV n t e R H' kvs i 0)/\∃ x4 x5 x6 x7,σ'=[some (.ref g),some v,some (.ref dc),some (.ref df),x4,x5,x6,x7]) ⟨ay hdf _,⟨[],ao,by simp,MV.nil⟩,_,_,_,_,rfl⟩ (fun i σ' H' z=>z.1) ?_ ?_
 ·rintro i c w' σ' H3 H4 pt' hc hw ⟨s3,⟨kvs,hd3,hl3,mv3⟩,x4,x5,x6,x7,rfl⟩ hpt rfl s4;cases (show w'=V.int (c:Int) from hw);have hil:=(LQ.mp hc).1;have cn:=iX (LR hc);have s14:=s3.trans s4;have hd4:=s4 _ _ hd3;have mv4:=mv3.mono s4;generalize upd H3 pt' (.tup [.int (i:Int),.int (c:Int)])=H4 at s14 hd4 mv4;walk_at "rn";refine t9 (H₀:=H1) hR1 (fun k σ' H'=>aj H1 H'/\(∃ kvs,H' df=some (.dK kvs)/\kvs.length<=i * 23+k/\MV n t e R H' kvs i k)/\∃ x6 x7,σ'=[some (.ref g),some v,some (.ref dc),some (.ref df),some (.int (i:Int)),some (.int (c:Int)),x6,x7]) ⟨s14,⟨kvs,hd4,by omega,mv4⟩,_,_,rfl⟩ (fun i σ' H' z=>z.1) ?_ ?_
  ·rintro k x w2 σ' H5 H6 pt2 hx hw2 ⟨s5,⟨kv5,hd5,hl5,mv5⟩,x6,x7,rfl⟩ hpt2 rfl s6;cases (show w2=V.int (x:Int) from hw2);have hkl:=(LQ.mp hx).1;have xn:=pt.lt x (LR hx);have s16:=s5.trans s6;have hd6:=s6 _ _ hd5;have mv6:=mv5.mono s6;generalize upd H5 pt2 (.tup [.int (k:Int),.int (x:Int)])=H6 at s16 hd6 mv6;walk_at "rn";refine Cm ?_;walk_at "6";refine ⟨small (by show 2<=1000;decide),fun p hp=>?_⟩
   have s7:=ay hp (.tup [.int (i:Int),.int (k:Int)]);have hp7:(upd H6 p (.tup [.int (i:Int),.int (k:Int)])) p=some (.tup [.int (i:Int),.int (k:Int)]):=ao;have s17:=s16.trans s7;have hd7:=s7 _ _ hd6;have mv7:=mv6.mono s7;generalize upd H6 p (.tup [.int (i:Int),.int (k:Int)])=H7 at s17 hd7 mv7 hp7;have hg7:=s17 _ _ hg;have hT7:=Rep.mono s17 hT;walk_at "rg";refine dI hT7 rfl (gt.get cn) fun w1 hw1=>?_;walk_at "rn";refine bF hw1 (gt.ef cn xn) ?_;have l7:=mB kv5 (nk (tb t c x)) (V.ref p);refine Fv hd7 (by omega) ⟨fun b o z=>by rw [aq (aA z hdf)];exact s17 _ _ z,⟨_,ao,by omega,mv7.put gt pt hd7 hc hx hp7⟩,_,_,rfl⟩
  ·rintro σ' H5 ⟨s5,⟨kv5,hd5,hl5,mv5⟩,x6,x7,rfl⟩;walk_at "rn";exact ⟨s5,⟨kv5,hd5,by omega,mv5.next⟩,_,_,_,_,rfl⟩
 ·rintro σ' H3 ⟨s3,⟨kvs,hd3,hl3,mv3⟩,x4,x5,x6,x7,rfl⟩;have hg3:=s3 _ _ hg;have hT3:=Rep.mono s3 hT;have aC:=Rep.mono s3 gc.at;walk_at "rg";obtain ⟨pr,xs,epr,hSr,hPr⟩:=id hT3;cases epr;have lt:=OC hPr;have tl:=gt.len;refine u7 (o8 n t e R) (fun σ'=>∃ y,σ'=[y,some (.ref dc),some (.ref df)]) hSr (by unfold o8;rw [LO,MU];omega) (by unfold o8;rw [LO,MU];omega) ⟨_,rfl⟩ ?_ ?_
  ·rintro i o r σ' H4 R' R0 ho hr4 s4 ⟨y,rfl⟩ hR';obtain ⟨row,hrow,arow⟩:=kD hPr ho;have hin:i<n:=by rw [<- tl];exact (LQ.mp hrow).1
   have er:row=t.getD i []:=by
    have:=gt.get hin;rw [hrow] at this;exact ML this
   subst er;have aR4:=Rep.mono s4 arow;have aC4:=Rep.mono s4 aC;obtain ⟨pc,cs,ecs,hSc,hPc⟩:=id aC4;cases ecs;have lc:=OC hPc;have e4:r=(cG n t e R).map fun c=>(hm n t e R (tb t i c),R.idxOf (ov n t e R (tb t i c))):=by
    unfold o8 at hr4;rw [Mf,O0 hin] at hr4;exact (ML hr4).symm
   subst e4;walk_at "rn";refine Ct ((cG n t e R).map fun c=>(hm n t e R (tb t i c),R.idxOf (ov n t e R (tb t i c)))) (fun σ'=>∃ y,σ'=[y,some (.ref df),some o]) hSc (by rw [LO];exact lc) (by rw [LO];omega) ⟨_,rfl⟩ ?_ ?_
   ·rintro j o2 y2 σ' H5 R2 R02 ho2 hy2 s5 ⟨y,rfl⟩ hR2;obtain ⟨c,hc,ac⟩:=kD hPc ho2;cases (show o2=V.int (c:Int) from ac);rw [Mf,hc] at hy2;cases hy2;have cn:=iX (LR hc);have xn:=gt.lt i c hin cn;obtain ⟨c',k',z1,z2,z3,z4⟩:=Il gt pt xn;have s35:=s4.trans s5;obtain ⟨qq,v1,v2⟩:=mv3 _ _ c' _ (.inl (LQ.mp z1).1) z1 z2;rw [z4] at v1;walk_at "rn";refine lK ?_;walk_at "rn";refine bF (Rep.mono s5 aR4) (gt.ef hin cn) ?_;refine oz (s35 _ _ hd3) v1 ?_;exact hR2 _ qq _ ⟨_,rfl⟩ (aj.refl _) (by dsimp only;rw [z3];exact s35 _ _ v2)
   ·intro d2 H5 fd2 s5 r5;exact hR' _ _ _ ⟨_,rfl⟩ s5 fd2 r5
  ·intro d2 H4 fd2 s4 hD;have s14:=s3.trans s4;exact q d2 H4 (s1.free (s3.free fd2)) (s1.trans s14) hD
def Ba (C:Addr) (K:LM):Sp:=fun vs H Q _=>∃ (g:Addr) (v u z:V) (n e m l:Nat) (t:List (List Nat)) (R M:List Nat),vs=[.ref g,v,u,z]/\bK C H g n t e/\GT n t e/\At K H v R/\IsPart n t R/\At K H u M/\M.length=R.length/\(∀ x∈M,x<m) /\
 (z=.int (m:Int)\/(z=.non/\m=l))/\dq (cH n t e) l/\m % l=0/\0<m/\m<=60/\(∀ j,j<R.length->∀ k,k<R.length->ie t R M m j k)/\∀ H',aj H H'->Q .non H'
theorem z9 (T:Txt K mg):aI P w K mg base CX0 5 T.de.f T.de.fd ["group","part","marks","spokes"] (Ba T.aS K):=by
 refine T.de.ok gw (fun vs H Q E h=>?_) (fun cdv A outer s H vs Q E hr h=>?_)
 ·obtain ⟨g,v,u,z,n,e,m,l,t,R,M,rfl,_⟩:=h;rfl
 obtain ⟨g,v,u,z,n,e,m,l,t,R,M,rfl,hG,gt,hR,pt,hM,ml,mm,hz,hl,ml0,m1,m60,ok,q⟩:=h;refine ⟨_,(ae (au (i:=4) gw.nd rfl (Mg rfl) (Ln T.bU (pX T) (hr.mono (by decide)) rfl (paF (pv 0) (paF (pv 1) (paF (pv 2) (paF (pv 3) aa))))))
   (ah (aW (tj (Cp (pv 4))) (ah eF) aQ))),?_⟩
 walk_at "rn";refine ⟨g,v,u,z,n,e,m,l,t,R,M,rfl,hG,gt,hR,pt,hM,ml,mm,hz,hl,ml0,m1,m60,fun x H1 o s1 hx hb=>?_⟩;cases hb.uni (o':=none) ok;cases (show x=.non from hx);walk_at "2";refine cy (fun c=>absurd rfl c) (fun _=>?_);walk_at "rn";exact q _ s1
end
section
variable {P:Ms} {w:World} {K:LM} {mg:Str->Option Value} {base:Heap}
def Ly (g:V) (m z:Int) (d:V):List (Str×V):=[("group",g),("spokes",.int m),("size",.int z),("deeds",d)]
def LF (a b g:V) (m z:Int) (d:V):List (Str×V):=[("part",a),("marks",b),("group",g),("spokes",.int m),("size",.int z),("deeds",d)]
def WF (fs:List (Str×V)) (g:V) (m z:Int) (d:V):Prop:=fs=Ly g m z d\/∃ x y,fs=LF x y g m z d
def nt (W:Addr->Prop) (H:Hp) (a g:Addr) (m z:Nat) (D:List (List (Nat×Nat))):Prop:=∃ C dx d fs,W C/\H a=some (.ins C dx fs)/\WF fs (.ref g) m z (.ref d)/\eO H d D
theorem nt.mono {W:Addr->Prop} {H H':Hp} {a g m z:Nat} {D:List (List (Nat×Nat))} (s:aj H H') (h:nt W H a g m z D):nt W H' a g m z D:=by
 obtain ⟨C,dx,d,fs,h0,h1,h2,h3⟩:=h;exact ⟨C,dx,d,fs,h0,s _ _ h1,h2,h3.mono s⟩
section
variable (T:Txt K mg) {H:Hp} {C a dx:Addr} {m z:Int} {g d:V} {fs:List (Str×V)} {Q:VK} (hC:kb T C) (ha:H a=some (.ins C dx fs)) (wf:WF fs g m z d)
include hC ha wf
theorem A0 (q:Q g H):isF K "group" (.ref a) H Q:=by
 have c:=uf T hC;rcases wf with rfl|⟨x,y,rfl⟩ <;> exact ⟨a,C,dx,_,_,rfl,ha,c.cls,c.g,rfl,q⟩
theorem Fp (q:Q (.int m) H):isF K "spokes" (.ref a) H Q:=by
 have c:=uf T hC;rcases wf with rfl|⟨x,y,rfl⟩ <;> exact ⟨a,C,dx,_,_,rfl,ha,c.cls,c.s,rfl,q⟩
theorem HF (q:Q d H):isF K "deeds" (.ref a) H Q:=by
 have c:=uf T hC;rcases wf with rfl|⟨x,y,rfl⟩ <;> exact ⟨a,C,dx,_,_,rfl,ha,c.cls,c.d,rfl,q⟩
end
theorem WF.moves {fs:List (Str×V)} {g d:V} {m z:Int} (wf:WF fs g m z d):fs.lookup ("moves" : Str)=none:=by
 rcases wf with rfl|⟨x,y,rfl⟩ <;> rfl
def J8 (W:Addr->Prop):Sp:=fun vs H Q _=>∃ (p C dx d:Addr) (g:V) (m:Int) (f0:List (Str×V)) (D:List (List (Nat×Nat))) (r:List (Nat×Nat)),vs=[.ref p,g,.int m,.ref d]/\W C/\H p=some (.ins C dx f0)/\(f0=[]\/∃ x y:V,f0=([("part",x),("marks",y)]:List (Str×V)))/\eO H d D/\D[0]?=some r /\
 ∀ H' fs,H' p=some (.ins C dx fs)->WF fs g m r.length (.ref d)->(∀ a o,H a=some o->a≠p->H' a=some o)->Q .non H'
theorem rR (T:Txt K mg):aI P w K mg base CX0 1 T.vd T.zq ["self","group","spokes","deeds"] (J8 (kb T)):=by
 refine T.Ih.ok BB (fun vs H Q E h=>?_) (fun cdv A outer s H vs Q E hr h=>?_)
 ·obtain ⟨p,C,dx,d,g,m,f0,D,r,rfl,_⟩:=h;rfl
 obtain ⟨p,C,dx,d,g,m,f0,D,r,rfl,hC,hp,hf,hD,h0,k⟩:=h;have c:=uf T hC;refine ⟨_,(ae (iP K rfl (pv 0) (pv 1) rfl)
   (ae (iP K rfl (pv 0) (pv 2) rfl)
   (ae (iP K rfl (pv 0) (av (aV K rfl) rfl T.bz Mt (paF (ar (ai K rfl) (pv 3) af (fun _ _=>rfl)) aa)) rfl)
   (ah (iP K rfl (pv 0) (pv 3) rfl))))),?_⟩
 walk_at "rd";refine ⟨p,C,dx,_,rfl,hp,c.cls,c.g,(by rcases hf with rfl|⟨x,y,rfl⟩;exact (show 0<1000 by decide);exact (show 2<1000 by decide)),?_⟩
 walk_at "rd";refine ⟨p,C,dx,_,rfl,ao,c.cls,c.s,(by rcases hf with rfl|⟨x,y,rfl⟩;exact (show 1<1000 by decide);exact (show 3<1000 by decide)),?_⟩
 walk_at "rd";have hD2:eO (upd (upd H p (.ins C dx (cI "group" g f0))) p (.ins C dx (cI "spokes" (V.int m) (cI "group" g f0)))) d D:=hD.but hp fun a o ha hne=>by
  rw [aq hne,aq hne];exact ha
 refine dI (n:=0) (hD2.at (K:=K)) rfl h0 fun w1 hw1=>?_;walk_at "rd";refine cX hw1 ?_;walk_at "rd";refine ⟨p,C,dx,_,rfl,ao,c.cls,c.z,(by rcases hf with rfl|⟨x,y,rfl⟩;exact (show 2<1000 by decide);exact (show 4<1000 by decide)),?_⟩
 walk_at "rd";refine ⟨p,C,dx,_,rfl,ao,c.cls,c.d,(by rcases hf with rfl|⟨x,y,rfl⟩;exact (show 3<1000 by decide);exact (show 5<1000 by decide)),?_⟩
 refine k _ _ ao ?_ fun a o ha hne=>?_
 ·rcases hf with rfl|⟨x,y,rfl⟩
  ·exact .inl rfl
  ·exact .inr ⟨x,y,rfl⟩
 rw [aq hne,aq hne,aq hne,aq hne];exact ha
def vp (C CG:Addr):Sp:=fun vs H Q _=>∃ (p dx g:Addr) (z:V) (n e m:Nat) (t:List (List Nat)),vs=[.ref p,.ref g,z]/\H p=some (.ins C dx [])/\bK CG H g n t e/\GT n t e/\vZ n t e z m /\
 ∀ d H' fs,H d=none->H' p=some (.ins C dx fs)->WF fs (.ref g) m n (.ref d)->eO H' d (iJ t)->(∀ a o,H a=some o->a≠p->H' a=some o)->Q .non H'
theorem vt (T:Txt K mg):aI P w K mg base CX0 4 T.kS T.gW ["self","group","spokes"] (vp T.bR T.aS):=by
 refine T.sk.ok i5 (fun vs H Q E h=>?_) (fun cdv A outer s H vs Q E hr h=>?_)
 ·obtain ⟨p,dx,g,z,n,e,m,t,rfl,_⟩:=h;rfl
 obtain ⟨p,dx,g,z,n,e,m,t,rfl,hp,hG,gt,hz,k⟩:=h;obtain ⟨gx,gr,gb,ps,hg,hT,hb⟩:=id hG;refine ⟨_,(ae (eR (i:=3) rfl i5.nd rfl (Mg rfl) gm (aZ K rfl (cu K rfl (pv 1) rfl)) (fun _ _ _ _=>⟨(az (i:=0) gm.nd rfl (Mg rfl)),bj,(bJ rfl gk (aZ K rfl (pv 0)) (fun _ _ _ _=>⟨(az (i:=0) gk.nd rfl (Mg rfl)),bj,(oq (paF (pv 0) (paF af aa)))⟩))⟩) rfl)
   (ah (bC (oH rfl T.tN T.tS (rR T) (hr.mono (by decide)) T.ud (paF (pv 0) (paF (pv 1) (paF (aO T.cJ (nL T) (hr.mono (by decide)) rfl (paF (pv 1) (paF (pv 2) aa))) (paF (pv 3) aa)))))))),?_⟩
 walk_at "rx";refine cL T hg ?_;have n1:=gt.pos;have n23:=gt.le;have lt:=gt.len;refine Ax hT.at (by omega) (fun r hr=>by obtain ⟨i,hi⟩:=Ni hr;have:=gt.row i r hi;omega) fun d H1 fd s1 hD=>?_
 walk_at "rx";refine ⟨g,z,n,e,m,t,rfl,hG.mono s1,gt,hz,fun H2 s2=>?_⟩;walk_at "rx";have s12:=s1.trans s2;have h0:(iJ t)[0]?=some (n6 (t.getD 0 [])):=by
  unfold iJ;rw [Mf,gt.get n1];rfl
 have hr0:(n6 (t.getD 0 [])).length=n:=by
  unfold n6;rw [LO];exact gt.row 0 _ (gt.get n1)
 refine ⟨p,T.bR,dx,d,.ref g,(m:Int),[],_,_,rfl,.inl rfl,s12 _ _ hp,.inl rfl,hD.mono s2,h0,fun H3 fs h3 wf k3=>?_⟩;rw [hr0] at wf;walk_at "rx";exact k d H3 fs fd h3 wf ((hD.mono s2).but (s12 _ _ hp) k3) fun a o ha hne=>k3 a o (s12 _ _ ha) hne
theorem Ek {n e i:Nat} {t:List (List Nat)} {R:List Nat} (hi:i<n):(o8 n t e R)[i]?=some ((cG n t e R).map fun c=>(hm n t e R (tb t i c),R.idxOf (ov n t e R (tb t i c)))):=by
 unfold o8;rw [Mf,O0 hi];rfl
theorem xD {n e i:Nat} {t:List (List Nat)} {R M:List Nat} (hi:i<n):(tL n t e R M)[i]?=some ((cG n t e R).map fun c=>(hm n t e R (tb t i c),M.getD (R.idxOf (ov n t e R (tb t i c))) 0)):=by
 unfold tL;rw [Mf,O0 hi];rfl
def xF (C CG:Addr) (K:LM):Sp:=fun vs H Q _=>∃ (p dx g:Addr) (v u z:V) (n e m l:Nat) (t:List (List Nat)) (R M:List Nat) (H0:Hp),vs=[.ref p,.ref g,v,u,z]/\H p=some (.ins C dx [])/\H0 p=none/\aj H0 H/\bK CG H0 g n t e/\GT n t e/\At K H0 v R/\IsPart n t R/\At K H0 u M/\M.length=R.length/\(∀ x∈M,x<m) /\
 (z=.int (m:Int)\/(z=.non/\m=l))/\dq (cH n t e) l/\m % l=0/\0<m/\m<=60/\(∀ j,j<R.length->∀ k,k<R.length->ie t R M m j k) /\
 ∀ d H' fs,aj H0 H'->H' p=some (.ins C dx fs)->WF fs (.ref g) m (cG n t e R).length (.ref d)->eO H' d (tL n t e R M)->Q .non H'
theorem Fg (T:Txt K mg):aI P w K mg base CX0 7 T.lQ T.jo ["self","group","part","marks","spokes"] (xF T.bo T.aS K):=by
 refine T.uG.ok lP (fun vs H Q E h=>?_) (fun cdv A outer s H vs Q E hr h=>?_)
 ·obtain ⟨p,dx,g,v,u,z,n,e,m,l,t,R,M,H0,rfl,_⟩:=h;rfl
 obtain ⟨p,dx,g,v,u,z,n,e,m,l,t,R,M,H0,rfl,hp,h0p,s0,hG,gt,hR,pt,hM,ml,mm,hz,hl,ml0,m1,m60,ok,q⟩:=h;have n1:=gt.pos;have n23:=gt.le;have rl:=pt.len;have cl:=uV (n:=n) (t:=t) (e:=e) (R:=R);have sv:vZ n t e z m:=by
  rcases hz with rfl|⟨rfl,rfl⟩
  ·exact .inr ⟨rfl,m1,m60,fun k hk=>by rw [hk.uni hl];exact ml0⟩
  ·exact .inl ⟨rfl,hl⟩
 refine ⟨_,(ae (bC (aO T.de (z9 T) (hr.mono (by decide)) rfl (paF (pv 1) (paF (pv 2) (paF (pv 3) (paF (pv 4) aa))))))
   (ae (iP K rfl (pv 0) (cp (fR K rfl) rfl T.fj Ng (paF (pv 2) aa)) rfl)
   (ae (iP K rfl (pv 0) (cp (fR K rfl) rfl T.fj Ng (paF (pv 3) aa)) rfl)
   (ae (eR (i:=5) rfl lP.nd rfl (Mg rfl) oK (aZ K rfl (aO T.jn (yu T) (hr.mono (by decide)) rfl (paF (pv 1) (paF (pv 2) aa)))) (fun _ _ _ _=>⟨(az (i:=0) oK.nd rfl (Mg rfl)),bj,(bJ rfl oa (aZ K rfl (pv 0)) (fun _ _ _ _=>⟨(Et K rfl (i:=0) (j:=1) rfl oa.nd rfl (Mg rfl) rfl (Mg rfl)),bj,(oq (paF (pv 0) (paF (ar (ai K rfl) (pv 2) (pv 1) (fun _ _=>rfl)) aa)))⟩))⟩) rfl)
   (ah (bC (oH rfl T.tN T.tS (rR T) (hr.mono (by decide)) T.ud (paF (pv 0) (paF (pv 1) (paF (aO T.cJ (nL T) (hr.mono (by decide)) rfl (paF (pv 1) (paF (pv 4) aa))) (paF (pv 5) aa))))))))))),?_⟩
 walk_at "rn";refine ⟨g,v,u,z,n,e,m,l,t,R,M,rfl,hG.mono s0,gt,Rep.mono s0 hR,pt,Rep.mono s0 hM,ml,mm,hz,hl,ml0,m1,m60,ok,fun H1 s1=>?_⟩;have s01:=s0.trans s1;have hp1:=s1 _ _ hp;walk_at "rn";refine ue (Rep.mono s01 hR) fun pa H2 fpa s2 ga=>?_;have hp2:=s2 _ _ hp1;have hpa:=fq ga;have npa:pa≠p:=fun y=>by rw [y,hp2] at hpa;cases hpa
 have fpa0:H0 pa=none:=s01.free fpa;walk_at "rd";refine ⟨p,T.bo,dx,_,rfl,hp2,T.oC,T.rf,(by show 0<1000;decide),?_⟩
 have s03:aj H0 (upd H2 p (.ins T.bo dx (cI "part" (.ref pa) []))):=fun b o y=>by rw [aq (aA y h0p)];exact s2 _ _ (s01 _ _ y)
 have hp3:(upd H2 p (.ins T.bo dx (cI "part" (.ref pa) []))) p=some (.ins T.bo dx [("part",.ref pa)]):=ao;have ha3:(upd H2 p (.ins T.bo dx (cI "part" (.ref pa) []))) pa=some (.lst (aY R)):=by rw [aq npa];exact hpa
 generalize upd H2 p (.ins T.bo dx (cI "part" (.ref pa) []))=H3 at s03 hp3 ha3;walk_at "rn";refine ue (Rep.mono s03 hM) fun ma H4 fma s4 gb=>?_;have hp4:=s4 _ _ hp3;have ha4:=s4 _ _ ha3;have hma:=fq gb;have nma:ma≠p:=fun y=>by rw [y,hp4] at hma;cases hma
 have fma0:H0 ma=none:=s03.free fma;walk_at "rd";refine ⟨p,T.bo,dx,_,rfl,hp4,T.oC,T.p9,(by show 1<1000;decide),?_⟩
 have s05:aj H0 (upd H4 p (.ins T.bo dx (cI "marks" (.ref ma) [("part",.ref pa)]))):=fun b o y=>by rw [aq (aA y h0p)];exact s4 _ _ (s03 _ _ y)
 have hp5:(upd H4 p (.ins T.bo dx (cI "marks" (.ref ma) [("part",.ref pa)]))) p=some (.ins T.bo dx [("part",.ref pa),("marks",.ref ma)]):=ao;have ha5:(upd H4 p (.ins T.bo dx (cI "marks" (.ref ma) [("part",.ref pa)]))) pa=some (.lst (aY R)):=by rw [aq npa];exact ha4
 have hb5:(upd H4 p (.ins T.bo dx (cI "marks" (.ref ma) [("part",.ref pa)]))) ma=some (.lst (aY M)):=by rw [aq nma];exact hma
 generalize upd H4 p (.ins T.bo dx (cI "marks" (.ref ma) [("part",.ref pa)]))=H5 at s05 hp5 ha5 hb5;walk_at "rn";refine ⟨g,v,n,e,t,R,rfl,hG.mono s05,gt,Rep.mono s05 hR,pt,fun d6 H6 fd6 s6 hD6=>?_⟩;have s06:=s05.trans s6;obtain ⟨ps6,h61,h62,h63⟩:=id hD6;have ln6:ps6.length=n:=by rw [h62];unfold o8;rw [LO,MU]
 walk_at "rn";refine u7 (tL n t e R M) (fun σ'=>∃ y,σ'=[y,some u]) (SqL.of h61) (by unfold tL;rw [LO,LO,MU];exact ln6) (by unfold tL;rw [LO,MU];omega) ⟨_,rfl⟩ ?_ ?_
 ·rintro i o r σ' H7 R' R0 ho hr7 s7 ⟨y,rfl⟩ hR';have hin:i<n:=by
   have:=(LQ.mp ho).1;rw [LO] at this;omega
  rw [xD hin] at hr7;cases hr7;rw [Mf] at ho;cases hq:ps6[i]? with
  | none=>rw [hq] at ho;cases ho
  | some pq =>
   rw [hq] at ho;cases ho;obtain ⟨qs,r1,r2,r3⟩:=(h63 i pq _ hq (Ek hin)).mono s7;rw [LO] at r2;walk_at "rn";refine Ct ((cG n t e R).map fun c=>(hm n t e R (tb t i c),M.getD (R.idxOf (ov n t e R (tb t i c))) 0)) (fun σ'=>∃ y1 y2,σ'=[y1,y2,some u]) (SqL.of r1) (by rw [LO,LO];exact r2) (by rw [LO];omega) ⟨_,_,rfl⟩ ?_ ?_
   ·rintro j o2 y2 σ' H8 R2 R02 ho2 hy2 s8 ⟨y1,y3,rfl⟩ hR2;rw [Mf] at ho2 hy2;cases hc:(cG n t e R)[j]? with
    | none=>rw [hc] at hy2;cases hy2
    | some c =>
     rw [hc] at hy2;cases hy2;cases hq2:qs[j]? with
     | none=>rw [hq2] at ho2;cases ho2
     | some q2 =>
      rw [hq2] at ho2;cases ho2;have ht:=s8 _ _ (r3 j q2 _ hq2 (by rw [Mf,hc];rfl))
      have cn:=iX (LR hc);have xn:=gt.lt i c hin cn;obtain ⟨_,k',_,z2,z3,_⟩:=Il gt pt xn;have kl:R.idxOf (ov n t e R (tb t i c))<M.length:=by rw [z3,ml];exact (LQ.mp z2).1
      refine ⟨q2,_,rfl,SqT.of ht,rfl,⟨_,_,rfl,⟨_,_,rfl,⟨rfl,?_⟩⟩⟩⟩;walk_at "6";refine bF (Rep.mono (s06.trans (s7.trans s8)) hM) (getD_some (l:=M) 0 kl) ?_;walk_at "rn";refine ⟨small (by show 2<=1000;decide),fun a ha=>?_⟩
      exact hR2 _ a _ ⟨_,_,rfl⟩ (ay ha _) ao
   ·intro d2 H8 fd2 s8 r8;exact hR' _ _ _ ⟨_,rfl⟩ s8 fd2 r8
 ·intro d7 H7 fd7 s7 hD7;have s07:=s06.trans s7;walk_at "rn";refine ⟨g,z,n,e,m,t,rfl,hG.mono s07,gt,sv,fun H8 s8=>?_⟩;have s58:=s6.trans (s7.trans s8);walk_at "rn";refine ⟨p,T.bo,dx,d7,.ref g,(m:Int),_,_,_,rfl,.inr (.inl rfl),s58 _ _ hp5,.inr ⟨_,_,rfl⟩,hD7.mono s8,xD n1,fun H9 fs h9 wf k9=>?_⟩;rw [LO] at wf;walk_at "rn";exact q d7 H9 fs (fun b o y=>k9 b o (s58 _ _ (s05 _ _ y)) (aA y h0p)) h9 wf ((hD7.mono s8).but (s58 _ _ hp5) k9)
def G6 (W:Addr->Prop):Sp:=fun vs H Q _=>∃ (a g:Addr) (x m n:Nat) (D:List (List (Nat×Nat))) (r:List (Nat×Nat)),vs=[.ref a,.int (x:Int)]/\nt W H a g m n D/\D[x]?=some r/\∀ p H',H p=none->aj H H'->jO H' p r->Q (.ref p) H'
theorem sQ (T:Txt K mg):aI P w K mg base CX0 1 T.eZ T.mH ["self","thing"] (G6 (kb T)):=by
 refine T.uv.ok Ah (fun vs H Q E h=>?_) (fun cdv A outer s H vs Q E hr h=>?_)
 ·obtain ⟨a,g,x,m,n,D,r,rfl,_⟩:=h;rfl
 obtain ⟨a,g,x,m,n,D,r,rfl,hW,hx,q⟩:=h;obtain ⟨C,dx,d,fs,hC,ha,wf,hD⟩:=id hW;refine ⟨_,(ah (aK (cp (fR K rfl) rfl T.fj Ng (paF (ar (ai K rfl) (cu K rfl (pv 0) rfl) (pv 1) (fun _ _=>rfl)) aa)))),?_⟩;walk_at "rx";refine HF T hC ha wf ?_;walk_at "rx";refine hD.get (aj.refl _) hx fun p hp=>?_;walk_at "rx";obtain ⟨qs,h1,h2,h3⟩:=hp;refine ⟨p,_,rfl,.inl (SqL.of h1),fun l hl=>?_⟩;have s1:=ay hl (.lst (qs.map V.ref));exact q l _ hl s1 ⟨qs,ao,h2,fun i q' y z1 z2=>s1 _ _ (h3 i q' y z1 z2)⟩
end
section
variable {P:Ms} {w:World} {K:LM} {mg:Str->Option Value} {base:Heap}
structure WOk (n m z:Nat) (D:List (List (Nat×Nat))):Prop where
 len:D.length=n
 row:∀ r∈D,r.length=z
 lt:∀ r∈D,∀ y∈r,y.2<m
 m1:1<=m
 m60:m<=60
 z1:z<=1000
 z0:1<=z
theorem WOk.get {n m z i:Nat} {D:List (List (Nat×Nat))} (h:WOk n m z D) (hi:i<n):∃ r,D[i]?=some r/\r∈D/\D.getD i []=r:=by
 have hl:i<D.length:=by rw [h.len];exact hi
 exact ⟨D[i],LP hl,Nu hl,by rw [LS,LP hl];rfl⟩
theorem EN {n e m:Nat} {t:List (List Nat)} (gt:GT n t e) (m1:0<m) (m60:m<=60):WOk n m n (iJ t):=by
 have n23:=gt.le;refine ⟨by unfold iJ;rw [LO];exact gt.len,fun r hr=>?_,fun r hr=>?_,m1,m60,by omega,gt.pos⟩
 ·unfold iJ at hr;obtain ⟨b,hb,rfl⟩:=Mm.mp hr;obtain ⟨i,hi⟩:=Ni hb;unfold n6;rw [LO];exact gt.row i b hi
 ·unfold iJ at hr;obtain ⟨b,hb,rfl⟩:=Mm.mp hr;exact F0 m1
theorem DR {H H1 H2:Hp} (s:aj H H1):aj (since H1 H2) (since H H2):=fun b o h=>by
 have hb:H1 b=none:=by
  unfold since at h;cases z:H1 b with
  | none=>rfl
  | some v=>rw [z] at h;cases h
 rw [ky hb] at h;rw [ky (s.free hb)];exact h
theorem Jy {H:Hp} {p:Addr} {xs:List V} {Q:VK} {σ:St} {g:TG} {tt:TT} {ta:TE} {own:List Str} {fr:List Nat} (L:List (List Nat)) (Sh:St->Prop) (hS:SqL K H p xs) (hl:xs.length=L.length) (hz:L.length<=1000) (h0:Sh (bW own fr σ))
  (turn:∀ (i:Nat) (x:V) (r:List Nat) σ' H' (R:St->V->Hp->Prop) (R0:St->Hp->Prop),xs[i]?=some x->L[i]?=some r->aj H H'->Sh σ'->(∀ σ2 q H5,Sh σ2->aj H' H5->H' q=none->H5 q=some (.lst (aY r))->R σ2 (.ref q) H5) ->
   g x σ' H' fun σ2 H3=>tt σ2 H3 fun ok H4=>if ok=true then ta σ2 H4 (R σ2) else R0 σ2 H4)
  (fin:∀ d H' ps,H d=none->aj H H'->Tbl H' d L ps->Q (.ref d) H'):m9 K (.ref p) H (fF own fr g tt ta σ Q):=by
 refine kN (p:=p) (xs:=xs) (by omega) (fun d i σ' H' ys=>aj H H'/\∃ (ps:List Addr),ys=ps.map V.ref/\i<=L.length/\Tbl H' d (L.take i) ps/\Sh σ')
  (fun d i σ' H' ys z=>z.1.seq hS) hS (fun d i σ' H' ys hi z=>by obtain ⟨_,ps,e,_,e2,_⟩:=z;rw [e,LO,e2.len,Mz];omega) (fun d hd=>⟨ay hd _,[],rfl,Nd _,Tbl.nil,h0⟩) ?_ ?_
 ·rintro d i o σ' H2 ys R R0 hd hi ⟨s2,ps,rfl,hil',tb2,hsh⟩ hys hR hR0;have hil:i<L.length:=by rw [<- hl];exact (LQ.mp hi).1
  refine turn i o _ σ' H2 R R0 hi (LP hil) s2 hsh fun σ2 a H5 hs2 s5 fa ha=>?_;have na:a≠d:=fun e=>by rw [e,hys] at fa;cases fa
  have np:a∉ps:=fun z=>by
   obtain ⟨k,hk⟩:=Ni z;have hk':k<(L.take i).length:=by rw [<- tb2.len];exact (LQ.mp hk).1
   have:=tb2.row k a _ hk (LP hk');rw [fa] at this;cases this
  refine hR _ _ _ (s5 _ _ hys) ⟨fun b o zz=>by rw [aq (aA zz hd)];exact s5 _ _ (s2 _ _ zz),ps++[a],by rw [MQ];rfl,hil,?_,hs2⟩
  rw [MK,LP hil];exact tb2.snoc s5 ha np na
 ·rintro d σ' H2 ys fd hd ⟨s2,ps,rfl,_,tb2,_⟩;rw [hl,NF] at tb2;exact fin d H2 ps fd s2 tb2
def GK (C:Addr) (K:LM):Sp:=fun vs H Q _=>∃ (g p1:Addr) (n e:Nat) (t:List (List Nat)) (R:List Nat),vs=[.ref g,.ref p1]/\bK C H g n t e/\GT n t e/\H p1=some (.lst (aY R))/\IsPart n t R /\
 ∀ g' H',H g'=none->aj H H'->bK C (since H H') g' R.length (pF t R) (R.idxOf e)->Q (.ref g') H'
theorem Hv (T:Txt K mg):aI P w K mg base CX0 4 T.jG.f T.jG.fd ["group","part"] (GK T.aS K):=by
 refine T.jG.ok Ai (fun vs H Q E h=>?_) (fun cdv A outer s H vs Q E hr h=>?_)
 ·obtain ⟨g,p1,n,e,t,R,rfl,_⟩:=h;rfl
 obtain ⟨g,p1,n,e,t,R,rfl,hG,gt,h1,pt,q⟩:=h;have n23:=gt.le;have rl:=pt.len;refine ⟨_,(ae (bC (aO T.bP (kg T) (hr.mono (by decide)) rfl (paF (pv 0) (paF (pv 1) aa))))
   (ah (aK (aO T.jB (uF T) (hr.mono (by decide)) rfl (paF (AW rfl wu (aZ K rfl (pv 1)) (fun _ _ _ _=>⟨(az (i:=0) wu.nd rfl (Pz rfl)),bj,(bJ rfl vU (aZ K rfl (pv 2)) (fun _ _ _ _=>⟨(az (i:=0) vU.nd rfl (Mg rfl)),bj,(fA K rfl MG Om O2 qO (pv 3) (paF (ar (ai K rfl) (ar (ai K rfl) (cu K rfl (pv 1) rfl) (pv 2) (fun _ _=>rfl)) (pv 0) (fun _ _=>rfl)) aa))⟩))⟩)) aa))))),?_⟩
 walk_at "rn";refine ⟨g,_,n,e,t,R,rfl,hG,gt,eN h1,pt,fun H1 s1=>?_⟩;obtain ⟨gx,gr,gb,hg,aR,aB⟩:=bK.get (K:=K) (hG.mono s1);have h11:=s1 _ _ h1;walk_at "rn";refine Jy (pF t R) (fun σ'=>∃ y,σ'=[y,some (.ref g),some (.ref p1)]) (SqL.of h11) (by unfold pF aY;rw [LO,LO]) (by unfold pF;rw [LO];omega) ⟨_,rfl⟩ ?_ ?_
 ·rintro i o r σ' H2 R' R0 ho hr2 hs ⟨y,rfl⟩ hR;unfold aY at ho;unfold pF at hr2;rw [Mf] at ho hr2;cases ha:R[i]? with
  | none=>rw [ha] at ho;cases ho
  | some a =>
   rw [ha] at ho hr2;cases ho;cases hr2;have haR:=LR ha;have han:=pt.lt a haR;have h12:=hs _ _ h11;walk_at "rn";refine o6 (α:=Nat) (β:=Nat) (eN h12) (by omega) (fun j=>(R.map fun b=>R.idxOf (tb t a b)).take j) (fun σ'=>∃ y,σ'=[y,some (.ref g),some (.int (a:Int)),some (.ref p1)]) rfl (fun i _=>by rw [Mz];omega) ⟨_,rfl⟩ ?_ ?_
   ·rintro j b w2 σ' H3 d3 R3 R03 hb hs3 hw2 ⟨y,rfl⟩ hR3 hR03 hd3;cases (show w2=V.int (b:Int) from hw2);have hbR:=LR hb;have hbn:=pt.lt b hbR;have h13:=hs3 _ _ h12;have s13:=hs.trans hs3;have hg3:=s13 _ _ hg;have aR3:=Rep.mono s13 aR;have hab:=pt.cl a haR b hbR;walk_at "rn";refine ⟨.inl ⟨rfl,_,SqL.of h13⟩,?_⟩;walk_at "rg";refine dI aR3 rfl (gt.get han) fun w1 hw1=>?_;walk_at "rn";refine bF hw1 (gt.ef han hbn) ?_;walk_at "rn";refine tF h13 (wI hab) (fun i' hi'=>si hi') ?_;exact hR3 _ _ _ _ ⟨_,rfl⟩ (aj.refl _) rfl (by rw [MK,Mf,hb];rfl)
   ·intro d3 H3 fd3 s3 h3;have g3:Gr K H3 d3 ((R.map fun b=>R.idxOf (tb t a b)).take R.length):=h3;rw [MD (by simp)] at g3
    exact hR _ _ _ ⟨_,rfl⟩ s3 fd3 (fq g3)
 ·intro d2 H2 ps2 fd2 s2 tb2;walk_at "rn";refine ⟨_,_,_,pF t R,rfl,tb2.at,Kr gt pt,fun g' H3 fg s3 hg3=>?_⟩;have s02:=s1.trans s2;exact q g' H3 (s02.free fg) (s02.trans s3) (hg3.mono (DR s02))
theorem WOk.part {n m z:Nat} {t:List (List Nat)} {R:List Nat} {D:List (List (Nat×Nat))} (h:WOk n m z D) (pt:IsPart n t R):WOk R.length m z (qB D R):=by
 refine ⟨by unfold qB;rw [LO],fun r hr=>?_,fun r hr=>?_,h.m1,h.m60,h.z1,h.z0⟩
 ·obtain ⟨a,ha,rfl⟩:=Mm.mp hr;obtain ⟨r,_,h2,h3⟩:=h.get (pt.lt a ha);rw [h3];exact h.row r h2
 ·obtain ⟨a,ha,rfl⟩:=Mm.mp hr;obtain ⟨r,_,h2,h3⟩:=h.get (pt.lt a ha);rw [h3];exact h.lt r h2
def xW (W:Addr->Prop) (C CG:Addr):Sp:=fun vs H Q _=>∃ (p dx a g p1:Addr) (n e m z:Nat) (t:List (List Nat)) (D:List (List (Nat×Nat))) (R:List Nat),vs=[.ref p,.ref a,.ref p1]/\H p=some (.ins C dx [])/\nt W H a g m z D/\bK CG H g n t e/\GT n t e/\WOk n m z D/\H p1=some (.lst (aY R))/\IsPart n t R /\
 ∀ g' d H' fs,bK CG (since H H') g' R.length (pF t R) (R.idxOf e)->H' p=some (.ins C dx fs)->WF fs (.ref g') m z (.ref d)->eO H' d (qB D R)->(∀ a o,H a=some o->a≠p->H' a=some o)->Q .non H'
theorem Ew (T:Txt K mg):aI P w K mg base CX0 5 T.mn T.lH ["self","way","part"] (xW (kb T) T.ck T.aS):=by
 refine T.uI.ok qw (fun vs H Q E h=>?_) (fun cdv A outer s H vs Q E hr h=>?_)
 ·obtain ⟨p,dx,a,g,p1,n,e,m,z,t,D,R,rfl,_⟩:=h;rfl
 obtain ⟨p,dx,a,g,p1,n,e,m,z,t,D,R,rfl,hp,hW,hG,gt,wo,h1,pt,k⟩:=h;obtain ⟨C,cx,d0,fs,hC,ha,wf,hD⟩:=id hW;have n23:=gt.le;have rl:=pt.len;refine ⟨_,(ah (bC (oH rfl T.tN T.tS (rR T) (hr.mono (by decide)) T.ud (paF (pv 0) (paF (aO T.jG (Hv T) (hr.mono (by decide)) rfl (paF (cu K rfl (pv 1) rfl) (paF (pv 2) aa))) (paF (cu K rfl (pv 1) rfl) (paF (bJ rfl ix (aZ K rfl (pv 2)) (fun _ _ _ _=>⟨(az (i:=0) ix.nd rfl (Mg rfl)),bj,(z7 (pv 1) (yj T) (sQ T) (hr.mono (by decide)) T.pC (paF (pv 0) aa))⟩)) aa))))))),?_⟩
 walk_at "rn";refine A0 T hC ha wf ?_;walk_at "rn";refine ⟨g,p1,n,e,t,R,rfl,hG,gt,h1,pt,fun g' H1 fg s1 hg1=>?_⟩;walk_at "rn";refine Fp T hC (s1 _ _ ha) wf ?_;walk_at "rn";have h11:=s1 _ _ h1;refine u7 (qB D R) (fun σ'=>∃ y,σ'=[y,some (.ref a)]) (SqL.of h11) (by unfold qB aY;rw [LO,LO]) (by unfold qB;rw [LO];omega) ⟨_,rfl⟩ ?_ ?_
 ·rintro i o r σ' H2 R' R0 ho hr2 s2 ⟨y,rfl⟩ hR';unfold aY at ho;unfold qB at hr2;rw [Mf] at ho hr2;cases hb:R[i]? with
  | none=>rw [hb] at ho;cases ho
  | some b =>
   rw [hb] at ho hr2;cases ho;cases hr2;obtain ⟨r0,hr0,hm0,hd0⟩:=wo.get (pt.lt b (LR hb));dsimp only at hR';rw [hd0] at hR';have s12:=s1.trans s2;walk_at "rn";refine Jp ?_;walk_at "rn";refine ⟨C,a,cx,fs,hC,rfl,s12 _ _ ha,wf.moves,?_⟩;walk_at "rn";refine ⟨a,g,b,m,z,D,r0,rfl,hW.mono s12,hr0,fun pm H3 fpm s3 r3=>?_⟩;exact hR' _ _ _ ⟨_,rfl⟩ s3 fpm r3
 ·intro d H2 fd s2 hD2;have s12:=s1.trans s2;have wp:=wo.part pt;obtain ⟨r0,hr0,hm0,_⟩:=wp.get (MR.mpr pt.ne);walk_at "rn";refine ⟨p,T.ck,dx,d,.ref g',(m:Int),[],_,_,rfl,En T,s12 _ _ hp,.inl rfl,hD2,hr0,fun H3 fs3 h3 wf3 k3=>?_⟩;rw [wp.row r0 hm0] at wf3;walk_at "rn";refine k g' d H3 fs3 (hg1.mono fun b o y=>?_) h3 wf3 (hD2.but (s12 _ _ hp) k3) fun b o hb hne=>k3 b o (s12 _ _ hb) hne;have hb:H b=none:=by
   unfold since at y;cases z:H b with
   | none=>rfl
   | some v=>rw [z] at y;cases y
  rw [ky hb] at y ⊢;exact k3 b o (s2 _ _ y) fun z=>by rw [z,hp] at hb;cases hb
theorem pb (T:Txt K mg):aI P w K mg base (CXR P w) 4 T.bU.f T.bU.fd ["group","part","marks","spokes"] (fun vs H Q E=>pR T.aS K vs H Q E\/fK T.bx T.ba T.bq T.aS K vs H Q E):=aI.both (pX T) (we T)
def m8 (CE C:Addr) (K:LM):Sp:=fun vs H _ E=>∃ (g:Addr) (v u:V) (n e m l a b:Nat) (t:List (List Nat)) (R M:List Nat),vs=[.ref g,v,u,.int (m:Int)]/\bK C H g n t e/\GT n t e/\At K H v R/\IsPart n t R/\At K H u M/\M.length=R.length/\(∀ x∈M,x<m) /\
 dq (cH n t e) l/\m % l=0/\0<m/\m<=60/\kM t R M m (some (a,b))/\∀ d H',aj H H'->Fld H' d [("one",.int (a:Int)),("two",.int (b:Int))]->E (.ref CE) d H'
theorem yH (T:Txt K mg):aI P w K mg base (CXR P w) 5 T.de.f T.de.fd ["group","part","marks","spokes"] (fun vs H Q E=>fK T.bx T.ba T.bq T.aS K vs H Q E\/m8 T.bV T.aS K vs H Q E):=by
 refine aI.orR ?_ ?_
 ·refine T.de.fn.okX gw (fun vs H Q E h=>?_) (fun cdv A outer s H vs Q E hr h=>?_)
  ·obtain ⟨g,v,u,m,n,e,t,L,M,CE,rfl,_⟩:=h;rfl
  obtain ⟨g,v,u,m,n,e,t,L,M,CE,rfl,h⟩:=h;refine ⟨_,fun okc=>(ae (au (i:=4) gw.nd rfl (Mg rfl) (EZ T.bU (pb T) (hr.mono (by decide)) rfl mE (paF (pv 0) (paF (pv 1) (paF (pv 2) (paF (pv 3) aa))))))
   oZ),?_⟩
  walk_at "rn";exact .inr ⟨g,v,u,m,n,e,t,L,M,CE,rfl,h⟩
 ·refine T.de.fn.okX gw (fun vs H Q E h=>?_) (fun cdv A outer s H vs Q E hr h=>?_)
  ·obtain ⟨g,v,u,n,e,m,l,a,b,t,R,M,rfl,_⟩:=h;rfl
  obtain ⟨g,v,u,n,e,m,l,a,b,t,R,M,rfl,hG,gt,hR,pt,hM,ml,mm,hl,ml0,m1,m60,br,q⟩:=h;refine ⟨_,fun okc=>(ae (au (i:=4) gw.nd rfl (Mg rfl) (EZ T.bU (pb T) (hr.mono (by decide)) rfl mE (paF (pv 0) (paF (pv 1) (paF (pv 2) (paF (pv 3) aa))))))
   (ah (aW (tj (Cp (pv 4))) (ah (FX T.kQ (Hq T) T.Cj (hr.mono (by decide)) tM rfl rfl rfl T.xk (paF (ar (js K rfl) (pv 4) af (fun _ _=>rfl)) (paF (ar (js K rfl) (pv 4) af (fun _ _=>rfl)) aa)))) aQ))),?_⟩
  walk_at "rn";refine .inl ⟨g,v,u,_,n,e,m,l,t,R,M,rfl,hG,gt,hR,pt,hM,ml,mm,.inl rfl,hl,ml0,m1,m60,fun x H1 o s1 hx hb=>?_⟩;obtain rfl:=hb.uni br;obtain ⟨p,rfl,hp⟩:=hx;walk_at "2";rw [if_pos (by simp)]
  walk_at "rn";refine GL ?_;walk_at "rn";refine nM (i:=0) hp rfl ?_;walk_at "rn";refine nM (i:=1) hp rfl ?_;walk_at "rn";exact G0 rfl (by show 2<=1000;decide) fun d H2 s2 f2=>q d H2 (s1.trans s2) f2
def spM (sp:Sp):Sp:=fun vs H Q E=>∃ (x:V) (ws:List V),vs=x :: ws/\sp ws H Q E
theorem Dy (T:Txt K mg):aI P w K mg base (CXR P w) 7 T.lQ T.jo ["self","group","part","marks","spokes"] (spM fun vs H Q E=>fK T.bx T.ba T.bq T.aS K vs H Q E\/m8 T.bV T.aS K vs H Q E):=by
 refine T.uG.okX lP (fun vs H Q E h=>?_) (fun cdv A outer s H vs Q E hr h=>?_)
 ·obtain ⟨x,ws,rfl,h⟩:=h;rcases h with ⟨g,v,u,m,n,e,t,L,M,CE,rfl,_⟩|⟨g,v,u,n,e,m,l,a,b,t,R,M,rfl,_⟩ <;> rfl
 obtain ⟨x,ws,rfl,h⟩:=h;obtain ⟨g,v,u,m,rfl⟩:∃ g v u m,ws=[.ref g,v,u,.int m]:=by
  rcases h with ⟨g,v,u,m,n,e,t,L,M,CE,rfl,_⟩|⟨g,v,u,n,e,m,l,a,b,t,R,M,rfl,_⟩ <;> exact ⟨_,_,_,_,rfl⟩
 refine ⟨_,fun okc=>(ae (bC (m7 T.de (yH T) (hr.mono (by decide)) rfl mE (paF (pv 1) (paF (pv 2) (paF (pv 3) (paF (pv 4) aa)))))) oZ),?_⟩
 walk_at "rn";exact h
theorem BZ (T:Txt K mg):aI P w K mg base (CXR P w) 4 T.kS T.gW ["self","group","spokes"] (spM (mL T.ba T.aS)):=by
 refine T.sk.okX i5 (fun vs H Q E h=>?_) (fun cdv A outer s H vs Q E hr h=>?_)
 ·obtain ⟨x,ws,rfl,g,m,n,e,t,rfl,_⟩:=h;rfl
 obtain ⟨x,ws,rfl,g,m,n,e,t,rfl,hG,gt,hm,q⟩:=h;obtain ⟨gx,gr,gb,ps,hg,hT,hb⟩:=id hG;refine ⟨_,fun okc=>(ae (eR (i:=3) rfl i5.nd rfl (Mg rfl) gm (aZ K rfl (cu K rfl (pv 1) rfl)) (fun _ _ _ _=>⟨(az (i:=0) gm.nd rfl (Mg rfl)),bj,(bJ rfl gk (aZ K rfl (pv 0)) (fun _ _ _ _=>⟨(az (i:=0) gk.nd rfl (Mg rfl)),bj,(oq (paF (pv 0) (paF af aa)))⟩))⟩) rfl)
   (ah (bC (oH rfl T.tN T.tS (rR T) (hr.mono (by decide)) T.ud (paF (pv 0) (paF (pv 1) (paF (m7 T.cJ (uu T) (hr.mono (by decide)) rfl mE (paF (pv 1) (paF (pv 2) aa))) (paF (pv 3) aa)))))))),?_⟩
 walk_at "rx";refine cL T hg ?_;have n1:=gt.pos;have n23:=gt.le;have lt:=gt.len;refine Ax hT.at (by omega) (fun r hr=>by obtain ⟨i,hi⟩:=Ni hr;have:=gt.row i r hi;omega) fun d H1 fd s1 hD=>?_
 walk_at "rx";exact .inr ⟨g,m,n,e,t,rfl,hG.mono s1,gt,hm,fun H2 s2=>q H2 (s1.trans s2)⟩
theorem DN (T:Txt K mg):aI P w K mg base (CXR P w) 5 T.mn T.lH ["self","way","part"] (fun vs H Q E=>∃ (x:V) (a g:Addr) (v:V) (m z:Nat) (D:List (List (Nat×Nat))),vs=[x,.ref a,v]/\nt (kb T) H a g m z D/\spN T.bx T.aS K [.ref g,v] H Q E):=by
 refine T.uI.okX qw (fun vs H Q E h=>?_) (fun cdv A outer s H vs Q E hr h=>?_)
 ·obtain ⟨x,a,g,v,m,z,D,rfl,_⟩:=h;rfl
 obtain ⟨x,a,g,v,m,z,D,rfl,hW,h⟩:=h;obtain ⟨C,cx,d0,fs,hC,ha,wf,hD⟩:=id hW;refine ⟨_,fun okc=>(ah (bC (oH rfl T.tN T.tS (rR T) (hr.mono (by decide)) T.ud (paF (pv 0) (paF (m7 T.jG (Fh T) (hr.mono (by decide)) rfl mE (paF (cu K rfl (pv 1) rfl) (paF (pv 2) aa))) (paF (cu K rfl (pv 1) rfl) (paF (bJ rfl ix (aZ K rfl (pv 2)) (fun _ _ _ _=>⟨(az (i:=0) ix.nd rfl (Mg rfl)),bj,(z7 (pv 1) (yj T) (sQ T) (hr.mono (by decide)) T.pC (paF (pv 0) aa))⟩)) aa))))))),?_⟩
 walk_at "rn";refine A0 T hC ha wf ?_;walk_at "rn";exact h
instance:bQ Bool where
 depth:=0
 inj:=fun _ h h'=>by cases h;cases h';rfl
 eq:=fun {X pins σ H s A x y u v a b} _ hx hy ru rv _=>by
  cases hx;cases hy;have q:=rS (A:=A) (s:=s) ru rv rfl rfl;have e:eqV (.bl a) (.bl b)=decide (a=b):=by cases a <;> cases b <;> rfl
  rw [e] at q;exact q
theorem IA {H:Hp}:∀ {l:List Bool},Nt (Rep.is K H) (l.map V.bl) l
 | []=>.nil
 | x :: l=>.cons rfl IA
theorem KU {H:Hp} {p:Addr} {l:List Bool} (h:H p=some (.lst (l.map V.bl))):At K H (.ref p) l:=⟨p,_,rfl,SqL.of h,IA⟩
theorem iu {α β:Type} {F:α->β->Prop} {a:α} {b:β} {as:List α} {bs:List β} (h:Nt F (a :: as) (b :: bs)):F a b/\Nt F as bs:=by
 cases h with
 | cons r t=>exact ⟨r,t⟩
def kO (K:LM) (C D:Addr) (b:Bool):Prop:=MJ K (.ref C) (.ref D)=some b
def A8 (Ds:List Addr) (K:LM):Sp:=fun vs H Q _=>∃ (x C:Addr) (di:Option Addr) (bs:List Bool),vs=[.ref x]/\H x=some (iD x C di)/\cq K C/\Nt (kO K C) Ds bs/\∀ d H',H d=none->aj H H'->H' d=some (.lst (bs.map V.bl))->Q (.ref d) H'
theorem zF (T:Txt K mg):aI P w K mg base CX0 1 T.j5.f T.j5.fd ["_law_met_here"] (A8 [T.bx,T.cY,T.ba,T.fY,T.bq,T.bV,T.cN,T.cP,T.dR,T.eU,T.eW,T.dQ,T.fX,T.fW,T.cB] K):=by
 refine T.j5.ok jj (fun vs H Q E h=>?_) (fun cdv A outer s H vs Q E hr h=>?_)
 ·obtain ⟨x,C,di,bs,rfl,_⟩:=h;rfl
 obtain ⟨x,C,di,bs,rfl,hx,hc,hp,q⟩:=h;obtain ⟨b1,b2,b3,b4,b5,b6,b7,b8,b9,b10,b11,b12,b13,b14,b15,rfl⟩:∃ b1 b2 b3 b4 b5 b6 b7 b8 b9 b10 b11 b12 b13 b14 b15,bs=[b1,b2,b3,b4,b5,b6,b7,b8,b9,b10,b11,b12,b13,b14,b15]:=by
  have e:=OC hp
  match bs,e with
  | [b1,b2,b3,b4,b5,b6,b7,b8,b9,b10,b11,b12,b13,b14,b15],_=>exact ⟨_,_,_,_,_,_,_,_,_,_,_,_,_,_,_,rfl⟩
 obtain ⟨h1,hp⟩:=iu hp;obtain ⟨h2,hp⟩:=iu hp;obtain ⟨h3,hp⟩:=iu hp;obtain ⟨h4,hp⟩:=iu hp;obtain ⟨h5,hp⟩:=iu hp;obtain ⟨h6,hp⟩:=iu hp;obtain ⟨h7,hp⟩:=iu hp;obtain ⟨h8,hp⟩:=iu hp;obtain ⟨h9,hp⟩:=iu hp;obtain ⟨h10,hp⟩:=iu hp;obtain ⟨h11,hp⟩:=iu hp;obtain ⟨h12,hp⟩:=iu hp;obtain ⟨h13,hp⟩:=iu hp;obtain ⟨h14,hp⟩:=iu hp;obtain ⟨h15,hp⟩:=iu hp;refine ⟨_,(ae (au (i:=1) jj.nd rfl (Mg rfl) (bg (paF (av (bI K rfl) rfl T.bc Mr (paF (pv 0) (paF (cM (v:=.ref T.bx) rfl T.u9 rfl) aa))) (paF (av (bI K rfl) rfl T.bc Mr (paF (pv 0) (paF (cM (v:=.ref T.cY) rfl T.uD rfl) aa))) (paF (av (bI K rfl) rfl T.bc Mr (paF (pv 0) (paF (cM (v:=.ref T.ba) rfl T.nv rfl) aa))) aa)))))
   (ae (au (i:=1) jj.nd rfl (Mg rfl) (ak fv (pv 1) (bg (paF (av (bI K rfl) rfl T.bc Mr (paF (pv 0) (paF (cM (v:=.ref T.fY) rfl T.Bd rfl) aa))) (paF (av (bI K rfl) rfl T.bc Mr (paF (pv 0) (paF (cM (v:=.ref T.bq) rfl T.nG rfl) aa))) (paF (av (bI K rfl) rfl T.bc Mr (paF (pv 0) (paF (cM (v:=.ref T.bV) rfl T.xk rfl) aa))) aa))))))
   (ae (au (i:=1) jj.nd rfl (Mg rfl) (ak fv (pv 1) (bg (paF (av (bI K rfl) rfl T.bc Mr (paF (pv 0) (paF (cM (v:=.ref T.cN) rfl T.rT rfl) aa))) (paF (av (bI K rfl) rfl T.bc Mr (paF (pv 0) (paF (cM (v:=.ref T.cP) rfl T.rP rfl) aa))) (paF (av (bI K rfl) rfl T.bc Mr (paF (pv 0) (paF (cM (v:=.ref T.dR) rfl T.wg rfl) aa))) aa))))))
   (ae (au (i:=1) jj.nd rfl (Mg rfl) (ak fv (pv 1) (bg (paF (av (bI K rfl) rfl T.bc Mr (paF (pv 0) (paF (cM (v:=.ref T.eU) rfl T.xM rfl) aa))) (paF (av (bI K rfl) rfl T.bc Mr (paF (pv 0) (paF (cM (v:=.ref T.eW) rfl T.xA rfl) aa))) (paF (av (bI K rfl) rfl T.bc Mr (paF (pv 0) (paF (cM (v:=.ref T.dQ) rfl T.vo rfl) aa))) aa))))))
   (ah (aK (ak fv (pv 1) (bg (paF (av (bI K rfl) rfl T.bc Mr (paF (pv 0) (paF (cM (v:=.ref T.fX) rfl T.AQ rfl) aa))) (paF (av (bI K rfl) rfl T.bc Mr (paF (pv 0) (paF (cM (v:=.ref T.fW) rfl T.zy rfl) aa))) (paF (av (bI K rfl) rfl T.bc Mr (paF (pv 0) (paF (cM (v:=.ref T.cB) rfl T.rH rfl) aa))) aa))))))))))),?_⟩
 walk_at "5";refine cT hx hc h1 ?_;walk_at "rx";refine cT hx hc h2 ?_;walk_at "rx";refine cT hx hc h3 ?_;walk_at "rx";refine ⟨small (by show 3<=1000;decide),fun p1 hp1=>?_⟩
 have s1:=ay hp1 (.lst [.bl b1,.bl b2,.bl b3]);have g1:(upd H p1 (.lst [.bl b1,.bl b2,.bl b3])) p1=some (.lst ([b1,b2,b3].map V.bl)):=ao;generalize upd H p1 (.lst [.bl b1,.bl b2,.bl b3])=H1 at s1 g1;walk_at "5";refine cT (s1 _ _ hx) hc h4 ?_;walk_at "rx";refine cT (s1 _ _ hx) hc h5 ?_;walk_at "rx";refine cT (s1 _ _ hx) hc h6 ?_;walk_at "rx";refine ⟨small (by show 3<=1000;decide),fun p4 hp4=>?_⟩
 have n4:p1≠p4:=fun e=>by rw [<- e,g1] at hp4;cases hp4
 refine ⟨p1,p4,_,_,rfl,rfl,by rw [aq n4];exact g1,ao,small (by show _<=1000;simp),fun c4 hc4=>?_⟩
 have s4:=s1.trans ((ay hp4 (.lst [.bl b4,.bl b5,.bl b6])).trans (ay hc4 (.lst ([b1,b2,b3].map V.bl++[.bl b4,.bl b5,.bl b6]))));have g4:(upd (upd H1 p4 (.lst [.bl b4,.bl b5,.bl b6])) c4 (.lst ([b1,b2,b3].map V.bl++[.bl b4,.bl b5,.bl b6]))) c4=some (.lst ([b1,b2,b3,b4,b5,b6].map V.bl)):=ao;generalize upd (upd H1 p4 (.lst [.bl b4,.bl b5,.bl b6])) c4 (.lst ([b1,b2,b3].map V.bl++[.bl b4,.bl b5,.bl b6]))=H4 at s4 g4;walk_at "5";refine cT (s4 _ _ hx) hc h7 ?_;walk_at "rx";refine cT (s4 _ _ hx) hc h8 ?_;walk_at "rx";refine cT (s4 _ _ hx) hc h9 ?_;walk_at "rx";refine ⟨small (by show 3<=1000;decide),fun p7 hp7=>?_⟩
 have n7:c4≠p7:=fun e=>by rw [<- e,g4] at hp7;cases hp7
 refine ⟨c4,p7,_,_,rfl,rfl,by rw [aq n7];exact g4,ao,small (by show _<=1000;simp),fun c7 hc7=>?_⟩
 have s7:=s4.trans ((ay hp7 (.lst [.bl b7,.bl b8,.bl b9])).trans (ay hc7 (.lst ([b1,b2,b3,b4,b5,b6].map V.bl++[.bl b7,.bl b8,.bl b9]))));have g7:(upd (upd H4 p7 (.lst [.bl b7,.bl b8,.bl b9])) c7 (.lst ([b1,b2,b3,b4,b5,b6].map V.bl++[.bl b7,.bl b8,.bl b9]))) c7=some (.lst ([b1,b2,b3,b4,b5,b6,b7,b8,b9].map V.bl)):=ao;generalize upd (upd H4 p7 (.lst [.bl b7,.bl b8,.bl b9])) c7 (.lst ([b1,b2,b3,b4,b5,b6].map V.bl++[.bl b7,.bl b8,.bl b9]))=H7 at s7 g7;walk_at "5";refine cT (s7 _ _ hx) hc h10 ?_;walk_at "rx";refine cT (s7 _ _ hx) hc h11 ?_;walk_at "rx";refine cT (s7 _ _ hx) hc h12 ?_;walk_at "rx";refine ⟨small (by show 3<=1000;decide),fun p10 hp10=>?_⟩
 have n10:c7≠p10:=fun e=>by rw [<- e,g7] at hp10;cases hp10
 refine ⟨c7,p10,_,_,rfl,rfl,by rw [aq n10];exact g7,ao,small (by show _<=1000;simp),fun c10 hc10=>?_⟩
 have s10:=s7.trans ((ay hp10 (.lst [.bl b10,.bl b11,.bl b12])).trans (ay hc10 (.lst ([b1,b2,b3,b4,b5,b6,b7,b8,b9].map V.bl++[.bl b10,.bl b11,.bl b12]))));have g10:(upd (upd H7 p10 (.lst [.bl b10,.bl b11,.bl b12])) c10 (.lst ([b1,b2,b3,b4,b5,b6,b7,b8,b9].map V.bl++[.bl b10,.bl b11,.bl b12]))) c10=some (.lst ([b1,b2,b3,b4,b5,b6,b7,b8,b9,b10,b11,b12].map V.bl)):=ao;generalize upd (upd H7 p10 (.lst [.bl b10,.bl b11,.bl b12])) c10 (.lst ([b1,b2,b3,b4,b5,b6,b7,b8,b9].map V.bl++[.bl b10,.bl b11,.bl b12]))=H10 at s10 g10;walk_at "5";refine cT (s10 _ _ hx) hc h13 ?_;walk_at "rx";refine cT (s10 _ _ hx) hc h14 ?_;walk_at "rx";refine cT (s10 _ _ hx) hc h15 ?_;walk_at "rx";refine ⟨small (by show 3<=1000;decide),fun p13 hp13=>?_⟩
 have n13:c10≠p13:=fun e=>by rw [<- e,g10] at hp13;cases hp13
 refine ⟨c10,p13,_,_,rfl,rfl,by rw [aq n13];exact g10,ao,small (by show _<=1000;simp),fun c13 hc13=>?_⟩
 have s13:=s10.trans ((ay hp13 (.lst [.bl b13,.bl b14,.bl b15])).trans (ay hc13 (.lst ([b1,b2,b3,b4,b5,b6,b7,b8,b9,b10,b11,b12].map V.bl++[.bl b13,.bl b14,.bl b15]))));have g13:(upd (upd H10 p13 (.lst [.bl b13,.bl b14,.bl b15])) c13 (.lst ([b1,b2,b3,b4,b5,b6,b7,b8,b9,b10,b11,b12].map V.bl++[.bl b13,.bl b14,.bl b15]))) c13=some (.lst ([b1,b2,b3,b4,b5,b6,b7,b8,b9,b10,b11,b12,b13,b14,b15].map V.bl)):=ao;generalize upd (upd H10 p13 (.lst [.bl b13,.bl b14,.bl b15])) c13 (.lst ([b1,b2,b3,b4,b5,b6,b7,b8,b9,b10,b11,b12].map V.bl++[.bl b13,.bl b14,.bl b15]))=H13 at s13 g13;exact q c13 H13 (s10.free ((ay hp13 _).free hc13)) s13 g13
theorem fO {C:Addr}:∀ {Ds:List Addr} {bs:List Bool},flagsOf K C Ds=bs.map some->Nt (kO K C) Ds bs
 | [],[],_=>.nil
 | [],_ :: _,h=>by cases h
 | _ :: _,[],h=>by cases h
 | D :: Ds,b :: bs,h=>by
  unfold flagsOf at h;rw [MO,MO] at h;injection h with h1 h2;exact .cons h1 (fO h2)
def names9:List Str:=["NoPart","NotSteady","BadWheel","NoMove","BadMarks","NoWay","OtherGroup","OtherWheel","TooGreat"]
def qX (n:Str):List Bool:=names9.map fun o=>decide (V.str o=V.str n)
def rX (n:Str):List Bool:=qX n++Mv 6 false
def BX (Ds:List Addr) (K:LM):Sp:=fun vs H Q _=>∃ (x C:Addr) (di:Option Addr) (n:Str),vs=[.ref x,.str n]/\H x=some (iD x C di)/\cq K C/\MJ K (.ref C) (.type "ValueError")=some true/\Nt (kO K C) Ds (rX n)/\∀ H',aj H H'->Q (.bl true) H'
theorem BV (T:Txt K mg):aI P w K mg base CX0 2 T.kU.f T.kU.fd ["_law_met_here","_law_name"] (BX [T.bx,T.cY,T.ba,T.fY,T.bq,T.bV,T.cN,T.cP,T.dR,T.eU,T.eW,T.dQ,T.fX,T.fW,T.cB] K):=by
 refine T.kU.ok pH (fun vs H Q E h=>?_) (fun cdv A outer s H vs Q E hr h=>?_)
 ·obtain ⟨x,C,di,n,rfl,_⟩:=h;rfl
 obtain ⟨x,C,di,n,rfl,hx,hc,hv,hp,q⟩:=h;refine ⟨_,(ae (au (i:=2) pH.nd rfl (Mg rfl) (bg (paF cQ (paF cQ (paF cQ (paF cQ (paF cQ (paF cQ (paF cQ (paF cQ (paF cQ aa)))))))))))
   (ae (au (i:=3) pH.nd rfl (Mg rfl) (ak fv (bJ rfl rq (aZ K rfl (pv 2)) (fun _ _ _ _=>⟨(az (i:=0) rq.nd rfl (Mg rfl)),bj,(bS bM (pv 0) (pv 1) (aE _))⟩)) (ak Ke (bg (paF eP aa)) af)))
   (ah (aK (fP (av (bI K rfl) rfl T.bc Mr (paF (pv 0) (paF (wM (v:=.ty "ValueError") rfl T.gJ rfl rfl) aa))) (jh (bS (CF K rfl Bool hr.units) (aO T.j5 (zF T) (hr.mono (by decide)) rfl (paF (pv 0) aa)) (pv 3) (aE _)))))))),?_⟩
 walk_at "5";refine ⟨small (by show 9<=1000;decide),fun p1 hp1=>?_⟩
 have s1:=ay hp1 (.lst (names9.map V.str));have h1:(upd H p1 (.lst (names9.map V.str))) p1=some (.lst (names9.map V.str)):=ao;rw [show [V.str (N6 "NoPart"),V.str (N6 "NotSteady"),V.str (N6 "BadWheel"),V.str (N6 "NoMove"),V.str (N6 "BadMarks"),V.str (N6 "NoWay"),V.str (N6 "OtherGroup"),V.str (N6 "OtherWheel"),V.str (N6 "TooGreat")]=names9.map V.str from rfl];generalize (upd H p1 (.lst (names9.map V.str)))=H1 at s1 h1;walk_at "rx";refine kN (p:=p1) (xs:=names9.map V.str) (by show 9<=100000;decide) (fun d i σ' H' ys=>aj H1 H'/\∃ y:Option V,ys=((qX n).take i).map V.bl/\σ'=[y,some (.str n)]) (fun d i σ' H' ys z=>z.1.seq (SqL.of h1)) (SqL.of h1)
  (fun d i σ' H' ys hi z=>by obtain ⟨_,y,e,_⟩:=z;rw [e,LO,Mz];omega) (fun d hd=>⟨ay hd _,_,rfl,rfl⟩) ?_ ?_
 ·rintro d i o σ' H2 ys R R0 hd hi ⟨s2,y,rfl,rfl⟩ hys hR hR0;obtain ⟨o',ho,rfl⟩:∃ o',names9[i]?=some o'/\V.str o'=o:=by
   rw [Mf] at hi;cases hn:names9[i]? with
   | none=>rw [hn] at hi;cases hi
   | some o'=>rw [hn] at hi;exact ⟨o',rfl,ML hi⟩
  walk_at "rx";refine ⟨rfl,?_⟩;walk_at "rx";refine hR _ _ _ hys ⟨fun b o zz=>by rw [aq (aA zz hd)];exact s2 _ _ zz,_,?_,rfl⟩
  rw [MK,MQ];unfold qX;rw [Mf,ho];rfl
 rintro d2 σ2 H2 ys fd2 hd2 ⟨s2,y,rfl,rfl⟩;have hd2':H2 d2=some (.lst ((qX n).map V.bl)):=by
  rw [hd2,MD (by unfold qX;rw [LO,LO];exact Mi _)]
 have s02:=s1.trans s2;walk_at "5";refine ⟨small (by show 1<=1000;decide),fun p3 hp3=>?_⟩
 have s3:=ay hp3 (.lst [.bl false]);have h3:(upd H2 p3 (.lst [.bl false])) p3=some (.lst [.bl false]):=ao;generalize upd H2 p3 (.lst [.bl false])=H3 at s3 h3;walk_at "rx";refine ⟨p3,_,_,rfl,rfl,h3,by omega,by omega,?_,fun p4 hp4=>?_⟩
 ·rw [NJ];show 1 * _<=_
  decide
 have s4:=ay hp4 (.lst ((Mv 6 false).map V.bl));have h4:(upd H3 p4 (.lst ((Mv 6 false).map V.bl))) p4=some (.lst ((Mv 6 false).map V.bl)):=ao;rw [show (Mv ((6:Nat):Int).toNat [V.bl false]).flatten=(Mv 6 false).map V.bl from rfl];refine ⟨d2,p4,_,_,rfl,rfl,s4 _ _ (s3 _ _ hd2'),h4,small (by rw [LO,LO];unfold qX;rw [LO];decide),fun p5 hp5=>?_⟩
 have s5:=ay hp5 (.lst ((qX n).map V.bl++(Mv 6 false).map V.bl));have h5:(upd (upd H3 p4 (.lst ((Mv 6 false).map V.bl))) p5 (.lst ((qX n).map V.bl++(Mv 6 false).map V.bl))) p5=some (.lst ((rX n).map V.bl)):=by rw [ao];unfold rX;rw [MQ]
 have s05:=s02.trans (s3.trans (s4.trans s5));generalize upd (upd H3 p4 (.lst ((Mv 6 false).map V.bl))) p5 (.lst ((qX n).map V.bl++(Mv 6 false).map V.bl))=H5 at s05 h5;walk_at "rx";refine Hf (s05 _ _ hx) hc hv ?_;walk_at "rx";refine ⟨x,C,di,_,rfl,s05 _ _ hx,hc,hp,fun d6 H6 fd6 s6 h6=>?_⟩;walk_at "rx";refine HI (KU h6) (KU (s6 _ _ h5)) ?_;rw [decide_eq_true rfl];exact q _ (s05.trans s6)
def Tame (n:Nat) (L:List Int):Prop:=∀ x,L[0]?=some x->0<=x->∀ y,L[L.length - 1]?=some y->y<(n:Int)->∀ z∈L,0<=z/\z<(n:Int)
theorem Gi {n:Nat} {L:List Int} (h:∀ z∈L,0<=z/\z<(n:Int)):Tame n L:=fun _ _ _ _ _ _=>h
theorem xT {n:Nat} {R:List Nat} (h:∀ x∈R,x<n):Tame n (R.map fun (x:Nat)=>(x:Int)):=Gi fun z hz=>by
 obtain ⟨x,hx,rfl⟩:=Mm.mp hz;have:=h x hx;omega
theorem vP {α β γ:Type} {F:α->γ->Prop} {f:β->γ}:∀ {xs:List α} {l:List β},Nt (fun x r=>F x (f r)) xs l->Nt F xs (l.map f)
 | _,_,.nil=>.nil
 | _,_,.cons r t=>.cons r (vP t)
theorem oN {H:Hp} {d:Addr} {R:List Nat} (h:H d=some (.lst (aY R))):∃ p xs,V.ref d=.ref p/\H p=some (.lst xs)/\Nt (Rep.is K H) xs (R.map fun (x:Nat)=>(x:Int)):=⟨d,_,rfl,h,vP (F:=fun (x:V) (i:Int)=>Rep.is K H x i) (f:=fun (n:Nat)=>(n:Int)) (Paired.dY (me (K:=K) (H:=H)) fun _ _ z=>z)⟩
theorem IW {R:List Nat} {p:Nat->Prop} [DecidablePred p] (h:∀ b∈R,p b):(R.map fun b=>decide (p b)).all id=true:=by
 rw [MA];intro y hy;obtain ⟨x,hx,rfl⟩:=Mm.mp hy;exact decide_eq_true (h x hx)
theorem Gp {R:List Nat} {p:Nat->Prop} [DecidablePred p] (h:¬ ∀ b∈R,p b):(R.map fun b=>decide (p b)).all id=false:=by
 rw [Qb];obtain ⟨x,hx⟩:=Ol.mp h;obtain ⟨hx,hn⟩:=OV.mp hx;exact ⟨_,Mm.mpr ⟨x,hx,rfl⟩,by rw [decide_eq_false hn];decide⟩
theorem JL {H:Hp} {v:V} {Q:VK} {l:List Int} {c:Int} (h:At K H v l) (hj:l[l.length - 1]?=some c) (q:Q (.int c) H):qR K v (.int (-((1:Nat):Int))) H Q:=by
 obtain ⟨p,xs,rfl,hS,hp⟩:=h;obtain ⟨x,hx,rx⟩:=Paired.get hp hj;have e:=hp.length;have l0:l.length - 1<l.length:=(LQ.mp hj).1;cases (show x=V.int c from rx);refine ⟨p,xs,_,_,rfl,rfl,hS,?_,q⟩;unfold atI ixN;rw [if_neg (by omega),if_pos (by omega)]
 have e2:(-((1:Nat):Int)+(xs.length:Int)).toNat=l.length - 1:=by omega
 show xs[(-((1:Nat):Int)+(xs.length:Int)).toNat]?=_;rw [e2,hx]
def wO (K:LM):Sp:=fun vs H Q _=>∃ (v:V) (d:Addr) (n e:Nat) (t:List (List Nat)) (L:List Int),vs=[v,.ref d]/\At K H v t/\GT n t e/\At K H (.ref d) L/\L.length<=64/\Tame n L /\
 (nq n t L->∀ H',aj H H'->Q (.bl true) H')/\(¬ nq n t L->∀ H',aj H H'->Q (.bl false) H')
theorem pQ (T:Txt K mg):aI P w K mg base CX0 1 T.fJ.f T.fJ.fd ["_law_table","_law_some_here"] (wO K):=by
 refine T.fJ.ok pV (fun vs H Q E h=>?_) (fun cdv A outer s H vs Q E hr h=>?_)
 ·obtain ⟨v,d,n,e,t,L,rfl,_⟩:=h;rfl
 obtain ⟨v,d,n,e,t,L,rfl,hT,gt,hL,hlen,tame,q1,q2⟩:=h;have n23:=gt.le;refine ⟨_,(ae (aW (PW.pt (nH (aH bM (av (aV K rfl) rfl T.bz Mt (paF (pv 1) aa)) af (aE _)) (nH (aH i7 (ar (ai K rfl) (pv 1) af (fun _ _=>rfl)) af (aE _)) (m5 (aH oU (ar (ai K rfl) (pv 1) (K4 Kv af) (fun _ _=>rfl)) (av (aV K rfl) rfl T.bz Mt (paF (pv 0) aa)) (aE _)))))) (ah (aK eP)) aQ)
   (ae (aW (aH (Cw K rfl Nat hr.units) (pv 1) (av (yI w rfl rfl) rfl T.ja PD (paF (cp (DJ K rfl w rfl rfl) rfl T.tQ PyProof.Rows.boot_set (paF (pv 1) aa)) aa)) (aE _)) (ah (aK eP)) aQ)
   (ae (bE Mq rfl (aZ K rfl (pv 1)) (az (i:=2) pV.nd rfl (Pz rfl)) (ah (aW (gF (dW (av (jc K rfl rfl) rfl T.kf NU (paF (bJ rfl oA (aZ K rfl (pv 1)) (fun _ _ _ _=>⟨(az (i:=0) oA.nd rfl (Mg rfl)),bj,(bS (sP K rfl) (ar (ai K rfl) (ar (ai K rfl) (pv 3) (pv 1) (fun _ _=>rfl)) (pv 0) (fun _ _=>rfl)) (pv 2) (by with_unfolding_all rfl))⟩)) aa)))) (ah (aK eP)) aQ)))
   (ah (aK eP))))),?_⟩
 walk_at "2";refine cX hL ?_;walk_at "rn";refine aU (fun z=>?_) (fun l0=>?_)
 ·walk_at "rn";refine q2 (fun ⟨R,e,pt⟩=>?_) H (aj.refl _);have:=MR.mpr pt.ne;rw [e,LO] at z;omega
 walk_at "rn";refine tG (n:=0) hL rfl (LP (by omega)) ?_
 walk_at "rn";refine aU (fun z=>?_) (fun h0=>?_)
 ·walk_at "rn";refine q2 (fun ⟨R,e,pt⟩=>?_) H (aj.refl _);subst e;rw [RC] at z;omega
 walk_at "rn";refine JL hL (LP (by omega)) ?_
 walk_at "rn";refine cX hT ?_;rw [gt.len];walk_at "rn";refine aU (fun z=>?_) (fun hl=>?_)
 ·walk_at "rn";refine q2 (fun ⟨R,e,pt⟩=>?_) H (aj.refl _);subst e;rw [RC] at z;have:=pt.lt _ (Nu (l:=R) (n:=(R.map fun (x:Nat)=>(x:Int)).length - 1) (by rw [LO] at *;omega))
  omega
 have all:=tame _ (LP (by omega)) (by omega) _ (LP (by omega)) (by omega)
 obtain ⟨R,rfl⟩:=tY fun x hx=>(all x hx).1;have rlt:∀ x∈R,x<n:=fun x hx=>by
  have:=(all x (Mm.mpr ⟨x,hx,rfl⟩)).2;omega
 rw [LO] at hlen l0;have aR:=mw hL;have inj:∀ {R2:List Nat},R.map (fun (x:Nat)=>(x:Int))=R2.map (fun (x:Nat)=>(x:Int))->R=R2:=fun h=>Ap h;walk_at "2";refine KL aR (fun x hx=>Ml (rlt x hx) n23) fun sa ks fs hks nd=>?_;have s1:=ay fs (kW w sa ks);have h1:(upd H sa (kW w sa ks)) sa=some (kW w sa ks):=ao;generalize upd H sa (kW w sa ks)=H1 at s1 h1;walk_at "rn";refine E6 h1 fun sd sl fd hp hs=>?_;have s2:=ay fd (.lst (aY sl));have h2:(upd H1 sd (.lst (aY sl))) sd=some (.lst (aY sl)):=ao;generalize upd H1 sd (.lst (aY sl))=H2 at s2 h2;have s02:=s1.trans s2;have aR2:=Rep.mono s02 aR;walk_at "rn";refine HX (α:=Nat) (as:=R) (bs:=sl) aR2 (eN h2) ?_;walk_at "rn";have slt:=oS (hp.nodup_iff.mpr nd) hs;refine cy (fun z=>?_) (fun z=>?_)
 ·walk_at "rn";refine q2 (fun ⟨R2,e,pt⟩=>z ?_) H2 s02;obtain rfl:=inj e;refine qV pt.srt slt fun x=>?_;rw [hp.mem_iff,hks x]
 have srt:R.Pairwise (· < ·):=by rw [z];exact slt
 have rne:R≠[]:=MR.mp (by omega)
 walk_at "rn";refine gv (α:=Nat) aR2 (fun i σ H'=>aj H2 H'/\(∀ a∈R.take i,∀ b∈R,tb t a b∈R)/\∃ x2,σ=[some v,some (.ref d),x2]) ⟨aj.refl _,by simp,_,rfl⟩ (fun i σ H' h=>h.1) ?_ ?_
 ·rintro i a w' σ' H3 ha hw ⟨s3,hf,x2,rfl⟩;cases (show w'=V.int (a:Int) from hw);have haR:=LR ha;have han:=rlt a haR;have s03:=s02.trans s3;walk_at "2";refine hV (α:=Nat) (β:=Bool) (Rep.mono s3 aR2) (by omega) (fun j=>(R.take j).map fun b=>decide (tb t a b∈R)) (fun σ'=>∃ y,σ'=[y,some (.int (a:Int)),some (.ref d),some v]) rfl (fun j hj=>by rw [LO,Mz];omega) ⟨_,rfl⟩ ?_ ?_
  ·rintro j b w2 σ' H4 d4 R4 R04 hb hs4 hw2 ⟨y,rfl⟩ hR4 hR04 hd4;cases (show w2=V.int (b:Int) from hw2);have hbn:=rlt b (LR hb);walk_at "rn";refine dI (Rep.mono (s03.trans hs4) hT) rfl (gt.get han) fun w1 hw1=>?_;walk_at "rn";refine bF hw1 (gt.ef han hbn) ?_;walk_at "rn";refine wQ (Rep.mono (s3.trans hs4) aR2) ?_;exact hR4 _ _ (decide (tb t a b∈R)) _ ⟨_,rfl⟩ (aj.refl _) rfl (by rw [MK,hb,MQ];rfl)
  intro d4 H4 s4 h4;walk_at "rn";refine oE h4 ?_;rw [NF]
  by_cases hc:∀ b∈R,tb t a b∈R
  ·rw [IW hc];walk_at "8";refine ⟨s3.trans s4,fun c hc'=>?_,_,rfl⟩;rw [MK,ha] at hc';rcases MC.mp hc' with y|y
   ·exact hf c y
   ·rw [Md.mp y];exact hc
  ·rw [Gp hc];walk_at "rn";refine lT ?_;walk_at "rn";refine q2 (fun ⟨R2,e,pt⟩=>hc fun b hb=>?_) H4 (s03.trans s4);obtain rfl:=inj e;exact pt.cl a haR b hb
 ·rintro σ' H3 ⟨s3,hf,x2,rfl⟩;rw [NF] at hf;walk_at "rn";exact q1 ⟨R,rfl,srt,rlt,rne,hf⟩ H3 (s02.trans s3)
theorem Bx {n e k:Nat} {t:List (List Nat)} (gt:GT n t e) (h1:1<=k) (hk:∀ a,a<n->bH t e a k=e) (hj:∀ j,1<=j->j<k->∃ a,a<n/\bH t e a j≠e):dq (cH n t e) k:=by
 refine ⟨h1,fun s hs=>?_,fun j j1 j2=>?_⟩
 ·obtain ⟨a,ha,rfl⟩:=Mm.mp hs;exact Nat.mod_eq_zero_of_dvd (IV gt (Mj.mp ha) (hk a (Mj.mp ha)))
 ·obtain ⟨a,ha,q⟩:=hj j j1 j2;refine ⟨bh n t e a,Mm.mpr ⟨a,Mj.mpr ha,rfl⟩,fun z=>q ?_⟩;obtain ⟨c,rfl⟩:=P0 z;exact qH gt ha (gi gt ha).2.1 c
def Ae (K:LM):Sp:=fun vs H Q _=>∃ (v:V) (n e:Nat) (t:List (List Nat)),vs=[v]/\At K H v t/\GT n t e/\∀ k H',aj H H'->dq (cH n t e) k->k<=n->Q (.int (k:Int)) H'
theorem zu (T:Txt K mg):aI P w K mg base CX0 2 T.jX.f T.jX.fd ["_law_table"] (Ae K):=by
 refine T.jX.ok gq (fun vs H Q E h=>?_) (fun cdv A outer s H vs Q E hr h=>?_)
 ·obtain ⟨v,n,e,t,rfl,_⟩:=h;rfl
 obtain ⟨v,n,e,t,rfl,hT,gt,q⟩:=h;refine ⟨_,(ae (au (i:=1) gq.nd rfl (Pz rfl) (aO T.gX (nu T) (hr.mono (by decide)) rfl (paF (pv 0) aa)))
   (ae (au (i:=2) gq.nd rfl (Pz rfl) (cp (qr rfl) rfl T.fj Ng (paF (cp uB rfl T.bp Rw (paF (av (aV K rfl) rfl T.bz Mt (paF (pv 0) aa)) aa)) aa)))
   (ae (au (i:=3) gq.nd rfl (Mg rfl) af)
   (ae (oB Mq (gF (dW (av (jc K rfl rfl) rfl T.kf NU (paF (bJ rfl qb (aZ K rfl (pv 2)) (fun _ _ _ _=>⟨(az (i:=0) qb.nd rfl (Mg rfl)),bj,(bS bM (pv 0) (pv 1) (aE _))⟩)) aa)))) (ae (au (i:=2) gq.nd rfl (Pz rfl) (bJ rfl qp (bb rfl T.bp (paF (av (aV K rfl) rfl T.bz Mt (paF (pv 0) aa)) aa)) (fun _ _ _ _=>⟨(az (i:=0) qp.nd rfl (Mg rfl)),bj,(ar (ai K rfl) (ar (ai K rfl) (pv 2) (ar (ai K rfl) (pv 1) (pv 0) (fun _ _=>rfl)) (fun _ _=>rfl)) (pv 0) (fun _ _=>rfl))⟩)))
   (ah (au (i:=3) gq.nd rfl (Mg rfl) (ak a0 (pv 3) af)))))
   (ah (aK (pv 3))))))),?_⟩
 have n1:=gt.pos;have n23:=gt.le;walk_at "rn";refine ⟨v,n,e,t,rfl,hT,gt,fun H1 s1=>?_⟩;have hT1:=Rep.mono s1 hT;walk_at "rx";rw [gt.len];refine B9 fun pr hpr=>?_;walk_at "rx";refine uA (K:=K) ao (by omega) fun dl H2 _ s2 gl=>?_
 have s12:aj H1 H2:=(ay hpr _).trans s2;have e1:L4 n=(L4 n).map fun a=>bH t e a 1:=by
  refine List.ext_getElem (by simp) fun i h1 h2=>?_
  simp at h1
  simpa using (ot gt h1).symm
 have a1:=gl.at;rw [e1] at a1;walk_at "rx";refine oo (fun m σ' H'=>aj H1 H'/\∃ (k:Nat) (p:Addr),m=n - k/\1<=k/\k<=n/\(∀ j,1<=j->j<k->∃ a,a<n/\bH t e a j≠e)/\At K H' (.ref p) ((L4 n).map fun a=>bH t e a k)/\σ'=[some v,some (.int (e:Int)),some (.ref p),some (.int (k:Int))]) (n - 1)
  ⟨s12,1,dl,rfl,Mi _,n1,fun j j1 j2=>absurd j2 (by omega),a1,rfl⟩ ?_
 rintro m σ' H3 ⟨s3,k,p,rfl,k1,kn,hj,aP,rfl⟩;walk_at "rx";refine hV (β:=Bool) aP (by simp;omega) (fun i=>(((L4 n).map fun a=>bH t e a k).map fun x=>decide (x=e)).take i) (fun σ'=>∃ y,σ'=[y,some (.int (e:Int))]) rfl (fun i _=>by rw [Mz];omega) ⟨_,rfl⟩ ?_ ?_
 ·rintro i c w' σ' H4 d' R R0 hc hs hw ⟨y,rfl⟩ hR hR0 hd';cases (show w'=V.int (c:Int) from hw);walk_at "rx";refine hR _ _ (decide (c=e)) _ ⟨_,rfl⟩ (aj.refl _) rfl ?_;rw [MK,Mf,hc];rfl
 intro db H4 s4 hB;walk_at "rx";refine oE hB ?_;have s34:=s3.trans s4;have hT4:=Rep.mono s34 hT1;have aP4:=Rep.mono s4 aP;rw [MD (by simp)]
 walk_at "rx";cases hall:((((L4 n).map fun a=>bH t e a k).map fun x=>decide (x=e)).all id) with
 | false =>
  have zz:∃ a,a<n/\bH t e a k≠e:=by
   refine Po fun no=>?_;rw [Bool.eq_false_iff] at hall;refine hall ?_;rw [MA];intro x hx;simp only [Mm,Mj] at hx;obtain ⟨_,⟨a,ha,rfl⟩,rfl⟩:=hx;exact decide_eq_true (Po fun q=>no ⟨a,ha,q⟩)
  have kl:k<n:=by
   rcases MH k n with y|y
   ·exact y
   ·obtain ⟨a,ha,q⟩:=zz;have:k=n:=by omega
    rw [this] at q;exact absurd (JU gt ha) q
  refine lT ?_;refine ⟨fun σ4 H4=>aj H1 H4/\∃ (p:Addr),At K H4 (.ref p) ((L4 n).map fun a=>bH t e a (k+1))/\σ4=[some v,some (.int (e:Int)),some (.ref p),some (.int ((k+1:Nat):Int))],fun σ4 H4 y=>?_,?_⟩
  ·obtain ⟨y1,p',y2,y3⟩:=y;refine ⟨n - (k+1),by omega,y1,k+1,p',rfl,by omega,by omega,fun j j1 j2=>?_,y2,y3⟩
   rcases MH j k with u|u
   ·exact hj j j1 u
   ·have:j=k:=by omega
    rw [this];exact zz
  walk_at "rx";rw [gt.len];refine kH K (n:=n) (β:=Nat) rfl (by omega) (fun i=>((L4 n).map fun a=>bH t e a (k+1)).take i) (fun σ'=>∃ y,σ'=[y,some (.ref p),some v]) rfl (fun i _=>by rw [Mz];omega) ⟨_,rfl⟩ ?_ ?_
  ·rintro i σ' H5 d' R R0 hi hs ⟨y,rfl⟩ hR hR0 hd';have aP5:=Rep.mono hs aP4;have hT5:=Rep.mono hs hT4;have hpl:=cw gt hi k;walk_at "rn";refine bF aP5 (c:=bH t e i k) (by simp [hi]) ?_
   refine dI hT5 rfl (gt.get hpl) fun w1 hw1=>?_;walk_at "rn";refine bF hw1 (gt.ef hpl hi) ?_;exact hR _ _ _ _ ⟨_,rfl⟩ (aj.refl _) rfl (cU _ n i hi)
  intro dn H5 s5 h5;have h5':At K H5 (.ref dn) (((L4 n).map fun a=>bH t e a (k+1)).take n):=h5;rw [MD (by simp)] at h5'
  walk_at "rx";exact ⟨s34.trans s5,dn,h5',rfl⟩
 | true =>
  refine dF ?_;have z:∀ a,a<n->bH t e a k=e:=fun a ha=>by
   rw [MA] at hall;have:=hall (decide (bH t e a k=e)) (Mm.mpr ⟨_,Mm.mpr ⟨a,Mj.mpr ha,rfl⟩,rfl⟩);exact of_decide_eq_true this
  walk_at "rx";exact q k H4 (s1.trans s34) (Bx gt k1 z hj) kn
def A1 (K:LM):Sp:=fun vs H Q _=>∃ (v:V) (n e a:Nat) (t:List (List Nat)),vs=[v,.int (a:Int)]/\At K H v t/\GT n t e/\a<n/\∀ H',aj H H'->Q (.int (bh n t e a:Int)) H'
theorem A4 (T:Txt K mg):aI P w K mg base CX0 2 T.jW.f T.jW.fd ["_law_table","_law_thing_here"] (A1 K):=by
 refine T.jW.ok gn (fun vs H Q E h=>?_) (fun cdv A outer s H vs Q E hr h=>?_)
 ·obtain ⟨v,n,e,a,t,rfl,_⟩:=h;rfl
 obtain ⟨v,n,e,a,t,rfl,hT,gt,ha,q⟩:=h;have os:=gi gt ha;have op:=jJ (n:=n) (t:=t) (e:=e) (a:=a);refine ⟨_,(ae (au (i:=2) gn.nd rfl (Mg rfl) (aO T.gX (nu T) (hr.mono (by decide)) rfl (paF (pv 0) aa)))
   (ae (au (i:=3) gn.nd rfl (Mg rfl) (pv 1))
   (ae (au (i:=4) gn.nd rfl (Mg rfl) af)
   (ae (oB Mq (aH fQ (pv 3) (pv 2) (aE _)) (ae (au (i:=3) gn.nd rfl (Mg rfl) (ar (ai K rfl) (ar (ai K rfl) (pv 0) (pv 3) (fun _ _=>rfl)) (pv 1) (fun _ _=>rfl)))
   (ah (au (i:=4) gn.nd rfl (Mg rfl) (ak a0 (pv 4) af)))))
   (ah (aK (pv 4))))))),?_⟩
 walk_at "rn";refine ⟨v,n,e,t,rfl,hT,gt,fun H1 s1=>?_⟩;have hT1:=Rep.mono s1 hT;walk_at "rn";refine oo (fun b σ' H'=>H'=H1/\∃ k,1<=k/\k<=bh n t e a/\b=bh n t e a - k/\σ'=[some v,some (.int (a:Int)),some (.int (e:Int)),some (.int ((bH t e a k:Nat):Int)),some (.int (k:Int))]) (bh n t e a - 1) ⟨rfl,1,Mi _,op,rfl,by rw [ot gt ha];rfl⟩ ?_
 rintro b σ' H2 ⟨rfl,k,k1,k2,rfl,rfl⟩;walk_at "rn";refine cy (fun z=>?_) (fun z=>?_)
 ·have k3:k<bh n t e a:=by
   rcases MH k (bh n t e a) with y|y
   ·exact y
   ·have:k=bh n t e a:=by omega
    rw [this] at z;exact absurd os.2.1 z
  have kl:=cw gt ha k;refine ⟨fun σ2 H4=>H4=H2/\σ2=[some v,some (.int (a:Int)),some (.int (e:Int)),some (.int ((bH t e a (k+1):Nat):Int)),some (.int ((k+1:Nat):Int))],fun σ2 H4 y=>⟨_,by omega,y.1,k+1,by omega,k3,rfl,y.2⟩,?_⟩
  walk_at "rn";refine dI hT1 rfl (gt.get kl) fun w1 hw1=>?_;walk_at "rn";refine bF hw1 (gt.ef kl ha) ?_;walk_at "rn";exact ⟨rfl,rfl⟩
 ·have ke:k=bh n t e a:=by
   rcases MH k (bh n t e a) with y|y
   ·exact absurd z (os.2.2 k k1 y)
   ·omega
  subst ke;walk_at "rn";exact q _ s1
def BN (K:LM):Sp:=fun vs H Q _=>∃ (v:V) (n e:Nat) (c:Int) (t:List (List Nat)),vs=[v,.int c]/\At K H v t/\GT n t e/\∀ d H' S,H d=none->aj H H'->Gr K H' d S->S.length<=2->(∀ x∈S,x<n)->Q (.ref d) H'
theorem BJ (T:Txt K mg):aI P w K mg base CX0 2 T.lg.f T.lg.fd ["_law_table","_law_cell_here"] (BN K):=by
 refine T.lg.ok uw (fun vs H Q E h=>?_) (fun cdv A outer s H vs Q E hr h=>?_)
 ·obtain ⟨v,n,e,c,t,rfl,_⟩:=h;rfl
 obtain ⟨v,n,e,c,t,rfl,hT,gt,q⟩:=h;have n1:=gt.pos;have n23:=gt.le;refine ⟨_,(ae (au (i:=2) uw.nd rfl (Mg rfl) (ak aT (pv 1) af))
   (ah (aK (bJ rfl rJ (bb rfl T.bp (paF (ak aT (pv 2) af) aa)) (fun _ _ _ _=>⟨(az (i:=0) rJ.nd rfl (Mg rfl)),bj,(aO T.eT (lB T) (hr.mono (by decide)) rfl (paF (pv 1) (paF (ak a0 af (pv 0)) (paF (av (aV K rfl) rfl T.bz Mt (paF (pv 2) aa)) aa))))⟩))))),?_⟩
 walk_at "rx";refine pG (by decide) ?_
 have c1:=Oh c (show ((2147483647:Nat):Int)≠0 by decide)
 generalize hx:(c % ((2147483647:Nat):Int)).toNat=x;have ex:c % ((2147483647:Nat):Int)=(x:Int):=by omega
 rw [ex];walk_at "rx";refine nB K (n:=x % 3) (β:=Nat) rfl (by omega) (fun i=>((L4 (x % 3)).map fun k=>thg c (21+k) n).take i) (fun σ'=>∃ y,σ'=[y,some (.int c),some v]) rfl (fun i _=>by rw [Mz];omega) ⟨_,rfl⟩ ?_ ?_
 ·rintro i σ' H5 d' R' R0 hi hs ⟨y,rfl⟩ hR hR0 hd';have hT5:=Rep.mono hs hT;walk_at "rx";rw [gt.len];refine ⟨c,21+i,n,rfl,by omega,n1,fun _=>?_⟩
  exact hR _ _ _ _ ⟨_,rfl⟩ (aj.refl _) rfl (cU _ (x % 3) i hi)
 ·intro d H5 fd s5 h5;have g5:Gr K H5 d (((L4 (x % 3)).map fun k=>thg c (21+k) n).take (x % 3)):=h5;rw [MD (by simp)] at g5
  refine q d H5 _ fd s5 g5 (by simp;omega) fun y hy=>?_
  obtain ⟨k,_,rfl⟩:=Mm.mp hy;exact EL _ _ n1
def fm (F W:List Nat) (y:Nat):Nat:=W.getD (F.idxOf y) 0
theorem vJ {F W:List Nat} {y z c:Nat} (h:y∈F) (hl:W.length=F.length):fm (F++[z]) (W++[c]) y=fm F W y:=by
 have hi:=MI h;unfold fm;rw [P9,if_pos h,LS,LS,MP (by omega)]
theorem Ku {F W:List Nat} {z c:Nat} (h:z∉F) (hl:W.length=F.length):fm (F++[z]) (W++[c]) z=c:=by
 unfold fm;rw [P9,if_neg h,Sx,LS,Ou,<- hl,MM (Mi _)];simp
theorem sF:∀ {F W:List Nat} {f:Nat},f∉F->cS (ee F W) (nk f)=none
 | [],_,_,_=>rfl
 | _ :: _,[],_,_=>rfl
 | a :: F,c :: W,f,h=>by
  have h1:¬ nk a=nk f:=fun z=>h (by rw [vF z];exact Mn)
  show cS ((nk a,V.int (c:Int)) :: ee F W) (nk f)=none;rw [dJ h1];exact sF fun z=>h (Mh _ z)
theorem t5 {F W:List Nat} {y:Nat} (nd:F.Nodup) (hl:W.length=F.length) (h:y∈F):cS (ee F W) (nk y)=some (.int ((fm F W y:Nat):Int)):=by
 have hi:=MI h;exact oJ (j:=F.idxOf y) nd (by rw [LP hi,NY]) (getD_some 0 (by omega))
theorem IY {F W:List Nat} {f:Nat} (nd:F.Nodup) (hl:W.length=F.length):(cS (ee F W) (nk f)).isSome=decide (f∈F):=by
 by_cases h:f∈F
 ·rw [t5 nd hl h,decide_eq_true h];rfl
 ·rw [sF h,decide_eq_false h];rfl
theorem Fe {F W:List Nat} {f c:Nat} (hl:W.length=F.length) (h:f∉F):putK (ee F W) (nk f) (.int (c:Int))=ee (F++[f]) (W++[c]):=by
 rw [GW _ (sF h)];unfold ee aY;rw [MQ,MQ,List.zip_append (by rw [LO,LO];exact hl.symm)]
 rfl
theorem Ht {F W:List Nat}:(ee F W).length<=F.length:=by
 unfold ee;rw [R9,LO];omega
def CM (t:List (List Nat)) (S G:List Nat) (m:Nat) (F W:List Nat) (x j:Nat):Prop:=∀ j' s μ,j' < j->S[j']?=some s->G[j']?=some μ->fm F W (tb t x s)=(fm F W x+μ) % m
theorem CM.grow {t:List (List Nat)} {S G F W:List Nat} {m x j z c:Nat} (h:CM t S G m F W x j) (hl:W.length=F.length) (hx:x∈F) (hj:∀ s∈S.take j,tb t x s∈F):CM t S G m (F++[z]) (W++[c]) x j:=fun j' s μ a b d=>by
 have hs:s∈S.take j:=by
  refine LR (i:=j') ?_;rw [List.getElem?_take,if_pos a];exact b
 rw [vJ (hj s hs) hl,vJ hx hl];exact h j' s μ a b d
structure MS (n:Nat) (t:List (List Nat)) (e:Nat) (S G:List Nat) (m:Nat) (F W:List Nat) (k:Nat) (b:Bool):Prop where
 gr:oI n t e S F k
 len:W.length=F.length
 lt:∀ x∈W,x<m
 e0:fm F W e=0
 cm:b=true->∀ i x,i<k->F[i]?=some x->CM t S G m F W x S.length
theorem MS.grow {n e m k c s x:Nat} {t:List (List Nat)} {S G F W:List Nat} {b:Bool} (M:MS n t e S G m F W k b) (gt:GT n t e) (hx:x∈F) (hs:s∈S) (hn:s<n) (h:tb t x s∉F) (hc:c<m):MS n t e S G m (F++[tb t x s]) (W++[c]) k b:=by
 refine ⟨M.gr.put gt hx hs hn h,by rw [Mo,Mo,M.len];rfl,fun y hy=>?_,by rw [vJ M.gr.un M.len];exact M.e0,fun hb i y hi hy=>?_⟩
 ·rcases MC.mp hy with z|z
  ·exact M.lt y z
  ·rw [Md.mp z];exact hc
 ·rw [MP (Ml hi M.gr.le)] at hy;exact (M.cm hb i y hi hy).grow M.len (LR hy) fun s hs=>M.gr.cl i y hi hy s (Pm hs)
def yS (K:LM):Sp:=fun vs H Q _=>∃ (v u:V) (n e m:Nat) (c:Int) (t:List (List Nat)) (S:List Nat),vs=[v,u,.int (m:Int),.int c]/\At K H v t/\GT n t e/\At K H u S/\S.length<=2/\(∀ x∈S,x<n)/\0<m/\m<=60 /\
 ∀ p dp dm H' R M,H dp=none->H dm=none->dp≠dm->aj H H'->H' p=some (.tup [.ref dp,.ref dm])->H' dp=some (.lst (aY R))->H' dm=some (.lst (aY M))->IsPart n t R->M.length=R.length->(∀ x∈M,x<m)->(∀ j,j<R.length->∀ k,k<R.length->ie t R M m j k)->Q (.ref p) H'
theorem yF (T:Txt K mg):aI P w K mg base CX0 3 T.je.f T.je.fd ["_law_table","_law_some_here","_law_spokes_here","_law_cell_here"] (yS K):=by
 refine T.je.ok bG (fun vs H Q E h=>?_) (fun cdv A outer s H vs Q E hr h=>?_)
 ·obtain ⟨v,u,n,e,m,c,t,S,rfl,_⟩:=h;rfl
 obtain ⟨v,u,n,e,m,c,t,S,rfl,hT,gt,hS,sl,hlt,m1,m60,q⟩:=h;have n1:=gt.pos;have n23:=gt.le;refine ⟨_,(ae (au (i:=4) bG.nd rfl (Mg rfl) (bg aa))
   (ae (bE Mq rfl (bb rfl T.bp (paF (av (aV K rfl) rfl T.bz Mt (paF (pv 1) aa)) aa)) (az (i:=5) bG.nd rfl (Mg rfl)) (ae (au (i:=6) bG.nd rfl (Mg rfl) (aO T.jW (A4 T) (hr.mono (by decide)) rfl (paF (pv 0) (paF (ar (ai K rfl) (pv 1) (pv 5) (fun _ _=>rfl)) aa))))
   (ah (bC (fA K rfl MG M5 M7 dE (pv 4) (paF (ak bL (ak bA (pv 2) (pv 6)) (aO T.eT (lB T) (hr.mono (by decide)) rfl (paF (pv 3) (paF (ak a0 af (pv 5)) (paF (pv 6) aa))))) aa))))))
   (ae (au (i:=7) bG.nd rfl (Pz rfl) (IQ (G1 (aO T.gX (nu T) (hr.mono (by decide)) rfl (paF (pv 0) aa)) af JE) rfl rfl (by simp) (by decide)))
   (ae (au (i:=8) bG.nd rfl (Mg rfl) (bg (paF (aO T.gX (nu T) (hr.mono (by decide)) rfl (paF (pv 0) aa)) aa)))
   (ae (au (i:=9) bG.nd rfl (Mg rfl) af)
   (ae (au (i:=10) bG.nd rfl (Pz rfl) eP)
   (ae (oB Mq (aH i7 (pv 9) (av (aV K rfl) rfl T.bz Mt (paF (pv 8) aa)) (aE _)) (ae (bE Mq rfl (JD K rfl rfl T.qG (paF (pv 1) (paF (pv 4) aa))) (mP rfl (cA (az (i:=11) bG.nd rfl (Mg rfl)) (cA (az (i:=12) bG.nd rfl (Mg rfl)) kC))) (ae (au (i:=13) bG.nd rfl (Mg rfl) (ar (ai K rfl) (ar (ai K rfl) (pv 0) (ar (ai K rfl) (pv 8) (pv 9) (fun _ _=>rfl)) (fun _ _=>rfl)) (pv 11) (fun _ _=>rfl)))
   (ae (au (i:=14) bG.nd rfl (Mg rfl) (ak aT (ak a0 (lJ (mG hr) (pv 7) (ar (ai K rfl) (pv 8) (pv 9) (fun _ _=>rfl)) (fun _ _=>rfl)) (pv 12)) (pv 2)))
   (ah (aW (tj (FO (mG hr) (pv 13) (pv 7))) (ae (CH (mG hr) (pv 7) (pv 13) (pv 14) rfl)
   (ah (bC (fA K rfl MG M5 M7 dE (pv 8) (paF (pv 13) aa))))) (ah (aW (aH fQ (lJ (mG hr) (pv 7) (pv 13) (fun _ _=>rfl)) (pv 14) (aE _)) (ah (au (i:=10) bG.nd rfl (Pz rfl) eP)) aQ)))))))
   (ah (au (i:=9) bG.nd rfl (Mg rfl) (ak a0 (pv 9) af)))))
   (ae (au (i:=15) bG.nd rfl (Mg rfl) (av (rW K rfl) rfl T.ja PD (paF (pv 8) aa)))
   (ah (aK (oq (paF (pv 15) (paF (bJ rfl pe (aZ K rfl (pv 15)) (fun _ _ _ _=>⟨(az (i:=0) pe.nd rfl (Mg rfl)),bj,(ak bL (lJ (mG hr) (pv 2) (pv 0) (fun _ _=>rfl)) (cp Fi rfl T.qJ Sk (paF (pv 1) aa)))⟩)) aa))))))))))))),?_⟩
 walk_at "3";refine ⟨small (by show 0<=1000;decide),fun pg hpg=>?_⟩
 have s0:=ay hpg (.lst []);have g0:Gr K (upd H pg (.lst [])) pg ([]:List Nat):=⟨_,ao,.nil⟩;generalize upd H pg (.lst [])=H0 at s0 g0;walk_at "rn";refine cX (Rep.mono s0 hS) ?_;refine cb (n:=S.length) rfl (by omega) (fun i σ' H'=>aj H H'/\∃ (G:List Nat) (x5 x6:Option V),Gr K H' pg G/\G.length=i/\σ'=[some v,some u,some (.int (m:Int)),some (.int c),some (.ref pg),x5,x6,none,none,none,none,none,none,none,none,none]) ⟨s0,[],_,_,g0,rfl,rfl⟩ ?_ ?_
 ·rintro i σ' H1 hi ⟨s1,G,x5,x6,g1,gl,rfl⟩;have hi':=getD_some (l:=S) 0 hi;have hsn:=hlt _ (LR hi');generalize S.getD i 0=x at hi' hsn;walk_at "rn";refine bF (Rep.mono s1 hS) hi' ?_;walk_at "rn";refine ⟨v,n,e,x,t,rfl,Rep.mono s1 hT,gt,hsn,fun H2 s2=>?_⟩;have os:=gi gt hsn;have op:=jJ (n:=n) (t:=t) (e:=e) (a:=x);have ol:bh n t e x<=n:=os.1;generalize bh n t e x=o at op ol;walk_at "rn";refine ⟨(g1.mono s2).ty,?_⟩;walk_at "rn";refine ⟨c,11+i,o,rfl,by omega,op,fun th=>?_⟩
  have dv:m / o<=60:=Na (Nat.div_le_self _ _) m60;generalize m / o=d at dv;generalize thg c (11+i) o=y at th;walk_at "rn";refine ko (b:=d * y) (g1.mono s2) (by omega) rfl fun H3 g3 k3 _=>?_
  exact ⟨aj.but hpg (s1.trans s2) k3,G++[d * y],_,_,g3,by rw [Mo,gl];rfl,rfl⟩
 rintro σ' Hg ⟨sg,G,x5,x6,gg,gl,rfl⟩;have hTg:=Rep.mono sg hT;have hSg:=Rep.mono sg hS;have hpG:=fq gg;walk_at "rn";refine Jb (fun dw fdw=>?_);have sw:=ay fdw (.dK []);have hw0:(upd Hg dw (.dK [])) dw=some (.dK []):=ao;generalize upd Hg dw (.dK [])=H1 at sw hw0;walk_at "rn";refine ⟨v,n,e,t,rfl,Rep.mono sw hTg,gt,fun H2 s2=>?_⟩;walk_at "rn";refine ⟨s2 _ _ hw0,[(nk e,.int ((0:Nat):Int))],rfl,(by show 1<=15;decide),?_⟩
 have sg3:aj Hg (upd H2 dw (.dK (la [] [(nk e,.int ((0:Nat):Int))]))):=fun b o z=>by
  rw [aq (aA z fdw)];exact s2 _ _ (sw _ _ z)
 have hw3:(upd H2 dw (.dK (la [] [(nk e,.int ((0:Nat):Int))]))) dw=some (.dK (ee [e] [0])):=ao;generalize upd H2 dw (.dK (la [] [(nk e,.int ((0:Nat):Int))]))=H3 at sg3 hw3;walk_at "3";refine ⟨v,n,e,t,rfl,Rep.mono sg3 hTg,gt,fun H4 s4=>?_⟩;walk_at "rn";refine ⟨small (by show 1<=1000;decide),fun a ha=>?_⟩
 have sg4:=sg3.trans s4;have fa:Hg a=none:=sg4.free ha;have hw4:=s4 _ _ hw3;have sg5:=sg4.trans (ay ha (.lst [.int (e:Int)]));have hw5:=ay ha (.lst [.int (e:Int)]) _ _ hw4;have ha5:(upd H4 a (.lst [.int (e:Int)])) a=some (.lst (aY [e])):=ao;have nwa:dw≠a:=nF hw4 ha;generalize upd H4 a (.lst [.int (e:Int)])=H5 at sg5 hw5 ha5;walk_at "rn";have fe:fm [e] [0] e=0:=by unfold fm;rw [Sx];rfl
 have ms0:MS n t e S G m [e] [0] 0 true:=⟨⟨by simp,fun x hx=>by rw [Md.mp hx];exact gt.elt,by simp,Nd _,fun i _ hi=>absurd hi (by omega),fun x hx=>⟨[],by simp,(Md.mp hx).symm⟩⟩,rfl,fun x hx=>by rw [Md.mp hx];exact m1,fe,fun _ i _ hi=>absurd hi (by omega)⟩
 refine oo (fun b σ' H'=>aj Hg H'/\∃ (F W:List Nat) (k:Nat) (fl:Bool) (y1 y2 y3 y4:Option V),b=n - k/\H' dw=some (.dK (ee F W))/\H' a=some (.lst (aY F))/\MS n t e S G m F W k fl/\σ'=[some v,some u,some (.int (m:Int)),some (.int c),some (.ref pg),x5,x6,some (.ref dw),some (.ref a),some (.int (k:Int)),some (.bl fl),y1,y2,y3,y4,none]) (n - 0)
  ⟨sg5,[e],[0],0,true,_,_,_,_,rfl,hw5,ha5,ms0,rfl⟩ ?_
 rintro b σ' H6 ⟨s6,F,W,k,fl,y1,y2,y3,y4,rfl,hw6,ha6,ms,rfl⟩;have aF:At K H6 (.ref a) F:=eN ha6;have fl6:=ms.gr.len;walk_at "rn";refine cX aF ?_;walk_at "rn";refine aU (fun lt=>?_) (fun ge=>?_)
 ·obtain ⟨b0,hb0⟩:∃ b0,F[k]?=some b0:=⟨F[k],LP lt⟩;have hbF:b0∈F:=LR hb0;have hbn:=ms.gr.lt b0 hbF;refine ⟨fun σ4 H4=>aj Hg H4/\∃ (F4 W4:List Nat) (fl4:Bool) (y1 y2 y3 y4:Option V),H4 dw=some (.dK (ee F4 W4))/\H4 a=some (.lst (aY F4))/\MS n t e S G m F4 W4 (k+1) fl4/\σ4=[some v,some u,some (.int (m:Int)),some (.int c),some (.ref pg),x5,x6,some (.ref dw),some (.ref a),some (.int ((k+1:Nat):Int)),some (.bl fl4),y1,y2,y3,y4,none],fun σ4 H4 z=>?_,?_⟩
  ·obtain ⟨z1,F4,W4,fl4,u1,u2,u3,u4,z2,z3,z5,z6⟩:=z;have:=z5.gr.le;have:=z5.gr.len;exact ⟨n - (k+1),by omega,z1,F4,W4,k+1,fl4,u1,u2,u3,u4,rfl,z2,z3,z5,z6⟩
  walk_at "rn";refine Ll ?_;walk_at "rn";obtain ⟨pS,xS,rfl,hSS,hPS⟩:=id hSg;have lS:=OC hPS;refine Jx (H₀:=Hg) hSS (SqL.of hpG) (by unfold aY;rw [LO];omega) (fun j σ4 H4=>aj Hg H4/\∃ (F4 W4:List Nat) (fl4:Bool) (y1 y2 y3 y4:Option V),H4 dw=some (.dK (ee F4 W4))/\H4 a=some (.lst (aY F4))/\MS n t e S G m F4 W4 k fl4/\F4[k]?=some b0/\(∀ s∈S.take j,tb t b0 s∈F4)/\(fl4=true->CM t S G m F4 W4 b0 j)/\σ4=[some v,some (.ref pS),some (.int (m:Int)),some (.int c),some (.ref pg),x5,x6,some (.ref dw),some (.ref a),some (.int (k:Int)),some (.bl fl4),y1,y2,y3,y4,none])
   ⟨s6,F,W,fl,_,_,_,_,hw6,ha6,ms,hb0,fun s hs=>absurd hs (by simp),fun _ j' _ _ hj=>absurd hj (by omega),rfl⟩ (fun j σ4 H4 z=>z.1) ?_ ?_
  ·rintro j w1 w2 σ4 H7 H8 pt hw1 hw2 ⟨s7,F4,W4,fl4,u1,u2,u3,u4,hw7,ha7,ms4,hb4,hj,hcm,rfl⟩ hpt rfl s8;obtain ⟨x,hx,ax⟩:=kD hPS hw1;cases (show w1=V.int (x:Int) from ax);have hjl:j<G.length:=by
    have:=(LQ.mp hx).1;omega
   have hμ:=getD_some (l:=G) 0 hjl;generalize G.getD j 0=μ at hμ;have ew2:w2=V.int (μ:Int):=by
    unfold aY at hw2;rw [Mf,hμ] at hw2;exact (ML hw2).symm
   subst ew2;have s78:=s7.trans s8;have hw8:=s8 _ _ hw7;have ha8:=s8 _ _ ha7;generalize upd H7 pt (.tup [.int (x:Int),.int (μ:Int)])=H8 at s78 hw8 ha8;have hxS:x∈S:=LR hx;have hxn:=hlt x hxS;have aF8:At K H8 (.ref a) F4:=eN ha8;have hT8:=Rep.mono s78 hTg;have bF4:b0∈F4:=LR hb4;have nd4:=ms4.gr.nd;have km:=ms4.len;have fl4n:=ms4.gr.len;have hv0:=t5 nd4 km bF4;have mlt:(fm F4 W4 b0+μ) % m<m:=MF _ m1;walk_at "rn";refine bF aF8 hb4 ?_;refine dI hT8 rfl (gt.get hbn) fun w1 hw1=>?_;walk_at "rn";refine bF hw1 (gt.ef hbn hxn) ?_;walk_at "rn";refine lK ?_;walk_at "rn";refine bF aF8 hb4 ?_;refine oz hw8 hv0 ?_;walk_at "rn";have more:∀ F':List Nat,(∀ z∈F4,z∈F')->tb t b0 x∈F'->∀ s∈S.take (j+1),tb t b0 s∈F':=fun F' h1 h2 s hs=>by
    rw [MK,hx] at hs;rcases MC.mp hs with z|z
    ·exact h1 _ (hj s z)
    ·have:s=x:=by simpa using z
     rw [this];exact h2
   have cms:∀ F' W':List Nat,CM t S G m F' W' b0 j->fm F' W' (tb t b0 x)=(fm F' W' b0+μ) % m->CM t S G m F' W' b0 (j+1):=fun F' W' h1 h2 j' s' μ' a1 a2 a3=>by
    rcases MH j' j with z|z
    ·exact h1 j' s' μ' z a2 a3
    ·have:j'=j:=by omega
     subst this;rw [hx] at a2;rw [hμ] at a3;cases a2;cases a3;exact h2
   walk_at "ifs";walk_at "rn";refine Fd ?_;walk_at "rn";refine Hm hw8 ?_;rw [IY nd4 km];walk_at "rn";refine cy (fun z=>?_) (fun z=>?_)
   ·walk_at "rn";refine Cm ?_;walk_at "rn";refine Fv hw8 (Na Ht (by omega)) ?_
    rw [Fe km z];have hw9:(upd H8 dw (.dK (ee (F4++[tb t b0 x]) (W4++[(fm F4 W4 b0+μ) % m])))) dw=some (.dK (ee (F4++[tb t b0 x]) (W4++[(fm F4 W4 b0+μ) % m]))):=ao;have s9:aj Hg (upd H8 dw (.dK (ee (F4++[tb t b0 x]) (W4++[(fm F4 W4 b0+μ) % m])))):=fun b o y=>by rw [aq (aA y fdw)];exact s78 _ _ y
    have ha9:(upd H8 dw (.dK (ee (F4++[tb t b0 x]) (W4++[(fm F4 W4 b0+μ) % m])))) a=some (.lst (aY F4)):=by rw [aq nwa.symm];exact ha8
    generalize upd H8 dw (.dK (ee (F4++[tb t b0 x]) (W4++[(fm F4 W4 b0+μ) % m])))=H9 at hw9 s9 ha9;have g9:Gr K H9 a F4:=⟨_,ha9,me⟩;walk_at "rn";refine ⟨g9.ty,?_⟩;walk_at "rn";refine ko (b:=tb t b0 x) g9 (by omega) rfl fun H10 g10 k10 _=>?_
    have ms5:=ms4.grow gt bF4 hxS hxn z mlt;refine ⟨aj.but fa s9 k10,_,_,fl4,_,_,_,_,k10 _ _ nwa hw9,fq g10,ms5,by rw [MP (LQ.mp hb4).1];exact hb4,more _ (fun y hy=>Nw _ hy) (by simp),fun hfl=>cms _ _ ((hcm hfl).grow km bF4 hj) ?_,rfl⟩
    rw [Ku z km,vJ bF4 km]
   ·have z':tb t b0 x∈F4:=z;walk_at "2";refine lK ?_;walk_at "rn";refine oz hw8 (t5 nd4 km z') ?_;walk_at "rn";refine cy (fun y=>?_) (fun y=>?_)
    ·walk_at "rn";exact ⟨s78,F4,W4,false,_,_,_,_,hw8,ha8,⟨ms4.gr,ms4.len,ms4.lt,ms4.e0,(fun c=>by cases c)⟩,hb4,more _ (fun _ h=>h) z',(fun c=>by cases c),rfl⟩
    ·walk_at "rn";exact ⟨s78,F4,W4,fl4,_,_,_,_,hw8,ha8,ms4,hb4,more _ (fun _ h=>h) z',fun hfl=>cms _ _ (hcm hfl) y,rfl⟩
  ·rintro σ4 H7 ⟨s7,F4,W4,fl4,u1,u2,u3,u4,hw7,ha7,ms4,hb4,hj,hcm,rfl⟩;rw [lS,NF] at hj;rw [lS] at hcm;walk_at "rn";refine ⟨s7,F4,W4,fl4,_,_,_,_,hw7,ha7,⟨ms4.gr.next hb4 hj,ms4.len,ms4.lt,ms4.e0,fun hfl i y hi hy=>?_⟩,rfl⟩;rcases MH i k with z|z
   ·exact ms4.cm hfl i y z hy
   ·have:i=k:=by omega
    subst this;rw [hb4] at hy;cases hy;exact hcm hfl
 ·walk_at "rn";refine z8 aF (by omega) fun dp R H7 hdp s7 hpm hsr g7=>?_
  have G':=ms.gr.gen (by omega) hpm hsr
  have ptR:=G'.part gt hlt;have rl:=ptR.len;have fdp:H dp=none:=sg.free (s6.free hdp);have hw7:=s7 _ _ hw6;have nd:=ms.gr.nd;walk_at "6";refine o6 (β:=Nat) g7.at (by omega) (fun i=>(R.map fun x=>if fl=true then fm F W x else 0).take i) (fun σ'=>∃ y,σ'=[y,some (.bl fl),some (.ref dw)]) rfl (fun i _=>by rw [Mz];omega) ⟨_,rfl⟩ ?_ ?_
  ·rintro i x w' σ' H8 d' R' R0 hx hs hw ⟨y,rfl⟩ hR hR0 hd';cases (show w'=V.int (x:Int) from hw);have hxF:=hpm.mem_iff.mp (LR hx);walk_at "rn";refine lK ?_;walk_at "rn";refine oz (hs _ _ hw7) (t5 nd ms.len hxF) ?_;walk_at "rn";refine .inr ⟨fl,rfl,?_⟩;cases fl with
   | true =>
    refine zV (b:=1) (.inr (by decide)) ?_
    rw [Nat.mul_one];exact hR _ _ _ _ ⟨_,rfl⟩ (aj.refl _) rfl (by rw [MK,Mf,hx];rfl)
   | false =>
    refine zV (b:=0) (.inr (by decide)) ?_
    rw [Pd];exact hR _ _ _ _ ⟨_,rfl⟩ (aj.refl _) rfl (by rw [MK,Mf,hx];rfl)
  intro dm H8 hdm s8 h8;have g8:Gr K H8 dm ((R.map fun x=>if fl=true then fm F W x else 0).take R.length):=h8;rw [MD (by simp)] at g8
  walk_at "rn";refine ⟨small (by show 2<=1000;decide),fun p hp=>?_⟩
  have s68:=s7.trans s8;have sH8:=sg.trans (s6.trans s68);have hR8:=s8 _ _ (fq g7);have hM8:=fq g8;have s9:=ay hp (.tup [.ref dp,.ref dm]);have fml:∀ x∈R,fm F W x<m:=fun x hx=>by
   have hi:=MI (hpm.mem_iff.mp hx);exact ms.lt _ (LR (getD_some 0 (show F.idxOf x<W.length by rw [ms.len];exact hi)))
  refine q p dp dm _ R _ fdp (sg.free (s6.free (s7.free hdm))) (nF (fq g7) hdm) (sH8.trans s9) ao (s9 _ _ hR8) (s9 _ _ hM8) ptR (by simp) (fun x hx=>?_) fun j hj k' hk=>?_
  ·obtain ⟨y,hy,rfl⟩:=Mm.mp hx
   by_cases hfl:fl=true
   ·rw [if_pos hfl];exact fml y hy
   ·rw [if_neg hfl];exact m1
  ·by_cases hfl:fl=true
   ·have em:(R.map fun x=>if fl=true then fm F W x else 0)=R.map (fm F W):=Pu fun x _=>if_pos hfl;rw [em];refine J1 ptR (FH (μ:=fun s=>G.getD (S.idxOf s) 0) gt G' hlt m1 fml ms.e0 fun x hx s hs=>?_) hj hk;obtain ⟨i,hi⟩:=Ni (hpm.mem_iff.mp hx);have sil:=MI hs;refine ms.cm hfl i x ?_ hi (S.idxOf s) s _ sil (by rw [LP sil,NY]) (getD_some 0 (by omega))
    have:=(LQ.mp hi).1;omega
   ·have em:(R.map fun x=>if fl=true then fm F W x else 0)=Mv R.length 0:=by
     rw [<- List.map_const'];exact Pu fun x _=>if_neg hfl
    rw [em];exact JF
theorem HW {H:Hp}:∀ {ys:List V} {l:List Int},Nt (Rep.is K H) ys l->ys=l.map V.int
 | _,_,.nil=>rfl
 | _,_,.cons r t=>by rw [MO,<- HW t,show _=V.int _ from r]
theorem qd {H:Hp} {d:Addr} {l:List Int} (h:Gr K H d l):H d=some (.lst (l.map V.int)):=by
 obtain ⟨ys,h1,h2⟩:=h;rw [h1,HW h2]
theorem zsV {R:List Nat}:(R.map fun (x:Nat)=>(x:Int)).map V.int=aY R:=by rw [OH];rfl
abbrev SI:=Sum Str Int
def siV:SI->V
 | .inl s=>.str s
 | .inr i=>.int i
instance:Rep SI:=⟨fun _ _ v a=>v=siV a,fun _ h=>h⟩
theorem Jc:∀ {a b:SI},siV a=siV b->a=b
 | .inl _,.inl _,h=>by injection h with h;rw [h]
 | .inr _,.inr _,h=>by injection h with h;rw [h]
 | .inl _,.inr _,h=>by cases h
 | .inr _,.inl _,h=>by cases h
theorem Kq:∀ {a b:SI},eqV (siV a) (siV b)=decide (a=b)
 | .inl a,.inl b=>by
  show (a == b)=_
  by_cases h:a=b
  ·subst h;simp
  ·have:(RP a:SI)≠.inl b:=fun z=>h (S9 z);rw [decide_eq_false this]
   simpa using h
 | .inr a,.inr b=>by
  show (a == b)=_
  by_cases h:a=b
  ·subst h;simp
  ·have:(Rh a:SI)≠.inr b:=fun z=>h (Rh.inj z);rw [decide_eq_false this]
   simpa using h
 | .inl _,.inr _=>by rw [decide_eq_false (fun z=>by cases z)];rfl
 | .inr _,.inl _=>by rw [decide_eq_false (fun z=>by cases z)];rfl
theorem zt:∀ {a:SI},mC (siV a)=true
 | .inl _=>rfl
 | .inr _=>rfl
instance:bQ SI where
 depth:=0
 inj:=fun _ h h'=>Jc ((show _=siV _ from h).symm.trans h')
 eq:=fun {X pins σ H s A x y u v a b} _ hx hy ru rv _=>by
  cases (show x=siV a from hx);cases (show y=siV b from hy);have q:=rS (A:=A) (s:=s) ru rv zt zt;rw [Kq] at q;exact q
theorem E7 {H:Hp}:∀ {l:List SI},Nt (Rep.is K H) (l.map siV) l
 | []=>.nil
 | _ :: _=>.cons rfl E7
theorem Ls {H:Hp} {p:Addr} {l:List SI} (h:H p=some (.lst (l.map siV))):At K H (.ref p) l:=⟨p,_,rfl,SqL.of h,E7⟩
def yQ:Sp:=fun vs H Q _=>∃ (k n e:Nat) (m:Int) (t:List (List Nat)),vs=[.int (k:Int),.int m]/\dq (cH n t e) k/\(gB n t e m->Q (.bl true) H)/\(¬ gB n t e m->Q (.bl false) H)
theorem rA (T:Txt K mg):aI P w K mg base CX0 1 T.gE.f T.gE.fd ["_law_least","_law_spokes_here"] yQ:=by
 refine T.gE.ok yO (fun vs H Q E h=>?_) (fun cdv A outer s H vs Q E hr h=>?_)
 ·obtain ⟨k,n,e,m,t,rfl,_⟩:=h;rfl
 obtain ⟨k,n,e,m,t,rfl,hk,q1,q2⟩:=h;have hk0:=hk.pos;refine ⟨_,(ah (aK (fP (bS oU (pv 1) (pv 0) (aE _)) (fP (bS bM (ak aT (pv 1) (pv 0)) af (aE _)) (jh (bS Ib (pv 1) af (aE _))))))),?_⟩;walk_at "rn";refine aU (fun c1=>?_) (fun c1=>?_)
 ·walk_at "rn";refine dG (by omega) ?_
  walk_at "rn";refine aU (fun c2=>?_) (fun c2=>?_)
  ·walk_at "rn"
   by_cases c3:m<=((60:Nat):Int)
   ·rw [decide_eq_true c3];exact q1 ⟨by omega,by omega,fun k2 hk2=>by rw [hk2.uni hk];exact c2⟩
   ·rw [decide_eq_false c3];exact q2 fun z=>c3 (by have:=z.2.1;omega)
  ·exact q2 fun z=>c2 (z.2.2 k hk)
 ·refine q2 fun z=>c1 ?_;have h1:=z.1;have h2:=z.2.2 k hk;have h3:=Int.le_of_dvd (show 0<m by omega) (Int.dvd_of_emod_eq_zero h2)
  omega
def yM:Sp:=fun vs H Q _=>∃ (k:Nat) (c:Int),vs=[.int (k:Int),.int c]/\1<=k/\k<=60/\∀ m:Int,Q (.int m) H
theorem yy (T:Txt K mg):aI P w K mg base CX0 1 T.jm.f T.jm.fd ["_law_least","_law_cell_here"] yM:=by
 refine T.jm.ok rG (fun vs H Q E h=>?_) (fun cdv A outer s H vs Q E hr h=>?_)
 ·obtain ⟨k,c,rfl,_⟩:=h;rfl
 obtain ⟨k,c,rfl,k1,k60,q⟩:=h;refine ⟨_,(ae (au (i:=2) rG.nd rfl (Mg rfl) (ak bA (pv 1) af))
   (ae (aW (aH bM (ak aT (pv 1) af) af (aE _)) (ah (aK (ak iI (ak aT (pv 2) af) af))) aQ)
   (ae (aW (aH bM (ak aT (pv 1) af) af (aE _)) (ah (aK (ak a0 (pv 0) af))) aQ)
   (ae (aW (aH bM (ak aT (pv 1) af) af (aE _)) (ah (aK (ak bL (pv 0) (ak a0 (ak bA af (pv 0)) (ak aT (pv 2) af))))) aQ)
   (ah (aK (ak bL (ak iI af (ak bL af (ak aT (pv 2) af))) (ak aT (ak bA (pv 2) af) (ak Es af af))))))))),?_⟩
 walk_at "rn";refine gQ (by decide) (by decide) ?_
 walk_at "rn";generalize c / ((7:Nat):Int)=y;walk_at "ifs";walk_at "rn";refine dG (by decide) ?_
 walk_at "rn";refine aU (fun _=>?_) (fun _=>?_)
 ·walk_at "rn";refine dG (by decide) ?_
  walk_at "rn";exact q _
 walk_at "2";refine dG (by decide) ?_
 walk_at "rn";refine aU (fun _=>?_) (fun _=>?_)
 ·walk_at "rn";exact q _
 walk_at "2";refine dG (by decide) ?_
 walk_at "rn";refine aU (fun _=>?_) (fun _=>?_)
 ·walk_at "rn";refine dG (by decide) ?_
  walk_at "rn";refine pG (.inl ⟨by omega,by omega⟩) ?_
  walk_at "rn";exact q _
 walk_at "rn";refine dG (by decide) ?_
 walk_at "rn";have z2:=Oh y (show ((2:Nat):Int)≠0 by decide)
 have z3:=QP y (show (0:Int)<((2:Nat):Int) by decide)
 generalize y % ((2:Nat):Int)=y2 at z2 z3;refine pG (.inl ⟨by decide,by decide⟩) ?_
 refine Au ?_;walk_at "rn";refine gQ (by decide) (by decide) ?_
 walk_at "rn";refine pG ⟨by decide,by decide,by decide⟩ ?_
 refine dG (by decide) ?_
 refine pG (.inl ⟨by omega,by omega⟩) ?_
 exact q _
def vi (K:LM):Sp:=fun vs H Q _=>∃ (v:V) (dp:Addr) (c:Int) (n e:Nat) (t:List (List Nat)) (R:List Nat),vs=[v,.ref dp,.int c]/\At K H v t/\GT n t e/\H dp=some (.lst (aY R))/\IsPart n t R /\
 ∀ d H' (L:List Int),aj H H'->H' d=some (.lst (L.map V.int))->L.length<=64->Tame n L->Q (.ref d) H'
theorem vA (T:Txt K mg):aI P w K mg base CX0 2 T.gN.f T.gN.fd ["_law_table","_law_part","_law_cell_here"] (vi K):=by
 refine T.gN.ok oY (fun vs H Q E h=>?_) (fun cdv A outer s H vs Q E hr h=>?_)
 ·obtain ⟨v,dp,c,n,e,t,R,rfl,_⟩:=h;rfl
 obtain ⟨v,dp,c,n,e,t,R,rfl,hT,gt,h1,pt,q⟩:=h;have n1:=gt.pos;have n23:=gt.le;have rl:=pt.len;have r0:=MR.mpr pt.ne;have aR:At K H (.ref dp) R:=eN h1;have qn:∀ d' H' (S:List Nat),aj H H'->Gr K H' d' S->S.length<=64->(∀ x∈S,x<n)->Q (.ref d') H':=fun d' H' S s' a' l' m'=>q d' H' _ s' (by rw [zsV];exact fq a') (by rw [LO];exact l') (xT m')
 refine ⟨_,(ae (au (i:=3) oY.nd rfl (Mg rfl) (aO T.eT (lB T) (hr.mono (by decide)) rfl (paF (pv 2) (paF af (paF (av (aV K rfl) rfl T.bz Mt (paF (pv 1) aa)) aa)))))
   (ae (aW (aH bM (ak aT (pv 2) af) af (aE _)) (ah (aK (bJ rfl ni (bb rfl T.bp (paF (av (aV K rfl) rfl T.bz Mt (paF (pv 1) aa)) aa)) (fun _ _ _ _=>⟨(az (i:=0) ni.nd rfl (Mg rfl)),bj,(ar (ai K rfl) (pv 1) (ak iI (ak iI (av (aV K rfl) rfl T.bz Mt (paF (pv 1) aa)) af) (pv 0)) (fun _ _=>rfl))⟩)))) aQ)
   (ae (aW (aH bM (ak aT (pv 2) af) af (aE _)) (ah (aK (ak fv (pv 1) (bg (paF (ak a0 (av (aV K rfl) rfl T.bz Mt (paF (pv 0) aa)) (ak aT (ak bA (pv 2) af) af)) aa))))) aQ)
   (ae (aW (aH bM (ak aT (pv 2) af) af (aE _)) (ah (aK (ak fv (bg (paF (ak iI (ak iI af af) (ak aT (ak bA (pv 2) af) af)) aa)) (pv 1)))) aQ)
   (ah (aK (ak fv (fV (fZ K rfl) (pv 1) jz (gL (pv 3))) (fV (fZ K rfl) (pv 1) (gL (ak a0 (pv 3) af)) jz)))))))),?_⟩
 walk_at "rn";refine cX aR ?_;walk_at "rn";refine ⟨c,41,R.length,rfl,by decide,r0,fun hat=>?_⟩
 generalize thg c 41 R.length=a at hat;walk_at "2";refine dG (by decide) ?_
 walk_at "rn";refine aU (fun _=>?_) (fun _=>?_)
 ·walk_at "rn";refine cX aR ?_;refine nB K (n:=R.length) (β:=Nat) rfl (by omega) (fun i=>(L4 i).map fun k=>R.getD (R.length - 1 - k) 0) (fun σ'=>∃ y,σ'=[y,some (.ref dp)]) rfl (fun i _=>by rw [LO,MU];omega) ⟨_,rfl⟩ ?_ ?_
  ·rintro i σ' H2 d' R' R0 hi hs ⟨y,rfl⟩ hR' hR0 hd';have a2:=Rep.mono hs aR;walk_at "rn";refine cX a2 ?_;walk_at "rn";refine j7 (n:=R.length - 1 - i) a2 (by omega) (getD_some 0 (by omega)) ?_
   exact hR' _ _ _ _ ⟨_,rfl⟩ (aj.refl _) rfl (by rw [PX,MQ];rfl)
  ·intro d2 H2 f2 s2 g2;have g2':Gr K H2 d2 ((L4 R.length).map fun k=>R.getD (R.length - 1 - k) 0):=g2;refine qn d2 H2 _ s2 g2' (by rw [LO,MU];omega) fun x hx=>?_
   obtain ⟨k,hk,rfl⟩:=Mm.mp hx;have hk:=Mj.mp hk;exact pt.lt _ (LR (getD_some 0 (by omega)))
 walk_at "2";refine dG (by decide) ?_
 walk_at "rn";refine aU (fun _=>?_) (fun _=>?_)
 ·walk_at "3";refine cX hT ?_;rw [gt.len];walk_at "rn";refine gQ (by decide) (by decide) ?_
  walk_at "rn";refine dG (by decide) ?_
  have z1:=Oh (c / ((4:Nat):Int)) (show ((3:Nat):Int)≠0 by decide)
  generalize c / ((4:Nat):Int) % ((3:Nat):Int)=y3 at z1;refine Fj ?_;walk_at "rn";refine ⟨small (by show 1<=1000;decide),fun p3 hp3=>?_⟩
  have s3:=ay hp3 (.lst [.int ((n:Int)+y3)]);have h3:(upd H p3 (.lst [.int ((n:Int)+y3)])) p3=some (.lst [.int ((n:Int)+y3)]):=ao;generalize upd H p3 (.lst [.int ((n:Int)+y3)])=H3 at s3 h3;refine mW (K:=K) (α:=Int) (r:=[(n:Int)+y3]) (oN (s3 _ _ h1)) ⟨p3,_,rfl,h3,.cons rfl .nil⟩ (by simp;omega) fun p4 H4 _ s4 a4=>?_
  refine q p4 H4 _ (s3.trans s4) (qd a4) (by simp;omega) fun x hx hx0 y hy hyn=>?_
  exfalso
  rw [Mo,LO,Nq,Nat.add_sub_cancel,MM (by rw [LO];exact Mi _),LO,S7] at hy
  cases hy;omega
 walk_at "2";refine dG (by decide) ?_
 walk_at "rn";refine aU (fun _=>?_) (fun _=>?_)
 ·walk_at "3";refine gQ (by decide) (by decide) ?_
  walk_at "rn";refine dG (by decide) ?_
  have z1:=Oh (c / ((4:Nat):Int)) (show ((3:Nat):Int)≠0 by decide)
  generalize c / ((4:Nat):Int) % ((3:Nat):Int)=y3 at z1;refine Au ?_;walk_at "rn";have z5:((0:Nat):Int) - ((1:Nat):Int) - y3<0:=by omega
  generalize ((0:Nat):Int) - ((1:Nat):Int) - y3=y4 at z5;refine ⟨small (by show 1<=1000;decide),fun p3 hp3=>?_⟩
  have s3:=ay hp3 (.lst [.int y4]);have h3:(upd H p3 (.lst [.int y4])) p3=some (.lst [.int y4]):=ao;generalize upd H p3 (.lst [.int y4])=H3 at s3 h3;walk_at "rn";refine mW (K:=K) (α:=Int) (l:=[y4]) ⟨p3,_,rfl,h3,.cons rfl .nil⟩ (oN (s3 _ _ h1)) (by simp;omega) fun p4 H4 _ s4 a4=>?_
  refine q p4 H4 _ (s3.trans s4) (qd a4) (by simp;omega) fun x hx hx0=>?_
  exfalso
  cases hx;omega
 walk_at "rn";refine iE aR fun p2 H2 _ s2 g2=>?_;walk_at "rn";refine iE (eN (s2 _ _ h1)) fun p5 H5 _ s5 g5=>?_;have c1:=nV R none (some ((a:Nat):Int));have c2:=nV R (some ((a+1:Nat):Int)) none;refine mW (K:=K) (α:=Nat) (g2.mono s5).copy g5.copy (by omega) fun p6 H6 _ s6 a6=>?_
 refine qn p6 H6 _ (s2.trans (s5.trans s6)) a6 (by rw [Mo];omega) fun x hx=>?_
 rcases MC.mp hx with hx|hx
 ·exact pt.lt x (Cd hx)
 ·exact pt.lt x (Cd hx)
def uU (K:LM):Sp:=fun vs H Q _=>∃ (dm:Addr) (c:Int) (m k:Nat) (M:List Nat),vs=[.ref dm,.int (m:Int),.int c,.int (k:Int)]/\H dm=some (.lst (aY M))/\M≠[]/\M.length<=23/\1<=m /\
 ∀ d H' (L:List Int),aj H H'->H' d=some (.lst (L.map V.int))->L.length<=64->Q (.ref d) H'
theorem kh (T:Txt K mg):aI P w K mg base CX0 2 T.dj.f T.dj.fd ["_law_marks","_law_spokes_here","_law_cell_here","_law_way"] (uU K):=by
 refine T.dj.ok iC (fun vs H Q E h=>?_) (fun cdv A outer s H vs Q E hr h=>?_)
 ·obtain ⟨dm,c,m,k,M,rfl,_⟩:=h;rfl
 obtain ⟨dm,c,m,k,M,rfl,h1,mne,ml,m1,q⟩:=h;have r0:=MR.mpr mne;have aM:At K H (.ref dm) M:=eN h1;refine ⟨_,(ae (au (i:=4) iC.nd rfl (Mg rfl) (aO T.eT (lB T) (hr.mono (by decide)) rfl (paF (pv 2) (paF af (paF (av (aV K rfl) rfl T.bz Mt (paF (pv 0) aa)) aa)))))
   (ae (aW (PW.pt (lF (aH bM (pv 3) af (aE _)) (lO (aH bM (ak aT (pv 2) af) af (aE _))))) (ah (aK (ak fv (fV (fZ K rfl) (pv 0) jz (gL (pv 4))) (fV (fZ K rfl) (pv 0) (gL (ak a0 (pv 4) af)) jz)))) aQ)
   (ae (aW (aH bM (pv 3) af (aE _)) (ah (aK (ak fv (ak fv (fV (fZ K rfl) (pv 0) jz (gL (pv 4))) (bg (paF af aa))) (fV (fZ K rfl) (pv 0) (gL (pv 4)) jz)))) aQ)
   (ae (au (i:=5) iC.nd rfl (Mg rfl) (ak aT (ak a0 (ar (ai K rfl) (pv 0) (pv 4) (fun _ _=>rfl)) af) (pv 1)))
   (ae (aW (aH bM (pv 3) af (aE _)) (ah (au (i:=5) iC.nd rfl (Mg rfl) (ar (ai K rfl) (bg (paF (ak iI (ak iI af af) (ak aT (ak bA (pv 2) af) af)) (paF (ak a0 (pv 1) (ak aT (ak bA (pv 2) af) (ak Es af af))) aa))) (ak aT (ak bA (pv 2) af) af) (fun _ _=>rfl)))) aQ)
   (ah (aK (ak fv (ak fv (fV (fZ K rfl) (pv 0) jz (gL (pv 4))) (bg (paF (pv 5) aa))) (fV (fZ K rfl) (pv 0) (gL (ak a0 (pv 4) af)) jz))))))))),?_⟩
 walk_at "rn";refine cX aM ?_;walk_at "rn";refine ⟨c,42,M.length,rfl,by decide,r0,fun hat=>?_⟩
 generalize thg c 42 M.length=a at hat;have c1:=nV M none (some ((a:Nat):Int));have c2:=nV M (some ((a+1:Nat):Int)) none;have c3:=nV M (some ((a:Nat):Int)) none;walk_at "2";refine aU (fun k0=>?_) (fun k0=>?_)
 ·walk_at "rn";refine dG (by decide) ?_
  walk_at "rn";refine aU (fun _=>?_) (fun _=>?_)
  ·walk_at "rn";refine iE aM fun p2 H2 _ s2 g2=>?_;walk_at "rn";refine iE (eN (s2 _ _ h1)) fun p5 H5 _ s5 g5=>?_;refine mW (K:=K) (α:=Nat) (g2.mono s5).copy g5.copy (by omega) fun p6 H6 _ s6 a6=>?_
   exact q p6 H6 _ (s2.trans (s5.trans s6)) (by rw [zsV];exact fq a6) (by rw [LO,Mo];omega)
  ·walk_at "2";refine aU (fun _=>?_) (fun z=>absurd k0 z);walk_at "rn";refine iE aM fun p2 H2 _ s2 g2=>?_;walk_at "3";refine ⟨small (by show 1<=1000;decide),fun p3 hp3=>?_⟩
   have s3:=ay hp3 (.lst (aY [0]));have h3:(upd H2 p3 (.lst (aY [0]))) p3=some (.lst (aY [0])):=ao;rw [show [V.int ((0:Nat):Int)]=aY [0] from rfl];generalize upd H2 p3 (.lst (aY [0]))=H3 at s3 h3;refine mW (K:=K) (α:=Nat) (r:=[0]) (g2.mono s3).copy ⟨p3,_,rfl,h3,me⟩ (by rw [Nq];omega) fun p4 H4 _ s4 g4=>?_
   walk_at "rn";have s14:=s2.trans (s3.trans s4);refine iE (eN (s14 _ _ h1)) fun p5 H5 _ s5 g5=>?_;refine mW (K:=K) (α:=Nat) (g4.mono s5).copy g5.copy (by simp;omega) fun p6 H6 _ s6 a6=>?_
   exact q p6 H6 _ (s14.trans (s5.trans s6)) (by rw [zsV];exact fq a6) (by rw [LO,Mo,Mo,Nq];omega)
 refine dF ?_;walk_at "2";refine aU (fun z=>absurd z k0) (fun _=>?_);walk_at "rn";refine bF aM (LP hat) ?_;walk_at "rn"
 rename_i N hN
 have fin:∀ (x:Int) (H2:Hp),aj H H2->N [some (.ref dm),some (.int (m:Int)),some (.int c),some (.int (k:Int)),some (.int (a:Int)),some (.int x)] H2:=by
  intro x H2 s02;refine r9 hN ?_;walk_at "rn";refine iE (eN (s02 _ _ h1)) fun p2 H3 _ s2 g2=>?_;walk_at "3";refine ⟨small (by show 1<=1000;decide),fun p3 hp3=>?_⟩
  have s3:=ay hp3 (.lst [.int x]);have h3:(upd H3 p3 (.lst [.int x])) p3=some (.lst [.int x]):=ao;generalize upd H3 p3 (.lst [.int x])=H4 at s3 h3;have s24:=s2.trans s3;refine mW (K:=K) (α:=Int) (r:=[x]) (oN (s3 _ _ (fq g2))) ⟨p3,_,rfl,h3,.cons rfl .nil⟩ (by rw [LO,Nq];omega) fun p4 H5 _ s4 g4=>?_
  walk_at "rn";have s25:=s24.trans s4;refine iE (eN (s25 _ _ (s02 _ _ h1))) fun p5 H6 _ s5 g5=>?_;refine mW (K:=K) (α:=Int) (g4.mono s5).copy (oN (fq g5)) (by rw [Mo,LO,LO,Nq];omega) fun p6 H7 _ s6 a6=>?_
  exact q p6 H7 _ (s02.trans (s25.trans (s5.trans s6))) (qd a6) (by rw [Mo,Mo,LO,LO,Nq];omega)
 walk_at "ifs";walk_at "rn";refine aU (fun _=>?_) (fun _=>?_)
 ·walk_at "3";refine gQ (by decide) (by decide) ?_
  walk_at "rn";refine dG (by decide) ?_
  refine Au ?_;walk_at "rn";refine gQ (by decide) (by decide) ?_
  walk_at "rn";refine pG ⟨by decide,by decide,by decide⟩ ?_
  refine dG (by decide) ?_
  generalize c / ((4:Nat):Int) % ((10:Nat):Int) ^ ((59:Nat):Int).toNat=y1;generalize ((0:Nat):Int) - ((1:Nat):Int) - c / ((4:Nat):Int) % ((3:Nat):Int)=y2;refine Fj ?_;walk_at "rn";refine ⟨small (by show 2<=1000;decide),fun p3 hp3=>?_⟩
  have s3:=ay hp3 (.lst [.int y2,.int ((m:Int)+y1)]);have h3:(upd H p3 (.lst [.int y2,.int ((m:Int)+y1)])) p3=some (.lst (([y2,(m:Int)+y1]:List Int).map V.int)):=ao;generalize upd H p3 (.lst [.int y2,.int ((m:Int)+y1)])=H3 at s3 h3;walk_at "rn";refine gQ (by decide) (by decide) ?_
  walk_at "rn";refine dG (by decide) ?_
  have z2:=Oh (c / ((2:Nat):Int)) (show ((2:Nat):Int)≠0 by decide)
  have z3:=QP (c / ((2:Nat):Int)) (show (0:Int)<((2:Nat):Int) by decide)
  generalize c / ((2:Nat):Int) % ((2:Nat):Int)=y3 at z2 z3;rcases Int.lt_or_le y3 1 with z4|z4
  ·refine tG (n:=0) (fH (SqL.of h3)) (by omega) rfl ?_
   exact fin _ H3 s3
  ·refine tG (n:=1) (fH (SqL.of h3)) (by omega) rfl ?_
   exact fin _ H3 s3
 ·exact fin _ H (aj.refl _)
def Bn (K:LM):Sp:=fun vs H Q _=>∃ (d:Addr) (k n e:Nat) (c:Int) (t:List (List Nat)) (ps:List Addr),vs=[.ref d,.int (k:Int),.int c]/\Tbl H d t ps/\GT n t e/\0<k/\k<=60 /\
 ∀ p dp dm H' (L M:List Int) (m:Int),aj H H'->H' p=some (.tup [.ref dp,.ref dm,.int m])->H' dp=some (.lst (L.map V.int))->L.length<=64->Tame n L->H' dm=some (.lst (M.map V.int))->M.length<=64->Q (.ref p) H'
theorem BQ (T:Txt K mg):aI P w K mg base CX0 4 T.lG.f T.lG.fd ["_law_table","_law_least","_law_cell_here"] (Bn K):=by
 refine T.lG.ok da (fun vs H Q E h=>?_) (fun cdv A outer s H vs Q E hr h=>?_)
 ·obtain ⟨d,k,n,e,c,t,ps,rfl,_⟩:=h;rfl
 obtain ⟨d,k,n,e,c,t,ps,rfl,tb0,gt,k0,k60,q⟩:=h;have n1:=gt.pos;have n23:=gt.le;have z1:=Oh c (show ((10:Nat):Int)≠0 by decide)
 obtain ⟨j,ej⟩:∃ j:Nat,c % ((10:Nat):Int)=(j:Int):=⟨(c % ((10:Nat):Int)).toNat,by omega⟩
 refine ⟨_,(ae (au (i:=3) da.nd rfl (Mg rfl) (ak aT (pv 2) af))
   (ae (au (i:=4) da.nd rfl (Mg rfl) (pv 1))
   (ae (sE (aO T.je (yF T) (hr.mono (by decide)) rfl (paF (pv 0) (paF (aO T.lg (BJ T) (hr.mono (by decide)) rfl (paF (pv 0) (paF (ak bA (pv 2) af) aa))) (paF (pv 1) (paF (pv 2) aa))))) (mP rfl (cA (az (i:=5) da.nd rfl (Mg rfl)) (cA (az (i:=6) da.nd rfl (Mg rfl)) kC))))
   (ae (aW (aH (sP K rfl) (pv 3) (bg (kq [3,7,9] (by trivial)).out) (by with_unfolding_all rfl)) (ah (au (i:=4) da.nd rfl (Mg rfl) (aO T.jm (yy T) (hr.mono (by decide)) rfl (paF (pv 1) (paF (ak bA (pv 2) af) aa))))) aQ)
   (ae (aW (aH (sP K rfl) (pv 3) (bg (kq [4,7,8] (by trivial)).out) (by with_unfolding_all rfl)) (ah (au (i:=6) da.nd rfl (Mg rfl) (aO T.dj (kh T) (hr.mono (by decide)) rfl (paF (pv 6) (paF (pv 1) (paF (ak bA (pv 2) af) (paF af aa))))))) aQ)
   (ae (aW (aH (sP K rfl) (pv 3) (bg (kq [5,9] (by trivial)).out) (by with_unfolding_all rfl)) (ah (au (i:=6) da.nd rfl (Mg rfl) (aO T.dj (kh T) (hr.mono (by decide)) rfl (paF (pv 6) (paF (pv 1) (paF (ak bA (pv 2) af) (paF af aa))))))) aQ)
   (ae (aW (aH bM (pv 3) af (aE _)) (ah (au (i:=6) da.nd rfl (Mg rfl) (aO T.dj (kh T) (hr.mono (by decide)) rfl (paF (pv 6) (paF (pv 1) (paF (ak bA (pv 2) af) (paF af aa))))))) aQ)
   (ae (aW (aH (sP K rfl) (pv 3) (bg (kq [2,8] (by trivial)).out) (by with_unfolding_all rfl)) (ah (au (i:=5) da.nd rfl (Mg rfl) (aO T.gN (vA T) (hr.mono (by decide)) rfl (paF (pv 0) (paF (pv 5) (paF (ak bA (pv 2) af) aa)))))) aQ)
   (ah (aK (oq (paF (pv 5) (paF (pv 6) (paF (pv 4) aa)))))))))))))),?_⟩
 walk_at "rn";refine dG (by decide) ?_
 rw [ej];walk_at "rn";refine gQ (by decide) (by decide) ?_
 generalize c / ((10:Nat):Int)=c2;walk_at "rn";refine ⟨_,n,e,_,t,rfl,tb0.at,gt,fun ds H1 S _ s1 g1 sl slt=>?_⟩;walk_at "rn";refine ⟨_,_,n,e,k,c,t,S,rfl,(tb0.mono s1).at,gt,g1.at,sl,slt,k0,k60,fun p dp dm H2 R M _ _ _ s2 hp hdp hdm pt ml mm ok=>?_⟩;have rl:=pt.len;have r0:=MR.mpr pt.ne;have mne:M≠[]:=MR.mp (by omega)
 have s02:=s1.trans s2;walk_at "rn";refine ⟨p,_,rfl,SqT.of hp,rfl,⟨_,_,rfl,⟨_,_,rfl,⟨rfl,?_⟩⟩⟩⟩;walk_at "rn";refine iw (fun σ' H'=>aj H2 H'/\∃ m:Int,σ'=[some (.ref d),some (.int (k:Int)),some (.int c),some (.int (j:Int)),some (.int m),some (.ref dp),some (.ref dm)]) (fun N hN=>?_) ?_
 ·walk_at "rn";refine cV (K:=K) (l:=([3,7,9]:List Nat)) (jI _) (by decide) fun d3 H3 _ s3 g3=>?_
  walk_at "rn";refine wQ g3.at ?_;walk_at "rn";refine aU (fun _=>?_) (fun _=>?_)
  ·walk_at "rn";refine gQ (by decide) (by decide) ?_
   walk_at "rn";refine ⟨k,_,rfl,k0,k60,fun m=>?_⟩;walk_at "rn";exact hN _ _ ⟨s3,m,rfl⟩
  ·exact hN _ _ ⟨s3,_,rfl⟩
 rintro σ' H3 ⟨s3,m,rfl⟩;walk_at "rn";refine iw (fun σ' H'=>aj H2 H'/\∃ dm':Addr,(dm'=dm\/(j∈[4,7,8]/\∃ M':List Int,H' dm'=some (.lst (M'.map V.int))/\M'.length<=64))/\σ'=[some (.ref d),some (.int (k:Int)),some (.int c),some (.int (j:Int)),some (.int m),some (.ref dp),some (.ref dm')]) (fun N hN=>?_) ?_
 ·walk_at "rn";refine cV (K:=K) (l:=([4,7,8]:List Nat)) (jI _) (by decide) fun d4 H4 _ s4 g4=>?_
  walk_at "rn";refine wQ g4.at ?_;walk_at "rn";refine aU (fun hj=>?_) (fun _=>?_)
  ·walk_at "rn";refine gQ (by decide) (by decide) ?_
   walk_at "rn";refine ⟨dm,_,k,0,M,rfl,(s3.trans s4) _ _ hdm,mne,by omega,k0,fun d5 H5 L5 s5 a5 l5=>?_⟩
   walk_at "rn";exact hN _ _ ⟨s3.trans (s4.trans s5),d5,.inr ⟨hj,L5,a5,l5⟩,rfl⟩
  ·exact hN _ _ ⟨s3.trans s4,dm,.inl rfl,rfl⟩
 rintro σ' H4 ⟨s4,dm4,h4,rfl⟩;walk_at "rn";refine iw (fun σ' H'=>aj H2 H'/\∃ dm':Addr,(dm'=dm\/(j≠6/\∃ M':List Int,H' dm'=some (.lst (M'.map V.int))/\M'.length<=64))/\σ'=[some (.ref d),some (.int (k:Int)),some (.int c),some (.int (j:Int)),some (.int m),some (.ref dp),some (.ref dm')]) (fun N hN=>?_) ?_
 ·walk_at "rn";refine cV (K:=K) (l:=([5,9]:List Nat)) (jI _) (by decide) fun d5 H5 _ s5 g5=>?_
  walk_at "rn";refine wQ g5.at ?_;walk_at "rn";refine aU (fun hj=>?_) (fun _=>?_)
  ·have e4:dm4=dm:=by
    rcases h4 with h4|⟨h4,_⟩
    ·exact h4
    ·exfalso
     simp at hj h4;omega
   subst e4;walk_at "rn";refine gQ (by decide) (by decide) ?_
   walk_at "rn";refine ⟨dm4,_,k,1,M,rfl,(s4.trans s5) _ _ hdm,mne,by omega,k0,fun d6 H6 L6 s6 a6 l6=>?_⟩
   walk_at "rn";exact hN _ _ ⟨s4.trans (s5.trans s6),d6,.inr ⟨by intro z;rw [z] at hj;simp at hj,L6,a6,l6⟩,rfl⟩
  ·refine hN _ _ ⟨s4.trans s5,dm4,?_,rfl⟩;rcases h4 with h4|⟨h4,M',a',l'⟩
   ·exact .inl h4
   ·exact .inr ⟨by intro z;rw [z] at h4;simp at h4,M',s5 _ _ a',l'⟩
 rintro σ' H5 ⟨s5,dm5,h5,rfl⟩;walk_at "rn";refine iw (fun σ' H'=>aj H2 H'/\∃ (dm':Addr) (M':List Int),(H' dm'=some (.lst (M'.map V.int))/\M'.length<=64)/\σ'=[some (.ref d),some (.int (k:Int)),some (.int c),some (.int (j:Int)),some (.int m),some (.ref dp),some (.ref dm')]) (fun N hN=>?_) ?_
 ·walk_at "rn";refine aU (fun hj=>?_) (fun _=>?_)
  ·have e5:dm5=dm:=by
    rcases h5 with h5|⟨h5,_⟩
    ·exact h5
    ·exact absurd (by omega) h5
   subst e5;walk_at "rn";refine gQ (by decide) (by decide) ?_
   walk_at "rn";refine ⟨dm5,_,k,2,M,rfl,s5 _ _ hdm,mne,by omega,k0,fun d6 H6 L6 s6 a6 l6=>?_⟩
   walk_at "rn";exact hN _ _ ⟨s5.trans s6,d6,L6,⟨a6,l6⟩,rfl⟩
  ·refine hN _ _ ⟨s5,dm5,?_⟩;rcases h5 with h5|⟨_,M',a',l'⟩
   ·subst h5;exact ⟨_,⟨by rw [zsV];exact s5 _ _ hdm,by rw [LO];omega⟩,rfl⟩
   ·exact ⟨M',⟨a',l'⟩,rfl⟩
 rintro σ' H6 ⟨s6,dm6,M6,⟨a6,l6⟩,rfl⟩;walk_at "rn";refine iw (fun σ' H'=>aj H6 H'/\∃ (dp':Addr) (L':List Int),(H' dp'=some (.lst (L'.map V.int))/\L'.length<=64/\Tame n L')/\σ'=[some (.ref d),some (.int (k:Int)),some (.int c),some (.int (j:Int)),some (.int m),some (.ref dp'),some (.ref dm6)]) (fun N hN=>?_) ?_
 ·walk_at "rn";refine cV (K:=K) (l:=([2,8]:List Nat)) (jI _) (by decide) fun d7 H7 _ s7 g7=>?_
  walk_at "rn";refine wQ g7.at ?_;walk_at "rn";refine aU (fun hj=>?_) (fun _=>?_)
  ·walk_at "rn";refine gQ (by decide) (by decide) ?_
   walk_at "rn";refine ⟨_,dp,_,n,e,t,R,rfl,(tb0.mono (s02.trans (s6.trans s7))).at,gt,(s6.trans s7) _ _ hdp,pt,fun d8 H8 L8 s8 a8 l8 t8=>?_⟩;walk_at "rn";exact hN _ _ ⟨s7.trans s8,d8,L8,⟨a8,l8,t8⟩,rfl⟩
  ·exact hN _ _ ⟨s7,dp,_,⟨by rw [zsV];exact (s6.trans s7) _ _ hdp,by rw [LO];omega,xT pt.lt⟩,rfl⟩
 rintro σ' H7 ⟨s7,dp7,L7,⟨a7,l7,t7⟩,rfl⟩;walk_at "6";refine ⟨small (by show 3<=1000;decide),fun p8 hp8=>?_⟩
 have s8:=ay hp8 (.tup [.ref dp7,.ref dm6,.int m]);exact q p8 dp7 dm6 _ L7 M6 m (s02.trans (s6.trans (s7.trans s8))) ao (s8 _ _ a7) l7 t7 ((s7.trans s8) _ _ a6) l6
theorem xK {R:List Nat} (s:R.Pairwise (· < ·)) {i a:Nat} (h:R[i]?=some a):∀ i',i' < i->R[i']?≠some a:=fun i' hi' z=>by
 obtain ⟨h1,e1⟩:=LQ.mp h;obtain ⟨h2,e2⟩:=LQ.mp z;have:=Nv.mp s i' i h2 h1 hi';omega
def wZ:Option (Nat×Nat)->List SI
 | none=>[]
 | some (a,b)=>[.inl "NoWay",.inr (a:Int),.inr (b:Int)]
def wC (n:Nat) (t:List (List Nat)) (e:Nat) (L M:List Int) (m:Int) (l:List SI):Prop :=
 (¬ nq n t L/\l=[.inl "NoPart"])\/∃ R:List Nat,L=R.map (fun (x:Nat)=>(x:Int))/\IsPart n t R /\
  ((¬ gB n t e m/\l=[.inl "BadWheel"])\/(gB n t e m/\zh R M m/\l=[.inl "BadMarks"]) \/
  (gB n t e m/\∃ (M':List Nat) (j:Nat) (o:Option (Nat×Nat)),M=M'.map (fun (x:Nat)=>(x:Int))/\m=(j:Int)/\M'.length=R.length/\(∀ x∈M',x<j)/\kM t R M' j o/\l=wZ o))
def CQ (K:LM):Sp:=fun vs H Q _=>∃ (v:V) (p dp dm:Addr) (k n e:Nat) (t:List (List Nat)) (L M:List Int) (m:Int),vs=[v,.int (k:Int),.ref p]/\At K H v t/\GT n t e/\dq (cH n t e) k/\H p=some (.tup [.ref dp,.ref dm,.int m])/\H dp=some (.lst (L.map V.int))/\L.length<=64/\Tame n L/\H dm=some (.lst (M.map V.int))/\M.length<=64 /\
 ∀ d H' (l:List SI),aj H H'->H' d=some (.lst (l.map siV))->wC n t e L M m l->Q (.ref d) H'
theorem DQ (T:Txt K mg):aI P w K mg base CX0 2 T.mX.f T.mX.fd ["_law_table","_law_least","_law_made_here"] (CQ K):=by
 refine T.mX.ok ij (fun vs H Q E h=>?_) (fun cdv A outer s H vs Q E hr h=>?_)
 ·obtain ⟨v,p,dp,dm,k,n,e,t,L,M,m,rfl,_⟩:=h;rfl
 obtain ⟨v,p,dp,dm,k,n,e,t,L,M,m,rfl,hT,gt,hk,hp,h1,ll,tame,h2,ml,q⟩:=h;have n23:=gt.le;have aL:At K H (.ref dp) L:=fH (SqL.of h1);have aM:At K H (.ref dm) M:=fH (SqL.of h2);have word:∀ (s:Str) (H1:Hp) (pd:Addr),aj H H1->H1 pd=none->wC n t e L M m [.inl s]->Q (.ref pd) (upd H1 pd (.lst [.str s])):=fun s H1 pd s1 hpd hd=>q pd _ _ (s1.trans (ay hpd _)) ao hd;refine ⟨_,(ae (sE (pv 2) (mP rfl (cA (az (i:=3) ij.nd rfl (Mg rfl)) (cA (az (i:=4) ij.nd rfl (Mg rfl)) (cA (az (i:=5) ij.nd rfl (Pz rfl)) kC)))))
   (ae (aW (gF (dW (aO T.fJ (pQ T) (hr.mono (by decide)) rfl (paF (pv 0) (paF (pv 3) aa))))) (ah (aK (bg (paF cQ aa)))) aQ)
   (ae (aW (gF (dW (aO T.gE (rA T) (hr.mono (by decide)) rfl (paF (pv 1) (paF (pv 5) aa))))) (ah (aK (bg (paF cQ aa)))) aQ)
   (ae (aW (PW.pt (nH (aH fQ (av (aV K rfl) rfl T.bz Mt (paF (pv 4) aa)) (av (aV K rfl) rfl T.bz Mt (paF (pv 3) aa)) (aE _)) (m5 (gF (dW (av (jc K rfl rfl) rfl T.kf NU (paF (bJ rfl sL (aZ K rfl (pv 4)) (fun _ _ _ _=>⟨(az (i:=0) sL.nd rfl (Mg rfl)),bj,(fP (bS Ib af (pv 0) (aE _)) (jh (bS i7 (pv 0) (pv 1) (aE _))))⟩)) aa))))))) (ah (aK (bg (paF cQ aa)))) aQ)
   (ae (bE Mq rfl (aZ K rfl (pv 3)) (az (i:=6) ij.nd rfl (Mg rfl)) (ah (bE Mq rfl (aZ K rfl (pv 3)) (az (i:=7) ij.nd rfl (Mg rfl)) (ae (au (i:=8) ij.nd rfl (Mg rfl) (ak a0 (ar (ai K rfl) (pv 4) (fA K rfl MG Om O2 qO (pv 3) (paF (pv 6) aa)) (fun _ _=>rfl)) (ar (ai K rfl) (pv 4) (fA K rfl MG Om O2 qO (pv 3) (paF (pv 7) aa)) (fun _ _=>rfl))))
   (ah (aW (aH fQ (ar (ai K rfl) (pv 4) (fA K rfl MG Om O2 qO (pv 3) (paF (ar (ai K rfl) (ar (ai K rfl) (pv 0) (pv 6) (fun _ _=>rfl)) (pv 7) (fun _ _=>rfl)) aa)) (fun _ _=>rfl)) (ak aT (pv 8) (pv 5)) (aE _)) (ah (aK (bg (paF cQ (paF (pv 6) (paF (pv 7) aa)))))) aQ))))))
   (ah (aK (bg aa)))))))),?_⟩
 walk_at "rn";refine ⟨p,_,rfl,SqT.of hp,rfl,⟨_,_,rfl,⟨_,_,rfl,⟨_,_,rfl,⟨rfl,?_⟩⟩⟩⟩⟩;walk_at "2";refine ⟨v,dp,n,e,t,L,rfl,hT,gt,aL,ll,tame,fun hpz H1 s1=>?_,fun np H1 s1=>?_⟩
 rotate_left
 ·walk_at "rn";refine lT ?_;walk_at "3";exact ⟨small (by show 1<=1000;decide),fun pd hpd=>word _ H1 pd s1 hpd (.inl ⟨np,rfl⟩)⟩
 obtain ⟨R,rfl,pt⟩:=hpz;walk_at "1";refine ⟨k,n,e,m,t,rfl,hk,fun sv=>?_,fun ns=>?_⟩
 rotate_left
 ·walk_at "rn";refine lT ?_;walk_at "3";exact ⟨small (by show 1<=1000;decide),fun pd hpd=>word _ H1 pd s1 hpd (.inr ⟨R,rfl,pt,.inl ⟨ns,rfl⟩⟩)⟩
 have rl:=pt.len;have aM1:=Rep.mono s1 aM;have aR1:At K H1 (.ref dp) R:=mw (Rep.mono s1 aL);walk_at "1";refine cX aM1 ?_;walk_at "rn";refine cX aR1 ?_;walk_at "rn";refine cy (fun c=>?_) (fun c=>?_)
 ·walk_at "3";exact ⟨small (by show 1<=1000;decide),fun pd hpd=>word _ H1 pd s1 hpd (.inr ⟨R,rfl,pt,.inr (.inl ⟨sv,.inl c,rfl⟩)⟩)⟩
 walk_at "rn";refine hV (α:=Int) (β:=Bool) aM1 (by omega) (fun i=>(M.take i).map fun x=>decide (0<=x/\x<m)) (fun σ'=>∃ y,σ'=[y,some (.int m)]) rfl (fun i hi=>by rw [LO,Mz];omega) ⟨_,rfl⟩ ?_ ?_
 ·rintro i c w' σ' H3 d' R' R0 hc hs hw ⟨y,rfl⟩ hR' hR0 hd';cases (show w'=V.int c from hw);have e1:((M.take (i+1)).map fun x=>decide (0<=x/\x<m))=((M.take i).map fun x=>decide (0<=x/\x<m))++[decide (0<=c/\c<m)]:=by
   rw [MK,hc,MQ];rfl
  walk_at "rn";refine aU (fun z=>?_) (fun z=>?_)
  ·walk_at "rn";have e2:decide (0<=c/\c<m)=decide (c<m):=decide_eq_decide.mpr ⟨fun y=>y.2,fun y=>⟨z,y⟩⟩;rw [e2] at e1;exact hR' _ _ (decide (c<m)) _ ⟨_,rfl⟩ (aj.refl _) rfl e1
  ·have e2:decide (0<=c/\c<m)=false:=decide_eq_false fun y=>z y.1;rw [e2] at e1;exact hR' _ _ false _ ⟨_,rfl⟩ (aj.refl _) rfl e1
 intro d2 H3 s3 h3;have s03:=s1.trans s3;walk_at "rn";refine oE h3 ?_;rw [NF]
 by_cases ha:∀ x∈M,0<=x/\x<m
 rotate_left
 ·rw [show (M.map fun x=>decide (0<=x/\x<m)).all id=false by
   rw [Qb];obtain ⟨x,hx⟩:=Ol.mp ha;obtain ⟨hx,hn⟩:=OV.mp hx;exact ⟨_,Mm.mpr ⟨x,hx,rfl⟩,by rw [decide_eq_false hn];decide⟩]
  have bad:zh R M m:=.inr (by
   obtain ⟨x,hx⟩:=Ol.mp ha;obtain ⟨hx,hn⟩:=OV.mp hx;exact ⟨x,hx,by omega⟩)
  walk_at "rn";refine lT ?_;walk_at "3";exact ⟨small (by show 1<=1000;decide),fun pd hpd=>word _ H3 pd s03 hpd (.inr ⟨R,rfl,pt,.inr (.inl ⟨sv,bad,rfl⟩)⟩)⟩
 rw [show (M.map fun x=>decide (0<=x/\x<m)).all id=true by
  rw [MA];intro y hy;obtain ⟨x,hx,rfl⟩:=Mm.mp hy;exact decide_eq_true (ha x hx)]
 walk_at "rn";refine dF ?_;obtain ⟨m1,m60,mk⟩:=id sv;obtain ⟨j,rfl⟩:∃ j:Nat,m=(j:Int):=⟨m.toNat,by omega⟩
 obtain ⟨M',rfl⟩:=tY fun x hx=>(ha x hx).1;have mm:∀ x∈M',x<j:=fun x hx=>by
  have:=(ha x (Mm.mpr ⟨x,hx,rfl⟩)).2;omega
 have ml':M'.length=R.length:=by rw [LO] at c;exact c
 have j0:0<j:=by omega
 have hR3:H3 dp=some (.lst (aY R)):=by rw [s03 _ _ h1,zsV]
 have aR3:At K H3 (.ref dp) R:=eN hR3;have aM3:At K H3 (.ref dm) M':=mw (Rep.mono s03 aM);have aT3:=Rep.mono s03 hT;have fin:∀ o,kM t R M' j o->wC n t e (R.map fun (x:Nat)=>(x:Int)) (M'.map fun (x:Nat)=>(x:Int)) (j:Int) (wZ o):=fun o ho=>.inr ⟨R,rfl,pt,.inr (.inr ⟨sv,M',j,o,rfl,rfl,ml',mm,ho,rfl⟩)⟩;walk_at "rn";refine gv aR3 (fun i σ' H'=>H'=H3/\(∀ j',j' < i->∀ k',k' < R.length->ie t R M' j j' k')/\∃ x6 x7 x8,σ'=[some v,some (.int (k:Int)),some (.ref p),some (.ref dp),some (.ref dm),some (.int (j:Int)),x6,x7,x8]) ⟨rfl,fun j hj=>absurd hj (by omega),_,_,_,rfl⟩ (fun i σ' H' y=>by rw [y.1];exact aj.refl _) ?_ ?_
 ·rintro i a w' σ' H' hia hw ⟨rfl,hj,x6,x7,x8,rfl⟩;cases (show w'=V.int (a:Int) from hw);have il:i<R.length:=(LQ.mp hia).1;have haR:=LR hia;have han:=pt.lt a haR;have mi:=getD_some (l:=M') 0 (show i<M'.length by omega)
  have ea:R.getD i 0=a:=by rw [LS,hia];rfl
  walk_at "rn";refine gv aR3 (fun k' σ' H1=>H1=H'/\(∀ k2,k2<k'->ie t R M' j i k2)/\∃ x7 x8,σ'=[some v,some (.int (k:Int)),some (.ref p),some (.ref dp),some (.ref dm),some (.int (j:Int)),some (.int (a:Int)),x7,x8]) ⟨rfl,fun j hj=>absurd hj (by omega),_,_,rfl⟩ (fun i σ' H1 y=>by rw [y.1];exact aj.refl _) ?_ ?_
  ·rintro k' b w2 σ' H1' hb hw2 ⟨rfl,hk',x7,x8,rfl⟩;cases (show w2=V.int (b:Int) from hw2);have kl:k' < R.length:=(LQ.mp hb).1;have hbR:=LR hb;have hbn:=pt.lt b hbR;have mk':=getD_some (l:=M') 0 (show k' < M'.length by omega)
   have eb:R.getD k' 0=b:=by rw [LS,hb];rfl
   have hab:=pt.cl a haR b hbR;have hx:=MI hab;have mx:=getD_some (l:=M') 0 (show R.idxOf (tb t a b)<M'.length by omega)
   have oke:ie t R M' j i k'↔M'.getD (R.idxOf (tb t a b)) 0=(M'.getD i 0+M'.getD k' 0) % j:=by
    unfold ie;rw [ea,eb]
   walk_at "rn";refine ⟨.inl ⟨rfl,_,SqL.of hR3⟩,?_⟩;walk_at "rn";refine tF hR3 hia (xK pt.srt hia) ?_;refine bF aM3 mi ?_;walk_at "rn";refine ⟨.inl ⟨rfl,_,SqL.of hR3⟩,?_⟩;walk_at "rn";refine tF hR3 hb (xK pt.srt hb) ?_;refine bF aM3 mk' ?_;walk_at "2";refine ⟨.inl ⟨rfl,_,SqL.of hR3⟩,?_⟩;walk_at "rn";refine dI aT3 rfl (gt.get han) fun w1 hw1=>?_;walk_at "rn";refine bF hw1 (gt.ef han hbn) ?_;walk_at "rn";refine tF hR3 (wI hab) (fun i' hi'=>si hi') ?_;refine bF aM3 mx ?_;walk_at "rn";refine cy (fun y=>?_) (fun y=>?_)
   ·walk_at "3";refine ⟨small (by show 3<=1000;decide),fun pd hpd=>?_⟩
    exact q pd _ (wZ (some (a,b))) (s03.trans (ay hpd _)) ao (fin _ ⟨i,k',il,kl,ea,eb,fun y'=>y (oke.mp y'),hj,hk'⟩)
   ·walk_at "rn";refine ⟨rfl,fun k2 hk2=>?_,_,_,rfl⟩;rcases MH k2 k' with y' | y'
    ·exact hk' k2 y'
    ·have:k2=k':=by omega
     rw [this];exact oke.mpr y
  ·rintro σ' H1' ⟨rfl,hk',x7,x8,rfl⟩;walk_at "rn";refine ⟨rfl,fun j' hj2 k2 hk2=>?_,_,_,_,rfl⟩;rcases MH j' i with y|y
   ·exact hj j' y k2 hk2
   ·have:j'=i:=by omega
    rw [this];exact hk' k2 hk2
 ·rintro σ' H' ⟨rfl,hj,x6,x7,x8,rfl⟩;walk_at "3";refine ⟨small (by show 0<=1000;decide),fun pd hpd=>?_⟩
  exact q pd _ (wZ none) (s03.trans (ay hpd _)) ao (fin _ fun j' hj2 k2 hk2=>hj j' hj2 k2 hk2)
def Dz (n:Nat) (t:List (List Nat)) (e:Nat) (L M:List Int) (m:Int) (k:Nat) (l:List SI):Prop :=
 (k=0/\wC n t e L M m l)\/(k=1/\((gB n t e m/\l=[])\/(¬ gB n t e m/\l=[.inl "BadWheel"])))\/(k=2/\((nq n t L/\l=[])\/(¬ nq n t L/\l=[.inl "NoPart"])))
def Kd (T:Txt K mg) (C:Addr) (s:Str):Prop:=(C=T.bx/\s = "NoPart")\/(C=T.ba/\s = "BadWheel")\/(C=T.bq/\s = "BadMarks")
theorem Kd.exm {T:Txt K mg} {C:Addr} {s:Str} (h:Kd T C s):Nn K (.ref C) (.ref T.fU)=some true:=by
 rcases h with ⟨rfl,_⟩|⟨rfl,_⟩|⟨rfl,_⟩
 ·exact T.ku
 ·exact T.iz
 ·exact T.jN
def Met (T:Txt K mg) (H:Hp) (x:V) (l:List SI):Prop:=(l=[]/\x=.non)\/(∃ s C y,l=[.inl s]/\x=.ref y/\Kd T C s/\H y=some (iD y C)) \/
 ∃ (a b:Nat) (y:Addr) (d:Option Addr),l=wZ (some (a,b))/\x=.ref y/\H y=some (iD y T.bV d)/\Fld H d [("one",.int (a:Int)),("two",.int (b:Int))]
theorem Eo (T:Txt K mg) {n e:Nat} {t:List (List Nat)} {L M:List Int} {m:Int} {l:List SI} (h:wC n t e L M m l) :
  (∃ C s,l=[.inl s]/\Kd T C s/\Due T.bx T.ba T.bq n t e L M m C) \/
  (∃ (R M':List Nat) (j:Nat) (o:Option (Nat×Nat)),L=R.map (fun (x:Nat)=>(x:Int))/\M=M'.map (fun (x:Nat)=>(x:Int))/\m=(j:Int)/\IsPart n t R/\gB n t e (j:Int)/\M'.length=R.length/\(∀ x∈M',x<j)/\kM t R M' j o/\l=wZ o):=by
 rcases h with ⟨h1,h2⟩|⟨R,h1,pt,⟨h2,h3⟩|⟨h2,h3,h4⟩|⟨h2,M',j,o,h3,h4,h5,h6,h7,h8⟩⟩
 ·exact .inl ⟨T.bx,_,h2,.inl ⟨rfl,rfl⟩,.inl ⟨h1,rfl⟩⟩
 ·exact .inl ⟨T.ba,_,h3,.inr (.inl ⟨rfl,rfl⟩),.inr ⟨R,h1,pt,.inl ⟨h2,rfl⟩⟩⟩
 ·exact .inl ⟨T.bq,_,h4,.inr (.inr ⟨rfl,rfl⟩),.inr ⟨R,h1,pt,.inr ⟨h2,h3,rfl⟩⟩⟩
 ·exact .inr ⟨R,M',j,o,h1,h3,h4,pt,by rw [<- h4];exact h2,h5,h6,h7,h8⟩
theorem D5 (T:Txt K mg):aI P w K mg base (CXR P w) 7 T.lQ T.jo ["self","group","part","marks","spokes"] (fun vs H Q E=>xF T.bo T.aS K vs H Q E\/(spM fun vs H Q E=>fK T.bx T.ba T.bq T.aS K vs H Q E\/m8 T.bV T.aS K vs H Q E) vs H Q E):=aI.both (Fg T) (Dy T)
theorem BP (T:Txt K mg):aI P w K mg base (CXR P w) 4 T.kS T.gW ["self","group","spokes"] (fun vs H Q E=>vp T.bR T.aS vs H Q E\/(spM (mL T.ba T.aS)) vs H Q E):=aI.both (vt T) (BZ T)
theorem DT (T:Txt K mg):aI P w K mg base (CXR P w) 5 T.mn T.lH ["self","way","part"] (fun vs H Q E=>xW (kb T) T.ck T.aS vs H Q E\/∃ (x:V) (a g:Addr) (v:V) (m z:Nat) (D:List (List (Nat×Nat))),vs=[x,.ref a,v]/\nt (kb T) H a g m z D/\spN T.bx T.aS K [.ref g,v] H Q E):=aI.both (Ew T) (DN T)
def Aq (T:Txt K mg):Sp:=fun vs H Q _=>∃ (g aw d d0 d1:Addr) (k n e mz z:Nat) (t:List (List Nat)) (L M:List Int) (m:Int) (D:List (List (Nat×Nat))) (l:List SI),vs=[.ref g,.ref aw,.ref d,.int m,.int (k:Int)]/\bK T.aS H g n t e/\GT n t e/\nt (kb T) H aw g mz z D/\WOk n mz z D /\
 H d=some (.lst [.ref d0,.ref d1])/\H d0=some (.lst (L.map V.int))/\L.length<=64/\H d1=some (.lst (M.map V.int))/\M.length<=64/\Dz n t e L M m k l/\(∃ l0,dq (cH n t e) l0)/\∀ x H',aj H H'->Met T H' x l->Q x H'
theorem Bb (T:Txt K mg):aI P w K mg base CX0 9 T.jU.f T.jU.fd ["_law_group_here","_law_plain","_law_handed","_law_spokes_here","_law_way"] (Aq T):=by
 refine T.jU.ok kY (fun vs H Q E h=>?_) (fun cdv A outer s H vs Q E hr h=>?_)
 ·obtain ⟨g,aw,d,d0,d1,k,n,e,mz,z,t,L,M,m,D,l,rfl,_⟩:=h;rfl
 obtain ⟨g,aw,d,d0,d1,k,n,e,mz,z,t,L,M,m,D,l,rfl,hG,gt,hW,wo,hd,h0,ll,h1,ml,due,hl0,q⟩:=h;have aL:At K H (.ref d0) L:=fH (SqL.of h0);have aM:At K H (.ref d1) M:=fH (SqL.of h1);have wordE:∀ (C:Addr) (s:Str) (H1:Hp) (y:Addr),l=[.inl s]->Kd T C s->aj H H1->H1 y=none->Q (.ref y) (upd H1 y (iD y C)):=fun C s H1 y el kd s1 hy=>q _ _ (s1.trans (ay hy _)) (.inr (.inl ⟨s,C,y,el,rfl,kd,ao⟩));refine ⟨_,(ae (au (i:=5) kY.nd rfl (Mg rfl) EE)
   (ae (KO (i:=6) rfl (qo (EG (aH bM (pv 4) af (aE _)) (qo (uP (sI T.zR (D5 T) rfl (hr.mono (by decide)) rfl T.Av T.An (paF (pv 0) (paF (ar (ai K rfl) (pv 2) af (fun _ _=>rfl)) (paF (ar (ai K rfl) (pv 2) af (fun _ _=>rfl)) (paF (pv 3) aa))))))) (qo (EG (aH bM (pv 4) af (aE _)) (qo (uP (sI T.sY (BP T) rfl (hr.mono (by decide)) rfl T.tD T.yo (paF (pv 0) (paF (pv 3) aa))))) (qo (uP (sI T.zH (DT T) rfl (hr.mono (by decide)) rfl T.zC T.zO (paF (pv 1) (paF (ar (ai K rfl) (pv 2) af (fun _ _=>rfl)) aa))))))))) (fun _=>(ah (au (i:=5) kY.nd rfl (Mg rfl) (pv 6)))) rfl T.uz kY.nd rfl rfl rfl rfl)
   (ah (aK (pv 5))))),?_⟩
 walk_at "rn";refine K5 ?_;refine DB ?_;rcases due with ⟨rfl,due⟩|⟨rfl,due⟩|⟨rfl,due⟩
 ·walk_at "rn";refine aU (fun _=>?_) (fun z=>absurd rfl z);refine w6 ?_;refine wN ?_;walk_at "rn";refine ⟨d,_,_,.ref d0,rfl,rfl,SqL.of hd,rfl,?_⟩;walk_at "rn";refine ⟨d,_,_,.ref d1,rfl,rfl,SqL.of hd,rfl,?_⟩;walk_at "rn";intro x dx hx hdx hne;have sn:aj H (upd (upd H dx (.own x)) x (.ins T.bo dx [])):=fun b o z=>by
   rw [aq (aA z hx),aq (aA z hdx)];exact z
  rcases Eo T due with ⟨C,s,el,kd,du⟩|⟨R,M',j,o,rfl,rfl,rfl,pt,sv,ml',mm,br,el⟩
  ·refine .inr ⟨_,_,rfl,.inl ⟨g,_,_,m,n,e,t,L,M,C,rfl,hG.mono sn,gt,Rep.mono sn aL,ll,Rep.mono sn aM,by omega,du,fun H1 s1=>⟨_,rfl,kd.exm,fun y hy=>?_⟩⟩⟩
   walk_at "rn";dsimp only;walk_at "rn";exact wordE C s H1 y el kd (sn.trans s1) hy
  obtain ⟨l0,hl0⟩:=hl0;obtain ⟨m1,m60,mk⟩:=sv;have mk0:=mk l0 hl0;have aR:At K H (.ref d0) R:=mw aL;have aM':At K H (.ref d1) M':=mw aM;cases o with
  | some ab =>
   obtain ⟨a,b⟩:=ab;refine .inr ⟨_,_,rfl,.inr ⟨g,_,_,n,e,j,l0,a,b,t,R,M',rfl,hG.mono sn,gt,Rep.mono sn aR,pt,Rep.mono sn aM',ml',mm,hl0,by omega,by omega,by omega,br,fun di H1 s1 f1=>⟨_,rfl,T.nX,fun y hy=>?_⟩⟩⟩
   walk_at "rn";dsimp only;walk_at "rn";have s2:=ay hy (iD y T.bV di);exact q _ _ (sn.trans (s1.trans s2)) (.inr (.inr ⟨a,b,y,di,el,rfl,ao,f1.mono s2⟩))
  | none =>
   refine .inl ⟨x,dx,g,_,_,_,n,e,j,l0,t,R,M',H,rfl,ao,hx,sn,hG,gt,aR,pt,aM',ml',mm,.inl rfl,hl0,by omega,by omega,by omega,br,fun d' H1 fs s1 _ _ _=>⟨rfl,?_⟩⟩
   dsimp only;walk_at "rn";exact q _ _ s1 (.inl ⟨el,rfl⟩)
 ·walk_at "rn";refine aU (fun z=>by cases z) (fun _=>?_)
  refine DB ?_;walk_at "rn";refine aU (fun _=>?_) (fun z=>absurd rfl z);refine w6 ?_;refine wN ?_;walk_at "rn";intro x dx hx hdx hne;have sn:aj H (upd (upd H dx (.own x)) x (.ins T.bR dx [])):=fun b o z=>by
   rw [aq (aA z hx),aq (aA z hdx)];exact z
  rcases due with ⟨sv,el⟩|⟨ns,el⟩
  ·obtain ⟨m1,m60,mk⟩:=sv;obtain ⟨j,rfl⟩:∃ j:Nat,m=(j:Int):=⟨m.toNat,by omega⟩
   refine .inl ⟨x,dx,g,_,n,e,j,t,rfl,ao,hG.mono sn,gt,.inr ⟨rfl,by omega,by omega,fun k hk=>by have:=mk k hk;omega⟩,fun d' H1 fs fd h1' wf hD k1=>⟨rfl,?_⟩⟩
   have s1:aj H H1:=fun b o z=>k1 b o (sn _ _ z) (aA z hx);dsimp only;walk_at "rn";exact q _ _ s1 (.inl ⟨el,rfl⟩)
  ·refine .inr ⟨_,_,rfl,g,m,n,e,t,rfl,hG.mono sn,gt,ns,fun H1 s1=>⟨_,rfl,T.iz,fun y hy=>?_⟩⟩;walk_at "rn";dsimp only;walk_at "rn";exact wordE _ _ H1 y el (.inr (.inl ⟨rfl,rfl⟩)) (sn.trans s1) hy
 ·walk_at "rn";refine aU (fun z=>by cases z) (fun _=>?_)
  refine DB ?_;walk_at "rn";refine aU (fun z=>by cases z) (fun _=>?_)
  refine w6 ?_;refine wN ?_;walk_at "rn";refine ⟨d,_,_,.ref d0,rfl,rfl,SqL.of hd,rfl,?_⟩;walk_at "rn";intro x dx hx hdx hne;have sn:aj H (upd (upd H dx (.own x)) x (.ins T.ck dx [])):=fun b o z=>by
   rw [aq (aA z hx),aq (aA z hdx)];exact z
  rcases due with ⟨⟨R,rfl,pt⟩,el⟩|⟨np,el⟩
  ·refine .inl ⟨x,dx,aw,g,d0,n,e,mz,z,t,D,R,rfl,ao,hW.mono sn,hG.mono sn,gt,wo,by rw [sn _ _ h0,zsV],pt,fun g' d' H1 fs _ h1' _ _ k1=>⟨rfl,?_⟩⟩
   have s1:aj H H1:=fun b o z=>k1 b o (sn _ _ z) (aA z hx);dsimp only;walk_at "rn";exact q _ _ s1 (.inl ⟨el,rfl⟩)
  ·refine .inr ⟨_,aw,g,_,mz,z,D,rfl,hW.mono sn,g,_,n,e,t,L,rfl,hG.mono sn,gt,Rep.mono sn aL,ll,np,fun H1 s1=>⟨_,rfl,T.ku,fun y hy=>?_⟩⟩;walk_at "rn";dsimp only;walk_at "rn";exact wordE _ _ H1 y el (.inl ⟨rfl,rfl⟩) (sn.trans s1) hy
theorem Kd.facts {T:Txt K mg} {C:Addr} {s:Str} (h:Kd T C s):cq K C/\MJ K (.ref C) (.type "ValueError")=some true/\Nt (kO K C) [T.bx,T.cY,T.ba,T.fY,T.bq,T.bV,T.cN,T.cP,T.dR,T.eU,T.eW,T.dQ,T.fX,T.fW,T.cB] (rX s)/\V.str s≠V.str "NoWay":=by
 rcases h with ⟨rfl,rfl⟩|⟨rfl,rfl⟩|⟨rfl,rfl⟩
 ·exact ⟨T.lM,T.lI,fO (bs:=rX "NoPart") (T.md.trans (by trivial)),by decide⟩
 ·exact ⟨T.jM,T.jC,fO (bs:=rX "BadWheel") (T.jw.trans (by trivial)),by decide⟩
 ·exact ⟨T.jx,T.jt,fO (bs:=rX "BadMarks") (T.jK.trans (by trivial)),by decide⟩
def C9 (T:Txt K mg):Sp:=fun vs H Q _=>∃ (x:V) (d:Addr) (l:List SI),vs=[x,.ref d]/\H d=some (.lst (l.map siV))/\Met T H x l/\∀ H',aj H H'->Q (.bl true) H'
theorem DH (T:Txt K mg):aI P w K mg base CX0 3 T.m6.f T.m6.fd ["_law_caught","_law_due_here"] (C9 T):=by
 refine T.m6.ok D4 (fun vs H Q E h=>?_) (fun cdv A outer s H vs Q E hr h=>?_)
 ·obtain ⟨x,d,l,rfl,_⟩:=h;rfl
 obtain ⟨x,d,l,rfl,hd,hm,q⟩:=h;have aD:At K H (.ref d) l:=Ls hd;refine ⟨_,(ae (aW (aH (CF K rfl SI hr.units) (pv 1) (bg aa) (aE _)) (ah (aK (JZ (AD (pv 0))))) aQ)
   (ae (aW (gF (dW (aO T.kU (BV T) (hr.mono (by decide)) rfl (paF (pv 0) (paF (ar (ai K rfl) (pv 1) af (fun _ _=>rfl)) aa))))) (ah (aK eP)) aQ)
   (ae (aW (aH fQ (ar (ai K rfl) (pv 1) af (fun _ _=>rfl)) cQ (aE _)) (ah (aK eP)) aQ)
   (ae (aW (PW.pt (nH (gF (dW (aO T.iV (rZ T) (hr.mono (by decide)) rfl (paF (tH K rfl (pv 0) rfl) aa)))) (m5 (gF (dW (aO T.iV (rZ T) (hr.mono (by decide)) rfl (paF (tH K rfl (pv 0) rfl) aa))))))) (ah (aK eP)) aQ)
   (ah (aK (fP (bS bM (tH K rfl (pv 0) rfl) (ar (ai K rfl) (pv 1) af (fun _ _=>rfl)) (aE _)) (jh (bS bM (tH K rfl (pv 0) rfl) (ar (ai K rfl) (pv 1) af (fun _ _=>rfl)) (aE _)))))))))),?_⟩
 walk_at "2";refine cV (K:=K) (l:=([]:List SI)) jS (by decide) fun d2 H2 _ s2 g2=>?_
 refine HI (α:=SI) (as:=l) (bs:=[]) (Rep.mono s2 aD) g2.at ?_;walk_at "rn";rcases hm with ⟨rfl,rfl⟩|⟨s,C,y,rfl,rfl,kd,hy⟩|⟨a,b,y,di,rfl,rfl,hy,hf⟩
 ·refine aU (fun _=>?_) (fun z=>absurd rfl z);walk_at "rn";rw [decide_eq_true rfl];exact q _ s2
 ·obtain ⟨f1,f2,f3,f4⟩:=kd.facts;refine aU (fun z=>by cases z) (fun _=>?_)
  walk_at "2";refine ⟨d,_,_,.str s,rfl,rfl,SqL.of (s2 _ _ hd),rfl,?_⟩;walk_at "rn";refine ⟨y,C,none,s,rfl,s2 _ _ hy,f1,f2,f3,fun H3 s3=>?_⟩;walk_at "1";refine ⟨d,_,_,.str s,rfl,rfl,SqL.of ((s2.trans s3) _ _ hd),rfl,?_⟩;walk_at "rn";refine ⟨rfl,?_⟩;walk_at "rn";refine cy (fun _=>?_) (fun z=>absurd z f4);walk_at "rn";exact q _ (s2.trans s3)
 ·obtain ⟨dx,fs,rfl,hdx,hfs⟩:=hf;have l1:=hfs _ (.head _);have l2:=hfs _ (.tail _ (.head _));refine aU (fun z=>by cases z) (fun _=>?_)
  walk_at "2";refine ⟨d,_,_,.str "NoWay",rfl,rfl,SqL.of (s2 _ _ hd),rfl,?_⟩;walk_at "rn";refine ⟨y,_,some dx,"NoWay",rfl,s2 _ _ hy,T.iT,T.nQ,fO (bs:=rX "NoWay") (T.nN.trans (by trivial)),fun H3 s3=>?_⟩
  have s03:=s2.trans s3;have hd3:=s03 _ _ hd;have hy3:=s03 _ _ hy;have hdx3:=s03 _ _ hdx;walk_at "1";refine ⟨d,_,_,.str "NoWay",rfl,rfl,SqL.of hd3,rfl,?_⟩;walk_at "rn";refine ⟨rfl,?_⟩;walk_at "rn";refine cy (fun z=>absurd rfl z) (fun _=>?_);walk_at "2";refine zg ?_;walk_at "rn";refine ⟨y,_,dx,fs,_,rfl,hy3,hdx3,T.iT,T.kQ.hd,T.mJ,l1,?_⟩;walk_at "rn";refine ⟨_,rfl,?_⟩;walk_at "8";refine zg ?_;walk_at "rn";refine ⟨y,_,dx,fs,_,rfl,hy3,hdx3,T.iT,T.kQ.hd,T.mI,l2,?_⟩;walk_at "rn";refine ⟨_,rfl,?_⟩;walk_at "8";refine zg ?_;walk_at "rn";refine ⟨y,_,dx,fs,_,rfl,hy3,hdx3,T.iT,T.kQ.hd,T.mJ,l1,?_⟩;walk_at "rn";refine ⟨d,_,_,.int (a:Int),rfl,rfl,SqL.of hd3,rfl,?_⟩;walk_at "rn";refine aU (fun _=>?_) (fun z=>absurd rfl z);walk_at "rn";refine zg ?_;walk_at "rn";refine ⟨y,_,dx,fs,_,rfl,hy3,hdx3,T.iT,T.kQ.hd,T.mI,l2,?_⟩;walk_at "rn";refine ⟨d,_,_,.int (b:Int),rfl,rfl,SqL.of hd3,rfl,?_⟩;walk_at "rn";rw [decide_eq_true rfl];exact q _ s03
def zi (K:LM):Sp:=fun vs H Q _=>∃ (a:Addr) (ns:List Int),vs=[.ref a]/\SqL K H a (ns.map V.int)/\ns.length<=63/\∀ H',Q (.bl true) H'
theorem J2 (T:Txt K mg):aI P w K mg base CX0 12 T.yY.f T.yY.fd ["_law_script"] (zi K):=by
 refine T.yY.ok jR (fun vs H Q E h=>?_) (fun cdv A outer s H vs Q E hr h=>?_)
 ·obtain ⟨a,ns,rfl,_⟩:=h;rfl
 obtain ⟨a,ns,rfl,hS,h63,q⟩:=h;have hA:=fH hS;refine ⟨_,(ae (au (i:=1) jR.nd rfl (Mg rfl) (aO T.jV (Bi T) (hr.mono (by decide)) rfl (paF (pv 0) (paF af aa))))
   (ae (au (i:=2) jR.nd rfl (Mg rfl) (aO T.jB (uF T) (hr.mono (by decide)) rfl (paF (bJ rfl Al (aZ K rfl (pv 1)) (fun _ _ _ _=>⟨(az (i:=0) Al.nd rfl (Mg rfl)),bj,(cp (fR K rfl) rfl T.fj Ng (paF (pv 0) aa))⟩)) aa)))
   (ae (au (i:=3) jR.nd rfl (Mg rfl) (aO T.jX (zu T) (hr.mono (by decide)) rfl (paF (pv 1) aa)))
   (ae (au (i:=4) jR.nd rfl (Mg rfl) (Aa T.sY (vt T) (hr.mono (by decide)) rfl T.tD T.wb (show Vals [V.non] [Ov] from .cons rfl .nil) tJ (paF (pv 2) aa)))
   (ae (bE Mq rfl (aZ K rfl (ak fv (fV (fZ K rfl) (pv 0) (gL af) (gL (ak a0 af (ak bA af (av (aV K rfl) rfl T.bz Mt (paF (pv 1) aa)))))) (bg (paF af aa)))) (az (i:=5) jR.nd rfl (Mg rfl)) (ae (au (i:=6) jR.nd rfl (Mg rfl) (aO T.lG (BQ T) (hr.mono (by decide)) rfl (paF (pv 1) (paF (pv 3) (paF (pv 5) aa)))))
   (ae (au (i:=7) jR.nd rfl (Mg rfl) (bg (paF (cp (fR K rfl) rfl T.fj Ng (paF (ar (js K rfl) (pv 6) af (fun _ _=>rfl)) aa)) (paF (cp (fR K rfl) rfl T.fj Ng (paF (ar (js K rfl) (pv 6) af (fun _ _=>rfl)) aa)) aa))))
   (ae (au (i:=8) jR.nd rfl (Mg rfl) (bg (paF (aO T.mX (DQ T) (hr.mono (by decide)) rfl (paF (pv 1) (paF (pv 3) (paF (pv 6) aa)))) (paF (bg aa) (paF (bg aa) aa)))))
   (ae (aW (gF (dW (aO T.gE (rA T) (hr.mono (by decide)) rfl (paF (pv 3) (paF (ar (js K rfl) (pv 6) af (fun _ _=>rfl)) aa))))) (ah (sE (bg (paF cQ aa)) (Bh (pv 8) af set_list))) aQ)
   (ae (aW (gF (dW (aO T.fJ (pQ T) (hr.mono (by decide)) rfl (paF (pv 1) (paF (ar (js K rfl) (pv 6) af (fun _ _=>rfl)) aa))))) (ah (sE (bg (paF cQ aa)) (Bh (pv 8) af set_list))) aQ)
   (ae (bE Mq rfl (bb rfl T.bp (paF af aa)) (az (i:=9) jR.nd rfl (Mg rfl)) (ah (aW (gF (dW (aO T.m6 (DH T) (hr.mono (by decide)) rfl (paF (aO T.jU (Bb T) (hr.mono (by decide)) rfl (paF (pv 2) (paF (pv 4) (paF (pv 7) (paF (ar (js K rfl) (pv 6) af (fun _ _=>rfl)) (paF (pv 9) aa)))))) (paF (ar (ai K rfl) (pv 8) (pv 9) (fun _ _=>rfl)) aa))))) (ah (aK eP)) aQ)))
   (ah (aW (aH (Cw K rfl (List Int) hr.units) (pv 7) (bg (paF (ar (js K rfl) (pv 6) af (fun _ _=>rfl)) (paF (ar (js K rfl) (pv 6) af (fun _ _=>rfl)) aa))) (aE _)) (ah (aK eP)) aQ)))))))))
   (ah (aK eP))))))),?_⟩
 walk_at "rn";refine ⟨_,ns,0,rfl,hA,fun d1 H1 n t e ps1 s1 gt tb1 _ _=>?_⟩;have n1:=gt.pos;have n23:=gt.le;have hA1:=Rep.mono s1 hA;walk_at "rn";refine qN (K:=K) tb1.at (by rw [gt.len];omega) fun dh H2 psh s2 _ _ tbh=>?_
 walk_at "rn";refine ⟨_,n,e,t,rfl,tbh.at,gt,fun g H3 _ s3 hg0=>?_⟩;have hg:=bK.mono Hh hg0;have s13:=s2.trans s3;have tb3:=tb1.mono s13;walk_at "rn";refine ⟨_,n,e,t,rfl,tb3.at,gt,fun k H4 s4 hk kn=>?_⟩;have k0:=hk.pos;have hg4:=hg.mono s4;walk_at "rn";intro x dx hx hdx hne;have sn:aj H4 (upd (upd H4 dx (.own x)) x (.ins T.bR dx [])):=fun b o z=>by
  rw [aq (aA z hx),aq (aA z hdx)];exact z
 refine ⟨x,dx,g,.non,n,e,k,t,rfl,ao,hg4.mono sn,gt,.inl ⟨rfl,hk⟩,fun d H5 fs fd h5 wf hD k5=>⟨rfl,?_⟩⟩;have s5:aj H4 H5:=fun b o z=>k5 b o (sn _ _ z) (aA z hx);have hW5:nt (kb T) H5 x g k n (iJ t):=⟨T.bR,dx,d,fs,.inl rfl,h5,wf,hD⟩;have wo:=EN (m:=k) gt k0 (by omega)
 have s15:=s13.trans (s4.trans s5);have tb5:=tb1.mono s15;have hg5:=hg4.mono s5;have hA5:=Rep.mono s15 hA1;walk_at "rn";refine cX tb5.at ?_;rw [gt.len];refine zE (by omega) (by omega) ?_
 walk_at "rn";refine iE hA5 fun pc H6 _ s6 gc=>?_;have hcl:=nV ns (some ((3:Nat):Int)) (some ((4+40 / n:Nat):Int));generalize cut ns (some ((3:Nat):Int)) (some ((4+40 / n:Nat):Int))=cs at gc hcl;refine cV (K:=K) (l:=([6]:List Int)) (t6 J9 jS) (by decide) fun d7 H7 _ s7 g7=>?_
 refine HY (gc.mono s7).copy g7.copy (by rw [Nq];omega) fun d8 H8 _ s8 a8=>?_
 have s58:=s6.trans (s7.trans s8);refine gv a8 (fun i σ H'=>aj H8 H'/\∃ x5 x6 x7 x8 x9,σ=[some (.ref a),some (.ref d1),some (.ref g),some (.int (k:Int)),some (.ref x),x5,x6,x7,x8,x9]) ⟨aj.refl _,_,_,_,_,_,rfl⟩ (fun i σ' H' z=>z.1) ?_ ?_
 ·rintro i c w' σ' H9 hc hw ⟨s9,x5,x6,x7,x8,x9,rfl⟩;cases (show w'=V.int c from hw);have s59:=s58.trans s9;walk_at "rn";refine ⟨d1,k,n,e,c,t,ps1,rfl,tb5.mono s59,gt,k0,by omega,fun p dp dm H10 L M m s10 hp hdp ll tame hdm ml=>?_⟩
  have s510:=s59.trans s10;have aL:At K H10 (.ref dp) L:=fH (SqL.of hdp);have aM:At K H10 (.ref dm) M:=fH (SqL.of hdm);walk_at "3";refine nM (i:=0) hp rfl ?_;walk_at "rn";refine ue (α:=Int) aL fun dh0 H11 _ s11 g11=>?_;walk_at "rn";refine nM (i:=1) (s11 _ _ hp) rfl ?_;walk_at "rn";refine ue (α:=Int) (Rep.mono s11 aM) fun dh1 H12 _ s12 g12=>?_;walk_at "rn";refine ⟨small (by show 2<=1000;decide),fun dhd hdhd=>?_⟩
  have s13':=ay hdhd (.lst [.ref dh0,.ref dh1]);have h13:(upd H12 dhd (.lst [.ref dh0,.ref dh1])) dhd=some (.lst [.ref dh0,.ref dh1]):=ao;generalize upd H12 dhd (.lst [.ref dh0,.ref dh1])=H13 at s13' h13;have b0:H13 dh0=some (.lst (L.map V.int)):=(s12.trans s13') _ _ (qd g11);have b1:H13 dh1=some (.lst (M.map V.int)):=s13' _ _ (qd g12);have sA:=s11.trans (s12.trans s13');walk_at "3";refine ⟨_,p,dp,dm,k,n,e,t,L,M,m,rfl,(tb5.mono (s510.trans sA)).at,gt,hk,sA _ _ hp,sA _ _ hdp,ll,tame,sA _ _ hdm,ml,fun l0 H14 e0 s14 h14 due0=>?_⟩;walk_at "3";refine ⟨small (by show 0<=1000;decide),fun l1 hl1=>?_⟩
  have s15':=ay hl1 (.lst (([]:List SI).map siV));have h15:(upd H14 l1 (.lst (([]:List SI).map siV))) l1=some (.lst (([]:List SI).map siV)):=ao;rw [show (HO.lst [])=HO.lst (([]:List SI).map siV) from rfl];generalize upd H14 l1 (.lst (([]:List SI).map siV))=H15 at s15' h15;walk_at "3";refine ⟨small (by show 0<=1000;decide),fun l2 hl2=>?_⟩
  have s16:=ay hl2 (.lst (([]:List SI).map siV));have h16:(upd H15 l2 (.lst (([]:List SI).map siV))) l2=some (.lst (([]:List SI).map siV)):=ao;rw [show (HO.lst [])=HO.lst (([]:List SI).map siV) from rfl];generalize upd H15 l2 (.lst (([]:List SI).map siV))=H16 at s16 h16;walk_at "rn";refine ⟨small (by show 3<=1000;decide),fun dd hdd=>?_⟩
  have s17:=ay hdd (.lst [.ref l0,.ref l1,.ref l2]);have h17:(upd H16 dd (.lst [.ref l0,.ref l1,.ref l2])) dd=some (.lst [.ref l0,.ref l1,.ref l2]):=ao;generalize upd H16 dd (.lst [.ref l0,.ref l1,.ref l2])=H17 at s17 h17;have sB:=sA.trans (s14.trans (s15'.trans s16));have c0:H16 l0=some (.lst (e0.map siV)):=(s15'.trans s16) _ _ h14;have c1:H16 l1=some (.lst (([]:List SI).map siV)):=s16 _ _ h15;have hp16:=sB _ _ hp;have hdp16:=sB _ _ hdp;walk_at "rn";refine iw (fun σ' H'=>aj H16 H'/\∃ (l1':Addr) (e1:List SI),H' dd=some (.lst [.ref l0,.ref l1',.ref l2])/\H' l1'=some (.lst (e1.map siV))/\l1'≠dd/\Dz n t e L M m 1 e1/\σ'=[some (.ref a),some (.ref d1),some (.ref g),some (.int (k:Int)),some (.ref x),some (.int c),some (.ref p),some (.ref dhd),some (.ref dd),x9]) (fun N hN=>?_) ?_
  ·walk_at "rn";refine nM (i:=2) (s17 _ _ hp16) rfl ?_;walk_at "rn";refine ⟨k,n,e,m,t,rfl,hk,fun sv=>?_,fun ns=>?_⟩
   ·walk_at "rn";refine dF ?_;exact hN _ _ ⟨s17,l1,[],h17,s17 _ _ c1,aA c1 hdd,.inr (.inl ⟨rfl,.inl ⟨sv,rfl⟩⟩),rfl⟩
   ·walk_at "rn";refine lT ?_;walk_at "3";refine ⟨small (by show 1<=1000;decide),fun pw hpw=>?_⟩
    have s18:=ay hpw (.lst [.str "BadWheel"]);have h18:(upd H17 pw (.lst [.str "BadWheel"])) pw=some (.lst (([.inl "BadWheel"]:List SI).map siV)):=ao;have nw:pw≠dd:=(nF h17 hpw).symm;walk_at "rn";refine Ao (j:=1) (s18 _ _ h17) rfl (by show 1<3;decide) ?_
    exact hN _ _ ⟨Ac hdd (s17.trans s18),pw,_,ao,by rw [aq nw];exact h18,nw,.inr (.inl ⟨rfl,.inr ⟨ns,rfl⟩⟩),rfl⟩
  rintro σ' H18 ⟨s18,l1',e1,h18,c18,ne1,due1,rfl⟩;walk_at "rn";refine iw (fun σ' H'=>aj H16 H'/\∃ (l2':Addr) (e2:List SI),H' dd=some (.lst [.ref l0,.ref l1',.ref l2'])/\H' l1'=some (.lst (e1.map siV))/\H' l2'=some (.lst (e2.map siV))/\Dz n t e L M m 2 e2/\σ'=[some (.ref a),some (.ref d1),some (.ref g),some (.int (k:Int)),some (.ref x),some (.int c),some (.ref p),some (.ref dhd),some (.ref dd),x9]) (fun N hN=>?_) ?_
  ·walk_at "rn";refine nM (i:=0) (s18 _ _ hp16) rfl ?_;walk_at "rn";refine ⟨_,dp,n,e,t,L,rfl,(tb5.mono (s510.trans (sB.trans s18))).at,gt,fH (SqL.of (s18 _ _ hdp16)),ll,tame,fun hpz H19 s19=>?_,fun np H19 s19=>?_⟩
   ·walk_at "rn";refine dF ?_;exact hN _ _ ⟨s18.trans s19,l2,[],s19 _ _ h18,s19 _ _ c18,s19 _ _ (s18 _ _ h16),.inr (.inr ⟨rfl,.inl ⟨hpz,rfl⟩⟩),rfl⟩
   ·walk_at "rn";refine lT ?_;walk_at "3";refine ⟨small (by show 1<=1000;decide),fun pw hpw=>?_⟩
    have s20:=ay hpw (.lst [.str "NoPart"]);have h20:(upd H19 pw (.lst [.str "NoPart"])) pw=some (.lst (([.inl "NoPart"]:List SI).map siV)):=ao;have h19:=s19 _ _ h18;have nw:pw≠dd:=(nF h19 hpw).symm;walk_at "rn";refine Ao (j:=2) (s20 _ _ h19) rfl (by show 2<3;decide) ?_
    exact hN _ _ ⟨Ac hdd (s18.trans (s19.trans s20)),pw,_,ao,by rw [aq ne1];exact s20 _ _ (s19 _ _ c18),by rw [aq nw];exact h20,.inr (.inr ⟨rfl,.inr ⟨np,rfl⟩⟩),rfl⟩
  rintro σ' H19 ⟨s19,l2',e2,h19,c19,d19,due2,rfl⟩;have s1319:aj H13 H19:=(s14.trans (s15'.trans s16)).trans s19;have s519:=s510.trans (sA.trans s1319);have hp19:=s19 _ _ hp16;have h19d:=s1319 _ _ h13;have b0':=s1319 _ _ b0;have b1':=s1319 _ _ b1;have hdp19:=s19 _ _ hdp16;have hdm19:=s19 _ _ (sB _ _ hdm);have c0':=s19 _ _ c0;have hW19:=hW5.mono s519;have hg19:=hg5.mono s519;walk_at "rn";refine cb (n:=3) rfl (by decide) (fun i σ H'=>aj H19 H'/\∃ x9,σ=[some (.ref a),some (.ref d1),some (.ref g),some (.int (k:Int)),some (.ref x),some (.int c),some (.ref p),some (.ref dhd),some (.ref dd),x9]) ⟨aj.refl _,_,rfl⟩ ?_ ?_
  ·rintro j σ' H20 hj ⟨s20,x9,rfl⟩;obtain ⟨lj,ej,hlj,cj,duej⟩:∃ (lj:Addr) (ej:List SI),([V.ref l0,.ref l1',.ref l2'])[j]?=some (.ref lj)/\H19 lj=some (.lst (ej.map siV))/\Dz n t e L M m j ej:=by
    rcases (show j=0\/j=1\/j=2 by omega) with rfl|rfl|rfl
    ·exact ⟨l0,e0,rfl,c0',.inl ⟨rfl,due0⟩⟩
    ·exact ⟨l1',e1,rfl,c19,due1⟩
    ·exact ⟨l2',e2,rfl,d19,due2⟩
   walk_at "2";refine nM (i:=2) (s20 _ _ hp19) rfl ?_;walk_at "rn";refine ⟨g,x,dhd,dh0,dh1,j,n,e,k,n,t,L,M,m,iJ t,ej,rfl,hg19.mono s20,gt,hW19.mono s20,wo,s20 _ _ h19d,s20 _ _ b0',ll,s20 _ _ b1',ml,duej,⟨k,hk⟩,fun xx H21 s21 met=>?_⟩;have s1921:=s20.trans s21;walk_at "rn";refine ⟨dd,_,_,.ref lj,rfl,rfl,SqL.of (s1921 _ _ h19),qy hlj,?_⟩;walk_at "rn";refine ⟨xx,lj,ej,rfl,s1921 _ _ cj,met,fun H22 s22=>?_⟩;walk_at "8";exact ⟨s1921.trans s22,_,rfl⟩
  ·rintro σ' H20 ⟨s20,x9,rfl⟩;walk_at "2";refine bZ ?_;walk_at "rn";refine nM (i:=0) (s20 _ _ hp19) rfl ?_;walk_at "rn";refine nM (i:=1) (s20 _ _ hp19) rfl ?_;walk_at "rn";refine ⟨small (by show 2<=1000;decide),fun py hpy=>?_⟩
   have s21:=ay hpy (.lst [.ref dp,.ref dm]);have h21:(upd H20 py (.lst [.ref dp,.ref dm])) py=some (.lst [.ref dp,.ref dm]):=ao;generalize upd H20 py (.lst [.ref dp,.ref dm])=H21 at s21 h21;have s1921:=s20.trans s21;have two:∀ (q1 q2 q3:Addr),H21 q1=some (.lst [.ref q2,.ref q3])->H21 q2=some (.lst (L.map V.int))->H21 q3=some (.lst (M.map V.int))->At K H21 (.ref q1) ([L,M]:List (List Int)):=fun q1 q2 q3 z1 z2 z3=>⟨q1,_,rfl,SqL.of z1,.cons (fH (SqL.of z2)) (.cons (fH (SqL.of z3)) .nil)⟩;refine HX (α:=List Int) (as:=[L,M]) (bs:=[L,M]) (two dhd dh0 dh1 (s1921 _ _ h19d) (s1921 _ _ b0') (s1921 _ _ b1')) (two py dp dm h21 (s1921 _ _ hdp19) (s1921 _ _ hdm19)) ?_;walk_at "rn";refine cy (fun z=>absurd rfl z) (fun _=>?_);walk_at "rn";exact ⟨s9.trans (s10.trans (sA.trans (s1319.trans s1921))),_,_,_,_,_,rfl⟩
 ·rintro σ' H9 ⟨s9,x5,x6,x7,x8,x9,rfl⟩;walk_at "rn";exact q _
end
theorem all_mk {l:RY} {w:World} {K:LM} {h:Heap} {mg:Str->Option Value} {fa:Addr} (X:K.In h) (G:h.Ns LY mg) (hfa:mg "law" = some (.ref fa))
  {f1 f2 f3 f4 f5 f6 f7 f8 f9 f10 f11 f12 f13 f14 f15 f16 f17 f18 f19 f20 f21 f22 f23 f24 f25 f26 f27 f28 f29 f30 f31 f32 f33 f34 f35 f36 f37 f38 f39 f40 f41 f42 f43 f44 f45 f46 f47 f48 f49 f50 f51 f52 f53 f56 f60:Addr} {od1 an1 od2 an2 od3 an3 od4 an4 od5 an5 od6 an6 od7 an7 od8 an8 od9 an9 od10 an10 od11 an11 od12 an12 od13 an13 od14 an14 od15 an15 od16 an16 od17 an17 od18 an18 od19 an19 od20 an20 od21 an21 od22 an22 od23 an23 od24 an24 od25 an25 od26 an26 od27 an27 od28 an28 od29 an29 od30 an30 od31 an31 od32 an32 od33 an33 od34 an34 od35 an35 od36 an36 od37 an37 od38 an38 od39 an39 od40 an40 od41 an41 od42 an42 od43 an43 od44 an44 od45 an45 od46 an46 od47 an47 od48 an48 od49 an49 od50 an50 od51 an51 od52 an52 od53 an53 od56 an56 od60 an60:Option Addr} {sl1 sl2 sl3 sl4 sl5 sl6 sl7 sl8 sl9 sl10 sl11 sl12 sl13 sl14 sl15 sl16 sl17 sl18 sl19 sl20 sl21 sl22 sl23 sl24 sl25 sl26 sl27 sl28 sl29 sl30 sl31 sl32 sl33 sl34 sl35 sl36 sl37 sl38 sl39 sl40 sl41 sl42 sl43 sl44 sl45 sl46 sl47 sl48 sl49 sl50 sl51 sl52 sl53 sl56 sl60:Array (Option Value)} {oc1 kV1 dc1 pm1 cd1 ct1 oc2 kV2 dc2 pm2 cd2 ct2 oc3 kV3 dc3 pm3 cd3 ct3 oc4 kV4 dc4 pm4 cd4 ct4 oc5 kV5 dc5 pm5 cd5 ct5 oc6 kV6 dc6 pm6 cd6 ct6 oc7 kV7 dc7 pm7 cd7 ct7 oc8 kV8 dc8 pm8 cd8 ct8 oc9 kV9 dc9 pm9 cd9 ct9 oc10 kV10 dc10 pm10 cd10 ct10 oc11 kV11 dc11 pm11 cd11 ct11 oc12 kV12 dc12 pm12 cd12 ct12 oc13 kV13 dc13 pm13 cd13 ct13 oc14 kV14 dc14 pm14 cd14 ct14 oc15 kV15 dc15 pm15 cd15 ct15 oc16 kV16 dc16 pm16 cd16 ct16 oc17 kV17 dc17 pm17 cd17 ct17 oc18 kV18 dc18 pm18 cd18 ct18 oc19 kV19 dc19 pm19 cd19 ct19 oc20 kV20 dc20 pm20 cd20 ct20 oc21 kV21 dc21 pm21 cd21 ct21 oc22 kV22 dc22 pm22 cd22 ct22 oc23 kV23 dc23 pm23 cd23 ct23 oc24 kV24 dc24 pm24 cd24 ct24 oc25 kV25 dc25 pm25 cd25 ct25 oc26 kV26 dc26 pm26 cd26 ct26 oc27 kV27 dc27 pm27 cd27 ct27 oc28 kV28 dc28 pm28 cd28 ct28 oc29 kV29 dc29 pm29 cd29 ct29 oc30 kV30 dc30 pm30 cd30 ct30 oc31 kV31 dc31 pm31 cd31 ct31 oc32 kV32 dc32 pm32 cd32 ct32 oc33 kV33 dc33 pm33 cd33 ct33 oc34 kV34 dc34 pm34 cd34 ct34 oc35 kV35 dc35 pm35 cd35 ct35 oc36 kV36 dc36 pm36 cd36 ct36 oc37 kV37 dc37 pm37 cd37 ct37 oc38 kV38 dc38 pm38 cd38 ct38 oc39 kV39 dc39 pm39 cd39 ct39 oc40 kV40 dc40 pm40 cd40 ct40 oc41 kV41 dc41 pm41 cd41 ct41 oc42 kV42 dc42 pm42 cd42 ct42 oc43 kV43 dc43 pm43 cd43 ct43 oc44 kV44 dc44 pm44 cd44 ct44 oc45 kV45 dc45 pm45 cd45 ct45 oc46 kV46 dc46 pm46 cd46 ct46 oc47 kV47 dc47 pm47 cd47 ct47 oc48 kV48 dc48 pm48 cd48 ct48 oc49 kV49 dc49 pm49 cd49 ct49 oc50 kV50 dc50 pm50 cd50 ct50 oc51 kV51 dc51 pm51 cd51 ct51 oc52 kV52 dc52 pm52 cd52 ct52 oc53 kV53 dc53 pm53 cd53 ct53 oc56 kV56 dc56 pm56 cd56 ct56 oc60 kV60 dc60 pm60 cd60 ct60:Value}
  {D23:Addr} {dd23:Option Addr} {ds23:Array (Option Value)} {dcl23:Value} {dn23:Nat}
  {C54 f54:Addr} {od54 an54:Option Addr} {sl54:Array (Option Value)} {oc54 kV54 dc54 pm54 cd54 ct54:Value}
  {C55 f55:Addr} {od55 an55:Option Addr} {sl55:Array (Option Value)} {oc55 kV55 dc55 pm55 cd55 ct55:Value}
  {C57 f57:Addr} {od57 an57:Option Addr} {sl57:Array (Option Value)} {oc57 kV57 dc57 pm57 cd57 ct57:Value}
  {D57:Addr} {dd57:Option Addr} {ds57:Array (Option Value)} {dcl57:Value} {dn57:Nat}
  {C58 f58:Addr} {od58 an58:Option Addr} {sl58:Array (Option Value)} {oc58 kV58 dc58 pm58 cd58 ct58:Value}
  {D58:Addr} {dd58:Option Addr} {ds58:Array (Option Value)} {dcl58:Value} {dn58:Nat}
  {C59 f59:Addr} {od59 an59:Option Addr} {sl59:Array (Option Value)} {oc59 kV59 dc59 pm59 cd59 ct59:Value}
  {CX_NoWay:Addr}
  {CX_NoPart:Addr}
  {CX_BadWheel:Addr}
  {CX_BadMarks:Addr}
  {CX_BookError:Addr}
  {CX_NotSteady:Addr}
  {CX_NoMove:Addr}
  {CX_OtherGroup:Addr}
  {CX_OtherWheel:Addr}
  {CX_TooGreat:Addr}
  {CX_NotKept:Addr}
  {CX_BadSize:Addr}
  {CX_Stranger:Addr}
  {CX_NoUnit:Addr}
  {CX_NoBack:Addr}
  {CX_NotTogether:Addr}
  {iK:Tok}
  {iG:Tok}
  (a1:LX K LY "group_of" = some (some (.ref f1))) (l1:K.lookup f1=some ⟨oc1,od1,.func (Mc "group_of" "group_of" (aJ ig) (aG ig) (ag ig) .none kV1 dc1 pm1 an1 cd1 ct1),sl1⟩) (c1:L9 K cd1 "group_of" = true) (k1:LW K (.ref f1)=true)
  (a2:LX K LY "check_size" = some (some (.ref f2))) (l2:K.lookup f2=some ⟨oc2,od2,.func (Mc "check_size" "check_size" (aJ gU) (aG gU) (ag gU) .none kV2 dc2 pm2 an2 cd2 ct2),sl2⟩) (c2:L9 K cd2 "check_size" = true) (k2:LW K (.ref f2)=true)
  (a3:LX K LY "check_strangers" = some (some (.ref f3))) (l3:K.lookup f3=some ⟨oc3,od3,.func (Mc "check_strangers" "check_strangers" (aJ dy) (aG dy) (ag dy) .none kV3 dc3 pm3 an3 cd3 ct3),sl3⟩) (c3:L9 K cd3 "check_strangers" = true) (k3:LW K (.ref f3)=true)
  (a4:LX K LY "unit_of" = some (some (.ref f4))) (l4:K.lookup f4=some ⟨oc4,od4,.func (Mc "unit_of" "unit_of" (aJ kB) (aG kB) (ag kB) .none kV4 dc4 pm4 an4 cd4 ct4),sl4⟩) (c4:L9 K cd4 "unit_of" = true) (k4:LW K (.ref f4)=true)
  (a5:LX K LY "leaves_all" = some (some (.ref f5))) (l5:K.lookup f5=some ⟨oc5,od5,.func (Mc "leaves_all" "leaves_all" (aJ gP) (aG gP) (ag gP) .none kV5 dc5 pm5 an5 cd5 ct5),sl5⟩) (c5:L9 K cd5 "leaves_all" = true) (k5:LW K (.ref f5)=true)
  (a6:LX K LY "backs_of" = some (some (.ref f6))) (l6:K.lookup f6=some ⟨oc6,od6,.func (Mc "backs_of" "backs_of" (aJ ir) (aG ir) (ag ir) .none kV6 dc6 pm6 an6 cd6 ct6),sl6⟩) (c6:L9 K cd6 "backs_of" = true) (k6:LW K (.ref f6)=true)
  (a7:LX K LY "back_of" = some (some (.ref f7))) (l7:K.lookup f7=some ⟨oc7,od7,.func (Mc "back_of" "back_of" (aJ kG) (aG kG) (ag kG) .none kV7 dc7 pm7 an7 cd7 ct7),sl7⟩) (c7:L9 K cd7 "back_of" = true) (k7:LW K (.ref f7)=true)
  (a8:LX K LY "check_together" = some (some (.ref f8))) (l8:K.lookup f8=some ⟨oc8,od8,.func (Mc "check_together" "check_together" (aJ dO) (aG dO) (ag dO) .none kV8 dc8 pm8 an8 cd8 ct8),sl8⟩) (c8:L9 K cd8 "check_together" = true) (k8:LW K (.ref f8)=true)
  (a9:LX K LY "order" = some (some (.ref f9))) (l9:K.lookup f9=some ⟨oc9,od9,.func (Mc "order" "order" (aJ nW) (aG nW) (ag nW) .none kV9 dc9 pm9 an9 cd9 ct9),sl9⟩) (c9:L9 K cd9 "order" = true) (k9:LW K (.ref f9)=true)
  (a10:LX K LY "turns" = some (some (.ref f10))) (l10:K.lookup f10=some ⟨oc10,od10,.func (Mc "turns" "turns" (aJ kL) (aG kL) (ag kL) .none kV10 dc10 pm10 an10 cd10 ct10),sl10⟩) (c10:L9 K cd10 "turns" = true) (k10:LW K (.ref f10)=true)
  (a11:LX K LY "check_part" = some (some (.ref f11))) (l11:K.lookup f11=some ⟨oc11,od11,.func (Mc "check_part" "check_part" (aJ gA) (aG gA) (ag gA) .none kV11 dc11 pm11 an11 cd11 ct11),sl11⟩) (c11:L9 K cd11 "check_part" = true) (k11:LW K (.ref f11)=true)
  (a12:LX K LY "is_part" = some (some (.ref f12))) (l12:K.lookup f12=some ⟨oc12,od12,.func (Mc "is_part" "is_part" (aJ kF) (aG kF) (ag kF) .none kV12 dc12 pm12 an12 cd12 ct12),sl12⟩) (c12:L9 K cd12 "is_part" = true) (k12:LW K (.ref f12)=true)
  (a13:LX K LY "all_things" = some (some (.ref f13))) (l13:K.lookup f13=some ⟨oc13,od13,.func (Mc "all_things" "all_things" (aJ fh) (aG fh) (ag fh) .none kV13 dc13 pm13 an13 cd13 ct13),sl13⟩) (c13:L9 K cd13 "all_things" = true) (k13:LW K (.ref f13)=true)
  (a14:LX K LY "rises" = some (some (.ref f14))) (l14:K.lookup f14=some ⟨oc14,od14,.func (Mc "rises" "rises" (aJ lV) (aG lV) (ag lV) .none kV14 dc14 pm14 an14 cd14 ct14),sl14⟩) (c14:L9 K cd14 "rises" = true) (k14:LW K (.ref f14)=true)
  (a15:LX K LY "holds_products" = some (some (.ref f15))) (l15:K.lookup f15=some ⟨oc15,od15,.func (Mc "holds_products" "holds_products" (aJ dM) (aG dM) (ag dM) .none kV15 dc15 pm15 an15 cd15 ct15),sl15⟩) (c15:L9 K cd15 "holds_products" = true) (k15:LW K (.ref f15)=true)
  (a16:LX K LY "sides" = some (some (.ref f16))) (l16:K.lookup f16=some ⟨oc16,od16,.func (Mc "sides" "sides" (aJ kP) (aG kP) (ag kP) .none kV16 dc16 pm16 an16 cd16 ct16),sl16⟩) (c16:L9 K cd16 "sides" = true) (k16:LW K (.ref f16)=true)
  (a17:LX K LY "side_of" = some (some (.ref f17))) (l17:K.lookup f17=some ⟨oc17,od17,.func (Mc "side_of" "side_of" (aJ jd) (aG jd) (ag jd) .none kV17 dc17 pm17 an17 cd17 ct17),sl17⟩) (c17:L9 K cd17 "side_of" = true) (k17:LW K (.ref f17)=true)
  (a18:LX K LY "carriers_of" = some (some (.ref f18))) (l18:K.lookup f18=some ⟨oc18,od18,.func (Mc "carriers_of" "carriers_of" (aJ eE) (aG eE) (ag eE) .none kV18 dc18 pm18 an18 cd18 ct18),sl18⟩) (c18:L9 K cd18 "carriers_of" = true) (k18:LW K (.ref f18)=true)
  (a19:LX K LY "inner" = some (some (.ref f19))) (l19:K.lookup f19=some ⟨oc19,od19,.func (Mc "inner" "inner" (aJ lU) (aG lU) (ag lU) .none kV19 dc19 pm19 an19 cd19 ct19),sl19⟩) (c19:L9 K cd19 "inner" = true) (k19:LW K (.ref f19)=true)
  (a20:LX K LY "check_spokes" = some (some (.ref f20))) (l20:K.lookup f20=some ⟨oc20,od20,.func (Mc "check_spokes" "check_spokes" (aJ ff) (aG ff) (ag ff) .none kV20 dc20 pm20 an20 cd20 ct20),sl20⟩) (c20:L9 K cd20 "check_spokes" = true) (k20:LW K (.ref f20)=true)
  (a21:LX K LY "serving" = some (some (.ref f21))) (l21:K.lookup f21=some ⟨oc21,od21,.func (Mc "serving" "serving" (aJ kA) (aG kA) (ag kA) .none kV21 dc21 pm21 an21 cd21 ct21),sl21⟩) (c21:L9 K cd21 "serving" = true) (k21:LW K (.ref f21)=true)
  (a22:LX K LY "check_marks" = some (some (.ref f22))) (l22:K.lookup f22=some ⟨oc22,od22,.func (Mc "check_marks" "check_marks" (aJ eG) (aG eG) (ag eG) .none kV22 dc22 pm22 an22 cd22 ct22),sl22⟩) (c22:L9 K cd22 "check_marks" = true) (k22:LW K (.ref f22)=true)
  (a23:LX K LY "first_break" = some (some (.ref f23))) (l23:K.lookup f23=some ⟨oc23,od23,.func (Mc "first_break" "first_break" (aJ fG) (aG fG) (ag fG) (.ref D23) kV23 dc23 pm23 an23 cd23 ct23),sl23⟩) (c23:L9 K cd23 "first_break" = true) (k23:LW K (.ref f23)=true) (e23:K.lookup D23=some ⟨dcl23,dd23,.seq #[.none] dn23,ds23⟩)
  (a24:LX K LY "check_way" = some (some (.ref f24))) (l24:K.lookup f24=some ⟨oc24,od24,.func (Mc "check_way" "check_way" (aJ iO) (aG iO) (ag iO) .none kV24 dc24 pm24 an24 cd24 ct24),sl24⟩) (c24:L9 K cd24 "check_way" = true) (k24:LW K (.ref f24)=true)
  (a25:LX K LY "side_moves" = some (some (.ref f25))) (l25:K.lookup f25=some ⟨oc25,od25,.func (Mc "side_moves" "side_moves" (aJ fw) (aG fw) (ag fw) .none kV25 dc25 pm25 an25 cd25 ct25),sl25⟩) (c25:L9 K cd25 "side_moves" = true) (k25:LW K (.ref f25)=true)
  (a26:LX K LY "_law_cell" = some (some (.ref f26))) (l26:K.lookup f26=some ⟨oc26,od26,.func (Mc "_law_cell" "_law_cell" (aJ jD) (aG jD) (ag jD) .none kV26 dc26 pm26 an26 cd26 ct26),sl26⟩) (c26:L9 K cd26 "_law_cell" = true) (k26:LW K (.ref f26)=true)
  (a27:LX K LY "_law_sizes" = some (some (.ref f27))) (l27:K.lookup f27=some ⟨oc27,od27,.func (Mc "_law_sizes" "_law_sizes" (aJ iR) (aG iR) (ag iR) .none kV27 dc27 pm27 an27 cd27 ct27),sl27⟩) (c27:L9 K cd27 "_law_sizes" = true) (k27:LW K (.ref f27)=true)
  (a28:LX K LY "_law_kind" = some (some (.ref f28))) (l28:K.lookup f28=some ⟨oc28,od28,.func (Mc "_law_kind" "_law_kind" (aJ jH) (aG jH) (ag jH) .none kV28 dc28 pm28 an28 cd28 ct28),sl28⟩) (c28:L9 K cd28 "_law_kind" = true) (k28:LW K (.ref f28)=true)
  (a29:LX K LY "_law_unit" = some (some (.ref f29))) (l29:K.lookup f29=some ⟨oc29,od29,.func (Mc "_law_unit" "_law_unit" (aJ jy) (aG jy) (ag jy) .none kV29 dc29 pm29 an29 cd29 ct29),sl29⟩) (c29:L9 K cd29 "_law_unit" = true) (k29:LW K (.ref f29)=true)
  (a30:LX K LY "_law_turned" = some (some (.ref f30))) (l30:K.lookup f30=some ⟨oc30,od30,.func (Mc "_law_turned" "_law_turned" (aJ gR) (aG gR) (ag gR) .none kV30 dc30 pm30 an30 cd30 ct30),sl30⟩) (c30:L9 K cd30 "_law_turned" = true) (k30:LW K (.ref f30)=true)
  (a31:LX K LY "_law_sum" = some (some (.ref f31))) (l31:K.lookup f31=some ⟨oc31,od31,.func (Mc "_law_sum" "_law_sum" (aJ kK) (aG kK) (ag kK) .none kV31 dc31 pm31 an31 cd31 ct31),sl31⟩) (c31:L9 K cd31 "_law_sum" = true) (k31:LW K (.ref f31)=true)
  (a32:LX K LY "_law_rows" = some (some (.ref f32))) (l32:K.lookup f32=some ⟨oc32,od32,.func (Mc "_law_rows" "_law_rows" (aJ iq) (aG iq) (ag iq) .none kV32 dc32 pm32 an32 cd32 ct32),sl32⟩) (c32:L9 K cd32 "_law_rows" = true) (k32:LW K (.ref f32)=true)
  (a33:LX K LY "_law_names" = some (some (.ref f33))) (l33:K.lookup f33=some ⟨oc33,od33,.func (Mc "_law_names" "_law_names" (aJ iM) (aG iM) (ag iM) .none kV33 dc33 pm33 an33 cd33 ct33),sl33⟩) (c33:L9 K cd33 "_law_names" = true) (k33:LW K (.ref f33)=true)
  (a34:LX K LY "_law_group" = some (some (.ref f34))) (l34:K.lookup f34=some ⟨oc34,od34,.func (Mc "_law_group" "_law_group" (aJ eV) (aG eV) (ag eV) .none kV34 dc34 pm34 an34 cd34 ct34),sl34⟩) (c34:L9 K cd34 "_law_group" = true) (k34:LW K (.ref f34)=true)
  (a35:LX K LY "_law_whole" = some (some (.ref f35))) (l35:K.lookup f35=some ⟨oc35,od35,.func (Mc "_law_whole" "_law_whole" (aJ iW) (aG iW) (ag iW) .none kV35 dc35 pm35 an35 cd35 ct35),sl35⟩) (c35:L9 K cd35 "_law_whole" = true) (k35:LW K (.ref f35)=true)
  (a36:LX K LY "_law_one" = some (some (.ref f36))) (l36:K.lookup f36=some ⟨oc36,od36,.func (Mc "_law_one" "_law_one" (aJ jk) (aG jk) (ag jk) .none kV36 dc36 pm36 an36 cd36 ct36),sl36⟩) (c36:L9 K cd36 "_law_one" = true) (k36:LW K (.ref f36)=true)
  (a37:LX K LY "_law_thing" = some (some (.ref f37))) (l37:K.lookup f37=some ⟨oc37,od37,.func (Mc "_law_thing" "_law_thing" (aJ iU) (aG iU) (ag iU) .none kV37 dc37 pm37 an37 cd37 ct37),sl37⟩) (c37:L9 K cd37 "_law_thing" = true) (k37:LW K (.ref f37)=true)
  (a38:LX K LY "_law_turns" = some (some (.ref f38))) (l38:K.lookup f38=some ⟨oc38,od38,.func (Mc "_law_turns" "_law_turns" (aJ eX) (aG eX) (ag eX) .none kV38 dc38 pm38 an38 cd38 ct38),sl38⟩) (c38:L9 K cd38 "_law_turns" = true) (k38:LW K (.ref f38)=true)
  (a39:LX K LY "_law_order" = some (some (.ref f39))) (l39:K.lookup f39=some ⟨oc39,od39,.func (Mc "_law_order" "_law_order" (aJ iN) (aG iN) (ag iN) .none kV39 dc39 pm39 an39 cd39 ct39),sl39⟩) (c39:L9 K cd39 "_law_order" = true) (k39:LW K (.ref f39)=true)
  (a40:LX K LY "_law_marked" = some (some (.ref f40))) (l40:K.lookup f40=some ⟨oc40,od40,.func (Mc "_law_marked" "_law_marked" (aJ fB) (aG fB) (ag fB) .none kV40 dc40 pm40 an40 cd40 ct40),sl40⟩) (c40:L9 K cd40 "_law_marked" = true) (k40:LW K (.ref f40)=true)
  (a41:LX K LY "_law_some" = some (some (.ref f41))) (l41:K.lookup f41=some ⟨oc41,od41,.func (Mc "_law_some" "_law_some" (aJ hX) (aG hX) (ag hX) .none kV41 dc41 pm41 an41 cd41 ct41),sl41⟩) (c41:L9 K cd41 "_law_some" = true) (k41:LW K (.ref f41)=true)
  (a42:LX K LY "_law_is_part" = some (some (.ref f42))) (l42:K.lookup f42=some ⟨oc42,od42,.func (Mc "_law_is_part" "_law_is_part" (aJ eJ) (aG eJ) (ag eJ) .none kV42 dc42 pm42 an42 cd42 ct42),sl42⟩) (c42:L9 K cd42 "_law_is_part" = true) (k42:LW K (.ref f42)=true)
  (a43:LX K LY "_law_flags" = some (some (.ref f43))) (l43:K.lookup f43=some ⟨oc43,od43,.func (Mc "_law_flags" "_law_flags" (aJ iQ) (aG iQ) (ag iQ) .none kV43 dc43 pm43 an43 cd43 ct43),sl43⟩) (c43:L9 K cd43 "_law_flags" = true) (k43:LW K (.ref f43)=true)
  (a44:LX K LY "_law_only" = some (some (.ref f44))) (l44:K.lookup f44=some ⟨oc44,od44,.func (Mc "_law_only" "_law_only" (aJ ic) (aG ic) (ag ic) .none kV44 dc44 pm44 an44 cd44 ct44),sl44⟩) (c44:L9 K cd44 "_law_only" = true) (k44:LW K (.ref f44)=true)
  (a45:LX K LY "_law_spokes" = some (some (.ref f45))) (l45:K.lookup f45=some ⟨oc45,od45,.func (Mc "_law_spokes" "_law_spokes" (aJ gM) (aG gM) (ag gM) .none kV45 dc45 pm45 an45 cd45 ct45),sl45⟩) (c45:L9 K cd45 "_law_spokes" = true) (k45:LW K (.ref f45)=true)
  (a46:LX K LY "_law_bad_part" = some (some (.ref f46))) (l46:K.lookup f46=some ⟨oc46,od46,.func (Mc "_law_bad_part" "_law_bad_part" (aJ dH) (aG dH) (ag dH) .none kV46 dc46 pm46 an46 cd46 ct46),sl46⟩) (c46:L9 K cd46 "_law_bad_part" = true) (k46:LW K (.ref f46)=true)
  (a47:LX K LY "_law_bad_marks" = some (some (.ref f47))) (l47:K.lookup f47=some ⟨oc47,od47,.func (Mc "_law_bad_marks" "_law_bad_marks" (aJ d9) (aG d9) (ag d9) .none kV47 dc47 pm47 an47 cd47 ct47),sl47⟩) (c47:L9 K cd47 "_law_bad_marks" = true) (k47:LW K (.ref f47)=true)
  (a48:LX K LY "_law_made" = some (some (.ref f48))) (l48:K.lookup f48=some ⟨oc48,od48,.func (Mc "_law_made" "_law_made" (aJ jE) (aG jE) (ag jE) .none kV48 dc48 pm48 an48 cd48 ct48),sl48⟩) (c48:L9 K cd48 "_law_made" = true) (k48:LW K (.ref f48)=true)
  (a49:LX K LY "_law_serves" = some (some (.ref f49))) (l49:K.lookup f49=some ⟨oc49,od49,.func (Mc "_law_serves" "_law_serves" (aJ gG) (aG gG) (ag gG) .none kV49 dc49 pm49 an49 cd49 ct49),sl49⟩) (c49:L9 K cd49 "_law_serves" = true) (k49:LW K (.ref f49)=true)
  (a50:LX K LY "_law_due" = some (some (.ref f50))) (l50:K.lookup f50=some ⟨oc50,od50,.func (Mc "_law_due" "_law_due" (aJ jf) (aG jf) (ag jf) .none kV50 dc50 pm50 an50 cd50 ct50),sl50⟩) (c50:L9 K cd50 "_law_due" = true) (k50:LW K (.ref f50)=true)
  (a51:LX K LY "_law_asked" = some (some (.ref f51))) (l51:K.lookup f51=some ⟨oc51,od51,.func (Mc "_law_asked" "_law_asked" (aJ iY) (aG iY) (ag iY) .none kV51 dc51 pm51 an51 cd51 ct51),sl51⟩) (c51:L9 K cd51 "_law_asked" = true) (k51:LW K (.ref f51)=true)
  (a52:LX K LY "_law_met" = some (some (.ref f52))) (l52:K.lookup f52=some ⟨oc52,od52,.func (Mc "_law_met" "_law_met" (aJ kJ) (aG kJ) (ag kJ) .none kV52 dc52 pm52 an52 cd52 ct52),sl52⟩) (c52:L9 K cd52 "_law_met" = true) (k52:LW K (.ref f52)=true)
  (a53:LX K LY "law" = some (some (.ref f53))) (l53:K.lookup f53=some ⟨oc53,od53,.func (Mc "law" "law" (aJ mK) (aG mK) (ag mK) .none kV53 dc53 pm53 an53 cd53 ct53),sl53⟩) (c53:L9 K cd53 "law" = true) (k53:LW K (.ref f53)=true)
  (aC54:LX K LY "Group" = some (some (.ref C54))) (a54:Ma K (.ref C54) "__init__" = some (some (.ref f54))) (i54:Ot K (.ref f54)=true) (l54:K.lookup f54=some ⟨oc54,od54,.func (Mc "__init__" "Group.__init__" (aJ gS) (aG gS) (ag gS) .none kV54 dc54 pm54 an54 cd54 ct54),sl54⟩) (c54:L9 K cd54 "Group.__init__" = true) (k54:LW K (.ref f54)=true) (pg54:N5 K C54 RT=true) (hd54:Nb K C54=true) (po54:Ow K C54=true) (sa54:Ma K (.ref C54) "__setattr__" = some (some (.builtin "object.__setattr__"))) (mk54:OO K C54=true) (kc54:LW K (.ref C54)=true)
  (n54_many:Ma K (.ref C54) "many" = some none)
  (n54_rows:Ma K (.ref C54) "rows" = some none)
  (n54_unit:Ma K (.ref C54) "unit" = some none)
  (n54_backs:Ma K (.ref C54) "backs" = some none)
  (aC55:LX K LY "Way" = some (some (.ref C55))) (a55:Ma K (.ref C55) "__init__" = some (some (.ref f55))) (i55:Ot K (.ref f55)=true) (l55:K.lookup f55=some ⟨oc55,od55,.func (Mc "__init__" "Way.__init__" (aJ jF) (aG jF) (ag jF) .none kV55 dc55 pm55 an55 cd55 ct55),sl55⟩) (c55:L9 K cd55 "Way.__init__" = true) (k55:LW K (.ref f55)=true) (pg55:N5 K C55 RT=true) (hd55:Nb K C55=true) (po55:Ow K C55=true) (sa55:Ma K (.ref C55) "__setattr__" = some (some (.builtin "object.__setattr__"))) (mk55:OO K C55=true) (kc55:LW K (.ref C55)=true)
  (ug55:OP K (.ref C55) "__getattribute__" = some (some (.builtin "type.__getattribute__"))) (ur55:PySem.W.readsIn K C55 (.type "type")=true) (uf55:PySem.W.findCls K (.ref C55) (.type "type") "__init__" = some (.val (.ref f55)))
  (n55_group:Ma K (.ref C55) "group" = some none)
  (n55_spokes:Ma K (.ref C55) "spokes" = some none)
  (n55_size:Ma K (.ref C55) "size" = some none)
  (n55_deeds:Ma K (.ref C55) "deeds" = some none)
  (a56:Ma K (.ref C55) "moves" = some (some (.ref f56))) (i56:Ot K (.ref f56)=true) (l56:K.lookup f56=some ⟨oc56,od56,.func (Mc "moves" "Way.moves" (aJ iS) (aG iS) (ag iS) .none kV56 dc56 pm56 an56 cd56 ct56),sl56⟩) (c56:L9 K cd56 "Way.moves" = true) (k56:LW K (.ref f56)=true)
  (aC57:LX K LY "Regular" = some (some (.ref C57))) (a57:Ma K (.ref C57) "__init__" = some (some (.ref f57))) (i57:Ot K (.ref f57)=true) (l57:K.lookup f57=some ⟨oc57,od57,.func (Mc "__init__" "Regular.__init__" (aJ dP) (aG dP) (ag dP) (.ref D57) kV57 dc57 pm57 an57 cd57 ct57),sl57⟩) (c57:L9 K cd57 "Regular.__init__" = true) (k57:LW K (.ref f57)=true) (pg57:N5 K C57 RT=true) (hd57:Nb K C57=true) (po57:Ow K C57=true) (sa57:Ma K (.ref C57) "__setattr__" = some (some (.builtin "object.__setattr__"))) (mk57:OO K C57=true) (kc57:LW K (.ref C57)=true) (e57:K.lookup D57=some ⟨dcl57,dd57,.seq #[.none] dn57,ds57⟩)
  (v57_moves:Ma K (.ref C57) "moves" = some (some (.ref f56)))
  (n57_group:Ma K (.ref C57) "group" = some none)
  (n57_spokes:Ma K (.ref C57) "spokes" = some none)
  (n57_size:Ma K (.ref C57) "size" = some none)
  (n57_deeds:Ma K (.ref C57) "deeds" = some none)
  (aC58:LX K LY "Lifted" = some (some (.ref C58))) (a58:Ma K (.ref C58) "__init__" = some (some (.ref f58))) (i58:Ot K (.ref f58)=true) (l58:K.lookup f58=some ⟨oc58,od58,.func (Mc "__init__" "Lifted.__init__" (aJ eB) (aG eB) (ag eB) (.ref D58) kV58 dc58 pm58 an58 cd58 ct58),sl58⟩) (c58:L9 K cd58 "Lifted.__init__" = true) (k58:LW K (.ref f58)=true) (pg58:N5 K C58 RT=true) (hd58:Nb K C58=true) (po58:Ow K C58=true) (sa58:Ma K (.ref C58) "__setattr__" = some (some (.builtin "object.__setattr__"))) (mk58:OO K C58=true) (kc58:LW K (.ref C58)=true) (e58:K.lookup D58=some ⟨dcl58,dd58,.seq #[.none] dn58,ds58⟩)
  (v58_moves:Ma K (.ref C58) "moves" = some (some (.ref f56)))
  (n58_part:Ma K (.ref C58) "part" = some none)
  (n58_marks:Ma K (.ref C58) "marks" = some none)
  (n58_group:Ma K (.ref C58) "group" = some none)
  (n58_spokes:Ma K (.ref C58) "spokes" = some none)
  (n58_size:Ma K (.ref C58) "size" = some none)
  (n58_deeds:Ma K (.ref C58) "deeds" = some none)
  (aC59:LX K LY "Within" = some (some (.ref C59))) (a59:Ma K (.ref C59) "__init__" = some (some (.ref f59))) (i59:Ot K (.ref f59)=true) (l59:K.lookup f59=some ⟨oc59,od59,.func (Mc "__init__" "Within.__init__" (aJ eA) (aG eA) (ag eA) .none kV59 dc59 pm59 an59 cd59 ct59),sl59⟩) (c59:L9 K cd59 "Within.__init__" = true) (k59:LW K (.ref f59)=true) (pg59:N5 K C59 RT=true) (hd59:Nb K C59=true) (po59:Ow K C59=true) (sa59:Ma K (.ref C59) "__setattr__" = some (some (.builtin "object.__setattr__"))) (mk59:OO K C59=true) (kc59:LW K (.ref C59)=true)
  (v59_moves:Ma K (.ref C59) "moves" = some (some (.ref f56)))
  (n59_group:Ma K (.ref C59) "group" = some none)
  (n59_spokes:Ma K (.ref C59) "spokes" = some none)
  (n59_size:Ma K (.ref C59) "size" = some none)
  (n59_deeds:Ma K (.ref C59) "deeds" = some none)
  (aX_NoWay:LX K LY "NoWay" = some (some (.ref CX_NoWay))) (a60:Ma K (.ref CX_NoWay) "__init__" = some (some (.ref f60))) (i60:Ot K (.ref f60)=true) (l60:K.lookup f60=some ⟨oc60,od60,.func (Mc "__init__" "NoWay.__init__" (aJ gC) (aG gC) (ag gC) .none kV60 dc60 pm60 an60 cd60 ct60),sl60⟩) (c60:L9 K cd60 "NoWay.__init__" = true) (k60:LW K (.ref f60)=true) (hd60:Nb K CX_NoWay=true) (sa60:Ma K (.ref CX_NoWay) "__setattr__" = some (some (.builtin "object.__setattr__"))) (kc60:LW K (.ref CX_NoWay)=true) (ob60:CV K CX_NoWay=true) (ov60:HQ K CX_NoWay=true)
  (n60_one:Ma K (.ref CX_NoWay) "one" = some none)
  (n60_two:Ma K (.ref CX_NoWay) "two" = some none)
  (aX_NoPart:LX K LY "NoPart" = some (some (.ref CX_NoPart)))
  (aX_BadWheel:LX K LY "BadWheel" = some (some (.ref CX_BadWheel)))
  (aX_BadMarks:LX K LY "BadMarks" = some (some (.ref CX_BadMarks)))
  (aX_BookError:LX K LY "BookError" = some (some (.ref CX_BookError)))
  (aX_NotSteady:LX K LY "NotSteady" = some (some (.ref CX_NotSteady)))
  (aX_NoMove:LX K LY "NoMove" = some (some (.ref CX_NoMove)))
  (aX_OtherGroup:LX K LY "OtherGroup" = some (some (.ref CX_OtherGroup)))
  (aX_OtherWheel:LX K LY "OtherWheel" = some (some (.ref CX_OtherWheel)))
  (aX_TooGreat:LX K LY "TooGreat" = some (some (.ref CX_TooGreat)))
  (aX_NotKept:LX K LY "NotKept" = some (some (.ref CX_NotKept)))
  (aX_BadSize:LX K LY "BadSize" = some (some (.ref CX_BadSize)))
  (aX_Stranger:LX K LY "Stranger" = some (some (.ref CX_Stranger)))
  (aX_NoUnit:LX K LY "NoUnit" = some (some (.ref CX_NoUnit)))
  (aX_NoBack:LX K LY "NoBack" = some (some (.ref CX_NoBack)))
  (aX_NotTogether:LX K LY "NotTogether" = some (some (.ref CX_NotTogether)))
  (lW:Oo K CX_NoPart bmV n8=true)
  (lM:cq K CX_NoPart)
  (ip:Oo K CX_BadWheel bmV n8=true)
  (jM:cq K CX_BadWheel)
  (hZ:Oo K CX_BadMarks bmV n8=true)
  (jx:cq K CX_BadMarks)
  (iT:cq K CX_NoWay)
  (w_get:OP K (.builtin "object.__class__") "__get__" = some (some (.builtin "getset_descriptor.__get__")))
  (vO:Qs K (.builtin "object.__class__")=some true)
  (qi:Ma K (.ref C57) "__class__" = some (some (.builtin "object.__class__")))
  (pL:Od K C57 (.type "object")=some true)
  (qu:MJ K (.ref C57) (.ref C55)=some true)
  (pO:Ma K (.ref C58) "__class__" = some (some (.builtin "object.__class__")))
  (qv:Od K C58 (.type "object")=some true)
  (pW:MJ K (.ref C58) (.ref C55)=some true)
  (qc:Ma K (.ref C59) "__class__" = some (some (.builtin "object.__class__")))
  (pU:Od K C59 (.type "object")=some true)
  (qt:MJ K (.ref C59) (.ref C55)=some true)
  (ku:Nn K (.ref CX_NoPart) (.ref CX_BookError)=some true)
  (iz:Nn K (.ref CX_BadWheel) (.ref CX_BookError)=some true)
  (jN:Nn K (.ref CX_BadMarks) (.ref CX_BookError)=some true)
  (nX:Nn K (.ref CX_NoWay) (.ref CX_BookError)=some true)
  (lI:MJ K (.ref CX_NoPart) (.type "ValueError")=some true)
  (jC:MJ K (.ref CX_BadWheel) (.type "ValueError")=some true)
  (jt:MJ K (.ref CX_BadMarks) (.type "ValueError")=some true)
  (nQ:MJ K (.ref CX_NoWay) (.type "ValueError")=some true)
  (md:flagsOf K CX_NoPart [CX_NoPart,CX_NotSteady,CX_BadWheel,CX_NoMove,CX_BadMarks,CX_NoWay,CX_OtherGroup,CX_OtherWheel,CX_TooGreat,CX_NotKept,CX_BadSize,CX_Stranger,CX_NoUnit,CX_NoBack,CX_NotTogether]=(mS 15 0).map some)
  (jw:flagsOf K CX_BadWheel [CX_NoPart,CX_NotSteady,CX_BadWheel,CX_NoMove,CX_BadMarks,CX_NoWay,CX_OtherGroup,CX_OtherWheel,CX_TooGreat,CX_NotKept,CX_BadSize,CX_Stranger,CX_NoUnit,CX_NoBack,CX_NotTogether]=(mS 15 2).map some)
  (jK:flagsOf K CX_BadMarks [CX_NoPart,CX_NotSteady,CX_BadWheel,CX_NoMove,CX_BadMarks,CX_NoWay,CX_OtherGroup,CX_OtherWheel,CX_TooGreat,CX_NotKept,CX_BadSize,CX_Stranger,CX_NoUnit,CX_NoBack,CX_NotTogether]=(mS 15 4).map some)
  (nN:flagsOf K CX_NoWay [CX_NoPart,CX_NotSteady,CX_BadWheel,CX_NoMove,CX_BadMarks,CX_NoWay,CX_OtherGroup,CX_OtherWheel,CX_TooGreat,CX_NotKept,CX_BadSize,CX_Stranger,CX_NoUnit,CX_NoBack,CX_NotTogether]=(mS 15 5).map some)
  (eD:LX K LY "MOST_SPOKES" = some (some (.int 60 iK)))
  (fI:LX K LY "MOST_THINGS" = some (some (.int 23 iG)))
  (gJ:LX K LY "ValueError" = some none)
  (kf:LX K LY "all" = some none)
  (oV:LX K LY "any" = some none)
  (pN:LX K LY "bool" = some none)
  (qm:LX K LY "dict" = some none)
  (cZ:LX K LY "enumerate" = some none)
  (qJ:LX K LY "int" = some none)
  (bc:LX K LY "isinstance" = some none)
  (bz:LX K LY "len" = some none)
  (fj:LX K LY "list" = some none)
  (bp:LX K LY "range" = some none)
  (tQ:LX K LY "set" = some none)
  (ja:LX K LY "sorted" = some none)
  (qG:LX K LY "zip" = some none) :
  ∃ fd:M9,(∀ (s:LU) (v:Value),Rk s fd ⟨[v],[]⟩ [("_law_script",v)])/\∀ base:Heap,K.In base->base.Ns LY mg->aI l.prog w K mg base CX0 12 fa fd ["_law_script"] (zi K):=by
 have e:=hfa.symm.trans (LZ X G a53);cases e;have F1:=aX (st:=ig) l1 c1 k1;have b1:=F1.binds (ps:=["table"]) fun _ _ _ _ _ _ us hl=>by obtain ⟨a,rfl⟩:=kT hl;rfl
 have F2:=aX (st:=gU) l2 c2 k2;have b2:=F2.binds (ps:=["rows"]) fun _ _ _ _ _ _ us hl=>by obtain ⟨a,rfl⟩:=kT hl;rfl
 have F3:=aX (st:=dy) l3 c3 k3;have b3:=F3.binds (ps:=["rows"]) fun _ _ _ _ _ _ us hl=>by obtain ⟨a,rfl⟩:=kT hl;rfl
 have F4:=aX (st:=kB) l4 c4 k4;have b4:=F4.binds (ps:=["rows"]) fun _ _ _ _ _ _ us hl=>by obtain ⟨a,rfl⟩:=kT hl;rfl
 have F5:=aX (st:=gP) l5 c5 k5;have b5:=F5.binds (ps:=["rows","thing"]) fun _ _ _ _ _ _ us hl=>by obtain ⟨a,b,rfl⟩:=dX hl;rfl
 have F6:=aX (st:=ir) l6 c6 k6;have b6:=F6.binds (ps:=["rows","unit"]) fun _ _ _ _ _ _ us hl=>by obtain ⟨a,b,rfl⟩:=dX hl;rfl
 have F7:=aX (st:=kG) l7 c7 k7;have b7:=F7.binds (ps:=["rows","unit","thing"]) fun _ _ _ _ _ _ us hl=>by obtain ⟨a,b,c,rfl⟩:=mq hl;rfl
 have F8:=aX (st:=dO) l8 c8 k8;have b8:=F8.binds (ps:=["rows"]) fun _ _ _ _ _ _ us hl=>by obtain ⟨a,rfl⟩:=kT hl;rfl
 have F9:=aX (st:=nW) l9 c9 k9;have b9:=F9.binds (ps:=["group","thing"]) fun _ _ _ _ _ _ us hl=>by obtain ⟨a,b,rfl⟩:=dX hl;rfl
 have F10:=aX (st:=kL) l10 c10 k10;have b10:=F10.binds (ps:=["group"]) fun _ _ _ _ _ _ us hl=>by obtain ⟨a,rfl⟩:=kT hl;rfl
 have F11:=aX (st:=gA) l11 c11 k11;have b11:=F11.binds (ps:=["group","some"]) fun _ _ _ _ _ _ us hl=>by obtain ⟨a,b,rfl⟩:=dX hl;rfl
 have F12:=aX (st:=kF) l12 c12 k12;have b12:=F12.binds (ps:=["group","some"]) fun _ _ _ _ _ _ us hl=>by obtain ⟨a,b,rfl⟩:=dX hl;rfl
 have F13:=aX (st:=fh) l13 c13 k13;have b13:=F13.binds (ps:=["group","some"]) fun _ _ _ _ _ _ us hl=>by obtain ⟨a,b,rfl⟩:=dX hl;rfl
 have F14:=aX (st:=lV) l14 c14 k14;have b14:=F14.binds (ps:=["some"]) fun _ _ _ _ _ _ us hl=>by obtain ⟨a,rfl⟩:=kT hl;rfl
 have F15:=aX (st:=dM) l15 c15 k15;have b15:=F15.binds (ps:=["group","some"]) fun _ _ _ _ _ _ us hl=>by obtain ⟨a,b,rfl⟩:=dX hl;rfl
 have F16:=aX (st:=kP) l16 c16 k16;have b16:=F16.binds (ps:=["group","part"]) fun _ _ _ _ _ _ us hl=>by obtain ⟨a,b,rfl⟩:=dX hl;rfl
 have F17:=aX (st:=jd) l17 c17 k17;have b17:=F17.binds (ps:=["group","part","thing"]) fun _ _ _ _ _ _ us hl=>by obtain ⟨a,b,c,rfl⟩:=mq hl;rfl
 have F18:=aX (st:=eE) l18 c18 k18;have b18:=F18.binds (ps:=["group","part"]) fun _ _ _ _ _ _ us hl=>by obtain ⟨a,b,rfl⟩:=dX hl;rfl
 have F19:=aX (st:=lU) l19 c19 k19;have b19:=F19.binds (ps:=["group","part"]) fun _ _ _ _ _ _ us hl=>by obtain ⟨a,b,rfl⟩:=dX hl;rfl
 have F20:=aX (st:=ff) l20 c20 k20;have b20:=F20.binds (ps:=["many"]) fun _ _ _ _ _ _ us hl=>by obtain ⟨a,rfl⟩:=kT hl;rfl
 have F21:=aX (st:=kA) l21 c21 k21;have b21:=F21.binds (ps:=["group","spokes"]) fun _ _ _ _ _ _ us hl=>by obtain ⟨a,b,rfl⟩:=dX hl;rfl
 have F22:=aX (st:=eG) l22 c22 k22;have b22:=F22.binds (ps:=["part","marks","spokes"]) fun _ _ _ _ _ _ us hl=>by obtain ⟨a,b,c,rfl⟩:=mq hl;rfl
 have F23:=xo (st:=fG) l23 e23 c23 k23;have F24:=aX (st:=iO) l24 c24 k24;have b24:=F24.binds (ps:=["group","part","marks","spokes"]) fun _ _ _ _ _ _ us hl=>by obtain ⟨a,b,c,d,rfl⟩:=km hl;rfl
 have F25:=aX (st:=fw) l25 c25 k25;have b25:=F25.binds (ps:=["group","part"]) fun _ _ _ _ _ _ us hl=>by obtain ⟨a,b,rfl⟩:=dX hl;rfl
 have F26:=aX (st:=jD) l26 c26 k26;have b26:=F26.binds (ps:=["_law_script","_law_k"]) fun _ _ _ _ _ _ us hl=>by obtain ⟨a,b,rfl⟩:=dX hl;rfl
 have F27:=aX (st:=iR) l27 c27 k27;have b27:=F27.binds (ps:=["_law_one_here","_law_two"]) fun _ _ _ _ _ _ us hl=>by obtain ⟨a,b,rfl⟩:=dX hl;rfl
 have F28:=aX (st:=jH) l28 c28 k28;have b28:=F28.binds (ps:=["_law_sizes_here","_law_number"]) fun _ _ _ _ _ _ us hl=>by obtain ⟨a,b,rfl⟩:=dX hl;rfl
 have F29:=aX (st:=jy) l29 c29 k29;have b29:=F29.binds (ps:=["_law_many","_law_steps","_law_number"]) fun _ _ _ _ _ _ us hl=>by obtain ⟨a,b,c,rfl⟩:=mq hl;rfl
 have F30:=aX (st:=gR) l30 c30 k30;have b30:=F30.binds (ps:=["_law_place","_law_sizes_here","_law_kind_here","_law_units"]) fun _ _ _ _ _ _ us hl=>by obtain ⟨a,b,c,d,rfl⟩:=km hl;rfl
 have F31:=aX (st:=kK) l31 c31 k31;have b31:=F31.binds (ps:=["_law_one_here","_law_other","_law_sizes_here"]) fun _ _ _ _ _ _ us hl=>by obtain ⟨a,b,c,rfl⟩:=mq hl;rfl
 have F32:=aX (st:=iq) l32 c32 k32;have b32:=F32.binds (ps:=["_law_sizes_here","_law_turn","_law_end"]) fun _ _ _ _ _ _ us hl=>by obtain ⟨a,b,c,rfl⟩:=mq hl;rfl
 have F33:=aX (st:=iM) l33 c33 k33;have b33:=F33.binds (ps:=["_law_many","_law_number"]) fun _ _ _ _ _ _ us hl=>by obtain ⟨a,b,rfl⟩:=dX hl;rfl
 have F34:=aX (st:=eV) l34 c34 k34;have b34:=F34.binds (ps:=["_law_script","_law_start"]) fun _ _ _ _ _ _ us hl=>by obtain ⟨a,b,rfl⟩:=dX hl;rfl
 have F35:=aX (st:=iW) l35 c35 k35;have b35:=F35.binds (ps:=["_law_found"]) fun _ _ _ _ _ _ us hl=>by obtain ⟨a,rfl⟩:=kT hl;rfl
 have F36:=aX (st:=jk) l36 c36 k36;have b36:=F36.binds (ps:=["_law_table"]) fun _ _ _ _ _ _ us hl=>by obtain ⟨a,rfl⟩:=kT hl;rfl
 have F37:=aX (st:=iU) l37 c37 k37;have b37:=F37.binds (ps:=["_law_cell_here","_law_k","_law_many"]) fun _ _ _ _ _ _ us hl=>by obtain ⟨a,b,c,rfl⟩:=mq hl;rfl
 have F38:=aX (st:=eX) l38 c38 k38;have b38:=F38.binds (ps:=["_law_table"]) fun _ _ _ _ _ _ us hl=>by obtain ⟨a,rfl⟩:=kT hl;rfl
 have F39:=aX (st:=iN) l39 c39 k39;have b39:=F39.binds (ps:=["_law_table","_law_thing_here"]) fun _ _ _ _ _ _ us hl=>by obtain ⟨a,b,rfl⟩:=dX hl;rfl
 have F40:=aX (st:=fB) l40 c40 k40;have b40:=F40.binds (ps:=["_law_table","_law_some_here","_law_spokes_here","_law_cell_here"]) fun _ _ _ _ _ _ us hl=>by obtain ⟨a,b,c,d,rfl⟩:=km hl;rfl
 have F41:=aX (st:=hX) l41 c41 k41;have b41:=F41.binds (ps:=["_law_table","_law_cell_here"]) fun _ _ _ _ _ _ us hl=>by obtain ⟨a,b,rfl⟩:=dX hl;rfl
 have F42:=aX (st:=eJ) l42 c42 k42;have b42:=F42.binds (ps:=["_law_table","_law_some_here"]) fun _ _ _ _ _ _ us hl=>by obtain ⟨a,b,rfl⟩:=dX hl;rfl
 have F43:=aX (st:=iQ) l43 c43 k43;have b43:=F43.binds (ps:=["_law_met_here"]) fun _ _ _ _ _ _ us hl=>by obtain ⟨a,rfl⟩:=kT hl;rfl
 have F44:=aX (st:=ic) l44 c44 k44;have b44:=F44.binds (ps:=["_law_met_here","_law_name"]) fun _ _ _ _ _ _ us hl=>by obtain ⟨a,b,rfl⟩:=dX hl;rfl
 have F45:=aX (st:=gM) l45 c45 k45;have b45:=F45.binds (ps:=["_law_least","_law_cell_here"]) fun _ _ _ _ _ _ us hl=>by obtain ⟨a,b,rfl⟩:=dX hl;rfl
 have F46:=aX (st:=dH) l46 c46 k46;have b46:=F46.binds (ps:=["_law_table","_law_part","_law_cell_here"]) fun _ _ _ _ _ _ us hl=>by obtain ⟨a,b,c,rfl⟩:=mq hl;rfl
 have F47:=aX (st:=d9) l47 c47 k47;have b47:=F47.binds (ps:=["_law_marks","_law_spokes_here","_law_cell_here","_law_way"]) fun _ _ _ _ _ _ us hl=>by obtain ⟨a,b,c,d,rfl⟩:=km hl;rfl
 have F48:=aX (st:=jE) l48 c48 k48;have b48:=F48.binds (ps:=["_law_table","_law_least","_law_cell_here"]) fun _ _ _ _ _ _ us hl=>by obtain ⟨a,b,c,rfl⟩:=mq hl;rfl
 have F49:=aX (st:=gG) l49 c49 k49;have b49:=F49.binds (ps:=["_law_least","_law_spokes_here"]) fun _ _ _ _ _ _ us hl=>by obtain ⟨a,b,rfl⟩:=dX hl;rfl
 have F50:=aX (st:=jf) l50 c50 k50;have b50:=F50.binds (ps:=["_law_table","_law_least","_law_made_here"]) fun _ _ _ _ _ _ us hl=>by obtain ⟨a,b,c,rfl⟩:=mq hl;rfl
 have F51:=aX (st:=iY) l51 c51 k51;have b51:=F51.binds (ps:=["_law_group_here","_law_plain","_law_handed","_law_spokes_here","_law_way"]) fun _ _ _ _ _ _ us hl=>by obtain ⟨a,b,c,d,e,rfl⟩:=LB hl;rfl
 have F52:=aX (st:=kJ) l52 c52 k52;have b52:=F52.binds (ps:=["_law_caught","_law_due_here"]) fun _ _ _ _ _ _ us hl=>by obtain ⟨a,b,rfl⟩:=dX hl;rfl
 have F53:=aX (st:=mK) l53 c53 k53;have b53:=F53.binds (ps:=["_law_script"]) fun _ _ _ _ _ _ us hl=>by obtain ⟨a,rfl⟩:=kT hl;rfl
 have F54:=aX (st:=gS) l54 c54 k54;have b54:=F54.binds (ps:=["self","rows","unit","backs"]) fun _ _ _ _ _ _ us hl=>by obtain ⟨a,b,c,d,rfl⟩:=km hl;rfl
 have F55:=aX (st:=jF) l55 c55 k55;have b55:=F55.binds (ps:=["self","group","spokes","deeds"]) fun _ _ _ _ _ _ us hl=>by obtain ⟨a,b,c,d,rfl⟩:=km hl;rfl
 have F56:=aX (st:=iS) l56 c56 k56;have b56:=F56.binds (ps:=["self","thing"]) fun _ _ _ _ _ _ us hl=>by obtain ⟨a,b,rfl⟩:=dX hl;rfl
 have F57:=xo (st:=dP) l57 e57 c57 k57;have F58:=xo (st:=eB) l58 e58 c58 k58;have F59:=aX (st:=eA) l59 c59 k59;have b59:=F59.binds (ps:=["self","way","part"]) fun _ _ _ _ _ _ us hl=>by obtain ⟨a,b,c,rfl⟩:=mq hl;rfl
 have F60:=aX (st:=gC) l60 c60 k60;have b60:=F60.binds (ps:=["self","one","two"]) fun _ _ _ _ _ _ us hl=>by obtain ⟨a,b,c,rfl⟩:=mq hl;rfl
 let T:Txt K mg:={ jB:=⟨f1,_,F1,b1,LZ X G a1⟩,i9:=⟨f2,_,F2,b2,LZ X G a2⟩,eL:=⟨f3,_,F3,b3,LZ X G a3⟩,mY:=⟨f4,_,F4,b4,LZ X G a4⟩,jg:=⟨f5,_,F5,b5,LZ X G a5⟩,lr:=⟨f6,_,F6,b6,LZ X G a6⟩,mM:=⟨f7,_,F7,b7,LZ X G a7⟩,fk:=⟨f8,_,F8,b8,LZ X G a8⟩,qh:=⟨f9,_,F9,b9,LZ X G a9⟩,nR:=⟨f10,_,F10,b10,LZ X G a10⟩,bP:=⟨f11,_,F11,b11,LZ X G a11⟩,fS:=⟨f12,_,F12,b12,LZ X G a12⟩,dg:=⟨f13,_,F13,b13,LZ X G a13⟩,ju:=⟨f14,_,F14,b14,LZ X G a14⟩,bY:=⟨f15,_,F15,b15,LZ X G a15⟩,qe:=⟨f16,_,F16,b16,LZ X G a16⟩,mU:=⟨f17,_,F17,b17,LZ X G a17⟩,iL:=⟨f18,_,F18,b18,LZ X G a18⟩,jG:=⟨f19,_,F19,b19,LZ X G a19⟩,cF:=⟨f20,_,F20,b20,LZ X G a20⟩,cJ:=⟨f21,_,F21,b21,LZ X G a21⟩,cR:=⟨f22,_,F22,b22,LZ X G a22⟩,bU:=⟨f23,_,F23,fun s us KI hl=>match us,hl with | [_,_,_,_],_=>F23.to KI fun _ _ _ _ _ _ _=>⟨_,rfl,rfl⟩,qL rfl fun s us KI hl=>match us,hl with | [_,_,_],_=>F23.to KI fun _ _ _ _ _ _ _=>⟨_,rfl,rfl⟩,qS rfl fun s us w KI hl=>match us,hl with | [_,_,_],_=>F23.to KI fun _ _ _ _ _ _ _=>⟨_,rfl,rfl⟩,LZ X G a23⟩,de:=⟨f24,_,F24,b24,LZ X G a24⟩,jn:=⟨f25,_,F25,b25,LZ X G a25⟩,ik:=⟨f26,_,F26,b26,LZ X G a26⟩,jZ:=⟨f27,_,F27,b27,LZ X G a27⟩,lA:=⟨f28,_,F28,b28,LZ X G a28⟩,lC:=⟨f29,_,F29,b29,LZ X G a29⟩,jq:=⟨f30,_,F30,b30,LZ X G a30⟩,kR:=⟨f31,_,F31,b31,LZ X G a31⟩,kZ:=⟨f32,_,F32,b32,LZ X G a32⟩,jY:=⟨f33,_,F33,b33,LZ X G a33⟩,jV:=⟨f34,_,F34,b34,LZ X G a34⟩,iV:=⟨f35,_,F35,b35,LZ X G a35⟩,gX:=⟨f36,_,F36,b36,LZ X G a36⟩,eT:=⟨f37,_,F37,b37,LZ X G a37⟩,jX:=⟨f38,_,F38,b38,LZ X G a38⟩,jW:=⟨f39,_,F39,b39,LZ X G a39⟩,je:=⟨f40,_,F40,b40,LZ X G a40⟩,lg:=⟨f41,_,F41,b41,LZ X G a41⟩,fJ:=⟨f42,_,F42,b42,LZ X G a42⟩,j5:=⟨f43,_,F43,b43,LZ X G a43⟩,kU:=⟨f44,_,F44,b44,LZ X G a44⟩,jm:=⟨f45,_,F45,b45,LZ X G a45⟩,gN:=⟨f46,_,F46,b46,LZ X G a46⟩,dj:=⟨f47,_,F47,b47,LZ X G a47⟩,lG:=⟨f48,_,F48,b48,LZ X G a48⟩,gE:=⟨f49,_,F49,b49,LZ X G a49⟩,mX:=⟨f50,_,F50,b50,LZ X G a50⟩,jU:=⟨f51,_,F51,b51,LZ X G a51⟩,m6:=⟨f52,_,F52,b52,LZ X G a52⟩,yY:=⟨fa,_,F53,b53,LZ X G a53⟩,aS:=C54,tU:=f54,ui:=_,kE:=⟨pg54,hd54,po54,sa54⟩,CC:=LZ X G aC54,Cu:=⟨mk54,a54,i54,kc54⟩,Cy:=F54,B8:=b54,nY:=n54_many,ow:=n54_rows,oM:=n54_unit,rF:=n54_backs,i4:=C55,vd:=f55,zq:=_,K9:=⟨pg55,hd55,po55,sa55⟩,tN:=LZ X G aC55,K7:=⟨mk55,a55,i55,kc55⟩,Ih:=F55,ud:=b55,tS:=⟨ug55,ur55,uf55,k55⟩,BW:=n55_group,AE:=n55_spokes,DF:=n55_size,Bt:=n55_deeds,eZ:=f56,mH:=_,BM:=⟨a56,i56,k56⟩,uv:=F56,pC:=b56,bR:=C57,kS:=f57,gW:=_,sD:=⟨pg57,hd57,po57,sa57⟩,tD:=LZ X G aC57,sY:=⟨mk57,a57,i57,kc57⟩,sk:=F57,yo:=fun s us KI hl=>match us,hl with | [_,_,_],_=>F57.to KI fun _ _ _ _ _ _ _=>⟨_,rfl,rfl⟩,wb:=qL rfl fun s us KI hl=>match us,hl with | [_,_],_=>F57.to KI fun _ _ _ _ _ _ _=>⟨_,rfl,rfl⟩,DV:=qS rfl fun s us w KI hl=>match us,hl with | [_,_],_=>F57.to KI fun _ _ _ _ _ _ _=>⟨_,rfl,rfl⟩,o7:=⟨v57_moves,i56,k56⟩,oW:=n57_group,n0:=n57_spokes,pP:=n57_size,ph:=n57_deeds,bo:=C58,lQ:=f58,jo:=_,oC:=⟨pg58,hd58,po58,sa58⟩,Av:=LZ X G aC58,zR:=⟨mk58,a58,i58,kc58⟩,uG:=F58,An:=fun s us KI hl=>match us,hl with | [_,_,_,_,_],_=>F58.to KI fun _ _ _ _ _ _ _=>⟨_,rfl,rfl⟩,ES:=qL rfl fun s us KI hl=>match us,hl with | [_,_,_,_],_=>F58.to KI fun _ _ _ _ _ _ _=>⟨_,rfl,rfl⟩,EV:=qS rfl fun s us w KI hl=>match us,hl with | [_,_,_,_],_=>F58.to KI fun _ _ _ _ _ _ _=>⟨_,rfl,rfl⟩,ql:=⟨v58_moves,i56,k56⟩,rf:=n58_part,p9:=n58_marks,pZ:=n58_group,oQ:=n58_spokes,rj:=n58_size,qf:=n58_deeds,ck:=C59,mn:=f59,lH:=_,uM:=⟨pg59,hd59,po59,sa59⟩,zC:=LZ X G aC59,zH:=⟨mk59,a59,i59,kc59⟩,uI:=F59,zO:=b59,qa:=⟨v59_moves,i56,k56⟩,qg:=n59_group,oP:=n59_spokes,rK:=n59_size,qz:=n59_deeds,bV:=CX_NoWay,tR:=f60,tZ:=_,xk:=LZ X G aX_NoWay,kQ:=⟨ob60,a60,i60,sa60,hd60,ov60,kc60⟩,CD:=F60,Cj:=b60,mJ:=n60_one,mI:=n60_two,bx:=CX_NoPart,u9:=LZ X G aX_NoPart,ba:=CX_BadWheel,nv:=LZ X G aX_BadWheel,bq:=CX_BadMarks,nG:=LZ X G aX_BadMarks,fU:=CX_BookError,uz:=LZ X G aX_BookError,cY:=CX_NotSteady,uD:=LZ X G aX_NotSteady,fY:=CX_NoMove,Bd:=LZ X G aX_NoMove,cN:=CX_OtherGroup,rT:=LZ X G aX_OtherGroup,cP:=CX_OtherWheel,rP:=LZ X G aX_OtherWheel,dR:=CX_TooGreat,wg:=LZ X G aX_TooGreat,eU:=CX_NotKept,xM:=LZ X G aX_NotKept,eW:=CX_BadSize,xA:=LZ X G aX_BadSize,dQ:=CX_Stranger,vo:=LZ X G aX_Stranger,fX:=CX_NoUnit,AQ:=LZ X G aX_NoUnit,fW:=CX_NoBack,zy:=LZ X G aX_NoBack,cB:=CX_NotTogether,rH:=LZ X G aX_NotTogether,lW:=lW,lM:=lM,ip:=ip,jM:=jM,hZ:=hZ,jx:=jx,iT:=iT,w_get:=w_get,vO:=vO,qi:=qi,pL:=pL,qu:=qu,pO:=pO,qv:=qv,pW:=pW,qc:=qc,pU:=pU,qt:=qt,ku:=ku,iz:=iz,jN:=jN,nX:=nX,lI:=lI,jC:=jC,jt:=jt,nQ:=nQ,md:=md,jw:=jw,jK:=jK,nN:=nN,iK:=iK,eD:=LZ X G eD,iG:=iG,fI:=LZ X G fI,gJ:=M8 X G gJ,kf:=M8 X G kf,oV:=M8 X G oV,pN:=M8 X G pN,qm:=M8 X G qm,cZ:=M8 X G cZ,qJ:=M8 X G qJ,bc:=M8 X G bc,bz:=M8 X G bz,fj:=M8 X G fj,bp:=M8 X G bp,tQ:=M8 X G tQ,ja:=M8 X G ja,qG:=M8 X G qG }
 exact ⟨Mc "law" "law" (aJ mK) (aG mK) (ag mK) .none kV53 dc53 pm53 an53 cd53 ct53,fun s v=>.of_eq rfl,fun base _ _=>J2 T⟩
theorem walk {l:RY} {q:Ms} {loose:List Str} {XP:(Str->Option Value)->Heap->Prop} {YP:World->Heap->Prop} {d:DefRec} {K:Params->LM} (hn:l.most=some 63) (hdf:d.params.defaults=[])
  (hY:∀ (w:World) (h:Heap),YP w h->(K w.params).In h)
  (F:∀ (w:World) (mg:Str->Option Value) (fa:Addr) (h:Heap),(K w.params).In h->h.Ns LY mg->mg d.name=some (.ref fa) ->
   ∃ fd:M9,(∀ (s:LU) (u:Value),Rk s fd ⟨[u],[]⟩ [("_law_script",u)])/\∀ base:Heap,(K w.params).In base->base.Ns LY mg->aI l.prog w (K w.params) mg base CX0 12 fa fd ["_law_script"] (zi (K w.params))) :
  PySem.W.WalkO q loose XP YP l.row.toRowW d [] (fun f vs=>PySem.call f vs) :=
 L2.IG (n:=63) (k:=12) (x:="_law_script") (CX:=fun _=>CX0) (sp:=fun w=>zi (K w.params)) hn (by decide) hdf ⟨rfl,by decide,by decide⟩ hY F (fun _ _ a ns hl _ hS=>⟨a,ns,rfl,hS,hl,fun _=>rfl⟩) fun _ _ _ _ _ z=>z
end TB
namespace PySem.W.Fast
def tw6242300517074083352:=0
def tw8887933856894031620:=0
def tw14627662216174924679:=0
def tw8546685242227342395:=0
def tw7384827697360205876:=0
def tw18407939801042715909:=0
def tw15349127309266134839:=0
def tw6824610099887347053:=0
def tw9704640784993545299:=0
def tw7498161763849320866:=0
def tw7420132189661148952:=0
def tw7950407883631202557:=0
def tw8190321214850810606:=0
def tw16860433938588083093:=0
def tw9520461691012691493:=0
def tw4340017684875407829:=0
def tw13734713177344180877:=0
def tw2096849378823673526:=0
def tw15070146177958731390:=0
def tw7382314063584089566:=0
def tw13291700685288635935:=0
def tw4495883774902461396:=0
def tw6144698794303416114:=0
def tw8080140659095688566:=0
def tw18181978949345891048:=0
def tw2964470609009407901:=0
def tw11476831083258475452:=0
def tw7581004492316736191:=0
def tw17077074260741825308:=0
def tw4988546898685037661:=0
def tw13742807154893511119:=0
def tw5409507290468711481:=0
def tw4932821038432253540:=0
def tw15304484048280094907:=0
def tw18359310691408997371:=0
def tw5844950590142665558:=0
def tw16290882137795970563:=0
def tw10510517721910552042:=0
def tw15808907803700266202:=0
def tw9473974347454956027:=0
def tw9542465348404269674:=0
def tw12590278342548585113:=0
def tw5060326209323335319:=0
def tw4775429051572925811:=0
def tw11770588306609008327:=0
def tw4089126426512986031:=0
def tw2741255404984795052:=0
def tw13042598465662895952:=0
def tw15534341899253164186:=0
def tw11211802048021350969:=0
def tw13304072617798567367:=0
def tw8008936032038238928:=0
def tw16286415133683132235:=0
def tw4306517196066896366:=0
def tw7080990013844091541:=0
def tw3835480480747973410:=0
def tw7377376528004123458:=0
def tw7338777479726794251:=0
def tw2946686548050935550:=0
def tw9862791848648990602:=0
def tw8800538254552386088:=0
def tw1854432512322258376:=0
def tw6139903048835816506:=0
def tw7810315876712481587:=0
def tw6628717082241766791:=0
def tw3602055714635029629:=0
def tw15383491783138778807:=0
def tw14354001573539464161:=0
def tw926774590953172583:=0
def tw1326506333111862918:=0
def tw2708174455996352747:=0
def tw1151856498015670733:=0
def tw2482651810369822007:=0
def tw8567612480421331266:=0
def tw14747335405321418153:=0
def tw17633970247369581689:=0
def tw7839366756607970733:=0
def tw16156655873441111964:=0
def tw17978983717785487888:=0
def tw18331907546296498066:=0
def tw16469149469425724667:=0
def tw11572423317051999151:=0
def tw1132731393265052258:=0
def tw5334443043278918176:=0
def tw5321617690341578564:=0
def tw11505819395760475200:=0
def tw3111976536381998423:=0
def tw15029813808741956530:=0
def tw12770199868495370841:=0
def tw6760159016328894078:=0
def tw3774536233433052716:=0
def tw3802977169736781322:=0
def tw6359715085743820869:=0
def tw2399159965355557507:=0
def tw11186552810361811747:=0
def tw15596486444375639162:=0
def tw6003433581002633342:=0
def tw12049146600750941339:=0
def tw3007172650802475489:=0
def tw16589238352340280232:=0
def tw4418900837433475173:=0
def tw15188706378177091457:=0
def tw10907163822918946714:=0
def tw6262382591170136756:=0
def tw13955961163859233906:=0
def tw14168154289171676537:=0
def tw4495533631515123255:=0
def tw12792910001554665848:=0
def tw14321106787459021013:=0
def tw766721434958394806:=0
def tw18086427059591334585:=0
def tw17848704815754948472:=0
def tw12145806282023154615:=0
def tw13620510594539921922:=0
def tw18220982865762070075:=0
def tw10161542898709266620:=0
def tw866993320446814729:=0
def tw8274132520501586202:=0
def tw13300929459616668163:=0
def tw12741603131730355515:=0
def tw7331750906468201397:=0
def tw3919953918558492370:=0
def tw7524222114492667913:=0
def tw644209955866843747:=0
def tw16675035527612227216:=0
def tw3286532335736875559:=0
def tw15616159481931013070:=0
def tw7903064758709341815:=0
def tw5696469436679664980:=0
def tw5541682879255090438:=0
def tw14935656874427953863:=0
def tw8142205695974558363:=0
def tw2559128224225234750:=0
def tw5404552313199493284:=0
def tw292380420409436508:=0
def tw263711320192664279:=0
def tw1118965303897772711:=0
def tw11710715701193616700:=0
def tw12718383389720752898:=0
def tw11500555582866874526:=0
def tw13729883608816224498:=0
def tw4850731116129038599:=0
def tw14767644958151091239:=0
def tw15394205782090308933:=0
def tw1341806958620527352:=0
def tw8418424183660298597:=0
def tw1709361025543127381:=0
def tw15674290474400375838:=0
def tw7374934212485777473:=0
def tw5991984825080387499:=0
def tw1170872274134638831:=0
def tw18171506455446895271:=0
def tw13161736362571962041:=0
def tw18055516748316668274:=0
def tw10182465112497070351:=0
def tw13084908679001579406:=0
def tw5126873136993149002:=0
def tw11001808376196262349:=0
def tw154485569589617557:=0
def tw2189936545560506156:=0
def tw1352609520976211663:=0
def tw16574710336079289822:=0
def tw6572799480501204659:=0
def tw11260510582592236503:=0
def tw365411090906606867:=0
def tw7209955061622201583:=0
def tw3876534710901368335:=0
def tw2083983752579838086:=0
def tw9915158948261811309:=0
def tw8284519637118492403:=0
def tw2251046302786381813:=0
def tw12225252223986339258:=0
def tw12567914531936904634:=0
def tw17129425895326588089:=0
def tw15339814731301951276:=0
def tw9337638586620014319:=0
def tw14537455617682152429:=0
def tw9226804828051033703:=0
def tw5866337794479918094:=0
def tw9215604685598838020:=0
def tw15194763827159770772:=0
def tw4260757895253583300:=0
def tw14036798269051223291:=0
def tw15317695499205724988:=0
def tw13646713959344672787:=0
def tw96229245092693982:=0
def tw9391068802519583334:=0
def tw1818718805486878283:=0
def tw5444130019130795890:=0
def tw13407406239138182287:=0
def tw12096010980028194166:=0
def tw2592171338697896666:=0
def tw5229496008465025357:=0
def tw9792797746026369148:=0
def tw6166823769763440189:=0
def tw4612346759072969062:=0
def tw13074290812800616147:=0
def tw4741184323364201079:=0
end PySem.W.Fast
open PySem PySem.W PyProof.Rows
set_option maxRecDepth 100000 in
set_option maxHeartbeats 0 in
theorem PySem.Challenge.cw_tracebook_k46_refused_lifts_holds : PySem.Challenge.rw_tracebook_k46_refused_lifts.Holds := by
 w_on;o_law;k_head;(case hw=>w_witness2)
 k_fill
 refine TB.walk (l:=PySem.Challenge.rw_tracebook_k46_refused_lifts) rfl rfl (fun w h Y=>PySem.W.kIn_of Y) ?F
 case F =>
  intro w mg fa h KX G hmg
  refine' TB.all_mk KX G hmg ?a1 ?l1 ?c1 ?k1 ?a2 ?l2 ?c2 ?k2 ?a3 ?l3 ?c3 ?k3 ?a4 ?l4 ?c4 ?k4 ?a5 ?l5 ?c5 ?k5 ?a6 ?l6 ?c6 ?k6 ?a7 ?l7 ?c7 ?k7 ?a8 ?l8 ?c8 ?k8 ?a9 ?l9 ?c9 ?k9 ?a10 ?l10 ?c10 ?k10 ?a11 ?l11 ?c11 ?k11 ?a12 ?l12 ?c12 ?k12 ?a13 ?l13 ?c13 ?k13 ?a14 ?l14 ?c14 ?k14 ?a15 ?l15 ?c15 ?k15 ?a16 ?l16 ?c16 ?k16 ?a17 ?l17 ?c17 ?k17 ?a18 ?l18 ?c18 ?k18 ?a19 ?l19 ?c19 ?k19 ?a20 ?l20 ?c20 ?k20 ?a21 ?l21 ?c21 ?k21 ?a22 ?l22 ?c22 ?k22 ?a23 ?l23 ?c23 ?k23 ?e23 ?a24 ?l24 ?c24 ?k24 ?a25 ?l25 ?c25 ?k25 ?a26 ?l26 ?c26 ?k26 ?a27 ?l27 ?c27 ?k27 ?a28 ?l28 ?c28 ?k28 ?a29 ?l29 ?c29 ?k29 ?a30 ?l30 ?c30 ?k30 ?a31 ?l31 ?c31 ?k31 ?a32 ?l32 ?c32 ?k32 ?a33 ?l33 ?c33 ?k33 ?a34 ?l34 ?c34 ?k34 ?a35 ?l35 ?c35 ?k35 ?a36 ?l36 ?c36 ?k36 ?a37 ?l37 ?c37 ?k37 ?a38 ?l38 ?c38 ?k38 ?a39 ?l39 ?c39 ?k39 ?a40 ?l40 ?c40 ?k40 ?a41 ?l41 ?c41 ?k41 ?a42 ?l42 ?c42 ?k42 ?a43 ?l43 ?c43 ?k43 ?a44 ?l44 ?c44 ?k44 ?a45 ?l45 ?c45 ?k45 ?a46 ?l46 ?c46 ?k46 ?a47 ?l47 ?c47 ?k47 ?a48 ?l48 ?c48 ?k48 ?a49 ?l49 ?c49 ?k49 ?a50 ?l50 ?c50 ?k50 ?a51 ?l51 ?c51 ?k51 ?a52 ?l52 ?c52 ?k52 ?a53 ?l53 ?c53 ?k53 ?aC54 ?a54 ?i54 ?l54 ?c54 ?k54 ?pg54 ?hd54 ?po54 ?sa54 ?mk54 ?kc54 ?n54_many ?n54_rows ?n54_unit ?n54_backs ?aC55 ?a55 ?i55 ?l55 ?c55 ?k55 ?pg55 ?hd55 ?po55 ?sa55 ?mk55 ?kc55 ?ug55 ?ur55 ?uf55 ?n55_group ?n55_spokes ?n55_size ?n55_deeds ?a56 ?i56 ?l56 ?c56 ?k56 ?aC57 ?a57 ?i57 ?l57 ?c57 ?k57 ?pg57 ?hd57 ?po57 ?sa57 ?mk57 ?kc57 ?e57 ?v57_moves ?n57_group ?n57_spokes ?n57_size ?n57_deeds ?aC58 ?a58 ?i58 ?l58 ?c58 ?k58 ?pg58 ?hd58 ?po58 ?sa58 ?mk58 ?kc58 ?e58 ?v58_moves ?n58_part ?n58_marks ?n58_group ?n58_spokes ?n58_size ?n58_deeds ?aC59 ?a59 ?i59 ?l59 ?c59 ?k59 ?pg59 ?hd59 ?po59 ?sa59 ?mk59 ?kc59 ?v59_moves ?n59_group ?n59_spokes ?n59_size ?n59_deeds ?aX_NoWay ?a60 ?i60 ?l60 ?c60 ?k60 ?hd60 ?sa60 ?kc60 ?ob60 ?ov60 ?n60_one ?n60_two ?aX_NoPart ?aX_BadWheel ?aX_BadMarks ?aX_BookError ?aX_NotSteady ?aX_NoMove ?aX_OtherGroup ?aX_OtherWheel ?aX_TooGreat ?aX_NotKept ?aX_BadSize ?aX_Stranger ?aX_NoUnit ?aX_NoBack ?aX_NotTogether ?lW ?lM ?ip ?jM ?hZ ?jx ?iT ?w_get ?vO ?qi ?pL ?qu ?pO ?qv ?pW ?qc ?pU ?qt ?ku ?iz ?jN ?nX ?lI ?jC ?jt ?nQ ?md ?jw ?jK ?nN ?eD ?fI ?gJ ?kf ?oV ?pN ?qm ?cZ ?qJ ?bc ?bz ?fj ?bp ?tQ ?ja ?qG
  (case a1|l1|c1|k1|a2|l2|c2|k2|a3|l3|c3|k3|a4|l4|c4|k4|a5|l5|c5|k5|a6|l6|c6|k6|a7|l7|c7|k7|a8|l8|c8|k8|a9|l9|c9|k9|a10|l10|c10|k10|a11|l11|c11|k11|a12|l12|c12|k12|a13|l13|c13|k13|a14|l14|c14|k14|a15|l15|c15|k15|a16|l16|c16|k16|a17|l17|c17|k17|a18|l18|c18|k18|a19|l19|c19|k19|a20|l20|c20|k20|a21|l21|c21|k21|a22|l22|c22|k22|a23|l23|c23|k23|e23|a24|l24|c24|k24|a25|l25|c25|k25|a26|l26|c26|k26|a27|l27|c27|k27|a28|l28|c28|k28|a29|l29|c29|k29|a30|l30|c30|k30|a31|l31|c31|k31|a32|l32|c32|k32|a33|l33|c33|k33|a34|l34|c34|k34|a35|l35|c35|k35|a36|l36|c36|k36|a37|l37|c37|k37|a38|l38|c38|k38|a39|l39|c39|k39|a40|l40|c40|k40|a41|l41|c41|k41|a42|l42|c42|k42|a43|l43|c43|k43|a44|l44|c44|k44|a45|l45|c45|k45|a46|l46|c46|k46|a47|l47|c47|k47|a48|l48|c48|k48|a49|l49|c49|k49|a50|l50|c50|k50|a51|l51|c51|k51|a52|l52|c52|k52|a53|l53|c53|k53|aC54|a54|i54|l54|c54|k54|pg54|hd54|po54|sa54|mk54|kc54|n54_many|n54_rows|n54_unit|n54_backs|aC55|a55|i55|l55|c55|k55|pg55|hd55|po55|sa55|mk55|kc55|ug55|ur55|uf55|n55_group|n55_spokes|n55_size|n55_deeds|a56|i56|l56|c56|k56|aC57|a57|i57|l57|c57|k57|pg57|hd57|po57|sa57|mk57|kc57|e57|v57_moves|n57_group|n57_spokes|n57_size|n57_deeds|aC58|a58|i58|l58|c58|k58|pg58|hd58|po58|sa58|mk58|kc58|e58|v58_moves|n58_part|n58_marks|n58_group|n58_spokes|n58_size|n58_deeds|aC59|a59|i59|l59|c59|k59|pg59|hd59|po59|sa59|mk59|kc59|v59_moves|n59_group|n59_spokes|n59_size|n59_deeds|aX_NoWay|a60|i60|l60|c60|k60|hd60|sa60|kc60=>k_is)
  (case ob60|ov60=>kernel_rfl)
  (case n60_one|n60_two|aX_NoPart|aX_BadWheel|aX_BadMarks|aX_BookError|aX_NotSteady|aX_NoMove|aX_OtherGroup|aX_OtherWheel|aX_TooGreat|aX_NotKept|aX_BadSize|aX_Stranger|aX_NoUnit|aX_NoBack|aX_NotTogether=>k_is)
  (case lW=>kernel_rfl)
  (case lM=>(refine' ⟨?_,?_,?_,?_,?_,?_,?_,?_⟩ <;> k_is))
  (case ip=>kernel_rfl)
  (case jM=>(refine' ⟨?_,?_,?_,?_,?_,?_,?_,?_⟩ <;> k_is))
  (case hZ=>kernel_rfl)
  (case jx=>(refine' ⟨?_,?_,?_,?_,?_,?_,?_,?_⟩ <;> k_is))
  (case iT=>(refine' ⟨?_,?_,?_,?_,?_,?_,?_,?_⟩ <;> k_is))
  (case w_get|vO|qi|pL|qu|pO|qv|pW|qc|pU|qt|ku|iz|jN|nX|lI|jC|jt|nQ|md|jw|jK|nN=>kernel_rfl)
  (case eD|fI|gJ|kf|oV|pN|qm|cZ|qJ|bc|bz|fj|bp|tQ|ja|qG=>k_is)
