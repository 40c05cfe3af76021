import PyProof.Rows.All
import Wide.All
import OpenK.AllK
import Wide.FinOn
import Lean
import PyProof.EqAt
import PyProof.EqKinds
import PyProof.TupleCall
import PyProof.NeKinds
import PySem.Challenge.RW_tracebook_k47_ways_that_do_not_go_togeth
local macro_rules | `(tactic| trivial) => `(tactic| decide +kernel)
theorem SH {α:Type} {a:α} {q:Prop}:a=a\/q:=Or.inl rfl
open Array renaming length_toList->MP,getElem?_eq_getElem->MX,getElem?_toList->Nd,getElem?_eq_some_iff->Nw,getD_eq_getD_getElem?->NS,getElem?_eq_none->Oi
open Bool renaming false_ne_true->Mo,eq_iff_iff->NP,and_eq_true->Oc,not_eq_true'->PJ,false_eq_true->Qq
open Classical renaming byContradiction->N4,not_forall->O0,not_imp->PN
open False renaming elim->Nk
open ForInStep renaming yield->OQ
open Int renaming toNat_natCast->NL,add_mul_emod_self_left->Ql,toNat->QD,emod_nonneg->RO,toNat_of_nonneg->Sf,zero_add->Sx
open Int.ofNat renaming inj->QY
open List renaming getElem?_eq_getElem->LO,length_map->LP,getElem?_eq_some_iff->LR,mem_of_getElem?->LS,range->LZ,getD_eq_getElem?_getD->L6,mem_range->L9,mem_singleton->Ma,getElem?_map->Mc,mem_cons_of_mem->Me,mem_map->Mg,mem_cons_self->Mj,length_append->Mm,replicate->Mq,length_range->Mt,length_take->Mu,mem_cons->Mv,size_toArray->Mw,all_eq_true->Mx,getElem?_append_right->MA,getElem?_append_left->MB,take_of_length_le->MC,mem_append->MD,take_add_one->MG,mem_append_right->MJ,length_pos_iff->ML,map_append->MM,map_cons->MO,length_cons->MQ,nodup_cons->M9,idxOf_lt_length_of_mem->Nc,lookup_cons->Ng,take_length->Nh,getElem_mem->Ni,mem_append_left->Nm,mem_filter->Nq,getElem?_eq_none->Nr,getElem?_of_mem->Ny,getElem?_set_self->Nz,pairwise_iff_getElem->NA,getElem?_range->NG,getElem?_take_of_lt->NK,pairwise_cons->NQ,getElem?_set_ne->NT,filterMap_cons->NX,map_map->N7,nodup_range->Om,mem_flatten->Oo,lookup_append->Ot,length_filter_le->Ov,find?_cons->Oz,replicate_succ->OG,getElem_idxOf->OM,pairwise_map->OU,mem_of_mem_drop->OX,mem_of_mem_take->OY,replicate_succ'->O1,append_nil->Pd,any_cons->Pe,range_succ->Pp,filter_cons_of_neg->Pq,ne_nil_of_mem->Pr,pairwise_lt_range->Pu,any_eq_false->Py,lookup->Pz,flatten_cons->PB,append_assoc->PD,nodup_append->PF,length_replicate->PU,take_append_drop->PZ,getElem_inj->P0,length_drop->P1,not_mem_nil->P2,length->Qb,length_set->Qc,map_id->Qd,getElem_of_mem->Qf,perm_ext_iff_of_nodup->Qk,nodup_nil->Qs,ext_getElem?->Qz,idxOf_lt_length_iff->QC,find?_range_eq_some->QG,find?_range_eq_none->QI,flatMap_cons->QL,eq_of_mem_replicate->QM,all_eq_false->QN,getElem?_replicate->QV,all_cons->QW,length_eq_zero_iff->QZ,filter_cons_of_pos->Q6,any_eq_true->Rb,getElem_map->Rc,perm_middle->Rg,mem_flatMap->Ri,length_pos_of_mem->Rq,of_mem_zip->Rx,length_singleton->Rz,forIn_cons->RB,length_nil->RC,pairwise_append->RU,mem_iff_getElem->RW,map_congr_left->R6,filter_sublist->Sb,flatten_append->Sd,flatMap_append->Se
open List.Pairwise renaming nil->Qy,filter->RV
open Nat renaming le_refl->Mh,lt_of_lt_of_le->Mi,ne_of_lt->Mn,mod_lt->My,lt_or_ge->MN,le_trans->M4,mul_le_mul_left->M5,zero_le->M7,mod_eq_of_lt->M8,lt_of_le_of_lt->Na,div_lt_of_lt_mul->Nn,lt_irrefl->Nt,add_mul_mod_self_left->NB,div_eq_of_lt->NF,mul_pos->NI,add_mul_div_left->NV,lt_succ_of_lt->N1,lt_trichotomy->N2,le_of_lt->N5,eq_of_beq_eq_true->N9,lt_succ_self->Ob,beq->Oj,add_comm->Oq,zero_add->Ou,add_zero->OD,mul_succ->OE,le_succ->OF,mul_comm->OP,div_add_mod->OS,le_add_right->O3,div_pos->O4,ne_of_gt->O6,mul_zero->O9,mod_self->Pa,add_mod_mod->Po,dvd_of_mod_eq_zero->Pw,mul_left_comm->PM,succ_mul->PV,lt_trans->PY,mul_le_mul_right->P5,min_eq_left->Qe,eq_zero_or_pos->Qo,add_sub_of_le->QJ,mul_mod_right->QK,add_assoc->Q3,mul_add->Q4,mul_assoc->Q5,le_of_not_lt->Ra,div_div_eq_div_mul->Rp,le_mul_of_pos_left->Rr,le_of_eq->Rv,mod_add_div->RL,zero_div->RM,zero_mod->RN,mul_div_le->R1,sub_self->Sy
open Ne renaming symm->NY
open Option renaming getD_some->OI,map_some->Qg,isSome_iff_exists->Qx,map_eq_some_iff->Rn
open Option.some renaming inj->MK
open Or renaming inl->Mb,inr->PX
open PyProof.Rows renaming boot_isinstance->Mr,boot_list->M1,callWith_type1->NO,boot_all->Oa,boot_sorted->Pb,boot_range->Pt,assignInOrder_cons->Qm,AllBare->QQ,IntsAre->QX,subscriptTail_builtinR->Rk,boot_any->RP,boot_min->RQ,Constant_none->Sg
open PyProof.Rows.F renaming plain_set_update_loop->Pn,entry_set_update_loop->Q2
open PySem renaming wpAny_bind->LQ,Shared->LU,mainGlobals->LX,wpAny_pure->Md,Program->Mp,boot_len->Ms,sizeLine->MF,Around->MR,starEach->MU,mem_of_lookup->MW,FuncData->MZ,wpAny_mono->Nj,wpAny_holding->Np,Paired->Nv,sizeLine_eq->Nx,SetTable->NR,wpAny_newObj_type->NZ,codeAny_builtin->N8,wpAny_truthy_bool->Od,wpAny_field->Oh,wpAny_call_entry->Ol,wpAny_passesOwn->Ox,wpAny_setState_of->OC,wpAny_callSpecial?_slot->OH,wpAny_Call_Name_kw->OK,wpAny_execs_nil->ON,codeAny_mono->OO,NameKind->OT,Builtin->OZ,wpAny_comprehension_free->O8,wpAny_attempt->Ph,wpAny_setField_rec->Pk,plainId_quiet->Pl,wpAny_pyIter_list->Px,GenState->PQ,codeAny_call_builtin->P4,ExceptHandler->P6,call_meets->P9,ZipApart->Qn,wpAny_standAt->QR,BindsTo->QU,wpAny_execs_cons->Q8,Result->Q9,wpAny_isInstance->Rf,wpAny_askSetting->Rh,codeAny_compStart_list->Rl,richCompare_meets_room->Rm,wpAny_nextOf_list_item->Ro,wpAny_isTrue_Compare1->Rt,Keyword->Rw,pushCells_keeps->RD,wpAny_typeOf->RI,builtinLookup_eq_fast->RK,intKind_is->RS,wpAny_setField->RX,entryFor_alias->RY,wpAny_seqItems->RZ,wpAny_rule->Sm,wpAny_call->Sn,Within->Ss,seqIndex_neg->Sw,IsPair->Sz,seqIndex_of->SE,putSet_of->SF
open PySem.Around renaming under_plainId->NU,under->Su
open PySem.Builtin.Dict renaming updateFrom->Q0
open PySem.Builtin.List renaming listTooLong->Oy,listExtendWith->Qi,listSameRef->QF
open PySem.Builtin.Range renaming rangeSize->QT
open PySem.Builtin.SmallTypes renaming ownedTupleIsFree->NH,nextOf->O2
open PySem.Calls renaming Name_function_global->Qj,evalArgs_plain->RT
open PySem.Code renaming isFrame->Sv
open PySem.EntryCells renaming newEntry->R7
open PySem.F renaming plainAttrs_list->ME,slot_list_append->MS,type_list_append->MT,called_set->OR,slot_list_index->Pf,slot_zip_getattribute->Pj,slot_zip_next->Qh,type_list_index->Q7,attrBase_ValueError->RG
open PySem.Heap renaming get?_push_of_some->L7,lt_size->Mf,get?_push_size->Mz,get?_update_other->Nb,get?_update_self->NM,size_push->NN,SameBut->O5
open PySem.Heap.SameBut renaming update->Sa
open PySem.NameKind renaming cell->Nu,free->ND
open PySem.Obj renaming mapSeq->O7,data_mapFields->Qp,putSet->QE,isFreed_of_fields->RE,mapFields->Si
open PySem.Paired renaming length->Pc
open PySem.PassesOwn renaming never->Ml
open PySem.SeqAt renaming EqAt->So
open PySem.SeqAt.EqAt renaming same->Ry
open PySem.SetTable renaming below->MY,insertAt->OA,toList_insertAt->OB,bits->Pm,turns->PR,fits->P8,grown->Qt,fill->Q1,runEnd->RJ,probeStart->R9,layClean->Sr,probe->SG
open PySem.SetTable.below renaming go->PK
open PySem.SetTable.layClean renaming free->OJ
open PySem.SetTable.probe renaming go->PL
open PySem.Shared renaming TypeIs->Sj
open PySem.Str renaming ofString->NW,empty->Qv
open PySem.Value renaming ref->MI,int->Oe,none->Ow,bool->Sk,type->Sl,str->SD
open PySem.W renaming Frag->LN,keepIn->LV,nsIn->LW,mg_of->LY,findIn->L4,codeIn->L5,fnOf->L8,kitOne->MH,mg_none_of->M0,exmOne->M6,excIn->Nf,hasDictIn->Nl,plainGet->NC,emptyDict->NJ,plainOver->N0,mroIn->N3,isFn->N6,instObj->Of,makesIn->Og,callWith_K->OL,specialIn->OV,looks_findIn->OW,Looks->Pg,clsIn->P7,plainGet_of->Qa,lookIn->Qr,methodObj->Qu,cellsFrom_some->Rj,takerIn->Ru,OpenLaw->RA,takesIn->RF,methodCall_KW->RH,looks_mroIn->R8
open PySem.pickOrder renaming go->SA
open Sum renaming inl->QP,inr->R5
open True renaming intro->Qw
set_option Elab.async false
set_option linter.all false
set_option maxRecDepth 100000
namespace L2
open PySem PySem.Spec PyProof.Rows
abbrev Key:=Sum Int Str
def uk:Key->Value->Bool
 | .inl k,v=>Value.isInt k v
 | .inr x,v=>Value.isStrOf x v
def LL (w:World):Key->Int
 | .inl k=>hashInt k
 | .inr x=>hashStr w x
theorem dO:∀ {k:Key} {v:Value},uk k v=true->(∃ i t,k=QP i/\v=Oe i t)\/(∃ x t,k=R5 x/\v=SD x t)
 | .inl i,v,h=>by
  obtain ⟨t,e⟩:=Value.isInt_shape (k:=i) (v:=v) h;exact .inl ⟨i,t,rfl,e⟩
 | .inr x,v,h=>by
  obtain ⟨t,e⟩:=Value.isStrOf_shape (x:=x) (v:=v) h;exact .inr ⟨x,t,rfl,e⟩
theorem FC (i:Int) (t:Tok):uk (.inl i) (.int i t)=true:=by simp [uk,Value.isInt]
theorem FY (x:Str) (t:Tok):uk (.inr x) (.str x t)=true:=by simp [uk,Value.isStrOf]
theorem J0 (a b:Int):decide ((QP a:Key)=QP b)=(a == b):=by
 by_cases e:a=b
 ·subst e;simp
 ·have h:¬ (QP a:Key)=QP b:=fun q=>e (QP.inj q);rw [decide_eq_false h];exact (beq_eq_false_iff_ne.mpr e).symm
theorem KO (a b:Str):decide ((R5 a:Key)=R5 b)=decide (a=b):=by
 by_cases e:a=b
 ·subst e;simp
 ·have h:¬ (R5 a:Key)=R5 b:=fun q=>e (R5.inj q);rw [decide_eq_false h,decide_eq_false e]
theorem Ka (a:Int) (b:Str):decide ((QP a:Key)=R5 b)=false:=decide_eq_false (fun q=>nomatch q)
theorem J5 (a:Str) (b:Int):decide ((R5 a:Key)=QP b)=false:=decide_eq_false (fun q=>nomatch q)
def dW (prog:Mp) (w:World):PySem.KeyKind prog w Key where
 is:=uk
 hash:=LL w
 inj:=fun v a b ha hb=>by
  rcases dO ha with ⟨i,t,rfl,rfl⟩|⟨x,t,rfl,rfl⟩
  ·rcases dO hb with ⟨j,u,rfl,e⟩|⟨y,u,rfl,e⟩
   ·injection e with e1 _;rw [e1]
   ·exact nomatch e
  ·rcases dO hb with ⟨j,u,rfl,e⟩|⟨y,u,rfl,e⟩
   ·exact nomatch e
   ·injection e with e1 _;rw [e1]
 byValue:=fun k v h=>by
  rcases dO h with ⟨i,t,rfl,rfl⟩|⟨x,t,rfl,rfl⟩ <;> rfl
 pyHash:=fun hv h=>by
  rcases dO hv with ⟨i,t,rfl,rfl⟩|⟨x,t,rfl,rfl⟩
  ·exact wpAny_pyHash_int h
  ·exact wpAny_pyHash_str h
 eqBool:=fun hu hv h=>by
  rcases dO hu with ⟨i,t,rfl,rfl⟩|⟨x,t,rfl,rfl⟩
  ·rcases dO hv with ⟨j,u,rfl,rfl⟩|⟨y,u,rfl,rfl⟩
   ·rw [J0] at h;exact wpAny_eqBool_int h
   ·rw [Ka] at h;exact SeqAt.EqAt.int_str i t y u _ _ _ _ h
  ·rcases dO hv with ⟨j,u,rfl,rfl⟩|⟨y,u,rfl,rfl⟩
   ·rw [J5] at h;exact SeqAt.EqAt.str_int x t j u _ _ _ _ h
   ·rw [KO] at h;exact wpAny_eqBool_str h
 «strs»:=fun k x t v h=>by
  rcases dO h with ⟨i,u,rfl,e⟩|⟨y,u,rfl,e⟩
  ·exact nomatch e
  ·injection e with e1 _;subst e1;cases v <;> rfl
theorem B3 (prog:Mp) (w:World) (i:Int) (t:Tok):(dW prog w).is (.inl i) (.int i t)=true:=FC i t
theorem BI (prog:Mp) (w:World) (x:Str) (t:Tok):(dW prog w).is (.inr x) (.str x t)=true:=FY x t
inductive V where
 | non|bl (b:Bool)|int (i:Int)|str (x:Str)|byt (b:Array UInt8)|flt (b:UInt64)|ref (a:Addr)|ty (n:String)
 deriving DecidableEq
def RelV:V->Value->Prop
 | .non,u=>u=Ow
 | .bl b,u=>u=Sk b
 | .int i,u=>∃ t,u=Oe i t
 | .str x,u=>∃ t,u=SD x t
 | .byt b,u=>∃ t,u=Value.bytes b t
 | .flt b,u=>∃ t,u=Value.float b t
 | .ref a,u=>u=MI a
 | .ty n,u=>u=Sl n
abbrev Vals:List V->List Value->Prop:=Nv RelV
theorem Vals.length {xs:List V} {us:List Value} (r:Vals xs us):xs.length=us.length:=Pc r
theorem Vals.get:∀ {xs:List V} {us:List Value} {i:Nat} {x:V},Vals xs us->xs[i]?=some x->∃ u,us[i]?=some u/\RelV x u
 | _,_,_,_,.nil,e=>by simp at e
 | _,_,0,_,.cons r _,e=>by simp at e;subst e;exact ⟨_,rfl,r⟩
 | _,_,i+1,x,.cons _ t,e=>by
  obtain ⟨u,h1,h2⟩:=Vals.get (i:=i) (x:=x) t (by simpa using e)
  exact ⟨u,by simpa using h1,h2⟩
theorem Vals.set {x:V} {u:Value} (r:RelV x u):∀ {xs:List V} {us:List Value} (i:Nat),Vals xs us->Vals (xs.set i x) (us.set i u)
 | _,_,_,.nil=>.nil
 | _,_,0,.cons _ t=>.cons r t
 | _,_,i+1,.cons q t=>.cons q (Vals.set r i t)
theorem Vals.append:∀ {xs ys:List V} {us ws:List Value},Vals xs us->Vals ys ws->Vals (xs++ys) (us++ws)
 | _,_,_,_,.nil,s=>s
 | _,_,_,_,.cons r t,s=>.cons r (Vals.append t s)
theorem Vals.take:∀ {xs:List V} {us:List Value} (n:Nat),Vals xs us->Vals (xs.take n) (us.take n)
 | _,_,0,_=>.nil
 | _,_,_+1,.nil=>.nil
 | _,_,n+1,.cons r t=>.cons r (Vals.take n t)
theorem Vals.drop:∀ {xs:List V} {us:List Value} (n:Nat),Vals xs us->Vals (xs.drop n) (us.drop n)
 | _,_,0,r=>r
 | _,_,_+1,.nil=>.nil
 | _,_,n+1,.cons _ t=>Vals.drop n t
def jg:Option V->Option Value->Prop
 | some v,some u=>RelV v u
 | none,none=>True
 | _,_=>False
def KV {κ:Type}:List (κ×V)->List (κ×Value)->Prop:=Nv fun (p:κ×V) (q:κ×Value)=>p.1=q.1/\RelV p.2 q.2
def kV:Key->V
 | .inl i=>.int i
 | .inr x=>.str x
inductive HO where
  | lst (xs:List V)
  | tup (xs:List V)
  | dK (kvs:List (Key×V))|dT (kvs:List (List Key×V))
  | set (S:Int->Bool) (n:Nat)
  | ins (C dx:Addr) (fs:List (Str×V))
  | own (x:Addr)
  | xd (fs:List (Str×V))
  | met (f x:Addr)
  | rng (lo hi:Int)
  | frz (o:Obj) (u:HO)
  | tbl (ps:Array Value)
  | ext (φ:Heap->Prop)
abbrev Hp:=Addr->Option HO
def upd (H:Hp) (a:Addr) (o:HO):Hp:=fun b=>if b=a then some o else H b
theorem ar {H:Hp} {a:Addr} {o:HO}:upd H a o a=some o:=by unfold upd;rw [if_pos rfl]
theorem au {H:Hp} {a b:Addr} {o:HO} (h:b≠a):upd H a o b=H b:=by unfold upd;rw [if_neg h]
theorem Lu {H:Hp} {a b:Addr} {o u:HO} (h:H a=some o) (h':H b=some u) (d:o≠u):a≠b:=by
 intro e;subst e;rw [h] at h';exact d (MK h')
theorem aH {H:Hp} {a b:Addr} {o:HO} (h:H a=some o) (h':H b=none):a≠b:=by
 intro e;subst e;rw [h] at h';cases h'
section
variable (P:Mp) (w:World)
def cA (H:Hp) (h:Heap) (a:Addr):HO->Prop
 | .lst xs=>xs.length<=MF/\∃ (its:List Value) (n:Nat),Vals xs its/\h.get? a=some { cls:=.type "list",data:=.seq its.toArray n }
 | .tup xs=>xs.length<=MF/\∃ its:List Value,Vals xs its/\IsTup h a its.toArray
 | .dK kvs=>kvs.length<=MF/\(a == sysModules)=false/\∃ vs,KV kvs vs/\h.DictOf (dW P w) a vs
 | .dT kvs=>kvs.length<=MF/\(a == sysModules)=false/\∃ xs:List (List Key×Addr×Value),
   Nv (fun (p:List Key×V) (q:List Key×Addr×Value)=>p.1=q.1/\H q.2.1=some (.tup (p.1.map kV))/\RelV p.2 q.2.2) kvs xs /\
   ∃ o es ep,h.get? a=some o/\o.ExactDict/\o.data=.dict es ep/\es.toList=xs.map (entryOfKey (tupleKind (dW P w)))/\(xs.map (·.1)).Nodup
 | .set S n=>h.SetOf (intKind P w) a S n
 | .ins C dx fs=>H dx=some (.own a)/\fs.length<=1000/\dx≠a/\h.get? a=some (Of C dx) /\
   ∃ mA,h.Ns1 dx mA/\(∀ f,jg (fs.lookup f) (mA f))/\Ss mA (fs.map (·.1))
 | .own _=>∃ o,h.get? a=some o
 | .xd fs=>∃ mA,h.Ns1 a mA/\∀ f,jg (fs.lookup f) (mA f)
 | .rng lo hi=>∃ t u v,h.get? a=some { cls:=.type "range",data:=.fields #[.int lo t,.int hi u,.int 1 v] }
 | .frz o u=>h.get? a=some o/\cA H h a u
 | .tbl ps=>h.get? a=some { cls:=.none,data:=.fields ps }
 | .met f x=>h.get? a=some (Qu (.ref f) (.ref x))
 | .ext φ=>φ h/\(∃ o,h.get? a=some o)/\∀ h1 h2:Heap,φ h1->(∀ o,h1.get? a=some o->h2.get? a=some o)->φ h2
def HOk (H:Hp) (h:Heap):Prop:=∀ a o,H a=some o->cA P w H h a o
end
section
variable {P:Mp} {w:World} {H H':Hp} {h h':Heap} {a:Addr} {o:HO}
theorem cA.lt (x:cA P w H h a o):a<h.objs.size:=by
 cases o with
 | lst xs=>obtain ⟨_,_,_,_,e⟩:=x;exact Mf e
 | tup xs=>obtain ⟨_,_,_,p⟩:=x;exact p.lt
 | dK kvs=>obtain ⟨_,_,_,_,o,_,_,e,_⟩:=x;exact Mf e
 | dT kvs=>obtain ⟨_,_,_,_,o,_,_,e,_⟩:=x;exact Mf e
 | set S n=>obtain ⟨o,_,_,_,e,_⟩:=x;exact Mf e
 | ins C dx fs=>obtain ⟨_,_,_,e,_⟩:=x;exact Mf e
 | own y=>obtain ⟨_,e⟩:=x;exact Mf e
 | xd fs=>obtain ⟨_,⟨_,_,_,e,_⟩,_⟩:=x;exact Mf e
 | rng lo hi=>obtain ⟨_,_,_,e⟩:=x;exact Mf e
 | frz ob u=>obtain ⟨e,_⟩:=x;exact Mf e
 | tbl ps=>exact Mf (show h.get? a=some _ from x)
 | met f y=>exact Mf (show h.get? a=some _ from x)
 | ext φ=>obtain ⟨_,⟨_,e⟩,_⟩:=x;exact Mf e
theorem Paired.eT {α β:Type} {F G:α->β->Prop}:∀ {l₁:List α} {l₂:List β},Nv F l₁ l₂->(∀ a b,F a b->G a b)->Nv G l₁ l₂
 | _,_,.nil,_=>.nil
 | _,_,.cons r t,f=>.cons (f _ _ r) (Paired.eT t f)
theorem cA.qD (x:cA P w H h a o) (k:∀ b u,(b=a\/H b=some (.own a))->h.get? b=some u->h'.get? b=some u)
  (ho:∀ b,H b=some (.own a)->H' b=some (.own a)) (ht:∀ b xs,H b=some (.tup xs)->H' b=some (.tup xs)):cA P w H' h' a o:=by
 induction o with
 | lst xs=>obtain ⟨z,its,n,r,e⟩:=x;exact ⟨z,its,n,r,k _ _ (.inl rfl) e⟩
 | tup xs=>obtain ⟨z,its,r,ob,e,c⟩:=x;exact ⟨z,its,r,ob,k _ _ (.inl rfl) e,c⟩
 | dK kvs=>obtain ⟨z,y,vs,r,ob,es,ep,e,c⟩:=x;exact ⟨z,y,vs,r,ob,es,ep,k _ _ (.inl rfl) e,c⟩
 | dT kvs =>
  obtain ⟨z,y,xs,r,ob,es,ep,e,c⟩:=x;exact ⟨z,y,xs,Paired.eT r fun p q z=>⟨z.1,ht _ _ z.2.1,z.2.2⟩,ob,es,ep,k _ _ (.inl rfl) e,c⟩
 | set S n=>obtain ⟨ob,es,ep,t,e,c⟩:=x;exact ⟨ob,es,ep,t,k _ _ (.inl rfl) e,c⟩
 | ins C dx fs =>
  obtain ⟨d,z,ne,e,mA,⟨od,es,ep,e2,c⟩,r⟩:=x;exact ⟨ho _ d,z,ne,k _ _ (.inl rfl) e,mA,⟨od,es,ep,k _ _ (.inr d) e2,c⟩,r⟩
 | own y=>obtain ⟨ob,e⟩:=x;exact ⟨ob,k _ _ (.inl rfl) e⟩
 | xd fs=>obtain ⟨mA,⟨od,es,ep,e,c⟩,r⟩:=x;exact ⟨mA,⟨od,es,ep,k _ _ (.inl rfl) e,c⟩,r⟩
 | rng lo hi=>obtain ⟨t,u,v,e⟩:=x;exact ⟨t,u,v,k _ _ (.inl rfl) e⟩
 | frz ob u ih=>obtain ⟨e,q⟩:=x;exact ⟨k _ _ (.inl rfl) e,ih q⟩
 | tbl ps =>
  have e:h.get? a=some { cls:=.none,data:=.fields ps }:=x;show h'.get? a=some { cls:=.none,data:=.fields ps };exact k a _ (.inl rfl) e
 | met f y =>
  have e:h.get? a=some (Qu (.ref f) (.ref y)):=x;show h'.get? a=some (Qu (.ref f) (.ref y));exact k a _ (.inl rfl) e
 | ext φ=>obtain ⟨p,⟨o,e⟩,st⟩:=x;exact ⟨st _ _ p fun o q=>k _ _ (.inl rfl) q,⟨o,k _ _ (.inl rfl) e⟩,st⟩
theorem HOk.lt (x:HOk P w H h) (e:H a=some o):a<h.objs.size:=(x a o e).lt
theorem HOk.fresh (x:HOk P w H h) (e:h.objs.size<=a):H a=none:=by
 cases q:H a with
 | none=>rfl
 | some u=>exact absurd (Mi (x.lt q) e) (Nt _)
theorem HOk.kept (x:HOk P w H h) (k:∀ b u,h.get? b=some u->h'.get? b=some u):HOk P w H h':=fun a o e =>
 (x a o e).qD (fun b u _ q=>k b u q) (fun _ q=>q) fun _ _ q=>q
theorem HOk.laid (x:HOk P w H h) (k:∀ b u,h.get? b=some u->h'.get? b=some u) (hp:h.objs.size<=a) (new:cA P w (upd H a o) h' a o):HOk P w (upd H a o) h':=fun b u e=>by
 have hn:=x.fresh hp
 by_cases hb:b=a
 ·subst hb;rw [ar] at e;cases e;exact new
 ·rw [au hb] at e;exact (x b u e).qD (fun c v _ q=>k c v q) (fun c q=>by rw [au (aH q hn)];exact q) fun c xs q=>by rw [au (aH q hn)];exact q
end
def Rd (H:Hp) (a:Addr) (u:HO):Prop:=H a=some u\/∃ o,H a=some (.frz o u)
theorem Rd.ok {P:Mp} {w:World} {H:Hp} {h:Heap} {a:Addr} {u:HO} (r:Rd H a u) (x:HOk P w H h):cA P w H h a u:=by
 rcases r with r|⟨o,r⟩
 ·exact x a u r
 ·obtain ⟨_,q⟩:=x a _ r;exact q
def Mut:Option HO->Prop
 | some (.lst _)=>True
 | some (.dK _)=>True
 | some (.dT _)=>True
 | some (.set _ _)=>True
 | some (.ins _ _ _)=>True
 | some (.ext _)=>True
 | _=>False
section
variable {P:Mp} {w:World} {H:Hp} {h h':Heap} {x e:Addr} {o':HO}
theorem HOk.write (ok:HOk P w H h) (mu:Mut (H x)) (he:e=x\/H e=some (.own x)) (k:∀ b u,b≠e->h.get? b=some u->h'.get? b=some u) (heo:∃ u,h'.get? e=some u)
  (new:cA P w (upd H x o') h' x o'):HOk P w (upd H x o') h':=fun b u q=>by
 have nown:∀ c y,H c=some (.own y)->c≠x:=fun c y r z=>by subst z;rw [r] at mu;exact mu
 have ntup:∀ c xs,H c=some (.tup xs)->c≠x:=fun c xs r z=>by subst z;rw [r] at mu;exact mu
 by_cases hb:b=x
 ·subst hb;rw [ar] at q;cases q;exact new
 ·rw [au hb] at q
  by_cases hbe:b=e
  ·have q':H b=some (.own x):=by
    rcases he with z|z
    ·exact absurd (hbe.trans z) hb
    ·rw [hbe];exact z
   rw [q] at q';cases q';obtain ⟨v,hv⟩:=heo;exact ⟨v,by rw [hbe];exact hv⟩
  ·refine (ok b u q).qD (fun c v hc r=>k c v ?_ r) (fun c r=>by rw [au (nown c b r)];exact r) fun c xs r=>by rw [au (ntup c xs r)];exact r
   rcases hc with rfl|hc
   ·exact hbe
   ·rintro rfl;rcases he with z|z
    ·exact nown c b hc z
    ·rw [hc] at z;cases z;exact hb rfl
end
structure Un (fs ex:List Addr) (H H':Hp) (h h':Heap):Prop where
 keep:∀ b o,h.get? b=some o->H b=none->b∉fs->b∉ex->h'.get? b=some o
 slot:∀ b o,h.get? b=some o->H b=none->b∈fs->b∉ex->∃ sl,h'.get? b=some { o with slots:=sl }
 free:∀ b o,h.get? b=some o->H b=none->b∉ex->H' b=none
 there:∀ b o,h.get? b=some o->b∉ex->∃ o',h'.get? b=some o'
 kB:∀ b xs,H b=some (.tup xs)->H' b=some (.tup xs)
 jY:∀ b o u,H b=some (.frz o u)->H' b=some (.frz o u)
 kr:∀ b ps,H b=some (.tbl ps)->∃ more,H' b=some (.tbl (ps++more))
section
variable {fs fs' ex ex':List Addr} {H H1 H2:Hp} {h h1 h2 h':Heap} {a x e:Addr} {o:HO}
theorem Un.any (u:Un fs ex H H1 h h1) {b:Addr} {ob:Obj} (q:h.get? b=some ob) (n:H b=none) (hx:b∉ex):∃ sl,h1.get? b=some { ob with slots:=sl }:=by
 by_cases hb:b∈fs
 ·exact u.slot b ob q n hb hx
 ·exact ⟨ob.slots,u.keep b ob q n hb hx⟩
theorem Un.trans (a:Un fs ex H H1 h h1) (b:Un fs ex H1 H2 h1 h2):Un fs ex H H2 h h2 where
 keep:=fun c ob q n hc hx=>b.keep c ob (a.keep c ob q n hc hx) (a.free c ob q n hx) hc hx
 slot:=fun c ob q n hc hx=>by
  obtain ⟨sl,e1⟩:=a.slot c ob q n hc hx;obtain ⟨sl',e2⟩:=b.slot c _ e1 (a.free c ob q n hx) hc hx;exact ⟨sl',e2⟩
 free:=fun c ob q n hx=>by
  obtain ⟨o',e1⟩:=a.there c ob q hx;exact b.free c o' e1 (a.free c ob q n hx) hx
 there:=fun c ob q hx=>by
  obtain ⟨o',e1⟩:=a.there c ob q hx;exact b.there c o' e1 hx
 kB:=fun c xs q=>b.kB c xs (a.kB c xs q)
 jY:=fun c ob xs q=>b.jY c ob xs (a.jY c ob xs q)
 kr:=fun c ps q=>by
  obtain ⟨m1,e1⟩:=a.kr c ps q;obtain ⟨m2,e2⟩:=b.kr c _ e1;exact ⟨m1++m2,by rw [e2,Array.append_assoc]⟩
theorem Un.kept (k:∀ b u,h.get? b=some u->h'.get? b=some u):Un fs ex H H h h' :=
 ⟨fun b ob q _ _ _=>k b ob q,fun b ob q _ _ _=>⟨ob.slots,k b ob q⟩,fun _ _ _ n _=>n,fun b ob q _=>⟨ob,k b ob q⟩,fun _ _ q=>q,fun _ _ _ q=>q,fun _ ps q=>⟨#[],by rw [q];simp⟩⟩
theorem Un.refl:Un fs ex H H h h:=Un.kept fun _ _ q=>q
theorem Un.laid (k:∀ b u,h.get? b=some u->h'.get? b=some u) (hp:h.objs.size<=a) (hn:H a=none):Un fs ex H (upd H a o) h h' where
 keep:=fun b u q _ _ _=>k b u q
 slot:=fun b u q _ _ _=>⟨u.slots,k b u q⟩
 free:=fun b u q n _=>by rw [au (Mn (Mi (Mf q) hp))];exact n
 there:=fun b u q _=>⟨u,k b u q⟩
 kB:=fun b xs q=>by rw [au (aH q hn)];exact q
 jY:=fun b u xs q=>by rw [au (aH q hn)];exact q
 kr:=fun b ps q=>⟨#[],by rw [au (aH q hn),q];simp⟩
theorem Un.write (mu:Mut (H x)) (he:e=x\/H e=some (.own x)) (k:∀ b u,b≠e->h.get? b=some u->h'.get? b=some u) (heo:∃ u,h'.get? e=some u):Un fs ex H (upd H x o) h h':=by
 have hx:∀ b,H b=none->b≠x:=fun b n z=>by subst z;rw [n] at mu;exact mu
 have hb:∀ b,H b=none->b≠e:=fun b n z=>by
  subst z;rcases he with r|r
  ·exact hx b n r
  ·rw [n] at r;cases r
 have hm:∀ b u,H b=some u->¬ Mut (some u)->b≠x:=fun b u q nm z=>by subst z;rw [q] at mu;exact nm mu
 refine ⟨fun b u q n _ _=>k b u (hb b n) q,fun b u q n _ _=>⟨u.slots,k b u (hb b n) q⟩,fun b u q n _=>by rw [au (hx b n)];exact n,fun b u q _=>?_,
  fun b xs q=>by rw [au (hm b _ q fun z=>z)];exact q,fun b u xs q=>by rw [au (hm b _ q fun z=>z)];exact q,fun b ps q=>⟨#[],by rw [au (hm b _ q fun z=>z),q];simp⟩⟩
 by_cases hbe:b=e
 ·subst hbe;exact heo
 ·exact ⟨u,k b u hbe q⟩
theorem Un.mono (u:Un fs ex H H1 h h1) (hs:∀ b∈fs,b∈fs') (hx:∀ b∈ex,b∈ex'):Un fs' ex' H H1 h h1 :=
 ⟨fun b ob q n hb he=>u.keep b ob q n (fun z=>hb (hs b z)) fun z=>he (hx b z),fun _ _ q n _ he=>u.any q n fun z=>he (hx _ z),fun b ob q n he=>u.free b ob q n fun z=>he (hx b z),fun b ob q he=>u.there b ob q fun z=>he (hx b z),u.kB,u.jY,u.kr⟩
end
def trk (h:Heap) (H:Hp):List Addr:=(LZ h.objs.size).filter fun a=>(H a).isSome
def qF (h:Heap) (H:Hp):Heap:=PySem.W.hideAll h (trk h H)
theorem Ga (h:Heap) (H:Hp):(qF h H).objs.size=h.objs.size:=PySem.W.hideAll_size _ _
theorem GZ {h:Heap} {H:Hp} {b:Addr} {o:Obj} (e:h.get? b=some o) (n:H b=none):(qF h H).get? b=some o :=
 PySem.W.hideAll_get _ e fun hm=>by
  have q:(H b).isSome=true:=(Nq.mp hm).2;rw [n] at q;simp at q
theorem JO {h:Heap} {H:Hp} {b:Addr} {o:Obj} (e:(qF h H).get? b=some o):h.get? b=some o/\H b=none:=by
 have e':h.get? b=some o:=PySem.W.of_hideAll (trk h H) e;refine ⟨e',?_⟩;cases q:H b with
 | none=>rfl
 | some x =>
  have hm:b∈trk h H:=Nq.mpr ⟨L9.mpr (Mf e'),by simp [q]⟩
  have z:(qF h H).get? b=none:=PySem.W.hideAll_none (trk h H) hm;rw [z] at e;cases e
structure Mod (K:LN) (mg:Str->Option Value) (base:Heap):Prop where
 kin:K.In base
 glob:base.Ns LX mg
 blt:∃ mb,base.Ns builtinsNs mb/\∀ x:Str,x ≠ "__name__" -> mb x=bootBuiltins x
 nolimit:base.NoLimit
structure Cx where
 prog:Mp
 w:World
 K:LN
 mg:Str->Option Value
 base:Heap
 A:MR
 N:List Str
 s₀:LU
 H₀:Hp
 env:Env
 outer:List Env
 stack:List Env
 ex:List Addr
 fn:Str->Bool
 calm:Bool
 pn:List (Addr×Obj)
 xe:Value->LU->Prop
def frs (l:List Env):List Addr:=l.filterMap (·.frame)
abbrev Cx.fs (X:Cx):List Addr:=frs X.outer
def Vis (sc:Scope) (x:Str):Prop:=sc.names.lookup x=some .local\/sc.names.lookup x=some .cell\/sc.names.lookup x=some .free
def Loc (sc:Scope) (x:Str):Prop:=sc.names.lookup x=some .local\/sc.names.lookup x=some .cell
def Look (env:Env) (h:Heap) (m:Str->Option Value) (x:Str) (u:Value):Prop :=
 (env.kindOf x=some .local/\m x=some u)\/((env.kindOf x=some .cell\/env.kindOf x=some .free)/\∃ c,env.cells.lookup x=some c/\h.IsCell c (some u))
structure Cx.Ok (X:Cx):Prop where
 mod:Mod X.K X.mg X.base
 kind:X.env.scope.kind=.function
 glob:X.env.globals=LX
 blt:X.env.builtins=builtinsNs
 above:X.s₀.heap.objs.size<=X.env.locals
 inj:∀ x y c,X.env.cells.lookup x=some c->X.env.cells.lookup y=some c->x=y
 has:∀ x,(X.env.kindOf x=some .cell\/X.env.kindOf x=some .free)->∃ c,X.env.cells.lookup x=some c
 cab:∀ x c,X.fn x=true->X.env.cells.lookup x=some c->X.s₀.heap.objs.size<=c
 hd:X.calm=true->X.A.handled=none
 frames:X.A.frames=some X.stack
 stk:X.stack=X.outer\/(X.stack=X.env :: X.outer/\X.env.frame=some X.env.locals)
 exf:∀ b∈X.ex,b≠X.env.locals/\∀ x c,X.env.cells.lookup x=some c->c≠b
 bs:∀ b o,X.base.get? b=some o->X.s₀.heap.get? b=some o/\X.H₀ b=none
 bsz:X.base.objs.size<=X.s₀.heap.objs.size
 uM:∀ b o,X.base.get? b=some o->b∉X.ex
 tG:∀ b∈X.ex,b∉X.fs
 gn:X.s₀.heap.FunFrames X.base X.outer
 frf:∀ b∈X.fs,X.H₀ b=none
structure Inv (X:Cx) (pins:List (Addr×Obj)) (σ:List (Option V)) (H:Hp) (s:LU):Prop where
 ok:X.Ok
 os:s.os=X.s₀.os
 bare:QQ s.gens
 base:Un X.fs X.ex X.H₀ H X.s₀.heap s.heap
 loc:∃ m,s.heap.Ns X.env.locals m/\∀ (i:Nat) (x:Str) (v:V),X.N[i]?=some x->σ[i]?=some (some v)->Vis X.env.scope x->∃ u,RelV v u/\Look X.env s.heap m x u
 cell:∀ x c,X.env.cells.lookup x=some c->∃ v,s.heap.IsCell c v
 free:H X.env.locals=none
 fV:∀ x c,X.env.cells.lookup x=some c->H c=none
 pin:∀ p∈X.pn++pins,s.heap.get? p.1=some p.2/\H p.1=none/\p.1≠X.env.locals/\p.1∉X.fs/\∀ v,p.2.data≠.cell v
 hok:HOk X.prog X.w H s.heap
 len:σ.length=X.N.length
section
variable {X:Cx} {pins:List (Addr×Obj)} {σ:List (Option V)} {H H':Hp} {s:LU} {h':Heap}
theorem Cx.Ok.LA (ok:X.Ok) {b:Addr} {o:Obj} (e:X.base.get? b=some o):b∉X.fs:=fun hb=>by
 have:=(ok.gn.mem hb).1;rw [e] at this;cases this
theorem Inv.bs (I:Inv X pins σ H s):∀ b o,X.base.get? b=some o->s.heap.get? b=some o/\H b=none:=fun b o e =>
 ⟨I.base.keep b o (I.ok.bs b o e).1 (I.ok.bs b o e).2 (I.ok.LA e) (I.ok.uM b o e),I.base.free b o (I.ok.bs b o e).1 (I.ok.bs b o e).2 (I.ok.uM b o e)⟩
theorem Inv.bk (I:Inv X pins σ H s):∀ b o,X.base.get? b=some o->s.heap.get? b=some o:=fun b o e=>(I.bs b o e).1
theorem Inv.mod (I:Inv X pins σ H s):Mod X.K X.mg X.base:=I.ok.mod
theorem Inv.kIn (I:Inv X pins σ H s):X.K.In s.heap:=I.ok.mod.kin.keeps I.bk
theorem Inv.lt (I:Inv X pins σ H s):X.env.locals<s.heap.objs.size:=let ⟨_,hn,_⟩:=I.loc;hn.lt
theorem Inv.sz (I:Inv X pins σ H s):X.s₀.heap.objs.size<=s.heap.objs.size:=M4 I.ok.above (N5 I.lt)
theorem Inv.LK (I:Inv X pins σ H s) {a:Addr} (h:s.heap.objs.size<=a):a∉X.fs:=fun hb=>by
 obtain ⟨_,o,ho,_⟩:=I.ok.gn.mem hb;exact absurd (Mi (Mf ho) (M4 I.sz h)) (Nt _)
theorem Inv.cne (I:Inv X pins σ H s):∀ x c,X.env.cells.lookup x=some c->c≠X.env.locals:=fun x c e z=>by
 obtain ⟨v,o,ho,hd⟩:=I.cell x c e;obtain ⟨m,⟨o',es,ep,ho',hd',_⟩,_⟩:=I.loc;rw [z,ho'] at ho;cases ho;rw [hd'] at hd;cases hd
theorem Inv.gn (I:Inv X pins σ H s):s.heap.FunFrames X.base X.outer:=by
 have all:∀ (l:List Env),(∀ b∈frs l,b∈X.fs)->X.s₀.heap.FunFrames X.base l->s.heap.FunFrames X.base l:=by
  intro l
  induction l with
  | nil=>intro _ _;trivial
  | cons env r ih =>
   intro hs hl;obtain ⟨hk,⟨L,o,hf,hn,ho,hd⟩,hr⟩:=hl;have hL:L∈X.fs:=hs L (by unfold frs;rw [NX,hf];exact Mj)
   obtain ⟨sl,e⟩:=I.base.slot L o ho (I.ok.frf L hL) hL fun z=>I.ok.tG L z hL;exact ⟨hk,⟨L,_,hf,hn,e,hd⟩,ih (fun b hb=>hs b (by unfold frs;rw [NX,hf];exact Me _ hb)) hr⟩
 exact all X.outer (fun _ hb=>hb) I.ok.gn
theorem Inv.stack (I:Inv X pins σ H s):s.heap.FunFrames X.base X.stack:=by
 rcases I.ok.stk with e|⟨e,hf⟩
 ·rw [e];exact I.gn
 ·rw [e];obtain ⟨m,hn,_⟩:=I.loc;refine .cons (by rw [I.ok.kind];decide) hf hn ?_ I.gn
  exact Heap.get?_none_of_le (M4 I.ok.bsz I.ok.above)
theorem Inv.so (I:Inv X pins σ H s):∀ b∈frs X.stack,b∈X.env.locals :: X.fs:=fun b hb=>by
 rcases I.ok.stk with e|⟨e,hf⟩
 ·rw [e] at hb;exact Me _ hb
 ·rw [e] at hb;unfold frs at hb;rw [NX,hf] at hb;exact hb
theorem Inv.xG (I:Inv X pins σ H s):∀ b∈frs X.stack,H b=none:=fun b hb=>by
 rcases Mv.mp (I.so b hb) with e|hb
 ·rw [e];exact I.free
 ·obtain ⟨_,o,ho,_⟩:=I.ok.gn.mem hb;exact I.base.free b o ho (I.ok.frf b hb) fun z=>I.ok.tG b z hb
theorem Inv.step {g':Array PQ} {t':Nat} {d':Drawn} {ch:List Addr} (I:Inv X pins σ H s)
  (hch:∀ b∈ch,(b∈X.ex\/X.s₀.heap.objs.size<=b)/\b≠X.env.locals/\(∀ x c,X.env.cells.lookup x=some c->c≠b)/\∀ p∈X.pn++pins,p.1≠b)
  (keep:∀ b o,b≠X.env.locals->b∉X.fs->b∉ch->s.heap.get? b=some o->H b=none->h'.get? b=some o)
  (slot:∀ b o,b≠X.env.locals->b∈X.fs->b∉ch->s.heap.get? b=some o->H b=none->∃ sl,h'.get? b=some { o with slots:=sl }) (free:∀ b o,b∉ch->s.heap.get? b=some o->H b=none->H' b=none)
  (there:∀ b o,b∉ch->s.heap.get? b=some o->∃ o',h'.get? b=some o')
  (kB:∀ b xs,H b=some (.tup xs)->H' b=some (.tup xs)) (jY:∀ b o u,H b=some (.frz o u)->H' b=some (.frz o u)) (kr:∀ b ps,H b=some (.tbl ps)->∃ more,H' b=some (.tbl (ps++more)))
  (ns:∀ m,s.heap.Ns X.env.locals m->h'.Ns X.env.locals m) (hok:HOk X.prog X.w H' h') (hg:QQ g') :
  Inv X pins σ H' { s with heap:=h',gens:=g',drawn:=d',toks:=t' }:=by
 have neL:∀ b o,X.s₀.heap.get? b=some o->b≠X.env.locals:=fun b o e=>Mn (Mi (Mf e) I.ok.above);have neC:∀ b o,X.s₀.heap.get? b=some o->b∉X.ex->b∉ch:=fun b o e hx hb=>by
  rcases (hch b hb).1 with z|z
  ·exact hx z
  ·exact absurd (Mi (Mf e) z) (Nt _)
 have cellK:∀ x c,X.env.cells.lookup x=some c->∀ v,s.heap.IsCell c v->h'.IsCell c v:=fun x c e v ⟨o,ho,hd⟩=>by
  have nch:c∉ch:=fun z=>(hch c z).2.2.1 x c e rfl
  by_cases hc:c∈X.fs
  ·obtain ⟨sl,q⟩:=slot c o (I.cne x c e) hc nch ho (I.fV x c e);exact ⟨_,q,hd⟩
  ·exact ⟨o,keep c o (I.cne x c e) hc nch ho (I.fV x c e),hd⟩
 refine ⟨I.ok,I.os,hg,⟨fun b o e n hb hx=>?_,fun b o e n hb hx=>?_,fun b o e n hx=>?_,fun b o e hx=>?_,fun b xs e=>kB b xs (I.base.kB b xs e),fun b o xs e=>jY b o xs (I.base.jY b o xs e),fun b ps e=>?_⟩,?_,fun x c e=>?_,?_,fun x c e=>?_,fun p hp=>?_,hok,I.len⟩
 ·exact keep b o (neL b o e) hb (neC b o e hx) (I.base.keep b o e n hb hx) (I.base.free b o e n hx)
 ·obtain ⟨sl,e1⟩:=I.base.slot b o e n hb hx;obtain ⟨sl',e2⟩:=slot b _ (neL b o e) hb (neC b o e hx) e1 (I.base.free b o e n hx);exact ⟨sl',e2⟩
 ·obtain ⟨o',e1⟩:=I.base.there b o e hx;exact free b o' (neC b o e hx) e1 (I.base.free b o e n hx)
 ·obtain ⟨o',e1⟩:=I.base.there b o e hx;exact there b o' (neC b o e hx) e1
 ·obtain ⟨m1,e1⟩:=I.base.kr b ps e;obtain ⟨m2,e2⟩:=kr b _ e1;exact ⟨m1++m2,by rw [e2,Array.append_assoc]⟩
 ·obtain ⟨m,hn,hl⟩:=I.loc;refine ⟨m,ns m hn,fun i x v e1 e2 e3=>?_⟩;obtain ⟨u,r,l⟩:=hl i x v e1 e2 e3;refine ⟨u,r,?_⟩;rcases l with l|⟨k,c,e,z⟩
  ·exact .inl l
  ·exact .inr ⟨k,c,e,cellK x c e _ z⟩
 ·obtain ⟨v,z⟩:=I.cell x c e;exact ⟨v,cellK x c e v z⟩
 ·obtain ⟨m,⟨o,_,_,ho,_⟩,_⟩:=I.loc;exact free _ o (fun z=>(hch _ z).2.1 rfl) ho I.free
 ·obtain ⟨v,o,ho,hd⟩:=I.cell x c e;exact free c o (fun z=>(hch c z).2.2.1 x c e rfl) ho (I.fV x c e)
 ·obtain ⟨e,n,ne,nf,d⟩:=I.pin p hp;have nch:p.1∉ch:=fun z=>(hch p.1 z).2.2.2 p hp rfl;exact ⟨keep p.1 p.2 ne nf nch e n,free p.1 p.2 nch e n,ne,nf,d⟩
theorem Inv.un {t':Nat} (I:Inv X pins σ H s) (u:Un X.fs [] H H' s.heap h') (hok:HOk X.prog X.w H' h'):Inv X pins σ H' { s with heap:=h',toks:=t' }:=by
 obtain ⟨m,⟨o,es,ep,ho,r⟩,_⟩:=id I.loc;obtain ⟨sl,hL⟩:=u.any ho I.free (by simp)
 exact I.step (g':=s.gens) (d':=s.drawn) (ch:=[]) (fun _ z=>nomatch z) (fun b o _ hb _ e n=>u.keep b o e n hb (by simp)) (fun b o _ hb _ e n=>u.slot b o e n hb (by simp)) (fun b o _ e n=>u.free b o e n (by simp)) (fun b o _ e=>u.there b o e (by simp)) u.kB u.jY u.kr (fun m' hm=>by
  obtain ⟨o',es',ep',ho',r'⟩:=hm;rw [ho] at ho';cases ho';exact ⟨_,es',ep',hL,r'⟩) hok I.bare
theorem Inv.call {g':Array PQ} {t':Nat} {d':Drawn} {ch:List Addr} (I:Inv X pins σ H s) (u:Un (frs X.stack) ch H H' s.heap h') (hok:HOk X.prog X.w H' h') (hg:QQ g')
  (hch:∀ b∈ch,(b∈X.ex\/X.s₀.heap.objs.size<=b)/\b≠X.env.locals/\(∀ x c,X.env.cells.lookup x=some c->c≠b)/\∀ p∈X.pn++pins,p.1≠b) :
  Inv X pins σ H' { s with heap:=h',gens:=g',drawn:=d',toks:=t' }:=by
 obtain ⟨m,⟨o,es,ep,ho,r⟩,_⟩:=id I.loc;obtain ⟨sl,hL⟩:=u.any ho I.free fun z=>(hch _ z).2.1 rfl;exact I.step (ch:=ch) hch (fun b o hL hb hc e n=>u.keep b o e n (fun z=>(Mv.mp (I.so b z)).elim hL hb) hc) (fun b o _ _ hc e n=>u.any e n hc) (fun b o hc e n=>u.free b o e n hc) (fun b o hc e=>u.there b o e hc) u.kB u.jY u.kr (fun m' hm=>by
  obtain ⟨o',es',ep',ho',r'⟩:=hm;rw [ho] at ho';cases ho';exact ⟨_,es',ep',hL,r'⟩) hok hg
theorem Inv.turned {t':Nat} {it:Addr} (I:Inv X pins σ H s) (k:∀ b o,b≠it->s.heap.get? b=some o->h'.get? b=some o) (hn:H it=none) (hL:it≠X.env.locals)
  (h1:it∈X.ex\/X.s₀.heap.objs.size<=it) (h2:∀ x c,X.env.cells.lookup x=some c->c≠it) (h3:∀ p∈X.pn++pins,p.1≠it):Inv X pins σ H { s with heap:=h',toks:=t' }:=by
 have nit:∀ b u,H b=some u->b≠it:=fun b u e z=>by rw [z,hn] at e;cases e
 refine I.step (g':=s.gens) (d':=s.drawn) (ch:=[it]) (fun b hb=>?_) (fun b o _ _ hc e _=>k b o (fun z=>hc (by simp [z])) e) (fun b o _ _ hc e _=>⟨o.slots,k b o (fun z=>hc (by simp [z])) e⟩) (fun _ _ _ _ n=>n)
  (fun b o hc e=>⟨o,k b o (fun z=>hc (by simp [z])) e⟩) (fun _ _ e=>e) (fun _ _ _ e=>e) (fun b ps e=>⟨#[],by rw [e];simp⟩) (fun m hm=>?_) (fun b u e=>?_) I.bare
 ·have e:b=it:=by simpa using hb
  subst e;exact ⟨h1,hL,h2,h3⟩
 ·obtain ⟨o,es,ep,ho,r⟩:=hm;exact ⟨o,es,ep,k _ o (NY hL) ho,r⟩
 ·refine (I.hok b u e).qD (fun c v hc q=>k c v ?_ q) (fun _ q=>q) fun _ _ q=>q;rcases hc with z|z
  ·rw [z];exact nit b u e
  ·exact nit c _ z
theorem Inv.tok (I:Inv X pins σ H s) (t:Nat):Inv X pins σ H { s with toks:=t }:=I.un (h':=s.heap) (t':=t) Un.refl I.hok
theorem Inv.kept {t':Nat} (I:Inv X pins σ H s) (k:∀ b u,s.heap.get? b=some u->h'.get? b=some u):Inv X pins σ H { s with heap:=h',toks:=t' }:=I.un (Un.kept k) (I.hok.kept k)
theorem Inv.laid {a:Addr} {o:HO} {t':Nat} (I:Inv X pins σ H s) (k:∀ b u,s.heap.get? b=some u->h'.get? b=some u) (hp:s.heap.objs.size<=a) (new:cA X.prog X.w (upd H a o) h' a o) :
  Inv X pins σ (upd H a o) { s with heap:=h',toks:=t' }:=I.un (Un.laid k hp (I.hok.fresh hp)) (I.hok.laid k hp new)
theorem Inv.write {x e:Addr} {o:HO} {t':Nat} (I:Inv X pins σ H s) (mu:Mut (H x)) (he:e=x\/H e=some (.own x)) (k:∀ b u,b≠e->s.heap.get? b=some u->h'.get? b=some u) (heo:∃ u,h'.get? e=some u)
  (new:cA X.prog X.w (upd H x o) h' x o):Inv X pins σ (upd H x o) { s with heap:=h',toks:=t' }:=I.un (Un.write mu he k heo) (I.hok.write mu he k heo new)
theorem Inv.Ci {pins':List (Addr×Obj)} (I:Inv X pins σ H s) (h:∀ p∈pins',s.heap.get? p.1=some p.2/\H p.1=none/\p.1≠X.env.locals/\p.1∉X.fs/\∀ v,p.2.data≠.cell v):Inv X pins' σ H s :=
 ⟨I.ok,I.os,I.bare,I.base,I.loc,I.cell,I.free,I.fV,fun p hp=>(MD.mp hp).elim (fun z=>I.pin p (Nm _ z)) (h p),I.hok,I.len⟩
theorem u9 {N:List Str} (hN:N.Nodup) {i j:Nat} {x:Str} (a:N[i]?=some x) (b:N[j]?=some x):i=j:=by
 obtain ⟨h1,e1⟩:=LR.mp a;obtain ⟨h2,e2⟩:=LR.mp b;exact (P0 hN).mp (e1.trans e2.symm)
theorem yP {M:Model} {A:MR} {E:Value->LU->Prop} {i:Nat} {x:Str} {v:V} {u:Value} {Q:Unit->LU->Prop} (I:Inv X pins σ H s) (hN:X.N.Nodup) (hi:X.N[i]?=some x) (hx:Loc X.env.scope x) (r:RelV v u)
  (h:∀ s',Inv X pins (σ.set i (some v)) H s'->(∃ a,O5 a s.heap s'.heap/\(a=X.env.locals\/X.env.cells.lookup x=some a))->Q () s') (hf:X.fn x=true\/X.env.scope.names.lookup x=some .local:=by first|exact .inl rfl|exact .inr rfl|assumption):wpAny M A (storeName X.env x u) Q E s:=by
 obtain ⟨m,hn,hl⟩:=id I.loc;have hcls:(X.env.scope.kind == .class || (X.env.scope.kind == .module && X.env.locals != X.env.globals))=false:=by rw [I.ok.kind];rfl
 have hiσ:i<σ.length:=by rw [I.len];exact (LR.mp hi).1
 have cne:=I.cne;have tracked:∀ {a:Addr} {h':Heap},(∃ o,s.heap.get? a=some o/\H a=none)->O5 a s.heap h'->HOk X.prog X.w H h':=fun {a h'} ha hs b ob e=>by
  obtain ⟨_,_,hfree⟩:=ha;refine (I.hok b ob e).qD (fun c w' hc q=>(hs.2 c ?_).trans q) (fun _ q=>q) fun _ _ q=>q;rintro rfl;rcases hc with rfl|hc
  ·rw [hfree] at e;cases e
  ·rw [hfree] at hc;cases hc
 rcases hx with hk|hk
 ·refine wpAny_storeName_local hk hn (fun h' hn' hs=>?_) hcls;obtain ⟨oL,_,_,hoL,_⟩:=id hn;refine h _ ⟨I.ok,I.os,I.bare,⟨fun b o e n hb hx=>?_,fun b o e n hb hx=>?_,I.base.free,fun b o e hx=>?_,I.base.kB,I.base.jY,I.base.kr⟩,⟨_,hn',fun j y v' e1 e2 e3=>?_⟩,fun y c e=>?_,I.free,I.fV,fun p hp=>?_,tracked ⟨oL,hoL,I.free⟩ hs,by simpa using I.len⟩ ⟨_,hs,.inl rfl⟩
  ·exact (hs.2 b (Mn (Mi (Mf e) I.ok.above))).trans (I.base.keep b o e n hb hx)
  ·obtain ⟨sl,e1⟩:=I.base.slot b o e n hb hx;exact ⟨sl,(hs.2 b (Mn (Mi (Mf e) I.ok.above))).trans e1⟩
  ·obtain ⟨o',e1⟩:=I.base.there b o e hx;exact ⟨o',(hs.2 b (Mn (Mi (Mf e) I.ok.above))).trans e1⟩
  ·by_cases hj:j=i
   ·subst hj;rw [hi] at e1;cases e1;rw [Nz hiσ] at e2;cases e2;exact ⟨u,r,.inl ⟨hk,by simp⟩⟩
   ·rw [NT (NY hj)] at e2;obtain ⟨u',r',q⟩:=hl j y v' e1 e2 e3;refine ⟨u',r',?_⟩;rcases q with ⟨k,e⟩|⟨k,c,e,z⟩
    ·refine .inl ⟨k,?_⟩;have:y≠x:=fun e=>hj (u9 hN e1 (e ▸ hi));simp [this,e]
    ·exact .inr ⟨k,c,e,z.sameBut hs (cne y c e)⟩
  ·obtain ⟨w',z⟩:=I.cell y c e;exact ⟨w',z.sameBut hs (cne y c e)⟩
  ·obtain ⟨e,n,ne,nf,d⟩:=I.pin p hp;exact ⟨(hs.2 p.1 ne).trans e,n,ne,nf,d⟩
 ·have hfn:X.fn x=true:=by
   rcases hf with z|z
   ·exact z
   ·rw [z] at hk;cases hk
  obtain ⟨c,hc⟩:=I.ok.has x (.inl hk);obtain ⟨w',z⟩:=I.cell x c hc;refine wpAny_storeName_cell I.ok.kind hk hc z (fun h' hc' hs=>?_);obtain ⟨oc,hoc,hocd⟩:=id z;refine h { s with heap:=h' } ⟨I.ok,I.os,I.bare,⟨fun b o e n hb hx=>?_,fun b o e n hb hx=>?_,I.base.free,fun b o e hx=>?_,I.base.kB,I.base.jY,I.base.kr⟩,⟨m,hn.sameBut hs (NY (cne x c hc)),fun j y v' e1 e2 e3=>?_⟩,fun y c' e=>?_,I.free,I.fV,fun p hp=>?_,tracked ⟨oc,hoc,I.fV x c hc⟩ hs,by simpa using I.len⟩ ⟨c,hs,.inr hc⟩
  ·exact (hs.2 b (Mn (Mi (Mf e) (I.ok.cab x c hfn hc)))).trans (I.base.keep b o e n hb hx)
  ·obtain ⟨sl,e1⟩:=I.base.slot b o e n hb hx;exact ⟨sl,(hs.2 b (Mn (Mi (Mf e) (I.ok.cab x c hfn hc)))).trans e1⟩
  ·obtain ⟨o',e1⟩:=I.base.there b o e hx;exact ⟨o',(hs.2 b (Mn (Mi (Mf e) (I.ok.cab x c hfn hc)))).trans e1⟩
  ·by_cases hj:j=i
   ·subst hj;rw [hi] at e1;cases e1;rw [Nz hiσ] at e2;cases e2;exact ⟨u,r,.inr ⟨.inl hk,c,hc,hc'⟩⟩
   ·rw [NT (NY hj)] at e2;obtain ⟨u',r',q⟩:=hl j y v' e1 e2 e3;refine ⟨u',r',?_⟩;rcases q with q|⟨k,c',e,z'⟩
    ·exact .inl q
    ·refine .inr ⟨k,c',e,z'.sameBut hs ?_⟩;rintro rfl;exact hj (u9 hN e1 (I.ok.inj _ _ _ e hc ▸ hi))
  ·by_cases hcc:c'=c
   ·subst hcc;exact ⟨_,hc'⟩
   ·obtain ⟨w2,z2⟩:=I.cell y c' e;exact ⟨w2,z2.sameBut hs hcc⟩
  ·obtain ⟨e,n,ne,nf,d⟩:=I.pin p hp;refine ⟨(hs.2 p.1 ?_).trans e,n,ne,nf,d⟩;intro q;rw [q,hoc] at e;have q':oc=p.2:=MK e;exact d w' (by rw [<- q'];exact hocd)
theorem nV {M:Model} {A:MR} {E:Value->LU->Prop} {i:Nat} {x:Str} {v:V} {u:Value} {Q:Unit->LU->Prop} (I:Inv X pins σ H s) (hN:X.N.Nodup) (hi:X.N[i]?=some x) (hx:Loc X.env.scope x) (r:RelV v u)
  (h:∀ s',Inv X pins (σ.set i (some v)) H s'->Q () s') (hf:X.fn x=true\/X.env.scope.names.lookup x=some .local:=by first|exact .inl rfl|exact .inr rfl|assumption):wpAny M A (storeName X.env x u) Q E s :=
 yP I hN hi hx r (fun s' I' _=>h s' I') hf
theorem Inv.C5 {s':LU} {ch:List Addr} (I:Inv X pins σ H s) (ho:s'.os=s.os) (u:Un (frs X.stack) ch H H' s.heap s'.heap) (hok:HOk X.prog X.w H' s'.heap) (hg:QQ s'.gens)
  (hch:∀ b∈ch,(b∈X.ex\/X.s₀.heap.objs.size<=b)/\b≠X.env.locals/\(∀ x c,X.env.cells.lookup x=some c->c≠b)/\∀ p∈X.pn++pins,p.1≠b):Inv X pins σ H' s':=by
 obtain ⟨h',g',d',t',o'⟩:=s';have e:o'=s.os:=ho;subst e;exact I.call (g':=g') (t':=t') (d':=d') u hok hg hch
end
abbrev XK:=Value->Option Addr->Hp->Prop
abbrev St:=List (Option V)
abbrev VK:=V->Hp->Prop
abbrev TE:=St->Hp->VK->Prop
abbrev TT:=St->Hp->(Bool->Hp->Prop)->Prop
abbrev TA:=St->Hp->(List V->Hp->Prop)->Prop
structure Ends where
 nx:St->Hp->Prop
 rt:VK
 bk:St->Hp->Prop:=fun _ _=>False
 ct:St->Hp->Prop:=fun _ _=>False
abbrev TS:=Ends->St->Hp->Prop
def EP (X:Cx) (pins:List (Addr×Obj)) (σ:St) (Q:VK) (u:Value) (s':LU):Prop:=∃ v H',Inv X pins σ H' s'/\RelV v u/\Q v H'
def TP (X:Cx) (pins:List (Addr×Obj)) (σ:St) (Q:Bool->Hp->Prop) (b:Bool) (s':LU):Prop:=∃ H',Inv X pins σ H' s'/\Q b H'
def AP (X:Cx) (pins:List (Addr×Obj)) (σ:St) (Q:List V->Hp->Prop) (us:List Value) (s':LU):Prop:=∃ vs H',Inv X pins σ H' s'/\Vals vs us/\Q vs H'
def SP (X:Cx) (pins:List (Addr×Obj)) (D:Ends) (f:Flow) (s':LU):Prop :=
 match f with
 | .next=>∃ σ' H',Inv X pins σ' H' s'/\D.nx σ' H'
 | .brk=>∃ σ' H',Inv X pins σ' H' s'/\D.bk σ' H'
 | .cont=>∃ σ' H',Inv X pins σ' H' s'/\D.ct σ' H'
 | .ret u=>∃ v σ' H',Inv X pins σ' H' s'/\RelV v u/\D.rt v H'
def PE (X:Cx) (e:Expr) (t:TE):Prop :=
 ∀ (pins:List (Addr×Obj)) (s:LU) (σ:St) (H:Hp) (Q:VK),Inv X pins σ H s->t σ H Q->wpAny (model X.prog X.w) X.A (eval e X.env) (EP X pins σ Q) X.xe s
def PT (X:Cx) (e:Expr) (t:TT):Prop :=
 ∀ (pins:List (Addr×Obj)) (s:LU) (σ:St) (H:Hp) (Q:Bool->Hp->Prop),Inv X pins σ H s->t σ H Q->wpAny (model X.prog X.w) X.A (isTrue e X.env (eval e X.env)) (TP X pins σ Q) X.xe s
def PW (X:Cx) (e:Expr) (t:TT):Prop :=
 ∀ (whole:Sem Value) (pins:List (Addr×Obj)) (s:LU) (σ:St) (H:Hp) (Q:Bool->Hp->Prop),Inv X pins σ H s->t σ H Q->wpAny (model X.prog X.w) X.A (isTrue e X.env whole) (TP X pins σ Q) X.xe s
theorem PW.pt {X:Cx} {e:Expr} {t:TT} (h:PW X e t):PT X e t:=h _
def PA (X:Cx) (es:List Expr) (t:TA):Prop :=
 ∀ (pos:Pos) (pins:List (Addr×Obj)) (s:LU) (σ:St) (H:Hp) (Q:List V->Hp->Prop),Inv X pins σ H s->t σ H Q->wpAny (model X.prog X.w) X.A (spliced (backTo pos (MU es X.env))) (AP X pins σ Q) X.xe s
def PS (X:Cx) (st:Stmt) (t:TS):Prop :=
 ∀ (pins:List (Addr×Obj)) (s:LU) (σ:St) (H:Hp) (D:Ends),Inv X pins σ H s->t D σ H->wpAny (model X.prog X.w) X.A (exec st X.env) (SP X pins D) X.xe s
def PSs (X:Cx) (st:List Stmt) (t:TS):Prop :=
 ∀ (pins:List (Addr×Obj)) (s:LU) (σ:St) (H:Hp) (D:Ends),Inv X pins σ H s->t D σ H->wpAny (model X.prog X.w) X.A (execs st X.env) (SP X pins D) X.xe s
theorem thn {α:Type} {t:Sem α} {Q Q':α->LU->Prop} {M:Model} {A:MR} {E:Value->LU->Prop} {s:LU} (h:wpAny M A t Q E s) (hQ:∀ a s,Q a s->Q' a s):wpAny M A t Q' E s:=Nj h hQ fun _ _ x=>x
section
variable {X:Cx}
def DY (i:Nat):TE:=fun σ H Q=>∃ v,σ[i]?=some (some v)/\Q v H
def tC (v:V):TE:=fun _ H Q=>Q v H
theorem Kn {i:Nat} {x:Str} {pos:Pos} (hN:X.N[i]?=some x) (hv:Vis X.env.scope x) (hd:(x == ("__debug__" : Str))=false:=by decide) (hcd:(x == ("__classdict__" : Str))=false:=by decide):PE X (.Name x pos) (DY i):=by
 intro pins s σ H Q I h;obtain ⟨v,e,h⟩:=h;obtain ⟨m,hn,hl⟩:=I.loc;obtain ⟨u,r,l⟩:=hl i x v hN e hv;have fin:EP X pins σ Q u s:=⟨v,H,I,r,h⟩;rcases l with ⟨hk,hm⟩|⟨hk,c,hc,hcell⟩
 ·exact wpAny_Name (wpAny_loadName_local I.ok.kind hk hn hm fin) hd
 ·rcases hk with hk|hk
  ·exact wpAny_Name (wpAny_loadName_cell I.ok.kind hk hc hcell fin) hd
  ·exact wpAny_Name (wpAny_loadName_free I.ok.kind hk hc hcell fin hcd) hd
theorem ag {i j pos}:PE X (.Constant (.int i) j pos) (tC (.int i)):=fun _ _ _ H _ I h=>wpAny_Constant_int ⟨.int i,H,I.tok _,⟨_,rfl⟩,h⟩
theorem i8 {b j pos}:PE X (.Constant (.bool b) j pos) (tC (.bl b)):=fun _ _ _ H _ I h=>Constant_bool ⟨.bl b,H,I,rfl,h⟩
theorem vj {j pos}:PE X (.Constant .none j pos) (tC .non):=fun _ _ _ H _ I h=>Sg ⟨.non,H,I,rfl,h⟩
theorem cj {x j pos}:PE X (.Constant (.str x) j pos) (tC (.str x)):=fun _ _ _ H _ I h=>Calls.Constant_str ⟨.str x,H,I.tok _,⟨_,rfl⟩,h⟩
def Gl (X:Cx) (x:Str):Prop:=X.env.kindOf x=some .globalImplicit
theorem mw {E:Value->LU->Prop} {pins:List (Addr×Obj)} {s:LU} {σ:St} {H:Hp} {x:Str} {u:Value} {pos:Pos} {Q:Value->LU->Prop} (I:Inv X pins σ H s) (hg:Gl X x) (hm:X.mg x=some u) (h:Q u s)
  (hd:(x == ("__debug__" : Str))=false:=by decide):wpAny (model X.prog X.w) X.A (eval (.Name x pos) X.env) Q E s :=
 Qj I.ok.kind hg (Calls.loadGlobal_global (by rw [I.ok.glob];exact I.mod.glob.keeps I.bk) hm h) hd
theorem oz {E:Value->LU->Prop} {pins:List (Addr×Obj)} {s:LU} {σ:St} {H:Hp} {x:Str} {u:Value} {pos:Pos} {Q:Value->LU->Prop} (I:Inv X pins σ H s) (hg:Gl X x) (hm:X.mg x=none) (hv:bootBuiltins x=some u) (h:Q u s)
  (hn:x ≠ "__name__":=by decide) (hd:(x == ("__debug__" : Str))=false:=by decide):wpAny (model X.prog X.w) X.A (eval (.Name x pos) X.env) Q E s:=by
 obtain ⟨mb,h1,h2⟩:=I.mod.blt;exact Qj I.ok.kind hg (Calls.loadGlobal_builtin (by rw [I.ok.glob];exact I.mod.glob.keeps I.bk) hm (by rw [I.ok.blt];exact h1.keeps I.bk) ((h2 x hn).trans hv) h) hd
theorem cD {x:Str} {v:V} {u:Value} {pos:Pos} (hg:Gl X x) (hm:X.mg x=some u) (r:RelV v u) (hd:(x == ("__debug__" : Str))=false:=by decide):PE X (.Name x pos) (tC v) :=
 fun _ _ _ H _ I h=>mw I hg hm ⟨v,H,I,r,h⟩ hd
theorem IM {x:Str} {v:V} {u:Value} {pos:Pos} (hg:Gl X x) (hm:X.mg x=none) (hv:bootBuiltins x=some u) (r:RelV v u) (hn:x ≠ "__name__":=by decide) (hd:(x == ("__debug__" : Str))=false:=by decide):PE X (.Name x pos) (tC v) :=
 fun _ _ _ H _ I h=>oz I hg hm hv ⟨v,H,I,r,h⟩ hn hd
variable {a b:Expr} {ta tb:TE} {pos:Pos}
def PC (X:Cx) (op:CmpOp) (a b:Expr) (t:TE):Prop :=
 ∀ (pins:List (Addr×Obj)) (s:LU) (σ:St) (H:Hp) (Q:VK),Inv X pins σ H s->t σ H Q ->
  wpAny (model X.prog X.w) X.A (eval a X.env) (fun v s₁=>wpAny (model X.prog X.w) X.A (eval b X.env) (fun u s₂=>wpAny (model X.prog X.w) X.A (compareOp op v u) (EP X pins σ Q) X.xe s₂) X.xe s₁) X.xe s
theorem zU (b:Expr) {op:CmpOp} (h:op≠.In) (h2:op≠.NotIn):behindInMarks op b=false:=by
 have e1:(op == CmpOp.In)=false:=by cases op <;> first|rfl|exact absurd rfl h
 have e2:(op == CmpOp.NotIn)=false:=by cases op <;> first|rfl|exact absurd rfl h2
 cases b <;> simp [behindInMarks,e1,e2]
def Kb (ta:TE):TE:=fun σ H Q=>ta σ H fun x H1=>Q (.bl (decide (x=.non))) H1
def ID (ta:TE):TE:=fun σ H Q=>ta σ H fun x H1=>Q (.bl (!decide (x=.non))) H1
theorem RelV.Ay {x:V} {v:Value} (r:RelV x v):(v == Ow)=decide (x=.non):=by
 cases x with
 | non=>cases r;rfl
 | bl _=>cases r;rfl
 | int _=>obtain ⟨t,rfl⟩:=r;rfl
 | str _=>obtain ⟨t,rfl⟩:=r;rfl
 | byt _=>obtain ⟨t,rfl⟩:=r;rfl
 | flt _=>obtain ⟨t,rfl⟩:=r;rfl
 | ref _=>cases r;rfl
 | ty _=>cases r;rfl
theorem vw {j pos'} (ha:PE X a ta):PC X .Is a (.Constant .none j pos') (Kb ta):=by
 intro pins s σ H Q I h;refine thn (ha pins s σ H _ I h) fun v s1 ⟨x,H1,I1,r1,q1⟩=>?_;exact Sg (is_none_gen ⟨.bl _,H1,I1,by rw [r1.Ay];rfl,q1⟩)
theorem IT {j pos'} (ha:PE X a ta):PC X .IsNot a (.Constant .none j pos') (ID ta):=by
 intro pins s σ H Q I h;refine thn (ha pins s σ H _ I h) fun v s1 ⟨x,H1,I1,r1,q1⟩=>?_;exact Sg (isnot_none_gen ⟨.bl _,H1,I1,by rw [r1.Ay];rfl,q1⟩)
def tB (t:TE):TT:=fun σ H Q=>t σ H fun x H1=>∃ c,x=.bl c/\Q c H1
theorem Km {op:CmpOp} {t:TE} (h:PC X op a b t) (h1:behindInMarks op b=false:=by first|exact zU _ (by decide) (by decide)|rfl):PE X (.Compare a [op] [b] pos) t:=fun pins s σ H Q I hw=>wpAny_Compare1 (h pins s σ H Q I hw) h1
theorem wF {op:CmpOp} {t:TE} (h:PC X op a b t) (h1:behindInMarks op b=false:=by first|exact zU _ (by decide) (by decide)|rfl):PT X (.Compare a [op] [b] pos) (tB t):=by
 intro pins s σ H Q I hw;refine Rt (thn (h pins s σ H _ I hw) fun v s1 h1=>thn h1 fun u s2 h2=>thn h2 fun c s3 ⟨x,H1,I1,r1,q1⟩=>?_) h1;obtain ⟨d,rfl,q⟩:=q1;cases r1;exact Od ⟨H1,I1,q⟩
theorem kb {e:Expr} {t:TE} (h:PE X e t) (he:∀ whole,isTrue e X.env whole=(do let v <- whole;standAt e.pos;holding [v] (truthy v)):=by intro _;rfl):PT X e (tB t):=by
 intro pins s σ H Q I hw;refine isTrue_plain (thn (h pins s σ H _ I hw) fun v s1 ⟨x,H1,I1,r1,q1⟩=>?_) (he _);obtain ⟨d,rfl,q⟩:=q1;cases r1;exact Od ⟨H1,I1,q⟩
variable {tA tB':TT} {rest:List Expr}
def KN (t u:TT):TT:=fun σ H Q=>t σ H fun c H1=>if c=true then u σ H1 Q else Q false H1
def tOr (t u:TT):TT:=fun σ H Q=>t σ H fun c H1=>if c=true then Q true H1 else u σ H1 Q
def J4 (t:TT):TT:=fun σ H Q=>t σ H fun c H1=>Q (!c) H1
theorem iQ (ha:PT X a tA):PW X (.BoolOp .And [a] pos) tA:=by
 intro wh pins s σ H Q I h;refine isTrue_and (thn (ha pins s σ H Q I h) fun c s1 e=>?_);cases c with
 | true=>exact isTrue_and_nil e
 | false=>exact e
theorem oj (ha:PT X a tA):PW X (.BoolOp .Or [a] pos) tA:=by
 intro wh pins s σ H Q I h;refine isTrue_or (thn (ha pins s σ H Q I h) fun c s1 e=>?_);cases c with
 | false=>exact isTrue_or_nil e
 | true=>exact e
theorem iH (ha:PT X a tA) (hb:PW X (.BoolOp .And (b :: rest) pos) tB'):PW X (.BoolOp .And (a :: b :: rest) pos) (KN tA tB'):=by
 intro wh pins s σ H Q I h;refine isTrue_and (thn (ha pins s σ H _ I h) fun c s1 ⟨H1,I1,q1⟩=>?_);cases c with
 | true=>exact hb wh pins s1 σ H1 Q I1 q1
 | false=>exact ⟨H1,I1,q1⟩
theorem oM (ha:PT X a tA) (hb:PW X (.BoolOp .Or (b :: rest) pos) tB'):PW X (.BoolOp .Or (a :: b :: rest) pos) (tOr tA tB'):=by
 intro wh pins s σ H Q I h;refine isTrue_or (thn (ha pins s σ H _ I h) fun c s1 ⟨H1,I1,q1⟩=>?_);cases c with
 | true=>exact ⟨H1,I1,q1⟩
 | false=>exact hb wh pins s1 σ H1 Q I1 q1
theorem ou (ha:PT X a tA):PT X (.UnaryOp .Not a pos) (J4 tA):=by
 intro pins s σ H Q I h;exact isTrue_not (ha pins s σ H (fun c H1=>Q (!c) H1) I h)
def Iy (ta tb:TE):TE:=fun σ H Q=>ta σ H fun x H1=>∃ c,x=.bl c/\if c=true then tb σ H1 Q else Q (.bl false) H1
def KH (ta tb:TE):TE:=fun σ H Q=>ta σ H fun x H1=>∃ c,x=.bl c/\if c=true then Q (.bl true) H1 else tb σ H1 Q
theorem qh {op} {t:TE} (h:PE X a t):PE X (.BoolOp op [a] pos) t:=fun pins s σ H Q I hw=>BoolOp_one (h pins s σ H Q I hw)
theorem lM (ha:PE X a ta) (hb:PE X (.BoolOp .And (b :: rest) pos) tb):PE X (.BoolOp .And (a :: b :: rest) pos) (Iy ta tb):=by
 intro pins s σ H Q I h;refine BoolOp_and (thn (ha pins s σ H _ I h) fun v s1 ⟨x,H1,I1,r1,q1⟩=>?_);obtain ⟨c,rfl,q1⟩:=q1;cases r1;refine Od ?_;cases c with
 | true=>exact hb pins s1 σ H1 Q I1 q1
 | false=>exact ⟨.bl false,H1,I1,rfl,q1⟩
theorem Lj (ha:PE X a ta) (hb:PE X (.BoolOp .Or (b :: rest) pos) tb):PE X (.BoolOp .Or (a :: b :: rest) pos) (KH ta tb):=by
 intro pins s σ H Q I h;refine BoolOp_or (thn (ha pins s σ H _ I h) fun v s1 ⟨x,H1,I1,r1,q1⟩=>?_);obtain ⟨c,rfl,q1⟩:=q1;cases r1;refine Od ?_;cases c with
 | false=>exact hb pins s1 σ H1 Q I1 q1
 | true=>exact ⟨.bl true,H1,I1,rfl,q1⟩
end
def SqL (K:LN) (H:Hp) (a:Addr) (xs:List V):Prop :=
 Rd H a (.lst xs) \/
  ∃ (o:Obj) (its:Array Value) (n:Nat),K.lookup a=some o/\o.cls=.type "list" /\ o.dict=none/\o.data=.seq its n/\its.size<=MF/\Vals xs its.toList
def SqT (K:LN) (H:Hp) (a:Addr) (xs:List V):Prop :=
 Rd H a (.tup xs) \/
  ∃ (o:Obj) (its:Array Value) (n:Nat),K.lookup a=some o/\o.cls=.type "tuple" /\ o.data=.seq its n/\its.size<=MF/\Vals xs its.toList
def LC:Value->Option V
 | .none=>some .non
 | .bool b=>some (.bl b)
 | .int i _=>some (.int i)
 | .str x _=>some (.str x)
 | .bytes b _=>some (.byt b)
 | .float b _=>some (.flt b)
 | .ref a=>some (.ref a)
 | .type n=>some (.ty n)
 | _=>none
theorem RelV.abs {x:V} {u:Value} (r:RelV x u):LC u=some x:=by
 cases x with
 | non=>cases r;rfl
 | bl _=>cases r;rfl
 | int _=>obtain ⟨t,rfl⟩:=r;rfl
 | str _=>obtain ⟨t,rfl⟩:=r;rfl
 | byt _=>obtain ⟨t,rfl⟩:=r;rfl
 | flt _=>obtain ⟨t,rfl⟩:=r;rfl
 | ref _=>cases r;rfl
 | ty _=>cases r;rfl
theorem RelV.inj {x y:V} {u:Value} (r:RelV x u) (q:RelV y u):x=y:=MK (r.abs.symm.trans q.abs)
theorem Vals.inj:∀ {xs ys:List V} {us:List Value},Vals xs us->Vals ys us->xs=ys
 | _,_,_,.nil,.nil=>rfl
 | _,_,_,.cons r t,.cons r' t'=>by rw [r.inj r',Vals.inj t t']
section
variable {X:Cx} {pins:List (Addr×Obj)} {σ:St} {H:Hp} {s:LU} {a:Addr} {xs ys:List V}
theorem SqL.of {K:LN} (h:H a=some (.lst xs)):SqL K H a xs:=.inl (.inl h)
theorem SqT.of {K:LN} (h:H a=some (.tup xs)):SqT K H a xs:=.inl (.inl h)
theorem Inv.list (I:Inv X pins σ H s) (h:SqL X.K H a xs):∃ its:List Value,Vals xs its/\PlainL s.heap a its.toArray/\xs.length<=MF:=by
 rcases h with h|⟨o,its,n,hk,hc,hd,hs,hz,r⟩
 ·obtain ⟨z,its,n,r,e⟩:=h.ok I.hok;exact ⟨its,r,⟨_,n,e,rfl,rfl,rfl⟩,z⟩
 ·refine ⟨its.toList,r,⟨o,n,I.kIn a o hk,hc,hd,by simpa using hs⟩,?_⟩
  have e:=r.length;simp only [MP] at e;omega
theorem Inv.tuple (I:Inv X pins σ H s) (h:SqT X.K H a xs):∃ its:List Value,Vals xs its/\IsTup s.heap a its.toArray/\xs.length<=MF:=by
 rcases h with h|⟨o,its,n,hk,hc,hs,hz,r⟩
 ·obtain ⟨z,its,r,p⟩:=h.ok I.hok;exact ⟨its,r,p,z⟩
 ·refine ⟨its.toList,r,⟨o,I.kIn a o hk,hc,n,by simpa using hs⟩,?_⟩
  have e:=r.length;simp only [MP] at e;omega
theorem Inv.rO (I:Inv X pins σ H s) (h:SqL X.K H a xs) (h':SqL X.K H a ys):xs=ys:=by
 obtain ⟨its,r,⟨o,n,e,_,_,d⟩,_⟩:=I.list h;obtain ⟨its',r',⟨o',n',e',_,_,d'⟩,_⟩:=I.list h';rw [e] at e';cases e';rw [d] at d';injection d' with d1 _;have:its=its':=by simpa using congrArg Array.toList d1
 subst this;exact r.inj r'
theorem Inv.yE (I:Inv X pins σ H s) (h:SqT X.K H a xs) (h':SqT X.K H a ys):xs=ys:=by
 obtain ⟨its,r,⟨o,e,_,n,d⟩,_⟩:=I.tuple h;obtain ⟨its',r',⟨o',e',_,n',d'⟩,_⟩:=I.tuple h';rw [e] at e';cases e';rw [d] at d';injection d' with d1 _;have:its=its':=by simpa using congrArg Array.toList d1
 subst this;exact r.inj r'
end
abbrev Cx.jW (X:Cx) (E:Value->LU->Prop):Cx:={ X with xe:=E }
abbrev Cx.nox (X:Cx):Cx:=X.jW fun _ _=>False
theorem Cx.Ok.jW {X:Cx} (ok:X.Ok) (E:Value->LU->Prop):(X.jW E).Ok :=
 ⟨ok.mod,ok.kind,ok.glob,ok.blt,ok.above,ok.inj,ok.has,ok.cab,ok.hd,ok.frames,ok.stk,ok.exf,ok.bs,ok.bsz,ok.uM,ok.tG,ok.gn,ok.frf⟩
theorem Cx.Ok.eL {X:Cx} {E:Value->LU->Prop} (ok:(X.jW E).Ok):X.Ok :=
 ⟨ok.mod,ok.kind,ok.glob,ok.blt,ok.above,ok.inj,ok.has,ok.cab,ok.hd,ok.frames,ok.stk,ok.exf,ok.bs,ok.bsz,ok.uM,ok.tG,ok.gn,ok.frf⟩
section
variable {X:Cx} {pins:List (Addr×Obj)} {σ:St} {H:Hp} {s:LU} {E:Value->LU->Prop}
theorem Inv.jW (I:Inv X pins σ H s) (E:Value->LU->Prop):Inv (X.jW E) pins σ H s:=⟨I.ok.jW E,I.os,I.bare,I.base,I.loc,I.cell,I.free,I.fV,I.pin,I.hok,I.len⟩
theorem Inv.eL (I:Inv (X.jW E) pins σ H s):Inv X pins σ H s:=⟨I.ok.eL,I.os,I.bare,I.base,I.loc,I.cell,I.free,I.fV,I.pin,I.hok,I.len⟩
theorem SP.eL {D:Ends} {f:Flow} {s':LU} (h:SP (X.jW E) pins D f s'):SP X pins D f s':=by
 cases f with
 | next=>obtain ⟨σ',H',I,q⟩:=h;exact ⟨σ',H',I.eL,q⟩
 | brk=>obtain ⟨σ',H',I,q⟩:=h;exact ⟨σ',H',I.eL,q⟩
 | cont=>obtain ⟨σ',H',I,q⟩:=h;exact ⟨σ',H',I.eL,q⟩
 | ret u=>obtain ⟨v,σ',H',I,r,q⟩:=h;exact ⟨v,σ',H',I.eL,r,q⟩
theorem PSs.nox {st:List Stmt} {t:TS} (h:PSs X.nox st t):PSs X st t:=fun pins s σ H D I hw =>
 Nj (h pins s σ H D (I.jW _) hw) (fun _ _ q=>q.eL) fun _ _ z=>Nk z
end
section
variable {X:Cx} {st:Stmt} {rest:List Stmt} {t u:TS} {e:Expr} {te:TE} {pos:Pos}
def IA:TS:=fun D σ H=>D.nx σ H
def J9 (t u:TS):TS:=fun D σ H=>t { D with nx:=u D } σ H
theorem aN:PSs X [] IA:=fun _ _ σ H _ I h=>ON ⟨σ,H,I,h⟩
theorem ae (h1:PS X st t) (h2:PSs X rest u):PSs X (st :: rest) (J9 t u):=by
 intro pins s σ H D I h;refine Q8 (thn (h1 pins s σ H { D with nx:=u D } I h) fun f s1 q=>?_);cases f with
 | next =>
  obtain ⟨σ',H',I',q⟩:=q;exact h2 pins s1 σ' H' D I' q
 | ret v=>exact q
 | brk=>exact q
 | cont=>exact q
theorem ah (h1:PS X st t):PSs X [st] t:=by
 intro pins s σ H D I h;refine Q8 (thn (h1 pins s σ H D I h) fun f s1 q=>?_);cases f with
 | next=>exact ON q
 | ret v=>exact q
 | brk=>exact q
 | cont=>exact q
theorem Inv.quiet {pins:List (Addr×Obj)} {σ:St} {H:Hp} {s:LU} (I:Inv X pins σ H s):interactive X.env=false:=by simp [interactive,I.ok.kind]
def Ie (te:TE):TS:=fun D σ H=>te σ H fun _ H1=>D.nx σ H1
theorem bc (he:PE X e te) (hs:swapsWith e none pos.line X.env=pure false:=by rfl):PS X (.Expr e pos) (Ie te):=by
 intro pins s σ H D I h;exact wpAny_Expr_any (thn (he pins s σ H _ I h) fun v s1 ⟨x,H1,I1,r1,q1⟩=>⟨σ,H1,I1,q1⟩) I.quiet hs
def J3 (te:TE):TS:=fun D σ H=>te σ H D.rt
theorem aM (he:PE X e te):PS X (.Return (some e) pos) (J3 te):=by
 intro pins s σ H D I h;exact wpAny_Return_some (thn (he pins s σ H _ I h) fun v s1 ⟨x,H1,I1,r1,q1⟩=>⟨x,σ,H1,I1,r1,q1⟩)
def HV (c:TT) (t u:TS):TS:=fun D σ H=>c σ H fun b H1=>if b=true then t D σ H1 else u D σ H1
theorem aX {c:Expr} {a b:List Stmt} {tc:TT} (hc:PT X c tc) (ha:PSs X a t) (hb:PSs X b u):PS X (.If c a b pos) (HV tc t u):=by
 intro pins s σ H D I h;refine wpAny_If (thn (hc pins s σ H _ I h) fun d s1 ⟨H1,I1,q1⟩=>?_);cases d with
 | true=>exact ha pins s1 σ H1 D I1 q1
 | false=>exact hb pins s1 σ H1 D I1 q1
def Fv:TS:=fun _ _ _=>False
theorem cE:PS X st Fv:=fun _ _ _ _ _ _ h=>h.elim
theorem jh {sts:List Stmt}:PSs X sts Fv:=fun _ _ _ _ _ _ h=>h.elim
end
abbrev TG:=V->St->Hp->(St->Hp->Prop)->Prop
abbrev TGs:=List V->St->Hp->(St->Hp->Prop)->Prop
def PG (X:Cx) (target:Expr) (t:TG):Prop :=
 ∀ (pins:List (Addr×Obj)) (s:LU) (σ:St) (H:Hp) (v:V) (u:Value) (Q:St->Hp->Prop),Inv X pins σ H s->RelV v u->t v σ H Q ->
  wpAny (model X.prog X.w) X.A (assign target X.env u) (fun _ s'=>∃ σ' H',Inv X pins σ' H' s'/\Q σ' H') X.xe s
def PGs (X:Cx) (ts:List Expr) (t:TGs):Prop :=
 ∀ (pins:List (Addr×Obj)) (s:LU) (σ:St) (H:Hp) (vs:List V) (us:List Value) (Q:St->Hp->Prop),Inv X pins σ H s->Vals vs us->t vs σ H Q ->
  wpAny (model X.prog X.w) X.A (assignInOrder ((assignEach ts X.env).map (·.2)) us) (fun _ s'=>∃ σ' H',Inv X pins σ' H' s'/\Q σ' H') X.xe s
abbrev Dh:=V->V->V->Hp->(Hp->Prop)->Prop
def Kg (X:Cx) (t:Dh):Prop :=
 ∀ (pins:List (Addr×Obj)) (s:LU) (σ:St) (H:Hp) (o i v:V) (ov iv u:Value) (Q:Hp->Prop),Inv X pins σ H s->RelV o ov->RelV i iv->RelV v u->t o i v H Q ->
  wpAny (model X.prog X.w) X.A (setItem ov iv u) (fun _ s'=>∃ H',Inv X pins σ H' s'/\Q H') X.xe s
section
variable {X:Cx} {pos:Pos}
def ig (i:Nat):TG:=fun v σ H Q=>Q (σ.set i (some v)) H
theorem aD {i:Nat} {x:Str} (hN:X.N.Nodup) (hi:X.N[i]?=some x) (hx:Loc X.env.scope x) (hf:X.fn x=true\/X.env.scope.names.lookup x=some .local:=by first|exact .inl rfl|exact .inr rfl|assumption):PG X (.Name x pos) (ig i):=by
 intro pins s σ H v u Q I r h;exact wpAny_assign_Name (nV I hN hi hx r (fun s' I'=>⟨_,H,I',h⟩) hf)
def xm:TGs:=fun vs σ H Q=>vs=[]/\Q σ H
def lU (t:TG) (u:TGs):TGs:=fun vs σ H Q=>∃ v r,vs=v :: r/\t v σ H fun σ' H'=>u r σ' H' Q
theorem kF:PGs X [] xm:=by
 intro pins s σ H vs us Q I r h;obtain ⟨e,h⟩:=h;subst e;cases r;exact assignInOrder_nil ⟨σ,H,I,h⟩
theorem cM {e:Expr} {es:List Expr} {t:TG} {u:TGs} (h1:PG X e t) (h2:PGs X es u)
  (hs:(assignEach (e :: es) X.env).map (·.2)=assign e X.env :: (assignEach es X.env).map (·.2):=by rfl):PGs X (e :: es) (lU t u):=by
 intro pins s σ H vs us Q I r h;obtain ⟨v,vr,e1,h⟩:=h;subst e1;cases r with
 | cons r rr =>
  rw [hs];refine Qm (thn (h1 pins s σ H _ _ _ I r h) fun _ s1 ⟨σ1,H1,I1,q1⟩=>?_);exact h2 pins s1 σ1 H1 _ _ Q I1 rr q1
def xR (K:LN) (n:Nat) (t:TGs):TG:=fun v σ H Q=>∃ a xs,v=.ref a/\SqT K H a xs/\xs.length=n/\t xs σ H Q
theorem m4 {es:List Expr} {k:Nat} {t:TGs} {n:Nat} (hc:X.calm=true) (h:PGs X es t)
  (hn:(assignEach es X.env).length=n:=by rfl) (hst:(assignEach es X.env).findIdx? (·.1)=none:=by rfl):PG X (.Tuple es k pos) (xR X.K n t):=by
 intro pins s σ H v u Q I r hw;obtain ⟨a,xs,e1,hq,hl,hw⟩:=hw;subst e1;cases r;obtain ⟨its,rv,ht,hz⟩:=I.tuple hq;refine assign_Tuple_tuple (I.ok.hd hc) ht (by simp [hn,<- hl,rv.length]) hst fun h' hx=>?_
 have I1:Inv X pins σ H { s with heap:=h' }:=I.kept (t':=s.toks) fun b o e=>hx b o (Mn (Mf e)) e;exact h pins _ σ H xs _ Q I1 (by simpa using rv) hw
def Kt (to ti:TE) (t:Dh):TG:=fun v σ H Q=>to σ H fun o H1=>ti σ H1 fun i H2=>t o i v H2 fun H3=>Q σ H3
theorem EO {o i:Expr} {to ti:TE} {t:Dh} (ho:PE X o to) (hi:PE X i ti) (hs:Kg X t)
  (ha:∀ v,assign (.Subscript o i pos) X.env v=(do
   let ov <- holding [v] (eval o X.env)
   let iv <- holding [v,ov] (eval i X.env)
   standAt pos
   holding [v,ov,iv] (setItem ov iv v)
   release [v,ov,iv] []):=by intro _;rfl):PG X (.Subscript o i pos) (Kt to ti t):=by
 intro pins s σ H v u Q I r h;rw [ha];refine LQ (Np (thn (ho pins s σ H _ I h) fun ov s1 ⟨x,H1,I1,r1,q1⟩=>?_));refine LQ (Np (thn (hi pins s1 σ H1 _ I1 q1) fun iv s2 ⟨y,H2,I2,r2,q2⟩=>?_));refine LQ (QR (LQ (Np (thn (hs pins s2 σ H2 x y v ov iv u _ I2 r1 r2 r q2) fun _ s3 ⟨H3,I3,q3⟩=>?_))));exact wpAny_release ⟨σ,H3,I3,q3⟩
def CT (te:TE) (g:TG):TS:=fun D σ H=>te σ H fun x H1=>g x σ H1 D.nx
theorem Fx {tg e:Expr} {te:TE} {g:TG} (he:PE X e te) (hg:PG X tg g) (hs:swapsWithSole [tg] e pos.line X.env=pure false:=by rfl) (hw:swappedStores [tg] e X.env=pure none:=by rfl)
  (h1:(assignEach [tg] X.env).map (·.2)=[assign tg X.env]:=by rfl):PS X (.Assign [tg] e pos) (CT te g):=by
 intro pins s σ H D I h;refine wpAny_Assign_stores (thn (he pins s σ H _ I h) fun v s1 ⟨x,H1,I1,r1,q1⟩=>?_) hs hw;rw [h1];exact thn (hg pins s1 σ H1 x v _ I1 r1 q1) fun _ s2 q=>q
theorem ao {i:Nat} {x:Str} {e:Expr} {te:TE} {pos':Pos} (hN:X.N.Nodup) (hi:X.N[i]?=some x) (hx:Loc X.env.scope x) (he:PE X e te) (hs:swapsWith e (some (.Name x pos')) pos.line X.env=pure false:=by rfl) (hf:X.fn x=true\/X.env.scope.names.lookup x=some .local:=by first|exact .inl rfl|exact .inr rfl|assumption) :
  PS X (.Assign [.Name x pos'] e pos) (CT te (ig i)):=by
 intro pins s σ H D I h;refine wpAny_Assign_Name (thn (he pins s σ H _ I h) fun v s1 ⟨y,H1,I1,r1,q1⟩=>?_) hs;exact nV I1 hN hi hx r1 (fun s2 I2=>⟨_,H1,I2,q1⟩) hf
def J2 (i j:Nat) (ta:TA):TS:=fun D σ H=>ta σ H fun vs H1=>∃ v w,vs=[v,w]/\D.nx ((σ.set i (some v)).set j (some w)) H1
theorem E6 {i j:Nat} {x y:Str} {a b:Expr} {ta:TA} {px py pt:Pos} {kt k2 pt2} (hc:X.calm=true) (hN:X.N.Nodup) (hi:X.N[i]?=some x) (hj:X.N[j]?=some y) (hij:i≠j)
  (hx:X.env.scope.names.lookup x=some .local) (hy:X.env.scope.names.lookup y=some .local) (ha:PA X [a,b] ta)
  (hw:swappedStores [.Tuple [.Name x px,.Name y py] kt pt] (.Tuple [a,b] k2 pt2) X.env=pure (some [x,y]))
  (hs:swapsWithSole [.Tuple [.Name x px,.Name y py] kt pt] (.Tuple [a,b] k2 pt2) pos.line X.env=pure false:=by rfl) :
  PS X (.Assign [.Tuple [.Name x px,.Name y py] kt pt] (.Tuple [a,b] k2 pt2) pos) (J2 i j ta):=by
 intro pins s σ H D I h;rw [exec_Assign_arm];refine LQ (QR ?_);rw [hs];refine LQ (Md ?_);rw [if_neg (by decide)]
 refine LQ (Tuple_ (thn (ha _ pins s σ H _ I h) fun us s1 ⟨vs,H1,I1,r1,q1⟩=>?_));obtain ⟨v,w,e1,q1⟩:=q1;subst e1;obtain ⟨u1,u2,rfl,rv,rw'⟩:∃ u1 u2,us=[u1,u2]/\RelV v u1/\RelV w u2:=by
  cases r1 with
  | cons p q =>
   cases q with
   | cons p' q' =>
    cases q';exact ⟨_,_,rfl,p,p'⟩
 refine NZ ?_ (by show 2<=MF;decide)
 have I2:Inv X pins σ H1 { s1 with heap:=s1.heap.push { cls:=.type "tuple",data:=.seq [u1,u2].toArray } }:=I1.kept (t':=s1.toks) fun b o e=>L7 _ e;rw [hw];refine LQ (Md ?_);show wpAny (model X.prog X.w) X.A (do rule "assign.swapped-stores";let items <- unpackItems (.ref s1.heap.objs.size) 2 none;assignInOrder [fun v=>bindName X.env y v,fun v=>bindName X.env x v] items.reverse;pure Flow.next) _ _ _;refine LQ (Sm (LQ (unpackItems_tuple (items:=#[u1,u2]) (I.ok.hd hc) (IsTup.new s1.heap _) fun h' hx'=>?_)));have I3:=I2.kept (h':=h') (t':=s1.toks) fun b o e=>hx' b o (Mn (Mf e)) e;show wpAny _ _ (assignInOrder [fun v=>bindName X.env y v,fun v=>bindName X.env x v] [u2,u1] >>= fun _=>pure Flow.next) _ _ _;refine LQ (Qm (wpAny_bindName (nV I3 hN hj (.inl hy) rw' (fun s2 I4=>?_) (.inr hy))));refine Qm (wpAny_bindName (nV I4 hN hi (.inl hx) rv (fun s3 I5=>assignInOrder_nil (Md ?_)) (.inr hx)));rw [List.set_comm _ _ (NY hij)] at I5;exact ⟨_,H1,I5,q1⟩
def Fp (c:TT) (tb:TS):TS:=fun D σ H=>∃ W:Nat->St->Hp->Prop,(∃ m,W m σ H)/\∀ m σ H,W m σ H ->
 c σ H fun b H1=>if b=true then ∃ N:St->Hp->Prop,(∀ σ' H',N σ' H'->∃ m',m' < m/\W m' σ' H')/\tb { D with nx:=N,ct:=N,bk:=D.nx } σ H1 else D.nx σ H1
theorem nK {c:Expr} {body:List Stmt} {tc:TT} {tb:TS} (hp:PassesOwn (model X.prog X.w) X.A X.env X.xe) (hc:PT X c tc) (hb:PSs X body tb):PS X (.While c body [] pos) (Fp tc tb):=by
 intro pins s σ H D I h;obtain ⟨W,⟨m0,w0⟩,turn⟩:=h;refine wpAny_While (codeAny_whileLoop (fun n s'=>∃ σ' H',Inv X pins σ' H' s'/\W n σ' H') ?_ m0 ⟨σ,H,I,w0⟩);rintro n s1 ⟨σ1,H1,I1,w1⟩;refine Ox hp (thn (hc pins s1 σ1 H1 _ I1 (turn n σ1 H1 w1)) fun b s2 ⟨H2,I2,q2⟩=>?_);cases b with
 | true =>
  obtain ⟨N,hN,q2⟩:=q2;rw [if_pos rfl];refine Ox hp (thn (hb pins s2 σ1 H2 _ I2 q2) fun f s3 q3=>?_);cases f with
  | next =>
   obtain ⟨σ3,H3,I3,n3⟩:=q3;obtain ⟨m',hm,w3⟩:=hN σ3 H3 n3;exact ⟨m',hm,σ3,H3,I3,w3⟩
  | cont =>
   obtain ⟨σ3,H3,I3,n3⟩:=q3;obtain ⟨m',hm,w3⟩:=hN σ3 H3 n3;exact ⟨m',hm,σ3,H3,I3,w3⟩
  | brk=>exact q3
  | ret v=>exact q3
 | false =>
  rw [if_neg Mo];exact ON ⟨σ1,H2,I2,q2⟩
end
structure It where
 go:Nat->Hp->Prop
 yld:Nat->Hp->V->Hp->Prop
 stop:Nat->Hp->Prop
def mj (X:Cx) (pins:List (Addr×Obj)) (H:Hp) (b:Addr):Prop :=
 H b=none/\b≠X.env.locals/\b∉X.fs/\(b∈X.ex\/X.s₀.heap.objs.size<=b)/\(∀ x c,X.env.cells.lookup x=some c->c≠b)/\∀ p∈X.pn++pins,p.1≠b
theorem Inv.xI {X:Cx} {pins:List (Addr×Obj)} {σ:St} {H H':Hp} {s:LU} {b:Addr} (I:Inv X pins σ H s) (hb:s.heap.objs.size<=b) (hn:H' b=none):mj X pins H' b:=by
 refine ⟨hn,O6 (Mi I.lt hb),I.LK hb,.inr (M4 I.sz hb),fun x c e z=>?_,fun p hp z=>?_⟩
 ·obtain ⟨v,q⟩:=I.cell x c e;exact absurd (Mi q.lt (by rw [z];exact hb)) (Nt _)
 ·exact absurd (Mi (Mf (I.pin p hp).1) (by rw [z];exact hb)) (Nt _)
structure Turn (P:Mp) (w:World) (K:LN) (tg:Expr) (J:It) (fp:List Addr) (it:Addr) (tn:Nat->Heap->Prop):Prop where
 mem:it∈fp
 obj:∀ i h,tn i h->∀ b∈fp,∃ o,h.get? b=some o/\∀ v,o.data≠.cell v
 keep:∀ i h h',tn i h->(∀ b∈fp,∀ o,h.get? b=some o->h'.get? b=some o)->tn i h'
 item:∀ (X:Cx),X.prog=P->X.w=w->X.K=K->X.calm=true->∀ (i:Nat) (pins:List (Addr×Obj)) (s:LU) (σ:St) (H:Hp) (E:Value->LU->Prop),Inv X pins σ H s->(∀ b∈fp,mj X pins H b)->tn i s.heap->J.go i H ->
  wpAny (model P w) X.A (pyNext (.ref it)) (fun r s1=>∃ u,r=some u /\
   wpAny (model P w) X.A (letOwnedTupleGo tg (.ref it) u) (fun _ s2=>∃ x H',Inv X pins σ H' s2/\RelV x u/\J.yld i H x H'/\tn (i+1) s2.heap/\∀ b∈fp,H' b=none) E s1) E s
 done:∀ (X:Cx),X.prog=P->X.w=w->X.K=K->X.calm=true->∀ (i:Nat) (pins:List (Addr×Obj)) (s:LU) (σ:St) (H:Hp) (E:Value->LU->Prop),Inv X pins σ H s->(∀ b∈fp,mj X pins H b)->tn i s.heap->J.stop i H ->
  wpAny (model P w) X.A (pyNext (.ref it)) (fun r s1=>r=none/\Inv X pins σ H s1) E s
 self:∀ (A:MR) (i:Nat) (s:LU) (Q:Value->LU->Prop) (E:Value->LU->Prop),tn i s.heap->Q (.ref it) s->wpAny (model P w) A (pyIter (.ref it)) Q E s
abbrev TI:=St->Hp->(It->Hp->Prop)->Prop
def PIE (X:Cx) (pins:List (Addr×Obj)) (σ:St) (tg:Expr) (R:It->Hp->Prop) (itv:Value) (s2:LU):Prop :=
 ∃ (it:Addr) (fp:List Addr) (tn:Nat->Heap->Prop) (J:It) (H':Hp),itv=.ref it/\Inv X pins σ H' s2/\Turn X.prog X.w X.K tg J fp it tn/\tn 0 s2.heap/\(∀ b∈fp,mj X pins H' b)/\R J H'
def PI (X:Cx) (tg iter:Expr) (wi:TI):Prop :=
 ∀ (pins:List (Addr×Obj)) (s:LU) (σ:St) (H:Hp) (R:It->Hp->Prop),Inv X pins σ H s->wi σ H R ->
  wpAny (model X.prog X.w) X.A (eval iter X.env) (fun v s1=>wpAny (model X.prog X.w) X.A (pyIter v) (PIE X pins σ tg R) X.xe s1) X.xe s
theorem Ij {M:Model} {A:MR} {E:Value->LU->Prop} {s:LU} {tg:Expr} {it:Addr} {u:Value} {o:Obj} {n:String} {vs:Array Value} {Q:Unit->LU->Prop} (ho:s.heap.get? it=some o) (hc:o.cls=.type n) (hd:o.data=.fields vs)
  (hn:["enumerate","zip","dict_itemiterator","dict_reverseitemiterator","odict_iterator","itertools.zip_longest","itertools.pairwise"].contains n=false) (hQ:Q () s):wpAny M A (letOwnedTupleGo tg (.ref it) u) Q E s:=by
 unfold letOwnedTupleGo;cases tg <;> first
  | exact Md hQ
  | (cases u <;> first
    | exact Md hQ
    | (refine LQ (wpAny_load ho ?_)
       rw [hc,hd];show wpAny M A (if (["enumerate","zip","dict_itemiterator","dict_reverseitemiterator","odict_iterator","itertools.zip_longest","itertools.pairwise"].contains n && vs[0]? == some (rawInt _))=true then _ else _) Q E s;rw [if_neg (by intro h;rw [hn,Bool.false_and] at h;cases h)]
       exact Md hQ))
def Itl (K:LN) (a:Addr):It :=
 ⟨fun i H=>∃ xs x,SqL K H a xs/\xs[i]?=some x,fun i H x H'=>H'=H/\∀ xs,SqL K H a xs->xs[i]?=some x,fun i H=>∃ xs,SqL K H a xs/\xs.length<=i⟩
def Itr (lo:Int) (n:Nat):It:=⟨fun i _=>i<n,fun i H x H'=>H'=H/\x=.int (lo+i),fun i _=>n<=i⟩
theorem FJ {P:Mp} {w:World} {K:LN} {tg:Expr} (a it:Addr):Turn P w K tg (Itl K a) [it] it (fun i h=>h.IsListIter it a i) where
 mem:=by simp
 obj:=fun i h st b hb=>by
  have e:b=it:=by simpa using hb
  subst e;obtain ⟨o,e,c,d⟩:=st;exact ⟨o,e,fun v z=>by rw [d] at z;cases z⟩
 keep:=fun i h h' st k=>st.at fun o e=>k it (by simp) o e
 item:=by
  intro X hP hw hK hc i pins s σ H E I hf st hg;subst hP hw hK;obtain ⟨xs,x,hq,hx⟩:=hg;obtain ⟨its,rv,p,hz⟩:=I.list hq;obtain ⟨u,hu,ru⟩:=rv.get hx;obtain ⟨f0,f1,f2,f3,f4,f5⟩:=hf it (by simp)
  refine wpAny_pyNext_list_item st p.isList (x:=u) (by simpa using hu) fun h' st' sb=>?_
  have I1:Inv X pins σ H { s with heap:=h' }:=I.turned (t':=s.toks) (fun b o hb e=>(sb.2 b hb).trans e) f0 f1 f3 f4 f5;obtain ⟨o,e,c,d⟩:=id st';exact ⟨u,rfl,Ij (s:={ s with heap:=h' }) e c d (by decide) ⟨x,H,I1,ru,⟨rfl,fun ys hy=>by rw [I.rO hy hq];exact hx⟩,st',fun b hb=>(hf b hb).1⟩⟩
 done:=by
  intro X hP hw hK hc i pins s σ H E I hf st hg;subst hP hw hK;obtain ⟨xs,hq,hx⟩:=hg;obtain ⟨its,rv,p,hz⟩:=I.list hq;obtain ⟨f0,f1,f2,f3,f4,f5⟩:=hf it (by simp)
  have hl:=rv.length;exact wpAny_pyNext_list_end (I.ok.hd hc) st p.isList (by simp;omega) fun h' eb=>⟨rfl,I.turned (t':=s.toks) (fun b o hb e=>eb b o hb e) f0 f1 f3 f4 f5⟩
 self:=fun _ _ _ _ _ st h=>wpAny_pyIter_listiter st h
theorem Di {P:Mp} {w:World} {K:LN} {tg:Expr} (it:Addr) (lo:Int) (n:Nat):Turn P w K tg (Itr lo n) [it] it (fun i h=>IsRangeIter h it (lo+(i:Nat) * 1) ((n:Int) - (i:Nat)) 1) where
 mem:=by simp
 obj:=fun i h st b hb=>by
  have e:b=it:=by simpa using hb
  subst e;exact ⟨_,st,fun v z=>by
   have z':Data.fields _=Data.cell v:=z;cases z'⟩
 keep:=fun i h h' st k=>k it (by simp) _ st
 item:=by
  intro X hP hw hK hc i pins s σ H E I hf st hg;subst hP hw hK;obtain ⟨f0,f1,f2,f3,f4,f5⟩:=hf it (by simp)
  have W:=Walks.range (prog:=X.prog) (w:=X.w) (I.ok.hd hc) it lo 1 n;refine W.item i s _ _ hg st fun v h' tk hv st' kk=>?_;obtain ⟨t,rfl⟩:=hv;have I1:Inv X pins σ H { s with heap:=h',toks:=tk }:=I.turned (fun b o hb e=>kk b o (by simpa using hb) e) f0 f1 f3 f4 f5
  refine ⟨_,rfl,Ij (s:={ s with heap:=h',toks:=tk }) (n:="range_iterator") st' rfl rfl (by decide) ⟨.int (lo+i),H,I1,⟨t,?_⟩,⟨rfl,rfl⟩,st',fun b hb=>(hf b hb).1⟩⟩
  rw [Int.mul_one]
 done:=by
  intro X hP hw hK hc i pins s σ H E I hf st hg;subst hP hw hK;obtain ⟨f0,f1,f2,f3,f4,f5⟩:=hf it (by simp)
  exact wpAny_pyNext_range_end (I.ok.hd hc) st (by have:n<=i:=hg;omega) fun h' eb=>⟨rfl,I.turned (t':=s.toks) (fun b o hb e=>eb b o hb e) f0 f1 f3 f4 f5⟩
 self:=fun _ _ _ _ _ st h=>wpAny_pyIter_rangeiter st h
section
variable {X:Cx} {tg:Expr}
def Ee (K:LN) (tl:TE):TI:=fun σ H R=>tl σ H fun x H1=>∃ a,x=.ref a/\(∃ xs,SqL K H1 a xs)/\R (Itl K a) H1
theorem IQ {l:Expr} {tl:TE} (hl:PE X l tl):PI X tg l (Ee X.K tl):=by
 intro pins s σ H R I h;refine thn (hl pins s σ H _ I h) fun v s1 ⟨x,H1,I1,r1,q1⟩=>?_;obtain ⟨a,e,⟨xs,hq⟩,q⟩:=q1;subst e;cases r1;obtain ⟨its,rv,p,hz⟩:=I1.list hq;refine Px p.isList ?_;refine ⟨s1.heap.objs.size,[s1.heap.objs.size],_,_,H1,rfl,I1.kept (t':=s1.toks) fun b o e=>L7 _ e,FJ a _,⟨_,Mz _ rfl,rfl,rfl⟩,fun b hb=>?_,q⟩;have e:b=s1.heap.objs.size:=by simpa using hb
 subst e;exact I1.xI (Mh _) (I1.hok.fresh (Mh _))
theorem HU {pins:List (Addr×Obj)} {σ:St} {H:Hp} {s:LU} {R:It->Hp->Prop} {E:Value->LU->Prop} {lo hi:Int} {t u v:Tok} {tk:Nat} (I:Inv X pins σ H s) (h1:-(2 ^ 62)<=lo) (h2:lo<2 ^ 62) (h3:-(2 ^ 62)<=hi) (h4:hi<2 ^ 62)
  (q:R (Itr lo (hi - lo).toNat) H):wpAny (model X.prog X.w) X.A (pyIter (.ref s.heap.objs.size)) (PIE X pins σ tg R) E { s with heap:=s.heap.push { cls:=.type "range",data:=.fields #[.int lo t,.int hi u,.int 1 v] },toks:=tk }:=by
 refine wpAny_pyIter_range (IsRange.new ..) (small_one h1 h2 h3 h4) ?_;have I1:Inv X pins σ H { s with heap:=s.heap.push { cls:=.type "range",data:=.fields #[.int lo t,.int hi u,.int 1 v] },toks:=tk }:=I.kept fun b o e=>L7 _ e;refine ⟨(s.heap.push { cls:=.type "range",data:=.fields #[.int lo t,.int hi u,.int 1 v] }).objs.size,[(s.heap.push { cls:=.type "range",data:=.fields #[.int lo t,.int hi u,.int 1 v] }).objs.size],_,_,H,rfl,
  I1.kept (t':=tk) fun b o e=>L7 _ e,Di _ lo (hi - lo).toNat,?_,fun b hb=>?_,q⟩
 ·have e1:lo+((0:Nat):Int) * 1=lo:=by simp
  have e2:(((hi - lo).toNat:Nat):Int) - ((0:Nat):Int)=QT lo hi 1:=by rw [rangeSize_one];split <;> omega
  show IsRangeIter _ _ (lo+((0:Nat):Int) * 1) ((((hi - lo).toNat:Nat):Int) - ((0:Nat):Int)) 1;rw [e1,e2];exact Mz _ rfl
 ·have e:b=(s.heap.push { cls:=.type "range",data:=.fields #[.int lo t,.int hi u,.int 1 v] }).objs.size:=by simpa using hb
  subst e;exact I1.xI (Mh _) (I1.hok.fresh (Mh _))
def Dy (ta:TA):TI:=fun σ H R=>ta σ H fun vs H1=>∃ j:Int,vs=[.int j]/\-(2 ^ 62)<=j/\j<2 ^ 62/\R (Itr 0 j.toNat) H1
theorem FE {a:Expr} {ta:TA} {p pos:Pos} (hg:Gl X "range") (hm:X.mg "range" = none) (ha:PA X [a] ta) (hs:MU [a] X.env=[(false,eval a X.env)]:=by rfl):PI X tg (.Call (.Name "range" p) [a] [] pos) (Dy ta):=by
 intro pins s σ H R I h;refine Call_ (oz I hg hm boot_range (NO (thn (ha pos pins s σ H _ I h) fun us s1 ⟨vs,H1,I1,r1,q1⟩=>?_) hs rfl));obtain ⟨j,e,q1,q2,q⟩:=q1;subst e;cases r1 with
 | cons r rr =>
  cases rr;obtain ⟨t,rfl⟩:=r;exact call_range_1 (HU I1 (by omega) (by omega) q1 q2 (by simpa using q))
def JY (wi:TI) (g:TG) (tb:TS):TS:=fun D σ H=>wi σ H fun J H1=>∃ W:Nat->Nat->St->Hp->Prop,(∃ m,W 0 m σ H1)/\∀ i m σ H,W i m σ H ->
 (J.stop i H/\D.nx σ H)\/(J.go i H/\∃ N:St->Hp->Prop,(∀ σ' H',N σ' H'->∃ m',m' < m/\W (i+1) m' σ' H')/\∀ x H',J.yld i H x H'->g x σ H' fun σ2 H2=>tb { D with nx:=N,ct:=N,bk:=D.nx } σ2 H2)
def mV (fp:List Addr) (h:Heap):List (Addr×Obj):=fp.filterMap fun b=>(h.get? b).map fun o=>(b,o)
theorem jG {fp:List Addr} {h:Heap} {b:Addr} {o:Obj} (hb:b∈fp) (e:h.get? b=some o):(b,o)∈mV fp h:=List.mem_filterMap.mpr ⟨b,hb,by rw [e];rfl⟩
theorem EM {fp:List Addr} {h:Heap} {p:Addr×Obj} (hp:p∈mV fp h):p.1∈fp/\h.get? p.1=some p.2:=by
 obtain ⟨b,hb,e⟩:=List.mem_filterMap.mp hp;cases q:h.get? b with
 | none=>rw [q] at e;cases e
 | some o =>
  rw [q] at e;have e':(b,o)=p:=MK e;subst e';exact ⟨hb,q⟩
theorem Inv.pinned {pins:List (Addr×Obj)} {σ:St} {H:Hp} {s:LU} {fp:List Addr} (I:Inv X pins σ H s) (hf:∀ b∈fp,mj X pins H b) (ho:∀ b∈fp,∃ o,s.heap.get? b=some o/\∀ v,o.data≠.cell v):Inv X (pins++mV fp s.heap) σ H s :=
 I.Ci fun p hp=>(MD.mp hp).elim (fun z=>I.pin p (MJ _ z)) fun z=>by
  obtain ⟨hb,e⟩:=EM z;obtain ⟨f0,f1,f2,_⟩:=hf p.1 hb;obtain ⟨o,e',d⟩:=ho p.1 hb;rw [e] at e';cases e';exact ⟨e,f0,f1,f2,d⟩
theorem Inv.nN {pins pl:List (Addr×Obj)} {σ:St} {H:Hp} {s:LU} (I:Inv X (pins++pl) σ H s):Inv X pins σ H s:=I.Ci fun p hp=>I.pin p (MJ _ (Nm _ hp))
theorem bE {iter:Expr} {body:List Stmt} {wi:TI} {g:TG} {tb:TS} {pos:Pos} (hp:PassesOwn (model X.prog X.w) X.A X.env X.xe) (hc:X.calm=true) (hi:PI X tg iter wi) (hg:PG X tg g) (hb:PSs X body tb)
  (hs:∀ x,foldedSetIterable iter X.env x=pure x:=by intro _;rfl):PS X (.For tg iter body [] pos) (JY wi g tb):=by
 intro pins s σ H D I h;refine wpAny_For (thn (hi pins s σ H _ I h) fun v s1 h1=>thn h1 fun itv s2 h2=>?_) hs;obtain ⟨it,fp,tn,J,H2,e,I2,T,st2,f2,W,⟨m0,w0⟩,turn⟩:=h2;subst e;have stat:∀ {H':Hp},(∀ b∈fp,H' b=none)->∀ b∈fp,mj X pins H' b:=fun hn b hb=>⟨hn b hb,(f2 b hb).2⟩;refine codeAny_forLoop_any (fun n s'=>∃ i σ' H',Inv X pins σ' H' s'/\tn i s'.heap/\(∀ b∈fp,H' b=none)/\W i n σ' H') ?_ m0 ⟨0,σ,H2,I2,st2,fun b hb=>(f2 b hb).1,w0⟩;rintro n s3 ⟨i,σ3,H3,I3,st3,fr3,w3⟩;rcases turn i n σ3 H3 w3 with ⟨stop,qn⟩|⟨go,N,hN,step⟩
 ·refine Ox hp (thn (T.done X rfl rfl rfl hc i pins s3 σ3 H3 X.xe I3 (stat fr3) st3 stop) fun r s4 ⟨hr,I4⟩=>?_);subst hr;exact ON ⟨σ3,H3,I4,qn⟩
 ·refine Ox hp (thn (T.item X rfl rfl rfl hc i pins s3 σ3 H3 X.xe I3 (stat fr3) st3 go) fun r s4 ⟨u,hr,h4⟩=>?_);subst hr;refine Ox hp (thn h4 fun _ s5 ⟨x,H5,I5,r5,y5,st5,fr5⟩=>?_);have I5':=I5.pinned (stat fr5) (T.obj _ _ st5);refine Ox hp (thn (hg _ s5 σ3 H5 x u _ I5' r5 (step x H5 y5)) fun _ s6 ⟨σ6,H6,I6,q6⟩=>?_);refine Ox hp (thn (hb _ s6 σ6 H6 _ I6 q6) fun f s7 q7=>?_);have again:∀ {σ7:St} {H7:Hp},Inv X (pins++mV fp s5.heap) σ7 H7 s7->N σ7 H7->∃ m,m<n/\∃ i σ' H',Inv X pins σ' H' s7/\tn i s7.heap/\(∀ b∈fp,H' b=none)/\W i m σ' H':=fun {σ7 H7} I7 n7=>by
   obtain ⟨m',hm,w7⟩:=hN σ7 H7 n7;refine ⟨m',hm,i+1,σ7,H7,I7.nN,T.keep _ _ _ st5 fun b hb o e=>(I7.pin (b,o) (MJ _ (MJ _ (jG hb e)))).1,fun b hb=>?_,w7⟩;obtain ⟨o,e,d⟩:=T.obj _ _ st5 b hb;exact (I7.pin (b,o) (MJ _ (MJ _ (jG hb e)))).2.1
  cases f with
  | next=>obtain ⟨σ7,H7,I7,n7⟩:=q7;exact again I7 n7
  | cont=>obtain ⟨σ7,H7,I7,n7⟩:=q7;exact again I7 n7
  | brk=>obtain ⟨σ7,H7,I7,q7⟩:=q7;exact ⟨σ7,H7,I7.nN,q7⟩
  | ret v=>obtain ⟨x7,σ7,H7,I7,r7,q7⟩:=q7;exact ⟨x7,σ7,H7,I7.nN,r7,q7⟩
end
theorem uW {K:LN} {a:Addr} {xs:List V} {g:TG} {tb:TS} {D:Ends} {σ:St} {H:Hp} (Pv:Nat->St->Hp->Prop) (h0:Pv 0 σ H) (hl:∀ i σ H,i<=xs.length->Pv i σ H->SqL K H a xs)
  (hs:∀ i x σ H,xs[i]?=some x->Pv i σ H->g x σ H fun σ2 H2=>tb { D with nx:=Pv (i+1),ct:=Pv (i+1),bk:=D.nx } σ2 H2) (hd:∀ σ H,Pv xs.length σ H->D.nx σ H) :
  ∃ W:Nat->Nat->St->Hp->Prop,(∃ m,W 0 m σ H)/\∀ i m σ H,W i m σ H ->
   ((Itl K a).stop i H/\D.nx σ H)\/((Itl K a).go i H/\∃ N:St->Hp->Prop,(∀ σ' H',N σ' H'->∃ m',m' < m/\W (i+1) m' σ' H')/\∀ x H',(Itl K a).yld i H x H'->g x σ H' fun σ2 H2=>tb { D with nx:=N,ct:=N,bk:=D.nx } σ2 H2):=by
 refine ⟨fun i m σ H=>m=xs.length - i/\i<=xs.length/\Pv i σ H,⟨xs.length,by simp,M7 _,h0⟩,?_⟩
 rintro i m σ H ⟨rfl,hi,p⟩;have q:=hl i σ H hi p
 by_cases hlt:i<xs.length
 ·refine .inr ⟨⟨xs,xs[i],q,by simp [hlt]⟩,Pv (i+1),fun σ' H' p'=>⟨xs.length - (i+1),by omega,rfl,hlt,p'⟩,fun x H' y=>?_⟩
  obtain ⟨e,y⟩:=y;subst e;exact hs i x σ _ (y xs q) p
 ·have e:i=xs.length:=by omega
  subst e;exact .inl ⟨⟨xs,q,Mh _⟩,hd σ H p⟩
theorem Fg {lo:Int} {n:Nat} {g:TG} {tb:TS} {D:Ends} {σ:St} {H:Hp} (Pv:Nat->St->Hp->Prop) (h0:Pv 0 σ H)
  (hs:∀ i σ H,i<n->Pv i σ H->g (.int (lo+i)) σ H fun σ2 H2=>tb { D with nx:=Pv (i+1),ct:=Pv (i+1),bk:=D.nx } σ2 H2) (hd:∀ σ H,Pv n σ H->D.nx σ H) :
  ∃ W:Nat->Nat->St->Hp->Prop,(∃ m,W 0 m σ H)/\∀ i m σ H,W i m σ H ->
   ((Itr lo n).stop i H/\D.nx σ H)\/((Itr lo n).go i H/\∃ N:St->Hp->Prop,(∀ σ' H',N σ' H'->∃ m',m' < m/\W (i+1) m' σ' H')/\∀ x H',(Itr lo n).yld i H x H'->g x σ H' fun σ2 H2=>tb { D with nx:=N,ct:=N,bk:=D.nx } σ2 H2):=by
 refine ⟨fun i m σ H=>m=n - i/\i<=n/\Pv i σ H,⟨n,by simp,M7 _,h0⟩,?_⟩
 rintro i m σ H ⟨rfl,hi,p⟩
 by_cases hlt:i<n
 ·refine .inr ⟨hlt,Pv (i+1),fun σ' H' p'=>⟨n - (i+1),by omega,rfl,hlt,p'⟩,fun x H' y=>?_⟩
  obtain ⟨e,y⟩:=y;subst e y;exact hs i σ _ hlt p
 ·have e:i=n:=by omega
  subst e;exact .inl ⟨Mh _,hd σ H p⟩
abbrev R2:=V->V->Hp->VK->Prop
def OpR (X:Cx) (f:Value->Value->Sem Value) (r:R2):Prop :=
 ∀ (pins:List (Addr×Obj)) (s:LU) (σ:St) (H:Hp) (x y:V) (v u:Value) (Q:VK),Inv X pins σ H s->RelV x v->RelV y u->r x y H Q ->
  wpAny (model X.prog X.w) X.A (f v u) (EP X pins σ Q) X.xe s
def UnR (X:Cx) (f:Value->Sem Value) (r:V->Hp->VK->Prop):Prop :=
 ∀ (pins:List (Addr×Obj)) (s:LU) (σ:St) (H:Hp) (x:V) (v:Value) (Q:VK),Inv X pins σ H s->RelV x v->r x H Q ->
  wpAny (model X.prog X.w) X.A (f v) (EP X pins σ Q) X.xe s
def da (X:Cx) (f:Value) (r:List V->Hp->VK->Prop):Prop :=
 ∀ (pins:List (Addr×Obj)) (s:LU) (σ:St) (H:Hp) (xs:List V) (us:List Value) (Q:VK),Inv X pins σ H s->Vals xs us->r xs H Q ->
  wpAny (model X.prog X.w) X.A (call f us) (EP X pins σ Q) X.xe s
def tOp (r:R2) (ta tb:TE):TE:=fun σ H Q=>ta σ H fun x H1=>tb σ H1 fun y H2=>r x y H2 Q
def tUn (r:V->Hp->VK->Prop) (ta:TE):TE:=fun σ H Q=>ta σ H fun x H1=>r x H1 Q
def rI (C:Int->Int->Prop) (g:Int->Int->V):R2:=fun x y H Q=>∃ i j,x=.int i/\y=.int j/\C i j/\Q (g i j) H
def rI0 (g:Int->Int->V):R2:=fun x y H Q=>∃ i j,x=.int i/\y=.int j/\Q (g i j) H
def rU (g:Int->V):V->Hp->VK->Prop:=fun x H Q=>∃ i,x=.int i/\Q (g i) H
section
variable {X:Cx} {a b c:Expr} {ta tb tc:TE} {pos:Pos}
theorem HN (ha:PE X a ta) (hb:PE X b tb) {pins:List (Addr×Obj)} {s:LU} {σ:St} {H:Hp} {R:V->V->Hp->Prop} (I:Inv X pins σ H s)
  (h:ta σ H fun x H1=>tb σ H1 fun y H2=>R x y H2) {Q:Value->LU->Prop} {f:Value->Value->Sem Value}
  (hf:∀ v u s2 x y H2,Inv X pins σ H2 s2->RelV x v->RelV y u->R x y H2->wpAny (model X.prog X.w) X.A (f v u) Q X.xe s2) :
  wpAny (model X.prog X.w) X.A (eval a X.env) (fun v s₁=>wpAny (model X.prog X.w) X.A (eval b X.env) (fun u s₂=>wpAny (model X.prog X.w) X.A (f v u) Q X.xe s₂) X.xe s₁) X.xe s:=by
 refine thn (ha pins s σ H _ I h) fun v s1 ⟨x,H1,I1,r1,q1⟩=>?_;refine thn (hb pins s1 σ H1 _ I1 q1) fun u s2 ⟨y,H2,I2,r2,q2⟩=>?_;exact hf v u s2 x y H2 I2 r1 r2 q2
theorem ak {op:Operator} {r:R2} (ho:OpR X (binaryOp op) r) (ha:PE X a ta) (hb:PE X b tb):PE X (.BinOp a op b pos) (tOp r ta tb):=by
 intro pins s σ H Q I h;exact wpAny_BinOp (HN ha hb I h fun v u s2 x y H2 I2 rx ry q=>ho pins s2 σ H2 x y v u Q I2 rx ry q)
theorem Ic {op:UnaryOp} {r:V->Hp->VK->Prop} (ho:UnR X (unaryOp op) r) (ha:PE X a ta):PE X (.UnaryOp op a pos) (tUn r ta):=by
 intro pins s σ H Q I h;exact UnaryOp_ (thn (ha pins s σ H _ I h) fun v s1 ⟨x,H1,I1,r1,q1⟩=>ho pins s1 σ H1 x v Q I1 r1 q1)
theorem opI {f:Value->Value->Sem Value} {C:Int->Int->Prop} {g:Int->Int->Int}
  (rule:∀ (i j:Int) (t u:Tok) (s:LU) (Q:Value->LU->Prop) (E:Value->LU->Prop),C i j->Q (.int (g i j) s.toks) { s with toks:=s.toks+1 }->wpAny (model X.prog X.w) X.A (f (.int i t) (.int j u)) Q E s) :
  OpR X f (rI C fun i j=>.int (g i j)):=by
 intro pins s σ H x y v u Q I rx ry h;obtain ⟨i,j,rfl,rfl,hc,q⟩:=h;obtain ⟨t,rfl⟩:=rx;obtain ⟨t',rfl⟩:=ry;exact rule i j t t' s _ _ hc ⟨.int (g i j),H,I.tok _,⟨_,rfl⟩,q⟩
theorem JZ {f:Value->Value->Sem Value} {g:Int->Int->Int}
  (rule:∀ (i j:Int) (t u:Tok) (s:LU) (Q:Value->LU->Prop) (E:Value->LU->Prop),Q (.int (g i j) s.toks) { s with toks:=s.toks+1 }->wpAny (model X.prog X.w) X.A (f (.int i t) (.int j u)) Q E s) :
  OpR X f (rI0 fun i j=>.int (g i j)):=by
 intro pins s σ H x y v u Q I rx ry h;obtain ⟨i,j,rfl,rfl,q⟩:=h;obtain ⟨t,rfl⟩:=rx;obtain ⟨t',rfl⟩:=ry;exact rule i j t t' s _ _ ⟨.int (g i j),H,I.tok _,⟨_,rfl⟩,q⟩
theorem Hx {f:Value->Value->Sem Value} {g:Int->Int->Bool}
  (rule:∀ (i j:Int) (t u:Tok) (s:LU) (Q:Value->LU->Prop) (E:Value->LU->Prop),Q (.bool (g i j)) s->wpAny (model X.prog X.w) X.A (f (.int i t) (.int j u)) Q E s) :
  OpR X f (rI0 fun i j=>.bl (g i j)):=by
 intro pins s σ H x y v u Q I rx ry h;obtain ⟨i,j,rfl,rfl,q⟩:=h;obtain ⟨t,rfl⟩:=rx;obtain ⟨t',rfl⟩:=ry;exact rule i j t t' s _ _ ⟨.bl (g i j),H,I,rfl,q⟩
def Kl (i j:Int):Prop:=0<j/\j<1073741824
def Dc (i j:Int):Prop:=(-(2 ^ 64)<i/\i<2 ^ 64)\/(-(2 ^ 64)<j/\j<2 ^ 64)
theorem Dc.ok {i j:Int} (h:Dc i j):IntMulOk i j:=by
 rcases h with ⟨h1,h2⟩|⟨h1,h2⟩
 ·exact .of_left (intBits_le_64 h1 h2)
 ·exact .of_right (intBits_le_64 h1 h2)
theorem bf:OpR X (binaryOp .Add) (rI0 fun i j=>.int (i+j)):=JZ fun _ _ _ _ _ _ _ q=>add_int q
theorem pS:OpR X (binaryOp .Sub) (rI0 fun i j=>.int (i - j)):=JZ fun _ _ _ _ _ _ _ q=>sub_int q
theorem bD:OpR X (binaryOp .Mult) (rI Dc fun i j=>.int (i * j)):=opI fun _ _ _ _ _ _ _ hc q=>mul_int q hc.ok
theorem bz:OpR X (binaryOp .FloorDiv) (rI Kl fun i j=>.int (i / j)):=opI fun i j _ _ _ _ _ hc q=>by
 have h1:(0:Int)<j:=hc.1;have h2:j<1073741824:=hc.2;exact floordiv_int (by omega) (by rw [Int.fdiv_eq_ediv_of_nonneg i (by omega)];exact q) (.inl (PyProof.noPylong_small (by omega)))
theorem aS:OpR X (binaryOp .Mod) (rI (fun _ j=>0<j) fun i j=>.int (i % j)):=opI fun i j _ _ _ _ _ hc q=>by
 have h1:(0:Int)<j:=hc;exact mod_int' (by omega) (by rw [Int.fmod_eq_emod_of_nonneg i (by omega)];exact q)
theorem unI {f:Value->Sem Value} {g:Int->Int}
  (rule:∀ (i:Int) (t:Tok) (s:LU) (Q:Value->LU->Prop) (E:Value->LU->Prop),Q (.int (g i) s.toks) { s with toks:=s.toks+1 }->wpAny (model X.prog X.w) X.A (f (.int i t)) Q E s) :
  UnR X f (rU fun i=>.int (g i)):=by
 intro pins s σ H x v Q I rx h;obtain ⟨i,rfl,q⟩:=h;obtain ⟨t,rfl⟩:=rx;exact rule i t s _ _ ⟨.int (g i),H,I.tok _,⟨_,rfl⟩,q⟩
theorem E8:UnR X (unaryOp .USub) (rU fun i=>.int (-i)):=unI fun _ _ _ _ _ q=>neg_int q
end
def Kj:V->V->Bool
 | .non,.non=>true | .non,.int _=>true | .int _,.non=>true | .non,.bl _=>true | .bl _,.non=>true | .non,.str _=>true | .str _,.non=>true
 | .int _,.int _=>true | .bl _,.bl _=>true | .str _,.str _=>true | .byt _,.byt _=>true
 | .int _,.str _=>true | .str _,.int _=>true | .bl _,.str _=>true | .str _,.bl _=>true
 | _,_=>false
def rEq:R2:=fun x y H Q=>Kj x y=true/\Q (.bl (decide (x=y))) H
def rNe:R2:=fun x y H Q=>Kj x y=true/\Q (.bl (!decide (x=y))) H
theorem Cm {i j:Int}:decide (V.int i=V.int j)=(i == j):=by
 rw [NP];simp
theorem Fc {i j:Bool}:decide (V.bl i=V.bl j)=(i == j):=by
 rw [NP];simp
theorem CA {i j:Str}:decide (V.str i=V.str j)=(i == j):=by
 rw [NP];simp
theorem Cw {i j:Array UInt8}:decide (V.byt i=V.byt j)=(i.toList == j.toList):=by
 rw [NP];cases i;cases j;simp
section
variable {X:Cx} {a b c:Expr} {ta tb tc:TE} {pos:Pos}
theorem bQ {pins:List (Addr×Obj)} {σ:St} {H:Hp} {s:LU} {Q:VK} {k k':Bool} (I:Inv X pins σ H s) (q:Q (.bl k) H) (e:k=k'):EP X pins σ Q (.bool k') s:=by
 subst e;exact ⟨.bl k,H,I,rfl,q⟩
theorem bY:OpR X (compareOp .Eq) rEq:=by
 intro pins s σ H x y v u Q I rx ry h;obtain ⟨hs,q⟩:=h;cases x with
 | non =>
  cases rx;cases y with
  | non=>cases ry;exact PySem.EqNone.eq_none_none (bQ I q (by simp))
  | bl j=>cases ry;exact PySem.EqNone.eq_none_bool (bQ I q (by simp))
  | int j=>obtain ⟨t',rfl⟩:=ry;exact PySem.EqNone.eq_none_int (bQ I q (by simp))
  | str j=>obtain ⟨t',rfl⟩:=ry;exact PySem.EqNone.eq_none_str (bQ I q (by simp))
  | _=>exact absurd (show false=true from hs) Mo
 | bl i =>
  cases rx;cases y with
  | non=>cases ry;exact PySem.EqNone.eq_bool_none (bQ I q (by simp))
  | bl j=>cases ry;exact eq_bool (bQ I q Fc)
  | str j=>obtain ⟨t',rfl⟩:=ry;exact PySem.EqMixed.eq_bool_str (bQ I q (by simp))
  | _=>exact absurd (show false=true from hs) Mo
 | int i =>
  obtain ⟨t,rfl⟩:=rx;cases y with
  | non=>cases ry;exact PySem.EqNone.eq_int_none (bQ I q (by simp))
  | int j=>obtain ⟨t',rfl⟩:=ry;exact eq_int (bQ I q Cm)
  | str j=>obtain ⟨t',rfl⟩:=ry;exact PySem.EqMixed.eq_int_str (bQ I q (by simp))
  | _=>exact absurd (show false=true from hs) Mo
 | str i =>
  obtain ⟨t,rfl⟩:=rx;cases y with
  | non=>cases ry;exact PySem.EqNone.eq_str_none (bQ I q (by simp))
  | bl j=>cases ry;exact PySem.EqMixed.eq_str_bool (bQ I q (by simp))
  | int j=>obtain ⟨t',rfl⟩:=ry;exact PySem.EqMixed.eq_str_int (bQ I q (by simp))
  | str j=>obtain ⟨t',rfl⟩:=ry;exact eq_str (bQ I q CA)
  | _=>exact absurd (show false=true from hs) Mo
 | byt i =>
  obtain ⟨t,rfl⟩:=rx;cases y with
  | byt j=>obtain ⟨t',rfl⟩:=ry;exact PySem.W.eq_bytes (bQ I q Cw)
  | _=>exact absurd (show false=true from hs) Mo
 | _=>cases y <;> exact absurd (show false=true from hs) Mo
theorem iy:OpR X (compareOp .NotEq) rNe:=by
 intro pins s σ H x y v u Q I rx ry h;obtain ⟨hs,q⟩:=h;cases x with
 | non =>
  cases rx;cases y with
  | non=>cases ry;exact PySem.EqNone.ne_none_none (bQ I q (by simp))
  | bl j=>cases ry;exact PySem.EqNone.ne_none_bool (bQ I q (by simp))
  | int j=>obtain ⟨t',rfl⟩:=ry;exact PySem.EqNone.ne_none_int (bQ I q (by simp))
  | str j=>obtain ⟨t',rfl⟩:=ry;exact PySem.EqNone.ne_none_str (bQ I q (by simp))
  | _=>exact absurd (show false=true from hs) Mo
 | bl i =>
  cases rx;cases y with
  | non=>cases ry;exact PySem.EqNone.ne_bool_none (bQ I q (by simp))
  | bl j=>cases ry;exact ne_bool (bQ I q (congrArg not Fc))
  | str j=>obtain ⟨t',rfl⟩:=ry;exact PySem.EqMixed.ne_bool_str (bQ I q (by simp))
  | _=>exact absurd (show false=true from hs) Mo
 | int i =>
  obtain ⟨t,rfl⟩:=rx;cases y with
  | non=>cases ry;exact PySem.EqNone.ne_int_none (bQ I q (by simp))
  | int j=>obtain ⟨t',rfl⟩:=ry;exact ne_int (bQ I q (congrArg not Cm))
  | str j=>obtain ⟨t',rfl⟩:=ry;exact PySem.EqMixed.ne_int_str (bQ I q (by simp))
  | _=>exact absurd (show false=true from hs) Mo
 | str i =>
  obtain ⟨t,rfl⟩:=rx;cases y with
  | non=>cases ry;exact PySem.EqNone.ne_str_none (bQ I q (by simp))
  | bl j=>cases ry;exact PySem.EqMixed.ne_str_bool (bQ I q (by simp))
  | int j=>obtain ⟨t',rfl⟩:=ry;exact PySem.EqMixed.ne_str_int (bQ I q (by simp))
  | str j=>obtain ⟨t',rfl⟩:=ry;exact ne_str (bQ I q (congrArg not CA))
  | _=>exact absurd (show false=true from hs) Mo
 | byt i =>
  obtain ⟨t,rfl⟩:=rx;cases y with
  | byt j=>obtain ⟨t',rfl⟩:=ry;exact PySem.W.ne_bytes (bQ I q (congrArg not Cw))
  | _=>exact absurd (show false=true from hs) Mo
 | _=>cases y <;> exact absurd (show false=true from hs) Mo
theorem ko:OpR X (compareOp .Lt) (rI0 fun i j=>.bl (decide (i<j))):=Hx fun _ _ _ _ _ _ _ q=>lt_int q
theorem iD:OpR X (compareOp .Gt) (rI0 fun i j=>.bl (decide (j<i))):=Hx fun _ _ _ _ _ _ _ q=>gt_int q
theorem tV:OpR X (compareOp .GtE) (rI0 fun i j=>.bl (decide (j<=i))):=Hx fun _ _ _ _ _ _ _ q=>ge_int q
theorem aE (b:Expr) {op:CmpOp} (h:op≠.In:=by decide) (h2:op≠.NotIn:=by decide):behindInMarks op b=false:=by
 have e1:(op == CmpOp.In)=false:=by cases op <;> first|rfl|exact absurd rfl h
 have e2:(op == CmpOp.NotIn)=false:=by cases op <;> first|rfl|exact absurd rfl h2
 cases b <;> simp [behindInMarks,e1,e2]
theorem dJ {op:CmpOp} {r:R2} (ho:OpR X (compareOp op) r) (ha:PE X a ta) (hb:PE X b tb) (hm:behindInMarks op b=false):PE X (.Compare a [op] [b] pos) (tOp r ta tb):=by
 intro pins s σ H Q I h;exact wpAny_Compare1 (HN ha hb I h fun v u s2 x y H2 I2 rx ry q=>ho pins s2 σ H2 x y v u Q I2 rx ry q) hm
def Ir (t:TE):TT:=fun σ H Q=>t σ H fun x H'=>∃ k,x=.bl k/\Q k H'
theorem ay {op:CmpOp} {r:R2} (ho:OpR X (compareOp op) r) (ha:PE X a ta) (hb:PE X b tb) (hm:behindInMarks op b=false):PT X (.Compare a [op] [b] pos) (Ir (tOp r ta tb)):=by
 intro pins s σ H Q I h;refine Rt (thn (ha pins s σ H _ I h) fun v s1 ⟨x,H1,I1,r1,q1⟩=>thn (hb pins s1 σ H1 _ I1 q1) fun u s2 ⟨y,H2,I2,r2,q2⟩ =>
  thn (ho pins s2 σ H2 x y v u _ I2 r1 r2 q2) fun c s3 ⟨z,H3,I3,r3,k,e,q3⟩=>?_) hm
 subst e;cases r3;exact Od ⟨H3,I3,q3⟩
theorem vi:(MF:Nat)<2 ^ 63:=by rw [Nx];decide
theorem vals1 {x:V} {us:List Value} (r:Vals [x] us):∃ u,us=[u]/\RelV x u:=by
 cases r with
 | cons r1 r2=>cases r2;exact ⟨_,rfl,r1⟩
theorem vals2 {x y:V} {us:List Value} (r:Vals [x,y] us):∃ u w',us=[u,w']/\RelV x u/\RelV y w':=by
 cases r with
 | cons r1 r2 =>
  cases r2 with
  | cons r3 r4=>cases r4;exact ⟨_,_,rfl,r1,r3⟩
end
structure uY (h:Heap) (x dx C:Addr) (mA:Str->Option Value):Prop where
 obj:h.get? x=some (Of C dx)
 ns:h.Ns1 dx mA
 ne:dx≠x
theorem FH {h:Heap} {dx:Addr} {mA:Str->Option Value} (n:h.Ns1 dx mA):∃ od,h.get? dx=some od/\∀ name,Qr name od=some (mA name):=by
 obtain ⟨o,es,ep,ho,hd,hk,_,hm⟩:=n;refine ⟨o,ho,fun name=>?_⟩;have e:=hm name;unfold nsFind findBy at e;rw [<- Array.find?_toList] at e;unfold Qr;rw [hd];dsimp only
 split
 ·rename_i y q
  rw [q] at e;exact congrArg some e
 ·rename_i q
  rw [q] at e;have a:es.toList.any (·.refKey)=false:=by
   rw [Py];intro y hy;obtain ⟨z,t,hkey⟩:=hk y (Array.mem_toList_iff.mp hy);simp [DictEntry.refKey,hkey]
  have a':¬ es.toList.any (·.refKey)=true:=by rw [a];exact Mo
  rw [if_neg a'];exact congrArg some e
theorem uY.look {h:Heap} {x dx C:Addr} {mA:Str->Option Value} (I:uY h x dx C mA):∃ od,PySem.W.InstAt h x (Of C dx) C (some od)/\∀ name,Qr name od=some (mA name) :=
 let ⟨od,ho,hl⟩:=FH I.ns
 ⟨od,⟨I.obj,rfl,rfl,ho⟩,hl⟩
section
variable {prog:Mp} {w:World} {A:MR} {E:Value->LU->Prop} {s:LU} {K:LN} {x dx C f:Addr} {mA:Str->Option Value} {name:Str} {v:Value}
theorem get_map {expr:Bool} {Q:Value->LU->Prop} (X:K.In s.heap) (I:uY s.heap x dx C mA) (hg:NC K C name=true) (hh:Nl K C=true)
  (ha:L4 K (.ref C) name=some none) (hv:mA name=some v) (hv':PySem.W.handedIn v=true) (h:Q v { s with toks:=s.toks+1 }) :
  wpAny (model prog w) A (getAttr (.ref x) name expr) Q E s:=by
 obtain ⟨od,J,hl⟩:=I.look;exact PySem.W.get_value X J (Qa hg).1 (PySem.W.findObj_own hh ha rfl (by rw [hl,hv])) hv' h
theorem Hq {pl:Sem Bool} {Q:Value×List Value->LU->Prop} (X:K.In s.heap) (I:uY s.heap x dx C mA) (hg:NC K C name=true)
  (hf:L4 K (.ref C) name=some (some (.ref f))) (ht:N6 K (.ref f)=true) (hv:mA name=none) (h:Q (.ref f,[.ref x]) s) :
  wpAny (model prog w) A (getMethod (.ref x) name pl) Q E s:=by
 obtain ⟨od,J,hl⟩:=I.look;exact PySem.W.method_fn X J (Qa hg).1 (Qa hg).2 hf (beq_iff_eq.mp ht) (by show (Qr name od).map (·.isSome)=some false;rw [hl,hv];rfl) h
theorem IG {ns:List Str} {Q:Unit->LU->Prop} (X:K.In s.heap) (I:uY s.heap x dx C mA)
  (hs:L4 K (.ref C) "__setattr__" = some (some (.builtin "object.__setattr__"))) (hp:N0 K C=true) (ht:Ru K C name=some none) (hh:Nl K C=true)
  (hw:Ss mA ns) (hsz:ns.length<=MF)
  (h:∀ h',uY h' x dx C (fun y=>if y=name then some v else mA y)->O5 dx s.heap h'->Q () { s with heap:=h',toks:=s.toks+2 }) :
  wpAny (model prog w) A (setAttr (.ref x) name v) Q E s:=by
 obtain ⟨od,J,hl⟩:=I.look;refine PySem.W.set_plain X J hs (PySem.W.osa_open (s:={ s with toks:=s.toks+1 }) (r:=none) X J hp ht fun b=>?_);obtain ⟨cd,hc,hd'⟩:=PySem.W.any_some hh;have hx:s.heap.get? x=some ⟨.ref C,some dx,.plain,#[]⟩:=I.obj;refine LQ (Md (LQ (LQ (wpAny_loadPart hx (LQ (PySem.W.Looks.here (s:={ s with toks:=s.toks+1 }) (PySem.W.looks_clsIn X hc) ?_))))));rw [hd'];refine Md (a:=some dx) (LQ (Md (LQ ?_)));refine wpAny_nsSet1 (s:={ s with toks:=s.toks+1 }) I.ns fun h' hn2 hs2=>?_;obtain ⟨oD,esD,epD,hoD,hdD,hcD⟩:=hn2.count (PySem.Within.cons name v hw);refine LQ (wpAny_lookBehind hoD (by rw [hdD];exact pastItsLine_dict (M4 hcD (by rw [MQ];omega))) ?_)
 exact Md (h _ ⟨(hs2.2 _ (NY I.ne)).trans I.obj,hn2,I.ne⟩ hs2)
theorem AD {R:Q9->LU->Prop} {vs:List Value} {kw:List (Str×Value)} (X:K.In s.heap) (hm:Og K C=true)
  (hi:L4 K (.ref C) "__init__" = some (some (.ref f))) (hf:PySem.W.typeIn K (.ref f)=some (.type "function"))
  (h:codeAny (model prog w) (A.under (.builtin "type.__call__" ⟨.ref C :: vs,kw⟩)) (.call (.ref f) ⟨.ref (s.heap.objs.size+1) :: vs,kw⟩) (PySem.W.InitBack (s.heap.objs.size+1) R)
   { s with heap:=(s.heap.push NJ).push (Of C s.heap.objs.size) }) :
  codeAny (model prog w) A (.call (.ref C) ⟨vs,kw⟩) R s:=by
 obtain ⟨hh,g,d,t,os⟩:=s;exact PySem.W.make_core (PySem.W.makes_of X hm) (OW X hi) (fun self=>PySem.W.bind_fn X self hf) (.inl rfl) h
end
def dg (f:Str) (v:V):List (Str×V)->List (Str×V)
 | []=>[(f,v)]
 | (g,x) :: r=>if g=f then (g,v) :: r else (g,x) :: dg f v r
theorem uD (f g:Str) (v:V):∀ fs:List (Str×V),(dg f v fs).lookup g=if g=f then some v else fs.lookup g
 | []=>by
  show Pz g [(f,v)]=_
  by_cases h:g=f
  ·have hb:(g == f)=true:=beq_iff_eq.mpr h;simp only [Pz,hb,if_pos h]
  ·have hb:(g == f)=false:=beq_eq_false_iff_ne.mpr h;simp only [Pz,hb,if_neg h]
 | (k,x) :: r=>by
  have ih:=uD f g v r;rw [show dg f v ((k,x) :: r)=(if k=f then (k,v) :: r else (k,x) :: dg f v r) from rfl]
  by_cases hk:k=f
  ·rw [if_pos hk]
   by_cases h:g=k
   ·have hb:(g == k)=true:=beq_iff_eq.mpr h;simp only [Pz,hb,if_pos (h.trans hk)]
   ·have hb:(g == k)=false:=beq_eq_false_iff_ne.mpr h;simp only [Pz,hb,if_neg (fun e:g=f=>h (e.trans hk.symm))]
  ·rw [if_neg hk]
   by_cases h:g=k
   ·have hb:(g == k)=true:=beq_iff_eq.mpr h;simp only [Pz,hb,if_neg (fun e:g=f=>hk (h.symm.trans e))]
   ·have hb:(g == k)=false:=beq_eq_false_iff_ne.mpr h;simp only [Pz,hb];exact ih
theorem sk (f:Str) (v:V):∀ fs:List (Str×V),f∈(dg f v fs).map (·.1)/\∀ g,g∈fs.map (·.1)->g∈(dg f v fs).map (·.1)
 | []=>⟨by simp [dg],fun g h=>by simp at h⟩
 | (k,x) :: r=>by
  obtain ⟨i1,i2⟩:=sk f v r;rw [show dg f v ((k,x) :: r)=(if k=f then (k,v) :: r else (k,x) :: dg f v r) from rfl]
  by_cases hk:k=f
  ·rw [if_pos hk];subst hk;exact ⟨by simp,fun g h=>by simpa using h⟩
  ·rw [if_neg hk];refine ⟨?_,fun g h=>?_⟩
   ·rw [MO];exact Me _ i1
   ·rw [MO] at h ⊢;rcases Mv.mp h with e|e
    ·exact Mv.mpr (.inl e)
    ·exact Me _ (i2 g e)
theorem uy (f:Str) (v:V):∀ fs:List (Str×V),(dg f v fs).length<=fs.length+1
 | []=>by simp [dg]
 | (k,x) :: r=>by
  have ih:=uy f v r;rw [show dg f v ((k,x) :: r)=(if k=f then (k,v) :: r else (k,x) :: dg f v r) from rfl]
  by_cases hk:k=f
  ·rw [if_pos hk,MQ,MQ];omega
  ·rw [if_neg hk,MQ,MQ];omega
theorem jg.some_of {v:V} {o:Option Value} (r:jg (some v) o):∃ u,o=some u/\RelV v u:=by
 cases o with
 | none=>exact (show False from r).elim
 | some u=>exact ⟨u,rfl,r⟩
theorem jg.none_of {o:Option Value} (r:jg none o):o=none:=by
 cases o with
 | none=>rfl
 | some u=>exact (show False from r).elim
theorem EU {v:V} {u:Value} (r:RelV v u):PySem.W.handedIn u=true:=by
 cases v with
 | non=>cases (show u=Ow from r);rfl
 | bl b=>cases (show u=Sk b from r);rfl
 | int i=>obtain ⟨t,e⟩:=(show ∃ t,u=Oe i t from r);cases e;rfl
 | str x=>obtain ⟨t,e⟩:=(show ∃ t,u=SD x t from r);cases e;rfl
 | byt b=>obtain ⟨t,e⟩:=(show ∃ t,u=Value.bytes b t from r);cases e;rfl
 | flt b=>obtain ⟨t,e⟩:=(show ∃ t,u=Value.float b t from r);cases e;rfl
 | ref a=>cases (show u=MI a from r);rfl
 | ty n=>cases (show u=Sl n from r);rfl
section
variable {P:Mp} {w:World} {H H':Hp} {h h':Heap} {a C dx:Addr} {fs fs':List (Str×V)}
theorem xJ (hok:HOk P w H h) (e:H a=some (.ins C dx fs)):∃ mA,uY h a dx C mA/\(∀ f,jg (fs.lookup f) (mA f))/\Ss mA (fs.map (·.1))/\fs.length<=1000/\H dx=some (.own a):=by
 obtain ⟨d,z,ne,ob,mA,n,r,q⟩:=(show cA P w H h a (.ins C dx fs) from hok a _ e);exact ⟨mA,⟨ob,n,ne⟩,r,q,z,d⟩
end
structure Cls (K:LN) (C:Addr):Prop where
 pg:NC K C Qv=true
 hd:Nl K C=true
 po:N0 K C=true
 sa:L4 K (.ref C) "__setattr__" = some (some (.builtin "object.__setattr__"))
theorem Cls.get {K:LN} {C:Addr} (c:Cls K C) (f:Str):NC K C f=true:=c.pg
def bt (K:LN) (C:Addr) (f:Str):Prop:=L4 K (.ref C) f=some none
theorem bt.Lp {K:LN} {C:Addr} {f:Str} (n:bt K C f):Ru K C f=some none:=by
 unfold Ru;rw [show L4 K (.ref C) f=some none from n];rfl
structure Meth (K:LN) (C:Addr) (m:Str) (f:Addr):Prop where
 at_:L4 K (.ref C) m=some (some (.ref f))
 fn:N6 K (.ref f)=true
 kp:LV K (.ref f)=true
section
variable {X:Cx} {pins:List (Addr×Obj)} {σ:St} {H:Hp} {s:LU} {a C dx:Addr} {fs:List (Str×V)} {f:Str} {v:V} {A:MR} {E:Value->LU->Prop}
theorem Dg {b:Bool} {Q:Value->LU->Prop} (I:Inv X pins σ H s) (e:H a=some (.ins C dx fs)) (c:Cls X.K C) (n:bt X.K C f) (l:fs.lookup f=some v)
  (h:∀ u s',Inv X pins σ H s'->RelV v u->Q u s'):wpAny (model X.prog X.w) A (getAttr (.ref a) f b) Q E s:=by
 obtain ⟨mA,O,r,_,_,_⟩:=xJ I.hok e;obtain ⟨u,hu,ru⟩:=jg.some_of (v:=v) (o:=mA f) (by rw [<- l];exact r f)
 exact get_map I.kIn O (c.get f) c.hd n hu (EU ru) (h u _ (I.tok _) ru)
theorem DF {m:Str} {g:Addr} {pl:Sem Bool} {Q:Value×List Value->LU->Prop} (I:Inv X pins σ H s) (e:H a=some (.ins C dx fs)) (c:Cls X.K C) (k:Meth X.K C m g) (l:fs.lookup m=none)
  (h:Q (.ref g,[.ref a]) s):wpAny (model X.prog X.w) A (getMethod (.ref a) m pl) Q E s:=by
 obtain ⟨mA,O,r,_,_,_⟩:=xJ I.hok e;have hn:mA m=none:=jg.none_of (by rw [<- l];exact r m)
 exact Hq I.kIn O (c.get m) k.at_ k.fn hn h
theorem D3 {y:V} {u:Value} {Q:Unit->LU->Prop} (I:Inv X pins σ H s) (e:H a=some (.ins C dx fs)) (c:Cls X.K C) (n:bt X.K C f) (hl:fs.length<1000) (ry:RelV y u)
  (h:∀ s',Inv X pins σ (upd H a (.ins C dx (dg f y fs))) s'->Q () s'):wpAny (model X.prog X.w) A (setAttr (.ref a) f u) Q E s:=by
 obtain ⟨mA,O,r,wi,_,ho⟩:=xJ I.hok e;have hz:(fs.map (·.1)).length<=MF:=by rw [LP,Nx];omega
 refine IG I.kIn O c.sa c.po n.Lp c.hd wi hz fun h' O' sb=>h _ ?_;have hd:∃ o,h'.get? dx=some o:=let ⟨o,_,_,e',_⟩:=O'.ns;⟨o,e'⟩;refine I.write (x:=a) (e:=dx) (by rw [e];exact Qw) (.inr ho) (fun b q hb z=>(sb.2 b hb).trans z) hd ?_
 refine ⟨by rw [au O.ne];exact ho,?_,O.ne,O'.obj,_,O'.ns,fun g=>?_,fun g hg=>?_⟩
 ·have:=uy f y fs;omega
 ·show jg ((dg f y fs).lookup g) (if g=f then some u else mA g);rw [uD]
  by_cases q:g=f
  ·rw [if_pos q,if_pos q];exact ry
  ·rw [if_neg q,if_neg q];exact r g
 ·by_cases q:g=f
  ·rw [q];exact (sk f y fs).1
  ·refine (sk f y fs).2 g (wi g fun z=>hg ?_);show (if g=f then some u else mA g)=none;rw [if_neg q];exact z
theorem Inv.made (I:Inv X pins σ H s):Inv X pins σ (upd (upd H s.heap.objs.size (.own (s.heap.objs.size+1))) (s.heap.objs.size+1) (.ins C s.heap.objs.size []))
  { s with heap:=(s.heap.push NJ).push (Of C s.heap.objs.size) }:=by
 have e1:(s.heap.push NJ).get? s.heap.objs.size=some NJ:=Mz s.heap rfl;have e2:((s.heap.push NJ).push (Of C s.heap.objs.size)).get? (s.heap.objs.size+1)=some (Of C s.heap.objs.size):=by
  have:=Mz (s.heap.push NJ) (o:=Of C s.heap.objs.size) rfl
  rwa [NN] at this
 have e3:(s.heap.push NJ).Ns s.heap.objs.size (fun _=>none):=⟨NJ,#[],_,e1,rfl,(fun e he=>absurd he (by simp)),fun _=>rfl⟩
 have I1:=I.laid (a:=s.heap.objs.size) (o:=.own (s.heap.objs.size+1)) (h':=s.heap.push NJ) (t':=s.toks) (fun b u q=>L7 _ q) (Mh _) ⟨_,e1⟩;refine I1.laid (a:=s.heap.objs.size+1) (o:=.ins C s.heap.objs.size []) (t':=s.toks) (fun b u q=>L7 _ q) (Rv (NN _ _)) ?_;have ne:s.heap.objs.size≠s.heap.objs.size+1:=Mn (Ob _);refine ⟨by rw [au ne,ar],M7 _,ne,e2,fun _=>none,(Heap.Ns1.of_empty e3).at fun o q=>L7 _ q,fun _=>Qw,fun y hy=>absurd rfl hy⟩
theorem Ju {prog:Mp} {w:World} {env:Env} {e:Expr} {f:Str} {pos:Pos} {s:LU} {Q:Value->LU->Prop} (hb:attributeBase e f env (eval e env)=eval e env)
  (h:wpAny (model prog w) A (eval e env) (fun o s₁=>wpAny (model prog w) A (getAttr o f true) Q E s₁) E s):wpAny (model prog w) A (eval (.Attribute e f pos) env) Q E s :=
 Attribute_any_ h (by rw [arm_eval_Attribute,hb])
end
def GB (K:LN) (ta:TE) (f:Str):TE:=fun σ H Q=>ta σ H fun x H1=>∃ a C dx fs v,x=.ref a/\H1 a=some (.ins C dx fs)/\Cls K C/\bt K C f/\fs.lookup f=some v/\Q v H1
def Hr (K:LN) (ta tv:TE) (f:Str):TS:=fun D σ H=>tv σ H fun y H1=>ta σ H1 fun x H2=>∃ a C dx fs,x=.ref a/\H2 a=some (.ins C dx fs)/\Cls K C/\bt K C f/\fs.length<1000 /\
 D.nx σ (upd H2 a (.ins C dx (dg f y fs)))
section
variable {X:Cx} {o e value:Expr} {f:Str} {pos pos' tpos:Pos} {ta tv:TE}
theorem Kp (he:PE X e ta) (hb:attributeBase e f X.env (eval e X.env)=eval e X.env):PE X (.Attribute e f pos) (GB X.K ta f):=by
 intro pins s σ H Q I h;refine Ju hb (thn (he pins s σ H _ I h) fun u s1 ⟨x,H1,I1,rx,a,C,dx,fs,v,ex,ea,c,n,l,q⟩=>?_);subst ex;obtain rfl:u=MI a:=rx;exact Dg I1 ea c n l fun u' s2 I2 ru=>⟨v,H1,I2,ru,q⟩
theorem Kc (ha:PE X o ta) (hv:PE X value tv) (hs:swapsWith value (some (.Attribute o f pos')) pos.line X.env=pure false):PS X (.Assign [.Attribute o f pos'] value pos) (Hr X.K ta tv f):=by
 intro pins s σ H D I h;refine plainObj_wpAny_Assign_Attribute (thn (hv pins s σ H _ I h) fun u s1 ⟨y,H1,I1,ry,q⟩=>thn (ha pins s1 σ H1 _ I1 q) fun ov s2 ⟨x,H2,I2,rx,a,C,dx,fs,ex,ea,c,n,l,q2⟩=>?_) hs;subst ex;obtain rfl:ov=MI a:=rx;exact D3 I2 ea c n l ry fun s3 I3=>⟨σ,_,I3,q2⟩
end
section
variable {X:Cx} {pins:List (Addr×Obj)} {σ:St} {H:Hp} {s:LU} {A:MR} {E:Value->LU->Prop} {Q:Value->LU->Prop} {c:Value} {b:Bool}
end
structure cg (k:Nat) (A:MR):Prop where
 hd:A.handled=none
 dp:A.depth+3 * k+5<recursionLimit
 un:A.units+16 * k+200<cLine
theorem cg.mono {j k:Nat} {A:MR} (r:cg k A) (h:j<=k):cg j A:=⟨r.hd,by have:=r.dp;omega,by have:=r.un;omega⟩
theorem cg.deeper {k:Nat} {A:MR} (r:cg (k+1) A) (env:Env):cg k (A.deeper env) :=
 ⟨r.hd,by have:=r.dp;show A.depth+1+3 * k+5<_;omega,by have:=r.un;show A.units+3+16 * k+200<_;omega⟩
theorem cg.in1 {k:Nat} {A:MR} (r:cg (k+1) A):cg k A.in1 :=
 ⟨r.hd,by have:=r.dp;show A.depth+3 * k+5<_;omega,by have:=r.un;show A.units+1+16 * k+200<_;omega⟩
theorem C2 {A:MR} {C:Addr} {us:List Value} {kw:List (Str×Value)}:(A.under (.builtin "type.__call__" ⟨.ref C :: us,kw⟩)).depth=A.depth+1:=by
 first|rfl|simp [Su,Code.weight,Code.isCreation,Code.isGuard,Code.isCaller,Code.frames,Sv,guardIds]
theorem CV {A:MR} {C:Addr} {us:List Value} {kw:List (Str×Value)}:(A.under (.builtin "type.__call__" ⟨.ref C :: us,kw⟩)).units=A.units+1:=by
 first|rfl|simp [Su,Code.cUnits,Code.frames,Sv]
theorem cg.make {k:Nat} {A:MR} (r:cg (k+1) A) (C:Addr) (us:List Value) (kw:List (Str×Value)):cg k (A.under (.builtin "type.__call__" ⟨.ref C :: us,kw⟩)) :=
 ⟨r.hd,by have:=r.dp;rw [C2];omega,by have:=r.un;rw [CV];omega⟩
theorem cg.depth {k:Nat} {A:MR} (r:cg k A):A.depth<recursionLimit:=by have:=r.dp;omega
theorem cg.units {k:Nat} {A:MR} (r:cg k A):A.units+64<cLine:=by have:=r.un;omega
def xU:TA:=fun _ H Q=>Q [] H
def qX (ta:TE) (tr:TA):TA:=fun σ H Q=>ta σ H fun x H1=>tr σ H1 fun xs H2=>Q (x :: xs) H2
section
variable {X:Cx} {e:Expr} {es:List Expr} {te:TE} {t:TA} {pos:Pos}
theorem aa:PA X [] xU:=fun _ _ _ _ H Q I h=>Calls.spliced_nil ⟨[],H,I,.nil,h⟩
theorem w5 (ha:PE X e te) (hr:PA X es t) (hs:MU (e :: es) X.env=(false,eval e X.env) :: MU es X.env:=by rfl):PA X (e :: es) (qX te t):=by
 intro pos pins s σ H Q I h;rw [hs];show wpAny _ _ (spliced ((false,eval e X.env) :: backTo pos (MU es X.env))) _ _ s;refine Calls.spliced_cons (thn (ha pins s σ H _ I h) fun u s1 ⟨x,H1,I1,r1,q1⟩=>?_);exact thn (hr pos pins s1 σ H1 _ I1 q1) fun us s2 ⟨xs,H2,I2,r2,q2⟩=>⟨x :: xs,H2,I2,.cons r1 r2,q2⟩
def Kv (t:TA):TE:=fun σ H Q=>t σ H fun xs H1=>xs.length<=MF/\∀ p,H1 p=none->Q (.ref p) (upd H1 p (.tup xs))
def AF (t:TA):TE:=fun σ H Q=>t σ H fun xs H1=>xs.length<=MF/\∀ p,H1 p=none->Q (.ref p) (upd H1 p (.lst xs))
theorem mX {x1} (h:PA X es t):PE X (.Tuple es x1 pos) (Kv t):=by
 intro pins s σ H Q I hq;refine wpAny_Tuple_spliced (thn (h pos pins s σ H _ I hq) fun us s1 ⟨xs,H1,I1,r,z,q⟩=>⟨by rw [<- r.length];exact z,?_⟩)
 have hf:H1 s1.heap.objs.size=none:=I1.hok.fresh (Mh _);refine ⟨.ref s1.heap.objs.size,upd H1 s1.heap.objs.size (.tup xs),I1.laid (t':=s1.toks) (fun b u e=>L7 _ e) (Mh _) ?_,rfl,q _ hf⟩;exact ⟨z,us,r,⟨_,Mz _ rfl,rfl,_,rfl⟩⟩
theorem bT (h:PA X es t):PE X (.List es pos) (AF t):=by
 intro pins s σ H Q I hq;refine wpAny_List_spliced (thn (h pos pins s σ H _ I hq) fun us s1 ⟨xs,H1,I1,r,z,q⟩=>⟨by rw [<- r.length];exact z,?_⟩)
 have hf:H1 s1.heap.objs.size=none:=I1.hok.fresh (Mh _);refine ⟨.ref s1.heap.objs.size,upd H1 s1.heap.objs.size (.lst xs),I1.laid (t':=s1.toks) (fun b u e=>L7 _ e) (Mh _) ?_,rfl,q _ hf⟩;exact ⟨z,us,0,r,Mz _ rfl⟩
end
abbrev Sp:=List V->Hp->VK->XK->Prop
abbrev CXT:=List Env->Hp->LU->XK->Value->LU->Prop
structure pj (P:Mp) (w:World) (K:LN) (mg:Str->Option Value) (base:Heap) (A:MR) (outer:List Env) (s:LU) (H:Hp):Prop where
 frames:A.frames=some outer
 mod:Mod K mg base
 bs:∀ b o,base.get? b=some o->s.heap.get? b=some o/\H b=none
 bsz:base.objs.size<=s.heap.objs.size
 gn:s.heap.FunFrames base outer
 frf:∀ b∈frs outer,H b=none
 hok:HOk P w H s.heap
 bare:QQ s.gens
def CE (outer:List Env) (P:Mp) (w:World) (H:Hp) (s:LU) (Q:VK) (u:Value) (s':LU):Prop :=
 ∃ v H',s'.os=s.os/\QQ s'.gens/\Un (frs outer) [] H H' s.heap s'.heap/\HOk P w H' s'.heap/\RelV v u/\Q v H'
def CR (CX:CXT) (outer:List Env) (P:Mp) (w:World) (H:Hp) (s:LU) (Q:VK) (E:XK) (r:Q9) (s':LU):Prop :=
 match r with
 | .ok (.ret u)=>CE outer P w H s Q u s'
 | .ok _=>False
 | .error e=>CX outer H s E e s'
structure aI (P:Mp) (w:World) (K:LN) (mg:Str->Option Value) (base:Heap) (CX:CXT) (k:Nat) (f:Addr) (fd:MZ) (ps:List Str) (sp:Sp):Prop where
 len:∀ vs H Q E,sp vs H Q E->vs.length=ps.length
 run:∀ (A:MR) (outer:List Env) (s:LU) (H:Hp) (args:Args) (us:List Value) (vs:List V) (Q:VK) (E:XK),cg k A->pj P w K mg base A outer s H->QU s fd args (ps.zip us)->Vals vs us->sp vs H Q E ->
  codeAny (model P w) A (.call (.ref f) args) (CR CX outer P w H s Q E) s
theorem aI.mono {P:Mp} {w:World} {K:LN} {mg:Str->Option Value} {base:Heap} {CX:CXT} {j k:Nat} {f:Addr} {fd:MZ} {ps:List Str} {sp:Sp} (F:aI P w K mg base CX j f fd ps sp) (h:j<=k) :
  aI P w K mg base CX k f fd ps sp:=⟨F.len,fun A outer s H args us vs Q E hr=>F.run A outer s H args us vs Q E (hr.mono h)⟩
theorem pj.make {P:Mp} {w:World} {K:LN} {mg:Str->Option Value} {base:Heap} {A:MR} {outer:List Env} {s:LU} {H:Hp} (e:pj P w K mg base A outer s H) (C:Addr) (us:List Value) (kw:List (Str×Value)) :
  pj P w K mg base (A.under (.builtin "type.__call__" ⟨.ref C :: us,kw⟩)) outer s H:=⟨by first|exact e.frames|(simpa [Su,Code.envs,Sv,pushEnvs] using e.frames),e.mod,e.bs,e.bsz,e.gn,e.frf,e.hok,e.bare⟩
theorem pj.in1 {P:Mp} {w:World} {K:LN} {mg:Str->Option Value} {base:Heap} {A:MR} {outer:List Env} {s:LU} {H:Hp} (e:pj P w K mg base A outer s H) :
  pj P w K mg base A.in1 outer s H:=⟨e.frames,e.mod,e.bs,e.bsz,e.gn,e.frf,e.hok,e.bare⟩
section
variable {X:Cx} {pins:List (Addr×Obj)} {σ:St} {H:Hp} {s s':LU}
theorem Inv.Ho (I:Inv X pins σ H s):pj X.prog X.w X.K X.mg X.base X.A X.stack s H :=
 ⟨I.ok.frames,I.ok.mod,I.bs,M4 I.ok.bsz I.sz,I.stack,I.xG,I.hok,I.bare⟩
theorem Inv.after {Q:VK} {u:Value} (I:Inv X pins σ H s) (h:CE X.stack X.prog X.w H s Q u s'):EP X pins σ Q u s':=by
 obtain ⟨v,H',os,bare,un,hok,r,q⟩:=h;obtain ⟨hh,g,d,t,os'⟩:=s';obtain rfl:os'=s.os:=os;exact ⟨v,H',I.call (h':=hh) (g':=g) (d':=d) (t':=t) (ch:=[]) un hok bare (fun b z=>absurd z (by simp)),r,q⟩
end
def qz (sp:Sp) (dvs:List V) (E:XK) (t:TA):TE:=fun σ H Q=>t σ H fun vs H1=>sp (vs++dvs) H1 Q E
def C8 (C:Addr) (sp:Sp) (dvs:List V) (E:XK) (t:TA):TE:=fun σ H Q=>t σ H fun vs H1=>∀ x dx,H1 x=none->H1 dx=none->dx≠x ->
 sp (.ref x :: (vs++dvs)) (upd (upd H1 dx (.own x)) x (.ins C dx [])) (fun v H2=>v=.non/\Q (.ref x) H2) E
def Binds (K:LN) (fd:MZ) (ps:List Str) (ds:List Value):Prop :=
 ∀ (s:LU) (us:List Value),K.In s.heap->(us++ds).length=ps.length->QU s fd ⟨us,[]⟩ (ps.zip (us++ds))
theorem Binds.all {K:LN} {fd:MZ} {ps:List Str} (h:∀ us:List Value,us.length=ps.length->bindArgs fd ⟨us,[]⟩=pure (ps.zip us)):Binds K fd ps []:=fun s us _ hl=>by
 rw [Pd] at hl ⊢;exact .of_eq (h us hl)
def Passes (CX:CXT) (X:Cx) (E:XK):Prop:=∀ (pins:List (Addr×Obj)) (σ:St) (H:Hp) (s:LU) (e:Value) (s':LU),Inv X pins σ H s->CX X.stack H s E e s'->X.xe e s'
section
variable {X:Cx} {CX:CXT} {k:Nat} {f C:Addr} {fd:MZ} {ps:List Str} {sp:Sp} {dvs:List V} {ds:List Value} {E:XK} {x m:Str} {p pos apos:Pos} {e o:Expr} {es:List Expr} {ta:TE} {t:TA}
theorem AV {pins:List (Addr×Obj)} {σ:St} {H:Hp} {s:LU} {Q:VK} {us:List Value} {vs:List V} (F:aI X.prog X.w X.K X.mg X.base CX k f fd ps sp) (hr:cg k X.A) (hb:Binds X.K fd ps ds) (hd:Vals dvs ds) (hx:Passes CX X E)
  (I:Inv X pins σ H s) (r:Vals vs us) (h:sp (vs++dvs) H Q E):wpAny (model X.prog X.w) X.A (call (.ref f) us) (EP X pins σ Q) X.xe s:=by
 have r2:Vals (vs++dvs) (us++ds):=r.append hd;have hl:(us++ds).length=ps.length:=by rw [<- r2.length];exact F.len _ _ _ _ h
 refine Sn (OO (F.run X.A X.stack s H ⟨us,[]⟩ (us++ds) (vs++dvs) Q E hr I.Ho (hb s us I.kIn hl) r2 h) fun r s' hq=>?_);cases r with
 | error e=>exact hx pins σ H s e s' I hq
 | ok fl =>
  cases fl with
  | ret u=>exact I.after hq
  | next=>exact Nk hq
  | brk=>exact Nk hq
  | cont=>exact Nk hq
theorem xf (F:aI X.prog X.w X.K X.mg X.base CX k f fd ps sp) (hr:cg k X.A) (hg:Gl X x) (hm:X.mg x=some (.ref f)) (hk:LV X.K (.ref f)=true) (hb:Binds X.K fd ps ds) (hd:Vals dvs ds) (hx:Passes CX X E)
  (ha:PA X (e :: es) t) (hdb:(x == ("__debug__" : Str))=false:=by decide) (he:MU (e :: es) X.env=(false,eval e X.env) :: MU es X.env:=by rfl) (hpl:(backTo pos (MU es X.env)).any (·.1)=false:=by rfl) :
  PE X (.Call (.Name x p) (e :: es) [] pos) (qz sp dvs E t):=by
 intro pins s σ H Q I h;refine OK (mw I hg hm ?_ hdb);refine OL (h₀:=X.base) I.ok.mod.kin hk (thn (ha pos pins s σ H _ I h) fun us s1 ⟨vs,H1,I1,r,q⟩=>⟨I1.kIn,?_⟩) he hpl;exact AV F hr hb hd hx I1 r q
structure Mk (K:LN) (C f:Addr):Prop where
 makes:Og K C=true
 init:L4 K (.ref C) "__init__" = some (some (.ref f))
 fn:N6 K (.ref f)=true
 kp:LV K (.ref C)=true
theorem Ha {pins:List (Addr×Obj)} {σ:St} {H:Hp} {s:LU} {Q:VK} {us:List Value} {vs:List V} (M:Mk X.K C f) (F:aI X.prog X.w X.K X.mg X.base CX k f fd ps sp) (hr:cg (k+1) X.A) (hb:Binds X.K fd ps ds) (hd:Vals dvs ds)
  (hx:Passes CX X E) (I:Inv X pins σ H s) (r:Vals vs us)
  (h:∀ x dx,H x=none->H dx=none->dx≠x->sp (.ref x :: (vs++dvs)) (upd (upd H dx (.own x)) x (.ins C dx [])) (fun v H2=>v=.non/\Q (.ref x) H2) E) :
  wpAny (model X.prog X.w) X.A (call (.ref C) us) (EP X pins σ Q) X.xe s:=by
 have hq:=h (s.heap.objs.size+1) s.heap.objs.size (I.hok.fresh (OF _)) (I.hok.fresh (Mh _)) (Mn (Ob _));have I2:=Inv.made (C:=C) I;have r2:Vals (V.ref (s.heap.objs.size+1) :: (vs++dvs)) (MI (s.heap.objs.size+1) :: (us++ds)):=.cons rfl (r.append hd);have hl:(MI (s.heap.objs.size+1) :: us++ds).length=ps.length:=by
  have e:=r2.length;rw [F.len _ _ _ _ hq] at e;exact e.symm
 refine Sn (AD (f:=f) I.kIn M.makes M.init (beq_iff_eq.mp M.fn) (OO (F.run _ X.stack _ _ ⟨MI (s.heap.objs.size+1) :: us,[]⟩ (MI (s.heap.objs.size+1) :: (us++ds)) _ _ E (hr.make C us [])
  (I2.Ho.make C us []) (hb _ (MI (s.heap.objs.size+1) :: us) I2.kIn hl) r2 hq) fun r s' hq'=>?_))
 cases r with
 | error e=>exact hx pins σ _ _ e s' I2 hq'
 | ok fl =>
  cases fl with
  | ret u =>
   obtain ⟨v,H',I3,rv,ev,q3⟩:=I2.after hq';subst ev;exact ⟨rv,⟨V.ref (s.heap.objs.size+1),H',I3,rfl,q3⟩⟩
  | next=>exact Nk hq'
  | brk=>exact Nk hq'
  | cont=>exact Nk hq'
theorem JH (M:Mk X.K C f) (F:aI X.prog X.w X.K X.mg X.base CX k f fd ps sp) (hr:cg (k+1) X.A) (hg:Gl X x) (hm:X.mg x=some (.ref C)) (hb:Binds X.K fd ps ds) (hd:Vals dvs ds) (hx:Passes CX X E)
  (ha:PA X (e :: es) t) (hdb:(x == ("__debug__" : Str))=false:=by decide) (he:MU (e :: es) X.env=(false,eval e X.env) :: MU es X.env:=by rfl) (hpl:(backTo pos (MU es X.env)).any (·.1)=false:=by rfl) :
  PE X (.Call (.Name x p) (e :: es) [] pos) (C8 C sp dvs E t):=by
 intro pins s σ H Q I h;refine OK (mw I hg hm ?_ hdb);refine OL (h₀:=X.base) I.ok.mod.kin M.kp (thn (ha pos pins s σ H _ I h) fun us s1 ⟨vs,H1,I1,r,q⟩=>⟨I1.kIn,?_⟩) he hpl;exact Ha M F hr hb hd hx I1 r q
end
section
variable {X:Cx} {CX:CXT} {k:Nat} {f C:Addr} {fd:MZ} {ps ks:List Str} {sp:Sp} {E:XK} {x m:Str} {p pos apos kpos:Pos} {e o:Expr} {es:List Expr} {kws:List Rw} {te ta:TE} {t tk:TA} {nm:Option Str}
structure Ak (K:LN) (fd:MZ) (ps ks:List Str) (g:List Value->List Value->List Value) (gV:List V->List V->List V):Prop where
 to:∀ (s:LU) (us ws:List Value),K.In s.heap->(g us ws).length=ps.length->QU s fd ⟨us,ks.zip ws⟩ (ps.zip (g us ws))
 rel:∀ {vs:List V} {us:List Value} {zs:List V} {ws:List Value},Vals vs us->Vals zs ws->Vals (gV vs zs) (g us ws)
variable {g:List Value->List Value->List Value} {gV:List V->List V->List V}
end
structure aK (N P:List Str) (sc:Scope):Prop where
 kind:sc.kind=.function
 co:sc.isCoroutine=false
 gen:sc.isGenerator=false
 nd:N.Nodup
 pre:N.take P.length=P
 par:∀ x∈P,sc.names.lookup x=some .local\/sc.names.lookup x=some .cell
 KL:∀ y∈sc.names,y.2≠.free
theorem ye {kindOf:Str->Option OT} {x:Str}:∀ {binds:List (Str×Value)} {m:Str->Option Value},(∀ v,(x,v)∉binds)->bindL kindOf binds m x=m x
 | [],_,_=>rfl
 | (n,v) :: r,m,h=>by
  unfold bindL;rw [ye fun w hw=>h w (Me _ hw)]
  split
  ·have:x≠n:=by rintro rfl;exact h v Mj
   simp [this]
  ·rfl
theorem yA {kindOf:Str->Option OT} {x:Str}:∀ {binds:List (Str×Value)} {m:Str->Option Value},(∀ v,(x,v)∉binds)->bindC kindOf binds m x=m x
 | [],_,_=>rfl
 | (n,v) :: r,m,h=>by
  unfold bindC;rw [yA fun w hw=>h w (Me _ hw)]
  split
  ·rfl
  ·have:x≠n:=by rintro rfl;exact h v Mj
   simp [this]
theorem yD {kindOf:Str->Option OT} {x:Str} {v:Value}:∀ {P:List Str} {vs:List Value} {i:Nat} {m:Str->Option Value},P.Nodup->P[i]?=some x->vs[i]?=some v->kindOf x=some .local ->
  bindL kindOf (P.zip vs) m x=some v
 | [],_,_,_,_,h,_,_=>by simp at h
 | _ :: _,[],_,_,_,_,h,_=>by simp at h
 | p :: P,w :: vs,0,m,nd,h1,h2,hk=>by
  simp at h1 h2;subst h1;subst h2;show bindL kindOf ((p,w) :: P.zip vs) m p=_;unfold bindL;rw [ye fun v hv=>(M9.mp nd).1 (Rx hv).1,if_pos hk];simp
 | p :: P,w :: vs,i+1,m,nd,h1,h2,hk=>by
  show bindL kindOf ((p,w) :: P.zip vs) m x=_;unfold bindL;exact yD (i:=i) (M9.mp nd).2 (by simpa using h1) (by simpa using h2) hk
theorem yL {kindOf:Str->Option OT} {x:Str} {v:Value}:∀ {P:List Str} {vs:List Value} {i:Nat} {m:Str->Option Value},P.Nodup->P[i]?=some x->vs[i]?=some v->kindOf x≠some .local ->
  bindC kindOf (P.zip vs) m x=some v
 | [],_,_,_,_,h,_,_=>by simp at h
 | _ :: _,[],_,_,_,_,h,_=>by simp at h
 | p :: P,w :: vs,0,m,nd,h1,h2,hk=>by
  simp at h1 h2;subst h1;subst h2;show bindC kindOf ((p,w) :: P.zip vs) m p=_;unfold bindC;rw [yA fun v hv=>(M9.mp nd).1 (Rx hv).1,if_neg hk];simp
 | p :: P,w :: vs,i+1,m,nd,h1,h2,hk=>by
  show bindC kindOf ((p,w) :: P.zip vs) m x=_;unfold bindC;exact yL (i:=i) (M9.mp nd).2 (by simpa using h1) (by simpa using h2) hk
def start (N:List Str) (vs:List V):St:=vs.map some++Mq (N.length - vs.length) none
def jc (CX:CXT) (P:Mp) (w:World) (K:LN) (mg:Str->Option Value) (base:Heap) (N:List Str) (qual:Str) (scope:Scope) (f:Addr) (cd:Value) (A:MR) (outer:List Env) (s:LU) (H:Hp) (E:XK):Cx where
 prog:=P
 w:=w
 K:=K
 mg:=mg
 base:=base
 A:=A.deeper (envOfC qual scope s.heap.objs.size f cd)
 N:=N
 s₀:=s
 H₀:=H
 env:=envOfC qual scope s.heap.objs.size f cd
 outer:=outer
 stack:=envOfC qual scope s.heap.objs.size f cd :: outer
 ex:=[]
 calm:=true
 fn:=fun _=>true
 pn:=[]
 xe:=fun e s'=>wpAny (model P w) (A.deeper (envOfC qual scope s.heap.objs.size f cd)) (leaving (envOfC qual scope s.heap.objs.size f cd) e) (fun _ s''=>CX outer H s E e s'') (fun e' s''=>CX outer H s E e' s'') s'
theorem Ah {sc:Scope} {n:Nat} {x:Str} (h:sc.names.lookup x=some .cell):∃ c,(cellsFrom n sc.names []).lookup x=some c:=by
 have q:=Rj sc.names n [] (.inl h);exact Qx.mp q
theorem FX {CX:CXT} {P:Mp} {w:World} {K:LN} {mg:Str->Option Value} {base:Heap} {N ps:List Str} {qual:Str} {scope:Scope} {f:Addr} {cd:Value} {A:MR} {outer:List Env} {s s1:LU} {H:Hp} {E:XK} {us:List Value} {vs:List V}
  (S:aK N ps scope) (hd:A.handled=none) (e0:pj P w K mg base A outer s H) (hl:vs.length=ps.length) (r:Vals vs us)
  (x:InCallC s s.heap.objs.size (bindL (envOfC qual scope s.heap.objs.size f cd).kindOf (ps.zip us) fun _=>none) (cellsFrom (s.heap.objs.size+1) scope.names []) (bindC (envOfC qual scope s.heap.objs.size f cd).kindOf (ps.zip us) fun _=>none) s1) :
  Inv (jc CX P w K mg base N qual scope f cd A outer s H E) [] (start N vs) H s1:=by
 have hpl:ps.length<=N.length:=by have:=congrArg Qb S.pre;rw [Mu] at this;omega
 obtain ⟨h1,tk,rfl,hk⟩:=x.done;have noA:∀ b:Addr,b∉(jc CX P w K mg base N qual scope f cd A outer s H E).ex:=fun b z=>absurd (show b∈([]:List Addr) from z) (by simp)
 refine ⟨⟨e0.mod,S.kind,rfl,rfl,Mh _,fun y z c h1 h2=>?_,fun y hy=>?_,fun y c _ h=>?_,fun _=>hd,Around.frames_deeper e0.frames,.inr ⟨rfl,rfl⟩,fun b z=>absurd z (noA b),e0.bs,e0.bsz,fun b _ _=>noA b,fun b z=>absurd z (noA b),e0.gn,e0.frf⟩,
  rfl,e0.bare,Un.kept hk,⟨_,x.toInCall.ns,fun i y v h1 h2 h3=>?_⟩,fun y c h=>⟨_,x.cell y c h⟩,e0.hok.fresh (Mh _),fun y c h=>?_,fun p hp=>absurd (show p∈([]:List (Addr×Obj)) from hp) (by simp),e0.hok.kept hk,?_⟩
 ·exact name_of_addr x.apart (MW h1) (MW h2)
 ·have hy:scope.names.lookup y=some .cell\/scope.names.lookup y=some .free:=hy;rcases hy with hy|hy
  ·exact Ah hy
  ·exact absurd rfl (S.KL _ (MW hy))
 ·exact N5 (x.above y c (MW h))
 ·have hi:i<vs.length:=by
   unfold start at h2
   by_cases hi:i<vs.length
   ·exact hi
   ·rw [MA (by simpa using hi)] at h2
    rw [QV] at h2
    split at h2 <;> cases h2
  have ha:vs[i]?=some v:=by
   unfold start at h2;rw [MB (by simpa using hi),Mc] at h2
   cases e:vs[i]? with
   | none=>rw [e] at h2;cases h2
   | some a=>rw [e] at h2;cases h2;rfl
  obtain ⟨u,hu,rv⟩:=r.get ha;have hp:ps[i]?=some y:=by
   rw [<- S.pre,NK (by omega)];exact h1
  have ndP:ps.Nodup:=by rw [<- S.pre];exact S.nd.sublist (List.take_sublist _ _)
  refine ⟨u,rv,?_⟩;rcases S.par y (LS hp) with k|k
  ·exact .inl ⟨k,yD ndP hp hu k⟩
  ·obtain ⟨c,e⟩:=Ah (n:=s.heap.objs.size+1) k;refine .inr ⟨.inl k,c,e,?_⟩;have q:=x.cell y c e;rw [yL ndP hp hu (by show scope.names.lookup y≠_;rw [k];decide)] at q
   exact q
 ·exact e0.hok.fresh (N5 (x.above y c (MW h)))
 ·unfold start;show _=N.length;rw [Mm,LP,PU];omega
theorem zL {CX:CXT} {P:Mp} {w:World} {K:LN} {mg:Str->Option Value} {base:Heap} {k:Nat} {f:Addr} {name qual:Str} {params:Arguments} {body:List Stmt} {scope:Scope} {dV kV doc pm cdv ct oc:Value} {an od:Option Addr}
  {osl:Array (Option Value)} {N ps:List Str} {sp:Sp} (lk:K.lookup f=some ⟨oc,od,.func (L8 name qual params body scope dV kV doc pm an cdv ct),osl⟩) (hcd:L5 K cdv qual=true) (S:aK N ps scope)
  (len:∀ vs H Q E,sp vs H Q E->vs.length=ps.length)
  (hbody:∀ (A:MR) (outer:List Env) (s:LU) (H:Hp) (vs:List V) (Q:VK) (E:XK),cg k (A.deeper (envOfC qual scope s.heap.objs.size f cdv))->sp vs H Q E ->
   ∃ t,PSs (jc CX P w K mg base N qual scope f cdv A outer s H E) body t/\t { nx:=fun _ H'=>Q .non H',rt:=Q } (start N vs) H) :
  aI P w K mg base CX (k+1) f (L8 name qual params body scope dV kV doc pm an cdv ct) ps sp:=by
 refine ⟨len,fun A outer s H args us vs Q E hr e0 hb r hsp=>?_⟩;have hl:=len _ _ _ _ hsp;have KX:K.In s.heap:=e0.mod.kin.keeps fun b o e=>(e0.bs b o e).1;have lim:s.heap.NoLimit:=e0.mod.nolimit.keeps fun b o e=>(e0.bs b o e).1;have hkind:∀ y∈ps.zip us,scope.names.lookup y.1=some .local\/(scope.names.lookup y.1=some .cell/\((cellsFrom (s.heap.objs.size+1) scope.names []).lookup y.1).isSome=true):=fun ⟨n,v⟩ hy=>by
  rcases S.par n (Rx hy).1 with q|q
  ·exact .inl q
  ·exact .inr ⟨q,Rj _ _ _ (.inl q)⟩
 refine codeAny_call_function hr.depth (KX _ _ lk) rfl S.co S.gen rfl (PySem.W.codeRec_of KX hcd) (hb _ _ _ _ ?_);refine wpAny_newFunctionEnv_cells S.kind hkind fun env he s1 x=>?_;subst he;refine ⟨lim.keeps x.toInCall.keep,codeAny_func ?_⟩;obtain ⟨t,ht,hq⟩:=hbody A outer s H vs Q E (hr.deeper _) hsp;have I:Inv (jc CX P w K mg base N qual scope f cdv A outer s H E) [] (start N vs) H s1:=FX S hr.hd e0 hl r x;refine Nj (ht [] s1 (start N vs) H _ I hq) (fun fl s' hs=>?_) fun e s' hs=>hs;have fin:∀ {σ':St} {H':Hp} {v:V} {u:Value},Inv (jc CX P w K mg base N qual scope f cdv A outer s H E) [] σ' H' s'->RelV v u->Q v H'->CE outer P w H s Q u s' :=
  fun {σ' H' v u} J rv q=>⟨v,H',J.os,J.bare,J.base,J.hok,rv,q⟩
 cases fl with
 | ret u =>
  obtain ⟨v,σ',H',J,rv,q⟩:=hs;exact fin J rv q
 | next =>
  obtain ⟨σ',H',J,q⟩:=hs;exact fin (v:=V.non) (u:=Ow) J rfl q
 | brk =>
  obtain ⟨_,_,_,q⟩:=hs;exact Nk q
 | cont =>
  obtain ⟨_,_,_,q⟩:=hs;exact Nk q
section
variable {X:Cx} {x:Str} {p pos:Pos} {e:Expr} {es:List Expr} {t:TA} {id T:String} {r:List V->Hp->VK->Prop}
def tCB (r:List V->Hp->VK->Prop) (t:TA):TE:=fun σ H Q=>t σ H fun vs H1=>r vs H1 Q
theorem GR (hc:da X (.builtin id) r) (hg:Gl X x) (hm:X.mg x=none) (hv:bootBuiltins x=some (.builtin id)) (ha:PA X (e :: es) t) (hn:x ≠ "__name__":=by decide) (hdb:(x == ("__debug__" : Str))=false:=by decide)
  (he:MU (e :: es) X.env=(false,eval e X.env) :: MU es X.env:=by rfl) (hpl:(backTo pos (MU es X.env)).any (·.1)=false:=by rfl):PE X (.Call (.Name x p) (e :: es) [] pos) (tCB r t):=by
 intro pins s σ H Q I h;refine OK (oz I hg hm hv ?_ hn hdb);exact PyProof.Rows.callWith_builtin1 (thn (ha pos pins s σ H _ I h) fun us s1 ⟨vs,H1,I1,r1,q1⟩=>hc pins s1 σ H1 vs us Q I1 r1 q1) he hpl
theorem EE (hc:da X (.type T) r) (hg:Gl X x) (hm:X.mg x=none) (hv:bootBuiltins x=some (.type T)) (ha:PA X (e :: es) t) (hn:x ≠ "__name__":=by decide) (hdb:(x == ("__debug__" : Str))=false:=by decide)
  (he:MU (e :: es) X.env=(false,eval e X.env) :: MU es X.env:=by rfl) (hpl:(backTo pos (MU es X.env)).any (·.1)=false:=by rfl):PE X (.Call (.Name x p) (e :: es) [] pos) (tCB r t):=by
 intro pins s σ H Q I h;refine OK (oz I hg hm hv ?_ hn hdb);exact NO (thn (ha pos pins s σ H _ I h) fun us s1 ⟨vs,H1,I1,r1,q1⟩=>hc pins s1 σ H1 vs us Q I1 r1 q1) he hpl
end
end L2
namespace HT
open PySem PyProof.Rows
section
open PySem.SeqAt
open PySem.AutoSeq1 (wpAny_loadPart')
open PySem.MeetsSeq PySem.MeetsSeq2 PySem.MeetsSeq3
end
section
variable {prog:Mp} {w:World} {A:MR} {E:Value->LU->Prop} {s:LU}
def sIx (n d:Nat):Option Int->Nat
 | none=>d
 | some v=>if v<0 then (v+(n:Int)).toNat else min v.toNat n
theorem HR (n d:Nat):sIx n d none=d:=rfl
theorem Jg (n d k:Nat):sIx n d (some (k:Int))=min k n:=by
 show (if (k:Int)<0 then ((k:Int)+(n:Int)).toNat else min (k:Int).toNat n)=min k n;rw [if_neg (by omega),NL]
end
end HT
namespace L2
open PySem PySem.Spec PyProof.Rows
abbrev TO:=St->Hp->(Option Int->Hp->Prop)->Prop
def PO (X:Cx) (e:Option Expr) (t:TO):Prop :=
 ∀ (pins:List (Addr×Obj)) (s:LU) (σ:St) (H:Hp) (Q:Option Int->Hp->Prop),Inv X pins σ H s->t σ H Q ->
  wpAny (model X.prog X.w) X.A (evalPart e X.env) (fun u s'=>∃ o H',Inv X pins σ H' s'/\IsPart u o/\Q o H') X.xe s
def CF:TO:=fun _ H Q=>Q none H
def Ip (t:TE):TO:=fun σ H Q=>t σ H fun x H1=>∃ i,x=.int i/\Q (some i) H1
section
variable {X:Cx} {e:Expr} {te:TE} {lo hi:Option Expr} {tl th:TO} {pos p2:Pos}
theorem CM:PO X none CF:=by
 intro pins s σ H Q I h;rw [evalPart_none];exact Md ⟨none,H,I,.none,h⟩
theorem CN (h:PE X e te):PO X (some e) (Ip te):=by
 intro pins s σ H Q I hw;rw [evalPart_some];refine thn (h pins s σ H _ I hw) fun u s1 ⟨x,H1,I1,r1,q1⟩=>?_;obtain ⟨i,rfl,q⟩:=q1;obtain ⟨t,rfl⟩:=r1;exact ⟨some i,H1,I1,.int i t,q⟩
def SlR (X:Cx) (r:V->Option Int->Option Int->Hp->VK->Prop):Prop :=
 ∀ (pins:List (Addr×Obj)) (s:LU) (σ:St) (H:Hp) (x:V) (v vl vu:Value) (lo hi:Option Int) (sl:Addr) (Q:VK),Inv X pins σ H s->RelV x v->s.heap.IsSliceOf sl vl vu .none->IsPart vl lo->IsPart vu hi->r x lo hi H Q ->
  ∃ T id,typeLookup (.type T) "__getitem__" = pure (some (.builtin id))/\s.TypeIs v T/\wpAny (model X.prog X.w) X.A (getItem v (.ref sl)) (EP X pins σ Q) X.xe s
def tSl (r:V->Option Int->Option Int->Hp->VK->Prop) (te:TE) (tl th:TO):TE:=fun σ H Q=>te σ H fun x H1=>tl σ H1 fun l H2=>th σ H2 fun u H3=>r x l u H3 Q
theorem Au {r:V->Option Int->Option Int->Hp->VK->Prop} (hr:SlR X r) (he:PE X e te) (hl:PO X lo tl) (hu:PO X hi th):PE X (.Subscript e (.Slice lo hi none p2) pos) (tSl r te tl th):=by
 intro pins s σ H Q I h;refine Subscript_ (thn (he pins s σ H _ I h) fun v s1 ⟨x,H1,I1,r1,q1⟩=>?_);refine wpAny_Slice (thn (hl pins s1 σ H1 _ I1 q1) fun vl s2 ⟨l,H2,I2,pl,q2⟩=>thn (hu pins s2 σ H2 _ I2 q2) fun vu s3 ⟨u,H3,I3,pu,q3⟩=>?_);rw [evalPart_none];refine Md ?_;have I4:Inv X pins σ H3 { s3 with heap:=s3.heap.push { cls:=.type "slice",data:=.fields #[vl,vu,.none] } }:=I3.kept (t':=s3.toks) fun b ob q=>L7 _ q;obtain ⟨T,id,hT,ht,hg⟩:=hr pins { s3 with heap:=s3.heap.push { cls:=.type "slice",data:=.fields #[vl,vu,.none] } } σ H3 x v vl vu l u s3.heap.objs.size Q I4 r1 (Heap.IsSliceOf.new ..) pl pu q3;show wpAny (model X.prog X.w) X.A (subscriptTail e (.Slice lo hi none p2) v (.ref s3.heap.objs.size)) (EP X pins σ Q) X.xe { s3 with heap:=s3.heap.push { cls:=.type "slice",data:=.fields #[vl,vu,.none] } };exact tail_any (ops:=[.ref s3.heap.objs.size,v]) ht hT hg (by with_unfolding_all rfl)
def uP (xs:List V) (lo hi:Option Int):List V:=(xs.drop (HT.sIx xs.length 0 lo)).take (HT.sIx xs.length xs.length hi - HT.sIx xs.length 0 lo)
theorem BU (xs:List V) (lo hi:Option Int):(uP xs lo hi).length<=xs.length:=by
 unfold uP;rw [Mu,P1];omega
end
def ixN (n:Nat) (i:Int):Option Nat:=if 0<=i then (if i<n then some i.toNat else none) else if -(n:Int)<=i then some (i+n).toNat else none
def atI {α:Type} (xs:List α) (i:Int):Option α:=(ixN xs.length i).bind fun j=>xs[j]?
theorem CI {n:Nat} {i:Int} {j:Nat} (h:ixN n i=some j):seqIndex? i n=some j/\j<n/\-(n:Int)<=i/\i<n:=by
 unfold ixN at h
 by_cases h0:0<=i
 ·rw [if_pos h0] at h
  by_cases h1:i<n
  ·rw [if_pos h1] at h;have e:i.toNat=j:=MK h;exact ⟨by rw [SE h0 h1,e],by omega,by omega,h1⟩
  ·rw [if_neg h1] at h;cases h
 ·rw [if_neg h0] at h
  by_cases h1:-(n:Int)<=i
  ·rw [if_pos h1] at h;have e:(i+n).toNat=j:=MK h;exact ⟨by rw [Sw (by omega) h1,e],by omega,h1,by omega⟩
  ·rw [if_neg h1] at h;cases h
theorem CJ {α:Type} {xs:List α} {i:Int} {v:α} (h:atI xs i=some v):∃ j,seqIndex? i xs.length=some j/\xs[j]?=some v/\j<xs.length/\-(xs.length:Int)<=i/\i<xs.length:=by
 unfold atI at h;cases e:ixN xs.length i with
 | none=>rw [e] at h;cases h
 | some j =>
  rw [e] at h;obtain ⟨h1,h2,h3,h4⟩:=CI e;exact ⟨j,h1,h,h2,h3,h4⟩
theorem kY {α:Type} {xs:List α} {j:Nat} {v:α} (h:xs[j]?=some v):atI xs (j:Int)=some v:=by
 have hj:j<xs.length:=(LR.mp h).1;have e:ixN xs.length (j:Int)=some j:=by
  unfold ixN;rw [if_pos (by omega),if_pos (by omega)];simp
 unfold atI;rw [e];exact h
def Jw (b:Expr):Prop:=∀ o i,subscripted b false o i=operate [o,i] (getItem o i)
def IxR (X:Cx) (r:R2):Prop :=
 ∀ (value slice:Expr) (pins:List (Addr×Obj)) (s:LU) (σ:St) (H:Hp) (x y:V) (v u:Value) (Q:VK),Inv X pins σ H s->RelV x v->RelV y u->r x y H Q ->
  subscripted slice false v u=operate [v,u] (getItem v u)->wpAny (model X.prog X.w) X.A (subscriptTail value slice v u) (EP X pins σ Q) X.xe s
def MtR (X:Cx) (id:String) (r:V->List V->Hp->VK->Prop):Prop :=
 ∀ (pins:List (Addr×Obj)) (s:LU) (σ:St) (H:Hp) (x:V) (xs:List V) (v:Value) (us:List Value) (Q:VK),Inv X pins σ H s->RelV x v->Vals xs us->r x xs H Q ->
  wpAny (model X.prog X.w) X.A (call (.builtin id) (v :: us)) (EP X pins σ Q) X.xe s
section
variable {X:Cx} {a b:Expr} {ta tb:TE} {pos:Pos}
theorem aq {r:R2} (hr:IxR X r) (ha:PE X a ta) (hb:PE X b tb) (hs:Jw b):PE X (.Subscript a b pos) (tOp r ta tb):=by
 intro pins s σ H Q I h;exact Subscript_ (HN ha hb I h fun v u s2 x y H2 I2 rx ry q=>hr a b pins s2 σ H2 x y v u Q I2 rx ry q (hs _ _))
def qM (K:LN):R2:=fun x y H Q=>∃ p xs i v,x=.ref p/\y=.int i/\SqL K H p xs/\atI xs i=some v/\Q v H
def Hz (K:LN):R2:=fun x y H Q=>∃ p xs i v,x=.ref p/\y=.int i/\SqT K H p xs/\atI xs i=some v/\Q v H
theorem II:IxR X (qM X.K):=by
 intro value slice pins s σ H x y v u Q I rx ry h hs;obtain ⟨p,xs,i,z,rfl,rfl,hq,he,q⟩:=h;cases rx;obtain ⟨t,rfl⟩:=ry;obtain ⟨its,r,pl,hz⟩:=I.list hq;obtain ⟨j,h1,h2,h3,h4,h5⟩:=CJ he;obtain ⟨w,ew,rw'⟩:=r.get h2;have hl:=r.length;have hn:=vi;have fin:EP X pins σ Q w s:=⟨z,H,I,rw',q⟩
 by_cases h0:0<=i
 ·have hj:i.toNat=j:=by
   rw [SE h0 h5] at h1;exact MK h1
  exact item_listR pl.isList h0 (by omega) (by rw [hj];simpa using ew) fin hs
 ·have hj:(i+(its.toArray.size:Int)).toNat=j:=by
   rw [Sw (by omega) h4] at h1
   rw [Mw,<- hl];exact MK h1
  exact Rk (x:=w) pl.isList.typeIs slot_list_getitem.lookup
   (wpAny_getItem_list_neg (Q:=fun r s'=>r=w/\EP X pins σ Q r s') pl.isList (by omega) (by rw [Mw] <;> omega) (by omega) (by rw [hj];simpa using ew) ⟨rfl,fin⟩) hs
theorem JS:IxR X (Hz X.K):=by
 intro value slice pins s σ H x y v u Q I rx ry h hs;obtain ⟨p,xs,i,z,rfl,rfl,hq,he,q⟩:=h;cases rx;obtain ⟨t,rfl⟩:=ry;obtain ⟨its,r,pl,hz⟩:=I.tuple hq;obtain ⟨j,h1,h2,h3,h4,h5⟩:=CJ he;obtain ⟨w,ew,rw'⟩:=r.get h2;have hl:=r.length;have hn:=vi;have fin:EP X pins σ Q w s:=⟨z,H,I,rw',q⟩;exact Rk (x:=w) pl.typeIs slot_tuple_getitem.lookup
  (getItem_tuple (j:=j) (Q:=fun r s'=>r=w/\EP X pins σ Q r s') pl (by omega) (by omega) (by rw [Mw,<- hl];exact h1) (by simpa using ew) ⟨rfl,fin⟩) hs
theorem DE (its:List Value) (n j:Nat) (u:Value):O7 (·.setIfInBounds j u) { cls:=.type "list",data:=.seq its.toArray n }={ cls:=.type "list",data:=.seq (its.set j u).toArray n }:=by
 simp [O7]
theorem Inv.lst {pins:List (Addr×Obj)} {σ:St} {H:Hp} {s:LU} {p:Addr} {xs:List V} (I:Inv X pins σ H s) (h:H p=some (.lst xs)) :
  ∃ (its:List Value) (n:Nat),Vals xs its/\s.heap.get? p=some { cls:=.type "list",data:=.seq its.toArray n }/\xs.length<=MF:=by
 obtain ⟨z,its,n,r,e⟩:=I.hok p _ h;exact ⟨its,n,r,e,z⟩
theorem Inv.Ks {pins:List (Addr×Obj)} {σ:St} {H:Hp} {s:LU} {p:Addr} {xs ys:List V} {its its':List Value} {n n':Nat} {f:Obj->Obj} (I:Inv X pins σ H s) (h:H p=some (.lst xs))
  (ho:s.heap.get? p=some { cls:=.type "list",data:=.seq its.toArray n }) (hf:f { cls:=.type "list",data:=.seq its.toArray n }={ cls:=.type "list",data:=.seq its'.toArray n' }) (r:Vals ys its') (hz:ys.length<=MF) (t:Nat) :
  Inv X pins σ (upd H p (.lst ys)) { s with heap:=s.heap.update p f,toks:=t }:=by
 have e:(s.heap.update p f).get? p=some { cls:=.type "list",data:=.seq its'.toArray n' }:=by
  rw [NM f ho (by rw [hf] <;> rfl),hf]
 refine I.write (x:=p) (e:=p) (by rw [h];trivial) (.inl rfl) (fun b u hb q=>(Nb _ _ (NY hb)).trans q) ⟨_,e⟩ ?_
 exact ⟨hz,its',n',r,e⟩
def Iz:V->V->V->Hp->(Hp->Prop)->Prop:=fun o i v H Q=>∃ p xs k j,o=.ref p/\i=.int k/\H p=some (.lst xs)/\ixN xs.length k=some j/\Q (upd H p (.lst (xs.set j v)))
theorem set_list:Kg X Iz:=by
 intro pins s σ H o i v ov iv u Q I ro ri rv h;obtain ⟨p,xs,k,j,rfl,rfl,hp,hj,q⟩:=h;cases ro;obtain ⟨t,rfl⟩:=ri;obtain ⟨its,n,r,ho,hz⟩:=I.lst hp;obtain ⟨h1,h2,h3,h4⟩:=CI hj;have hl:=r.length;have hn:=vi;have I':Inv X pins σ (upd H p (.lst (xs.set j v))) { s with heap:=s.heap.update p (O7 (·.setIfInBounds j u)) } :=
  I.Ks hp ho (DE its n j u) (r.set rv j) (by rw [Qc];exact hz) s.toks
 by_cases h0:0<=k
 ·have hk:k.toNat=j:=by
   rw [SE h0 h4] at h1;exact MK h1
  exact PySem.W.ki_setAt ho h0 (by omega) (by rw [Mw,<- hl];exact h4) (by rw [hk];exact ⟨_,I',q⟩)
 ·have hk:(k+(its.toArray.size:Int)).toNat=j:=by
   rw [Sw (by omega) h3] at h1
   rw [Mw,<- hl];exact MK h1
  exact PySem.W.ki_setBack ho (by omega) (by rw [Mw,<- hl];exact h3) (by omega) (by rw [hk];exact ⟨_,I',q⟩)
theorem AN (lo hi:Option Int) (n:Nat):(sliceBounds lo hi none n).1=((HT.sIx n 0 lo:Nat):Int)/\(sliceBounds lo hi none n).2.1=((HT.sIx n n hi:Nat):Int)/\(sliceBounds lo hi none n).2.2=1:=by
 refine ⟨?_,?_,rfl⟩
 ·cases lo with
  | none=>simp [sliceBounds,HT.sIx]
  | some i =>
   simp only [sliceBounds,HT.sIx,Option.getD_none,show (1:Int) > 0 by decide,if_true]
   by_cases h:i<0
   ·simp only [h,if_true] <;> omega
   ·simp only [h,if_false] <;> omega
 ·cases hi with
  | none=>simp [sliceBounds,HT.sIx]
  | some i =>
   simp only [sliceBounds,HT.sIx,Option.getD_none,show (1:Int) > 0 by decide,if_true]
   by_cases h:i<0
   ·simp only [h,if_true] <;> omega
   ·simp only [h,if_false] <;> omega
theorem zg (its:List Value) (lo hi:Option Int):slicePick its.toArray lo hi none=((its.drop (HT.sIx its.length 0 lo)).take (HT.sIx its.length its.length hi - HT.sIx its.length 0 lo)).toArray:=by
 obtain ⟨h1,h2,h3⟩:=AN lo hi its.toArray.size;unfold slicePick;rw [h1,h2,h3];simp only [sliceRange_one,pick_run,Mw] <;> rfl
def C9 (K:LN):V->Option Int->Option Int->Hp->VK->Prop:=fun x lo hi H Q=>∃ a xs,x=.ref a/\SqL K H a xs/\∀ p,H p=none->Q (.ref p) (upd H p (.lst (uP xs lo hi)))
theorem JK:SlR X (C9 X.K):=by
 intro pins s σ H x v vl vu lo hi sl Q I rx hs pl pu h;obtain ⟨a,xs,rfl,hx,q⟩:=h;cases rx;obtain ⟨its,r,ht,hz⟩:=I.list hx;have hlen:=r.length;refine ⟨"list",_,slot_list_getitem.lookup,ht.isList.typeIs,?_⟩;refine wpAny_getItem_list_slice ht.isList hs pl pu .none (by simp) ?_ (by rw [Mw] <;> omega)
 rw [zg,<- hlen];refine ⟨.ref s.heap.objs.size,_,I.laid (t':=s.toks) (o:=.lst (uP xs lo hi)) (fun b ob q=>L7 _ q) (Mh _) ?_,rfl,q _ (I.hok.fresh (Mh _))⟩;exact ⟨M4 (BU xs lo hi) hz,_,0,(r.drop (HT.sIx xs.length 0 lo)).take (HT.sIx xs.length xs.length hi - HT.sIx xs.length 0 lo),Mz _ rfl⟩
def nj:V->Bool
 | .non=>true
 | .bl _=>true
 | .int _=>true
 | .str _=>true
 | _=>false
def eqV:V->V->Bool
 | .non,.non=>true
 | .bl a,.bl b=>a == b
 | .bl a,.int b=>(if a then 1 else 0) == b
 | .int a,.bl b=>a == (if b then 1 else 0)
 | .int a,.int b=>a == b
 | .str a,.str b=>a == b
 | _,_=>false
theorem v9 {A:MR} {s:LU} {y x:V} {u v:Value} (ry:RelV y u) (rx:RelV x v) (fy:nj y=true) (fx:nj x=true):So A s u v (eqV y x):=by
 cases y with
 | non =>
  cases ry;cases x with
  | non=>cases rx;exact Ry _
  | bl b=>cases rx;exact SeqAt.EqAt.none_bool b
  | int b=>obtain ⟨t,rfl⟩:=rx;exact SeqAt.EqAt.none_int b t
  | str b=>obtain ⟨t,rfl⟩:=rx;exact SeqAt.EqAt.none_str b t
  | _=>exact absurd (show false=true from fx) Mo
 | bl a =>
  cases ry;cases x with
  | non=>cases rx;exact SeqAt.EqAt.bool_none a
  | bl b=>cases rx;exact SeqAt.EqAt.bool_bool a b
  | int b=>obtain ⟨t,rfl⟩:=rx;exact SeqAt.EqAt.bool_int a b t
  | str b=>obtain ⟨t,rfl⟩:=rx;exact SeqAt.EqAt.bool_str a b t
  | _=>exact absurd (show false=true from fx) Mo
 | int a =>
  obtain ⟨t',rfl⟩:=ry;cases x with
  | non=>cases rx;exact SeqAt.EqAt.int_none a t'
  | bl b=>cases rx;exact SeqAt.EqAt.int_bool a t' b
  | int b=>obtain ⟨t,rfl⟩:=rx;exact SeqAt.EqAt.int_int a t' b t
  | str b=>obtain ⟨t,rfl⟩:=rx;exact SeqAt.EqAt.int_str a t' b t
  | _=>exact absurd (show false=true from fx) Mo
 | str a =>
  obtain ⟨t',rfl⟩:=ry;cases x with
  | non=>cases rx;exact SeqAt.EqAt.str_none a t'
  | bl b=>cases rx;exact SeqAt.EqAt.str_bool a t' b
  | int b=>obtain ⟨t,rfl⟩:=rx;exact SeqAt.EqAt.str_int a t' b t
  | str b=>obtain ⟨t,rfl⟩:=rx;exact SeqAt.EqAt.str_str a t' b t
  | _=>exact absurd (show false=true from fx) Mo
 | _=>exact absurd (show false=true from fy) Mo
def eqU (x:V) (u:Value):Bool:=match u with
 | .none=>eqV .non x
 | .bool b=>eqV (.bl b) x
 | .int i _=>eqV (.int i) x
 | .str z _=>eqV (.str z) x
 | _=>false
theorem E1 {x y:V} {u:Value} (r:RelV y u) (f:nj y=true):eqU x u=eqV y x:=by
 cases y with
 | non=>cases r;rfl
 | bl b=>cases r;rfl
 | int i=>obtain ⟨t,rfl⟩:=r;rfl
 | str z=>obtain ⟨t,rfl⟩:=r;rfl
 | _=>exact absurd (show false=true from f) Mo
theorem pB {x:V}:∀ {xs:List V} {us:List Value},Vals xs us->xs.all nj=true->us.any (eqU x)=xs.any fun y=>eqV y x
 | _,_,.nil,_=>rfl
 | y :: xs,u :: us,.cons r t,f=>by
  rw [QW,Oc] at f;rw [Pe,Pe,E1 r f.1,pB t f.2]
theorem n8 {A:MR} {s:LU} {x:V} {v:Value} (rx:RelV x v) (fx:nj x=true):∀ {xs:List V} {us:List Value},Vals xs us->xs.all nj=true->∀ u∈us,So A s u v (eqU x u)
 | _,_,.nil,_=>fun u hu=>by cases hu
 | y :: xs,u :: us,.cons r t,f=>fun u' hu=>by
  rw [QW,Oc] at f;rcases Mv.mp hu with rfl|hu
  ·rw [E1 r f.1];exact v9 r rx f.1 fx
  ·exact n8 rx fx t f.2 u' hu
def inV (x:V) (xs:List V):Bool:=xs.any fun y=>eqV y x
def rIn (K:LN) (neg:Bool):R2:=fun x y H Q=>∃ p xs,y=.ref p/\(SqL K H p xs\/SqT K H p xs)/\nj x=true/\xs.all nj=true/\Q (.bl (if neg then !inV x xs else inV x xs)) H
theorem FG:OpR X (compareOp .In) (rIn X.K false):=by
 intro pins s σ H x y v u Q I rx ry h;obtain ⟨p,xs,rfl,hq,fx,fs,q⟩:=h;cases ry;rcases hq with hq|hq
 ·obtain ⟨its,r,pl,hz⟩:=I.list hq;refine SeqAt.in_listAt (eqU x) pl.isList (fun w hw=>n8 rx fx r fs w (by simpa using hw)) ⟨.bl _,H,I,rfl,?_⟩
  rw [show its.toArray.any (eqU x)=its.any (eqU x) by simp,pB r fs]
  exact q
 ·obtain ⟨its,r,pl,hz⟩:=I.tuple hq;refine SeqAt.in_tupleAt (eqU x) pl (fun w hw=>n8 rx fx r fs w (by simpa using hw)) ⟨.bl _,H,I,rfl,?_⟩
  rw [show its.toArray.any (eqU x)=its.any (eqU x) by simp,pB r fs]
  exact q
theorem A8:OpR X (compareOp .NotIn) (rIn X.K true):=by
 intro pins s σ H x y v u Q I rx ry h;obtain ⟨p,xs,rfl,hq,fx,fs,q⟩:=h;cases ry;rcases hq with hq|hq
 ·obtain ⟨its,r,pl,hz⟩:=I.list hq;refine SeqAt.notIn_listAt (eqU x) pl.isList (fun w hw=>n8 rx fx r fs w (by simpa using hw)) ⟨.bl _,H,I,rfl,?_⟩
  rw [show its.toArray.any (eqU x)=its.any (eqU x) by simp,pB r fs]
  exact q
 ·obtain ⟨its,r,pl,hz⟩:=I.tuple hq;refine SeqAt.notIn_tupleAt (eqU x) pl (fun w hw=>n8 rx fx r fs w (by simpa using hw)) ⟨.bl _,H,I,rfl,?_⟩
  rw [show its.toArray.any (eqU x)=its.any (eqU x) by simp,pB r fs]
  exact q
theorem zQ:da X (.builtin "len") (fun xs H Q=>∃ p ys,xs=[.ref p]/\(SqL X.K H p ys\/SqT X.K H p ys)/\Q (.int ys.length) H):=by
 intro pins s σ H xs us Q I r h;obtain ⟨p,ys,rfl,hq,q⟩:=h;obtain ⟨u,rfl,rx⟩:=vals1 r;cases rx;have hn:=vi;rcases hq with hq|hq
 ·obtain ⟨its,r',pl,hz⟩:=I.list hq;have hlen:=r'.length;exact Calls.call_len_list pl.isList (by simp only [Mw] <;> omega) ⟨.int ys.length,H,I.tok _,⟨s.toks+1,by rw [Mw,hlen]⟩,q⟩
 ·obtain ⟨its,r',pl,hz⟩:=I.tuple hq;have hlen:=r'.length;exact len_tuple pl (by simp only [Mw] <;> omega) ⟨.int ys.length,H,I.tok _,⟨s.toks+1,by rw [Mw,hlen]⟩,q⟩
theorem zT:da X (.type "list") (fun xs H Q=>∃ p ys,xs=[.ref p]/\(SqL X.K H p ys\/SqT X.K H p ys)/\∀ l,H l=none->Q (.ref l) (upd H l (.lst ys))):=by
 intro pins s σ H xs us Q I r h;obtain ⟨p,ys,rfl,hq,q⟩:=h;obtain ⟨u,rfl,rx⟩:=vals1 r;cases rx;have fin:∀ (its:List Value),Vals ys its->ys.length<=MF->∀ (h':Heap) (c':Nat),(∀ b o',s.heap.get? b=some o'->h'.get? b=some o') ->
   h'.get? s.heap.objs.size=some { cls:=.type "list",dict:=none,data:=.seq its.toArray c',slots:=#[] }->EP X pins σ Q (.ref s.heap.objs.size) { s with heap:=h' }:=fun its r' hz h' c' kp e =>
  ⟨.ref s.heap.objs.size,_,I.laid (t':=s.toks) kp (Mh _) (show cA X.prog X.w _ h' _ (.lst ys) from ⟨hz,its,c',r',e⟩),rfl,q _ (I.hok.fresh (Mh _))⟩
 rcases hq with hq|hq
 ·obtain ⟨its,r',pl,hz⟩:=I.list hq;have hlen:=r'.length;obtain ⟨o,ho,hc,n,hd⟩:=pl.isList;exact call_list_seq p (.inl rfl) ho hc hd (fun h' c' kp e=>fin its r' hz h' c' kp e) (by simp only [Mw] <;> omega)
 ·obtain ⟨its,r',pl,hz⟩:=I.tuple hq;have hlen:=r'.length;obtain ⟨o,ho,hc,n,hd⟩:=pl;exact call_list_seq p (.inr rfl) ho hc hd (fun h' c' kp e=>fin its r' hz h' c' kp e) (by simp only [Mw] <;> omega)
def tyV (K:LN) (T:String) (x:V) (H:Hp):Prop:=match x with
 | .str _=>T = "str"
 | .int _=>T = "int"
 | .ref p=>(T = "list" /\ ∃ xs,SqL K H p xs)\/(T = "tuple" /\ ∃ o,K.lookup p=some o/\o.cls=.type "tuple" /\ o.dict=none) \/
   (T = "dict" /\ ((∃ kvs,H p=some (.dK kvs))\/∃ kvs,H p=some (.dT kvs)))\/(T = "set" /\ ∃ S n,H p=some (.set S n))
 | _=>False
theorem Kd {pins:List (Addr×Obj)} {σ:St} {H:Hp} {s:LU} {T:String} {x:V} {v:Value} (I:Inv X pins σ H s) (r:RelV x v) (ty:tyV X.K T x H) :
  s.TypeIs v T/\∀ a,v=.ref a->∃ ob,s.heap.get? a=some ob/\ob.dict=none:=by
 cases x with
 | str z =>
  obtain ⟨t,rfl⟩:=r;cases (show T = "str" from ty);exact ⟨typeIs_str s z t,fun _ e=>nomatch e⟩
 | int i =>
  obtain ⟨t,rfl⟩:=r;cases (show T = "int" from ty);exact ⟨typeIs_int s i t,fun _ e=>nomatch e⟩
 | ref p =>
  cases r;rcases ty with ⟨rfl,xs,hq⟩|⟨rfl,o,hk,hc,hd⟩|⟨rfl,hk⟩|⟨rfl,S,n,hk⟩
  ·obtain ⟨its,_,pl,_⟩:=I.list hq;refine ⟨pl.isList.typeIs,fun a e=>?_⟩;cases e;obtain ⟨o,n,e,c,hd,_⟩:=pl;exact ⟨o,e,hd⟩
  ·refine ⟨⟨o,I.kIn p o hk,hc⟩,fun a e=>?_⟩;cases e;exact ⟨o,I.kIn _ o hk,hd⟩
  ·have z:∃ o,s.heap.get? p=some o/\o.ExactDict:=by
    rcases hk with ⟨kvs,hk⟩|⟨kvs,hk⟩
    ·obtain ⟨_,_,_,_,o,_,_,e,ex,_⟩:=I.hok p _ hk;exact ⟨o,e,ex⟩
    ·obtain ⟨_,_,_,_,o,_,_,e,ex,_⟩:=I.hok p _ hk;exact ⟨o,e,ex⟩
   obtain ⟨o,e,ex⟩:=z;refine ⟨⟨o,e,ex.1⟩,fun a e2=>?_⟩;cases e2;exact ⟨o,e,ex.2.1⟩
  ·obtain ⟨o,_,_,_,e,ex,_⟩:=I.hok p _ hk;refine ⟨⟨o,e,ex.1⟩,fun a e2=>?_⟩;cases e2;exact ⟨o,e,ex.2.1⟩
 | _=>exact Nk ty
def tBM (K:LN) (T:String) (r:V->List V->Hp->VK->Prop) (to:TE) (t:TA):TE:=fun σ H Q=>to σ H fun x H1=>tyV K T x H1/\t σ H1 fun xs H2=>r x xs H2 Q
variable {o e:Expr} {es:List Expr} {to:TE} {t:TA} {name:Str} {apos cpos:Pos} {T id:String} {r:V->List V->Hp->VK->Prop}
theorem K8 (pa:PlainAttrs T) (slot:Slot T name id) (hty:typeOf (.builtin id)=pure (.type "method_descriptor")) (hm:MtR X id r) (ho:PE X o to) (ha:PA X (e :: es) t)
  (hbase:attributeBase o name X.env (eval o X.env)=eval o X.env:=by rfl)
  (hfew:((backTo cpos (MU (e :: es) X.env)).all (fun x=>!x.1) && (backToKw cpos (keywordEach [] X.env)).all (fun x=>x.1.isSome)
   && decide ((e :: es).length+([]:List Rw).length+(if ([]:List Rw).isEmpty then 0 else 1)<30))=true:=by rfl)
  (hline:(apos.endLine == cpos.line)=true:=by rfl) (hs:MU (e :: es) X.env=(false,eval e X.env) :: MU es X.env:=by rfl) (hplain:(backTo cpos (MU es X.env)).any (·.1)=false:=by rfl) :
  PE X (.Call (.Attribute o name apos) (e :: es) [] cpos) (tBM X.K T r to t):=by
 intro pins s σ H Q I h;refine wpAny_Call_method_late hbase hfew hline rfl (thn (ho pins s σ H _ I h) fun v s1 ⟨x,H1,I1,r1,ty,q1⟩=>?_);obtain ⟨h1,h2⟩:=Kd I1 r1 ty;refine ⟨T,id,pa,slot,hty,h1,h2,?_⟩;have hA:=ha cpos pins s1 σ H1 _ I1 q1;rw [hs] at hA ⊢;refine Calls.callWith_builtin (by show (false || (backTo cpos (MU es X.env)).any (·.1))=false;rw [hplain] <;> rfl) (RT ?_)
 exact thn hA fun us s2 ⟨vs,H2,I2,r2,q2⟩=>hm pins s2 σ H2 x vs v us Q I2 r1 r2 q2
/- xs.append(e),list.index on a module's tuple .. are MtR facts of 06m -/
end
def MtM (X:Cx) (id:String) (r:V->List V->Hp->VK->Prop):Prop :=
 ∀ (pins:List (Addr×Obj)) (s:LU) (σ:St) (H:Hp) (x:V) (xs:List V) (v:Value) (us:List Value) (Q:VK),Inv X pins σ H s->RelV x v->Vals xs us->r x xs H Q ->
  wpAny (model X.prog X.w) X.A (call (.builtin id) (v :: us)) (EP X pins σ Q) X.xe s
theorem Vals.one {x:V} {us:List Value} (h:Vals [x] us):∃ u,us=[u]/\RelV x u:=by
 cases h with
 | cons r t=>cases t;exact ⟨_,rfl,r⟩
theorem Vals.two {x y:V} {us:List Value} (h:Vals [x,y] us):∃ u v,us=[u,v]/\RelV x u/\RelV y v:=by
 cases h with
 | cons r t =>
  cases t with
  | cons q e=>cases e;exact ⟨_,_,rfl,r,q⟩
theorem Vals.rep {xs:List V} {us:List Value} (h:Vals xs us):∀ k:Nat,Vals (Mq k xs).flatten (Mq k us).flatten
 | 0=>.nil
 | k+1=>by
  rw [OG,OG,PB,PB];exact Vals.append h (Vals.rep h k)
theorem foldl_rep (its:List Value):∀ (k:Nat) (acc:List Value),
  List.foldl (fun x1 x2=>x1++x2) acc.toArray (Mq k its.toArray)=(acc++(Mq k its).flatten).toArray
 | 0,acc=>by simp
 | k+1,acc=>by
  have e:acc.toArray++its.toArray=(acc++its).toArray:=by simp
  have e2:(acc++its)++(Mq k its).flatten=acc++(Mq (k+1) its).flatten:=by
   rw [OG,PB,PD]
  rw [<- e2,<- foldl_rep its k (acc++its),<- e,OG,List.foldl_cons]
section
variable {X:Cx} {pins:List (Addr×Obj)} {σ:St} {H:Hp} {s:LU} {l b:Addr} {xs ys zs:List V}
theorem Inv.GY {its its':List Value} {n:Nat} {f:Array Value->Array Value} {t':Nat} (I:Inv X pins σ H s) (hH:H l=some (.lst xs))
  (e:s.heap.get? l=some { cls:=.type "list",data:=.seq its.toArray n }) (hf:f its.toArray=its'.toArray) (hv:Vals ys its') (hz:ys.length<=MF) :
  Inv X pins σ (upd H l (.lst ys)) { s with heap:=s.heap.update l (O7 f),toks:=t' }:=by
 have q:=PySem.IsL.update e f;rw [hf] at q;refine I.write (x:=l) (e:=l) (by rw [hH];exact trivial) (.inl rfl) (fun b' u hb hu=>(Nb s.heap (O7 f) (NY hb)).trans hu) ⟨_,q⟩ ?_
 exact ⟨hz,its',_,hv,q⟩
theorem Inv.J6 {its:List Value} {t':Nat} (I:Inv X pins σ H s) (hv:Vals ys its) (hz:ys.length<=MF) :
  Inv X pins σ (upd H s.heap.objs.size (.lst ys)) { s with heap:=s.heap.push { cls:=.type "list",data:=.seq its.toArray },toks:=t' } :=
 I.laid (fun _ _ q=>L7 _ q) (Mh _) ⟨hz,its,0,hv,Mz _ rfl⟩
theorem Inv.fresh (I:Inv X pins σ H s):H s.heap.objs.size=none:=I.hok.fresh (Mh _)
theorem Inv.tN (I:Inv X pins σ H s) (hH:H l=some (.lst xs)):xs.length<=MF/\∃ (its:List Value) (n:Nat),Vals xs its/\xs.length=its.length/\s.heap.get? l=some { cls:=.type "list",data:=.seq its.toArray n }:=by
 obtain ⟨z,its,n,r,e⟩:=I.hok l _ hH;exact ⟨z,its,n,r,r.length,e⟩
theorem A3 {n:Nat} (h:n<=MF):Oy n=false:=by
 unfold Oy;exact decide_eq_false (by omega)
end
section
variable {X:Cx}
def w6:V->List V->Hp->VK->Prop:=fun x vs H Q=>∃ l xs y,x=.ref l/\vs=[y]/\H l=some (.lst xs)/\xs.length<MF/\Q .non (upd H l (.lst (xs++[y])))
theorem cX:MtM X "list.append" w6:=by
 intro pins s σ H x vs v us Q I rx rv h;obtain ⟨l,xs,y,rfl,rfl,hH,hz,q⟩:=h;cases rx;obtain ⟨u,rfl,ru⟩:=rv.one;obtain ⟨z,its,n,r,hl,e⟩:=I.tN hH;refine P9 F.slot_list_append ⟨_,e,rfl⟩ F.entry_list_append (F.args_list_append_2 _ _) (PySem.list_append l its.toArray n u (by rw [Mw];omega)) ⟨e,?_⟩
 refine ⟨.non,_,I.GY (its':=its++[u]) hH e (by simp) (r.append (.cons ru .nil)) ?_,rfl,q⟩
 rw [Mm,Rz];omega
def JD:V->List V->Hp->VK->Prop:=fun x vs H Q=>∃ l b xs zs,x=.ref l/\vs=[.ref b]/\H l=some (.lst xs)/\H b=some (.lst zs)/\xs.length+zs.length<=MF/\Q .non (upd H l (.lst (xs++zs)))
theorem Gk:MtM X "list.extend" JD:=by
 intro pins s σ H x vs v us Q I rx rv h;obtain ⟨l,b,xs,zs,rfl,rfl,hH,hB,hz,q⟩:=h;cases rx;obtain ⟨u,rfl,ru⟩:=rv.one;cases ru;obtain ⟨z,its,n,r,hl,e⟩:=I.tN hH;obtain ⟨z2,its2,n2,r2,hl2,e2⟩:=I.tN hB;have hsz:its.toArray.size+its2.toArray.size<=MF:=by rw [Mw,Mw];omega
 have hlong:¬ (!its.toArray.isEmpty && Oy (its.toArray.size+its2.toArray.size))=true:=by
  rw [A3 hsz,Bool.and_false];exact Mo
 refine P9 F.slot_list_extend ⟨_,e,rfl⟩ F.entry_list_extend (F.args_list_extend_2 _ _)
  (AutoSeq1.list_extend_list_list_0 l its.toArray n b its2.toArray n2 hlong (by rw [Mw];omega) (by omega)) ⟨e,e2,?_⟩
 refine ⟨.non,_,I.GY (its':=its++its2) hH e (by simp) (r.append r2) ?_,rfl,q⟩
 rw [Mm];omega
def KA:R2:=fun x y H Q=>∃ l b xs zs,x=.ref l/\y=.ref b/\H l=some (.lst xs)/\H b=some (.lst zs)/\xs.length+zs.length<=MF/\∀ p,H p=none->Q (.ref p) (upd H p (.lst (xs++zs)))
theorem nX:OpR X (binaryOp .Add) KA:=by
 intro pins s σ H x y v u Q I rx ry h;obtain ⟨l,b,xs,zs,rfl,rfl,hH,hB,hz,q⟩:=h;cases rx;cases ry;obtain ⟨z,its,n,r,hl,e⟩:=I.tN hH;obtain ⟨z2,its2,n2,r2,hl2,e2⟩:=I.tN hB;refine PySem.P.add_list e e2 ?_ (by rw [Mw,Mw];omega)
 have ea:its.toArray++its2.toArray=(its++its2).toArray:=by simp
 rw [ea];exact ⟨.ref _,_,I.J6 (t':=s.toks) (r.append r2) (by rw [Mm];omega),rfl,q _ I.fresh⟩
def LI:R2:=fun x y H Q=>∃ l k xs,x=.ref l/\y=.int k/\H l=some (.lst xs)/\-(2 ^ 63)<=k/\k<2 ^ 63/\xs.length * k.toNat<=MF /\
 ∀ p,H p=none->Q (.ref p) (upd H p (.lst (Mq k.toNat xs).flatten))
theorem len_rep {α:Type} (xs:List α) (k:Nat):(Mq k xs).flatten.length=k * xs.length:=by
 induction k with
 | zero=>simp
 | succ k ih=>rw [OG,PB,Mm,ih,PV,Oq]
theorem Ki:OpR X (binaryOp .Mult) LI:=by
 intro pins s σ H x y v u Q I rx ry h;obtain ⟨l,k,xs,rfl,rfl,hH,h1,h2,hz,q⟩:=h;cases rx;obtain ⟨t,rfl⟩:=ry;obtain ⟨z,its,n,r,hl,e⟩:=I.tN hH;have hlen:its.toArray.size * k.toNat<=MF:=by rw [Mw,<- hl];exact hz
 have hcap:¬ its.toArray.size * k.toNat > (2 ^ 63 - 1) / 8:=by
  have:(MF:Nat)<=(2 ^ 63 - 1) / 8:=by decide
  omega
 have hfit:¬ (!Builtin.List.listFitsIndex k)=true:=by
  rw [fitsIndex_both h1 h2];exact Mo
 have hlong:¬ Oy (its.toArray.size * k.toNat)=true:=by
  rw [A3 hlen];exact Mo
 have hnew:List.foldl (fun x1 x2=>x1++x2) #[] (Mq (if its.toArray.isEmpty=true then 0 else k.toNat) its.toArray)=(Mq k.toNat its).flatten.toArray:=by
  have f0:∀ m:Nat,List.foldl (fun x1 x2=>x1++x2) #[] (Mq m its.toArray)=(Mq m its).flatten.toArray:=fun m=>by
   have:=foldl_rep its m [];rw [List.nil_append] at this;exact this
  rw [f0];cases its with
  | nil=>simp
  | cons a r'=>rw [if_neg (by simp)]
 refine wpAny_binaryOp_repeat_ref (T:="list") (U:="int") (by decide) ⟨_,e,rfl⟩ (fun s'=>typeIs_int s' k t) noFill_list_mul F.fills_int_mul F.slot_int_rmul repeat_list F.slot_int_index.lookup
  (P9 F.slot_int_rmul (typeIs_int s k t) F.entry_int_rmul (F.args_int_rmul_2 _ _) (int___rmul___int_list k t l its.toArray n)
   ⟨e,rfl,⟨_,e,rfl⟩,P9 F.slot_list_mul ⟨_,e,rfl⟩ F.entry_list_mul (F.args_list_mul_2 _ _) (AutoListH.list___mul___list_int_3 l its.toArray n k t hfit hcap hlong) ⟨e,?_⟩⟩)
 rw [hnew];exact ⟨.ref _,_,I.J6 (t':=s.toks) (r.rep k.toNat) (by rw [len_rep,OP];exact hz),rfl,q _ I.fresh⟩
end
section
variable {prog:Mp} {w:World} {A:MR} {E:Value->LU->Prop} {s:LU}
end
section
variable {X:Cx}
end
end L2
namespace Att
open PySem PySem.W PySem.Calls PyProof.Rows
theorem wA {P:Params} {h:Heap}:∀ (ns:List Int) (vs:List Value),WellAll P h vs (ns.map WData.int)->QX vs ns:=by
 intro ns
 induction ns with
 | nil =>
  intro vs w;rw [List.map_nil] at w;cases w;exact .nil
 | cons n ns ih =>
  intro vs w;rw [MO] at w;cases w with
  | cons a b =>
   cases a;exact .cons _ _ (ih _ b)
theorem Ep {l:OpenLaw} {n:Nat} (hn:l.most=some n) {P:Params} {h:Heap} {args:List WData} {vals:List Value}
  (hpre:l.row.toRowW.claim.pre args=true) (hwl:WellAll P h vals args) :
  ∃ a vs ns,vals=[MI a]/\args=[WData.list (ns.map WData.int)]/\h.get? a=some { cls:=.type "list",data:=.seq vs.toArray }/\QX vs ns/\ns.length<=n:=by
 have hsh:WShape.hasAll [] args [.list .int]=true:=(pre_splitW hpre).1;have hc:l.pre.holds [] { args:=args }=true:=(pre_splitW hpre).2;obtain ⟨d,r,rfl,h1,h2⟩:=hasAllW_cons hsh;obtain rfl:=hasAllW_nil h2;obtain ⟨xs,rfl,h3⟩:=hasW_list h1;obtain ⟨ns,rfl⟩:=items_int h3;have hlen:ns.length<=n:=by
  unfold OpenLaw.pre at hc;have h4:(WTm.not (.lt (.lit (.int (n:Int))) (.len (.arg 0)))).holds [] { args:=[.list (ns.map .int)] }=true:=by
   have h4:=(holds_andW hc).1;rw [hn] at h4;exact h4
  have h5:=condW_of h4 (w_not (w_lt w_lit (w_len_list (w_arg rfl))));rw [LP] at h5;refine Ra fun q=>?_;have q':(n:Int)<((ns.length:Nat):Int):=by omega
  first
   | (rw [decide_eq_true q'] at h5;exact absurd h5 (by decide))
   | (simp at h5;omega)
 cases hwl with
 | cons w1 w2 =>
  cases w2;cases w1 with
  | list ho hall=>exact ⟨_,_,ns,rfl,rfl,ho,wA ns _ hall,hlen⟩
theorem Ey (l:OpenLaw) (args:List WData):l.row.toRowW.claim.post args (.bool true) args=true :=
 postW_of (r:=l.row.toRowW) (X:=(true == true))
  (show WShape.has [] (.bool true) .bool=true by first|rfl|decide|simp [WShape.has,WShape.arms,WShape.armsAll])
  (show (WTm.eq .res (.lit (.bool true))).value [] { args:=args,res:=some (.bool true),after:=args }=some (.bool (true == true)) from w_eq_bool (w_res rfl) w_lit) rfl
theorem BV {l:OpenLaw} {n:Nat} {q:Mp} {loose:List Str} {XP:(Str->Option Value)->Heap->Prop} {YP:World->Heap->Prop} {d:DefRec}
  (hn:l.most=some n) (hdf:d.params.defaults=[])
  (call:∀ (w:World) (s₀ s₁:LU) (mg mb:Str->Option Value) (fa:Addr) (o:Obj) (pm cd doc:Value) (a:Addr) (vs:List Value) (ns:List Int),
   Ground q loose [] XP w s₀ mg mb s₁.heap->YP w s₁.heap ->
   s₁.heap.get? fa=some o->o.data=.func (docDef d.name d.params d.body d.scope pm cd doc)->s₁.heap.CodeRec cd d.name->mg d.name=some (.ref fa) ->
   s₁.heap.get? a=some { cls:=.type "list",data:=.seq vs.toArray }->QX vs ns->ns.length<=n->s₁.gens=#[] ->
   codeAny (model l.prog w) callerA (.call (.ref fa) ⟨[.ref a],[]⟩) (fun r s'=>r=.ok (.ret (.bool true))/\OldK s₁.heap s'.heap/\s'.os=s₁.os/\QQ s'.gens) s₁) :
  WalkO q loose XP YP l.row.toRowW d [] (fun f vs=>PySem.call f vs):=by
 intro w s₀ s₁ mg mb G Y fa o pm cd doc dV kV ho hd hcd hD hmg hg args vals as hpre hlay hrd hwl hlo;obtain rfl:dV=.none:=Dflts.none hD hdf;obtain rfl:kV=.none:=Dflts.noKw hD;obtain ⟨a,vs,ns,rfl,rfl,hobj,hints,hlen⟩:=Ep hn hpre hwl;refine enter_call (OO (call w s₀ s₁ mg mb fa o pm cd doc a vs ns G Y ho (fd_plain hd) hcd hmg hobj hints hlen hg) fun r s' hq=>?_);obtain ⟨rfl,h2,h3,h4⟩:=hq;exact ⟨.inl ⟨.bool true,.bool true,[],rfl,fun _=>rfl,.bool true,Ey l _,fun _=>⟨Qy,fun _ hm=>(nomatch hm)⟩⟩,h2,h3,h4⟩
section
variable {prog:Mp} {w:World} {A:MR} {E:Value->LU->Prop} {s:LU} {K:Frag}
end
end Att
namespace L2
open PySem PySem.Spec PyProof.Rows
theorem yO:∀ {vs:List Value} {ns:List Int},QX vs ns->Vals (ns.map V.int) vs
 | _,_,.nil=>.nil
 | _,_,.cons n t h=>.cons ⟨t,rfl⟩ (yO h)
def He (H:Hp):Prop:=∀ b,H b=none\/∃ o xs,H b=some (.frz o (.lst xs))
theorem Hs {P:Mp} {w:World} {K:LN} {mg mb:Str->Option Value} {CX:CXT} {k:Nat} {fa a:Addr} {fd:MZ} {x:Str} {sp:Sp} {s₁:LU} {vs:List Value} {ns:List Int}
  (KX:K.In s₁.heap) (hns:s₁.heap.Ns LX mg) (hb:s₁.heap.Ns builtinsNs mb) (hbb:∀ x:Str,x ≠ "__name__" -> mb x=bootBuiltins x) (hlim:s₁.heap.NoLimit) (hg:s₁.gens=#[])
  (ha:s₁.heap.get? a=some { cls:=.type "list",data:=.seq vs.toArray }) (hi:QX vs ns) (hl:ns.length<=MF) (hr:cg k callerA)
  (F:∀ base:Heap,K.In base->base.Ns LX mg->aI P w K mg base CX k fa fd [x] sp) (hbind:∀ (s:LU) (u:Value),QU s fd ⟨[u],[]⟩ [(x,u)])
  (hsp:∀ H:Hp,He H->SqL K H a (ns.map V.int)->sp [.ref a] H (fun v _=>v=.bl true) fun _ _ _=>False)
  (hCX:∀ H e s',CX [] H s₁ (fun _ _ _=>False) e s'->False) :
  codeAny (model P w) callerA (.call (.ref fa) ⟨[.ref a],[]⟩) (fun r s'=>r=.ok (.ret (.bool true))/\OldK s₁.heap s'.heap/\s'.os=s₁.os/\QQ s'.gens) s₁:=by
 have rv:=yO hi;have lenV:=hi.length;have core:∀ H:Hp,He H->SqL K H a (ns.map V.int)->HOk P w H s₁.heap->(∀ b,H b≠none->b=a)->(H a≠none->K.lookup a=none) ->
   codeAny (model P w) callerA (.call (.ref fa) ⟨[.ref a],[]⟩) (fun r s'=>r=.ok (.ret (.bool true))/\OldK s₁.heap s'.heap/\s'.os=s₁.os/\QQ s'.gens) s₁:=by
  intro H hO hS hok hA hK;have base_of:∀ {b:Addr} {o:Obj},s₁.heap.get? b=some o->H b=none->(qF s₁.heap H).get? b=some o:=fun e n=>GZ e n;have noA:∀ {b:Addr} {o:Obj} {es:Array DictEntry} {ep:Nat},s₁.heap.get? b=some o->o.data=.dict es ep->H b=none:=fun {b o es ep} e d=>by
   cases q:H b with
   | none=>rfl
   | some u =>
    have e':b=a:=hA b (by rw [q];simp)
    subst e';rw [ha] at e;cases e;have d':Data.seq vs.toArray _=Data.dict es ep:=d;cases d'
  have nsK:∀ {b:Addr} {m:Str->Option Value},s₁.heap.Ns b m->(qF s₁.heap H).Ns b m:=fun {b m} ⟨o,es,ep,e,d,r⟩=>⟨o,es,ep,base_of e (noA e d),d,r⟩;have hKb:K.In (qF s₁.heap H):=fun b o e=>base_of (KX b o e) (by
   cases q:H b with
   | none=>rfl
   | some u =>
    have e':b=a:=hA b (by rw [q];simp)
    subst e';rw [hK (by rw [q];simp)] at e;cases e)
  have hM:Mod K mg (qF s₁.heap H):=⟨hKb,nsK hns,⟨mb,nsK hb,hbb⟩,let ⟨mc,h1,h2⟩:=hlim;⟨mc,nsK h1,h2⟩⟩;have e0:pj P w K mg (qF s₁.heap H) callerA [] s₁ H:=⟨rfl,hM,fun b o e=>JO e,Rv (Ga _ _),trivial,fun b hb=>absurd (show b∈([]:List Addr) from hb) (by simp),hok,.of_eq hg⟩
  refine OO ((F _ hKb (nsK hns)).run callerA [] s₁ H ⟨[.ref a],[]⟩ [.ref a] [.ref a] _ _ hr e0 (hbind s₁ (.ref a)) (.cons rfl .nil) (hsp H hO hS)) fun r s' h=>?_;cases r with
  | error e=>exact (hCX H e s' h).elim
  | ok fl =>
   cases fl with
   | next=>exact Nk h
   | brk=>exact Nk h
   | cont=>exact Nk h
   | ret u =>
    obtain ⟨v,H',os,bare,un,hok',r',q⟩:=h;have q':v=.bl true:=q;subst q';obtain rfl:u=Sk true:=r';refine ⟨rfl,OldK.of_keep fun b o e=>?_,os,bare⟩;cases q:H b with
    | none=>exact un.keep b o e q (by intro z;exact absurd (show b∈([]:List Addr) from z) (by simp)) (by simp)
    | some u =>
     rcases hO b with z|⟨ob,xs,z⟩
     ·rw [q] at z;cases z
     ·have z2:=un.jY b ob _ z;obtain ⟨e1,_⟩:=hok b _ z;obtain ⟨e2,_⟩:=hok' b _ z2;rw [e] at e1;cases e1;exact e2
 cases hk:K.lookup a with
 | some o =>
  have e:=KX a o hk;rw [ha] at e;cases e;refine core (fun _=>none) (fun _=>.inl rfl) (.inr ⟨_,vs.toArray,_,hk,rfl,rfl,rfl,by rw [Mw,lenV];exact hl,by simpa using rv⟩) (fun b u z=>by have z':(none:Option HO)=some u:=z;cases z') (fun b z=>absurd rfl z) fun z=>absurd rfl z
 | none =>
  refine core (fun b=>if b=a then some (.frz { cls:=.type "list",data:=.seq vs.toArray } (.lst (ns.map V.int))) else none) (fun b=>?_) (.inl (.inr ⟨{ cls:=.type "list",data:=.seq vs.toArray },if_pos rfl⟩)) (fun b u z=>?_) (fun b z=>?_) fun _=>hk
  ·by_cases hb:b=a
   ·exact .inr ⟨_,_,if_pos hb⟩
   ·exact .inl (if_neg hb)
  ·by_cases hb:b=a
   ·have z':=(if_pos hb).symm.trans z;cases z';subst hb;exact ⟨ha,by rw [LP];exact hl,vs,_,rv,ha⟩
   ·have z':=(if_neg hb).symm.trans z;cases z'
  ·by_cases hb:b=a
   ·exact hb
   ·exact absurd (if_neg hb) z
theorem Jf {l:RA} {n k:Nat} {q:Mp} {loose:List Str} {XP:(Str->Option Value)->Heap->Prop} {YP:World->Heap->Prop} {d:DefRec} {K:Params->LN} {CX:World->CXT} {sp:World->Sp} {x:Str}
  (hn:l.most=some n) (hn2:n<=MF) (hdf:d.params.defaults=[]) (hr:cg k callerA)
  (hY:∀ (w:World) (h:Heap),YP w h->(K w.params).In h)
  (F:∀ (w:World) (mg:Str->Option Value) (fa:Addr) (h:Heap),(K w.params).In h->h.Ns LX mg->mg d.name=some (.ref fa) ->
   ∃ fd:MZ,(∀ (s:LU) (u:Value),QU s fd ⟨[u],[]⟩ [(x,u)]) /\
    ∀ base:Heap,(K w.params).In base->base.Ns LX mg->aI l.prog w (K w.params) mg base (CX w) k fa fd [x] (sp w))
  (hsp:∀ (w:World) (H:Hp) (a:Addr) (ns:List Int),ns.length<=n->He H->SqL (K w.params) H a (ns.map V.int)->sp w [.ref a] H (fun v _=>v=.bl true) fun _ _ _=>False)
  (hCX:∀ (w:World) (H:Hp) (s:LU) (e:Value) (s':LU),CX w [] H s (fun _ _ _=>False) e s'->False) :
  PySem.W.WalkO q loose XP YP l.row.toRowW d [] (fun f vs=>PySem.call f vs):=by
 refine Att.BV hn hdf fun w s₀ s₁ mg mb fa o pm cd doc a vs ns G Y ho hd hcd hmg hobj hints hlen hg=>?_;have KX:=hY w _ Y;obtain ⟨fd,hb,hF⟩:=F w mg fa _ KX G.T.g hmg;exact Hs KX G.T.g G.T.b G.T.builtins G.T.nolimit hg hobj hints (M4 hlen hn2) hr hF hb (fun H hO hS=>hsp w H a ns hlen hO hS) fun H e s'=>hCX w H s₁ e s'
def inClass (s:Stmt) (j:Nat):Stmt:=match s with
 | .ClassDef _ _ _ body _ _ _ _ _ _ _=>body.getD j (.Pass ⟨0,0,0,0⟩)
 | _=>.Pass ⟨0,0,0,0⟩
def aJ (s:Stmt):Arguments:=match s with
 | .FunctionDef _ a _ _ _ _ _ _ _ _=>a
 | _=>{ posonlyargs:=[],args:=[],vararg:=none,kwonlyargs:=[],kw_defaults:=[],kwarg:=none,defaults:=[] }
def ax (s:Stmt):List Stmt:=match s with
 | .FunctionDef _ _ b _ _ _ _ _ _ _=>b
 | _=>[]
def af (s:Stmt):Scope:=match s with
 | .FunctionDef _ _ _ _ _ _ sc _ _ _=>sc
 | _=>{ kind:=.function,names:=[],isGenerator:=false,isCoroutine:=false }
abbrev CX0:CXT:=fun _ _ _ _ _ _=>False
abbrev E0:XK:=fun _ _ _=>False
theorem oA {X:Cx}:Passes CX0 X E0:=fun _ _ _ _ _ _ _ h=>h.elim
structure Fun (K:LN) (x qual:Str) (st:Stmt) (f:Addr) (fd:MZ):Prop where
 ex:∃ (oc:Value) (od:Option Addr) (kV doc pm:Value) (an:Option Addr) (cdv ct:Value) (osl:Array (Option Value)),
  fd=L8 x qual (aJ st) (ax st) (af st) .none kV doc pm an cdv ct/\K.lookup f=some ⟨oc,od,.func fd,osl⟩/\L5 K cdv qual=true
 kp:LV K (.ref f)=true
section
variable {P:Mp} {w:World} {K:LN} {mg:Str->Option Value} {base:Heap}
theorem Fun.ok {x qual:Str} {st:Stmt} {f:Addr} {fd:MZ} {N ps:List Str} {k:Nat} {sp:Sp} (F:Fun K x qual st f fd) (S:aK N ps (af st)) (len:∀ vs H Q E,sp vs H Q E->vs.length=ps.length)
  (hbody:∀ (cdv:Value) (A:MR) (outer:List Env) (s:LU) (H:Hp) (vs:List V) (Q:VK) (E:XK),cg k (A.deeper (envOfC qual (af st) s.heap.objs.size f cdv))->sp vs H Q E ->
   ∃ t,PSs (jc CX0 P w K mg base N qual (af st) f cdv A outer s H E).nox (ax st) t/\t { nx:=fun _ H'=>Q .non H',rt:=Q } (start N vs) H):aI P w K mg base CX0 (k+1) f fd ps sp:=by
 obtain ⟨oc,od,kV,doc,pm,an,cdv,ct,osl,rfl,lk,hcd⟩:=F.ex;refine zL lk hcd S len fun A outer s H vs Q E hr hsp=>?_;obtain ⟨t,h,q⟩:=hbody cdv A outer s H vs Q E hr hsp;exact ⟨t,h.nox,q⟩
theorem Fun.binds {x qual:Str} {st:Stmt} {f:Addr} {fd:MZ} {ps:List Str} (F:Fun K x qual st f fd)
  (h:∀ (kV doc pm:Value) (an:Option Addr) (cdv ct:Value) (us:List Value),us.length=ps.length->bindArgs (L8 x qual (aJ st) (ax st) (af st) .none kV doc pm an cdv ct) ⟨us,[]⟩=pure (ps.zip us)):Binds K fd ps []:=by
 obtain ⟨oc,od,kV,doc,pm,an,cdv,ct,osl,rfl,lk,hcd⟩:=F.ex;exact .all (h kV doc pm an cdv ct)
theorem aQ {x qual:Str} {st:Stmt} {f:Addr} {oc:Value} {od an:Option Addr} {osl:Array (Option Value)} {kV doc pm cdv ct:Value} (l:K.lookup f=some ⟨oc,od,.func (L8 x qual (aJ st) (ax st) (af st) .none kV doc pm an cdv ct),osl⟩)
  (c:L5 K cdv qual=true) (k:LV K (.ref f)=true):Fun K x qual st f (L8 x qual (aJ st) (ax st) (af st) .none kV doc pm an cdv ct):=⟨⟨oc,od,kV,doc,pm,an,cdv,ct,osl,rfl,l,c⟩,k⟩
end
theorem vR {A:MR} {k:Nat} (hr:cg k A):A.units+1<cLine:=Na (Nat.add_le_add_left (by decide:1<=64) _) hr.units
theorem FV {n:Nat} (h:n<=1000):n<MF:=Na h (by decide)
section
variable {X:Cx}
theorem pv (i:Nat) {x:Str} {pos:Pos} (hN:X.N[i]?=some x:=by rfl) (hv:Vis X.env.scope x:=by first|exact Mb rfl|exact PX (Mb rfl)|exact PX (PX rfl)) (hd:(x == ("__debug__" : Str))=false:=by decide)
  (hcd:(x == ("__classdict__" : Str))=false:=by decide):PE X (.Name x pos) (DY i):=Kn hN hv hd hcd
end
theorem eR {A B:Prop} (h:B):if false=true then A else B:=by
 rw [if_neg Mo];exact h
theorem rk {A B:Prop} (h:A):if true=true then A else B:=by
 rw [if_pos rfl];exact h
def ai (H H':Hp):Prop:=∀ b o,H b=some o->H' b=some o
theorem ai.refl (H:Hp):ai H H:=fun _ _ h=>h
theorem ai.trans {H H1 H2:Hp} (a:ai H H1) (b:ai H1 H2):ai H H2:=fun c o h=>b c o (a c o h)
theorem ai.free {H H':Hp} (e:ai H H') {l:Addr} (h:H' l=Option.none):H l=Option.none:=by
 cases q:H l with
 | none=>rfl
 | some o =>
  rw [e l o q] at h;cases h
theorem ai.seq {K:LN} {H H':Hp} {a:Addr} {xs:List V} (e:ai H H') (h:SqL K H a xs):SqL K H' a xs:=by
 rcases h with (h|⟨o,h⟩)|h
 ·exact .inl (.inl (e _ _ h))
 ·exact .inl (.inr ⟨o,e _ _ h⟩)
 ·exact .inr h
def eV (env:Env):List (Str×OT)->List (Str×Addr)->List (Str×Addr)
 | [],acc=>acc
 | (n,k) :: r,acc=>eV env r (if k == .free then (n,(env.cells.lookup n).getD 0) :: acc else acc)
theorem A5 (env:Env):∀ (l:List (Str×OT)) (acc:List (Str×Addr)),(∀ x∈l,x.2=.free->∃ c,env.cells.lookup x.1=some c) ->
  (forIn l acc (fun x r=>if (x.snd == ND)=true then (do let c <- cellOf env x.fst;pure (OQ ((x.fst,c) :: r))) else pure (OQ r)):Sem (List (Str×Addr)))=pure (eV env l acc)
 | [],acc,_=>rfl
 | (n,k) :: r,acc,h=>by
  rw [RB];have ih:=A5 env r;unfold eV
  by_cases hk:(k == ND)=true
  ·obtain ⟨c,hc⟩:=h (n,k) Mj (by simpa using hk)
   have e:cellOf env n=pure c:=by unfold cellOf;rw [hc]
   have hc':env.cells.lookup n=some c:=hc;dsimp only;rw [if_pos hk,if_pos hk,e,hc'];exact ih _ fun x hx=>h x (Me _ hx)
  ·dsimp only;rw [if_neg hk,if_neg hk];exact ih _ fun x hx=>h x (Me _ hx)
theorem xl {scope:Scope} {env:Env} (h:∀ x∈scope.names,x.2=.free->∃ c,env.cells.lookup x.1=some c):closureFor scope env=pure (eV env scope.names []):=by
 simp only [closureFor];rw [A5 env scope.names [] h];rfl
theorem vb {env:Env}:∀ (l:List (Str×OT)) (acc:List (Str×Addr)),(∀ x∈l,x.2=.free->∃ c,env.cells.lookup x.1=some c)->(∀ x c,acc.lookup x=some c->env.cells.lookup x=some c) ->
  ∀ x c,(eV env l acc).lookup x=some c->env.cells.lookup x=some c
 | [],acc,_,ha=>ha
 | (n,k) :: r,acc,h,ha=>by
  unfold eV;refine vb r _ (fun x hx=>h x (Me _ hx)) fun x c e=>?_
  by_cases hk:(k == ND)=true
  ·rw [if_pos hk] at e;obtain ⟨c',hc⟩:=h (n,k) Mj (by simpa using hk)
   have hc':env.cells.lookup n=some c':=hc;rw [Ng] at e
   split at e
   ·rename_i q
    have q':x=n:=by simpa using q
    subst q';rw [hc'] at e ⊢
    simpa using e
   ·exact ha x c e
  ·rw [if_neg hk] at e;exact ha x c e
theorem yt {env:Env}:∀ (l:List (Str×OT)) (acc:List (Str×Addr)) (x:Str),(∃ c,acc.lookup x=some c)->∃ c,(eV env l acc).lookup x=some c
 | [],_,_,h=>h
 | (n,k) :: r,acc,x,h=>by
  unfold eV;refine yt r _ x ?_
  by_cases hk:(k == ND)=true
  ·rw [if_pos hk,Ng]
   split
   ·exact ⟨_,rfl⟩
   ·exact h
  ·rw [if_neg hk];exact h
theorem ox {env:Env}:∀ (l:List (Str×OT)) (acc:List (Str×Addr)) (x:Str),(x,ND)∈l->∃ c,(eV env l acc).lookup x=some c
 | (n,k) :: r,acc,x,h=>by
  unfold eV;rcases Mv.mp h with e|h
  ·cases e;refine yt r _ _ ?_;rw [if_pos (by rfl),Ng]
   simp
  ·exact ox r _ x h
theorem nP {env:Env}:∀ {names:List (Str×OT)} {x:Str},names.lookup x=some .free ->
  (names.map fun (n,k)=>if (k == ND && env.scope.kind == .function && env.kindOf n == some .cell) then (n,Nu) else (n,k)).lookup x=some .cell \/
  (names.map fun (n,k)=>if (k == ND && env.scope.kind == .function && env.kindOf n == some .cell) then (n,Nu) else (n,k)).lookup x=some .free
 | [],_,h=>by simp at h
 | (n,k) :: r,x,h=>by
  rw [MO]
  by_cases hx:(x == n)=true
  ·rw [Ng,hx] at h;dsimp only at h ⊢;cases h
   split
   ·rw [Ng,hx];exact .inl rfl
   ·rw [Ng,hx];exact .inr rfl
  ·have hx':(x == n)=false:=by simpa using hx
   rw [Ng,hx'] at h;have ih:=nP (env:=env) (names:=r) (x:=x) h;dsimp only at h ⊢
   split
   ·rw [Ng,hx'];exact ih
   ·rw [Ng,hx'];exact ih
theorem m6 {env:Env}:∀ {names:List (Str×OT)} {x:Str},
  ((names.map fun (n,k)=>if (k == ND && env.scope.kind == .function && env.kindOf n == some .cell) then (n,Nu) else (n,k)).lookup x=some .cell \/
  (names.map fun (n,k)=>if (k == ND && env.scope.kind == .function && env.kindOf n == some .cell) then (n,Nu) else (n,k)).lookup x=some .free) ->
  (x,ND)∈names\/(x,Nu)∈names
 | [],_,h=>by simp at h
 | (n,k) :: r,x,h=>by
  rw [MO] at h
  by_cases hx:(x == n)=true
  ·have q':x=n:=by simpa using hx
   dsimp only at h
   split at h
   ·rename_i hc
    have:k=ND:=by
     cases k <;> simp_all
    subst this q';exact .inl Mj
   ·rw [Ng,hx] at h;dsimp only at h;subst q';rcases h with h|h
    ·cases h;exact .inr Mj
    ·cases h;exact .inl Mj
  ·have hx':(x == n)=false:=by simpa using hx
   have ih:=m6 (env:=env) (names:=r) (x:=x);dsimp only at h
   split at h
   ·rw [Ng,hx'] at h;exact (ih h).elim (fun z=>.inl (Me _ z)) fun z=>.inr (Me _ z)
   ·rw [Ng,hx'] at h;exact (ih h).elim (fun z=>.inl (Me _ z)) fun z=>.inr (Me _ z)
def ki (own:List Str) (fr:List Nat) (N:List Str):List Str:=own++fr.map fun i=>(N[i]?).getD ("" : Str)
def bW (own:List Str) (fr:List Nat) (σ:St):St:=own.map (fun _=>none)++fr.map fun i=>(σ[i]?).join
def cZ (X:Cx) (scope:Scope) (own:List Str) (fr:List Nat) (C:Addr) (s₂:LU) (H₂:Hp) (fp:List Addr):Cx :=
 { X with N:=ki own fr X.N,s₀:=s₂,H₀:=H₂,env:=compEnvC scope (eV X.env scope.names []) C X.env,outer:=X.stack,ex:=fp,fn:=fun _=>false,pn:=[],xe:=fun _ _=>False }
structure bu (sc:Scope) (N:List Str) (scope:Scope) (own:List Str) (fr:List Nat):Prop where
 kind:scope.kind=.function
 Gp:∀ y∈scope.names,y.2≠.cell
 names:∀ y∈scope.names,y.2=.local->scope.names.lookup y.1=some .local
 free:∀ y∈scope.names,y.2=.free->sc.names.lookup y.1=some .cell\/sc.names.lookup y.1=some .free
 fr0:∀ i∈fr,(N[i]?.bind fun x=>scope.names.lookup x)=some .free
 nd:(ki own fr N).Nodup
theorem bu.fr {sc:Scope} {N:List Str} {scope:Scope} {own:List Str} {fr:List Nat} (S:bu sc N scope own fr):∀ i∈fr,∃ x,N[i]?=some x/\scope.names.lookup x=some .free:=fun i hi=>by
 have q:=S.fr0 i hi;cases e:N[i]? with
 | none=>rw [e] at q;cases q
 | some x=>rw [e] at q;exact ⟨x,rfl,q⟩
section
variable {X:Cx} {scope:Scope} {own:List Str} {fr:List Nat} {pins:List (Addr×Obj)} {σ:St} {H₂:Hp} {s₂:LU} {fp:List Addr} {C D:Addr} {h₁:Heap} {m:Str->Option Value} {tk:Nat}
theorem bu.cells (S:bu X.env.scope X.N scope own fr) (ok:X.Ok):∀ x∈scope.names,x.2=.free->∃ c,X.env.cells.lookup x.1=some c:=fun x hx hf=>ok.has x.1 (S.free x hx hf)
theorem wU {i:Nat} {v:V} (h:(bW own fr σ)[i]?=some (some v)):∃ j,own.length<=i/\fr[i - own.length]?=some j/\σ[j]?=some (some v):=by
 unfold bW at h
 by_cases hi:i<own.length
 ·rw [MB (by simpa using hi),Mc] at h
  cases e:own[i]? with
  | none=>rw [e] at h;cases h
  | some a=>rw [e] at h;cases h
 ·rw [MA (by simpa using hi),Mc,LP] at h
  cases e:fr[i - own.length]? with
  | none=>rw [e] at h;cases h
  | some j =>
   rw [e] at h;refine ⟨j,by omega,rfl,?_⟩
   have h':(σ[j]?).join=some v:=by simpa using h
   cases q:σ[j]? with
   | none=>rw [q] at h';cases h'
   | some o=>rw [q] at h';exact congrArg some h'
theorem Hm (S:bu X.env.scope X.N scope own fr) (I:Inv X pins σ H₂ s₂) (f2:∀ b∈fp,mj X pins H₂ b) (fo:∀ b∈fp,b<s₂.heap.objs.size)
  (hC:s₂.heap.objs.size<=C) (hD:s₂.heap.objs.size<=D) (hDC:D≠C) (old:∀ b o,s₂.heap.get? b=some o->h₁.get? b=some o) (hns:h₁.Ns C m) (new:∃ n,h₁.get? D=some { cls:=.type "list",data:=.seq #[] n }) :
  Inv (cZ X scope own fr C s₂ H₂ fp) [] (bW own fr σ) (upd H₂ D (.lst [])) { s₂ with heap:=h₁,toks:=tk }:=by
 have hk:=S.cells I.ok;have sub:=vb (env:=X.env) scope.names [] hk (fun x c e=>by cases e)
 have fl:∀ x c,(eV X.env scope.names []).lookup x=some c->∃ v,s₂.heap.IsCell c v:=fun x c e=>I.cell x c (sub x c e);have okX:(cZ X scope own fr C s₂ H₂ fp).Ok:=by
  refine ⟨I.ok.mod,S.kind,I.ok.glob,I.ok.blt,hC,fun x y c e1 e2=>I.ok.inj x y c (sub x c e1) (sub y c e2),fun x hx=>?_,fun x c hf=>absurd hf (by intro z;cases z),I.ok.hd,I.ok.frames,.inl rfl,fun b hb=>⟨?_,fun x c e z=>?_⟩,
   I.bs,M4 I.ok.bsz I.sz,fun b o e hb=>?_,fun b hb=>?_,I.stack,I.xG⟩
  ·rcases m6 hx with z|z
   ·exact ox _ _ _ z
   ·exact absurd rfl (S.Gp _ z)
  ·exact Mn (Mi (fo b hb) hC)
  ·exact (f2 b hb).2.2.2.2.1 x c (sub x c e) z
  ·obtain ⟨_,_,_,f3,_⟩:=f2 b hb;rcases f3 with z|z
   ·exact I.ok.uM b o e z
   ·exact absurd (Mi (Mf (I.ok.bs b o e).1) z) (Nt _)
  ·obtain ⟨_,f1,f2',_⟩:=f2 b hb;intro z;rcases Mv.mp (I.so b z) with q|q
   ·exact f1 q
   ·exact f2' q
 have frH:∀ a,s₂.heap.objs.size<=a->H₂ a=none:=fun a h=>I.hok.fresh h;refine ⟨okX,rfl,I.bare,Un.laid old hD (frH D hD),⟨m,hns,fun i x v e1 e2 e3=>?_⟩,fun x c e=>?_,?_,fun x c e=>?_,fun p hp=>absurd (show p∈([]:List (Addr×Obj)) from hp) (by simp),I.hok.laid old hD ?_,?_⟩
 ·obtain ⟨j,hi,hj,hv⟩:=wU e2;have hx:X.N[j]?=some x:=by
   obtain ⟨y,hy,_⟩:=S.fr j (LS hj);have e1':(ki own fr X.N)[i]?=some x:=e1;unfold ki at e1';rw [MA hi,Mc,hj] at e1';have e1'':(X.N[j]?).getD ("" : Str)=x:=by simpa using e1'
   rw [hy] at e1'' ⊢;exact congrArg some e1''
  obtain ⟨y,hy,hfree⟩:=S.fr j (LS hj);rw [hx] at hy;cases hy;have hkind:X.env.kindOf x=some .cell\/X.env.kindOf x=some .free:=S.free _ (MW hfree) rfl;obtain ⟨mo,hno,hlo⟩:=I.loc;obtain ⟨u,r,l⟩:=hlo j x v hx hv (hkind.elim (fun z=>.inr (.inl z)) fun z=>.inr (.inr z));refine ⟨u,r,.inr ⟨nP hfree,?_⟩⟩;obtain ⟨c,hc⟩:=ox (env:=X.env) scope.names [] x (MW hfree);refine ⟨c,hc,?_⟩;have hc':=sub x c hc;rcases l with ⟨k,_⟩|⟨_,c',e,o,z1,z2⟩
  ·rcases hkind with z|z
   ·rw [k] at z;cases z
   ·rw [k] at z;cases z
  ·rw [hc'] at e;cases e;exact ⟨o,old _ _ z1,z2⟩
 ·obtain ⟨v,o,z1,z2⟩:=fl x c e;exact ⟨v,o,old _ _ z1,z2⟩
 ·show (upd H₂ D (.lst [])) C=none;rw [au (NY hDC)];exact frH C hC
 ·obtain ⟨v,o,z1,z2⟩:=fl x c e;rw [au (Mn (Mi (Mf z1) hD))];exact I.fV x c (sub x c e)
 ·obtain ⟨n,e⟩:=new;exact ⟨M7 _,[],n,.nil,e⟩
 ·show (bW own fr σ).length=(ki own fr X.N).length;simp [bW,ki]
end
def PIf (X:Cx) (ifs:List Expr) (t:TT):Prop :=
 ∀ (pins:List (Addr×Obj)) (s:LU) (σ:St) (H:Hp) (Q:Bool->Hp->Prop),Inv X pins σ H s->t σ H Q ->
  wpAny (model X.prog X.w) X.A (forIn ifs true fun c r=>if r=true then (do let ok <- isTrue c X.env (eval c X.env);pure (OQ ok)) else pure (OQ r)) (TP X pins σ Q) X.xe s
def DK:TT:=fun _ H Q=>Q true H
theorem bw {X:Cx}:PIf X [] DK:=fun _ _ _ H _ I h=>wpAny_tests_nil ⟨H,I,h⟩
theorem Cu {X:Cx} {c:Expr} {t:TT} (h:PT X c t):PIf X [c] t:=fun pins s σ H Q I hw=>wpAny_tests_one (h pins s σ H Q I hw)
section
variable {prog:Mp} {w:World} {A:MR} {R:Q9->LU->Prop} {s:LU}
theorem yr {elt target iter:Expr} {ifs:List Expr} {scope:Scope} {pos:Pos} {it acc:Value} {env:Env} (J:Nat->LU->Prop)
  (turn:∀ n s,J n s->wpAny (model prog w) A (pyNext it) (fun r s₁=>match r with
   | none=>R (.ok .next) s₁
   | some v=>wpAny (model prog w) A (letOwnedTupleGo target it v) (fun _ s₂=>wpAny (model prog w) A (assign target env v) (fun _ s₃ =>
     wpAny (model prog w) A (forIn ifs true fun c r=>if r=true then (do let ok <- isTrue c env (eval c env);pure (OQ ok)) else pure (OQ r)) (fun ok s₄ =>
      if ok=true then wpAny (model prog w) A (eval elt env) (fun x s₅=>wpAny (model prog w) A (call (.builtin "list.append") [acc,x]) (fun _ s₆=>∃ m,m<n/\J m s₆) (fun _ _=>False) s₅) (fun _ _=>False) s₄
      else ∃ m,m<n/\J m s₄) (fun _ _=>False) s₃) (fun _ _=>False) s₂) (fun _ _=>False) s₁) (fun _ _=>False) s)
  (n:Nat) (h:J n s):codeAny (model prog w) A (.compLoop (.ListComp elt [⟨target,iter,ifs,0⟩] scope pos) 0 it acc env) R s:=by
 refine codeAny_loop rfl J (fun n s hJ=>?_) n h;show wpAny _ A ((compTurn (.ListComp elt [⟨target,iter,ifs,0⟩] scope pos) 0 it acc env).onRaise (fun x=>(do noteFrame x env;theTreesLotGoes x))) _ _ s;have nf:∀ {x:Value} {s':LU},False->notedBy (model prog w) A env (fun e s'=>R (.error e) s') x s':=fun z=>z.elim;refine wpAny_noted ?_;rw [compTurn_list];refine LQ (QR (LQ (Nj (turn n s hJ) (fun r s₁ h₁=>?_) fun _ _ z=>nf z)));cases r with
 | none=>exact Md h₁
 | some v =>
  refine LQ (Nj h₁ (fun _ s₂ h₂=>?_) fun _ _ z=>nf z);refine LQ (Nj h₂ (fun _ s₃ h₃=>?_) fun _ _ z=>nf z);refine LQ (Nj h₃ (fun ok s₄ h₄=>?_) fun _ _ z=>nf z);cases ok with
  | false=>exact Md ⟨rfl,h₄⟩
  | true =>
   refine LQ (LQ (Nj h₄ (fun x s₅ h₅=>?_) fun _ _ z=>nf z));exact LQ (Nj h₅ (fun _ s₆ h₆=>Md (Md ⟨rfl,h₆⟩)) fun _ _ z=>nf z)
end
def uh (own:List Str) (fr:List Nat) (wi:TI) (g:TG) (tt:TT) (te:TE):TE:=fun σ H Q=>wi σ H fun J H1=>∀ D,H1 D=none ->
 ∃ W:Nat->Nat->St->Hp->Prop,(∃ m,W 0 m (bW own fr σ) (upd H1 D (.lst [])))/\∀ i m σ' H',W i m σ' H' ->
  (J.stop i H'/\Q (.ref D) H')\/(J.go i H'/\∀ x H2,J.yld i H' x H2->g x σ' H2 fun σ2 H3=>tt σ2 H3 fun ok H4 =>
   if ok=true then te σ2 H4 fun y H5=>∃ ys,H5 D=some (.lst ys)/\ys.length<MF/\∃ m',m' < m/\W (i+1) m' σ2 (upd H5 D (.lst (ys++[y]))) else ∃ m',m' < m/\W (i+1) m' σ2 H4)
section
variable {X:Cx} {elt tg iter:Expr} {ifs:List Expr} {scope:Scope} {pos:Pos} {own:List Str} {fr:List Nat} {wi:TI} {g:TG} {tt:TT} {te:TE}
theorem yC {pins:List (Addr×Obj)} {s:LU} {σ:St} {H:Hp} {Q:VK} {RR:Value->Addr->Q9->LU->Prop} (hc:X.calm=true) (S:bu X.env.scope X.N scope own fr) (hi:PI X tg iter wi)
  (hb:∀ C s₂ H₂ fp,PG (cZ X scope own fr C s₂ H₂ fp) tg g/\PIf (cZ X scope own fr C s₂ H₂ fp) ifs tt/\PE (cZ X scope own fr C s₂ H₂ fp) elt te)
  (I:Inv X pins σ H s) (h:uh own fr wi g tt te σ H Q)
  (hRR:∀ D C s' H' m',Inv X pins σ H' s'->Q (.ref D) H'->mj X pins H' C->s'.heap.Ns C m'->RR (.ref D) C (.ok .next) s') :
  wpAny (model X.prog X.w) X.A (eval iter X.env) (fun v s₁=>wpAny (model X.prog X.w) X.A (pyIter v) (fun it s₂=>wpAny (model X.prog X.w) X.A (newList []) (fun acc s₃ =>
   wpAny (model X.prog X.w) X.A (newFunctionEnv scope X.env.globals (eV X.env scope.names []) [] X.env.qual none .none (some X.env)) (fun cenv s₄ =>
    codeAny (model X.prog X.w) X.A (.compStart (.ListComp elt [⟨tg,iter,ifs,0⟩] scope pos) 0 it acc { cenv with scope:=relabel scope X.env }) (RR acc cenv.locals) s₄) X.xe s₃) X.xe s₂) X.xe s₁) X.xe s:=by
 refine thn (hi pins s σ H _ I h) fun v s1 h1=>thn h1 fun itv s2 h2=>?_;obtain ⟨it,fp,tn,J,H2,e,I2,T,st2,f2,hq⟩:=h2;subst e;refine NZ (wpAny_newFunctionEnv S.Gp (by intro y hy;simp at hy) (fun h₁ hns₁ hsb₁=>?_) S.kind)
 dsimp only at hns₁ hsb₁ ⊢;have hD:=I2.hok.fresh (Mh s2.heap.objs.size);obtain ⟨W,⟨m0,w0⟩,turn⟩:=hq s2.heap.objs.size hD;generalize hH2:s2.heap.push { cls:=.type "list",dict:=none,data:=.seq ([]:List Value).toArray }=G at hns₁ hsb₁ ⊢;have hG:G.objs.size=s2.heap.objs.size+1:=by rw [<- hH2,NN]
 have hDC:s2.heap.objs.size≠G.objs.size:=by rw [hG];exact Mn (Ob _)
 have hC:s2.heap.objs.size<=G.objs.size:=by rw [hG];exact OF _
 have old:∀ b o,s2.heap.get? b=some o->h₁.get? b=some o:=fun b o e =>
  hsb₁.extBut b o (by rw [hG];exact Mn (N1 (Mf e))) (L7 _ (hH2 ▸ L7 _ e))
 have new:h₁.get? s2.heap.objs.size=some { cls:=.type "list",data:=.seq #[] 0 }:=hsb₁.extBut _ _ hDC (L7 _ (hH2 ▸ Mz _ rfl));have fo:∀ b∈fp,b<s2.heap.objs.size:=fun b hb'=>let ⟨o,e,_⟩:=T.obj 0 _ st2 b hb';Mf e;have I4:Inv (cZ X scope own fr G.objs.size s2 H2 fp) [] (bW own fr σ) (upd H2 s2.heap.objs.size (.lst [])) { s2 with heap:=h₁,toks:=s2.toks+([]:List (Str×Value)).length } :=
  Hm S I2 f2 fo hC (Mh _) hDC old hns₁ ⟨_,new⟩
 obtain ⟨hg,ht,he⟩:=hb G.objs.size s2 H2 fp;have fpX:∀ {H':Hp},(∀ b∈fp,H' b=none)->∀ b∈fp,mj (cZ X scope own fr G.objs.size s2 H2 fp) [] H' b:=fun {H'} hn b hb'=>by
  refine ⟨hn b hb',Mn (Mi (fo b hb') hC),I4.ok.tG b hb',.inl hb',(I4.ok.exf b hb').2,fun p hp=>absurd (show p∈([]:List (Addr×Obj)) from hp) (by simp)⟩
 have fr0:∀ b∈fp,(upd H2 s2.heap.objs.size (.lst [])) b=none:=fun b hb'=>by
  rw [au (Mn (fo b hb'))];exact (f2 b hb').1
 have tn0:tn 0 h₁:=T.keep _ _ _ st2 fun b hb' o e=>old b o e;have loop:codeAny (model X.prog X.w) X.A (.compLoop (.ListComp elt [⟨tg,iter,ifs,0⟩] scope pos) 0 (.ref it) (.ref s2.heap.objs.size) (compEnvC scope (eV X.env scope.names []) G.objs.size X.env))
   (RR (.ref s2.heap.objs.size) G.objs.size) { s2 with heap:=h₁,toks:=s2.toks+([]:List (Str×Value)).length }:=by
  refine yr (fun n s'=>∃ i σ' H',Inv (cZ X scope own fr G.objs.size s2 H2 fp) [] σ' H' s'/\tn i s'.heap/\(∀ b∈fp,H' b=none)/\W i n σ' H') ?_ m0 ⟨0,_,_,I4,tn0,fr0,w0⟩;rintro n s3 ⟨i,σ3,H3,I3,st3,fr3,w3⟩;have nfp:∀ {H':Hp} {s':LU} {σ':St} {pl:List (Addr×Obj)},Inv (cZ X scope own fr G.objs.size s2 H2 fp) pl σ' H' s'->pl=mV fp s'.heap->True:=fun _ _=>trivial;rcases turn i n σ3 H3 w3 with ⟨stop,qn⟩|⟨go,step⟩
  ·refine thn (T.done (cZ X scope own fr G.objs.size s2 H2 fp) rfl rfl rfl hc i [] s3 σ3 H3 (fun _ _=>False) I3 (fpX fr3) st3 stop) fun r s4 ⟨hr,I5⟩=>?_;subst hr;have IX:Inv X pins σ H3 s4:=I2.C5 (ch:=fp) I5.os I5.base I5.hok I5.bare fun b hb'=>let ⟨_,f1,_,f3,f4,f5⟩:=f2 b hb';⟨f3,f1,f4,f5⟩;obtain ⟨m',hn',_⟩:=I5.loc;exact hRR _ _ _ _ m' IX qn (I2.xI hC I5.free) hn'
  ·refine thn (T.item (cZ X scope own fr G.objs.size s2 H2 fp) rfl rfl rfl hc i [] s3 σ3 H3 (fun _ _=>False) I3 (fpX fr3) st3 go) fun r s4 ⟨u,hr,h4⟩=>?_;subst hr;refine thn h4 fun _ s5 ⟨x,H5,I5,r5,y5,st5,fr5⟩=>?_;have I5':=I5.pinned (fpX fr5) (T.obj _ _ st5);refine thn (hg _ s5 σ3 H5 x u _ I5' r5 (step x H5 y5)) fun _ s6 ⟨σ6,H6,I6,q6⟩=>?_;have again:∀ {s7:LU} {σ7:St} {H7:Hp} {m':Nat},Inv (cZ X scope own fr G.objs.size s2 H2 fp) ([]++mV fp s5.heap) σ7 H7 s7->m' < n->W (i+1) m' σ7 H7 ->
     ∃ m,m<n/\∃ i σ' H',Inv (cZ X scope own fr G.objs.size s2 H2 fp) [] σ' H' s7/\tn i s7.heap/\(∀ b∈fp,H' b=none)/\W i m σ' H':=fun {s7 σ7 H7 m'} I7 hm w7=>by
    refine ⟨m',hm,i+1,σ7,H7,I7.nN,T.keep _ _ _ st5 fun b hb' o e=>(I7.pin (b,o) (MJ _ (MJ _ (jG hb' e)))).1,fun b hb'=>?_,w7⟩;obtain ⟨o,e,d⟩:=T.obj _ _ st5 b hb';exact (I7.pin (b,o) (MJ _ (MJ _ (jG hb' e)))).2.1
   refine thn (ht _ s6 σ6 H6 _ I6 q6) fun ok s7 ⟨H7,I7,q7⟩=>?_;cases ok with
   | false =>
    rw [if_neg Mo] at q7 ⊢;obtain ⟨m',hm,w7⟩:=q7;exact again I7 hm w7
   | true =>
    rw [if_pos rfl] at q7 ⊢;refine thn (he _ s7 σ6 H7 _ I7 q7) fun y s8 ⟨yv,H8,I8,r8,q8⟩=>?_;obtain ⟨ys,hy,hl,m',hm,w8⟩:=q8;refine thn (cX _ s8 σ6 H8 (.ref s2.heap.objs.size) [yv] _ [y] (fun _ H9=>H9=upd H8 s2.heap.objs.size (.lst (ys++[yv]))) I8 rfl (.cons r8 .nil) ⟨_,ys,yv,rfl,rfl,hy,hl,rfl⟩) fun _ s9 ⟨_,H9,I9,_,e9⟩=>?_;subst e9;exact again I9 hm w8
 exact Rl loop (T.self X.A 0 _ _ _ tn0 loop)
theorem bZ (hc:X.calm=true) (S:bu X.env.scope X.N scope own fr) (hi:PI X tg iter wi)
  (hb:∀ C s₂ H₂ fp,PG (cZ X scope own fr C s₂ H₂ fp) tg g/\PIf (cZ X scope own fr C s₂ H₂ fp) ifs tt/\PE (cZ X scope own fr C s₂ H₂ fp) elt te)
  (hs:∀ x,foldedSetIterable iter X.env x=pure x:=by intro _;rfl):PE X (.ListComp elt [⟨tg,iter,ifs,0⟩] scope pos) (uh own fr wi g tt te):=by
 intro pins s σ H Q I h;rw [eval_ListComp];refine O8 (use:=none) rfl hs (xl (S.cells I.ok)) S.kind S.names ?_;refine yC (RR:=fun acc C=>compPost (model X.prog X.w) X.A X.xe none (EP X pins σ Q) acc C) hc S hi hb I h ?_;intro D C s' H' m' I' q f hn;obtain ⟨f0,f1,f2,f3,f4,f5⟩:=f;exact ⟨m',hn,fun h' sb=>⟨.ref D,H',I'.turned (t':=s'.toks) (fun b o hb e=>(sb.2 b hb).trans e) f0 f1 f3 f4 f5,rfl,q⟩⟩
theorem dk {i:Nat} {y:Str} {py lV:Pos} (hc:X.calm=true) (hN:X.N.Nodup) (hi':X.N[i]?=some y) (hy:Loc X.env.scope y) (S:bu X.env.scope X.N scope own fr) (hi:PI X tg iter wi)
  (hb:∀ C s₂ H₂ fp,PG (cZ X scope own fr C s₂ H₂ fp) tg g/\PIf (cZ X scope own fr C s₂ H₂ fp) ifs tt/\PE (cZ X scope own fr C s₂ H₂ fp) elt te)
  (hsw:swapsWith (.ListComp elt [⟨tg,iter,ifs,0⟩] scope pos) (some (.Name y py)) lV.line X.env=pure true)
  (hs:∀ x,foldedSetIterable iter X.env x=pure x:=by intro _;rfl) (hf:X.fn y=true\/X.env.scope.names.lookup y=some .local:=by first|exact .inl rfl|exact .inr rfl|assumption) :
  PS X (.Assign [.Name y py] (.ListComp elt [⟨tg,iter,ifs,0⟩] scope pos) lV) (CT (uh own fr wi g tt te) (ig i)):=by
 intro pins s σ H D I h;rw [exec_Assign_Name_used _ _ _ _ hsw];refine LQ (QR (LQ ?_));show wpAny _ X.A (do let _ <- comprehension (.ListComp elt [⟨tg,iter,ifs,0⟩] scope pos) scope X.env _ (newList []) false (eval iter X.env) (some (assign (.Name y py) X.env))) _ _ s;refine LQ (Nj (O8 (use:=some (assign (.Name y py) X.env)) (Q:=fun _ s'=>SP X pins D .next s') rfl hs (xl (S.cells I.ok)) S.kind S.names ?_) (fun _ s' hq=>Md (Md hq)) fun _ _ e=>e);refine yC (RR:=fun acc C=>compPost (model X.prog X.w) X.A X.xe (some (assign (.Name y py) X.env)) (fun _ s'=>SP X pins D .next s') acc C) hc S hi hb I h ?_;intro D' C s' H' m' I' q f hn;show wpAny _ _ (assign (.Name y py) X.env (.ref D')) _ _ _;refine wpAny_assign_Name (yP I' hN hi' hy (v:=.ref D') rfl (fun s2 I2 ⟨a,sb,ha⟩=>?_) hf);obtain ⟨f0,f1,f2,f3,f4,f5⟩:=f;have hCa:C≠a:=by
  rcases ha with e|e
  ·rw [e];exact f1
  ·exact fun z=>f4 y a e z.symm
 refine ⟨m',hn.sameBut sb hCa,fun h' sb'=>?_⟩;exact ⟨_,H',I2.turned (t':=s2.toks) (fun b o hb e=>(sb'.2 b hb).trans e) f0 f1 f3 f4 f5,q⟩
end
class Rep (α:Type) where
 is:LN->Hp->V->α->Prop
 mono:∀ {K:LN} {H H':Hp} {v:V} {a:α},ai H H'->is K H v a->is K H' v a
instance:Rep Int:=⟨fun _ _ v a=>v=.int a,fun _ h=>h⟩
instance:Rep Nat:=⟨fun _ _ v a=>v=.int (a:Int),fun _ h=>h⟩
instance:Rep Bool:=⟨fun _ _ v a=>v=.bl a,fun _ h=>h⟩
theorem Paired.get {α β:Type} {F:α->β->Prop}:∀ {l₁:List α} {l₂:List β} {i:Nat} {b:β},Nv F l₁ l₂->l₂[i]?=some b->∃ a,l₁[i]?=some a/\F a b
 | _,_,_,_,.nil,e=>by simp at e
 | _,_,0,_,.cons r _,e=>by simp at e;subst e;exact ⟨_,rfl,r⟩
 | _,_,i+1,b,.cons _ t,e=>by
  obtain ⟨a,h1,h2⟩:=Paired.get (i:=i) (b:=b) t (by simpa using e)
  exact ⟨a,by simpa using h1,h2⟩
theorem Paired.getL {α β:Type} {F:α->β->Prop}:∀ {l₁:List α} {l₂:List β} {i:Nat} {a:α},Nv F l₁ l₂->l₁[i]?=some a->∃ b,l₂[i]?=some b/\F a b
 | _,_,_,_,.nil,e=>by simp at e
 | _,_,0,_,.cons r _,e=>by simp at e;subst e;exact ⟨_,rfl,r⟩
 | _,_,i+1,b,.cons _ t,e=>by
  obtain ⟨a,h1,h2⟩:=Paired.getL (i:=i) (a:=b) t (by simpa using e)
  exact ⟨a,by simpa using h1,h2⟩
theorem Paired.app {α β:Type} {F:α->β->Prop}:∀ {l₁ l₃:List α} {l₂ l₄:List β},Nv F l₁ l₂->Nv F l₃ l₄->Nv F (l₁++l₃) (l₂++l₄)
 | _,_,_,_,.nil,s=>s
 | _,_,_,_,.cons r t,s=>.cons r (Paired.app t s)
theorem Paired.zA {α β:Type} {F:α->β->Prop}:∀ {l₁:List α} {l₂:List β} (n:Nat),Nv F l₁ l₂->Nv F (l₁.take n) (l₂.take n)
 | _,_,0,_=>.nil
 | _,_,_+1,.nil=>.nil
 | _,_,n+1,.cons r t=>.cons r (Paired.zA n t)
theorem Paired.zt {α β:Type} {F:α->β->Prop}:∀ {l₁:List α} {l₂:List β} (n:Nat),Nv F l₁ l₂->Nv F (l₁.drop n) (l₂.drop n)
 | _,_,0,r=>r
 | _,_,_+1,.nil=>.nil
 | _,_,n+1,.cons _ t=>Paired.zt n t
theorem Paired.of_map {α β γ:Type} {F:α->β->Prop} {f:γ->α} {g:γ->β} (h:∀ c,F (f c) (g c)):∀ l:List γ,Nv F (l.map f) (l.map g)
 | []=>.nil
 | c :: r=>.cons (h c) (Paired.of_map h r)
instance {α:Type} [Rep α]:Rep (List α) :=
 ⟨fun K H v l=>∃ p xs,v=.ref p/\SqL K H p xs/\Nv (Rep.is K H) xs l,fun e ⟨p,xs,h1,h2,h3⟩=>⟨p,xs,h1,e.seq h2,Paired.eT h3 fun _ _ q=>Rep.mono e q⟩⟩
theorem ai.tup {K:LN} {H H':Hp} {a:Addr} {xs:List V} (e:ai H H') (h:SqT K H a xs):SqT K H' a xs:=by
 rcases h with (h|⟨o,h⟩)|h
 ·exact .inl (.inl (e _ _ h))
 ·exact .inl (.inr ⟨o,e _ _ h⟩)
 ·exact .inr h
instance {α β:Type} [Rep α] [Rep β]:Rep (α×β) :=
 ⟨fun K H v l=>∃ p x y,v=.ref p/\SqT K H p [x,y]/\Rep.is K H x l.1/\Rep.is K H y l.2,fun e ⟨p,x,y,h1,h2,h3,h4⟩=>⟨p,x,y,h1,e.tup h2,Rep.mono e h3,Rep.mono e h4⟩⟩
abbrev At {α:Type} [Rep α] (K:LN) (H:Hp) (v:V) (a:α):Prop:=Rep.is K H v a
theorem xA {K:LN} {H:Hp} {p:Addr} {ns:List Int} (h:SqL K H p (ns.map V.int)):At K H (.ref p) ns:=⟨p,_,rfl,h,by
 have q:=Paired.of_map (F:=fun (v:V) (a:Int)=>v=.int a) (f:=V.int) (g:=id) (fun _=>rfl) ns;rw [Qd] at q;exact q⟩
theorem mF {K:LN} {H:Hp} {v:V} {ns:List Nat} (h:At K H v ns):∃ p,v=.ref p/\SqL K H p (ns.map fun (n:Nat)=>V.int (n:Int)):=by
 obtain ⟨p,xs,rfl,hS,hP⟩:=h;refine ⟨p,rfl,?_⟩;have e:xs=ns.map fun (n:Nat)=>V.int (n:Int):=by
  clear hS
  induction hP with
  | nil=>rfl
  | cons r _ ih=>rw [MO,<- ih];exact congrArg (· :: _) r
 rw [<- e];exact hS
theorem At.item {α:Type} [Rep α] {K:LN} {H:Hp} {v:V} {l:List α} {i:Nat} {a:α} (h:At K H v l) (e:l[i]?=some a):∃ p xs x,v=.ref p/\SqL K H p xs/\atI xs (i:Int)=some x/\At K H x a:=by
 obtain ⟨p,xs,rfl,hS,hP⟩:=h;obtain ⟨x,hx,r⟩:=Paired.get hP e;exact ⟨p,xs,x,rfl,hS,kY hx,r⟩
theorem At.len {α:Type} [Rep α] {K:LN} {H:Hp} {v:V} {l:List α} (h:At K H v l):∃ p xs,v=.ref p/\SqL K H p xs/\xs.length=l.length:=by
 obtain ⟨p,xs,rfl,hS,hP⟩:=h;exact ⟨p,xs,rfl,hS,hP.length⟩
class bV (α:Type) [Rep α] [DecidableEq α] where
 depth:Nat
 inj:∀ {X:Cx} {pins:List (Addr×Obj)} {σ:St} {H:Hp} {s:LU} {x:V} {a b:α},Inv X pins σ H s->At X.K H x a->At X.K H x b->a=b
 eq:∀ {X:Cx} {pins:List (Addr×Obj)} {σ:St} {H:Hp} {s:LU} {A:MR} {x y:V} {u v:Value} {a b:α},Inv X pins σ H s->At X.K H x a->At X.K H y b->RelV x u->RelV y v->A.units+depth<cLine ->
  So A s u v (decide (a=b))
instance:bV Int where
 depth:=0
 inj:=fun _ h h'=>by cases h;cases h';rfl
 eq:=fun {X pins σ H s A x y u v a b} _ hx hy ru rv _=>by
  cases hx;cases hy;have q:=v9 (A:=A) (s:=s) ru rv rfl rfl;have e:eqV (.int a) (.int b)=decide (a=b):=rfl;rw [e] at q;exact q
instance:bV Nat where
 depth:=0
 inj:=fun _ h h'=>by
  have q:=(show _=V.int _ from h).symm.trans (show _=V.int _ from h');injection q with q;exact QY q
 eq:=fun {X pins σ H s A x y u v a b} _ hx hy ru rv _=>by
  cases hx;cases hy;have q:=v9 (A:=A) (s:=s) ru rv rfl rfl;have e:eqV (.int (a:Int)) (.int (b:Int))=decide (a=b):=by
   show decide ((a:Int)=(b:Int))=decide (a=b);exact decide_eq_decide.mpr Int.ofNat_inj
  rw [e] at q;exact q
theorem GJ {A:MR} {n:Nat} (h:A.units+(n+1)<cLine):A.in1.units+n<cLine:=by
 show A.units+1+n<cLine;omega
theorem qL {X:Cx} {pins:List (Addr×Obj)} {σ:St} {H:Hp} {s:LU} {α:Type} [Rep α] [DecidableEq α] [bV α] (I:Inv X pins σ H s) :
  ∀ {xs:List V} {as bs:List α},Nv (Rep.is X.K H) xs as->Nv (Rep.is X.K H) xs bs->as=bs
 | _,_,_,.nil,.nil=>rfl
 | _,_,_,.cons r t,.cons r' t'=>by rw [bV.inj I r r',qL I t t']
theorem range_all {α:Type} [DecidableEq α]:∀ (as bs:List α),as.length=bs.length->((LZ as.length).all fun j=>decide (as[j]?=bs[j]?))=decide (as=bs):=by
 intro as bs hl;rw [NP];simp only [Mx,L9,decide_eq_true_eq];constructor
 ·intro h;refine Qz fun i=>?_
  by_cases hi:i<as.length
  ·exact h i hi
  ·rw [Nr (by omega),Nr (by omega)]
 ·intro h i _;rw [h]
theorem wY {X:Cx} {pins:List (Addr×Obj)} {σ:St} {H:Hp} {s:LU} {A:MR} {α:Type} [Rep α] [DecidableEq α] [bV α] {p q:Addr} {xs ys:List V} {as bs:List α}
  (I:Inv X pins σ H s) (h1:SqL X.K H p xs) (r1:Nv (Rep.is X.K H) xs as) (h2:SqL X.K H q ys) (r2:Nv (Rep.is X.K H) ys bs) (hu:A.units+(bV.depth α+1)<cLine) (hl:as.length=bs.length) :
  ∃ its its2:List Value,s.heap.IsList p its.toArray/\s.heap.IsList q its2.toArray/\its.toArray.size=its2.toArray.size/\its.toArray.size=as.length /\
   ∀ j (h1:j<its.toArray.size) (h2:j<its2.toArray.size),So A.in1 s its.toArray[j] its2.toArray[j] (decide (as[j]?=bs[j]?)):=by
 obtain ⟨its,v1,p1,_⟩:=I.list h1;obtain ⟨its2,v2,p2,_⟩:=I.list h2;have e1:=v1.length;have e2:=v2.length;have e3:=r1.length;have e4:=r2.length;refine ⟨its,its2,p1.isList,p2.isList,by simp;omega,by simp;omega,fun j h1 h2=>?_⟩
 have h1':j<its.length:=by simpa using h1
 have h2':j<its2.length:=by simpa using h2
 have hx:j<xs.length:=by omega
 have hy:j<ys.length:=by omega
 obtain ⟨u,hu1,ru⟩:=v1.get (i:=j) (x:=xs[j]) (by simp [hx])
 obtain ⟨v,hv1,rv⟩:=v2.get (i:=j) (x:=ys[j]) (by simp [hy])
 obtain ⟨a,ha,ra⟩:=Paired.getL r1 (i:=j) (a:=xs[j]) (by simp [hx])
 obtain ⟨b,hb,rb⟩:=Paired.getL r2 (i:=j) (a:=ys[j]) (by simp [hy])
 have eu:its.toArray[j]=u:=by
  have:its[j]?=some its[j]:=by simp [h1']
  rw [this] at hu1
  simpa using hu1
 have ev:its2.toArray[j]=v:=by
  have:its2[j]?=some its2[j]:=by simp [h2']
  rw [this] at hv1
  simpa using hv1
 rw [eu,ev,ha,hb];have z:=bV.eq (A:=A.in1) I ra rb ru rv (GJ hu);have e:decide (some a=some b)=decide (a=b):=by simp
 rw [e];exact z
instance {α:Type} [Rep α] [DecidableEq α] [bV α]:bV (List α) where
 depth:=bV.depth α+1
 inj:=fun {X pins σ H s x a b} I h h'=>by
  obtain ⟨p,xs,e,h1,r1⟩:=h;obtain ⟨q,ys,e',h2,r2⟩:=h';subst e;cases e';have:=I.rO h1 h2;subst this;exact qL I r1 r2
 eq:=fun {X pins σ H s A x y u v a b} I hx hy ru rv hu=>by
  obtain ⟨p,xs,e,h1,r1⟩:=hx;obtain ⟨q,ys,e',h2,r2⟩:=hy;subst e e';cases (show u=MI p from ru);cases (show v=MI q from rv)
  by_cases hpq:p=q
  ·subst hpq;have:=I.rO h1 h2;subst this;have:=qL I r1 r2;subst this;rw [decide_eq_true rfl];exact Ry _
  ·refine SeqAt.EqAt.of_refs hpq ?_;have hu0:A.units<cLine:=by omega
   by_cases hl:a.length=b.length
   ·obtain ⟨its,its2,l1,l2,e1,e2,he⟩:=wY (A:=A) I h1 r1 h2 r2 hu hl;have z:=SeqAt.RcAt.lists l1 l2 e1 hu0 he;rw [e2,range_all a b hl] at z;exact z
   ·obtain ⟨its,v1,p1,_⟩:=I.list h1;obtain ⟨its2,v2,p2,_⟩:=I.list h2;have e1:=v1.length;have e2:=v2.length;have e3:=r1.length;have e4:=r2.length;rw [decide_eq_false (fun z=>hl (by rw [z]))]
    exact SeqAt.RcAt.lists_lengths p1.isList p2.isList (by simp;omega) hu0
theorem Kq {X:Cx} (α:Type) [Rep α] [DecidableEq α] [bV α] (hu:X.A.units+64<cLine) (hd:bV.depth α<=32:=by decide) :
  OpR X (compareOp .Eq) (fun x y H Q=>∃ as bs:List α,At X.K H x as/\At X.K H y bs/\Q (.bl (decide (as=bs))) H):=by
 intro pins s σ H x y u v Q I ru rv h;obtain ⟨as,bs,⟨p,xs,e,h1,r1⟩,⟨q,ys,e',h2,r2⟩,hq⟩:=h;subst e e';cases (show u=MI p from ru);cases (show v=MI q from rv);have hu0:X.A.units<cLine:=by omega
 by_cases hl:as.length=bs.length
 ·obtain ⟨its,its2,l1,l2,e1,e2,he⟩:=wY (A:=X.A) I h1 r1 h2 r2 (by omega) hl
  refine SeqAt.eq_listAt l1 l2 e1 hu0 he ?_;rw [e2,range_all as bs hl];exact ⟨.bl _,H,I,rfl,hq⟩
 ·obtain ⟨its,v1,p1,_⟩:=I.list h1;obtain ⟨its2,v2,p2,_⟩:=I.list h2;have e1:=v1.length;have e2:=v2.length;have e3:=r1.length;have e4:=r2.length;rw [decide_eq_false (fun z=>hl (by rw [z]))] at hq
  exact SeqAt.eq_list_lengthsAt p1.isList p2.isList (by simp;omega) hu0 ⟨.bl false,H,I,rfl,hq⟩
theorem KR {X:Cx} (α:Type) [Rep α] [DecidableEq α] [bV α] (hu:X.A.units+64<cLine) (hd:bV.depth α<=32:=by decide) :
  OpR X (compareOp .NotEq) (fun x y H Q=>∃ as bs:List α,At X.K H x as/\At X.K H y bs/\Q (.bl (!decide (as=bs))) H):=by
 intro pins s σ H x y u v Q I ru rv h;obtain ⟨as,bs,⟨p,xs,e,h1,r1⟩,⟨q,ys,e',h2,r2⟩,hq⟩:=h;subst e e';cases (show u=MI p from ru);cases (show v=MI q from rv);have hu0:X.A.units<cLine:=by omega
 have fin:∀ k:Bool,Q (.bl k) H->Sk k≠Value.notImplemented/\EP X pins σ Q (.bool k) s:=fun k z=>⟨(fun z=>nomatch z),.bl k,H,I,rfl,z⟩
 by_cases hl:as.length=bs.length
 ·obtain ⟨its,its2,l1,l2,e1,e2,he⟩:=wY (A:=X.A) I h1 r1 h2 r2 (by omega) hl
  obtain ⟨⟨cls,dd,data,sl⟩,ho,hc,n,hd'⟩:=id l1;obtain ⟨⟨cls2,dd2,data2,sl2⟩,ho2,hc2,n2,hd2⟩:=id l2;simp only at hc hd' hc2 hd2;subst hc hd' hc2 hd2;have hq':=fin _ hq;rw [<- range_all as bs hl,<- e2] at hq';exact Rm (op:=.NotEq) ⟨_,ho,rfl⟩ ⟨_,ho2,rfl⟩ F.slot_list_ne F.entry_list_ne (F.args_list_ne_2 _ _) (SeqAt.list_neAt p q _ _ n n2 dd dd2 sl sl2 e1 _) ⟨ho,ho2,he,hq'⟩ hu0
 ·obtain ⟨its,v1,p1,_⟩:=I.list h1;obtain ⟨its2,v2,p2,_⟩:=I.list h2;have e1:=v1.length;have e2:=v2.length;have e3:=r1.length;have e4:=r2.length;rw [decide_eq_false (fun z=>hl (by rw [z]))] at hq
  obtain ⟨⟨cls,dd,data,sl⟩,ho,hc,n,hd'⟩:=id p1.isList;obtain ⟨⟨cls2,dd2,data2,sl2⟩,ho2,hc2,n2,hd2⟩:=id p2.isList;simp only at hc hd' hc2 hd2;subst hc hd' hc2 hd2;exact Rm (op:=.NotEq) ⟨_,ho,rfl⟩ ⟨_,ho2,rfl⟩ F.slot_list_ne F.entry_list_ne (F.args_list_ne_2 _ _) (SeqAt.list_ne_lengthsAt p q _ _ n n2 dd dd2 sl sl2 (by simp;omega)) ⟨ho,ho2,fin _ hq⟩ hu0
structure Df (K:LN) (mg:Str->Option Value) (x:Str) (st:Stmt) (ps:List Str) where
 f:Addr
 fd:MZ
 fn:Fun K x x st f fd
 bd:Binds K fd ps []
 nm:mg x=some (.ref f)
section
variable {X:Cx} {x:Str} {st:Stmt} {ps:List Str} {k:Nat} {sp:Sp} {p pos:Pos} {e:Expr} {es:List Expr} {t:TA}
theorem Lr (d:Df X.K X.mg x st ps) (G:aI X.prog X.w X.K X.mg X.base CX0 k d.f d.fd ps sp) (hr:cg k X.A) (hg:Gl X x) (ha:PA X (e :: es) t) (hdb:(x == ("__debug__" : Str))=false:=by decide)
  (he:MU (e :: es) X.env=(false,eval e X.env) :: MU es X.env:=by rfl) (hpl:(backTo pos (MU es X.env)).any (·.1)=false:=by rfl) :
  PE X (.Call (.Name x p) (e :: es) [] pos) (qz sp [] E0 t):=xf G hr hg d.nm d.fn.kp d.bd .nil oA ha hdb he hpl
end
theorem Df.ok {P:Mp} {w:World} {K:LN} {mg:Str->Option Value} {base:Heap} {x:Str} {st:Stmt} {N ps:List Str} {k:Nat} {sp:Sp} (d:Df K mg x st ps) (S:aK N ps (af st)) (len:∀ vs H Q E,sp vs H Q E->vs.length=ps.length)
  (hbody:∀ (cdv:Value) (A:MR) (outer:List Env) (s:LU) (H:Hp) (vs:List V) (Q:VK) (E:XK),cg k (A.deeper (envOfC x (af st) s.heap.objs.size d.f cdv))->sp vs H Q E ->
   ∃ t,PSs (jc CX0 P w K mg base N x (af st) d.f cdv A outer s H E).nox (ax st) t/\t { nx:=fun _ H'=>Q .non H',rt:=Q } (start N vs) H):aI P w K mg base CX0 (k+1) d.f d.fd ps sp :=
 d.fn.ok S len hbody
theorem aG {H:Hp} {p:Addr} (h:H p=none) (o:HO):ai H (upd H p o):=fun b u q=>by rw [au (aH q h)];exact q
theorem small {n:Nat} (h:n<=1000):n<=MF:=N5 (FV h)
def isB (x:V) (H:Hp) (QB:Bool->Hp->Prop):Prop:=∃ k,x=.bl k/\QB k H
abbrev isF (K:LN) (f:Str) (x:V) (H1:Hp) (Q:VK):Prop:=∃ a C dx fs v,x=.ref a/\H1 a=some (.ins C dx fs)/\Cls K C/\bt K C f/\fs.lookup f=some v/\Q v H1
def isI (x:V) (H:Hp) (QO:Option Int->Hp->Prop):Prop:=∃ i,x=.int i/\QO (some i) H
def qW (g:TG) (t:TS) (D:Ends) (σ:St):It->Hp->Prop:=fun J H1=>∃ W:Nat->Nat->St->Hp->Prop,(∃ m,W 0 m σ H1)/\∀ i m σ H,W i m σ H ->
  (J.stop i H/\D.nx σ H)\/(J.go i H/\∃ N:St->Hp->Prop,(∀ σ' H',N σ' H'->∃ m',m' < m/\W (i+1) m' σ' H')/\∀ x H',J.yld i H x H'->g x σ H' fun σ2 H2=>t { D with nx:=N,ct:=N,bk:=D.nx } σ2 H2)
def fL (own:List Str) (fr:List Nat) (g:TG) (tt:TT) (ta:TE) (σ:St) (Q:VK):It->Hp->Prop:=fun J H1=>∀ d,H1 d=none->∃ W:Nat->Nat->St->Hp->Prop,(∃ m,W 0 m (bW own fr σ) (upd H1 d (.lst [])))/\∀ i m σ' H',W i m σ' H' ->
  (J.stop i H'/\Q (.ref d) H')\/(J.go i H'/\∀ x H2,J.yld i H' x H2->g x σ' H2 fun σ2 H3=>tt σ2 H3 fun ok H4 =>
   if ok=true then ta σ2 H4 fun y H5=>∃ ys,H5 d=some (.lst ys)/\ys.length<MF/\∃ m',m' < m/\W (i+1) m' σ2 (upd H5 d (.lst (ys++[y]))) else ∃ m',m' < m/\W (i+1) m' σ2 H4)
def mH (K:LN) (x:V) (H:Hp) (R:It->Hp->Prop):Prop:=∃ a,x=.ref a/\(∃ xs,SqL K H a xs)/\R (Itl K a) H
def wZ (vs:List V) (H:Hp) (R:It->Hp->Prop):Prop:=∃ j:Int,vs=[.int j]/\-(2 ^ 62)<=j/\j<2 ^ 62/\R (Itr 0 j.toNat) H
section
variable {σ:St} {H:Hp} {Q:VK} {QB:Bool->Hp->Prop} {D:Ends} {K:LN} {t u:TS} {ta tb tc:TE} {g:TG} {i:Nat} {v x y:V} {tt tu:TT} {tA:TA} {a b:Int}
theorem vy (h:D.nx σ H):IA D σ H:=h
theorem zw (h:ta σ H fun x H1=>g x σ H1 D.nx):CT ta g D σ H:=h
theorem sN {QS:St->Hp->Prop} (h:QS (σ.set i (some v)) H):ig i v σ H QS:=h
theorem vZ (h:ta σ H fun _ H1=>D.nx σ H1):Ie ta D σ H:=h
theorem zN (h:ta σ H D.rt):J3 ta D σ H:=h
theorem IE (h:tt σ H fun b H1=>if b=true then t D σ H1 else u D σ H1):HV tt t u D σ H:=h
theorem jB (J:St->Hp->Prop) (main:∀ N:St->Hp->Prop,(∀ σ' H',J σ' H'->N σ' H')->tt σ H fun b H1=>if b=true then t { D with nx:=N } σ H1 else u { D with nx:=N } σ H1)
  (key:∀ σ' H',J σ' H'->D.nx σ' H'):HV tt t u D σ H:=main D.nx key
theorem zB (e:σ[i]?=some (some v)) (h:Q v H):DY i σ H Q:=⟨v,e,h⟩
theorem r_C (h:Q v H):tC v σ H Q:=h
theorem C3 {r:R2} (h:ta σ H fun x H1=>tb σ H1 fun y H2=>r x y H2 Q):tOp r ta tb σ H Q:=h
theorem Dl {r:V->Hp->VK->Prop} (h:ta σ H fun x H1=>r x H1 Q):tUn r ta σ H Q:=h
theorem zF {f:Int->Int->V} (h:Q (f a b) H):rI0 f (.int a) (.int b) H Q:=⟨a,b,rfl,rfl,h⟩
theorem DW {C:Int->Int->Prop} {f:Int->Int->V} (c:C a b) (h:Q (f a b) H):rI C f (.int a) (.int b) H Q:=⟨a,b,rfl,rfl,c,h⟩
theorem v7 (h:Q (.bl (decide (a=b))) H):rEq (.int a) (.int b) H Q:=⟨rfl,by
 have e:decide (V.int a=V.int b)=decide (a=b):=decide_eq_decide.mpr ⟨fun z=>by injection z,fun z=>by rw [z]⟩
 rw [e];exact h⟩
theorem vB (h:Q (.bl (!decide (a=b))) H):rNe (.int a) (.int b) H Q:=⟨rfl,by
 have e:decide (V.int a=V.int b)=decide (a=b):=decide_eq_decide.mpr ⟨fun z=>by injection z,fun z=>by rw [z]⟩
 rw [e];exact h⟩
theorem vq (h:ta σ H fun x H'=>isB x H' QB):Ir ta σ H QB:=h
theorem DI (h:ta σ H fun x H1=>isB x H1 QB):tB ta σ H QB:=h
theorem DQ {c:Bool} (h:QB c H):isB (.bl c) H QB:=⟨c,rfl,h⟩
theorem zH (h:tt σ H fun c H1=>if c=true then tu σ H1 QB else QB false H1):KN tt tu σ H QB:=h
theorem Ec (h:tt σ H fun c H1=>if c=true then QB true H1 else tu σ H1 QB):tOr tt tu σ H QB:=h
theorem zp (h:tt σ H fun c H1=>QB (!c) H1):J4 tt σ H QB:=h
theorem wO (h:ta σ H fun x H1=>isB x H1 fun c H1=>if c=true then tb σ H1 Q else Q (.bl false) H1):Iy ta tb σ H Q:=h
theorem zx (h:ta σ H fun x H1=>isB x H1 fun c H1=>if c=true then Q (.bl true) H1 else tb σ H1 Q):KH ta tb σ H Q:=h
theorem zC {QA:List V->Hp->Prop} (h:QA [] H):xU σ H QA:=h
theorem ve {QA:List V->Hp->Prop} (h:ta σ H fun x H1=>tA σ H1 fun xs H2=>QA (x :: xs) H2):qX ta tA σ H QA:=h
theorem CU {r:List V->Hp->VK->Prop} (h:tA σ H fun vs H1=>r vs H1 Q):tCB r tA σ H Q:=h
theorem wV {sp:Sp} {E:XK} (h:tA σ H fun vs H1=>sp (vs++[]) H1 Q E):qz sp [] E tA σ H Q:=h
theorem eQ (h:tA σ H fun xs H1=>xs.length<=MF/\∀ p,H1 p=none->Q (.ref p) (upd H1 p (.lst xs))):AF tA σ H Q:=h
theorem mO (h:tA σ H fun xs H1=>xs.length<=MF/\∀ p,H1 p=none->Q (.ref p) (upd H1 p (.tup xs))):Kv tA σ H Q:=h
theorem zu (h:ta σ H fun x H1=>Q (.bl (decide (x=.non))) H1):Kb ta σ H Q:=h
theorem vY (h:ta σ H fun x H1=>Q (.bl (!decide (x=.non))) H1):ID ta σ H Q:=h
theorem zD {wi:TI} (h:wi σ H (qW g t D σ)):JY wi g t D σ H:=h
theorem uj {R:It->Hp->Prop} (h:ta σ H fun x H1=>mH K x H1 R):Ee K ta σ H R:=h
theorem ug {R:It->Hp->Prop} (h:tA σ H fun vs H1=>wZ vs H1 R):Dy tA σ H R:=h
theorem v8 {own:List Str} {fr:List Nat} {wi:TI} (h:wi σ H (fL own fr g tt ta σ Q)):uh own fr wi g tt ta σ H Q:=h
theorem D8 {r:V->Option Int->Option Int->Hp->VK->Prop} {tl th:TO} (h:ta σ H fun x H1=>tl σ H1 fun l H2=>th σ H2 fun u H3=>r x l u H3 Q):tSl r ta tl th σ H Q:=h
theorem qP {QO:Option Int->Hp->Prop} (h:QO none H):CF σ H QO:=h
theorem vE {QO:Option Int->Hp->Prop} (h:ta σ H fun x H1=>isI x H1 QO):Ip ta σ H QO:=h
theorem vT {QO:Option Int->Hp->Prop} (h:QO (some a) H):isI (.int a) H QO:=⟨a,rfl,h⟩
theorem Dn {T:String} {r:V->List V->Hp->VK->Prop} (h:ta σ H fun x H1=>tyV K T x H1/\tA σ H1 fun xs H2=>r x xs H2 Q):tBM K T r ta tA σ H Q:=h
theorem zo {f:Str} (h:ta σ H fun x H1=>isF K f x H1 Q):GB K ta f σ H Q:=h
theorem vK {C:Addr} {sp:Sp} {dvs:List V} {E:XK} (h:tA σ H fun vs H1=>∀ x dx,H1 x=none->H1 dx=none->dx≠x->sp (.ref x :: (vs++dvs)) (upd (upd H1 dx (.own x)) x (.ins C dx [])) (fun v H2=>v=.non/\Q (.ref x) H2) E):C8 C sp dvs E tA σ H Q:=h
theorem vJ {f:Str} (h:tb σ H fun y H1=>ta σ H1 fun x H2=>∃ a C dx fs,x=.ref a/\H2 a=some (.ins C dx fs)/\Cls K C/\bt K C f/\fs.length<1000/\D.nx σ (upd H2 a (.ins C dx (dg f y fs)))):Hr K ta tb f D σ H:=h
theorem dQ {α:Type} [Rep α] {l:List α} {n:Nat} {c:α} (h:At K H v l) (e:a=(n:Int)) (hn:l[n]?=some c) (q:∀ w,At K H w c->Q w H):qM K v (.int a) H Q:=by
 obtain ⟨p,xs,x,rfl,hS,hx,hc⟩:=h.item hn;subst e;exact ⟨p,xs,_,x,rfl,rfl,hS,hx,q x hc⟩
theorem lJ {l:List Nat} {n c:Nat} (h:At K H v l) (e:a=(n:Int)) (hn:l[n]?=some c) (q:Q (.int (c:Int)) H):qM K v (.int a) H Q :=
 dQ h e hn fun w hw=>by cases (show w=V.int (c:Int) from hw);exact q
theorem wq {l:List Int} {n:Nat} {c:Int} (h:At K H v l) (e:a=(n:Int)) (hn:l[n]?=some c) (q:Q (.int c) H):qM K v (.int a) H Q :=
 dQ h e hn fun w hw=>by cases (show w=V.int c from hw);exact q
theorem cq {n:Nat} (e:a=(n:Int)) (hn:n<=1000000) (Pv:Nat->St->Hp->Prop) (h0:Pv 0 σ H)
  (hs:∀ i σ' H',i<n->Pv i σ' H'->g (.int (i:Int)) σ' H' fun σ2 H2=>t { D with nx:=Pv (i+1),ct:=Pv (i+1),bk:=D.nx } σ2 H2) (hd:∀ σ' H',Pv n σ' H'->D.nx σ' H') :
  wZ [.int a] H (qW g t D σ):=by
 subst e;refine ⟨n,rfl,by omega,by omega,?_⟩
 have z:((n:Int)).toNat=n:=by omega
 show qW g t D σ (Itr 0 (n:Int).toNat) H;rw [z];exact Fg Pv h0 (fun i σ' H' hi p=>by rw [Sx];exact hs i σ' H' hi p) hd
theorem la {α:Type} [Rep α] {l:List α} (h:At K H v l) (Pv:Nat->St->Hp->Prop) (h0:Pv 0 σ H) (hl:∀ i σ' H',Pv i σ' H'->ai H H')
  (hs:∀ i c w σ' H',l[i]?=some c->At K H' w c->Pv i σ' H'->g w σ' H' fun σ2 H2=>t { D with nx:=Pv (i+1),ct:=Pv (i+1),bk:=D.nx } σ2 H2) (hd:∀ σ' H',Pv l.length σ' H'->D.nx σ' H') :
  mH K v H (qW g t D σ):=by
 obtain ⟨p,xs,rfl,hS,hP⟩:=h;refine ⟨p,rfl,⟨xs,hS⟩,uW (K:=K) (a:=p) (xs:=xs) Pv h0 (fun i σ' H' _ q=>(hl i σ' H' q).seq hS) (fun i x σ' H' hx q=>?_) (fun σ' H' q=>?_)⟩
 ·obtain ⟨c,hc,r⟩:=Paired.getL hP hx;exact hs i c x σ' H' hc (Rep.mono (hl i σ' H' q) r) q
 ·rw [hP.length] at q;exact hd σ' H' q
def del (H:Hp) (d:Addr):Hp:=fun a=>if a=d then none else H a
theorem m3 {H:Hp} {d b:Addr} (h:b≠d):del H d b=H b:=if_neg h
theorem rD {H H':Hp} {d:Addr} (e:ai H H'):ai (del H d) (del H' d):=fun b o h=>by
 by_cases hb:b=d
 ·rw [hb] at h;have z:del H d d=none:=if_pos rfl;rw [z] at h;cases h
 ·rw [m3 hb] at h ⊢;exact e b o h
theorem mf {H:Hp} {d:Addr} {o:HO}:ai (del H d) (del (upd H d o) d):=fun b u h=>by
 by_cases hb:b=d
 ·rw [hb] at h;have z:del H d d=none:=if_pos rfl;rw [z] at h;cases h
 ·rw [m3 hb] at h ⊢;rw [au hb];exact h
theorem pL {H:Hp} {d:Addr}:ai (del H d) H:=fun b u h=>by
 by_cases hb:b=d
 ·rw [hb] at h;have z:del H d d=none:=if_pos rfl;rw [z] at h;cases h
 ·rw [m3 hb] at h;exact h
theorem xX {β:Type} [Rep β] {J:It} {n:Nat} {own:List Str} {fr:List Nat} (Src:Nat->V->Hp->Prop) (acc:Nat->List β) (Sh:St->Prop)
  (hgo:∀ i H',i<n->ai H H'->J.go i H') (hst:∀ H',ai H H'->J.stop n H') (hy:∀ i H' x H2,i<n->ai H H'->J.yld i H' x H2->H2=H'/\Src i x H')
  (hz:n<=100000) (ha0:acc 0=[]) (hal:∀ i,i<=n->(acc i).length<=i) (h0:Sh (bW own fr σ))
  (turn:∀ i w σ' H' (d:Addr) (R:St->V->Hp->Prop) (R0:St->Hp->Prop),i<n->ai H H'->Src i w H'->Sh σ' ->
   (∀ σ2 y b H5,Sh σ2->ai H' H5->At K (del H5 d) y b->acc (i+1)=acc i++[b]->R σ2 y H5)->(∀ σ2 H5,Sh σ2->ai H' H5->acc (i+1)=acc i->R0 σ2 H5)->(∃ ys,H' d=some (.lst ys)) ->
   g w σ' H' fun σ2 H3=>tt σ2 H3 fun ok H4=>if ok=true then ta σ2 H4 (R σ2) else R0 σ2 H4)
  (fin:∀ d H',H d=none->ai H H'->(∃ ys,H' d=some (.lst ys)/\Nv (Rep.is K (del H' d)) ys (acc n))->Q (.ref d) H') (d:Addr) (hd:H d=none) :
  ∃ W:Nat->Nat->St->Hp->Prop,(∃ m,W 0 m (bW own fr σ) (upd H d (.lst [])))/\∀ i m σ' H',W i m σ' H' ->
   (J.stop i H'/\Q (.ref d) H')\/(J.go i H'/\∀ x H2,J.yld i H' x H2->g x σ' H2 fun σ2 H3=>tt σ2 H3 fun ok H4 =>
    if ok=true then ta σ2 H4 fun y H5=>∃ ys,H5 d=some (.lst ys)/\ys.length<MF/\∃ m',m' < m/\W (i+1) m' σ2 (upd H5 d (.lst (ys++[y]))) else ∃ m',m' < m/\W (i+1) m' σ2 H4):=by
 refine ⟨fun i m σ' H'=>m=n - i/\i<=n/\Sh σ'/\ai H H'/\∃ ys,H' d=some (.lst ys)/\Nv (Rep.is K (del H' d)) ys (acc i),⟨n,rfl,M7 _,h0,aG hd _,[],ar,by rw [ha0];exact .nil⟩,?_⟩
 rintro i m σ' H' ⟨rfl,hi,hsh,hs,ys,hys,hp⟩
 by_cases hlt:i<n
 ·refine .inr ⟨hgo i H' hlt hs,fun x H2 hx=>?_⟩;obtain ⟨rfl,hsrc⟩:=hy i H' x H2 hlt hs hx;refine turn i x σ' H2 d _ _ hlt hs hsrc hsh (fun σ2 y b H5 h1 h2 h3 h4=>?_) (fun σ2 H5 h1 h2 h4=>?_) ⟨ys,hys⟩
  ·have hl:=hp.length;have hl2:=hal i hi;refine ⟨ys,h2 _ _ hys,Na (show ys.length<=100000 by omega) (by rw [Nx];decide),n - (i+1),by omega,rfl,hlt,h1,fun b' o e=>?_,ys++[y],ar,?_⟩
   ·rw [au (aH e hd)];exact h2 _ _ (hs _ _ e)
   ·rw [h4];exact Paired.app (Paired.eT hp fun _ _ q=>Rep.mono mf (Rep.mono (rD h2) q)) (.cons (Rep.mono mf h3) .nil)
  ·refine ⟨n - (i+1),by omega,rfl,hlt,h1,hs.trans h2,ys,h2 _ _ hys,?_⟩
   rw [h4];exact Paired.eT hp fun _ _ q=>Rep.mono (rD h2) q
 ·have e:i=n:=by omega
  subst e;exact .inl ⟨hst H' hs,fin d H' hd hs ⟨ys,hys,hp⟩⟩
theorem mT {α β:Type} [Rep α] [Rep β] {l:List α} {own:List Str} {fr:List Nat} (h:At K H v l) (hz:l.length<=100000) (acc:Nat->List β) (Sh:St->Prop) (ha0:acc 0=[]) (hal:∀ i,i<=l.length->(acc i).length<=i) (h0:Sh (bW own fr σ))
  (turn:∀ i c w σ' H' (d:Addr) (R:St->V->Hp->Prop) (R0:St->Hp->Prop),l[i]?=some c->ai H H'->At K H' w c->Sh σ' ->
   (∀ σ2 y b H5,Sh σ2->ai H' H5->At K (del H5 d) y b->acc (i+1)=acc i++[b]->R σ2 y H5)->(∀ σ2 H5,Sh σ2->ai H' H5->acc (i+1)=acc i->R0 σ2 H5)->(∃ ys,H' d=some (.lst ys)) ->
   g w σ' H' fun σ2 H3=>tt σ2 H3 fun ok H4=>if ok=true then ta σ2 H4 (R σ2) else R0 σ2 H4)
  (fin:∀ d H',H d=none->ai H H'->(∃ ys,H' d=some (.lst ys)/\Nv (Rep.is K (del H' d)) ys (acc l.length))->Q (.ref d) H') :
  mH K v H (fL own fr g tt ta σ Q):=by
 obtain ⟨p,xs,rfl,hS,hP⟩:=h;have hl:=hP.length;refine ⟨p,rfl,⟨xs,hS⟩,xX (J:=Itl K p) (n:=l.length) (fun i w H'=>∃ c,l[i]?=some c/\At K H' w c) acc Sh (fun i H' hi e=>⟨xs,xs[i]'(by omega),e.seq hS,by simp [hl,hi]⟩) (fun H' e=>⟨xs,e.seq hS,Rv hl⟩)
  (fun i H' x H2 hi e hy=>?_) hz ha0 hal h0 (fun i w σ' H' d R R0 hi e ⟨c,hc,hw⟩=>turn i c w σ' H' d R R0 hc e hw) fin⟩
 obtain ⟨e1,e2⟩:=hy;have z:=e2 xs (e.seq hS);obtain ⟨c,hc,r⟩:=Paired.getL hP z;exact ⟨e1,c,hc,Rep.mono e r⟩
theorem rm (K:LN) {β:Type} [Rep β] {n:Nat} {own:List Str} {fr:List Nat} (e:a=(n:Int)) (hz:n<=100000) (acc:Nat->List β) (Sh:St->Prop) (ha0:acc 0=[]) (hal:∀ i,i<=n->(acc i).length<=i) (h0:Sh (bW own fr σ))
  (turn:∀ i σ' H' (d:Addr) (R:St->V->Hp->Prop) (R0:St->Hp->Prop),i<n->ai H H'->Sh σ' ->
   (∀ σ2 y b H5,Sh σ2->ai H' H5->At K (del H5 d) y b->acc (i+1)=acc i++[b]->R σ2 y H5)->(∀ σ2 H5,Sh σ2->ai H' H5->acc (i+1)=acc i->R0 σ2 H5)->(∃ ys,H' d=some (.lst ys)) ->
   g (.int (i:Int)) σ' H' fun σ2 H3=>tt σ2 H3 fun ok H4=>if ok=true then ta σ2 H4 (R σ2) else R0 σ2 H4)
  (fin:∀ d H',H d=none->ai H H'->(∃ ys,H' d=some (.lst ys)/\Nv (Rep.is K (del H' d)) ys (acc n))->Q (.ref d) H') :
  wZ [.int a] H (fL own fr g tt ta σ Q):=by
 subst e;refine ⟨n,rfl,by omega,by omega,?_⟩
 have z:((n:Int)).toNat=n:=by omega
 show fL own fr g tt ta σ Q (Itr 0 (n:Int).toNat) H;rw [z];refine xX (J:=Itr 0 n) (n:=n) (fun i w _=>w=.int (i:Int)) acc Sh (fun i H' hi _=>hi) (fun H' _=>Mh n) (fun i H' x H2 hi e hy=>?_) hz ha0 hal h0 (fun i w σ' H' d R R0 hi e hw=>?_) fin
 ·obtain ⟨e1,e2⟩:=hy;exact ⟨e1,by rw [e2,Sx]⟩
 ·subst hw;exact turn i σ' H' d R R0 hi e
theorem kC {α β:Type} [Rep α] [Rep β] {l:List α} {own:List Str} {fr:List Nat} (h:At K H v l) (hz:l.length<=100000) (acc:Nat->List β) (Sh:St->Prop) (ha0:acc 0=[]) (hal:∀ i,i<=l.length->(acc i).length<=i) (h0:Sh (bW own fr σ))
  (turn:∀ i c w σ' H' (d:Addr) (R:St->V->Hp->Prop) (R0:St->Hp->Prop),l[i]?=some c->ai H H'->At K H' w c->Sh σ' ->
   (∀ σ2 y b H5,Sh σ2->ai H' H5->At K (del H5 d) y b->acc (i+1)=acc i++[b]->R σ2 y H5)->(∀ σ2 H5,Sh σ2->ai H' H5->acc (i+1)=acc i->R0 σ2 H5)->(∃ ys,H' d=some (.lst ys)) ->
   g w σ' H' fun σ2 H3=>tt σ2 H3 fun ok H4=>if ok=true then ta σ2 H4 (R σ2) else R0 σ2 H4)
  (fin:∀ d H',ai H H'->At K H' (.ref d) (acc l.length)->Q (.ref d) H') :
  mH K v H (fL own fr g tt ta σ Q) :=
 mT h hz acc Sh ha0 hal h0 turn fun d H' _ hs ⟨ys,hys,hp⟩=>fin d H' hs ⟨d,ys,rfl,SqL.of hys,Paired.eT hp fun _ _ q=>Rep.mono pL q⟩
theorem kI (K:LN) {β:Type} [Rep β] {n:Nat} {own:List Str} {fr:List Nat} (e:a=(n:Int)) (hz:n<=100000) (acc:Nat->List β) (Sh:St->Prop) (ha0:acc 0=[]) (hal:∀ i,i<=n->(acc i).length<=i) (h0:Sh (bW own fr σ))
  (turn:∀ i σ' H' (d:Addr) (R:St->V->Hp->Prop) (R0:St->Hp->Prop),i<n->ai H H'->Sh σ' ->
   (∀ σ2 y b H5,Sh σ2->ai H' H5->At K (del H5 d) y b->acc (i+1)=acc i++[b]->R σ2 y H5)->(∀ σ2 H5,Sh σ2->ai H' H5->acc (i+1)=acc i->R0 σ2 H5)->(∃ ys,H' d=some (.lst ys)) ->
   g (.int (i:Int)) σ' H' fun σ2 H3=>tt σ2 H3 fun ok H4=>if ok=true then ta σ2 H4 (R σ2) else R0 σ2 H4)
  (fin:∀ d H',ai H H'->At K H' (.ref d) (acc n)->Q (.ref d) H') :
  wZ [.int a] H (fL own fr g tt ta σ Q) :=
 rm K e hz acc Sh ha0 hal h0 turn fun d H' _ hs ⟨ys,hys,hp⟩=>fin d H' hs ⟨d,ys,rfl,SqL.of hys,Paired.eT hp fun _ _ q=>Rep.mono pL q⟩
theorem wu (h:QB true H):DK σ H QB:=h
theorem vc {A B:Prop} (h:A):if true=true then A else B:=rk h
end
theorem aV {c A B:Prop} [Decidable c] (h1:c->A) (h2:¬ c->B):if decide c=true then A else B:=by
 by_cases h:c
 ·rw [decide_eq_true h];exact rk (h1 h)
 ·rw [decide_eq_false h];exact eR (h2 h)
theorem bX {c A B:Prop} [Decidable c] (h1:¬ c->A) (h2:c->B):if (!decide c)=true then A else B:=by
 by_cases h:c
 ·rw [decide_eq_true h];exact eR (h2 h)
 ·rw [decide_eq_false h];exact rk (h1 h)
def Gr {β:Type} [Rep β] (K:LN) (H:Hp) (d:Addr) (l:List β):Prop:=∃ ys,H d=some (.lst ys)/\Nv (Rep.is K (del H d)) ys l
section
variable {β:Type} [Rep β] {K:LN} {H H':Hp} {d:Addr} {l:List β} {y:V} {b:β} {Q:VK}
theorem Gr.at (h:Gr K H d l):At K H (.ref d) l:=by
 obtain ⟨ys,h1,h2⟩:=h;exact ⟨d,ys,rfl,SqL.of h1,Paired.eT h2 fun _ _ q=>Rep.mono pL q⟩
theorem Gr.mono (s:ai H H') (h:Gr K H d l):Gr K H' d l:=by
 obtain ⟨ys,h1,h2⟩:=h;exact ⟨ys,s _ _ h1,Paired.eT h2 fun _ _ q=>Rep.mono (rD s) q⟩
theorem Gr.is (h:Gr K H d l):∃ ys,H d=some (.lst ys):=let ⟨ys,h1,_⟩:=h;⟨ys,h1⟩
theorem Gr.ty (h:Gr K H d l):tyV K "list" (.ref d) H:=by
 obtain ⟨ys,h1,_⟩:=h;exact .inl ⟨rfl,_,SqL.of h1⟩
theorem md (h:Gr K H d l) (hl:l.length<=100000) (hy:At K (del H d) y b) (q:∀ H',Gr K H' d (l++[b])->(∀ a o,a≠d->H a=some o->H' a=some o)->(∀ a,a≠d->H' a=H a)->Q .non H'):w6 (.ref d) [y] H Q:=by
 obtain ⟨ys,h1,h2⟩:=h;have e:=h2.length;refine ⟨d,ys,y,rfl,rfl,h1,Na (show ys.length<=100000 by omega) (by rw [Nx];decide),?_⟩
 refine q _ ⟨_,ar,Paired.app (Paired.eT h2 fun _ _ z=>Rep.mono mf z) (.cons (Rep.mono mf hy) .nil)⟩ (fun a o ha z=>by rw [au ha];exact z) fun a ha=>au ha
theorem ai.but {H₀:Hp} (hd:H₀ d=none) (s:ai H₀ H) (k:∀ a o,a≠d->H a=some o->H' a=some o):ai H₀ H':=fun a o z=>k a o (aH z hd) (s a o z)
end
def cut {α:Type} (l:List α) (lo hi:Option Int):List α:=(l.drop (HT.sIx l.length 0 lo)).take (HT.sIx l.length l.length hi - HT.sIx l.length 0 lo)
theorem Jb {α:Type} [Rep α] {K:LN} {H:Hp} {v:V} {Q:VK} {l:List α} {lo hi:Option Int} (h:At K H v l) (q:∀ p H',ai H H'->H p=none->At K H' (.ref p) (cut l lo hi)->Q (.ref p) H'):C9 K v lo hi H Q:=by
 obtain ⟨p,xs,rfl,hS,hP⟩:=h;refine ⟨p,xs,rfl,hS,fun d hd=>q d _ (aG hd _) hd ⟨d,_,rfl,SqL.of ar,?_⟩⟩;have e:=hP.length;unfold uP cut;rw [e];exact Paired.zA _ (Paired.zt _ (Paired.eT hP fun _ _ z=>Rep.mono (aG hd _) z))
theorem Je {α:Type} {l:List α} {lo hi:Option Int} {x:α} (h:x∈cut l lo hi):x∈l:=OX (OY h)
theorem JE {α:Type} (l:List α) (lo hi:Option Int):(cut l lo hi).length<=l.length:=by
 unfold cut;rw [Mu,P1];omega
theorem Ew {H:Hp} {d p:Addr} (hd:∃ ys,H d=some (.lst ys)) (hp:H p=none):p≠d:=fun e=>by
 obtain ⟨ys,hd⟩:=hd;rw [e,hd] at hp;cases hp
def Kz (K:LN):List V->Hp->VK->Prop:=fun xs H Q=>∃ p ys,xs=[.ref p]/\(SqL K H p ys\/SqT K H p ys)/\Q (.int ys.length) H
def Du (K:LN):List V->Hp->VK->Prop:=fun xs H Q=>∃ p ys,xs=[.ref p]/\(SqL K H p ys\/SqT K H p ys)/\∀ l,H l=none->Q (.ref l) (upd H l (.lst ys))
def KY (α:Type) [Rep α] [DecidableEq α] (K:LN):R2:=fun x y H Q=>∃ as bs:List α,At K H x as/\At K H y bs/\Q (.bl (decide (as=bs))) H
def Ky (α:Type) [Rep α] [DecidableEq α] (K:LN):R2:=fun x y H Q=>∃ as bs:List α,At K H x as/\At K H y bs/\Q (.bl (!decide (as=bs))) H
section
variable {K:LN} {H:Hp} {Q:VK} {v x y:V} {α:Type} [Rep α] {l:List α}
theorem dD (h:At K H v l) (q:Q (.int (l.length:Int)) H):Kz K [v] H Q:=by
 obtain ⟨p,xs,rfl,hS,e⟩:=h.len;exact ⟨p,xs,rfl,.inl hS,by rw [e];exact q⟩
theorem K5 [DecidableEq α] {as bs:List α} (ha:At K H x as) (hb:At K H y bs) (q:Q (.bl (decide (as=bs))) H):KY α K x y H Q:=⟨as,bs,ha,hb,q⟩
theorem oX [DecidableEq α] {as bs:List α} (ha:At K H x as) (hb:At K H y bs) (q:Q (.bl (!decide (as=bs))) H):Ky α K x y H Q:=⟨as,bs,ha,hb,q⟩
end
section
variable {X:Cx} (K:LN) (hK:X.K=K) {e l o value:Expr} {ta tv tl:TE} {f:Str} {pos pos':Pos}
include hK
theorem aj:IxR X (qM K):=by subst hK;exact II
theorem fR:IxR X (Hz K):=by subst hK;exact JS
theorem aL (he:PE X e ta) (hb:attributeBase e f X.env (eval e X.env)=eval e X.env):PE X (.Attribute e f pos) (GB K ta f):=by subst hK;exact Kp he hb
theorem iP (ha:PE X o ta) (hv:PE X value tv) (hs:swapsWith value (some (.Attribute o f pos')) pos.line X.env=pure false):PS X (.Assign [.Attribute o f pos'] value pos) (Hr K ta tv f):=by subst hK;exact Kc ha hv hs
theorem aZ {tg:Expr} (hl:PE X l tl):PI X tg l (Ee K tl):=by subst hK;exact IQ hl
theorem AE:SlR X (C9 K):=by subst hK;exact JK
theorem aW:da X (.builtin "len") (Kz K):=by subst hK;exact zQ
theorem fZ:da X (.type "list") (Du K):=by subst hK;exact zT
theorem Jl (α:Type) [Rep α] [DecidableEq α] [bV α] (hu:X.A.units+64<cLine) (hd:bV.depth α<=32:=by decide) :
  OpR X (compareOp .Eq) (KY α K):=by subst hK;exact Kq α hu hd
theorem kS (α:Type) [Rep α] [DecidableEq α] [bV α] (hu:X.A.units+64<cLine) (hd:bV.depth α<=32:=by decide) :
  OpR X (compareOp .NotEq) (Ky α K):=by subst hK;exact KR α hu hd
theorem Ke {T id:String} {name:Str} {r:V->List V->Hp->VK->Prop} {to:TE} {t:TA} {e:Expr} {es:List Expr} {apos cpos:Pos} (pa:PlainAttrs T) (slot:Slot T name id) (hty:typeOf (.builtin id)=pure (.type "method_descriptor")) (hm:MtR X id r) (ho:PE X o to) (ha:PA X (e :: es) t)
  (hbase:attributeBase o name X.env (eval o X.env)=eval o X.env:=by rfl)
  (hfew:((backTo cpos (MU (e :: es) X.env)).all (fun x=>!x.1) && (backToKw cpos (keywordEach [] X.env)).all (fun x=>x.1.isSome)
   && decide ((e :: es).length+([]:List Rw).length+(if ([]:List Rw).isEmpty then 0 else 1)<30))=true:=by rfl)
  (hline:(apos.endLine == cpos.line)=true:=by rfl) (hs:MU (e :: es) X.env=(false,eval e X.env) :: MU es X.env:=by rfl) (hplain:(backTo cpos (MU es X.env)).any (·.1)=false:=by rfl) :
  PE X (.Call (.Attribute o name apos) (e :: es) [] cpos) (tBM K T r to t):=by subst hK;exact K8 pa slot hty hm ho ha hbase hfew hline hs hplain
end
section
variable {X:Cx} {pins:List (Addr×Obj)} {σ:St} {H:Hp} {s:LU} {h':Heap} {t':Nat} {fp:List Addr} {p:Addr} {o:HO}
theorem Inv.FQ (I:Inv X pins σ H s) (hf:∀ b∈fp,mj X pins H b) (k:∀ b ob,b∉fp->s.heap.get? b=some ob->h'.get? b=some ob) (hp:s.heap.objs.size<=p) (new:cA X.prog X.w (upd H p o) h' p o) :
  Inv X pins σ (upd H p o) { s with heap:=h',toks:=t' }:=by
 have hn:=I.hok.fresh hp;have lt:∀ {b:Addr} {ob:Obj},s.heap.get? b=some ob->b≠p:=fun e=>Mn (Mi (Mf e) hp);have nofp:∀ b u,H b=some u->b∉fp:=fun b u e hb=>by rw [(hf b hb).1] at e;cases e
 refine I.step (g':=s.gens) (d':=s.drawn) (ch:=fp) (fun b hb=>let ⟨_,f1,_,f3,f4,f5⟩:=hf b hb;⟨f3,f1,f4,f5⟩) (fun b ob _ _ hc e _=>k b ob hc e) (fun b ob _ _ hc e _=>⟨ob.slots,k b ob hc e⟩)
  (fun b ob _ e n=>by rw [au (lt e)];exact n) (fun b ob hc e=>⟨ob,k b ob hc e⟩) (fun b xs e=>by rw [au (aH e hn)];exact e) (fun b ob u e=>by rw [au (aH e hn)];exact e)
  (fun b ps e=>⟨#[],by rw [au (aH e hn),e];simp⟩) (fun m hm=>?_) (fun b u e=>?_) I.bare
 ·obtain ⟨ob,es,ep,e,r⟩:=hm;exact ⟨ob,es,ep,k _ ob (fun hb=>(hf _ hb).2.1 rfl) e,r⟩
 ·by_cases hb:b=p
  ·subst hb;rw [ar] at e;cases e;exact new
  ·rw [au hb] at e;refine (I.hok b u e).qD (fun c v hc q=>k c v ?_ q) (fun c q=>by rw [au (aH q hn)];exact q) fun c xs q=>by rw [au (aH q hn)];exact q
   rcases hc with z|z
   ·rw [z];exact nofp b u e
   ·exact nofp c _ z
end
def Ite (K:LN) (a:Addr):It :=
 ⟨fun i H=>∃ xs x,SqL K H a xs/\xs[i]?=some x,fun i H v H'=>∃ p x,v=.ref p/\H p=none/\H'=upd H p (.tup [.int (i:Int),x])/\∀ xs,SqL K H a xs->xs[i]?=some x,fun i H=>∃ xs,SqL K H a xs/\xs.length<=i⟩
theorem Ge {P:Mp} {w:World} {K:LN} {es:List Expr} {kk:Nat} {tpos:Pos} (a e it:Addr) (hei:e≠it) :
  Turn P w K (.Tuple es kk tpos) (Ite K a) [e,it] e (fun i h=>(∃ old,IsEnum h e it i old)/\h.IsListIter it a i) where
 mem:=by simp
 obj:=fun i h st b hb=>by
  obtain ⟨⟨old,he⟩,o,e1,c,d⟩:=st;rcases Mv.mp hb with z|hb
  ·rw [z];exact ⟨_,he,fun v z=>by
    have z':Data.fields _=Data.cell v:=z;cases z'⟩
  ·rw [Ma.mp hb];exact ⟨o,e1,fun v z=>by rw [d] at z;cases z⟩
 keep:=fun i h h' st k=>⟨let ⟨old,he⟩:=st.1;⟨old,k e (by simp) _ he⟩,st.2.at fun o e=>k it (by simp) o e⟩
 item:=by
  intro X hP hw hK hc i pins s σ H E I hf st hg;subst hP hw hK;obtain ⟨xs,x,hq,hx⟩:=hg;obtain ⟨its,rv,p,hz⟩:=I.list hq;obtain ⟨u,hu,ru⟩:=rv.get hx;obtain ⟨⟨old,he⟩,hit⟩:=st;refine wpAny_pyNext_enum_item he hit p.isList (x:=u) (by simpa using hu) hei fun h' ho hit' hT hsz hk=>?_
  refine ⟨_,rfl,?_⟩;have I1:Inv X pins σ (upd H s.heap.objs.size (.tup [.int (i:Int),x])) { s with heap:=h',toks:=s.toks+1 } :=
   I.FQ hf (fun b ob hb q=>hk b ob (fun z=>hb (by simp [z])) (fun z=>hb (by simp [z])) q) (Mh _) ⟨by show 2<=MF;decide,[.int i s.toks,u],.cons ⟨_,rfl⟩ (.cons ru .nil),⟨_,hT,rfl,_,rfl⟩⟩
  have fE:=hf e (by simp)
  have hlt:e<s.heap.objs.size:=Mf he;have hlt2:it<s.heap.objs.size:=by obtain ⟨_,z,_⟩:=hit;exact Mf z
  refine wpAny_letOwnedTupleGo_enum ho fun h2 he2 hs2=>?_;have nE:(upd H s.heap.objs.size (.tup [.int (i:Int),x])) e=none:=by rw [au (Mn hlt)];exact fE.1
  refine ⟨.ref s.heap.objs.size,_,I1.turned (t':=s.toks+1) (fun b ob hb q=>(hs2.2 b hb).trans q) nE fE.2.1 fE.2.2.2.1 fE.2.2.2.2.1 fE.2.2.2.2.2,rfl,⟨_,x,rfl,I.hok.fresh (Mh _),rfl,fun ys hy=>by rw [I.rO hy hq];exact hx⟩,?_,fun b hb=>?_⟩
  ·refine ⟨⟨u,?_⟩,hit'.at fun o q=>(hs2.2 it (NY hei)).trans q⟩;have e1:((i+1:Nat):Int)=(i:Int)+1:=by omega
   rw [e1];exact he2
  ·have hb':b<s.heap.objs.size:=by
    rcases Mv.mp hb with z|hb
    ·rw [z];exact hlt
    ·rw [Ma.mp hb];exact hlt2
   rw [au (Mn hb')];exact (hf b hb).1
 done:=by
  intro X hP hw hK hc i pins s σ H E I hf st hg;subst hP hw hK;obtain ⟨xs,hq,hx⟩:=hg;obtain ⟨its,rv,p,hz⟩:=I.list hq;obtain ⟨⟨old,he⟩,hit⟩:=st;have hl:=rv.length;obtain ⟨f0,f1,f2,f3,f4,f5⟩:=hf it (by simp)
  exact wpAny_pyNext_enum_end (I.ok.hd hc) he hit p.isList (by simp;omega) fun h' eb=>⟨rfl,I.turned (t':=s.toks) (fun b o hb e=>eb b o hb e) f0 f1 f3 f4 f5⟩
 self:=fun _ _ _ _ _ st h=>by
  obtain ⟨⟨old,he⟩,_⟩:=st;exact wpAny_pyIter_enum he h
def De (K:LN) (vs:List V) (H:Hp) (R:It->Hp->Prop):Prop:=∃ a xs,vs=[.ref a]/\SqL K H a xs/\R (Ite K a) H
def DV (K:LN) (ta:TA):TI:=fun σ H R=>ta σ H fun vs H1=>De K vs H1 R
theorem GS {X:Cx} (K:LN) (hK:X.K=K) {tgs:List Expr} {kk:Nat} {tpos:Pos} {a:Expr} {ta:TA} {p pos:Pos} (hg:Gl X "enumerate") (hm:X.mg "enumerate" = none) (ha:PA X [a] ta) (hs:MU [a] X.env=[(false,eval a X.env)]:=by rfl) :
  PI X (.Tuple tgs kk tpos) (.Call (.Name "enumerate" p) [a] [] pos) (DV K ta):=by
 subst hK;intro pins s σ H R I h;refine Call_ (oz I hg hm boot_enumerate (NO (thn (ha pos pins s σ H _ I h) fun us s1 ⟨vs,H1,I1,r1,q1⟩=>?_) hs rfl));obtain ⟨l,xs,e,hS,q⟩:=q1;subst e;cases r1 with
 | cons r rr =>
  cases rr;cases (show _=MI l from r);obtain ⟨its,rv,pl,hz⟩:=I1.list hS;refine call_enumerate_list pl.isList fun h' he hit hsz hk=>?_;refine wpAny_pyIter_enum he ?_;have I2:Inv X pins σ H1 { s1 with heap:=h' }:=I1.kept (t':=s1.toks) hk;refine ⟨s1.heap.objs.size+1,[s1.heap.objs.size+1,s1.heap.objs.size],_,_,H1,rfl,I2,Ge l _ _ (Nat.succ_ne_self _),⟨⟨.none,he⟩,hit⟩,fun b hb=>?_,q⟩;rcases Mv.mp hb with z|hb
  ·rw [z];exact I1.xI (OF _) (I1.hok.fresh (OF _))
  ·rw [Ma.mp hb];exact I1.xI (Mh _) (I1.hok.fresh (Mh _))
def Co:V->List V->Hp->VK->Prop:=fun x vs H Q=>∃ (l:Addr) (xs:List V) (k:Int) (y:V),x=.ref l/\vs=[.int k,y]/\H l=some (.lst xs)/\0<=k/\k.toNat<=xs.length/\xs.length<1000000/\Q .non (upd H l (.lst (xs.take k.toNat++y :: xs.drop k.toNat)))
theorem Dr (its:List Value) (u2:Value) (k:Int) (h0:0<=k) (hi:k.toNat<=its.length) :
  (fun xs:Array Value=>(xs.extract 0 (if k<0 then (k+(xs.size:Int)).toNat else min k.toNat xs.size)).push u2++xs.extract (if k<0 then (k+(xs.size:Int)).toNat else min k.toNat xs.size)) its.toArray=(its.take k.toNat++u2 :: its.drop k.toNat).toArray:=by
 have h1:¬ (k<0):=by omega
 have hm:min k.toNat its.toArray.size=k.toNat:=by rw [Mw];omega
 dsimp only;rw [if_neg h1,hm];simp;exact MC (by simp)
theorem FN {X:Cx}:MtM X "list.insert" Co:=by
 intro pins s σ H x vs v us Q I rx rv h;obtain ⟨l,xs,k,y,rfl,rfl,hH,h0,hi,hl,q⟩:=h;cases rx;obtain ⟨u1,u2,rfl,r1,r2⟩:=rv.two;obtain ⟨t,rfl⟩:=(show ∃ t,u1=Oe k t from r1);obtain ⟨z,its,n,r,hl',e⟩:=I.tN hH;have hz2:its.toArray.size<=MF:=by
  have e1:its.toArray.size=its.length:=Mw ..;omega
 have hfit:¬ (!Builtin.List.listFitsIndex k)=true:=by
  unfold Builtin.List.listFitsIndex;simp;omega
 have M3:=AutoSeq1.list_insert_list_int_val_1 l its.toArray n k t u2 hfit hz2;refine P9 F.slot_list_insert ⟨_,e,rfl⟩ F.entry_list_insert (F.args_list_insert_3 _ _ _) M3 ⟨e,?_⟩;have hv:Vals (xs.take k.toNat++y :: xs.drop k.toNat) (its.take k.toNat++u2 :: its.drop k.toNat):=(Vals.take k.toNat r).append (.cons r2 (Vals.drop k.toNat r));refine ⟨.non,_,I.GY (its':=its.take k.toNat++u2 :: its.drop k.toNat) hH e (Dr its u2 k h0 (by omega)) hv ?_,rfl,q⟩
 rw [Mm,MQ,Mu,P1,Nx];omega
def Gm:List V->Hp->VK->Prop:=fun xs H Q=>∃ j:Int,xs=[.int j]/\∀ p,H p=none->Q (.ref p) (upd H p (.rng 0 j))
theorem ph {X:Cx}:da X (.type "range") Gm:=by
 intro pins s σ H xs us Q I r h;obtain ⟨j,rfl,q⟩:=h;obtain ⟨u,rfl,ru⟩:=vals1 r;obtain ⟨t,rfl⟩:=(show ∃ t,u=Oe j t from ru);refine call_range_1 ?_;refine ⟨.ref s.heap.objs.size,_,I.laid (fun b u e=>L7 _ e) (Mh _) ?_,rfl,q _ (I.hok.fresh (Mh _))⟩;exact ⟨_,_,_,Mz _ rfl⟩
def wJ:List V->Hp->VK->Prop:=fun xs H Q=>∃ (p:Addr) (n:Nat),xs=[.ref p]/\H p=some (.rng 0 (n:Int))/\n<=1000000/\∀ l,H l=none->Q (.ref l) (upd H l (.lst ((LZ n).map fun (i:Nat)=>V.int (i:Int))))
theorem uE:∀ {xs:List V} {us:List Value},xs.length=us.length->(∀ (i:Nat) (x:V) (u:Value),xs[i]?=some x->us[i]?=some u->RelV x u)->Vals xs us
 | [],[],_,_=>.nil
 | [],_ :: _,h,_=>by cases h
 | _ :: _,[],h,_=>by cases h
 | x :: xs,u :: us,h,g=>.cons (g 0 x u rfl rfl) (uE (by simpa using h) fun i y v hy hv=>g (i+1) y v (by simpa using hy) (by simpa using hv))
theorem EB {n:Nat} (h:n<=1000000):n<=MF:=by rw [Nx];omega
theorem mJ {X:Cx} (hc:X.calm=true):da X (.type "list") wJ:=by
 intro pins s σ H xs us Q I r h;obtain ⟨p,n,rfl,hp,hn,q⟩:=h;obtain ⟨u,rfl,ru⟩:=vals1 r;cases (show u=MI p from ru);obtain ⟨t1,t2,t3,hr⟩:=(show cA X.prog X.w H s.heap p (.rng 0 (n:Int)) from I.hok p _ hp);have hs:QT 0 (n:Int) 1=n:=by rw [rangeSize_one];split <;> omega
 refine call_list_range (n:=n) (I.ok.hd hc) hr (small_one (by omega) (by omega) (by omega) (by omega)) (by exact_mod_cast hs) (by omega) fun h' tk acc c' hk hS hacc=>?_
 refine ⟨.ref s.heap.objs.size,_,I.laid hk (Mh _) ?_,rfl,q _ (I.hok.fresh (Mh _))⟩;obtain ⟨ha1,ha2⟩:=hacc;have hl:((LZ n).map fun (i:Nat)=>V.int (i:Int)).length=acc.toList.length:=by simp;exact ha1.symm
 refine ⟨by simp;exact EB hn,acc.toList,c',uE hl fun i x u hx hu=>?_,by simpa using hS⟩
 have hi:i<n:=by
  have:=(LR.mp hx).1
  simpa using this
 obtain ⟨t,e⟩:=ha2 i u (by simpa using hu)
 have ex:x=V.int (i:Int):=by
  rw [Mc,NG hi] at hx;exact (MK hx).symm
 rw [ex];exact ⟨t,by simpa using e⟩
section
variable {σ:St} {H:Hp} {Q:VK} {D:Ends} {K:LN} {t:TS} {ta tb:TE} {g:TG} {v w x y:V} {tA:TA} {a:Int}
theorem xu {n:Int} (q:∀ p,H p=none->Q (.ref p) (upd H p (.rng 0 n))):Gm [.int n] H Q:=⟨n,rfl,q⟩
theorem tW {l:List Nat}:Nv (Rep.is K H) (l.map fun (n:Nat)=>V.int (n:Int)) l:=by
 have q:=Paired.of_map (F:=fun (v:V) (a:Nat)=>v=.int (a:Int)) (f:=fun (n:Nat)=>V.int (n:Int)) (g:=id) (fun _=>rfl) l;rw [Qd] at q;exact q
theorem pd {p:Addr} {n:Nat} (hp:H p=some (.rng 0 (n:Int))) (hn:n<=1000000) (q:∀ l H',H l=none->ai H H'->Gr K H' l (LZ n)->Q (.ref l) H'):wJ [.ref p] H Q :=
 ⟨p,n,rfl,hp,hn,fun l hl=>q l _ hl (aG hl _) ⟨_,ar,tW⟩⟩
theorem vp {to ti:TE} {ts:Dh} {QS:St->Hp->Prop} (h:to σ H fun o H1=>ti σ H1 fun i H2=>ts o i v H2 fun H3=>QS σ H3):Kt to ti ts v σ H QS:=h
theorem EN {p:Addr} {xs:List V} {j:Nat} {QH:Hp->Prop} (hp:H p=some (.lst xs)) (e:a=(j:Int)) (hj:j<xs.length) (q:QH (upd H p (.lst (xs.set j v)))):Iz (.ref p) (.int a) v H QH:=by
 subst e;refine ⟨p,xs,_,j,rfl,rfl,hp,?_,q⟩;unfold ixN;rw [if_pos (by omega),if_pos (by omega)]
 rfl
def isP (vs:List V) (H:Hp) (k:V->V->Hp->Prop):Prop:=∃ v w,vs=[v,w]/\k v w H
theorem zG {i j:Nat} (h:tA σ H fun vs H1=>isP vs H1 fun v w H1=>D.nx ((σ.set i (some v)).set j (some w)) H1):J2 i j tA D σ H:=h
theorem wG {k:V->V->Hp->Prop} (h:k x y H):isP [x,y] H k:=⟨x,y,rfl,h⟩
theorem tY {R:It->Hp->Prop} (h:tA σ H fun vs H1=>De K vs H1 R):DV K tA σ H R:=h
theorem um {α:Type} [Rep α] {l:List α} {ia ib:Nat} {H₀:Hp} (h:At K H₀ v l) (Pv:Nat->St->Hp->Prop) (h0:Pv 0 σ H) (hl:∀ i σ' H',Pv i σ' H'->ai H₀ H')
  (hs:∀ i c w σ' H' H'' p,l[i]?=some c->At K H₀ w c->Pv i σ' H'->H' p=none->H''=upd H' p (.tup [.int (i:Int),w])->ai H' H''->t { D with nx:=Pv (i+1),ct:=Pv (i+1),bk:=D.nx } ((σ'.set ia (some (.int (i:Int)))).set ib (some w)) H'')
  (hd:∀ σ' H',Pv l.length σ' H'->D.nx σ' H'):De K [v] H (qW (xR K 2 (lU (ig ia) (lU (ig ib) xm))) t D σ):=by
 obtain ⟨p,xs,rfl,hS,hP⟩:=h;have hlen:=hP.length;refine ⟨p,xs,rfl,(hl 0 σ H h0).seq hS,fun i m σ' H'=>m=xs.length - i/\i<=xs.length/\Pv i σ' H',⟨xs.length,by simp,M7 _,h0⟩,?_⟩
 rintro i m σ' H' ⟨rfl,hi,p0⟩;have q:=(hl i σ' H' p0).seq hS
 by_cases hlt:i<xs.length
 ·refine .inr ⟨⟨xs,xs[i],q,by simp [hlt]⟩,Pv (i+1),fun σ2 H2 p'=>⟨xs.length - (i+1),by omega,rfl,hlt,p'⟩,fun z H2 yl=>?_⟩
  obtain ⟨d,w,rfl,hd',rfl,hw⟩:=yl;have hx:=hw xs q;obtain ⟨c,hc,r⟩:=Paired.getL hP hx;refine ⟨d,[.int (i:Int),w],rfl,SqT.of ar,rfl,⟨_,_,rfl,⟨_,_,rfl,⟨rfl,?_⟩⟩⟩⟩;exact hs i c w σ' H' _ d hc r p0 hd' rfl (aG hd' _)
 ·have e:i=xs.length:=by omega
  subst e;exact .inl ⟨⟨xs,q,Mh _⟩,hd σ' H' (by rw [hlen] at p0;exact p0)⟩
end
def bb (r:List Nat):List V:=r.map fun (n:Nat)=>V.int (n:Int)
structure Tbl (H:Hp) (d:Addr) (rows:List (List Nat)) (ps:List Addr):Prop where
 top:H d=some (.lst (ps.map V.ref))
 nd:ps.Nodup
 ap:d∉ps
 len:ps.length=rows.length
 row:∀ (i:Nat) (p:Addr) (r:List Nat),ps[i]?=some p->rows[i]?=some r->H p=some (.lst (bb r))
section
variable {H H':Hp} {d:Addr} {rows:List (List Nat)} {ps:List Addr} {K:LN}
theorem Tbl.mono (s:ai H H') (h:Tbl H d rows ps):Tbl H' d rows ps:=⟨s _ _ h.top,h.nd,h.ap,h.len,fun i p r e1 e2=>s _ _ (h.row i p r e1 e2)⟩
theorem sf {α β:Type} {F:α->β->Prop}:∀ {xs:List α} {ys:List β},xs.length=ys.length->(∀ (i:Nat) (x:α) (y:β),xs[i]?=some x->ys[i]?=some y->F x y)->Nv F xs ys
 | [],[],_,_=>.nil
 | [],_ :: _,h,_=>by cases h
 | _ :: _,[],h,_=>by cases h
 | x :: xs,y :: ys,h,g=>.cons (g 0 x y rfl rfl) (sf (by simpa using h) fun i u v hu hv=>g (i+1) u v (by simpa using hu) (by simpa using hv))
theorem Tbl.at (h:Tbl H d rows ps):At K H (.ref d) rows:=by
 refine ⟨d,_,rfl,SqL.of h.top,sf (by rw [LP,h.len]) fun i x r hx hr=>?_⟩
 rw [Mc] at hx;cases e:ps[i]? with
 | none=>rw [e] at hx;cases hx
 | some p =>
  rw [e] at hx;have hx':x=V.ref p:=(MK hx).symm;rw [hx'];exact ⟨p,_,rfl,SqL.of (h.row i p r e hr),tW⟩
theorem Tbl.get (h:Tbl H d rows ps) {i:Nat} {r:List Nat} (e:rows[i]?=some r):∃ p,ps[i]?=some p/\H p=some (.lst (bb r)):=by
 have hi:i<ps.length:=by rw [h.len];exact (LR.mp e).1
 exact ⟨ps[i],by simp [hi],h.row i _ r (by simp [hi]) e⟩
theorem Tbl.set (h:Tbl H d rows ps) {i j n:Nat} {p:Addr} {r:List Nat} (e:rows[i]?=some r) (hp:ps[i]?=some p):Tbl (upd H p (.lst ((bb r).set j (.int (n:Int))))) d (rows.set i (r.set j n)) ps:=by
 have hi:i<ps.length:=(LR.mp hp).1;have mem:p∈ps:=LS hp;refine ⟨by rw [au (fun z=>h.ap (by rw [z];exact mem))];exact h.top,h.nd,h.ap,by rw [Qc];exact h.len,fun k q r' hq hr=>?_⟩
 by_cases hk:k=i
 ·subst hk;rw [hp] at hq;cases hq;rw [Nz (by rw [<- h.len];exact hi)] at hr
  cases hr;rw [ar];unfold bb;rw [List.map_set]
 ·rw [NT (NY hk)] at hr;have hne:q≠p:=fun z=>hk (by
   subst z;have h1:=(LR.mp hq);have h2:=(LR.mp hp);exact (P0 h.nd).mp (h1.2.trans h2.2.symm))
  rw [au hne];exact h.row k q r' hq hr
end
theorem ni {K:LN} {H:Hp} {v:V} {Q:VK} {σ:St} {rows:List (List Nat)} {x:Str} (h:At K H v rows) (hz:rows.length<=100000) (fin:∀ d H' ps,ai H H'->H d=none->(∀ p∈ps,H p=none)->Tbl H' d rows ps->Q (.ref d) H') :
  mH K v H (fL [x] [] (ig 0) DK (tCB (Du K) (qX (DY 0) xU)) σ Q):=by
 obtain ⟨p,xs,rfl,hS,hP⟩:=h;have hl:=hP.length;refine ⟨p,rfl,⟨xs,hS⟩,fun d hd=>?_⟩;refine ⟨fun i m σ' H'=>m=xs.length - i/\i<=xs.length/\(∃ y,σ'=[y])/\ai H H'/\∃ ps,(∀ p∈ps,H p=none)/\Tbl H' d (rows.take i) ps,⟨xs.length,rfl,M7 _,⟨_,rfl⟩,aG hd _,[],by simp,⟨ar,Qs,by simp,by simp,fun i p r e _=>by simp at e⟩⟩,?_⟩
 rintro i m σ' H' ⟨rfl,hi,⟨y,rfl⟩,hs,ps,hps,T⟩
 by_cases hlt:i<xs.length
 ·refine .inr ⟨⟨xs,xs[i],hs.seq hS,by simp [hlt]⟩,fun z H2 yl=>?_⟩
  obtain ⟨rfl,hz'⟩:=yl;have hx:=hz' xs (hs.seq hS);obtain ⟨c,hc,r⟩:=Paired.getL hP hx;obtain ⟨q,e,hq⟩:=mF (Rep.mono hs r);subst e;have tl:=T.len;have hci:i<rows.length:=(LR.mp hc).1;rw [Mu,Qe (by omega)] at tl
  refine sN ?_;refine wu ?_;refine rk ?_;refine ⟨_,rfl,q,_,rfl,.inl hq,fun l hl'=>?_⟩;have nld:l≠d:=fun e=>by rw [e,T.top] at hl';cases hl'
  have hHl:H l=none:=hs.free hl';refine ⟨_,(by rw [au nld.symm];exact T.top),?_,xs.length - (i+1),by omega,rfl,hlt,⟨_,rfl⟩,fun b o eb=>?_,ps++[l],fun p' hp'=>?_,?_⟩
  ·rw [LP,tl,Nx];omega
  ·rw [au (aH eb hd),au (aH eb hHl)];exact hs b o eb
  ·rcases MD.mp hp' with z|z
   ·exact hps p' z
   ·rw [Ma.mp z];exact hHl
  ·have nlp:l∉ps:=fun z=>by
    obtain ⟨k,hk⟩:=Ny z;have hk':k<i:=by have:=(LR.mp hk).1;omega
    have hr:(rows.take i)[k]?=some (rows[k]'(by omega)):=by rw [NK hk'];simp
    have z1:=T.row k l _ hk hr;rw [z1] at hl';cases hl'
   refine ⟨by rw [ar,MM];rfl,?_,?_,?_,fun k p' r' hk hr=>?_⟩
   ·rw [PF];exact ⟨T.nd,by simp,fun a ha b hb=>by rw [Ma.mp hb];exact fun z=>nlp (z ▸ ha)⟩
   ·intro z;rcases MD.mp z with z|z
    ·exact T.ap z
    ·exact nld (Ma.mp z).symm
   ·rw [Mm,Mu,Qe (by omega)];simp;omega
   ·have nd':p'≠d:=fun z=>by
     rw [z] at hk;rcases MD.mp (LS hk) with z' | z'
     ·exact T.ap z'
     ·exact nld (Ma.mp z').symm
    rw [au nd']
    by_cases hki:k<i
    ·rw [MB (by omega)] at hk
     have hr2:(rows.take i)[k]?=some r':=by
      rw [NK (by omega)] at hr ⊢;exact hr
     have np:p'≠l:=fun z=>nlp (by rw [<- z];exact LS hk)
     rw [au np];exact T.row k p' r' hk hr2
    ·have hk2:k<i+1:=by
      have:=(LR.mp hr).1;rw [Mu] at this;omega
     have ek:k=i:=by omega
     subst ek;rw [MA (by omega),tl,Sy] at hk
     have e1:l=p':=by simpa using hk
     subst e1;rw [NK (by omega),hc] at hr
     cases hr;rw [ar];unfold bb;rfl
 ·have e:i=xs.length:=by omega
  subst e;refine .inl ⟨⟨xs,hs.seq hS,Mh _⟩,?_⟩;rw [hl,Nh] at T;exact fin d H' ps hs hd hps T
def Wr (K:LN) {α:Type} [Rep α] (t:TE) (a:α):Prop:=∀ σ H Q,(∀ v H',ai H H'->At K H' v a->Q v H')->t σ H Q
def WrA (K:LN) {α:Type} [Rep α] (t:TA) (l:List α):Prop:=∀ σ H Q,(∀ vs H',ai H H'->Nv (Rep.is K H') vs l->Q vs H')->t σ H Q
section
variable {K:LN} {α:Type} [Rep α] {t:TE} {tA:TA} {a:α} {l:List α}
theorem FA {n:Nat} {i:Int} (e:i=(n:Int)):Wr K (tC (.int i)) n:=fun _ H _ q=>q _ H (ai.refl _) (by rw [e];rfl)
theorem mW:WrA K xU ([]:List α):=fun _ H _ q=>q [] H (ai.refl _) .nil
theorem ya (h:Wr K t a) (hr:WrA K tA l):WrA K (qX t tA) (a :: l):=fun σ H Q q=>h σ H _ fun v H1 s1 a1=>hr σ H1 _ fun vs H2 s2 a2=>q _ H2 (s1.trans s2) (.cons (Rep.mono s2 a1) a2)
theorem Gj (h:WrA K tA l) (hz:l.length<=1000):Wr K (AF tA) l:=fun σ H Q q=>h σ H _ fun vs H1 s1 a1=>⟨by have:=a1.length;exact small (by omega),fun p hp=>q _ _ (s1.trans (aG hp _)) ⟨p,vs,rfl,SqL.of ar,Paired.eT a1 fun _ _ z=>Rep.mono (aG hp _) z⟩⟩
end
theorem Lm {K:LN} {α:Type} [Rep α] {H:Hp} {x y:V} {l r:List α} {Q:VK} (hx:∃ p xs,x=.ref p/\H p=some (.lst xs)/\Nv (Rep.is K H) xs l) (hy:∃ p xs,y=.ref p/\H p=some (.lst xs)/\Nv (Rep.is K H) xs r) (hz:l.length+r.length<=100000)
  (q:∀ d H',H d=none->ai H H'->At K H' (.ref d) (l++r)->Q (.ref d) H'):KA x y H Q:=by
 obtain ⟨p,xs,rfl,h1,r1⟩:=hx;obtain ⟨p',ys,rfl,h2,r2⟩:=hy;have e1:=r1.length;have e2:=r2.length;refine ⟨p,p',xs,ys,rfl,rfl,h1,h2,by rw [Nx];omega,fun d hd=>q d _ hd (aG hd _) ⟨d,_,rfl,SqL.of ar,Paired.app (Paired.eT r1 fun _ _ z=>Rep.mono (aG hd _) z) (Paired.eT r2 fun _ _ z=>Rep.mono (aG hd _) z)⟩⟩
def isStar:Expr->Bool
 | .Starred ..=>true
 | _=>false
theorem bP {e:Expr} {es:List Expr} {env:Env} (h:isStar e=false):MU (e :: es) env=(false,eval e env) :: MU es env:=by
 cases e <;> first|rfl|cases h
theorem cU {env:Env} {pos:Pos}:∀ {es:List Expr},es.all (fun e=>!isStar e)=true->(backTo pos (MU es env)).any (·.1)=false
 | [],_=>rfl
 | e :: es,h=>by
  rw [QW,Oc] at h;rw [bP (by simpa using h.1)]
  have ih:=cU (env:=env) (pos:=pos) h.2;show (backTo pos ((false,eval e env) :: MU es env)).any (·.1)=false;unfold backTo at ih ⊢
  simpa using ih
theorem Hd {env:Env} {pos:Pos} {es:List Expr} (h:es.all (fun e=>!isStar e)=true) (hl:es.length<30):((backTo pos (MU es env)).all (fun x=>!x.1) && (backToKw pos (keywordEach [] env)).all (fun x=>x.1.isSome)
   && decide (es.length+([]:List Rw).length+(if ([]:List Rw).isEmpty then 0 else 1)<30))=true:=by
 have h1:=cU (env:=env) (pos:=pos) h;have h2:(backTo pos (MU es env)).all (fun x=>!x.1)=true:=by
  rw [Py] at h1;rw [Mx];intro x hx;have:=h1 x hx
  simpa using this
 rw [h2];show (true && true && decide (es.length+0+0<30))=true
 simpa using hl
section
variable {X:Cx} {e o:Expr} {es:List Expr} {te:TE} {t:TA} {x:Str} {st:Stmt} {ps:List Str} {k:Nat} {sp:Sp} {p pos:Pos}
theorem paF (ha:PE X e te) (hr:PA X es t) (hn:isStar e=false:=by rfl):PA X (e :: es) (qX te t):=w5 ha hr (bP hn)
theorem aA (d:Df X.K X.mg x st ps) (G:aI X.prog X.w X.K X.mg X.base CX0 k d.f d.fd ps sp) (hr:cg k X.A) (hg:Gl X x) (ha:PA X (e :: es) t) (hn:isStar e=false:=by rfl) (hall:es.all (fun e=>!isStar e)=true:=by rfl) (hdb:(x == ("__debug__" : Str))=false:=by decide) :
  PE X (.Call (.Name x p) (e :: es) [] pos) (qz sp [] E0 t):=Lr d G hr hg ha hdb (bP hn) (cU hall)
theorem av {id:String} {r:List V->Hp->VK->Prop} (hc:da X (.builtin id) r) (hg:Gl X x) (hm:X.mg x=none) (hv:bootBuiltins x=some (.builtin id)) (ha:PA X (e :: es) t) (hn':isStar e=false:=by rfl) (hall:es.all (fun e=>!isStar e)=true:=by rfl) (hn:x ≠ "__name__":=by decide) (hdb:(x == ("__debug__" : Str))=false:=by decide) :
  PE X (.Call (.Name x p) (e :: es) [] pos) (tCB r t):=GR hc hg hm hv ha hn hdb (bP hn') (cU hall)
theorem cp {T:String} {r:List V->Hp->VK->Prop} (hc:da X (.type T) r) (hg:Gl X x) (hm:X.mg x=none) (hv:bootBuiltins x=some (.type T)) (ha:PA X (e :: es) t) (hn':isStar e=false:=by rfl) (hall:es.all (fun e=>!isStar e)=true:=by rfl) (hn:x ≠ "__name__":=by decide) (hdb:(x == ("__debug__" : Str))=false:=by decide) :
  PE X (.Call (.Name x p) (e :: es) [] pos) (tCB r t):=EE hc hg hm hv ha hn hdb (bP hn') (cU hall)
theorem fG (K:LN) (hK:X.K=K) {T id:String} {name:Str} {r:V->List V->Hp->VK->Prop} {to:TE} {apos cpos:Pos} (pa:PlainAttrs T) (slot:Slot T name id) (hty:typeOf (.builtin id)=pure (.type "method_descriptor")) (hm:MtR X id r) (ho:PE X o to) (ha:PA X (e :: es) t)
  (hbase:attributeBase o name X.env (eval o X.env)=eval o X.env:=by rfl) (hn:isStar e=false:=by rfl) (hall:es.all (fun e=>!isStar e)=true:=by rfl) (hl:(e :: es).length<30:=by decide) (hline:(apos.endLine == cpos.line)=true:=by rfl) :
  PE X (.Call (.Attribute o name apos) (e :: es) [] cpos) (tBM K T r to t) :=
 Ke K hK pa slot hty hm ho ha hbase (Hd (by rw [QW,hn,hall];rfl) hl) hline (bP hn) (cU hall)
theorem aY {tg a:Expr} {ta:TA} (hg:Gl X "range") (hm:X.mg "range" = none) (ha:PA X [a] ta) (hn:isStar a=false:=by rfl):PI X tg (.Call (.Name "range" p) [a] [] pos) (Dy ta):=FE hg hm ha (bP hn)
theorem ot (K:LN) (hK:X.K=K) {tgs:List Expr} {kk:Nat} {tpos:Pos} {a:Expr} {ta:TA} (hg:Gl X "enumerate") (hm:X.mg "enumerate" = none) (ha:PA X [a] ta) (hn:isStar a=false:=by rfl) :
  PI X (.Tuple tgs kk tpos) (.Call (.Name "enumerate" p) [a] [] pos) (DV K ta):=GS K hK hg hm ha (bP hn)
end
section
variable {X:Cx} {CX:CXT} {k:Nat} {f C:Addr} {fd:MZ} {ps:List Str} {sp:Sp} {dvs:List V} {ds:List Value} {E:XK} {x:Str} {p pos:Pos} {e:Expr} {es:List Expr} {t:TA}
theorem rM (M:Mk X.K C f) (F:aI X.prog X.w X.K X.mg X.base CX k f fd ps sp) (hr:cg (k+1) X.A) (hg:Gl X x) (hm:X.mg x=some (.ref C)) (hb:Binds X.K fd ps ds) (hd:Vals dvs ds) (hx:Passes CX X E)
  (ha:PA X (e :: es) t) (hn:isStar e=false:=by rfl) (hall:es.all (fun e=>!isStar e)=true:=by rfl) (hdb:(x == ("__debug__" : Str))=false:=by decide):PE X (.Call (.Name x p) (e :: es) [] pos) (C8 C sp dvs E t) :=
 JH M F hr hg hm hb hd hx ha hdb (bP hn) (cU hall)
end
section
variable {σ:St} {H H':Hp} {Q:VK} {K:LN} {a b:Nat}
theorem Lz {n:Nat} (h:Q (.int ((@OfNat.ofNat Nat n (instOfNatNat n):Nat):Int)) H):tC (.int (@OfNat.ofNat Int n instOfNat)) σ H Q:=h
theorem Kh (q:Q (.int ((a+b:Nat):Int)) H):rI0 (fun i j=>.int (i+j)) (.int (a:Int)) (.int (b:Int)) H Q:=⟨a,b,rfl,rfl,by
 have e:(a:Int)+(b:Int)=((a+b:Nat):Int):=by omega
 dsimp only;rw [e];exact q⟩
theorem KC (h:a<18446744073709551616\/b<18446744073709551616) (q:Q (.int ((a * b:Nat):Int)) H):rI Dc (fun i j=>.int (i * j)) (.int (a:Int)) (.int (b:Int)) H Q:=⟨a,b,rfl,rfl,by
 rcases h with h|h
 ·exact .inl ⟨by omega,by omega⟩
 ·exact .inr ⟨by omega,by omega⟩,by
 have e:(a:Int) * (b:Int)=((a * b:Nat):Int):=by push_cast;rfl
 dsimp only;rw [e];exact q⟩
theorem Al (h:0<b) (q:Q (.int ((a % b:Nat):Int)) H):rI (fun _ j=>0<j) (fun i j=>.int (i % j)) (.int (a:Int)) (.int (b:Int)) H Q:=⟨a,b,rfl,rfl,by omega,by
 have e:(a:Int) % (b:Int)=((a % b:Nat):Int):=by push_cast;rfl
 dsimp only;rw [e];exact q⟩
theorem qm (h:0<b) (h2:b<1073741824) (q:Q (.int ((a / b:Nat):Int)) H):rI Kl (fun i j=>.int (i / j)) (.int (a:Int)) (.int (b:Int)) H Q:=⟨a,b,rfl,rfl,⟨by omega,by omega⟩,by
 have e:(a:Int) / (b:Int)=((a / b:Nat):Int):=by push_cast;rfl
 dsimp only;rw [e];exact q⟩
theorem nJ {p q:Prop} [Decidable p] [Decidable q] (h:p↔q) {R:Bool->Prop} (z:R (decide q)):R (decide p):=by
 rw [decide_eq_decide.mpr h];exact z
theorem La (q:Q (.bl (decide (a=b))) H):rEq (.int (a:Int)) (.int (b:Int)) H Q:=v7 (nJ (R:=fun k=>Q (.bl k) H) (by omega) q)
theorem Ln (q:Q (.bl (!decide (a=b))) H):rNe (.int (a:Int)) (.int (b:Int)) H Q:=vB (nJ (R:=fun k=>Q (.bl (!k)) H) (by omega) q)
theorem K4 (q:Q (.bl (decide (a<b))) H):rI0 (fun i j=>.bl (decide (i<j))) (.int (a:Int)) (.int (b:Int)) H Q:=⟨a,b,rfl,rfl,nJ (R:=fun k=>Q (.bl k) H) (by omega) q⟩
theorem Lo (q:Q (.bl (decide (b<a))) H):rI0 (fun i j=>.bl (decide (j<i))) (.int (a:Int)) (.int (b:Int)) H Q:=⟨a,b,rfl,rfl,nJ (R:=fun k=>Q (.bl k) H) (by omega) q⟩
theorem Ld (q:Q (.bl (decide (b<=a))) H):rI0 (fun i j=>.bl (decide (j<=i))) (.int (a:Int)) (.int (b:Int)) H Q:=⟨a,b,rfl,rfl,nJ (R:=fun k=>Q (.bl k) H) (by omega) q⟩
theorem bG {v:V} {l:List Nat} {n c:Nat} (h:At K H v l) (hn:l[n]?=some c) (q:Q (.int (c:Int)) H):qM K v (.int (n:Int)) H Q:=lJ h rfl hn q
end
section
variable {β:Type} [Rep β] {K:LN} {H H':Hp} {d:Addr} {l:List β} {y:V} {b:β} {Q:VK}
theorem G3 {k:Nat} (h:Gr K H d l) (hk:k<=l.length) (hl:l.length<=100000) (hy:At K (del H d) y b) (q:∀ H',Gr K H' d (l.take k++b :: l.drop k)->(∀ a o,a≠d->H a=some o->H' a=some o)->Q .non H'):Co (.ref d) [.int (k:Int),y] H Q:=by
 obtain ⟨ys,h1,h2⟩:=h;have e:=h2.length;refine ⟨d,ys,k,y,rfl,rfl,h1,by omega,by omega,by omega,?_⟩
 refine q _ ⟨_,ar,?_⟩ (fun a o ha z=>by rw [au ha];exact z)
 rw [NL];exact Paired.app (Paired.zA k (Paired.eT h2 fun _ _ z=>Rep.mono mf z)) (.cons (Rep.mono mf hy) (Paired.zt k (Paired.eT h2 fun _ _ z=>Rep.mono mf z)))
end
theorem K9 {H H':Hp} {d:Addr} (k:∀ a o,a≠d->H a=some o->H' a=some o):ai (del H d) (del H' d):=fun b o h=>by
 by_cases hb:b=d
 ·rw [hb] at h;have z:del H d d=none:=if_pos rfl;rw [z] at h;cases h
 ·rw [m3 hb] at h ⊢;exact k b o hb h
theorem rL {K:LN} {H:Hp} {p d:Addr} {l:List Nat} (h:Gr K H p l) (hne:p≠d):At K (del H d) (.ref p) l:=by
 obtain ⟨ys,hy,hP⟩:=h;refine ⟨p,ys,rfl,SqL.of (by rw [m3 hne];exact hy),?_⟩
 exact Paired.eT hP fun _ _ z=>z
theorem Lf {K:LN} {H:Hp} {d:Addr} {rows:List (List Nat)} {ps:List Addr} {i:Nat} {p:Addr} {Q:VK} (h:Tbl H d rows ps) (hp:ps[i]?=some p) (q:Q (.ref p) H):qM K (.ref d) (.int (i:Int)) H Q :=
 ⟨d,_,_,_,rfl,rfl,SqL.of h.top,kY (by rw [Mc,hp];rfl),q⟩
theorem Hv {α:Type} (l:List α):cut l (some 1) none=l.drop 1:=by
 unfold cut;have e:HT.sIx l.length 0 (some 1)=min 1 l.length:=HT.Jg l.length 0 1;rw [e,HT.HR];cases l with
 | nil=>rfl
 | cons x r =>
  have:min 1 (x :: r).length=1:=by simp
  rw [this];exact MC (by simp)
theorem Gr.copy {α:Type} [Rep α] {K:LN} {H:Hp} {d:Addr} {l:List α} (h:Gr K H d l):∃ p xs,V.ref d=.ref p/\H p=some (.lst xs)/\Nv (Rep.is K H) xs l:=by
 obtain ⟨ys,h1,h2⟩:=h;exact ⟨d,ys,rfl,h1,Paired.eT h2 fun _ _ z=>Rep.mono pL z⟩
theorem gC {K:LN} {α:Type} [Rep α] {tA:TA} {l:List α} (h:WrA K tA l) (hz:l.length<=1000) {σ:St} {H:Hp} {Q:VK} (q:∀ d H',H d=none->ai H H'->Gr K H' d l->Q (.ref d) H'):AF tA σ H Q :=
 h σ H _ fun vs H1 s1 a1=>⟨by have:=a1.length;exact small (by omega),fun p hp=>q p _ (s1.free hp) (s1.trans (aG hp _)) ⟨vs,ar,Paired.eT a1 fun _ _ z=>Rep.mono (fun b o e=>by
  have hb:b≠p:=aH e hp;rw [m3 hb,au hb];exact e) z⟩⟩
def since (H H':Hp):Hp:=fun a=>match H a with
 | none=>H' a
 | some _=>none
section
variable {H H' H'':Hp} {a d:Addr} {rows:List (List Nat)} {ps:List Addr} {K:LN}
theorem mz (h:H a=none):since H H' a=H' a:=by unfold since;rw [h]
theorem my:ai (since H H') H':=fun b o h=>by
 unfold since at h
 split at h
 ·exact h
 ·cases h
theorem Tbl.since (h:Tbl H' d rows ps) (fd:H d=none) (fps:∀ p∈ps,H p=none):Tbl (since H H') d rows ps :=
 ⟨by rw [mz fd];exact h.top,h.nd,h.ap,h.len,fun i p r e1 e2=>by rw [mz (fps p (LS e1))];exact h.row i p r e1 e2⟩
end
theorem Bu {K:LN} {H H₀:Hp} {σ:St} {g:TG} {t:TS} {D:Ends} {v:V} {α:Type} [Rep α] {l:List α} (h:At K H₀ v l) (Pv:Nat->St->Hp->Prop) (h0:Pv 0 σ H) (hl:∀ i σ' H',Pv i σ' H'->ai H₀ H')
  (hs:∀ i c w σ' H',l[i]?=some c->At K H₀ w c->Pv i σ' H'->g w σ' H' fun σ2 H2=>t { D with nx:=Pv (i+1),ct:=Pv (i+1),bk:=D.nx } σ2 H2) (hd:∀ σ' H',Pv l.length σ' H'->D.nx σ' H') :
  mH K v H (qW g t D σ):=by
 obtain ⟨p,xs,rfl,hS,hP⟩:=h;refine ⟨p,rfl,⟨xs,(hl 0 σ H h0).seq hS⟩,uW (K:=K) (a:=p) (xs:=xs) Pv h0 (fun i σ' H' _ q=>(hl i σ' H' q).seq hS) (fun i x σ' H' hx q=>?_) (fun σ' H' q=>?_)⟩
 ·obtain ⟨c,hc,r⟩:=Paired.getL hP hx;exact hs i c x σ' H' hc r q
 ·rw [hP.length] at q;exact hd σ' H' q
theorem nZ {c:TT} {t:TS} {D:Ends} {σ:St} {H:Hp} (W:Nat->St->Hp->Prop) (m:Nat) (h0:W m σ H)
  (hs:∀ m σ' H',W m σ' H'->c σ' H' fun b H1=>if b=true then ∃ N:St->Hp->Prop,(∀ σ2 H2,N σ2 H2->∃ m',m' < m/\W m' σ2 H2)/\t { D with nx:=N,ct:=N,bk:=D.nx } σ' H1 else D.nx σ' H1):Fp c t D σ H:=⟨W,⟨m,h0⟩,hs⟩
def Hw (K:LN):List V->Hp->VK->Prop:=fun xs H Q=>∃ (p:Addr) (bs:List Bool),xs=[.ref p]/\SqL K H p (bs.map V.bl)/\Q (.bl (bs.any id)) H
def G2 (K:LN):List V->Hp->VK->Prop:=fun xs H Q=>∃ (p:Addr) (bs:List Bool),xs=[.ref p]/\SqL K H p (bs.map V.bl)/\Q (.bl (bs.all id)) H
theorem sP:∀ {bs:List Bool} {its:List Value},Vals (bs.map V.bl) its->∀ (i:Nat) (v:Value),its[i]?=some v->∃ b,bs[i]?=some b/\v=.bool b
 | [],_,.nil,i,v,e=>by simp at e
 | b :: bs,_,.cons r t,0,v,e=>by
  simp at e;subst e;exact ⟨b,rfl,r⟩
 | b :: bs,_,.cons r t,i+1,v,e=>by
  obtain ⟨c,h1,h2⟩:=sP (bs:=bs) t i v (by simpa using e)
  exact ⟨c,by simpa using h1,h2⟩
theorem D2 (bs:List Bool):((LZ bs.length).any fun i=>(bs[i]?).getD false)=bs.any id:=by
 rw [NP,Rb,Rb];constructor
 ·rintro ⟨i,hi,e⟩;have hi':=L9.mp hi;simp only [LO hi',OI] at e;exact ⟨_,Ni hi',e⟩
 ·rintro ⟨b,hb,e⟩;obtain ⟨i,hi,rfl⟩:=Qf hb;exact ⟨i,L9.mpr hi,by simp only [LO hi,OI];exact e⟩
theorem Em (bs:List Bool):((LZ bs.length).all fun i=>(bs[i]?).getD true)=bs.all id:=by
 rw [NP,Mx,Mx];constructor
 ·intro h b hb;obtain ⟨i,hi,rfl⟩:=Qf hb;have:=h i (L9.mpr hi);simp only [LO hi,OI] at this;exact this
 ·intro h i hi;have hi':=L9.mp hi;simp only [LO hi',OI];exact h _ (Ni hi')
theorem FU {X:Cx} (hc:X.calm=true):da X (.builtin "any") (Hw X.K):=by
 intro pins s σ H xs us Q I r h;obtain ⟨p,bs,rfl,hS,q⟩:=h;obtain ⟨u,rfl,ru⟩:=vals1 r;cases (show u=MI p from ru);obtain ⟨its,rv,pl,hz⟩:=I.list hS;have hl:=pl.isList;have hlen:its.length=bs.length:=by have:=rv.length;simp at this;omega
 have hlt:p<s.heap.objs.size:=by obtain ⟨_,e,_⟩:=hl;exact Mf e
 refine call_any_walk (Px hl ?_);refine ⟨s.heap.objs.size,[s.heap.objs.size,p],[s.heap.objs.size],its.toArray.size,_,_,fun i=>(bs[i]?).getD false,rfl,Walks.list (A:=X.A.in1) (I.ok.hd hc) _ p (Mn hlt) its.toArray,
  ⟨⟨_,Mz _ rfl,rfl,rfl⟩,hl.push _⟩,fun i v s' Q' E' hP hQ=>?_,fun h' tk hk=>?_⟩
 ·obtain ⟨b,e,rfl⟩:=sP rv i v (by simpa using hP)
  simp only [e,OI] at hQ;exact Od hQ
 ·have e:((LZ its.toArray.size).any fun i=>(bs[i]?).getD false)=bs.any id:=by
   rw [Mw,hlen];exact D2 bs
  rw [e];exact ⟨.bl _,H,I.kept (t':=tk) (fun b x e=>hk b x (fun hm=>by rw [Ma.mp hm] at e;exact Nt _ (Mf e)) (L7 _ e)),rfl,q⟩
theorem FP {X:Cx} (hc:X.calm=true):da X (.builtin "all") (G2 X.K):=by
 intro pins s σ H xs us Q I r h;obtain ⟨p,bs,rfl,hS,q⟩:=h;obtain ⟨u,rfl,ru⟩:=vals1 r;cases (show u=MI p from ru);obtain ⟨its,rv,pl,hz⟩:=I.list hS;have hl:=pl.isList;have hlen:its.length=bs.length:=by have:=rv.length;simp at this;omega
 have hlt:p<s.heap.objs.size:=by obtain ⟨_,e,_⟩:=hl;exact Mf e
 refine call_all_walk (Px hl ?_);refine ⟨s.heap.objs.size,[s.heap.objs.size,p],[s.heap.objs.size],its.toArray.size,_,_,fun i=>(bs[i]?).getD true,rfl,Walks.list (A:=X.A.in1) (I.ok.hd hc) _ p (Mn hlt) its.toArray,
  ⟨⟨_,Mz _ rfl,rfl,rfl⟩,hl.push _⟩,fun i v s' Q' E' hP hQ=>?_,fun h' tk hk=>?_⟩
 ·obtain ⟨b,e,rfl⟩:=sP rv i v (by simpa using hP)
  simp only [e,OI] at hQ;exact Od hQ
 ·have e:((LZ its.toArray.size).all fun i=>(bs[i]?).getD true)=bs.all id:=by
   rw [Mw,hlen];exact Em bs
  rw [e];exact ⟨.bl _,H,I.kept (t':=tk) (fun b x e=>hk b x (fun hm=>by rw [Ma.mp hm] at e;exact Nt _ (Mf e)) (L7 _ e)),rfl,q⟩
theorem yf {X:Cx} (K:LN) (hK:X.K=K) (hc:X.calm=true):da X (.builtin "any") (Hw K):=by subst hK;exact FU hc
theorem kM {X:Cx} (K:LN) (hK:X.K=K) (hc:X.calm=true):da X (.builtin "all") (G2 K):=by subst hK;exact FP hc
section
variable {σ:St} {H H':Hp} {Q:VK} {K:LN} {v:V}
theorem Ae {bs:List Bool} (h:At K H v bs):∃ p,v=.ref p/\SqL K H p (bs.map V.bl):=by
 obtain ⟨p,xs,rfl,hS,hP⟩:=h;refine ⟨p,rfl,?_⟩;have e:xs=bs.map V.bl:=by
  clear hS
  induction hP with
  | nil=>rfl
  | cons r _ ih=>rw [MO,<- ih];exact congrArg (· :: _) r
 rw [<- e];exact hS
theorem HY {bs:List Bool} (h:At K H v bs) (q:Q (.bl (bs.any id)) H):Hw K [v] H Q:=by
 obtain ⟨p,rfl,hS⟩:=Ae h;exact ⟨p,bs,rfl,hS,q⟩
theorem pU {bs:List Bool} (h:At K H v bs) (q:Q (.bl (bs.all id)) H):G2 K [v] H Q:=by
 obtain ⟨p,rfl,hS⟩:=Ae h;exact ⟨p,bs,rfl,hS,q⟩
theorem LF {f:Int->V} {a:Int} (h:Q (f a) H):rU f (.int a) H Q:=⟨a,rfl,h⟩
end
theorem qR:∀ {ns:List Int} {its:List Value},Vals (ns.map V.int) its->QX its ns
 | [],_,.nil=>.nil
 | n :: ns,_,.cons r t=>by
  obtain ⟨tk,e⟩:=(show ∃ tk,_=Oe n tk from r);subst e;exact .cons n tk (qR t)
def FO:V->List V->Hp->VK->Prop:=fun x vs H Q=>∃ (l:Addr) (ns:List Int) (k:Int),x=.ref l/\vs=[.int k]/\H l=some (.lst (ns.map V.int))/\k∈ns/\Q (.int (ns.idxOf k:Nat)) H
theorem Bm {X:Cx}:MtM X "list.index" FO:=by
 intro pins s σ H x vs v us Q I rx rv h;obtain ⟨l,ns,k,rfl,rfl,hH,hk,q⟩:=h;cases rx;obtain ⟨u,rfl,ru⟩:=rv.one;obtain ⟨t,rfl⟩:=(show ∃ t,u=Oe k t from ru);obtain ⟨z,its,n,r,hl',e⟩:=I.tN hH;have hi:=qR r;have hlen:=hi.length;have hj:ns.idxOf k<ns.length:=QC.mpr hk;have hz:ns.length<=MF:=by simpa using z
 rw [Nx] at hz;refine P9 Pf ⟨_,e,rfl⟩ PySem.F.entry_list_index (PySem.F.args_list_index_2 _ _)
  (SeqAt.list_indexAt l its.toArray n none #[] (.int k t) (isInt k) (ns.idxOf k) (by simpa [hlen] using hj) (by omega) ?_ ?_) ⟨e,fun y hy=>(eq_isInt k t hi y (by simpa using hy)).at _ _,⟨.int _,H,I.tok _,⟨_,rfl⟩,q⟩⟩
 ·show isInt k its[ns.idxOf k]=true;rw [isInt_at k hi _ (by omega) hj]
  simpa using OM hj
 ·intro j hjs hlt;show isInt k its[j]=false;rw [isInt_at k hi j (by simpa using hjs) (by omega)]
  exact ne_of_lt_idxOf hlt _
theorem Cq {H:Hp} {Q:VK} {p:Addr} {r:List Nat} {k j:Nat} (h:H p=some (.lst (bb r))) (hk:r[j]?=some k) (hf:∀ i,i<j->r[i]?≠some k) (q:Q (.int (j:Int)) H):FO (.ref p) [.int (k:Int)] H Q:=by
 have hj:j<r.length:=(LR.mp hk).1;have e1:bb r=(r.map fun (n:Nat)=>(n:Int)).map V.int:=by
  unfold bb;rw [N7];rfl
 have e2:(r.map fun (n:Nat)=>(n:Int)).idxOf (k:Int)=j:=by
  have hm:(k:Int)∈r.map fun (n:Nat)=>(n:Int):=Mg.mpr ⟨k,LS hk,rfl⟩;have hlt:=QC.mpr hm;have hat:=OM hlt;rw [LP] at hlt;have hat':r[(r.map fun (n:Nat)=>(n:Int)).idxOf (k:Int)]?=some k:=by
   rw [LO hlt];rw [Rc] at hat;exact congrArg some (QY hat)
  rcases N2 ((r.map fun (n:Nat)=>(n:Int)).idxOf (k:Int)) j with z|z|z
  ·exact absurd hat' (hf _ z)
  ·exact z
  ·exfalso
   have:=ne_of_lt_idxOf z (by rw [LP];exact hj)
   rw [LO hj] at hk;have hk':=MK hk;simp [hk'] at this
 refine ⟨p,r.map fun (n:Nat)=>(n:Int),k,rfl,rfl,by rw [<- e1];exact h,Mg.mpr ⟨k,LS hk,rfl⟩,?_⟩
 rw [e2];exact q
theorem Jy {K:LN} {H:Hp} {σ:St} {Q:VK} {g:TG} {tt:TT} {ta:TE} {d:Addr} {rows:List (List Nat)} {ps:List Addr} {β:Type} [Rep β] {own:List Str} {fr:List Nat} (h:Tbl H d rows ps) (hz:rows.length<=100000) (acc:Nat->List β) (Sh:St->Prop) (ha0:acc 0=[]) (hal:∀ i,i<=rows.length->(acc i).length<=i) (h0:Sh (bW own fr σ))
  (turn:∀ i c p σ' H' (d:Addr) (R:St->V->Hp->Prop) (R0:St->Hp->Prop),rows[i]?=some c->ai H H'->H' p=some (.lst (bb c))->Sh σ' ->
   (∀ σ2 y b H5,Sh σ2->ai H' H5->At K (del H5 d) y b->acc (i+1)=acc i++[b]->R σ2 y H5)->(∀ σ2 H5,Sh σ2->ai H' H5->acc (i+1)=acc i->R0 σ2 H5)->(∃ ys,H' d=some (.lst ys)) ->
   g (.ref p) σ' H' fun σ2 H3=>tt σ2 H3 fun ok H4=>if ok=true then ta σ2 H4 (R σ2) else R0 σ2 H4)
  (fin:∀ d H',H d=none->ai H H'->(∃ ys,H' d=some (.lst ys)/\Nv (Rep.is K (del H' d)) ys (acc rows.length))->Q (.ref d) H') :
  mH K (.ref d) H (fL own fr g tt ta σ Q):=by
 have hl:(ps.map V.ref).length=rows.length:=by rw [LP,h.len]
 refine ⟨d,rfl,⟨_,SqL.of h.top⟩,xX (J:=Itl K d) (n:=rows.length) (fun i w H'=>∃ p c,w=.ref p/\rows[i]?=some c/\H' p=some (.lst (bb c))) acc Sh (fun i H' hi e=>⟨_,(ps.map V.ref)[i]'(by omega),e.seq (SqL.of h.top),LO (by omega)⟩) (fun H' e=>⟨_,e.seq (SqL.of h.top),Rv hl⟩)
  (fun i H' x H2 hi e hy=>?_) hz ha0 hal h0 (fun i w σ' H' d' R R0 hi e ⟨p,c,hw,hc,hp⟩=>by subst hw;exact turn i c p σ' H' d' R R0 hc e hp) fin⟩
 obtain ⟨e1,e2⟩:=hy;have z:=e2 _ (e.seq (SqL.of h.top));rw [Mc] at z;cases q:ps[i]? with
 | none=>rw [q] at z;cases z
 | some p =>
  rw [q] at z;refine ⟨e1,p,rows[i],(MK z).symm,LO hi,e _ _ (h.row i p _ q (LO hi))⟩
theorem Hf {α:Type} [Rep α] {K:LN} {H:Hp} {v:V} {Q:VK} {l:List α} {lo hi:Option Int} (h:At K H v l) (q:∀ p H',H p=none->ai H H'->Gr K H' p (cut l lo hi)->Q (.ref p) H'):C9 K v lo hi H Q:=by
 obtain ⟨p,xs,rfl,hS,hP⟩:=h;refine ⟨p,xs,rfl,hS,fun d hd=>q d _ hd (aG hd _) ⟨_,ar,?_⟩⟩;have e:=hP.length;have sm:ai H (del (upd H d (.lst (uP xs lo hi))) d):=fun b o z=>by
  have hb:b≠d:=aH z hd;rw [m3 hb,au hb];exact z
 unfold uP cut at *;rw [e] at sm ⊢;exact Paired.zA _ (Paired.zt _ (Paired.eT hP fun _ _ z=>Rep.mono sm z))
def DP:Expr->Option Int
 | .Constant (.int i) _ _=>some i
 | _=>none
def wH:List Expr->Option (List Int)
 | []=>some []
 | e :: es=>match DP e,wH es with
  | some i,some l=>some (i :: l)
  | _,_=>none
def KQ:Expr->Option (List Int)
 | .List es _=>wH es
 | _=>none
def zK:List Expr->Option (List (List Int))
 | []=>some []
 | e :: es=>match KQ e,zK es with
  | some i,some l=>some (i :: l)
  | _,_=>none
def t9:List Int->TA
 | []=>xU
 | i :: l=>qX (tC (.int i)) (t9 l)
def vm:List (List Int)->TA
 | []=>xU
 | r :: l=>qX (AF (t9 r)) (vm l)
theorem uZ {X:Cx}:∀ {es:List Expr} (ns:List Int),wH es=some ns->PA X es (t9 ns)
 | [],ns,h=>by cases h;exact aa
 | e :: es,ns,h=>by
  unfold wH at h
  split at h
  ·rename_i i l h1 h2
   cases h;cases e with
   | Constant c j pos =>
    cases c with
    | int k =>
     have hk:k=i:=by simpa [DP] using h1
     subst hk;exact w5 ag (uZ l h2) (bP rfl)
    | _=>simp [DP] at h1
   | _=>simp [DP] at h1
  ·cases h
theorem AK {X:Cx}:∀ {es:List Expr} (rs:List (List Int)),zK es=some rs->PA X es (vm rs)
 | [],rs,h=>by cases h;exact aa
 | e :: es,rs,h=>by
  unfold zK at h
  split at h
  ·rename_i i l h1 h2
   cases h;cases e with
   | List ls pos=>exact w5 (bT (uZ i h1)) (AK l h2) (bP rfl)
   | _=>simp [KQ] at h1
  ·cases h
@[irreducible] def AZ (es:List Expr) (ns:List Int):Bool:=decide (wH es=some ns)
@[irreducible] def Bd (es:List Expr) (rs:List (List Int)):Bool:=decide (zK es=some rs)
theorem JM {X:Cx} {es:List Expr} (ns:List Int) (h:AZ es ns=true):PA X es (t9 ns):=uZ ns (by unfold AZ at h;exact of_decide_eq_true h)
theorem Jc {X:Cx} {es:List Expr} (rs:List (List Int)) (h:Bd es rs=true):PA X es (vm rs):=AK rs (by unfold Bd at h;exact of_decide_eq_true h)
structure IsP (p:Prop):Prop where
 out:p
theorem u5 {X:Cx} {es:List Expr} (ns:List Int) (h:AZ es ns=true):IsP (PA X es (t9 ns)):=⟨JM ns h⟩
theorem Bs {X:Cx} {es:List Expr} (rs:List (List Int)) (h:Bd es rs=true):IsP (PA X es (vm rs)):=⟨Jc rs h⟩
section
variable {K:LN}
theorem pC:∀ (l:List Nat),WrA K (t9 (l.map fun (n:Nat)=>(n:Int))) l
 | []=>mW
 | n :: l=>ya (FA rfl) (pC l)
theorem xF:∀ (rs:List (List Nat)),(∀ r∈rs,r.length<=1000)->WrA K (vm (rs.map fun r=>r.map fun (n:Nat)=>(n:Int))) rs
 | [],_=>mW
 | r :: rs,h=>ya (Gj (pC r) (h r Mj)) (xF rs fun x hx=>h x (Me _ hx))
end
theorem tH:∀ {its:List Value} {ns:List Int},QX its ns->Vals (ns.map V.int) its
 | _,_,.nil=>.nil
 | _,_,.cons n t r=>.cons ⟨t,rfl⟩ (tH r)
def xE (K:LN):List V->Hp->VK->Prop:=fun xs H Q=>∃ (p:Addr) (ns:List Int),xs=[.ref p]/\SqL K H p (ns.map V.int)/\ns.length<64 /\
 ∀ (d:Addr) (ns':List Int),H d=none->ns'.Perm ns->ns'.Pairwise (·<=·)->Q (.ref d) (upd H d (.lst (ns'.map V.int)))
theorem AL {X:Cx}:da X (.builtin "sorted") (xE X.K):=by
 intro pins s σ H xs us Q I r h;obtain ⟨p,ns,rfl,hS,h64,q⟩:=h;obtain ⟨u,rfl,ru⟩:=vals1 r;cases (show u=MI p from ru);obtain ⟨its,rv,pl,hz⟩:=I.list hS;have hi:=qR rv;have hlen:=hi.length;refine sorted_ints pl.isList hi (by omega) fun out ns' a1 a2 a3=>?_
 obtain ⟨c,hc⟩:=sortedAll_at s.heap its out;have hn:H (s.heap.objs.size+1)=none:=I.hok.fresh (OF _);have hl':ns'.length=ns.length:=a2.length_eq;refine ⟨.ref (s.heap.objs.size+1),_,I.laid (o:=.lst (ns'.map V.int)) (fun b o e=>sortedAll_old e) (OF _) ⟨?_,out.toList,c,tH a1,?_⟩,rfl,q _ ns' hn a2 a3⟩
 ·rw [LP];exact small (by omega)
 ·simpa [seqObj] using hc
theorem sZ {X:Cx} (K:LN) (hK:X.K=K):da X (.builtin "sorted") (xE K):=by subst hK;exact AL
section
variable {σ:St} {H H':Hp} {Q:VK} {K:LN} {v:V}
theorem yG {ns':List Int} {l:List Nat} (h:ns'.Perm (l.map fun (n:Nat)=>(n:Int))):∃ l':List Nat,ns'=l'.map (fun (n:Nat)=>(n:Int))/\l'.Perm l:=by
 refine ⟨ns'.map QD,?_,?_⟩
 ·rw [N7];have e:∀ x∈ns',((fun (n:Nat)=>(n:Int)) ∘ QD) x=x:=fun x hx=>by
   obtain ⟨n,_,rfl⟩:=Mg.mp (h.mem_iff.mp hx);rfl
  have:ns'.map ((fun (n:Nat)=>(n:Int)) ∘ QD)=ns'.map id:=R6 e;rw [this,Qd]
 ·have:=h.map QD;rw [N7] at this;have e:(QD ∘ fun (n:Nat)=>(n:Int))=id:=by funext n;rfl
  rw [e,Qd] at this;exact this
theorem nB (l:List Nat):bb l=(l.map fun (n:Nat)=>(n:Int)).map V.int:=by
 unfold bb;rw [N7];rfl
theorem Az {l:List Nat} (h:At K H v l) (hl:l.length<64) (q:∀ (d:Addr) (l':List Nat) (H':Hp),H d=none->ai H H'->l'.Perm l->l'.Pairwise (·<=·)->Gr K H' d l'->Q (.ref d) H'):xE K [v] H Q:=by
 obtain ⟨p,rfl,hS⟩:=mF h;have hS':SqL K H p ((l.map fun (n:Nat)=>(n:Int)).map V.int):=by
  have e:=nB l;unfold bb at e;rw [<- e];exact hS
 refine ⟨p,_,rfl,hS',by rw [LP];exact hl,fun d ns' hd hp hs=>?_⟩
 obtain ⟨l',rfl,hp'⟩:=yG hp;have hs':l'.Pairwise (·<=·):=by
  rw [OU] at hs;exact hs.imp fun z=>by omega
 rw [<- nB];exact q d l' _ hd (aG hd _) hp' hs' ⟨_,ar,tW⟩
theorem yS (l:List Nat):(l.map fun (n:Nat)=>V.int (n:Int)).all nj=true:=by
 rw [Mx];intro x hx;obtain ⟨n,_,rfl⟩:=Mg.mp hx;rfl
theorem xT (x:Nat):∀ l:List Nat,inV (.int (x:Int)) (l.map fun (n:Nat)=>V.int (n:Int))=decide (x∈l)
 | []=>rfl
 | a :: l=>by
  have ih:=xT x l;rw [MO];simp only [inV] at ih ⊢;rw [Pe,ih];have e1:eqV (V.int (a:Int)) (V.int (x:Int))=decide (x=a):=by
   show ((a:Int) == (x:Int))=decide (x=a);rw [NP];simp;omega
  rw [e1,NP];simp
theorem KG {l:List Nat} {x:Nat} (h:At K H v l) (q:Q (.bl (decide (x∈l))) H):rIn K false (.int (x:Int)) v H Q:=by
 obtain ⟨p,rfl,hS⟩:=mF h;refine ⟨p,_,rfl,.inl hS,rfl,yS l,?_⟩;rw [xT];exact q
theorem Jo {l:List Nat} {x:Nat} (h:At K H v l) (q:Q (.bl (!decide (x∈l))) H):rIn K true (.int (x:Int)) v H Q:=by
 obtain ⟨p,rfl,hS⟩:=mF h;refine ⟨p,_,rfl,.inl hS,rfl,yS l,?_⟩;rw [xT];exact q
end
theorem KU {X:Cx} (K:LN) (hK:X.K=K):OpR X (compareOp .In) (rIn K false):=by subst hK;exact FG
theorem tq {X:Cx} (K:LN) (hK:X.K=K):OpR X (compareOp .NotIn) (rIn K true):=by subst hK;exact A8
section
variable {X:Cx} {pins:List (Addr×Obj)} {σ:St} {H:Hp} {s:LU} {A:MR} {α β:Type} [Rep α] [DecidableEq α] [bV α] [Rep β] [DecidableEq β] [bV β]
theorem JA {p q:Addr} {x1 x2 y1 y2:V} {a c:α} {b d:β} (I:Inv X pins σ H s) (hp:SqT X.K H p [x1,x2]) (h1:At X.K H x1 a) (h2:At X.K H x2 b) (hq:SqT X.K H q [y1,y2]) (h3:At X.K H y1 c) (h4:At X.K H y2 d)
  (hu:A.units+(max (bV.depth α) (bV.depth β)+1)<cLine):SeqAt.RcAt A s (.ref p) (.ref q) (decide ((a,b)=(c,d))):=by
 obtain ⟨its,v1,t1,_⟩:=I.tuple hp;obtain ⟨its2,v2,t2,_⟩:=I.tuple hq;obtain ⟨u1,u2,rfl,r1,r2⟩:=v1.two;obtain ⟨w1,w2,rfl,r3,r4⟩:=v2.two;have e1:=bV.eq (A:=A.in1) I h1 h3 r1 r3 (by show A.units+1+_<_;omega)
 have e2:=bV.eq (A:=A.in1) I h2 h4 r2 r4 (by show A.units+1+_<_;omega)
 have z:=SeqAt.RcAt.tuples (A:=A) (e:=fun j=>if j=0 then decide (a=c) else decide (b=d)) t1 t2 (by omega) fun j hj1 hj2=>by
  have hj:j<2:=by simpa using hj1
  match j,hj with
  | 0,_=>exact e1
  | 1,_=>exact e2
 have ek:((LZ (min (#[u1,u2]:Array Value).size (#[w1,w2]:Array Value).size)).all (fun j=>if j=0 then decide (a=c) else decide (b=d)) && (#[u1,u2]:Array Value).size == (#[w1,w2]:Array Value).size)=decide ((a,b)=(c,d)):=by
  have:(LZ (min (#[u1,u2]:Array Value).size (#[w1,w2]:Array Value).size))=[0,1]:=rfl;rw [this,NP];simp
 rw [<- ek];exact z
instance:bV (α×β) where
 depth:=max (bV.depth α) (bV.depth β)+1
 inj:=fun {X pins σ H s x a b} I h h'=>by
  obtain ⟨p,x1,x2,e,h1,h2,h3⟩:=h;obtain ⟨q,y1,y2,e',h4,h5,h6⟩:=h';subst e;cases e';have z:=I.yE h1 h4;cases z;exact Prod.ext (bV.inj I h2 h5) (bV.inj I h3 h6)
 eq:=fun {X pins σ H s A x y u v a b} I hx hy ru rv hu=>by
  obtain ⟨p,x1,x2,e,h1,h2,h3⟩:=hx;obtain ⟨q,y1,y2,e',h4,h5,h6⟩:=hy;subst e e';cases (show u=MI p from ru);cases (show v=MI q from rv)
  by_cases hpq:p=q
  ·subst hpq;have z:=I.yE h1 h4;cases z;have e1:a=b:=Prod.ext (bV.inj I h2 h5) (bV.inj I h3 h6);rw [decide_eq_true e1];exact Ry _
  ·exact SeqAt.EqAt.of_refs hpq (JA I h1 h2 h3 h4 h5 h6 hu)
end
section
variable {σ:St} {H:Hp} {Q:VK} {K:LN}
theorem kj {p:Addr} {xs:List V} {i:Nat} {x:V} (h:H p=some (.tup xs)) (hx:xs[i]?=some x) (q:Q x H):Hz K (.ref p) (.int (i:Int)) H Q:=⟨p,xs,_,x,rfl,rfl,SqT.of h,kY hx,q⟩
theorem IS {p:Addr} {a b:Nat} (h:H p=some (.tup [.int (a:Int),.int (b:Int)])):At K H (.ref p) ((a,b):Nat×Nat):=⟨p,_,_,rfl,SqT.of h,rfl,rfl⟩
end
theorem Bt {X:Cx} (K:LN) (hK:X.K=K) {pos p1 p2:Pos} {i j k:Nat} {x y:Str} (hc:X.calm=true) (hN:X.N.Nodup) (hi:X.N[i]?=some x) (hx:Loc X.env.scope x) (hj:X.N[j]?=some y) (hy:Loc X.env.scope y)
  (hf:X.fn x=true\/X.env.scope.names.lookup x=some .local:=by first|exact .inl rfl|exact .inr rfl|assumption) (hf':X.fn y=true\/X.env.scope.names.lookup y=some .local:=by first|exact .inl rfl|exact .inr rfl|assumption) :
  PG X (.Tuple [.Name x p1,.Name y p2] k pos) (xR K 2 (lU (ig i) (lU (ig j) xm))):=by
 subst hK;exact m4 hc (cM (aD hN hi hx hf) (cM (aD hN hj hy hf') kF))
theorem xY {K:LN} {α:Type} [Rep α] {H:Hp} {v:V} {Q:VK} {l:List α} (h:At K H v l) (q:∀ p H',H p=none->ai H H'->Gr K H' p l->Q (.ref p) H'):Du K [v] H Q:=by
 obtain ⟨p,xs,rfl,hS,hP⟩:=h;refine ⟨p,xs,rfl,.inl hS,fun d hd=>q d _ hd (aG hd _) ⟨_,ar,Paired.eT hP fun _ _ z=>Rep.mono (fun b o z=>?_) z⟩⟩;have hb:b≠d:=aH z hd;rw [m3 hb,au hb];exact z
theorem wM {H:Hp} {p d:Addr} {o:HO} (h:H p=some o) (hd:H d=none):p≠d:=fun e=>by rw [e,hd] at h;cases h
section
variable {X:Cx} {pins:List (Addr×Obj)} {σ:St} {H:Hp} {s:LU} {h':Heap} {t':Nat} {fp:List Addr}
end
theorem Jk {a b:Nat} (h:¬ a=b):@Ne Addr a b:=h
theorem E2 (n l l':Nat) (h1:l<n) (h2:l' < n):Qn (n+4) (n+2) (n+3) n (n+1) l l':=by
 constructor <;> (refine Jk ?_;omega)
section
variable {prog:Mp} {w:World} {A:MR} {E:Value->LU->Prop}
variable {s:LU}
end
section
variable {X:Cx} {pos:Pos}
end
structure uX (K:LN) (x qual:Str) (st:Stmt) (f:Addr) (fd:MZ):Prop where
 ex:∃ (oc:Value) (od:Option Addr) (D:Addr) (kV doc pm:Value) (an:Option Addr) (cdv ct:Value) (osl:Array (Option Value)) (dc:Value) (dd:Option Addr) (n:Nat) (dsl:Array (Option Value)),
  fd=L8 x qual (aJ st) (ax st) (af st) (.ref D) kV doc pm an cdv ct/\K.lookup f=some ⟨oc,od,.func fd,osl⟩/\L5 K cdv qual=true/\K.lookup D=some ⟨dc,dd,.seq #[.none] n,dsl⟩
 kp:LV K (.ref f)=true
section
variable {P:Mp} {w:World} {K:LN} {mg:Str->Option Value} {base:Heap} {x qual:Str} {st:Stmt} {f:Addr} {fd:MZ} {ps:List Str}
theorem uX.ok {N:List Str} {k:Nat} {sp:Sp} (F:uX K x qual st f fd) (S:aK N ps (af st)) (len:∀ vs H Q E,sp vs H Q E->vs.length=ps.length)
  (hbody:∀ (cdv:Value) (A:MR) (outer:List Env) (s:LU) (H:Hp) (vs:List V) (Q:VK) (E:XK),cg k (A.deeper (envOfC qual (af st) s.heap.objs.size f cdv))->sp vs H Q E ->
   ∃ t,PSs (jc CX0 P w K mg base N qual (af st) f cdv A outer s H E).nox (ax st) t/\t { nx:=fun _ H'=>Q .non H',rt:=Q } (start N vs) H):aI P w K mg base CX0 (k+1) f fd ps sp:=by
 obtain ⟨oc,od,D,kV,doc,pm,an,cdv,ct,osl,dc,dd,n,dsl,rfl,lk,hcd,_⟩:=F.ex;refine zL lk hcd S len fun A outer s H vs Q E hr hsp=>?_;obtain ⟨t,h,q⟩:=hbody cdv A outer s H vs Q E hr hsp;exact ⟨t,h.nox,q⟩
theorem uX.to {s:LU} {args:Args} {bs:List (Str×Value)} (F:uX K x qual st f fd) (KI:K.In s.heap)
  (h:∀ (D:Addr) (kV doc pm:Value) (an:Option Addr) (cdv ct:Value),∃ k:Option (Array Value)->Sem (List (Str×Value)),bindArgs (L8 x qual (aJ st) (ax st) (af st) (.ref D) kV doc pm an cdv ct) args=seqItems? (.ref D) >>= k/\k (some #[.none])=pure bs):QU s fd args bs:=by
 obtain ⟨oc,od,D,kV,doc,pm,an,cdv,ct,osl,dc,dd,n,dsl,rfl,lk,hcd,dl⟩:=F.ex;obtain ⟨k,h1,h2⟩:=h D kV doc pm an cdv ct;exact BindsTo.of_defaults (fd:=L8 x qual (aJ st) (ax st) (af st) (.ref D) kV doc pm an cdv ct) (T:=D) rfl (KI _ _ dl) rfl h1 h2
theorem CK {D:Addr} {oc dc:Value} {od an dd:Option Addr} {osl dsl:Array (Option Value)} {kV doc pm cdv ct:Value} {n:Nat} (l:K.lookup f=some ⟨oc,od,.func (L8 x qual (aJ st) (ax st) (af st) (.ref D) kV doc pm an cdv ct),osl⟩)
  (d:K.lookup D=some ⟨dc,dd,.seq #[.none] n,dsl⟩) (c:L5 K cdv qual=true) (k:LV K (.ref f)=true):uX K x qual st f (L8 x qual (aJ st) (ax st) (af st) (.ref D) kV doc pm an cdv ct) :=
 ⟨⟨oc,od,D,kV,doc,pm,an,cdv,ct,osl,dc,dd,n,dsl,rfl,l,c,d⟩,k⟩
end
def byName {α:Type} (k:Nat) (us ws:List α):List α:=if us.length=k/\ws.length=1 then us++ws else []
theorem Dk {k:Nat} {vs zs:List V} {us ws:List Value} (r:Vals vs us) (rz:Vals zs ws):Vals (byName k vs zs) (byName k us ws):=by
 have h1:=r.length;have h2:=rz.length;unfold byName;rw [h1,h2]
 split
 ·exact r.append rz
 ·exact .nil
theorem wC {K:LN} {fd:MZ} {ps:List Str} {k:Nat} (hk:ps.length=k+1) (h:∀ (s:LU) (us:List Value),K.In s.heap->us.length=k->QU s fd ⟨us,[]⟩ (ps.zip (us++[.none]))):Binds K fd ps [.none]:=fun s us KI hl=>h s us KI (by
 rw [Mm,hk] at hl;have:([Ow]:List Value).length=1:=rfl;omega)
theorem vU {K:LN} {fd:MZ} {ps:List Str} {y:Str} {k:Nat} (hk:ps.length=k+1) (h:∀ (s:LU) (us:List Value) (w:Value),K.In s.heap->us.length=k->QU s fd ⟨us,[(y,w)]⟩ (ps.zip (us++[w]))):Ak K fd ps [y] (byName k) (byName k):=by
 refine ⟨fun s us ws KI hl=>?_,Dk⟩;unfold byName at hl ⊢
 split at hl
 ·rename_i c
  rw [if_pos c]
  match ws,c.2 with
  | [w],_=>exact h s us w KI c.1
 ·rw [hk] at hl;cases hl
structure DfD (K:LN) (mg:Str->Option Value) (x:Str) (st:Stmt) (ps:List Str) (y:Str) (k:Nat) where
 f:Addr
 fd:MZ
 fn:uX K x x st f fd
 bd:Binds K fd ps []
 bn:Binds K fd ps [.none]
 bk:Ak K fd ps [y] (byName k) (byName k)
 nm:mg x=some (.ref f)
theorem DfD.ok {P:Mp} {w:World} {K:LN} {mg:Str->Option Value} {base:Heap} {x y:Str} {st:Stmt} {N ps:List Str} {k j:Nat} {sp:Sp} (d:DfD K mg x st ps y j) (S:aK N ps (af st)) (len:∀ vs H Q E,sp vs H Q E->vs.length=ps.length)
  (hbody:∀ (cdv:Value) (A:MR) (outer:List Env) (s:LU) (H:Hp) (vs:List V) (Q:VK) (E:XK),cg k (A.deeper (envOfC x (af st) s.heap.objs.size d.f cdv))->sp vs H Q E ->
   ∃ t,PSs (jc CX0 P w K mg base N x (af st) d.f cdv A outer s H E).nox (ax st) t/\t { nx:=fun _ H'=>Q .non H',rt:=Q } (start N vs) H):aI P w K mg base CX0 (k+1) d.f d.fd ps sp :=
 d.fn.ok S len hbody
section
variable {X:Cx} {x y:Str} {st:Stmt} {ps:List Str} {k j:Nat} {sp:Sp} {p pos kpos:Pos} {e a:Expr} {es:List Expr} {t:TA} {te:TE}
theorem K7 (d:DfD X.K X.mg x st ps y j) (G:aI X.prog X.w X.K X.mg X.base CX0 k d.f d.fd ps sp) (hr:cg k X.A) (hg:Gl X x) (ha:PA X (e :: es) t) (hn:isStar e=false:=by rfl) (hall:es.all (fun e=>!isStar e)=true:=by rfl) (hdb:(x == ("__debug__" : Str))=false:=by decide) :
  PE X (.Call (.Name x p) (e :: es) [] pos) (qz sp [] E0 t):=xf G hr hg d.nm d.fn.kp d.bd .nil oA ha hdb (bP hn) (cU hall)
end
end L2
set_option Elab.async false
set_option linter.all false
set_option maxRecDepth 100000
namespace L2
open PySem PySem.Spec PyProof.Rows
section
variable (P:Mp) (w:World)
end
section
variable {P:Mp} {w:World} {H H':Hp} {h h':Heap} {a:Addr} {o:HO}
end
section
variable {P:Mp} {w:World} {H:Hp} {h h':Heap} {x e:Addr} {o':HO}
end
section
variable {fs fs' ex ex':List Addr} {H H1 H2:Hp} {h h1 h2 h':Heap} {a x e:Addr} {o:HO}
end
section
variable {X:Cx} {pins:List (Addr×Obj)} {σ:List (Option V)} {H H':Hp} {s:LU} {h':Heap}
end
section
variable {X:Cx}
variable {a b:Expr} {ta tb:TE} {pos:Pos}
variable {tA tB':TT} {rest:List Expr}
end
section
variable {X:Cx} {pins:List (Addr×Obj)} {σ:St} {H:Hp} {s:LU} {a:Addr} {xs ys:List V}
end
section
variable {X:Cx} {pins:List (Addr×Obj)} {σ:St} {H:Hp} {s:LU} {E:Value->LU->Prop}
end
section
variable {X:Cx} {st:Stmt} {rest:List Stmt} {t u:TS} {e:Expr} {te:TE} {pos:Pos}
end
section
variable {X:Cx} {pos:Pos}
end
section
variable {X:Cx} {tg:Expr}
end
section
variable {X:Cx} {a b c:Expr} {ta tb tc:TE} {pos:Pos}
end
section
variable {prog:Mp} {w:World} {A:MR} {E:Value->LU->Prop} {s:LU} {K:LN} {x dx C f:Addr} {mA:Str->Option Value} {name:Str} {v:Value}
end
section
variable {P:Mp} {w:World} {H H':Hp} {h h':Heap} {a C dx:Addr} {fs fs':List (Str×V)}
end
section
variable {X:Cx} {pins:List (Addr×Obj)} {σ:St} {H:Hp} {s:LU} {a C dx:Addr} {fs:List (Str×V)} {f:Str} {v:V} {A:MR} {E:Value->LU->Prop}
end
section
variable {X:Cx} {o e value:Expr} {f:Str} {pos pos' tpos:Pos} {ta tv:TE}
end
section
variable {X:Cx} {pins:List (Addr×Obj)} {σ:St} {H:Hp} {s:LU} {A:MR} {E:Value->LU->Prop} {Q:Value->LU->Prop} {c:Value} {b:Bool}
end
section
variable {X:Cx} {e:Expr} {es:List Expr} {te:TE} {t:TA} {pos:Pos}
end
section
variable {X:Cx} {pins:List (Addr×Obj)} {σ:St} {H:Hp} {s s':LU}
end
section
variable {X:Cx} {CX:CXT} {k:Nat} {f C:Addr} {fd:MZ} {ps:List Str} {sp:Sp} {dvs:List V} {ds:List Value} {E:XK} {x m:Str} {p pos apos:Pos} {e o:Expr} {es:List Expr} {ta:TE} {t:TA}
end
section
variable {X:Cx} {CX:CXT} {k:Nat} {f C:Addr} {fd:MZ} {ps ks:List Str} {sp:Sp} {E:XK} {x m:Str} {p pos apos kpos:Pos} {e o:Expr} {es:List Expr} {kws:List Rw} {te ta:TE} {t tk:TA} {nm:Option Str}
variable {g:List Value->List Value->List Value} {gV:List V->List V->List V}
end
section
variable {X:Cx} {x:Str} {p pos:Pos} {e:Expr} {es:List Expr} {t:TA} {id T:String} {r:List V->Hp->VK->Prop}
end
section
variable {κ:Type} [DecidableEq κ]
def eJ (kvs:List (κ×V)) (k:κ):Option V:=(kvs.find? fun kv=>decide (kv.1=k)).map (·.2)
def putK (kvs:List (κ×V)) (k:κ) (v:V):List (κ×V) :=
 if (kvs.any fun kv=>decide (kv.1=k))=true then kvs.map (fun kv=>if kv.1=k then (kv.1,v) else kv) else kvs++[(k,v)]
theorem eB {p:κ×V} {r:List (κ×V)} {k:κ} (e:p.1=k):eJ (p :: r) k=some p.2:=by simp [eJ,Oz,e]
theorem d9 {p:κ×V} {r:List (κ×V)} {k:κ} (e:¬ p.1=k):eJ (p :: r) k=eJ r k:=by simp [eJ,Oz,e]
theorem qU (k:κ):∀ kvs:List (κ×V),(kvs.any fun kv=>decide (kv.1=k))=(eJ kvs k).isSome
 | []=>rfl
 | p :: r=>by
  rw [Pe]
  by_cases e:p.1=k
  ·simp only [eB e,decide_eq_true e,Bool.true_or,Option.isSome_some]
  ·rw [d9 e,decide_eq_false e,Bool.false_or];exact qU k r
theorem zP (k j:κ) (y:V):∀ kvs:List (κ×V),eJ (kvs.map fun kv=>if kv.1=k then (kv.1,y) else kv) j=(eJ kvs j).map fun x=>if j=k then y else x
 | []=>rfl
 | p :: r=>by
  have ih:=zP k j y r;rw [MO]
  by_cases h:p.1=k
  ·rw [if_pos h]
   by_cases e:p.1=j
   ·rw [eB (p:=(p.1,y)) e,eB e,Qg,if_pos (e.symm.trans h)]
   ·rw [d9 (p:=(p.1,y)) e,d9 e,ih]
  ·rw [if_neg h]
   by_cases e:p.1=j
   ·rw [eB (p:=p) e,eB e,Qg,if_neg (fun z=>h (e.trans z))]
   ·rw [d9 (p:=p) e,d9 e,ih]
theorem yI (k j:κ) (y:V):∀ kvs:List (κ×V),eJ kvs k=none->eJ (kvs++[(k,y)]) j=if j=k then some y else eJ kvs j
 | [],_=>by
  by_cases e:k=j
  ·rw [if_pos e.symm];exact eB (p:=(k,y)) e
  ·rw [if_neg (fun z=>e z.symm)];exact d9 (p:=(k,y)) e
 | p :: r,hn=>by
  rw [List.cons_append];have hk:¬ p.1=k:=fun z=>by rw [eB z] at hn;cases hn
  rw [d9 hk] at hn;have ih:=yI k j y r hn
  by_cases e:p.1=j
  ·rw [eB e,eB e,if_neg (fun z=>hk (e.trans z))]
  ·rw [d9 e,d9 e,ih]
theorem G1 (kvs:List (κ×V)) (k j:κ) (y:V):eJ (putK kvs k y) j=if j=k then some y else eJ kvs j:=by
 unfold putK
 by_cases a:(kvs.any fun kv=>decide (kv.1=k))=true
 ·rw [if_pos a,zP];rw [qU] at a
  by_cases e:j=k
  ·obtain ⟨x,hx⟩:=Qx.mp a;rw [if_pos e,e,hx,Qg,if_pos rfl]
  ·rw [if_neg e];cases eJ kvs j with
   | none=>rfl
   | some x=>rw [Qg,if_neg e]
 ·rw [if_neg a];refine yI k j y kvs ?_;rw [qU] at a;cases q:eJ kvs k with
  | none=>rfl
  | some x=>rw [q] at a;exact (a rfl).elim
theorem pk (kvs:List (κ×V)) (k:κ) (v:V):(putK kvs k v).length<=kvs.length+1:=by
 unfold putK
 split
 ·rw [LP];omega
 ·rw [Mm,MQ,RC];omega
theorem jg.Gn {o:Option V} {u:Option Value} (r:jg o u):o.isSome=u.isSome:=by
 cases o with
 | none=>cases u with
  | none=>rfl
  | some _=>exact (show False from r).elim
 | some _=>cases u with
  | none=>exact (show False from r).elim
  | some _=>rfl
theorem KV.val {kvs:List (κ×V)} {vs:List (κ×Value)} (r:KV kvs vs) (k:κ):jg (eJ kvs k) (valueAt vs k):=by
 unfold KV at r
 induction r with
 | nil=>exact Qw
 | @cons p q ps qs h t ih =>
  obtain ⟨h1,h2⟩:=h
  by_cases e:p.1=k
  ·have e':q.1=k:=h1.symm.trans e;have b:valueAt (q :: qs) k=some q.2:=by simp [valueAt,Oz,e']
   rw [eB e,b];exact h2
  ·have e':¬ q.1=k:=fun z=>e (h1.trans z);have b:valueAt (q :: qs) k=valueAt qs k:=by simp [valueAt,Oz,e']
   rw [d9 e,b];exact ih
theorem KV.any {kvs:List (κ×V)} {vs:List (κ×Value)} (r:KV kvs vs) (k:κ):(kvs.any fun kv=>decide (kv.1=k))=vs.any fun kv=>decide (kv.1=k):=by
 unfold KV at r
 induction r with
 | nil=>rfl
 | cons h t ih=>rw [Pe,Pe,ih,h.1]
theorem KV.Hl {kvs:List (κ×V)} {vs:List (κ×Value)} (r:KV kvs vs) (k:κ) {y:V} {u:Value} (ry:RelV y u) :
  KV (kvs.map fun kv=>if kv.1=k then (kv.1,y) else kv) (vs.map fun kv=>if kv.1=k then (kv.1,u) else kv):=by
 unfold KV at r ⊢
 induction r with
 | nil=>exact .nil
 | @cons p q ps qs h t ih =>
  rw [MO,MO];refine .cons ?_ ih;obtain ⟨h1,h2⟩:=h
  by_cases e:p.1=k
  ·rw [if_pos e,if_pos (h1.symm.trans e)];exact ⟨h1,ry⟩
  ·rw [if_neg e,if_neg (fun z=>e (h1.trans z))];exact ⟨h1,h2⟩
theorem KV.put {kvs:List (κ×V)} {vs:List (κ×Value)} (r:KV kvs vs) (k:κ) {y:V} {u:Value} (ry:RelV y u):KV (putK kvs k y) (stored vs k u):=by
 unfold putK stored;rw [r.any k]
 by_cases e:(vs.any fun kv=>decide (kv.1=k))=true
 ·rw [if_pos e,if_pos e];exact r.Hl k ry
 ·rw [if_neg e,if_neg e];exact Paired.snoc r ⟨rfl,ry⟩
theorem KV.length {kvs:List (κ×V)} {vs:List (κ×Value)} (r:KV kvs vs):kvs.length=vs.length:=Pc r
end
theorem zM {P:Mp} {w:World} {k:Key} {u:Value} (r:RelV (kV k) u):(dW P w).is k u=true:=by
 cases k with
 | inl i=>obtain ⟨t,e⟩:=(show ∃ t,u=Oe i t from r);subst e;exact B3 P w i t
 | inr x=>obtain ⟨t,e⟩:=(show ∃ t,u=SD x t from r);subst e;exact BI P w x t
theorem yR {P:Mp} {w:World}:∀ {ks:List Key} {us:List Value},Vals (ks.map kV) us->ItemsAre (dW P w) ks us
 | [],_,r=>by rw [List.map_nil] at r;cases r;exact .nil
 | k :: ks,_,r=>by
  rw [MO] at r;cases r with
  | cons h t=>exact .cons (zM h) (yR t)
abbrev KT (H:Hp):List (List Key×V)->List (List Key×Addr×Value)->Prop:=Nv fun p q=>p.1=q.1/\H q.2.1=some (.tup (p.1.map kV))/\RelV p.2 q.2.2
theorem KT.val {H:Hp} {kvs:List (List Key×V)} {xs:List (List Key×Addr×Value)} (r:KT H kvs xs) (k:List Key):jg (eJ kvs k) ((atKey xs k).map (·.2)):=by
 induction r with
 | nil=>exact Qw
 | @cons p q ps qs h t ih =>
  obtain ⟨h1,_,h2⟩:=h
  by_cases e:p.1=k
  ·have e':q.1=k:=h1.symm.trans e;have b:atKey (q :: qs) k=some q.2:=by simp [atKey,Oz,e']
   rw [eB e,b];exact h2
  ·have e':¬ q.1=k:=fun z=>e (h1.trans z);have b:atKey (q :: qs) k=atKey qs k:=by simp [atKey,Oz,e']
   rw [d9 e,b];exact ih
theorem KT.Hl {H:Hp} {kvs:List (List Key×V)} {xs:List (List Key×Addr×Value)} (r:KT H kvs xs) (k:List Key) {y:V} {u:Value} (ry:RelV y u) :
  KT H (kvs.map fun kv=>if kv.1=k then (kv.1,y) else kv) (xs.map (putAt k u)):=by
 induction r with
 | nil=>exact .nil
 | @cons p q ps qs h t ih =>
  rw [MO,MO];refine .cons ?_ ih;obtain ⟨h1,h2,h3⟩:=h;unfold putAt
  by_cases e:p.1=k
  ·rw [if_pos e,if_pos (h1.symm.trans e)];exact ⟨h1,h2,ry⟩
  ·rw [if_neg e,if_neg (fun z=>e (h1.trans z))];exact ⟨h1,h2,h3⟩
theorem KT.put {H:Hp} {kvs:List (List Key×V)} {xs:List (List Key×Addr×Value)} (r:KT H kvs xs) (k:List Key) {b:Addr} {y:V} {u:Value} (hb:H b=some (.tup (k.map kV))) (ry:RelV y u) :
  KT H (putK kvs k y) (storedH xs k b u):=by
 have e:(kvs.any fun kv=>decide (kv.1=k))=(atKey xs k).isSome:=by
  rw [qU,(r.val k).Gn,Option.isSome_map]
 unfold putK storedH;rw [e]
 by_cases q:(atKey xs k).isSome=true
 ·rw [if_pos q,if_pos q];exact r.Hl k ry
 ·rw [if_neg q,if_neg q];exact Paired.snoc r ⟨rfl,hb,ry⟩
theorem KT.keeps {H H':Hp} {kvs:List (List Key×V)} {xs:List (List Key×Addr×Value)} (r:KT H kvs xs) (ht:∀ b ys,H b=some (.tup ys)->H' b=some (.tup ys)):KT H' kvs xs :=
 Paired.eT r fun _ _ z=>⟨z.1,ht _ _ z.2.1,z.2.2⟩
section
variable {P:Mp} {w:World} {H:Hp} {h:Heap} {a:Addr}
theorem Im {u:HO} (ok:HOk P w H h) (e:Rd H a u):cA P w H h a u:=e.ok ok
theorem C1 {kvs:List (Key×V)} (ok:HOk P w H h) (e:Rd H a (.dK kvs)):kvs.length<=MF/\(a == sysModules)=false/\∃ vs,KV kvs vs/\h.DictOf (dW P w) a vs :=
 show cA P w H h a (.dK kvs) from Im ok e
theorem Ll {kvs:List (Key×V)} (ok:HOk P w H h) (e:H a=some (.dK kvs)):kvs.length<=MF/\(a == sysModules)=false/\∃ vs,KV kvs vs/\h.DictOf (dW P w) a vs:=C1 ok (.inl e)
theorem Ai {ks:List Key} (ok:HOk P w H h) (e:H a=some (.tup (ks.map kV))):(tupleKind (dW P w)).is h ks a:=by
 obtain ⟨_,its,r,o,h1,h2,n,h3⟩:=(show cA P w H h a (.tup (ks.map kV)) from ok a _ e);exact ⟨o,its.toArray,n,h1,h2,h3,by simpa using yR r⟩
theorem Dx {kvs:List (List Key×V)} (ok:HOk P w H h) (e:Rd H a (.dT kvs)):kvs.length<=MF/\(a == sysModules)=false /\
  ∃ xs,KT H kvs xs/\h.DictOfH (tupleKind (dW P w)) a xs:=by
 obtain ⟨z,y,xs,r,o,es,ep,h1,h2,h3,h4,h5⟩:=(show cA P w H h a (.dT kvs) from Im ok e);refine ⟨z,y,xs,r,o,es,ep,h1,h2,h3,h4,fun x hx=>?_,h5⟩;have all:∀ {l:List (List Key×V)} {m:List (List Key×Addr×Value)},KT H l m->∀ x∈m,(tupleKind (dW P w)).is h x.1 x.2.1:=by
  intro l m q
  induction q with
  | nil=>intro x hx;exact nomatch hx
  | @cons p q ps qs hq t ih =>
   intro x hx;rcases Mv.mp hx with e|hx
   ·subst e;exact Ai ok (by rw [<- hq.1];exact hq.2.1)
   ·exact ih x hx
 exact all r x hx
theorem Lg {kvs:List (List Key×V)} (ok:HOk P w H h) (e:H a=some (.dT kvs)):kvs.length<=MF/\(a == sysModules)=false /\
  ∃ xs,KT H kvs xs/\h.DictOfH (tupleKind (dW P w)) a xs:=Dx ok (.inl e)
end
def rE (H:Hp) (a:Addr) (y:V) (r:Option V):Prop :=
 (∃ kvs k,Rd H a (.dK kvs)/\y=kV k/\r=eJ kvs k)\/∃ kvs k b,Rd H a (.dT kvs)/\y=.ref b/\H b=some (.tup (k.map kV))/\r=eJ kvs k
def tT (H:Hp) (a:Addr) (y v:V) (H':Hp):Prop :=
 (∃ kvs k,H a=some (.dK kvs)/\y=kV k/\kvs.length<MF/\H'=upd H a (.dK (putK kvs k v))) \/
 ∃ kvs k b,H a=some (.dT kvs)/\y=.ref b/\H b=some (.tup (k.map kV))/\kvs.length<MF/\H'=upd H a (.dT (putK kvs k v))
theorem rE.k {H:Hp} {a:Addr} {kvs:List (Key×V)} {k:Key} (e:H a=some (.dK kvs)):rE H a (kV k) (eJ kvs k):=.inl ⟨kvs,k,.inl e,rfl,rfl⟩
theorem rE.t {H:Hp} {a b:Addr} {kvs:List (List Key×V)} {k:List Key} (e:H a=some (.dT kvs)) (eb:H b=some (.tup (k.map kV))):rE H a (.ref b) (eJ kvs k):=.inr ⟨kvs,k,b,.inl e,rfl,eb,rfl⟩
theorem tT.k {H:Hp} {a:Addr} {kvs:List (Key×V)} {k:Key} {v:V} (e:H a=some (.dK kvs)) (hl:kvs.length<MF):tT H a (kV k) v (upd H a (.dK (putK kvs k v))):=.inl ⟨kvs,k,e,rfl,hl,rfl⟩
theorem tT.t {H:Hp} {a b:Addr} {kvs:List (List Key×V)} {k:List Key} {v:V} (e:H a=some (.dT kvs)) (eb:H b=some (.tup (k.map kV))) (hl:kvs.length<MF) :
  tT H a (.ref b) v (upd H a (.dT (putK kvs k v))):=.inr ⟨kvs,k,b,e,rfl,eb,hl,rfl⟩
section
variable {X:Cx} {pins:List (Addr×Obj)} {σ:St} {H:Hp} {s:LU} {a:Addr} {y v:V} {u r:Value} {o:Option V} {A:MR} {E:Value->LU->Prop}
theorem Inv.big (I:Inv X pins σ H s):sysModules<s.heap.objs.size:=by
 have h:LX<s.heap.objs.size:=(I.mod.glob.keeps I.bk).lt;exact PY (by decide) h
theorem EJ {Q:Value->LU->Prop} (hu:A.units+1<cLine) (I:Inv X pins σ H s) (g:rE H a y (some v)) (ry:RelV y u) (h:∀ w' s',Inv X pins σ H s'->RelV v w'->Q w' s') :
  wpAny (model X.prog X.w) A (getItem (.ref a) u) Q E s:=by
 rcases g with ⟨kvs,k,e,ey,l⟩|⟨kvs,k,b,e,ey,eb,l⟩
 ·subst ey;obtain ⟨z,hd,vs,rel,dd⟩:=C1 I.hok e;obtain ⟨w',hw,rw'⟩:=jg.some_of (v:=v) (o:=valueAt vs k) (by rw [l];exact rel.val k)
  exact wpAny_getItem_of (zM ry) dd.mapOf hw (h w' _ (I.tok _) rw')
 ·subst ey;cases (show u=MI b from ry);obtain ⟨z,hd,xs,rel,dd⟩:=Dx I.hok e;obtain ⟨w',hw,rw'⟩:=jg.some_of (v:=v) (o:=(atKey xs k).map (·.2)) (by rw [l];exact rel.val k)
  obtain ⟨p,hp,hp2⟩:=Rn.mp hw;refine wpAny_getItem_heap (tupleKind_room_in1 hu) (Ai I.hok eb) dd hp ?_;rw [hp2];exact h w' _ (I.tok _) rw'
theorem CL {h':Heap} {t':Nat} {ob:HO} (I:Inv X pins σ H s) (mu:Mut (H a)) (hs:O5 a s.heap h') (he:∃ q,h'.get? a=some q) (new:cA X.prog X.w (upd H a ob) h' a ob) :
  Inv X pins σ (upd H a ob) { s with heap:=h',toks:=t' } :=
 I.write (x:=a) (e:=a) mu (.inl rfl) (fun b q hb z=>(hs.2 b hb).trans z) he new
theorem Fq {P:Mp} {w:World} {H':Hp} {h':Heap} {kvs:List (Key×V)} {vs:List (Key×Value)} (z:kvs.length<=MF) (hd:(a == sysModules)=false) (rel:KV kvs vs) (dd:h'.DictOf (dW P w) a vs) :
  cA P w H' h' a (.dK kvs):=⟨z,hd,vs,rel,dd⟩
theorem EK {H':Hp} {Q:Unit->LU->Prop} (hu:A.units+1<cLine) (I:Inv X pins σ H s) (g:tT H a y v H') (ry:RelV y u) (rv:RelV v r) (h:∀ s',Inv X pins σ H' s'->Q () s') :
  wpAny (model X.prog X.w) A (setItem (.ref a) u r) Q E s:=by
 rcases g with ⟨kvs,k,e,ey,l,eH⟩|⟨kvs,k,b,e,ey,eb,l,eH⟩
 ·subst ey eH;obtain ⟨z,hd,vs,rel,dd⟩:=Ll I.hok e;have hz:vs.length<=MF:=by rw [<- rel.length];exact z
  have hl:(putK kvs k v).length<=MF:=by have:=pk kvs k v;omega
  refine wpAny_setItem_pairs (hsz:=hz) (zM ry) dd fun h' dd' hs=>h _ ?_;have he:∃ q,h'.get? a=some q:=let ⟨q,_,_,hq,_⟩:=dd';⟨q,hq⟩;exact CL I (by rw [e];exact Qw) hs he (Fq hl hd (rel.put k rv) dd')
 ·subst ey eH;cases (show u=MI b from ry);obtain ⟨z,hd,xs,rel,dd⟩:=Lg I.hok e;have hz:xs.length<=MF:=by rw [<- Pc rel];exact z
  have hl:(putK kvs k v).length<=MF:=by have:=pk kvs k v;omega
  refine wpAny_setItem_heap (hsz:=hz) (tupleKind_room_in1 hu) (Ai I.hok eb) dd fun h' dd' hs=>h _ ?_;obtain ⟨q,es,ep,hq,h2,h3,h4,_,h5⟩:=dd';refine CL I (by rw [e];exact Qw) hs ⟨q,hq⟩ ⟨hl,hd,_,(rel.put k eb rv).keeps fun c ys ec=>?_,q,es,ep,hq,h2,h3,h4,h5⟩
  rw [au (Lu ec e (fun z=>nomatch z))];exact ec
end
section
variable {X:Cx} {pins:List (Addr×Obj)} {σ:St} {H:Hp} {s:LU} {a:Addr} {kvs:List (Key×V)} {k:Key} {u:Value} {A:MR} {E:Value->LU->Prop}
end
def JW (i:Expr):Prop:=∀ ov iv,subscripted i false ov iv=operate [ov,iv] (getItem ov iv)
theorem Ja {prog:Mp} {w:World} {A:MR} {E:Value->LU->Prop} {s:LU} {env:Env} {value slice:Expr} {pos:Pos} {T id:String} {Q:Value->LU->Prop}
  (hl:typeLookup (.type T) "__getitem__" = pure (some (.builtin id))) (hs:JW slice)
  (h:wpAny (model prog w) A (eval value env) (fun o s₁=>wpAny (model prog w) A (eval slice env) (fun i s₂=>s₂.TypeIs o T/\wpAny (model prog w) A (getItem o i) Q E s₂) E s₁) E s) :
  wpAny (model prog w) A (eval (.Subscript value slice pos) env) Q E s:=by
 refine Subscript_ (Nj h (fun o s₁ h₁=>Nj h₁ (fun i s₂ h₂=>?_) fun _ _ x=>x) fun _ _ x=>x);obtain ⟨hT,h₂⟩:=h₂;unfold subscriptTail;refine LQ ?_;rw [getitemInPython_of_ne hT.not_modules];refine LQ (wpAny_specialOf hT hl ?_);have fin:wpAny (model prog w) A (subscripted slice false o i) (fun r s₃=>wpAny (model prog w) A (letTemporaryGo value o r >>= fun _=>pure r) Q E s₃) E s₂:=by
  rw [hs o i];exact wpAny_operating (Nj h₂ (fun r s₃ h₃=>LQ (wpAny_letTemporaryGo (Md h₃))) fun _ _ x=>x)
 first
  | exact Md (LQ fin)
  | exact LQ (Md (LQ fin))
  | exact LQ fin
theorem BF {X:Cx} {pins:List (Addr×Obj)} {σ:St} {H:Hp} {s:LU} {a:Addr} {y:V} {o:Option V} (I:Inv X pins σ H s) (g:rE H a y o):s.TypeIs (.ref a) "dict":=by
 rcases g with ⟨kvs,k,e,_,_⟩|⟨kvs,k,b,e,_,_,_⟩
 ·obtain ⟨_,_,vs,_,dd⟩:=C1 I.hok e;exact dd.typeIs
 ·obtain ⟨_,_,xs,_,dd⟩:=Dx I.hok e;exact dd.typeIs
def Ig (td ty:TE):TE:=fun σ H Q=>td σ H fun x H1=>ty σ H1 fun y H2=>∃ a v,x=.ref a/\rE H2 a y (some v)/\Q v H2
def Ih (td ty tv:TE):TS:=fun D σ H=>tv σ H fun v H1=>td σ H1 fun x H2=>ty σ H2 fun y H3=>∃ a H4,x=.ref a/\tT H3 a y v H4/\D.nx σ H4
section
variable {X:Cx} {o i e value:Expr} {pos pos' tpos:Pos} {td ty tv:TE}
theorem uc (hu:X.A.units+1<cLine) (ho:PE X o td) (hi:PE X i ty) (hs:JW i):PE X (.Subscript o i pos) (Ig td ty):=by
 intro pins s σ H Q I h;refine Ja PySem.F.slot_dict_getitem.lookup hs (thn (ho pins s σ H _ I h) fun u s1 ⟨x,H1,I1,rx,q1⟩=>thn (hi pins s1 σ H1 _ I1 q1) fun iv s2 ⟨y,H2,I2,ry,a,v,ex,g,q2⟩=>?_);subst ex;obtain rfl:u=MI a:=rx;exact ⟨BF I2 g,EJ hu I2 g ry fun w' s3 I3 rw'=>⟨v,H2,I3,rw',q2⟩⟩
theorem IZ (hu:X.A.units+1<cLine) (ho:PE X o td) (hi:PE X i ty) (hv:PE X value tv) (hs:swapsWith value (some (.Subscript o i pos')) pos.line X.env=pure false) :
  PS X (.Assign [.Subscript o i pos'] value pos) (Ih td ty tv):=by
 intro pins s σ H D I h;refine wpAny_Assign_Subscript (thn (hv pins s σ H _ I h) fun r s1 ⟨v,H1,I1,rv,q1⟩=>thn (ho pins s1 σ H1 _ I1 q1) fun u s2 ⟨x,H2,I2,rx,q2⟩=>thn (hi pins s2 σ H2 _ I2 q2) fun iv s3 ⟨y,H3,I3,ry,a,H4,ex,g,q3⟩=>?_) hs;subst ex;obtain rfl:u=MI a:=rx;exact EK hu I3 g ry rv fun s4 I4=>⟨σ,H4,I4,q3⟩
end
theorem Hk {P:Mp} {w:World} {H:Hp} (h:Heap) (hb:sysModules<h.objs.size):cA P w H (h.push { cls:=.type "dict",data:=.dict #[] }) h.objs.size (.dK []) :=
 ⟨M7 _,beq_eq_false_iff_ne.mpr (NY (Mn hb)),[],.nil,Heap.DictOf.new h⟩
def Gh:TE:=fun _ H Q=>∀ p,H p=none->Q (.ref p) (upd H p (.dK []))
section
variable {X:Cx} {pos:Pos}
theorem Gv:PE X (.Dict [] [] pos) Gh:=fun pins s σ H Q I h =>
 wpAny_Dict_empty ⟨.ref s.heap.objs.size,_,I.laid (a:=s.heap.objs.size) (o:=.dK []) (t':=s.toks) (fun _ _ q=>L7 _ q) (Mh _) (Hk s.heap I.big),rfl,h _ (I.hok.fresh (Mh _))⟩
end
section
variable {X:Cx} {pins:List (Addr×Obj)} {σ:St} {H:Hp} {s:LU} {a:Addr} {y d:V} {u r:Value} {o:Option V} {A:MR} {E:Value->LU->Prop}
end
section
variable {X:Cx} {o e f:Expr} {apos cpos:Pos} {td ty tx:TE}
end
section
variable {X:Cx} {pins:List (Addr×Obj)} {σ:St} {H:Hp} {s:LU} {a:Addr} {kvs:List (Key×V)} {A:MR} {E:Value->LU->Prop}
end
section
variable {X:Cx} {pins:List (Addr×Obj)} {σ:St} {H:Hp} {s:LU} {a:Addr} {y:V} {u:Value} {A:MR} {E:Value->LU->Prop}
end
end L2
namespace Att
open PySem PySem.W PySem.Calls PyProof.Rows
section
variable {prog:Mp} {w:World} {A:MR} {E:Value->LU->Prop} {s:LU} {K:Frag}
end
end Att
namespace L2
open PySem PySem.Spec PyProof.Rows
section
variable {P:Mp} {w:World} {K:LN} {mg:Str->Option Value} {base:Heap}
end
section
variable {X:Cx}
end
section
variable {κ:Type} [DecidableEq κ]
theorem Cr:∀ {l:List κ} {k:κ},l.Nodup->¬ k∈l->(l++[k]).Nodup
 | [],k,_,_=>by simp
 | a :: r,k,h,hk=>by
  obtain ⟨h1,h2⟩:=M9.mp h;show (a :: (r++[k])).Nodup;refine M9.mpr ⟨fun m=>?_,Cr h2 fun m=>hk (Mv.mpr (PX m))⟩;rcases MD.mp m with q|q
  ·exact h1 q
  ·exact hk (Mv.mpr (Mb (Ma.mp q).symm))
end
section
variable {K:LN} {H:Hp} {σ:St} {Q:VK} {g:TG} {tt:TT} {ta:TE} {own:List Str} {fr:List Nat}
theorem uT {J:It} {n:Nat} (W:Addr->Nat->St->Hp->List V->Prop) (hz:n<=100000)
  (hgo:∀ d i σ' H' ys,i<n->W d i σ' H' ys->J.go i H') (hst:∀ d σ' H' ys,W d n σ' H' ys->J.stop n H')
  (hal:∀ d i σ' H' ys,i<=n->W d i σ' H' ys->ys.length<=i) (h0:∀ d,H d=none->W d 0 (bW own fr σ) (upd H d (.lst [])) [])
  (turn:∀ d i σ' H' ys x H2 (R:St->V->Hp->Prop) (R0:St->Hp->Prop),H d=none->i<n->W d i σ' H' ys->H' d=some (.lst ys)->J.yld i H' x H2 ->
   (∀ σ2 y H5,H5 d=some (.lst ys)->W d (i+1) σ2 (upd H5 d (.lst (ys++[y]))) (ys++[y])->R σ2 y H5)->(∀ σ2 H5,H5 d=some (.lst ys)->W d (i+1) σ2 H5 ys->R0 σ2 H5) ->
   g x σ' H2 fun σ2 H3=>tt σ2 H3 fun ok H4=>if ok=true then ta σ2 H4 (R σ2) else R0 σ2 H4)
  (fin:∀ d σ' H' ys,H d=none->H' d=some (.lst ys)->W d n σ' H' ys->Q (.ref d) H'):fL own fr g tt ta σ Q J H:=by
 intro d hd;refine ⟨fun i m σ' H'=>m=n - i/\i<=n/\∃ ys,H' d=some (.lst ys)/\W d i σ' H' ys,⟨n,rfl,M7 _,[],ar,h0 d hd⟩,?_⟩;rintro i m σ' H' ⟨rfl,hi,ys,hys,w⟩
 by_cases hlt:i<n
 ·refine .inr ⟨hgo d i σ' H' ys hlt w,fun x H2 hx=>turn d i σ' H' ys x H2 _ _ hd hlt w hys hx (fun σ2 y H5 h1 h2=>?_) (fun σ2 H5 h1 h2=>?_)⟩
  ·have hl:=hal d i σ' H' ys hi w;exact ⟨ys,h1,Na (show ys.length<=100000 by omega) (by rw [Nx];decide),n - (i+1),by omega,rfl,hlt,_,ar,h2⟩
  ·exact ⟨n - (i+1),by omega,rfl,hlt,ys,h1,h2⟩
 ·have e:i=n:=by omega
  subst e;exact .inl ⟨hst d σ' H' ys w,fin d σ' H' ys hd hys w⟩
theorem vg {a:Int} {n:Nat} (e:a=(n:Int)) (hz:n<=100000) (W:Addr->Nat->St->Hp->List V->Prop)
  (hal:∀ d i σ' H' ys,i<=n->W d i σ' H' ys->ys.length<=i) (h0:∀ d,H d=none->W d 0 (bW own fr σ) (upd H d (.lst [])) [])
  (turn:∀ d i σ' H' ys (R:St->V->Hp->Prop) (R0:St->Hp->Prop),H d=none->i<n->W d i σ' H' ys->H' d=some (.lst ys) ->
   (∀ σ2 y H5,H5 d=some (.lst ys)->W d (i+1) σ2 (upd H5 d (.lst (ys++[y]))) (ys++[y])->R σ2 y H5)->(∀ σ2 H5,H5 d=some (.lst ys)->W d (i+1) σ2 H5 ys->R0 σ2 H5) ->
   g (.int (i:Int)) σ' H' fun σ2 H3=>tt σ2 H3 fun ok H4=>if ok=true then ta σ2 H4 (R σ2) else R0 σ2 H4)
  (fin:∀ d σ' H' ys,H d=none->H' d=some (.lst ys)->W d n σ' H' ys->Q (.ref d) H'):wZ [.int a] H (fL own fr g tt ta σ Q):=by
 subst e;refine ⟨n,rfl,by omega,by omega,?_⟩
 have z:((n:Int)).toNat=n:=by omega
 show fL own fr g tt ta σ Q (Itr 0 (n:Int).toNat) H;rw [z];refine uT (n:=n) W hz (fun d i σ' H' ys hi _=>hi) (fun d σ' H' ys _=>Mh n) hal h0 (fun d i σ' H' ys x H2 R R0 hd hi w hys hy=>?_) fin;obtain ⟨e1,e2⟩:=hy;subst e1 e2;rw [Sx];exact turn d i σ' _ ys R R0 hd hi w hys
theorem oO {p:Addr} {xs:List V} (hz:xs.length<=100000) (W:Addr->Nat->St->Hp->List V->Prop) (hw:∀ d i σ' H' ys,W d i σ' H' ys->SqL K H' p xs) (hS:SqL K H p xs)
  (hal:∀ d i σ' H' ys,i<=xs.length->W d i σ' H' ys->ys.length<=i) (h0:∀ d,H d=none->W d 0 (bW own fr σ) (upd H d (.lst [])) [])
  (turn:∀ d i x σ' H' ys (R:St->V->Hp->Prop) (R0:St->Hp->Prop),H d=none->xs[i]?=some x->W d i σ' H' ys->H' d=some (.lst ys) ->
   (∀ σ2 y H5,H5 d=some (.lst ys)->W d (i+1) σ2 (upd H5 d (.lst (ys++[y]))) (ys++[y])->R σ2 y H5)->(∀ σ2 H5,H5 d=some (.lst ys)->W d (i+1) σ2 H5 ys->R0 σ2 H5) ->
   g x σ' H' fun σ2 H3=>tt σ2 H3 fun ok H4=>if ok=true then ta σ2 H4 (R σ2) else R0 σ2 H4)
  (fin:∀ d σ' H' ys,H d=none->H' d=some (.lst ys)->W d xs.length σ' H' ys->Q (.ref d) H'):mH K (.ref p) H (fL own fr g tt ta σ Q):=by
 refine ⟨p,rfl,⟨xs,hS⟩,uT (J:=Itl K p) (n:=xs.length) W hz (fun d i σ' H' ys hi w=>⟨xs,xs[i],hw d i σ' H' ys w,by simp [hi]⟩) (fun d σ' H' ys w=>⟨xs,hw d _ σ' H' ys w,Mh _⟩) hal h0 (fun d i σ' H' ys x H2 R R0 hd hi w hys hy=>?_) fin⟩
 obtain ⟨e1,e2⟩:=hy;subst e1;exact turn d i x σ' _ ys R R0 hd (e2 xs (hw d i σ' _ ys w)) w hys
theorem Ff {p:Addr} {xs:List V} {ia ib:Nat} (hz:xs.length<=100000) (W:Addr->Nat->St->Hp->List V->Prop) (hw:∀ d i σ' H' ys,W d i σ' H' ys->SqL K H' p xs) (hS:SqL K H p xs)
  (hal:∀ d i σ' H' ys,i<=xs.length->W d i σ' H' ys->ys.length<=i) (h0:∀ d,H d=none->W d 0 (bW own fr σ) (upd H d (.lst [])) [])
  (turn:∀ d i x σ' H' H2 ys (R:St->V->Hp->Prop) (R0:St->Hp->Prop),H d=none->xs[i]?=some x->W d i σ' H' ys->H' d=some (.lst ys)->ai H' H2 ->
   (∀ σ2 y H5,H5 d=some (.lst ys)->W d (i+1) σ2 (upd H5 d (.lst (ys++[y]))) (ys++[y])->R σ2 y H5)->(∀ σ2 H5,H5 d=some (.lst ys)->W d (i+1) σ2 H5 ys->R0 σ2 H5) ->
   tt ((σ'.set ia (some (.int (i:Int)))).set ib (some x)) H2 fun ok H4=>if ok=true then ta ((σ'.set ia (some (.int (i:Int)))).set ib (some x)) H4 (R ((σ'.set ia (some (.int (i:Int)))).set ib (some x))) else R0 ((σ'.set ia (some (.int (i:Int)))).set ib (some x)) H4)
  (fin:∀ d σ' H' ys,H d=none->H' d=some (.lst ys)->W d xs.length σ' H' ys->Q (.ref d) H'):De K [.ref p] H (fL own fr (xR K 2 (lU (ig ia) (lU (ig ib) xm))) tt ta σ Q):=by
 refine ⟨p,xs,rfl,hS,uT (J:=Ite K p) (n:=xs.length) W hz (fun d i σ' H' ys hi w=>⟨xs,xs[i],hw d i σ' H' ys w,by simp [hi]⟩) (fun d σ' H' ys w=>⟨xs,hw d _ σ' H' ys w,Mh _⟩) hal h0 (fun d i σ' H' ys x H2 R R0 hd hi w hys hy hR hR0=>?_) fin⟩
 obtain ⟨q,x',rfl,hq,rfl,e2⟩:=hy;have hx:=e2 xs (hw d i σ' H' ys w);refine ⟨q,[.int (i:Int),x'],rfl,SqT.of ar,rfl,⟨_,_,rfl,⟨_,_,rfl,⟨rfl,?_⟩⟩⟩⟩;exact turn d i x' σ' H' _ ys R R0 hd hx w hys (aG hq _) hR hR0
end
theorem Tbl.nil {H:Hp} {d:Addr}:Tbl (upd H d (.lst [])) d [] []:=⟨ar,Qs,by simp,rfl,fun i p r e=>by simp at e⟩
theorem Tbl.snoc {H H5:Hp} {d p:Addr} {L:List (List Nat)} {ps:List Addr} {s:List Nat} (h:Tbl H d L ps) (hs:ai H H5) (hp:H5 p=some (.lst (bb s))) (hn:p∉ps) (hd:p≠d) :
  Tbl (upd H5 d (.lst (ps.map V.ref++[.ref p]))) d (L++[s]) (ps++[p]):=by
 refine ⟨?_,?_,?_,?_,fun i q r e1 e2=>?_⟩
 ·rw [ar,MM];rfl
 ·exact Cr h.nd hn
 ·intro z;rcases MD.mp z with z|z
  ·exact h.ap z
  ·exact hd (Ma.mp z).symm
 ·rw [Mm,Mm,h.len];rfl
 ·have hl:=h.len;rcases MN i ps.length with z|z
  ·rw [MB z] at e1;rw [MB (by omega)] at e2
   have hq:q≠d:=fun c=>h.ap (c ▸ LS e1);rw [au hq];exact hs _ _ (h.row i q r e1 e2)
  ·rw [MA z] at e1;rw [MA (by omega)] at e2
   have i0:i - ps.length=0:=by
    rcases Qo (i - ps.length) with c|c
    ·exact c
    ·rw [Nr (by simp;omega)] at e1;cases e1
   rw [i0] at e1;rw [show i - L.length=0 by omega] at e2
   cases e1;cases e2;rw [au hd];exact hp
section
variable {H:Hp} {σ:St} {Q:VK} {td ty tv:TE}
def nk (k:Nat):Key:=QP (k:Int)
def Ia (x y:V) (H:Hp) (Q:VK):Prop:=∃ a v,x=.ref a/\rE H a y (some v)/\Q v H
def HX (x y v:V) (H:Hp) (D:Hp->Prop):Prop:=∃ a H4,x=.ref a/\tT H a y v H4/\D H4
theorem tX (h:td σ H fun x H1=>ty σ H1 fun y H2=>Ia x y H2 Q):Ig td ty σ H Q:=h
theorem Jd {D:Ends} (h:tv σ H fun v H1=>td σ H1 fun x H2=>ty σ H2 fun y H3=>HX x y v H3 (D.nx σ)):Ih td ty tv D σ H:=h
theorem vx {a:Addr} {k:Nat} {kvs:List (Key×V)} {v:V} (h:H a=some (.dK kvs)) (hv:eJ kvs (nk k)=some v) (q:Q v H):Ia (.ref a) (.int (k:Int)) H Q :=
 ⟨a,v,rfl,by rw [<- hv];exact rE.k (k:=nk k) h,q⟩
theorem KP {D:Hp->Prop} {a:Addr} {k:Nat} {kvs:List (Key×V)} {v:V} (h:H a=some (.dK kvs)) (hl:kvs.length<=100000) (q:D (upd H a (.dK (putK kvs (nk k) v)))):HX (.ref a) (.int (k:Int)) v H D :=
 ⟨a,_,rfl,tT.k (k:=nk k) h (Na hl (by rw [Nx];decide)),q⟩
theorem J1 (h:∀ p,H p=none->Q (.ref p) (upd H p (.dK []))):Gh σ H Q:=h
theorem A4 {a b:Nat} (h:nk a=nk b):a=b:=QY (QP.inj h)
end
section
variable {prog:Mp} {w:World} {A:MR} {s:LU} {R:Q9->LU->Prop}
variable {I:Addr} {fp wr:List Addr} {G:Array PQ->Array PQ->Prop} {n:Nat} {P:Nat->Value->Prop} {St:Nat->LU->Prop}
end
section
variable {prog:Mp} {w:World} {A:MR} {s:LU} {R:Q9->LU->Prop} {E:Value->LU->Prop}
variable {I:Addr} {fp wr:List Addr} {G:Array PQ->Array PQ->Prop} {n:Nat} {P:Nat->Value->Prop} {St:Nat->LU->Prop}
end
section
variable {X:Cx} {pins:List (Addr×Obj)} {σ:St} {H:Hp} {s:LU} {a:Addr} {kvs:List (Key×V)} {ep:Nat}
end
section
variable {P:Mp} {w:World} {σ:St} {H:Hp} {Q:VK} {td ty:TE} {tl:TE} {ta:TA} {K:LN}
end
def Hu (f:Int->Int->Int):List V->Hp->VK->Prop:=fun xs H Q=>∃ a b:Int,xs=[.int a,.int b]/\Q (.int (f a b)) H
theorem EA {X:Cx} (hc:X.calm=true):da X (.builtin "max") (Hu fun a b=>max a b):=by
 intro pins s σ H xs us Q I r h;obtain ⟨a,b,rfl,q⟩:=h;obtain ⟨u,v,rfl,ru,rv⟩:=vals2 r;obtain ⟨t,rfl⟩:=(show ∃ t,u=Oe a t from ru);obtain ⟨t',rfl⟩:=(show ∃ t,v=Oe b t from rv);refine max_two_ints (I.ok.hd hc) fun h' tk k=>⟨.int (max a b),H,I.kept (t':=tk) k,?_,q⟩
 by_cases z:b > a
 ·rw [if_pos z];exact ⟨t',by rw [Int.max_eq_right (Int.le_of_lt z)]⟩
 ·rw [if_neg z];exact ⟨t,by rw [Int.max_eq_left (by omega)]⟩
theorem ym {X:Cx} (hc:X.calm=true):da X (.builtin "min") (Hu fun a b=>min a b):=by
 intro pins s σ H xs us Q I r h;obtain ⟨a,b,rfl,q⟩:=h;obtain ⟨u,v,rfl,ru,rv⟩:=vals2 r;obtain ⟨t,rfl⟩:=(show ∃ t,u=Oe a t from ru);obtain ⟨t',rfl⟩:=(show ∃ t,v=Oe b t from rv);refine min_two_ints (I.ok.hd hc) fun h' tk k=>⟨.int (min a b),H,I.kept (t':=tk) k,?_,q⟩
 by_cases z:b<a
 ·rw [if_pos z];exact ⟨t',by rw [Int.min_eq_right (Int.le_of_lt z)]⟩
 ·rw [if_neg z];exact ⟨t,by rw [Int.min_eq_left (by omega)]⟩
section
variable {X:Cx} {CX:CXT} {k:Nat} {f C:Addr} {fd:MZ} {ps:List Str} {sp:Sp} {m:Str} {pos apos:Pos} {e o:Expr} {es:List Expr} {ta:TE} {t:TA}
end
section
variable {σ:St} {H:Hp} {Q:VK} {K:LN}
theorem Ei {f:Int->Int->Int} {a b:Int} (q:Q (.int (f a b)) H):Hu f [.int a,.int b] H Q:=⟨a,b,rfl,q⟩
end
section
variable {σ:St} {H:Hp} {Q:VK} {D:Ends} {g:TG} {t:TS} {tA:TA} {tt:TT} {ta:TE} {own:List Str} {fr:List Nat}
end
theorem cH:∀ (names:List (Str×OT)) (n:Nat) (acc:List (Str×Addr)),cellsFrom n names acc=cellsFrom n names []++acc
 | [],_,_=>rfl
 | (x,k) :: r,n,acc=>by
  unfold cellsFrom
  split
  ·rw [cH r (n+1) ((x,n) :: acc),cH r (n+1) [(x,n)],PD];rfl
  ·exact cH r n acc
theorem kf:∀ (names:List (Str×OT)) (n:Nat) (x:Str),(x,Nu)∈names->∃ c,(cellsFrom n names []).lookup x=some c
 | (y,k) :: r,n,x,h=>by
  unfold cellsFrom;rcases Mv.mp h with e|h
  ·cases e;rw [if_pos (show (Nu == Nu)=true from rfl),cH,Ot];cases q:(cellsFrom (n+1) r []).lookup y with
   | some c=>exact ⟨c,rfl⟩
   | none=>exact ⟨n,by simp⟩
  ·split
   ·obtain ⟨c,hc⟩:=kf r (n+1) x h;rw [cH,Ot,hc];exact ⟨c,rfl⟩
   ·exact kf r n x h
theorem m7:∀ (names:List (Str×OT)) (n:Nat) (x:Str) (c:Addr),(x,c)∈cellsFrom n names []->(x,Nu)∈names
 | [],_,_,_,h=>by simp [cellsFrom] at h
 | (y,k) :: r,n,x,c,h=>by
  unfold cellsFrom at h
  split at h
  ·rename_i hk
   rw [cH] at h;rcases MD.mp h with z|z
   ·exact Me _ (m7 r (n+1) x c z)
   ·have z':=Ma.mp z;cases z';have:k=Nu:=by simpa using hk
    rw [this];exact Mj
  ·exact Me _ (m7 r n x c h)
theorem ur {M:Model} {A:MR} {E:Value->LU->Prop} {s:LU} {scope:Scope} {globals:Addr} {cl:List (Str×Addr)} {qual:Str} {env:Env} {Q:Env->LU->Prop}
  (h:Q (newEnv scope s.heap.objs.size globals (cellsFrom (s.heap.objs.size+1) scope.names cl) qual none .none (some env) builtinsNs) { s with heap:=pushCells (s.heap.push { cls:=.type "dict",data:=.dict #[] }) scope.names }) :
  wpAny M A (newFunctionEnv scope globals cl [] qual none .none (some env)) Q E s:=by
 simp only [newFunctionEnv,Option.isSome_some,if_true];refine LQ (wpAny_alloc ?_);refine LQ (wpAny_layCells _ (fun name kind cells=>by cases hkc:kind == Nu <;> simp [hkc]) _ _ _ _ ?_)
 rw [show ({ s with heap:=s.heap.push { cls:=.type "dict",data:=.dict #[] } }:LU).heap.objs.size=s.heap.objs.size+1 from NN ..];exact LQ (Md (Md h))
def dA (X:Cx) (scope:Scope) (own:List Str) (fr:List Nat) (C:Addr) (s₂:LU) (H₂:Hp) (fp:List Addr):Cx :=
 { X with N:=ki own fr X.N,s₀:=s₂,H₀:=H₂,env:=compEnvC scope (cellsFrom (C+1) scope.names (eV X.env scope.names [])) C X.env,outer:=X.stack,ex:=fp,fn:=fun x=>decide ((x,Nu)∈scope.names),pn:=[],xe:=fun _ _=>False }
structure gE (sc:Scope) (N:List Str) (scope:Scope) (own:List Str) (fr:List Nat):Prop where
 kind:scope.kind=.function
 cf0:∀ y∈scope.names,y.2=.cell->(y.1,ND)∉scope.names
 names:∀ y∈scope.names,y.2=.local->scope.names.lookup y.1=some .local
 free:∀ y∈scope.names,y.2=.free->sc.names.lookup y.1=some .cell\/sc.names.lookup y.1=some .free
 fr0:∀ i∈fr,(N[i]?.bind fun x=>scope.names.lookup x)=some .free
 nd:(ki own fr N).Nodup
theorem gE.cf {sc:Scope} {N:List Str} {scope:Scope} {own:List Str} {fr:List Nat} (S:gE sc N scope own fr) (x:Str) (h:(x,Nu)∈scope.names):(x,ND)∉scope.names:=S.cf0 _ h rfl
theorem gE.fr {sc:Scope} {N:List Str} {scope:Scope} {own:List Str} {fr:List Nat} (S:gE sc N scope own fr):∀ i∈fr,∃ x,N[i]?=some x/\scope.names.lookup x=some .free:=fun i hi=>by
 have q:=S.fr0 i hi;cases e:N[i]? with
 | none=>rw [e] at q;cases q
 | some x=>rw [e] at q;exact ⟨x,rfl,q⟩
section
variable {X:Cx} {scope:Scope} {own:List Str} {fr:List Nat} {pins:List (Addr×Obj)} {σ:St} {H₂:Hp} {s₂:LU} {fp:List Addr} {C D:Addr} {h₁:Heap} {m:Str->Option Value} {tk:Nat}
theorem gE.cells (S:gE X.env.scope X.N scope own fr) (ok:X.Ok):∀ x∈scope.names,x.2=.free->∃ c,X.env.cells.lookup x.1=some c:=fun x hx hf=>ok.has x.1 (S.free x hx hf)
theorem F0 (S:gE X.env.scope X.N scope own fr) (I:Inv X pins σ H₂ s₂) (f2:∀ b∈fp,mj X pins H₂ b) (fo:∀ b∈fp,b<s₂.heap.objs.size)
  (hC:s₂.heap.objs.size<=C) (hD:s₂.heap.objs.size<=D) (hDC:D≠C) (hDC':D<C) (old:∀ b o,s₂.heap.get? b=some o->h₁.get? b=some o) (hns:h₁.Ns C m) (new:∃ n,h₁.get? D=some { cls:=.type "list",data:=.seq #[] n }) (okc:CellsOk h₁ (C+1) (cellsFrom (C+1) scope.names [])) :
  Inv (dA X scope own fr C s₂ H₂ fp) [] (bW own fr σ) (upd H₂ D (.lst [])) { s₂ with heap:=h₁,toks:=tk }:=by
 have hk:=S.cells I.ok;have sub:=vb (env:=X.env) scope.names [] hk (fun x c e=>by cases e)
 have fl:∀ x c,(eV X.env scope.names []).lookup x=some c->∃ v,s₂.heap.IsCell c v:=fun x c e=>I.cell x c (sub x c e);have two:∀ x c,(cellsFrom (C+1) scope.names (eV X.env scope.names [])).lookup x=some c->((cellsFrom (C+1) scope.names []).lookup x=some c)\/(eV X.env scope.names []).lookup x=some c:=fun x c e=>by
  rw [cH,Ot] at e;cases q:(cellsFrom (C+1) scope.names []).lookup x with
  | none=>rw [q] at e;exact .inr e
  | some c'=>rw [q] at e;exact .inl e
 have nw:∀ x c,(cellsFrom (C+1) scope.names []).lookup x=some c->h₁.IsCell c none/\C+1<=c:=fun x c e=>okc.empty x c (MW e);have ge:∀ x c,(cellsFrom (C+1) scope.names []).lookup x=some c->s₂.heap.objs.size<=c:=fun x c e=>M4 hC (N5 (nw x c e).2);have olt:∀ x c,(eV X.env scope.names []).lookup x=some c->c<s₂.heap.objs.size:=fun x c e=>by
  obtain ⟨v,o,z1,_⟩:=fl x c e;exact Mf z1
 have okX:(dA X scope own fr C s₂ H₂ fp).Ok:=by
  refine ⟨I.ok.mod,S.kind,I.ok.glob,I.ok.blt,hC,fun x y c e1 e2=>?_,fun x hx=>?_,fun x c hf e=>?_,I.ok.hd,I.ok.frames,.inl rfl,fun b hb=>⟨?_,fun x c e z=>?_⟩,
   I.bs,M4 I.ok.bsz I.sz,fun b o e hb=>?_,fun b hb=>?_,I.stack,I.xG⟩
  ·rcases two x c e1 with z1|z1 <;> rcases two y c e2 with z2|z2
   ·exact name_of_addr okc.apart (MW z1) (MW z2)
   ·exact absurd (Na (ge x c z1) (olt y c z2)) (Nt _)
   ·exact absurd (Na (ge y c z2) (olt x c z1)) (Nt _)
   ·exact I.ok.inj x y c (sub x c z1) (sub y c z2)
  ·show ∃ c,(cellsFrom (C+1) scope.names (eV X.env scope.names [])).lookup x=some c;rw [cH,Ot];cases q:(cellsFrom (C+1) scope.names []).lookup x with
   | some c'=>exact ⟨c',rfl⟩
   | none =>
    rcases m6 hx with z|z
    ·exact ox _ _ _ z
    ·obtain ⟨c,hc⟩:=kf scope.names (C+1) x z;rw [q] at hc;cases hc
  ·rcases two x c e with z|z
   ·exact ge x c z
   ·exfalso
    have hf':(x,Nu)∈scope.names:=of_decide_eq_true hf;have e':(cellsFrom (C+1) scope.names (eV X.env scope.names [])).lookup x=some c:=e;obtain ⟨c',hc'⟩:=kf scope.names (C+1) x hf';rw [cH,Ot,hc'] at e';cases e';exact absurd (Na (ge x _ hc') (olt x _ z)) (Nt _)
  ·exact Mn (Mi (fo b hb) hC)
  ·rcases two x c e with y|y
   ·exact absurd (Na (ge x c y) (z ▸ fo b hb)) (Nt _)
   ·exact (f2 b hb).2.2.2.2.1 x c (sub x c y) z
  ·obtain ⟨_,_,_,f3,_⟩:=f2 b hb;rcases f3 with z|z
   ·exact I.ok.uM b o e z
   ·exact absurd (Mi (Mf (I.ok.bs b o e).1) z) (Nt _)
  ·obtain ⟨_,f1,f2',_⟩:=f2 b hb;intro z;rcases Mv.mp (I.so b z) with q|q
   ·exact f1 q
   ·exact f2' q
 have frH:∀ a,s₂.heap.objs.size<=a->H₂ a=none:=fun a h=>I.hok.fresh h;refine ⟨okX,rfl,I.bare,Un.laid old hD (frH D hD),⟨m,hns,fun i x v e1 e2 e3=>?_⟩,fun x c e=>?_,?_,fun x c e=>?_,fun p hp=>absurd (show p∈([]:List (Addr×Obj)) from hp) (by simp),I.hok.laid old hD ?_,?_⟩
 ·obtain ⟨j,hi,hj,hv⟩:=wU e2;have hx:X.N[j]?=some x:=by
   obtain ⟨y,hy,_⟩:=S.fr j (LS hj);have e1':(ki own fr X.N)[i]?=some x:=e1;unfold ki at e1';rw [MA hi,Mc,hj] at e1';have e1'':(X.N[j]?).getD ("" : Str)=x:=by simpa using e1'
   rw [hy] at e1'' ⊢;exact congrArg some e1''
  obtain ⟨y,hy,hfree⟩:=S.fr j (LS hj);rw [hx] at hy;cases hy;have hkind:X.env.kindOf x=some .cell\/X.env.kindOf x=some .free:=S.free _ (MW hfree) rfl;obtain ⟨mo,hno,hlo⟩:=I.loc;obtain ⟨u,r,l⟩:=hlo j x v hx hv (hkind.elim (fun z=>.inr (.inl z)) fun z=>.inr (.inr z));refine ⟨u,r,.inr ⟨nP hfree,?_⟩⟩;obtain ⟨c,hc⟩:=ox (env:=X.env) scope.names [] x (MW hfree);have hno:(cellsFrom (C+1) scope.names []).lookup x=none:=by
   cases q:(cellsFrom (C+1) scope.names []).lookup x with
   | none=>rfl
   | some c'=>exact absurd (MW hfree) (S.cf x (m7 scope.names (C+1) x c' (MW q)))
  refine ⟨c,by show (cellsFrom (C+1) scope.names (eV X.env scope.names [])).lookup x=some c;rw [cH,Ot,hno];exact hc,?_⟩
  have hc':=sub x c hc;rcases l with ⟨k,_⟩|⟨_,c',e,o,z1,z2⟩
  ·rcases hkind with z|z
   ·rw [k] at z;cases z
   ·rw [k] at z;cases z
  ·rw [hc'] at e;cases e;exact ⟨o,old _ _ z1,z2⟩
 ·rcases two x c e with y|y
  ·exact ⟨none,(nw x c y).1⟩
  ·obtain ⟨v,o,z1,z2⟩:=fl x c y;exact ⟨v,o,old _ _ z1,z2⟩
 ·show (upd H₂ D (.lst [])) C=none;rw [au (NY hDC)];exact frH C hC
 ·rcases two x c e with y|y
  ·rw [au (show c≠D from O6 (PY hDC' (nw x c y).2))];exact frH c (ge x c y)
  ·obtain ⟨v,o,z1,z2⟩:=fl x c y;rw [au (Mn (Mi (Mf z1) hD))];exact I.fV x c (sub x c y)
 ·obtain ⟨n,e⟩:=new;exact ⟨M7 _,[],n,.nil,e⟩
 ·show (bW own fr σ).length=(ki own fr X.N).length;simp [bW,ki]
end
section
variable {X:Cx} {elt tg iter:Expr} {ifs:List Expr} {scope:Scope} {pos:Pos} {own:List Str} {fr:List Nat} {wi:TI} {g:TG} {tt:TT} {te:TE}
theorem D4 {pins:List (Addr×Obj)} {s:LU} {σ:St} {H:Hp} {Q:VK} {RR:Value->Addr->Q9->LU->Prop} (hc:X.calm=true) (S:gE X.env.scope X.N scope own fr) (hi:PI X tg iter wi)
  (hb:∀ C s₂ H₂ fp,PG (dA X scope own fr C s₂ H₂ fp) tg g/\PIf (dA X scope own fr C s₂ H₂ fp) ifs tt/\PE (dA X scope own fr C s₂ H₂ fp) elt te)
  (I:Inv X pins σ H s) (h:uh own fr wi g tt te σ H Q)
  (hRR:∀ D C s' H' m',Inv X pins σ H' s'->Q (.ref D) H'->mj X pins H' C->s'.heap.Ns C m'->RR (.ref D) C (.ok .next) s') :
  wpAny (model X.prog X.w) X.A (eval iter X.env) (fun v s₁=>wpAny (model X.prog X.w) X.A (pyIter v) (fun it s₂=>wpAny (model X.prog X.w) X.A (newList []) (fun acc s₃ =>
   wpAny (model X.prog X.w) X.A (newFunctionEnv scope X.env.globals (eV X.env scope.names []) [] X.env.qual none .none (some X.env)) (fun cenv s₄ =>
    codeAny (model X.prog X.w) X.A (.compStart (.ListComp elt [⟨tg,iter,ifs,0⟩] scope pos) 0 it acc { cenv with scope:=relabel scope X.env }) (RR acc cenv.locals) s₄) X.xe s₃) X.xe s₂) X.xe s₁) X.xe s:=by
 refine thn (hi pins s σ H _ I h) fun v s1 h1=>thn h1 fun itv s2 h2=>?_;obtain ⟨it,fp,tn,J,H2,e,I2,T,st2,f2,hq⟩:=h2;subst e;refine NZ (ur ?_);dsimp only;have hD:=I2.hok.fresh (Mh s2.heap.objs.size);obtain ⟨W,⟨m0,w0⟩,turn⟩:=hq s2.heap.objs.size hD;generalize hH2:s2.heap.push { cls:=.type "list",dict:=none,data:=.seq ([]:List Value).toArray }=G at ⊢;have hG:G.objs.size=s2.heap.objs.size+1:=by rw [<- hH2,NN]
 have hDC:s2.heap.objs.size≠G.objs.size:=by rw [hG];exact Mn (Ob _)
 have hC:s2.heap.objs.size<=G.objs.size:=by rw [hG];exact OF _
 have old:∀ b o,s2.heap.get? b=some o->(pushCells (G.push { cls:=.type "dict",data:=.dict #[] }) scope.names).get? b=some o:=fun b o e =>
  RD _ _ b o (L7 _ (hH2 ▸ L7 _ e))
 have new:(pushCells (G.push { cls:=.type "dict",data:=.dict #[] }) scope.names).get? s2.heap.objs.size=some { cls:=.type "list",data:=.seq #[] 0 } :=
  RD _ _ _ _ (L7 _ (hH2 ▸ Mz _ rfl))
 have hns₁:(pushCells (G.push { cls:=.type "dict",data:=.dict #[] }) scope.names).Ns G.objs.size (fun _=>none):=(Heap.Ns.new G (.type "dict")).keeps (RD _ _);have okc:=cellsFrom_ok scope.names (G.push { cls:=.type "dict",data:=.dict #[] }) (G.objs.size+1) [] ⟨fun _ _ hm=>(nomatch hm),Qy⟩ (by rw [NN];exact Mh _)
 rw [NN] at okc;generalize hh1:pushCells (G.push { cls:=.type "dict",data:=.dict #[] }) scope.names=h₁ at old new hns₁ okc ⊢;have fo:∀ b∈fp,b<s2.heap.objs.size:=fun b hb'=>let ⟨o,e,_⟩:=T.obj 0 _ st2 b hb';Mf e;have I4:Inv (dA X scope own fr G.objs.size s2 H2 fp) [] (bW own fr σ) (upd H2 s2.heap.objs.size (.lst [])) { s2 with heap:=h₁ } :=
  F0 (tk:=s2.toks) S I2 f2 fo hC (Mh _) hDC (by rw [hG];exact Ob _) old hns₁ ⟨_,new⟩ okc
 obtain ⟨hg,ht,he⟩:=hb G.objs.size s2 H2 fp;have fpX:∀ {H':Hp},(∀ b∈fp,H' b=none)->∀ b∈fp,mj (dA X scope own fr G.objs.size s2 H2 fp) [] H' b:=fun {H'} hn b hb'=>by
  refine ⟨hn b hb',Mn (Mi (fo b hb') hC),I4.ok.tG b hb',.inl hb',(I4.ok.exf b hb').2,fun p hp=>absurd (show p∈([]:List (Addr×Obj)) from hp) (by simp)⟩
 have fr0:∀ b∈fp,(upd H2 s2.heap.objs.size (.lst [])) b=none:=fun b hb'=>by
  rw [au (Mn (fo b hb'))];exact (f2 b hb').1
 have tn0:tn 0 h₁:=T.keep _ _ _ st2 fun b hb' o e=>old b o e;have loop:codeAny (model X.prog X.w) X.A (.compLoop (.ListComp elt [⟨tg,iter,ifs,0⟩] scope pos) 0 (.ref it) (.ref s2.heap.objs.size) (compEnvC scope (cellsFrom (G.objs.size+1) scope.names (eV X.env scope.names [])) G.objs.size X.env))
   (RR (.ref s2.heap.objs.size) G.objs.size) { s2 with heap:=h₁ }:=by
  refine yr (fun n s'=>∃ i σ' H',Inv (dA X scope own fr G.objs.size s2 H2 fp) [] σ' H' s'/\tn i s'.heap/\(∀ b∈fp,H' b=none)/\W i n σ' H') ?_ m0 ⟨0,_,_,I4,tn0,fr0,w0⟩;rintro n s3 ⟨i,σ3,H3,I3,st3,fr3,w3⟩;have nfp:∀ {H':Hp} {s':LU} {σ':St} {pl:List (Addr×Obj)},Inv (dA X scope own fr G.objs.size s2 H2 fp) pl σ' H' s'->pl=mV fp s'.heap->True:=fun _ _=>trivial;rcases turn i n σ3 H3 w3 with ⟨stop,qn⟩|⟨go,step⟩
  ·refine thn (T.done (dA X scope own fr G.objs.size s2 H2 fp) rfl rfl rfl hc i [] s3 σ3 H3 (fun _ _=>False) I3 (fpX fr3) st3 stop) fun r s4 ⟨hr,I5⟩=>?_;subst hr;have IX:Inv X pins σ H3 s4:=I2.C5 (ch:=fp) I5.os I5.base I5.hok I5.bare fun b hb'=>let ⟨_,f1,_,f3,f4,f5⟩:=f2 b hb';⟨f3,f1,f4,f5⟩;obtain ⟨m',hn',_⟩:=I5.loc;exact hRR _ _ _ _ m' IX qn (I2.xI hC I5.free) hn'
  ·refine thn (T.item (dA X scope own fr G.objs.size s2 H2 fp) rfl rfl rfl hc i [] s3 σ3 H3 (fun _ _=>False) I3 (fpX fr3) st3 go) fun r s4 ⟨u,hr,h4⟩=>?_;subst hr;refine thn h4 fun _ s5 ⟨x,H5,I5,r5,y5,st5,fr5⟩=>?_;have I5':=I5.pinned (fpX fr5) (T.obj _ _ st5);refine thn (hg _ s5 σ3 H5 x u _ I5' r5 (step x H5 y5)) fun _ s6 ⟨σ6,H6,I6,q6⟩=>?_;have again:∀ {s7:LU} {σ7:St} {H7:Hp} {m':Nat},Inv (dA X scope own fr G.objs.size s2 H2 fp) ([]++mV fp s5.heap) σ7 H7 s7->m' < n->W (i+1) m' σ7 H7 ->
     ∃ m,m<n/\∃ i σ' H',Inv (dA X scope own fr G.objs.size s2 H2 fp) [] σ' H' s7/\tn i s7.heap/\(∀ b∈fp,H' b=none)/\W i m σ' H':=fun {s7 σ7 H7 m'} I7 hm w7=>by
    refine ⟨m',hm,i+1,σ7,H7,I7.nN,T.keep _ _ _ st5 fun b hb' o e=>(I7.pin (b,o) (MJ _ (MJ _ (jG hb' e)))).1,fun b hb'=>?_,w7⟩;obtain ⟨o,e,d⟩:=T.obj _ _ st5 b hb';exact (I7.pin (b,o) (MJ _ (MJ _ (jG hb' e)))).2.1
   refine thn (ht _ s6 σ6 H6 _ I6 q6) fun ok s7 ⟨H7,I7,q7⟩=>?_;cases ok with
   | false =>
    rw [if_neg Mo] at q7 ⊢;obtain ⟨m',hm,w7⟩:=q7;exact again I7 hm w7
   | true =>
    rw [if_pos rfl] at q7 ⊢;refine thn (he _ s7 σ6 H7 _ I7 q7) fun y s8 ⟨yv,H8,I8,r8,q8⟩=>?_;obtain ⟨ys,hy,hl,m',hm,w8⟩:=q8;refine thn (cX _ s8 σ6 H8 (.ref s2.heap.objs.size) [yv] _ [y] (fun _ H9=>H9=upd H8 s2.heap.objs.size (.lst (ys++[yv]))) I8 rfl (.cons r8 .nil) ⟨_,ys,yv,rfl,rfl,hy,hl,rfl⟩) fun _ s9 ⟨_,H9,I9,_,e9⟩=>?_;subst e9;exact again I9 hm w8
 exact Rl loop (T.self X.A 0 _ _ _ tn0 loop)
theorem As (hc:X.calm=true) (S:gE X.env.scope X.N scope own fr) (hi:PI X tg iter wi)
  (hb:∀ C s₂ H₂ fp,PG (dA X scope own fr C s₂ H₂ fp) tg g/\PIf (dA X scope own fr C s₂ H₂ fp) ifs tt/\PE (dA X scope own fr C s₂ H₂ fp) elt te)
  (hs:∀ x,foldedSetIterable iter X.env x=pure x:=by intro _;rfl):PE X (.ListComp elt [⟨tg,iter,ifs,0⟩] scope pos) (uh own fr wi g tt te):=by
 intro pins s σ H Q I h;rw [eval_ListComp];refine O8 (use:=none) rfl hs (xl (S.cells I.ok)) S.kind S.names ?_;refine D4 (RR:=fun acc C=>compPost (model X.prog X.w) X.A X.xe none (EP X pins σ Q) acc C) hc S hi hb I h ?_;intro D C s' H' m' I' q f hn;obtain ⟨f0,f1,f2,f3,f4,f5⟩:=f;exact ⟨m',hn,fun h' sb=>⟨.ref D,H',I'.turned (t':=s'.toks) (fun b o hb e=>(sb.2 b hb).trans e) f0 f1 f3 f4 f5,rfl,q⟩⟩
end
section
variable {K:LN} {H:Hp} {σ:St} {Q:VK} {tt:TT} {ta:TE} {own:List Str} {fr:List Nat}
end
section
variable {X:Cx}
end
end L2
namespace L2
section
variable {α:Type} {us:List α}
theorem len0 (h:us.length=0):us=[]:=QZ.mp h
theorem Am {n:Nat} (h:us.length=n+1):∃ a r,us=a :: r/\r.length=n:=by
 cases us with
 | nil=>simp at h
 | cons a r=>exact ⟨a,r,rfl,by simpa using h⟩
theorem ky (h:us.length=1):∃ a,us=[a]:=by
 obtain ⟨a,r,rfl,h2⟩:=Am h;obtain rfl:=len0 h2;exact ⟨a,rfl⟩
theorem dB (h:us.length=2):∃ a b,us=[a,b]:=by
 obtain ⟨a,r,rfl,h2⟩:=Am h;obtain ⟨b,rfl⟩:=ky h2;exact ⟨a,b,rfl⟩
theorem jX (h:us.length=3):∃ a b c,us=[a,b,c]:=by
 obtain ⟨a,r,rfl,h2⟩:=Am h;obtain ⟨b,c,rfl⟩:=dB h2;exact ⟨a,b,c,rfl⟩
theorem xq (h:us.length=4):∃ a b c d,us=[a,b,c,d]:=by
 obtain ⟨a,r,rfl,h2⟩:=Am h;obtain ⟨b,c,d,rfl⟩:=jX h2;exact ⟨a,b,c,d,rfl⟩
theorem LG (h:us.length=5):∃ a b c d e,us=[a,b,c,d,e]:=by
 obtain ⟨a,r,rfl,h2⟩:=Am h;obtain ⟨b,c,d,e,rfl⟩:=xq h2;exact ⟨a,b,c,d,e,rfl⟩
end
end L2
namespace L2
open PySem PySem.Spec PyProof.Rows
theorem cA.there {P:Mp} {w:World} {H:Hp} {h:Heap} {a:Addr} {o:HO} (x:cA P w H h a o):∃ ob,h.get? a=some ob:=by
 cases o with
 | lst xs=>obtain ⟨_,_,_,_,e⟩:=x;exact ⟨_,e⟩
 | tup xs=>obtain ⟨_,_,_,ob,e,_⟩:=x;exact ⟨_,e⟩
 | dK kvs=>obtain ⟨_,_,_,_,o,_,_,e,_⟩:=x;exact ⟨_,e⟩
 | dT kvs=>obtain ⟨_,_,_,_,o,_,_,e,_⟩:=x;exact ⟨_,e⟩
 | set S n=>obtain ⟨o,_,_,_,e,_⟩:=x;exact ⟨_,e⟩
 | ins C dx fs=>obtain ⟨_,_,_,e,_⟩:=x;exact ⟨_,e⟩
 | own y=>exact x
 | xd fs=>obtain ⟨_,⟨_,_,_,e,_⟩,_⟩:=x;exact ⟨_,e⟩
 | rng lo hi=>obtain ⟨_,_,_,e⟩:=x;exact ⟨_,e⟩
 | frz ob u=>obtain ⟨e,_⟩:=x;exact ⟨_,e⟩
 | tbl ps=>exact ⟨_,(show h.get? a=some _ from x)⟩
 | met f y=>exact ⟨_,(show h.get? a=some _ from x)⟩
 | ext φ=>obtain ⟨_,e,_⟩:=x;exact e
def kq (h:Heap) (x T C:Addr) (d:Option Addr) (fl:Value):Prop:=∃ oe vs oT ts,h.get? x=some oe/\oe.cls=.ref C/\oe.dict=d/\oe.data=.fields vs/\vs[1]?=some (.ref T)/\T≠x/\h.get? T=some oT/\oT.data=.fields ts/\ts[3]?=some fl
abbrev o7 (h:Heap) (x T C:Addr) (d:Option Addr):Prop:=kq h x T C d .none
def u4 (h:Heap) (x C:Addr) (d:Option Addr):Prop:=∃ oe vs,h.get? x=some oe/\oe.cls=.ref C/\oe.dict=d/\oe.data=.fields vs/\vs[1]?=some .none
def wK (h:Heap) (b:Addr):Prop:=∃ o vs,h.get? b=some o/\o.data=.fields vs
theorem kq.oY {h:Heap} {x T C:Addr} {d:Option Addr} {fl:Value} (e:kq h x T C d fl):∀ b∈[x,T],wK h b:=fun b hb=>by
 obtain ⟨oe,vs,oT,ts,e1,_,_,e3,_,_,e6,e7,_⟩:=e;rcases Mv.mp hb with rfl|hb
 ·exact ⟨_,_,e1,e3⟩
 ·obtain rfl:=Ma.mp hb;exact ⟨_,_,e6,e7⟩
theorem u4.oY {h:Heap} {x C:Addr} {d:Option Addr} (e:u4 h x C d):∀ b∈[x],wK h b:=fun b hb=>by
 obtain ⟨oe,vs,e1,_,_,e3,_⟩:=e;obtain rfl:=Ma.mp hb;exact ⟨_,_,e1,e3⟩
structure eS (l:List Env) (x:Addr) (ts:List Addr) (C:Addr) (d:Option Addr) (fl:Value) (T:Addr) (h h':Heap):Prop where
 keep:∀ b o,b∉frs l->b≠x->b∉ts->h.get? b=some o->h'.get? b=some o
 slot:∀ b o,b∈frs l->h.get? b=some o->∃ sl,h'.get? b=some { o with slots:=sl }
 exc:kq h' x T C d fl
 new:T∈ts\/h.get? T=none
theorem eS.on {l:List Env} {x T C:Addr} {ts:List Addr} {d:Option Addr} {f1 f2:Value} {h h1 h2:Heap} (a:eS l x ts C d f1 T h h1) (b:eS l x [T] C d f2 T h1 h2):eS l x ts C d f2 T h h2 where
 keep:=fun c o k1 k2 k3 q=>b.keep c o k1 k2 (fun z=>by
  rw [Ma.mp z] at k3 q;exact a.new.elim k3 fun y=>by rw [y] at q;cases q) (a.keep c o k1 k2 k3 q)
 slot:=fun c o k q=>by
  obtain ⟨s1,q1⟩:=a.slot c o k q;obtain ⟨s2,q2⟩:=b.slot c _ k q1;exact ⟨s2,q2⟩
 exc:=b.exc
 new:=a.new
section
variable {M:Model} {A:MR} {E:Value->LU->Prop} {s:LU} {base:Heap} {env:Env} {outer:List Env} {L x T C:Addr} {d:Option Addr} {fl:Value} {Q:Unit->LU->Prop}
theorem xM (f:Array Value->Array Value) (o:Obj):(Si f o).dict=o.dict:=by
 obtain ⟨oc,od,odt,osl⟩:=o;cases odt <;> rfl
theorem yj {head:Value} {hadNext:Bool} {oe:Obj} {vs:Array Value} (hfr:A.frames=some (env :: outer)) (hl:s.heap.FunFrames base (env :: outer)) (hf:env.frame=some L)
  (he:s.heap.get? x=some oe) (hc:oe.cls=.ref C) (hi:oe.dict=d) (hd:oe.data=.fields vs) (hz:1<vs.size) (h:∀ h' T,eS (env :: outer) x [] C d (rawInt L) T s.heap h'->Q () { s with heap:=h' }) :
  wpAny M A (frameOf env >>= fun a=>entryPlaceOf L hadNext >>= fun pl=>R7 head a .none (rawInt L) .none pl >>= fun b=>setField (.ref x) 1 b) Q E s:=by
 have nx:x∉frs (env :: outer):=fun hm=>by
  obtain ⟨_,o,ho,hn⟩:=hl.mem hm;rw [he] at ho;cases ho;exact hn vs hd
 refine LQ (wpAny_frameOf_fun hfr hl hf fun h1 hs=>LQ (wpAny_entryPlaceOf fun pl hpl=>?_));unfold R7 newFields;refine LQ (NZ ?_ (hpl.sizeOk5 _ _ _ _ _));have h3:([head,.ref L,.none,rawInt L,.none]++(if pl.isEmpty then Mq 6 Ow else pl)).toArray[3]?=some (rawInt L):=by simp
 generalize ([head,.ref L,.none,rawInt L,.none]++(if pl.isEmpty then Mq 6 Ow else pl)).toArray=arr at h3;have e1:h1.get? x=some oe:=(hs.2.1 x nx).trans he;have nT:h1.objs.size≠x:=O6 (Mf e1);have fresh:s.heap.get? h1.objs.size=none:=by
  cases q:s.heap.get? h1.objs.size with
  | none=>rfl
  | some o =>
   obtain ⟨sl,z⟩:=hs.2.2 _ _ q;exact absurd (Mf z) (Nt _)
 refine RX (L7 _ e1) hd hz (h _ h1.objs.size ⟨fun b o k1 k2 _ q=>?_,fun b o k1 q=>?_,?_,.inr fresh⟩)
 ·rw [Nb _ _ (NY k2)];exact L7 _ ((hs.2.1 b k1).trans q)
 ·obtain ⟨sl,z⟩:=hs.2.2 b o q;refine ⟨sl,?_⟩;rw [Nb _ _ (fun y=>nx (by rw [y];exact k1))]
  exact L7 _ z
 ·have hd':=Qp hd (·.setIfInBounds 1 (MI h1.objs.size));exact ⟨_,_,_,arr,NM _ (L7 _ e1) (RE hd'),(Obj.cls_mapFields _ _).trans hc,(xM _ _).trans hi,hd',by simp [hz],nT,
   (Nb _ _ (NY nT)).trans (Mz h1 rfl),rfl,h3⟩
theorem DM (hfr:A.frames=some (env :: outer)) (hl:s.heap.FunFrames base (env :: outer)) (hf:env.frame=some L) (he:u4 s.heap x C d)
  (h:∀ h' T,eS (env :: outer) x [] C d (rawInt L) T s.heap h'->Q () { s with heap:=h' }):wpAny M A (noteFrame (.ref x) env) Q E s:=by
 obtain ⟨oe,vs,e1,e2,e3,e4,e5⟩:=he;unfold noteFrame;simp only [hf];refine LQ (Oh e1 e4 e5 ?_);rw [if_neg (by decide)]
 exact yj hfr hl hf e1 e2 e3 e4 (Nw.mp e5).1 h
theorem Bk (hfr:A.frames=some (env :: outer)) (hl:s.heap.FunFrames base (env :: outer)) (hf:env.frame=some L) (he:kq s.heap x T C d fl) (hne:fl≠rawInt L)
  (h:∀ h' T',eS (env :: outer) x [T] C d (rawInt L) T' s.heap h'->Q () { s with heap:=h' }):wpAny M A (noteFrame (.ref x) env) Q E s:=by
 obtain ⟨oe,vs,oT,ts,e1,e2,e3,e4,e5,e6,e7,e8,e9⟩:=he;unfold noteFrame;simp only [hf];refine LQ (Oh e1 e4 e5 ?_);rw [if_pos (by simp)]
 refine LQ (Oh e7 e8 e9 ?_);rw [if_neg (fun z=>hne (eq_of_beq z))];have hz:=(Nw.mp e9).1;refine LQ (RX e7 e8 hz ?_);have other:∀ b,b≠T->(s.heap.update T (Si (·.setIfInBounds 3 Ow))).get? b=s.heap.get? b:=fun b hb=>Nb _ _ (NY hb);have norec:∀ b o,s.heap.get? b=some o->(∀ vs,o.data≠.fields vs)->b≠T:=fun b o q n z=>by
  rw [z,e7] at q;cases q;exact n ts e8
 refine yj hfr (hl.of_keeps fun b o q n=>⟨o,(other b (norec b o q n)).trans q,rfl⟩) hf ((other x (NY e6)).trans e1) e2 e3 e4 (Nw.mp e5).1 fun h' T' F=>h h' T' ⟨fun b o k1 k2 k3 q=>?_,fun b o k1 q=>?_,F.exc,?_⟩
 ·exact F.keep b o k1 k2 (by simp) ((other b fun z=>k3 (z ▸ .head _)).trans q)
 ·obtain ⟨_,o',ho',hn⟩:=hl.mem k1;rw [q] at ho';cases ho';exact F.slot b o k1 ((other b (norec b o q hn)).trans q)
 ·rcases F.new with z|z
  ·simp at z
  ·by_cases y:T'=T
   ·exact .inl (y ▸ .head _)
   ·rw [other T' y] at z;exact .inr z
theorem CC (hfr:A.frames=some (env :: outer)) (hl:s.heap.FunFrames base (env :: outer)) (hf:env.frame=some L) (he:o7 s.heap x T C d)
  (h:∀ h' T',eS (env :: outer) x [T] C d (rawInt L) T' s.heap h'->Q () { s with heap:=h' }):wpAny M A (noteFrame (.ref x) env) Q E s:=Bk hfr hl hf he (by simp [rawInt]) h
theorem vX (hf:env.frame=some L) (he:kq s.heap x T C d (rawInt L)) (h:Q () s):wpAny M A (noteFrame (.ref x) env) Q E s:=by
 obtain ⟨oe,vs,oT,ts,e1,e2,e3,e4,e5,e6,e7,e8,e9⟩:=he;unfold noteFrame;simp only [hf];refine LQ (Oh e1 e4 e5 ?_);rw [if_pos (by simp)]
 refine LQ (Oh e7 e8 e9 ?_);rw [if_pos (by simp)]
 exact Md h
theorem Hi {l:List Env} {fr:Option Addr} (hl:s.heap.FunFrames base l) (he:kq s.heap x T C d fl)
  (h:∀ h',(∀ b,b≠T->h'.get? b=s.heap.get? b)->eS l x [T] C d (fr.elim .none fun f=>rawInt f) T s.heap h'->Q () { s with heap:=h' }):wpAny M A (setFlight (.ref x) fr) Q E s:=by
 obtain ⟨oe,vs,oT,ts,e1,e2,e3,e4,e5,e6,e7,e8,e9⟩:=he;unfold setFlight;refine LQ (Oh e1 e4 e5 ?_);rw [if_pos (by simp)]
 have hz:=(Nw.mp e9).1;have other:∀ b,b≠T->(s.heap.update T (Si (·.setIfInBounds 3 (fr.elim Ow fun f=>rawInt f)))).get? b=s.heap.get? b:=fun b hb=>Nb _ _ (NY hb);refine RX e7 e8 hz (h _ other ⟨fun b o _ _ k3 q=>(other b fun z=>k3 (z ▸ .head _)).trans q,fun b o k1 q=>?_,?_,.inl (.head _)⟩)
 ·obtain ⟨_,o',ho',hn⟩:=hl.mem k1;refine ⟨o.slots,(other b fun z=>?_).trans q⟩;rw [z,e7] at ho';cases ho';exact hn ts e8
 ·exact ⟨oe,vs,_,_,(other x (NY e6)).trans e1,e2,e3,e4,e5,e6,NM _ e7 (RE (Qp e8 _)),Qp e8 _,by simp [hz]⟩
theorem jP {l:List Env} (hl:s.heap.FunFrames base l) (he:kq s.heap x T C d fl) (h:∀ h',eS l x [T] C d .none T s.heap h'->Q () { s with heap:=h' }):wpAny M A (setFlight (.ref x) none) Q E s:=Hi hl he fun h' _ F=>h h' F
theorem eS.gn {l:List Env} {ts:List Addr} {h h':Heap} (F:eS l x ts C d fl T h h') (hl:h.FunFrames base l):h'.FunFrames base l:=by
 have all:∀ m:List Env,(∀ b∈frs m,b∈frs l)->h.FunFrames base m->h'.FunFrames base m:=by
  intro m
  induction m with
  | nil=>intro _ _;trivial
  | cons e r ih =>
   intro hs ⟨hk,⟨L,o,hf,hn,ho,hd⟩,hr⟩;have e1:frs (e :: r)=L :: frs r:=by unfold frs;rw [NX,hf]
   rw [e1] at hs;obtain ⟨sl,q⟩:=F.slot L o (hs L (.head _)) ho;exact ⟨hk,⟨L,_,hf,hn,q,hd⟩,ih (fun b hb=>hs b (.tail _ hb)) hr⟩
 exact all l (fun _ z=>z) hl
theorem vv (hfr:A.frames=some (env :: outer)) (hl:s.heap.FunFrames base (env :: outer)) (hf:env.frame=some L) (he:o7 s.heap x T C d)
  (h:∀ h' T',eS (env :: outer) x [T] C d .none T' s.heap h'->Q () { s with heap:=h' }):wpAny M A (leaving env (.ref x)) Q E s:=by
 unfold leaving;exact LQ (CC hfr hl hf he fun h1 T1 F1=>jP (s:={ s with heap:=h1 }) (F1.gn hl) F1.exc fun h2 F2=>h h2 T1 (F1.on F2))
theorem ux (hfr:A.frames=some (env :: outer)) (hl:s.heap.FunFrames base (env :: outer)) (hf:env.frame=some L) (he:u4 s.heap x C d)
  (h:∀ h' T',eS (env :: outer) x [] C d .none T' s.heap h'->Q () { s with heap:=h' }):wpAny M A (leaving env (.ref x)) Q E s:=by
 unfold leaving;exact LQ (DM hfr hl hf he fun h1 T1 F1=>jP (s:={ s with heap:=h1 }) (F1.gn hl) F1.exc fun h2 F2=>h h2 T1 (F1.on F2))
theorem leave_held (hl:s.heap.FunFrames base (env :: outer)) (hf:env.frame=some L) (he:kq s.heap x T C d (rawInt L))
  (h:∀ h',eS (env :: outer) x [T] C d .none T s.heap h'->Q () { s with heap:=h' }):wpAny M A (leaving env (.ref x)) Q E s:=by
 unfold leaving;exact LQ (vX hf he (jP hl he h))
theorem G9 (hfr:A.frames=some (env :: outer)) (hl:s.heap.FunFrames base (env :: outer)) (hf:env.frame=some L) (he:kq s.heap x T C d fl)
  (h:∀ h' T',eS (env :: outer) x [T] C d (rawInt L) T' s.heap h'->Q () { s with heap:=h' }):wpAny M A (noteFrame (.ref x) env) Q E s:=by
 by_cases hne:fl=rawInt L
 ·subst hne;exact vX hf he (h s.heap T ⟨fun _ _ _ _ _ q=>q,fun b o _ q=>⟨o.slots,q⟩,he,.inl (.head _)⟩)
 ·exact Bk hfr hl hf he hne h
theorem Gf (hfr:A.frames=some (env :: outer)) (hl:s.heap.FunFrames base (env :: outer)) (hf:env.frame=some L) (he:kq s.heap x T C d fl)
  (h:∀ h' T',eS (env :: outer) x [T] C d .none T' s.heap h'->Q () { s with heap:=h' }):wpAny M A (leaving env (.ref x)) Q E s:=by
 unfold leaving;exact LQ (G9 hfr hl hf he fun h1 T1 F1=>jP (s:={ s with heap:=h1 }) (F1.gn hl) F1.exc fun h2 F2=>h h2 T1 (F1.on F2))
theorem EW (hfr:A.frames=some (env :: outer)) (hl:s.heap.FunFrames base (env :: outer)) (hf:env.frame=some L) (he:o7 s.heap x T C d)
  (h:∀ h' T',eS (env :: outer) x [T] C d .none T' s.heap h'->Q () { s with heap:=h' }):wpAny M A (noteFrame (.ref x) env) (fun _ s₂=>wpAny M A (setFlight (.ref x) none) Q E s₂) E s :=
 CC hfr hl hf he fun h1 T1 F1=>jP (s:={ s with heap:=h1 }) (F1.gn hl) F1.exc fun h2 F2=>h h2 T1 (F1.on F2)
end
structure Up (X:Cx) (pins:List (Addr×Obj)) (σ:St) (H:Hp) (s:LU) (x:Addr) (ts:List Addr):Prop where
 inv:Inv X pins σ H s
 fx:H x=none
 fT:∀ b∈ts,H b=none
 nx:X.s₀.heap.get? x=none
 nT:∀ b∈ts,X.s₀.heap.get? b=none
 px:∀ p∈X.pn++pins,p.1≠x/\p.1∉ts
section
variable {X:Cx} {pins:List (Addr×Obj)} {σ:St} {H H':Hp} {s s':LU} {x T C:Addr} {d:Option Addr} {fl:Value} {ts:List Addr} {h':Heap} {E:XK} {e:Value}
theorem Inv.fsF (I:Inv X pins σ H s):∀ b∈X.fs,H b=none:=fun b hb=>by
 obtain ⟨_,o,ho,_⟩:=I.ok.gn.mem hb;exact I.base.free b o ho (I.ok.frf b hb) fun z=>I.ok.tG b z hb
theorem Inv.vf (I:Inv X pins σ H s) {b:Addr} (r:wK s.heap b):b≠X.env.locals/\(∀ y c,X.env.cells.lookup y=some c->c≠b)/\b∉frs X.stack/\b∉X.fs:=by
 obtain ⟨o,vs,ho,hd⟩:=r;refine ⟨fun z=>?_,fun y c e z=>?_,fun z=>?_,fun z=>?_⟩
 ·obtain ⟨m,⟨oL,es,ep,hoL,hdL,_⟩,_⟩:=I.loc;rw [<- z,ho] at hoL;cases hoL;rw [hd] at hdL;cases hdL
 ·obtain ⟨v,oc,hoc,hdc⟩:=I.cell y c e;rw [z,ho] at hoc;cases hoc;rw [hd] at hdc;cases hdc
 ·obtain ⟨_,o',ho',hnf⟩:=I.stack.mem z;rw [ho] at ho';cases ho';exact hnf vs hd
 ·obtain ⟨_,o',ho',hnf⟩:=I.gn.mem z;rw [ho] at ho';cases ho';exact hnf vs hd
theorem Inv.land {ch:List Addr} (I:Inv X pins σ H s)
  (hch:∀ b∈ch,X.s₀.heap.get? b=none/\b≠X.env.locals/\(∀ x c,X.env.cells.lookup x=some c->c≠b)/\∀ p∈X.pn++pins,p.1≠b) (hfr:∀ b∈ch,H b=none)
  (keep:∀ b o,b≠X.env.locals->b∉X.fs->b∉ch->s.heap.get? b=some o->h'.get? b=some o)
  (slot:∀ b o,b=X.env.locals\/b∈X.fs->s.heap.get? b=some o->∃ sl,h'.get? b=some { o with slots:=sl }):Inv X pins σ H { s with heap:=h' }:=by
 have neL:∀ b o,X.s₀.heap.get? b=some o->b≠X.env.locals:=fun b o e=>Mn (Mi (Mf e) I.ok.above);have neC:∀ b o,X.s₀.heap.get? b=some o->b∉ch:=fun b o e hb=>by rw [(hch b hb).1] at e;cases e
 have trk:∀ b u o,H b=some u->s.heap.get? b=some o->h'.get? b=some o:=fun b u o e q =>
  keep b o (fun z=>by rw [z,I.free] at e;cases e) (fun z=>by rw [I.fsF b z] at e;cases e) (fun z=>by rw [hfr b z] at e;cases e) q
 have any:∀ b o,b∉ch->s.heap.get? b=some o->∃ sl,h'.get? b=some { o with slots:=sl }:=fun b o hb q=>by
  by_cases z:b=X.env.locals\/b∈X.fs
  ·exact slot b o z q
  ·exact ⟨o.slots,keep b o (fun y=>z (.inl y)) (fun y=>z (.inr y)) hb q⟩
 have cellK:∀ x c,X.env.cells.lookup x=some c->∀ v,s.heap.IsCell c v->h'.IsCell c v:=fun x c e v ⟨o,ho,hd⟩=>by
  obtain ⟨sl,q⟩:=any c o (fun z=>(hch c z).2.2.1 x c e rfl) ho;exact ⟨_,q,hd⟩
 refine ⟨I.ok,I.os,I.bare,⟨fun b o e n hb hx=>keep b o (neL b o e) hb (neC b o e) (I.base.keep b o e n hb hx),fun b o e n hb hx=>?_,I.base.free,fun b o e hx=>?_,I.base.kB,I.base.jY,I.base.kr⟩,?_,fun x c e=>?_,I.free,I.fV,fun p hp=>?_,fun a o e=>?_,I.len⟩
 ·obtain ⟨sl,e1⟩:=I.base.slot b o e n hb hx;obtain ⟨sl',e2⟩:=slot b _ (.inr hb) e1;exact ⟨sl',e2⟩
 ·obtain ⟨o',e1⟩:=I.base.there b o e hx;obtain ⟨sl,q⟩:=any b o' (neC b o e) e1;exact ⟨_,q⟩
 ·obtain ⟨m,hn,hl⟩:=I.loc;obtain ⟨oL,es,ep,ho,r⟩:=hn;obtain ⟨sl,hL⟩:=slot _ oL (.inl rfl) ho;refine ⟨m,⟨_,es,ep,hL,r⟩,fun i x v e1 e2 e3=>?_⟩;obtain ⟨u,r,l⟩:=hl i x v e1 e2 e3;refine ⟨u,r,?_⟩;rcases l with l|⟨k,c,e,z⟩
  ·exact .inl l
  ·exact .inr ⟨k,c,e,cellK x c e _ z⟩
 ·obtain ⟨v,z⟩:=I.cell x c e;exact ⟨v,cellK x c e v z⟩
 ·obtain ⟨e,n,ne,nf,d⟩:=I.pin p hp;exact ⟨keep p.1 p.2 ne nf (fun z=>(hch p.1 z).2.2.2 p hp rfl) e,n,ne,nf,d⟩
 ·refine (I.hok a o e).qD (fun b u hb q=>?_) (fun _ q=>q) fun _ _ q=>q;rcases hb with rfl|hb
  ·exact trk _ _ _ e q
  ·exact trk _ _ _ hb q
theorem Up.land (U:Up X pins σ H s x ts) (hex:X.ex=[]) (hd:∀ b∈x :: ts,wK s.heap b) (F:eS X.stack x ts C d fl T s.heap h'):Up X pins σ H { s with heap:=h' } x [T]:=by
 have I:=U.inv;have hch:∀ b∈x :: ts,X.s₀.heap.get? b=none/\H b=none/\∀ p∈X.pn++pins,p.1≠b:=fun b hb=>by
  rcases Mv.mp hb with rfl|hb
  ·exact ⟨U.nx,U.fx,fun p hp=>(U.px p hp).1⟩
  ·exact ⟨U.nT b hb,U.fT b hb,fun p hp z=>(U.px p hp).2 (z ▸ hb)⟩
 have J:Inv X pins σ H { s with heap:=h' }:=by
  refine I.land (ch:=x :: ts) (fun b hb=>⟨(hch b hb).1,(I.vf (hd b hb)).1,(I.vf (hd b hb)).2.1,(hch b hb).2.2⟩) (fun b hb=>(hch b hb).2.1) (fun b o h1 h2 h3 q=>?_) (fun b o hb q=>?_)
  ·exact F.keep b o (fun z=>(Mv.mp (I.so b z)).elim h1 h2) (fun z=>h3 (z ▸ .head _)) (fun z=>h3 (.tail _ z)) q
  ·by_cases z:b∈frs X.stack
   ·exact F.slot b o z q
   ·have nr:b∉x :: ts:=fun y=>by
     obtain ⟨n1,_,_,n4⟩:=I.vf (hd b y);exact hb.elim n1 n4
    exact ⟨o.slots,F.keep b o z (fun y=>nr (y ▸ .head _)) (fun y=>nr (.tail _ y)) q⟩
 have hor:=F.new;refine ⟨J,U.fx,fun b hb=>?_,U.nx,fun b hb=>?_,fun p hp=>⟨(U.px p hp).1,fun hb=>?_⟩⟩
 ·obtain rfl:=Ma.mp hb;rcases hor with z|z
  ·exact U.fT _ z
  ·cases q:H b with
   | none=>rfl
   | some u=>obtain ⟨ob,e⟩:=(I.hok b u q).there;rw [z] at e;cases e
 ·obtain rfl:=Ma.mp hb;rcases hor with z|z
  ·exact U.nT _ z
  ·cases q:X.s₀.heap.get? b with
   | none=>rfl
   | some o=>obtain ⟨ob,e⟩:=I.base.there b o q (by rw [hex];simp);rw [z] at e;cases e
 ·have hb':=Ma.mp hb;rcases hor with z|z
  ·exact (U.px p hp).2 (hb' ▸ z)
  ·have e:=(I.pin p hp).1;rw [hb',z] at e;cases e
def CXR (P:Mp) (w:World):CXT:=fun outer H s E e s'=>∃ x T C d H',e=.ref x/\s'.os=s.os/\QQ s'.gens/\Un (frs outer) [] H H' s.heap s'.heap/\HOk P w H' s'.heap/\s.heap.get? x=none/\s.heap.get? T=none /\
 H' x=none/\H' T=none/\o7 s'.heap x T C d/\E (.ref C) d H'
theorem sx (I:Inv X pins σ H s) (hex:X.ex=[]) (h:CXR X.prog X.w X.stack H s E e s'):∃ x T C d H',e=.ref x/\o7 s'.heap x T C d/\Up X pins σ H' s' x [T]/\E (.ref C) d H':=by
 obtain ⟨x,T,C,d,H',rfl,os,bare,un,hok,nx,nT,fx,fT,he,q⟩:=h;have nw:∀ b,s.heap.get? b=none->X.s₀.heap.get? b=none:=fun b n=>by
  cases q:X.s₀.heap.get? b with
  | none=>rfl
  | some o=>obtain ⟨ob,e⟩:=I.base.there b o q (by rw [hex];simp);rw [n] at e;cases e
 refine ⟨x,T,C,d,H',rfl,he,⟨I.C5 (ch:=[]) os un hok bare (fun b z=>absurd z (by simp)),fx,fun b hb=>?_,nw _ nx,fun b hb=>?_,fun p hp=>⟨fun z=>?_,fun z=>?_⟩⟩,q⟩
 ·obtain rfl:=Ma.mp hb;exact fT
 ·obtain rfl:=Ma.mp hb;exact nw _ nT
 ·have e:=(I.pin p hp).1;rw [z,nx] at e;cases e
 ·have e:=(I.pin p hp).1;rw [Ma.mp z,nT] at e;cases e
end
def Lets (X:Cx) (E:XK):Prop:=∀ (pins:List (Addr×Obj)) (σ:St) (H:Hp) (s:LU) (x C:Addr) (d:Option Addr),Up X pins σ H s x []->u4 s.heap x C d->E (.ref C) d H->X.xe (.ref x) s
section
variable {P:Mp} {w:World} {K:LN} {mg:Str->Option Value} {base:Heap} {N:List Str} {qual:Str} {scope:Scope} {f:Addr} {cd:Value} {A:MR} {outer:List Env} {s:LU} {H:Hp} {E:XK}
theorem pO {pins:List (Addr×Obj)} {σ:St} {H':Hp} {s':LU} {x T C:Addr} {d:Option Addr} (U:Up (jc (CXR P w) P w K mg base N qual scope f cd A outer s H E) pins σ H' s' x [T]) (he:o7 s'.heap x T C d) (q:E (.ref C) d H') :
  CXR P w outer H s E (.ref x) s' :=
 ⟨x,T,C,d,H',rfl,U.inv.os,U.inv.bare,U.inv.base,U.inv.hok,U.nx,U.nT T (.head _),U.fx,U.fT T (.head _),he,q⟩
theorem DA:Passes (CXR P w) (jc (CXR P w) P w K mg base N qual scope f cd A outer s H E) E:=fun pins σ H1 s1 e s' I h=>by
 obtain ⟨x,T,C,d,H',rfl,he,U,q⟩:=sx I rfl h;exact vv (L:=s.heap.objs.size) (outer:=outer) U.inv.ok.frames U.inv.stack rfl he fun h' T' F=>pO (U.land rfl he.oY F) F.exc q
theorem Lk:Lets (jc (CXR P w) P w K mg base N qual scope f cd A outer s H E) E:=fun pins σ H' s' x C d U he q =>
 ux (L:=s.heap.objs.size) (outer:=outer) U.inv.ok.frames U.inv.stack rfl he fun h' T' F=>pO (U.land rfl he.oY F) F.exc q
theorem Fun.okR {x qual:Str} {st:Stmt} {f:Addr} {fd:MZ} {N ps:List Str} {k:Nat} {sp:Sp} (F:Fun K x qual st f fd) (S:aK N ps (af st)) (len:∀ vs H Q E,sp vs H Q E->vs.length=ps.length)
  (hbody:∀ (cdv:Value) (A:MR) (outer:List Env) (s:LU) (H:Hp) (vs:List V) (Q:VK) (E:XK),cg k (A.deeper (envOfC qual (af st) s.heap.objs.size f cdv))->sp vs H Q E ->
   ∃ t,PSs (jc (CXR P w) P w K mg base N qual (af st) f cdv A outer s H E) (ax st) t/\t { nx:=fun _ H'=>Q .non H',rt:=Q } (start N vs) H):aI P w K mg base (CXR P w) (k+1) f fd ps sp:=by
 obtain ⟨oc,od,kV,doc,pm,an,cdv,ct,osl,rfl,lk,hcd⟩:=F.ex;exact zL lk hcd S len fun A outer s H vs Q E hr hsp=>hbody cdv A outer s H vs Q E hr hsp
end
abbrev bmV:List Value:=[.type "ValueError",.type "Exception",.type "BaseException",.type "object"]
abbrev kA:String:="ValueError.__new__"
theorem IJ {K:LN} {h:Heap} {C:Addr} {bmB:List Value} {newId:String} (X:K.In h) (q:Nf K C bmB newId=true) :
  ∃ bm N nm qn bs hdct sn sub ab col dd k0 k1 k2 k3 k5 mN,h.get? C=some (excClassObj nm qn C N bs bm hdct sn sub ab col dd k0 k1 k2 k3 k5 newId)/\h.Ns N mN/\mN "__init__" = none/\OwnTail h bmB bm:=by
 unfold Nf at q
 split at q
 ·rename_i dd cd sl ho
  split at q
  ·rename_i C' bm k0 k1 k2 k3 n k5 hm hs
   simp only [Oc,beq_iff_eq,PJ] at q;obtain ⟨⟨⟨⟨⟨rfl,rfl⟩,hdel⟩,ht⟩,hok⟩,hni⟩:=q;obtain ⟨nm,bs,mro,ns,qn,hd,sn,sub,ab,col,del⟩:=cd;dsimp only at hm hdel hok hni;subst hm hdel;have hsl:sl=#[k0,k1,k2,k3,some (.builtin n),k5]:=by
    obtain ⟨l⟩:=sl;simp only at hs;rw [hs]
   subst hsl;exact ⟨bm,ns,nm,qn,bs,hd,sn,sub,ab,col,dd,k0,k1,k2,k3,k5,_,X _ _ ho,.of_isNs (PySem.W.isNs_of_in X hok),PySem.W.nsMap_none_of_in X hok hni,PySem.W.tail_of_in X ht⟩
  ·cases q
 ·cases q
section
variable {X:Cx} {E:XK} {C:Addr} {x:Str} {np cpos pos:Pos} {e:Expr} {es:List Expr} {ta:TA}
def Bw (C:Addr) (E:XK) (ta:TA):TS:=fun _ σ H=>ta σ H fun vs H1=>vs.length<=MF/\E (.ref C) none H1
theorem Inv.JQ {pins:List (Addr×Obj)} {σ:St} {H:Hp} {s:LU} {h':Heap} {e:Addr} {us:List Value} (I:Inv X pins σ H s) (hex:X.ex=[]) (m:Heap.MadeExcOf s.heap h' e (.ref C) us):Up X pins σ H { s with heap:=h' } e []/\u4 h' e C none:=by
 obtain ⟨t,ht,_,_⟩:=m.there;refine ⟨⟨I.un (t':=s.toks) (Un.kept m.keeps) (I.hok.kept m.keeps),?_,fun b hb=>absurd hb (by simp),?_,fun b hb=>absurd hb (by simp),fun p hp=>⟨fun z=>?_,by simp⟩⟩,⟨_,_,ht,rfl,rfl,rfl,rfl⟩⟩
 ·cases q:H e with
  | none=>rfl
  | some u=>obtain ⟨ob,e1⟩:=(I.hok e u q).there;rw [m.new] at e1;cases e1
 ·cases q:X.s₀.heap.get? e with
  | none=>rfl
  | some o=>obtain ⟨ob,e1⟩:=I.base.there e o q (by rw [hex];simp);rw [m.new] at e1;cases e1
 ·have e1:=(I.pin p hp).1;rw [z,m.new] at e1;cases e1
theorem GK (hL:Lets X E) (hex:X.ex=[]) (hcalm:X.calm=true) (hq:Nf X.K C bmV kA=true) (hg:Gl X x) (hm:X.mg x=some (.ref C)) (ha:PA X (e :: es) ta)
  (hdb:(x == ("__debug__" : Str))=false:=by decide) (he:MU (e :: es) X.env=(false,eval e X.env) :: MU es X.env:=by rfl) (hpl:(backTo cpos (MU es X.env)).any (·.1)=false:=by rfl) :
  PS X (.Raise (some (.Call (.Name x np) (e :: es) [] cpos)) none pos) (Bw C E ta):=by
 intro pins s σ H D I h;obtain ⟨bm,N,nm,qn,bs,hdct,sn,sub,ab,col,dd,k0,k1,k2,k3,k5,mN,hC,hN,hni,T⟩:=IJ I.mod.kin hq;have Fb:=PySem.F.excBase_ValueError;refine wpAny_Raise_call_subU (C:=C) (nm:=nm) (q:=qn) (N:=N) (bs:=bs) (bm:=bm) (hdct:=hdct) (sn:=sn) (sub:=sub) (ab:=ab) (col:=col) (dd:=dd) (k0:=k0) (k1:=k1) (k2:=k2) (k3:=k3) (k5:=k5)
  Fb (by trivial) Fb (mN:=mN) (T.hasType Fb.hasBase) (I.ok.hd hcalm) (by rw [he];show (false || (backTo cpos (MU es X.env)).any (·.1))=false;rw [hpl];rfl) hni (mw I hg hm ⟨rfl,?_⟩ hdb)
 have h0:=ha cpos pins s σ H _ I h;rw [he] at h0 ⊢;refine RT (thn h0 fun us s2 ⟨vs,H2,I2,r,z,q⟩=>⟨rfl,by rw [<- r.length];exact z,I2.bk _ _ hC,hN.keeps I2.bk,T.keeps I2.bk,fun h' e' m=>?_⟩)
 obtain ⟨U,hn⟩:=I2.JQ hex m;exact hL pins σ H2 _ e' C none U hn q
end
abbrev TXs:=Ends->(St->Hp->Addr->Option Addr->Prop)->St->Hp->Prop
abbrev TXe:=St->Hp->VK->(Hp->Addr->Option Addr->Prop)->Prop
def XP (X:Cx) (pins:List (Addr×Obj)) (Ex:St->Hp->Addr->Option Addr->Prop) (e:Value) (s':LU):Prop:=∃ x T C d σ' H',e=.ref x/\o7 s'.heap x T C d/\Up X pins σ' H' s' x [T]/\Ex σ' H' C d
def PSx (X:Cx) (sts:List Stmt) (t:TXs):Prop :=
 ∀ (pins:List (Addr×Obj)) (s:LU) (σ:St) (H:Hp) (D:Ends) (Ex:St->Hp->Addr->Option Addr->Prop),Inv X pins σ H s->t D Ex σ H->wpAny (model X.prog X.w) X.A (execs sts X.env) (SP X pins D) (XP X pins Ex) s
def HM (X:Cx) (st:Stmt) (t:TXs):Prop :=
 ∀ (pins:List (Addr×Obj)) (s:LU) (σ:St) (H:Hp) (D:Ends) (Ex:St->Hp->Addr->Option Addr->Prop),Inv X pins σ H s->t D Ex σ H->wpAny (model X.prog X.w) X.A (exec st X.env) (SP X pins D) (XP X pins Ex) s
def PEx (X:Cx) (e:Expr) (t:TXe):Prop :=
 ∀ (pins:List (Addr×Obj)) (s:LU) (σ:St) (H:Hp) (Q:VK) (Ex:Hp->Addr->Option Addr->Prop),Inv X pins σ H s->t σ H Q Ex->wpAny (model X.prog X.w) X.A (eval e X.env) (EP X pins σ Q) (XP X pins fun σ' H' C d=>σ'=σ/\Ex H' C d) s
section
variable {X:Cx} {pos:Pos}
theorem t8 {st:Stmt} {t:TXs} (h:HM X st t):PSx X [st] t:=by
 intro pins s σ H D Ex I q;refine Q8 (Nj (h pins s σ H D Ex I q) (fun f s1 z=>?_) fun _ _ z=>z);cases f with
 | next=>exact ON z
 | ret v=>exact z
 | brk=>exact z
 | cont=>exact z
def KD (c:TT) (t u:TXs):TXs:=fun D Ex σ H=>c σ H fun b H1=>if b=true then t D Ex σ H1 else u D Ex σ H1
theorem JV {c:Expr} {a b:List Stmt} {tc:TT} {t u:TXs} (hc:PT X.nox c tc) (ha:PSx X a t) (hb:PSx X b u):HM X (.If c a b pos) (KD tc t u):=by
 intro pins s σ H D Ex I h;refine wpAny_If (Nj (hc pins s σ H _ (I.jW _) h) (fun d s1 ⟨H1,I1,q1⟩=>?_) fun _ _ z=>Nk z);cases d with
 | true=>exact ha pins s1 σ H1 D Ex I1.eL q1
 | false=>exact hb pins s1 σ H1 D Ex I1.eL q1
def FZ (te:TXe):TXs:=fun D Ex σ H=>te σ H (fun _ H1=>D.nx σ H1) (fun H1 C d=>Ex σ H1 C d)
theorem uO {e:Expr} {te:TXe} (he:PEx X e te) (hs:swapsWith e none pos.line X.env=pure false:=by rfl):HM X (.Expr e pos) (FZ te):=by
 intro pins s σ H D Ex I h;refine wpAny_Expr_any (Nj (he pins s σ H _ _ I h) (fun v s1 ⟨x,H1,I1,r1,q1⟩=>⟨σ,H1,I1,q1⟩) fun e s1 ⟨x,T,C,d,σ',H',e1,e2,e3,e4,e5⟩=>⟨x,T,C,d,σ,H',e1,e2,?_,e5⟩) I.quiet hs;rw [<- e4];exact e3
def Be (C:Addr) (sp:Sp) (t:TA):TXe:=fun σ H Q Ex=>t σ H fun vs H1=>∀ x dx,H1 x=none->H1 dx=none->dx≠x ->
 sp (.ref x :: vs) (upd (upd H1 dx (.own x)) x (.ins C dx [])) (fun v H2=>v=.non/\Q (.ref x) H2) (fun c d H2=>∃ C,c=.ref C/\Ex H2 C d)
theorem Hc {k:Nat} {C f:Addr} {fd:MZ} {ps:List Str} {sp:Sp} {x:Str} {p:Pos} {e:Expr} {es:List Expr} {t:TA} (M:Mk X.K C f) (F:aI X.prog X.w X.K X.mg X.base (CXR X.prog X.w) k f fd ps sp) (hex:X.ex=[]) (hr:cg (k+1) X.A) (hg:Gl X x) (hm:X.mg x=some (.ref C))
  (hb:Binds X.K fd ps []) (ha:PA X.nox (e :: es) t) (hdb:(x == ("__debug__" : Str))=false:=by decide) (he:MU (e :: es) X.env=(false,eval e X.env) :: MU es X.env:=by rfl) (hpl:(backTo pos (MU es X.env)).any (·.1)=false:=by rfl) :
  PEx X (.Call (.Name x p) (e :: es) [] pos) (Be C sp t):=by
 intro pins s0 σ H0 Q Ex I0 h0;refine OK (mw I0 hg hm ?_ hdb);refine OL (h₀:=X.base) I0.ok.mod.kin M.kp (Nj (ha pos pins s0 σ H0 _ (I0.jW _) h0) (fun us s ⟨vs,H,I',r,h⟩=>?_) fun _ _ z=>Nk z) he hpl;have I:=I'.eL;refine ⟨I.kIn,?_⟩;have hq:=h (s.heap.objs.size+1) s.heap.objs.size (I.hok.fresh (OF _)) (I.hok.fresh (Mh _)) (Mn (Ob _));have I2:=Inv.made (C:=C) I;have r2:Vals (V.ref (s.heap.objs.size+1) :: vs) (MI (s.heap.objs.size+1) :: us):=.cons rfl r;have hl:(MI (s.heap.objs.size+1) :: us++[]).length=ps.length:=by
  have e:=r2.length;rw [F.len _ _ _ _ hq] at e;rw [Pd];exact e.symm
 have hb':=hb _ (MI (s.heap.objs.size+1) :: us) I2.kIn hl;rw [Pd] at hb';refine Sn (AD (f:=f) I.kIn M.makes M.init (beq_iff_eq.mp M.fn) (OO (F.run _ X.stack _ _ ⟨MI (s.heap.objs.size+1) :: us,[]⟩ (MI (s.heap.objs.size+1) :: us) _ _ _ (hr.make C us [])
  (I2.Ho.make C us []) hb' r2 hq) fun r s' hq'=>?_))
 cases r with
 | error e =>
  have hq2:CXR X.prog X.w X.stack _ _ (fun c d H2=>∃ C,c=MI C/\Ex H2 C d) e s':=hq';obtain ⟨x,T,C',d,H',rfl,he,U,C'',hc,q⟩:=sx I2 hex hq2;cases hc;exact ⟨x,T,C',d,σ,H',rfl,he,U,rfl,q⟩
 | ok fl =>
  cases fl with
  | ret u =>
   obtain ⟨v,H',I3,rv,ev,q3⟩:=I2.after hq';subst ev;exact ⟨rv,⟨V.ref (s.heap.objs.size+1),H',I3,rfl,q3⟩⟩
  | next=>exact Nk hq'
  | brk=>exact Nk hq'
  | cont=>exact Nk hq'
end
def mM (x C:Addr) (d:Option Addr) (h:Heap):Prop:=∃ o vs,h.get? x=some o/\o.cls=.ref C/\o.dict=d/\o.data=.fields vs
abbrev kD (x C:Addr) (d:Option Addr:=none):HO:=.ext (mM x C d)
theorem Jm {P:Mp} {w:World} {H:Hp} {h:Heap} {x C:Addr} {d:Option Addr} (e:mM x C d h):cA P w H h x (kD x C d):=by
 obtain ⟨o,vs,h1,h2,h3,h4⟩:=id e;exact ⟨e,⟨o,h1⟩,fun a b ⟨o,vs,h1,h2,h3,h4⟩ k=>⟨o,vs,k o h1,h2,h3,h4⟩⟩
theorem kq.isExc {h:Heap} {x T C:Addr} {d:Option Addr} {fl:Value} (e:kq h x T C d fl):mM x C d h:=by
 obtain ⟨oe,vs,_,_,e1,e2,e3,e4,_⟩:=e;exact ⟨oe,vs,e1,e2,e3,e4⟩
section
variable {X:Cx} {pins:List (Addr×Obj)} {σ:St} {H:Hp} {s:LU} {x T C:Addr} {ts:List Addr}
theorem Up.adopt (U:Up X pins σ H s x ts) {o:HO} (hr:wK s.heap x) (new:cA X.prog X.w (upd H x o) s.heap x o):Inv X pins σ (upd H x o) s:=by
 have I:=U.inv;obtain ⟨n1,n2,n3,n4⟩:=I.vf hr;have nn:∀ b u,H b=some u->b≠x:=fun b u e z=>by rw [z,U.fx] at e;cases e
 refine ⟨I.ok,I.os,I.bare,⟨I.base.keep,I.base.slot,fun b ob e n hx=>?_,I.base.there,fun b xs e=>?_,fun b ob u e=>?_,fun b ps e=>?_⟩,I.loc,I.cell,?_,fun y c e=>?_,fun p hp=>?_,fun b u e=>?_,I.len⟩
 ·have:b≠x:=fun z=>by rw [z,U.nx] at e;cases e
  rw [au this];exact I.base.free b ob e n hx
 ·have q:=I.base.kB b xs e;rw [au (nn _ _ q)];exact q
 ·have q:=I.base.jY b ob u e;rw [au (nn _ _ q)];exact q
 ·obtain ⟨m,q⟩:=I.base.kr b ps e;exact ⟨m,by rw [au (nn _ _ q)];exact q⟩
 ·rw [au n1.symm];exact I.free
 ·rw [au (n2 y c e)];exact I.fV y c e
 ·obtain ⟨e,n,ne,nf,d⟩:=I.pin p hp;exact ⟨e,by rw [au (U.px p hp).1];exact n,ne,nf,d⟩
 ·by_cases hb:b=x
  ·subst hb;rw [ar] at e;cases e;exact new
  ·rw [au hb] at e;refine (I.hok b u e).qD (fun c v _ q=>q) (fun c q=>by rw [au (nn _ _ q)];exact q) fun c xs q=>by rw [au (nn _ _ q)];exact q
theorem ui {M:Model} {A:MR} {E:Value->LU->Prop} {i:Nat} {n:Str} {pos:Pos} {Q:Unit->LU->Prop} (I:Inv X pins σ H s) (hN:X.N.Nodup) (hi:X.N[i]?=some n) (hk:X.env.kindOf n=some .local)
  (h:∀ s',Inv X pins (σ.set i none) H s'->Q () s'):wpAny M A (do bindName X.env n .none;unbindBehindTheSuite X.env n pos) Q E s:=by
 obtain ⟨m,hn,hl⟩:=id I.loc;have hcls:(X.env.scope.kind == .class || (X.env.scope.kind == .module && X.env.locals != X.env.globals))=false:=by rw [I.ok.kind];rfl
 have hiσ:i<σ.length:=by rw [I.len];exact (LR.mp hi).1
 have cne:=I.cne;refine wpAny_nameGoes_keeps hk hn hcls (fun h' v hn' hs=>?_);refine h _ ⟨I.ok,I.os,I.bare,⟨fun b o e n hb hx=>?_,fun b o e n hb hx=>?_,I.base.free,fun b o e hx=>?_,I.base.kB,I.base.jY,I.base.kr⟩,⟨_,hn',fun j y v' e1 e2 e3=>?_⟩,fun y c e=>?_,I.free,I.fV,fun p hp=>?_,fun b ob e=>?_,by simpa using I.len⟩
 ·exact (hs.2 b (Mn (Mi (Mf e) I.ok.above))).trans (I.base.keep b o e n hb hx)
 ·obtain ⟨sl,e1⟩:=I.base.slot b o e n hb hx;exact ⟨sl,(hs.2 b (Mn (Mi (Mf e) I.ok.above))).trans e1⟩
 ·obtain ⟨o',e1⟩:=I.base.there b o e hx;exact ⟨o',(hs.2 b (Mn (Mi (Mf e) I.ok.above))).trans e1⟩
 ·by_cases hj:j=i
  ·subst hj;rw [Nz hiσ] at e2;cases e2
  ·rw [NT (NY hj)] at e2;obtain ⟨u',r',q⟩:=hl j y v' e1 e2 e3;refine ⟨u',r',?_⟩;rcases q with ⟨k,e⟩|⟨k,c,e,z⟩
   ·refine .inl ⟨k,?_⟩;have:y≠n:=fun e=>hj (u9 hN e1 (e ▸ hi));simp [this,e]
   ·exact .inr ⟨k,c,e,z.sameBut hs (cne y c e)⟩
 ·obtain ⟨w',z⟩:=I.cell y c e;exact ⟨w',z.sameBut hs (cne y c e)⟩
 ·obtain ⟨e,n,ne,nf,d⟩:=I.pin p hp;exact ⟨(hs.2 p.1 ne).trans e,n,ne,nf,d⟩
 ·refine (I.hok b ob e).qD (fun c w' hc q=>(hs.2 c ?_).trans q) (fun _ q=>q) fun _ _ q=>q;rintro rfl;rcases hc with hc|hc
  ·rw [<- hc,I.free] at e;cases e
  ·rw [I.free] at hc;cases hc
end
abbrev Cx.nq (X:Cx) (e:Value):Cx:={ X with A:=X.A.mark (some e),calm:=false,xe:=fun _ _=>False }
section
variable {X:Cx} {pins:List (Addr×Obj)} {σ:St} {H:Hp} {s:LU} {e:Value}
theorem Inv.nq (I:Inv X pins σ H s) (e:Value):Inv (X.nq e) pins σ H s :=
 ⟨⟨I.ok.mod,I.ok.kind,I.ok.glob,I.ok.blt,I.ok.above,I.ok.inj,I.ok.has,I.ok.cab,fun z=>Bool.noConfusion z,I.ok.frames,I.ok.stk,I.ok.exf,I.ok.bs,I.ok.bsz,I.ok.uM,I.ok.tG,I.ok.gn,I.ok.frf⟩,I.os,I.bare,I.base,I.loc,I.cell,I.free,I.fV,I.pin,I.hok,I.len⟩
theorem Inv.t5 (I:Inv (X.nq e) pins σ H s) (ok:X.Ok):Inv X pins σ H s:=⟨ok,I.os,I.bare,I.base,I.loc,I.cell,I.free,I.fV,I.pin,I.hok,I.len⟩
abbrev TH:=Ends->St->Hp->Addr->Option Addr->Prop
def PH (X:Cx) (hs:List P6) (t:TH):Prop:=∀ (pins:List (Addr×Obj)) (s:LU) (σ:St) (H:Hp) (D:Ends) (x T C:Addr) (d:Option Addr),Up X pins σ H s x [T]->o7 s.heap x T C d->t D σ H C d->wpAny (model X.prog X.w) X.A (handleBy (.ref x) X.env hs) (SP X pins D) X.xe s
def Lx:TH:=fun _ _ _ _ _=>False
theorem Ku:PH X [] Lx:=fun _ _ _ _ _ _ _ _ _ _ _ z=>Nk z
def hAs (K:LN) (B:Addr) (i:Nat) (ts:TS) (t:TH):TH:=fun D σ H C d=>(M6 K (.ref C) (.ref B)=some true/\∀ x,H x=none ->
 ts { nx:=fun σ2 H2=>D.nx (σ2.set i none) H2,rt:=D.rt,bk:=fun σ2 H2=>D.bk (σ2.set i none) H2,ct:=fun σ2 H2=>D.ct (σ2.set i none) H2 } (σ.set i (some (.ref x))) (upd H x (kD x C d))) \/
 (M6 K (.ref C) (.ref B)=some false/\t D σ H C d)
section
variable {x T C B:Addr} {d:Option Addr} {cn:Str} {np:Pos} {b:Bool}
theorem yw {name:Option Str} {su:List Stmt} {hp:Pos} {rest:List P6} {D:Ends} (U:Up X pins σ H s x [T]) (he:o7 s.heap x T C d) (hg:Gl X cn) (hm:X.mg cn=some (.ref B)) (hdb:(cn == ("__debug__" : Str))=false) (hx:M6 X.K (.ref C) (.ref B)=some b)
  (h:if b=true then codeAny (model X.prog X.w) (X.A.mark (some (.ref x))) (.handlers (.ref x) [.ExceptHandler none name su hp] X.env) (fun r s₂=>match r with
     | .ok f=>(match name with
      | none=>SP X pins D f s₂
      | some n=>wpAny (model X.prog X.w) X.A (do bindName X.env n .none;unbindBehindTheSuite X.env n hp) (fun _ s₃=>SP X pins D f s₃) X.xe s₂)
     | .error x=>cameBackBy (model X.prog X.w) X.A X.env X.xe x s₂) s else wpAny (model X.prog X.w) X.A (handleBy (.ref x) X.env rest) (SP X pins D) X.xe s) :
  wpAny (model X.prog X.w) X.A (handleBy (.ref x) X.env (.ExceptHandler (some (.Name cn np)) name su hp :: rest)) (SP X pins D) X.xe s:=by
 have I2:=U.inv;refine wpAny_handleBy_cons (codeAny_handlers_test (Nj (Q:=fun c s'=>c=.ref B/\s'=s) (E:=fun _ _=>False) (show wpAny (model X.prog X.w) (X.A.mark (some (.ref x))) (eval (.Name cn np) X.env) _ _ _ from mw (X:=X.nq (.ref x)) (I2.nq _) hg hm ⟨rfl,rfl⟩ hdb) (fun c s3 ⟨e1,e2⟩=>?_) fun _ _ z=>Nk z)) (by intro q;cases q)
 subst e1 e2;have LT:Pg (model X.prog X.w) s3.heap (typeOf (.ref x)) (.ref C):=by
  obtain ⟨o,vs,e1,e2,_⟩:=he.isExc;exact e2 ▸ (PySem.W.Looks.ld e1).andThen .now
 refine (PySem.W.exm_one I2.kIn LT hx).at ?_;cases b with
 | true=>exact h
 | false=>exact h
end
theorem K3 {b₀:Stmt} {su:List Stmt} {cn n:Str} {np hp:Pos} {B:Addr} {i:Nat} {ts:TS} {rest:List P6} {t:TH} (hex:X.ex=[]) (hs:∀ e,PSs (X.nq e) (b₀ :: su) ts) (hr:PH X rest t)
  (hg:Gl X cn) (hm:X.mg cn=some (.ref B)) (hN:X.N.Nodup) (hi:X.N[i]?=some n) (hk:X.env.kindOf n=some .local) (hdb:(cn == ("__debug__" : Str))=false:=by decide) :
  PH X (.ExceptHandler (some (.Name cn np)) (some n) (b₀ :: su) hp :: rest) (hAs X.K B i ts t):=by
 intro pins s1 σ' H' D x T C d U he q;rcases q with ⟨hm1,q⟩|⟨hm1,q⟩
 ·refine yw U he hg hm hdb hm1 ?_;rw [if_pos rfl];refine codeAny_handlers_suite_as ?_;refine jP U.inv.stack he fun h3 F3=>?_;have U3:=U.land hex he.oY F3;have he3:=F3.exc;have I3:=U3.adopt (he3.oY x (.head _)) (Jm he3.isExc);refine nV (X:=X.nq (.ref x)) (v:=.ref x) (I3.nq _) hN hi (.inl hk) rfl (fun s4 I4=>?_) (.inr hk);refine Nj (hs (.ref x) pins s4 _ _ _ I4 (q x U3.fx)) (fun f s5 z=>?_) fun _ _ z=>Nk z;have ok:=U.inv.ok;cases f with
  | next =>
   obtain ⟨σ6,H6,I6,q6⟩:=z;exact ui (I6.t5 ok) hN hi hk fun s7 I7=>⟨_,H6,I7,q6⟩
  | ret u =>
   obtain ⟨v,σ6,H6,I6,r6,q6⟩:=z;exact ui (I6.t5 ok) hN hi hk fun s7 I7=>⟨v,_,H6,I7,r6,q6⟩
  | brk =>
   obtain ⟨σ6,H6,I6,q6⟩:=z;exact ui (I6.t5 ok) hN hi hk fun s7 I7=>⟨_,H6,I7,q6⟩
  | cont =>
   obtain ⟨σ6,H6,I6,q6⟩:=z;exact ui (I6.t5 ok) hN hi hk fun s7 I7=>⟨_,H6,I7,q6⟩
 ·refine yw U he hg hm hdb hm1 ?_;rw [if_neg (by decide)]
  exact hr pins s1 σ' H' D x T C d U he q
def Lh (tb:TXs) (th:TH):TS:=fun D σ H=>tb D (fun σ' H' C d=>th D σ' H' C d) σ H
theorem JC {body:List Stmt} {h₀:P6} {hs:List P6} {pos:Pos} {tb:TXs} {th:TH} (hex:X.ex=[]) (hb:PSx X body tb) (hh:PH X (h₀ :: hs) th) (hst:X.stack=X.env :: X.outer) (hfr:X.env.frame=some X.env.locals) :
  PS X (.Try body (h₀ :: hs) [] [] pos) (Lh tb th):=by
 intro pins s σ H D I h;refine wpAny_Try_except (Nj (hb pins s σ H D _ I h) (fun f s1 z=>?_) fun e s1 z=>?_)
 ·cases f with
  | next=>exact ON z
  | ret v=>exact z
  | brk=>exact z
  | cont=>exact z
 obtain ⟨x,T,C,d,σ',H',rfl,he,U,q⟩:=z;have fr:X.A.frames=some (X.env :: X.outer):=by rw [<- hst];exact I.ok.frames
 have sk1:s1.heap.FunFrames X.base (X.env :: X.outer):=by rw [<- hst];exact U.inv.stack
 refine EW (L:=X.env.locals) (outer:=X.outer) fr sk1 hfr he fun h2 T2 F2=>?_;rw [<- hst] at F2;exact hh pins _ σ' H' D x T2 C d (U.land hex he.oY F2) F2.exc q
def KZ (K:LN) (B:Addr) (i:Nat) (tb:TXs) (ts:TS):TS:=fun D σ H=>tb D (fun σ' H' C d=>M6 K (.ref C) (.ref B)=some true/\∀ x,H' x=none ->
 ts { nx:=fun σ2 H2=>D.nx (σ2.set i none) H2,rt:=D.rt,bk:=fun σ2 H2=>D.bk (σ2.set i none) H2,ct:=fun σ2 H2=>D.ct (σ2.set i none) H2 } (σ'.set i (some (.ref x))) (upd H' x (kD x C d))) σ H
theorem Fy {body:List Stmt} {b₀:Stmt} {su:List Stmt} {cn n:Str} {np hp pos:Pos} {B:Addr} {i:Nat} {tb:TXs} {ts:TS} (hex:X.ex=[]) (hb:PSx X body tb) (hs:∀ e,PSs (X.nq e) (b₀ :: su) ts)
  (hg:Gl X cn) (hm:X.mg cn=some (.ref B)) (hN:X.N.Nodup) (hi:X.N[i]?=some n) (hk:X.env.kindOf n=some .local) (hst:X.stack=X.env :: X.outer) (hfr:X.env.frame=some X.env.locals)
  (hdb:(cn == ("__debug__" : Str))=false:=by decide) :
  PS X (.Try body [.ExceptHandler (some (.Name cn np)) (some n) (b₀ :: su) hp] [] [] pos) (KZ X.K B i tb ts):=by
 intro pins s σ H D I h;have hb':PSx X body (fun D Ex σ H=>tb D (fun σ' H' C d=>M6 X.K (.ref C) (.ref B)=some true/\∀ x,H' x=none->ts { nx:=fun σ2 H2=>D.nx (σ2.set i none) H2,rt:=D.rt,bk:=fun σ2 H2=>D.bk (σ2.set i none) H2,ct:=fun σ2 H2=>D.ct (σ2.set i none) H2 } (σ'.set i (some (.ref x))) (upd H' x (kD x C d))) σ H/\∀ σ' H' C d,(M6 X.K (.ref C) (.ref B)=some true/\∀ x,H' x=none->ts { nx:=fun σ2 H2=>D.nx (σ2.set i none) H2,rt:=D.rt,bk:=fun σ2 H2=>D.bk (σ2.set i none) H2,ct:=fun σ2 H2=>D.ct (σ2.set i none) H2 } (σ'.set i (some (.ref x))) (upd H' x (kD x C d)))->Ex σ' H' C d):=fun pins s σ H D Ex I z =>
  Nj (hb pins s σ H D _ I z.1) (fun _ _ y=>y) fun e s1 ⟨x,T,C,d,σ',H',e1,e2,e3,e4⟩=>⟨x,T,C,d,σ',H',e1,e2,e3,z.2 _ _ _ _ e4⟩
 exact JC hex hb' (K3 hex hs Ku hg hm hN hi hk hdb) hst hfr pins s σ H D I ⟨h,fun _ _ _ _ z=>.inl z⟩
end
section
variable {X:Cx} {x:Str} {st:Stmt} {ps:List Str} {k:Nat} {sp:Sp} {p pos:Pos} {e:Expr} {es:List Expr} {t:TA} {E:XK}
theorem lz (d:Df X.K X.mg x st ps) (G:aI X.prog X.w X.K X.mg X.base (CXR X.prog X.w) k d.f d.fd ps sp) (hr:cg k X.A) (hg:Gl X x) (hx:Passes (CXR X.prog X.w) X E) (ha:PA X (e :: es) t) (hn:isStar e=false:=by rfl) (hall:es.all (fun e=>!isStar e)=true:=by rfl) (hdb:(x == ("__debug__" : Str))=false:=by decide) :
  PE X (.Call (.Name x p) (e :: es) [] pos) (qz sp [] E t):=xf G hr hg d.nm d.fn.kp d.bd .nil hx ha hdb (bP hn) (cU hall)
theorem tP {C f:Addr} {fd:MZ} (M:Mk X.K C f) (G:aI X.prog X.w X.K X.mg X.base (CXR X.prog X.w) k f fd ps sp) (hex:X.ex=[]) (hr:cg (k+1) X.A) (hg:Gl X x) (hm:X.mg x=some (.ref C)) (hb:Binds X.K fd ps []) (ha:PA X.nox (e :: es) t) (hn:isStar e=false:=by rfl) (hall:es.all (fun e=>!isStar e)=true:=by rfl) (hdb:(x == ("__debug__" : Str))=false:=by decide) :
  PEx X (.Call (.Name x p) (e :: es) [] pos) (Be C sp t):=Hc M G hex hr hg hm hb ha hdb (bP hn) (cU hall)
theorem jk {C:Addr} {np cpos:Pos} (hL:Lets X E) (hex:X.ex=[]) (hcalm:X.calm=true) (hq:Nf X.K C bmV kA=true) (hg:Gl X x) (hm:X.mg x=some (.ref C)) (ha:PA X (e :: es) t) (hn:isStar e=false:=by rfl) (hall:es.all (fun e=>!isStar e)=true:=by rfl)
  (hdb:(x == ("__debug__" : Str))=false:=by decide):PS X (.Raise (some (.Call (.Name x np) (e :: es) [] cpos)) none pos) (Bw C E t):=GK hL hex hcalm hq hg hm ha hdb (bP hn) (cU hall)
end
section
variable {K:LN} {B C:Addr} {i:Nat} {tb t u:TXs} {ts:TS} {D:Ends} {σ:St} {H:Hp} {c:TT} {te:TXe} {sp:Sp} {ta:TA} {Q:VK} {Ex:St->Hp->Addr->Option Addr->Prop} {Eh:Hp->Addr->Option Addr->Prop} {E:XK} {th:TH}
theorem Iw (h:tb D (fun σ' H' C d=>M6 K (.ref C) (.ref B)=some true/\∀ x,H' x=none ->
 ts { nx:=fun σ2 H2=>D.nx (σ2.set i none) H2,rt:=D.rt,bk:=fun σ2 H2=>D.bk (σ2.set i none) H2,ct:=fun σ2 H2=>D.ct (σ2.set i none) H2 } (σ'.set i (some (.ref x))) (upd H' x (kD x C d))) σ H):KZ K B i tb ts D σ H:=h
theorem Lw (h:c σ H fun b H1=>if b=true then t D Ex σ H1 else u D Ex σ H1):KD c t u D Ex σ H:=h
theorem xj (h:te σ H (fun _ H1=>D.nx σ H1) (fun H1 C d=>Ex σ H1 C d)):FZ te D Ex σ H:=h
theorem xy (h:ta σ H fun vs H1=>∀ x dx,H1 x=none->H1 dx=none->dx≠x ->
 sp (.ref x :: vs) (upd (upd H1 dx (.own x)) x (.ins C dx [])) (fun v H2=>v=.non/\Q (.ref x) H2) (fun c d H2=>∃ C,c=.ref C/\Eh H2 C d)):Be C sp ta σ H Q Eh:=h
theorem kH (h:ta σ H fun vs H1=>vs.length<=MF/\E (.ref C) none H1):Bw C E ta D σ H:=h
end
structure cb (K:LN) (C:Addr):Prop where
 cls:PySem.W.isClsIn K C=true
 ga:L4 K (.ref C) "__getattribute__" = some (some (.builtin "BaseException.__getattribute__"))
 gt:L4 K (.ref C) "__getattr__" = some none
 kc:L4 K (.ref C) "__class__" = some (some (.builtin "object.__class__"))
 gg:OV K (.builtin "object.__class__") "__get__" = some (some (.builtin "getset_descriptor.__get__"))
 tk:RF K (.builtin "object.__class__")=some true
 ob:N3 K C (.type "object")=some true
 be:N3 K C (.type "BaseException")=some true
section
open PySem.Calls PySem.Builtin PySem.Builtin.ObjectAttr PySem.Builtin.Getset_descriptor
variable {prog:Mp} {w:World} {A:MR} {E:Value->LU->Prop} {K:LN} {x C:Addr} {di:Option Addr} {h:Heap} {g:Array PQ} {d:Drawn} {t:Nat} {os:OsState}
theorem tE {M:Model} (e:mM x C di h):Pg M h (typeOf (.ref x)) (.ref C):=by
 obtain ⟨o,vs,e1,e2,_⟩:=e;exact e2 ▸ (PySem.W.Looks.ld e1).andThen .now
theorem GU {M:Model} (X:K.In h) (c:cb K C):Pg M h (find (.ref x) (.ref C) "__class__") (.bind (.builtin "getset_descriptor.__get__") (.builtin "object.__class__")):=by
 have L1:=OW (M:=M) X c.kc;have L2:Pg M h (getOf (some (.builtin "object.__class__"))) (some (.builtin "getset_descriptor.__get__")):=PySem.W.looks_specialIn X c.gg;have L3:=PySem.W.looks_takesIn (M:=M) X c.tk;exact L1.andThen (L2.andThen ((show Pg M h (dataDescriptor? (some (.builtin "object.__class__")) (some (.builtin "getset_descriptor.__get__"))) (some (.builtin "getset_descriptor.__get__",.builtin "object.__class__")) from L3.andThen .now).andThen (PySem.W.Looks.tag .now)))
theorem y7 {R:Q9->LU->Prop} {tp:Value} (X:K.In h) (c:cb K C) (e:mM x C di h) (hq:R (.ok (.ret (.ref C))) ⟨h,g,d,t,os⟩) :
  codeAny (model prog w) A (.call (.builtin "getset_descriptor.__get__") ⟨[.builtin "object.__class__",.ref x,tp],[]⟩) R ⟨h,g,d,t,os⟩:=by
 have L0:=tE (M:=model prog w) e;have L1:=R8 (M:=model prog w) X c.ob;refine P4 PySem.W.KF.slot_gs.plain PySem.W.KF.entry_gs (PySem.W.KF.slot_gs.check _ _ _ _ _ _ _ _ PySem.W.KF.type_class (PySem.W.KF.args_gs _ _ _) ?_);unfold OZ.«getset_descriptor.__get__» descrGet;rw [PySem.W.dga_obj];refine LQ (Md ?_);unfold descrGetter descrCheckInstance descrNameAndClass isInstance;simp only [PySem.W.KF.owner_class]
 repeat lk
 refine ⟨Code.quiet_builtin _ (by trivial),N8 PySem.W.KF.entry_class ?_⟩
 unfold OZ.«object.__class__» shownTypeOf
 repeat lk
 exact hq
theorem EC {M:Model} {nameV:Value} {Q:Unit->LU->Prop} (X:K.In h) (c:cb K C) (e:mM x C di h) (hq:Q () ⟨h,g,d,t,os⟩):wpAny M A (checkBuiltinCall "BaseException.__getattribute__" ⟨[.ref x,nameV],[]⟩) Q E ⟨h,g,d,t,os⟩:=by
 have hk:builtinKind "BaseException.__getattribute__" = some .slot:=by trivial
 have hsplit:splitId "BaseException.__getattribute__" = some ("BaseException","__getattribute__"):=by trivial
 have ha:=F.args_bexc_ga (.ref x) nameV;have L0:=tE (M:=M) e;have L1:=R8 (M:=M) X c.be;simp only [checkBuiltinCall,hk,hsplit];refine LQ ?_;have L2:Pg M h (isInstance (.ref x) (.type "BaseException")) true:=L0.andThen L1;refine L2.at ?_
 repeat (first|assumption|wp_step)
theorem E3 {tk:Tok} {Q:Fin->LU->Prop} (X:K.In h) (c:cb K C) (e:mM x C di h) (hq:Q (.done (.ret (.ref C))) ⟨h,g,d,t,os⟩) :
  wpAny (model prog w) A (OZ.«object.__getattribute__» ⟨[.ref x,.str "__class__" tk],[]⟩) Q E ⟨h,g,d,t,os⟩:=by
 have L0:=tE (M:=model prog w) e;have L1:=GU (M:=model prog w) (x:=x) X c
 repeat (any_goals (first|assumption|with_reducible refine PySem.W.Looks.at (by assumption) ?_|wp_step))
 refine y7 X c e ?_
 repeat (any_goals (first|assumption|wp_step))
theorem Gx {tk:Tok} {R:Q9->LU->Prop} (X:K.In h) (c:cb K C) (e:mM x C di h) (hq:R (.ok (.ret (.ref C))) ⟨h,g,d,t,os⟩) :
  codeAny (model prog w) A (.call (.builtin "BaseException.__getattribute__") ⟨[.ref x,.str "__class__" tk],[]⟩) R ⟨h,g,d,t,os⟩ :=
 P4 RG.ga.plain F.entry_bexc_ga (EC X c e (E3 X c e hq))
theorem FI {Q:Option Value->LU->Prop} (X:K.In h) (c:cb K C) (e:mM x C di h) (hq:Q (some (.ref C)) ⟨h,g,d,t+1,os⟩):wpAny (model prog w) A (getAttr? (.ref x) "__class__") Q E ⟨h,g,d,t,os⟩:=by
 have L0:=tE (M:=model prog w) e;have L1:=OW (M:=model prog w) X c.ga;have L2:=OW (M:=model prog w) X c.gt;have f3:=RG.ga.bind (.ref x);unfold getAttr? getAttrBy? getAttrBy;refine LQ (wpAny_mkText (LQ (Ph (Np (LQ (L0.at (LQ (L1.at ?_))))))));show wpAny _ _ (getAttrByItsOwn _ _ _ _ _ _) _ _ _;unfold getAttrByItsOwn hookBefore;refine LQ ?_;rw [if_pos (by rfl)]
 refine L2.at ?_;refine LQ (Ph (Np ?_));unfold callGetattribute
 repeat (any_goals (first|assumption|wp_step))
 refine Gx X c e ?_
 repeat (any_goals (first|assumption|wp_step))
theorem G0 (c:cb K C):PySem.W.KitX K (.ref x) (.ref C) (mM x C di) where
 ty:=fun _ _ _ e=>tE e
 it:=fun M h X e=>by
  have hc:(P7 K C).isSome=true:=c.cls;unfold P7 at hc
  split at hc
  ·rename_i ho
   intro A' Q' E' s' k q;unfold isType loadHead;exact LQ (wpAny_loadPart (k _ _ (X _ _ ho)) (Md q))
  ·cases hc
 ne:=fun h tp dd its n sl X htp=>by
  refine Bool.eq_false_iff.mpr fun q=>?_;have e:C=tp:=MI.inj (beq_iff_eq.mp q);subst e;have hc:(P7 K C).isSome=true:=c.cls;unfold P7 at hc
  split at hc
  ·rename_i ho
   have z:=(X _ _ ho).symm.trans htp;cases z
  ·cases hc
 ca:=fun {prog w A E Q s} X e k=>by
  obtain ⟨h,g,d,t,os⟩:=s;exact FI X c e k
end
def AW (K:LN) (xs:List V) (H:Hp) (Q:VK):Prop:=∃ (x C:Addr) (d:Option Addr) (c:V) (cv:Value) (b:Bool),xs=[.ref x,c]/\H x=some (kD x C d)/\cb K C/\RelV c cv/\(∀ u,RelV c u->u=cv)/\MH K (.ref C) cv=some b/\Q (.bl b) H
theorem bJ {X:Cx} (K:LN) (hK:X.K=K):da X (.builtin "isinstance") (AW K):=by
 subst hK;intro pins s σ H xs us Q I r h;obtain ⟨x,C,d,c,cv,b,rfl,hx,hc,r2,r3,e,q⟩:=h;obtain ⟨u,v,rfl,ru,rv⟩:=r.two;cases (show u=MI x from ru);cases r3 v rv;obtain ⟨p,_,_⟩:=(show cA X.prog X.w H s.heap x (kD x C d) from I.hok x _ hx);exact PySem.W.kia_one (G0 hc) I.kIn p e (fun z=>nomatch z) fun tk=>⟨.bl b,H,I.tok tk,rfl,q⟩
section
variable {K:LN} {H:Hp} {Q:VK} {x C D:Addr} {d:Option Addr} {b:Bool}
theorem GV {n:String} (hx:H x=some (kD x C d)) (hc:cb K C) (e:MH K (.ref C) (.type n)=some b) (q:Q (.bl b) H):AW K [.ref x,.ty n] H Q:=⟨x,C,d,.ty n,.type n,b,rfl,hx,hc,rfl,fun _ z=>z,e,q⟩
theorem cT (hx:H x=some (kD x C d)) (hc:cb K C) (e:MH K (.ref C) (.ref D)=some b) (q:Q (.bl b) H):AW K [.ref x,.ref D] H Q:=⟨x,C,d,.ref D,.ref D,b,rfl,hx,hc,rfl,fun _ z=>z,e,q⟩
end
section
variable {M:Model} {A:MR} {E:Value->LU->Prop} {s:LU} {base:Heap} {env:Env} {l:List Env} {L x T C:Addr} {d:Option Addr}
end
section
variable {X:Cx} {pins:List (Addr×Obj)} {σ:St} {H:Hp} {s s':LU} {x T C:Addr} {d:Option Addr} {ts:List Addr} {h':Heap} {E:XK} {e:Value} {fl:Value}
inductive z8 (h:Heap) (x:Addr) (C:Addr) (d:Option Addr) (L:Addr):List Addr->Prop
 | new:u4 h x C d->z8 h x C d L []
 | fly {T:Addr}:o7 h x T C d->z8 h x C d L [T]
 | held {T:Addr}:kq h x T C d (rawInt L)->z8 h x C d L [T]
 | any {T:Addr} {fl:Value}:kq h x T C d fl->z8 h x C d L [T]
def XR (X:Cx) (E:XK) (e:Value) (s':LU):Prop:=∃ x ts C d σ H,e=.ref x/\Up X [] σ H s' x ts/\z8 s'.heap x C d X.env.locals ts/\E (.ref C) d H
theorem Up.bare (U:Up X pins σ H s x ts):Up X [] σ H s x ts:=by
 have I:=U.inv;exact ⟨⟨I.ok,I.os,I.bare,I.base,I.loc,I.cell,I.free,I.fV,fun p hp=>I.pin p (by rw [Pd] at hp;exact Nm _ hp),I.hok,I.len⟩,U.fx,U.fT,U.nx,U.nT,fun p hp=>U.px p (by rw [Pd] at hp;exact Nm _ hp)⟩
theorem Up.eL {F:Value->LU->Prop} (U:Up (X.jW F) pins σ H s x ts):Up X pins σ H s x ts:=⟨U.inv.eL,U.fx,U.fT,U.nx,U.nT,U.px⟩
end
section
variable {P:Mp} {w:World} {K:LN} {mg:Str->Option Value} {base:Heap} {N:List Str} {qual:Str} {scope:Scope} {f:Addr} {cd:Value} {A:MR} {outer:List Env} {s:LU} {H:Hp} {E:XK}
abbrev cxR (P:Mp) (w:World) (K:LN) (mg:Str->Option Value) (base:Heap) (N:List Str) (qual:Str) (scope:Scope) (f:Addr) (cd:Value) (A:MR) (outer:List Env) (s:LU) (H:Hp) (E:XK):Cx :=
 (jc (CXR P w) P w K mg base N qual scope f cd A outer s H E).jW (XR (jc (CXR P w) P w K mg base N qual scope f cd A outer s H E) E)
theorem ua:Lets (cxR P w K mg base N qual scope f cd A outer s H E) E:=fun pins σ H' s' x C d U he q=>⟨x,[],C,d,σ,H',rfl,U.eL.bare,.new he,q⟩
theorem tU:Passes (CXR P w) (cxR P w K mg base N qual scope f cd A outer s H E) E:=fun pins σ H1 s1 e s' I h=>by
 obtain ⟨x,T,C,d,H',rfl,he,U,q⟩:=sx I rfl h;exact ⟨x,[T],C,d,σ,H',rfl,U.eL.bare,.fly he,q⟩
theorem Fs {e:Value} {s':LU} (h:XR (jc (CXR P w) P w K mg base N qual scope f cd A outer s H E) E e s'):(jc (CXR P w) P w K mg base N qual scope f cd A outer s H E).xe e s':=by
 obtain ⟨x,ts,C,d,σ,H',rfl,U,fl,q⟩:=h;cases fl with
 | new he=>exact ux (L:=s.heap.objs.size) (outer:=outer) U.inv.ok.frames U.inv.stack rfl he fun h' T' F=>pO (U.land rfl he.oY F) F.exc q
 | fly he=>exact vv (L:=s.heap.objs.size) (outer:=outer) U.inv.ok.frames U.inv.stack rfl he fun h' T' F=>pO (U.land rfl he.oY F) F.exc q
 | held he=>exact leave_held (L:=s.heap.objs.size) (outer:=outer) U.inv.stack rfl he fun h' F=>pO (U.land rfl he.oY F) F.exc q
 | any he=>exact Gf (L:=s.heap.objs.size) (outer:=outer) U.inv.ok.frames U.inv.stack rfl he fun h' T' F=>pO (U.land rfl he.oY F) F.exc q
theorem Fun.okX {x qual:Str} {st:Stmt} {f:Addr} {fd:MZ} {N ps:List Str} {k:Nat} {sp:Sp} (F:Fun K x qual st f fd) (S:aK N ps (af st)) (len:∀ vs H Q E,sp vs H Q E->vs.length=ps.length)
  (hbody:∀ (cdv:Value) (A:MR) (outer:List Env) (s:LU) (H:Hp) (vs:List V) (Q:VK) (E:XK),cg k (A.deeper (envOfC qual (af st) s.heap.objs.size f cdv))->sp vs H Q E ->
   ∃ t,((cxR P w K mg base N qual (af st) f cdv A outer s H E).Ok->PSs (cxR P w K mg base N qual (af st) f cdv A outer s H E) (ax st) t)/\t { nx:=fun _ H'=>Q .non H',rt:=Q } (start N vs) H):aI P w K mg base (CXR P w) (k+1) f fd ps sp:=by
 obtain ⟨oc,od,kV,doc,pm,an,cdv,ct,osl,rfl,lk,hcd⟩:=F.ex;refine zL lk hcd S len fun A outer s H vs Q E hr hsp=>?_;obtain ⟨t,h,q⟩:=hbody cdv A outer s H vs Q E hr hsp;refine ⟨t,fun pins s' σ H' D I z=>?_,q⟩;exact Nj (h (I.jW _).ok pins s' σ H' D (I.jW _) z) (fun _ _ y=>y.eL) fun _ _ y=>Fs y
theorem aI.both {k:Nat} {f:Addr} {fd:MZ} {ps:List Str} {sp1 sp2:Sp} (F1:aI P w K mg base CX0 k f fd ps sp1) (F2:aI P w K mg base (CXR P w) k f fd ps sp2):aI P w K mg base (CXR P w) k f fd ps (fun vs H Q E=>sp1 vs H Q E\/sp2 vs H Q E) :=
 ⟨fun vs H Q E h=>h.elim (F1.len vs H Q E) (F2.len vs H Q E),fun A outer s H args us vs Q E hr he hb hv h=>by
  rcases h with h|h
  ·refine OO (F1.run A outer s H args us vs Q E hr he hb hv h) fun r s' z=>?_;cases r with
   | error e=>exact Nk z
   | ok fl=>cases fl <;> exact z
  ·exact F2.run A outer s H args us vs Q E hr he hb hv h⟩
end
section
variable {X:Cx} {pos:Pos}
end
section
variable {σ:St} {H:Hp} {Q:VK} {D:Ends} {Ex:St->Hp->Addr->Option Addr->Prop} {Eh:Hp->Addr->Option Addr->Prop}
end
end L2
namespace L2
def Back (U N:St->Hp->Prop):Prop:=∀ σ' H',U σ' H'->N σ' H'
theorem vo {t u:TS} {D:Ends} {σ:St} {H:Hp} (h:∀ N:St->Hp->Prop,Back (u D) N->t { D with nx:=N } σ H):J9 t u D σ H:=h _ fun _ _ z=>z
theorem sL {U N:St->Hp->Prop} {σ:St} {H:Hp} (h:Back U N) (q:U σ H):N σ H:=h σ H q
end L2
namespace L2
open PySem PySem.Spec PyProof.Rows
structure Il (K:LN) (C:Addr) (m:Str) (f:Addr):Prop where
 ga:OV K (.ref C) "__getattribute__" = some (some (.builtin "type.__getattribute__"))
 rd:PySem.W.readsIn K C (.type "type")=true
 fc:PySem.W.findCls K (.ref C) (.type "type") m=some (.val (.ref f))
 kp:LV K (.ref f)=true
section
variable {X:Cx} {k:Nat} {f C:Addr} {fd:MZ} {ps:List Str} {sp:Sp} {x m:Str} {p pos apos:Pos} {e:Expr} {es:List Expr} {t:TA}
theorem q9 {pl:Sem Bool} (hg:Gl X x) (hm:X.mg x=some (.ref C)) (hc:Il X.K C m f) (F:aI X.prog X.w X.K X.mg X.base CX0 k f fd ps sp) (hr:cg k X.A) (hb:Binds X.K fd ps []) (ha:PA X (e :: es) t)
  (hn:isStar e=false:=by rfl) (hall:es.all (fun e=>!isStar e)=true:=by rfl) (hdb:(x == ("__debug__" : Str))=false:=by decide)
  (ht:eval (.Call (.Attribute (.Name x p) m apos) (e :: es) [] pos) X.env=(do
   let ov <- eval (.Name x p) X.env
   standAt apos.atName
   let (f,first) <- holding [ov] (getMethod ov m pl)
   callWith pos f first (backTo pos (MU (e :: es) X.env)) (backToKw pos (keywordEach [] X.env))):=by rfl) :
  PE X (.Call (.Attribute (.Name x p) m apos) (e :: es) [] pos) (qz sp [] E0 t):=by
 intro pins s σ H Q I h;refine RH (pl:=pl) (mw I hg hm ?_ hdb) ht;refine PySem.W.method_cls I.kIn hc.ga (PySem.W.cls_value I.kIn hc.rd hc.fc rfl ?_);refine OL (first:=[]) (h₀:=X.base) I.ok.mod.kin hc.kp (thn (ha pos pins _ σ H _ (I.tok (s.toks+1)) h) fun us s2 ⟨vs,H2,I2,r,q2⟩=>⟨I2.kIn,?_⟩) (bP hn) (cU hall);exact AV F hr hb .nil oA I2 r q2
end
section
variable {X:Cx} {k:Nat} {f C:Addr} {fd:MZ} {ps ks:List Str} {sp:Sp} {x:Str} {p pos kpos:Pos} {e a:Expr} {es:List Expr} {kws:List Rw} {t tk:TA} {te:TE} {g:List Value->List Value->List Value} {gV:List V->List V->List V}
end
section
variable {X:Cx} {pins:List (Addr×Obj)} {σ:St} {H:Hp} {s:LU} {A:MR} {α β:Type} [Rep α] [DecidableEq α] [bV α] [Rep β] [DecidableEq β] [bV β]
end
end L2
namespace PySem
open Sem (wp)
theorem Jt:typeLookup (.type "zip") "__getattr__" = pure none:=am_miss_of_fast (by kernel_rfl)
theorem Jz:typeLookup (.type "zip") "keys" = pure none:=am_miss_of_fast (by kernel_rfl)
theorem Hg:entryFor table "zip.__getattribute__" = some OZ.«object.__getattribute__» :=
 RY (id':="object.__getattribute__") (by kernel_rfl) (by trivial) (by trivial) (by kernel_rfl)
theorem HS (z:Addr) (fs:Array Value) (u:Tok) :
  Meets (OZ.«object.__getattribute__» ⟨[.ref z,.str "keys" u],[]⟩) (fun A R s=>s.heap.get? z=some { cls:=.type "zip",dict:=none,data:=.fields fs,slots:=#[] }/\raisesAttr (.ref z) "keys" A R s) :=
 Meets.of_wp fun prog w A R s hs=>by
  obtain ⟨hp,g,d,tk,os⟩:=s;obtain ⟨hx,hA,hs⟩:=hs;have hT:(⟨hp,g,d,tk,os⟩:LU).TypeIs (.ref z) "zip":=⟨_,hx,rfl⟩;have hk:=Jz;unfold OZ.«object.__getattribute__»
  repeat (any_goals (first|assumption|wp_step))
  exact wpAny_raiseAttrError hA hs (attrMsg_fits (by trivial) (by trivial))
section
variable {prog:Mp} {w:World} {A:MR} {E:Value->LU->Prop} {s:LU}
theorem BL {z:Addr} {fs:Array Value} {Q:Option Value->LU->Prop} (hx:s.heap.get? z=some { cls:=.type "zip",dict:=none,data:=.fields fs,slots:=#[] }) (hA:A.handled=none)
  (h:∀ h' tk,(∀ b o,s.heap.get? b=some o->h'.get? b=some o)->Q none { s with heap:=h',toks:=tk }):wpAny (model prog w) A (getAttr? (.ref z) "keys") Q E s:=by
 obtain ⟨hp,g,d,tk,os⟩:=s;have hT:∀ tk',(⟨hp,g,d,tk',os⟩:LU).TypeIs (.ref z) "zip":=fun _=>⟨_,hx,rfl⟩;have f1:=sub_AttributeError;have f3:=Pj.lookup;have f4:=Pj.bind (.ref z);have f5:=Jt;unfold getAttr? getAttrBy? getAttrBy
 repeat (any_goals (first|assumption|exact hT _|((with_reducible show wpAny _ _ (call (Value.builtin "zip.__getattribute__") _ _) _ _ _);refine P9 Pj (hT _) Hg (F.args_zip_getattribute_2 _ _) (HS z fs _) ⟨hx,hA,fun h' tk' e hn=>?_⟩)|wp_step))
 obtain ⟨t',u',he⟩:=hn.there;show wpAny _ _ (getattributeRaised _ _ _ _ _ _ _) _ _ _;unfold getattributeRaised
 repeat (any_goals (first|assumption|wp_step))
 exact h _ _ hn.keeps
end
end PySem
namespace PySem
open Sem (wp)
section
variable {prog:Mp} {w:World} {A:MR} {E:Value->LU->Prop} {s:LU}
abbrev jE (h:Heap) (z TI TO T:Addr) (b:Bool):Prop:=h.get? z=some { cls:=.type "zip",dict:=none,data:=.fields #[rawInt T,.bool b,.bool false,.ref TI,.ref TO],slots:=#[] }
theorem yq {z TI TO T:Addr} {b:Bool} {oT:Obj} {Q:Bool->LU->Prop} (gz:jE s.heap z TI TO T b) (gT:s.heap.get? T=some oT)
  (h:∀ h',jE h' z TI TO T true->O5 z s.heap h'->Q false { s with heap:=h' }):wpAny (model prog w) A (NH (.ref z)) Q E s:=by
 unfold NH;refine LQ (Oh gz rfl (x:=rawInt T) rfl ?_);have al:∀ {R:Option Obj->LU->Prop},R (some oT) s->wpAny (model prog w) A (loadIfAlive ((T:Int).toNat)) R E s:=fun {R} r=>by
  intro Γ q hΓ;show R (s.heap.get? ((T:Int).toNat)) s;rw [show ((T:Int).toNat)=T from NL T,gT];exact r
 refine LQ (al ?_);rw [if_neg (fun z=>nomatch z)];refine LQ (Oh gz rfl (x:=.bool b) rfl ?_);cases b with
 | true =>
  rw [if_neg (by decide)]
  exact Md (h _ gz ⟨rfl,fun _ _=>rfl⟩)
 | false =>
  rw [if_pos (by decide)]
  exact LQ (Pk gz (by simp) fun h1 gz1 hs1=>Md (h h1 gz1 hs1))
theorem yV {z TI TO T i1 i2 l1 l2:Addr} {k1 k2:Nat} {xs ys:Array Value} {x y:Value} {b:Bool} {oT:Obj} {Q:Value->LU->Prop} (D:Qn z TI TO i1 i2 l1 l2)
  (gz:jE s.heap z TI TO T b) (gT:s.heap.get? T=some oT) (gI:Sz s.heap TI (.ref i1) (.ref i2))
  (g1:s.heap.IsListIter i1 l1 k1) (g2:s.heap.IsListIter i2 l2 k2) (gl1:s.heap.IsList l1 xs) (gl2:s.heap.IsList l2 ys) (gx:xs[k1]?=some x) (gy:ys[k2]?=some y)
  (hQ:∀ h',jE h' z TI TO T true->h'.IsListIter i1 l1 (k1+1)->h'.IsListIter i2 l2 (k2+1)->Sz h' s.heap.objs.size x y ->
   (∀ c o,c≠z->c≠i1->c≠i2->s.heap.get? c=some o->h'.get? c=some o)->Q (.ref s.heap.objs.size) { s with heap:=h' }) :
  wpAny (model prog w) A (OZ.«zip.__next__» ⟨[.ref z],[]⟩) (fun fin s'=>∃ v,fin=.done (.ret v)/\Q v s') E s:=by
 show wpAny _ _ (field (.ref z) 2 >>= _) _ _ _;refine LQ (Oh gz rfl (x:=.bool false) rfl ?_);show wpAny _ _ (field (.ref z) 3 >>= _) _ _ _;refine LQ (Oh gz rfl (x:=.ref TI) rfl ?_);refine LQ (RZ gI rfl ?_);show wpAny _ _ (NH (.ref z) >>= _) _ _ _;refine LQ (yq gz gT fun h1 gz1 hs1=>?_);simp only [Qq,if_false,List.forIn_toArray,RB,List.forIn_nil];refine LQ (LQ (LQ (Np ?_)));show wpAny _ _ (O2 (.ref i1) >>= _) _ _ _;refine LQ (Ro (g1.extBut hs1.extBut D.i1z) (gl1.extBut hs1.extBut D.l1z) gx fun h2 g12 hs2=>Md (Md ?_));refine LQ (LQ (Np ?_));show wpAny _ _ (O2 (.ref i2) >>= _) _ _ _;refine LQ (Ro ((g2.extBut hs1.extBut D.i2z).extBut hs2.extBut D.i12.symm) ((gl2.extBut hs1.extBut D.l2z).extBut hs2.extBut D.l2i1) gy fun h3 g23 hs3=>Md (Md (Md ?_)));refine LQ (wpAny_newTuple (Md ⟨_,rfl,?_⟩) (show 2<=MF by decide))
 have e1:h1.objs.size=s.heap.objs.size:=hs1.1;have e2:h2.objs.size=h1.objs.size:=hs2.1;have e3:h3.objs.size=h2.objs.size:=hs3.1;have ez:h3.objs.size=s.heap.objs.size:=e3.trans (e2.trans e1);have up:∀ c o,c≠z->c≠i1->c≠i2->s.heap.get? c=some o->h3.get? c=some o:=fun c o n1 n2 n3 q=>hs3.extBut _ _ n3 (hs2.extBut _ _ n2 (hs1.extBut _ _ n1 q));have q:=hQ (h3.push { cls:=.type "tuple",data:=.seq #[x,y] }) (L7 _ (hs3.extBut _ _ D.i2z.symm (hs2.extBut _ _ D.i1z.symm gz1))) ((g12.extBut hs3.extBut D.i12).at fun o e=>L7 _ e) (g23.at fun o e=>L7 _ e)
  (by rw [<- ez];exact Mz _ rfl) fun c o n1 n2 n3 q=>L7 _ (up c o n1 n2 n3 q)
 rw [<- ez] at q;exact q
theorem Ez {z TI TO T i1 i2 l1 l2:Addr} {k1 k2:Nat} {xs ys:Array Value} {x y:Value} {b:Bool} {oT:Obj} {Q:Option Value->LU->Prop} (D:Qn z TI TO i1 i2 l1 l2)
  (gz:jE s.heap z TI TO T b) (gT:s.heap.get? T=some oT) (gI:Sz s.heap TI (.ref i1) (.ref i2))
  (g1:s.heap.IsListIter i1 l1 k1) (g2:s.heap.IsListIter i2 l2 k2) (gl1:s.heap.IsList l1 xs) (gl2:s.heap.IsList l2 ys) (gx:xs[k1]?=some x) (gy:ys[k2]?=some y)
  (hQ:∀ h',jE h' z TI TO T true->h'.IsListIter i1 l1 (k1+1)->h'.IsListIter i2 l2 (k2+1)->Sz h' s.heap.objs.size x y ->
   (∀ c o,c≠z->c≠i1->c≠i2->s.heap.get? c=some o->h'.get? c=some o)->Q (some (.ref s.heap.objs.size)) { s with heap:=h' }) :
  wpAny (model prog w) A (pyNext (.ref z)) Q E s:=by
 have tz:s.TypeIs (.ref z) "zip":=⟨_,gz,rfl⟩;unfold pyNext;refine LQ (Ph (OH (name:=NW "__next__") tz Qh (Ol Qh tz F.entry_zip_next ?_ (F.args_zip_next_1 _))));exact yV D gz gT gI g1 g2 gl1 gl2 gx gy fun h' a1 a2 a3 a4 a5=>Md (hQ h' a1 a2 a3 a4 a5)
theorem zR {z TI TO T i1 i2 l1 l2:Addr} {k1:Nat} {xs:Array Value} {b:Bool} {oT:Obj} {Q:Fin->LU->Prop} (hh:A.handled=none) (D:Qn z TI TO i1 i2 l1 l2)
  (gz:jE s.heap z TI TO T b) (gT:s.heap.get? T=some oT) (gI:Sz s.heap TI (.ref i1) (.ref i2))
  (g1:s.heap.IsListIter i1 l1 k1) (gl1:s.heap.IsList l1 xs) (gx:xs[k1]?=none)
  (hE:∀ h' e,(∀ c o,c≠z->c≠i1->c≠i2->s.heap.get? c=some o->h'.get? c=some o)->(∃ o,h'.get? e=some o/\o.cls=.type "StopIteration")->E (.ref e) { s with heap:=h' }) :
  wpAny (model prog w) A (OZ.«zip.__next__» ⟨[.ref z],[]⟩) Q E s:=by
 show wpAny _ _ (field (.ref z) 2 >>= _) _ _ _;refine LQ (Oh gz rfl (x:=.bool false) rfl ?_);show wpAny _ _ (field (.ref z) 3 >>= _) _ _ _;refine LQ (Oh gz rfl (x:=.ref TI) rfl ?_);refine LQ (RZ gI rfl ?_);show wpAny _ _ (NH (.ref z) >>= _) _ _ _;refine LQ (yq gz gT fun h1 gz1 hs1=>?_);simp only [Qq,if_false,List.forIn_toArray,RB,List.forIn_nil];refine LQ (LQ (LQ (Np ?_)));show wpAny _ _ (O2 (.ref i1) >>= _) _ _ _;exact LQ (wpAny_nextOf_list_end hh (g1.extBut hs1.extBut D.i1z) (gl1.extBut hs1.extBut D.l1z) gx fun h2 e hs2 he=>hE h2 e (fun c o n1 n2 n3 q=>hs2 _ _ n2 (hs1.extBut _ _ n1 q)) he)
theorem GC {z TI TO T i1 i2 l1 l2:Addr} {k1:Nat} {xs:Array Value} {b:Bool} {oT:Obj} {Q:Option Value->LU->Prop} (hh:A.handled=none) (D:Qn z TI TO i1 i2 l1 l2)
  (gz:jE s.heap z TI TO T b) (gT:s.heap.get? T=some oT) (gI:Sz s.heap TI (.ref i1) (.ref i2))
  (g1:s.heap.IsListIter i1 l1 k1) (gl1:s.heap.IsList l1 xs) (gx:xs[k1]?=none)
  (hQ:∀ h',(∀ c o,c≠z->c≠i1->c≠i2->s.heap.get? c=some o->h'.get? c=some o)->Q none { s with heap:=h' }):wpAny (model prog w) A (pyNext (.ref z)) Q E s:=by
 have tz:s.TypeIs (.ref z) "zip":=⟨_,gz,rfl⟩;unfold pyNext;refine LQ (Ph (OH (name:=NW "__next__") tz Qh (Ol Qh tz F.entry_zip_next (zR hh D gz gT gI g1 gl1 gx fun h' e hk he=>?_) (F.args_zip_next_1 _))));obtain ⟨o,ho,hc⟩:=he;exact LQ (Rf (T:="StopIteration") (b:=true) ⟨o,ho,hc⟩ isSubtype_stop (Md (hQ _ hk)))
end
end PySem
namespace PySem
open Sem (wp)
theorem z5:entryFor table "dict.update.loop" = some OZ.«dict.update.loop»:=entryFor_of_tree (by kernel_rfl)
theorem rj:plainId "dict.update.loop" = true:=by trivial
structure nh (h:Heap) (z TI TO i1 i2 l1 l2:Addr) (i:Nat) (xs ys:Array Value):Prop where
 own:(IsZip h z TI TO .none/\∃ a b,Sz h TO a b)\/∃ (T:Addr) (b:Bool) (oT:Obj),jE h z TI TO T b/\h.get? T=some oT/\T≠z/\T≠i1/\T≠i2
 ins:Sz h TI (.ref i1) (.ref i2)
 it1:h.IsListIter i1 l1 i
 it2:h.IsListIter i2 l2 i
 ls1:h.IsList l1 xs
 ls2:h.IsList l2 ys
theorem nh.keep {h h':Heap} {z TI TO i1 i2 l1 l2 d:Addr} {i:Nat} {xs ys:Array Value} (Z:nh h z TI TO i1 i2 l1 l2 i xs ys) (nz:z≠d) (nI:TI≠d) (nO:TO≠d) (n1:i1≠d) (n2:i2≠d) (n3:l1≠d) (n4:l2≠d)
  (k:∀ c o,c≠d->h.get? c=some o->h'.get? c=some o) (hd:∃ o,h'.get? d=some o):nh h' z TI TO i1 i2 l1 l2 i xs ys where
 own:=by
  rcases Z.own with ⟨gz,a,b,gO⟩|⟨T,b,oT,gz,gT,t1,t2,t3⟩
  ·exact .inl ⟨k _ _ nz gz,a,b,k _ _ nO gO⟩
  ·by_cases e:T=d
   ·obtain ⟨o,ho⟩:=hd;exact .inr ⟨T,b,o,k _ _ nz gz,by rw [e];exact ho,t1,t2,t3⟩
   ·exact .inr ⟨T,b,oT,k _ _ nz gz,k _ _ e gT,t1,t2,t3⟩
 ins:=k _ _ nI Z.ins
 it1:=Z.it1.at fun o q=>k _ o n1 q
 it2:=Z.it2.at fun o q=>k _ o n2 q
 ls1:=Z.ls1.at fun o q=>k _ o n3 q
 ls2:=Z.ls2.at fun o q=>k _ o n4 q
section
variable {prog:Mp} {w:World} {A:MR} {E:Value->LU->Prop} {s:LU} {z TI TO i1 i2 l1 l2:Addr} {xs ys:Array Value}
theorem D7 {i:Nat} {x y:Value} {Q:Option Value->LU->Prop} (D:Qn z TI TO i1 i2 l1 l2) (Z:nh s.heap z TI TO i1 i2 l1 l2 i xs ys) (gx:xs[i]?=some x) (gy:ys[i]?=some y)
  (hQ:∀ h',nh h' z TI TO i1 i2 l1 l2 (i+1) xs ys->Sz h' s.heap.objs.size x y->(∀ c o,c≠z->c≠TO->c≠i1->c≠i2->s.heap.get? c=some o->h'.get? c=some o)->Q (some (.ref s.heap.objs.size)) { s with heap:=h' }) :
  wpAny (model prog w) A (pyNext (.ref z)) Q E s:=by
 have lt:∀ {c:Addr} {o:Obj},s.heap.get? c=some o->s.heap.objs.size≠c:=fun e=>O6 (Mf e);rcases Z.own with ⟨gz,a,b,gO⟩|⟨T,b,oT,gz,gT,t1,t2,t3⟩
 ·refine wpAny_pyNext_zip_item D gz Z.ins gO Z.it1 Z.it2 Z.ls1 Z.ls2 gx gy fun h' a1 a2 a3 a4 a5 a6 hk=>hQ h' ⟨.inr ⟨s.heap.objs.size,false,_,a1,a5,lt gz,?_,?_⟩,hk _ _ D.TIz D.TITO D.TIi1 D.TIi2 Z.ins,a3,a4,Z.ls1.at fun o e=>hk _ o D.l1z D.l1TO D.l1i1 D.l1i2 e,Z.ls2.at fun o e=>hk _ o D.l2z D.l2TO D.l2i1 D.l2i2 e⟩ a5 hk
  ·obtain ⟨_,e,_⟩:=Z.it1;exact lt e
  ·obtain ⟨_,e,_⟩:=Z.it2;exact lt e
 ·exact Ez D gz gT Z.ins Z.it1 Z.it2 Z.ls1 Z.ls2 gx gy fun h' a1 a2 a3 a4 hk=>hQ h' ⟨.inr ⟨T,true,oT,a1,hk _ _ t1 t2 t3 gT,t1,t2,t3⟩,hk _ _ D.TIz D.TIi1 D.TIi2 Z.ins,a2,a3,Z.ls1.at fun o e=>hk _ o D.l1z D.l1i1 D.l1i2 e,Z.ls2.at fun o e=>hk _ o D.l2z D.l2i1 D.l2i2 e⟩ a4 fun c o c1 _ c3 c4 e=>hk c o c1 c3 c4 e
theorem EG {i:Nat} {Q:Option Value->LU->Prop} (hh:A.handled=none) (D:Qn z TI TO i1 i2 l1 l2) (Z:nh s.heap z TI TO i1 i2 l1 l2 i xs ys) (gx:xs[i]?=none)
  (hQ:∀ h',(∀ c o,c≠z->c≠TO->c≠i1->c≠i2->s.heap.get? c=some o->h'.get? c=some o)->Q none { s with heap:=h' }):wpAny (model prog w) A (pyNext (.ref z)) Q E s:=by
 rcases Z.own with ⟨gz,a,b,gO⟩|⟨T,b,oT,gz,gT,t1,t2,t3⟩
 ·exact wpAny_pyNext_zip_end hh D gz Z.ins gO Z.it1 Z.it2 Z.ls1 Z.ls2 (.inl gx) fun h' hk=>hQ h' hk
 ·exact GC hh D gz gT Z.ins Z.it1 Z.ls1 gx fun h' hk=>hQ h' fun c o c1 _ c3 c4 e=>hk c o c1 c3 c4 e
end
section
variable {prog:Mp} {w:World} {A:MR} {E:Value->LU->Prop} {Kk:Type} [DecidableEq Kk] {knd:KeyKind prog w Kk} {d z TI TO i1 i2 l1 l2:Addr} {xs ys:Array Value} {kvs:List (Kk×Value)}
theorem Jn {R:Q9->LU->Prop} (hh:A.handled=none) (D:Qn z TI TO i1 i2 l1 l2) (nz:z≠d) (nI:TI≠d) (nO:TO≠d) (n1:i1≠d) (n2:i2≠d) (n3:l1≠d) (n4:l2≠d) (hl:kvs.length=xs.size) (hz:kvs.length<=MF)
  (hkv:∀ (i:Nat) (k:Kk) (v:Value),kvs[i]?=some (k,v)->∃ x,xs[i]?=some x/\knd.is k x=true/\ys[i]?=some v) :
  ∀ (m i:Nat) (j:Int) (s:LU),kvs.length - i=m->i<=kvs.length->nh s.heap z TI TO i1 i2 l1 l2 i xs ys->s.heap.DictOf knd d (merged [] (kvs.take i)) ->
   (∀ h' t',h'.DictOf knd d (merged [] kvs)->(∀ c o,c≠d->c≠z->c≠TO->c≠i1->c≠i2->s.heap.get? c=some o->h'.get? c=some o)->R (.ok (.ret .none)) { s with heap:=h',toks:=t' }) ->
   codeAny (model prog w) A (.builtin "dict.update.loop" ⟨[.ref d,.ref z,rawInt j,.none],[]⟩) R s:=by
 intro m
 induction m with
 | zero =>
  intro i j s hm hi Z hd hR;have e:i=kvs.length:=by omega
  subst e;rw [Nh] at hd;refine N8 z5 ?_;rw [NU rj _];show wpAny _ A.in1 (pyNext (.ref z) >>= _) _ _ s;refine LQ (EG (by simpa using hh) D Z (Oi (by omega)) fun h' hk=>?_)
  show wpAny _ A.in1 (Builtin.Dict.addKeywords d [] >>= _) _ _ _;refine LQ (Md (Md (hR h' s.toks ?_ fun c o _ c1 c2 c3 c4 q=>hk c o c1 c2 c3 c4 q)));obtain ⟨o,es,ep,ho,rest⟩:=hd;exact ⟨o,es,ep,hk _ _ nz.symm nO.symm n1.symm n2.symm ho,rest⟩
 | succ m ih =>
  intro i j s hm hi Z hd hR;have hlt:i<kvs.length:=by omega
  obtain ⟨⟨k,v⟩,hg⟩:∃ p,kvs[i]?=some p:=⟨_,LO hlt⟩;obtain ⟨x,gx,kx,gy⟩:=hkv i k v hg;refine N8 z5 ?_;rw [NU rj _];show wpAny _ A.in1 (pyNext (.ref z) >>= _) _ _ s;refine LQ (D7 D Z gx gy fun h1 Z1 gp hk=>?_);show wpAny _ A.in1 (holding [MI s.heap.objs.size] _ >>= _) _ _ _;refine LQ (Np ?_);refine LQ (wpAny_tryCatch ?_);unfold Builtin.Dict.pairItems;refine LQ (RI (T:="tuple") ⟨_,gp,rfl⟩ ?_);rw [if_pos (by decide)]
  refine LQ (RZ gp rfl (Md ?_));show wpAny _ A.in1 (holding [x,v] (dictSet d x v)) _ _ _;refine Np ?_;have hd1:h1.DictOf knd d (merged [] (kvs.take i)):=by
   obtain ⟨o,es,ep,ho,rest⟩:=hd;exact ⟨o,es,ep,hk _ _ nz.symm nO.symm n1.symm n2.symm ho,rest⟩
  have ml:=merged_length_le ([]:List (Kk×Value)) (kvs.take i);have tl:(kvs.take i).length<=i:=List.length_take_le ..;refine wpAny_dictSet_pairs (s:={ s with heap:=h1 }) (hsz:=by rw [RC,Ou] at ml;omega) kx hd1 fun h2 hd2 hs2=>?_
  rw [<- merged_take_succ [] kvs i (k,v) hg] at hd2;have he:∃ o,h2.get? d=some o:=let ⟨o,_,_,ho,_⟩:=hd2;⟨o,ho⟩;refine Md ⟨Pl rj _,ih (i+1) (j+1) _ (by omega) hlt (Z1.keep nz nI nO n1 n2 n3 n4 (fun c o c1 q=>(hs2.2 c c1).trans q) he) hd2 fun h3 t3 hd3 hk3=>?_⟩
  exact hR h3 t3 hd3 fun c o c0 c1 c2 c3 c4 q=>hk3 c o c0 c1 c2 c3 c4 ((hs2.2 c c0).trans (hk c o c1 c2 c3 c4 q))
theorem y4 {s:LU} {Q:Value->LU->Prop} (hh:A.handled=none) (D:Qn z TI TO i1 i2 l1 l2) (gz:IsZip s.heap z TI TO .none) (Z:nh s.heap z TI TO i1 i2 l1 l2 0 xs ys) (hl:kvs.length=xs.size) (hz:kvs.length<=MF)
  (hkv:∀ (i:Nat) (k:Kk) (v:Value),kvs[i]?=some (k,v)->∃ x,xs[i]?=some x/\knd.is k x=true/\ys[i]?=some v) (nd:(kvs.map (·.1)).Nodup) (gO:∃ o,s.heap.get? TO=some o)
  (h:∀ h' t',h'.DictOf knd s.heap.objs.size kvs->(∀ c o,c≠z->c≠TO->c≠i1->c≠i2->s.heap.get? c=some o->h'.get? c=some o)->Q (.ref s.heap.objs.size) { s with heap:=h',toks:=t' }) :
  wpAny (model prog w) A (call (.type "dict") [.ref z]) Q E s:=by
 refine callType_codes (Q₁:=fun obj s₁=>obj=.ref s.heap.objs.size/\s₁={ s with heap:=s.heap.push { cls:=.type "dict",data:=.dict #[] } }) F.kt_called_dict (F.kt_typeCall_dict_1 _) F.entry_dict_init (kt_code_dict_new _ ⟨rfl,rfl⟩) ?_;rintro obj s₁ ⟨rfl,rfl⟩;have anew:(s.heap.push { cls:=.type "dict",data:=.dict #[] }).DictOf knd s.heap.objs.size []:=Heap.DictOf.new s.heap;have lt:∀ {c:Addr} {o:Obj},s.heap.get? c=some o->c≠s.heap.objs.size:=fun e=>Mn (Mf e);have gz1:IsZip (s.heap.push { cls:=.type "dict",data:=.dict #[] }) z TI TO .none:=L7 _ gz;have nz:=lt gz;have nI:=lt Z.ins;have nO:TO≠s.heap.objs.size:=let ⟨_,e⟩:=gO;lt e;have n1:i1≠s.heap.objs.size:=let ⟨_,e,_⟩:=Z.it1;lt e;have n2:i2≠s.heap.objs.size:=let ⟨_,e,_⟩:=Z.it2;lt e;have n3:l1≠s.heap.objs.size:=let ⟨_,e,_⟩:=Z.ls1;lt e;have n4:l2≠s.heap.objs.size:=let ⟨_,e,_⟩:=Z.ls2;lt e;refine ⟨anew.typeIs,F.args_dict_init_2 _ _,?_⟩;unfold OZ.«dict.__init__»;refine LQ ?_;unfold Builtin.Dict.selfAndRest;refine LQ (wpAny_notOrdered_dict anew.typeIs ?_);show wpAny _ _ (pure (s.heap.objs.size,[MI z])) _ _ _;refine Md ?_;show wpAny _ _ (Q0 "dict.__init__" s.heap.objs.size (.ref z) [] .none) _ _ _;unfold Q0;refine LQ (RI (T:="zip") ⟨_,gz1,rfl⟩ ?_);rw [if_pos (by decide)]
 refine LQ (BL gz1 (by simpa using hh) fun h1 t1 k1=>?_)
 rw [if_pos (show (none:Option Value).isNone=true from rfl)];refine LQ (Sm ?_);refine LQ (wpAny_pyIter_zip (k1 _ _ gz1) ?_);have up:∀ c o,s.heap.get? c=some o->h1.get? c=some o:=fun c o e=>k1 c o (L7 _ e);have anew1:h1.DictOf knd s.heap.objs.size []:=by
  obtain ⟨o,es,ep,ho,rest⟩:=anew;exact ⟨o,es,ep,k1 _ _ ho,rest⟩
 have Z1:nh h1 z TI TO i1 i2 l1 l2 0 xs ys:=Z.keep nz nI nO n1 n2 n3 n4 (fun c o _ e=>up c o e) (let ⟨o,_,_,ho,_⟩:=anew1;⟨o,ho⟩);refine Md ⟨Pl rj _,Jn (by simpa using hh) D nz nI nO n1 n2 n3 n4 hl hz hkv kvs.length 0 0 _ rfl (M7 _) Z1 anew1 fun h' t' hd' hk'=>?_⟩
 rw [merged_nil_of_nodup kvs nd] at hd';exact ⟨rfl,h h' t' hd' fun c o c1 c2 c3 c4 e=>hk' c o (lt e) c1 c2 c3 c4 (up c o e)⟩
end
end PySem
namespace L2
open PySem PySem.Spec PyProof.Rows
theorem Fw:∀ {ks:List Key} {ys:List V} {us:List Value},Vals ys us->KV (ks.zip ys) (ks.zip us)
 | [],_,_,_=>by
  rw [List.zip_nil_left,List.zip_nil_left];exact Paired.nil
 | _ :: _,_,_,.nil=>Paired.nil
 | _ :: _,_,_,.cons r rr=>Paired.cons ⟨rfl,r⟩ (Fw rr)
def Bf (K:LN) (vs:List V) (H:Hp) (Q:VK):Prop:=∃ (a b:Addr) (ks:List Key) (ys:List V),vs=[.ref a,.ref b]/\SqL K H a (ks.map kV)/\SqL K H b ys/\ks.length=ys.length/\ks.Nodup/\∀ d,H d=none->Q (.ref d) (upd H d (.dK (ks.zip ys)))
def A0 (K:LN) (ta:TA):TE:=fun σ H Q=>ta σ H fun vs H1=>Bf K vs H1 Q
theorem E5 {K:LN} {ta:TA} {σ:St} {H:Hp} {Q:VK} (h:ta σ H fun vs H1=>Bf K vs H1 Q):A0 K ta σ H Q:=h
theorem DH {X:Cx} (K:LN) (hK:X.K=K) (hc:X.calm=true) {a b:Expr} {ta:TA} {p p2 pos pos2:Pos} (hg1:Gl X "dict") (hm1:X.mg "dict" = none) (hg2:Gl X "zip") (hm2:X.mg "zip" = none) (ha:PA X [a,b] ta) (hn:isStar a=false:=by rfl) (hn2:isStar b=false:=by rfl) :
  PE X (.Call (.Name "dict" p) [.Call (.Name "zip" p2) [a,b] [] pos2] [] pos) (A0 K ta):=by
 subst hK;intro pins s σ H Q I h;refine Call_ (oz I hg1 hm1 PyProof.Rows.boot_dict (NO ?_ (bP rfl) (cU rfl)));rw [bP rfl];show wpAny _ _ (spliced ((false,eval (.Call (.Name "zip" p2) [a,b] [] pos2) X.env) :: backTo pos (MU [] X.env))) _ _ s;refine Calls.spliced_cons ?_;refine Call_ (oz I hg2 hm2 boot_zip (NO (thn (ha pos2 pins s σ H _ I h) fun us s1 ⟨vs,H1,I1,r1,q1⟩=>?_) (bP hn) (cU (by simp [hn2]))))
 obtain ⟨l,l',ks,ys,e,hS,hS2,hlen,hnd,q⟩:=q1;subst e;cases r1 with
 | cons r rr =>
  cases rr with
  | cons r2 rr2 =>
   cases rr2;cases (show _=MI l from r);cases (show _=MI l' from r2);obtain ⟨its,rv,pl,hz1⟩:=I1.list hS;obtain ⟨its2,rv2,pl2,hz2⟩:=I1.list hS2;have e1:=rv.length;have e2:=rv2.length;rw [LP] at e1 hz1;have zl:(ks.zip its2).length=ks.length:=by rw [List.length_zip];omega
   have zv:(ks.zip ys).length=ks.length:=by rw [List.length_zip];omega
   have lt1:l<s1.heap.objs.size:=by obtain ⟨_,z,_⟩:=pl.isList;exact Mf z
   have lt2:l' < s1.heap.objs.size:=by obtain ⟨_,z,_⟩:=pl2.isList;exact Mf z
   refine call_zip_2 pl.isList pl2.isList fun h' gz gI gO g1 g2 gs hk=>?_;refine Calls.spliced_nil ?_;refine y4 (knd:=dW X.prog X.w) (kvs:=ks.zip its2) (s:={ s1 with heap:=h' }) (I.ok.hd hc) (E2 _ _ _ lt1 lt2) gz ⟨.inl ⟨gz,_,_,gO⟩,gI,g1,g2,pl.isList.at fun o e=>hk _ o e,pl2.isList.at fun o e=>hk _ o e⟩ (by rw [zl];simpa using e1) (by rw [zl];exact hz1) (fun i k v e=>?_) ?_ ⟨_,gO⟩ fun h2 t2 hd hk2=>?_
   ·obtain ⟨z1,z2⟩:=List.getElem?_zip_eq_some.mp e;obtain ⟨u,hu,ru⟩:=rv.get (show (ks.map kV)[i]?=some (kV k) by rw [Mc,z1];rfl)
    exact ⟨u,by simpa using hu,zM ru,by simpa using z2⟩
   ·rw [List.map_fst_zip (by omega)]
    exact hnd
   ·have gs':h'.objs.size=s1.heap.objs.size+5:=gs;have hp:s1.heap.objs.size<=h'.objs.size:=by rw [gs'];exact O3 _ _
    refine ⟨.ref h'.objs.size,upd H1 h'.objs.size (.dK (ks.zip ys)),I1.laid (a:=h'.objs.size) (o:=.dK (ks.zip ys)) (fun b o e=>?_) hp (Fq (by rw [zv];exact hz1) (beq_eq_false_iff_ne.mpr (NY (Mn (Mi I1.big hp)))) (Fw rv2) hd),rfl,q _ (I1.hok.fresh hp)⟩
    have lb:=Mf e;exact hk2 b o (Mn (Mi lb (O3 _ _))) (Mn (Mi lb (O3 _ _))) (Mn lb) (Mn (Mi lb (O3 _ _))) (hk b o e)
def uS (R M:List Nat):List (Key×V):=(R.map nk).zip (bb M)
theorem rK:∀ {F M:List Nat} {j f c:Nat},F.Nodup->F[j]?=some f->M[j]?=some c->eJ (uS F M) (nk f)=some (.int (c:Int))
 | [],_,_,_,_,_,h,_=>by simp at h
 | _ :: _,[],_,_,_,_,_,h=>by simp at h
 | a :: F,q :: M,0,f,c,_,h1,h2=>by
  cases h1;cases h2;exact eB rfl
 | a :: F,q :: M,j+1,f,c,nd,h1,h2=>by
  have h1':F[j]?=some f:=h1;have h2':M[j]?=some c:=h2;obtain ⟨n1,n2⟩:=M9.mp nd;have h3:¬ nk a=nk f:=fun z=>n1 (by rw [A4 z];exact LS h1')
  show eJ ((nk a,V.int (q:Int)) :: uS F M) (nk f)=_;rw [d9 h3];exact rK n2 h1' h2'
theorem Bh:∀ {R:List Nat},R.Nodup->(R.map nk).Nodup
 | [],_=>Qs
 | a :: R,h=>by
  obtain ⟨h1,h2⟩:=M9.mp h;refine M9.mpr ⟨fun z=>?_,Bh h2⟩;obtain ⟨b,hb,e⟩:=Mg.mp z;exact h1 (by rw [<- A4 e];exact hb)
theorem Jj (R:List Nat):(R.map nk).map kV=bb R:=by
 unfold bb;rw [N7];rfl
theorem LD {K:LN} {H:Hp} {Q:VK} {x y:V} {R M:List Nat} (hR:At K H x R) (hM:At K H y M) (e:R.length=M.length) (nd:R.Nodup) (q:∀ d,H d=none->Q (.ref d) (upd H d (.dK (uS R M)))):Bf K [x,y] H Q:=by
 obtain ⟨p,rfl,h1⟩:=mF hR;obtain ⟨p2,rfl,h2⟩:=mF hM;exact ⟨p,p2,R.map nk,bb M,rfl,by rw [Jj];exact h1,h2,by unfold bb;rw [LP,LP];exact e,Bh nd,q⟩
def Fu (Cs:Addr->Prop) (m:Str) (sp:Sp) (ta:TE) (t:TA):TE:=fun σ H Q=>ta σ H fun x H1=>∃ C a dx fs,Cs C/\x=.ref a/\H1 a=some (.ins C dx fs)/\fs.lookup m=none/\t σ H1 fun vs H2=>sp (x :: (vs++[])) H2 Q E0
section
variable {X:Cx} {k:Nat} {f:Addr} {Cs:Addr->Prop} {fd:MZ} {ps:List Str} {sp:Sp} {m:Str} {pos apos:Pos} {e o:Expr} {es:List Expr} {ta:TE} {t:TA}
theorem oy {pl:Sem Bool} (he:PE X o ta) (c:∀ C,Cs C->Cls X.K C/\Meth X.K C m f) (F:aI X.prog X.w X.K X.mg X.base CX0 k f fd ps sp) (hr:cg k X.A) (hb:Binds X.K fd ps []) (ha:PA X (e :: es) t)
  (hn:isStar e=false:=by rfl) (hall:es.all (fun e=>!isStar e)=true:=by rfl)
  (ht:eval (.Call (.Attribute o m apos) (e :: es) [] pos) X.env=(do
   let ov <- eval o X.env
   standAt apos.atName
   let (f,first) <- holding [ov] (getMethod ov m pl)
   callWith pos f first (backTo pos (MU (e :: es) X.env)) (backToKw pos (keywordEach [] X.env))):=by rfl) :
  PE X (.Call (.Attribute o m apos) (e :: es) [] pos) (Fu Cs m sp ta t):=by
 intro pins s σ H Q I h;refine RH (pl:=pl) (thn (he pins s σ H _ I h) fun u s1 ⟨x,H1,I1,rx,C,a,dx,fs,hC,ex,ea,l,q⟩=>?_) ht;subst ex;obtain rfl:u=MI a:=rx;refine DF I1 ea (c C hC).1 (c C hC).2 l ?_;refine OL (first:=[.ref a]) (h₀:=X.base) I.ok.mod.kin (c C hC).2.kp (thn (ha pos pins s1 σ H1 _ I1 q) fun us s2 ⟨vs,H2,I2,r,q2⟩=>⟨I2.kIn,?_⟩) (bP hn) (cU hall);exact AV (us:=.ref a :: us) (vs:=.ref a :: vs) F hr hb .nil oA I2 (.cons rfl r) q2
end
theorem pM {σ:St} {H:Hp} {Q:VK} {Cs:Addr->Prop} {m:Str} {sp:Sp} {ta:TE} {t:TA} (h:ta σ H fun x H1=>∃ C a dx fs,Cs C/\x=.ref a/\H1 a=some (.ins C dx fs)/\fs.lookup m=none/\t σ H1 fun vs H2=>sp (x :: (vs++[])) H2 Q E0):Fu Cs m sp ta t σ H Q:=h
section
variable {X:Cx}
end
end L2
namespace L2
open PySem
theorem uQ {xs:Array Nat} {j:Nat} (hs:xs.toList.Pairwise (· < ·)):∀ (fuel lo hi:Nat),hi - lo<=fuel->lo<=hi->hi<=xs.size->(∀ (i y:Nat),i<lo->xs[i]?=some y->y<j)->(∀ (i y:Nat),hi<=i->xs[i]?=some y->j<=y) ->
  PK xs j fuel lo hi<=xs.size/\(∀ (i y:Nat),i<PK xs j fuel lo hi->xs[i]?=some y->y<j)/\∀ (i y:Nat),PK xs j fuel lo hi<=i->xs[i]?=some y->j<=y
 | 0,lo,hi,h1,h2,h3,h4,h5=>by
  have e:lo=hi:=by omega
  subst e;exact ⟨h3,h4,h5⟩
 | fuel+1,lo,hi,h1,h2,h3,h4,h5=>by
  unfold PK
  by_cases c:lo<hi
  ·rw [if_pos c];have hm:(lo+hi) / 2<xs.size:=by omega
   have get:=MX hm;have mono:∀ (a b x y:Nat),a<b->xs[a]?=some x->xs[b]?=some y->x<y:=fun a b x y hab ha hb=>by
    rw [<- Nd] at ha hb;obtain ⟨ha1,rfl⟩:=LR.mp ha;obtain ⟨hb1,rfl⟩:=LR.mp hb;exact NA.mp hs a b ha1 hb1 hab
   dsimp only;have gd:xs.getD ((lo+hi) / 2) j=xs[(lo+hi) / 2]:=by simp [Array.getD,hm]
   rw [gd]
   by_cases d:xs[(lo+hi) / 2]<j
   ·rw [if_pos d];refine uQ hs fuel _ _ (by omega) (by omega) h3 (fun i y hi' hy=>?_) h5
    rcases MN i ((lo+hi) / 2) with z|z
    ·exact PY (mono _ _ _ _ z hy get) d
    ·have:i=(lo+hi) / 2:=by omega
     subst this;rw [get] at hy;cases hy;exact d
   ·rw [if_neg d];refine uQ hs fuel _ _ (by omega) (by omega) (by omega) h4 fun i y hi' hy=>?_
    rcases MN ((lo+hi) / 2) i with z|z
    ·exact M4 (Ra d) (N5 (mono _ _ _ _ z get hy))
    ·have:i=(lo+hi) / 2:=by omega
     subst this;rw [get] at hy;cases hy;exact Ra d
  ·rw [if_neg c];have e:lo=hi:=by omega
   subst e;exact ⟨h3,h4,h5⟩
theorem wD {xs:Array Nat} (hs:xs.toList.Pairwise (· < ·)) (j:Nat):MY xs j<=xs.size/\(∀ (i y:Nat),i<MY xs j->xs[i]?=some y->y<j)/\∀ (i y:Nat),MY xs j<=i->xs[i]?=some y->j<=y :=
 uQ hs _ _ _ (by omega) (M7 _) (Mh _) (fun i y h=>absurd h (Nat.not_lt_zero _)) fun i y h hy=>by
  have:=(Nw.mp hy).1;omega
theorem GW {xs:Array Nat} (hs:xs.toList.Pairwise (· < ·)) {j:Nat} (hj:j∉xs.toList):(OA xs (MY xs j) j).toList.Pairwise (· < ·):=by
 obtain ⟨h1,h2,h3⟩:=wD hs j;rw [OB];have a:∀ y∈xs.toList.take (MY xs j),y<j:=fun y hy=>by
  obtain ⟨i,hi⟩:=Ny hy;have hlt:i<MY xs j:=by
   have:=(LR.mp hi).1;rw [Mu] at this;omega
  rw [NK hlt,Nd] at hi;exact h2 i y hlt hi
 have b:∀ y∈xs.toList.drop (MY xs j),j<y:=fun y hy=>by
  obtain ⟨i,hi⟩:=Ny hy;rw [List.getElem?_drop,Nd] at hi;have c:=h3 _ y (O3 _ i) hi;have:y≠j:=fun e=>hj (by rw [<- e];exact OX hy)
  omega
 rw [RU];refine ⟨hs.sublist (List.take_sublist _ _),?_,fun x hx y hy=>?_⟩
 ·rw [NQ];exact ⟨b,hs.sublist (List.drop_sublist _ _)⟩
 ·rcases Mv.mp hy with rfl|hy
  ·exact a x hx
  ·exact PY (a x hx) (b y hy)
theorem Dp {t:NR} (hs:t.place.toList.Pairwise (· < ·)) (hd:t.dummies=#[]) {j:Nat} (hj:j∉t.place.toList):t.slot j=.empty:=by
 unfold SetTable.slot;have:(t.place[MY t.place j]? == some j)=false:=by
  rw [beq_eq_false_iff_ne];intro e;rw [<- Nd] at e;exact hj (LS e)
 rw [hd];simp only [this];rfl
theorem EY {t u:NR} (hm:t.mask=u.mask) (hp:t.place=u.place) (hd:t.dummies=u.dummies) (h:Int):t.freeSlot h=u.freeSlot h:=by
 have hs:∀ j,t.slot j=u.slot j:=fun j=>by unfold SetTable.slot;rw [hp,hd]
 have ha:∀ p,t.advance p=u.advance p:=fun p=>by unfold SetTable.advance;rw [hm]
 have go:∀ (f:Nat) (p:SetTable.Probe),PL t (fun _=>h+1) h f p=PL u (fun _=>h+1) h f p:=fun f=>by
  induction f with
  | zero=>intro p;rfl
  | succ f ih =>
   intro p;unfold PL;rw [hs,ha,ih];simp only [ha,ih]
 unfold SetTable.freeSlot SG R9;rw [hm,go]
def subs:Nat->Nat->List (List Nat)
 | 0,_=>[[]]
 | n+1,k=>subs n (k+1)++(subs n (k+1)).map (k :: ·)
theorem rF:∀ (n k:Nat) (l:List Nat),l.Pairwise (· < ·)->(∀ x∈l,k<=x/\x<k+n)->l∈subs n k
 | 0,k,[],_,_=>by unfold subs;simp
 | 0,k,x :: l,_,h=>by have:=h x Mj;omega
 | n+1,k,l,hp,h=>by
  unfold subs;rw [MD];cases l with
  | nil=>exact .inl (rF n (k+1) [] hp fun x hx=>by cases hx)
  | cons x l =>
   rw [NQ] at hp;rcases MN k x with z|z
   ·refine .inl (rF n (k+1) _ (NQ.mpr hp) fun y hy=>?_);have:=h y hy;rcases Mv.mp hy with rfl|hy'
    ·omega
    ·have:=hp.1 y hy';omega
   ·have e:x=k:=by have:=h x Mj;omega
    subst e;refine .inr (Mg.mpr ⟨l,rF n (x+1) l hp.2 fun y hy=>?_,rfl⟩);have:=h y (Me _ hy);have:=hp.1 y hy;omega
def AM (l:List Nat):NR:={ mask:=7,place:=l.toArray,dummies:=#[],finger:=0,led:=true,moves:=0,plain:=true }
def Es (l:List Nat) (h:Nat):Bool:=match (AM l).freeSlot (h:Int) with
 | some (j,false)=>decide (j<8) && !(l.contains j)
 | _=>false
theorem Hh:(subs 8 0).all (fun l=>decide (4<l.length) || (LZ 23).all (Es l))=true:=by trivial
theorem Ls {t:NR} (hm:t.mask=7) (hd:t.dummies=#[]) (hs:t.place.toList.Pairwise (· < ·)) (h8:∀ x∈t.place.toList,x<8) (h4:t.place.size<=4) {h:Nat} (h23:h<23):∃ j,t.freeSlot (h:Int)=some (j,false)/\j<8/\j∉t.place.toList:=by
 have m:=rF 8 0 _ hs fun x hx=>⟨M7 _,by have:=h8 x hx;omega⟩
 have a:=Mx.mp Hh _ m;rw [Bool.or_eq_true] at a;rcases a with a|a
 ·have:=of_decide_eq_true a;rw [MP] at this;omega
 ·have b:=Mx.mp a h (L9.mpr h23);unfold Es at b;rw [<- EY (t:=t) (u:=AM t.place.toList) hm (by unfold AM;simp) hd] at b
  split at b
  ·rename_i j e
   rw [Oc] at b;refine ⟨j,e,of_decide_eq_true b.1,fun z=>?_⟩;have:=b.2;rw [PJ] at this;rw [List.contains_eq_mem,decide_eq_false_iff_not] at this;exact this z
  ·cases b
theorem Bb {h:Nat} (h23:h<23):Pm (h:Int)=h:=by
 unfold Pm;have h64:(23:Int)<=2 ^ 64:=by decide
 rw [Int.emod_eq_of_lt (by omega) (by omega)]
 rfl
theorem JP {t:NR} (hm:23<=t.mask+1) (hd:t.dummies=#[]) (hs:t.place.toList.Pairwise (· < ·)) {h:Nat} (h23:h<23) (hh:h∉t.place.toList):t.freeSlot (h:Int)=some (h,false):=by
 have e:=Dp hs hd hh;unfold SetTable.freeSlot SG R9;rw [Bb h23,M8 (show h<t.mask+1 by omega)]
 have f:10 * PR t.mask=(10 * t.mask+149)+1:=by unfold PR;omega
 rw [f];unfold PL;dsimp only;rw [e];rfl
theorem GO {mask:Nat} {owner:Array (Option Nat)} {h:Nat} (hz:owner.size=mask+1) (hm:h<mask+1) (ho:owner.getD h none=none) (f p:Nat):OJ mask owner (f+1) h p=some h:=by
 unfold OJ;have e1:owner.getD h (some 0)=none:=by
  have hl:h<owner.size:=by omega
  simp only [Array.getD,hl,dite_true] at ho ⊢;exact ho
 have e2:∃ k,RJ mask h+1 - h=k+1:=⟨RJ mask h - h,by unfold RJ;split <;> omega⟩
 obtain ⟨k,e2⟩:=e2;rw [e2,List.range_succ_eq_map,Oz];simp only [OD,e1,Option.isNone_none]
def at? (l:List Nat) (j:Nat):Option Nat:=if j∈l then some (l.idxOf j) else none
def wW (mask:Nat) (acc:Option (Array (Option Nat)×Nat)) (h:Int):Option (Array (Option Nat)×Nat):=do
 let (owner,k) <- acc
 let j <- OJ mask owner (PR mask) (Pm h % (mask+1)) (Pm h)
 pure (owner.setIfInBounds j (some k),k+1)
theorem Ck {mask:Nat}:∀ (ks done:List Nat) (owner:Array (Option Nat)),owner.size=mask+1->(∀ k∈ks,k<23)->23<=mask+1->(done++ks).Nodup->(∀ j,j<mask+1->owner.getD j none=at? done j) ->
  ∃ owner',(ks.map fun (k:Nat)=>(k:Int)).foldl (wW mask) (some (owner,done.length))=some (owner',(done++ks).length)/\owner'.size=mask+1/\∀ j,j<mask+1->owner'.getD j none=at? (done++ks) j
 | [],done,owner,hz,_,_,_,ho=>⟨owner,by simp,hz,by simpa using ho⟩
 | k :: ks,done,owner,hz,hk,hm,nd,ho=>by
  have k23:=hk k Mj;have kd:k∉done:=fun z=>by
   rw [PF] at nd;exact nd.2.2 k z k Mj rfl
  have o1:owner.getD k none=none:=by rw [ho k (by omega)];unfold at?;rw [if_neg kd]
  have e:done++k :: ks=(done++[k])++ks:=by simp
  rw [e] at nd ⊢;have:=Ck ks (done++[k]) (owner.setIfInBounds k (some done.length)) (by rw [Array.size_setIfInBounds];exact hz) (fun x hx=>hk x (Me _ hx)) hm nd fun j hj=>by
   rw [NS,Array.getElem?_setIfInBounds]
   by_cases c:k=j
   ·subst c;rw [if_pos rfl,if_pos (by omega)]
    unfold at?;rw [if_pos (by simp),List.idxOf_append,if_neg kd]
    simp
   ·rw [if_neg c,<- NS,ho j hj];unfold at?;have mm:(j∈done++[k])↔j∈done:=by
     rw [MD,Ma];exact ⟨fun z=>z.elim id fun z=>absurd z.symm c,.inl⟩
    by_cases d:j∈done
    ·rw [if_pos d,if_pos (mm.mpr d),List.idxOf_append,if_pos d]
    ·rw [if_neg d,if_neg fun z=>d (mm.mp z)]
  obtain ⟨owner',w1,w2,w3⟩:=this;refine ⟨owner',?_,w2,w3⟩;rw [MO,List.foldl_cons];have st:wW mask (some (owner,done.length)) (k:Int)=some (owner.setIfInBounds k (some done.length),done.length+1):=by
   show (OJ mask owner (PR mask) (Pm (k:Int) % (mask+1)) (Pm (k:Int))).bind _=_;rw [Bb k23,M8 (show k<mask+1 by omega),show PR mask=(mask+14)+1 from rfl,GO hz (by omega) o1]
   rfl
  rw [st];rw [Mm] at w1;exact w1
def cm (mask:Nat) (ks:List Nat):List Nat:=(LZ (mask+1)).filter fun j=>decide (j∈ks)
theorem yF {mask:Nat} {ks:List Nat} (h:∀ k∈ks,k<mask+1) {j:Nat}:j∈cm mask ks↔j∈ks:=by
 unfold cm;rw [Nq,L9,decide_eq_true_iff];exact ⟨fun z=>z.2,fun z=>⟨h j z,z⟩⟩
theorem vd {mask:Nat} {ks:List Nat} (h:∀ k∈ks,k<mask+1) (nd:ks.Nodup):(cm mask ks).Perm ks :=
 (Qk (Om.filter _) nd).mpr fun _=>yF h
theorem A1 {α β:Type} {f g:α->Option β}:∀ {l:List α},(∀ x∈l,f x=g x)->l.filterMap f=l.filterMap g
 | [],_=>rfl
 | x :: l,h=>by rw [NX,NX,h x Mj,A1 fun y hy=>h y (Me _ hy)]
theorem G5 {mask finger moves:Nat} {led plain:Bool} {ks:List Nat} (h23:∀ k∈ks,k<23) (hm:23<=mask+1) (nd:ks.Nodup) :
  SetTable.laid mask finger moves led plain (ks.map fun (k:Nat)=>(k:Int)).toArray=some ({ mask,place:=(cm mask ks).toArray,dummies:=#[],finger,led,moves,plain },((cm mask ks).map fun j=>ks.idxOf j).toArray):=by
 obtain ⟨owner,h1,h2,h3⟩:=Ck ks [] (Array.replicate (mask+1) none) (by simp) h23 hm (by simpa using nd) fun j hj=>by
  unfold at?;simp [NS,hj]
 have lc:Sr mask (ks.map fun (k:Nat)=>(k:Int)).toArray=some owner:=by
  unfold Sr;rw [List.foldl_toArray];have:(ks.map fun (k:Nat)=>(k:Int)).foldl (wW mask) (some (Array.replicate (mask+1) none,0))=some (owner,([]++ks).length):=h1;exact congrArg (Option.map (·.1)) this
 unfold SetTable.laid;rw [lc];have lv:((LZ (mask+1)).filterMap fun j=>(owner.getD j none).map (j,·))=(cm mask ks).map fun j=>(j,ks.idxOf j):=by
  unfold cm;rw [<- List.filterMap_eq_map,List.filterMap_filter];refine A1 fun j hj=>?_;rw [h3 j (L9.mp hj)];unfold at?;simp only [List.nil_append,decide_eq_true_eq]
  by_cases d:j∈ks
  ·rw [if_pos d,if_pos d];rfl
  ·rw [if_neg d,if_neg d];rfl
 show some _=some _;rw [lv,N7,N7]
 congr 2
 simp [Function.comp_def]
structure Good (led:Bool) (es:Array (Int×Value)) (t:NR) (ks:List Nat):Prop where
 plain:t.plain=true
 led:t.led=led
 dum:t.dummies=#[]
 size:t.place.size=es.size
 rise:t.place.toList.Pairwise (· < ·)
 keys:es.toList.map (·.1)=ks.map fun (k:Nat)=>(k:Int)
 nd:ks.Nodup
 lt:∀ k∈ks,k<23
 st:(t.mask=7/\es.size<=4/\∀ j∈t.place.toList,j<8)\/((t.mask=31/\es.size<=18\/t.mask=127)/\t.place.toList=ks)
theorem Good.len {led:Bool} {es:Array (Int×Value)} {t:NR} {ks:List Nat} (g:Good led es t ks):es.size=ks.length:=by
 have:=congrArg Qb g.keys;rw [LP,LP,MP] at this;exact this
theorem mL {ks:List Nat} (nd:ks.Nodup) (h:∀ k∈ks,k<23):ks.length<=23:=by
 have e:=(vd (mask:=22) h nd).length_eq;have:(cm 22 ks).length<=23:=by
  unfold cm;exact M4 (Ov _ _) (by simp)
 omega
theorem BB {es:Array (Int×Value)} {ks:List Nat} (h:es.toList.map (·.1)=ks.map fun (k:Nat)=>(k:Int)) (p k:Nat) (x:Value):(OA es p ((k:Int),x)).toList.map (·.1)=(ks.take p++k :: ks.drop p).map fun (k:Nat)=>(k:Int):=by
 rw [OB,MM,MO,List.map_take,List.map_drop,h,MM,MO,List.map_take,List.map_drop]
theorem BH {ks:List Nat} (p k:Nat):(ks.take p++k :: ks.drop p).Perm (k :: ks):=by
 have:=Rg (a:=k) (l₁:=ks.take p) (l₂:=ks.drop p);rw [PZ] at this;exact this
theorem IV {ks:List Nat} (nd:ks.Nodup):ks.map (fun j=>ks.idxOf j)=LZ ks.length:=by
 refine Qz fun i=>?_;rw [Mc];rcases MN i ks.length with h|h
 ·rw [LO h,NG h];show some (ks.idxOf ks[i])=_;rw [nd.idxOf_getElem i h]
 ·rw [Nr h,Nr (by rw [Mt];exact h)]
  rfl
theorem vh {led:Bool} {es:Array (Int×Value)} {t:NR} {ks:List Nat} {wanted M:Nat} (hp:t.plain=true) (hl:t.led=led) (hk:es.toList.map (·.1)=ks.map fun (k:Nat)=>(k:Int)) (nd:ks.Nodup) (lt:∀ k∈ks,k<23)
  (hM:SetTable.sizeAbove wanted - 1=M) (h2:M=31/\es.size<=18\/M=127):∃ es2 t2 ks2,relayAll t es wanted=(es2,t2,false)/\Good led es2 t2 ks2/\ks2.Perm ks:=by
 have n23:=mL nd lt;have m23:23<=M+1:=by omega
 have lt':∀ k∈ks,k<M+1:=fun k hk=>by have:=lt k hk;omega
 have pm:=vd lt' nd;have el:es.size=ks.length:=by
  have:=congrArg Qb hk;rw [LP,LP,MP] at this;exact this
 have ea:es.map (·.1)=(ks.map fun (k:Nat)=>(k:Int)).toArray:=by
  rw [<- hk];apply Array.toList_inj.mp;simp
 have nk:∀ (i:Nat) (e:Int×Value),es[i]?=some e->∃ k,ks[i]?=some k/\e.1=(k:Int):=fun i e he=>by
  have:=congrArg (fun l=>l[i]?) hk;rw [Mc,Mc,Nd,he] at this;cases q:ks[i]? with
  | none=>rw [q] at this;cases this
  | some k=>rw [q] at this;exact ⟨k,rfl,MK this⟩
 have key:∀ (l:List Nat),(∀ j∈l,j∈ks)->((l.map fun j=>ks.idxOf j).filterMap (es[·]?)).map (·.1)=l.map fun (k:Nat)=>(k:Int):=fun l=>by
  induction l with
  | nil=>intro _;rfl
  | cons j l ih =>
   intro h;have hj:=h j Mj;have il:ks.idxOf j<es.size:=by rw [el];exact Nc hj
   have he:=MX il;obtain ⟨k,hk1,hk2⟩:=nk _ _ he;have:k=j:=by
    rw [LO (Nc hj),OM] at hk1;exact (MK hk1).symm
   subst this;rw [MO,NX,he];show _ :: _=_ :: _;dsimp only;rw [hk2,ih fun x hx=>h x (Me _ hx)]
 have k2:=key (cm M ks) fun j hj=>(yF lt').mp hj;have l2:((((cm M ks).map fun j=>ks.idxOf j).toArray).filterMap (es[·]?)).toList=(((cm M ks).map fun j=>ks.idxOf j).filterMap (es[·]?)):=by simp
 have z2:((((cm M ks).map fun j=>ks.idxOf j).toArray).filterMap (es[·]?)).size=(cm M ks).length:=by
  rw [<- MP,l2];have:=congrArg Qb k2
  rwa [LP,LP] at this
 have c1:coversAll ((cm M ks).map fun j=>ks.idxOf j).toArray es.size=true:=by
  unfold coversAll;rw [List.isPerm_iff,el,<- IV nd];exact pm.map _
 refine ⟨(((cm M ks).map fun j=>ks.idxOf j).toArray).filterMap (es[·]?),{ mask:=M,place:=(cm M ks).toArray,dummies:=#[],finger:=t.finger,led:=t.led,moves:=t.movedTo M,plain:=t.plain },cm M ks,?_,⟨hp,hl,rfl,?_,?_,?_,?_,?_,?_⟩,pm⟩
 ·unfold relayAll SetTable.relaid;rw [hM,ea,G5 lt m23 nd];dsimp only;rw [c1];have f:P8 { mask:=M,place:=(cm M ks).toArray,dummies:=#[],finger:=t.finger,led:=t.led,moves:=t.movedTo M,plain:=t.plain } ((((cm M ks).map fun j=>ks.idxOf j).toArray).filterMap (es[·]?)).size=true:=by
   unfold P8 Q1;have:=pm.length_eq;rw [z2];simp;omega
  rw [f];rfl
 ·show (cm M ks).toArray.size=_;rw [z2];simp
 ·show (cm M ks).toArray.toList.Pairwise (· < ·);exact RV _ Pu
 ·rw [l2];exact k2
 ·exact pm.nodup_iff.mpr nd
 ·exact fun k hk=>lt k (pm.mem_iff.mp hk)
 ·refine .inr ⟨?_,rfl⟩;rw [z2,pm.length_eq,<- el];exact h2
theorem Good.fresh (led:Bool):Good led #[] (.fresh 0 0 led) []:=⟨rfl,rfl,rfl,rfl,Qy,rfl,Qs,(fun k hk=>by cases hk),.inl ⟨rfl,M7 _,fun j hj=>by cases hj⟩⟩
theorem uG {α:Type} (xs:Array α) (p:Nat) (x:α):(OA xs p x).size=xs.size+1:=by
 have:=(SetTable.insertAt_perm xs p x).length_eq;rw [MP,MP,Array.size_push] at this;exact this
theorem Good.add {led:Bool} {es:Array (Int×Value)} {t:NR} {ks:List Nat} (g:Good led es t ks) {k:Nat} (hk:k<23) (hn:k∉ks) (x:Value) :
  ∃ es1 t1,layNew t es (k:Int) x=(es1,t1,false,false)/\t1.plain=true/\((t1.tooFull=false/\∃ ks1,Good led es1 t1 ks1/\ks1.Perm (k :: ks))\/(t1.tooFull=true/\∃ es2 t2 ks2,relayAll t1 es1 (Qt es1.size)=(es2,t2,false)/\Good led es2 t2 ks2/\ks2.Perm (k :: ks))):=by
 have el:=g.len;have nd1:(k :: ks).Nodup:=M9.mpr ⟨hn,g.nd⟩;have lt1:∀ y∈k :: ks,y<23:=fun y hy=>by
  rcases Mv.mp hy with rfl|hy
  ·exact hk
  ·exact g.lt y hy
 have l23:=mL nd1 lt1;rw [MQ] at l23;obtain ⟨j,hf,hj,hb⟩:∃ j,t.freeSlot (k:Int)=some (j,false)/\j∉t.place.toList/\((t.mask=7/\es.size<=4/\(∀ y∈t.place.toList,y<8)/\j<8)\/((t.mask=31/\es.size<=18\/t.mask=127)/\t.place.toList=ks/\j=k)):=by
  rcases g.st with ⟨h1,h2,h3⟩|⟨h1,h2⟩
  ·obtain ⟨j,a,b,c⟩:=Ls h1 g.dum g.rise h3 (by rw [g.size];exact h2) hk
   exact ⟨j,a,c,.inl ⟨h1,h2,h3,b⟩⟩
  ·have kp:k∉t.place.toList:=by rw [h2];exact hn
   exact ⟨k,JP (by omega) g.dum g.rise hk kp,kp,.inr ⟨h1,h2,rfl⟩⟩
 have hput:t.put j=({ t with place:=OA t.place (MY t.place j) j,dummies:=#[] },MY t.place j):=by
  unfold SetTable.put;rw [g.dum];rfl
 have rise1:=GW g.rise hj;have z1:=uG t.place (MY t.place j) j;have z2:=uG es (MY t.place j) ((k:Int),x);have keys1:=BB g.keys (MY t.place j) k x;have pm:=BH (ks:=ks) (MY t.place j) k;generalize hP:OA t.place (MY t.place j) j=pl at hput rise1 z1;generalize hE:OA es (MY t.place j) ((k:Int),x)=es1 at z2 keys1;have fits:P8 { t with place:=pl,dummies:=#[] } es1.size=true:=by
  unfold P8 Q1;rw [Oc];refine ⟨by simp [z1,z2,g.size],decide_eq_true ?_⟩
  show pl.size+0<=t.mask;rw [z1,g.size];omega
 have nd2:=pm.nodup_iff.mpr nd1;have lt2:∀ y∈ks.take (MY t.place j)++k :: ks.drop (MY t.place j),y<23:=fun y hy=>lt1 y (pm.mem_iff.mp hy);refine ⟨es1,{ t with place:=pl,dummies:=#[] },?_,g.plain,?_⟩
 ·unfold layNew;rw [hf];dsimp only;rw [hput];dsimp only;rw [hE];unfold SetTable.orStandIn;rw [fits];rfl
 ·have tf:SetTable.tooFull { t with place:=pl,dummies:=#[] }=decide ((es.size+1) * 5 >= t.mask * 3):=by
   unfold SetTable.tooFull Q1;show decide ((pl.size+0) * 5 >= t.mask * 3)=_;rw [z1,g.size]
  rw [tf]
  by_cases c:(es.size+1) * 5 >= t.mask * 3
  ·refine .inr ⟨decide_eq_true c,?_⟩;rcases hb with ⟨b1,b2,b3,b4⟩|⟨b1,b2,b3⟩
   ·have e5:es1.size=5:=by omega
    obtain ⟨es2,t2,ks2,w1,w2,w3⟩:=vh (led:=led) (t:={ t with place:=pl,dummies:=#[] }) (wanted:=Qt es1.size) (M:=31) g.plain g.led keys1 nd2 lt2 (by rw [e5];decide) (.inl ⟨rfl,by omega⟩)
    exact ⟨es2,t2,ks2,w1,w2,w3.trans pm⟩
   ·rcases b1 with ⟨b1,b4⟩|b1
    ·have e5:es1.size=19:=by omega
     obtain ⟨es2,t2,ks2,w1,w2,w3⟩:=vh (led:=led) (t:={ t with place:=pl,dummies:=#[] }) (wanted:=Qt es1.size) (M:=127) g.plain g.led keys1 nd2 lt2 (by rw [e5];decide) (.inr rfl)
     exact ⟨es2,t2,ks2,w1,w2,w3.trans pm⟩
    ·omega
  ·refine .inl ⟨decide_eq_false c,_,⟨g.plain,g.led,rfl,?_,rise1,keys1,nd2,lt2,?_⟩,pm⟩
   ·show pl.size=_;rw [z1,z2,g.size]
   ·rcases hb with ⟨b1,b2,b3,b4⟩|⟨b1,b2,b3⟩
    ·refine .inl ⟨b1,by omega,fun y hy=>?_⟩
     rw [<- hP,OB] at hy;have hy':y∈t.place.toList\/y=j:=by
      rcases MD.mp hy with z|z
      ·exact .inl (OY z)
      ·rcases Mv.mp z with z|z
       ·exact .inr z
       ·exact .inl (OX z)
     rcases hy' with z|rfl
     ·exact b3 y z
     ·exact b4
    ·refine .inr ⟨?_,?_⟩
     ·show t.mask=31/\es1.size<=18\/t.mask=127;rcases b1 with ⟨b1,b4⟩|b1
      ·exact .inl ⟨b1,by omega⟩
      ·exact .inr b1
     ·show pl.toList=_;rw [<- hP,OB,b2,b3]
end L2
namespace L2
open PySem PySem.Spec PyProof.Rows
def br (w:World):Bool:=w.params.followText "set-order"
theorem Bv {k:Nat} (h:k<23):hashInt (k:Int)=(k:Int):=by
 have:∀ i:_root_.Fin 23,hashInt ((i.val:Nat):Int)=((i.val:Nat):Int):=by trivial
 exact this ⟨k,h⟩
def Nums (es:Array (Int×Value)):Prop:=∀ e∈es.toList,∃ (k:Nat) (tk:Tok),k<23/\e=((k:Int),Oe (k:Int) tk)
theorem Nums.elems {prog:Mp} {w:World} {es:Array (Int×Value)} (h:Nums es):ElemsOf (intKind prog w) es.toList:=fun e he=>by
 obtain ⟨k,tk,hk,rfl⟩:=h e he;exact ⟨⟨(k:Int),RS _ _ _ _,(Bv hk).symm⟩,rfl⟩
theorem Nums.perm {es es':Array (Int×Value)} (h:Nums es) (p:es'.toList.Perm es.toList):Nums es':=fun e he=>h e (p.mem_iff.mp he)
theorem Good.fits {led:Bool} {es:Array (Int×Value)} {t:NR} {ks:List Nat} (g:Good led es t ks):t.fits es.size=true:=by
 unfold P8 Q1;have l:=g.len;have n:=mL g.nd g.lt;have z:=g.size;rw [g.dum,Oc];refine ⟨by simp [z],decide_eq_true ?_⟩
 show t.place.size+0<=t.mask;rcases g.st with ⟨h1,h2,_⟩|⟨h1,_⟩ <;> omega
def gZ (h:Heap) (a:Addr) (led:Bool) (ks:List Nat):Prop:=∃ o es ep t,h.get? a=some o/\o.ExactSet/\o.data=.set es ep t/\Nums es/\Good led es t ks
section
variable {prog:Mp} {w:World} {A:MR} {E:Value->LU->Prop} {s:LU}
theorem Gw {a:Addr} {led:Bool} {ks:List Nat} {k:Nat} {tk:Tok} {Q:Bool->LU->Prop} (hk:k<23) (hS:gZ s.heap a led ks)
  (h:∀ b h' ks',O5 a s.heap h'->gZ h' a led ks'->(∀ x,x∈ks'↔x∈ks\/x=k)->Q b { s with heap:=h' }) :
  wpAny (model prog w) A (setAddHashed a (.int (k:Int) tk) (hashInt (k:Int))) Q E s:=by
 obtain ⟨o,es,ep,t,ho,hex,hd,hnum,g⟩:=hS;have l:=g.len;have n:=mL g.nd g.lt;have hb:es.size<scanBound:=by show es.size<4096;omega
 have hel:=hnum.elems (prog:=prog) (w:=w);have hmem:∀ j,j∈ks↔∃ e∈es.toList,(intKind prog w).is (j:Int) e.2=true:=fun j=>by
  have kk:=g.keys;constructor
  ·intro hj;have:(j:Int)∈es.toList.map (·.1):=by rw [kk];exact Mg.mpr ⟨j,hj,rfl⟩
   obtain ⟨e,he,e1⟩:=Mg.mp this;obtain ⟨k',tk',_,rfl⟩:=hnum e he;refine ⟨_,he,?_⟩;dsimp only at e1 ⊢;rw [e1];exact RS _ _ _ _
  ·rintro ⟨e,he,q⟩;obtain ⟨k',tk',_,rfl⟩:=hnum e he;have e2:(j:Int)=(k':Int):=(intKind prog w).inj _ _ _ q (RS _ _ _ _);have:(j:Int)∈ks.map fun (k:Nat)=>(k:Int):=by rw [<- kk,e2];exact Mg.mpr ⟨_,he,rfl⟩
   obtain ⟨j',hj',e3⟩:=Mg.mp this;have:j'=j:=by omega
   exact this ▸ hj'
 unfold setAddHashed setAddHashedIn;refine Np (LQ (OC ho hd g.fits ?_));dsimp only;rw [byScan_of rfl hb hel,if_pos rfl];unfold setAddByScan;refine LQ (LQ (Sm (LQ (wpAny_setScan_of (knd:=intKind prog w) (RS _ _ _ _) ho hd g.fits hel ?_))));cases hr:List.findIdx? (fun e=>(intKind prog w).is (k:Int) e.2) es.toList with
 | some j =>
  obtain ⟨hj,q,_⟩:=List.findIdx?_eq_some_iff_getElem.mp hr;have hin:k∈ks:=(hmem k).mpr ⟨_,Ni hj,q⟩;dsimp only;refine Md (Md ?_);exact h false s.heap ks (Heap.SameBut.refl a s.heap) ⟨o,es,ep,t,ho,hex,hd,hnum,g⟩ fun x=>⟨.inl,fun z=>z.elim id fun z=>z ▸ hin⟩
 | none =>
  have hn:k∉ks:=fun z=>by
   obtain ⟨e,he,q⟩:=(hmem k).mp z;have:=List.findIdx?_eq_none_iff.mp hr e he;rw [q] at this;cases this
  dsimp only;have lp:=layNew_perm t es (k:Int) (.int (k:Int) tk);obtain ⟨es1,t1,hl,hp1,alt⟩:=g.add hk hn (.int (k:Int) tk);rw [Bv hk,hl];rw [hl,Array.toList_push] at lp;dsimp only at lp;have num1:Nums es1:=fun e he=>by
   rcases MD.mp (lp.mem_iff.mp he) with z|z
   ·exact hnum e z
   ·exact ⟨k,tk,hk,Ma.mp z⟩
  dsimp only;refine LQ (Md ?_);rw [hp1,if_pos rfl];refine LQ ?_;rw [hashByValue_scannable 8 rfl];refine Md ?_;rw [if_pos (show plainKind (Oe (k:Int) tk)=true from rfl)];have s1:es1.size<scanBound:=by
   have:=lp.length_eq;rw [MP,Mm,MP,Rz] at this;show es1.size<4096;omega
  have o1:(s.heap.update a (QE es1 t1)).get? a=some { o with data:=.set es1 (ep+1) t1 }:=by
   have:=NM (QE es1 t1) ho (by rw [SF es1 t1 hd];rfl)
   rw [SF es1 t1 hd] at this;exact this
  have b1:=Sa s.heap a (QE es1 t1);have mm:∀ {ks':List Nat},ks'.Perm (k :: ks)->∀ x,x∈ks'↔x∈ks\/x=k:=fun p x=>by rw [p.mem_iff,Mv];exact Or.comm
  refine LQ (wpAny_storeSet_of ho hd ?_ (fits_of_scanBound s1));rcases alt with ⟨tf,ks1,g1,p1⟩|⟨tf,es2,t2,ks2,hrl,g2,p2⟩
  ·rw [tf];refine Md (Md ?_);exact h true _ ks1 b1 ⟨_,es1,ep+1,t1,o1,hex,rfl,num1,g1⟩ (mm p1)
  ·have rp:=relayAll_perm t1 es1 (Qt es1.size);rw [tf,hrl];rw [hrl] at rp;dsimp only at rp;have s2:es2.size<scanBound:=by
    have:=rp.length_eq;rw [MP,MP] at this;show es2.size<4096;have:es1.size<4096:=s1;omega
   refine LQ (Md (LQ (wpAny_storeSet_of o1 rfl ?_ (fits_of_scanBound s2))));have o2:((s.heap.update a (QE es1 t1)).update a (QE es2 t2)).get? a=some { o with data:=.set es2 (ep+1+1) t2 }:=by
    have:=NM (QE es2 t2) o1 (by rw [SF es2 t2 rfl];rfl)
    rw [SF es2 t2 rfl] at this;exact this
   refine Md (Md ?_);exact h true _ ks2 (b1.trans (Sa _ a _)) ⟨_,es2,ep+1+1,t2,o2,hex,rfl,num1.perm rp,g2⟩ (mm p2)
theorem FD {I:Addr} {fp wr:List Addr} {G:Array PQ->Array PQ->Prop} {n:Nat} {P:Nat->Value->Prop} {St:Nat->LU->Prop} {R:Q9->LU->Prop} (W:WalksS prog w A.in1 I fp wr G n P St) (a:Addr) (ha:a∉fp) {led:Bool}
  (val:Nat->Nat) (hval:∀ i v,P i v->∃ t,v=.int (val i:Int) t) (h23:∀ i,i<n->val i<23) :
  ∀ (k i:Nat) (s:LU) (ks:List Nat),n - i=k->i<=n->St i s->gZ s.heap a led ks->(∀ x,x∈ks↔∃ j,j<i/\val j=x) ->
   (∀ s' ks',Moved (a :: wr) G s s'->gZ s'.heap a led ks'->(∀ x,x∈ks'↔∃ j,j<n/\val j=x)->R (.ok (.ret .none)) s') ->
   codeAny (model prog w) A (.builtin "set.update.loop" ⟨[.ref a,.ref I],[]⟩) R s:=by
 have haw:a∉wr:=fun z=>ha (W.sub _ z);have up:∀ b∈wr,b∈a :: wr:=fun b hb=>Me _ hb;have keepS:∀ {s s':LU} {ks:List Nat},Moved wr G s s'->gZ s.heap a led ks->gZ s'.heap a led ks:=fun hm ⟨o,es,ep,t,ho,r⟩=>⟨o,es,ep,t,hm.heap a _ haw ho,r⟩;intro k
 induction k with
 | zero =>
  intro i s ks hk hi hst hS hm hR;have e:i=n:=by omega
  subst e;refine N8 Q2 ?_;rw [NU Pn _];show wpAny _ A.in1 (pyNext (.ref I) >>= _) _ _ s;refine LQ (W.done s _ _ hst fun s' mv=>?_);exact Md (hR s' ks (mv.mono up) (keepS mv hS) hm)
 | succ k ih =>
  intro i s ks hk hi hst hS hm hR;have il:i<n:=by omega
  refine N8 Q2 ?_;rw [NU Pn _];show wpAny _ A.in1 (pyNext (.ref I) >>= _) _ _ s;refine LQ (W.item i s _ _ il hst fun v s' hP hst' mv=>?_);obtain ⟨tk,rfl⟩:=hval i v hP;show wpAny _ A.in1 (holding [Oe (val i:Int) tk] (setAdd a (.int (val i:Int) tk)) >>= _) _ _ s';refine LQ (Np ?_);unfold setAdd;refine Np (LQ ((intKind prog w).pyHash (k:=(val i:Int)) (RS _ _ _ _) ?_));refine Gw (s:={ s' with toks:=s'.toks+1 }) (h23 i il) (show gZ s'.heap a led ks from keepS mv hS) fun b h' ks' sb hS' hm'=>?_;refine Md ⟨Pl Pn _,ih (i+1) _ ks' (by omega) il (W.frame _ s' _ _ hst' (OF _) fun b hb o e=>?_) hS' (fun x=>?_) fun s'' ks'' mv' hS'' hm''=>?_⟩
  ·rw [sb.2 b (fun z=>ha (z ▸ hb))];exact e
  ·rw [hm' x,hm x];constructor
   ·rintro (⟨j,hj,e⟩|rfl)
    ·exact ⟨j,by omega,e⟩
    ·exact ⟨i,by omega,rfl⟩
   ·rintro ⟨j,hj,e⟩;rcases MN j i with z|z
    ·exact .inl ⟨j,z,e⟩
    ·have:j=i:=by omega
     exact .inr (by rw [<- e,this])
  ·refine hR s'' ks'' (Moved.trans W.gtrans ((mv.mono up).then_heap (OF _) fun b o hb e=>?_) mv') hS'' hm'';rw [sb.2 b (fun z=>hb (z ▸ Mj))];exact e
abbrev mY (w:World):Obj:={ cls:=.type "set",dict:=none,data:=.set #[] 0 (.fresh 0 0 (!br w)) }
theorem ED (x:Value) {Q:Value->LU->Prop} (h:Q (.ref s.heap.objs.size) { s with heap:=s.heap.push (mY w) }) :
  codeAny (model prog w) A (.call (.builtin "set.__new__") ⟨[.type "set",x],[]⟩) (wants Q E) s:=by
 refine codeAny_of_tree ?_;show wpAny _ A.in1 (do checkBuiltinCall "set.__new__" ⟨[.type "set",x],[]⟩;again (.builtin "set.__new__" ⟨[.type "set",x],[]⟩)) _ _ s;refine LQ (wpAny_of_eq (F.newCall_set_1 x) (Md ⟨Pl F.plain_set_new _,N8 F.entry_set_new ?_⟩));rw [NU F.plain_set_new _];unfold OZ.«set.__new__» Builtin.Frozenset.newClass;have hsub:=sub_set_self;obtain ⟨hp,g,d,tk,os⟩:=s;dsimp only
 wp_walk
 refine Rh (Md ?_);dsimp only;simp only [newObj];refine LQ (wpAny_alloc (Md ?_));exact Md h
set_option maxHeartbeats 3200000 in
theorem El {l:Addr} {items:Array Value} {ns:List Nat} {Q:Value->LU->Prop} (hh:A.handled=none) (hl:s.heap.IsList l items) (hi:QX items.toList (ns.map fun (n:Nat)=>(n:Int))) (h23:∀ x∈ns,x<23)
  (h:∀ (h':Heap) (tk:Nat) (ks:List Nat),gZ h' s.heap.objs.size (!br w) ks->(∀ x,x∈ks↔x∈ns)->(∀ b o,b<s.heap.objs.size->s.heap.get? b=some o->h'.get? b=some o)->Q (.ref s.heap.objs.size) { s with heap:=h',toks:=tk }) :
  wpAny (model prog w) A (call (.type "set") [.ref l]) Q E s:=by
 have hz:items.size=ns.length:=by
  have:=hi.length;rw [MP,LP] at this;exact this
 obtain ⟨c,tl,hmro⟩:=OR.mro;have hmade:=OR.made;have hsub:=OR.sub;refine Sn (codeAny_of_tree ?_);show wpAny _ _ (callAny (.type "set") _) _ _ _;refine Md ⟨Code.quiet_builtin _ (by trivial),N8 F.entry_type_call ?_⟩
 rw [Around.under_plain (weight_type_call_type "set" [.ref l] []) rfl];have h1:=OR.notType;have h2:=OR.canCreate;have hct:=F.typeCall_set_1 (.ref l)
 repeat (any_goals (first|assumption|wp_step))
 refine OO (ED (.ref l) (E:=E) (Q:=fun obj s₁=>obj=.ref s.heap.objs.size/\s₁={ s with heap:=s.heap.push (mY w) }) ⟨rfl,rfl⟩) fun r s₁ hr=>?_;cases r with
 | error e=>exact hr
 | ok fl =>
  cases fl with
  | next=>exact hr.elim
  | brk=>exact hr.elim
  | cont=>exact hr.elim
  | ret obj =>
   obtain ⟨rfl,rfl⟩:=hr;have hS:(s.heap.push (mY w)).get? s.heap.objs.size=some (mY w):=Mz _ rfl;have hT:Sj { s with heap:=s.heap.push (mY w) } (.ref s.heap.objs.size) "set":=⟨_,hS,rfl⟩;have hli:=OR.init.lookup;have hbi:=OR.init.bind (.ref s.heap.objs.size)
   repeat (any_goals (first|assumption|wp_step))
   refine OO (P4 (R:=wants (fun r s₂=>r=.none/\∃ h' tk ks,s₂={ s with heap:=h',toks:=tk }/\gZ h' s.heap.objs.size (!br w) ks/\(∀ x,x∈ks↔x∈ns)/\∀ b o,b<s.heap.objs.size->s.heap.get? b=some o->h'.get? b=some o) E) OR.init.plain F.entry_set_init (check_set_init_1 hT ?_)) fun r₂ s₂ hr₂=>?_
   ·have hlS:l<s.heap.objs.size:=by obtain ⟨_,ho,_⟩:=hl;exact Mf ho
    have hl1:(s.heap.push (mY w)).IsList l items:=hl.push _;obtain ⟨⟨lc,ld,ldt,lsl⟩,hol,hcl,nl,hdl⟩:=id hl1;simp only at hcl hdl;subst hcl;subst hdl;have hsls:=F.sub_list_set;have hslf:=F.sub_list_frozenset;have hne:(Sl "list" == Sl "dict")=false:=by decide
    unfold OZ.«set.__init__» noKeywords Builtin.Frozenset.updateFrom;generalize hPI:pyIter=PI
    wp_walk
    subst hPI;refine Px hl1 (LQ (wpAny_runValue ?_));have hh3:A.in1.in1.in1.handled=none:=by simp [hh]
    have z1:(s.heap.push (mY w)).objs.size=s.heap.objs.size+1:=NN ..;have hval:∀ (i:Nat) (v:Value),items[i]?=some v->∃ t,v=.int ((ns.getD i 0:Nat):Int) t:=fun i v hv=>by
     obtain ⟨t,e⟩:=IntsAre.int_at hi i v (by rw [Nd];exact hv)
     refine ⟨t,?_⟩;rw [e,L6,L6,Mc];cases ns[i]? <;> rfl
    refine FD (led:=!br w) ((Walks.list hh3 _ l (by rw [z1];exact Mn (N1 hlS)) items).toS) s.heap.objs.size (by rw [z1];simp only [Mv,P2,or_false,not_or];exact ⟨Mn (Ob _),O6 hlS⟩) (fun i=>ns.getD i 0) hval (fun i hil=>?_) (items.size - 0) 0 _ [] (by omega) (M7 _)
     ⟨⟨_,Mz _ rfl,rfl,rfl⟩,(hl1.push _)⟩ ?hS0 (fun x=>?_) ?hR
    ·have:i<ns.length:=by omega
     rw [L6,LO this];exact h23 _ (Ni this)
    case hS0=>exact ⟨mY w,#[],0,.fresh 0 0 (!br w),L7 _ hS,⟨rfl,rfl,rfl⟩,rfl,(fun e he=>by cases he),Good.fresh _⟩
    ·exact ⟨(fun z=>by cases z),fun ⟨j,hj,_⟩=>absurd hj (Nat.not_lt_zero _)⟩
    case hR =>
     intro s' ks mv hS' hm;obtain ⟨h',g',d',tk',os'⟩:=s';have eg:g'=s.gens:=mv.gens;have ed:d'=s.drawn:=mv.drawn;have eo:os'=s.os:=mv.os;subst eg;subst ed;subst eo;refine Md (Md ⟨rfl,h',tk',ks,rfl,hS',fun x=>?_,fun b o hb e=>?_⟩)
     ·rw [hm x,hz];constructor
      ·rintro ⟨j,hj,e⟩;rw [L6,LO hj] at e;rw [<- show ns[j]=x from e];exact Ni hj
      ·intro hx;obtain ⟨j,hj,e⟩:=Qf hx;exact ⟨j,hj,by rw [L6,LO hj];exact e⟩
     ·exact mv.heap b o (by rw [z1];simp only [Mv,P2,or_false,not_or];exact ⟨Mn hb,Mn (N1 hb)⟩) (L7 _ (L7 _ e))
   ·cases r₂ with
    | error e=>exact hr₂
    | ok fl₂ =>
     cases fl₂ with
     | next=>exact hr₂.elim
     | brk=>exact hr₂.elim
     | cont=>exact hr₂.elim
     | ret r =>
      obtain ⟨rfl,h',tk,ks,rfl,hS',hm,hk'⟩:=hr₂
      repeat (any_goals (first|assumption|wp_step))
      exact h _ _ ks hS' hm hk'
end
theorem Bp:entryFor table "set.__iter__" = some OZ.«frozenset.__iter__»:=RY (id':="frozenset.__iter__") (by kernel_rfl) rfl (by trivial) (by kernel_rfl)
theorem me:Slot "set_iterator" "__next__" "set_iterator.__next__" :=
 .of (owner:="set_iterator") (n:="__next__") (by rw [typeLookup_type,RK];kernel_rfl) (by trivial) (by trivial) (by trivial)
  (by first|exact .inl (by trivial)|exact .inr (by trivial)) (by rw [isSubtype_type];kernel_rfl)
theorem yo:entryFor table "set_iterator.__next__" = some OZ.«set_iterator.__next__»:=entryFor_of_tree (by kernel_rfl)
theorem yg:Manifest.owners.lookup (String.ofList ['r','o','t','a','r','e','t','i','_','t','e','s'].reverse)=some Manifest.sig_set_iterator:=by kernel_rfl
theorem yd (a:Value):argsOk "set_iterator.__next__" ⟨[a],[]⟩:=by
 unfold argsOk;rw [signature?_of (id:="set_iterator.__next__") (n:=['_','_','t','x','e','n','_','_']) (o:=['r','o','t','a','r','e','t','i','_','t','e','s']) (by kernel_rfl) yg];kernel_rfl
def cO (h:Heap) (it a:Addr) (slot i n ep:Nat):Prop:=h.get? it=some { cls:=.type "set_iterator",dict:=none,data:=.fields #[.int slot 0,.int i 0,.ref a,.int n 0,.int ep 0],slots:=#[] }
theorem DJ {α:Type} {l:List α} {i:Nat} (h:i<l.length):(l[i] :: l.eraseIdx i).Perm l:=by
 have e:l=l.take i++l[i] :: l.drop (i+1):=by rw [List.getElem_cons_drop,PZ]
 rw [List.eraseIdx_eq_take_drop_succ];exact Rg.symm.trans (List.Perm.of_eq e.symm)
theorem Cz {α:Type} (next:Nat->Nat):∀ (fuel k:Nat) (left:List α) (out:Array α),fuel=left.length->(SA next fuel k left out).toList.Perm (out.toList++left)
 | 0,k,left,out,h=>by
  have:left=[]:=QZ.mp h.symm;subst this;unfold SA;simp
 | fuel+1,k,left,out,h=>by
  unfold SA;have hl:next k % left.length<left.length:=My _ (by omega)
  rw [LO hl];dsimp only;refine (Cz next fuel (k+1) _ _ (by rw [List.length_eraseIdx,if_pos hl];omega)).trans ?_
  rw [Array.toList_push,PD];exact List.Perm.append_left _ (DJ hl)
theorem EL {α:Type} (next:Nat->Nat) (xs:Array α):(pickOrder next xs).toList.Perm xs.toList:=by
 have:=Cz next xs.size 0 xs.toList #[] (by simp)
 simpa [pickOrder] using this
def lI (h:Heap) (a:Addr) (es:Array (Int×Value)) (ep:Nat) (t:NR):Prop:=∃ o,h.get? a=some o/\o.ExactSet/\o.data=.set es ep t
def eP (w:World) (a:Addr) (es:Array (Int×Value)) (ep:Nat):Array (Int×Value):=if br w=true then pickOrder (w.params.setOrder a ep) es else es
theorem yu {w:World} {a:Addr} {es:Array (Int×Value)} {ep:Nat}:(eP w a es ep).toList.Perm es.toList:=by
 unfold eP
 split
 ·exact EL _ _
 ·exact List.Perm.refl _
theorem oQ {w:World} {a:Addr} {es:Array (Int×Value)} {ep:Nat}:(eP w a es ep).size=es.size:=by
 have:=(yu (w:=w) (a:=a) (es:=es) (ep:=ep)).length_eq
 rwa [MP,MP] at this
def slotAt (t:NR) (i:Nat):Nat:=if i=0 then 0 else t.place.getD (i - 1) 0+1
theorem below_at {led:Bool} {es:Array (Int×Value)} {t:NR} {ks:List Nat} (g:Good led es t ks) {i:Nat} (hi:i<=es.size):MY t.place (slotAt t i)=i:=by
 obtain ⟨h1,h2,h3⟩:=wD g.rise (slotAt t i);have z:=g.size;have gd:∀ k,k<t.place.size->t.place[k]?=some (t.place.getD k 0):=fun k hk=>by
  rw [MX hk,NS,MX hk];rfl
 have mono:∀ (a b:Nat),a<b->b<t.place.size->t.place.getD a 0<t.place.getD b 0:=fun a b hab hb=>by
  have ha:=gd a (by omega)
  have hb':=gd b hb;rw [<- Nd] at ha hb';obtain ⟨x1,x2⟩:=LR.mp ha;obtain ⟨y1,y2⟩:=LR.mp hb';rw [<- x2,<- y2];exact NA.mp g.rise a b x1 y1 hab
 rcases N2 (MY t.place (slotAt t i)) i with c|c|c
 ·have q:=h3 (i - 1) _ (by omega) (gd (i - 1) (by omega))
  unfold slotAt at q;rw [if_neg (by omega)] at q
  omega
 ·exact c
 ·have q:=h2 i _ c (gd i (by omega))
  unfold slotAt at q
  split at q
  ·omega
  ·have:=mono (i - 1) i (by omega) (by omega)
   omega
section
variable {prog:Mp} {w:World} {A:MR} {E:Value->LU->Prop} {s:LU}
theorem cO.typeIs {it a:Addr} {slot i n ep:Nat} (x:cO s.heap it a slot i n ep):s.TypeIs (.ref it) "set_iterator":=⟨_,x,rfl⟩
theorem uN {Q:Bool->LU->Prop} (h:Q (br w) s):wpAny (model prog w) A setsByText Q E s:=by
 unfold setsByText;exact LQ (Rh (Md h))
theorem CZ {a:Addr} {ep:Nat} {es:Array (Int×Value)} {t:NR} {ks:List Nat} {Q:Array (Int×Value)->LU->Prop} (g:Good (!br w) es t ks) (hS:lI s.heap a es ep t) (ht:br w=true) (hQ:Q (eP w a es ep) s):wpAny (model prog w) A (setWalk a) Q E s:=by
 obtain ⟨os,hos,hex,hds⟩:=id hS;unfold setWalk;refine LQ (OC hos hds g.fits ?_);dsimp only;refine LQ (uN ?_);rw [if_pos ht];refine LQ (Rh (Md ?_));unfold eP at hQ;rw [if_pos ht] at hQ;exact hQ
theorem yz {a:Addr} {sl i ep:Nat} {es:Array (Int×Value)} {t:NR} {ks:List Nat} {Q:Option (Value×Nat)->LU->Prop} (g:Good (!br w) es t ks) (hS:lI s.heap a es ep t) (hi:i<=es.size) (hsl:br w=false->sl=slotAt t i)
  (hQ:Q ((eP w a es ep)[i]?.map fun e=>(e.2,if br w=true then sl else slotAt t (i+1))) s):wpAny (model prog w) A (setNext a sl i ep) Q E s:=by
 obtain ⟨os,hos,hex,hds⟩:=id hS;unfold setNext;refine LQ (OC hos hds g.fits ?_);dsimp only;refine LQ (uN ?_);cases ht:br w with
 | true =>
  rw [if_pos rfl,if_neg (by simp)]
  refine LQ (CZ g hS ht (Md ?_));rw [ht] at hQ
  simpa using hQ
 | false =>
  rw [if_neg Mo]
  split
  ·rename_i hdr
   have:(!t.plain && decide (es.size > 1))=true:=hdr;rw [g.plain] at this;cases this
  refine LQ ?_;have hled:t.led=true:=by rw [g.led,ht];rfl
  show wpAny _ _ (if (!t.led && !es.isEmpty)=true then unsupported "set:maker-not-led" else pure ()) _ _ _;rw [if_neg (by rw [hled];exact Mo)]
  refine Md (Md ?_);rw [hsl ht,below_at g hi];rw [ht] at hQ;unfold eP at hQ;rw [ht,if_neg Mo,if_neg Mo] at hQ;rcases MN i es.size with c|c
  ·have pl:i<t.place.size:=by rw [g.size];exact c
   rw [MX c] at hQ ⊢;rw [MX pl];have e1:slotAt t (i+1)=t.place[i]+1:=by
    unfold slotAt;rw [if_neg (by omega),Nat.add_sub_cancel,NS,MX pl]
    rfl
   rw [e1] at hQ;exact hQ
  ·rw [Oi c] at hQ ⊢;exact hQ
theorem DN {it a:Addr} {i ep:Nat} {es:Array (Int×Value)} {t:NR} {ks:List Nat} {Q:Option Value->LU->Prop} (g:Good (!br w) es t ks) (hne:a≠it) (hit:cO s.heap it a (slotAt t i) i es.size ep\/(br w=true/\∃ sl,cO s.heap it a sl i es.size ep)) (hS:lI s.heap a es ep t) {e:Int×Value} (he:(eP w a es ep)[i]?=some e)
  (hQ:∀ h',(cO h' it a (slotAt t (i+1)) (i+1) es.size ep\/(br w=true/\∃ sl,cO h' it a sl (i+1) es.size ep))->O5 it s.heap h'->Q (some e.2) { s with heap:=h' }) :
  wpAny (model prog w) A (pyNext (.ref it)) Q E s:=by
 obtain ⟨sl,hit',hsl⟩:∃ sl,cO s.heap it a sl i es.size ep/\(br w=false->sl=slotAt t i):=by
  rcases hit with z|⟨z,sl,z'⟩
  ·exact ⟨_,z,fun _=>rfl⟩
  ·exact ⟨sl,z',fun c=>by rw [z] at c;cases c⟩
 have ho:=hit';unfold cO at ho;obtain ⟨os,hos,hex,hds⟩:=id hS;unfold pyNext;refine LQ (Ph (OH (name:=NW "__next__") hit'.typeIs me (Ol me hit'.typeIs yo ?_ (yd _))));show wpAny _ _ (fieldsOf (.ref it) >>= _) _ _ s;refine LQ (wpAny_fieldsOf ho rfl ?_);dsimp only;refine LQ (LQ (OC hos hds g.fits (Md ?_)));dsimp only;rw [if_neg (by simp)]
 have hi:i<es.size:=by
  have:=(Nw.mp he).1
  rwa [oQ] at this
 rw [NL,NL,NL];refine LQ (yz g hS (N5 hi) hsl ?_);rw [he];show wpAny _ _ (setField (MI it) 0 _ >>= _) _ _ _;refine LQ (Pk ho (by show 0<5;decide) fun h1 e1 b1=>?_)
 refine LQ (Pk (s:={ s with heap:=h1 }) e1 (by show 1<5;decide) fun h2 e2 b2=>?_)
 refine Md ⟨_,rfl,Md (hQ h2 ?_ (b1.trans b2))⟩;cases ht:br w with
 | true =>
  refine .inr ⟨rfl,sl,?_⟩;rw [ht] at e2;exact e2
 | false =>
  rw [ht] at e2;exact .inl e2
theorem E4 {it a:Addr} {ep:Nat} {es:Array (Int×Value)} {t:NR} {ks:List Nat} {Q:Option Value->LU->Prop} (hh:A.handled=none) (g:Good (!br w) es t ks) (hit:cO s.heap it a (slotAt t es.size) es.size es.size ep\/(br w=true/\∃ sl,cO s.heap it a sl es.size es.size ep)) (hS:lI s.heap a es ep t)
  (hQ:∀ h',Heap.ExtBut it s.heap h'->Q none { s with heap:=h' }):wpAny (model prog w) A (pyNext (.ref it)) Q E s:=by
 obtain ⟨sl,hit',hsl⟩:∃ sl,cO s.heap it a sl es.size es.size ep/\(br w=false->sl=slotAt t es.size):=by
  rcases hit with z|⟨z,sl,z'⟩
  ·exact ⟨_,z,fun _=>rfl⟩
  ·exact ⟨sl,z',fun c=>by rw [z] at c;cases c⟩
 have ho:=hit';unfold cO at ho;obtain ⟨os,hos,hex,hds⟩:=id hS;unfold pyNext;refine LQ (Ph (OH (name:=NW "__next__") hit'.typeIs me (Ol me hit'.typeIs yo ?_ (yd _))));show wpAny _ _ (fieldsOf (.ref it) >>= _) _ _ s;refine LQ (wpAny_fieldsOf ho rfl ?_);dsimp only;refine LQ (LQ (OC hos hds g.fits (Md ?_)));dsimp only;rw [if_neg (by simp)]
 rw [NL,NL,NL];refine LQ (yz g hS (Mh _) hsl ?_);rw [Oi (by rw [oQ];exact Mh _)]
 show wpAny _ _ (setField (MI it) 2 _ >>= _) _ _ _;refine LQ (Pk ho (by show 2<5;decide) fun h1 e1 b1=>?_)
 refine LQ ?_;simp only [newExc,newTuple];refine LQ (NZ ?_ (by size_fits))
 refine LQ (m:=firstArgMember _ _) (wpAny_of_eq (a:=Ow) (by first|rfl|(simp only [firstArgMember];rfl)) ?_)
 refine NZ ?_ (by size_fits)
 simp only [raiseNew];refine LQ (wpAny_handled ?_);rw [show A.in1.handled=none from hh];refine LQ (Md (wpAny_throw ?_));refine LQ (Rf (T:="StopIteration") (b:=true) ⟨_,Mz _ rfl,rfl⟩ isSubtype_stop ?_);exact Md (hQ _ ((b1.extBut.push _).push _))
end
theorem vH:Slot "set_iterator" "__iter__" "set_iterator.__iter__" :=
 .of (owner:="set_iterator") (n:="__iter__") (by rw [typeLookup_type,RK];kernel_rfl) (by trivial) (by trivial) (by trivial)
  (by first|exact .inl (by trivial)|exact .inr (by trivial)) (by rw [isSubtype_type];kernel_rfl)
theorem B0:entryFor table "set_iterator.__iter__" = some OZ.«dict_keyiterator.__iter__»:=RY (id':="dict_keyiterator.__iter__") (by kernel_rfl) rfl (by trivial) (by kernel_rfl)
theorem BD (a:Value):argsOk "set_iterator.__iter__" ⟨[a],[]⟩:=by
 unfold argsOk;rw [signature?_of (id:="set_iterator.__iter__") (n:=['_','_','r','e','t','i','_','_']) (o:=['r','o','t','a','r','e','t','i','_','t','e','s']) (by kernel_rfl) yg];kernel_rfl
def qQ (w:World) (h:Heap) (it a:Addr) (t:NR) (i n ep:Nat):Prop:=cO h it a (slotAt t i) i n ep\/(br w=true/\∃ sl,cO h it a sl i n ep)
section
variable {prog:Mp} {w:World} {A:MR} {E:Value->LU->Prop} {s:LU}
theorem qQ.typeIs {it a:Addr} {t:NR} {i n ep:Nat} (x:qQ w s.heap it a t i n ep):s.TypeIs (.ref it) "set_iterator":=by
 rcases x with z|⟨_,sl,z⟩ <;> exact ⟨_,z,rfl⟩
theorem qQ.keep {h h':Heap} {it a:Addr} {t:NR} {i n ep:Nat} (x:qQ w h it a t i n ep) (k:∀ o,h.get? it=some o->h'.get? it=some o):qQ w h' it a t i n ep:=by
 rcases x with z|⟨c,sl,z⟩
 ·exact .inl (k _ z)
 ·exact .inr ⟨c,sl,k _ z⟩
theorem lI.keep {h h':Heap} {a:Addr} {es:Array (Int×Value)} {ep:Nat} {t:NR} (x:lI h a es ep t) (k:∀ o,h.get? a=some o->h'.get? a=some o):lI h' a es ep t:=let ⟨o,ho,r⟩:=x;⟨o,k _ ho,r⟩
theorem Er (hh:A.handled=none) (I a:Addr) (hne:a≠I) {ep:Nat} {es:Array (Int×Value)} {t:NR} {ks:List Nat} (g:Good (!br w) es t ks) :
  Walks prog w A I [I,a] [I] es.size (fun i v=>∃ e,(eP w a es ep)[i]?=some e/\v=e.2) (fun i h=>qQ w h I a t i es.size ep/\lI h a es ep t) where
 sub:=fun b hb=>by simp at hb;simp [hb]
 frame:=fun i h h' st hk=>⟨st.1.keep fun o e=>hk I (by simp) o e,st.2.keep fun o e=>hk a (by simp) o e⟩
 item:=fun i s Q E hi st hQ=>by
  have hl:i<(eP w a es ep).size:=by rw [oQ];exact hi
  refine DN g hne st.1 st.2 (MX hl) fun h' it' sb=>?_;exact hQ _ h' s.toks ⟨_,MX hl,rfl⟩ ⟨it',st.2.keep fun o e=>(sb.2 a hne).trans e⟩ fun b o hb e=>(sb.2 b (fun z=>hb (by simp [z]))).trans e
 done:=fun s Q E st hQ=>E4 hh g st.1 st.2 fun h' he=>hQ h' s.toks fun b o hb e=>he b o (fun z=>hb (by simp [z])) e
 self:=fun i s Q E st hQ=>by
  refine wpAny_pyIter_slot st.1.typeIs vH (Ol vH st.1.typeIs B0 ?_ (BD _));show wpAny _ _ (ret (.ref I)) _ _ s;exact Md ⟨_,rfl,"set_iterator",_,st.1.typeIs,me.lookup,hQ⟩
theorem CS {a:Addr} {ep:Nat} {es:Array (Int×Value)} {t:NR} {ks:List Nat} {Q:Value->LU->Prop} (g:Good (!br w) es t ks) (hS:lI s.heap a es ep t)
  (hQ:∀ h',qQ w h' s.heap.objs.size a t 0 es.size ep->(∀ b o,s.heap.get? b=some o->h'.get? b=some o)->h'.objs.size=s.heap.objs.size+1->Q (.ref s.heap.objs.size) { s with heap:=h' }) :
  wpAny (model prog w) A (pyIter (.ref a)) Q E s:=by
 obtain ⟨os,hos,hex,hds⟩:=id hS;have hT:s.TypeIs (.ref a) "set":=⟨os,hos,hex.1⟩;refine wpAny_pyIter_slot hT F.slot_set_iter (Ol F.slot_set_iter hT Bp ?_ (F.args_set_iter_1 _));unfold OZ.«frozenset.__iter__» Builtin.Frozenset.slot0 slotArgs;simp only [List.isEmpty_nil,Bool.not_true,Qq,↓reduceIte,bind_assoc,RC,bne_self_eq_false];unfold Builtin.Frozenset.addrOf Builtin.Frozenset.sizeOf setDrawn;refine LQ (Md ?_);dsimp only;refine LQ (Md ?_);refine LQ (LQ (wpAny_setEntries_of hos hds g.fits (Md ?_)));refine LQ (LQ (OC hos hds g.fits ?_));dsimp only;refine LQ (uN (Md ?_));have dr:∀ b:Bool,(b && (!t.plain && decide (es.size > 1)))=false:=fun b=>by rw [g.plain];cases b <;> rfl
 split
 ·rename_i hc
  have:(!br w && (!t.plain && decide (es.size > 1)))=true:=hc;rw [dr] at this;cases this
 refine LQ (Md ?_);refine LQ (wpAny_setEpoch_of hos hds g.fits ?_);refine LQ (NZ (Md ⟨_,rfl,"set_iterator",_,⟨_,Mz _ rfl,rfl⟩,me.lookup,?_⟩));exact hQ _ (.inl (Mz _ rfl)) (fun b o e=>L7 _ e) (NN ..)
theorem BM {a:Addr} {ep:Nat} {es:Array (Int×Value)} {t:NR} {ks:List Nat} {Q:List Value->LU->Prop} (hh:A.handled=none) (g:Good (!br w) es t ks) (hS:lI s.heap a es ep t)
  (hQ:∀ (h':Heap) (tk:Nat),s.heap.objs.size<=h'.objs.size->(∀ b o,s.heap.get? b=some o->h'.get? b=some o)->Q ((eP w a es ep).toList.map (·.2)) { s with heap:=h',toks:=tk }):wpAny (model prog w) A (collect (.ref a)) Q E s:=by
 have n23:=mL g.nd g.lt;have el:=g.len;obtain ⟨os,hos,hex,hds⟩:=id hS;have alt:a<s.heap.objs.size:=Mf hos;unfold collect;refine LQ (wpAny_runValue (N8 F.entry_proto_collect ?_));rw [NU F.plain_proto_collect _];show wpAny _ A.in1 (newList [] >>= fun l=>again (.builtin "list.__iadd__" ⟨[l,.ref a],[]⟩)) _ _ s;refine LQ (NZ ?_);refine Md ⟨Pl F.plain_list_iadd _,N8 F.entry_list_iadd ?_⟩;rw [NU F.plain_list_iadd _];show wpAny _ A.in1 (Qi (.ref s.heap.objs.size) (.ref a) (.ref s.heap.objs.size)) _ _ _;generalize hp1:s.heap.push { cls:=.type "list",data:=.seq ([]:List Value).toArray }=h1;have o1:h1.get? s.heap.objs.size=some { cls:=.type "list",data:=.seq ([]:List Value).toArray }:=by rw [<- hp1];exact Mz _ rfl
 have k1:∀ b o,s.heap.get? b=some o->h1.get? b=some o:=fun b o e=>by rw [<- hp1];exact L7 _ e
 have z1:h1.objs.size=s.heap.objs.size+1:=by rw [<- hp1];exact NN ..
 have hS1:lI h1 a es ep t:=hS.keep fun o e=>k1 _ _ e;unfold Qi;have hT1:Sj { s with heap:=h1 } (.ref a) "set":=⟨os,k1 _ _ hos,hex.1⟩;refine LQ (RI hT1 ?_);have nS:QF (.ref s.heap.objs.size) (.ref a)=false:=by
  have:s.heap.objs.size≠a:=O6 alt;simp [QF,this]
 rw [if_neg (by rw [nS];decide)]
 refine LQ (CS g hS1 fun h2 it2 k2 z2=>?_);have o2:=k2 _ _ o1;have hT2:Sj { s with heap:=h2 } (.ref a) "set":=⟨os,k2 _ _ (k1 _ _ hos),hex.1⟩;refine LQ (Np ?_);unfold Builtin.List.listLengthHint;refine LQ (wpAny_specialOf hT2 F.slot_set_len.lookup ?_);generalize hid:("set.__len__" : String)=id0
 (fail_if_success (clear hid id0))
 wp_delta
 rw [show splitId id0=some ("set","__len__") from by subst hid;decide +kernel]
 subst hid;refine LQ (Rf (b:=true) hT2 sub_set_self ?_);show wpAny _ _ (typeOf (.ref a) >>= _) _ _ _;refine LQ (RI hT2 ?_);refine Md ?_;show wpAny _ A.in1 (rule "list.extend.makes-room" >>= fun _=>Builtin.List.listTouch (.ref s.heap.objs.size) >>= fun _=>again (.builtin "list.extend.loop" ⟨[.ref s.heap.objs.size,.ref h1.objs.size,.ref s.heap.objs.size],[]⟩)) _ _ _;refine LQ (Sm (LQ ?_));show wpAny _ A.in1 (updateSeq s.heap.objs.size (·.push .none) >>= fun _=>updateSeq s.heap.objs.size (·.pop)) _ _ _;refine LQ (wpAny_updateSeq o2 rfl ?_);have o3:=NM (O7 (·.push Ow)) o2 rfl;refine wpAny_updateSeq (hz:=by seq_fits) o3 rfl ?_
 have o4:=NM (O7 (·.pop)) o3 rfl;have k4:∀ b o,b≠s.heap.objs.size->h2.get? b=some o->((h2.update s.heap.objs.size (O7 (·.push Ow))).update s.heap.objs.size (O7 (·.pop))).get? b=some o :=
  fun b o hb e=>(Nb _ _ (NY hb)).trans ((Nb _ _ (NY hb)).trans e)
 have ne1:h1.objs.size≠s.heap.objs.size:=by rw [z1];exact O6 (Ob _)
 have ne2:a≠s.heap.objs.size:=Mn alt;have ne3:a≠h1.objs.size:=by rw [z1];exact Mn (N1 alt)
 have W:=(Er (prog:=prog) (A:=A.in1) (by simp [hh]) h1.objs.size a ne3 (ep:=ep) g).toS
 refine Md ⟨Pl F.plain_extend_loop _,codeAny_extend_loopS W (by rw [Nx];omega) s.heap.objs.size (by simp only [Mv,P2,or_false,not_or];exact ⟨NY ne1,NY ne2⟩) _ es.size 0 _ _ _ rfl (M7 _)
  ⟨it2.keep fun o e=>k4 _ _ ne1 e,(hS1.keep fun o e=>k2 _ _ e).keep fun o e=>k4 _ _ ne2 e⟩ o4 (ItemsOf.nil _) fun s' acc c' mv o5 items=>?_⟩
 obtain ⟨h',g',d',tk',os'⟩:=s';have eg:g'=s.gens:=mv.gens;have ed:d'=s.drawn:=mv.drawn;have eo:os'=s.os:=mv.os;subst eg;subst ed;subst eo;show wpAny _ A (load s.heap.objs.size >>= _) _ _ _;refine LQ (wpAny_load o5 (Md ?_));have ea:acc.toList=(eP w a es ep).toList.map (·.2):=by
  refine Qz fun j=>?_;rw [Mc,Nd,Nd];rcases MN j acc.size with c|c
  ·have q:=MX c;obtain ⟨e,he,ev⟩:=items.2 j _ q;rw [q,he,ev];rfl
  ·rw [Oi c,Oi (by rw [oQ,<- items.1];exact c)]
   rfl
 rw [ea];refine hQ h' tk' (N5 (Mf o5)) fun b o e=>mv.heap b o ?_ (k4 b o ?_ (k2 _ _ (k1 _ _ e)))
 ·have:=Mf e;simp only [Mv,P2,or_false,not_or];exact ⟨Mn this,by rw [z1];exact Mn (N1 this)⟩
 ·exact Mn (Mf e)
theorem yB:∀ {es:List (Int×Value)},(∀ e∈es,∃ (k:Nat) (tk:Tok),k<23/\e=((k:Int),Oe (k:Int) tk))->QX (es.map (·.2)) ((es.map fun e=>e.1.toNat).map fun (k:Nat)=>(k:Int))
 | [],_=>.nil
 | e :: es,h=>by
  obtain ⟨k,tk,_,rfl⟩:=h e Mj;exact .cons _ _ (yB fun e he=>h e (Me _ he))
theorem HL {es:List (Int×Value)} {ks:List Nat} (h:es.map (·.1)=ks.map fun (k:Nat)=>(k:Int)):es.map (fun e=>e.1.toNat)=ks:=by
 have:=congrArg (List.map QD) h;rw [N7,N7] at this;have e:(QD ∘ fun (k:Nat)=>(k:Int))=id:=by funext n;rfl
 rw [e,Qd] at this;exact this
theorem D6 {a:Addr} {ks:List Nat} {Q:Value->LU->Prop} (hh:A.handled=none) (hS:gZ s.heap a (!br w) ks)
  (h:∀ (h':Heap) (tk:Nat) (d:Addr) (out:Array Value) (c:Nat) (l:List Nat),QX out.toList (l.map fun (k:Nat)=>(k:Int))->l.Perm ks->l.Pairwise (·<=·)->s.heap.objs.size<=d->h'.get? d=some (seqObj "list" out c)->(∀ b o,s.heap.get? b=some o->h'.get? b=some o)->Q (.ref d) { s with heap:=h',toks:=tk }) :
  wpAny (model prog w) A (call (.builtin "sorted") [.ref a]) Q E s:=by
 obtain ⟨o,es,ep,t,ho,hex,hd,hnum,g⟩:=hS;have n23:=mL g.nd g.lt;have el:=g.len;refine Calls.call_function_entry kind_sorted plain_sorted entry_sorted (args_sorted1 _) ?_;unfold OZ.«sorted»;refine LQ (m:=checkCount "sorted" 1 1 _) (Md ?_);refine LQ (BM (by simp [hh]) g ⟨o,ho,hex,hd⟩ fun h1 tk1 kz k1=>?_)
 have wp:=yu (w:=w) (a:=a) (es:=es) (ep:=ep);have hI:=yB (es:=(eP w a es ep).toList) fun e he=>hnum e (wp.mem_iff.mp he);have kp:((eP w a es ep).toList.map fun e=>e.1.toNat).Perm ks:=by
  have:=wp.map fun e=>e.1.toNat
  rwa [HL g.keys] at this
 generalize (eP w a es ep).toList.map (fun e=>e.1.toNat)=kw at hI kp;generalize hv:(eP w a es ep).toList.map (·.2)=vs at hI;have vl:vs.length<64:=by
  have:=hI.length;rw [LP,kp.length_eq] at this;omega
 refine LQ (wpAny_newList ?_);have oL:(h1.push (seqObj "list" vs.toArray 0)).get? h1.objs.size=some (seqObj "list" vs.toArray 0):=Mz _ rfl;refine LQ (Np (Ol slot_list_sort ⟨_,oL,rfl⟩ entry_list_sort (list_sort_tree oL hI vl fun out ns' a1 a2 a3=>⟨_,rfl,?_⟩) (args_list_sort _)));obtain ⟨c,hc⟩:=sortedHeap_at (out:=out) oL;obtain ⟨l,rfl,lp⟩:=yG a2;refine Md ⟨_,rfl,h _ tk1 _ out c l a1 (lp.trans kp) ?_ kz hc fun b ob e=>?_⟩
 ·rw [OU] at a3;exact a3.imp fun z=>by omega
 ·have e1:=k1 _ _ e;rw [sortedHeap_old (Mn (Mf e1)) (by rw [NN];exact N1 (Mf e1))]
  exact L7 _ e1
end
theorem gZ.there {h:Heap} {a:Addr} {led:Bool} {ks:List Nat} (x:gZ h a led ks):∃ o,h.get? a=some o:=let ⟨o,_,_,_,ho,_⟩:=x;⟨o,ho⟩
theorem gZ.nd {h:Heap} {a:Addr} {led:Bool} {ks:List Nat} (x:gZ h a led ks):ks.Nodup/\∀ k∈ks,k<23:=let ⟨_,_,_,_,_,_,_,_,g⟩:=x;⟨g.nd,g.lt⟩
theorem gZ.keep {h h':Heap} {a:Addr} {led:Bool} {ks:List Nat} (x:gZ h a led ks) (k:∀ o,h.get? a=some o->h'.get? a=some o):gZ h' a led ks:=let ⟨o,es,ep,t,ho,r⟩:=x;⟨o,es,ep,t,k _ ho,r⟩
abbrev lF (w:World) (a:Addr) (ks:List Nat):HO:=.ext fun h=>gZ h a (!br w) ks
theorem IY {P:Mp} {w:World} {H:Hp} {h:Heap} {a:Addr} {ks:List Nat} (e:gZ h a (!br w) ks):cA P w H h a (lF w a ks) :=
 ⟨e,e.there,fun _ _ x k=>x.keep k⟩
def Ed (w:World) (K:LN):List V->Hp->VK->Prop:=fun xs H Q=>∃ (p:Addr) (ns:List Nat),xs=[.ref p]/\SqL K H p ((ns.map fun (n:Nat)=>(n:Int)).map V.int)/\(∀ x∈ns,x<23) /\
 ∀ (a:Addr) (ks:List Nat),H a=none->(∀ x,x∈ks↔x∈ns)->ks.Nodup->Q (.ref a) (upd H a (lF w a ks))
theorem Et {X:Cx} (hc:X.calm=true):da X (.type "set") (Ed X.w X.K):=by
 intro pins s σ H xs us Q I r h;obtain ⟨p,ns,rfl,hS,h23,q⟩:=h;obtain ⟨u,rfl,ru⟩:=vals1 r;cases (show u=MI p from ru);obtain ⟨its,rv,pl,hz⟩:=I.list hS;have hi:=qR rv;refine El (I.ok.hd hc) pl.isList (by simpa using hi) h23 fun h' tk ks hG hm hk=>?_
 exact ⟨.ref s.heap.objs.size,_,I.laid (o:=lF X.w s.heap.objs.size ks) (fun b o e=>hk b o (Mf e) e) (Mh _) (IY hG),rfl,q _ ks (I.hok.fresh (Mh _)) hm hG.nd.1⟩
theorem Ek {X:Cx} (K:LN) (hK:X.K=K) (w:World) (hw:X.w=w) (hc:X.calm=true):da X (.type "set") (Ed w K):=by subst hK;subst hw;exact Et hc
def u6 (w:World):List V->Hp->VK->Prop:=fun xs H Q=>∃ (a:Addr) (ks:List Nat),xs=[.ref a]/\H a=some (lF w a ks) /\
 ∀ (d:Addr) (l:List Nat),H d=none->l.Perm ks->l.Pairwise (·<=·)->Q (.ref d) (upd H d (.lst (bb l)))
theorem Bo {X:Cx} (hc:X.calm=true):da X (.builtin "sorted") (u6 X.w):=by
 intro pins s σ H xs us Q I r h;obtain ⟨a,ks,rfl,hx,q⟩:=h;obtain ⟨u,rfl,ru⟩:=vals1 r;cases (show u=MI a from ru);obtain ⟨p,_,_⟩:=(show cA X.prog X.w H s.heap a (lF X.w a ks) from I.hok a _ hx);have hG:gZ s.heap a (!br X.w) ks:=p;have n23:=mL hG.nd.1 hG.nd.2;refine D6 (I.ok.hd hc) hG fun h' tk d out c l a1 a2 a3 hd ho hk=>?_;have hn:H d=none:=I.hok.fresh hd;refine ⟨.ref d,_,I.laid (o:=.lst (bb l)) hk hd ⟨?_,out.toList,c,?_,?_⟩,rfl,q d l hn a2 a3⟩
 ·unfold bb;rw [LP,a2.length_eq];exact small (by omega)
 ·rw [nB];exact tH a1
 ·simpa [seqObj] using ho
theorem yW {X:Cx} (w:World) (hw:X.w=w) (hc:X.calm=true):da X (.builtin "sorted") (u6 w):=by subst hw;exact Bo hc
section
variable {H:Hp} {Q:VK} {K:LN} {v:V} {w:World}
theorem JT {l:List Nat} (h:At K H v l) (h23:∀ x∈l,x<23) (q:∀ (a:Addr) (ks:List Nat),H a=none->(∀ x,x∈ks↔x∈l)->ks.Nodup->Q (.ref a) (upd H a (lF w a ks))):Ed w K [v] H Q:=by
 obtain ⟨p,rfl,hS⟩:=mF h;have e:=nB l;unfold bb at e;exact ⟨p,l,rfl,by rw [<- e];exact hS,h23,q⟩
theorem ER {a:Addr} {ks:List Nat} (h:H a=some (lF w a ks)) (q:∀ (d:Addr) (l:List Nat),H d=none->l.Perm ks->l.Pairwise (·<=·)->Q (.ref d) (upd H d (.lst (bb l)))):u6 w [.ref a] H Q:=⟨a,ks,rfl,h,q⟩
end
section
variable {X:Cx} {elt tg iter:Expr} {ifs:List Expr} {scope:Scope} {pos:Pos} {own:List Str} {fr:List Nat} {wi:TI} {g:TG} {tt:TT} {te:TE}
end
def ET:List Value->List Value
 | .ref _ :: r=>ET r
 | l=>l
def HZ (K:LN) (C:Addr):Bool:=(P7 K C).any fun cd=>ET cd.mro == bmV
def Ik (K:LN) (C:Addr):Bool:=(K.lookup C).any fun o=>o.cls == .type "type" && (o.slots.toList.length == 6 && o.slots.toList[4]? == some (some (.builtin kA))) &&
 (match o.data with
  | .cls cd=>cd.mro.head? == some (.ref C) && (!cd.hasDel && PySem.W.tailIn K bmV cd.mro.tail)
  | _=>false)
structure LM (K:LN) (C f:Addr):Prop where
 ob:Ik K C=true
 init:L4 K (.ref C) "__init__" = some (some (.ref f))
 fn:N6 K (.ref f)=true
 sa:L4 K (.ref C) "__setattr__" = some (some (.builtin "object.__setattr__"))
 hd:Nl K C=true
 ov:HZ K C=true
 kp:LV K (.ref C)=true
section
variable {prog:Mp} {w:World} {A:MR} {K:LN} {C f:Addr} {R:Q9->LU->Prop} {h:Heap} {g:Array PQ} {d:Drawn} {t:Nat} {os:OsState}
end
section
variable {prog:Mp} {w:World} {A:MR} {E:Value->LU->Prop} {s:LU} {K:LN} {C x f:Addr} {name:Str} {v:Value}
end
def LH (dx:Addr) (fs:List (Str×V)) (h:Heap):Prop:=∃ mA,h.Ns1 dx mA/\∀ f,jg (fs.lookup f) (mA f)
abbrev xdO (dx:Addr) (fs:List (Str×V)):HO:=.ext (LH dx fs)
section
variable {X:Cx} {pins:List (Addr×Obj)} {σ:St} {H:Hp} {s:LU} {a C i dx:Addr} {fs:List (Str×V)} {f:Str} {y:V} {u:Value} {A:MR} {E:Value->LU->Prop}
end
section
variable {prog:Mp} {w:World} {A:MR} {E:Value->LU->Prop} {s:LU} {env:Env} {C:Addr} {Q:Flow->LU->Prop}
end
section
variable {X:Cx} {pins:List (Addr×Obj)} {σ:St} {H:Hp} {s:LU} {E:XK} {C:Addr}
end
section
open PySem.Calls PySem.Builtin PySem.Builtin.ObjectAttr
variable {prog:Mp} {w:World} {A:MR} {E:Value->LU->Prop} {K:LN} {x C dx:Addr} {di:Option Addr} {h:Heap} {g:Array PQ} {d:Drawn} {t:Nat} {os:OsState} {name:Str} {v:Value} {mA:Str->Option Value}
end
section
variable {K:LN} {σ:St} {H:Hp} {Q:VK} {D:Ends} {ta tv:TE} {tA:TA} {f:Str} {E:XK} {C:Addr} {sp:Sp}
end
def Fld (H:Hp) (d:Option Addr) (l:List (Str×V)):Prop:=∃ dx fs,d=some dx/\H dx=some (xdO dx fs)/\∀ p∈l,fs.lookup p.1=some p.2
theorem Fld.mono {H H':Hp} {d:Option Addr} {l:List (Str×V)} (s:ai H H'):Fld H d l->Fld H' d l
 | ⟨dx,fs,e,h,k⟩=>⟨dx,fs,e,s _ _ h,k⟩
def flagsOf (K:LN) (C:Addr) (Ds:List Addr):List (Option Bool):=Ds.map fun D=>MH K (.ref C) (.ref D)
def j6 (n k:Nat):List Bool:=(LZ n).map fun i=>decide (i=k)
section
variable {P:Mp} {w:World} {K:LN} {mg:Str->Option Value} {base:Heap} {x qual:Str} {st:Stmt} {f:Addr} {fd:MZ} {N ps:List Str} {k:Nat} {sp:Sp}
end
section
variable {X:Cx} {x y:Str} {st:Stmt} {ps:List Str} {k j:Nat} {sp:Sp} {p pos:Pos} {e:Expr} {es:List Expr} {t:TA} {E:XK}
end
theorem aI.orR {P:Mp} {w:World} {K:LN} {mg:Str->Option Value} {base:Heap} {k:Nat} {f:Addr} {fd:MZ} {ps:List Str} {sp1 sp2:Sp} (F1:aI P w K mg base (CXR P w) k f fd ps sp1) (F2:aI P w K mg base (CXR P w) k f fd ps sp2):aI P w K mg base (CXR P w) k f fd ps (fun vs H Q E=>sp1 vs H Q E\/sp2 vs H Q E) :=
 ⟨fun vs H Q E h=>h.elim (F1.len vs H Q E) (F2.len vs H Q E),fun A outer s H args us vs Q E hr he hb hv h=>h.elim (F1.run A outer s H args us vs Q E hr he hb hv) (F2.run A outer s H args us vs Q E hr he hb hv)⟩
section
variable {prog:Mp} {w:World} {A:MR} {R:Q9->LU->Prop} {s:LU}
end
section
variable {X:Cx} {scope:Scope} {own:List Str} {fr fp:List Addr} {C:Addr} {s₂:LU} {H₂:Hp} {E:XK} {pins:List (Addr×Obj)} {σ:St}
end
section
variable {X:Cx} {elt tg iter:Expr} {ifs:List Expr} {scope:Scope} {pos:Pos} {own:List Str} {fr:List Nat} {wi:TI} {g:TG} {tt:TT} {te:TE}
end
end L2
set_option maxHeartbeats 4000000
namespace TB
open PySem L2
seal PE PA PS PSs PT PI PG PGs PO
local macro_rules | `(tactic| walk_at "rd1")=>`(tactic| with_reducible first
 | refine vo (fun _ _=>?_)|refine sL (by assumption) ?_|refine vy ?_|refine zw ?_|refine sN ?_|refine vZ ?_|refine zN ?_|refine r_retN ?_|refine IE ?_
 | refine r_C ?_|refine C3 ?_|refine Dl ?_|refine zF ?_|refine v7 ?_|refine vB ?_|refine vq ?_|refine DI ?_|refine DQ ?_
 | refine zH ?_|refine Ec ?_|refine zp ?_|refine wO ?_|refine zx ?_|refine r_notV ?_|refine r_if ?_|refine zC ?_|refine ve ?_|refine CU ?_|refine wV ?_|refine eQ ?_|refine mO ?_
 | refine zD ?_|refine uj ?_|refine ug ?_|refine v8 ?_|refine D8 ?_|refine qP ?_|refine vE ?_|refine vT ?_|refine Dn ?_|refine zo ?_|refine vK ?_|refine vJ ?_|refine zG ?_|refine wG ?_|refine vp ?_|refine tY ?_
 | refine zu ?_|refine vY ?_|refine wu ?_|refine vc ?_|(refine' zB ?e ?_;(case e=>with_unfolding_all exact rfl)))
local macro_rules | `(tactic| walk_at "rs1")=>`(tactic| with_reducible first
 | refine vo (fun _ _=>?_)|refine sL (by assumption) ?_|refine vy ?_|refine zw ?_|refine sN ?_|refine vZ ?_|refine zN ?_|refine r_retN ?_
 | refine r_C ?_|refine C3 ?_|refine Dl ?_|refine zF ?_|refine v7 ?_|refine vB ?_|refine vq ?_|refine DI ?_|refine DQ ?_
 | refine zH ?_|refine Ec ?_|refine zp ?_|refine wO ?_|refine zx ?_|refine r_notV ?_|refine r_if ?_|refine zC ?_|refine ve ?_|refine CU ?_|refine wV ?_|refine eQ ?_|refine mO ?_
 | refine zD ?_|refine uj ?_|refine ug ?_|refine v8 ?_|refine D8 ?_|refine qP ?_|refine vE ?_|refine vT ?_|refine Dn ?_|refine zo ?_|refine vK ?_|refine vJ ?_|refine zG ?_|refine wG ?_|refine vp ?_|refine tY ?_
 | refine zu ?_|refine vY ?_|refine wu ?_|refine vc ?_|(refine' zB ?e ?_;(case e=>with_unfolding_all exact rfl)))
local macro_rules | `(tactic| walk_at "rs")=>`(tactic| repeat walk_at "rs1")
local macro_rules | `(tactic| walk_at "rd")=>`(tactic| repeat walk_at "rd1")
local macro_rules | `(tactic| walk_at "rw1")=>`(tactic| with_reducible first
 | refine vo (fun _ _=>?_)|refine sL (by assumption) ?_|refine vy ?_|refine zw ?_|refine sN ?_|refine vZ ?_|refine zN ?_|refine r_retN ?_
 | refine r_C ?_|refine C3 ?_|refine Dl ?_|refine zF ?_|refine v7 ?_|refine vB ?_|refine vq ?_|refine DI ?_|refine DQ ?_
 | refine zH ?_|refine Ec ?_|refine zp ?_|refine wO ?_|refine zx ?_|refine r_notV ?_|refine r_if ?_|refine zC ?_|refine ve ?_|refine CU ?_|refine wV ?_
 | refine zD ?_|refine uj ?_|refine ug ?_|refine v8 ?_|refine D8 ?_|refine qP ?_|refine vE ?_|refine vT ?_|refine Dn ?_|refine zo ?_|refine vK ?_|refine vJ ?_|refine zG ?_|refine wG ?_|refine vp ?_|refine tY ?_
 | refine zu ?_|refine vY ?_|refine wu ?_|refine vc ?_|(refine' zB ?e ?_;(case e=>with_unfolding_all exact rfl)))
local macro_rules | `(tactic| walk_at "rw")=>`(tactic| repeat walk_at "rw1")
local macro_rules | `(tactic| walk_at "wr")=>`(tactic| repeat (first|exact mW|refine ya ?_ ?_|refine Gj ?_ (by decide)|exact FA rfl))
local macro_rules | `(tactic| walk_at "rn1")=>`(tactic| with_reducible first
 | refine vo (fun _ _=>?_)|refine sL (by assumption) ?_|refine vy ?_|refine zw ?_|refine sN ?_|refine vZ ?_|refine zN ?_|refine r_retN ?_
 | refine Lz ?_|refine r_C ?_|refine C3 ?_|refine Dl ?_|refine LF ?_|refine Kh ?_|refine La ?_|refine Ln ?_|refine K4 ?_|refine r_leN ?_|refine Lo ?_|refine Ld ?_
 | refine Al (by first|assumption|omega) ?_|refine qm (by first|assumption|omega) (by first|assumption|omega) ?_|refine KC (by omega) ?_
 | refine zF ?_|refine v7 ?_|refine vB ?_|refine vq ?_|refine DI ?_|refine DQ ?_
 | refine zH ?_|refine Ec ?_|refine zp ?_|refine wO ?_|refine zx ?_|refine r_notV ?_|refine r_if ?_|refine zC ?_|refine ve ?_|refine CU ?_|refine wV ?_
 | refine zD ?_|refine uj ?_|refine ug ?_|refine v8 ?_|refine D8 ?_|refine qP ?_|refine vE ?_|refine vT ?_|refine Dn ?_|refine r_bm0 ?_|refine zo ?_|refine vK ?_|refine vJ ?_|refine zG ?_|refine wG ?_|refine vp ?_|refine tY ?_
 | refine zu ?_|refine vY ?_|refine wu ?_|refine vc ?_|(refine' zB ?e ?_;(case e=>with_unfolding_all exact rfl)))
local macro_rules | `(tactic| walk_at "rx1")=>`(tactic| first|walk_at "rn1" | refine bG (by assumption) (by rfl) ?_|refine dD (by assumption) ?_|refine KG (by assumption) ?_|refine Jo (by assumption) ?_)
local macro_rules | `(tactic| walk_at "rx")=>`(tactic| repeat walk_at "rx1")
local macro_rules | `(tactic| walk_at "ifs")=>`(tactic| with_reducible refine IE ?_)
local macro_rules | `(tactic| walk_at "rn")=>`(tactic| repeat walk_at "rn1")
local macro_rules | `(tactic| walk_at "1") => `(tactic| (walk_at "rn";walk_at "ifs";walk_at "rn"))
local macro_rules | `(tactic| walk_at "2") => `(tactic| (walk_at "rx";walk_at "ifs";walk_at "rx"))
local macro_rules | `(tactic| walk_at "3") => `(tactic| (walk_at "rx";refine eQ ?_;walk_at "rx"))
local macro_rules | `(tactic| walk_at "4") => `(tactic| (walk_at "rn";refine eQ ?_;walk_at "rn"))
local macro_rules | `(tactic| walk_at "5") => `(tactic| (walk_at "rn";refine mO ?_;walk_at "rn"))
local macro_rules | `(tactic| walk_at "6") => `(tactic| (walk_at "rn";refine pM ?_;walk_at "rn"))
local macro_rules | `(tactic| walk_at "7") => `(tactic| (walk_at "rg";walk_at "ifs";walk_at "rg"))
local macro_rules | `(tactic| walk_at "8") => `(tactic| (walk_at "rn";refine bX (fun c=>absurd rfl c) (fun _=>?_);walk_at "rn"))
local macro_rules | `(tactic| walk_at "9") => `(tactic| (walk_at "rn";refine eR ?_;walk_at "rn"))
local macro_rules | `(tactic| walk_at "10") => `(tactic| (refine eR ?_;walk_at "rx"))
local macro_rules | `(tactic| walk_at "11") => `(tactic| (walk_at "ifs";walk_at "rn"))
def top (i:Nat):Stmt:=PySem.Challenge.pw_tracebook_k47_ways_that_do_not_go_togeth.main.body.getD i (.Pass ⟨0,0,0,0⟩)
abbrev iw:Stmt:=top 21
abbrev gJ:Stmt:=top 22
abbrev dv:Stmt:=top 23
abbrev kN:Stmt:=top 24
abbrev hV:Stmt:=top 25
abbrev ik:Stmt:=top 26
abbrev kW:Stmt:=top 27
abbrev dE:Stmt:=top 28
abbrev nD:Stmt:=top 29
abbrev kG:Stmt:=top 30
abbrev hX:Stmt:=top 32
abbrev kX:Stmt:=top 33
abbrev fJ:Stmt:=top 34
abbrev mq:Stmt:=top 35
abbrev dF:Stmt:=top 36
abbrev kL:Stmt:=top 37
abbrev jv:Stmt:=top 38
abbrev eD:Stmt:=top 39
abbrev lX:Stmt:=top 40
abbrev fm:Stmt:=top 43
abbrev kQ:Stmt:=top 45
abbrev eI:Stmt:=top 46
abbrev fS:Stmt:=top 47
abbrev iS:Stmt:=top 48
abbrev fQ:Stmt:=top 51
abbrev fj:Stmt:=top 52
abbrev fD:Stmt:=top 55
abbrev kE:Stmt:=top 57
abbrev mn:Stmt:=top 59
abbrev fv:Stmt:=top 61
abbrev jU:Stmt:=top 63
abbrev iT:Stmt:=top 64
abbrev jH:Stmt:=top 65
abbrev jT:Stmt:=top 66
abbrev gR:Stmt:=top 67
abbrev kK:Stmt:=top 68
abbrev ij:Stmt:=top 69
abbrev iV:Stmt:=top 70
abbrev eZ:Stmt:=top 71
abbrev jr:Stmt:=top 72
abbrev iR:Stmt:=top 73
abbrev gK:Stmt:=top 74
abbrev eY:Stmt:=top 75
abbrev eA:Stmt:=top 76
abbrev gk:Stmt:=top 77
abbrev i4:Stmt:=top 78
abbrev ix:Stmt:=top 79
abbrev gA:Stmt:=top 80
abbrev fk:Stmt:=top 81
abbrev jF:Stmt:=top 82
abbrev gW:Stmt:=top 83
abbrev dZ:Stmt:=top 84
abbrev lh:Stmt:=top 85
abbrev iZ:Stmt:=top 86
abbrev ee:Stmt:=top 87
abbrev lC:Stmt:=top 88
abbrev jz:Stmt:=inClass (top 13) 0
abbrev g0:Stmt:=inClass (top 20) 0
abbrev jD:Stmt:=inClass (top 53) 0
abbrev iW:Stmt:=inClass (top 53) 1
abbrev eE:Stmt:=inClass (top 54) 0
abbrev ei:Stmt:=inClass (top 56) 0
abbrev dM:Stmt:=inClass (top 58) 0
abbrev ef:Stmt:=inClass (top 60) 0
theorem mP:aK ["table","rows","unit","backs"] ["table"] (af iw):=⟨rfl,rfl,rfl,by trivial,rfl,by trivial,by trivial⟩
theorem m9:aK ["rows","many","row"] ["rows"] (af gJ):=⟨rfl,rfl,rfl,by trivial,rfl,by trivial,by trivial⟩
theorem fY:aK ["rows","many","row","column"] ["rows"] (af dv):=⟨rfl,rfl,rfl,by trivial,rfl,by trivial,by trivial⟩
theorem wN:aK ["rows","thing"] ["rows"] (af kN):=⟨rfl,rfl,rfl,by trivial,rfl,by trivial,by trivial⟩
theorem rR:aK ["rows","thing","other"] ["rows","thing"] (af hV):=⟨rfl,rfl,rfl,by trivial,rfl,by trivial,by trivial⟩
theorem Cc:aK ["rows","unit"] ["rows","unit"] (af ik):=⟨rfl,rfl,rfl,by trivial,rfl,by trivial,by trivial⟩
theorem vO:aK ["rows","unit","thing","other"] ["rows","unit","thing"] (af kW):=⟨rfl,rfl,rfl,by trivial,rfl,by trivial,by trivial⟩
theorem eK:aK ["rows","many","one","two","three"] ["rows"] (af dE):=⟨rfl,rfl,rfl,by trivial,rfl,by trivial,by trivial⟩
theorem nL:aK ["group","thing","many","reached"] ["group","thing"] (af nD):=⟨rfl,rfl,rfl,by trivial,rfl,by trivial,by trivial⟩
theorem qK:aK ["group","orders","many"] ["group"] (af kG):=⟨rfl,rfl,rfl,by trivial,rfl,by trivial,by trivial⟩
theorem rY:aK ["group","some"] ["group","some"] (af hX):=⟨rfl,rfl,rfl,by trivial,rfl,by trivial,by trivial⟩
theorem wy:aK ["group","some"] ["group","some"] (af kX):=⟨rfl,rfl,rfl,by trivial,rfl,by trivial,by trivial⟩
theorem rS:aK ["group","some"] ["group","some"] (af fJ):=⟨rfl,rfl,rfl,by trivial,rfl,by trivial,by trivial⟩
theorem AQ:aK ["some"] ["some"] (af mq):=⟨rfl,rfl,rfl,by trivial,rfl,by trivial,by trivial⟩
theorem dz:aK ["group","some","one","other"] ["group","some"] (af dF):=⟨rfl,rfl,rfl,by trivial,rfl,by trivial,by trivial⟩
theorem Aq:aK ["group","part","by_thing"] ["group","part"] (af kL):=⟨rfl,rfl,rfl,by trivial,rfl,by trivial,by trivial⟩
theorem DZ:aK ["group","part","thing"] ["group","part","thing"] (af jv):=⟨rfl,rfl,rfl,by trivial,rfl,by trivial,by trivial⟩
theorem yc:aK ["group","part"] ["group","part"] (af eD):=⟨rfl,rfl,rfl,by trivial,rfl,by trivial,by trivial⟩
theorem Aj:aK ["group","part"] ["group","part"] (af lX):=⟨rfl,rfl,rfl,by trivial,rfl,by trivial,by trivial⟩
theorem oJ:aK ["many"] ["many"] (af fm):=⟨rfl,rfl,rfl,by trivial,rfl,by trivial,by trivial⟩
theorem nu:aK ["group","spokes","least"] ["group","spokes"] (af kQ):=⟨rfl,rfl,rfl,by trivial,rfl,by trivial,by trivial⟩
theorem xc:aK ["part","marks","spokes"] ["part","marks","spokes"] (af eI):=⟨rfl,rfl,rfl,by trivial,rfl,by trivial,by trivial⟩
theorem gL:aK ["group","part","marks","spokes","many","mark","one","other"] ["group","part","marks","spokes"] (af fS):=⟨rfl,rfl,rfl,by trivial,rfl,by trivial,by trivial⟩
theorem sV:aK ["group","part","marks","spokes","found"] ["group","part","marks","spokes"] (af iS):=⟨rfl,rfl,rfl,by trivial,rfl,by trivial,by trivial⟩
theorem p8:aK ["one","other"] ["one","other"] (af fQ):=⟨rfl,rfl,rfl,by trivial,rfl,by trivial,by trivial⟩
theorem oI:aK ["many"] ["many"] (af fj):=⟨rfl,rfl,rfl,by trivial,rfl,by trivial,by trivial⟩
theorem eG:aK ["group","part","carriers","found","number","carrier","k","thing"] ["group","part"] (af fD):=⟨rfl,rfl,rfl,by trivial,rfl,by trivial,by trivial⟩
theorem ES:aK ["moves","many"] ["moves","many"] (af kE):=⟨rfl,rfl,rfl,by trivial,rfl,by trivial,by trivial⟩
theorem kT:aK ["moves","others","spokes","found","place","spoke","further","more"] ["moves","others","spokes"] (af mn):=⟨rfl,rfl,rfl,by trivial,rfl,by trivial,by trivial⟩
theorem i6:aK ["moves","way","found","number","k"] ["moves","way"] (af fv):=⟨rfl,rfl,rfl,by trivial,rfl,by trivial,by trivial⟩
theorem BR:aK ["_law_script","_law_k"] ["_law_script","_law_k"] (af jU):=⟨rfl,rfl,rfl,by trivial,rfl,by trivial,by trivial⟩
theorem cP:aK ["_law_one_here","_law_two","_law_number","_law_some","_law_top","_law_steps","_law_room","_law_first","_law_second","_law_third"] ["_law_one_here","_law_two"] (af iT):=⟨rfl,rfl,rfl,by trivial,rfl,by trivial,by trivial⟩
theorem uC:aK ["_law_sizes_here","_law_number","_law_kinds"] ["_law_sizes_here","_law_number"] (af jH):=⟨rfl,rfl,rfl,by trivial,rfl,by trivial,by trivial⟩
theorem gv:aK ["_law_many","_law_steps","_law_number","_law_units","_law_u","_law_found","_law_k"] ["_law_many","_law_steps","_law_number"] (af jT):=⟨rfl,rfl,rfl,by trivial,rfl,by trivial,by trivial⟩
theorem cI:aK ["_law_place","_law_sizes_here","_law_kind_here","_law_units","_law_x","_law_y","_law_w"] ["_law_place","_law_sizes_here","_law_kind_here","_law_units"] (af gR):=⟨rfl,rfl,rfl,by trivial,rfl,by trivial,by trivial⟩
theorem lR:aK ["_law_one_here","_law_other","_law_sizes_here","_law_both_here","_law_x","_law_y","_law_w"] ["_law_one_here","_law_other","_law_sizes_here"] (af kK):=⟨rfl,rfl,rfl,by trivial,rfl,by trivial,by trivial⟩
theorem cG:aK ["_law_sizes_here","_law_turn","_law_end","_law_calm","_law_rows_here","_law_led","_law_i","_law_one_here","_law_row","_law_j","_law_other","_law_place"] ["_law_sizes_here","_law_turn","_law_end"] (af ij):=⟨rfl,rfl,rfl,by trivial,rfl,by trivial,by trivial⟩
theorem lD:aK ["_law_many","_law_number","_law_names_here","_law_k"] ["_law_many","_law_number"] (af iV):=⟨rfl,rfl,rfl,by trivial,rfl,by trivial,by trivial⟩
theorem bx:aK ["_law_script","_law_start","_law_one_here","_law_two","_law_sizes_here","_law_stirred","_law_kind_here","_law_units","_law_k","_law_calm","_law_turn","_law_end","_law_rows_here","_law_names_here","_law_row","_law_table","_law_a","_law_b","_law_thing_here"] ["_law_script","_law_start"] (af eZ):=⟨rfl,rfl,rfl,by trivial,rfl,by trivial,by trivial⟩
theorem Dt:aK ["_law_table"] ["_law_table"] (af jr):=⟨rfl,rfl,rfl,by trivial,rfl,by trivial,by trivial⟩
theorem sS:aK ["_law_cell_here","_law_k","_law_many","_law_number"] ["_law_cell_here","_law_k","_law_many"] (af iR):=⟨rfl,rfl,rfl,by trivial,rfl,by trivial,by trivial⟩
theorem fN:aK ["_law_table","_law_some","_law_found","_law_at","_law_one_here","_law_thing_here"] ["_law_table","_law_some"] (af gK):=⟨rfl,rfl,rfl,by trivial,rfl,by trivial,by trivial⟩
theorem gN:aK ["_law_table","_law_one_here","_law_powers","_law_many"] ["_law_table"] (af eY):=⟨rfl,rfl,rfl,by trivial,rfl,by trivial,by trivial⟩
theorem pI:aK ["_law_table","_law_some","_law_one_here"] ["_law_table","_law_some"] (af eA):=⟨rfl,rfl,rfl,by trivial,rfl,by trivial,by trivial⟩
theorem ow:aK ["_law_table","_law_part","_law_rows_here","_law_one_here"] ["_law_table","_law_part"] (af gk):=⟨rfl,rfl,rfl,by trivial,rfl,by trivial,by trivial⟩
theorem jb:aK ["_law_met_here","_law_flags_here"] ["_law_met_here"] (af i4):=⟨rfl,rfl,rfl,by trivial,rfl,by trivial,by trivial⟩
theorem pe:aK ["_law_met_here","_law_name","_law_names_here","_law_due"] ["_law_met_here","_law_name"] (af ix):=⟨rfl,rfl,rfl,by trivial,rfl,by trivial,by trivial⟩
theorem dU:aK ["_law_group_here","_law_spokes","_law_size","_law_part","_law_double","_law_made"] ["_law_group_here","_law_spokes","_law_size"] (af gA):=⟨rfl,rfl,rfl,by trivial,rfl,by trivial,by trivial⟩
theorem lP:aK ["_law_cell_here","_law_one_here","_law_near"] ["_law_cell_here"] (af fk):=⟨rfl,rfl,rfl,by trivial,rfl,by trivial,by trivial⟩
theorem B2:aK ["_law_first","_law_second","_law_way"] ["_law_first","_law_second","_law_way"] (af jF):=⟨rfl,rfl,rfl,by trivial,rfl,by trivial,by trivial⟩
theorem kh:aK ["_law_one_here","_law_other","_law_way","_law_caught","e"] ["_law_one_here","_law_other","_law_way"] (af gW):=⟨rfl,rfl,rfl,by trivial,rfl,by trivial,by trivial⟩
theorem iq:aK ["_law_group_here","_law_part","_law_way","_law_caught","e"] ["_law_group_here","_law_part","_law_way"] (af dZ):=⟨rfl,rfl,rfl,by trivial,rfl,by trivial,by trivial⟩
theorem DL:aK ["_law_caught","_law_name"] ["_law_caught","_law_name"] (af lh):=⟨rfl,rfl,rfl,by trivial,rfl,by trivial,by trivial⟩
theorem jw:aK ["_law_ways","_law_told","_law_j","_law_k","_law_way","_law_caught"] ["_law_ways","_law_told"] (af iZ):=⟨rfl,rfl,rfl,by trivial,rfl,by trivial,by trivial⟩
theorem bp:aK ["_law_table","_law_other","_law_group_here","_law_second","_law_cell_here","_law_some","_law_part","_law_rows_here","_law_own","_law_spokes","_law_many","_law_size","_law_way","_law_due"] ["_law_table","_law_other","_law_group_here","_law_second","_law_cell_here"] (af ee):=⟨rfl,rfl,rfl,by trivial,rfl,by trivial,by trivial⟩
theorem jo:aK ["_law_script","_law_table","_law_other","_law_group_here","_law_second","_law_first","_law_spokes","_law_sizes_here","_law_ways","_law_told"] ["_law_script"] (af lC):=⟨rfl,rfl,rfl,by trivial,rfl,by trivial,by trivial⟩
theorem y8:aK ["self","rows","unit","backs"] ["self","rows","unit","backs"] (af g0):=⟨rfl,rfl,rfl,by trivial,rfl,by trivial,by trivial⟩
theorem B4:aK ["self","group","spokes","deeds"] ["self","group","spokes","deeds"] (af jD):=⟨rfl,rfl,rfl,by trivial,rfl,by trivial,by trivial⟩
theorem AS:aK ["self","thing"] ["self","thing"] (af iW):=⟨rfl,rfl,rfl,by trivial,rfl,by trivial,by trivial⟩
theorem qc:aK ["self","group","part","marks","spokes","deeds"] ["self","group","part","marks","spokes"] (af eE):=⟨rfl,rfl,rfl,by trivial,rfl,by trivial,by trivial⟩
theorem jC:aK ["self","one","other","deeds"] ["self","one","other"] (af ei):=⟨rfl,rfl,rfl,by trivial,rfl,by trivial,by trivial⟩
theorem i9:aK ["self","one","other","deeds"] ["self","one","other"] (af dM):=⟨rfl,rfl,rfl,by trivial,rfl,by trivial,by trivial⟩
theorem dI:aK ["self","group","part","way","spokes","deeds"] ["self","group","part","way"] (af ef):=⟨rfl,rfl,rfl,by trivial,rfl,by trivial,by trivial⟩
theorem rP:bu (af iw) ["table","rows","unit","backs"] { kind:=.function,names:=[(".0",.local),("row",.local),("list",.globalImplicit)],isGenerator:=false,isCoroutine:=false,more:=[] } ["row"] []:=⟨rfl,by trivial,by trivial,by trivial,by trivial,by trivial⟩
theorem r9:bu (af ik) ["rows","unit"] { kind:=.function,names:=[(".0",.local),("thing",.local),("back_of",.globalImplicit),("rows",.free),("unit",.free)],isGenerator:=false,isCoroutine:=false,more:=[] } ["thing"] [0,1]:=⟨rfl,by trivial,by trivial,by trivial,by trivial,by trivial⟩
theorem wc:bu (af kG) ["group","orders","many"] { kind:=.function,names:=[(".0",.local),("thing",.local),("order",.globalImplicit),("group",.free)],isGenerator:=false,isCoroutine:=false,more:=[] } ["thing"] [0]:=⟨rfl,by trivial,by trivial,by trivial,by trivial,by trivial⟩
theorem v3:bu (af kG) ["group","orders","many"] { kind:=.function,names:=[(".0",.local),("times",.local),("many",.free)],isGenerator:=false,isCoroutine:=false,more:=[] } ["times"] [2]:=⟨rfl,by trivial,by trivial,by trivial,by trivial,by trivial⟩
theorem i5:bu (af fJ) ["group","some"] { kind:=.function,names:=[(".0",.local),("number",.local),("group",.free)],isGenerator:=false,isCoroutine:=false,more:=[] } ["number"] [0]:=⟨rfl,by trivial,by trivial,by trivial,by trivial,by trivial⟩
theorem ng:bu (af mq) ["some"] { kind:=.function,names:=[(".0",.local),("place",.local),("some",.free)],isGenerator:=false,isCoroutine:=false,more:=[] } ["place"] [0]:=⟨rfl,by trivial,by trivial,by trivial,by trivial,by trivial⟩
theorem vz:bu (af kL) ["group","part","by_thing"] { kind:=.function,names:=[(".0",.local),("thing",.local),("side_of",.globalImplicit),("group",.free),("part",.free)],isGenerator:=false,isCoroutine:=false,more:=[] } ["thing"] [0,1]:=⟨rfl,by trivial,by trivial,by trivial,by trivial,by trivial⟩
theorem vL:bu (af kL) ["group","part","by_thing"] { kind:=.function,names:=[(".0",.local),("thing",.local),("side",.local)],isGenerator:=false,isCoroutine:=false,more:=[] } ["thing","side"] []:=⟨rfl,by trivial,by trivial,by trivial,by trivial,by trivial⟩
theorem sH:bu (af jv) ["group","part","thing"] { kind:=.function,names:=[(".0",.local),("other",.local),("group",.free),("thing",.free)],isGenerator:=false,isCoroutine:=false,more:=[] } ["other"] [0,2]:=⟨rfl,by trivial,by trivial,by trivial,by trivial,by trivial⟩
theorem oh:bu (af eD) ["group","part"] { kind:=.function,names:=[(".0",.local),("side",.local)],isGenerator:=false,isCoroutine:=false,more:=[] } ["side"] []:=⟨rfl,by trivial,by trivial,by trivial,by trivial,by trivial⟩
theorem vN:gE (af lX) ["group","part"] { kind:=.function,names:=[(".0",.local),("one",.cell),("group",.free),("part",.free)],isGenerator:=false,isCoroutine:=false,more:=[] } ["one"] [0,1]:=⟨rfl,by trivial,by trivial,by trivial,by trivial,by trivial⟩
theorem wI:bu { kind:=.function,names:=[(".0",.local),("one",.cell),("group",.cell),("part",.cell)],isGenerator:=false,isCoroutine:=false,more:=[] } ["one","group","part"] { kind:=.function,names:=[(".0",.local),("other",.local),("group",.free),("one",.free),("part",.free)],isGenerator:=false,isCoroutine:=false,more:=[] } ["other"] [1,0,2]:=⟨rfl,by trivial,by trivial,by trivial,by trivial,by trivial⟩
theorem nH:bu (af eI) ["part","marks","spokes"] { kind:=.function,names:=[(".0",.local),("mark",.local),("spokes",.free)],isGenerator:=false,isCoroutine:=false,more:=[] } ["mark"] [2]:=⟨rfl,by trivial,by trivial,by trivial,by trivial,by trivial⟩
theorem oV:gE (af fD) ["group","part","carriers","found","number","carrier","k","thing"] { kind:=.function,names:=[(".0",.local),("row",.cell),("carriers",.free),("found",.free)],isGenerator:=false,isCoroutine:=false,more:=[] } ["row"] [2,3]:=⟨rfl,by trivial,by trivial,by trivial,by trivial,by trivial⟩
theorem oP:bu { kind:=.function,names:=[(".0",.local),("row",.cell),("carriers",.cell),("found",.cell)],isGenerator:=false,isCoroutine:=false,more:=[] } ["row","carriers","found"] { kind:=.function,names:=[(".0",.local),("carrier",.local),("found",.free),("row",.free)],isGenerator:=false,isCoroutine:=false,more:=[] } ["carrier"] [2,0]:=⟨rfl,by trivial,by trivial,by trivial,by trivial,by trivial⟩
theorem uA:bu (af kE) ["moves","many"] { kind:=.function,names:=[(".0",.local),("place",.local),("spoke",.local),("many",.free)],isGenerator:=false,isCoroutine:=false,more:=[] } ["place","spoke"] [1]:=⟨rfl,by trivial,by trivial,by trivial,by trivial,by trivial⟩
theorem si:bu (af ij) ["_law_sizes_here","_law_turn","_law_end","_law_calm","_law_rows_here","_law_led","_law_i","_law_one_here","_law_row","_law_j","_law_other","_law_place"] { kind:=.function,names:=[(".0",.local),("_law_place",.local),("_law_turn",.free)],isGenerator:=false,isCoroutine:=false,more:=[] } ["_law_place"] [1]:=⟨rfl,by trivial,by trivial,by trivial,by trivial,by trivial⟩
theorem pJ:bu (af eZ) ["_law_script","_law_start","_law_one_here","_law_two","_law_sizes_here","_law_stirred","_law_kind_here","_law_units","_law_k","_law_calm","_law_turn","_law_end","_law_rows_here","_law_names_here","_law_row","_law_table","_law_a","_law_b","_law_thing_here"] { kind:=.function,names:=[(".0",.local),("_law_place",.local),("_law_turned",.globalImplicit),("_law_kind_here",.free),("_law_sizes_here",.free),("_law_units",.free)],isGenerator:=false,isCoroutine:=false,more:=[] } ["_law_place"] [6,4,7]:=⟨rfl,by trivial,by trivial,by trivial,by trivial,by trivial⟩
theorem qb:bu (af eZ) ["_law_script","_law_start","_law_one_here","_law_two","_law_sizes_here","_law_stirred","_law_kind_here","_law_units","_law_k","_law_calm","_law_turn","_law_end","_law_rows_here","_law_names_here","_law_row","_law_table","_law_a","_law_b","_law_thing_here"] { kind:=.function,names:=[(".0",.local),("_law_row",.local),("list",.globalImplicit)],isGenerator:=false,isCoroutine:=false,more:=[] } ["_law_row"] []:=⟨rfl,by trivial,by trivial,by trivial,by trivial,by trivial⟩
theorem tL:bu (af jr) ["_law_table"] { kind:=.function,names:=[(".0",.local),("_law_thing_here",.local),("_law_table",.free)],isGenerator:=false,isCoroutine:=false,more:=[] } ["_law_thing_here"] [0]:=⟨rfl,by trivial,by trivial,by trivial,by trivial,by trivial⟩
theorem qa:bu (af eY) ["_law_table","_law_one_here","_law_powers","_law_many"] { kind:=.function,names:=[(".0",.local),("_law_end",.local),("_law_one_here",.free)],isGenerator:=false,isCoroutine:=false,more:=[] } ["_law_end"] [1]:=⟨rfl,by trivial,by trivial,by trivial,by trivial,by trivial⟩
theorem qg:bu (af eY) ["_law_table","_law_one_here","_law_powers","_law_many"] { kind:=.function,names:=[(".0",.local),("_law_thing_here",.local),("_law_powers",.free),("_law_table",.free)],isGenerator:=false,isCoroutine:=false,more:=[] } ["_law_thing_here"] [2,0]:=⟨rfl,by trivial,by trivial,by trivial,by trivial,by trivial⟩
theorem n5:bu (af eA) ["_law_table","_law_some","_law_one_here"] { kind:=.function,names:=[(".0",.local),("_law_other",.local),("_law_one_here",.free),("_law_some",.free),("_law_table",.free)],isGenerator:=false,isCoroutine:=false,more:=[] } ["_law_other"] [2,1,0]:=⟨rfl,by trivial,by trivial,by trivial,by trivial,by trivial⟩
theorem p6:bu (af gk) ["_law_table","_law_part","_law_rows_here","_law_one_here"] { kind:=.function,names:=[(".0",.local),("_law_other",.local),("_law_one_here",.free),("_law_part",.free),("_law_table",.free)],isGenerator:=false,isCoroutine:=false,more:=[] } ["_law_other"] [3,1,0]:=⟨rfl,by trivial,by trivial,by trivial,by trivial,by trivial⟩
theorem rX:bu (af ix) ["_law_met_here","_law_name","_law_names_here","_law_due"] { kind:=.function,names:=[(".0",.local),("_law_other",.local),("_law_name",.free)],isGenerator:=false,isCoroutine:=false,more:=[] } ["_law_other"] [1]:=⟨rfl,by trivial,by trivial,by trivial,by trivial,by trivial⟩
theorem qv:bu (af gA) ["_law_group_here","_law_spokes","_law_size","_law_part","_law_double","_law_made"] { kind:=.function,names:=[(".0",.local),("_law_thing_here",.local)],isGenerator:=false,isCoroutine:=false,more:=[] } ["_law_thing_here"] []:=⟨rfl,by trivial,by trivial,by trivial,by trivial,by trivial⟩
theorem nY:bu (af ee) ["_law_table","_law_other","_law_group_here","_law_second","_law_cell_here","_law_some","_law_part","_law_rows_here","_law_own","_law_spokes","_law_many","_law_size","_law_way","_law_due"] { kind:=.function,names:=[(".0",.local),("_law_k",.local),("_law_thing",.globalImplicit),("len",.globalImplicit),("_law_cell_here",.free),("_law_table",.free)],isGenerator:=false,isCoroutine:=false,more:=[] } ["_law_k"] [4,0]:=⟨rfl,by trivial,by trivial,by trivial,by trivial,by trivial⟩
theorem Bn:bu (af lC) ["_law_script","_law_table","_law_other","_law_group_here","_law_second","_law_first","_law_spokes","_law_sizes_here","_law_ways","_law_told"] { kind:=.function,names:=[(".0",.local),("_law_row",.local),("list",.globalImplicit)],isGenerator:=false,isCoroutine:=false,more:=[] } ["_law_row"] []:=⟨rfl,by trivial,by trivial,by trivial,by trivial,by trivial⟩
theorem Bc:bu (af lC) ["_law_script","_law_table","_law_other","_law_group_here","_law_second","_law_first","_law_spokes","_law_sizes_here","_law_ways","_law_told"] { kind:=.function,names:=[(".0",.local),("_law_row",.local),("list",.globalImplicit)],isGenerator:=false,isCoroutine:=false,more:=[] } ["_law_row"] []:=⟨rfl,by trivial,by trivial,by trivial,by trivial,by trivial⟩
theorem nU:bu (af eE) ["self","group","part","marks","spokes","deeds"] { kind:=.function,names:=[(".0",.local),("moves",.local),("marks",.free)],isGenerator:=false,isCoroutine:=false,more:=[] } ["moves"] [3]:=⟨rfl,by trivial,by trivial,by trivial,by trivial,by trivial⟩
theorem n6:bu { kind:=.function,names:=[(".0",.local),("moves",.local),("marks",.cell)],isGenerator:=false,isCoroutine:=false,more:=[] } ["moves","marks"] { kind:=.function,names:=[(".0",.local),("number",.local),("k",.local),("marks",.free)],isGenerator:=false,isCoroutine:=false,more:=[] } ["number","k"] [1]:=⟨rfl,by trivial,by trivial,by trivial,by trivial,by trivial⟩
theorem nR:bu (af ei) ["self","one","other","deeds"] { kind:=.function,names:=[(".0",.local),("thing",.local),("behind",.globalImplicit),("one",.free),("other",.free)],isGenerator:=false,isCoroutine:=false,more:=[] } ["thing"] [1,2]:=⟨rfl,by trivial,by trivial,by trivial,by trivial,by trivial⟩
theorem nc:bu (af dM) ["self","one","other","deeds"] { kind:=.function,names:=[(".0",.local),("thing",.local),("paired",.globalImplicit),("one",.free),("other",.free)],isGenerator:=false,isCoroutine:=false,more:=[] } ["thing"] [1,2]:=⟨rfl,by trivial,by trivial,by trivial,by trivial,by trivial⟩
theorem n9:bu (af ef) ["self","group","part","way","spokes","deeds"] { kind:=.function,names:=[(".0",.local),("moves",.local),("raised_moves",.globalImplicit),("way",.free)],isGenerator:=false,isCoroutine:=false,more:=[] } ["moves"] [3]:=⟨rfl,by trivial,by trivial,by trivial,by trivial,by trivial⟩
set_option genInjectivity false in
set_option genSizeOf false in
structure Txt (K:LN) (mg:Str->Option Value) where
 ir:Df K mg "group_of" iw ["table"]
 jf:Df K mg "check_size" gJ ["rows"]
 eN:Df K mg "check_strangers" dv ["rows"]
 m5:Df K mg "unit_of" kN ["rows"]
 jn:Df K mg "leaves_all" hV ["rows","thing"]
 lS:Df K mg "backs_of" ik ["rows","unit"]
 mU:Df K mg "back_of" kW ["rows","unit","thing"]
 fw:Df K mg "check_together" dE ["rows"]
 pG:Df K mg "order" nD ["group","thing"]
 nF:Df K mg "turns" kG ["group"]
 cF:Df K mg "check_part" hX ["group","some"]
 fU:Df K mg "is_part" kX ["group","some"]
 de:Df K mg "all_things" fJ ["group","some"]
 jS:Df K mg "rises" mq ["some"]
 cw:Df K mg "holds_products" dF ["group","some"]
 pZ:Df K mg "sides" kL ["group","part"]
 mZ:Df K mg "side_of" jv ["group","part","thing"]
 iF:Df K mg "carriers_of" eD ["group","part"]
 fq:Df K mg "inner" lX ["group","part"]
 cK:Df K mg "check_spokes" fm ["many"]
 cN:Df K mg "serving" kQ ["group","spokes"]
 iO:Df K mg "check_marks" eI ["part","marks","spokes"]
 iM:DfD K mg "first_break" fS ["group","part","marks","spokes"] "spokes" 3
 j8:Df K mg "check_way" iS ["group","part","marks","spokes"]
 bS:Df K mg "check_alike" fQ ["one","other"]
 bM:Df K mg "check_places" fj ["many"]
 gH:Df K mg "side_moves" fD ["group","part"]
 lY:Df K mg "behind" kE ["moves","many"]
 nM:Df K mg "paired" mn ["moves","others","spokes"]
 gP:Df K mg "raised_moves" fv ["moves","way"]
 cS:Df K mg "_law_cell" jU ["_law_script","_law_k"]
 j7:Df K mg "_law_sizes" iT ["_law_one_here","_law_two"]
 lu:Df K mg "_law_kind" jH ["_law_sizes_here","_law_number"]
 lB:Df K mg "_law_unit" jT ["_law_many","_law_steps","_law_number"]
 ju:Df K mg "_law_turned" gR ["_law_place","_law_sizes_here","_law_kind_here","_law_units"]
 lg:Df K mg "_law_sum" kK ["_law_one_here","_law_other","_law_sizes_here"]
 lH:Df K mg "_law_rows" ij ["_law_sizes_here","_law_turn","_law_end"]
 ka:Df K mg "_law_names" iV ["_law_many","_law_number"]
 iX:Df K mg "_law_group" eZ ["_law_script","_law_start"]
 kU:Df K mg "_law_one" jr ["_law_table"]
 jZ:Df K mg "_law_thing" iR ["_law_cell_here","_law_k","_law_many"]
 jx:Df K mg "_law_closed" gK ["_law_table","_law_some"]
 eX:Df K mg "_law_turns" eY ["_law_table"]
 iI:Df K mg "_law_is_part" eA ["_law_table","_law_some"]
 iY:Df K mg "_law_inner" gk ["_law_table","_law_part"]
 j9:Df K mg "_law_flags" i4 ["_law_met_here"]
 lE:Df K mg "_law_only" ix ["_law_met_here","_law_name"]
 gw:Df K mg "_law_sized" gA ["_law_group_here","_law_spokes","_law_size"]
 gM:Df K mg "_law_sizes_by" fk ["_law_cell_here"]
 lG:Df K mg "_law_both" jF ["_law_first","_law_second","_law_way"]
 jm:Df K mg "_law_paired" gW ["_law_one_here","_law_other","_law_way"]
 gj:Df K mg "_law_lifted_up" dZ ["_law_group_here","_law_part","_law_way"]
 kJ:Df K mg "_law_met" lh ["_law_caught","_law_name"]
 j5:Df K mg "_law_pairs" iZ ["_law_ways","_law_told"]
 iG:Df K mg "_law_raising" ee ["_law_table","_law_other","_law_group_here","_law_second","_law_cell_here"]
 zq:Df K mg "law" lC ["_law_script"]
 az:Addr
 ub:Addr
 t6:MZ
 kR:Cls K az
 Cp:mg "Group" = some (.ref az)
 Cj:Mk K az ub
 CD:Fun K "__init__" "Group.__init__" g0 ub t6
 CH:Binds K t6 ["self","rows","unit","backs"] []
 nG:bt K az "many"
 oi:bt K az "rows"
 oo:bt K az "unit"
 rT:bt K az "backs"
 iC:Addr
 wx:Addr
 zJ:MZ
 Lb:Cls K iC
 vP:mg "Way" = some (.ref iC)
 K6:Mk K iC wx
 IC:Fun K "__init__" "Way.__init__" jD wx zJ
 vt:Binds K zJ ["self","group","spokes","deeds"] []
 wL:Il K iC "__init__" wx
 Ca:bt K iC "group"
 Bl:bt K iC "spokes"
 C0:bt K iC "size"
 B6:bt K iC "deeds"
 dN:Addr
 mK:MZ
 Ce:Meth K iC "moves" dN
 uB:Fun K "moves" "Way.moves" iW dN mK
 iU:Binds K mK ["self","thing"] []
 bo:Addr
 rq:Addr
 mI:MZ
 nW:Cls K bo
 AJ:mg "Lifted" = some (.ref bo)
 zW:Mk K bo rq
 Aw:uX K "__init__" "Lifted.__init__" eE rq mI
 A2:Binds K mI ["self","group","part","marks","spokes"] []
 Gb:Binds K mI ["self","group","part","marks","spokes"] [.none]
 FT:Ak K mI ["self","group","part","marks","spokes"] ["spokes"] (byName 4) (byName 4)
 qe:Meth K bo "moves" dN
 rQ:bt K bo "part"
 pN:bt K bo "marks"
 qr:bt K bo "group"
 oU:bt K bo "spokes"
 sg:bt K bo "size"
 qd:bt K bo "deeds"
 bN:Addr
 jt:Addr
 jy:MZ
 uJ:Cls K bN
 rh:mg "Beside" = some (.ref bN)
 rH:Mk K bN jt
 qx:Fun K "__init__" "Beside.__init__" ei jt jy
 qY:Binds K jy ["self","one","other"] []
 pH:Meth K bN "moves" dN
 p9:bt K bN "group"
 oE:bt K bN "spokes"
 rW:bt K bN "size"
 pD:bt K bN "deeds"
 bU:Addr
 ic:Addr
 ie:MZ
 sO:Cls K bU
 yN:mg "Crossed" = some (.ref bU)
 yT:Mk K bU ic
 oK:Fun K "__init__" "Crossed.__init__" dM ic ie
 yH:Binds K ie ["self","one","other"] []
 oB:Meth K bU "moves" dN
 oC:bt K bU "group"
 n0:bt K bU "spokes"
 pQ:bt K bU "size"
 oH:bt K bU "deeds"
 cu:Addr
 ji:Addr
 je:MZ
 va:Cls K cu
 AG:mg "Raised" = some (.ref cu)
 AU:Mk K cu ji
 rA:Fun K "__init__" "Raised.__init__" ef ji je
 zX:Binds K je ["self","group","part","way"] []
 pR:Meth K cu "moves" dN
 qp:bt K cu "group"
 oG:bt K cu "spokes"
 rZ:bt K cu "size"
 pF:bt K cu "deeds"
 bR:Addr
 uH:mg "NoPart" = some (.ref bR)
 bB:Addr
 nA:mg "BadWheel" = some (.ref bB)
 cJ:Addr
 we:mg "BadMarks" = some (.ref cJ)
 bg:Addr
 qZ:mg "TooGreat" = some (.ref bg)
 ba:Addr
 lK:mg "OtherGroup" = some (.ref ba)
 bh:Addr
 nQ:mg "OtherWheel" = some (.ref bh)
 gm:Addr
 o6:mg "BookError" = some (.ref gm)
 cQ:Addr
 uz:mg "NotSteady" = some (.ref cQ)
 fI:Addr
 Br:mg "NoMove" = some (.ref fI)
 dP:Addr
 yi:mg "NotKept" = some (.ref dP)
 dS:Addr
 yk:mg "BadSize" = some (.ref dS)
 dj:Addr
 wR:mg "Stranger" = some (.ref dj)
 fC:Addr
 z6:mg "NoUnit" = some (.ref fC)
 fH:Addr
 AX:mg "NoBack" = some (.ref fH)
 cz:Addr
 rV:mg "NotTogether" = some (.ref cz)
 dG:Addr
 xp:Addr
 xb:MZ
 Cf:mg "NoWay" = some (.ref dG)
 Jp:LM K dG xp
 IW:Fun K "__init__" "NoWay.__init__" jz xp xb
 Jq:Binds K xb ["self","one","two"] []
 BG:bt K dG "one"
 BN:bt K dG "two"
 mB:Nf K bR bmV kA=true
 lZ:cb K bR
 iu:Nf K bB bmV kA=true
 jJ:cb K bB
 lO:Nf K cJ bmV kA=true
 lQ:cb K cJ
 pE:cb K dG
 w_get:OV K (.builtin "object.__class__") "__get__" = some (some (.builtin "getset_descriptor.__get__"))
 vk:RF K (.builtin "object.__class__")=some true
 pK:L4 K (.ref bU) "__class__" = some (some (.builtin "object.__class__"))
 pX:N3 K bU (.type "object")=some true
 pT:MH K (.ref bU) (.ref iC)=some true
 pz:L4 K (.ref bo) "__class__" = some (some (.builtin "object.__class__"))
 pY:N3 K bo (.type "object")=some true
 pV:MH K (.ref bo) (.ref iC)=some true
 pW:L4 K (.ref bN) "__class__" = some (some (.builtin "object.__class__"))
 pA:N3 K bN (.type "object")=some true
 qu:MH K (.ref bN) (.ref iC)=some true
 qt:L4 K (.ref cu) "__class__" = some (some (.builtin "object.__class__"))
 qf:N3 K cu (.type "object")=some true
 qj:MH K (.ref cu) (.ref iC)=some true
 jV:Nf K bg bmV kA=true
 fF:Nf K ba bmV kA=true
 gU:cb K ba
 gX:Nf K bh bmV kA=true
 gQ:cb K bh
 jO:cb K bg
 mC:M6 K (.ref bR) (.ref gm)=some true
 jR:M6 K (.ref bB) (.ref gm)=some true
 dR:M6 K (.ref ba) (.ref gm)=some true
 fA:M6 K (.ref bh) (.ref gm)=some true
 gh:M6 K (.ref bg) (.ref gm)=some true
 mh:MH K (.ref bR) (.type "ValueError")=some true
 jK:MH K (.ref bB) (.type "ValueError")=some true
 gS:MH K (.ref ba) (.type "ValueError")=some true
 gD:MH K (.ref bh) (.type "ValueError")=some true
 jI:MH K (.ref bg) (.type "ValueError")=some true
 mG:flagsOf K bR [bR,cQ,bB,fI,cJ,dG,ba,bh,bg,dP,dS,dj,fC,fH,cz]=(j6 15 0).map some
 jM:flagsOf K bB [bR,cQ,bB,fI,cJ,dG,ba,bh,bg,dP,dS,dj,fC,fH,cz]=(j6 15 2).map some
 gY:flagsOf K ba [bR,cQ,bB,fI,cJ,dG,ba,bh,bg,dP,dS,dj,fC,fH,cz]=(j6 15 6).map some
 g8:flagsOf K bh [bR,cQ,bB,fI,cJ,dG,ba,bh,bg,dP,dS,dj,fC,fH,cz]=(j6 15 7).map some
 jL:flagsOf K bg [bR,cQ,bB,fI,cJ,dG,ba,bh,bg,dP,dS,dj,fC,fH,cz]=(j6 15 8).map some
 iN:Tok
 eC:mg "MOST_PLACES" = some (.int 60 iN)
 iE:Tok
 eF:mg "MOST_SPOKES" = some (.int 60 iE)
 iK:Tok
 fO:mg "MOST_THINGS" = some (.int 23 iK)
 gG:mg "ValueError" = none
 lN:mg "all" = none
 qB:mg "any" = none
 qo:mg "dict" = none
 cY:mg "enumerate" = none
 bq:mg "isinstance" = none
 bI:mg "len" = none
 eM:mg "list" = none
 t7:mg "max" = none
 qA:mg "min" = none
 bj:mg "range" = none
 ue:mg "set" = none
 jq:mg "sorted" = none
 ud:mg "zip" = none
def tb (t:List (List Nat)) (i j:Nat):Nat:=(t.getD i []).getD j 0
structure Sq (n:Nat) (t:List (List Nat)):Prop where
 len:t.length=n
 pos:1<=n
 le:n<=23
 row:∀ (i:Nat) (r:List Nat),t[i]?=some r->r.length=n
structure Gd (n:Nat) (t:List (List Nat)):Prop extends Sq n t where
 lt:∀ i j,i<n->j<n->tb t i j<n
structure GT (n:Nat) (t:List (List Nat)) (e:Nat):Prop extends Gd n t where
 elt:e<n
 unl:∀ i,i<n->tb t e i=i
 unr:∀ i,i<n->tb t i e=i
 back:∀ i,i<n->∃ b,b<n/\tb t i b=e/\tb t b i=e
 assoc:∀ i j k,i<n->j<n->k<n->tb t (tb t i j) k=tb t i (tb t j k)
theorem Sq.get {n:Nat} {t:List (List Nat)} (s:Sq n t) {i:Nat} (h:i<n):t[i]?=some (t.getD i []):=by
 have hl:i<t.length:=by rw [s.len];exact h
 rw [L6,LO hl];simp
theorem Sq.eU {n:Nat} {t:List (List Nat)} (s:Sq n t) {i j:Nat} (h:i<n) (h':j<n):(t.getD i [])[j]?=some (tb t i j):=by
 have hr:(t.getD i []).length=n:=s.row i _ (s.get h);have hl:j<(t.getD i []).length:=by rw [hr];exact h'
 unfold tb;rw [L6 (l:=t.getD i []),LO hl];simp
def sX (n:Nat) (t:List (List Nat)) (x:Nat):Prop:=∀ o,o<n->tb t x o=o/\tb t o x=o
instance {n:Nat} {t:List (List Nat)} {x:Nat}:Decidable (sX n t x):=inferInstanceAs (Decidable (∀ o,o<n->tb t x o=o/\tb t o x=o))
theorem GT.qJ {n:Nat} {t:List (List Nat)} {e x:Nat} (g:GT n t e) (hx:x<n):sX n t x↔x=e:=by
 constructor
 ·intro h;have h1:=(h e g.elt).1;have h2:=g.unr x hx;rw [h2] at h1;exact h1
 ·rintro rfl o ho;exact ⟨g.unl o ho,g.unr o ho⟩
def bO (n:Nat) (t:List (List Nat)) (e a:Nat):Nat:=((LZ n).find? fun b=>decide (tb t a b=e/\tb t b a=e)).getD 0
theorem JN {n:Nat} {t:List (List Nat)} {e a b:Nat} (hb:b<n) (h:tb t a b=e/\tb t b a=e) (hn:∀ c,c<b->¬ (tb t a c=e/\tb t c a=e)):bO n t e a=b:=by
 unfold bO;have:(LZ n).find? (fun b=>decide (tb t a b=e/\tb t b a=e))=some b:=by
  rw [QG];refine ⟨by simpa using h,by simpa using hb,fun j hj=>?_⟩
  have:=hn j hj;simp only [PJ,decide_eq_false_iff_not];exact this
 rw [this];rfl
theorem GT.bk {n:Nat} {t:List (List Nat)} {e a:Nat} (g:GT n t e) (ha:a<n):bO n t e a<n/\tb t a (bO n t e a)=e/\tb t (bO n t e a) a=e:=by
 obtain ⟨b,hb,h⟩:=g.back a ha;unfold bO;cases q:(LZ n).find? (fun b=>decide (tb t a b=e/\tb t b a=e)) with
 | none =>
  rw [QI] at q;have:=q b hb;simp at this;exact this.elim (fun z=>absurd h.1 z) fun z=>absurd h.2 z
 | some c =>
  have h1:=List.find?_some q;have h2:=L9.mp (List.mem_of_find?_eq_some q);simp only [decide_eq_true_eq] at h1;exact ⟨h2,h1⟩
def bks (n:Nat) (t:List (List Nat)) (e:Nat):List Nat:=(LZ n).map (bO n t e)
def prd (t:List (List Nat)) (e:Nat) (l:List Nat):Nat:=l.foldl (tb t) e
theorem dH {β:Type} (f:Nat->β) (n i:Nat) (h:i<n):((LZ n).map f).take (i+1)=((LZ n).map f).take i++[f i]:=by
 rw [MG];simp [h]
def mkT (n:Nat) (f:Nat->Nat->Nat):List (List Nat):=(LZ n).map fun a=>(LZ n).map fun b=>f a b
theorem Kw {n:Nat} {f:Nat->Nat->Nat} {a b:Nat} (ha:a<n) (hb:b<n):tb (mkT n f) a b=f a b:=by
 unfold tb mkT;simp [L6,ha,hb]
theorem KS {n:Nat} {f:Nat->Nat->Nat} (h1:1<=n) (h2:n<=23):Sq n (mkT n f):=by
 refine ⟨by simp [mkT],h1,h2,fun i r h=>?_⟩
 have:r∈mkT n f:=LS h;unfold mkT at this;obtain ⟨a,_,rfl⟩:=Mg.mp this;simp
theorem FF {n:Nat} {f:Nat->Nat->Nat} {e:Nat} (h1:1<=n) (h2:n<=23) (lt:∀ a b,a<n->b<n->f a b<n) (elt:e<n) (unl:∀ a,a<n->f e a=a) (unr:∀ a,a<n->f a e=a)
  (back:∀ a,a<n->∃ b,b<n/\f a b=e/\f b a=e) (assoc:∀ a b c,a<n->b<n->c<n->f (f a b) c=f a (f b c)):GT n (mkT n f) e:=by
 have q:∀ {a b:Nat},a<n->b<n->tb (mkT n f) a b=f a b:=fun ha hb=>Kw ha hb;refine ⟨⟨KS h1 h2,fun i j hi hj=>by rw [q hi hj];exact lt i j hi hj⟩,elt,fun i hi=>by rw [q elt hi];exact unl i hi,fun i hi=>by rw [q hi elt];exact unr i hi,fun i hi=>?_,fun i j k hi hj hk=>?_⟩
 ·obtain ⟨b,hb,x,y⟩:=back i hi;exact ⟨b,hb,by rw [q hi hb];exact x,by rw [q hb hi];exact y⟩
 ·rw [q hi hj,q hj hk,q (lt i j hi hj) hk,q hi (lt j k hj hk)];exact assoc i j k hi hj hk
structure Ab (m:Nat) (ad:Nat->Nat->Nat):Prop where
 pos:0<m
 lt:∀ x y,x<m->y<m->ad x y<m
 assoc:∀ x y z,x<m->y<m->z<m->ad (ad x y) z=ad x (ad y z)
 comm:∀ x y,x<m->y<m->ad x y=ad y x
 zero:∀ x,x<m->ad x 0=x
 neg:∀ x,x<m->∃ y,y<m/\ad x y=0
structure Tn (m:Nat) (ad:Nat->Nat->Nat) (f:Nat->Nat) (s e:Nat):Prop extends Ab m ad where
 lV:0<s
 flt:∀ x,x<m->f x<m
 fad:∀ x y,x<m->y<m->f (ad x y)=ad (f x) (f y)
 per:∀ x,x<m->Nat.repeat f s x=x
 elt:e<m
 fe:f e=e
def tim (ad:Nat->Nat->Nat) (e:Nat):Nat->Nat
 | 0=>0
 | k+1=>ad (tim ad e k) e
def cyc (m:Nat) (ad:Nat->Nat->Nat) (f:Nat->Nat) (s e I J:Nat):Nat :=
 (let p:=ad (I % m) (Nat.repeat f (I / m) (J % m));if I / m+J / m >= s then ad p e else p)+m * ((I / m+J / m) % s)
section
variable {m:Nat} {ad:Nat->Nat->Nat} {f:Nat->Nat} {s e:Nat}
theorem iL (T:Tn m ad f s e):∀ (k:Nat) {x:Nat},x<m->Nat.repeat f k x<m
 | 0,_,h=>h
 | k+1,_,h=>T.flt _ (iL T k h)
theorem sW (T:Tn m ad f s e):∀ (k:Nat) {x y:Nat},x<m->y<m->Nat.repeat f k (ad x y)=ad (Nat.repeat f k x) (Nat.repeat f k y)
 | 0,_,_,_,_=>rfl
 | k+1,x,y,hx,hy=>by
  show f (Nat.repeat f k (ad x y))=ad (f (Nat.repeat f k x)) (f (Nat.repeat f k y));rw [sW T k hx hy,T.fad _ _ (iL T k hx) (iL T k hy)]
theorem Iq (T:Tn m ad f s e):∀ k:Nat,Nat.repeat f k e=e
 | 0=>rfl
 | k+1=>by show f (Nat.repeat f k e)=e;rw [Iq T k,T.fe]
theorem nC (f:Nat->Nat) (x:Nat):∀ i j:Nat,Nat.repeat f (i+j) x=Nat.repeat f i (Nat.repeat f j x)
 | 0,j=>by rw [Ou];rfl
 | i+1,j=>by
  have e:i+1+j=(i+j)+1:=by omega
  rw [e];show f (Nat.repeat f (i+j) x)=f (Nat.repeat f i (Nat.repeat f j x));rw [nC f x i j]
theorem JG (T:Tn m ad f s e) {x:Nat} (hx:x<m) {k:Nat} (hk:k<2 * s):Nat.repeat f (k % s) x=Nat.repeat f k x:=by
 have hs:=T.lV
 by_cases h:k<s
 ·rw [M8 h]
 ·have e1:k % s=k - s:=by rw [Nat.mod_eq_sub_mod (by omega),M8 (by omega)]
  have e2:k=(k - s)+s:=by omega
  rw [e1]
  conv=>rhs;rw [e2,nC,T.per x hx]
theorem fX (T:Tn m ad f s e):∀ k,tim ad e k<m
 | 0=>T.pos
 | k+1=>T.lt _ _ (fX T k) T.elt
theorem FL (T:Ab m ad) {x:Nat} (hx:x<m):ad 0 x=x:=by rw [T.comm 0 x T.pos hx,T.zero x hx]
theorem xQ (T:Tn m ad f s e):∀ i j,tim ad e (i+j)=ad (tim ad e i) (tim ad e j)
 | i,0=>by rw [OD];show _=ad _ 0;rw [T.zero _ (fX T i)]
 | i,j+1=>by
  show ad (tim ad e (i+j)) e=ad (tim ad e i) (ad (tim ad e j) e);rw [xQ T i j,T.assoc _ _ _ (fX T i) (fX T j) T.elt]
theorem xv (T:Tn m ad f s e) (k:Nat):∀ j,Nat.repeat f k (tim ad e j)=tim ad e j
 | 0=>by
  show Nat.repeat f k 0=0;have h0:Nat.repeat f k 0<m:=iL T k T.pos;have h1:ad (Nat.repeat f k 0) (Nat.repeat f k 0)=Nat.repeat f k 0:=by rw [<- sW T k T.pos T.pos,T.zero 0 T.pos]
  obtain ⟨y,hy,e1⟩:=T.neg _ h0;have h2:ad (ad (Nat.repeat f k 0) (Nat.repeat f k 0)) y=ad (Nat.repeat f k 0) y:=by rw [h1]
  rw [T.assoc _ _ _ h0 h0 hy,e1,T.zero _ h0] at h2;exact h2
 | j+1=>by
  show Nat.repeat f k (ad (tim ad e j) e)=ad (tim ad e j) e;rw [sW T k (fX T j) T.elt,xv T k j,Iq T k]
theorem mQ (T:Tn m ad f s e) {x y i j:Nat} (hx:x<m) (hy:y<m) (hi:i<s) (hj:j<s) :
  cyc m ad f s e (x+m * i) (y+m * j)=ad (ad x (Nat.repeat f i y)) (tim ad e ((i+j) / s))+m * ((i+j) % s):=by
 have hm:=T.pos;have d1:(x+m * i) / m=i:=by rw [NV _ _ hm,NF hx,Ou]
 have d2:(y+m * j) / m=j:=by rw [NV _ _ hm,NF hy,Ou]
 have r1:(x+m * i) % m=x:=by rw [NB,M8 hx]
 have r2:(y+m * j) % m=y:=by rw [NB,M8 hy]
 unfold cyc;rw [d1,d2,r1,r2];dsimp only;have hp:ad x (Nat.repeat f i y)<m:=T.lt _ _ hx (iL T i hy)
 by_cases h:i+j >= s
 ·have q:(i+j) / s=1:=by
   have:i+j=(i+j - s)+s * 1:=by omega
   rw [this,NV _ _ T.lV,NF (by omega)]
  rw [if_pos h,q];show _=ad _ (ad 0 e)+_;rw [FL T.toAb T.elt]
 ·have q:(i+j) / s=0:=NF (by omega)
  rw [if_neg h,q];show _=ad _ 0+_;rw [T.zero _ hp]
theorem dm (m:Nat) (I:Nat):I=I % m+m * (I / m):=(RL I m).symm
theorem Eo (T:Tn m ad f s e) {I J:Nat} (hI:I<m * s) (hJ:J<m * s):cyc m ad f s e I J<m * s:=by
 have hm:=T.pos;have hi:I / m<s:=Nn hI;have hj:J / m<s:=Nn hJ;rw [dm m I,dm m J,mQ T (My _ hm) (My _ hm) hi hj];have h1:ad (ad (I % m) (Nat.repeat f (I / m) (J % m))) (tim ad e ((I / m+J / m) / s))<m:=T.lt _ _ (T.lt _ _ (My _ hm) (iL T _ (My _ hm))) (fX T _);have h2:(I / m+J / m) % s<s:=My _ T.lV;have h3:m * ((I / m+J / m) % s)+m<=m * s:=by
  rw [<- OE];exact M5 _ h2
 omega
theorem tm (T:Tn m ad f s e) {I J L:Nat} (hI:I<m * s) (hJ:J<m * s) (hL:L<m * s):cyc m ad f s e (cyc m ad f s e I J) L=cyc m ad f s e I (cyc m ad f s e J L):=by
 have hm:=T.pos;have hi:I / m<s:=Nn hI;have hj:J / m<s:=Nn hJ;have hl:L / m<s:=Nn hL;rw [dm m I,dm m J,dm m L];generalize I / m=i at hi;generalize J / m=j at hj;generalize L / m=l at hl;have hx:I % m<m:=My _ hm;have hy:J % m<m:=My _ hm;have hz:L % m<m:=My _ hm;generalize I % m=x at hx;generalize J % m=y at hy;generalize L % m=z at hz;have hs:=T.lV;have hij:(i+j) % s<s:=My _ hs;have hjl:(j+l) % s<s:=My _ hs;have fy:=iL T i hy;have fz:=iL T j hz;have t1:=fX T ((i+j) / s);have t2:=fX T ((j+l) / s);have p1:ad x (Nat.repeat f i y)<m:=T.lt _ _ hx fy;have p2:ad y (Nat.repeat f j z)<m:=T.lt _ _ hy fz;rw [mQ T hx hy hi hj,mQ T hy hz hj hl,mQ T (T.lt _ _ p1 t1) hz hij hl,mQ T hx (T.lt _ _ p2 t2) hi hjl];have em:((i+j) % s+l) % s=(i+(j+l) % s) % s:=by rw [Nat.mod_add_mod,Po,Q3]
 have ed:(i+j) / s+((i+j) % s+l) / s=(j+l) / s+(i+(j+l) % s) / s:=by
  have a1:=OS (i+j) s;have a2:=OS (j+l) s;have a3:=OS ((i+j) % s+l) s;have a4:=OS (i+(j+l) % s) s;rw [em] at a3;have:s * ((i+j) / s+((i+j) % s+l) / s)=s * ((j+l) / s+(i+(j+l) % s) / s):=by
   rw [Q4,Q4];omega
  exact Nat.eq_of_mul_eq_mul_left hs this
 rw [em]
 congr 1
 have fz2:Nat.repeat f ((i+j) % s) z<m:=iL T _ hz;have efz:Nat.repeat f ((i+j) % s) z=Nat.repeat f i (Nat.repeat f j z):=by rw [JG T hz (by omega),nC]
 have fz3:Nat.repeat f i (Nat.repeat f j z)<m:=iL T i fz;rw [sW T i p2 t2,sW T i hy fz,xv T i,efz];have t3:=fX T (((i+j) % s+l) / s);have t4:=fX T ((i+(j+l) % s) / s);rw [T.assoc _ _ _ p1 t1 fz3,T.comm _ _ t1 fz3,<- T.assoc _ _ _ p1 fz3 t1,T.assoc _ _ _ (T.lt _ _ p1 fz3) t1 t3,<- xQ T,ed];rw [T.assoc _ _ _ hx fy fz3,<- T.assoc _ _ _ hx (T.lt _ _ fy fz3) t2,T.assoc _ _ _ (T.lt _ _ hx (T.lt _ _ fy fz3)) t2 t4,<- xQ T]
theorem IK (T:Tn m ad f s e) {I:Nat} (hI:I<m * s):cyc m ad f s e 0 I=I:=by
 have hm:=T.pos;have hi:I / m<s:=Nn hI;have hx:I % m<m:=My _ hm;have h:=mQ T (x:=0) (y:=I % m) (i:=0) (j:=I / m) hm hx T.lV hi;rw [<- dm m I,O9,OD,Ou,NF hi,M8 hi] at h;rw [h];show ad (ad 0 (I % m)) 0+_=_;rw [FL T.toAb hx,T.zero _ hx,<- dm m I]
theorem yb (T:Tn m ad f s e) {I:Nat} (hI:I<m * s):cyc m ad f s e I 0=I:=by
 have hm:=T.pos;have hi:I / m<s:=Nn hI;have hx:I % m<m:=My _ hm;have h:=mQ T (x:=I % m) (y:=0) (i:=I / m) (j:=0) hx hm hi T.lV;rw [<- dm m I,O9,OD,OD,NF hi,M8 hi] at h;rw [h];have z0:Nat.repeat f (I / m) 0=0:=xv T (I / m) 0;show ad (ad (I % m) (Nat.repeat f (I / m) 0)) 0+_=_;rw [z0,T.zero _ hx,T.zero _ hx,<- dm m I]
theorem yp (T:Tn m ad f s e) {I:Nat} (hI:I<m * s):∃ J,J<m * s/\cyc m ad f s e I J=0:=by
 have hm:=T.pos;have hs:=T.lV;have hi:I / m<s:=Nn hI;have hx:I % m<m:=My _ hm;have hj:(s - I / m) % s<s:=My _ hs;have hw:ad (I % m) (tim ad e ((I / m+(s - I / m) % s) / s))<m:=T.lt _ _ hx (fX T _);obtain ⟨v,hv,ev⟩:=T.neg _ hw;have hy:Nat.repeat f ((s - I / m) % s) v<m:=iL T _ hv;refine ⟨Nat.repeat f ((s - I / m) % s) v+m * ((s - I / m) % s),?_,?_⟩
 ·have h3:m * ((s - I / m) % s)+m<=m * s:=by
   rw [<- OE];exact M5 _ hj
  omega
 ·have h:=mQ T (x:=I % m) (y:=Nat.repeat f ((s - I / m) % s) v) (i:=I / m) (j:=(s - I / m) % s) hx hy hi hj;rw [<- dm m I] at h;rw [h];have er:Nat.repeat f (I / m) (Nat.repeat f ((s - I / m) % s) v)=v:=by
   rw [<- nC]
   by_cases h0:I / m=0
   ·rw [h0,Nat.sub_zero,Pa];rfl
   ·rw [M8 (Nat.sub_lt hs (Nat.pos_of_ne_zero h0))];have:I / m+(s - I / m)=s:=QJ (N5 hi);rw [this,T.per v hv]
  have e0:(I / m+(s - I / m) % s) % s=0:=by
   rw [Po];have:I / m+(s - I / m)=s:=QJ (N5 hi);rw [this,Pa]
  rw [er,e0,O9,OD,T.assoc _ _ _ hx hv (fX T _),T.comm _ _ hv (fX T _),<- T.assoc _ _ _ hx (fX T _) hv];exact ev
theorem Hb (T:Tn m ad f s e) {I:Nat} (hI:I<m * s):∃ J,J<m * s/\cyc m ad f s e I J=0/\cyc m ad f s e J I=0:=by
 obtain ⟨J,hJ,e1⟩:=yp T hI;obtain ⟨L,hL,e2⟩:=yp T hJ;refine ⟨J,hJ,e1,?_⟩;have hJI:=Eo T hJ hI;have h1:cyc m ad f s e J I=cyc m ad f s e (cyc m ad f s e J I) (cyc m ad f s e J L):=by rw [e2,yb T hJI]
 rw [h1,<- tm T hJI hJ hL,tm T hJ hI hJ,e1,yb T hJ,e2]
end
def lsum (a b c p q:Nat):Nat:=(p+q) % a+a * ((p / a+q / a) % b)+a * b * ((p / (a * b)+q / (a * b)) % c)
section
variable {a b c:Nat}
theorem Ib {x y w:Nat} (hx:x<a):(x+a * y+a * b * w) % a=x:=by
 rw [Q5,Q3,<- Q4,NB,M8 hx]
theorem Ii {x y w:Nat} (ha:0<a) (hx:x<a):(x+a * y+a * b * w) / a=y+b * w:=by
 rw [Q5,Q3,<- Q4,NV _ _ ha,NF hx,Ou]
theorem Iv {x y w:Nat} (ha:0<a) (hx:x<a) (hy:y<b):(x+a * y+a * b * w) / a % b=y:=by
 rw [Ii ha hx,NB,M8 hy]
theorem IB {x y w:Nat} (ha:0<a) (hb:0<b) (hx:x<a) (hy:y<b):(x+a * y+a * b * w) / (a * b)=w:=by
 rw [<- Rp,Ii ha hx,NV _ _ hb,NF hy,Ou]
theorem FK {x y w:Nat} (hx:x<a) (hy:y<b) (hw:w<c):x+a * y+a * b * w<a * b * c:=by
 have h1:a * y+a<=a * b:=by rw [<- OE];exact M5 _ hy
 have h2:a * b * w+a * b<=a * b * c:=by rw [<- OE];exact M5 _ hw
 omega
theorem J7 (ha:0<a) (hb:0<b) (p:Nat):p % a+a * (p / a % b)+a * b * (p / (a * b))=p:=by
 rw [<- Rp,Q5,Q3,<- Q4,RL,RL]
theorem Cy {p:Nat} (hp:p<a * b * c):p / (a * b)<c:=Nn hp
theorem Fo (ha:0<a) (p q:Nat):lsum a b c p q % a=(p+q) % a:=Ib (My _ ha)
theorem EZ (ha:0<a) (hb:0<b) (p q:Nat):lsum a b c p q / a % b=(p / a+q / a) % b:=Iv ha (My _ ha) (My _ hb)
theorem EH (ha:0<a) (hb:0<b) (p q:Nat):lsum a b c p q / (a * b)=(p / (a * b)+q / (a * b)) % c:=IB ha hb (My _ ha) (My _ hb)
theorem ke (x y k:Nat):(x % k+y) % k=(x+y) % k:=Nat.mod_add_mod x k y
theorem Ji (ha:0<a) (hb:0<b) (hc:0<c):Ab (a * b * c) (lsum a b c) where
 pos:=NI (NI ha hb) hc
 lt:=fun x y _ _=>FK (My _ ha) (My _ hb) (My _ hc)
 comm:=fun x y _ _=>by unfold lsum;rw [Oq x y,Oq (x / a),Oq (x / (a * b))]
 assoc:=fun x y z _ _ _=>by
  have e1:(lsum a b c x y+z) % a=(x+lsum a b c y z) % a:=by
   rw [<- ke,Fo ha,ke,Oq x (lsum a b c y z),<- ke (lsum a b c y z),Fo ha,ke]
   congr 1;omega
  have e2:(lsum a b c x y / a+z / a) % b=(x / a+lsum a b c y z / a) % b:=by
   rw [<- ke,EZ ha hb,ke,Oq (x / a) (lsum a b c y z / a),<- ke (lsum a b c y z / a),EZ ha hb,ke]
   congr 1;omega
  have e3:(lsum a b c x y / (a * b)+z / (a * b)) % c=(x / (a * b)+lsum a b c y z / (a * b)) % c:=by
   rw [EH ha hb,EH ha hb,ke,Oq (x / (a * b)) (_ % c),ke]
   congr 1;omega
  show (lsum a b c x y+z) % a+a * ((lsum a b c x y / a+z / a) % b)+a * b * ((lsum a b c x y / (a * b)+z / (a * b)) % c)=(x+lsum a b c y z) % a+a * ((x / a+lsum a b c y z / a) % b)+a * b * ((x / (a * b)+lsum a b c y z / (a * b)) % c);rw [e1,e2,e3]
 zero:=fun x hx=>by
  unfold lsum;rw [RM,RM,OD,OD,OD,M8 (Cy hx),J7 ha hb]
 neg:=fun x hx=>by
  have hx1:x % a<a:=My _ ha;have hy1:x / a % b<b:=My _ hb;have hw1:x / (a * b)<c:=Cy hx;have lx:(a - x % a) % a<a:=My _ ha;have ly:(b - x / a % b) % b<b:=My _ hb;have lw:(c - x / (a * b)) % c<c:=My _ hc;refine ⟨(a - x % a) % a+a * ((b - x / a % b) % b)+a * b * ((c - x / (a * b)) % c),FK lx ly lw,?_⟩;have f1:(x+((a - x % a) % a+a * ((b - x / a % b) % b)+a * b * ((c - x / (a * b)) % c))) % a=0:=by
   rw [Nat.add_mod,Ib lx,Po];have:x % a+(a - x % a)=a:=by omega
   rw [this,Pa]
  have f2:(x / a+((a - x % a) % a+a * ((b - x / a % b) % b)+a * b * ((c - x / (a * b)) % c)) / a) % b=0:=by
   rw [Nat.add_mod,Iv ha lx ly,Po];have:x / a % b+(b - x / a % b)=b:=by omega
   rw [this,Pa]
  have f3:(x / (a * b)+((a - x % a) % a+a * ((b - x / a % b) % b)+a * b * ((c - x / (a * b)) % c)) / (a * b)) % c=0:=by
   rw [IB ha hb lx ly,Po];have:x / (a * b)+(c - x / (a * b))=c:=QJ (N5 hw1);rw [this,Pa]
  unfold lsum;rw [f1,f2,f3,O9,O9]
end
def fK (a b c kind u0 u1 u2 p:Nat):Nat :=
 let x:=p % a
 let y:=p / a % b
 let w:=p / (a * b) * u2 % c
 match kind with
 | 1=>y+a * (x+b * w)
 | 2=>(a - y) % a+a * ((x+a - y) % a+b * w)
 | 3=>x+a * ((y+x) % b+b * w)
 | 4=>(x+a / 2 * y) % a+a * (y+b * w)
 | _=>x * u0 % a+a * (y * u1 % b+b * w)
def iter (f:Nat->Nat):Nat->Nat->Nat
 | 0,x=>x
 | n+1,x=>iter f n (f x)
def pw (u m:Nat):Nat->Nat
 | 0=>1
 | n+1=>pw u m n * u % m
def wg (a b c s kind u0 u1 u2:Nat):Bool :=
 (LZ (a * b * c)).all fun p=>Nat.blt (fK a b c kind u0 u1 u2 p) (a * b * c) && (Oj (iter (fK a b c kind u0 u1 u2) s p) p &&
  (LZ (a * b * c)).all fun q=>Oj (fK a b c kind u0 u1 u2 (lsum a b c p q)) (lsum a b c (fK a b c kind u0 u1 u2 p) (fK a b c kind u0 u1 u2 q)))
def fW (a b s kind:Nat):Bool:=kind == 0 || (kind == 1 && (a == b && s % 2 == 0)) || (kind == 2 && (a == b && s % 3 == 0)) || (kind == 3 && (a % b == 0 && (decide (1<b) && s % b == 0))) || (kind == 4 && (a % 2 == 0 && (b % 2 == 0 && s % 2 == 0)))
def unitsOf (m s:Nat):List Nat:=(LZ m).filter fun u=>Oj (pw u m s) (1 % m)
def Fi:Bool:=(LZ 4).all fun s'=>let s:=s'+1
 (LZ (23 / s)).all fun a'=>let a:=a'+1
 (LZ (23 / (s * a))).all fun b'=>let b:=b'+1
 (LZ (23 / (s * a * b))).all fun c'=>let c:=c'+1
 (LZ 5).all fun k=>!fW a b s k || ((if Oj k 0 then unitsOf a s else [0]).all fun u0=>(if Oj k 0 then unitsOf b s else [0]).all fun u1=>(unitsOf c s).all fun u2=>wg a b c s k u0 u1 u2)
set_option maxRecDepth 1000000 in
theorem EV:Fi=true:=by trivial
theorem AA (f:Nat->Nat):∀ (n x:Nat),iter f n x=Nat.repeat f n x
 | 0,_=>rfl
 | n+1,x=>by
  show iter f n (f x)=f (Nat.repeat f n x);rw [AA f n (f x)];have h1:=nC f x n 1;have h2:=nC f x 1 n;rw [Oq] at h2;have e:Nat.repeat f n (Nat.repeat f 1 x)=Nat.repeat f 1 (Nat.repeat f n x):=h1.symm.trans h2;exact e
theorem tK {m s u:Nat}:u∈unitsOf m s↔u<m/\pw u m s=1 % m:=by
 unfold unitsOf;rw [Nq,L9];simp
structure Par (a b c s kind u0 u1 u2:Nat):Prop where
 a1:1<=a
 b1:1<=b
 c1:1<=c
 s1:1<=s
 s4:s<=4
 le:a * b * c * s<=23
 k5:kind<5
 kind:fW a b s kind=true
 v0:u0∈unitsOf a s
 v1:u1∈unitsOf b s
 v2:u2∈unitsOf c s
theorem sQ {x k n:Nat} (hx:1<=x) (hk:1<=k) (h:k * x<=n):x - 1<n / k:=by
 have:x<=n / k:=(Nat.le_div_iff_mul_le (by omega)).mpr (by rw [OP];exact h)
 omega
theorem JI {a b c kind u0 u1 u2:Nat} (h:kind≠0) (h5:kind<5):fK a b c kind u0 u1 u2=fK a b c kind 0 0 u2:=by
 match kind,h,h5 with
 | 1,_,_=>rfl
 | 2,_,_=>rfl
 | 3,_,_=>rfl
 | 4,_,_=>rfl
 | 0,h,_=>exact absurd rfl h
theorem Par.chk {a b c s kind u0 u1 u2:Nat} (P:Par a b c s kind u0 u1 u2):wg a b c s kind u0 u1 u2=true:=by
 have hle:=P.le;have h1:s * a<=23:=by
  have:s * a * (b * c)=a * b * c * s:=by simp only [OP,PM]
  have z:s * a * 1<=s * a * (b * c):=M5 _ (NI P.b1 P.c1);omega
 have h2:s * a * b<=23:=by
  have:s * a * b * c=a * b * c * s:=by simp only [OP,PM]
  have z:s * a * b * 1<=s * a * b * c:=M5 _ P.c1;omega
 have h3:s * a * b * c<=23:=by
  have:s * a * b * c=a * b * c * s:=by simp only [OP,PM]
  omega
 have sa:1<=s * a:=NI P.s1 P.a1;have sab:1<=s * a * b:=NI sa P.b1;have q0:=EV;unfold Fi at q0;have q1:=Mx.mp q0 (s - 1) (L9.mpr (by have:=P.s1;have:=P.s4;omega))
 have es:s - 1+1=s:=by have:=P.s1;omega
 have ea:a - 1+1=a:=by have:=P.a1;omega
 have eb:b - 1+1=b:=by have:=P.b1;omega
 have ec:c - 1+1=c:=by have:=P.c1;omega
 try dsimp only at q1
 rw [es] at q1;have q2:=Mx.mp q1 (a - 1) (L9.mpr (sQ P.a1 P.s1 h1))
 try dsimp only at q2
 rw [ea] at q2;have q3:=Mx.mp q2 (b - 1) (L9.mpr (sQ P.b1 sa h2))
 try dsimp only at q3
 rw [eb] at q3;have q4:=Mx.mp q3 (c - 1) (L9.mpr (sQ P.c1 sab h3))
 try dsimp only at q4
 rw [ec] at q4;have q5:=Mx.mp q4 kind (L9.mpr P.k5);rw [P.kind] at q5;simp only [Bool.not_true,Bool.false_or] at q5
 by_cases hk:kind=0
 ·subst hk;have q6:=Mx.mp q5 u0 P.v0;have q7:=Mx.mp q6 u1 P.v1;exact Mx.mp q7 u2 P.v2
 ·have hb:Oj kind 0=false:=by
   cases h:Oj kind 0 with
   | false=>rfl
   | true=>exact absurd (N9 h) hk
  rw [hb] at q5;have q6:=Mx.mp q5 0 (Ma.mpr rfl);have q7:=Mx.mp q6 0 (Ma.mpr rfl);have q8:=Mx.mp q7 u2 P.v2;unfold wg at q8 ⊢;rw [JI hk P.k5];exact q8
theorem Par.tn {a b c s kind u0 u1 u2 e:Nat} (P:Par a b c s kind u0 u1 u2) (he:e<a * b * c) (fe:fK a b c kind u0 u1 u2 e=e):Tn (a * b * c) (lsum a b c) (fK a b c kind u0 u1 u2) s e:=by
 have q:=P.chk;unfold wg at q;have q':∀ p,p<a * b * c->_:=fun p hp=>Mx.mp q p (L9.mpr hp);simp only [Oc,Mx,L9] at q';refine { Ji P.a1 P.b1 P.c1 with lV:=P.s1,flt:=fun x hx=>?_,fad:=fun x y hx hy=>?_,per:=fun x hx=>?_,elt:=he,fe:=fe }
 ·have z:=(q' x hx).1;exact Nat.le_of_ble_eq_true z
 ·exact N9 ((q' x hx).2.2 y hy)
 ·rw [<- AA];exact N9 (q' x hx).2.1
theorem GT.rel {n:Nat} {t t':List (List Nat)} {e:Nat} (g:GT n t e) (π:List Nat) (hl:π.length=n) (hm:∀ x,x∈π↔x<n) (sq:Sq n t')
  (h:∀ a b,a<n->b<n->tb t' (π.getD a 0) (π.getD b 0)=π.getD (tb t a b) 0):GT n t' (π.getD e 0):=by
 have into:∀ a,a<n->π.getD a 0<n:=fun a ha=>by
  have:π.getD a 0∈π:=by
   rw [L6,LO (by omega)]
   exact Ni _
  exact (hm _).mp this
 have onto:∀ i,i<n->∃ a,a<n/\π.getD a 0=i:=fun i hi=>by
  obtain ⟨a,ha,e'⟩:=RW.mp ((hm i).mpr hi);refine ⟨a,by omega,?_⟩
  rw [L6,LO ha,e'];rfl
 refine ⟨⟨sq,fun i j hi hj=>?_⟩,into e g.elt,fun i hi=>?_,fun i hi=>?_,fun i hi=>?_,fun i j k hi hj hk=>?_⟩
 ·obtain ⟨a,ha,rfl⟩:=onto i hi;obtain ⟨b,hb,rfl⟩:=onto j hj;rw [h a b ha hb];exact into _ (g.lt a b ha hb)
 ·obtain ⟨a,ha,rfl⟩:=onto i hi;rw [h e a g.elt ha,g.unl a ha]
 ·obtain ⟨a,ha,rfl⟩:=onto i hi;rw [h a e ha g.elt,g.unr a ha]
 ·obtain ⟨a,ha,rfl⟩:=onto i hi;obtain ⟨b,hb,x,y⟩:=g.back a ha;exact ⟨π.getD b 0,into b hb,by rw [h a b ha hb,x],by rw [h b a hb ha,y]⟩
 ·obtain ⟨a,ha,rfl⟩:=onto i hi;obtain ⟨b,hb,rfl⟩:=onto j hj;obtain ⟨d,hd,rfl⟩:=onto k hk;rw [h a b ha hb,h b d hb hd,h _ d (g.lt a b ha hb) hd,h a _ ha (g.lt b d hb hd),g.assoc a b d ha hb hd]
theorem Kf {m:Nat} {ad:Nat->Nat->Nat} {f:Nat->Nat} {s e:Nat} (T:Tn m ad f s e) (h:m * s<=23):GT (m * s) (mkT (m * s) (cyc m ad f s e)) 0 :=
 FF (NI T.pos T.lV) h (fun _ _ ha hb=>Eo T ha hb) (NI T.pos T.lV) (fun _ ha=>IK T ha) (fun _ ha=>yb T ha) (fun _ ha=>Hb T ha) (fun _ _ _ ha hb hc=>tm T ha hb hc)
theorem getD_some {α:Type} {l:List α} {i:Nat} (d:α) (h:i<l.length):l[i]?=some (l.getD i d):=by
 rw [L6,LO h];rfl
theorem K0 {m:Nat} {ad:Nat->Nat->Nat} {f:Nat->Nat} {s e x y i j:Nat} (hx:x<m) (hy:y<m) :
  cyc m ad f s e (x+m * i) (y+m * j)=(if s<=i+j then ad (ad x (Nat.repeat f i y)) e else ad x (Nat.repeat f i y))+m * ((i+j) % s):=by
 have hm:0<m:=by omega
 have d1:(x+m * i) / m=i:=by rw [NV _ _ hm,NF hx,Ou]
 have d2:(y+m * j) / m=j:=by rw [NV _ _ hm,NF hy,Ou]
 have r1:(x+m * i) % m=x:=by rw [NB,M8 hx]
 have r2:(y+m * j) % m=y:=by rw [NB,M8 hy]
 unfold cyc;rw [d1,d2,r1,r2]
theorem D9 (a b c kind u0 u1 u2:Nat):fK a b c kind u0 u1 u2 0=0:=by
 unfold fK;have e1:(0:Nat) / (a * b) * u2 % c=0:=by rw [RM,Nat.zero_mul,RN]
 have e2:(0:Nat) / a % b=0:=by rw [RM,RN]
 simp only [e1,e2,RN]
 split <;> simp
def KW:Bool:=(LZ 24).all fun m=>(LZ 5).all fun s=>Oj m 0 || (Oj s 0 || !(unitsOf m s).isEmpty)
theorem Jx:KW=true:=by trivial
theorem Hj {m s:Nat} (h1:1<=m) (h2:m<=23) (h3:1<=s) (h4:s<=4):unitsOf m s≠[]:=by
 have q0:=Jx;unfold KW at q0;have q1:=Mx.mp q0 m (L9.mpr (by omega))
 have q2:=Mx.mp q1 s (L9.mpr (by omega))
 have b1:Oj m 0=false:=by
  cases h:Oj m 0 with
  | false=>rfl
  | true=>have:=N9 h;omega
 have b2:Oj s 0=false:=by
  cases h:Oj s 0 with
  | false=>rfl
  | true=>have:=N9 h;omega
 rw [b1,b2] at q2;intro e;rw [e] at q2;exact absurd q2 (by decide)
theorem vV (m s i:Nat):((LZ (i+1)).filter fun u=>Oj (pw u m s) (1 % m))=(if pw i m s=1 % m then ((LZ i).filter fun u=>Oj (pw u m s) (1 % m))++[i] else (LZ i).filter fun u=>Oj (pw u m s) (1 % m)):=by
 rw [Pp,List.filter_append]
 by_cases h:pw i m s=1 % m
 ·rw [if_pos h];have:Oj (pw i m s) (1 % m)=true:=by rw [h];exact Nat.beq_refl _
  simp [this]
 ·rw [if_neg h];have:Oj (pw i m s) (1 % m)=false:=by
   cases q:Oj (pw i m s) (1 % m) with
   | false=>rfl
   | true=>exact absurd (N9 q) h
  simp [this]
theorem Ht {π:List Nat} {k i:Nat} (h:π.Perm (LZ i)):(π.take k++i :: π.drop k).Perm (LZ (i+1)):=by
 refine Rg.trans ?_;rw [PZ,Pp];exact (List.Perm.cons i h).trans (List.perm_append_singleton i (LZ i)).symm
theorem JX {rows:List (List Nat)} {n i j i' j' x:Nat} (hl:rows.length=n) (hr:∀ (k:Nat) (r:List Nat),rows[k]?=some r->r.length=n) (hi:i<n) (hj:j<n) :
  tb (rows.set i ((rows.getD i []).set j x)) i' j'=if i'=i/\j'=j then x else tb rows i' j':=by
 have hi2:i<rows.length:=by omega
 unfold tb
 by_cases e:i'=i
 ·subst e;have hrow:(rows.getD i' []).length=n:=hr i' _ (by rw [L6,LO hi2];rfl)
  have e1:(rows.set i' ((rows.getD i' []).set j x)).getD i' []=(rows.getD i' []).set j x:=by
   rw [L6,Nz hi2];rfl
  rw [e1]
  by_cases e2:j'=j
  ·subst e2;rw [if_pos ⟨rfl,rfl⟩,L6,Nz (by omega)]
   rfl
  ·rw [if_neg (fun z=>e2 z.2),L6,NT (NY e2),<- L6]
 ·rw [if_neg (fun z=>e z.1)];have e1:(rows.set i ((rows.getD i []).set j x)).getD i' []=rows.getD i' []:=by
   rw [L6,NT (NY e),<- L6]
  rw [e1]
theorem oN {π:List Nat} {n a:Nat} (h:π.Perm (LZ n)) (ha:a<n):π.getD a 0<n:=by
 have hl:π.length=n:=by rw [h.length_eq,Mt]
 have:π.getD a 0∈π:=by
  rw [L6,LO (by omega)]
  exact Ni _
 exact L9.mp (h.mem_iff.mp this)
theorem AH {π:List Nat} {n a b:Nat} (h:π.Perm (LZ n)) (ha:a<n) (hb:b<n) (e:π.getD a 0=π.getD b 0):a=b:=by
 have hl:π.length=n:=by rw [h.length_eq,Mt]
 have nd:π.Nodup:=h.nodup_iff.mpr Om;have ha':a<π.length:=by omega
 have hb':b<π.length:=by omega
 rw [L6,L6,LO ha',LO hb'] at e;exact (P0 nd).mp e
structure Ren (n:Nat) (π:List Nat) (R rows:List (List Nat)) (A B:Nat):Prop where
 len:rows.length=n
 row:∀ (i:Nat) (r:List Nat),rows[i]?=some r->r.length=n
 at_:∀ a b,a<n->b<n->(a<A\/(a=A/\b<B))->tb rows (π.getD a 0) (π.getD b 0)=π.getD (tb R a b) 0
theorem Ren.put {n:Nat} {π:List Nat} {R rows:List (List Nat)} {A B:Nat} (h:Ren n π R rows A B) (hp:π.Perm (LZ n)) (hA:A<n) (hB:B<n) :
  Ren n π R (rows.set (π.getD A 0) ((rows.getD (π.getD A 0) []).set (π.getD B 0) (π.getD (tb R A B) 0))) A (B+1):=by
 have iA:=oN hp hA;have iB:=oN hp hB;refine ⟨by rw [Qc];exact h.len,fun i r e=>?_,fun a b ha hb c=>?_⟩
 ·by_cases q:i=π.getD A 0
  ·subst q;rw [Nz (by rw [h.len];exact iA)] at e
   cases e;rw [Qc];exact h.row (π.getD A 0) _ (getD_some [] (by rw [h.len];exact iA))
  ·rw [NT (NY q)] at e;exact h.row i r e
 ·rw [JX h.len h.row iA iB]
  by_cases q:a=A/\b=B
  ·obtain ⟨rfl,rfl⟩:=q;rw [if_pos ⟨rfl,rfl⟩]
  ·rw [if_neg fun z=>q ⟨AH hp ha hA z.1,AH hp hb hB z.2⟩];refine h.at_ a b ha hb ?_;omega
theorem Ren.next {n:Nat} {π:List Nat} {R rows:List (List Nat)} {A:Nat} (h:Ren n π R rows A n):Ren n π R rows (A+1) 0 :=
 ⟨h.len,h.row,fun a b ha hb c=>h.at_ a b ha hb (by omega)⟩
theorem Ren.gt {n:Nat} {π:List Nat} {R rows:List (List Nat)} {e:Nat} (h:Ren n π R rows n 0) (hp:π.Perm (LZ n)) (g:GT n R e):GT n rows (π.getD e 0) :=
 g.rel π (by rw [hp.length_eq,Mt]) (fun x=>by rw [hp.mem_iff,L9]) ⟨h.len,g.pos,g.le,h.row⟩ fun a b ha hb=>h.at_ a b ha hb (.inl ha)
def GD:List (List Nat):=[[2,2,1,3],[7,1,1,3],[5,1,1,4],[4,2,1,2],[3,3,1,2],[8,1,1,2],[4,1,1,2],[2,2,2,2],[3,1,1,4],[2,2,1,2],[5,1,1,2],[9,1,1,2]]
theorem uw (p:Nat->Bool) (i:Nat):(LZ (i+1)).filter p=if p i=true then (LZ i).filter p++[i] else (LZ i).filter p:=by
 rw [Pp,List.filter_append];cases q:p i with
 | true=>simp [q]
 | false=>simp [q]
theorem u3 (p:Nat->Bool) (i:Nat):((LZ i).filter p).length<=i:=by
 have:=Ov p (LZ i);rw [Mt] at this;exact this
theorem sub_len:∀ {l1 l2:List Nat},l1.Nodup->(∀ x∈l1,x∈l2)->l1.length<=l2.length
 | [],_,_,_=>M7 _
 | a :: l1,l2,nd,h=>by
  have ha:a∈l2:=h a Mj;rw [M9] at nd;have ih:=sub_len (l1:=l1) (l2:=l2.erase a) nd.2 fun x hx=>(List.mem_erase_of_ne (show x≠a from fun e=>nd.1 (by rw [<- e];exact hx))).mpr (h x (Me _ hx))
  rw [List.length_erase_of_mem ha] at ih;have:0<l2.length:=Rq ha;rw [MQ];omega
theorem kZ {f:Nat->Nat}:∀ {l:List Nat},l.Nodup->(∀ x∈l,∀ y∈l,f x=f y->x=y)->(l.map f).Nodup
 | [],_,_=>by simp
 | a :: l,nd,h=>by
  rw [M9] at nd;rw [MO,M9];refine ⟨fun z=>?_,kZ nd.2 fun x hx y hy=>h x (Me _ hx) y (Me _ hy)⟩;obtain ⟨b,hb,e⟩:=Mg.mp z;exact nd.1 (h b (Me _ hb) a Mj e ▸ hb)
theorem yh (p:Nat->Bool):∀ l:List Nat,l.length=(l.filter p).length+(l.filter fun y=>!p y).length
 | []=>rfl
 | a :: l=>by
  have ih:=yh p l;cases h:p a with
  | true =>
   rw [Q6 h,Pq (by simp [h]),MQ,MQ]
   omega
  | false =>
   rw [Pq (by simp [h]),Q6 (by simp [h]),MQ,MQ]
   omega
theorem php {n:Nat} {f:Nat->Nat} (h:∀ i,i<=n->f i<n):∃ i j,i<j/\j<=n/\f i=f j:=by
 by_cases q:∃ i j,i<j/\j<=n/\f i=f j
 ·exact q
 ·exfalso
  have nd:((LZ (n+1)).map f).Nodup:=kZ Om fun x hx y hy e=>by
   have hx':=L9.mp hx;have hy':=L9.mp hy;rcases N2 x y with z|z|z
   ·exact absurd ⟨x,y,z,by omega,e⟩ q
   ·exact z
   ·exact absurd ⟨y,x,z,by omega,e.symm⟩ q
  have:=sub_len nd (l2:=LZ n) fun x hx=>by
   obtain ⟨i,hi,rfl⟩:=Mg.mp hx;exact L9.mpr (h i (by have:=L9.mp hi;omega))
  simp at this;omega
section
variable {n:Nat} {t:List (List Nat)} {e:Nat}
theorem GT.tZ (g:GT n t e) {a:Nat} (ha:a<n):bO n t e a<n:=(g.bk ha).1
theorem GT.xP (g:GT n t e) {a:Nat} (ha:a<n):tb t a (bO n t e a)=e:=(g.bk ha).2.1
theorem GT.Ad (g:GT n t e) {a:Nat} (ha:a<n):tb t (bO n t e a) a=e:=(g.bk ha).2.2
theorem GT.jd (g:GT n t e) {x y z:Nat} (hx:x<n) (hy:y<n) (hz:z<n) (h:tb t x y=tb t x z):y=z:=by
 have hb:=g.tZ hx;have h1:tb t (bO n t e x) (tb t x y)=tb t (bO n t e x) (tb t x z):=by rw [h]
 rw [<- g.assoc _ _ _ hb hx hy,<- g.assoc _ _ _ hb hx hz,g.Ad hx,g.unl y hy,g.unl z hz] at h1;exact h1
theorem GT.idem (g:GT n t e) {x:Nat} (hx:x<n):tb t x x=x↔x=e:=by
 constructor
 ·intro h;refine g.jd hx hx g.elt ?_;rw [h,g.unr x hx]
 ·rintro rfl;exact g.unl _ hx
theorem GT.Fm (g:GT n t e) {a b:Nat} (ha:a<n) (hb:b<n) (h:tb t a b=e):b=bO n t e a :=
 g.jd ha hb (g.tZ ha) (h.trans (g.xP ha).symm)
def bK (t:List (List Nat)) (e a:Nat):Nat->Nat
 | 0=>e
 | k+1=>tb t (bK t e a k) a
variable {a:Nat}
theorem cL (g:GT n t e) (ha:a<n):∀ k,bK t e a k<n
 | 0=>g.elt
 | k+1=>g.lt _ _ (cL g ha k) ha
theorem qy (g:GT n t e) (ha:a<n):bK t e a 1=a:=g.unl a ha
theorem jj (g:GT n t e) (ha:a<n) (i:Nat):∀ j,bK t e a (i+j)=tb t (bK t e a i) (bK t e a j)
 | 0=>(g.unr _ (cL g ha i)).symm
 | j+1=>by
  show tb t (bK t e a (i+j)) a=tb t (bK t e a i) (tb t (bK t e a j) a);rw [jj g ha i j,g.assoc _ _ _ (cL g ha i) (cL g ha j) ha]
theorem IU (g:GT n t e) (ha:a<n):∃ k,k<n/\bK t e a (k+1)=e:=by
 obtain ⟨i,j,hij,hj,q⟩:=php (f:=bK t e a) (n:=n) fun i _=>cL g ha i;refine ⟨j - i - 1,by omega,?_⟩
 have e1:j=i+(j - i - 1+1):=by omega
 rw [e1,jj g ha] at q;refine (g.jd (cL g ha i) (cL g ha _) g.elt ?_);rw [<- q,g.unr _ (cL g ha i)]
def bF (n:Nat) (t:List (List Nat)) (e a:Nat):Nat:=((LZ n).find? fun k=>decide (bK t e a (k+1)=e)).getD 0+1
theorem js (g:GT n t e) (ha:a<n):bF n t e a<=n/\bK t e a (bF n t e a)=e/\∀ k,1<=k->k<bF n t e a->bK t e a k≠e:=by
 obtain ⟨k,hk,h⟩:=IU g ha;unfold bF;cases q:(LZ n).find? (fun k=>decide (bK t e a (k+1)=e)) with
 | none =>
  rw [QI] at q;have:=q k hk;simp at this;exact absurd h this
 | some c =>
  rw [QG] at q;obtain ⟨h1,h2,h3⟩:=q;have h2':c<n:=by simpa using h2
  refine ⟨by show c+1<=n;omega,by simpa using h1,fun k k1 k2 z=>?_⟩
  have k2':k<c+1:=k2;have:=h3 (k - 1) (by omega)
  rw [show k - 1+1=k by omega,z] at this
  simp at this
theorem kP:1<=bF n t e a:=Nat.succ_le_succ (M7 _)
theorem rN (g:GT n t e) (ha:a<n) {o:Nat} (h:bK t e a o=e):∀ k,bK t e a (o * k)=e
 | 0=>rfl
 | k+1=>by rw [OE,jj g ha,rN g ha h k,h,g.unl e g.elt]
theorem Bi (g:GT n t e) (ha:a<n) (k:Nat):bK t e a (k % bF n t e a)=bK t e a k:=by
 have h:=(js g ha).2.1
 conv=>rhs;rw [<- OS k (bF n t e a),jj g ha,rN g ha h,g.unl _ (cL g ha _)]
theorem zZ (g:GT n t e) (ha:a<n) {i j:Nat} (hi:i<bF n t e a) (hj:j<bF n t e a) (h:bK t e a i=bK t e a j):i=j:=by
 have key:∀ {i j:Nat},i<j->j<bF n t e a->bK t e a i=bK t e a j->False:=fun {i j} hij hj h=>by
  have e1:j=i+(j - i):=by omega
  rw [e1,jj g ha] at h;have:=g.jd (cL g ha i) (cL g ha (j - i)) g.elt (by rw [<- h,g.unr _ (cL g ha i)])
  exact (js g ha).2.2 (j - i) (by omega) (by omega) this
 rcases N2 i j with z|z|z
 ·exact (key z hj h).elim
 ·exact z
 ·exact (key z hi h.symm).elim
theorem JJ (g:GT n t e) (ha:a<n) {k:Nat} (h:bK t e a k=e):bF n t e a ∣ k:=by
 have h1:=Bi g ha k;rw [h] at h1;have h2:k % bF n t e a<bF n t e a:=My _ kP;have h3:=zZ g ha h2 (i:=k % bF n t e a) (j:=0) kP h1;exact Pw h3
theorem z9 (g:GT n t e) {P:List Nat} (nd:P.Nodup) (lt:∀ h∈P,h<n) (he:e∈P) (cl:∀ h∈P,∀ k∈P,tb t h k∈P) (bk:∀ h∈P,bO n t e h∈P) :
  ∀ (k:Nat) (S:List Nat),S.length<=k->S.Nodup->(∀ x∈S,x<n)->(∀ x∈S,∀ h∈P,tb t x h∈S)->P.length ∣ S.length
 | 0,S,hk,_,_,_=>by
  have:S.length=0:=by omega
  rw [this];exact Nat.dvd_zero _
 | k+1,[],_,_,_,_=>Nat.dvd_zero _
 | k+1,x :: S,hk,hn,hl,hc=>by
  have hx:x<n:=hl x Mj
  let C:=P.map (tb t x)
  have cn:C.Nodup:=kZ nd fun y hy z hz q=>g.jd hx (lt y hy) (lt z hz) q;have cs:∀ y∈C,y∈x :: S:=fun y hy=>by
   obtain ⟨h,hh,rfl⟩:=Mg.mp hy;exact hc x Mj h hh
  have xC:x∈C:=Mg.mpr ⟨e,he,g.unr x hx⟩;have ih:=z9 g nd lt he cl bk k ((x :: S).filter fun y=>!decide (y∈C)) (by
    have:((x :: S).filter fun y=>!decide (y∈C))=S.filter fun y=>!decide (y∈C):=by
     rw [Pq];simp [xC]
    rw [this];have:=Ov (fun y=>!decide (y∈C)) S;rw [MQ] at hk;omega)
   (hn.sublist Sb) (fun y hy=>hl y (Nq.mp hy).1) fun y hy h hh=>by
    have hy1:=Nq.mp hy;have hyn:=hl y hy1.1;refine Nq.mpr ⟨hc y hy1.1 h hh,?_⟩;have ny:y∉C:=by simpa using hy1.2
    simp only [PJ,decide_eq_false_iff_not];intro z;obtain ⟨h',hh',q⟩:=Mg.mp z;have hb:=bk h hh;refine ny (Mg.mpr ⟨tb t h' (bO n t e h),cl h' hh' _ hb,?_⟩);rw [<- g.assoc _ _ _ hx (lt h' hh') (lt _ hb),q,g.assoc _ _ _ hyn (lt h hh) (lt _ hb),g.xP (lt h hh),g.unr y hyn]
  have e1:((x :: S).filter fun y=>decide (y∈C)).length=P.length:=by
   have l1:((x :: S).filter fun y=>decide (y∈C)).length<=C.length:=sub_len (hn.sublist Sb) fun y hy=>by simpa using (Nq.mp hy).2
   have l2:C.length<=((x :: S).filter fun y=>decide (y∈C)).length:=sub_len cn fun y hy=>Nq.mpr ⟨cs y hy,by simpa using hy⟩
   have l3:C.length=P.length:=LP ..;omega
  have e2:(x :: S).length=((x :: S).filter fun y=>decide (y∈C)).length+((x :: S).filter fun y=>!decide (y∈C)).length:=yh _ _;rw [e2,e1];exact (Nat.dvd_add_right (Nat.dvd_refl _)).mpr ih
theorem Fe (g:GT n t e) (ha:a<n):bF n t e a ∣ n:=by
 let P:=(LZ (bF n t e a)).map (bK t e a)
 have mem:∀ k,bK t e a k∈P:=fun k=>by
  rw [<- Bi g ha k];exact Mg.mpr ⟨_,L9.mpr (My _ kP),rfl⟩
 have frm:∀ h∈P,∃ k,k<bF n t e a/\bK t e a k=h:=fun h hh=>by
  obtain ⟨k,hk,q⟩:=Mg.mp hh;exact ⟨k,L9.mp hk,q⟩
 have r:=z9 g (P:=P) (kZ Om fun x hx y hy q=>zZ g ha (L9.mp hx) (L9.mp hy) q)
  (fun h hh=>by obtain ⟨k,_,rfl⟩:=frm h hh;exact cL g ha k) (mem 0)
  (fun h hh k hk=>by
   obtain ⟨i,_,rfl⟩:=frm h hh;obtain ⟨j,_,rfl⟩:=frm k hk;rw [<- jj g ha];exact mem _)
  (fun h hh=>by
   obtain ⟨i,hi,rfl⟩:=frm h hh;have q:tb t (bK t e a i) (bK t e a (bF n t e a - i))=e:=by
    rw [<- jj g ha,show i+(bF n t e a - i)=bF n t e a by omega]
    exact (js g ha).2.1
   rw [<- g.Fm (cL g ha i) (cL g ha _) q];exact mem _)
  n (LZ n) (by simp) Om (fun x hx=>L9.mp hx) fun x hx h hh=>by
   obtain ⟨k,_,rfl⟩:=frm h hh;exact L9.mpr (g.lt _ _ (L9.mp hx) (cL g ha k))
 have e1:P.length=bF n t e a:=by simp [P]
 rw [e1,Mt] at r;exact r
theorem Ko (g:GT n t e) (ha:a<n):bK t e a n=e:=by
 obtain ⟨k,hk⟩:=Fe g ha
 conv=>lhs;rw [hk]
 exact rN g ha (js g ha).2.1 k
end
theorem Eb {n:Nat} {t:List (List Nat)} {e:Nat} (g:GT n t e):((LZ n).filter fun a=>decide (tb t a a=a))[0]?=some e:=by
 have he:e∈(LZ n).filter fun a=>decide (tb t a a=a):=Nq.mpr ⟨L9.mpr g.elt,by simpa using (g.idem g.elt).mpr rfl⟩
 cases q:(LZ n).filter fun a=>decide (tb t a a=a) with
 | nil=>rw [q] at he;cases he
 | cons x r =>
  have hx:x∈(LZ n).filter fun a=>decide (tb t a a=a):=by rw [q];exact Mj
  have h1:=Nq.mp hx;have h2:=(g.idem (L9.mp h1.1)).mp (by simpa using h1.2)
  rw [h2];rfl
structure cW (l:List Nat) (k:Nat):Prop where
 pos:1<=k
 all:∀ s∈l,k % s=0
 least:∀ j,1<=j->j<k->∃ s,s∈l/\j % s≠0
theorem cW.uni {l:List Nat} {k k':Nat} (h:cW l k) (h':cW l k'):k=k':=by
 rcases N2 k k' with z|z|z
 ·obtain ⟨s,hs,q⟩:=h'.least k h.pos z;exact absurd (h.all s hs) q
 ·exact z
 ·obtain ⟨s,hs,q⟩:=h.least k' h'.pos z;exact absurd (h'.all s hs) q
def bnd:List Nat->Nat
 | []=>1
 | s :: l=>s * bnd l
theorem xi:∀ {l:List Nat},(∀ s∈l,1<=s)->1<=bnd l
 | [],_=>Mh _
 | s :: l,h=>NI (h s Mj) (xi fun x hx=>h x (Me _ hx))
theorem xD:∀ {l:List Nat} {s:Nat},s∈l->bnd l % s=0
 | a :: l,s,h=>by
  rcases Mv.mp h with z|z
  ·subst z;exact QK s (bnd l)
  ·have ih:=xD z;obtain ⟨c,hc⟩:=Pw ih;show a * bnd l % s=0;rw [hc,PM];exact QK s _
theorem rf:∀ {l r:List Nat},l.Pairwise (· < ·)->r.Pairwise (· < ·)->(∀ x,x∈l↔x∈r)->l=r
 | [],[],_,_,_=>rfl
 | [],b :: r,_,_,h=>absurd ((h b).mpr Mj) (by simp)
 | a :: l,[],_,_,h=>absurd ((h a).mp Mj) (by simp)
 | a :: l,b :: r,hl,hr,h=>by
  rw [NQ] at hl hr;have e:a=b:=by
   rcases Mv.mp ((h a).mp Mj) with z|z
   ·exact z
   ·rcases Mv.mp ((h b).mpr Mj) with y|y
    ·exact y.symm
    ·have h1:=hr.1 a z;have h2:=hl.1 b y;omega
  subst e;refine congrArg (a :: ·) (rf hl.2 hr.2 fun x=>?_);constructor
  ·intro hx;rcases Mv.mp ((h x).mp (Me _ hx)) with z|z
   ·have:=hl.1 x hx;omega
   ·exact z
  ·intro hx;rcases Mv.mp ((h x).mpr (Me _ hx)) with z|z
   ·have:=hr.1 x hx;omega
   ·exact z
theorem oF:∀ {l:List Nat},l.Nodup->l.Pairwise (·<=·)->l.Pairwise (· < ·)
 | [],_,_=>.nil
 | a :: l,nd,h=>by
  rw [M9] at nd;rw [NQ] at h ⊢;refine ⟨fun b hb=>?_,oF nd.2 h.2⟩;have h1:=h.1 b hb;have h2:a≠b:=fun z=>nd.1 (by rw [z];exact hb)
  omega
theorem cy {l:List Nat} (h:l.Pairwise (· < ·)):l.Nodup:=h.imp fun z=>Mn z
theorem i7 {l:List Nat} {n:Nat} (nd:l.Nodup) (h:∀ x∈l,x<n):l.length<=n:=by
 have:=sub_len nd (l2:=LZ n) fun x hx=>L9.mpr (h x hx)
 simpa using this
section
variable {n:Nat} {t:List (List Nat)} {e:Nat}
theorem EI (g:GT n t e) {x:Nat} (hx:x<n):∀ (l:List Nat) {a:Nat},a<n->(∀ y∈l,y<n)->prd t (tb t x a) l=tb t x (prd t a l)
 | [],_,_,_=>rfl
 | y :: l,a,ha,hl=>by
  have hy:=hl y Mj;show prd t (tb t (tb t x a) y) l=tb t x (prd t (tb t a y) l);rw [g.assoc x a y hx ha hy];exact EI g hx l (g.lt a y ha hy) fun z hz=>hl z (Me _ hz)
theorem G4 (g:GT n t e) {x:Nat} (hx:x<n) {l:List Nat} (hl:∀ y∈l,y<n):prd t x l=tb t x (prd t e l):=by
 rw [<- EI g hx l g.elt hl,g.unr x hx]
theorem JF (a:Nat) (l r:List Nat):prd t a (l++r)=prd t (prd t a l) r:=by
 unfold prd;rw [List.foldl_append]
structure Gen (n:Nat) (t:List (List Nat)) (e:Nat) (S P:List Nat):Prop where
 srt:P.Pairwise (· < ·)
 lt:∀ x∈P,x<n
 un:e∈P
 cl:∀ x∈P,∀ s∈S,tb t x s∈P
 wd:∀ x∈P,∃ l,(∀ y∈l,y∈S)/\prd t e l=x
structure IsPart (n:Nat) (t:List (List Nat)) (P:List Nat):Prop where
 srt:P.Pairwise (· < ·)
 lt:∀ x∈P,x<n
 ne:P≠[]
 cl:∀ x∈P,∀ y∈P,tb t x y∈P
variable {S P:List Nat}
theorem Gen.walk (G:Gen n t e S P):∀ (l:List Nat) {x:Nat},x∈P->(∀ y∈l,y∈S)->prd t x l∈P
 | [],_,hx,_=>hx
 | y :: l,x,hx,hl=>G.walk l (G.cl x hx y (hl y Mj)) fun z hz=>hl z (Me _ hz)
theorem Gen.part (G:Gen n t e S P) (g:GT n t e) (hS:∀ s∈S,s<n):IsPart n t P:=by
 refine ⟨G.srt,G.lt,Pr G.un,fun x hx y hy=>?_⟩;obtain ⟨l,hl,rfl⟩:=G.wd y hy;rw [<- G4 g (G.lt x hx) fun z hz=>hS z (hl z hz)];exact G.walk l hx hl
theorem IsPart.pow (h:IsPart n t P) (g:GT n t e) {x:Nat} (hx:x∈P):∀ k,bK t e x (k+1)∈P
 | 0=>by rw [qy g (h.lt x hx)];exact hx
 | k+1=>h.cl _ (h.pow g hx k) _ hx
theorem IsPart.un (h:IsPart n t P) (g:GT n t e):e∈P:=by
 obtain ⟨x,hx⟩:=List.exists_mem_of_ne_nil _ h.ne;have o:=js g (h.lt x hx);have:=h.pow g hx (bF n t e x - 1);rw [show bF n t e x - 1+1=bF n t e x by have:=kP (n:=n) (t:=t) (e:=e) (a:=x);omega,o.2.1] at this
 exact this
theorem IsPart.bk (h:IsPart n t P) (g:GT n t e) {x:Nat} (hx:x∈P):bO n t e x∈P:=by
 have hn:=h.lt x hx;have o:=js g hn;have op:1<=bF n t e x:=kP;have q:tb t x (bK t e x (bF n t e x - 1))=e:=by
  have:=jj g hn 1 (bF n t e x - 1);rw [show 1+(bF n t e x - 1)=bF n t e x by omega,o.2.1,qy g hn] at this
  exact this.symm
 rw [<- g.Fm hn (cL g hn _) q];cases h1:bF n t e x - 1 with
 | zero=>exact h.un g
 | succ k=>exact h.pow g hx k
theorem IsPart.len (h:IsPart n t P):P.length<=n:=i7 (cy h.srt) h.lt
theorem Gen.len (G:Gen n t e S P):P.length<=n:=i7 (cy G.srt) G.lt
theorem Gen.has (G:Gen n t e S P) (g:GT n t e) {s:Nat} (hs:s∈S) (hn:s<n):s∈P:=by
 have:=G.cl e G.un s hs;rw [g.unl s hn] at this;exact this
structure mE (n:Nat) (t:List (List Nat)) (e:Nat) (S F:List Nat) (A:Nat):Prop where
 nd:F.Nodup
 lt:∀ x∈F,x<n
 un:e∈F
 le:A<=F.length
 cl:∀ i x,i<A->F[i]?=some x->∀ s∈S,tb t x s∈F
 wd:∀ x∈F,∃ l,(∀ y∈l,y∈S)/\prd t e l=x
theorem mE.len {F:List Nat} {A:Nat} (G:mE n t e S F A):F.length<=n:=i7 G.nd G.lt
theorem mE.put {F:List Nat} {A x s:Nat} (G:mE n t e S F A) (g:GT n t e) (hx:x∈F) (hs:s∈S) (hn:s<n) (h:tb t x s∉F):mE n t e S (F++[tb t x s]) A:=by
 refine ⟨?_,fun y hy=>?_,Nm _ G.un,by rw [Mm];have:=G.le;omega,fun i y hi e' r hr=>?_,fun y hy=>?_⟩
 ·rw [PF];exact ⟨G.nd,by simp,fun a ha b hb=>by rw [Ma.mp hb];exact fun z=>h (z ▸ ha)⟩
 ·rcases MD.mp hy with z|z
  ·exact G.lt y z
  ·rw [Ma.mp z];exact g.lt x s (G.lt x hx) hn
 ·rw [MB (Mi hi G.le)] at e';exact Nm _ (G.cl i y hi e' r hr)
 ·rcases MD.mp hy with z|z
  ·exact G.wd y z
  ·obtain ⟨l,hl,q⟩:=G.wd x hx;refine ⟨l++[s],fun u hu=>?_,?_⟩
   ·rcases MD.mp hu with z' | z'
    ·exact hl u z'
    ·rw [Ma.mp z'];exact hs
   ·rw [JF,q,Ma.mp z];rfl
theorem mE.next {F:List Nat} {A x:Nat} (G:mE n t e S F A) (hx:F[A]?=some x) (h:∀ s∈S,tb t x s∈F):mE n t e S F (A+1) :=
 ⟨G.nd,G.lt,G.un,(LR.mp hx).1,fun i y hi e'=>by
  rcases MN i A with z|z
  ·exact G.cl i y z e'
  ·have:i=A:=by omega
   subst this;rw [hx] at e';cases e';exact h,G.wd⟩
theorem mE.gen {F P:List Nat} {A:Nat} (G:mE n t e S F A) (hA:F.length<=A) (hp:P.Perm F) (hs:P.Pairwise (·<=·)):Gen n t e S P:=by
 refine ⟨oF (hp.nodup_iff.mpr G.nd) hs,fun x hx=>G.lt x (hp.mem_iff.mp hx),hp.mem_iff.mpr G.un,fun x hx s hs'=>?_,fun x hx=>G.wd x (hp.mem_iff.mp hx)⟩;obtain ⟨i,hi,e'⟩:=RW.mp (hp.mem_iff.mp hx);exact hp.mem_iff.mpr (G.cl i x (by omega) (by rw [LO hi,e']) s hs')
end
def thg (c:Int) (k n:Nat):Nat:=((c % 2147483647).toNat * 48271+69621 * k * k+7 * k) % 2147483629 * (((c % 2147483647).toNat * 48271+69621 * k * k+7 * k) % 2147483629) % 2147483587 % n
theorem K1 (c:Int) (k:Nat) {n:Nat} (h:1<=n):thg c k n<n:=My _ h
structure zE (n:Nat) (t:List (List Nat)) (e:Nat) (R:List Nat) (L:List (List Nat)):Prop where
 ne:∀ s∈L,s≠[]
 srt:∀ s∈L,s.Pairwise (· < ·)
 lt:∀ s∈L,∀ x∈s,x<n
 len:∀ s∈L,s.length=R.length
 side:∀ s∈L,∀ x∈s,tb t (bO n t e (s.getD 0 0)) x∈R
 heads:(L.map fun s=>s.getD 0 0).Pairwise (· < ·)
 all:L.flatten.Perm (LZ n)
section
variable {n:Nat} {t:List (List Nat)} {e:Nat} {R:List Nat}
theorem gB (g:GT n t e) (p:IsPart n t R) {x y:Nat} (hx:x<n) (hy:y<n):tb t (bO n t e x) y∈R↔∃ h,h∈R/\tb t x h=y:=by
 have hb:=g.tZ hx;constructor
 ·intro h;refine ⟨_,h,?_⟩;rw [<- g.assoc _ _ _ hx hb hy,g.xP hx,g.unl y hy]
 ·rintro ⟨h,hh,rfl⟩;rw [<- g.assoc _ _ _ hb hx (p.lt h hh),g.Ad hx,g.unl h (p.lt h hh)];exact hh
theorem yK (g:GT n t e) (p:IsPart n t R) {x:Nat} (hx:x<n):tb t (bO n t e x) x∈R:=by
 rw [g.Ad hx];exact p.un g
theorem mS (g:GT n t e) (p:IsPart n t R) {a x y:Nat} (ha:a<n) (hx:x<n) (hy:y<n) (h1:tb t (bO n t e a) x∈R) (h2:tb t (bO n t e a) y∈R):tb t (bO n t e x) y∈R:=by
 obtain ⟨k1,hk1,rfl⟩:=(gB g p ha hx).mp h1;obtain ⟨k2,hk2,rfl⟩:=(gB g p ha hy).mp h2;have l1:=p.lt k1 hk1;have l2:=p.lt k2 hk2;have lb:=g.tZ l1;refine (gB g p hx hy).mpr ⟨tb t (bO n t e k1) k2,p.cl _ (p.bk g hk1) _ hk2,?_⟩;rw [g.assoc _ _ _ ha l1 (g.lt _ _ lb l2),<- g.assoc k1 _ _ l1 lb l2,g.xP l1,g.unl k2 l2]
theorem eW (g:GT n t e) (p:IsPart n t R) {a x:Nat} (ha:a<n) (hx:x<n) (h:tb t (bO n t e a) x∈R):tb t (bO n t e x) a∈R:=mS g p ha hx ha h (yK g p ha)
structure d8 (n:Nat) (t:List (List Nat)) (e:Nat) (R:List Nat) (L:List (List Nat)) (i:Nat):Prop where
 ne:∀ s∈L,s≠[]
 srt:∀ s∈L,s.Pairwise (· < ·)
 lt:∀ s∈L,∀ x∈s,x<n
 len:∀ s∈L,s.length=R.length
 full:∀ s∈L,∀ y,y<n->(y∈s↔tb t (bO n t e (s.getD 0 0)) y∈R)
 heads:(L.map fun s=>s.getD 0 0).Pairwise (· < ·)
 hl:∀ s∈L,s.getD 0 0<i
 nd:L.flatten.Nodup
 cov:∀ y,y<i->y∈L.flatten
theorem d8.nil:d8 n t e R [] 0 :=
 ⟨by simp,by simp,by simp,by simp,by simp,by simp,by simp,by simp,fun y h=>absurd h (by omega)⟩
theorem head_mem {s:List Nat} (h:s≠[]):s.getD 0 0∈s:=by
 cases s with
 | nil=>exact absurd rfl h
 | cons a r=>simp
theorem d8.old {L:List (List Nat)} {i:Nat} (S:d8 n t e R L i) (h:i∈L.flatten):d8 n t e R L (i+1) :=
 ⟨S.ne,S.srt,S.lt,S.len,S.full,S.heads,fun s hs=>N1 (S.hl s hs),S.nd,fun y hy=>by
  rcases MN y i with z|z
  ·exact S.cov y z
  ·have:y=i:=by omega
   rw [this];exact h⟩
theorem d8.new {L:List (List Nat)} {i:Nat} {s:List Nat} (S:d8 n t e R L i) (g:GT n t e) (p:IsPart n t R) (hi:i<n) (h:i∉L.flatten) (hs:s.Pairwise (· < ·)) (hm:∀ y,y∈s↔∃ k,k∈R/\tb t i k=y):d8 n t e R (L++[s]) (i+1):=by
 have hlt:∀ y∈s,y<n:=fun y hy=>by
  obtain ⟨k,hk,rfl⟩:=(hm y).mp hy;exact g.lt _ _ hi (p.lt k hk)
 have his:i∈s:=(hm i).mpr ⟨e,p.un g,g.unr i hi⟩;have hne:s≠[]:=Pr his;have apart:∀ y∈s,y∉L.flatten:=fun y hy hf=>by
  obtain ⟨s',hs',hy'⟩:=Oo.mp hf;have hn:=hlt y hy;have h0:=S.lt s' hs' _ (head_mem (S.ne s' hs'));have q1:=(S.full s' hs' y hn).mp hy';have q2:tb t (bO n t e i) y∈R:=(gB g p hi hn).mpr ((hm y).mp hy);have q3:=eW g p hi hn q2;have q4:=mS g p hn h0 hi (eW g p h0 hn q1) q3;exact h (Oo.mpr ⟨s',hs',(S.full s' hs' i hi).mpr q4⟩)
 have hge:∀ y∈s,i<=y:=fun y hy=>by
  rcases MN y i with z|z
  ·exact absurd (S.cov y z) (apart y hy)
  ·exact z
 have h0:s.getD 0 0=i:=by
  have h1:=hge _ (head_mem hne);cases s with
  | nil=>exact absurd rfl hne
  | cons a r =>
   have h1:i<=a:=h1;show a=i;rcases Mv.mp his with z|z
   ·exact z.symm
   ·have:=(NQ.mp hs).1 i z;omega
 have hnd:=cy hs;have hlen:s.length=R.length:=by
  have m1:(R.map (tb t i)).Nodup:=kZ (cy p.srt) fun x hx y hy q=>g.jd hi (p.lt x hx) (p.lt y hy) q;have e1:=sub_len hnd (l2:=R.map (tb t i)) fun y hy=>by
   obtain ⟨k,hk,q⟩:=(hm y).mp hy;exact Mg.mpr ⟨k,hk,q⟩
  have e2:=sub_len m1 (l2:=s) fun y hy=>by
   obtain ⟨k,hk,q⟩:=Mg.mp hy;exact (hm y).mpr ⟨k,hk,q⟩
  rw [LP] at e1 e2;omega
 have two:∀ {Z:List Nat->Prop},(∀ s'∈L,Z s')->Z s->∀ s'∈L++[s],Z s':=fun {Z} a b s' hs'=>by
  rcases MD.mp hs' with z|z
  ·exact a s' z
  ·rw [Ma.mp z];exact b
 refine ⟨two S.ne hne,two S.srt hs,two S.lt hlt,two S.len hlen,two S.full fun y hy=>?_,?_,two (fun s' hs'=>N1 (S.hl s' hs')) (by omega),?_,fun y hy=>?_⟩
 ·rw [h0,hm y];exact (gB g p hi hy).symm
 ·rw [MM];refine RU.mpr ⟨S.heads,by simp,fun a ha b hb=>?_⟩
  obtain ⟨s',hs',rfl⟩:=Mg.mp ha;have:b=s.getD 0 0:=by simpa using hb
  rw [this,h0];exact S.hl s' hs'
 ·rw [Sd];refine PF.mpr ⟨S.nd,by simpa using hnd,fun x hx y hy q=>?_⟩
  have hy':y∈s:=by simpa using hy
  rw [q] at hx;exact apart y hy' hx
 ·rw [Sd];rcases MN y i with z|z
  ·exact Nm _ (S.cov y z)
  ·have:y=i:=by omega
   rw [this];exact MJ _ (by simpa using his)
theorem d8.fin {L:List (List Nat)} (S:d8 n t e R L n):zE n t e R L:=by
 refine ⟨S.ne,S.srt,S.lt,S.len,fun s hs x hx=>(S.full s hs x (S.lt s hs x hx)).mp hx,S.heads,?_⟩;refine (Qk S.nd Om).mpr fun x=>⟨fun hx=>?_,fun hx=>S.cov x (L9.mp hx)⟩;obtain ⟨s,hs,hx'⟩:=Oo.mp hx;exact L9.mpr (S.lt s hs x hx')
end
section
variable {n:Nat} {t:List (List Nat)} {e:Nat} {S F:List Nat} {W:List (List Nat)}
end
section
variable {n:Nat} {t:List (List Nat)} {e:Nat} {R:List Nat}
theorem Cg {s:List Nat} (hs:s.Pairwise (· < ·)) {x:Nat} (hx:x∈s):s.getD 0 0<=x:=by
 cases s with
 | nil=>exact absurd hx (by simp)
 | cons a r =>
  show a<=x;rcases Mv.mp hx with rfl|z
  ·exact Mh _
  ·exact N5 ((NQ.mp hs).1 x z)
theorem d8.step {L:List (List Nat)} {i:Nat} {s:List Nat} (S:d8 n t e R L i) (g:GT n t e) (p:IsPart n t R) (hi:i<n) (hs:s.Pairwise (· < ·)) (hm:∀ y,y∈s↔∃ k,k∈R/\tb t i k=y) :
  i∈s/\(s.getD 0 0=i->i∉L.flatten)/\(s.getD 0 0≠i->i∈L.flatten):=by
 have is:i∈s:=(hm i).mpr ⟨e,p.un g,g.unr i hi⟩;have hh:=head_mem (Pr is);have le:=Cg hs is;refine ⟨is,fun eh hf=>?_,fun eh=>?_⟩
 ·obtain ⟨s',hs',hi'⟩:=Oo.mp hf;have h1:=S.hl s' hs';have h2:=(S.full s' hs' i hi).mp hi';have h3:=eW g p (by omega) hi h2
  obtain ⟨k,hk,ek⟩:=(gB g p hi (by omega)).mp h3
  have:=Cg hs ((hm _).mpr ⟨k,hk,ek⟩);omega
 ·obtain ⟨s',hs',hi'⟩:=Oo.mp (S.cov (s.getD 0 0) (by omega))
  have h1:=S.hl s' hs';have h2:=(S.full s' hs' _ (by omega)).mp hi'
  have h3:=eW g p (by omega) (by omega) h2
  have h4:=(gB g p hi (by omega)).mpr ((hm _).mp hh)
  have h5:=eW g p hi (by omega) h4
  exact Oo.mpr ⟨s',hs',(S.full s' hs' i hi).mpr (mS g p (by omega) (by omega) hi h3 h5)⟩
end
section
variable {t:List (List Nat)} {R M:List Nat} {m:Nat}
def og (t:List (List Nat)) (R M:List Nat) (m j k:Nat):Prop:=M.getD (R.idxOf (tb t (R.getD j 0) (R.getD k 0))) 0=(M.getD j 0+M.getD k 0) % m
def uf (t:List (List Nat)) (R M:List Nat) (m:Nat):Option (Nat×Nat)->Prop
 | none=>∀ j,j<R.length->∀ k,k<R.length->og t R M m j k
 | some (a,b)=>∃ j k,j<R.length/\k<R.length/\R.getD j 0=a/\R.getD k 0=b/\¬ og t R M m j k/\(∀ j',j' < j->∀ k',k' < R.length->og t R M m j' k')/\∀ k',k' < k->og t R M m j k'
theorem uf.uni {o o':Option (Nat×Nat)} (h:uf t R M m o) (h':uf t R M m o'):o=o':=by
 cases o with
 | none =>
  cases o' with
  | none=>rfl
  | some p =>
   obtain ⟨a,b⟩:=p;obtain ⟨j,k,hj,hk,_,_,q,_⟩:=h';exact absurd (h j hj k hk) q
 | some p =>
  obtain ⟨a,b⟩:=p;obtain ⟨j,k,hj,hk,ea,eb,q,q1,q2⟩:=h;cases o' with
  | none=>exact absurd (h' j hj k hk) q
  | some p' =>
   obtain ⟨a',b'⟩:=p';obtain ⟨j',k',hj',hk',ea',eb',q',q1',q2'⟩:=h';have ej:j=j':=by
    rcases N2 j j' with z|z|z
    ·exact absurd (q1' j z k hk) q
    ·exact z
    ·exact absurd (q1 j' z k' hk') q'
   subst ej;have ek:k=k':=by
    rcases N2 k k' with z|z|z
    ·exact absurd (q2' k z) q
    ·exact z
    ·exact absurd (q2 k' z) q'
   subst ek;rw [<- ea,<- eb,<- ea',<- eb']
theorem xr {l:List Nat} {x:Nat} (h:x∈l):l[l.idxOf x]?=some x:=by
 rw [LO (Nc h)];simp
theorem tR:∀ {l:List Nat} {x i:Nat},i<l.idxOf x->l[i]?≠some x
 | [],_,_,h=>absurd h (by simp)
 | y :: l,x,i,h=>by
  rw [List.idxOf_cons] at h
  by_cases e:y=x
  ·subst e;simp at h
  ·have hb:(y == x)=false:=by simp [e]
   rw [hb] at h;cases i with
   | zero=>simpa using e
   | succ i =>
    have h':i<l.idxOf x:=by simpa using h
    simpa using tR h'
end
section
variable {n:Nat} {t:List (List Nat)} {e:Nat} {R:List Nat}
def EF (n:Nat) (t:List (List Nat)) (e:Nat) (R:List Nat) (x:Nat):Bool:=decide (∀ y,y<x->tb t (bO n t e y) x∉R)
def vD (n:Nat) (t:List (List Nat)) (e:Nat) (R:List Nat) (i:Nat):List Nat:=(LZ i).filter (EF n t e R)
def bH (n:Nat) (t:List (List Nat)) (e:Nat) (R:List Nat):List Nat:=vD n t e R n
theorem CY {i x:Nat}:x∈vD n t e R i↔x<i/\∀ y,y<x->tb t (bO n t e y) x∉R:=by
 unfold vD EF;rw [Nq,L9,decide_eq_true_iff]
theorem mD {x:Nat}:x∈bH n t e R↔x<n/\∀ y,y<x->tb t (bO n t e y) x∉R:=CY
theorem C6 {i:Nat}:(vD n t e R i).Pairwise (· < ·):=RV _ Pu
theorem rg:(bH n t e R).Pairwise (· < ·):=C6
theorem cV {x:Nat} (h:x∈bH n t e R):x<n:=(mD.mp h).1
theorem qC:(bH n t e R).length<=n:=i7 (cy rg) fun x hx=>cV hx
theorem Ct (g:GT n t e) (p:IsPart n t R) (x:Nat) (hx:x<n):∃ c,c∈bH n t e R/\tb t (bO n t e c) x∈R:=by
 induction x using Nat.strongRecOn with
 | ind x ih =>
  by_cases h:∀ y,y<x->tb t (bO n t e y) x∉R
  ·exact ⟨x,mD.mpr ⟨hx,h⟩,yK g p hx⟩
  ·obtain ⟨y,hy⟩:=O0.mp h;obtain ⟨yx,hr⟩:=PN.mp hy;have hr':=Classical.not_not.mp hr;have yn:=PY yx hx;obtain ⟨c,hc,q⟩:=ih y yx yn;exact ⟨c,hc,mS g p yn (cV hc) hx (eW g p (cV hc) yn q) hr'⟩
theorem Ap (g:GT n t e) (p:IsPart n t R) {x c c':Nat} (hx:x<n) (hc:c∈bH n t e R) (hc':c'∈bH n t e R) (h:tb t (bO n t e c) x∈R) (h':tb t (bO n t e c') x∈R):c=c':=by
 have l:=cV hc;have l':=cV hc';have q:=mS g p hx l l' (eW g p l hx h) (eW g p l' hx h');have q':=eW g p l l' q;rcases N2 c c' with z|z|z
 ·exact absurd q ((mD.mp hc').2 c z)
 ·exact z
 ·exact absurd q' ((mD.mp hc).2 c' z)
theorem Aa {s:List Nat} {x:Nat} (h:s.Pairwise (· < ·)) (hx:x∈s):s.getD 0 0<=x:=by
 cases s with
 | nil=>cases hx
 | cons a r =>
  show a<=x;rcases Mv.mp hx with z|z
  ·omega
  ·have:=(NQ.mp h).1 x z;omega
theorem zE.bH {L:List (List Nat)} (S:zE n t e R L) (g:GT n t e) (p:IsPart n t R):L.map (fun s=>s.getD 0 0)=bH n t e R:=by
 refine rf S.heads rg fun x=>?_;have full:∀ s∈L,∀ y,y<n->tb t (bO n t e (s.getD 0 0)) y∈R->y∈s:=fun s hs y hy h=>by
  refine N4 fun no=>?_;have h0:=S.lt s hs _ (head_mem (S.ne s hs));have nd:(y :: s).Nodup:=M9.mpr ⟨no,cy (S.srt s hs)⟩;have:=sub_len nd (l2:=R.map (tb t (s.getD 0 0))) fun z hz=>by
   have hzr:z<n/\tb t (bO n t e (s.getD 0 0)) z∈R:=by
    rcases Mv.mp hz with q|q
    ·rw [q];exact ⟨hy,h⟩
    ·exact ⟨S.lt s hs z q,S.side s hs z q⟩
   obtain ⟨k,hk,q⟩:=(gB g p h0 hzr.1).mp hzr.2;exact Mg.mpr ⟨k,hk,q⟩
  rw [MQ,LP,S.len s hs] at this;omega
 constructor
 ·intro hx;obtain ⟨s,hs,rfl⟩:=Mg.mp hx;have h0:=S.lt s hs _ (head_mem (S.ne s hs));refine mD.mpr ⟨h0,fun y hy q=>?_⟩;have hyn:=PY hy h0;have ys:=full s hs y hyn (eW g p hyn h0 q);have:=Aa (S.srt s hs) ys;have hy':y<s.getD 0 0:=hy;omega
 ·intro hx;obtain ⟨hxn,h⟩:=mD.mp hx;obtain ⟨s,hs,xs⟩:=Oo.mp (S.all.mem_iff.mpr (L9.mpr hxn));refine Mg.mpr ⟨s,hs,?_⟩;have h1:=S.side s hs x xs;have hle:=Aa (S.srt s hs) xs;show s.getD 0 0=x;rcases MN (s.getD 0 0) x with z|z
  ·exact absurd h1 (h _ z)
  ·omega
def hm (n:Nat) (t:List (List Nat)) (e:Nat) (R:List Nat) (x:Nat):Nat:=(bH n t e R).findIdx fun c=>decide (tb t (bO n t e c) x∈R)
def ov (n:Nat) (t:List (List Nat)) (e:Nat) (R:List Nat) (x:Nat):Nat:=tb t (bO n t e ((bH n t e R).getD (hm n t e R x) 0)) x
theorem Io (g:GT n t e) (p:IsPart n t R) {x i c:Nat} (hx:x<n) (hi:(bH n t e R)[i]?=some c) (h:tb t (bO n t e c) x∈R):hm n t e R x=i:=by
 obtain ⟨hl,ec⟩:=LR.mp hi;have hex:∃ c,c∈bH n t e R/\decide (tb t (bO n t e c) x∈R)=true:=⟨c,LS hi,decide_eq_true h⟩;have hlt:hm n t e R x<(bH n t e R).length:=List.findIdx_lt_length_of_exists hex;have hget:=List.findIdx_getElem (w:=hlt);have h2:tb t (bO n t e ((bH n t e R)[hm n t e R x])) x∈R:=of_decide_eq_true hget;have hc2:(bH n t e R)[hm n t e R x]∈bH n t e R:=Ni hlt;have:=Ap g p hx (LS hi) hc2 h h2;have nd:=cy (rg (n:=n) (t:=t) (e:=e) (R:=R));exact (P0 nd).mp (by rw [ec,<- this])
theorem DB (g:GT n t e) (p:IsPart n t R) {x:Nat} (hx:x<n):∃ c,(bH n t e R)[hm n t e R x]?=some c/\c<n/\tb t (bO n t e c) x=ov n t e R x/\ov n t e R x∈R:=by
 obtain ⟨c,hc,h⟩:=Ct g p x hx;obtain ⟨i,hi⟩:=Ny hc;have q:=Io g p hx hi h;have hg:(bH n t e R).getD i 0=c:=by rw [L6,hi];rfl
 have ho:ov n t e R x=tb t (bO n t e c) x:=by unfold ov;rw [q,hg]
 exact ⟨c,by rw [q];exact hi,cV hc,ho.symm,by rw [ho];exact h⟩
theorem Iu (g:GT n t e) (p:IsPart n t R) {x i c k h:Nat} (hi:(bH n t e R)[i]?=some c) (hk:R[k]?=some h) (q:tb t c h=x):hm n t e R x=i/\R.idxOf (ov n t e R x)=k:=by
 have hc:=LS hi;have hh:=LS hk;have cn:=cV hc;have hn:=p.lt h hh;have hx:x<n:=by rw [<- q];exact g.lt _ _ cn hn
 have hb:=g.tZ cn;have e1:tb t (bO n t e c) x=h:=by rw [<- q,<- g.assoc _ _ _ hb cn hn,g.Ad cn,g.unl h hn]
 have h1:=Io g p hx hi (by rw [e1];exact hh)
 obtain ⟨c',a1,_,a3,_⟩:=DB g p hx;rw [h1,hi] at a1;cases a1;refine ⟨h1,?_⟩;rw [<- a3,e1];obtain ⟨hl,eh⟩:=LR.mp hk;rw [<- eh];exact (cy p.srt).idxOf_getElem k hl
theorem zI (g:GT n t e) (p:IsPart n t R) {x:Nat} (hx:x<n):∃ c k,(bH n t e R)[hm n t e R x]?=some c/\R[k]?=some (ov n t e R x)/\R.idxOf (ov n t e R x)=k/\tb t c (ov n t e R x)=x:=by
 obtain ⟨c,a1,a2,a3,a4⟩:=DB g p hx;refine ⟨c,_,a1,?_,rfl,?_⟩
 ·rw [LO (Nc a4),OM]
 ·rw [<- a3,<- g.assoc _ _ _ a2 (g.tZ a2) hx,g.xP a2,g.unl x hx]
def kg (n:Nat) (t:List (List Nat)) (e:Nat) (R:List Nat):List (List (Nat×Nat)):=(LZ n).map fun a=>(bH n t e R).map fun c=>(hm n t e R (tb t a c),R.idxOf (ov n t e R (tb t a c)))
def lT (n:Nat) (t:List (List Nat)) (e:Nat) (R M:List Nat):List (List (Nat×Nat)):=(LZ n).map fun a=>(bH n t e R).map fun c=>(hm n t e R (tb t a c),M.getD (R.idxOf (ov n t e R (tb t a c))) 0)
variable {S:List Nat}
end
section
variable {n:Nat} {t:List (List Nat)} {e:Nat} {R:List Nat}
def fM (t:List (List Nat)) (R:List Nat):List (List Nat):=R.map fun a=>R.map fun b=>R.idxOf (tb t a b)
theorem map_getD {β:Type} (f:Nat->β):∀ (R:List Nat),R.map f=(LZ R.length).map fun i=>f (R.getD i 0):=fun R=>by
 refine List.ext_getElem (by simp) fun i h1 h2=>?_
 simp at h1;simp [L6,h1]
theorem JB:fM t R=mkT R.length fun i j=>R.idxOf (tb t (R.getD i 0) (R.getD j 0)):=by
 unfold fM mkT;rw [map_getD];refine R6 fun i _=>?_;rw [map_getD]
theorem hZ (p:IsPart n t R) {i:Nat} (h:i<R.length):R.getD i 0∈R/\R.idxOf (R.getD i 0)=i:=by
 have e1:R.getD i 0=R[i]:=by rw [L6,LO h];rfl
 rw [e1];exact ⟨Ni h,(cy p.srt).idxOf_getElem i h⟩
theorem iz {x:Nat} (h:x∈R):R.idxOf x<R.length/\R.getD (R.idxOf x) 0=x:=by
 have hi:=Nc h;refine ⟨hi,?_⟩;rw [L6,LO hi,OM];rfl
theorem Ar (g:GT n t e) (p:IsPart n t R):GT R.length (fM t R) (R.idxOf e):=by
 have un:=p.un g;have rl:=p.len;have n23:=g.le;rw [JB];refine FF (ML.mpr p.ne) (by omega) (fun a b ha hb=>?_) (iz un).1 (fun a ha=>?_) (fun a ha=>?_) (fun a ha=>?_) fun a b c ha hb hc=>?_
 ·exact (iz (p.cl _ (hZ p ha).1 _ (hZ p hb).1)).1
 ·obtain ⟨h1,h2⟩:=hZ p ha;rw [(iz un).2,g.unl _ (p.lt _ h1)];exact h2
 ·obtain ⟨h1,h2⟩:=hZ p ha;rw [(iz un).2,g.unr _ (p.lt _ h1)];exact h2
 ·obtain ⟨h1,_⟩:=hZ p ha;have hb:=p.bk g h1;refine ⟨R.idxOf (bO n t e (R.getD a 0)),(iz hb).1,?_,?_⟩
  ·rw [(iz hb).2,g.xP (p.lt _ h1)]
  ·rw [(iz hb).2,g.Ad (p.lt _ h1)]
 ·obtain ⟨h1,_⟩:=hZ p ha;obtain ⟨h2,_⟩:=hZ p hb;obtain ⟨h3,_⟩:=hZ p hc;rw [(iz (p.cl _ h1 _ h2)).2,(iz (p.cl _ h2 _ h3)).2,g.assoc _ _ _ (p.lt _ h1) (p.lt _ h2) (p.lt _ h3)]
theorem zO {α:Type} {f:Nat->List α} {k:Nat}:∀ {l:List Nat},(∀ c∈l,(f c).length=k)->(l.flatMap f).length=l.length * k
 | [],_=>by simp
 | c :: l,h=>by
  rw [QL,Mm,h c Mj,zO fun x hx=>h x (Me _ hx),MQ,PV];omega
theorem GG (g:GT n t e) (p:IsPart n t R):(bH n t e R).length * R.length=n:=by
 have len:((bH n t e R).flatMap fun c=>R.map (tb t c)).length=(bH n t e R).length * R.length:=zO fun c _=>LP _;have nd:((bH n t e R).flatMap fun c=>R.map (tb t c)).Nodup:=by
  refine List.pairwise_flatMap.mpr ⟨fun c hc=>?_,?_⟩
  ·exact kZ (cy p.srt) fun x hx y hy q=>g.jd (cV hc) (p.lt x hx) (p.lt y hy) q
  ·refine List.Pairwise.imp_of_mem ?_ rg;intro a b ha hb ab x hx y hy q;obtain ⟨h,hh,rfl⟩:=Mg.mp hx;obtain ⟨h',hh',q'⟩:=Mg.mp hy;have xn:=g.lt a h (cV ha) (p.lt h hh);have q1:=(gB g p (cV ha) xn).mpr ⟨h,hh,rfl⟩;have q2:=(gB g p (cV hb) xn).mpr ⟨h',hh',q'.trans q.symm⟩;have:=Ap g p xn ha hb q1 q2;omega
 have a1:=sub_len nd (l2:=LZ n) fun x hx=>by
  obtain ⟨c,hc,hx'⟩:=Ri.mp hx;obtain ⟨h,hh,rfl⟩:=Mg.mp hx';exact L9.mpr (g.lt c h (cV hc) (p.lt h hh))
 have a2:=sub_len Om (l2:=(bH n t e R).flatMap fun c=>R.map (tb t c)) fun x hx=>by
  obtain ⟨c,k,z1,z2,_,z4⟩:=zI g p (L9.mp hx);exact Ri.mpr ⟨c,LS z1,Mg.mpr ⟨_,LS z2,z4⟩⟩
 rw [Mt] at a1 a2;omega
theorem rB (g:GT n t e) (p:IsPart n t R):n / R.length=(bH n t e R).length:=by
 have h:=GG g p;have r1:0<R.length:=ML.mpr p.ne;generalize (bH n t e R).length=k at h;rw [<- h];exact Nat.mul_div_cancel _ r1
def iJ (D:List (List (Nat×Nat))) (z:Nat) (r:List (Nat×Nat)):List (Nat×Nat):=r.flatMap fun x=>(D.getD x.2 []).map fun y=>(x.1 * z+y.1,y.2)
def xB (n:Nat) (t:List (List Nat)) (e:Nat) (R:List Nat) (D:List (List (Nat×Nat))) (z:Nat):List (List (Nat×Nat)):=(kg n t e R).map (iJ D z)
theorem qw {D:List (List (Nat×Nat))} {z:Nat}:∀ {r:List (Nat×Nat)},(∀ x∈r,(D.getD x.2 []).length=z)->(iJ D z r).length=r.length * z
 | [],_=>by unfold iJ;simp
 | x :: r,h=>by
  have ih:=qw (D:=D) (z:=z) (r:=r) fun y hy=>h y (Me _ hy);have hx:=h x Mj;unfold iJ at ih ⊢;rw [QL,Mm,LP,hx,ih,MQ,PV];omega
theorem BE {D:List (List (Nat×Nat))} {z i:Nat} {r:List (Nat×Nat)} {x:Nat×Nat} (h:r[i]?=some x):iJ D z (r.take (i+1))=iJ D z (r.take i)++(D.getD x.2 []).map fun y=>(x.1 * z+y.1,y.2):=by
 unfold iJ;rw [MG,h,Se];simp
theorem En (g:GT n t e):IsPart n t (LZ n) :=
 ⟨Pu,fun x hx=>L9.mp hx,fun z=>by have:=congrArg Qb z;rw [Mt] at this;have:=g.pos;simp at *;omega,fun x hx y hy=>L9.mpr (g.lt x y (L9.mp hx) (L9.mp hy))⟩
end
section
variable {P:Mp} {w:World} {K:LN} {mg:Str->Option Value} {base:Heap}
def yY (K:LN):Sp:=fun vs H Q _=>∃ (v:V) (n:Nat) (t:List (List Nat)),vs=[v]/\At K H v t/\Sq n t/\Q .non H
theorem y9 (T:Txt K mg):aI P w K mg base CX0 1 T.jf.f T.jf.fd ["rows"] (yY K):=by
 refine T.jf.ok m9 (fun vs H Q E h=>?_) (fun cdv A outer s H vs Q E hr h=>?_)
 ·obtain ⟨v,n,t,rfl,_⟩:=h;rfl
 obtain ⟨v,n,t,rfl,hT,sq,q⟩:=h;refine ⟨_,(ae (ao (i:=1) m9.nd rfl (Mb rfl) (av (aW K rfl) rfl T.bI Ms (paF (pv 0) aa)))
   (ae (aX (PW.pt (oM (ay ko (pv 1) ag (aE _)) (oj (ay iD (pv 1) (cD (v:=.int 23) rfl T.fO ⟨_,rfl⟩) (aE _))))) (ah cE) aN)
   (ah (bE Ml rfl (aZ K rfl (pv 0)) (aD (i:=2) m9.nd rfl (Mb rfl)) (ah (aX (ay iy (av (aW K rfl) rfl T.bI Ms (paF (pv 2) aa)) (pv 1) (aE _)) (ah cE) aN)))))),?_⟩
 walk_at "rd";refine dD hT ?_;walk_at "rd";have h1:=sq.len;have h2:=sq.pos;have h3:=sq.le;refine aV (fun c=>absurd c (by omega)) (fun _=>?_)
 walk_at "rd";refine aV (fun c=>absurd c (by omega)) (fun _=>?_)
 walk_at "rd";refine la hT (fun i σ H'=>H'=H/\∃ x,σ=[some v,some (.int t.length),x]) ⟨rfl,_,rfl⟩ (fun i σ H' h=>by rw [h.1];exact ai.refl _) ?_ ?_
 ·rintro i r w' σ' H' hr' hw ⟨rfl,x,rfl⟩;walk_at "rd";refine dD hw ?_;walk_at "rd";refine bX (fun c=>absurd (by rw [sq.row i r hr',h1]) c) (fun _=>?_)
  walk_at "rd";exact ⟨rfl,_,rfl⟩
 ·rintro σ' H' ⟨rfl,x,rfl⟩;exact q
def tQ (K:LN):Sp:=fun vs H Q _=>∃ (v:V) (n:Nat) (t:List (List Nat)),vs=[v]/\At K H v t/\Gd n t/\Q .non H
theorem sM (T:Txt K mg):aI P w K mg base CX0 1 T.eN.f T.eN.fd ["rows"] (tQ K):=by
 refine T.eN.ok fY (fun vs H Q E h=>?_) (fun cdv A outer s H vs Q E hr h=>?_)
 ·obtain ⟨v,n,t,rfl,_⟩:=h;rfl
 obtain ⟨v,n,t,rfl,hT,gd,q⟩:=h;refine ⟨_,(ae (ao (i:=1) fY.nd rfl (Mb rfl) (av (aW K rfl) rfl T.bI Ms (paF (pv 0) aa)))
   (ah (bE Ml rfl (aY rfl T.bj (paF (pv 1) aa)) (aD (i:=2) fY.nd rfl (Mb rfl)) (ah (bE Ml rfl (aY rfl T.bj (paF (pv 1) aa)) (aD (i:=3) fY.nd rfl (Mb rfl)) (ah (aX (PW.pt (oM (ay ko (aq (aj K rfl) (aq (aj K rfl) (pv 0) (pv 2) (fun _ _=>rfl)) (pv 3) (fun _ _=>rfl)) ag (aE _)) (oj (ay tV (aq (aj K rfl) (aq (aj K rfl) (pv 0) (pv 2) (fun _ _=>rfl)) (pv 3) (fun _ _=>rfl)) (pv 1) (aE _))))) (ah cE) aN))))))),?_⟩
 walk_at "rd";refine dD hT ?_;walk_at "rd";have h1:=gd.len;have h3:=gd.le;rw [h1];refine cq (n:=n) rfl (by omega) (fun i σ H'=>H'=H/\∃ x y,σ=[some v,some (.int n),x,y]) ⟨rfl,_,_,rfl⟩ ?_ ?_
 ·rintro i σ' H' hi ⟨rfl,x,y,rfl⟩;walk_at "rd";refine cq (n:=n) rfl (by omega) (fun j σ H''=>H''=H'/\∃ y,σ=[some v,some (.int n),some (.int (i:Int)),y]) ⟨rfl,_,rfl⟩ ?_ ?_
  ·rintro j σ'' H'' hj ⟨rfl,y,rfl⟩;have hlt:=gd.lt i j hi hj;walk_at "rd";refine dQ hT rfl (gd.get hi) fun w1 hw1=>?_;walk_at "rd";refine lJ hw1 rfl (gd.eU hi hj) ?_;walk_at "rd";refine aV (fun c=>absurd c (by omega)) (fun _=>?_)
   walk_at "rd";refine dQ hT rfl (gd.get hi) fun w2 hw2=>?_;walk_at "rd";refine lJ hw2 rfl (gd.eU hi hj) ?_;walk_at "rd";refine aV (fun c=>absurd c (by omega)) (fun _=>?_)
   walk_at "rd";exact ⟨rfl,_,rfl⟩
  ·rintro σ'' H'' ⟨rfl,y,rfl⟩;exact ⟨rfl,_,_,rfl⟩
 ·rintro σ' H' ⟨rfl,x,y,rfl⟩;exact q
def zi (K:LN):Sp:=fun vs H Q _=>∃ (v:V) (n x:Nat) (t:List (List Nat)),vs=[v,.int (x:Int)]/\At K H v t/\Sq n t/\x<n/\Q (.bl (decide (sX n t x))) H
theorem zc (T:Txt K mg):aI P w K mg base CX0 1 T.jn.f T.jn.fd ["rows","thing"] (zi K):=by
 refine T.jn.ok rR (fun vs H Q E h=>?_) (fun cdv A outer s H vs Q E hr h=>?_)
 ·obtain ⟨v,n,x,t,rfl,_⟩:=h;rfl
 obtain ⟨v,n,x,t,rfl,hT,sq,hx,q⟩:=h;refine ⟨_,(ae (bE Ml rfl (aY rfl T.bj (paF (av (aW K rfl) rfl T.bI Ms (paF (pv 0) aa)) aa)) (aD (i:=2) rR.nd rfl (Mb rfl)) (ah (aX (PW.pt (oM (ay iy (aq (aj K rfl) (aq (aj K rfl) (pv 0) (pv 1) (fun _ _=>rfl)) (pv 2) (fun _ _=>rfl)) (pv 2) (aE _)) (oj (ay iy (aq (aj K rfl) (aq (aj K rfl) (pv 0) (pv 2) (fun _ _=>rfl)) (pv 1) (fun _ _=>rfl)) (pv 2) (aE _))))) (ah (aM i8)) aN)))
   (ah (aM i8))),?_⟩
 walk_at "rd";refine dD hT ?_;walk_at "rd";have h1:=sq.len;have h3:=sq.le;rw [h1];refine cq (n:=n) rfl (by omega) (fun i σ H'=>H'=H/\(∀ o,o<i->tb t x o=o/\tb t o x=o)/\∃ y,σ=[some v,some (.int (x:Int)),y]) ⟨rfl,fun o ho=>absurd ho (by omega),_,rfl⟩ ?_ ?_
 ·rintro i σ' H' hi ⟨rfl,hb,y,rfl⟩;have no:∀ (z:¬ (tb t x i=i/\tb t i x=i)),Q (.bl false) H':=fun z=>by
   rw [decide_eq_false (fun l:sX n t x=>z (l i hi))] at q;exact q
  walk_at "rd";refine dQ hT rfl (sq.get hx) fun w1 hw1=>?_;walk_at "rd";refine lJ hw1 rfl (sq.eU hx hi) ?_;walk_at "rd";refine bX (fun c=>?_) (fun c1=>?_)
  ·walk_at "rd";exact no fun z=>c (by rw [z.1])
  ·walk_at "rd";refine dQ hT rfl (sq.get hi) fun w2 hw2=>?_;walk_at "rd";refine lJ hw2 rfl (sq.eU hi hx) ?_;walk_at "rd";refine bX (fun c=>?_) (fun c2=>?_)
   ·walk_at "rd";exact no fun z=>c (by rw [z.2])
   ·walk_at "rd";refine ⟨rfl,fun o ho=>?_,_,rfl⟩;rcases MN o i with z|z
    ·exact hb o z
    ·have e:o=i:=by omega
     subst e;exact ⟨by omega,by omega⟩
 ·rintro σ' H' ⟨rfl,hb,y,rfl⟩;walk_at "rd";rw [decide_eq_true (show sX n t x from hb)] at q;exact q
def DS (K:LN):Sp:=fun vs H Q _=>∃ (v:V) (n e:Nat) (t:List (List Nat)),vs=[v]/\At K H v t/\GT n t e/\Q (.int (e:Int)) H
theorem Ej (T:Txt K mg):aI P w K mg base CX0 2 T.m5.f T.m5.fd ["rows"] (DS K):=by
 refine T.m5.ok wN (fun vs H Q E h=>?_) (fun cdv A outer s H vs Q E hr h=>?_)
 ·obtain ⟨v,n,e,t,rfl,_⟩:=h;rfl
 obtain ⟨v,n,e,t,rfl,hT,gt,q⟩:=h;refine ⟨_,(ae (bE Ml rfl (aY rfl T.bj (paF (av (aW K rfl) rfl T.bI Ms (paF (pv 0) aa)) aa)) (aD (i:=1) wN.nd rfl (Mb rfl)) (ah (aX (kb (aA T.jn (zc T) (hr.mono (by decide)) rfl (paF (pv 0) (paF (pv 1) aa)))) (ah (aM (pv 1))) aN)))
   (ah cE)),?_⟩
 walk_at "rd";refine dD hT ?_;walk_at "rd";have h1:=gt.len;have h3:=gt.le;rw [h1];refine cq (n:=n) rfl (by omega) (fun i σ H'=>H'=H/\i<=e/\∃ y,σ=[some v,y]) ⟨rfl,M7 _,_,rfl⟩ ?_ ?_
 ·rintro i σ' H' hi ⟨rfl,hle,y,rfl⟩;walk_at "rd";refine ⟨v,n,i,t,rfl,hT,gt.toSq,hi,?_⟩;walk_at "rd";refine aV (fun c=>?_) (fun c=>?_)
  ·walk_at "rd";rw [(gt.qJ hi).mp c];exact q
  ·walk_at "rd";refine ⟨rfl,?_,_,rfl⟩;have:i≠e:=fun z=>c ((gt.qJ hi).mpr z);omega
 ·rintro σ' H' ⟨rfl,hle,y,rfl⟩;exact absurd gt.elt (by omega)
def DC (K:LN):Sp:=fun vs H Q _=>∃ (v:V) (n e a:Nat) (t:List (List Nat)),vs=[v,.int (e:Int),.int (a:Int)]/\At K H v t/\GT n t e/\a<n/\Q (.int (bO n t e a:Int)) H
theorem Dv (T:Txt K mg):aI P w K mg base CX0 1 T.mU.f T.mU.fd ["rows","unit","thing"] (DC K):=by
 refine T.mU.ok vO (fun vs H Q E h=>?_) (fun cdv A outer s H vs Q E hr h=>?_)
 ·obtain ⟨v,n,e,a,t,rfl,_⟩:=h;rfl
 obtain ⟨v,n,e,a,t,rfl,hT,gt,ha,q⟩:=h;refine ⟨_,(ae (bE Ml rfl (aY rfl T.bj (paF (av (aW K rfl) rfl T.bI Ms (paF (pv 0) aa)) aa)) (aD (i:=3) vO.nd rfl (Mb rfl)) (ah (aX (PW.pt (iH (ay bY (aq (aj K rfl) (aq (aj K rfl) (pv 0) (pv 2) (fun _ _=>rfl)) (pv 3) (fun _ _=>rfl)) (pv 1) (aE _)) (iQ (ay bY (aq (aj K rfl) (aq (aj K rfl) (pv 0) (pv 3) (fun _ _=>rfl)) (pv 2) (fun _ _=>rfl)) (pv 1) (aE _))))) (ah (aM (pv 3))) aN)))
   (ah cE)),?_⟩
 walk_at "rd";refine dD hT ?_;walk_at "rd";have h1:=gt.len;have h3:=gt.le;rw [h1];refine cq (n:=n) rfl (by omega) (fun i σ H'=>H'=H/\(∀ o,o<i->¬ (tb t a o=e/\tb t o a=e))/\∃ y,σ=[some v,some (.int (e:Int)),some (.int (a:Int)),y]) ⟨rfl,fun o ho=>absurd ho (by omega),_,rfl⟩ ?_ ?_
 ·rintro i σ' H' hi ⟨rfl,hb,y,rfl⟩;have on:(¬ (tb t a i=e/\tb t i a=e))->∀ o,o<i+1->¬ (tb t a o=e/\tb t o a=e):=fun z o ho=>by
   rcases MN o i with l|l
   ·exact hb o l
   ·have e':o=i:=by omega
    subst e';exact z
  walk_at "rd";refine dQ hT rfl (gt.get ha) fun w1 hw1=>?_;walk_at "rd";refine lJ hw1 rfl (gt.eU ha hi) ?_;walk_at "rd";refine aV (fun c1=>?_) (fun c=>?_)
  ·walk_at "rd";refine dQ hT rfl (gt.get hi) fun w2 hw2=>?_;walk_at "rd";refine lJ hw2 rfl (gt.eU hi ha) ?_;walk_at "rd";refine aV (fun c2=>?_) (fun c=>?_)
   ·walk_at "rd";rw [JN hi ⟨by omega,by omega⟩ hb] at q
    exact q
   ·walk_at "rd";exact ⟨rfl,on fun z=>c (by rw [z.2]),_,rfl⟩
  ·refine eR ?_;walk_at "rd";exact ⟨rfl,on fun z=>c (by rw [z.1]),_,rfl⟩
 ·rintro σ' H' ⟨rfl,hb,y,rfl⟩;obtain ⟨b,hb',z⟩:=gt.back a ha;exact absurd z (hb b hb')
def Cb (K:LN):Sp:=fun vs H Q _=>∃ (v:V) (n e:Nat) (t:List (List Nat)),vs=[v,.int (e:Int)]/\At K H v t/\GT n t e/\∀ d H',H d=none->ai H H'->Gr K H' d (bks n t e)->Q (.ref d) H'
theorem BS (T:Txt K mg):aI P w K mg base CX0 2 T.lS.f T.lS.fd ["rows","unit"] (Cb K):=by
 refine T.lS.ok Cc (fun vs H Q E h=>?_) (fun cdv A outer s H vs Q E hr h=>?_)
 ·obtain ⟨v,n,e,t,rfl,_⟩:=h;rfl
 obtain ⟨v,n,e,t,rfl,hT,gt,q⟩:=h;refine ⟨_,(ah (aM (bZ rfl r9 (aY rfl T.bj (paF (av (aW K rfl) rfl T.bI Ms (paF (pv 0) aa)) aa)) (fun _ _ _ _=>⟨(aD (i:=0) r9.nd rfl (Mb rfl)),bw,(aA T.mU (Dv T) (hr.mono (by decide)) rfl (paF (pv 1) (paF (pv 2) (paF (pv 0) aa))))⟩)))),?_⟩
 walk_at "rd";refine dD hT ?_;walk_at "rd";have h1:=gt.len;have h3:=gt.le;rw [h1];refine rm K (n:=n) rfl (by omega) (fun i=>(bks n t e).take i) (fun σ'=>∃ y,σ'=[y,some v,some (.int (e:Int))]) rfl (fun i hi=>by rw [Mu];omega) ⟨_,rfl⟩ ?_ ?_
 ·rintro i σ' H' d R R0 hi hs ⟨y,rfl⟩ hR hR0 hd;walk_at "rd";refine ⟨v,n,e,i,t,rfl,Rep.mono hs hT,gt,hi,?_⟩;exact hR _ _ (bO n t e i) _ ⟨_,rfl⟩ (ai.refl _) rfl (dH _ n i hi)
 ·intro d H' fd hs ha;have e1:(bks n t e).take n=bks n t e:=MC (by simp [bks])
  have ha':Gr K H' d ((bks n t e).take n):=ha;rw [e1] at ha';exact q d H' fd hs ha'
def uo (K:LN):Sp:=fun vs H Q _=>∃ (v:V) (n e:Nat) (t:List (List Nat)),vs=[v]/\At K H v t/\GT n t e/\Q .non H
theorem uu (T:Txt K mg):aI P w K mg base CX0 1 T.fw.f T.fw.fd ["rows"] (uo K):=by
 refine T.fw.ok eK (fun vs H Q E h=>?_) (fun cdv A outer s H vs Q E hr h=>?_)
 ·obtain ⟨v,n,e,t,rfl,_⟩:=h;rfl
 obtain ⟨v,n,e,t,rfl,hT,gt,q⟩:=h;refine ⟨_,(ae (ao (i:=1) eK.nd rfl (Mb rfl) (av (aW K rfl) rfl T.bI Ms (paF (pv 0) aa)))
   (ah (bE Ml rfl (aY rfl T.bj (paF (pv 1) aa)) (aD (i:=2) eK.nd rfl (Mb rfl)) (ah (bE Ml rfl (aY rfl T.bj (paF (pv 1) aa)) (aD (i:=3) eK.nd rfl (Mb rfl)) (ah (bE Ml rfl (aY rfl T.bj (paF (pv 1) aa)) (aD (i:=4) eK.nd rfl (Mb rfl)) (ah (aX (ay iy (aq (aj K rfl) (aq (aj K rfl) (pv 0) (aq (aj K rfl) (aq (aj K rfl) (pv 0) (pv 2) (fun _ _=>rfl)) (pv 3) (fun _ _=>rfl)) (fun _ _=>rfl)) (pv 4) (fun _ _=>rfl)) (aq (aj K rfl) (aq (aj K rfl) (pv 0) (pv 2) (fun _ _=>rfl)) (aq (aj K rfl) (aq (aj K rfl) (pv 0) (pv 3) (fun _ _=>rfl)) (pv 4) (fun _ _=>rfl)) (fun _ _=>rfl)) (aE _)) (ah cE) aN))))))))),?_⟩
 walk_at "rd";refine dD hT ?_;walk_at "rd";have h1:=gt.len;have h3:=gt.le;rw [h1];refine cq (n:=n) rfl (by omega) (fun i σ H'=>H'=H/\∃ x y z,σ=[some v,some (.int n),x,y,z]) ⟨rfl,_,_,_,rfl⟩ ?_ ?_
 ·rintro i σ' H' hi ⟨rfl,x,y,z,rfl⟩;walk_at "rd";refine cq (n:=n) rfl (by omega) (fun j σ H''=>H''=H'/\∃ y z,σ=[some v,some (.int n),some (.int (i:Int)),y,z]) ⟨rfl,_,_,rfl⟩ ?_ ?_
  ·rintro j σ'' H'' hj ⟨rfl,y,z,rfl⟩;walk_at "rd";refine cq (n:=n) rfl (by omega) (fun k σ H3=>H3=H''/\∃ z,σ=[some v,some (.int n),some (.int (i:Int)),some (.int (j:Int)),z]) ⟨rfl,_,rfl⟩ ?_ ?_
   ·rintro k σ3 H3 hk ⟨rfl,z,rfl⟩;have hij:=gt.lt i j hi hj;have hjk:=gt.lt j k hj hk;walk_at "rd";refine dQ hT rfl (gt.get hi) fun w1 hw1=>?_;walk_at "rd";refine lJ hw1 rfl (gt.eU hi hj) ?_;refine dQ hT rfl (gt.get hij) fun w2 hw2=>?_;walk_at "rd";refine lJ hw2 rfl (gt.eU hij hk) ?_;walk_at "rd";refine dQ hT rfl (gt.get hi) fun w3 hw3=>?_;walk_at "rd";refine dQ hT rfl (gt.get hj) fun w4 hw4=>?_;walk_at "rd";refine lJ hw4 rfl (gt.eU hj hk) ?_;refine lJ hw3 rfl (gt.eU hi hjk) ?_;walk_at "rd";refine bX (fun c=>absurd (by rw [gt.assoc i j k hi hj hk]) c) (fun _=>?_)
    walk_at "rd";exact ⟨rfl,_,rfl⟩
   ·rintro σ3 H3 ⟨rfl,z,rfl⟩;exact ⟨rfl,_,_,rfl⟩
  ·rintro σ'' H'' ⟨rfl,y,z,rfl⟩;exact ⟨rfl,_,_,_,rfl⟩
 ·rintro σ' H' ⟨rfl,x,y,z,rfl⟩;exact q
def gfs (n:Int) (r e b:V):List (Str×V):=[("many",.int n),("rows",r),("unit",e),("backs",b)]
theorem Gz (n:Int) (r e b:V):(gfs n r e b).lookup ("many" : Str)=some (.int n):=rfl
theorem G7 (n:Int) (r e b:V):(gfs n r e b).lookup ("rows" : Str)=some r:=rfl
theorem Gy (n:Int) (r e b:V):(gfs n r e b).lookup ("unit" : Str)=some e:=rfl
def aU (C:Addr) (H:Hp) (g:Addr) (n:Nat) (t:List (List Nat)) (e:Nat):Prop :=
 ∃ dx r b ps,H g=some (.ins C dx (gfs n (.ref r) (.int (e:Int)) (.ref b)))/\Tbl H r t ps/\H b=some (.lst (bb (bks n t e)))
theorem aU.mono {C:Addr} {H H':Hp} {g n e:Nat} {t:List (List Nat)} (s:ai H H') (h:aU C H g n t e):aU C H' g n t e:=by
 obtain ⟨dx,r,b,ps,h1,h2,h3⟩:=h;exact ⟨dx,r,b,ps,s _ _ h1,h2.mono s,s _ _ h3⟩
theorem cC {H:Hp} {b:Addr} {l:List Nat} (h:H b=some (.lst (bb l))):At K H (.ref b) l:=⟨b,_,rfl,SqL.of h,tW⟩
theorem lr {H:Hp} {d:Addr} {l:List Nat} (h:Gr K H d l):H d=some (.lst (bb l)):=by
 obtain ⟨ys,hy,hP⟩:=h;have e:ys=bb l:=by
  unfold bb
  clear hy
  induction hP with
  | nil=>rfl
  | cons r _ ih=>rw [MO,<- ih];exact congrArg (· :: _) r
 rw [<- e];exact hy
theorem aU.get {C:Addr} {H:Hp} {g n e:Nat} {t:List (List Nat)} (h:aU C H g n t e):∃ dx r b,H g=some (.ins C dx (gfs n (.ref r) (.int (e:Int)) (.ref b)))/\At K H (.ref r) t/\At K H (.ref b) (bks n t e):=by
 obtain ⟨dx,r,b,ps,h1,h2,h3⟩:=h;exact ⟨dx,r,b,h1,h2.at,cC h3⟩
section
variable (T:Txt K mg) {H:Hp} {g dx:Addr} {n:Int} {r e b:V} {Q:VK} (hg:H g=some (.ins T.az dx (gfs n r e b)))
include hg
theorem bL (q:Q (.int n) H):isF K "many" (.ref g) H Q:=⟨g,T.az,dx,_,_,rfl,hg,T.kR,T.nG,Gz _ _ _ _,q⟩
theorem bA (q:Q r H):isF K "rows" (.ref g) H Q:=⟨g,T.az,dx,_,_,rfl,hg,T.kR,T.oi,G7 _ _ _ _,q⟩
theorem ck (q:Q e H):isF K "unit" (.ref g) H Q:=⟨g,T.az,dx,_,_,rfl,hg,T.kR,T.oo,Gy _ _ _ _,q⟩
end
def HH (C:Addr) (K:LN):Sp:=fun vs H Q _=>∃ (p dx:Addr) (r e b:V) (t:List (List Nat)),vs=[.ref p,r,e,b]/\H p=some (.ins C dx [])/\At K H r t /\
 ∀ H',H' p=some (.ins C dx (gfs t.length r e b))->(∀ a o,H a=some o->a≠p->H' a=some o)->Q .non H'
theorem Hn (T:Txt K mg):aI P w K mg base CX0 1 T.ub T.t6 ["self","rows","unit","backs"] (HH T.az K):=by
 refine T.CD.ok y8 (fun vs H Q E h=>?_) (fun cdv A outer s H vs Q E hr h=>?_)
 ·obtain ⟨p,dx,r,e,b,t,rfl,_⟩:=h;rfl
 obtain ⟨p,dx,r,e,b,t,rfl,hp,hT,k⟩:=h;refine ⟨_,(ae (iP K rfl (pv 0) (av (aW K rfl) rfl T.bI Ms (paF (pv 1) aa)) rfl)
   (ae (iP K rfl (pv 0) (pv 1) rfl)
   (ae (iP K rfl (pv 0) (pv 2) rfl)
   (ah (iP K rfl (pv 0) (pv 3) rfl))))),?_⟩
 walk_at "rd";refine dD hT ?_;walk_at "rd";refine ⟨p,T.az,dx,_,rfl,hp,T.kR,T.nG,(by show 0<1000;decide),?_⟩
 walk_at "rd";refine ⟨p,T.az,dx,_,rfl,ar,T.kR,T.oi,(by show 1<1000;decide),?_⟩
 walk_at "rd";refine ⟨p,T.az,dx,_,rfl,ar,T.kR,T.oo,(by show 2<1000;decide),?_⟩
 walk_at "rd";refine ⟨p,T.az,dx,_,rfl,ar,T.kR,T.rT,(by show 3<1000;decide),?_⟩
 refine k _ ar fun a o ha hne=>?_;rw [au hne,au hne,au hne,au hne];exact ha
def BC (C:Addr) (K:LN):Sp:=fun vs H Q _=>∃ (v:V) (n e:Nat) (t:List (List Nat)),vs=[v]/\At K H v t/\GT n t e/\∀ g H',H g=none->ai H H'->aU C (since H H') g n t e->Q (.ref g) H'
theorem oZ (T:Txt K mg):aI P w K mg base CX0 3 T.ir.f T.ir.fd ["table"] (BC T.az K):=by
 refine T.ir.ok mP (fun vs H Q E h=>?_) (fun cdv A outer s H vs Q E hr h=>?_)
 ·obtain ⟨v,n,e,t,rfl,_⟩:=h;rfl
 obtain ⟨v,n,e,t,rfl,hT,gt,k⟩:=h;refine ⟨_,(ae (dk (i:=1) rfl mP.nd rfl (Mb rfl) rP (aZ K rfl (pv 0)) (fun _ _ _ _=>⟨(aD (i:=0) rP.nd rfl (Mb rfl)),bw,(cp (fZ K rfl) rfl T.eM M1 (paF (pv 0) aa))⟩) rfl)
   (ae (bc (aA T.jf (y9 T) (hr.mono (by decide)) rfl (paF (pv 1) aa)))
   (ae (bc (aA T.eN (sM T) (hr.mono (by decide)) rfl (paF (pv 1) aa)))
   (ae (ao (i:=2) mP.nd rfl (Mb rfl) (aA T.m5 (Ej T) (hr.mono (by decide)) rfl (paF (pv 1) aa)))
   (ae (ao (i:=3) mP.nd rfl (Mb rfl) (aA T.lS (BS T) (hr.mono (by decide)) rfl (paF (pv 1) (paF (pv 2) aa))))
   (ae (bc (aA T.fw (uu T) (hr.mono (by decide)) rfl (paF (pv 1) aa)))
   (ah (aM (rM T.Cj (Hn T) (hr.mono (by decide)) rfl T.Cp T.CH .nil oA (paF (pv 1) (paF (pv 2) (paF (pv 3) aa)))))))))))),?_⟩
 have h1:=gt.len;have h3:=gt.le;walk_at "rd";refine ni hT (by omega) fun d H1 ps s1 fd fps tb1=>?_
 have hd':At K H1 (.ref d) t:=tb1.at;walk_at "rd";refine ⟨_,n,t,rfl,hd',gt.toSq,?_⟩;walk_at "rd";refine ⟨_,n,t,rfl,hd',gt.toGd,?_⟩;walk_at "rd";refine ⟨_,n,e,t,rfl,hd',gt,?_⟩;walk_at "rd";refine ⟨_,n,e,t,rfl,hd',gt,fun b H2 fb s2 hb=>?_⟩;walk_at "rd";refine ⟨_,n,e,t,rfl,Rep.mono s2 hd',gt,?_⟩;walk_at "rd";intro x dx hx hdx hne;have s3:ai H2 (upd (upd H2 dx (.own x)) x (.ins T.az dx [])):=fun b' o z=>by
  rw [au (aH z hx),au (aH z hdx)];exact z
 refine ⟨x,dx,_,_,_,t,rfl,ar,Rep.mono s3 (Rep.mono s2 hd'),fun H4 h4 k4=>⟨rfl,?_⟩⟩;have s4:ai H2 H4:=fun b' o z=>k4 b' o (s3 b' o z) (aH z hx);have fx:H x=none:=(s1.trans s2).free hx;refine k x H4 fx (s1.trans (s2.trans s4)) ⟨dx,d,b,ps,?_,(tb1.mono (s2.trans s4)).since fd fps,?_⟩
 ·rw [mz fx,h4,h1]
 ·rw [mz (s1.free fb)];exact s4 _ _ (lr hb)
end
def nv (ns:List Int) (k:Nat):Nat:=match ns[k]? with
 | some x=>(x % 2147483647).toNat
 | none=>0
theorem uL (ns:List Int) (k:Nat):nv ns k<2147483647:=by
 unfold nv
 split
 ·rename_i x _
  have:=Int.emod_lt_of_pos x (show (0:Int)<2147483647 by decide)
  have:=RO x (show (2147483647:Int)≠0 by decide)
  omega
 ·decide
structure ja (a b c s:Nat):Prop where
 a1:1<=a
 b1:1<=b
 c1:1<=c
 s1:1<=s
 s4:s<=4
 le:a * b * c * s<=23
def szL (l:List Nat):Bool:=match l with
 | [a,b,c,s]=>decide (1<=a/\1<=b/\1<=c/\1<=s/\s<=4/\a * b * c * s<=23)
 | _=>false
theorem J8 {l:List Nat} (h:szL l=true):∃ a b c s,l=[a,b,c,s]/\ja a b c s:=by
 match l,h with
 | [a,b,c,s],h =>
  have h':=of_decide_eq_true h;exact ⟨a,b,c,s,rfl,h'.1,h'.2.1,h'.2.2.1,h'.2.2.2.1,h'.2.2.2.2.1,h'.2.2.2.2.2⟩
theorem lW {x y:Nat} (h:1<=y):x<=x * y:=by
 have:=M5 x h;omega
theorem ja.ab {a b c s:Nat} (h:ja a b c s):a * b<=23:=by
 have h1:=h.le;have h2:a * b<=a * b * c:=lW h.c1;have h3:a * b * c<=a * b * c * s:=lW h.s1;omega
theorem ja.abc {a b c s:Nat} (h:ja a b c s):a * b * c<=23:=by
 have h1:=h.le;have h3:a * b * c<=a * b * c * s:=lW h.s1;omega
theorem ja.a23 {a b c s:Nat} (h:ja a b c s):a<=23:=by
 have h1:=h.ab;have h2:a<=a * b:=lW h.b1;omega
theorem ja.b23 {a b c s:Nat} (h:ja a b c s):b<=23:=by
 have h1:=h.ab;have h2:b<=b * a:=lW h.a1;rw [OP] at h2;omega
theorem ja.c23 {a b c s:Nat} (h:ja a b c s):c<=23:=by
 have h1:=h.abc;have h2:c<=c * (a * b):=lW (NI h.a1 h.b1);rw [OP] at h2;omega
theorem IL:GD.all szL=true:=by decide
theorem IP:∀ k,k<4->6<=([8,12,6,23]:List Nat).getD k 0/\([8,12,6,23]:List Nat).getD k 0<=23:=by decide
theorem GX:∀ k,k<6->1<=([2,1,2,3,2,4]:List Nat).getD k 0/\([2,1,2,3,2,4]:List Nat).getD k 0<=4:=by decide
theorem HP:∀ k,k<3->0<([12,276,6348]:List Nat).getD k 0/\([12,276,6348]:List Nat).getD k 0<1073741824:=by decide
theorem Li {fi se th st room top:Nat} (h1:1<=fi) (h2:1<=se) (h3:1<=th) (h4:1<=st) (h5:st<=4) (hfs:0<fi * se) (ht:th<=room / (fi * se)) (hr:room * st<=top) (h23:top<=23):ja fi se th st:=by
 refine ⟨h1,h2,h3,h4,h5,?_⟩;have e1:fi * se * th<=room:=M4 (M5 _ ht) (R1 room (fi * se));have e2:fi * se * th * st<=room * st:=P5 _ e1;omega
section
variable {P:Mp} {w:World} {K:LN} {mg:Str->Option Value} {base:Heap}
def Cd (K:LN):Sp:=fun vs H Q _=>∃ (v:V) (ns:List Int) (k:Nat),vs=[v,.int (k:Int)]/\At K H v ns/\Q (.int (nv ns k:Int)) H
theorem ff (T:Txt K mg):aI P w K mg base CX0 1 T.cS.f T.cS.fd ["_law_script","_law_k"] (Cd K):=by
 refine T.cS.ok BR (fun vs H Q E h=>?_) (fun cdv A outer s H vs Q E hr h=>?_)
 ·obtain ⟨v,ns,k,rfl,_⟩:=h;rfl
 obtain ⟨v,ns,k,rfl,hA,q⟩:=h;refine ⟨_,(ae (aX (ay ko (pv 1) (av (aW K rfl) rfl T.bI Ms (paF (pv 0) aa)) (aE _)) (ah (aM (ak aS (aq (aj K rfl) (pv 0) (pv 1) (fun _ _=>rfl)) ag))) aN)
   (ah (aM ag))),?_⟩
 walk_at "rd";refine dD hA ?_;walk_at "rd";refine aV (fun c=>?_) (fun c=>?_)
 ·have hk:k<ns.length:=by omega
  walk_at "rd";refine wq (n:=k) hA rfl (LO hk) ?_;walk_at "rd";refine DW (show (0:Int)<2147483647 by decide) ?_
  unfold nv at q;rw [LO hk] at q;have:=RO ns[k] (show (2147483647:Int)≠0 by decide)
  dsimp only at q;rw [Sf this] at q;exact q
 ·have hk:¬ k<ns.length:=by omega
  walk_at "rd";unfold nv at q;rw [Nr (by omega)] at q
  exact q
def Ac (K:LN):Sp:=fun vs H Q _=>∃ one two:Nat,vs=[.int (one:Int),.int (two:Int)]/\∀ v H' a b c s,ai H H'->ja a b c s->At K H' v [a,b,c,s]->Q v H'
theorem AO (T:Txt K mg):aI P w K mg base CX0 1 T.j7.f T.j7.fd ["_law_one_here","_law_two"] (Ac K):=by
 refine T.j7.ok cP (fun vs H Q E h=>?_) (fun cdv A outer s H vs Q E hr h=>?_)
 ·obtain ⟨one,two,rfl,_⟩:=h;rfl
 obtain ⟨one,two,rfl,q⟩:=h;refine ⟨_,(ae (ao (i:=2) cP.nd rfl (Mb rfl) (ak bz (pv 0) ag))
   (ae (aX (ay bY (ak aS (pv 0) ag) ag (aE _)) (ae (ao (i:=3) cP.nd rfl (Mb rfl) (bT (Bs [[2,2,1,3],[7,1,1,3],[5,1,1,4],[4,2,1,2],[3,3,1,2],[8,1,1,2]] (by trivial)).out))
   (ae (ao (i:=3) cP.nd rfl (Mb rfl) (ak nX (pv 3) (bT (Bs [[4,1,1,2],[2,2,2,2],[3,1,1,4],[2,2,1,2],[5,1,1,2],[9,1,1,2]] (by trivial)).out)))
   (ah (aM (aq (aj K rfl) (pv 3) (ak aS (pv 2) ag) (fun _ _=>rfl)))))) aN)
   (ae (ao (i:=4) cP.nd rfl (Mb rfl) (aq (aj K rfl) (bT (u5 [8,12,6,23] (by trivial)).out) (ak aS (pv 2) ag) (fun _ _=>rfl)))
   (ae (ao (i:=5) cP.nd rfl (Mb rfl) (aq (aj K rfl) (bT (u5 [2,1,2,3,2,4] (by trivial)).out) (ak aS (ak bz (pv 2) ag) ag) (fun _ _=>rfl)))
   (ae (ao (i:=6) cP.nd rfl (Mb rfl) (ak bz (pv 4) (pv 5)))
   (ae (ao (i:=7) cP.nd rfl (Mb rfl) (ak bf ag (ak aS (ak bz (pv 2) ag) (pv 6))))
   (ae (ao (i:=8) cP.nd rfl (Mb rfl) (ak bf ag (ak aS (pv 1) (ak bz (pv 6) (pv 7)))))
   (ae (ao (i:=9) cP.nd rfl (Mb rfl) (ak bf ag (ak aS (ak bz (pv 1) ag) (ak bz (pv 6) (ak bD (pv 7) (pv 8))))))
   (ah (aM (bT (paF (pv 7) (paF (pv 8) (paF (pv 9) (paF (pv 5) aa))))))))))))))),?_⟩
 walk_at "rx";generalize one / 3=num;walk_at "ifs";walk_at "rx";refine aV (fun _=>?_) (fun _=>?_)
 ·walk_at "rx";refine gC (K:=K) (l:=([[2,2,1,3],[7,1,1,3],[5,1,1,4],[4,2,1,2],[3,3,1,2],[8,1,1,2]]:List (List Nat))) (xF _ (by decide)) (by decide) fun d1 H1 f1 s1 g1=>?_
  walk_at "rx";refine gC (K:=K) (l:=([[4,1,1,2],[2,2,2,2],[3,1,1,4],[2,2,1,2],[5,1,1,2],[9,1,1,2]]:List (List Nat))) (xF _ (by decide)) (by decide) fun d2 H2 f2 s2 g2=>?_
  refine Lm (g1.mono s2).copy g2.copy (by decide) fun d3 H3 f3 s3 a3=>?_
  have a3':At K H3 (.ref d3) GD:=a3;walk_at "rx";have hm:num % 12<GD.length:=My _ (by decide)
  refine dQ (n:=num % 12) a3' rfl (getD_some [] hm) fun w hw=>?_;obtain ⟨a,b,c,s,e,ok⟩:=J8 (Mx.mp IL _ (LS (getD_some [] hm)));rw [e] at hw;exact q w H3 a b c s (s1.trans (s2.trans s3)) ok hw
 ·walk_at "rx";refine gC (K:=K) (l:=([8,12,6,23]:List Nat)) (pC _) (by decide) fun d1 H1 f1 s1 g1=>?_
  walk_at "rx";have hm4:num % 4<4:=My _ (by decide)
  refine bG g1.at (getD_some 0 (show num % 4<([8,12,6,23]:List Nat).length from hm4)) ?_;obtain ⟨h6,h23⟩:=IP (num % 4) hm4;generalize ([8,12,6,23]:List Nat).getD (num % 4) 0=top at h6 h23 ⊢;walk_at "rx";refine gC (K:=K) (l:=([2,1,2,3,2,4]:List Nat)) (pC _) (by decide) fun d2 H2 f2 s2 g2=>?_
  walk_at "rx";have hm6:num / 4 % 6<6:=My _ (by decide)
  refine bG g2.at (getD_some 0 (show num / 4 % 6<([2,1,2,3,2,4]:List Nat).length from hm6)) ?_;obtain ⟨t1,t4⟩:=GX (num / 4 % 6) hm6;generalize ([2,1,2,3,2,4]:List Nat).getD (num / 4 % 6) 0=st at t1 t4 ⊢;walk_at "rx";have hroom:0<top / st:=O4 (by omega) (by omega)
  have hrs:top / st * st<=top:=Nat.div_mul_le_self _ _;generalize top / st=room at hroom hrs ⊢;have hr23:room<=23:=by
   have:=Nat.le_mul_of_pos_right room (show 0<st by omega)
   omega
  walk_at "rx";have hf:1+num / 24 % room<=room:=by
   have:=My (num / 24) hroom;omega
  have hf1:1<=1+num / 24 % room:=by omega
  generalize 1+num / 24 % room=fi at hf hf1 ⊢;walk_at "rx";have h2:0<room / fi:=O4 hf hf1;refine Al h2 ?_;walk_at "rx";have hse:1+two % (room / fi)<=room / fi:=by
   have:=My two h2;omega
  have hse1:1<=1+two % (room / fi):=by omega
  generalize 1+two % (room / fi)=se at hse hse1 ⊢;have hfs:fi * se<=room:=M4 (M5 _ hse) (R1 room fi);have hfs1:0<fi * se:=NI hf1 hse1;walk_at "rx";have h3:0<room / (fi * se):=O4 hfs hfs1;refine Al h3 ?_;walk_at "rx";have hth:1+two / 23 % (room / (fi * se))<=room / (fi * se):=by
   have:=My (two / 23) h3;omega
  have hth1:1<=1+two / 23 % (room / (fi * se)):=by omega
  generalize 1+two / 23 % (room / (fi * se))=th at hth hth1 ⊢;refine eQ ?_;walk_at "rx";refine ⟨small (by show 4<=1000;decide),fun p hp=>q _ _ fi se th st (s1.trans (s2.trans (aG hp _))) (Li hf1 hse1 hth1 t1 t4 hfs1 hth hrs h23) ?_⟩
  exact ⟨p,_,rfl,SqL.of ar,.cons rfl (.cons rfl (.cons rfl (.cons rfl .nil)))⟩
def KJ (K:LN) (H:Hp) (v:V) (x a b s:Nat) (d:Addr) (n:Nat):St->Hp->Prop:=fun σ' H'=>σ'=[some v,some (.int (x:Int)),some (.ref d)]/\ai H H'/\∃ l:List Nat,Gr K H' d l/\l≠[]/\l.length<=n/\∀ k∈l,k<5/\fW a b s k=true
theorem KJ.put {H H':Hp} {v:V} {x a b s n k:Nat} {d:Addr} {σ':St} {N:St->Hp->Prop} (hd:H d=none) (hn:n<=1000) (h:KJ K H v x a b s d n σ' H') (h5:k<5) (hk:fW a b s k=true) (hN:∀ H'',KJ K H v x a b s d (n+1) σ' H''->N σ' H'') :
  w6 (.ref d) [.int (k:Int)] H' fun _ H1=>N σ' H1:=by
 obtain ⟨e,s1,l,g,ne,ll,hl⟩:=h;refine md (b:=k) g (by omega) rfl fun H3 g3 k3 _=>hN H3 ⟨e,ai.but hd s1 k3,_,g3,by simp,by rw [Mm];simp;omega,fun y hy=>?_⟩
 rcases MD.mp hy with z|z
 ·exact hl y z
 ·rw [Ma.mp z];exact ⟨h5,hk⟩
theorem KJ.skip {H H':Hp} {v:V} {x a b s n:Nat} {d:Addr} {σ':St} (h:KJ K H v x a b s d n σ' H'):KJ K H v x a b s d (n+1) σ' H':=by
 obtain ⟨e,s1,l,g,ne,ll,hl⟩:=h;exact ⟨e,s1,l,g,ne,by omega,hl⟩
theorem KJ.ty {H H':Hp} {v:V} {x a b s n:Nat} {d:Addr} {σ':St} (h:KJ K H v x a b s d n σ' H'):tyV K "list" (.ref d) H':=by
 obtain ⟨e,s1,l,g,_⟩:=h;exact g.ty
theorem Le {a b s:Nat} (h1:a=b) (h2:s % 2=0):fW a b s 1=true:=by subst h1;simp [fW,h2]
theorem Lv {a b s:Nat} (h1:a=b) (h2:s % 3=0):fW a b s 2=true:=by subst h1;simp [fW,h2]
theorem Lq {a b s:Nat} (h1:a % b=0) (h2:1<b) (h3:s % b=0):fW a b s 3=true:=by simp [fW,h1,h2,h3]
theorem Lc {a b s:Nat} (h1:a % 2=0) (h2:b % 2=0) (h3:s % 2=0):fW a b s 4=true:=by simp [fW,h1,h2,h3]
def BY (K:LN):Sp:=fun vs H Q _=>∃ (v:V) (x a b c s:Nat),vs=[v,.int (x:Int)]/\ja a b c s/\At K H v [a,b,c,s]/\∀ k H',ai H H'->k<5->fW a b s k=true->Q (.int (k:Int)) H'
theorem BQ (T:Txt K mg):aI P w K mg base CX0 1 T.lu.f T.lu.fd ["_law_sizes_here","_law_number"] (BY K):=by
 refine T.lu.ok uC (fun vs H Q E h=>?_) (fun cdv A outer s H vs Q E hr h=>?_)
 ·obtain ⟨v,x,a,b,c,s,rfl,_⟩:=h;rfl
 obtain ⟨v,x,a,b,c,s,rfl,sz,hS,q⟩:=h;refine ⟨_,(ae (ao (i:=2) uC.nd rfl (Mb rfl) (bT (paF ag aa)))
   (ae (aX (PW.pt (iH (ay bY (aq (aj K rfl) (pv 0) ag (fun _ _=>rfl)) (aq (aj K rfl) (pv 0) ag (fun _ _=>rfl)) (aE _)) (iQ (ay bY (ak aS (aq (aj K rfl) (pv 0) ag (fun _ _=>rfl)) ag) ag (aE _))))) (ah (bc (fG K rfl ME MS MT cX (pv 2) (paF ag aa)))) aN)
   (ae (aX (PW.pt (iH (ay bY (aq (aj K rfl) (pv 0) ag (fun _ _=>rfl)) (aq (aj K rfl) (pv 0) ag (fun _ _=>rfl)) (aE _)) (iQ (ay bY (ak aS (aq (aj K rfl) (pv 0) ag (fun _ _=>rfl)) ag) ag (aE _))))) (ah (bc (fG K rfl ME MS MT cX (pv 2) (paF ag aa)))) aN)
   (ae (aX (PW.pt (iH (ay bY (ak aS (aq (aj K rfl) (pv 0) ag (fun _ _=>rfl)) (aq (aj K rfl) (pv 0) ag (fun _ _=>rfl))) ag (aE _)) (iH (ay iD (aq (aj K rfl) (pv 0) ag (fun _ _=>rfl)) ag (aE _)) (iQ (ay bY (ak aS (aq (aj K rfl) (pv 0) ag (fun _ _=>rfl)) (aq (aj K rfl) (pv 0) ag (fun _ _=>rfl))) ag (aE _)))))) (ah (bc (fG K rfl ME MS MT cX (pv 2) (paF ag aa)))) aN)
   (ae (aX (PW.pt (iH (ay bY (ak aS (aq (aj K rfl) (pv 0) ag (fun _ _=>rfl)) ag) ag (aE _)) (iH (ay bY (ak aS (aq (aj K rfl) (pv 0) ag (fun _ _=>rfl)) ag) ag (aE _)) (iQ (ay bY (ak aS (aq (aj K rfl) (pv 0) ag (fun _ _=>rfl)) ag) ag (aE _)))))) (ah (bc (fG K rfl ME MS MT cX (pv 2) (paF ag aa)))) aN)
   (ah (aM (aq (aj K rfl) (pv 2) (ak aS (pv 1) (av (aW K rfl) rfl T.bI Ms (paF (pv 2) aa))) (fun _ _=>rfl))))))))),?_⟩
 have b1:=sz.b1;walk_at "rx";refine gC (K:=K) (l:=([0]:List Nat)) (by walk_at "wr") (by decide) fun d H1 f1 s1 g1=>?_
 have j1:KJ K H v x a b s d 1 [some v,some (.int (x:Int)),some (.ref d)] H1:=⟨rfl,s1,_,g1,by simp,by simp,fun k hk=>by rw [Ma.mp hk];exact ⟨by decide,rfl⟩⟩
 have hS1:=Rep.mono s1 hS;walk_at "rx";refine jB (KJ K H v x a b s d 2) (fun N hN=>?_) ?_
 ·walk_at "rx";refine aV (fun c1=>?_) (fun _=>?_)
  ·walk_at "rx";refine aV (fun c2=>?_) (fun _=>?_)
   ·walk_at "rx";refine ⟨j1.ty,?_⟩;walk_at "rx";exact KJ.put f1 (by decide) j1 (by decide) (Le c1 c2) fun H2 z=>hN _ _ z
   ·walk_at "rx";exact hN _ _ j1.skip
  ·walk_at "10";exact hN _ _ j1.skip
 rintro σ2 H2 j2;obtain ⟨rfl,s2,z2⟩:=id j2;have hS2:=Rep.mono s2 hS;walk_at "rx";refine jB (KJ K H v x a b s d 3) (fun N hN=>?_) ?_
 ·walk_at "rx";refine aV (fun c1=>?_) (fun _=>?_)
  ·walk_at "rx";refine aV (fun c2=>?_) (fun _=>?_)
   ·walk_at "rx";refine ⟨j2.ty,?_⟩;walk_at "rx";exact KJ.put f1 (by decide) j2 (by decide) (Lv c1 c2) fun H2 z=>hN _ _ z
   ·walk_at "rx";exact hN _ _ j2.skip
  ·walk_at "10";exact hN _ _ j2.skip
 rintro σ3 H3 j3;obtain ⟨rfl,s3,z3⟩:=id j3;have hS3:=Rep.mono s3 hS;walk_at "rx";refine jB (KJ K H v x a b s d 4) (fun N hN=>?_) ?_
 ·walk_at "rx";refine aV (fun c1=>?_) (fun _=>?_)
  ·walk_at "rx";refine aV (fun c2=>?_) (fun _=>?_)
   ·walk_at "rx";refine aV (fun c3=>?_) (fun _=>?_)
    ·walk_at "rx";refine ⟨j3.ty,?_⟩;walk_at "rx";exact KJ.put f1 (by decide) j3 (by decide) (Lq c1 c2 c3) fun H2 z=>hN _ _ z
    ·walk_at "rx";exact hN _ _ j3.skip
   ·walk_at "10";exact hN _ _ j3.skip
  ·walk_at "10";exact hN _ _ j3.skip
 rintro σ4 H4 j4;obtain ⟨rfl,s4,z4⟩:=id j4;have hS4:=Rep.mono s4 hS;walk_at "rx";refine jB (KJ K H v x a b s d 5) (fun N hN=>?_) ?_
 ·walk_at "rx";refine aV (fun c1=>?_) (fun _=>?_)
  ·walk_at "rx";refine aV (fun c2=>?_) (fun _=>?_)
   ·walk_at "rx";refine aV (fun c3=>?_) (fun _=>?_)
    ·walk_at "rx";refine ⟨j4.ty,?_⟩;walk_at "rx";exact KJ.put f1 (by decide) j4 (by decide) (Lc c1 c2 c3) fun H2 z=>hN _ _ z
    ·walk_at "rx";exact hN _ _ j4.skip
   ·walk_at "10";exact hN _ _ j4.skip
  ·walk_at "10";exact hN _ _ j4.skip
 rintro σ5 H5 ⟨rfl,s5,l,g5,ne,ll,hl⟩;have ha5:=g5.at;have hl0:0<l.length:=ML.mpr ne;walk_at "rx";have hm:x % l.length<l.length:=My _ hl0;refine bG ha5 (getD_some 0 hm) ?_;have hk:=hl _ (LS (getD_some 0 hm));exact q _ H5 s5 hk.1 hk.2
def B7 (K:LN):Sp:=fun vs H Q _=>∃ m s x:Nat,vs=[.int (m:Int),.int (s:Int),.int (x:Int)]/\1<=m/\m<=23/\1<=s/\s<=4/\∀ u H',ai H H'->u∈unitsOf m s->Q (.int (u:Int)) H'
theorem B1 (T:Txt K mg):aI P w K mg base CX0 1 T.lB.f T.lB.fd ["_law_many","_law_steps","_law_number"] (B7 K):=by
 refine T.lB.ok gv (fun vs H Q E h=>?_) (fun cdv A outer s H vs Q E hr h=>?_)
 ·obtain ⟨m,s,x,rfl,_⟩:=h;rfl
 obtain ⟨m,s,x,rfl,m1,m23,s1,s4,q⟩:=h;refine ⟨_,(ae (ao (i:=3) gv.nd rfl (Mb rfl) (bT aa))
   (ae (bE Ml rfl (aY rfl T.bj (paF (pv 0) aa)) (aD (i:=4) gv.nd rfl (Mb rfl)) (ae (ao (i:=5) gv.nd rfl (Mb rfl) ag)
   (ae (bE Ml rfl (aY rfl T.bj (paF (pv 1) aa)) (aD (i:=6) gv.nd rfl (Mb rfl)) (ah (ao (i:=5) gv.nd rfl (Mb rfl) (ak aS (ak bD (pv 5) (pv 4)) (pv 0)))))
   (ah (aX (ay bY (pv 5) (ak aS ag (pv 0)) (aE _)) (ah (bc (fG K rfl ME MS MT cX (pv 3) (paF (pv 4) aa)))) aN)))))
   (ae (aX (PW.pt (iH (ay iD (ak bD (pv 0) (pv 1)) ag (aE _)) (iQ (ay iD (av (aW K rfl) rfl T.bI Ms (paF (pv 3) aa)) ag (aE _))))) (ah (ao (i:=3) gv.nd rfl (Mb rfl) (Au (AE K rfl) (pv 3) (CN ag) CM))) aN)
   (ah (aM (aq (aj K rfl) (pv 3) (ak aS (pv 2) (av (aW K rfl) rfl T.bI Ms (paF (pv 3) aa))) (fun _ _=>rfl))))))),?_⟩
 walk_at "rx";refine gC (K:=K) (l:=([]:List Nat)) mW (by decide) fun d H1 f1 e1 g1=>?_
 walk_at "rx";refine cq (n:=m) rfl (by omega) (fun i σ H'=>ai H H'/\Gr K H' d ((LZ i).filter fun u=>Oj (pw u m s) (1 % m))/\∃ y z k,σ=[some (.int (m:Int)),some (.int (s:Int)),some (.int (x:Int)),some (.ref d),y,z,k]) ⟨e1,g1,_,_,_,rfl⟩ ?_ ?_
 ·rintro i σ' H' hi ⟨e2,g2,y,z,k,rfl⟩;walk_at "rx";refine cq (n:=s) rfl (by omega) (fun j σ H2=>H2=H'/\∃ k,σ=[some (.int (m:Int)),some (.int (s:Int)),some (.int (x:Int)),some (.ref d),some (.int (i:Int)),some (.int (pw i m j:Int)),k]) ⟨rfl,_,rfl⟩ ?_ ?_
  ·rintro j σ'' H2 hj ⟨rfl,k,rfl⟩;walk_at "rx";exact ⟨rfl,_,rfl⟩
  ·rintro σ'' H2 ⟨rfl,k,rfl⟩;walk_at "2";have hl:((LZ i).filter fun u=>Oj (pw u m s) (1 % m)).length<=100000:=by
    have:=Ov (fun u=>Oj (pw u m s) (1 % m)) (LZ i);rw [Mt] at this;omega
   refine aV (fun c=>?_) (fun c=>?_)
   ·walk_at "rx";refine ⟨g2.ty,?_⟩;walk_at "rx";refine md (b:=i) g2 hl rfl fun H3 g3 k3 _=>?_;refine ⟨ai.but f1 e2 k3,?_,_,_,_,rfl⟩;rw [vV,if_pos c];exact g3
   ·walk_at "rx";refine ⟨e2,?_,_,_,_,rfl⟩;rw [vV,if_neg c];exact g2
 ·rintro σ' H2 ⟨e2,g2,y,z,k,rfl⟩;have g2':Gr K H2 d (unitsOf m s):=g2;have a2:=g2'.at;have ne:=Hj m1 m23 s1 s4;have ul:(unitsOf m s).length<=23:=by
   have:=Ov (fun u=>Oj (pw u m s) (1 % m)) (LZ m);rw [Mt] at this;exact M4 this m23
  have u0:0<(unitsOf m s).length:=ML.mpr ne;walk_at "rx";refine jB (fun σ' H'=>ai H H'/\∃ (p:Addr) (l:List Nat),At K H' (.ref p) l/\0<l.length/\(∀ u∈l,u∈unitsOf m s)/\∃ y z k,σ'=[some (.int (m:Int)),some (.int (s:Int)),some (.int (x:Int)),some (.ref p),y,z,k]) (fun N hN=>?_) ?_
  ·have no:N [some (.int (m:Int)),some (.int (s:Int)),some (.int (x:Int)),some (.ref d),y,z,k] H2:=hN _ _ ⟨e2,d,_,a2,u0,fun _ z=>z,_,_,_,rfl⟩;walk_at "rx";refine aV (fun c1=>?_) (fun _=>?_)
   ·walk_at "rx";refine aV (fun c2=>?_) (fun _=>?_)
    ·walk_at "rx";refine Jb a2 fun p H3 e3 _ a3=>?_;walk_at "rx";have ec:cut (unitsOf m s) (some ((1:Nat):Int)) none=(unitsOf m s).drop 1:=Hv _;rw [ec] at a3;exact hN _ _ ⟨e2.trans e3,p,_,a3,by rw [P1];omega,fun u hu=>OX hu,_,_,_,rfl⟩
    ·walk_at "rx";exact no
   ·walk_at "10";exact no
  ·rintro σ3 H3 ⟨e3,p,l,a3,l0,hl,y,z,k,rfl⟩;walk_at "rx";have hm:x % l.length<l.length:=My _ l0;refine bG a3 (getD_some 0 hm) ?_;exact q _ H3 e3 (hl _ (LS (getD_some 0 hm)))
theorem Par.sz {a b c s kind u0 u1 u2:Nat} (h:Par a b c s kind u0 u1 u2):ja a b c s:=⟨h.a1,h.b1,h.c1,h.s1,h.s4,h.le⟩
def zk (K:LN):Sp:=fun vs H Q _=>∃ (v u:V) (p kind a b c s u0 u1 u2:Nat),vs=[.int (p:Int),v,.int (kind:Int),u]/\Par a b c s kind u0 u1 u2/\At K H v [a,b,c,s]/\At K H u [u0,u1,u2]/\p<a * b * c/\Q (.int (fK a b c kind u0 u1 u2 p:Int)) H
theorem yX (T:Txt K mg):aI P w K mg base CX0 1 T.ju.f T.ju.fd ["_law_place","_law_sizes_here","_law_kind_here","_law_units"] (zk K):=by
 refine T.ju.ok cI (fun vs H Q E h=>?_) (fun cdv A outer s H vs Q E hr h=>?_)
 ·obtain ⟨v,u,p,kind,a,b,c,s,u0,u1,u2,rfl,_⟩:=h;rfl
 obtain ⟨v,u,p,kind,a,b,c,s,u0,u1,u2,rfl,pr,hS,hU,hp,q⟩:=h;refine ⟨_,(ae (ao (i:=4) cI.nd rfl (Mb rfl) (ak aS (pv 0) (aq (aj K rfl) (pv 1) ag (fun _ _=>rfl))))
   (ae (ao (i:=5) cI.nd rfl (Mb rfl) (ak aS (ak bz (pv 0) (aq (aj K rfl) (pv 1) ag (fun _ _=>rfl))) (aq (aj K rfl) (pv 1) ag (fun _ _=>rfl))))
   (ae (ao (i:=6) cI.nd rfl (Mb rfl) (ak aS (ak bD (ak bz (pv 0) (ak bD (aq (aj K rfl) (pv 1) ag (fun _ _=>rfl)) (aq (aj K rfl) (pv 1) ag (fun _ _=>rfl)))) (aq (aj K rfl) (pv 3) ag (fun _ _=>rfl))) (aq (aj K rfl) (pv 1) ag (fun _ _=>rfl))))
   (ae (aX (ay bY (pv 2) ag (aE _)) (ah (E6 (i:=4) (j:=5) rfl cI.nd rfl rfl (by decide) rfl rfl (paF (pv 5) (paF (pv 4) aa)) rfl)) (ah (aX (ay bY (pv 2) ag (aE _)) (ah (E6 (i:=4) (j:=5) rfl cI.nd rfl rfl (by decide) rfl rfl (paF (ak aS (ak pS ag (pv 5)) (aq (aj K rfl) (pv 1) ag (fun _ _=>rfl))) (paF (ak aS (ak pS (pv 4) (pv 5)) (aq (aj K rfl) (pv 1) ag (fun _ _=>rfl))) aa)) rfl)) (ah (aX (ay bY (pv 2) ag (aE _)) (ah (ao (i:=5) cI.nd rfl (Mb rfl) (ak aS (ak bf (pv 5) (pv 4)) (aq (aj K rfl) (pv 1) ag (fun _ _=>rfl))))) (ah (aX (ay bY (pv 2) ag (aE _)) (ah (ao (i:=4) cI.nd rfl (Mb rfl) (ak aS (ak bf (pv 4) (ak bD (ak bz (aq (aj K rfl) (pv 1) ag (fun _ _=>rfl)) ag) (pv 5))) (aq (aj K rfl) (pv 1) ag (fun _ _=>rfl))))) (ae (ao (i:=4) cI.nd rfl (Mb rfl) (ak aS (ak bD (pv 4) (aq (aj K rfl) (pv 3) ag (fun _ _=>rfl))) (aq (aj K rfl) (pv 1) ag (fun _ _=>rfl))))
   (ah (ao (i:=5) cI.nd rfl (Mb rfl) (ak aS (ak bD (pv 5) (aq (aj K rfl) (pv 3) ag (fun _ _=>rfl))) (aq (aj K rfl) (pv 1) ag (fun _ _=>rfl)))))))))))))
   (ah (aM (ak bf (pv 4) (ak bD (aq (aj K rfl) (pv 1) ag (fun _ _=>rfl)) (ak bf (pv 5) (ak bD (aq (aj K rfl) (pv 1) ag (fun _ _=>rfl)) (pv 6))))))))))),?_⟩
 have a1:=pr.a1;have b1:=pr.b1;have c1:=pr.c1;have a23:=pr.sz.a23;have b23:=pr.sz.b23;have c23:=pr.sz.c23;have ab23:=pr.sz.ab;have ab0:0<a * b:=NI a1 b1;have lu0:=(tK.mp pr.v0).1;have lu1:=(tK.mp pr.v1).1;have lu2:=(tK.mp pr.v2).1;walk_at "rx";refine jB (fun σ' H'=>H'=H/\∃ X Y:Nat,X+a * (Y+b * (p / (a * b) * u2 % c))=fK a b c kind u0 u1 u2 p/\σ'=[some (.int (p:Int)),some v,some (.int (kind:Int)),some u,some (.int (X:Int)),some (.int (Y:Int)),some (.int ((p / (a * b) * u2 % c:Nat):Int))]) (fun N hN=>?_) ?_
 ·walk_at "rx";refine aV (fun k1=>?_) (fun k1=>?_)
  ·walk_at "rx";refine hN _ _ ⟨rfl,p / a % b,p % a,?_,rfl⟩;subst k1;rfl
  ·walk_at "ifs";walk_at "rx";refine aV (fun k2=>?_) (fun k2=>?_)
   ·have eab:a=b:=by
     have:=pr.kind;subst k2;simp [fW] at this;exact this.1
    have hy:p / a % b<a:=by rw [eab];exact My _ b1
    have hx:p % a<a:=My _ a1;walk_at "rx";refine DW (by omega) ?_
    walk_at "rx";refine DW (by omega) ?_
    walk_at "rx";refine hN _ _ ⟨rfl,(a - p / a % b) % a,(p % a+a - p / a % b) % a,?_,?_⟩
    ·subst k2;rfl
    ·have e1:(((0:Nat):Int) - ((p / a % b:Nat):Int)) % (a:Int)=(((a - p / a % b) % a:Nat):Int):=by
      have z:(((a - p / a % b) % a:Nat):Int)=((a - p / a % b:Nat):Int) % (a:Int):=by push_cast;rfl
      rw [z,show ((a - p / a % b:Nat):Int)=(((0:Nat):Int) - ((p / a % b:Nat):Int))+(a:Int) * 1 by omega,Ql]
     have e2:(((p % a:Nat):Int) - ((p / a % b:Nat):Int)) % (a:Int)=(((p % a+a - p / a % b) % a:Nat):Int):=by
      have z:(((p % a+a - p / a % b) % a:Nat):Int)=((p % a+a - p / a % b:Nat):Int) % (a:Int):=by push_cast;rfl
      rw [z,show ((p % a+a - p / a % b:Nat):Int)=(((p % a:Nat):Int) - ((p / a % b:Nat):Int))+(a:Int) * 1 by omega,Ql]
     rw [<- e1,<- e2];rfl
   ·walk_at "ifs";walk_at "rx";refine aV (fun k3=>?_) (fun k3=>?_)
    ·walk_at "rx";refine hN _ _ ⟨rfl,p % a,(p / a % b+p % a) % b,?_,rfl⟩;subst k3;rfl
    ·walk_at "ifs";walk_at "rx";refine aV (fun k4=>?_) (fun k4=>?_)
     ·walk_at "rx";refine hN _ _ ⟨rfl,(p % a+a / 2 * (p / a % b)) % a,p / a % b,?_,rfl⟩;subst k4;rfl
     ·have k0:kind=0:=by have:=pr.k5;omega
      walk_at "rx";refine hN _ _ ⟨rfl,p % a * u0 % a,p / a % b * u1 % b,?_,rfl⟩;subst k0;rfl
 ·rintro σ' H' ⟨rfl,X,Y,e,rfl⟩;walk_at "rx";rw [e];exact q
def CQ (K:LN):Sp:=fun vs H Q _=>∃ (v:V) (p r a b c s:Nat),vs=[.int (p:Int),.int (r:Int),v]/\ja a b c s/\At K H v [a,b,c,s]/\Q (.int (lsum a b c p r:Int)) H
theorem vF (T:Txt K mg):aI P w K mg base CX0 1 T.lg.f T.lg.fd ["_law_one_here","_law_other","_law_sizes_here"] (CQ K):=by
 refine T.lg.ok lR (fun vs H Q E h=>?_) (fun cdv A outer s H vs Q E hr h=>?_)
 ·obtain ⟨v,p,r,a,b,c,s,rfl,_⟩:=h;rfl
 obtain ⟨v,p,r,a,b,c,s,rfl,sz,hS,q⟩:=h;refine ⟨_,(ae (ao (i:=3) lR.nd rfl (Mb rfl) (ak bD (aq (aj K rfl) (pv 2) ag (fun _ _=>rfl)) (aq (aj K rfl) (pv 2) ag (fun _ _=>rfl))))
   (ae (ao (i:=4) lR.nd rfl (Mb rfl) (ak aS (ak bf (pv 0) (pv 1)) (aq (aj K rfl) (pv 2) ag (fun _ _=>rfl))))
   (ae (ao (i:=5) lR.nd rfl (Mb rfl) (ak aS (ak bf (ak bz (pv 0) (aq (aj K rfl) (pv 2) ag (fun _ _=>rfl))) (ak bz (pv 1) (aq (aj K rfl) (pv 2) ag (fun _ _=>rfl)))) (aq (aj K rfl) (pv 2) ag (fun _ _=>rfl))))
   (ae (ao (i:=6) lR.nd rfl (Mb rfl) (ak aS (ak bf (ak bz (pv 0) (pv 3)) (ak bz (pv 1) (pv 3))) (aq (aj K rfl) (pv 2) ag (fun _ _=>rfl))))
   (ah (aM (ak bf (ak bf (pv 4) (ak bD (aq (aj K rfl) (pv 2) ag (fun _ _=>rfl)) (pv 5))) (ak bD (pv 3) (pv 6))))))))),?_⟩
 have a1:=sz.a1;have b1:=sz.b1;have c1:=sz.c1;have a23:=sz.a23;have b23:=sz.b23;have ab23:=sz.ab;have ab0:0<a * b:=NI a1 b1;walk_at "rx";exact q
def Bq (K:LN):Sp:=fun vs H Q _=>∃ n x:Nat,vs=[.int (n:Int),.int (x:Int)]/\n<=23/\x<2147483647/\∀ (d:Addr) (H':Hp) (π:List Nat),ai H H'->π.Perm (LZ n)->At K H' (.ref d) π->Q (.ref d) H'
theorem zY (T:Txt K mg):aI P w K mg base CX0 1 T.ka.f T.ka.fd ["_law_many","_law_number"] (Bq K):=by
 refine T.ka.ok lD (fun vs H Q E h=>?_) (fun cdv A outer s H vs Q E hr h=>?_)
 ·obtain ⟨n,x,rfl,_⟩:=h;rfl
 obtain ⟨n,x,rfl,n23,hx,q⟩:=h;refine ⟨_,(ae (ao (i:=2) lD.nd rfl (Mb rfl) (bT aa))
   (ae (bE Ml rfl (aY rfl T.bj (paF (pv 0) aa)) (aD (i:=3) lD.nd rfl (Mb rfl)) (ae (ao (i:=1) lD.nd rfl (Mb rfl) (ak aS (ak bf (ak bf (ak bf (ak bD (pv 1) (pv 1)) (ak bD ag (pv 1))) (pv 3)) ag) ag))
   (ah (bc (fG K rfl ME PySem.F.slot_list_insert PySem.F.type_list_insert FN (pv 2) (paF (ak aS (pv 1) (ak bf (pv 3) ag)) (paF (pv 3) aa)))))))
   (ah (aM (pv 2))))),?_⟩
 walk_at "rx";refine gC (K:=K) (l:=([]:List Nat)) mW (by decide) fun d H1 f1 e1 g1=>?_
 walk_at "rx";refine cq (n:=n) rfl (by omega) (fun i σ H'=>ai H H'/\∃ (π:List Nat) (y:Nat) (k:Option V),π.Perm (LZ i)/\y<2147483647/\Gr K H' d π/\σ=[some (.int (n:Int)),some (.int (y:Int)),some (.ref d),k]) ⟨e1,[],x,_,.refl _,hx,g1,rfl⟩ ?_ ?_
 ·rintro i σ' H' hi ⟨e2,π,y,k,hp,hy,g2,rfl⟩;have hl:π.length=i:=by rw [hp.length_eq,Mt]
  walk_at "rx";have hy2:(y * y+48271 * y+i+11) % 2147483647<2147483647:=My _ (by decide)
  generalize (y * y+48271 * y+i+11) % 2147483647=y2 at hy2 ⊢;refine ⟨g2.ty,?_⟩;walk_at "rx";have hk:y2 % (i+1)<i+1:=My _ (by omega)
  refine G3 (b:=i) g2 (show y2 % (i+1)<=π.length by omega) (by omega) rfl fun H3 g3 k3=>?_
  exact ⟨ai.but f1 e2 k3,_,y2,_,Ht hp,hy2,g3,rfl⟩
 ·rintro σ' H2 ⟨e2,π,y,k,hp,hy,g2,rfl⟩;walk_at "rx";exact q d H2 π e2 hp g2.at
theorem km {β:Type} (f:Nat->β) {n i:Nat} (h:i<n):((LZ n).map f)[i]?=some (f i):=by simp [h]
def Bx (K:LN):Sp:=fun vs H Q _=>∃ (v tv:V) (a b c s e:Nat) (f:Nat->Nat),vs=[v,tv,.int (e:Int)]/\ja a b c s/\Tn (a * b * c) (lsum a b c) f s e/\At K H v [a,b,c,s]/\At K H tv ((LZ (a * b * c)).map f) /\
 ∀ d H',ai H H'->At K H' (.ref d) (mkT (a * b * c * s) (cyc (a * b * c) (lsum a b c) f s e))->Q (.ref d) H'
theorem BW (T:Txt K mg):aI P w K mg base CX0 2 T.lH.f T.lH.fd ["_law_sizes_here","_law_turn","_law_end"] (Bx K):=by
 refine T.lH.ok cG (fun vs H Q E h=>?_) (fun cdv A outer s H vs Q E hr h=>?_)
 ·obtain ⟨v,tv,a,b,c,s,e,f,rfl,_⟩:=h;rfl
 obtain ⟨v,tv,a,b,c,s,e,f,rfl,sz,tn,hS,hT,q⟩:=h;refine ⟨_,(ae (ao (i:=3) cG.nd rfl (Mb rfl) (av (aW K rfl) rfl T.bI Ms (paF (pv 1) aa)))
   (ae (ao (i:=4) cG.nd rfl (Mb rfl) (bT aa))
   (ae (ao (i:=5) cG.nd rfl (Mb rfl) (cp (mJ rfl) rfl T.eM M1 (paF (cp ph rfl T.bj Pt (paF (pv 3) aa)) aa)))
   (ae (bE Ml rfl (aY rfl T.bj (paF (aq (aj K rfl) (pv 0) ag (fun _ _=>rfl)) aa)) (aD (i:=6) cG.nd rfl (Mb rfl)) (ae (bE Ml rfl (aY rfl T.bj (paF (pv 3) aa)) (aD (i:=7) cG.nd rfl (Mb rfl)) (ae (ao (i:=8) cG.nd rfl (Mb rfl) (bT aa))
   (ae (bE Ml rfl (aY rfl T.bj (paF (aq (aj K rfl) (pv 0) ag (fun _ _=>rfl)) aa)) (aD (i:=9) cG.nd rfl (Mb rfl)) (ah (bE Ml rfl (aY rfl T.bj (paF (pv 3) aa)) (aD (i:=10) cG.nd rfl (Mb rfl)) (ae (ao (i:=11) cG.nd rfl (Mb rfl) (aA T.lg (vF T) (hr.mono (by decide)) rfl (paF (pv 7) (paF (aq (aj K rfl) (pv 5) (pv 10) (fun _ _=>rfl)) (paF (pv 0) aa)))))
   (ae (aX (ay tV (ak bf (pv 6) (pv 9)) (aq (aj K rfl) (pv 0) ag (fun _ _=>rfl)) (aE _)) (ah (ao (i:=11) cG.nd rfl (Mb rfl) (aA T.lg (vF T) (hr.mono (by decide)) rfl (paF (pv 11) (paF (pv 2) (paF (pv 0) aa)))))) aN)
   (ah (bc (fG K rfl ME MS MT cX (pv 8) (paF (ak bf (pv 11) (ak bD (pv 3) (ak aS (ak bf (pv 6) (pv 9)) (aq (aj K rfl) (pv 0) ag (fun _ _=>rfl))))) aa)))))))))
   (ah (bc (fG K rfl ME MS MT cX (pv 4) (paF (pv 8) aa)))))))
   (ah (dk (i:=5) rfl cG.nd rfl (Mb rfl) si (aZ K rfl (pv 5)) (fun _ _ _ _=>⟨(aD (i:=0) si.nd rfl (Mb rfl)),bw,(aq (aj K rfl) (pv 1) (pv 0) (fun _ _=>rfl))⟩) rfl))))
   (ah (aM (pv 4))))))),?_⟩
 have s1:=sz.s1;have s4:=sz.s4;have hle:=sz.le;have m23:=sz.abc;have m0:=tn.pos;have hlen:((LZ (a * b * c)).map f).length=a * b * c:=by simp
 walk_at "rx";rw [hlen];generalize hm:a * b * c=m at hle m23 m0 hlen tn hT q ⊢;generalize hF:cyc m (lsum a b c) f s e=F at q ⊢;refine gC (K:=K) (l:=([]:List (List Nat))) mW (by decide) fun d H1 fd e1 g1=>?_
 walk_at "rx";refine xu fun pr hpr=>?_;walk_at "rx";refine pd (K:=K) ar (by omega) fun dl H2 fl e2 gl=>?_
 have e12:ai H H2:=e1.trans ((aG hpr _).trans e2);have g2:Gr K H2 d ([]:List (List Nat)):=g1.mono ((aG hpr _).trans e2);have hdl:dl≠d:=fun z=>by
  obtain ⟨ys,hy⟩:=g1.is;have:(upd H1 pr (.rng 0 (m:Int))) d=some (.lst ys):=by rw [au (aH hy hpr)];exact hy
  rw [z,this] at fl;cases fl
 have hS2:=Rep.mono e12 hS;walk_at "rx";refine cq (n:=s) rfl (by omega) (fun i σ H'=>ai H H'/\Gr K H' d ((mkT (m * s) F).take (m * i))/\∃ (vl:V),At K (del H' d) vl ((LZ m).map (Nat.repeat f i))/\∃ x6 x7 x8 x9 x10 x11,σ=[some v,some tv,some (.int (e:Int)),some (.int (m:Int)),some (.ref d),some vl,x6,x7,x8,x9,x10,x11]) ?_ ?_ ?_
 ·refine ⟨e12,by rw [O9];exact g2,.ref dl,?_,_,_,_,_,_,_,rfl⟩
  have z:(LZ m).map (Nat.repeat f 0)=LZ m:=by
   have:Nat.repeat f 0=id:=by funext x;rfl
   rw [this,Qd]
  rw [z];exact rL gl hdl
 ·rintro i σ' H3 hi ⟨e3,g3,vl,hl3,x6,x7,x8,x9,x10,x11,rfl⟩;walk_at "rx";refine cq (n:=m) rfl (by omega) (fun o σ H'=>ai H H'/\Gr K H' d ((mkT (m * s) F).take (m * i+o))/\At K (del H' d) vl ((LZ m).map (Nat.repeat f i))/\∃ x7 x8 x9 x10 x11,σ=[some v,some tv,some (.int (e:Int)),some (.int (m:Int)),some (.ref d),some vl,some (.int (i:Int)),x7,x8,x9,x10,x11]) ⟨e3,g3,hl3,_,_,_,_,_,rfl⟩ ?_ ?_
  ·rintro o σ' H4 ho ⟨e4,g4,hl4,x7,x8,x9,x10,x11,rfl⟩;have hI:m * i+o<m * s:=by
    have:m * (i+1)<=m * s:=M5 m hi;rw [OE] at this;omega
   walk_at "rx";refine gC (K:=K) (l:=([]:List Nat)) mW (by decide) fun p H5 fp e5 g5=>?_
   have hpd:p≠d:=Ew g4.is fp;have hS5:=Rep.mono (e4.trans e5) hS;walk_at "rx";refine cq (n:=s) rfl (by omega) (fun j σ H'=>ai H4 H'/\Gr K H' p (((LZ (m * s)).map fun y=>F (m * i+o) y).take (m * j))/\∃ x9 x10 x11,σ=[some v,some tv,some (.int (e:Int)),some (.int (m:Int)),some (.ref d),some vl,some (.int (i:Int)),some (.int (o:Int)),some (.ref p),x9,x10,x11]) ⟨e5,by rw [O9];exact g5,_,_,_,rfl⟩ ?_ ?_
   ·rintro j σ' H6 hj ⟨e6,g6,x9,x10,x11,rfl⟩;walk_at "rx";refine cq (n:=m) rfl (by omega) (fun k σ H'=>ai H4 H'/\Gr K H' p (((LZ (m * s)).map fun y=>F (m * i+o) y).take (m * j+k))/\∃ x10 x11,σ=[some v,some tv,some (.int (e:Int)),some (.int (m:Int)),some (.ref d),some vl,some (.int (i:Int)),some (.int (o:Int)),some (.ref p),some (.int (j:Int)),x10,x11]) ⟨e6,g6,_,_,rfl⟩ ?_ ?_
    ·rintro k σ' H7 hk ⟨e7,g7,x10,x11,rfl⟩;have hJ:m * j+k<m * s:=by
      have:m * (j+1)<=m * s:=M5 m hj;rw [OE] at this;omega
     have hS7:=Rep.mono (e4.trans e7) hS;have hl7:At K H7 vl ((LZ m).map (Nat.repeat f i)):=Rep.mono e7 (Rep.mono pL hl4);walk_at "rx";refine bG hl7 (km _ hk) ?_;walk_at "rx";refine ⟨v,o,Nat.repeat f i k,a,b,c,s,rfl,sz,hS7,?_⟩;walk_at "rx";refine jB (fun σ' H'=>H'=H7/\σ'=[some v,some tv,some (.int (e:Int)),some (.int (m:Int)),some (.ref d),some vl,some (.int (i:Int)),some (.int (o:Int)),some (.ref p),some (.int (j:Int)),some (.int (k:Int)),some (.int ((if s<=i+j then lsum a b c (lsum a b c o (Nat.repeat f i k)) e else lsum a b c o (Nat.repeat f i k):Nat):Int))]) (fun N hN=>?_) ?_
     ·walk_at "rx";refine aV (fun c1=>?_) (fun c1=>?_)
      ·walk_at "rx";refine ⟨v,_,e,a,b,c,s,rfl,sz,hS7,?_⟩;walk_at "rx";refine hN _ _ ⟨rfl,?_⟩;rw [if_pos c1];rfl
      ·walk_at "rx";refine hN _ _ ⟨rfl,?_⟩;rw [if_neg c1];rfl
     ·rintro σ' H8 ⟨rfl,rfl⟩;walk_at "rx";refine ⟨g7.ty,?_⟩;walk_at "rx";have ev:(if s<=i+j then lsum a b c (lsum a b c o (Nat.repeat f i k)) e else lsum a b c o (Nat.repeat f i k))+m * ((i+j) % s)=F (m * i+o) (m * j+k):=by
       rw [<- hF,Oq (m * i) o,Oq (m * j) k,K0 ho hk]
      rw [ev];refine md (b:=F (m * i+o) (m * j+k)) g7 (by rw [Mu];omega) rfl fun H9 g9 k9 _=>?_
      refine ⟨ai.but fp e7 k9,?_,_,_,rfl⟩;rw [show m * j+(k+1)=(m * j+k)+1 by omega,dH (fun y=>F (m * i+o) y) (m * s) (m * j+k) hJ]
      exact g9
    ·rintro σ' H7 ⟨e7,g7,x10,x11,rfl⟩;refine ⟨e7,?_,_,_,_,rfl⟩;rw [OE];exact g7
   ·rintro σ' H6 ⟨e6,g6,x9,x10,x11,rfl⟩;have et:((LZ (m * s)).map fun y=>F (m * i+o) y).take (m * s)=(LZ (m * s)).map fun y=>F (m * i+o) y:=MC (by simp)
    rw [et] at g6;have g6d:=g4.mono e6;walk_at "rx";refine ⟨g6d.ty,?_⟩;walk_at "rx";refine md g6d (by rw [Mu];omega) (rL g6 hpd) fun H7 g7 k7 _=>?_
    have hdH:H d=none:=fd;refine ⟨ai.but hdH (e4.trans e6) k7,?_,Rep.mono (K9 k7) (Rep.mono (rD e6) hl4),_,_,_,_,_,rfl⟩;rw [show m * i+(o+1)=(m * i+o)+1 by omega]
    unfold mkT;rw [dH (fun x=>(LZ (m * s)).map fun y=>F x y) (m * s) (m * i+o) hI];exact g7
  ·rintro σ' H4 ⟨e4,g4,hl4,x7,x8,x9,x10,x11,rfl⟩;walk_at "rx";have hl4':At K H4 vl ((LZ m).map (Nat.repeat f i)):=Rep.mono pL hl4;have hll:((LZ m).map (Nat.repeat f i)).length=m:=by simp
   refine mT (β:=Nat) hl4' (by omega) (fun k=>((LZ m).map (Nat.repeat f (i+1))).take k) (fun σ'=>∃ y,σ'=[y,some tv]) rfl (fun k hk=>by rw [Mu];omega) ⟨_,rfl⟩ ?_ ?_
   ·rintro k z w' σ' H5 d' R R0 hz hs hw ⟨y,rfl⟩ hR hR0 hd';have hkm:k<m:=by
     have:=(LR.mp hz).1;omega
    rw [km _ hkm] at hz;cases hz;cases (show w'=V.int ((Nat.repeat f i k:Nat):Int) from hw);have hT5:=Rep.mono (e4.trans hs) hT;walk_at "rx";refine bG hT5 (km _ (iL tn i hkm)) ?_;exact hR _ _ (Nat.repeat f (i+1) k) _ ⟨_,rfl⟩ (ai.refl _) rfl (dH _ m k hkm)
   ·intro d' H5 fd' e5 hg;have hg':Gr K H5 d' (((LZ m).map (Nat.repeat f (i+1))).take m):=by
     have:=hg;rw [hll] at this;exact this
    rw [MC (by simp)] at hg'
    walk_at "rx";refine ⟨e4.trans e5,?_,.ref d',rL hg' (Ew g4.is fd'),_,_,_,_,_,_,rfl⟩;rw [OE];exact g4.mono e5
 ·rintro σ' H3 ⟨e3,g3,vl,hl3,x6,x7,x8,x9,x10,x11,rfl⟩;rw [MC (by simp [mkT])] at g3
  walk_at "rx";exact q d H3 e3 g3.at
def A7 (K:LN):Sp:=fun vs H Q _=>∃ (v:V) (ns:List Int) (st:Nat),vs=[v,.int (st:Int)]/\At K H v ns/\∀ d H' n t e ps,ai H H'->GT n t e->Tbl H' d t ps->H d=none->(∀ p∈ps,H p=none)->Q (.ref d) H'
theorem sU (T:Txt K mg):aI P w K mg base CX0 3 T.iX.f T.iX.fd ["_law_script","_law_start"] (A7 K):=by
 refine T.iX.ok bx (fun vs H Q E h=>?_) (fun cdv A outer s H vs Q E hr h=>?_)
 ·obtain ⟨v,ns,st,rfl,_⟩:=h;rfl
 obtain ⟨v,ns,st,rfl,hA,q⟩:=h;refine ⟨_,(ae (ao (i:=2) bx.nd rfl (Mb rfl) (aA T.cS (ff T) (hr.mono (by decide)) rfl (paF (pv 0) (paF (pv 1) aa))))
   (ae (ao (i:=3) bx.nd rfl (Mb rfl) (aA T.cS (ff T) (hr.mono (by decide)) rfl (paF (pv 0) (paF (ak bf (pv 1) ag) aa))))
   (ae (ao (i:=4) bx.nd rfl (PX rfl) (aA T.j7 (AO T) (hr.mono (by decide)) rfl (paF (pv 2) (paF (pv 3) aa))))
   (ae (ao (i:=5) bx.nd rfl (Mb rfl) (ak aS (ak bD (ak bD (ak bf (pv 3) ag) (ak bf (pv 3) ag)) ag) ag))
   (ae (ao (i:=6) bx.nd rfl (PX rfl) (aA T.lu (BQ T) (hr.mono (by decide)) rfl (paF (pv 4) (paF (pv 5) aa))))
   (ae (ao (i:=7) bx.nd rfl (PX rfl) (bT aa))
   (ae (bE Ml rfl (aY rfl T.bj (paF ag aa)) (aD (i:=8) bx.nd rfl (Mb rfl)) (ah (bc (fG K rfl ME MS MT cX (pv 7) (paF (aA T.lB (B1 T) (hr.mono (by decide)) rfl (paF (aq (aj K rfl) (pv 4) (pv 8) (fun _ _=>rfl)) (paF (aq (aj K rfl) (pv 4) ag (fun _ _=>rfl)) (paF (ak bz (pv 5) (aq (aj K rfl) (bT (u5 [12,276,6348] (by trivial)).out) (pv 8) (fun _ _=>rfl))) aa)))) aa)))))
   (ae (ao (i:=9) bx.nd rfl (Mb rfl) (ak bD (ak bD (aq (aj K rfl) (pv 4) ag (fun _ _=>rfl)) (aq (aj K rfl) (pv 4) ag (fun _ _=>rfl))) (aq (aj K rfl) (pv 4) ag (fun _ _=>rfl))))
   (ae (dk (i:=10) rfl bx.nd rfl (Mb rfl) pJ (aY rfl T.bj (paF (pv 9) aa)) (fun _ _ _ _=>⟨(aD (i:=0) pJ.nd rfl (Mb rfl)),bw,(aA T.ju (yX T) (hr.mono (by decide)) rfl (paF (pv 0) (paF (pv 2) (paF (pv 1) (paF (pv 3) aa)))))⟩) rfl)
   (ae (ao (i:=11) bx.nd rfl (Mb rfl) (ak aS (ak aS (ak bD (ak bD (ak bf (pv 2) ag) (ak bf (pv 2) ag)) ag) ag) (pv 9)))
   (ae (aX (ay iy (aq (aj K rfl) (pv 10) (pv 11) (fun _ _=>rfl)) (pv 11) (aE _)) (ah (ao (i:=11) bx.nd rfl (Mb rfl) ag)) aN)
   (ae (ao (i:=12) bx.nd rfl (Mb rfl) (aA T.lH (BW T) (hr.mono (by decide)) rfl (paF (pv 4) (paF (pv 10) (paF (pv 11) aa)))))
   (ae (ao (i:=13) bx.nd rfl (Mb rfl) (aA T.ka (zY T) (hr.mono (by decide)) rfl (paF (av (aW K rfl) rfl T.bI Ms (paF (pv 12) aa)) (paF (aA T.cS (ff T) (hr.mono (by decide)) rfl (paF (pv 0) (paF (ak bf (pv 1) ag) aa))) aa))))
   (ae (dk (i:=15) rfl bx.nd rfl (Mb rfl) qb (aZ K rfl (pv 12)) (fun _ _ _ _=>⟨(aD (i:=0) qb.nd rfl (Mb rfl)),bw,(cp (fZ K rfl) rfl T.eM M1 (paF (pv 0) aa))⟩) rfl)
   (ae (bE Ml rfl (ot K rfl rfl T.cY (paF (pv 12) aa)) (m4 rfl (cM (aD (i:=16) bx.nd rfl (Mb rfl)) (cM (aD (i:=14) bx.nd rfl (Mb rfl)) kF))) (ah (bE Ml rfl (ot K rfl rfl T.cY (paF (pv 14) aa)) (m4 rfl (cM (aD (i:=17) bx.nd rfl (Mb rfl)) (cM (aD (i:=18) bx.nd rfl (Mb rfl)) kF))) (ah (Fx (aq (aj K rfl) (pv 13) (pv 18) (fun _ _=>rfl)) (EO (aq (aj K rfl) (pv 15) (aq (aj K rfl) (pv 13) (pv 16) (fun _ _=>rfl)) (fun _ _=>rfl)) (aq (aj K rfl) (pv 13) (pv 17) (fun _ _=>rfl)) set_list))))))
   (ah (aM (pv 15)))))))))))))))))),?_⟩
 walk_at "rx";refine ⟨v,ns,st,rfl,hA,?_⟩;have one2:=uL ns st;generalize nv ns st=one at one2 ⊢;walk_at "rx";refine ⟨v,ns,st+1,rfl,hA,?_⟩;have two2:=uL ns (st+1);generalize nv ns (st+1)=two at two2 ⊢;walk_at "rx";refine ⟨one,two,rfl,fun vS H1 a b c s s1 sz hS=>?_⟩;walk_at "rx";generalize (two+11) * (two+29) * 48271 % 2147483629=stir;refine ⟨vS,stir,a,b,c,s,rfl,sz,hS,fun kind H2 s2 k5 hk=>?_⟩;have hS2:=Rep.mono s2 hS;walk_at "rx";refine gC (K:=K) (l:=([]:List Nat)) mW (by decide) fun du H3 fu s3 gu=>?_
 walk_at "rx";refine cq (n:=3) rfl (by decide) (fun i σ H'=>ai H2 H'/\∃ us:List Nat,Gr K H' du us/\us.length=i/\(∀ j,j<i->us.getD j 0∈unitsOf ([a,b,c,s].getD j 0) s)/\∃ x8,σ=[some v,some (.int (st:Int)),some (.int (one:Int)),some (.int (two:Int)),some vS,some (.int (stir:Int)),some (.int (kind:Int)),some (.ref du),x8,none,none,none,none,none,none,none,none,none,none]) ⟨s3,[],gu,rfl,fun j hj=>absurd hj (by omega),_,rfl⟩ ?_ ?_
 ·rintro i σ' H4 hi ⟨s4,us,g4,l4,hu,x8,rfl⟩;walk_at "rx";refine ⟨g4.ty,?_⟩;have hS4:=Rep.mono s4 hS2;walk_at "rx";refine bG hS4 (getD_some 0 (show i<4 by omega)) ?_
  walk_at "rx";refine gC (K:=K) (l:=([12,276,6348]:List Nat)) (pC _) (by decide) fun d5 H5 f5 s5 g5=>?_
  walk_at "rx";refine bG g5.at (getD_some 0 (show i<3 from hi)) ?_;obtain ⟨p1,p2⟩:=HP i hi;refine qm p1 p2 ?_;walk_at "rx";have hmi:1<=[a,b,c,s].getD i 0/\[a,b,c,s].getD i 0<=23:=by
   match i,hi with
   | 0,_=>exact ⟨sz.a1,sz.a23⟩
   | 1,_=>exact ⟨sz.b1,sz.b23⟩
   | 2,_=>exact ⟨sz.c1,sz.c23⟩
  refine ⟨_,s,_,rfl,hmi.1,hmi.2,sz.s1,sz.s4,fun u H6 s6 hu6=>?_⟩;walk_at "rx";refine md (b:=u) (g4.mono (s5.trans s6)) (by omega) rfl fun H7 g7 k7 _=>?_
  refine ⟨ai.but fu (s4.trans (s5.trans s6)) k7,_,g7,by rw [Mm,l4];rfl,fun j hj=>?_,_,rfl⟩
  rcases MN j i with z|z
  ·have e1:(us++[u]).getD j 0=us.getD j 0:=by
    rw [L6,MB (by omega),<- L6]
   rw [e1];exact hu j z
  ·have e:j=i:=by omega
   subst e;have e1:(us++[u]).getD j 0=u:=by
    rw [L6,MA (by omega),l4,Sy]
    rfl
   rw [e1];exact hu6
 rintro σ' H4 ⟨s4,us,g4,l4,hu,x8,rfl⟩
 match us,l4 with
 | [u0,u1,u2],_ =>
 have v0:u0∈unitsOf a s:=hu 0 (by decide)
 have v1:u1∈unitsOf b s:=hu 1 (by decide)
 have v2:u2∈unitsOf c s:=hu 2 (by decide)
 have pr:Par a b c s kind u0 u1 u2:=⟨sz.a1,sz.b1,sz.c1,sz.s1,sz.s4,sz.le,k5,hk,v0,v1,v2⟩;have hS4:=Rep.mono s4 hS2;have hU4:=g4.at;have a23:=sz.a23;have ab23:=sz.ab;have m23:=sz.abc;have m0:0<a * b * c:=NI (NI sz.a1 sz.b1) sz.c1;walk_at "rx";refine kI K (n:=a * b * c) (β:=Nat) rfl (by omega) (fun i=>((LZ (a * b * c)).map (fK a b c kind u0 u1 u2)).take i) (fun σ'=>∃ y,σ'=[y,some (.int (kind:Int)),some vS,some (.ref du)]) rfl (fun i hi=>by rw [Mu];omega) ⟨_,rfl⟩ ?_ ?_
 ·rintro i σ' H5 d' R R0 hi hs ⟨y,rfl⟩ hR hR0 hd';walk_at "rx";refine ⟨vS,_,i,kind,a,b,c,s,u0,u1,u2,rfl,pr,Rep.mono hs hS4,Rep.mono hs hU4,hi,?_⟩;exact hR _ _ _ _ ⟨_,rfl⟩ (ai.refl _) rfl (dH _ _ i hi)
 intro dt H5 s5 ht5;have ht5':At K H5 (.ref dt) ((LZ (a * b * c)).map (fK a b c kind u0 u1 u2)):=by
  have z:At K H5 (.ref dt) (((LZ (a * b * c)).map (fK a b c kind u0 u1 u2)).take (a * b * c)):=ht5;rw [MC (by simp)] at z
  exact z
 walk_at "rx";have en:(one+5) * (one+17) * 69621 % 2147483587 % (a * b * c)<a * b * c:=My _ m0;generalize (one+5) * (one+17) * 69621 % 2147483587 % (a * b * c)=en0 at en ⊢;refine jB (fun σ' H'=>H'=H5/\∃ e:Nat,e<a * b * c/\fK a b c kind u0 u1 u2 e=e/\σ'=[some v,some (.int (st:Int)),some (.int (one:Int)),some (.int (two:Int)),some vS,some (.int (stir:Int)),some (.int (kind:Int)),some (.ref du),x8,some (.int ((a * b * c:Nat):Int)),some (.ref dt),some (.int (e:Int)),none,none,none,none,none,none,none]) (fun N hN=>?_) ?_
 ·walk_at "rx";refine bG ht5' (km _ en) ?_;walk_at "rx";refine bX (fun c1=>?_) (fun c1=>?_)
  ·walk_at "rx";exact hN _ _ ⟨rfl,0,m0,D9 ..,rfl⟩
  ·walk_at "rx";exact hN _ _ ⟨rfl,en0,en,c1,rfl⟩
 rintro σ' H5 ⟨rfl,e,he,fe,rfl⟩;have tn:=pr.tn he fe;have hS5:=Rep.mono s5 hS4;walk_at "rx";refine ⟨vS,_,a,b,c,s,e,_,rfl,sz,tn,hS5,ht5',fun dr H6 s6 hR6=>?_⟩;have gt:=Kf tn sz.le;have s06:ai H H6:=s1.trans (s2.trans (s4.trans (s5.trans s6)));generalize mkT (a * b * c * s) (cyc (a * b * c) (lsum a b c) (fK a b c kind u0 u1 u2) s e)=R at gt hR6;generalize a * b * c * s=n at gt;have hA6:=Rep.mono s06 hA;walk_at "rx";rw [gt.len];refine ⟨v,ns,st+2,rfl,hA6,?_⟩;walk_at "rx";refine ⟨n,_,rfl,gt.le,uL ns (st+2),fun dn H7 π s7 hp hN7=>?_⟩;have hR7:=Rep.mono s7 hR6;have hl:π.length=n:=by rw [hp.length_eq,Mt]
 walk_at "rx";refine ni hR7 (by rw [gt.len];have:=gt.le;omega) fun d H8 ps s8 fd fps tb8=>?_
 walk_at "rx";refine um (H₀:=H7) hR7 (fun i σ H'=>ai H7 H'/\∃ rows,Ren n π R rows i 0/\Tbl H' d rows ps/\∃ x14 x16 x17 x18,σ=[some v,some (.int (st:Int)),some (.int (one:Int)),some (.int (two:Int)),some vS,some (.int (stir:Int)),some (.int (kind:Int)),some (.ref du),x8,some (.int ((a * b * c:Nat):Int)),some (.ref dt),some (.int (e:Int)),some (.ref dr),some (.ref dn),x14,some (.ref d),x16,x17,x18]) ?_ (fun i σ' H' z=>z.1) ?_ ?_
 ·exact ⟨s8,R,⟨gt.len,gt.row,fun x y hx hy z=>absurd z (by omega)⟩,tb8,_,_,_,_,rfl⟩
 ·rintro i row wr σ' H9 H10 p hrow hwr ⟨s9,rows,rn,tb9,x14,x16,x17,x18,rfl⟩ hp9 e10 s10;have hi:i<n:=by
   have:=(LR.mp hrow).1;rw [gt.len] at this;exact this
  have hrl:row.length=n:=gt.row i row hrow;walk_at "rx";refine um (H₀:=H7) hwr (fun j σ H'=>ai H7 H'/\∃ rows,Ren n π R rows i j/\Tbl H' d rows ps/\∃ x17 x18,σ=[some v,some (.int (st:Int)),some (.int (one:Int)),some (.int (two:Int)),some vS,some (.int (stir:Int)),some (.int (kind:Int)),some (.ref du),x8,some (.int ((a * b * c:Nat):Int)),some (.ref dt),some (.int (e:Int)),some (.ref dr),some (.ref dn),some wr,some (.ref d),some (.int (i:Int)),x17,x18]) ⟨s9.trans s10,rows,rn,tb9.mono s10,_,_,rfl⟩ (fun j σ' H' z=>z.1) ?_ ?_
  ·rintro j th wt σ'' H11 H12 p2 hth hwt ⟨s11,rows2,rn2,tb11,x17,x18,rfl⟩ hp11 e12 s12;have hj:j<n:=by
    have:=(LR.mp hth).1;omega
   cases (show wt=V.int (th:Int) from hwt);have hth':th=tb R i j:=by
    have e1:=gt.get hi;rw [hrow] at e1;cases e1;have e2:=gt.eU hi hj;rw [hth] at e2;exact MK e2
   have htl:th<n:=by rw [hth'];exact gt.lt i j hi hj
   have hN12:=Rep.mono (s11.trans s12) hN7;have tb12:=tb11.mono s12;walk_at "rx";refine bG hN12 (getD_some 0 (by omega)) ?_
   walk_at "rx";refine bG hN12 (getD_some 0 (by omega)) ?_
   have iA:=oN hp hi;have iB:=oN hp hj;have hrw:rows2[π.getD i 0]?=some (rows2.getD (π.getD i 0) []):=getD_some [] (by rw [rn2.len];exact iA)
   obtain ⟨pp,hpp,hHp⟩:=tb12.get hrw;refine Lf tb12 hpp ?_;walk_at "rx";refine bG hN12 (getD_some 0 (by omega)) ?_
   refine EN hHp rfl (by unfold bb;rw [LP,rn2.row _ _ hrw];exact iB) ?_
   refine ⟨fun b' o z=>?_,_,?_,tb12.set hrw hpp,_,_,rfl⟩
   ·rw [au (aH z (fps pp (LS hpp)))];exact (s11.trans s12) b' o z
   ·rw [hth'];exact rn2.put hp hi hj
  ·rintro σ'' H11 ⟨s11,rows2,rn2,tb11,x17,x18,rfl⟩;rw [hrl] at rn2;exact ⟨s11,rows2,rn2.next,tb11,_,_,_,_,rfl⟩
 ·rintro σ' H9 ⟨s9,rows,rn,tb9,x14,x16,x17,x18,rfl⟩;rw [gt.len] at rn;walk_at "rx";have s07:=s06.trans s7;exact q d H9 n rows _ ps (s07.trans s9) (rn.gt hp gt) tb9 (s07.free fd) fun p hp'=>s07.free (fps p hp')
def Dw (K:LN):Sp:=fun vs H Q _=>∃ (v:V) (n e:Nat) (t:List (List Nat)),vs=[v]/\At K H v t/\GT n t e/\∀ H',ai H H'->Q (.int (e:Int)) H'
theorem wz (T:Txt K mg):aI P w K mg base CX0 1 T.kU.f T.kU.fd ["_law_table"] (Dw K):=by
 refine T.kU.ok Dt (fun vs H Q E h=>?_) (fun cdv A outer s H vs Q E hr h=>?_)
 ·obtain ⟨v,n,e,t,rfl,_⟩:=h;rfl
 obtain ⟨v,n,e,t,rfl,hT,gt,q⟩:=h;refine ⟨_,(ah (aM (aq (aj K rfl) (bZ rfl tL (aY rfl T.bj (paF (av (aW K rfl) rfl T.bI Ms (paF (pv 0) aa)) aa)) (fun _ _ _ _=>⟨(aD (i:=0) tL.nd rfl (Mb rfl)),(Cu (ay bY (aq (aj K rfl) (aq (aj K rfl) (pv 1) (pv 0) (fun _ _=>rfl)) (pv 0) (fun _ _=>rfl)) (pv 0) (aE _))),(pv 0)⟩)) ag (fun _ _=>rfl)))),?_⟩;have n23:=gt.le;walk_at "rx";rw [gt.len];refine kI K (n:=n) (β:=Nat) rfl (by omega) (fun i=>(LZ i).filter fun a=>decide (tb t a a=a)) (fun σ'=>∃ y,σ'=[y,some v]) rfl (fun i _=>u3 _ i) ⟨_,rfl⟩ ?_ ?_
 ·rintro i σ' H5 d' R R0 hi hs ⟨y,rfl⟩ hR hR0 hd';have ft:=uw (fun a=>decide (tb t a a=a)) i;have hT5:=Rep.mono hs hT;walk_at "rx";refine dQ hT5 rfl (gt.get hi) fun w1 hw1=>?_;walk_at "rx";refine bG hw1 (gt.eU hi hi) ?_;walk_at "rx";refine aV (fun z=>?_) (fun z=>?_)
  ·walk_at "rx";rw [if_pos (by simpa using z)] at ft
   exact hR _ _ i _ ⟨_,rfl⟩ (ai.refl _) rfl ft
  ·rw [if_neg (by simpa using z)] at ft
   exact hR0 _ _ ⟨_,rfl⟩ (ai.refl _) ft
 ·intro d H' hs ha;walk_at "rn";exact bG ha (Eb gt) (q H' hs)
def Bj (K:LN):Sp:=fun vs H Q _=>∃ (c:Int) (k n:Nat),vs=[.int c,.int (k:Int),.int (n:Int)]/\k<=100/\1<=n/\(thg c k n<n->Q (.int (thg c k n:Int)) H)
theorem Ax (T:Txt K mg):aI P w K mg base CX0 1 T.jZ.f T.jZ.fd ["_law_cell_here","_law_k","_law_many"] (Bj K):=by
 refine T.jZ.ok sS (fun vs H Q E h=>?_) (fun cdv A outer s H vs Q E hr h=>?_)
 ·obtain ⟨c,k,n,rfl,_⟩:=h;rfl
 obtain ⟨c,k,n,rfl,hk,hn,q⟩:=h;have q:=q (K1 c k hn);unfold thg at q;refine ⟨_,(ae (ao (i:=3) sS.nd rfl (Mb rfl) (ak aS (ak bf (ak bf (ak bD (ak aS (pv 0) ag) ag) (ak bD (ak bD ag (pv 1)) (pv 1))) (ak bD ag (pv 1))) ag))
   (ah (aM (ak aS (ak aS (ak bD (pv 3) (pv 3)) ag) (pv 2))))),?_⟩
 walk_at "rx";refine DW (by decide) ?_
 have c1:=RO c (show ((2147483647:Nat):Int)≠0 by decide)
 generalize hx:(c % ((2147483647:Nat):Int)).toNat=x;have ex:c % ((2147483647:Nat):Int)=(x:Int):=by omega
 rw [ex];have hx':(c % 2147483647).toNat=x:=hx;rw [hx'] at q;walk_at "rx";have hy:(x * 48271+69621 * k * k+7 * k) % 2147483629<2147483629:=My _ (by decide)
 generalize (x * 48271+69621 * k * k+7 * k) % 2147483629=y at hy q ⊢;walk_at "rx";exact q
def za (K:LN):Sp:=fun vs H Q _=>∃ (v u:V) (n e:Nat) (t:List (List Nat)) (S:List Nat),vs=[v,u]/\At K H v t/\GT n t e/\At K H u S/\(∀ s∈S,s<n)/\∀ d H' R,H d=none->ai H H'->Gr K H' d R->Gen n t e S R->Q (.ref d) H'
theorem zf (T:Txt K mg):aI P w K mg base CX0 2 T.jx.f T.jx.fd ["_law_table","_law_some"] (za K):=by
 refine T.jx.ok fN (fun vs H Q E h=>?_) (fun cdv A outer s H vs Q E hr h=>?_)
 ·obtain ⟨v,u,n,e,t,S,rfl,_⟩:=h;rfl
 obtain ⟨v,u,n,e,t,S,rfl,hT,gt,hS,hlt,q⟩:=h;refine ⟨_,(ae (ao (i:=2) fN.nd rfl (Mb rfl) (bT (paF (aA T.kU (wz T) (hr.mono (by decide)) rfl (paF (pv 0) aa)) aa)))
   (ae (ao (i:=3) fN.nd rfl (Mb rfl) ag)
   (ae (nK Ml (ay ko (pv 3) (av (aW K rfl) rfl T.bI Ms (paF (pv 2) aa)) (aE _)) (ae (bE Ml rfl (aZ K rfl (pv 1)) (aD (i:=4) fN.nd rfl (Mb rfl)) (ae (ao (i:=5) fN.nd rfl (Mb rfl) (aq (aj K rfl) (aq (aj K rfl) (pv 0) (aq (aj K rfl) (pv 2) (pv 3) (fun _ _=>rfl)) (fun _ _=>rfl)) (pv 4) (fun _ _=>rfl)))
   (ah (aX (ay (tq K rfl) (pv 5) (pv 2) (by with_unfolding_all rfl)) (ah (bc (fG K rfl ME MS MT cX (pv 2) (paF (pv 5) aa)))) aN))))
   (ah (ao (i:=3) fN.nd rfl (Mb rfl) (ak bf (pv 3) ag)))))
   (ah (aM (av (sZ K rfl) rfl T.jq Pb (paF (pv 2) aa))))))),?_⟩
 have n23:=gt.le;walk_at "3";refine ⟨v,n,e,t,rfl,hT,gt,fun H1 s1=>?_⟩;walk_at "rx";refine ⟨small (by show 1<=1000;decide),fun p hp=>?_⟩
 walk_at "rx";have fp:H p=none:=s1.free hp;refine nZ (fun m σ' H'=>ai H H'/\∃ (F:List Nat) (k:Nat) (x y:Option V),m=n - k/\Gr K H' p F/\mE n t e S F k/\σ'=[some v,some u,some (.ref p),some (.int (k:Int)),x,y]) (n - 0)
  ⟨s1.trans (aG hp _),[e],0,none,none,rfl,⟨_,ar,.cons rfl .nil⟩,⟨by simp,fun x hx=>by rw [Ma.mp hx];exact gt.elt,by simp,M7 _,fun i _ hi=>absurd hi (by omega),fun x hx=>⟨[],by simp,(Ma.mp hx).symm⟩⟩,rfl⟩ ?_
 rintro m σ' H2 ⟨s2,F,k,x,y,rfl,g2,gr,rfl⟩;have aF:=g2.at;have fl:=gr.len;walk_at "rx";refine aV (fun c=>?_) (fun c=>?_)
 ·obtain ⟨a,ha⟩:∃ a,F[k]?=some a:=⟨F[k],LO c⟩;have haF:a∈F:=LS ha;have han:=gr.lt a haF;refine ⟨fun σ3 H3=>ai H H3/\∃ (F3:List Nat) (x y:Option V),Gr K H3 p F3/\mE n t e S F3 (k+1)/\σ3=[some v,some u,some (.ref p),some (.int ((k+1:Nat):Int)),x,y],fun σ3 H3 z=>?_,?_⟩
  ·obtain ⟨z1,F3,x3,y3,z2,z3,z4⟩:=z;have:=z3.le;have:=z3.len;exact ⟨n - (k+1),by omega,z1,F3,k+1,x3,y3,rfl,z2,z3,z4⟩
  walk_at "rx";refine Bu (H₀:=H) hS (fun j σ3 H3=>ai H H3/\∃ (F3:List Nat) (x y:Option V),Gr K H3 p F3/\mE n t e S F3 k/\F3[k]?=some a/\(∀ s∈S.take j,tb t a s∈F3)/\σ3=[some v,some u,some (.ref p),some (.int (k:Int)),x,y]) ⟨s2,F,x,y,g2,gr,ha,fun s hs=>absurd hs (by simp),rfl⟩ (fun j σ3 H3 z=>z.1) ?_ ?_
  ·rintro j b w' σ3 H3 hb hw ⟨s3,F3,x3,y3,g3,gr3,ha3,hj,rfl⟩;cases (show w'=V.int (b:Int) from hw);have hbS:b∈S:=LS hb;have hbn:=hlt b hbS;have aF3:=g3.at;have hT3:=Rep.mono s3 hT;have fl3:=gr3.len;walk_at "rx";refine bG aF3 ha3 ?_;refine dQ hT3 rfl (gt.get han) fun w1 hw1=>?_;walk_at "rx";refine bG hw1 (gt.eU han hbn) ?_;walk_at "2";have more:∀ F':List Nat,(∀ z∈F3,z∈F')->tb t a b∈F'->∀ s∈S.take (j+1),tb t a s∈F':=fun F' h1 h2 s hs=>by
    rw [MG,hb] at hs;rcases MD.mp hs with z|z
    ·exact h1 _ (hj s z)
    ·have:s=b:=by simpa using z
     rw [this];exact h2
   refine bX (fun z=>?_) (fun z=>?_)
   ·walk_at "rx";refine ⟨g3.ty,?_⟩;walk_at "rx";refine md (b:=tb t a b) g3 (by omega) rfl fun H4 g4 k4 _=>?_
    exact ⟨ai.but fp s3 k4,_,_,_,g4,gr3.put gt (LS ha3) hbS hbn z,by rw [MB (LR.mp ha3).1];exact ha3,more _ (fun y hy=>Nm _ hy) (by simp),rfl⟩
   ·walk_at "rx";exact ⟨s3,_,_,_,g3,gr3,ha3,more _ (fun y hy=>hy) z,rfl⟩
  ·rintro σ3 H3 ⟨s3,F3,x3,y3,g3,gr3,ha3,hj,rfl⟩;rw [Nh] at hj;walk_at "rx";exact ⟨s3,F3,_,_,g3,gr3.next ha3 hj,rfl⟩
 ·walk_at "rn";refine Az aF (by omega) fun d l' H3 hd s3 hpm hsr g3=>?_
  exact q d H3 l' (s2.free hd) (s2.trans s3) g3 (gr.gen (by omega) hpm hsr)
end
local macro_rules | `(tactic| walk_at "rg1")=>`(tactic| first|walk_at "rx1" | refine bL (by assumption) (by assumption) ?_|refine bA (by assumption) (by assumption) ?_|refine ck (by assumption) (by assumption) ?_|refine r_gbacks (by assumption) (by assumption) ?_)
local macro_rules | `(tactic| walk_at "rg")=>`(tactic| repeat walk_at "rg1")
section
variable {P:Mp} {w:World} {K:LN} {mg:Str->Option Value} {base:Heap}
def GL (C:Addr) (K:LN):Sp:=fun vs H Q _=>∃ (g:Addr) (n e a:Nat) (t:List (List Nat)),vs=[.ref g,.int (a:Int)]/\aU C H g n t e/\GT n t e/\a<n/\Q (.int (bF n t e a:Int)) H
theorem HW (T:Txt K mg):aI P w K mg base CX0 1 T.pG.f T.pG.fd ["group","thing"] (GL T.az K):=by
 refine T.pG.ok nL (fun vs H Q E h=>?_) (fun cdv A outer s H vs Q E hr h=>?_)
 ·obtain ⟨g,n,e,a,t,rfl,_⟩:=h;rfl
 obtain ⟨g,n,e,a,t,rfl,hG,gt,ha,q⟩:=h;obtain ⟨dx,r,b,hg,hT,hb⟩:=hG.get (K:=K);refine ⟨_,(ae (ao (i:=2) nL.nd rfl (Mb rfl) ag)
   (ae (ao (i:=3) nL.nd rfl (Mb rfl) (pv 1))
   (ae (nK Ml (ay iy (pv 3) (aL K rfl (pv 0) rfl) (aE _)) (ae (ao (i:=3) nL.nd rfl (Mb rfl) (aq (aj K rfl) (aq (aj K rfl) (aL K rfl (pv 0) rfl) (pv 3) (fun _ _=>rfl)) (pv 1) (fun _ _=>rfl)))
   (ah (ao (i:=2) nL.nd rfl (Mb rfl) (ak bf (pv 2) ag)))))
   (ah (aM (pv 2)))))),?_⟩
 obtain ⟨o1,o2,o3⟩:=js gt ha;have o4:1<=bF n t e a:=kP;walk_at "rg";refine nZ (fun m σ' H'=>H'=H/\∃ k,1<=k/\k<=bF n t e a/\m=bF n t e a - k/\σ'=[some (.ref g),some (.int (a:Int)),some (.int (k:Int)),some (.int (bK t e a k:Int))]) (bF n t e a - 1) ⟨rfl,1,Mh _,o4,rfl,by rw [qy gt ha];rfl⟩ ?_
 rintro m σ' H' ⟨rfl,k,k1,k2,rfl,rfl⟩;have kl:=cL gt ha k;walk_at "rg";refine bX (fun c=>?_) (fun c=>?_)
 ·have k3:k<bF n t e a:=by
   rcases MN k (bF n t e a) with z|z
   ·exact z
   ·have:k=bF n t e a:=by omega
    rw [this] at c;exact absurd o2 c
  refine ⟨fun σ2 H2=>H2=H'/\σ2=[some (.ref g),some (.int (a:Int)),some (.int ((k+1:Nat):Int)),some (.int (bK t e a (k+1):Int))],fun σ2 H2 z=>⟨bF n t e a - (k+1),by omega,z.1,k+1,by omega,k3,rfl,z.2⟩,?_⟩
  walk_at "rg";refine dQ hT rfl (gt.get kl) fun w1 hw1=>?_;walk_at "rg";refine bG hw1 (gt.eU kl ha) ?_;walk_at "rg";exact ⟨rfl,rfl⟩
 ·have k3:k=bF n t e a:=by
   rcases MN k (bF n t e a) with z|z
   ·exact absurd c (o3 k k1 z)
   ·omega
  walk_at "rg";rw [k3];exact q
def cR (n:Nat) (t:List (List Nat)) (e:Nat):List Nat:=(LZ n).map (bF n t e)
theorem A9 {n:Nat} {t:List (List Nat)} {e:Nat}:∀ s∈cR n t e,1<=s:=fun s hs=>by
 obtain ⟨a,_,rfl⟩:=Mg.mp hs;exact kP
def GA (C:Addr) (K:LN):Sp:=fun vs H Q _=>∃ (g:Addr) (n e:Nat) (t:List (List Nat)),vs=[.ref g]/\aU C H g n t e/\GT n t e/\∀ k H',ai H H'->cW (cR n t e) k->Q (.int (k:Int)) H'
theorem An (T:Txt K mg):aI P w K mg base CX0 2 T.nF.f T.nF.fd ["group"] (GA T.az K):=by
 refine T.nF.ok qK (fun vs H Q E h=>?_) (fun cdv A outer s H vs Q E hr h=>?_)
 ·obtain ⟨g,n,e,t,rfl,_⟩:=h;rfl
 obtain ⟨g,n,e,t,rfl,hG,gt,q⟩:=h;obtain ⟨dx,r,b,hg,hT,hb⟩:=hG.get (K:=K);refine ⟨_,(ae (dk (i:=1) rfl qK.nd rfl (Mb rfl) wc (aY rfl T.bj (paF (aL K rfl (pv 0) rfl) aa)) (fun _ _ _ _=>⟨(aD (i:=0) wc.nd rfl (Mb rfl)),bw,(aA T.pG (HW T) (hr.mono (by decide)) rfl (paF (pv 1) (paF (pv 0) aa)))⟩) rfl)
   (ae (ao (i:=2) qK.nd rfl (PX rfl) ag)
   (ae (nK Ml (kb (av (yf K rfl rfl) rfl T.qB RP (paF (bZ rfl v3 (aZ K rfl (pv 1)) (fun _ _ _ _=>⟨(aD (i:=0) v3.nd rfl (Mb rfl)),bw,(dJ iy (ak aS (pv 1) (pv 0)) ag (aE _))⟩)) aa))) (ah (ao (i:=2) qK.nd rfl (PX rfl) (ak bf (pv 2) ag))))
   (ah (aM (pv 2)))))),?_⟩
 have n23:=gt.le;walk_at "rg";refine kI K (n:=n) (β:=Nat) rfl (by omega) (fun i=>(cR n t e).take i) (fun σ'=>∃ y,σ'=[y,some (.ref g)]) rfl (fun i hi=>by rw [Mu];omega) ⟨_,rfl⟩ ?_ ?_
 ·rintro i σ' H5 d' R R0 hi hs ⟨y,rfl⟩ hR hR0 hd';walk_at "rg";refine ⟨g,n,e,i,t,rfl,aU.mono hs hG,gt,hi,?_⟩;exact hR _ _ _ _ ⟨_,rfl⟩ (ai.refl _) rfl (dH _ _ i hi)
 intro d1 H1 s1 h1;have hlen:(cR n t e).length=n:=by simp [cR]
 have h1':At K H1 (.ref d1) (cR n t e):=by
  have z:At K H1 (.ref d1) ((cR n t e).take n):=h1;rw [MC (by omega)] at z
  exact z
 walk_at "rg";have b1:=xi (A9 (n:=n) (t:=t) (e:=e));refine nZ (fun m σ' H'=>ai H1 H'/\∃ k,1<=k/\k<=bnd (cR n t e)/\m=bnd (cR n t e) - k/\(∀ j,1<=j->j<k->∃ s,s∈cR n t e/\j % s≠0)/\σ'=[some (.ref g),some (.ref d1),some (.int (k:Int))]) (bnd (cR n t e) - 1) ⟨ai.refl _,1,Mh _,b1,rfl,fun j j1 j2=>absurd j1 (by omega),rfl⟩ ?_
 rintro m σ' H2 ⟨s2,k,k1,k2,rfl,hk,rfl⟩;have h2:=Rep.mono s2 h1';walk_at "rg";refine kC (β:=Bool) h2 (by omega) (fun i=>((cR n t e).map fun s=>!decide (k % s=0)).take i) (fun σ'=>∃ y,σ'=[y,some (.int (k:Int))]) rfl (fun i hi=>by rw [Mu];omega) ⟨_,rfl⟩ ?_ ?_
 ·rintro i c w' σ' H3 d' R R0 hc hs hw ⟨y,rfl⟩ hR hR0 hd';cases (show w'=V.int (c:Int) from hw);have c1:0<c:=A9 c (LS hc);walk_at "rg";refine hR _ _ (!decide (k % c=0)) _ ⟨_,rfl⟩ (ai.refl _) rfl ?_;rw [MG,Mc,hc];rfl
 intro d2 H3 s3 h3;have h3':At K H3 (.ref d2) ((cR n t e).map fun s=>!decide (k % s=0)):=by
  have z:At K H3 (.ref d2) (((cR n t e).map fun s=>!decide (k % s=0)).take (cR n t e).length):=h3;rw [MC (by simp)] at z
  exact z
 walk_at "rg";refine HY h3' ?_;walk_at "rg";cases hb':((cR n t e).map fun s=>!decide (k % s=0)).any id with
 | true =>
  refine rk ?_;have ex:∃ s,s∈cR n t e/\k % s≠0:=by
   obtain ⟨x,hx,ex⟩:=Rb.mp hb';obtain ⟨s,hs,rfl⟩:=Mg.mp hx;exact ⟨s,hs,by simpa using ex⟩
  have k3:k<bnd (cR n t e):=by
   rcases MN k (bnd (cR n t e)) with z|z
   ·exact z
   ·have ek:k=bnd (cR n t e):=by omega
    obtain ⟨s,hs,z⟩:=ex;rw [ek] at z;exact absurd (xD hs) z
  refine ⟨fun σ2 H4=>ai H1 H4/\σ2=[some (.ref g),some (.ref d1),some (.int ((k+1:Nat):Int))],fun σ2 H4 z=>⟨bnd (cR n t e) - (k+1),by omega,z.1,k+1,by omega,k3,rfl,fun j j1 j2=>?_,z.2⟩,?_⟩
  ·rcases MN j k with z' | z'
   ·exact hk j j1 z'
   ·have:j=k:=by omega
    rw [this];exact ex
  walk_at "rg";exact ⟨s2.trans s3,rfl⟩
 | false =>
  refine eR ?_;walk_at "rg";refine q k H3 (s1.trans (s2.trans s3)) ⟨k1,fun s hs=>?_,hk⟩;rw [Py] at hb';have:=hb' _ (Mg.mpr ⟨s,hs,rfl⟩)
  simpa using this
end
section
def D5 (H:Hp) (x:V):Option (Nat×Nat)->Prop
 | none=>x=.non
 | some (a,b)=>∃ p,x=.ref p/\H p=some (.tup [.int (a:Int),.int (b:Int)])
theorem D5.mono {H H':Hp} {x:V} (s:ai H H'):∀ {o:Option (Nat×Nat)},D5 H x o->D5 H' x o
 | none,h=>h
 | some _,⟨p,e,hp⟩=>⟨p,e,s _ _ hp⟩
def Gu (C:Addr) (K:LN):Sp:=fun vs H Q _=>∃ (g:Addr) (v:V) (n e:Nat) (t:List (List Nat)) (R:List Nat),vs=[.ref g,v]/\aU C H g n t e/\GT n t e/\At K H v R/\IsPart n t R /\
 ∀ d H' L ps,H d=none->(∀ p∈ps,H p=none)->ai H H'->Tbl H' d L ps->zE n t e R L->Q (.ref d) H'
end
section
variable {P:Mp} {w:World} {K:LN} {mg:Str->Option Value} {base:Heap}
theorem IsPart.mL {n e:Nat} {t:List (List Nat)} {R:List Nat} (h:IsPart n t R) (g:GT n t e):R.length<=23:=M4 h.len g.le
def yU (C:Addr) (K:LN):Sp:=fun vs H Q _=>∃ (g:Addr) (v:V) (n e:Nat) (t:List (List Nat)) (R:List Nat),vs=[.ref g,v]/\aU C H g n t e/\GT n t e/\At K H v R/\(∀ x∈R,x<n)/\R.length<=64/\∀ H',ai H H'->Q (.bl true) H'
theorem yZ (T:Txt K mg):aI P w K mg base CX0 1 T.de.f T.de.fd ["group","some"] (yU T.az K):=by
 refine T.de.ok rS (fun vs H Q E h=>?_) (fun cdv A outer s H vs Q E hr h=>?_)
 ·obtain ⟨g,v,n,e,t,R,rfl,_⟩:=h;rfl
 obtain ⟨g,v,n,e,t,R,rfl,hG,gt,hR,hlt,hlen,q⟩:=h;obtain ⟨dx,r,bk,hg,hT,hB⟩:=hG.get (K:=K);refine ⟨_,(ah (aM (av (kM K rfl rfl) rfl T.lN Oa (paF (bZ rfl i5 (aZ K rfl (pv 1)) (fun _ _ _ _=>⟨(aD (i:=0) i5.nd rfl (Mb rfl)),bw,(lM (dJ tV (pv 0) ag (aE _)) (qh (dJ ko (pv 0) (aL K rfl (pv 1) rfl) (aE _))))⟩)) aa)))),?_⟩;walk_at "rg";refine kC (β:=Bool) hR (by omega) (fun i=>Mq i true) (fun σ'=>∃ y,σ'=[y,some (.ref g)]) rfl (fun i hi=>by simp) ⟨_,rfl⟩ ?_ ?_
 ·rintro i c w' σ' H3 d' R' R0 hc hs hw ⟨y,rfl⟩ hR' hR0 hd';cases (show w'=V.int (c:Int) from hw);have hg3:=hs _ _ hg;have c1:=hlt c (LS hc);walk_at "rg";refine aV (fun _=>?_) (fun z=>absurd (M7 _) z);walk_at "rg";rw [decide_eq_true c1];exact hR' _ _ true _ ⟨_,rfl⟩ (ai.refl _) rfl O1
 intro d2 H3 s3 h3;walk_at "rg";refine pU h3 ?_;rw [show (Mq R.length true).all id=true by simp]
 exact q H3 s3
def HQ (K:LN):Sp:=fun vs H Q _=>∃ (v:V) (R:List Nat),vs=[v]/\At K H v R/\R≠[]/\R.Pairwise (· < ·)/\R.length<=64/\∀ H',ai H H'->Q (.bl true) H'
theorem Gs (T:Txt K mg):aI P w K mg base CX0 1 T.jS.f T.jS.fd ["some"] (HQ K):=by
 refine T.jS.ok AQ (fun vs H Q E h=>?_) (fun cdv A outer s H vs Q E hr h=>?_)
 ·obtain ⟨v,R,rfl,_⟩:=h;rfl
 obtain ⟨v,R,rfl,hR,ne,srt,hlen,q⟩:=h;have l0:0<R.length:=ML.mpr ne;refine ⟨_,(ah (aM (av (kM K rfl rfl) rfl T.lN Oa (paF (bZ rfl ng (aY rfl T.bj (paF (ak pS (av (aW K rfl) rfl T.bI Ms (paF (pv 0) aa)) ag) aa)) (fun _ _ _ _=>⟨(aD (i:=0) ng.nd rfl (Mb rfl)),bw,(dJ ko (aq (aj K rfl) (pv 1) (pv 0) (fun _ _=>rfl)) (aq (aj K rfl) (pv 1) (ak bf (pv 0) ag) (fun _ _=>rfl)) (aE _))⟩)) aa)))),?_⟩;walk_at "rg";refine kI K (n:=R.length - 1) (β:=Bool) (by omega) (by omega) (fun i=>Mq i true) (fun σ'=>∃ y,σ'=[y,some v]) rfl (fun i hi=>by simp) ⟨_,rfl⟩ ?_ ?_
 ·rintro i σ' H3 d' R' R0 hi hs ⟨y,rfl⟩ hR' hR0 hd';have hR3:=Rep.mono hs hR;walk_at "rg";refine bG hR3 (LO (by omega)) ?_
  walk_at "rg";refine bG hR3 (LO (by omega)) ?_
  walk_at "rg";rw [decide_eq_true ((NA.mp srt) i (i+1) (by omega) (by omega) (by omega))]
  exact hR' _ _ true _ ⟨_,rfl⟩ (ai.refl _) rfl O1
 intro d2 H3 s3 h3;walk_at "rg";refine pU h3 ?_;rw [show (Mq (R.length - 1) true).all id=true by simp]
 exact q H3 s3
def uv (C:Addr) (K:LN):Sp:=fun vs H Q _=>∃ (g:Addr) (v:V) (n e:Nat) (t:List (List Nat)) (R:List Nat),vs=[.ref g,v]/\aU C H g n t e/\GT n t e/\At K H v R/\IsPart n t R/\Q (.bl true) H
theorem uq (T:Txt K mg):aI P w K mg base CX0 1 T.cw.f T.cw.fd ["group","some"] (uv T.az K):=by
 refine T.cw.ok dz (fun vs H Q E h=>?_) (fun cdv A outer s H vs Q E hr h=>?_)
 ·obtain ⟨g,v,n,e,t,R,rfl,_⟩:=h;rfl
 obtain ⟨g,v,n,e,t,R,rfl,hG,gt,hR,pt,q⟩:=h;obtain ⟨dx,r,bk,hg,hT,hB⟩:=hG.get (K:=K);refine ⟨_,(ae (bE Ml rfl (aZ K rfl (pv 1)) (aD (i:=2) dz.nd rfl (Mb rfl)) (ah (bE Ml rfl (aZ K rfl (pv 1)) (aD (i:=3) dz.nd rfl (Mb rfl)) (ah (aX (ay (tq K rfl) (aq (aj K rfl) (aq (aj K rfl) (aL K rfl (pv 0) rfl) (pv 2) (fun _ _=>rfl)) (pv 3) (fun _ _=>rfl)) (pv 1) (by with_unfolding_all rfl)) (ah (aM i8)) aN)))))
   (ah (aM i8))),?_⟩
 walk_at "rg";refine la hR (fun i σ H'=>H'=H/\∃ x y,σ=[some (.ref g),some v,x,y]) ⟨rfl,_,_,rfl⟩ (fun i σ H' h=>by rw [h.1];exact ai.refl _) ?_ ?_
 ·rintro i a w' σ' H' ha hw ⟨rfl,x,y,rfl⟩;cases (show w'=V.int (a:Int) from hw);have haR:=LS ha;walk_at "rg";refine la hR (fun i σ H''=>H''=H'/\∃ y,σ=[some (.ref g),some v,some (.int (a:Int)),y]) ⟨rfl,_,rfl⟩ (fun i σ H' h=>by rw [h.1];exact ai.refl _) ?_ ?_
  ·rintro j b w2 σ' H'' hb hw2 ⟨rfl,y,rfl⟩;cases (show w2=V.int (b:Int) from hw2);have hbR:=LS hb;walk_at "7";refine dQ hT rfl (gt.get (pt.lt a haR)) fun w1 hw1=>?_;walk_at "rg";refine bG hw1 (gt.eU (pt.lt a haR) (pt.lt b hbR)) ?_;walk_at "rg";refine bX (fun z=>absurd (pt.cl a haR b hbR) z) (fun _=>?_);walk_at "rg";exact ⟨rfl,_,rfl⟩
  ·rintro σ' H'' ⟨rfl,y,rfl⟩;exact ⟨rfl,_,_,rfl⟩
 ·rintro σ' H' ⟨rfl,x,y,rfl⟩;walk_at "rg";exact q
def DD (C:Addr) (K:LN):Sp:=fun vs H Q _=>∃ (g:Addr) (v:V) (n e:Nat) (t:List (List Nat)) (R:List Nat),vs=[.ref g,v]/\aU C H g n t e/\GT n t e/\At K H v R/\IsPart n t R/\∀ H',ai H H'->Q (.bl true) H'
theorem DU (T:Txt K mg):aI P w K mg base CX0 2 T.fU.f T.fU.fd ["group","some"] (DD T.az K):=by
 refine T.fU.ok wy (fun vs H Q E h=>?_) (fun cdv A outer s H vs Q E hr h=>?_)
 ·obtain ⟨g,v,n,e,t,R,rfl,_⟩:=h;rfl
 obtain ⟨g,v,n,e,t,R,rfl,hG,gt,hR,pt,q⟩:=h;have l0:0<R.length:=ML.mpr pt.ne;have l23:=pt.mL gt;refine ⟨_,(ah (aM (lM (dJ iD (av (aW K rfl) rfl T.bI Ms (paF (pv 1) aa)) ag (aE _)) (lM (aA T.de (yZ T) (hr.mono (by decide)) rfl (paF (pv 0) (paF (pv 1) aa))) (lM (aA T.jS (Gs T) (hr.mono (by decide)) rfl (paF (pv 1) aa)) (qh (aA T.cw (uq T) (hr.mono (by decide)) rfl (paF (pv 0) (paF (pv 1) aa))))))))),?_⟩
 walk_at "rg";refine aV (fun _=>?_) (fun z=>absurd l0 z);walk_at "rg";refine ⟨g,v,n,e,t,R,rfl,hG,gt,hR,pt.lt,by omega,fun H1 s1=>?_⟩
 walk_at "rg";refine ⟨v,R,rfl,Rep.mono s1 hR,pt.ne,pt.srt,by omega,fun H2 s2=>?_⟩
 walk_at "rg";have s02:=s1.trans s2;exact ⟨g,v,n,e,t,R,rfl,hG.mono s02,gt,Rep.mono s02 hR,pt,q H2 s02⟩
def y6 (C:Addr) (K:LN):Sp:=fun vs H Q _=>∃ (g:Addr) (v:V) (n e:Nat) (t:List (List Nat)) (R:List Nat),vs=[.ref g,v]/\aU C H g n t e/\GT n t e/\At K H v R/\IsPart n t R/\∀ H',ai H H'->Q .non H'
theorem m8 (T:Txt K mg):aI P w K mg base CX0 3 T.cF.f T.cF.fd ["group","some"] (y6 T.az K):=by
 refine T.cF.ok rY (fun vs H Q E h=>?_) (fun cdv A outer s H vs Q E hr h=>?_)
 ·obtain ⟨g,v,n,e,t,R,rfl,_⟩:=h;rfl
 obtain ⟨g,v,n,e,t,R,rfl,hG,gt,hR,pt,q⟩:=h;refine ⟨_,(ah (aX (ou (kb (aA T.fU (DU T) (hr.mono (by decide)) rfl (paF (pv 0) (paF (pv 1) aa))))) (ah cE) aN)),?_⟩
 walk_at "7";refine ⟨g,v,n,e,t,R,rfl,hG,gt,hR,pt,fun H1 s1=>?_⟩;walk_at "rg";refine eR ?_;walk_at "rg";exact q H1 s1
def DT (C:Addr) (K:LN):Sp:=fun vs H Q _=>∃ (g:Addr) (v:V) (n e x:Nat) (t:List (List Nat)) (R:List Nat),vs=[.ref g,v,.int (x:Int)]/\aU C H g n t e/\GT n t e/\At K H v R/\IsPart n t R/\x<n /\
 ∀ d H' s,H d=none->ai H H'->Gr K H' d s->s.Pairwise (· < ·)->(∀ y,y∈s↔∃ k,k∈R/\tb t x k=y)->Q (.ref d) H'
theorem Ea (T:Txt K mg):aI P w K mg base CX0 1 T.mZ.f T.mZ.fd ["group","part","thing"] (DT T.az K):=by
 refine T.mZ.ok DZ (fun vs H Q E h=>?_) (fun cdv A outer s H vs Q E hr h=>?_)
 ·obtain ⟨g,v,n,e,x,t,R,rfl,_⟩:=h;rfl
 obtain ⟨g,v,n,e,x,t,R,rfl,hG,gt,hR,pt,hx,q⟩:=h;obtain ⟨dx,r,bk,hg,hT,hB⟩:=hG.get (K:=K);have l23:=pt.mL gt;refine ⟨_,(ah (aM (av (sZ K rfl) rfl T.jq Pb (paF (bZ rfl sH (aZ K rfl (pv 1)) (fun _ _ _ _=>⟨(aD (i:=0) sH.nd rfl (Mb rfl)),bw,(aq (aj K rfl) (aq (aj K rfl) (aL K rfl (pv 1) rfl) (pv 2) (fun _ _=>rfl)) (pv 0) (fun _ _=>rfl))⟩)) aa)))),?_⟩;walk_at "rg";refine kC (β:=Nat) hR (by omega) (fun i=>(R.map fun k=>tb t x k).take i) (fun σ'=>∃ y,σ'=[y,some (.ref g),some (.int (x:Int))]) rfl (fun i hi=>by rw [Mu];omega) ⟨_,rfl⟩ ?_ ?_
 ·rintro i c w' σ' H3 d' R' R0 hc hs hw ⟨y,rfl⟩ hR' hR0 hd';cases (show w'=V.int (c:Int) from hw);have hg3:=hs _ _ hg;have hT3:=Rep.mono hs hT;have c1:=pt.lt c (LS hc);walk_at "rg";refine dQ hT3 rfl (gt.get hx) fun w1 hw1=>?_;walk_at "rg";refine bG hw1 (gt.eU hx c1) ?_;refine hR' _ _ (tb t x c) _ ⟨_,rfl⟩ (ai.refl _) rfl ?_;rw [MG,Mc,hc];rfl
 intro d2 H3 s3 h3;have h3':At K H3 (.ref d2) (R.map fun k=>tb t x k):=by
  have z:At K H3 (.ref d2) ((R.map fun k=>tb t x k).take R.length):=h3;rw [MC (by simp)] at z
  exact z
 walk_at "rn";refine Az h3' (by rw [LP];omega) fun d l' H4 hd s4 hpm hsr g4=>?_
 have nd:(R.map fun k=>tb t x k).Nodup:=by
  have z:=cy pt.srt;unfold List.Nodup at z ⊢;rw [OU];exact z.imp_of_mem fun ha hb hne c=>hne (gt.jd hx (pt.lt _ ha) (pt.lt _ hb) c)
 refine q d H4 l' (s3.free hd) (s3.trans s4) g4 (oF (hpm.nodup_iff.mpr nd) hsr) fun y=>?_;rw [hpm.mem_iff,Mg]
theorem G8 (T:Txt K mg):aI P w K mg base CX0 4 T.pZ.f T.pZ.fd ["group","part"] (Gu T.az K):=by
 refine T.pZ.ok Aq (fun vs H Q E h=>?_) (fun cdv A outer s H vs Q E hr h=>?_)
 ·obtain ⟨g,v,n,e,t,R,rfl,_⟩:=h;rfl
 obtain ⟨g,v,n,e,t,R,rfl,hG,gt,hR,pt,q⟩:=h;have n23:=gt.le;refine ⟨_,(ae (bc (aA T.cF (m8 T) (hr.mono (by decide)) rfl (paF (pv 0) (paF (pv 1) aa))))
   (ae (dk (i:=2) rfl Aq.nd rfl (Mb rfl) vz (aY rfl T.bj (paF (aL K rfl (pv 0) rfl) aa)) (fun _ _ _ _=>⟨(aD (i:=0) vz.nd rfl (Mb rfl)),bw,(aA T.mZ (Ea T) (hr.mono (by decide)) rfl (paF (pv 1) (paF (pv 2) (paF (pv 0) aa))))⟩) rfl)
   (ah (aM (bZ rfl vL (ot K rfl rfl T.cY (paF (pv 2) aa)) (fun _ _ _ _=>⟨(Bt K rfl (i:=0) (j:=1) rfl vL.nd rfl (Mb rfl) rfl (Mb rfl)),(Cu (ay bY (aq (aj K rfl) (pv 1) ag (fun _ _=>rfl)) (pv 0) (aE _))),(pv 1)⟩)))))),?_⟩
 walk_at "rg";refine ⟨g,v,n,e,t,R,rfl,hG,gt,hR,pt,fun H1 s1=>?_⟩;have hG1:=hG.mono s1;have hR1:=Rep.mono s1 hR;obtain ⟨dx,r,bk,hg,hT,hB⟩:=hG1.get (K:=K);walk_at "rg";refine vg (n:=n) rfl (by omega) (fun d i σ' H' ys=>ai H1 H'/\∃ (L:List (List Nat)) (ps:List Addr) (y:Option V),Tbl H' d L ps/\ys=ps.map V.ref/\ps.length=i/\(∀ p∈ps,H1 p=none)/\(∀ (j:Nat) (s:List Nat),L[j]?=some s->s.Pairwise (· < ·)/\∀ y,y∈s↔∃ k,k∈R/\tb t j k=y)/\σ'=[y,some (.ref g),some v])
  (fun d i σ' H' ys hi ⟨_,L,ps,y,_,e1,e2,_⟩=>by rw [e1,LP,e2];exact Mh _) (fun d hd=>⟨aG hd _,[],[],_,Tbl.nil,rfl,rfl,by simp,by simp,rfl⟩) ?_ ?_
 ·rintro d i σ' H' ys R' R0 hd hi ⟨s2,L,ps,y,tb2,rfl,hl,fps,hL,rfl⟩ hys hR' hR0;walk_at "rg";refine ⟨g,v,n,e,i,t,R,rfl,hG1.mono s2,gt,Rep.mono s2 hR1,pt,hi,fun p H3 sd fp s3 g3 srt hm=>?_⟩;have hp:=lr g3;have hdl:H3 d=some (.lst (ps.map V.ref)):=s3 _ _ tb2.top;have hpd:p≠d:=fun c=>by rw [c,tb2.top] at fp;cases fp
  refine hR' _ _ _ hdl ⟨fun b o z=>?_,L++[sd],ps++[p],some (.int (i:Int)),tb2.snoc s3 hp (fun c=>?_) hpd,by rw [MM];rfl,by rw [Mm,hl];rfl,fun q' hq'=>?_,fun j s' hj=>?_,rfl⟩
  ·rw [au (aH z hd)];exact s3 _ _ (s2 _ _ z)
  ·obtain ⟨j,hj⟩:=Ny c;have:=tb2.row j p _ hj (LO (by rw [<- tb2.len];exact (LR.mp hj).1))
   rw [fp] at this;cases this
  ·rcases MD.mp hq' with z|z
   ·exact fps q' z
   ·rw [Ma.mp z];exact s2.free fp
  ·have e1:L.length=i:=by rw [<- tb2.len];exact hl
   rcases MN j L.length with z|z
   ·rw [MB z] at hj;exact hL j s' hj
   ·rw [MA z] at hj;have j0:j - L.length=0:=by
     rcases Qo (j - L.length) with c|c
     ·exact c
     ·rw [Nr (by simp;omega)] at hj;cases hj
    rw [j0] at hj;cases hj;have:j=i:=by omega
    rw [this];exact ⟨srt,hm⟩
 rintro d1 σ1 H2 ys fd1 hd1 ⟨s2,L,ps,y,tb2,rfl,hl,fps,hL,rfl⟩;have s02:=s1.trans s2;have lL:L.length=n:=by rw [<- tb2.len];exact hl
 walk_at "rg";refine Ff (xs:=ps.map V.ref) (by rw [LP];omega) (fun d i σ' H' ys=>ai H2 H'/\∃ (L':List (List Nat)) (ps':List Addr) (y z:Option V),Tbl H' d L' ps'/\ys=ps'.map V.ref/\ps'.length<=i/\(∀ p∈ps',p∈ps.take i)/\d8 n t e R L' i/\σ'=[y,z])
  (fun d i σ' H' ys ⟨z,_⟩=>SqL.of (z _ _ tb2.top)) (SqL.of tb2.top) (fun d i σ' H' ys hi ⟨_,L',ps',y,z,_,e1,e2,_⟩=>by rw [e1,LP];exact e2)
  (fun d hd=>⟨aG hd _,[],[],_,_,Tbl.nil,rfl,M7 _,by simp,d8.nil,rfl⟩) ?_ ?_
 ·rintro d i x σ' H3 H4 ys R' R0 hd hx ⟨s3,L',ps',y,z,tb3,rfl,hl',hps',st,rfl⟩ hys s4 hR' hR0;rw [Mc] at hx;obtain ⟨p,hp,rfl⟩:=Rn.mp hx;have hi:i<n:=by rw [<- hl];exact (LR.mp hp).1
  obtain ⟨sd,hsd⟩:∃ sd,L[i]?=some sd:=⟨L[i],LO (by omega)⟩
  obtain ⟨srt,hm⟩:=hL i sd hsd;obtain ⟨k1,k2,k3⟩:=st.step gt pt hi srt hm;have hp4:H4 p=some (.lst (bb sd)):=s4 _ _ (s3 _ _ (tb2.row i p sd hp hsd));have ap4:At K H4 (.ref p) sd:=cC hp4;have l0:0<sd.length:=ML.mpr (Pr k1);walk_at "rg";refine bG ap4 (getD_some 0 l0) ?_;walk_at "rg";have hin:∀ q∈ps',q∈ps.take (i+1):=fun q hq=>by
   rw [MG];exact Nm _ (hps' q hq)
  refine aV (fun c=>?_) (fun c=>?_)
  ·walk_at "rg";have hn:p∉ps':=fun c=>by
    have z1:=hps' p c;obtain ⟨j,hj⟩:=Ny z1;have hj1:j<i:=by
     have:=(LR.mp hj).1;rw [Mu] at this;omega
    rw [NK hj1] at hj;obtain ⟨i1,e1⟩:=(LR.mp hj);obtain ⟨i2,e2⟩:=(LR.mp hp);exact (NA.mp tb2.nd) j i i1 i2 hj1 (e1.trans e2.symm)
   have hpd:p≠d:=fun c=>by
    have:=tb2.row i p sd hp hsd;rw [c,hd] at this;cases this
   refine hR' _ _ _ (s4 _ _ hys) ⟨fun b o zz=>?_,L'++[sd],ps'++[p],_,_,tb3.snoc s4 hp4 hn hpd,by rw [MM];rfl,by rw [Mm];show _+1<=_;omega,fun q' hq'=>?_,st.new gt pt hi (k2 c) srt hm,rfl⟩
   ·rw [au (aH zz hd)];exact s4 _ _ (s3 _ _ zz)
   ·rcases MD.mp hq' with z|z
    ·exact hin q' z
    ·rw [Ma.mp z,MG,hp];simp
  ·refine hR0 _ _ (s4 _ _ hys) ⟨s3.trans s4,L',ps',_,_,tb3.mono s4,rfl,by omega,hin,st.old (k3 c),rfl⟩
 rintro d2 σ2 H3 ys fd2 hd2 ⟨s3,L',ps',y,z,tb3,rfl,hl',hps',st,rfl⟩;rw [LP,hl] at st;walk_at "rg";exact q d2 H3 L' ps' (s02.free fd2) (fun p hp=>s1.free (fps p (OY (hps' p hp)))) (s02.trans s3) tb3 st.fin
def oS:Sp:=fun vs H Q _=>∃ (m:Nat),vs=[.int (m:Int)]/\1<=m/\m<=60/\Q .non H
theorem oR (T:Txt K mg):aI P w K mg base CX0 1 T.cK.f T.cK.fd ["many"] oS:=by
 refine T.cK.ok oJ (fun vs H Q E h=>?_) (fun cdv A outer s H vs Q E hr h=>?_)
 ·obtain ⟨m,rfl,_⟩:=h;rfl
 obtain ⟨m,rfl,m1,m2,q⟩:=h;refine ⟨_,(ah (aX (PW.pt (oM (ay ko (pv 0) ag (aE _)) (oj (ay iD (pv 0) (cD (v:=.int 60) rfl T.eF ⟨_,rfl⟩) (aE _))))) (ah cE) aN)),?_⟩;walk_at "2";refine aV (fun c=>absurd c (by omega)) (fun _=>?_)
 walk_at "rx";refine aV (fun c=>absurd c (by omega)) (fun _=>?_)
 walk_at "rx";exact q
def zV (n:Nat) (t:List (List Nat)) (e:Nat) (z:V) (m:Nat):Prop:=(z=.non/\cW (cR n t e) m)\/(z=.int (m:Int)/\1<=m/\m<=60/\∀ k,cW (cR n t e) k->m % k=0)
def vA (C:Addr):Sp:=fun vs H Q _=>∃ (g:Addr) (z:V) (n e m:Nat) (t:List (List Nat)),vs=[.ref g,z]/\aU C H g n t e/\GT n t e/\zV n t e z m/\∀ H',ai H H'->Q (.int (m:Int)) H'
theorem lq (T:Txt K mg):aI P w K mg base CX0 3 T.cN.f T.cN.fd ["group","spokes"] (vA T.az):=by
 refine T.cN.ok nu (fun vs H Q E h=>?_) (fun cdv A outer s H vs Q E hr h=>?_)
 ·obtain ⟨g,z,n,e,m,t,rfl,_⟩:=h;rfl
 obtain ⟨g,z,n,e,m,t,rfl,hG,gt,hz,q⟩:=h;refine ⟨_,(ae (ao (i:=2) nu.nd rfl (Mb rfl) (aA T.nF (An T) (hr.mono (by decide)) rfl (paF (pv 0) aa)))
   (ae (aX (wF (vw (pv 1))) (ah (aM (pv 2))) aN)
   (ae (bc (aA T.cK (oR T) (hr.mono (by decide)) rfl (paF (pv 1) aa)))
   (ae (aX (ay iy (ak aS (pv 1) (pv 2)) ag (aE _)) (ah cE) aN)
   (ah (aM (pv 1))))))),?_⟩
 walk_at "rx";refine ⟨g,n,e,t,rfl,hG,gt,fun k H1 s1 hk=>?_⟩;walk_at "2";rcases hz with ⟨rfl,hm⟩|⟨rfl,m1,m2,hm⟩
 ·refine aV (fun _=>?_) (fun c=>absurd rfl c);walk_at "rx";rw [hk.uni hm];exact q _ s1
 ·refine aV (fun c=>by cases c) (fun _=>?_)
  walk_at "rx";refine ⟨m,rfl,m1,m2,?_⟩;have hk0:=hk.pos;walk_at "2";refine bX (fun c=>absurd (hm k hk) c) (fun _=>?_);walk_at "rx";exact q _ s1
end
section
def xV (C:Addr) (K:LN):Sp:=fun vs H Q _=>∃ (g:Addr) (v u z:V) (n e m l:Nat) (t:List (List Nat)) (R M:List Nat),vs=[.ref g,v,u,z]/\aU C H g n t e/\GT n t e/\At K H v R/\IsPart n t R/\At K H u M/\M.length=R.length/\(∀ x∈M,x<m) /\
 (z=.int (m:Int)\/(z=.non/\m=l))/\cW (cR n t e) l/\m % l=0/\0<m/\m<=60/\∀ x H' o,ai H H'->D5 H' x o->uf t R M m o->Q x H'
end
section
variable {P:Mp} {w:World} {K:LN} {mg:Str->Option Value} {base:Heap}
def xO (K:LN):Sp:=fun vs H Q _=>∃ (v u:V) (m:Nat) (R M:List Nat),vs=[v,u,.int (m:Int)]/\At K H v R/\At K H u M/\M.length=R.length/\M.length<=1000/\(∀ x∈M,x<m)/\∀ H',ai H H'->Q .non H'
theorem wX (T:Txt K mg):aI P w K mg base CX0 1 T.iO.f T.iO.fd ["part","marks","spokes"] (xO K):=by
 refine T.iO.ok xc (fun vs H Q E h=>?_) (fun cdv A outer s H vs Q E hr h=>?_)
 ·obtain ⟨v,u,m,R,M,rfl,_⟩:=h;rfl
 obtain ⟨v,u,m,R,M,rfl,hR,hM,hl,h1,mm,q⟩:=h;refine ⟨_,(ae (aX (ay iy (av (aW K rfl) rfl T.bI Ms (paF (pv 1) aa)) (av (aW K rfl) rfl T.bI Ms (paF (pv 0) aa)) (aE _)) (ah cE) aN)
   (ah (aX (kb (av (yf K rfl rfl) rfl T.qB RP (paF (bZ rfl nH (aZ K rfl (pv 1)) (fun _ _ _ _=>⟨(aD (i:=0) nH.nd rfl (Mb rfl)),bw,(Lj (dJ ko (pv 0) ag (aE _)) (qh (dJ tV (pv 0) (pv 1) (aE _))))⟩)) aa))) (ah cE) aN))),?_⟩
 walk_at "2";refine bX (fun c=>absurd hl c) (fun _=>?_);walk_at "2";refine kC (β:=Bool) hM (by omega) (fun i=>Mq i false) (fun σ'=>∃ y,σ'=[y,some (.int (m:Int))]) rfl (fun i _=>by simp) ⟨_,rfl⟩ ?_ ?_
 ·rintro i c w' σ' H3 d' R' R0 hc hs hw ⟨y,rfl⟩ hR' hR0 hd';cases (show w'=V.int (c:Int) from hw);have c1:=mm c (LS hc);walk_at "rx";refine aV (fun c=>absurd c (by omega)) (fun _=>?_)
  walk_at "rx";rw [decide_eq_false (show ¬ c >= m by omega)]
  exact hR' _ _ false _ ⟨_,rfl⟩ (ai.refl _) rfl O1
 intro d2 H3 s3 h3;have h3':At K H3 (.ref d2) (Mq M.length false):=h3;walk_at "rx";refine HY h3' ?_;rw [show (Mq M.length false).any id=false from Py.mpr fun x hx=>by rw [QM hx];decide]
 walk_at "rx";walk_at "10";exact q _ s3
theorem xw (T:Txt K mg):aI P w K mg base CX0 4 T.iM.f T.iM.fd ["group","part","marks","spokes"] (xV T.az K):=by
 refine T.iM.ok gL (fun vs H Q E h=>?_) (fun cdv A outer s H vs Q E hr h=>?_)
 ·obtain ⟨g,v,u,z,n,e,m,l,t,R,M,rfl,_⟩:=h;rfl
 obtain ⟨g,v,u,z,n,e,m,l,t,R,M,rfl,hG,gt,hR,pt,hM,ml,mm,hz,hl,ml0,m1,m60,q⟩:=h;have n23:=gt.le;have rl:=pt.len;have nd:=cy pt.srt;have sv:zV n t e z m:=by
  rcases hz with rfl|⟨rfl,rfl⟩
  ·exact .inr ⟨rfl,m1,m60,fun k hk=>by rw [hk.uni hl];exact ml0⟩
  ·exact .inl ⟨rfl,hl⟩
 refine ⟨_,(ae (bc (aA T.cF (m8 T) (hr.mono (by decide)) rfl (paF (pv 0) (paF (pv 1) aa))))
   (ae (ao (i:=4) gL.nd rfl (Mb rfl) (aA T.cN (lq T) (hr.mono (by decide)) rfl (paF (pv 0) (paF (pv 3) aa))))
   (ae (bc (aA T.iO (wX T) (hr.mono (by decide)) rfl (paF (pv 1) (paF (pv 2) (paF (pv 4) aa)))))
   (ae (ao (i:=5) gL.nd rfl (Mb rfl) (DH K rfl rfl rfl T.qo rfl T.ud (paF (pv 1) (paF (pv 2) aa))))
   (ae (bE Ml rfl (aZ K rfl (pv 1)) (aD (i:=6) gL.nd rfl (Mb rfl)) (ah (bE Ml rfl (aZ K rfl (pv 1)) (aD (i:=7) gL.nd rfl (Mb rfl)) (ah (aX (ay iy (uc (vR hr) (pv 5) (aq (aj K rfl) (aq (aj K rfl) (aL K rfl (pv 0) rfl) (pv 6) (fun _ _=>rfl)) (pv 7) (fun _ _=>rfl)) (fun _ _=>rfl)) (ak aS (ak bf (uc (vR hr) (pv 5) (pv 6) (fun _ _=>rfl)) (uc (vR hr) (pv 5) (pv 7) (fun _ _=>rfl))) (pv 4)) (aE _)) (ah (aM (mX (paF (pv 6) (paF (pv 7) aa))))) aN)))))
   (ah (aM vj))))))),?_⟩
 walk_at "rn";refine ⟨g,v,n,e,t,R,rfl,hG,gt,hR,pt,fun H1 s1=>?_⟩;walk_at "rn";refine ⟨g,z,n,e,m,t,rfl,aU.mono s1 hG,gt,sv,fun H2 s2=>?_⟩;have s02:=s1.trans s2;walk_at "rn";refine ⟨v,u,m,R,M,rfl,Rep.mono s02 hR,Rep.mono s02 hM,ml,by omega,mm,fun H3 s3=>?_⟩
 have s03:=s02.trans s3;walk_at "rn";refine E5 ?_;walk_at "rn";refine LD (Rep.mono s03 hR) (Rep.mono s03 hM) ml.symm nd fun d hd=>?_;have s04:=s03.trans (aG hd (.dK (uS R M)));have hd4:upd H3 d (.dK (uS R M)) d=some (.dK (uS R M)):=ar;generalize upd H3 d (.dK (uS R M))=H4 at s04 hd4 ⊢;have hG4:=aU.mono s04 hG;obtain ⟨dx,r4,bk,hg,hT,hB⟩:=hG4.get (K:=K);walk_at "rn";refine la (Rep.mono s04 hR) (fun j σ' H'=>H'=H4/\(∀ j',j' < j->∀ k,k<R.length->og t R M m j' k)/\∃ x6 x7,σ'=[some (.ref g),some v,some u,some z,some (.int (m:Int)),some (.ref d),x6,x7]) ⟨rfl,fun j hj=>absurd hj (by omega),_,_,rfl⟩ (fun i σ' H' y=>by rw [y.1];exact ai.refl _) ?_ ?_
 ·rintro j a w' σ' H' ha hw ⟨rfl,hj,x6,x7,rfl⟩;cases (show w'=V.int (a:Int) from hw);have jl:j<R.length:=(LR.mp ha).1;have haR:=LS ha;have han:=pt.lt a haR;have mi:=getD_some (l:=M) 0 (show j<M.length by omega)
  have ea:R.getD j 0=a:=by rw [L6,ha];rfl
  walk_at "rn";refine la (Rep.mono s04 hR) (fun k σ' H1=>H1=H'/\(∀ k',k' < k->og t R M m j k')/\∃ x7,σ'=[some (.ref g),some v,some u,some z,some (.int (m:Int)),some (.ref d),some (.int (a:Int)),x7]) ⟨rfl,fun j hj=>absurd hj (by omega),_,rfl⟩ (fun i σ' H1 y=>by rw [y.1];exact ai.refl _) ?_ ?_
  ·rintro k b w2 σ' H1 hb hw2 ⟨rfl,hk',x7,rfl⟩;cases (show w2=V.int (b:Int) from hw2);have kl:k<R.length:=(LR.mp hb).1;have hbR:=LS hb;have hbn:=pt.lt b hbR;have mk:=getD_some (l:=M) 0 (show k<M.length by omega)
   have eb:R.getD k 0=b:=by rw [L6,hb];rfl
   have hab:=pt.cl a haR b hbR;have hx:=Nc hab;have mx:=getD_some (l:=M) 0 (show R.idxOf (tb t a b)<M.length by omega)
   have oke:og t R M m j k↔M.getD (R.idxOf (tb t a b)) 0=(M.getD j 0+M.getD k 0) % m:=by
    unfold og;rw [ea,eb]
   walk_at "1";refine tX ?_;walk_at "rg";refine dQ hT rfl (gt.get han) fun w1 hw1=>?_;walk_at "rn";refine bG hw1 (gt.eU han hbn) ?_;refine vx hd4 (rK nd (xr hab) mx) ?_;walk_at "rn";refine tX ?_;walk_at "rn";refine vx hd4 (rK nd ha mi) ?_;walk_at "rn";refine tX ?_;walk_at "rn";refine vx hd4 (rK nd hb mk) ?_;walk_at "rn";refine bX (fun y=>?_) (fun y=>?_)
   ·walk_at "5";refine ⟨small (by show 2<=1000;decide),fun p hp=>?_⟩
    exact q _ _ (some (a,b)) (s04.trans (aG hp _)) ⟨p,rfl,ar⟩ ⟨j,k,jl,kl,ea,eb,fun y'=>y (oke.mp y'),hj,hk'⟩
   ·walk_at "rn";refine ⟨rfl,fun k' hk2=>?_,_,rfl⟩;rcases MN k' k with y' | y'
    ·exact hk' k' y'
    ·have:k'=k:=by omega
     rw [this];exact oke.mpr y
  ·rintro σ' H1 ⟨rfl,hk',x7,rfl⟩;walk_at "rn";refine ⟨rfl,fun j' hj2 k hk=>?_,_,_,rfl⟩;rcases MN j' j with y|y
   ·exact hj j' y k hk
   ·have:j'=j:=by omega
    rw [this];exact hk' k hk
 ·rintro σ' H' ⟨rfl,hj,x6,x7,rfl⟩;walk_at "rn";exact q _ _ none s04 rfl fun j hj2 k hk=>hj j hj2 k hk
def rG (n:Nat) (t:List (List Nat)) (L:List Int):Prop:=∃ R:List Nat,L=R.map (fun (x:Nat)=>(x:Int))/\IsPart n t R
theorem tj {α β γ:Type} {F:α->γ->Prop} {f:β->γ}:∀ {xs:List α} {l:List β},Nv F xs (l.map f)->Nv (fun x r=>F x (f r)) xs l
 | xs,[],h=>by
  cases xs with
  | nil=>exact .nil
  | cons x r=>cases h
 | xs,b :: l,h=>by
  cases xs with
  | nil=>cases h
  | cons x r =>
   cases h with
   | cons r1 t1=>exact .cons r1 (tj t1)
theorem Cn {H:Hp} {v:V} {R:List Nat} (h:At K H v (R.map fun (x:Nat)=>(x:Int))):At K H v R:=by
 obtain ⟨p,xs,e,hS,hp⟩:=h;exact ⟨p,xs,e,hS,Paired.eT (tj (F:=fun (x:V) (i:Int)=>Rep.is K H x i) (f:=fun (n:Nat)=>(n:Int)) hp) fun _ _ z=>z⟩
theorem xo:∀ {L:List Int},(∀ x∈L,0<=x)->∃ R:List Nat,L=R.map fun (x:Nat)=>(x:Int)
 | [],_=>⟨[],rfl⟩
 | x :: L,h=>by
  obtain ⟨R,e⟩:=xo (L:=L) fun y hy=>h y (Me _ hy);exact ⟨x.toNat :: R,by rw [MO,<- e,Sf (h x Mj)]⟩
theorem v5:∀ {a b:List Nat},a.map (fun (x:Nat)=>(x:Int))=b.map (fun (x:Nat)=>(x:Int))->a=b
 | [],[],_=>rfl
 | [],_ :: _,h=>by cases h
 | _ :: _,[],h=>by cases h
 | x :: a,y :: b,h=>by
  rw [MO,MO] at h;injection h with h1 h2;rw [v5 h2,QY h1]
theorem getD_get {L:List Int} {i:Nat} (h:i<L.length):L.getD i 0=L[i]:=by rw [L6,LO h];rfl
theorem yQ {L:List Int}:L.Pairwise (· < ·)↔∀ i,i+1<L.length->L.getD i 0<L.getD (i+1) 0:=by
 constructor
 ·intro h i hi;have:=(NA.mp h) i (i+1) (by omega) hi (by omega)
  rw [getD_get (by omega),getD_get hi]
  exact this
 ·intro h;have all:∀ k i,i+k+1<L.length->L.getD i 0<L.getD (i+k+1) 0:=by
   intro k
   induction k with
   | zero=>exact fun i hi=>h i hi
   | succ k ih =>
    intro i hi;have a:=ih i (by omega)
    have b:=h (i+k+1) hi;exact Int.lt_trans a b
  refine NA.mpr fun i j hi hj hij=>?_;have:=all (j - i - 1) i (by omega)
  rw [show i+(j - i - 1)+1=j by omega,getD_get hi,getD_get hj] at this
  exact this
def xk (C:Addr) (K:LN):Sp:=fun vs H Q _=>∃ (g:Addr) (v:V) (n e:Nat) (t:List (List Nat)) (L:List Int),vs=[.ref g,v]/\aU C H g n t e/\GT n t e/\At K H v L/\L.length<=64 /\
 ((∀ x∈L,0<=x/\x<(n:Int))->∀ H',ai H H'->Q (.bl true) H')/\(¬ (∀ x∈L,0<=x/\x<(n:Int))->∀ H',ai H H'->Q (.bl false) H')
theorem xh (T:Txt K mg):aI P w K mg base CX0 1 T.de.f T.de.fd ["group","some"] (xk T.az K):=by
 refine T.de.ok rS (fun vs H Q E h=>?_) (fun cdv A outer s H vs Q E hr h=>?_)
 ·obtain ⟨g,v,n,e,t,L,rfl,_⟩:=h;rfl
 obtain ⟨g,v,n,e,t,L,rfl,hG,gt,hL,hlen,q1,q2⟩:=h;obtain ⟨dx,r,bk,hg,hT,hB⟩:=hG.get (K:=K);refine ⟨_,(ah (aM (av (kM K rfl rfl) rfl T.lN Oa (paF (bZ rfl i5 (aZ K rfl (pv 1)) (fun _ _ _ _=>⟨(aD (i:=0) i5.nd rfl (Mb rfl)),bw,(lM (dJ tV (pv 0) ag (aE _)) (qh (dJ ko (pv 0) (aL K rfl (pv 1) rfl) (aE _))))⟩)) aa)))),?_⟩;walk_at "rg";refine kC (α:=Int) (β:=Bool) hL (by omega) (fun i=>(L.take i).map fun x=>decide (0<=x/\x<(n:Int))) (fun σ'=>∃ y,σ'=[y,some (.ref g)]) rfl (fun i hi=>by rw [LP,Mu];omega) ⟨_,rfl⟩ ?_ ?_
 ·rintro i c w' σ' H3 d' R' R0 hc hs hw ⟨y,rfl⟩ hR' hR0 hd';cases (show w'=V.int c from hw);have hg3:=hs _ _ hg;have e1:((L.take (i+1)).map fun x=>decide (0<=x/\x<(n:Int)))=((L.take i).map fun x=>decide (0<=x/\x<(n:Int)))++[decide (0<=c/\c<(n:Int))]:=by
   rw [MG,hc,MM];rfl
  walk_at "rg";refine aV (fun z=>?_) (fun z=>?_)
  ·walk_at "rg";have e2:decide (0<=c/\c<(n:Int))=decide (c<(n:Int)):=decide_eq_decide.mpr ⟨fun y=>y.2,fun y=>⟨z,y⟩⟩;rw [e2] at e1;exact hR' _ _ (decide (c<(n:Int))) _ ⟨_,rfl⟩ (ai.refl _) rfl e1
  ·have e2:decide (0<=c/\c<(n:Int))=false:=decide_eq_false fun y=>z y.1;rw [e2] at e1;exact hR' _ _ false _ ⟨_,rfl⟩ (ai.refl _) rfl e1
 intro d2 H3 s3 h3;walk_at "rg";refine pU h3 ?_;rw [Nh]
 by_cases ha:∀ x∈L,0<=x/\x<(n:Int)
 ·rw [show (L.map fun x=>decide (0<=x/\x<(n:Int))).all id=true by
   rw [Mx];intro y hy;obtain ⟨x,hx,rfl⟩:=Mg.mp hy;exact decide_eq_true (ha x hx)]
  exact q1 ha H3 s3
 ·rw [show (L.map fun x=>decide (0<=x/\x<(n:Int))).all id=false by
   rw [QN];obtain ⟨x,hx⟩:=O0.mp ha;obtain ⟨hx,hn⟩:=PN.mp hx;exact ⟨_,Mg.mpr ⟨x,hx,rfl⟩,by rw [decide_eq_false hn];decide⟩]
  exact q2 ha H3 s3
def Fh (K:LN):Sp:=fun vs H Q _=>∃ (v:V) (L:List Int),vs=[v]/\At K H v L/\L≠[]/\L.length<=64/\(L.Pairwise (· < ·)->∀ H',ai H H'->Q (.bl true) H')/\(¬ L.Pairwise (· < ·)->∀ H',ai H H'->Q (.bl false) H')
theorem E7 (T:Txt K mg):aI P w K mg base CX0 1 T.jS.f T.jS.fd ["some"] (Fh K):=by
 refine T.jS.ok AQ (fun vs H Q E h=>?_) (fun cdv A outer s H vs Q E hr h=>?_)
 ·obtain ⟨v,L,rfl,_⟩:=h;rfl
 obtain ⟨v,L,rfl,hL,ne,hlen,q1,q2⟩:=h;have l0:0<L.length:=ML.mpr ne;refine ⟨_,(ah (aM (av (kM K rfl rfl) rfl T.lN Oa (paF (bZ rfl ng (aY rfl T.bj (paF (ak pS (av (aW K rfl) rfl T.bI Ms (paF (pv 0) aa)) ag) aa)) (fun _ _ _ _=>⟨(aD (i:=0) ng.nd rfl (Mb rfl)),bw,(dJ ko (aq (aj K rfl) (pv 1) (pv 0) (fun _ _=>rfl)) (aq (aj K rfl) (pv 1) (ak bf (pv 0) ag) (fun _ _=>rfl)) (aE _))⟩)) aa)))),?_⟩;walk_at "rg";refine kI K (n:=L.length - 1) (β:=Bool) (by omega) (by omega) (fun i=>(LZ i).map fun j=>decide (L.getD j 0<L.getD (j+1) 0)) (fun σ'=>∃ y,σ'=[y,some v]) rfl (fun i hi=>by rw [LP,Mt];omega) ⟨_,rfl⟩ ?_ ?_
 ·rintro i σ' H3 d' R' R0 hi hs ⟨y,rfl⟩ hR' hR0 hd';have hL3:=Rep.mono hs hL;walk_at "rg";refine wq (n:=i) hL3 rfl (getD_some 0 (by omega)) ?_
  walk_at "rg";refine wq (n:=i+1) hL3 (by omega) (getD_some 0 (by omega)) ?_
  walk_at "rg";exact hR' _ _ (decide (L.getD i 0<L.getD (i+1) 0)) _ ⟨_,rfl⟩ (ai.refl _) rfl (by rw [Pp,MM];rfl)
 intro d2 H3 s3 h3;walk_at "rg";refine pU h3 ?_
 by_cases ha:L.Pairwise (· < ·)
 ·rw [show ((LZ (L.length - 1)).map fun j=>decide (L.getD j 0<L.getD (j+1) 0)).all id=true by
   rw [Mx];intro y hy;obtain ⟨x,hx,rfl⟩:=Mg.mp hy;exact decide_eq_true (yQ.mp ha x (by have:=L9.mp hx;omega))]
  exact q1 ha H3 s3
 ·rw [show ((LZ (L.length - 1)).map fun j=>decide (L.getD j 0<L.getD (j+1) 0)).all id=false by
   rw [QN];obtain ⟨x,hx⟩:=O0.mp (fun y=>ha (yQ.mpr y));obtain ⟨hx,hn⟩:=PN.mp hx;exact ⟨_,Mg.mpr ⟨x,L9.mpr (by omega),rfl⟩,by rw [decide_eq_false hn];decide⟩]
  exact q2 ha H3 s3
def tI (C:Addr) (K:LN):Sp:=fun vs H Q _=>∃ (g:Addr) (v:V) (n e:Nat) (t:List (List Nat)) (R:List Nat),vs=[.ref g,v]/\aU C H g n t e/\GT n t e/\At K H v R/\(∀ x∈R,x<n) /\
 ((∀ a∈R,∀ b∈R,tb t a b∈R)->Q (.bl true) H)/\(¬ (∀ a∈R,∀ b∈R,tb t a b∈R)->Q (.bl false) H)
theorem tJ (T:Txt K mg):aI P w K mg base CX0 1 T.cw.f T.cw.fd ["group","some"] (tI T.az K):=by
 refine T.cw.ok dz (fun vs H Q E h=>?_) (fun cdv A outer s H vs Q E hr h=>?_)
 ·obtain ⟨g,v,n,e,t,R,rfl,_⟩:=h;rfl
 obtain ⟨g,v,n,e,t,R,rfl,hG,gt,hR,hlt,q1,q2⟩:=h;obtain ⟨dx,r,bk,hg,hT,hB⟩:=hG.get (K:=K);refine ⟨_,(ae (bE Ml rfl (aZ K rfl (pv 1)) (aD (i:=2) dz.nd rfl (Mb rfl)) (ah (bE Ml rfl (aZ K rfl (pv 1)) (aD (i:=3) dz.nd rfl (Mb rfl)) (ah (aX (ay (tq K rfl) (aq (aj K rfl) (aq (aj K rfl) (aL K rfl (pv 0) rfl) (pv 2) (fun _ _=>rfl)) (pv 3) (fun _ _=>rfl)) (pv 1) (by with_unfolding_all rfl)) (ah (aM i8)) aN)))))
   (ah (aM i8))),?_⟩
 walk_at "rg";refine la hR (fun i σ H'=>H'=H/\(∀ a∈R.take i,∀ b∈R,tb t a b∈R)/\∃ x y,σ=[some (.ref g),some v,x,y]) ⟨rfl,by simp,_,_,rfl⟩ (fun i σ H' h=>by rw [h.1];exact ai.refl _) ?_ ?_
 ·rintro i a w' σ' H' ha hw ⟨rfl,hf,x,y,rfl⟩;cases (show w'=V.int (a:Int) from hw);have haR:=LS ha;walk_at "rg";refine la hR (fun j σ H''=>H''=H'/\(∀ b∈R.take j,tb t a b∈R)/\∃ y,σ=[some (.ref g),some v,some (.int (a:Int)),y]) ⟨rfl,by simp,_,rfl⟩ (fun i σ H' h=>by rw [h.1];exact ai.refl _) ?_ ?_
  ·rintro j b w2 σ' H'' hb hw2 ⟨rfl,hf2,y,rfl⟩;cases (show w2=V.int (b:Int) from hw2);have hbR:=LS hb;walk_at "7";refine dQ hT rfl (gt.get (hlt a haR)) fun w1 hw1=>?_;walk_at "rg";refine bG hw1 (gt.eU (hlt a haR) (hlt b hbR)) ?_;walk_at "rg";refine bX (fun z=>?_) (fun z=>?_)
   ·walk_at "rg";exact q2 fun y=>z (y a haR b hbR)
   walk_at "rg";refine ⟨rfl,fun c hc=>?_,_,rfl⟩;rw [MG,hb] at hc;rcases MD.mp hc with y|y
   ·exact hf2 c y
   ·rw [Ma.mp y];exact z
  ·rintro σ' H'' ⟨rfl,hf2,y,rfl⟩;rw [Nh] at hf2;refine ⟨rfl,fun c hc=>?_,_,_,rfl⟩;rw [MG,ha] at hc;rcases MD.mp hc with y|y
   ·exact hf c y
   ·rw [Ma.mp y];exact hf2
 ·rintro σ' H' ⟨rfl,hf,x,y,rfl⟩;rw [Nh] at hf;walk_at "rg";exact q1 hf
def BP (C:Addr) (K:LN):Sp:=fun vs H Q _=>∃ (g:Addr) (v:V) (n e:Nat) (t:List (List Nat)) (L:List Int),vs=[.ref g,v]/\aU C H g n t e/\GT n t e/\At K H v L/\L.length<=64 /\
 (rG n t L->∀ H',ai H H'->Q (.bl true) H')/\(¬ rG n t L->∀ H',ai H H'->Q (.bl false) H')
theorem B5 (T:Txt K mg):aI P w K mg base CX0 2 T.fU.f T.fU.fd ["group","some"] (BP T.az K):=by
 refine T.fU.ok wy (fun vs H Q E h=>?_) (fun cdv A outer s H vs Q E hr h=>?_)
 ·obtain ⟨g,v,n,e,t,L,rfl,_⟩:=h;rfl
 obtain ⟨g,v,n,e,t,L,rfl,hG,gt,hL,hlen,q1,q2⟩:=h;refine ⟨_,(ah (aM (lM (dJ iD (av (aW K rfl) rfl T.bI Ms (paF (pv 1) aa)) ag (aE _)) (lM (aA T.de (xh T) (hr.mono (by decide)) rfl (paF (pv 0) (paF (pv 1) aa))) (lM (aA T.jS (E7 T) (hr.mono (by decide)) rfl (paF (pv 1) aa)) (qh (aA T.cw (tJ T) (hr.mono (by decide)) rfl (paF (pv 0) (paF (pv 1) aa))))))))),?_⟩
 walk_at "rg";refine aV (fun l0=>?_) (fun z=>?_)
 rotate_left
 ·refine q2 (fun ⟨R,e,pt⟩=>?_) H (ai.refl _);have:=ML.mpr pt.ne;rw [e,LP] at z;omega
 walk_at "rg";refine ⟨g,v,n,e,t,L,rfl,hG,gt,hL,hlen,fun ha H1 s1=>?_,fun ha H1 s1=>?_⟩
 rotate_left
 ·walk_at "rg";refine eR ?_;refine q2 (fun ⟨R,e,pt⟩=>ha fun x hx=>?_) H1 s1;rw [e] at hx;obtain ⟨y,hy,rfl⟩:=Mg.mp hx;have:=pt.lt y hy;omega
 walk_at "rg";have nl:L≠[]:=fun z=>by rw [z] at l0;exact absurd l0 (by decide)
 refine ⟨v,L,rfl,Rep.mono s1 hL,nl,hlen,fun hs H2 s2=>?_,fun hs H2 s2=>?_⟩
 rotate_left
 ·walk_at "rg";refine eR ?_;refine q2 (fun ⟨R,e,pt⟩=>hs ?_) H2 (s1.trans s2);rw [e,OU];exact pt.srt.imp fun h=>by omega
 walk_at "rg";have s02:=s1.trans s2;obtain ⟨R,rfl⟩:=xo fun x hx=>(ha x hx).1;have rlt:∀ x∈R,x<n:=fun x hx=>by
  have:=(ha x (Mg.mpr ⟨x,hx,rfl⟩)).2;omega
 have srt:R.Pairwise (· < ·):=by
  rw [OU] at hs;exact hs.imp fun h=>by omega
 have rne:R≠[]:=fun z=>nl (by rw [z];rfl)
 refine ⟨g,v,n,e,t,R,rfl,hG.mono s02,gt,Cn (Rep.mono s02 hL),rlt,fun hc=>?_,fun hc=>?_⟩
 ·exact q1 ⟨R,rfl,srt,rlt,rne,hc⟩ H2 s02
 ·refine q2 (fun ⟨R2,e2,pt⟩=>hc ?_) H2 s02;have:R=R2:=v5 e2;rw [this];exact pt.cl
def spN (CE C:Addr) (K:LN):Sp:=fun vs H _ E=>∃ (g:Addr) (v:V) (n e:Nat) (t:List (List Nat)) (L:List Int),vs=[.ref g,v]/\aU C H g n t e/\GT n t e/\At K H v L/\L.length<=64/\¬ rG n t L/\∀ H',ai H H'->E (.ref CE) none H'
theorem xx (T:Txt K mg):aI P w K mg base (CXR P w) 3 T.cF.f T.cF.fd ["group","some"] (spN T.bR T.az K):=by
 refine T.cF.fn.okX rY (fun vs H Q E h=>?_) (fun cdv A outer s H vs Q E hr h=>?_)
 ·obtain ⟨g,v,n,e,t,L,rfl,_⟩:=h;rfl
 obtain ⟨g,v,n,e,t,L,rfl,hG,gt,hL,hlen,np,q⟩:=h;refine ⟨_,fun okc=>(ah (aX (ou (kb (aA T.fU (B5 T) (hr.mono (by decide)) rfl (paF (pv 0) (paF (pv 1) aa))))) (ah (jk ua rfl rfl T.mB rfl T.uH (paF cj aa))) aN)),?_⟩
 walk_at "7";refine ⟨g,v,n,e,t,L,rfl,hG,gt,hL,hlen,fun z=>absurd z np,fun _ H1 s1=>?_⟩;walk_at "rg";refine rk ?_;walk_at "rg";refine kH ?_;walk_at "rg";exact ⟨small (by show 1<=1000;decide),q H1 s1⟩
theorem Fz (T:Txt K mg):aI P w K mg base (CXR P w) 4 T.fq.f T.fq.fd ["group","part"] (spN T.bR T.az K):=by
 refine T.fq.fn.okX Aj (fun vs H Q E h=>?_) (fun cdv A outer s H vs Q E hr h=>?_)
 ·obtain ⟨g,v,n,e,t,L,rfl,_⟩:=h;rfl
 obtain ⟨g,v,n,e,t,L,rfl,h⟩:=h;refine ⟨_,fun okc=>(ae (bc (lz T.cF (xx T) (hr.mono (by decide)) rfl tU (paF (pv 0) (paF (pv 1) aa))))
   jh),?_⟩
 walk_at "rn";exact ⟨g,v,n,e,t,L,rfl,h⟩
def pP (n:Nat) (t:List (List Nat)) (e:Nat) (m:Int):Prop:=1<=m/\m<=60/\∀ k:Nat,cW (cR n t e) k->m % (k:Int)=0
def uV (CE:Addr):Sp:=fun vs H _ E=>∃ (m:Int),vs=[.int m]/\(m<1\/60<m)/\E (.ref CE) none H
theorem uI (T:Txt K mg):aI P w K mg base (CXR P w) 1 T.cK.f T.cK.fd ["many"] (fun vs H Q E=>oS vs H Q E\/uV T.bB vs H Q E):=by
 refine aI.both (oR T) ?_;refine T.cK.fn.okX oJ (fun vs H Q E h=>?_) (fun cdv A outer s H vs Q E hr h=>?_)
 ·obtain ⟨m,rfl,_⟩:=h;rfl
 obtain ⟨m,rfl,hm,q⟩:=h;refine ⟨_,fun okc=>(ah (aX (PW.pt (oM (ay ko (pv 0) ag (aE _)) (oj (ay iD (pv 0) (cD (v:=.int 60) rfl T.eF ⟨_,rfl⟩) (aE _))))) (ah (jk ua rfl rfl T.iu rfl T.nA (paF cj aa))) aN)),?_⟩;walk_at "2";refine aV (fun c=>?_) (fun c=>?_)
 ·walk_at "rx";refine kH ?_;walk_at "rx";exact ⟨small (by show 1<=1000;decide),q⟩
 ·walk_at "rx";refine aV (fun c=>?_) (fun c2=>?_)
  ·walk_at "rx";refine kH ?_;walk_at "rx";exact ⟨small (by show 1<=1000;decide),q⟩
  ·exfalso
   rcases hm with z|z <;> omega
def uF (CE C:Addr):Sp:=fun vs H _ E=>∃ (g:Addr) (m:Int) (n e:Nat) (t:List (List Nat)),vs=[.ref g,.int m]/\aU C H g n t e/\GT n t e/\¬ pP n t e m/\∀ H',ai H H'->E (.ref CE) none H'
theorem BZ (T:Txt K mg):aI P w K mg base (CXR P w) 3 T.cN.f T.cN.fd ["group","spokes"] (uF T.bB T.az):=by
 refine T.cN.fn.okX nu (fun vs H Q E h=>?_) (fun cdv A outer s H vs Q E hr h=>?_)
 ·obtain ⟨g,m,n,e,t,rfl,_⟩:=h;rfl
 obtain ⟨g,m,n,e,t,rfl,hG,gt,hm,q⟩:=h;refine ⟨_,fun okc=>(ae (ao (i:=2) nu.nd rfl (Mb rfl) (aA T.nF (An T) (hr.mono (by decide)) rfl (paF (pv 0) aa)))
   (ae (aX (wF (vw (pv 1))) (ah (aM (pv 2))) aN)
   (ae (bc (lz T.cK (uI T) (hr.mono (by decide)) rfl tU (paF (pv 1) aa)))
   (ae (aX (ay iy (ak aS (pv 1) (pv 2)) ag (aE _)) (ah (jk ua rfl rfl T.iu rfl T.nA (paF cj aa))) aN)
   (ah (aM (pv 1))))))),?_⟩
 walk_at "rx";refine ⟨g,n,e,t,rfl,hG,gt,fun k H1 s1 hk=>?_⟩;walk_at "2";refine aV (fun c=>by cases c) (fun _=>?_)
 walk_at "rx"
 by_cases h1:m<1\/60<m
 ·exact .inr ⟨m,rfl,h1,q H1 s1⟩
 ·have hk0:=hk.pos;obtain ⟨j,rfl⟩:∃ j:Nat,m=(j:Int):=⟨m.toNat,by omega⟩
  refine .inl ⟨j,rfl,by omega,by omega,?_⟩
  walk_at "2";refine bX (fun c=>?_) (fun c=>?_)
  ·walk_at "rx";refine kH ?_;walk_at "rx";exact ⟨small (by show 1<=1000;decide),q H1 s1⟩
  ·exfalso
   refine hm ⟨by omega,by omega,fun k2 hk2=>?_⟩
   rw [hk2.uni hk];have:=congrArg (fun (x:Nat)=>(x:Int)) c
   simpa using this
theorem B8 (T:Txt K mg):aI P w K mg base (CXR P w) 3 T.cN.f T.cN.fd ["group","spokes"] (fun vs H Q E=>vA T.az vs H Q E\/uF T.bB T.az vs H Q E):=aI.both (lq T) (BZ T)
def bC (T:Txt K mg) (C:Addr):Prop:=C=T.bU\/C=T.bo\/C=T.bN\/C=T.cu
theorem DG (T:Txt K mg):bC T T.bU:=.inl rfl
theorem Eu (T:Txt K mg):bC T T.bo:=.inr (.inl rfl)
theorem tF (T:Txt K mg):bC T T.bN:=.inr (.inr (.inl rfl))
theorem Gg (T:Txt K mg):bC T T.cu:=.inr (.inr (.inr rfl))
structure LJ (K:LN) (D C:Addr):Prop where
 cls:Cls K C
 g:bt K C "group"
 s:bt K C "spokes"
 z:bt K C "size"
 d:bt K C "deeds"
 cc:L4 K (.ref C) "__class__" = some (some (.builtin "object.__class__"))
 mr:N3 K C (.type "object")=some true
 kt:MH K (.ref C) (.ref D)=some true
theorem qi (T:Txt K mg) {C:Addr} (h:bC T C):LJ K T.iC C:=by
 rcases h with rfl|rfl|rfl|rfl
 ·exact ⟨T.sO,T.oC,T.n0,T.pQ,T.oH,T.pK,T.pX,T.pT⟩
 ·exact ⟨T.nW,T.qr,T.oU,T.sg,T.qd,T.pz,T.pY,T.pV⟩
 ·exact ⟨T.uJ,T.p9,T.oE,T.rW,T.pD,T.pW,T.pA,T.qu⟩
 ·exact ⟨T.va,T.qp,T.oG,T.rZ,T.pF,T.qt,T.qf,T.qj⟩
theorem mR (T:Txt K mg):∀ C,bC T C->Cls K C/\Meth K C "moves" T.dN:=by
 rintro C (rfl|rfl|rfl|rfl)
 ·exact ⟨T.sO,T.oB⟩
 ·exact ⟨T.nW,T.qe⟩
 ·exact ⟨T.uJ,T.pH⟩
 ·exact ⟨T.va,T.pR⟩
def cB (H:Hp) (p:Addr) (r:List (Nat×Nat)):Prop:=∃ qs:List Addr,H p=some (.lst (qs.map V.ref))/\qs.length=r.length/\∀ (i:Nat) (q:Addr) (x:Nat×Nat),qs[i]?=some q->r[i]?=some x->H q=some (.tup [.int (x.1:Int),.int (x.2:Int)])
def dY (H:Hp) (d:Addr) (D:List (List (Nat×Nat))):Prop:=∃ ps:List Addr,H d=some (.lst (ps.map V.ref))/\ps.length=D.length/\∀ (i:Nat) (p:Addr) (r:List (Nat×Nat)),ps[i]?=some p->D[i]?=some r->cB H p r
theorem cB.mono {H H':Hp} {p:Addr} {r:List (Nat×Nat)} (s:ai H H') (h:cB H p r):cB H' p r:=by
 obtain ⟨qs,h1,h2,h3⟩:=h;exact ⟨qs,s _ _ h1,h2,fun i q x a b=>s _ _ (h3 i q x a b)⟩
theorem dY.mono {H H':Hp} {d:Addr} {D:List (List (Nat×Nat))} (s:ai H H') (h:dY H d D):dY H' d D:=by
 obtain ⟨ps,h1,h2,h3⟩:=h;exact ⟨ps,s _ _ h1,h2,fun i p r a b=>(h3 i p r a b).mono s⟩
theorem sY {α β:Type} {F:α->β->Prop}:∀ {as:List α} {bs:List β},as.length=bs.length->(∀ (i:Nat) (a:α) (b:β),as[i]?=some a->bs[i]?=some b->F a b)->Nv F as bs
 | [],[],_,_=>.nil
 | [],_ :: _,h,_=>by cases h
 | _ :: _,[],h,_=>by cases h
 | a :: as,b :: bs,h,f=>.cons (f 0 a b rfl rfl) (sY (Nat.succ.inj h) fun i x y h1 h2=>f (i+1) x y h1 h2)
theorem cB.at {H:Hp} {p:Addr} {r:List (Nat×Nat)} (h:cB H p r):At K H (.ref p) r:=by
 obtain ⟨qs,h1,h2,h3⟩:=h;refine ⟨p,_,rfl,SqL.of h1,sY (by rw [LP];exact h2) fun i a b ha hb=>?_⟩
 rw [Mc] at ha;cases hq:qs[i]? with
 | none=>rw [hq] at ha;cases ha
 | some q =>
  rw [hq] at ha;cases ha;exact IS (h3 i q b hq hb)
theorem dY.at {H:Hp} {d:Addr} {D:List (List (Nat×Nat))} (h:dY H d D):At K H (.ref d) D:=by
 obtain ⟨ps,h1,h2,h3⟩:=h;refine ⟨d,_,rfl,SqL.of h1,sY (by rw [LP];exact h2) fun i a b ha hb=>?_⟩
 rw [Mc] at ha;cases hq:ps[i]? with
 | none=>rw [hq] at ha;cases ha
 | some q =>
  rw [hq] at ha;cases ha;exact (h3 i q b hq hb).at
theorem dY.but {H H':Hp} {d p C dx:Addr} {fs:List (Str×V)} {D:List (List (Nat×Nat))} (h:dY H d D) (hp:H p=some (.ins C dx fs)) (k:∀ a o,H a=some o->a≠p->H' a=some o):dY H' d D:=by
 obtain ⟨ps,h1,h2,h3⟩:=h;have no:∀ (a:Addr) (o:HO),H a=some o->(∀ C dx fs,o≠.ins C dx fs)->H' a=some o:=fun a o ha n=>k a o ha fun e=>by
  rw [e,hp] at ha;exact n _ _ _ (MK ha).symm
 refine ⟨ps,no _ _ h1 (fun _ _ _ z=>by cases z),h2,fun i q r a b=>?_⟩
 obtain ⟨qs,g1,g2,g3⟩:=h3 i q r a b;exact ⟨qs,no _ _ g1 (fun _ _ _ z=>by cases z),g2,fun j q' x y z=>no _ _ (g3 j q' x y z) (fun _ _ _ z=>by cases z)⟩
theorem cB.keep {H:Hp} {p d:Addr} {r:List (Nat×Nat)} {ys:List V} {o:HO} (h:cB H p r) (hd:H d=some (.lst ys)) (np:p≠d):cB (upd H d o) p r:=by
 obtain ⟨qs,h1,h2,h3⟩:=h;refine ⟨qs,by rw [au np];exact h1,h2,fun i q x a b=>?_⟩
 have z:=h3 i q x a b;rw [au (fun e=>by rw [e,hd] at z;cases z)]
 exact z
theorem qI {α:Type} {l:List α} {x y:α} {i:Nat} (h:(l++[x])[i]?=some y):(i<l.length/\l[i]?=some y)\/(i=l.length/\x=y):=by
 rcases MN i l.length with z|z
 ·rw [MB z] at h;exact .inl ⟨z,h⟩
 ·rw [MA z] at h;have:i - l.length=0:=by
   rcases Qo (i - l.length) with y' | y'
   ·exact y'
   ·rw [Nr (by simp;omega)] at h;cases h
  rw [this] at h;exact .inr ⟨by omega,MK h⟩
theorem tM {α β:Type} {F:α->β->Prop}:∀ {as:List α} {bs:List β} {i:Nat} {a:α},Nv F as bs->as[i]?=some a->∃ b,bs[i]?=some b/\F a b
 | _,_,0,_,.cons h _,e=>⟨_,rfl,by cases e;exact h⟩
 | _,_,i+1,_,.cons _ t,e=>tM (i:=i) t e
 | _,_,_,_,.nil,e=>by simp at e
theorem dY.get {H H2:Hp} {d:Addr} {D:List (List (Nat×Nat))} {i:Nat} {r:List (Nat×Nat)} {Q:VK} (h:dY H d D) (s:ai H H2) (hi:D[i]?=some r) (q:∀ p,cB H p r->Q (.ref p) H2):qM K (.ref d) (.int (i:Int)) H2 Q:=by
 obtain ⟨ps,h1,h2,h3⟩:=h;have hl:i<ps.length:=by rw [h2];exact (LR.mp hi).1
 refine ⟨d,_,_,.ref ps[i],rfl,rfl,SqL.of (s _ _ h1),kY (by rw [Mc,LO hl];rfl),q _ (h3 i _ r (LO hl) hi)⟩
theorem qO {H H':Hp} {b:Addr} {o:HO} (fb:H b=none) (s:ai H H'):ai H (upd H' b o):=fun a o' z=>by
 rw [au (aH z fb)];exact s _ _ z
theorem xH {H:Hp} {p:Addr} {xs:List V} {Q:VK} {σ:St} {g:TG} {tt:TT} {ta:TE} {own:List Str} {fr:List Nat} (r:List (Nat×Nat)) (Sh:St->Prop) (hS:SqL K H p xs) (hl:xs.length=r.length) (hz:r.length<=1000) (h0:Sh (bW own fr σ))
  (turn:∀ (i:Nat) (x:V) (y:Nat×Nat) σ' H' (R:St->V->Hp->Prop) (R0:St->Hp->Prop),xs[i]?=some x->r[i]?=some y->ai H H'->Sh σ'->(∀ σ2 q H5,Sh σ2->ai H' H5->H5 q=some (.tup [.int (y.1:Int),.int (y.2:Int)])->R σ2 (.ref q) H5) ->
   g x σ' H' fun σ2 H3=>tt σ2 H3 fun ok H4=>if ok=true then ta σ2 H4 (R σ2) else R0 σ2 H4)
  (fin:∀ d H',H d=none->ai H H'->cB H' d r->Q (.ref d) H'):mH K (.ref p) H (fL own fr g tt ta σ Q):=by
 refine oO (p:=p) (xs:=xs) (by omega) (fun d i σ' H' ys=>ai H H'/\∃ (qs:List Addr),ys=qs.map V.ref/\qs.length=i/\(∀ (j:Nat) (q:Addr) (c:Nat×Nat),qs[j]?=some q->r[j]?=some c->H' q=some (.tup [.int (c.1:Int),.int (c.2:Int)]))/\Sh σ')
  (fun d i σ' H' ys z=>z.1.seq hS) hS (fun d i σ' H' ys hi z=>by obtain ⟨_,qs,e,e2,_⟩:=z;rw [e,LP,e2];exact Mh _) (fun d hd=>⟨aG hd _,[],rfl,rfl,(fun j q c z=>by simp at z),h0⟩) ?_ ?_
 ·rintro d i o σ' H2 ys R R0 hd hi ⟨s2,qs,rfl,hq,hc,hsh⟩ hys hR hR0;have hil:i<r.length:=by rw [<- hl];exact (LR.mp hi).1
  refine turn i o _ σ' H2 R R0 hi (LO hil) s2 hsh fun σ2 a H5 hs2 s5 ha=>?_;have na:a≠d:=fun e=>by rw [e,s5 _ _ hys] at ha;cases ha
  refine hR _ _ _ (s5 _ _ hys) ⟨fun b o zz=>by rw [au (aH zz hd)];exact s5 _ _ (s2 _ _ zz),qs++[a],by rw [MM];rfl,by rw [Mm,hq];rfl,fun j q c' hj hj'=>?_,hs2⟩
  rcases qI hj with ⟨_,z⟩|⟨z1,z2⟩
  ·have zz:=s5 _ _ (hc j q c' z hj');rw [au (fun e=>by rw [e,s5 _ _ hys] at zz;cases zz)]
   exact zz
  ·subst z2;rw [z1,hq,LO hil] at hj';cases hj';rw [au na];exact ha
 ·rintro d σ' H2 ys fd hd ⟨s2,qs,rfl,hq,hc,_⟩;exact fin d H2 fd s2 ⟨qs,hd,by omega,hc⟩
theorem uU {H:Hp} {p:Addr} {xs:List V} {Q:VK} {σ:St} {g:TG} {tt:TT} {ta:TE} {own:List Str} {fr:List Nat} (D:List (List (Nat×Nat))) (Sh:St->Prop) (hS:SqL K H p xs) (hl:xs.length=D.length) (hz:D.length<=1000) (h0:Sh (bW own fr σ))
  (turn:∀ (i:Nat) (x:V) (r:List (Nat×Nat)) σ' H' (R:St->V->Hp->Prop) (R0:St->Hp->Prop),xs[i]?=some x->D[i]?=some r->ai H H'->Sh σ'->(∀ σ2 q H5,Sh σ2->ai H' H5->H' q=none->cB H5 q r->R σ2 (.ref q) H5) ->
   g x σ' H' fun σ2 H3=>tt σ2 H3 fun ok H4=>if ok=true then ta σ2 H4 (R σ2) else R0 σ2 H4)
  (fin:∀ d H',H d=none->ai H H'->dY H' d D->Q (.ref d) H'):mH K (.ref p) H (fL own fr g tt ta σ Q):=by
 refine oO (p:=p) (xs:=xs) (by omega) (fun d i σ' H' ys=>ai H H'/\∃ (ps:List Addr),ys=ps.map V.ref/\ps.length=i/\(∀ p∈ps,p≠d)/\(∀ (j:Nat) (p:Addr) (r:List (Nat×Nat)),ps[j]?=some p->D[j]?=some r->cB H' p r)/\Sh σ')
  (fun d i σ' H' ys z=>z.1.seq hS) hS (fun d i σ' H' ys hi z=>by obtain ⟨_,qs,e,e2,_⟩:=z;rw [e,LP,e2];exact Mh _) (fun d hd=>⟨aG hd _,[],rfl,rfl,(fun p hp=>by cases hp),(fun j q c z=>by simp at z),h0⟩) ?_ ?_
 ·rintro d i o σ' H2 ys R R0 hd hi ⟨s2,ps,rfl,hq,hnd,hc,hsh⟩ hys hR hR0;have hil:i<D.length:=by rw [<- hl];exact (LR.mp hi).1
  refine turn i o _ σ' H2 R R0 hi (LO hil) s2 hsh fun σ2 a H5 hs2 s5 fa ra=>?_;have na:a≠d:=fun e=>by rw [e,hys] at fa;cases fa
  have hys5:=s5 _ _ hys;refine hR _ _ _ hys5 ⟨fun b o zz=>by rw [au (aH zz hd)];exact s5 _ _ (s2 _ _ zz),ps++[a],by rw [MM];rfl,by rw [Mm,hq];rfl,fun p hp=>?_,fun j p' r' hj hj'=>?_,hs2⟩
  ·rcases MD.mp hp with z|z
   ·exact hnd p z
   ·rw [Ma.mp z];exact na
  ·rcases qI hj with ⟨_,z⟩|⟨z1,z2⟩
   ·exact ((hc j p' r' z hj').mono s5).keep hys5 (hnd p' (LS z))
   ·subst z2;rw [z1,hq,LO hil] at hj';cases hj';exact ra.keep hys5 na
 ·rintro d σ' H2 ys fd hd ⟨s2,ps,rfl,hq,hnd,hc,_⟩;exact fin d H2 fd s2 ⟨ps,hd,by omega,hc⟩
def xW (C:Addr) (K:LN):Sp:=fun vs H Q _=>∃ (g:Addr) (v:V) (n e:Nat) (t:List (List Nat)) (R:List Nat),vs=[.ref g,v]/\aU C H g n t e/\GT n t e/\At K H v R/\IsPart n t R /\
 ∀ d H',H d=none->ai H H'->Gr K H' d (bH n t e R)->Q (.ref d) H'
theorem xg (T:Txt K mg):aI P w K mg base CX0 5 T.iF.f T.iF.fd ["group","part"] (xW T.az K):=by
 refine T.iF.ok yc (fun vs H Q E h=>?_) (fun cdv A outer s H vs Q E hr h=>?_)
 ·obtain ⟨g,v,n,e,t,R,rfl,_⟩:=h;rfl
 obtain ⟨g,v,n,e,t,R,rfl,hG,gt,hR,pt,q⟩:=h;have n23:=gt.le;refine ⟨_,(ah (aM (bZ rfl oh (aZ K rfl (aA T.pZ (G8 T) (hr.mono (by decide)) rfl (paF (pv 0) (paF (pv 1) aa)))) (fun _ _ _ _=>⟨(aD (i:=0) oh.nd rfl (Mb rfl)),bw,(aq (aj K rfl) (pv 0) ag (fun _ _=>rfl))⟩)))),?_⟩
 walk_at "rn";refine ⟨g,v,n,e,t,R,rfl,hG,gt,hR,pt,fun d H1 L ps fd fps s1 hL hsd=>?_⟩;have ec:=hsd.bH gt pt;have ll:L.length<=n:=by
  have:=congrArg Qb ec;rw [LP] at this;rw [this];exact qC
 walk_at "rn";refine Jy (β:=Nat) hL (by omega) (fun i=>(L.map fun s=>s.getD 0 0).take i) (fun σ'=>∃ y,σ'=[y]) rfl (fun i _=>by rw [Mu];omega) ⟨_,rfl⟩ ?_ ?_
 ·rintro i c p σ' H5 d' R' R0 hc hs hp ⟨y,rfl⟩ hR' hR0 hd';have cne:=hsd.ne c (LS hc);walk_at "rn";refine bG (n:=0) (cC hp) (c:=c.getD 0 0) (getD_some 0 (ML.mpr cne)) ?_;exact hR' _ _ _ _ ⟨_,rfl⟩ (ai.refl _) rfl (by rw [MG,Mc,hc];rfl)
 ·intro d' H5 fd' hs hg;have hg':Gr K H5 d' ((L.map fun s=>s.getD 0 0).take L.length):=hg;rw [MC (by simp),ec] at hg'
  exact q d' H5 (s1.free fd') (s1.trans hs) hg'
def MV (n:Nat) (t:List (List Nat)) (e:Nat) (R:List Nat) (H:Hp) (kvs:List (Key×V)) (i k:Nat):Prop:=∀ i' k' c h,(i' < i\/(i'=i/\k' < k))->(bH n t e R)[i']?=some c->R[k']?=some h ->
 ∃ q,eJ kvs (nk (tb t c h))=some (.ref q)/\H q=some (.tup [.int ((i':Nat):Int),.int ((k':Nat):Int)])
theorem MV.mono {n e i k:Nat} {t:List (List Nat)} {R:List Nat} {H H':Hp} {kvs:List (Key×V)} (s:ai H H') (h:MV n t e R H kvs i k):MV n t e R H' kvs i k:=fun i' k' c x a b d=>by
 obtain ⟨q,z1,z2⟩:=h i' k' c x a b d;exact ⟨q,z1,s _ _ z2⟩
theorem MV.nil {n e:Nat} {t:List (List Nat)} {R:List Nat} {H:Hp}:MV n t e R H [] 0 0:=fun i' k' c x a=>by omega
theorem MV.next {n e i:Nat} {t:List (List Nat)} {R:List Nat} {H:Hp} {kvs:List (Key×V)} (h:MV n t e R H kvs i R.length):MV n t e R H kvs (i+1) 0:=fun i' k' c x a b d=>by
 have:=(LR.mp d).1;exact h i' k' c x (by omega) b d
theorem MV.put {n e i k c x:Nat} {t:List (List Nat)} {R:List Nat} {H:Hp} {kvs:List (Key×V)} {q df:Addr} (gt:GT n t e) (pt:IsPart n t R) (h:MV n t e R H kvs i k) (hd:H df=some (.dK kvs)) (hc:(bH n t e R)[i]?=some c) (hx:R[k]?=some x)
  (hq:H q=some (.tup [.int (i:Int),.int (k:Int)])):MV n t e R (upd H df (.dK (putK kvs (nk (tb t c x)) (.ref q)))) (putK kvs (nk (tb t c x)) (.ref q)) i (k+1):=fun i' k' c' x' a b d=>by
 have no:∀ {p:Addr} {ys:List V},H p=some (.tup ys)->p≠df:=fun z y=>by rw [y,hd] at z;cases z
 rw [G1];obtain ⟨a1,a2⟩:=Iu gt pt hc hx rfl
 by_cases hk:nk (tb t c' x')=nk (tb t c x)
 ·rw [if_pos hk];obtain ⟨b1,b2⟩:=Iu gt pt b d (A4 hk);refine ⟨q,rfl,?_⟩;rw [au (no hq),<- b1,<- b2,a1,a2];exact hq
 ·rw [if_neg hk];have ne:¬ (i'=i/\k'=k):=fun ⟨z1,z2⟩=>hk (by
   subst z1 z2;rw [hc] at b;rw [hx] at d;cases b;cases d;rfl)
  obtain ⟨q',z1,z2⟩:=h i' k' c' x' (by omega) b d
  exact ⟨q',z1,by rw [au (no z2)];exact z2⟩
def zj (C:Addr) (K:LN):Sp:=fun vs H Q _=>∃ (g:Addr) (v:V) (n e:Nat) (t:List (List Nat)) (R:List Nat),vs=[.ref g,v]/\aU C H g n t e/\GT n t e/\At K H v R/\IsPart n t R /\
 ∀ d H',H d=none->ai H H'->dY H' d (kg n t e R)->Q (.ref d) H'
theorem sh (T:Txt K mg):aI P w K mg base CX0 6 T.gH.f T.gH.fd ["group","part"] (zj T.az K):=by
 refine T.gH.ok eG (fun vs H Q E h=>?_) (fun cdv A outer s H vs Q E hr h=>?_)
 ·obtain ⟨g,v,n,e,t,R,rfl,_⟩:=h;rfl
 obtain ⟨g,v,n,e,t,R,rfl,hG,gt,hR,pt,q⟩:=h;have n23:=gt.le;have rl:=pt.len;have cl:=qC (n:=n) (t:=t) (e:=e) (R:=R);refine ⟨_,(ae (ao (i:=2) eG.nd rfl (PX rfl) (aA T.iF (xg T) (hr.mono (by decide)) rfl (paF (pv 0) (paF (pv 1) aa))))
   (ae (ao (i:=3) eG.nd rfl (PX rfl) Gv)
   (ae (bE Ml rfl (ot K rfl rfl T.cY (paF (pv 2) aa)) (m4 rfl (cM (aD (i:=4) eG.nd rfl (Mb rfl)) (cM (aD (i:=5) eG.nd rfl (Mb rfl)) kF))) (ah (bE Ml rfl (ot K rfl rfl T.cY (paF (pv 1) aa)) (m4 rfl (cM (aD (i:=6) eG.nd rfl (Mb rfl)) (cM (aD (i:=7) eG.nd rfl (Mb rfl)) kF))) (ah (IZ (vR hr) (pv 3) (aq (aj K rfl) (aq (aj K rfl) (aL K rfl (pv 0) rfl) (pv 5) (fun _ _=>rfl)) (pv 7) (fun _ _=>rfl)) (mX (paF (pv 4) (paF (pv 6) aa))) rfl)))))
   (ah (aM (As rfl oV (aZ K rfl (aL K rfl (pv 0) rfl)) (fun _ _ _ _=>⟨(aD (i:=0) oV.nd rfl (PX rfl)),bw,(bZ rfl oP (aZ K rfl (pv 1)) (fun _ _ _ _=>⟨(aD (i:=0) oP.nd rfl (Mb rfl)),bw,(uc (vR hr) (pv 1) (aq (aj K rfl) (pv 2) (pv 0) (fun _ _=>rfl)) (fun _ _=>rfl))⟩))⟩))))))),?_⟩
 walk_at "rn";refine ⟨g,v,n,e,t,R,rfl,hG,gt,hR,pt,fun dc H1 fdc s1 gc=>?_⟩;have hG1:=aU.mono s1 hG;have hR1:=Rep.mono s1 hR;obtain ⟨dx,r4,bk,hg,hT,hB⟩:=hG1.get (K:=K);walk_at "rn";refine J1 fun df hdf=>?_;walk_at "rn";refine um (H₀:=H1) gc.at (fun i σ' H'=>ai H1 H'/\(∃ kvs,H' df=some (.dK kvs)/\kvs.length<=i * 23/\MV n t e R H' kvs i 0)/\∃ x4 x5 x6 x7,σ'=[some (.ref g),some v,some (.ref dc),some (.ref df),x4,x5,x6,x7]) ⟨aG hdf _,⟨[],ar,by simp,MV.nil⟩,_,_,_,_,rfl⟩ (fun i σ' H' z=>z.1) ?_ ?_
 ·rintro i c w' σ' H3 H4 pt' hc hw ⟨s3,⟨kvs,hd3,hl3,mv3⟩,x4,x5,x6,x7,rfl⟩ hpt rfl s4;cases (show w'=V.int (c:Int) from hw);have hil:=(LR.mp hc).1;have cn:=cV (LS hc);have s14:=s3.trans s4;have hd4:=s4 _ _ hd3;have mv4:=mv3.mono s4;generalize upd H3 pt' (.tup [.int (i:Int),.int (c:Int)])=H4 at s14 hd4 mv4;walk_at "rn";refine um (H₀:=H1) hR1 (fun k σ' H'=>ai H1 H'/\(∃ kvs,H' df=some (.dK kvs)/\kvs.length<=i * 23+k/\MV n t e R H' kvs i k)/\∃ x6 x7,σ'=[some (.ref g),some v,some (.ref dc),some (.ref df),some (.int (i:Int)),some (.int (c:Int)),x6,x7]) ⟨s14,⟨kvs,hd4,by omega,mv4⟩,_,_,rfl⟩ (fun i σ' H' z=>z.1) ?_ ?_
  ·rintro k x w2 σ' H5 H6 pt2 hx hw2 ⟨s5,⟨kv5,hd5,hl5,mv5⟩,x6,x7,rfl⟩ hpt2 rfl s6;cases (show w2=V.int (x:Int) from hw2);have hkl:=(LR.mp hx).1;have xn:=pt.lt x (LS hx);have s16:=s5.trans s6;have hd6:=s6 _ _ hd5;have mv6:=mv5.mono s6;generalize upd H5 pt2 (.tup [.int (k:Int),.int (x:Int)])=H6 at s16 hd6 mv6;walk_at "rn";refine Jd ?_;walk_at "5";refine ⟨small (by show 2<=1000;decide),fun p hp=>?_⟩
   have s7:=aG hp (.tup [.int (i:Int),.int (k:Int)]);have hp7:(upd H6 p (.tup [.int (i:Int),.int (k:Int)])) p=some (.tup [.int (i:Int),.int (k:Int)]):=ar;have s17:=s16.trans s7;have hd7:=s7 _ _ hd6;have mv7:=mv6.mono s7;generalize upd H6 p (.tup [.int (i:Int),.int (k:Int)])=H7 at s17 hd7 mv7 hp7;have hg7:=s17 _ _ hg;have hT7:=Rep.mono s17 hT;walk_at "rg";refine dQ hT7 rfl (gt.get cn) fun w1 hw1=>?_;walk_at "rn";refine bG hw1 (gt.eU cn xn) ?_;have l7:=pk kv5 (nk (tb t c x)) (V.ref p);refine KP hd7 (by omega) ⟨fun b o z=>by rw [au (aH z hdf)];exact s17 _ _ z,⟨_,ar,by omega,mv7.put gt pt hd7 hc hx hp7⟩,_,_,rfl⟩
  ·rintro σ' H5 ⟨s5,⟨kv5,hd5,hl5,mv5⟩,x6,x7,rfl⟩;walk_at "rn";exact ⟨s5,⟨kv5,hd5,by omega,mv5.next⟩,_,_,_,_,rfl⟩
 ·rintro σ' H3 ⟨s3,⟨kvs,hd3,hl3,mv3⟩,x4,x5,x6,x7,rfl⟩;have hg3:=s3 _ _ hg;have hT3:=Rep.mono s3 hT;have aC:=Rep.mono s3 gc.at;walk_at "rg";obtain ⟨pr,xs,epr,hSr,hPr⟩:=id hT3;cases epr;have lt:=Pc hPr;have tl:=gt.len;refine uU (kg n t e R) (fun σ'=>∃ y,σ'=[y,some (.ref dc),some (.ref df)]) hSr (by unfold kg;rw [LP,Mt];omega) (by unfold kg;rw [LP,Mt];omega) ⟨_,rfl⟩ ?_ ?_
  ·rintro i o r σ' H4 R' R0 ho hr4 s4 ⟨y,rfl⟩ hR';obtain ⟨row,hrow,arow⟩:=tM hPr ho;have hin:i<n:=by rw [<- tl];exact (LR.mp hrow).1
   have er:row=t.getD i []:=by
    have:=gt.get hin;rw [hrow] at this;exact MK this
   subst er;have aR4:=Rep.mono s4 arow;have aC4:=Rep.mono s4 aC;obtain ⟨pc,cs,ecs,hSc,hPc⟩:=id aC4;cases ecs;have lc:=Pc hPc;have e4:r=(bH n t e R).map fun c=>(hm n t e R (tb t i c),R.idxOf (ov n t e R (tb t i c))):=by
    unfold kg at hr4;rw [Mc,NG hin] at hr4;exact (MK hr4).symm
   subst e4;walk_at "rn";refine xH ((bH n t e R).map fun c=>(hm n t e R (tb t i c),R.idxOf (ov n t e R (tb t i c)))) (fun σ'=>∃ y,σ'=[y,some (.ref df),some o]) hSc (by rw [LP];exact lc) (by rw [LP];omega) ⟨_,rfl⟩ ?_ ?_
   ·rintro j o2 y2 σ' H5 R2 R02 ho2 hy2 s5 ⟨y,rfl⟩ hR2;obtain ⟨c,hc,ac⟩:=tM hPc ho2;cases (show o2=V.int (c:Int) from ac);rw [Mc,hc] at hy2;cases hy2;have cn:=cV (LS hc);have xn:=gt.lt i c hin cn;obtain ⟨c',k',z1,z2,z3,z4⟩:=zI gt pt xn;have s35:=s4.trans s5;obtain ⟨qq,v1,v2⟩:=mv3 _ _ c' _ (.inl (LR.mp z1).1) z1 z2;rw [z4] at v1;walk_at "rn";refine tX ?_;walk_at "rn";refine bG (Rep.mono s5 aR4) (gt.eU hin cn) ?_;refine vx (s35 _ _ hd3) v1 ?_;exact hR2 _ qq _ ⟨_,rfl⟩ (ai.refl _) (by dsimp only;rw [z3];exact s35 _ _ v2)
   ·intro d2 H5 fd2 s5 r5;exact hR' _ _ _ ⟨_,rfl⟩ s5 fd2 r5
  ·intro d2 H4 fd2 s4 hD;have s14:=s3.trans s4;exact q d2 H4 (s1.free (s3.free fd2)) (s1.trans s14) hD
def A6 (C:Addr) (K:LN):Sp:=fun vs H Q _=>∃ (g:Addr) (v u z:V) (n e m l:Nat) (t:List (List Nat)) (R M:List Nat),vs=[.ref g,v,u,z]/\aU C H g n t e/\GT n t e/\At K H v R/\IsPart n t R/\At K H u M/\M.length=R.length/\(∀ x∈M,x<m) /\
 (z=.int (m:Int)\/(z=.non/\m=l))/\cW (cR n t e) l/\m % l=0/\0<m/\m<=60/\(∀ j,j<R.length->∀ k,k<R.length->og t R M m j k)/\∀ H',ai H H'->Q .non H'
theorem Ba (T:Txt K mg):aI P w K mg base CX0 5 T.j8.f T.j8.fd ["group","part","marks","spokes"] (A6 T.az K):=by
 refine T.j8.ok sV (fun vs H Q E h=>?_) (fun cdv A outer s H vs Q E hr h=>?_)
 ·obtain ⟨g,v,u,z,n,e,m,l,t,R,M,rfl,_⟩:=h;rfl
 obtain ⟨g,v,u,z,n,e,m,l,t,R,M,rfl,hG,gt,hR,pt,hM,ml,mm,hz,hl,ml0,m1,m60,ok,q⟩:=h;refine ⟨_,(ae (ao (i:=4) sV.nd rfl (Mb rfl) (K7 T.iM (xw T) (hr.mono (by decide)) rfl (paF (pv 0) (paF (pv 1) (paF (pv 2) (paF (pv 3) aa))))))
   (ah (aX (wF (IT (pv 4))) (ah cE) aN))),?_⟩
 walk_at "rn";refine ⟨g,v,u,z,n,e,m,l,t,R,M,rfl,hG,gt,hR,pt,hM,ml,mm,hz,hl,ml0,m1,m60,fun x H1 o s1 hx hb=>?_⟩;cases hb.uni (o':=none) ok;cases (show x=.non from hx);walk_at "1";refine bX (fun c=>absurd rfl c) (fun _=>?_);walk_at "rn";exact q _ s1
end
section
variable {P:Mp} {w:World} {K:LN} {mg:Str->Option Value} {base:Heap}
def LB (g:V) (m z:Int) (d:V):List (Str×V):=[("group",g),("spokes",.int m),("size",.int z),("deeds",d)]
def Ly (a b g:V) (m z:Int) (d:V):List (Str×V):=[("part",a),("marks",b),("group",g),("spokes",.int m),("size",.int z),("deeds",d)]
def WF (fs:List (Str×V)) (g:V) (m z:Int) (d:V):Prop:=fs=LB g m z d\/∃ x y,fs=Ly x y g m z d
def dC (W:Addr->Prop) (H:Hp) (a g:Addr) (m z:Nat) (D:List (List (Nat×Nat))):Prop:=∃ C dx d fs,W C/\H a=some (.ins C dx fs)/\WF fs (.ref g) m z (.ref d)/\dY H d D
theorem dC.mono {W:Addr->Prop} {H H':Hp} {a g m z:Nat} {D:List (List (Nat×Nat))} (s:ai H H') (h:dC W H a g m z D):dC W H' a g m z D:=by
 obtain ⟨C,dx,d,fs,h0,h1,h2,h3⟩:=h;exact ⟨C,dx,d,fs,h0,s _ _ h1,h2,h3.mono s⟩
section
variable (T:Txt K mg) {H:Hp} {C a dx:Addr} {m z:Int} {g d:V} {fs:List (Str×V)} {Q:VK} (hC:bC T C) (ha:H a=some (.ins C dx fs)) (wf:WF fs g m z d)
include hC ha wf
theorem fB (q:Q g H):isF K "group" (.ref a) H Q:=by
 have c:=qi T hC;rcases wf with rfl|⟨x,y,rfl⟩ <;> exact ⟨a,C,dx,_,_,rfl,ha,c.cls,c.g,rfl,q⟩
theorem fh (q:Q (.int m) H):isF K "spokes" (.ref a) H Q:=by
 have c:=qi T hC;rcases wf with rfl|⟨x,y,rfl⟩ <;> exact ⟨a,C,dx,_,_,rfl,ha,c.cls,c.s,rfl,q⟩
theorem fP (q:Q (.int z) H):isF K "size" (.ref a) H Q:=by
 have c:=qi T hC;rcases wf with rfl|⟨x,y,rfl⟩ <;> exact ⟨a,C,dx,_,_,rfl,ha,c.cls,c.z,rfl,q⟩
theorem GQ (q:Q d H):isF K "deeds" (.ref a) H Q:=by
 have c:=qi T hC;rcases wf with rfl|⟨x,y,rfl⟩ <;> exact ⟨a,C,dx,_,_,rfl,ha,c.cls,c.d,rfl,q⟩
end
theorem WF.moves {fs:List (Str×V)} {g d:V} {m z:Int} (wf:WF fs g m z d):fs.lookup ("moves" : Str)=none:=by
 rcases wf with rfl|⟨x,y,rfl⟩ <;> rfl
def K2 (W:Addr->Prop):Sp:=fun vs H Q _=>∃ (p C dx d:Addr) (g:V) (m:Int) (f0:List (Str×V)) (D:List (List (Nat×Nat))) (r:List (Nat×Nat)),vs=[.ref p,g,.int m,.ref d]/\W C/\H p=some (.ins C dx f0)/\(f0=[]\/∃ x y:V,f0=([("part",x),("marks",y)]:List (Str×V)))/\dY H d D/\D[0]?=some r /\
 ∀ H' fs,H' p=some (.ins C dx fs)->WF fs g m r.length (.ref d)->(∀ a o,H a=some o->a≠p->H' a=some o)->Q .non H'
theorem vG (T:Txt K mg):aI P w K mg base CX0 1 T.wx T.zJ ["self","group","spokes","deeds"] (K2 (bC T)):=by
 refine T.IC.ok B4 (fun vs H Q E h=>?_) (fun cdv A outer s H vs Q E hr h=>?_)
 ·obtain ⟨p,C,dx,d,g,m,f0,D,r,rfl,_⟩:=h;rfl
 obtain ⟨p,C,dx,d,g,m,f0,D,r,rfl,hC,hp,hf,hD,h0,k⟩:=h;have c:=qi T hC;refine ⟨_,(ae (iP K rfl (pv 0) (pv 1) rfl)
   (ae (iP K rfl (pv 0) (pv 2) rfl)
   (ae (iP K rfl (pv 0) (av (aW K rfl) rfl T.bI Ms (paF (aq (aj K rfl) (pv 3) ag (fun _ _=>rfl)) aa)) rfl)
   (ah (iP K rfl (pv 0) (pv 3) rfl))))),?_⟩
 walk_at "rd";refine ⟨p,C,dx,_,rfl,hp,c.cls,c.g,(by rcases hf with rfl|⟨x,y,rfl⟩;exact (show 0<1000 by decide);exact (show 2<1000 by decide)),?_⟩
 walk_at "rd";refine ⟨p,C,dx,_,rfl,ar,c.cls,c.s,(by rcases hf with rfl|⟨x,y,rfl⟩;exact (show 1<1000 by decide);exact (show 3<1000 by decide)),?_⟩
 walk_at "rd";have hD2:dY (upd (upd H p (.ins C dx (dg "group" g f0))) p (.ins C dx (dg "spokes" (V.int m) (dg "group" g f0)))) d D:=hD.but hp fun a o ha hne=>by
  rw [au hne,au hne];exact ha
 refine dQ (n:=0) (hD2.at (K:=K)) rfl h0 fun w1 hw1=>?_;walk_at "rd";refine dD hw1 ?_;walk_at "rd";refine ⟨p,C,dx,_,rfl,ar,c.cls,c.z,(by rcases hf with rfl|⟨x,y,rfl⟩;exact (show 2<1000 by decide);exact (show 4<1000 by decide)),?_⟩
 walk_at "rd";refine ⟨p,C,dx,_,rfl,ar,c.cls,c.d,(by rcases hf with rfl|⟨x,y,rfl⟩;exact (show 3<1000 by decide);exact (show 5<1000 by decide)),?_⟩
 refine k _ _ ar ?_ fun a o ha hne=>?_
 ·rcases hf with rfl|⟨x,y,rfl⟩
  ·exact .inl rfl
  ·exact .inr ⟨x,y,rfl⟩
 rw [au hne,au hne,au hne,au hne];exact ha
theorem yy {n e i:Nat} {t:List (List Nat)} {R:List Nat} (hi:i<n):(kg n t e R)[i]?=some ((bH n t e R).map fun c=>(hm n t e R (tb t i c),R.idxOf (ov n t e R (tb t i c)))):=by
 unfold kg;rw [Mc,NG hi];rfl
theorem yJ {n e i:Nat} {t:List (List Nat)} {R M:List Nat} (hi:i<n):(lT n t e R M)[i]?=some ((bH n t e R).map fun c=>(hm n t e R (tb t i c),M.getD (R.idxOf (ov n t e R (tb t i c))) 0)):=by
 unfold lT;rw [Mc,NG hi];rfl
def E9 (C CG:Addr) (K:LN):Sp:=fun vs H Q _=>∃ (p dx g:Addr) (v u z:V) (n e m l:Nat) (t:List (List Nat)) (R M:List Nat) (H0:Hp),vs=[.ref p,.ref g,v,u,z]/\H p=some (.ins C dx [])/\H0 p=none/\ai H0 H/\aU CG H0 g n t e/\GT n t e/\At K H0 v R/\IsPart n t R/\At K H0 u M/\M.length=R.length/\(∀ x∈M,x<m) /\
 (z=.int (m:Int)\/(z=.non/\m=l))/\cW (cR n t e) l/\m % l=0/\0<m/\m<=60/\(∀ j,j<R.length->∀ k,k<R.length->og t R M m j k) /\
 ∀ d H' fs,ai H0 H'->H' p=some (.ins C dx fs)->WF fs (.ref g) m (bH n t e R).length (.ref d)->dY H' d (lT n t e R M)->Q .non H'
theorem FW (T:Txt K mg):aI P w K mg base CX0 7 T.rq T.mI ["self","group","part","marks","spokes"] (E9 T.bo T.az K):=by
 refine T.Aw.ok qc (fun vs H Q E h=>?_) (fun cdv A outer s H vs Q E hr h=>?_)
 ·obtain ⟨p,dx,g,v,u,z,n,e,m,l,t,R,M,H0,rfl,_⟩:=h;rfl
 obtain ⟨p,dx,g,v,u,z,n,e,m,l,t,R,M,H0,rfl,hp,h0p,s0,hG,gt,hR,pt,hM,ml,mm,hz,hl,ml0,m1,m60,ok,q⟩:=h;have n1:=gt.pos;have n23:=gt.le;have rl:=pt.len;have cl:=qC (n:=n) (t:=t) (e:=e) (R:=R);have sv:zV n t e z m:=by
  rcases hz with rfl|⟨rfl,rfl⟩
  ·exact .inr ⟨rfl,m1,m60,fun k hk=>by rw [hk.uni hl];exact ml0⟩
  ·exact .inl ⟨rfl,hl⟩
 refine ⟨_,(ae (bc (aA T.j8 (Ba T) (hr.mono (by decide)) rfl (paF (pv 1) (paF (pv 2) (paF (pv 3) (paF (pv 4) aa))))))
   (ae (iP K rfl (pv 0) (cp (fZ K rfl) rfl T.eM M1 (paF (pv 2) aa)) rfl)
   (ae (iP K rfl (pv 0) (cp (fZ K rfl) rfl T.eM M1 (paF (pv 3) aa)) rfl)
   (ae (dk (i:=5) rfl qc.nd rfl (Mb rfl) nU (aZ K rfl (aA T.gH (sh T) (hr.mono (by decide)) rfl (paF (pv 1) (paF (pv 2) aa)))) (fun _ _ _ _=>⟨(aD (i:=0) nU.nd rfl (Mb rfl)),bw,(bZ rfl n6 (aZ K rfl (pv 0)) (fun _ _ _ _=>⟨(Bt K rfl (i:=0) (j:=1) rfl n6.nd rfl (Mb rfl) rfl (Mb rfl)),bw,(mX (paF (pv 0) (paF (aq (aj K rfl) (pv 2) (pv 1) (fun _ _=>rfl)) aa)))⟩))⟩) rfl)
   (ah (bc (q9 rfl T.vP T.wL (vG T) (hr.mono (by decide)) T.vt (paF (pv 0) (paF (pv 1) (paF (aA T.cN (lq T) (hr.mono (by decide)) rfl (paF (pv 1) (paF (pv 4) aa))) (paF (pv 5) aa))))))))))),?_⟩
 walk_at "rn";refine ⟨g,v,u,z,n,e,m,l,t,R,M,rfl,hG.mono s0,gt,Rep.mono s0 hR,pt,Rep.mono s0 hM,ml,mm,hz,hl,ml0,m1,m60,ok,fun H1 s1=>?_⟩;have s01:=s0.trans s1;have hp1:=s1 _ _ hp;walk_at "rn";refine xY (Rep.mono s01 hR) fun pa H2 fpa s2 ga=>?_;have hp2:=s2 _ _ hp1;have hpa:=lr ga;have npa:pa≠p:=fun y=>by rw [y,hp2] at hpa;cases hpa
 have fpa0:H0 pa=none:=s01.free fpa;walk_at "rd";refine ⟨p,T.bo,dx,_,rfl,hp2,T.nW,T.rQ,(by show 0<1000;decide),?_⟩
 have s03:ai H0 (upd H2 p (.ins T.bo dx (dg "part" (.ref pa) []))):=fun b o y=>by rw [au (aH y h0p)];exact s2 _ _ (s01 _ _ y)
 have hp3:(upd H2 p (.ins T.bo dx (dg "part" (.ref pa) []))) p=some (.ins T.bo dx [("part",.ref pa)]):=ar;have ha3:(upd H2 p (.ins T.bo dx (dg "part" (.ref pa) []))) pa=some (.lst (bb R)):=by rw [au npa];exact hpa
 generalize upd H2 p (.ins T.bo dx (dg "part" (.ref pa) []))=H3 at s03 hp3 ha3;walk_at "rn";refine xY (Rep.mono s03 hM) fun ma H4 fma s4 gb=>?_;have hp4:=s4 _ _ hp3;have ha4:=s4 _ _ ha3;have hma:=lr gb;have nma:ma≠p:=fun y=>by rw [y,hp4] at hma;cases hma
 have fma0:H0 ma=none:=s03.free fma;walk_at "rd";refine ⟨p,T.bo,dx,_,rfl,hp4,T.nW,T.pN,(by show 1<1000;decide),?_⟩
 have s05:ai H0 (upd H4 p (.ins T.bo dx (dg "marks" (.ref ma) [("part",.ref pa)]))):=fun b o y=>by rw [au (aH y h0p)];exact s4 _ _ (s03 _ _ y)
 have hp5:(upd H4 p (.ins T.bo dx (dg "marks" (.ref ma) [("part",.ref pa)]))) p=some (.ins T.bo dx [("part",.ref pa),("marks",.ref ma)]):=ar;have ha5:(upd H4 p (.ins T.bo dx (dg "marks" (.ref ma) [("part",.ref pa)]))) pa=some (.lst (bb R)):=by rw [au npa];exact ha4
 have hb5:(upd H4 p (.ins T.bo dx (dg "marks" (.ref ma) [("part",.ref pa)]))) ma=some (.lst (bb M)):=by rw [au nma];exact hma
 generalize upd H4 p (.ins T.bo dx (dg "marks" (.ref ma) [("part",.ref pa)]))=H5 at s05 hp5 ha5 hb5;walk_at "rn";refine ⟨g,v,n,e,t,R,rfl,hG.mono s05,gt,Rep.mono s05 hR,pt,fun d6 H6 fd6 s6 hD6=>?_⟩;have s06:=s05.trans s6;obtain ⟨ps6,h61,h62,h63⟩:=id hD6;have ln6:ps6.length=n:=by rw [h62];unfold kg;rw [LP,Mt]
 walk_at "rn";refine uU (lT n t e R M) (fun σ'=>∃ y,σ'=[y,some u]) (SqL.of h61) (by unfold lT;rw [LP,LP,Mt];exact ln6) (by unfold lT;rw [LP,Mt];omega) ⟨_,rfl⟩ ?_ ?_
 ·rintro i o r σ' H7 R' R0 ho hr7 s7 ⟨y,rfl⟩ hR';have hin:i<n:=by
   have:=(LR.mp ho).1;rw [LP] at this;omega
  rw [yJ hin] at hr7;cases hr7;rw [Mc] at ho;cases hq:ps6[i]? with
  | none=>rw [hq] at ho;cases ho
  | some pq =>
   rw [hq] at ho;cases ho;obtain ⟨qs,r1,r2,r3⟩:=(h63 i pq _ hq (yy hin)).mono s7;rw [LP] at r2;walk_at "rn";refine xH ((bH n t e R).map fun c=>(hm n t e R (tb t i c),M.getD (R.idxOf (ov n t e R (tb t i c))) 0)) (fun σ'=>∃ y1 y2,σ'=[y1,y2,some u]) (SqL.of r1) (by rw [LP,LP];exact r2) (by rw [LP];omega) ⟨_,_,rfl⟩ ?_ ?_
   ·rintro j o2 y2 σ' H8 R2 R02 ho2 hy2 s8 ⟨y1,y3,rfl⟩ hR2;rw [Mc] at ho2 hy2;cases hc:(bH n t e R)[j]? with
    | none=>rw [hc] at hy2;cases hy2
    | some c =>
     rw [hc] at hy2;cases hy2;cases hq2:qs[j]? with
     | none=>rw [hq2] at ho2;cases ho2
     | some q2 =>
      rw [hq2] at ho2;cases ho2;have ht:=s8 _ _ (r3 j q2 _ hq2 (by rw [Mc,hc];rfl))
      have cn:=cV (LS hc);have xn:=gt.lt i c hin cn;obtain ⟨_,k',_,z2,z3,_⟩:=zI gt pt xn;have kl:R.idxOf (ov n t e R (tb t i c))<M.length:=by rw [z3,ml];exact (LR.mp z2).1
      refine ⟨q2,_,rfl,SqT.of ht,rfl,⟨_,_,rfl,⟨_,_,rfl,⟨rfl,?_⟩⟩⟩⟩;walk_at "5";refine bG (Rep.mono (s06.trans (s7.trans s8)) hM) (getD_some (l:=M) 0 kl) ?_;walk_at "rn";refine ⟨small (by show 2<=1000;decide),fun a ha=>?_⟩
      exact hR2 _ a _ ⟨_,_,rfl⟩ (aG ha _) ar
   ·intro d2 H8 fd2 s8 r8;exact hR' _ _ _ ⟨_,rfl⟩ s8 fd2 r8
 ·intro d7 H7 fd7 s7 hD7;have s07:=s06.trans s7;walk_at "rn";refine ⟨g,z,n,e,m,t,rfl,hG.mono s07,gt,sv,fun H8 s8=>?_⟩;have s58:=s6.trans (s7.trans s8);walk_at "rn";refine ⟨p,T.bo,dx,d7,.ref g,(m:Int),_,_,_,rfl,.inr (.inl rfl),s58 _ _ hp5,.inr ⟨_,_,rfl⟩,hD7.mono s8,yJ n1,fun H9 fs h9 wf k9=>?_⟩;rw [LP] at wf;walk_at "rn";exact q d7 H9 fs (fun b o y=>k9 b o (s58 _ _ (s05 _ _ y)) (aH y h0p)) h9 wf ((hD7.mono s8).but (s58 _ _ hp5) k9)
def G6 (W:Addr->Prop):Sp:=fun vs H Q _=>∃ (a g:Addr) (x m n:Nat) (D:List (List (Nat×Nat))) (r:List (Nat×Nat)),vs=[.ref a,.int (x:Int)]/\dC W H a g m n D/\D[x]?=some r/\∀ p H',H p=none->ai H H'->cB H' p r->Q (.ref p) H'
theorem jA (T:Txt K mg):aI P w K mg base CX0 1 T.dN T.mK ["self","thing"] (G6 (bC T)):=by
 refine T.uB.ok AS (fun vs H Q E h=>?_) (fun cdv A outer s H vs Q E hr h=>?_)
 ·obtain ⟨a,g,x,m,n,D,r,rfl,_⟩:=h;rfl
 obtain ⟨a,g,x,m,n,D,r,rfl,hW,hx,q⟩:=h;obtain ⟨C,dx,d,fs,hC,ha,wf,hD⟩:=id hW;refine ⟨_,(ah (aM (cp (fZ K rfl) rfl T.eM M1 (paF (aq (aj K rfl) (aL K rfl (pv 0) rfl) (pv 1) (fun _ _=>rfl)) aa)))),?_⟩;walk_at "rx";refine GQ T hC ha wf ?_;walk_at "rx";refine hD.get (ai.refl _) hx fun p hp=>?_;walk_at "rx";obtain ⟨qs,h1,h2,h3⟩:=hp;refine ⟨p,_,rfl,.inl (SqL.of h1),fun l hl=>?_⟩;have s1:=aG hl (.lst (qs.map V.ref));exact q l _ hl s1 ⟨qs,ar,h2,fun i q' y z1 z2=>s1 _ _ (h3 i q' y z1 z2)⟩
end
section
variable {P:Mp} {w:World} {K:LN} {mg:Str->Option Value} {base:Heap}
structure WOk (n m z:Nat) (D:List (List (Nat×Nat))):Prop where
 len:D.length=n
 row:∀ r∈D,r.length=z
 lt:∀ r∈D,∀ y∈r,y.2<m
 m1:1<=m
 m60:m<=60
 z1:z<=1000
 z0:1<=z
theorem WOk.get {n m z i:Nat} {D:List (List (Nat×Nat))} (h:WOk n m z D) (hi:i<n):∃ r,D[i]?=some r/\r∈D/\D.getD i []=r:=by
 have hl:i<D.length:=by rw [h.len];exact hi
 exact ⟨D[i],LO hl,Ni hl,by rw [L6,LO hl];rfl⟩
theorem Af {H:Hp} {Q:VK} {σ:St} {g:TG} {tt:TT} {ta:TE} {own:List Str} {fr:List Nat} {b:Int} {n:Nat} (eb:b=(n:Int)) (D:List (List (Nat×Nat))) (Sh:St->Prop) (hl:n=D.length) (hz:D.length<=1000) (h0:Sh (bW own fr σ))
  (turn:∀ (i:Nat) (r:List (Nat×Nat)) σ' H' (R:St->V->Hp->Prop) (R0:St->Hp->Prop),i<n->D[i]?=some r->ai H H'->Sh σ'->(∀ σ2 q H5,Sh σ2->ai H' H5->H' q=none->cB H5 q r->R σ2 (.ref q) H5) ->
   g (.int (i:Int)) σ' H' fun σ2 H3=>tt σ2 H3 fun ok H4=>if ok=true then ta σ2 H4 (R σ2) else R0 σ2 H4)
  (fin:∀ d H',H d=none->ai H H'->dY H' d D->Q (.ref d) H'):wZ [.int b] H (fL own fr g tt ta σ Q):=by
 refine vg (n:=n) eb (by omega) (fun d i σ' H' ys=>ai H H'/\∃ (ps:List Addr),ys=ps.map V.ref/\ps.length=i/\(∀ p∈ps,p≠d)/\(∀ (j:Nat) (p:Addr) (r:List (Nat×Nat)),ps[j]?=some p->D[j]?=some r->cB H' p r)/\Sh σ')
  (fun d i σ' H' ys hi z=>by obtain ⟨_,qs,e,e2,_⟩:=z;rw [e,LP,e2];exact Mh _) (fun d hd=>⟨aG hd _,[],rfl,rfl,(fun p hp=>by cases hp),(fun j q c z=>by simp at z),h0⟩) ?_ ?_
 ·rintro d i σ' H2 ys R R0 hd hi ⟨s2,ps,rfl,hq,hnd,hc,hsh⟩ hys hR hR0;have hil:i<D.length:=by omega
  refine turn i _ σ' H2 R R0 hi (LO hil) s2 hsh fun σ2 a H5 hs2 s5 fa ra=>?_;have na:a≠d:=fun e=>by rw [e,hys] at fa;cases fa
  have hys5:=s5 _ _ hys;refine hR _ _ _ hys5 ⟨fun b o zz=>by rw [au (aH zz hd)];exact s5 _ _ (s2 _ _ zz),ps++[a],by rw [MM];rfl,by rw [Mm,hq];rfl,fun p hp=>?_,fun j p' r' hj hj'=>?_,hs2⟩
  ·rcases MD.mp hp with z|z
   ·exact hnd p z
   ·rw [Ma.mp z];exact na
  ·rcases qI hj with ⟨_,z⟩|⟨z1,z2⟩
   ·exact ((hc j p' r' z hj').mono s5).keep hys5 (hnd p' (LS z))
   ·subst z2;rw [z1,hq,LO hil] at hj';cases hj';exact ra.keep hys5 na
 ·rintro d σ' H2 ys fd hd ⟨s2,ps,rfl,hq,hnd,hc,_⟩;exact fin d H2 fd s2 ⟨ps,hd,by omega,hc⟩
theorem Jh {n e m:Nat} {t:List (List Nat)} {R M:List Nat} (gt:GT n t e) (pt:IsPart n t R) (ml:M.length=R.length) (mm:∀ x∈M,x<m) (m1:0<m) (m60:m<=60):WOk n m (bH n t e R).length (lT n t e R M):=by
 have n23:=gt.le;have clen:=qC (n:=n) (t:=t) (e:=e) (R:=R);refine ⟨by unfold lT;rw [LP,Mt],fun r hr=>?_,fun r hr y hy=>?_,m1,m60,by omega,(let ⟨c,hc,_⟩:=Ct gt pt 0 gt.pos;Rq hc)⟩
 ·unfold lT at hr;obtain ⟨b,_,rfl⟩:=Mg.mp hr;rw [LP]
 ·unfold lT at hr;obtain ⟨b,hb,rfl⟩:=Mg.mp hr;obtain ⟨c',hc',rfl⟩:=Mg.mp hy;obtain ⟨_,k',_,z2,z3,_⟩:=zI gt pt (gt.lt b c' (L9.mp hb) (cV hc'));have kl:R.idxOf (ov n t e R (tb t b c'))<M.length:=by rw [z3,ml];exact (LR.mp z2).1
  exact mm _ (LS (getD_some (l:=M) 0 kl))
theorem GP {l:List Nat} (h:∀ s∈l,1<=s):∃ k,cW l k:=by
 have key:∀ k,1<=k->(∀ s∈l,k % s=0)->∃ k,cW l k:=fun k=>by
  induction k using Nat.strongRecOn with
  | ind k ih =>
   intro h1 h2
   by_cases c:∃ j,1<=j/\j<k/\∀ s∈l,j % s=0
   ·obtain ⟨j,a,b,d⟩:=c;exact ih j b a d
   ·exact ⟨k,h1,h2,fun j a b=>N4 fun z=>c ⟨j,a,b,fun s hs=>N4 fun q=>z ⟨s,hs,q⟩⟩⟩
 exact key (bnd l) (xi h) fun s hs=>xD hs
theorem Dz {n e:Nat} {t:List (List Nat)} (g:GT n t e):∃ k,cW (cR n t e) k:=by
 refine GP fun s hs=>?_;obtain ⟨x,hx,rfl⟩:=Mg.mp hs;exact kP
def sT (r s:List (Nat×Nat)):List (Nat×Nat):=r++s.map fun y=>(r.length+y.1,y.2)
def w9 (n:Nat) (D E:List (List (Nat×Nat))):List (List (Nat×Nat)):=(LZ n).map fun i=>sT (D.getD i []) (E.getD i [])
theorem WOk.bes {n m z z':Nat} {D E:List (List (Nat×Nat))} (h:WOk n m z D) (h':WOk n m z' E) (hz:z+z'<=1000):WOk n m (z+z') (w9 n D E):=by
 refine ⟨by unfold w9;rw [LP,Mt],fun r hr=>?_,fun r hr y hy=>?_,h.m1,h.m60,hz,by have:=h.z0;omega⟩
 ·obtain ⟨i,hi,rfl⟩:=Mg.mp hr;obtain ⟨r1,_,h2,h3⟩:=h.get (L9.mp hi);obtain ⟨r2,_,h5,h6⟩:=h'.get (L9.mp hi);unfold sT;rw [h3,h6,Mm,LP,h.row r1 h2,h'.row r2 h5]
 ·obtain ⟨i,hi,rfl⟩:=Mg.mp hr;obtain ⟨r1,_,h2,h3⟩:=h.get (L9.mp hi);obtain ⟨r2,_,h5,h6⟩:=h'.get (L9.mp hi);unfold sT at hy;rw [h3,h6] at hy;rcases MD.mp hy with z|z
  ·exact h.lt r1 h2 y z
  ·obtain ⟨x,hx,rfl⟩:=Mg.mp z;exact h'.lt r2 h5 x hx
theorem GF {n i:Nat} {D E:List (List (Nat×Nat))} (hi:i<n):(w9 n D E)[i]?=some (sT (D.getD i []) (E.getD i [])):=by
 unfold w9;rw [Mc,NG hi];rfl
theorem Fd {H:Hp} {p:Addr} {Q:VK} {σ:St} {r:List (Nat×Nat)} {x y:Str} {fr:List Nat} {ta:TE} (f:Nat×Nat->Nat×Nat) (rest:List (Option V)) (hp:cB H p r) (hz:r.length<=1000) (hs:bW [x,y] fr σ=none :: none :: rest)
  (turn:∀ (c:Nat×Nat) H' (R:V->Hp->Prop),c∈r->ai H H'->(∀ q H5,ai H' H5->H5 q=some (.tup [.int ((f c).1:Int),.int ((f c).2:Int)])->R (.ref q) H5)->ta (some (.int (c.1:Int)) :: some (.int (c.2:Int)) :: rest) H' R)
  (fin:∀ d H',H d=none->ai H H'->cB H' d (r.map f)->Q (.ref d) H') :
  mH K (.ref p) H (fL [x,y] fr (xR K 2 (lU (ig 0) (lU (ig 1) xm))) DK ta σ Q):=by
 obtain ⟨qs,h1,h2,h3⟩:=id hp;refine xH (r.map f) (fun σ'=>∃ y1 y2,σ'=y1 :: y2 :: rest) (SqL.of h1) (by rw [LP,LP];exact h2) (by rw [LP];exact hz) ⟨none,none,hs⟩ ?_ fin
 rintro j o y0 σ' H8 R2 R02 ho hy s8 ⟨y1,y3,rfl⟩ hR2;rw [Mc] at ho hy;cases hc:r[j]? with
 | none=>rw [hc] at hy;cases hy
 | some c =>
  rw [hc] at hy;cases hy;cases hq:qs[j]? with
  | none=>rw [hq] at ho;cases ho
  | some q2 =>
   rw [hq] at ho;cases ho;have ht:=s8 _ _ (h3 j q2 c hq hc);refine ⟨q2,_,rfl,SqT.of ht,rfl,⟨_,_,rfl,⟨_,_,rfl,⟨rfl,?_⟩⟩⟩⟩;exact turn c H8 (R2 _) (LS hc) s8 fun q H5 s5 h5=>hR2 _ q H5 ⟨_,_,rfl⟩ s5 h5
theorem sR {H H₀:Hp} {σ:St} {t:TS} {E:Ends} {p:Addr} {r:List (Nat×Nat)} {ia ib:Nat} (h:cB H₀ p r) (Pv:Nat->St->Hp->Prop) (h0:Pv 0 σ H) (hl:∀ i σ' H',Pv i σ' H'->ai H₀ H')
  (hs:∀ (i:Nat) (c:Nat×Nat) σ' H',r[i]?=some c->Pv i σ' H'->t { E with nx:=Pv (i+1),ct:=Pv (i+1),bk:=E.nx } ((σ'.set ia (some (.int (c.1:Int)))).set ib (some (.int (c.2:Int)))) H') (hd:∀ σ' H',Pv r.length σ' H'->E.nx σ' H') :
  mH K (.ref p) H (qW (xR K 2 (lU (ig ia) (lU (ig ib) xm))) t E σ):=by
 obtain ⟨qs,h1,h2,h3⟩:=h;have hS:SqL K H₀ p (qs.map V.ref):=SqL.of h1;refine ⟨p,rfl,⟨_,(hl 0 σ H h0).seq hS⟩,uW (K:=K) (a:=p) (xs:=qs.map V.ref) Pv h0 (fun i σ' H' _ q=>(hl i σ' H' q).seq hS) (fun i x σ' H' hx q=>?_) (fun σ' H' q=>?_)⟩
 ·rw [Mc] at hx;cases hq:qs[i]? with
  | none=>rw [hq] at hx;cases hx
  | some q1 =>
   rw [hq] at hx;cases hx;have hi:i<r.length:=by rw [<- h2];exact (LR.mp hq).1
   have ht:=hl i σ' H' q _ _ (h3 i q1 _ hq (LO hi));exact ⟨q1,_,rfl,SqT.of ht,rfl,⟨_,_,rfl,⟨_,_,rfl,⟨rfl,hs i _ σ' H' (LO hi) q⟩⟩⟩⟩
 ·rw [LP,h2] at q;exact hd σ' H' q
theorem cB.snoc {H:Hp} {p q:Addr} {qs:List Addr} {r:List (Nat×Nat)} {y:Nat×Nat} (h1:H p=some (.lst (qs.map V.ref))) (h2:qs.length=r.length) (h3:∀ (i:Nat) (q:Addr) (x:Nat×Nat),qs[i]?=some q->r[i]?=some x->H q=some (.tup [.int (x.1:Int),.int (x.2:Int)])) (hq:H q=some (.tup [.int (y.1:Int),.int (y.2:Int)])):cB (upd H p (.lst (qs.map V.ref++[.ref q]))) p (r++[y]):=by
 refine ⟨qs++[q],by rw [ar,MM];rfl,by rw [Mm,Mm,h2];rfl,fun i q' x hi hx=>?_⟩
 have no:∀ {b:Addr} {ys:List V},H b=some (.tup ys)->b≠p:=fun z e=>by rw [e,h1] at z;cases z
 rcases qI hi with ⟨il,z⟩|⟨z1,z2⟩
 ·rw [MB (by omega)] at hx
  have zz:=h3 i q' x z hx;rw [au (no zz)];exact zz
 ·subst z2;rw [z1,h2,MA (Mh _),Sy] at hx;cases hx;rw [au (no hq)];exact hq
theorem cB.cat {H:Hp} {p q d:Addr} {r s:List (Nat×Nat)} {qs ps:List Addr} (hd:H d=none) (h2:qs.length=r.length) (h3:∀ (i:Nat) (q:Addr) (x:Nat×Nat),qs[i]?=some q->r[i]?=some x->H q=some (.tup [.int (x.1:Int),.int (x.2:Int)]))
  (g2:ps.length=s.length) (g3:∀ (i:Nat) (q:Addr) (x:Nat×Nat),ps[i]?=some q->s[i]?=some x->H q=some (.tup [.int (x.1:Int),.int (x.2:Int)])):cB (upd H d (.lst (qs.map V.ref++ps.map V.ref))) d (r++s):=by
 refine ⟨qs++ps,by rw [ar,MM],by rw [Mm,Mm,h2,g2],fun i q' x hi hx=>?_⟩
 have key:H q'=some (.tup [.int (x.1:Int),.int (x.2:Int)]):=by
  rcases MN i qs.length with z|z
  ·rw [MB z] at hi;rw [MB (by omega)] at hx
   exact h3 i q' x hi hx
  ·rw [MA z] at hi;rw [MA (by omega),<- h2] at hx
   exact g3 _ q' x hi hx
 rw [au (wM key hd)];exact key
def xS (W:Addr->Prop) (CG:Addr):Sp:=fun vs H Q _=>∃ (a b g g':Addr) (n e m z z':Nat) (t:List (List Nat)) (D E:List (List (Nat×Nat))),vs=[.ref a,.ref b]/\dC W H a g m z D/\dC W H b g' m z' E/\aU CG H g n t e/\aU CG H g' n t e/\Q .non H
theorem jQ (T:Txt K mg):aI P w K mg base CX0 1 T.bS.f T.bS.fd ["one","other"] (xS (bC T) T.az):=by
 refine T.bS.ok p8 (fun vs H Q E h=>?_) (fun cdv A outer s H vs Q E hr h=>?_)
 ·obtain ⟨a,b,g,g',n,e,m,z,z',t,D,E,rfl,_⟩:=h;rfl
 obtain ⟨a,b,g,g',n,e,m,z,z',t,D,E',rfl,⟨C,cx,d,fs,hC,ha,wf,_⟩,⟨C',cx',d',fs',hC',hb,wf',_⟩,hG,hG',q⟩:=h;obtain ⟨gx,gr,gb,hg,aR,aB⟩:=aU.get (K:=K) hG;obtain ⟨gx',gr',gb',hg',aR',aB'⟩:=aU.get (K:=K) hG';refine ⟨_,(ae (aX (ay (kS K rfl (List Nat) hr.units) (aL K rfl (aL K rfl (pv 0) rfl) rfl) (aL K rfl (aL K rfl (pv 1) rfl) rfl) (aE _)) (ah cE) aN)
   (ah (aX (ay iy (aL K rfl (pv 0) rfl) (aL K rfl (pv 1) rfl) (aE _)) (ah cE) aN))),?_⟩
 walk_at "1";refine fB T hC ha wf ?_;walk_at "rn";refine bA T hg ?_;walk_at "rn";refine fB T hC' hb wf' ?_;walk_at "rn";refine bA T hg' ?_;walk_at "rn";refine oX aR aR' ?_;walk_at "rn";refine bX (fun c=>absurd rfl c) (fun _=>?_);walk_at "1";refine fh T hC ha wf ?_;walk_at "rn";refine fh T hC' hb wf' ?_;walk_at "8";exact q
def vM:Sp:=fun vs H Q _=>∃ k:Nat,vs=[.int (k:Int)]/\k<=60/\Q .non H
theorem lj (T:Txt K mg):aI P w K mg base CX0 1 T.bM.f T.bM.fd ["many"] vM:=by
 refine T.bM.ok oI (fun vs H Q E h=>?_) (fun cdv A outer s H vs Q E hr h=>?_)
 ·obtain ⟨k,rfl,_⟩:=h;rfl
 obtain ⟨k,rfl,hk,q⟩:=h;refine ⟨_,(ah (aX (ay iD (pv 0) (cD (v:=.int 60) rfl T.eC ⟨_,rfl⟩) (aE _)) (ah cE) aN)),?_⟩;walk_at "1";refine aV (fun c=>absurd c (by omega)) (fun _=>?_)
 walk_at "rn";exact q
def u7 (C:Addr):Sp:=fun vs H _ E=>∃ k:Nat,vs=[.int (k:Int)]/\60<k/\E (.ref C) none H
theorem ku (T:Txt K mg):aI P w K mg base (CXR P w) 1 T.bM.f T.bM.fd ["many"] (u7 T.bg):=by
 refine T.bM.fn.okR oI (fun vs H Q E h=>?_) (fun cdv A outer s H vs Q E hr h=>?_)
 ·obtain ⟨k,rfl,_⟩:=h;rfl
 obtain ⟨k,rfl,hk,q⟩:=h;refine ⟨_,(ah (aX (ay iD (pv 0) (cD (v:=.int 60) rfl T.eC ⟨_,rfl⟩) (aE _)) (ah (jk Lk rfl rfl T.jV rfl T.qZ (paF cj aa))) aN)),?_⟩;walk_at "1";refine aV (fun _=>?_) (fun c=>absurd c (by omega))
 walk_at "rn";refine kH ?_;walk_at "rn";exact ⟨small (by show 1<=1000;decide),q⟩
def FR:Sp:=fun vs H Q _=>∃ (p:Addr) (k:Nat) (r:List (Nat×Nat)),vs=[.ref p,.int (k:Int)]/\cB H p r/\r.length<=1000/\∀ d H',H d=none->ai H H'->cB H' d (r.map fun y=>(k+y.1,y.2))->Q (.ref d) H'
theorem yM (T:Txt K mg):aI P w K mg base CX0 1 T.lY.f T.lY.fd ["moves","many"] FR:=by
 refine T.lY.ok ES (fun vs H Q E h=>?_) (fun cdv A outer s H vs Q E hr h=>?_)
 ·obtain ⟨p,k,r,rfl,_⟩:=h;rfl
 obtain ⟨p,k,r,rfl,hp,hz,q⟩:=h;refine ⟨_,(ah (aM (bZ rfl uA (aZ K rfl (pv 0)) (fun _ _ _ _=>⟨(Bt K rfl (i:=0) (j:=1) rfl uA.nd rfl (Mb rfl) rfl (Mb rfl)),bw,(mX (paF (ak bf (pv 2) (pv 0)) (paF (pv 1) aa)))⟩)))),?_⟩;walk_at "rn";refine Fd (fun y=>(k+y.1,y.2)) [some (.int (k:Int))] hp hz rfl (fun c H1 R hc hs hR=>?_) q;refine mO ?_;walk_at "rn";refine ⟨small (by show 2<=1000;decide),fun a ha=>?_⟩
 exact hR a _ (aG ha _) ar
structure Two (W:Addr->Prop) (CG:Addr) (H:Hp) (a b g g':Addr) (n e m z z':Nat) (t:List (List Nat)) (D E:List (List (Nat×Nat))):Prop where
 wa:dC W H a g m z D
 wb:dC W H b g' m z' E
 gp:aU CG H g n t e
 gq:aU CG H g' n t e
 gt:GT n t e
 oa:WOk n m z D
 ob:WOk n m z' E
theorem Two.mono {W:Addr->Prop} {CG:Addr} {H H':Hp} {a b g g':Addr} {n e m z z':Nat} {t:List (List Nat)} {D E:List (List (Nat×Nat))} (s:ai H H') (h:Two W CG H a b g g' n e m z z' t D E):Two W CG H' a b g g' n e m z z' t D E:=⟨h.wa.mono s,h.wb.mono s,h.gp.mono s,h.gq.mono s,h.gt,h.oa,h.ob⟩
def sr (W:Addr->Prop) (C CG:Addr):Sp:=fun vs H Q _=>∃ (p dx a b g g':Addr) (n e m z z':Nat) (t:List (List Nat)) (D E:List (List (Nat×Nat))),vs=[.ref p,.ref a,.ref b]/\H p=some (.ins C dx [])/\Two W CG H a b g g' n e m z z' t D E/\z+z'<=60 /\
 ∀ d H' fs,H' p=some (.ins C dx fs)->WF fs (.ref g) m (z+z':Nat) (.ref d)->dY H' d (w9 n D E)->(∀ a o,H a=some o->a≠p->H' a=some o)->Q .non H'
theorem tD (T:Txt K mg):aI P w K mg base CX0 2 T.jt T.jy ["self","one","other"] (sr (bC T) T.bN T.az):=by
 refine T.qx.ok jC (fun vs H Q E h=>?_) (fun cdv A outer s H vs Q E hr h=>?_)
 ·obtain ⟨p,dx,a,b,g,g',n,e,m,z,z',t,D,E,rfl,_⟩:=h;rfl
 obtain ⟨p,dx,a,b,g,g',n,e,m,z,z',t,D,E',rfl,hp,tw,h60,k⟩:=h;obtain ⟨C,cx,d0,fs,hC,ha,wf,hD⟩:=id tw.wa;obtain ⟨C',cx',d0',fs',hC',hb,wf',hD'⟩:=id tw.wb;obtain ⟨gx,gr,gb,hg,aR,aB⟩:=aU.get (K:=K) tw.gp;have gt:=tw.gt;have n1:=gt.pos;have n23:=gt.le;have wo:=tw.oa.bes tw.ob (by omega)
 refine ⟨_,(ae (bc (aA T.bS (jQ T) (hr.mono (by decide)) rfl (paF (pv 1) (paF (pv 2) aa))))
   (ae (bc (aA T.bM (lj T) (hr.mono (by decide)) rfl (paF (ak bf (aL K rfl (pv 1) rfl) (aL K rfl (pv 2) rfl)) aa)))
   (ae (dk (i:=3) rfl jC.nd rfl (Mb rfl) nR (aY rfl T.bj (paF (aL K rfl (aL K rfl (pv 1) rfl) rfl) aa)) (fun _ _ _ _=>⟨(aD (i:=0) nR.nd rfl (Mb rfl)),bw,(ak nX (oy (pv 1) (mR T) (jA T) (hr.mono (by decide)) T.iU (paF (pv 0) aa)) (aA T.lY (yM T) (hr.mono (by decide)) rfl (paF (oy (pv 2) (mR T) (jA T) (hr.mono (by decide)) T.iU (paF (pv 0) aa)) (paF (aL K rfl (pv 1) rfl) aa))))⟩) rfl)
   (ah (bc (q9 rfl T.vP T.wL (vG T) (hr.mono (by decide)) T.vt (paF (pv 0) (paF (aL K rfl (pv 1) rfl) (paF (aL K rfl (pv 1) rfl) (paF (pv 3) aa)))))))))),?_⟩
 walk_at "rn";refine ⟨a,b,g,g',n,e,m,z,z',t,D,E',rfl,tw.wa,tw.wb,tw.gp,tw.gq,?_⟩;walk_at "rn";refine fP T hC ha wf ?_;walk_at "rn";refine fP T hC' hb wf' ?_;walk_at "rn";refine ⟨z+z',rfl,h60,?_⟩;walk_at "rn";refine fB T hC ha wf ?_;walk_at "rn";refine bL T hg ?_;walk_at "rn";refine Af (n:=n) rfl (w9 n D E') (fun σ'=>∃ y,σ'=[y,some (.ref a),some (.ref b)]) (by rw [wo.len]) (by rw [wo.len];omega) ⟨_,rfl⟩ ?_ ?_
 ·rintro i r σ' H1 R' R0 hi hr1 s1 ⟨y,rfl⟩ hR';obtain ⟨r1,hr,hm1,e1⟩:=tw.oa.get hi;obtain ⟨r2,hr2,hm2,e2⟩:=tw.ob.get hi;rw [GF hi,e1,e2] at hr1;cases hr1;have l1:=tw.oa.row r1 hm1;have l2:=tw.ob.row r2 hm2;walk_at "6";refine ⟨C,a,cx,fs,hC,rfl,s1 _ _ ha,wf.moves,?_⟩;walk_at "rn";refine ⟨a,g,i,m,z,D,r1,rfl,tw.wa.mono s1,hr,fun pm H2 fpm s2 row1=>?_⟩;have s12:=s1.trans s2;walk_at "6";refine ⟨C',b,cx',fs',hC',rfl,s12 _ _ hb,wf'.moves,?_⟩;walk_at "rn";refine ⟨b,g',i,m,z',E',r2,rfl,tw.wb.mono s12,hr2,fun pn H3 fpn s3 row2=>?_⟩;have s13:=s12.trans s3;walk_at "rn";refine fP T hC (s13 _ _ ha) wf ?_;walk_at "rn";refine ⟨pn,z,r2,rfl,row2,by omega,fun pb H4 fpb s4 row3=>?_⟩
  obtain ⟨qs,g1,g2,g3⟩:=(row1.mono s3).mono s4;obtain ⟨ps,k1,k2,k3⟩:=row3;rw [LP] at k2;walk_at "rn";refine ⟨pm,pb,_,_,rfl,rfl,g1,k1,M4 (show (qs.map V.ref).length+(ps.map V.ref).length<=1000 by rw [LP,LP];omega) (by rw [Nx];decide),fun d hd=>?_⟩
  have rc:=cB.cat (p:=pm) (q:=pb) (s:=r2.map fun y=>(z+y.1,y.2)) hd g2 g3 (by rw [LP];exact k2) k3
  refine hR' _ d _ ⟨_,rfl⟩ ((s2.trans (s3.trans s4)).trans (aG hd _)) ((s2.trans (s3.trans s4)).free hd) ?_;unfold sT;rw [l1];exact rc
 ·intro d H1 fd s1 hD1;walk_at "rn";refine fB T hC (s1 _ _ ha) wf ?_;walk_at "rn";refine fh T hC (s1 _ _ ha) wf ?_;walk_at "rn";obtain ⟨r0,hr0,hm0,_⟩:=wo.get n1;refine ⟨p,T.bN,dx,d,.ref g,(m:Int),[],_,_,rfl,tF T,s1 _ _ hp,.inl rfl,hD1,hr0,fun H2 fs2 h2 wf2 k2=>?_⟩;rw [wo.row r0 hm0] at wf2;walk_at "rn";exact k d H2 fs2 h2 wf2 (hD1.but (s1 _ _ hp) k2) fun b o hb hne=>k2 b o (s1 _ _ hb) hne
def rC (W:Addr->Prop) (CE CG:Addr):Sp:=fun vs H _ Ex=>∃ (x:V) (a b g g':Addr) (n e m z z':Nat) (t:List (List Nat)) (D E:List (List (Nat×Nat))),vs=[x,.ref a,.ref b]/\Two W CG H a b g g' n e m z z' t D E/\60<z+z'/\Ex (.ref CE) none H
theorem Ef (T:Txt K mg):aI P w K mg base (CXR P w) 2 T.jt T.jy ["self","one","other"] (rC (bC T) T.bg T.az):=by
 refine T.qx.okR jC (fun vs H Q E h=>?_) (fun cdv A outer s H vs Q E hr h=>?_)
 ·obtain ⟨x,a,b,g,g',n,e,m,z,z',t,D,E,rfl,_⟩:=h;rfl
 obtain ⟨x,a,b,g,g',n,e,m,z,z',t,D,E',rfl,tw,h60,q⟩:=h;obtain ⟨C,cx,d0,fs,hC,ha,wf,hD⟩:=id tw.wa;obtain ⟨C',cx',d0',fs',hC',hb,wf',hD'⟩:=id tw.wb;refine ⟨_,(ae (bc (aA T.bS (jQ T) (hr.mono (by decide)) rfl (paF (pv 1) (paF (pv 2) aa)))) (ae (bc (lz T.bM (ku T) (hr.mono (by decide)) rfl DA (paF (ak bf (aL K rfl (pv 1) rfl) (aL K rfl (pv 2) rfl)) aa))) jh)),?_⟩
 walk_at "rn";refine ⟨a,b,g,g',n,e,m,z,z',t,D,E',rfl,tw.wa,tw.wb,tw.gp,tw.gq,?_⟩;walk_at "rn";refine fP T hC ha wf ?_;walk_at "rn";refine fP T hC' hb wf' ?_;walk_at "rn";exact ⟨z+z',rfl,h60,q⟩
theorem qH (T:Txt K mg):aI P w K mg base (CXR P w) 2 T.jt T.jy ["self","one","other"] (fun vs H Q E=>sr (bC T) T.bN T.az vs H Q E\/rC (bC T) T.bg T.az vs H Q E):=aI.both (tD T) (Ef T)
def gF (m:Nat) (r s:List (Nat×Nat)):List (Nat×Nat):=r.flatMap fun x=>s.map fun y=>(x.1 * s.length+y.1,(x.2+y.2) % m)
def xK (n m:Nat) (D E:List (List (Nat×Nat))):List (List (Nat×Nat)):=(LZ n).map fun i=>gF m (D.getD i []) (E.getD i [])
theorem qS {m:Nat} {s:List (Nat×Nat)}:∀ {r:List (Nat×Nat)},(gF m r s).length=r.length * s.length
 | []=>by unfold gF;simp
 | x :: r=>by
  have:=qS (m:=m) (s:=s) (r:=r);unfold gF at this ⊢;rw [QL,Mm,LP,this,MQ,PV];omega
theorem WOk.cro {n m z z':Nat} {D E:List (List (Nat×Nat))} (h:WOk n m z D) (h':WOk n m z' E) (hz:z * z'<=1000):WOk n m (z * z') (xK n m D E):=by
 refine ⟨by unfold xK;rw [LP,Mt],fun r hr=>?_,fun r hr y hy=>?_,h.m1,h.m60,hz,NI h.z0 h'.z0⟩
 ·obtain ⟨i,hi,rfl⟩:=Mg.mp hr;obtain ⟨r1,_,h2,h3⟩:=h.get (L9.mp hi);obtain ⟨r2,_,h5,h6⟩:=h'.get (L9.mp hi);rw [h3,h6,qS,h.row r1 h2,h'.row r2 h5]
 ·obtain ⟨i,hi,rfl⟩:=Mg.mp hr;unfold gF at hy;obtain ⟨x,_,hx⟩:=Ri.mp hy;obtain ⟨y0,_,rfl⟩:=Mg.mp hx;exact My _ h.m1
theorem GH {n m i:Nat} {D E:List (List (Nat×Nat))} (hi:i<n):(xK n m D E)[i]?=some (gF m (D.getD i []) (E.getD i [])):=by
 unfold xK;rw [Mc,NG hi];rfl
theorem JL {m i:Nat} {r s:List (Nat×Nat)} {x:Nat×Nat} (h:r[i]?=some x):gF m (r.take (i+1)) s=gF m (r.take i) s++s.map fun y=>(x.1 * s.length+y.1,(x.2+y.2) % m):=by
 unfold gF;rw [MG,h,Se];simp
def Gi (K:LN):Sp:=fun vs H Q _=>∃ (p p':Addr) (m:Nat) (r s:List (Nat×Nat)),vs=[.ref p,.ref p',.int (m:Int)]/\cB H p r/\cB H p' s/\r.length * s.length<=1000/\s.length<=1000/\1<=m/\∀ d H',H d=none->ai H H'->cB H' d (gF m r s)->Q (.ref d) H'
theorem Fl (T:Txt K mg):aI P w K mg base CX0 1 T.nM.f T.nM.fd ["moves","others","spokes"] (Gi K):=by
 refine T.nM.ok kT (fun vs H Q E h=>?_) (fun cdv A outer s H vs Q E hr h=>?_)
 ·obtain ⟨p,p',m,r,s,rfl,_⟩:=h;rfl
 obtain ⟨p,p',m,r,s',rfl,hp,hp',hz,hz',m1,q⟩:=h;refine ⟨_,(ae (ao (i:=3) kT.nd rfl (Mb rfl) (bT aa))
   (ae (bE Ml rfl (aZ K rfl (pv 0)) (m4 rfl (cM (aD (i:=4) kT.nd rfl (Mb rfl)) (cM (aD (i:=5) kT.nd rfl (Mb rfl)) kF))) (ah (bE Ml rfl (aZ K rfl (pv 1)) (m4 rfl (cM (aD (i:=6) kT.nd rfl (Mb rfl)) (cM (aD (i:=7) kT.nd rfl (Mb rfl)) kF))) (ah (bc (fG K rfl ME MS MT cX (pv 3) (paF (mX (paF (ak bf (ak bD (pv 4) (av (aW K rfl) rfl T.bI Ms (paF (pv 1) aa))) (pv 6)) (paF (ak aS (ak bf (pv 5) (pv 7)) (pv 2)) aa))) aa)))))))
   (ah (aM (pv 3))))),?_⟩
 walk_at "4";refine ⟨small (by show 0<=1000;decide),fun pf hpf=>?_⟩
 have s0:=aG hpf (.lst []);have f0:cB (upd H pf (.lst [])) pf []:=⟨[],ar,rfl,fun i q x z=>by simp at z⟩
 generalize upd H pf (.lst [])=H0 at s0 f0;walk_at "rn";refine sR (H₀:=H) hp (fun i σ' H'=>ai H H'/\cB H' pf (gF m (r.take i) s')/\∃ x4 x5 x6 x7:Option V,σ'=[some (.ref p),some (.ref p'),some (.int (m:Int)),some (.ref pf),x4,x5,x6,x7]) ⟨s0,f0,_,_,_,_,rfl⟩ (fun i σ' H' z=>z.1) ?_ ?_
 ·rintro i x σ' H1 hx ⟨s1,f1,x4,x5,x6,x7,rfl⟩;have il:=(LR.mp hx).1;have cl:(gF m (r.take i) s').length+s'.length<=1000:=by
   rw [qS,Mu,Qe (by omega)]
   have:(i+1) * s'.length<=r.length * s'.length:=P5 _ il;rw [PV] at this;omega
  walk_at "rn";refine sR (H₀:=H) hp' (fun j σ' H'=>ai H H'/\cB H' pf (gF m (r.take i) s'++(s'.take j).map fun y=>(x.1 * s'.length+y.1,(x.2+y.2) % m))/\∃ x6 x7:Option V,σ'=[some (.ref p),some (.ref p'),some (.int (m:Int)),some (.ref pf),some (.int (x.1:Int)),some (.int (x.2:Int)),x6,x7]) ⟨s1,by simpa using f1,_,_,rfl⟩ (fun i σ' H' z=>z.1) ?_ ?_
  ·rintro j y σ' H2 hy ⟨s2,f2,x6,x7,rfl⟩;have jl:=(LR.mp hy).1;obtain ⟨qs,g1,g2,g3⟩:=id f2;have ql:qs.length<=1000:=by
    rw [g2,Mm,LP,Mu];omega
   walk_at "rn";refine ⟨.inl ⟨rfl,_,SqL.of g1⟩,?_⟩;walk_at "5";refine dD (hp'.mono s2).at ?_;walk_at "rn";refine ⟨small (by show 2<=1000;decide),fun a ha=>?_⟩
   have s3:=aG ha (.tup [.int ((x.1 * s'.length+y.1:Nat):Int),.int (((x.2+y.2) % m:Nat):Int)]);have ha3:(upd H2 a (.tup [.int ((x.1 * s'.length+y.1:Nat):Int),.int (((x.2+y.2) % m:Nat):Int)])) a=some (.tup [.int ((x.1 * s'.length+y.1:Nat):Int),.int (((x.2+y.2) % m:Nat):Int)]):=ar;generalize upd H2 a (.tup [.int ((x.1 * s'.length+y.1:Nat):Int),.int (((x.2+y.2) % m:Nat):Int)])=H3 at s3 ha3;refine ⟨pf,_,_,rfl,rfl,s3 _ _ g1,Na (show (qs.map V.ref).length<=1000 by rw [LP];exact ql) (by rw [Nx];decide),?_⟩
   refine ⟨qO hpf (s2.trans s3),?_,_,_,rfl⟩;have:=cB.snoc (y:=(x.1 * s'.length+y.1,(x.2+y.2) % m)) (s3 _ _ g1) g2 (fun i q x a b=>s3 _ _ (g3 i q x a b)) ha3;rw [MG,hy,MM,<- PD];exact this
  ·rintro σ' H2 ⟨s2,f2,x6,x7,rfl⟩;rw [Nh] at f2;walk_at "rn";exact ⟨s2,by rw [JL hx];exact f2,_,_,_,_,rfl⟩
 ·rintro σ' H1 ⟨s1,f1,x4,x5,x6,x7,rfl⟩;rw [Nh] at f1;walk_at "rn";exact q pf H1 hpf s1 f1
def qT (W:Addr->Prop) (C CG:Addr):Sp:=fun vs H Q _=>∃ (p dx a b g g':Addr) (n e m z z':Nat) (t:List (List Nat)) (D E:List (List (Nat×Nat))),vs=[.ref p,.ref a,.ref b]/\H p=some (.ins C dx [])/\Two W CG H a b g g' n e m z z' t D E/\z * z'<=60 /\
 ∀ d H' fs,H' p=some (.ins C dx fs)->WF fs (.ref g) m (z * z':Nat) (.ref d)->dY H' d (xK n m D E)->(∀ a o,H a=some o->a≠p->H' a=some o)->Q .non H'
theorem DO (T:Txt K mg):aI P w K mg base CX0 2 T.ic T.ie ["self","one","other"] (qT (bC T) T.bU T.az):=by
 refine T.oK.ok i9 (fun vs H Q E h=>?_) (fun cdv A outer s H vs Q E hr h=>?_)
 ·obtain ⟨p,dx,a,b,g,g',n,e,m,z,z',t,D,E,rfl,_⟩:=h;rfl
 obtain ⟨p,dx,a,b,g,g',n,e,m,z,z',t,D,E',rfl,hp,tw,h60,k⟩:=h;obtain ⟨C,cx,d0,fs,hC,ha,wf,hD⟩:=id tw.wa;obtain ⟨C',cx',d0',fs',hC',hb,wf',hD'⟩:=id tw.wb;obtain ⟨gx,gr,gb,hg,aR,aB⟩:=aU.get (K:=K) tw.gp;have gt:=tw.gt;have n1:=gt.pos;have n23:=gt.le;have wo:=tw.oa.cro tw.ob (by omega)
 have zz1:=tw.oa.z1;refine ⟨_,(ae (bc (aA T.bS (jQ T) (hr.mono (by decide)) rfl (paF (pv 1) (paF (pv 2) aa))))
   (ae (bc (aA T.bM (lj T) (hr.mono (by decide)) rfl (paF (ak bD (aL K rfl (pv 1) rfl) (aL K rfl (pv 2) rfl)) aa)))
   (ae (dk (i:=3) rfl i9.nd rfl (Mb rfl) nc (aY rfl T.bj (paF (aL K rfl (aL K rfl (pv 1) rfl) rfl) aa)) (fun _ _ _ _=>⟨(aD (i:=0) nc.nd rfl (Mb rfl)),bw,(aA T.nM (Fl T) (hr.mono (by decide)) rfl (paF (oy (pv 1) (mR T) (jA T) (hr.mono (by decide)) T.iU (paF (pv 0) aa)) (paF (oy (pv 2) (mR T) (jA T) (hr.mono (by decide)) T.iU (paF (pv 0) aa)) (paF (aL K rfl (pv 1) rfl) aa))))⟩) rfl)
   (ah (bc (q9 rfl T.vP T.wL (vG T) (hr.mono (by decide)) T.vt (paF (pv 0) (paF (aL K rfl (pv 1) rfl) (paF (aL K rfl (pv 1) rfl) (paF (pv 3) aa)))))))))),?_⟩
 walk_at "rn";refine ⟨a,b,g,g',n,e,m,z,z',t,D,E',rfl,tw.wa,tw.wb,tw.gp,tw.gq,?_⟩;walk_at "rn";refine fP T hC ha wf ?_;walk_at "rn";refine fP T hC' hb wf' ?_;walk_at "rn";refine ⟨z * z',rfl,h60,?_⟩;walk_at "rn";refine fB T hC ha wf ?_;walk_at "rn";refine bL T hg ?_;walk_at "rn";refine Af (n:=n) rfl (xK n m D E') (fun σ'=>∃ y,σ'=[y,some (.ref a),some (.ref b)]) (by rw [wo.len]) (by rw [wo.len];omega) ⟨_,rfl⟩ ?_ ?_
 ·rintro i r σ' H1 R' R0 hi hr1 s1 ⟨y,rfl⟩ hR';obtain ⟨r1,hr,hm1,e1⟩:=tw.oa.get hi;obtain ⟨r2,hr2,hm2,e2⟩:=tw.ob.get hi;rw [GH hi,e1,e2] at hr1;cases hr1;have l1:=tw.oa.row r1 hm1;have l2:=tw.ob.row r2 hm2;walk_at "6";refine ⟨C,a,cx,fs,hC,rfl,s1 _ _ ha,wf.moves,?_⟩;walk_at "rn";refine ⟨a,g,i,m,z,D,r1,rfl,tw.wa.mono s1,hr,fun pm H2 fpm s2 row1=>?_⟩;have s12:=s1.trans s2;walk_at "6";refine ⟨C',b,cx',fs',hC',rfl,s12 _ _ hb,wf'.moves,?_⟩;walk_at "rn";refine ⟨b,g',i,m,z',E',r2,rfl,tw.wb.mono s12,hr2,fun pn H3 fpn s3 row2=>?_⟩;have s13:=s12.trans s3;walk_at "rn";refine fh T hC (s13 _ _ ha) wf ?_;walk_at "rn";refine ⟨pm,pn,m,r1,r2,rfl,row1.mono s3,row2,by rw [l1,l2];omega,by rw [l2];exact tw.ob.z1,tw.oa.m1,fun d H4 fd s4 row=>?_⟩
  exact hR' _ d _ ⟨_,rfl⟩ ((s2.trans s3).trans s4) ((s2.trans s3).free fd) row
 ·intro d H1 fd s1 hD1;walk_at "rn";refine fB T hC (s1 _ _ ha) wf ?_;walk_at "rn";refine fh T hC (s1 _ _ ha) wf ?_;walk_at "rn";obtain ⟨r0,hr0,hm0,_⟩:=wo.get n1;refine ⟨p,T.bU,dx,d,.ref g,(m:Int),[],_,_,rfl,DG T,s1 _ _ hp,.inl rfl,hD1,hr0,fun H2 fs2 h2 wf2 k2=>?_⟩;rw [wo.row r0 hm0] at wf2;walk_at "rn";exact k d H2 fs2 h2 wf2 (hD1.but (s1 _ _ hp) k2) fun b o hb hne=>k2 b o (s1 _ _ hb) hne
def o9 (W:Addr->Prop) (CE CG:Addr):Sp:=fun vs H _ Ex=>∃ (x:V) (a b g g':Addr) (n e m z z':Nat) (t:List (List Nat)) (D E:List (List (Nat×Nat))),vs=[x,.ref a,.ref b]/\Two W CG H a b g g' n e m z z' t D E/\60<z * z'/\Ex (.ref CE) none H
theorem B9 (T:Txt K mg):aI P w K mg base (CXR P w) 2 T.ic T.ie ["self","one","other"] (o9 (bC T) T.bg T.az):=by
 refine T.oK.okR i9 (fun vs H Q E h=>?_) (fun cdv A outer s H vs Q E hr h=>?_)
 ·obtain ⟨x,a,b,g,g',n,e,m,z,z',t,D,E,rfl,_⟩:=h;rfl
 obtain ⟨x,a,b,g,g',n,e,m,z,z',t,D,E',rfl,tw,h60,q⟩:=h;obtain ⟨C,cx,d0,fs,hC,ha,wf,hD⟩:=id tw.wa;obtain ⟨C',cx',d0',fs',hC',hb,wf',hD'⟩:=id tw.wb;have zz1:=tw.oa.z1;refine ⟨_,(ae (bc (aA T.bS (jQ T) (hr.mono (by decide)) rfl (paF (pv 1) (paF (pv 2) aa)))) (ae (bc (lz T.bM (ku T) (hr.mono (by decide)) rfl DA (paF (ak bD (aL K rfl (pv 1) rfl) (aL K rfl (pv 2) rfl)) aa))) jh)),?_⟩
 walk_at "rn";refine ⟨a,b,g,g',n,e,m,z,z',t,D,E',rfl,tw.wa,tw.wb,tw.gp,tw.gq,?_⟩;walk_at "rn";refine fP T hC ha wf ?_;walk_at "rn";refine fP T hC' hb wf' ?_;walk_at "rn";exact ⟨z * z',rfl,h60,q⟩
theorem o8 (T:Txt K mg):aI P w K mg base (CXR P w) 2 T.ic T.ie ["self","one","other"] (fun vs H Q E=>qT (bC T) T.bU T.az vs H Q E\/o9 (bC T) T.bg T.az vs H Q E):=aI.both (DO T) (B9 T)
theorem DX {H H1 H2:Hp} (s:ai H H1):ai (since H1 H2) (since H H2):=fun b o h=>by
 have hb:H1 b=none:=by
  unfold since at h;cases z:H1 b with
  | none=>rfl
  | some v=>rw [z] at h;cases h
 rw [mz hb] at h;rw [mz (s.free hb)];exact h
theorem Jv {H:Hp} {p:Addr} {xs:List V} {Q:VK} {σ:St} {g:TG} {tt:TT} {ta:TE} {own:List Str} {fr:List Nat} (L:List (List Nat)) (Sh:St->Prop) (hS:SqL K H p xs) (hl:xs.length=L.length) (hz:L.length<=1000) (h0:Sh (bW own fr σ))
  (turn:∀ (i:Nat) (x:V) (r:List Nat) σ' H' (R:St->V->Hp->Prop) (R0:St->Hp->Prop),xs[i]?=some x->L[i]?=some r->ai H H'->Sh σ'->(∀ σ2 q H5,Sh σ2->ai H' H5->H' q=none->H5 q=some (.lst (bb r))->R σ2 (.ref q) H5) ->
   g x σ' H' fun σ2 H3=>tt σ2 H3 fun ok H4=>if ok=true then ta σ2 H4 (R σ2) else R0 σ2 H4)
  (fin:∀ d H' ps,H d=none->ai H H'->Tbl H' d L ps->Q (.ref d) H'):mH K (.ref p) H (fL own fr g tt ta σ Q):=by
 refine oO (p:=p) (xs:=xs) (by omega) (fun d i σ' H' ys=>ai H H'/\∃ (ps:List Addr),ys=ps.map V.ref/\i<=L.length/\Tbl H' d (L.take i) ps/\Sh σ')
  (fun d i σ' H' ys z=>z.1.seq hS) hS (fun d i σ' H' ys hi z=>by obtain ⟨_,ps,e,_,e2,_⟩:=z;rw [e,LP,e2.len,Mu];omega) (fun d hd=>⟨aG hd _,[],rfl,M7 _,Tbl.nil,h0⟩) ?_ ?_
 ·rintro d i o σ' H2 ys R R0 hd hi ⟨s2,ps,rfl,hil',tb2,hsh⟩ hys hR hR0;have hil:i<L.length:=by rw [<- hl];exact (LR.mp hi).1
  refine turn i o _ σ' H2 R R0 hi (LO hil) s2 hsh fun σ2 a H5 hs2 s5 fa ha=>?_;have na:a≠d:=fun e=>by rw [e,hys] at fa;cases fa
  have np:a∉ps:=fun z=>by
   obtain ⟨k,hk⟩:=Ny z;have hk':k<(L.take i).length:=by rw [<- tb2.len];exact (LR.mp hk).1
   have:=tb2.row k a _ hk (LO hk');rw [fa] at this;cases this
  refine hR _ _ _ (s5 _ _ hys) ⟨fun b o zz=>by rw [au (aH zz hd)];exact s5 _ _ (s2 _ _ zz),ps++[a],by rw [MM];rfl,hil,?_,hs2⟩
  rw [MG,LO hil];exact tb2.snoc s5 ha np na
 ·rintro d σ' H2 ys fd hd ⟨s2,ps,rfl,_,tb2,_⟩;rw [hl,Nh] at tb2;exact fin d H2 ps fd s2 tb2
def Ao (C:Addr) (K:LN):Sp:=fun vs H Q _=>∃ (g p1:Addr) (n e:Nat) (t:List (List Nat)) (R:List Nat),vs=[.ref g,.ref p1]/\aU C H g n t e/\GT n t e/\H p1=some (.lst (bb R))/\IsPart n t R /\
 ∀ g' H',H g'=none->ai H H'->aU C (since H H') g' R.length (fM t R) (R.idxOf e)->Q (.ref g') H'
theorem rJ (T:Txt K mg):aI P w K mg base CX0 4 T.fq.f T.fq.fd ["group","part"] (Ao T.az K):=by
 refine T.fq.ok Aj (fun vs H Q E h=>?_) (fun cdv A outer s H vs Q E hr h=>?_)
 ·obtain ⟨g,p1,n,e,t,R,rfl,_⟩:=h;rfl
 obtain ⟨g,p1,n,e,t,R,rfl,hG,gt,h1,pt,q⟩:=h;have n23:=gt.le;have rl:=pt.len;refine ⟨_,(ae (bc (aA T.cF (m8 T) (hr.mono (by decide)) rfl (paF (pv 0) (paF (pv 1) aa))))
   (ah (aM (aA T.ir (oZ T) (hr.mono (by decide)) rfl (paF (As rfl vN (aZ K rfl (pv 1)) (fun _ _ _ _=>⟨(aD (i:=0) vN.nd rfl (PX rfl)),bw,(bZ rfl wI (aZ K rfl (pv 2)) (fun _ _ _ _=>⟨(aD (i:=0) wI.nd rfl (Mb rfl)),bw,(fG K rfl ME Pf Q7 Bm (pv 3) (paF (aq (aj K rfl) (aq (aj K rfl) (aL K rfl (pv 1) rfl) (pv 2) (fun _ _=>rfl)) (pv 0) (fun _ _=>rfl)) aa))⟩))⟩)) aa))))),?_⟩
 walk_at "rn";refine ⟨g,_,n,e,t,R,rfl,hG,gt,cC h1,pt,fun H1 s1=>?_⟩;obtain ⟨gx,gr,gb,hg,aR,aB⟩:=aU.get (K:=K) (hG.mono s1);have h11:=s1 _ _ h1;walk_at "rn";refine Jv (fM t R) (fun σ'=>∃ y,σ'=[y,some (.ref g),some (.ref p1)]) (SqL.of h11) (by unfold fM bb;rw [LP,LP]) (by unfold fM;rw [LP];omega) ⟨_,rfl⟩ ?_ ?_
 ·rintro i o r σ' H2 R' R0 ho hr2 hs ⟨y,rfl⟩ hR;unfold bb at ho;unfold fM at hr2;rw [Mc] at ho hr2;cases ha:R[i]? with
  | none=>rw [ha] at ho;cases ho
  | some a =>
   rw [ha] at ho hr2;cases ho;cases hr2;have haR:=LS ha;have han:=pt.lt a haR;have h12:=hs _ _ h11;walk_at "rn";refine mT (α:=Nat) (β:=Nat) (cC h12) (by omega) (fun j=>(R.map fun b=>R.idxOf (tb t a b)).take j) (fun σ'=>∃ y,σ'=[y,some (.ref g),some (.int (a:Int)),some (.ref p1)]) rfl (fun i _=>by rw [Mu];omega) ⟨_,rfl⟩ ?_ ?_
   ·rintro j b w2 σ' H3 d3 R3 R03 hb hs3 hw2 ⟨y,rfl⟩ hR3 hR03 hd3;cases (show w2=V.int (b:Int) from hw2);have hbR:=LS hb;have hbn:=pt.lt b hbR;have h13:=hs3 _ _ h12;have s13:=hs.trans hs3;have hg3:=s13 _ _ hg;have aR3:=Rep.mono s13 aR;have hab:=pt.cl a haR b hbR;walk_at "rn";refine ⟨.inl ⟨rfl,_,SqL.of h13⟩,?_⟩;walk_at "rg";refine dQ aR3 rfl (gt.get han) fun w1 hw1=>?_;walk_at "rn";refine bG hw1 (gt.eU han hbn) ?_;walk_at "rn";refine Cq h13 (xr hab) (fun i' hi'=>tR hi') ?_;exact hR3 _ _ _ _ ⟨_,rfl⟩ (ai.refl _) rfl (by rw [MG,Mc,hb];rfl)
   ·intro d3 H3 fd3 s3 h3;have g3:Gr K H3 d3 ((R.map fun b=>R.idxOf (tb t a b)).take R.length):=h3;rw [MC (by simp)] at g3
    exact hR _ _ _ ⟨_,rfl⟩ s3 fd3 (lr g3)
 ·intro d2 H2 ps2 fd2 s2 tb2;walk_at "rn";refine ⟨_,_,_,fM t R,rfl,tb2.at,Ar gt pt,fun g' H3 fg s3 hg3=>?_⟩;have s02:=s1.trans s2;exact q g' H3 (s02.free fg) (s02.trans s3) (hg3.mono (DX s02))
def wQ (W:Addr->Prop):Sp:=fun vs H Q _=>∃ (p a g:Addr) (n m z:Nat) (r:List (Nat×Nat)) (D:List (List (Nat×Nat))),vs=[.ref p,.ref a]/\cB H p r/\dC W H a g m z D/\WOk n m z D/\(∀ x∈r,x.2<n)/\r.length * z<=1000/\∀ d H',H d=none->ai H H'->cB H' d (iJ D z r)->Q (.ref d) H'
theorem vn (T:Txt K mg):aI P w K mg base CX0 2 T.gP.f T.gP.fd ["moves","way"] (wQ (bC T)):=by
 refine T.gP.ok i6 (fun vs H Q E h=>?_) (fun cdv A outer s H vs Q E hr h=>?_)
 ·obtain ⟨p,a,g,n,m,z,r,D,rfl,_⟩:=h;rfl
 obtain ⟨p,a,g,n,m,z,r,D,rfl,hp,hW,wo,lt,hz,q⟩:=h;obtain ⟨C,cx,d0,fs,hC,ha,wf,_⟩:=id hW;refine ⟨_,(ae (ao (i:=2) i6.nd rfl (Mb rfl) (bT aa))
   (ae (bE Ml rfl (aZ K rfl (pv 0)) (m4 rfl (cM (aD (i:=3) i6.nd rfl (Mb rfl)) (cM (aD (i:=4) i6.nd rfl (Mb rfl)) kF))) (ah (bc (fG K rfl ME PySem.F.slot_list_extend PySem.F.type_list_extend Gk (pv 2) (paF (aA T.lY (yM T) (hr.mono (by decide)) rfl (paF (oy (pv 1) (mR T) (jA T) (hr.mono (by decide)) T.iU (paF (pv 4) aa)) (paF (ak bD (pv 3) (aL K rfl (pv 1) rfl)) aa))) aa)))))
   (ah (aM (pv 2))))),?_⟩
 walk_at "4";refine ⟨small (by show 0<=1000;decide),fun pf hpf=>?_⟩
 have s0:=aG hpf (.lst []);have f0:cB (upd H pf (.lst [])) pf []:=⟨[],ar,rfl,fun i q x z=>by simp at z⟩
 generalize upd H pf (.lst [])=H0 at s0 f0;walk_at "rn";refine sR (H₀:=H) hp (fun i σ' H'=>ai H H'/\cB H' pf (iJ D z (r.take i))/\∃ x3 x4:Option V,σ'=[some (.ref p),some (.ref a),some (.ref pf),x3,x4]) ⟨s0,f0,_,_,rfl⟩ (fun i σ' H' z=>z.1) ?_ ?_
 ·rintro i x σ' H1 hx ⟨s1,f1,x3,x4,rfl⟩;have il:=(LR.mp hx).1;obtain ⟨r0,hr0,hm0,e0⟩:=wo.get (lt x (LS hx));have l0:=wo.row r0 hm0;have cl:(iJ D z (r.take i)).length+z<=1000:=by
   rw [qw fun y hy=>?_,Mu,Qe (by omega)]
   ·have:(i+1) * z<=r.length * z:=P5 _ il;rw [PV] at this;omega
   ·obtain ⟨r',_,hm',e'⟩:=wo.get (lt y (OY hy));rw [e'];exact wo.row r' hm'
  obtain ⟨qs,g1,g2,g3⟩:=id f1;walk_at "rn";refine ⟨.inl ⟨rfl,_,SqL.of g1⟩,?_⟩;walk_at "6";refine ⟨C,a,cx,fs,hC,rfl,s1 _ _ ha,wf.moves,?_⟩;walk_at "rn";refine ⟨a,g,x.2,m,z,D,r0,rfl,hW.mono s1,hr0,fun pm H2 fpm s2 row1=>?_⟩;have s12:=s1.trans s2;walk_at "rn";refine fP T hC (s12 _ _ ha) wf ?_;have zb:=wo.z1;walk_at "rn";refine ⟨pm,x.1 * z,r0,rfl,row1,by omega,fun pb H3 fpb s3 row2=>?_⟩
  obtain ⟨ps,k1,k2,k3⟩:=id row2;rw [LP] at k2;have s23:=s2.trans s3;have g1':=s23 _ _ g1;walk_at "rn";refine ⟨pf,pb,_,_,rfl,rfl,g1',k1,M4 (show (qs.map V.ref).length+(ps.map V.ref).length<=1000 by rw [LP,LP];omega) (by rw [Nx];decide),?_⟩
  refine ⟨qO hpf (s1.trans s23),?_,_,_,rfl⟩;rw [BE hx,e0];refine ⟨qs++ps,by rw [ar,MM],by rw [Mm,Mm,LP,g2,k2],fun j q' y hj hy=>?_⟩
  have key:H3 q'=some (.tup [.int (y.1:Int),.int (y.2:Int)]):=by
   rcases MN j qs.length with zz|zz
   ·rw [MB zz] at hj;rw [MB (by omega)] at hy
    exact s23 _ _ (g3 j q' y hj hy)
   ·rw [MA zz] at hj;rw [MA (by omega),<- g2] at hy
    exact k3 _ q' y hj hy
  rw [au (fun e=>by rw [e,g1'] at key;cases key)]
  exact key
 ·rintro σ' H1 ⟨s1,f1,x3,x4,rfl⟩;rw [Nh] at f1;walk_at "rn";exact q pf H1 hpf s1 f1
theorem Cv {n e i:Nat} {t:List (List Nat)} {R:List Nat} (gt:GT n t e) (pt:IsPart n t R) (hi:i<n):∀ x∈(bH n t e R).map (fun c=>(hm n t e R (tb t i c),R.idxOf (ov n t e R (tb t i c)))),x.2<R.length:=fun x hx=>by
 obtain ⟨c,hc,rfl⟩:=Mg.mp hx;obtain ⟨_,_,_,_,h⟩:=DB gt pt (gt.lt i c hi (cV hc));exact Nc h
theorem zS {n e i z:Nat} {t:List (List Nat)} {R:List Nat} {D:List (List (Nat×Nat))} (hi:i<n):(xB n t e R D z)[i]?=some (iJ D z ((bH n t e R).map fun c=>(hm n t e R (tb t i c),R.idxOf (ov n t e R (tb t i c))))):=by
 unfold xB kg;rw [Mc,Mc,NG hi];rfl
theorem Js {n e i m z:Nat} {t:List (List Nat)} {R:List Nat} {D:List (List (Nat×Nat))} (gt:GT n t e) (pt:IsPart n t R) (wo:WOk R.length m z D) (hi:i<n):(iJ D z ((bH n t e R).map fun c=>(hm n t e R (tb t i c),R.idxOf (ov n t e R (tb t i c))))).length=(bH n t e R).length * z:=by
 rw [qw fun x hx=>?_,LP];obtain ⟨r,_,h2,h3⟩:=wo.get (Cv gt pt hi x hx);rw [h3];exact wo.row r h2
structure Rai (W:Addr->Prop) (CG:Addr) (H:Hp) (g p1 a g':Addr) (n e m z l:Nat) (t:List (List Nat)) (R:List Nat) (D:List (List (Nat×Nat))):Prop where
 gp:aU CG H g n t e
 gt:GT n t e
 h1:H p1=some (.lst (bb R))
 pt:IsPart n t R
 wa:dC W H a g' m z D
 gp':aU CG H g' R.length (fM t R) (R.idxOf e)
 wo:WOk R.length m z D
 hl:cW (cR n t e) l
 ml:m % l=0
theorem Rai.mono {W:Addr->Prop} {CG:Addr} {H H':Hp} {g p1 a g':Addr} {n e m z l:Nat} {t:List (List Nat)} {R:List Nat} {D:List (List (Nat×Nat))} (s:ai H H') (h:Rai W CG H g p1 a g' n e m z l t R D):Rai W CG H' g p1 a g' n e m z l t R D:=⟨h.gp.mono s,h.gt,s _ _ h.h1,h.pt,h.wa.mono s,h.gp'.mono s,h.wo,h.hl,h.ml⟩
def sj (W:Addr->Prop) (C CG:Addr):Sp:=fun vs H Q _=>∃ (p dx g p1 a g':Addr) (n e m z l:Nat) (t:List (List Nat)) (R:List Nat) (D:List (List (Nat×Nat))),vs=[.ref p,.ref g,.ref p1,.ref a]/\H p=some (.ins C dx [])/\Rai W CG H g p1 a g' n e m z l t R D/\(bH n t e R).length * z<=60 /\
 ∀ d H' fs,H' p=some (.ins C dx fs)->WF fs (.ref g) m ((bH n t e R).length * z:Nat) (.ref d)->dY H' d (xB n t e R D z)->(∀ a o,H a=some o->a≠p->H' a=some o)->Q .non H'
theorem Ft (T:Txt K mg):aI P w K mg base CX0 7 T.ji T.je ["self","group","part","way"] (sj (bC T) T.cu T.az):=by
 refine T.rA.ok dI (fun vs H Q E h=>?_) (fun cdv A outer s H vs Q E hr h=>?_)
 ·obtain ⟨p,dx,g,p1,a,g',n,e,m,z,l,t,R,D,rfl,_⟩:=h;rfl
 obtain ⟨p,dx,g,p1,a,g',n,e,m,z,l,t,R,D,rfl,hp,ra,h60,k⟩:=h;obtain ⟨C,cx,d0,fs,hC,ha,wf,_⟩:=id ra.wa;obtain ⟨gx',gr',gb',hg',aR',aB'⟩:=aU.get (K:=K) ra.gp';obtain ⟨gx,gr,gb,hg,aR,aB⟩:=aU.get (K:=K) ra.gp;have gt:=ra.gt;have pt:=ra.pt;have wo:=ra.wo;have n1:=gt.pos;have n23:=gt.le;have rl:=pt.len;have r1:0<R.length:=ML.mpr pt.ne;have zb:=wo.z1;refine ⟨_,(ae (aX (ay (kS K rfl (List Nat) hr.units) (aL K rfl (aL K rfl (pv 3) rfl) rfl) (aL K rfl (aA T.fq (rJ T) (hr.mono (by decide)) rfl (paF (pv 1) (paF (pv 2) aa))) rfl) (aE _)) (ah cE) aN)
   (ae (ao (i:=4) dI.nd rfl (Mb rfl) (aA T.cN (lq T) (hr.mono (by decide)) rfl (paF (pv 1) (paF (aL K rfl (pv 3) rfl) aa))))
   (ae (bc (aA T.bM (lj T) (hr.mono (by decide)) rfl (paF (ak bD (ak bz (aL K rfl (pv 1) rfl) (av (aW K rfl) rfl T.bI Ms (paF (pv 2) aa))) (aL K rfl (pv 3) rfl)) aa)))
   (ae (dk (i:=5) rfl dI.nd rfl (Mb rfl) n9 (aZ K rfl (aA T.gH (sh T) (hr.mono (by decide)) rfl (paF (pv 1) (paF (pv 2) aa)))) (fun _ _ _ _=>⟨(aD (i:=0) n9.nd rfl (Mb rfl)),bw,(aA T.gP (vn T) (hr.mono (by decide)) rfl (paF (pv 0) (paF (pv 1) aa)))⟩) rfl)
   (ah (bc (q9 rfl T.vP T.wL (vG T) (hr.mono (by decide)) T.vt (paF (pv 0) (paF (pv 1) (paF (pv 4) (paF (pv 5) aa))))))))))),?_⟩
 walk_at "1";refine fB T hC ha wf ?_;walk_at "rn";refine bA T hg' ?_;walk_at "rn";refine ⟨g,p1,n,e,t,R,rfl,ra.gp,gt,ra.h1,pt,fun g2 H1 fg s1 hg1=>?_⟩;obtain ⟨gx2,gr2,gb2,hg2,aR2,aB2⟩:=aU.get (K:=K) (hg1.mono my);walk_at "rn";refine bA T hg2 ?_;walk_at "rn";refine oX (Rep.mono s1 aR') aR2 ?_;walk_at "8";refine fh T hC (s1 _ _ ha) wf ?_;walk_at "rn";refine ⟨g,.int (m:Int),n,e,m,t,rfl,ra.gp.mono s1,gt,.inr ⟨rfl,wo.m1,wo.m60,fun k hk=>by rw [hk.uni ra.hl];exact ra.ml⟩,fun H2 s2=>?_⟩
 have s12:=s1.trans s2;walk_at "rn";refine bL T (s12 _ _ hg) ?_;walk_at "rn";refine dD (cC (s12 _ _ ra.h1)) ?_;refine qm r1 (by omega) ?_
 rw [rB gt pt];walk_at "rn";refine fP T hC (s12 _ _ ha) wf ?_;walk_at "rn";refine ⟨_,rfl,h60,?_⟩;walk_at "rn";refine ⟨g,_,n,e,t,R,rfl,ra.gp.mono s12,gt,cC (s12 _ _ ra.h1),pt,fun d6 H6 fd6 s6 hD6=>?_⟩;have s16:=s12.trans s6;obtain ⟨ps6,h61,h62,h63⟩:=id hD6;have ln6:ps6.length=n:=by rw [h62];unfold kg;rw [LP,Mt]
 have rn:(xB n t e R D z).length=n:=by unfold xB kg;rw [LP,LP,Mt]
 walk_at "rn";refine uU (xB n t e R D z) (fun σ'=>∃ y,σ'=[y,some (.ref a)]) (SqL.of h61) (by rw [LP,rn];exact ln6) (by omega) ⟨_,rfl⟩ ?_ ?_
 ·rintro i o r σ' H7 R' R0 ho hr7 s7 ⟨y,rfl⟩ hR';have hin:i<n:=by
   have:=(LR.mp ho).1;rw [LP] at this;omega
  rw [zS hin] at hr7;cases hr7;rw [Mc] at ho;cases hq:ps6[i]? with
  | none=>rw [hq] at ho;cases ho
  | some pq =>
   rw [hq] at ho;cases ho;have row:=(h63 i pq _ hq (yy hin)).mono s7;walk_at "rn";refine ⟨pq,a,g',R.length,m,z,_,D,rfl,row,ra.wa.mono (s16.trans s7),wo,Cv gt pt hin,by rw [LP];omega,fun d H8 fd s8 row8=>?_⟩
   exact hR' _ _ _ ⟨_,rfl⟩ s8 fd row8
 ·intro d7 H7 fd7 s7 hD7;have s17:=s16.trans s7;walk_at "rn";refine ⟨p,T.cu,dx,d7,.ref g,(m:Int),[],_,_,rfl,Gg T,s17 _ _ hp,.inl rfl,hD7,zS n1,fun H9 fs9 h9 wf9 k9=>?_⟩;rw [Js gt pt wo n1] at wf9;walk_at "rn";exact k d7 H9 fs9 h9 wf9 (hD7.but (s17 _ _ hp) k9) fun b o hb hne=>k9 b o (s17 _ _ hb) hne
def qN (W:Addr->Prop) (CE CG:Addr):Sp:=fun vs H _ Ex=>∃ (x:V) (g p1 a g':Addr) (n e m z l:Nat) (t:List (List Nat)) (R:List Nat) (D:List (List (Nat×Nat))),vs=[x,.ref g,.ref p1,.ref a]/\Rai W CG H g p1 a g' n e m z l t R D/\60<(bH n t e R).length * z/\∀ H',ai H H'->Ex (.ref CE) none H'
theorem C4 (T:Txt K mg):aI P w K mg base (CXR P w) 7 T.ji T.je ["self","group","part","way"] (qN (bC T) T.bg T.az):=by
 refine T.rA.okR dI (fun vs H Q E h=>?_) (fun cdv A outer s H vs Q E hr h=>?_)
 ·obtain ⟨x,g,p1,a,g',n,e,m,z,l,t,R,D,rfl,_⟩:=h;rfl
 obtain ⟨x,g,p1,a,g',n,e,m,z,l,t,R,D,rfl,ra,h60,q⟩:=h;obtain ⟨C,cx,d0,fs,hC,ha,wf,_⟩:=id ra.wa;obtain ⟨gx',gr',gb',hg',aR',aB'⟩:=aU.get (K:=K) ra.gp';obtain ⟨gx,gr,gb,hg,aR,aB⟩:=aU.get (K:=K) ra.gp;have gt:=ra.gt;have pt:=ra.pt;have wo:=ra.wo;have n23:=gt.le;have rl:=pt.len;have r1:0<R.length:=ML.mpr pt.ne;have zb:=wo.z1;refine ⟨_,(ae (aX (ay (kS K rfl (List Nat) hr.units) (aL K rfl (aL K rfl (pv 3) rfl) rfl) (aL K rfl (aA T.fq (rJ T) (hr.mono (by decide)) rfl (paF (pv 1) (paF (pv 2) aa))) rfl) (aE _)) (ah cE) aN)
   (ae (ao (i:=4) dI.nd rfl (Mb rfl) (aA T.cN (lq T) (hr.mono (by decide)) rfl (paF (pv 1) (paF (aL K rfl (pv 3) rfl) aa))))
   (ae (bc (lz T.bM (ku T) (hr.mono (by decide)) rfl DA (paF (ak bD (ak bz (aL K rfl (pv 1) rfl) (av (aW K rfl) rfl T.bI Ms (paF (pv 2) aa))) (aL K rfl (pv 3) rfl)) aa))) jh))),?_⟩
 walk_at "1";refine fB T hC ha wf ?_;walk_at "rn";refine bA T hg' ?_;walk_at "rn";refine ⟨g,p1,n,e,t,R,rfl,ra.gp,gt,ra.h1,pt,fun g2 H1 fg s1 hg1=>?_⟩;obtain ⟨gx2,gr2,gb2,hg2,aR2,aB2⟩:=aU.get (K:=K) (hg1.mono my);walk_at "rn";refine bA T hg2 ?_;walk_at "rn";refine oX (Rep.mono s1 aR') aR2 ?_;walk_at "8";refine fh T hC (s1 _ _ ha) wf ?_;walk_at "rn";refine ⟨g,.int (m:Int),n,e,m,t,rfl,ra.gp.mono s1,gt,.inr ⟨rfl,wo.m1,wo.m60,fun k hk=>by rw [hk.uni ra.hl];exact ra.ml⟩,fun H2 s2=>?_⟩
 have s12:=s1.trans s2;walk_at "rn";refine bL T (s12 _ _ hg) ?_;walk_at "rn";refine dD (cC (s12 _ _ ra.h1)) ?_;refine qm r1 (by omega) ?_
 rw [rB gt pt];walk_at "rn";refine fP T hC (s12 _ _ ha) wf ?_;walk_at "rn";exact ⟨_,rfl,h60,q _ s12⟩
theorem qV (T:Txt K mg):aI P w K mg base (CXR P w) 7 T.ji T.je ["self","group","part","way"] (fun vs H Q E=>sj (bC T) T.cu T.az vs H Q E\/qN (bC T) T.bg T.az vs H Q E):=aI.both (Ft T) (C4 T)
def spM (sp:Sp):Sp:=fun vs H Q E=>∃ (x:V) (ws:List V),vs=x :: ws/\sp ws H Q E
def gf (W:Addr->Prop) (CO CW CG:Addr):Sp:=fun vs H _ Ex=>∃ (a b g g':Addr) (n n' e e' m m' z z':Nat) (t t':List (List Nat)) (D E:List (List (Nat×Nat))),vs=[.ref a,.ref b]/\dC W H a g m z D/\dC W H b g' m' z' E/\aU CG H g n t e/\aU CG H g' n' t' e' /\
 ((t≠t'/\Ex (.ref CO) none H)\/(t=t'/\m≠m'/\Ex (.ref CW) none H))
theorem oW (T:Txt K mg):aI P w K mg base (CXR P w) 1 T.bS.f T.bS.fd ["one","other"] (gf (bC T) T.ba T.bh T.az):=by
 refine T.bS.fn.okX p8 (fun vs H Q E h=>?_) (fun cdv A outer s H vs Q E hr h=>?_)
 ·obtain ⟨a,b,g,g',n,n',e,e',m,m',z,z',t,t',D,E,rfl,_⟩:=h;rfl
 obtain ⟨a,b,g,g',n,n',e,e',m,m',z,z',t,t',D,E',rfl,⟨C,cx,d,fs,hC,ha,wf,_⟩,⟨C',cx',d',fs',hC',hb,wf',_⟩,hG,hG',h⟩:=h;obtain ⟨gx,gr,gb,hg,aR,aB⟩:=aU.get (K:=K) hG;obtain ⟨gx',gr',gb',hg',aR',aB'⟩:=aU.get (K:=K) hG';refine ⟨_,fun okc=>(ae (aX (ay (kS K rfl (List Nat) hr.units) (aL K rfl (aL K rfl (pv 0) rfl) rfl) (aL K rfl (aL K rfl (pv 1) rfl) rfl) (aE _)) (ah (jk ua rfl rfl T.fF rfl T.lK (paF cj aa))) aN)
   (ah (aX (ay iy (aL K rfl (pv 0) rfl) (aL K rfl (pv 1) rfl) (aE _)) (ah (jk ua rfl rfl T.gX rfl T.nQ (paF cj aa))) aN))),?_⟩
 walk_at "1";refine fB T hC ha wf ?_;walk_at "rn";refine bA T hg ?_;walk_at "rn";refine fB T hC' hb wf' ?_;walk_at "rn";refine bA T hg' ?_;walk_at "rn";refine oX aR aR' ?_;walk_at "rn";rcases h with ⟨nt,q⟩|⟨et,nm,q⟩
 ·refine bX (fun _=>?_) (fun c=>absurd c nt);walk_at "rn";refine kH ?_;walk_at "rn";exact ⟨small (by show 1<=1000;decide),q⟩
 ·refine bX (fun c=>absurd et c) (fun _=>?_);walk_at "1";refine fh T hC ha wf ?_;walk_at "rn";refine fh T hC' hb wf' ?_;walk_at "rn";refine bX (fun _=>?_) (fun c=>absurd c (by omega))
  walk_at "rn";refine kH ?_;walk_at "rn";exact ⟨small (by show 1<=1000;decide),q⟩
theorem Dq (T:Txt K mg):aI P w K mg base (CXR P w) 2 T.jt T.jy ["self","one","other"] (spM (gf (bC T) T.ba T.bh T.az)):=by
 refine T.qx.okX jC (fun vs H Q E h=>?_) (fun cdv A outer s H vs Q E hr h=>?_)
 ·obtain ⟨x,ws,rfl,a,b,g,g',n,n',e,e',m,m',z,z',t,t',D,E,rfl,_⟩:=h;rfl
 obtain ⟨x,ws,rfl,a,b,g,g',n,n',e,e',m,m',z,z',t,t',D,E',rfl,h⟩:=h;refine ⟨_,fun okc=>(ae (bc (lz T.bS (oW T) (hr.mono (by decide)) rfl tU (paF (pv 1) (paF (pv 2) aa))))
   jh),?_⟩
 walk_at "rn";exact ⟨a,b,g,g',n,n',e,e',m,m',z,z',t,t',D,E',rfl,h⟩
theorem BO (T:Txt K mg):aI P w K mg base (CXR P w) 2 T.ic T.ie ["self","one","other"] (spM (gf (bC T) T.ba T.bh T.az)):=by
 refine T.oK.okX i9 (fun vs H Q E h=>?_) (fun cdv A outer s H vs Q E hr h=>?_)
 ·obtain ⟨x,ws,rfl,a,b,g,g',n,n',e,e',m,m',z,z',t,t',D,E,rfl,_⟩:=h;rfl
 obtain ⟨x,ws,rfl,a,b,g,g',n,n',e,e',m,m',z,z',t,t',D,E',rfl,h⟩:=h;refine ⟨_,fun okc=>(ae (bc (lz T.bS (oW T) (hr.mono (by decide)) rfl tU (paF (pv 1) (paF (pv 2) aa))))
   jh),?_⟩
 walk_at "rn";exact ⟨a,b,g,g',n,n',e,e',m,m',z,z',t,t',D,E',rfl,h⟩
theorem Fn (T:Txt K mg):aI P w K mg base (CXR P w) 4 T.fq.f T.fq.fd ["group","part"] (fun vs H Q E=>Ao T.az K vs H Q E\/spN T.bR T.az K vs H Q E):=aI.both (rJ T) (Fz T)
def vW (W:Addr->Prop) (CP CO CB CG:Addr) (K:LN):Sp:=fun vs H _ Ex=>∃ (x:V) (g p1 a g':Addr) (n e n' e' m z:Nat) (t t':List (List Nat)) (L:List Int) (D:List (List (Nat×Nat))),vs=[x,.ref g,.ref p1,.ref a]/\aU CG H g n t e/\GT n t e/\H p1=some (.lst (L.map V.int))/\L.length<=64/\dC W H a g' m z D/\aU CG H g' n' t' e'/\1<=m /\
 ((¬ rG n t L/\∀ H',ai H H'->Ex (.ref CP) none H')\/∃ R:List Nat,L=R.map (fun (x:Nat)=>(x:Int))/\IsPart n t R/\((t'≠fM t R/\∀ H',ai H H'->Ex (.ref CO) none H')\/(t'=fM t R/\¬ pP n t e (m:Int)/\∀ H',ai H H'->Ex (.ref CB) none H')))
theorem C7 (T:Txt K mg):aI P w K mg base (CXR P w) 7 T.ji T.je ["self","group","part","way"] (vW (bC T) T.bR T.ba T.bB T.az K):=by
 refine T.rA.okX dI (fun vs H Q E h=>?_) (fun cdv A outer s H vs Q E hr h=>?_)
 ·obtain ⟨x,g,p1,a,g',n,e,n',e',m,z,t,t',L,D,rfl,_⟩:=h;rfl
 obtain ⟨x,g,p1,a,g',n,e,n',e',m,z,t,t',L,D,rfl,hG,gt,h1,ll,hW,hG',m1,h⟩:=h;obtain ⟨C,cx,d0,fs,hC,ha,wf,_⟩:=id hW;obtain ⟨gx',gr',gb',hg',aR',aB'⟩:=aU.get (K:=K) hG';refine ⟨_,fun okc=>(ae (aX (ay (kS K rfl (List Nat) hr.units) (aL K rfl (aL K rfl (pv 3) rfl) rfl) (aL K rfl (lz T.fq (Fn T) (hr.mono (by decide)) rfl tU (paF (pv 1) (paF (pv 2) aa))) rfl) (aE _)) (ah (jk ua rfl rfl T.fF rfl T.lK (paF cj aa))) aN)
   (ae (ao (i:=4) dI.nd rfl (Mb rfl) (lz T.cN (B8 T) (hr.mono (by decide)) rfl tU (paF (pv 1) (paF (aL K rfl (pv 3) rfl) aa))))
   jh)),?_⟩
 walk_at "1";refine fB T hC ha wf ?_;walk_at "rn";refine bA T hg' ?_;walk_at "rn";rcases h with ⟨np,q⟩|⟨R,rfl,pt,h⟩
 ·exact .inr ⟨g,_,n,e,t,L,rfl,hG,gt,xA (SqL.of h1),ll,np,q⟩
 refine .inl ⟨g,p1,n,e,t,R,rfl,hG,gt,by rw [h1,N7];rfl,pt,fun g2 H1 fg s1 hg1=>?_⟩
 obtain ⟨gx2,gr2,gb2,hg2,aR2,aB2⟩:=aU.get (K:=K) (hg1.mono my);walk_at "rn";refine bA T hg2 ?_;walk_at "rn";refine oX (Rep.mono s1 aR') aR2 ?_;walk_at "rn";rcases h with ⟨nt,q⟩|⟨et,ns,q⟩
 ·refine bX (fun _=>?_) (fun c=>absurd c nt);walk_at "rn";refine kH ?_;walk_at "rn";exact ⟨small (by show 1<=1000;decide),q H1 s1⟩
 ·refine bX (fun c=>absurd et c) (fun _=>?_);walk_at "rn";refine fh T hC (s1 _ _ ha) wf ?_;walk_at "rn";exact .inr ⟨g,(m:Int),n,e,t,rfl,hG.mono s1,gt,ns,fun H2 s2=>q H2 (s1.trans s2)⟩
instance:bV Bool where
 depth:=0
 inj:=fun _ h h'=>by cases h;cases h';rfl
 eq:=fun {X pins σ H s A x y u v a b} _ hx hy ru rv _=>by
  cases hx;cases hy;have q:=v9 (A:=A) (s:=s) ru rv rfl rfl;have e:eqV (.bl a) (.bl b)=decide (a=b):=by cases a <;> cases b <;> rfl
  rw [e] at q;exact q
theorem IF {H:Hp}:∀ {l:List Bool},Nv (Rep.is K H) (l.map V.bl) l
 | []=>.nil
 | x :: l=>.cons rfl IF
theorem JU {H:Hp} {p:Addr} {l:List Bool} (h:H p=some (.lst (l.map V.bl))):At K H (.ref p) l:=⟨p,_,rfl,SqL.of h,IF⟩
theorem ip {α β:Type} {F:α->β->Prop} {a:α} {b:β} {as:List α} {bs:List β} (h:Nv F (a :: as) (b :: bs)):F a b/\Nv F as bs:=by
 cases h with
 | cons r t=>exact ⟨r,t⟩
def kO (K:LN) (C D:Addr) (b:Bool):Prop:=MH K (.ref C) (.ref D)=some b
def AI (Ds:List Addr) (K:LN):Sp:=fun vs H Q _=>∃ (x C:Addr) (di:Option Addr) (bs:List Bool),vs=[.ref x]/\H x=some (kD x C di)/\cb K C/\Nv (kO K C) Ds bs/\∀ d H',H d=none->ai H H'->H' d=some (.lst (bs.map V.bl))->Q (.ref d) H'
theorem Av (T:Txt K mg):aI P w K mg base CX0 1 T.j9.f T.j9.fd ["_law_met_here"] (AI [T.bR,T.cQ,T.bB,T.fI,T.cJ,T.dG,T.ba,T.bh,T.bg,T.dP,T.dS,T.dj,T.fC,T.fH,T.cz] K):=by
 refine T.j9.ok jb (fun vs H Q E h=>?_) (fun cdv A outer s H vs Q E hr h=>?_)
 ·obtain ⟨x,C,di,bs,rfl,_⟩:=h;rfl
 obtain ⟨x,C,di,bs,rfl,hx,hc,hp,q⟩:=h;obtain ⟨b1,b2,b3,b4,b5,b6,b7,b8,b9,b10,b11,b12,b13,b14,b15,rfl⟩:∃ b1 b2 b3 b4 b5 b6 b7 b8 b9 b10 b11 b12 b13 b14 b15,bs=[b1,b2,b3,b4,b5,b6,b7,b8,b9,b10,b11,b12,b13,b14,b15]:=by
  have e:=Pc hp
  match bs,e with
  | [b1,b2,b3,b4,b5,b6,b7,b8,b9,b10,b11,b12,b13,b14,b15],_=>exact ⟨_,_,_,_,_,_,_,_,_,_,_,_,_,_,_,rfl⟩
 obtain ⟨h1,hp⟩:=ip hp;obtain ⟨h2,hp⟩:=ip hp;obtain ⟨h3,hp⟩:=ip hp;obtain ⟨h4,hp⟩:=ip hp;obtain ⟨h5,hp⟩:=ip hp;obtain ⟨h6,hp⟩:=ip hp;obtain ⟨h7,hp⟩:=ip hp;obtain ⟨h8,hp⟩:=ip hp;obtain ⟨h9,hp⟩:=ip hp;obtain ⟨h10,hp⟩:=ip hp;obtain ⟨h11,hp⟩:=ip hp;obtain ⟨h12,hp⟩:=ip hp;obtain ⟨h13,hp⟩:=ip hp;obtain ⟨h14,hp⟩:=ip hp;obtain ⟨h15,hp⟩:=ip hp;refine ⟨_,(ae (ao (i:=1) jb.nd rfl (Mb rfl) (bT (paF (av (bJ K rfl) rfl T.bq Mr (paF (pv 0) (paF (cD (v:=.ref T.bR) rfl T.uH rfl) aa))) (paF (av (bJ K rfl) rfl T.bq Mr (paF (pv 0) (paF (cD (v:=.ref T.cQ) rfl T.uz rfl) aa))) (paF (av (bJ K rfl) rfl T.bq Mr (paF (pv 0) (paF (cD (v:=.ref T.bB) rfl T.nA rfl) aa))) aa)))))
   (ae (ao (i:=1) jb.nd rfl (Mb rfl) (ak nX (pv 1) (bT (paF (av (bJ K rfl) rfl T.bq Mr (paF (pv 0) (paF (cD (v:=.ref T.fI) rfl T.Br rfl) aa))) (paF (av (bJ K rfl) rfl T.bq Mr (paF (pv 0) (paF (cD (v:=.ref T.cJ) rfl T.we rfl) aa))) (paF (av (bJ K rfl) rfl T.bq Mr (paF (pv 0) (paF (cD (v:=.ref T.dG) rfl T.Cf rfl) aa))) aa))))))
   (ae (ao (i:=1) jb.nd rfl (Mb rfl) (ak nX (pv 1) (bT (paF (av (bJ K rfl) rfl T.bq Mr (paF (pv 0) (paF (cD (v:=.ref T.ba) rfl T.lK rfl) aa))) (paF (av (bJ K rfl) rfl T.bq Mr (paF (pv 0) (paF (cD (v:=.ref T.bh) rfl T.nQ rfl) aa))) (paF (av (bJ K rfl) rfl T.bq Mr (paF (pv 0) (paF (cD (v:=.ref T.bg) rfl T.qZ rfl) aa))) aa))))))
   (ae (ao (i:=1) jb.nd rfl (Mb rfl) (ak nX (pv 1) (bT (paF (av (bJ K rfl) rfl T.bq Mr (paF (pv 0) (paF (cD (v:=.ref T.dP) rfl T.yi rfl) aa))) (paF (av (bJ K rfl) rfl T.bq Mr (paF (pv 0) (paF (cD (v:=.ref T.dS) rfl T.yk rfl) aa))) (paF (av (bJ K rfl) rfl T.bq Mr (paF (pv 0) (paF (cD (v:=.ref T.dj) rfl T.wR rfl) aa))) aa))))))
   (ah (aM (ak nX (pv 1) (bT (paF (av (bJ K rfl) rfl T.bq Mr (paF (pv 0) (paF (cD (v:=.ref T.fC) rfl T.z6 rfl) aa))) (paF (av (bJ K rfl) rfl T.bq Mr (paF (pv 0) (paF (cD (v:=.ref T.fH) rfl T.AX rfl) aa))) (paF (av (bJ K rfl) rfl T.bq Mr (paF (pv 0) (paF (cD (v:=.ref T.cz) rfl T.rV rfl) aa))) aa))))))))))),?_⟩
 walk_at "3";refine cT hx hc h1 ?_;walk_at "rx";refine cT hx hc h2 ?_;walk_at "rx";refine cT hx hc h3 ?_;walk_at "rx";refine ⟨small (by show 3<=1000;decide),fun p1 hp1=>?_⟩
 have s1:=aG hp1 (.lst [.bl b1,.bl b2,.bl b3]);have g1:(upd H p1 (.lst [.bl b1,.bl b2,.bl b3])) p1=some (.lst ([b1,b2,b3].map V.bl)):=ar;generalize upd H p1 (.lst [.bl b1,.bl b2,.bl b3])=H1 at s1 g1;walk_at "3";refine cT (s1 _ _ hx) hc h4 ?_;walk_at "rx";refine cT (s1 _ _ hx) hc h5 ?_;walk_at "rx";refine cT (s1 _ _ hx) hc h6 ?_;walk_at "rx";refine ⟨small (by show 3<=1000;decide),fun p4 hp4=>?_⟩
 have n4:p1≠p4:=fun e=>by rw [<- e,g1] at hp4;cases hp4
 refine ⟨p1,p4,_,_,rfl,rfl,by rw [au n4];exact g1,ar,small (by show _<=1000;simp),fun c4 hc4=>?_⟩
 have s4:=s1.trans ((aG hp4 (.lst [.bl b4,.bl b5,.bl b6])).trans (aG hc4 (.lst ([b1,b2,b3].map V.bl++[.bl b4,.bl b5,.bl b6]))));have g4:(upd (upd H1 p4 (.lst [.bl b4,.bl b5,.bl b6])) c4 (.lst ([b1,b2,b3].map V.bl++[.bl b4,.bl b5,.bl b6]))) c4=some (.lst ([b1,b2,b3,b4,b5,b6].map V.bl)):=ar;generalize upd (upd H1 p4 (.lst [.bl b4,.bl b5,.bl b6])) c4 (.lst ([b1,b2,b3].map V.bl++[.bl b4,.bl b5,.bl b6]))=H4 at s4 g4;walk_at "3";refine cT (s4 _ _ hx) hc h7 ?_;walk_at "rx";refine cT (s4 _ _ hx) hc h8 ?_;walk_at "rx";refine cT (s4 _ _ hx) hc h9 ?_;walk_at "rx";refine ⟨small (by show 3<=1000;decide),fun p7 hp7=>?_⟩
 have n7:c4≠p7:=fun e=>by rw [<- e,g4] at hp7;cases hp7
 refine ⟨c4,p7,_,_,rfl,rfl,by rw [au n7];exact g4,ar,small (by show _<=1000;simp),fun c7 hc7=>?_⟩
 have s7:=s4.trans ((aG hp7 (.lst [.bl b7,.bl b8,.bl b9])).trans (aG hc7 (.lst ([b1,b2,b3,b4,b5,b6].map V.bl++[.bl b7,.bl b8,.bl b9]))));have g7:(upd (upd H4 p7 (.lst [.bl b7,.bl b8,.bl b9])) c7 (.lst ([b1,b2,b3,b4,b5,b6].map V.bl++[.bl b7,.bl b8,.bl b9]))) c7=some (.lst ([b1,b2,b3,b4,b5,b6,b7,b8,b9].map V.bl)):=ar;generalize upd (upd H4 p7 (.lst [.bl b7,.bl b8,.bl b9])) c7 (.lst ([b1,b2,b3,b4,b5,b6].map V.bl++[.bl b7,.bl b8,.bl b9]))=H7 at s7 g7;walk_at "3";refine cT (s7 _ _ hx) hc h10 ?_;walk_at "rx";refine cT (s7 _ _ hx) hc h11 ?_;walk_at "rx";refine cT (s7 _ _ hx) hc h12 ?_;walk_at "rx";refine ⟨small (by show 3<=1000;decide),fun p10 hp10=>?_⟩
 have n10:c7≠p10:=fun e=>by rw [<- e,g7] at hp10;cases hp10
 refine ⟨c7,p10,_,_,rfl,rfl,by rw [au n10];exact g7,ar,small (by show _<=1000;simp),fun c10 hc10=>?_⟩
 have s10:=s7.trans ((aG hp10 (.lst [.bl b10,.bl b11,.bl b12])).trans (aG hc10 (.lst ([b1,b2,b3,b4,b5,b6,b7,b8,b9].map V.bl++[.bl b10,.bl b11,.bl b12]))));have g10:(upd (upd H7 p10 (.lst [.bl b10,.bl b11,.bl b12])) c10 (.lst ([b1,b2,b3,b4,b5,b6,b7,b8,b9].map V.bl++[.bl b10,.bl b11,.bl b12]))) c10=some (.lst ([b1,b2,b3,b4,b5,b6,b7,b8,b9,b10,b11,b12].map V.bl)):=ar;generalize upd (upd H7 p10 (.lst [.bl b10,.bl b11,.bl b12])) c10 (.lst ([b1,b2,b3,b4,b5,b6,b7,b8,b9].map V.bl++[.bl b10,.bl b11,.bl b12]))=H10 at s10 g10;walk_at "3";refine cT (s10 _ _ hx) hc h13 ?_;walk_at "rx";refine cT (s10 _ _ hx) hc h14 ?_;walk_at "rx";refine cT (s10 _ _ hx) hc h15 ?_;walk_at "rx";refine ⟨small (by show 3<=1000;decide),fun p13 hp13=>?_⟩
 have n13:c10≠p13:=fun e=>by rw [<- e,g10] at hp13;cases hp13
 refine ⟨c10,p13,_,_,rfl,rfl,by rw [au n13];exact g10,ar,small (by show _<=1000;simp),fun c13 hc13=>?_⟩
 have s13:=s10.trans ((aG hp13 (.lst [.bl b13,.bl b14,.bl b15])).trans (aG hc13 (.lst ([b1,b2,b3,b4,b5,b6,b7,b8,b9,b10,b11,b12].map V.bl++[.bl b13,.bl b14,.bl b15]))));have g13:(upd (upd H10 p13 (.lst [.bl b13,.bl b14,.bl b15])) c13 (.lst ([b1,b2,b3,b4,b5,b6,b7,b8,b9,b10,b11,b12].map V.bl++[.bl b13,.bl b14,.bl b15]))) c13=some (.lst ([b1,b2,b3,b4,b5,b6,b7,b8,b9,b10,b11,b12,b13,b14,b15].map V.bl)):=ar;generalize upd (upd H10 p13 (.lst [.bl b13,.bl b14,.bl b15])) c13 (.lst ([b1,b2,b3,b4,b5,b6,b7,b8,b9,b10,b11,b12].map V.bl++[.bl b13,.bl b14,.bl b15]))=H13 at s13 g13;exact q c13 H13 (s10.free ((aG hp13 _).free hc13)) s13 g13
theorem dX {C:Addr}:∀ {Ds:List Addr} {bs:List Bool},flagsOf K C Ds=bs.map some->Nv (kO K C) Ds bs
 | [],[],_=>.nil
 | [],_ :: _,h=>by cases h
 | _ :: _,[],h=>by cases h
 | D :: Ds,b :: bs,h=>by
  unfold flagsOf at h;rw [MO,MO] at h;injection h with h1 h2;exact .cons h1 (dX h2)
def names9:List Str:=["NoPart","NotSteady","BadWheel","NoMove","BadMarks","NoWay","OtherGroup","OtherWheel","TooGreat"]
def qE (n:Str):List Bool:=names9.map fun o=>decide (V.str o=V.str n)
def qG (n:Str):List Bool:=qE n++Mq 6 false
def Bz (Ds:List Addr) (K:LN):Sp:=fun vs H Q _=>∃ (x C:Addr) (di:Option Addr) (n:Str),vs=[.ref x,.str n]/\H x=some (kD x C di)/\cb K C/\MH K (.ref C) (.type "ValueError")=some true/\Nv (kO K C) Ds (qG n)/\∀ H',ai H H'->Q (.bl true) H'
theorem BX (T:Txt K mg):aI P w K mg base CX0 2 T.lE.f T.lE.fd ["_law_met_here","_law_name"] (Bz [T.bR,T.cQ,T.bB,T.fI,T.cJ,T.dG,T.ba,T.bh,T.bg,T.dP,T.dS,T.dj,T.fC,T.fH,T.cz] K):=by
 refine T.lE.ok pe (fun vs H Q E h=>?_) (fun cdv A outer s H vs Q E hr h=>?_)
 ·obtain ⟨x,C,di,n,rfl,_⟩:=h;rfl
 obtain ⟨x,C,di,n,rfl,hx,hc,hv,hp,q⟩:=h;refine ⟨_,(ae (ao (i:=2) pe.nd rfl (Mb rfl) (bT (paF cj (paF cj (paF cj (paF cj (paF cj (paF cj (paF cj (paF cj (paF cj aa)))))))))))
   (ae (ao (i:=3) pe.nd rfl (Mb rfl) (ak nX (bZ rfl rX (aZ K rfl (pv 2)) (fun _ _ _ _=>⟨(aD (i:=0) rX.nd rfl (Mb rfl)),bw,(dJ bY (pv 0) (pv 1) (aE _))⟩)) (ak Ki (bT (paF i8 aa)) ag)))
   (ah (aM (lM (av (bJ K rfl) rfl T.bq Mr (paF (pv 0) (paF (IM (v:=.ty "ValueError") rfl T.gG rfl rfl) aa))) (qh (dJ (Jl K rfl Bool hr.units) (aA T.j9 (Av T) (hr.mono (by decide)) rfl (paF (pv 0) aa)) (pv 3) (aE _)))))))),?_⟩
 walk_at "3";refine ⟨small (by show 9<=1000;decide),fun p1 hp1=>?_⟩
 have s1:=aG hp1 (.lst (names9.map V.str));have h1:(upd H p1 (.lst (names9.map V.str))) p1=some (.lst (names9.map V.str)):=ar;rw [show [V.str (NW "NoPart"),V.str (NW "NotSteady"),V.str (NW "BadWheel"),V.str (NW "NoMove"),V.str (NW "BadMarks"),V.str (NW "NoWay"),V.str (NW "OtherGroup"),V.str (NW "OtherWheel"),V.str (NW "TooGreat")]=names9.map V.str from rfl];generalize (upd H p1 (.lst (names9.map V.str)))=H1 at s1 h1;walk_at "rx";refine oO (p:=p1) (xs:=names9.map V.str) (by show 9<=100000;decide) (fun d i σ' H' ys=>ai H1 H'/\∃ y:Option V,ys=((qE n).take i).map V.bl/\σ'=[y,some (.str n)]) (fun d i σ' H' ys z=>z.1.seq (SqL.of h1)) (SqL.of h1)
  (fun d i σ' H' ys hi z=>by obtain ⟨_,y,e,_⟩:=z;rw [e,LP,Mu];omega) (fun d hd=>⟨aG hd _,_,rfl,rfl⟩) ?_ ?_
 ·rintro d i o σ' H2 ys R R0 hd hi ⟨s2,y,rfl,rfl⟩ hys hR hR0;obtain ⟨o',ho,rfl⟩:∃ o',names9[i]?=some o'/\V.str o'=o:=by
   rw [Mc] at hi;cases hn:names9[i]? with
   | none=>rw [hn] at hi;cases hi
   | some o'=>rw [hn] at hi;exact ⟨o',rfl,MK hi⟩
  walk_at "rx";refine ⟨rfl,?_⟩;walk_at "rx";refine hR _ _ _ hys ⟨fun b o zz=>by rw [au (aH zz hd)];exact s2 _ _ zz,_,?_,rfl⟩
  rw [MG,MM];unfold qE;rw [Mc,ho];rfl
 rintro d2 σ2 H2 ys fd2 hd2 ⟨s2,y,rfl,rfl⟩;have hd2':H2 d2=some (.lst ((qE n).map V.bl)):=by
  rw [hd2,MC (by unfold qE;rw [LP,LP];exact Mh _)]
 have s02:=s1.trans s2;walk_at "3";refine ⟨small (by show 1<=1000;decide),fun p3 hp3=>?_⟩
 have s3:=aG hp3 (.lst [.bl false]);have h3:(upd H2 p3 (.lst [.bl false])) p3=some (.lst [.bl false]):=ar;generalize upd H2 p3 (.lst [.bl false])=H3 at s3 h3;walk_at "rx";refine ⟨p3,_,_,rfl,rfl,h3,by omega,by omega,?_,fun p4 hp4=>?_⟩
 ·rw [Nx];show 1 * _<=_
  decide
 have s4:=aG hp4 (.lst ((Mq 6 false).map V.bl));have h4:(upd H3 p4 (.lst ((Mq 6 false).map V.bl))) p4=some (.lst ((Mq 6 false).map V.bl)):=ar;rw [show (Mq ((6:Nat):Int).toNat [V.bl false]).flatten=(Mq 6 false).map V.bl from rfl];refine ⟨d2,p4,_,_,rfl,rfl,s4 _ _ (s3 _ _ hd2'),h4,small (by rw [LP,LP];unfold qE;rw [LP];decide),fun p5 hp5=>?_⟩
 have s5:=aG hp5 (.lst ((qE n).map V.bl++(Mq 6 false).map V.bl));have h5:(upd (upd H3 p4 (.lst ((Mq 6 false).map V.bl))) p5 (.lst ((qE n).map V.bl++(Mq 6 false).map V.bl))) p5=some (.lst ((qG n).map V.bl)):=by rw [ar];unfold qG;rw [MM]
 have s05:=s02.trans (s3.trans (s4.trans s5));generalize upd (upd H3 p4 (.lst ((Mq 6 false).map V.bl))) p5 (.lst ((qE n).map V.bl++(Mq 6 false).map V.bl))=H5 at s05 h5;walk_at "rx";refine GV (s05 _ _ hx) hc hv ?_;walk_at "rx";refine ⟨x,C,di,_,rfl,s05 _ _ hx,hc,hp,fun d6 H6 fd6 s6 h6=>?_⟩;walk_at "rx";refine K5 (JU h6) (JU (s6 _ _ h5)) ?_;rw [decide_eq_true rfl];exact q _ (s05.trans s6)
def Tame (n:Nat) (L:List Int):Prop:=∀ x,L[0]?=some x->0<=x->∀ y,L[L.length - 1]?=some y->y<(n:Int)->∀ z∈L,0<=z/\z<(n:Int)
theorem Hy {n:Nat} {L:List Int} (h:∀ z∈L,0<=z/\z<(n:Int)):Tame n L:=fun _ _ _ _ _ _=>h
theorem EX {n:Nat} {R:List Nat} (h:∀ x∈R,x<n):Tame n (R.map fun (x:Nat)=>(x:Int)):=Hy fun z hz=>by
 obtain ⟨x,hx,rfl⟩:=Mg.mp hz;have:=h x hx;omega
theorem wB {α β γ:Type} {F:α->γ->Prop} {f:β->γ}:∀ {xs:List α} {l:List β},Nv (fun x r=>F x (f r)) xs l->Nv F xs (l.map f)
 | _,_,.nil=>.nil
 | _,_,.cons r t=>.cons r (wB t)
theorem JR {H:Hp} {v:V} {R:List Nat} (h:At K H v R):At K H v (R.map fun (x:Nat)=>(x:Int)):=by
 obtain ⟨p,xs,e,hS,hp⟩:=h;exact ⟨p,xs,e,hS,wB (F:=fun (x:V) (i:Int)=>Rep.is K H x i) (f:=fun (n:Nat)=>(n:Int)) (Paired.eT hp fun _ _ z=>z)⟩
theorem Jr {R:List Nat} {p:Nat->Prop} [DecidablePred p] (h:∀ b∈R,p b):(R.map fun b=>decide (p b)).all id=true:=by
 rw [Mx];intro y hy;obtain ⟨x,hx,rfl⟩:=Mg.mp hy;exact decide_eq_true (h x hx)
theorem Gq {R:List Nat} {p:Nat->Prop} [DecidablePred p] (h:¬ ∀ b∈R,p b):(R.map fun b=>decide (p b)).all id=false:=by
 rw [QN];obtain ⟨x,hx⟩:=O0.mp h;obtain ⟨hx,hn⟩:=PN.mp hx;exact ⟨_,Mg.mpr ⟨x,hx,rfl⟩,by rw [decide_eq_false hn];decide⟩
theorem IH {H:Hp} {v:V} {Q:VK} {l:List Int} {c:Int} (h:At K H v l) (hj:l[l.length - 1]?=some c) (q:Q (.int c) H):qM K v (.int (-((1:Nat):Int))) H Q:=by
 obtain ⟨p,xs,rfl,hS,hp⟩:=h;obtain ⟨x,hx,rx⟩:=Paired.get hp hj;have e:=hp.length;have l0:l.length - 1<l.length:=(LR.mp hj).1;cases (show x=V.int c from rx);refine ⟨p,xs,_,_,rfl,rfl,hS,?_,q⟩;unfold atI ixN;rw [if_neg (by omega),if_pos (by omega)]
 have e2:(-((1:Nat):Int)+(xs.length:Int)).toNat=l.length - 1:=by omega
 show xs[(-((1:Nat):Int)+(xs.length:Int)).toNat]?=_;rw [e2,hx]
def xN (K:LN):Sp:=fun vs H Q _=>∃ (v:V) (d:Addr) (n e:Nat) (t:List (List Nat)) (L:List Int),vs=[v,.ref d]/\At K H v t/\GT n t e/\At K H (.ref d) L/\L.length<=64/\Tame n L /\
 (rG n t L->∀ H',ai H H'->Q (.bl true) H')/\(¬ rG n t L->∀ H',ai H H'->Q (.bl false) H')
theorem xa (T:Txt K mg):aI P w K mg base CX0 1 T.iI.f T.iI.fd ["_law_table","_law_some"] (xN K):=by
 refine T.iI.ok pI (fun vs H Q E h=>?_) (fun cdv A outer s H vs Q E hr h=>?_)
 ·obtain ⟨v,d,n,e,t,L,rfl,_⟩:=h;rfl
 obtain ⟨v,d,n,e,t,L,rfl,hT,gt,hL,hlen,tame,q1,q2⟩:=h;have n23:=gt.le;refine ⟨_,(ae (aX (PW.pt (oM (ay bY (av (aW K rfl) rfl T.bI Ms (paF (pv 1) aa)) ag (aE _)) (oM (ay ko (aq (aj K rfl) (pv 1) ag (fun _ _=>rfl)) ag (aE _)) (oj (ay tV (aq (aj K rfl) (pv 1) (Ic E8 ag) (fun _ _=>rfl)) (av (aW K rfl) rfl T.bI Ms (paF (pv 0) aa)) (aE _)))))) (ah (aM i8)) aN)
   (ae (aX (ay (kS K rfl Nat hr.units) (pv 1) (av (yW w rfl rfl) rfl T.jq Pb (paF (cp (Ek K rfl w rfl rfl) rfl T.ue PyProof.Rows.boot_set (paF (pv 1) aa)) aa)) (aE _)) (ah (aM i8)) aN)
   (ae (bE Ml rfl (aZ K rfl (pv 1)) (aD (i:=2) pI.nd rfl (PX rfl)) (ah (aX (ou (kb (av (kM K rfl rfl) rfl T.lN Oa (paF (bZ rfl n5 (aZ K rfl (pv 1)) (fun _ _ _ _=>⟨(aD (i:=0) n5.nd rfl (Mb rfl)),bw,(dJ (KU K rfl) (aq (aj K rfl) (aq (aj K rfl) (pv 3) (pv 1) (fun _ _=>rfl)) (pv 0) (fun _ _=>rfl)) (pv 2) (by with_unfolding_all rfl))⟩)) aa)))) (ah (aM i8)) aN)))
   (ah (aM i8))))),?_⟩
 walk_at "1";refine dD hL ?_;walk_at "rn";refine aV (fun z=>?_) (fun l0=>?_)
 ·walk_at "rn";refine q2 (fun ⟨R,e,pt⟩=>?_) H (ai.refl _);have:=ML.mpr pt.ne;rw [e,LP] at z;omega
 walk_at "rn";refine wq (n:=0) hL rfl (LO (by omega)) ?_
 walk_at "rn";refine aV (fun z=>?_) (fun h0=>?_)
 ·walk_at "rn";refine q2 (fun ⟨R,e,pt⟩=>?_) H (ai.refl _);subst e;rw [Rc] at z;omega
 walk_at "rn";refine IH hL (LO (by omega)) ?_
 walk_at "rn";refine dD hT ?_;rw [gt.len];walk_at "rn";refine aV (fun z=>?_) (fun hl=>?_)
 ·walk_at "rn";refine q2 (fun ⟨R,e,pt⟩=>?_) H (ai.refl _);subst e;rw [Rc] at z;have:=pt.lt _ (Ni (l:=R) (n:=(R.map fun (x:Nat)=>(x:Int)).length - 1) (by rw [LP] at *;omega))
  omega
 have all:=tame _ (LO (by omega)) (by omega) _ (LO (by omega)) (by omega)
 obtain ⟨R,rfl⟩:=xo fun x hx=>(all x hx).1;have rlt:∀ x∈R,x<n:=fun x hx=>by
  have:=(all x (Mg.mpr ⟨x,hx,rfl⟩)).2;omega
 rw [LP] at hlen l0;have aR:=Cn hL;have inj:∀ {R2:List Nat},R.map (fun (x:Nat)=>(x:Int))=R2.map (fun (x:Nat)=>(x:Int))->R=R2:=fun h=>v5 h;walk_at "1";refine JT aR (fun x hx=>Mi (rlt x hx) n23) fun sa ks fs hks nd=>?_;have s1:=aG fs (lF w sa ks);have h1:(upd H sa (lF w sa ks)) sa=some (lF w sa ks):=ar;generalize upd H sa (lF w sa ks)=H1 at s1 h1;walk_at "rn";refine ER h1 fun sd sl fd hp hs=>?_;have s2:=aG fd (.lst (bb sl));have h2:(upd H1 sd (.lst (bb sl))) sd=some (.lst (bb sl)):=ar;generalize upd H1 sd (.lst (bb sl))=H2 at s2 h2;have s02:=s1.trans s2;have aR2:=Rep.mono s02 aR;walk_at "rn";refine oX (α:=Nat) (as:=R) (bs:=sl) aR2 (cC h2) ?_;walk_at "rn";have slt:=oF (hp.nodup_iff.mpr nd) hs;refine bX (fun z=>?_) (fun z=>?_)
 ·walk_at "rn";refine q2 (fun ⟨R2,e,pt⟩=>z ?_) H2 s02;obtain rfl:=inj e;refine rf pt.srt slt fun x=>?_;rw [hp.mem_iff,hks x]
 have srt:R.Pairwise (· < ·):=by rw [z];exact slt
 have rne:R≠[]:=ML.mp (by omega)
 walk_at "rn";refine la (α:=Nat) aR2 (fun i σ H'=>ai H2 H'/\(∀ a∈R.take i,∀ b∈R,tb t a b∈R)/\∃ x2,σ=[some v,some (.ref d),x2]) ⟨ai.refl _,by simp,_,rfl⟩ (fun i σ H' h=>h.1) ?_ ?_
 ·rintro i a w' σ' H3 ha hw ⟨s3,hf,x2,rfl⟩;cases (show w'=V.int (a:Int) from hw);have haR:=LS ha;have han:=rlt a haR;have s03:=s02.trans s3;walk_at "1";refine kC (α:=Nat) (β:=Bool) (Rep.mono s3 aR2) (by omega) (fun j=>(R.take j).map fun b=>decide (tb t a b∈R)) (fun σ'=>∃ y,σ'=[y,some (.int (a:Int)),some (.ref d),some v]) rfl (fun j hj=>by rw [LP,Mu];omega) ⟨_,rfl⟩ ?_ ?_
  ·rintro j b w2 σ' H4 d4 R4 R04 hb hs4 hw2 ⟨y,rfl⟩ hR4 hR04 hd4;cases (show w2=V.int (b:Int) from hw2);have hbn:=rlt b (LS hb);walk_at "rn";refine dQ (Rep.mono (s03.trans hs4) hT) rfl (gt.get han) fun w1 hw1=>?_;walk_at "rn";refine bG hw1 (gt.eU han hbn) ?_;walk_at "rn";refine KG (Rep.mono (s3.trans hs4) aR2) ?_;exact hR4 _ _ (decide (tb t a b∈R)) _ ⟨_,rfl⟩ (ai.refl _) rfl (by rw [MG,hb,MM];rfl)
  intro d4 H4 s4 h4;walk_at "rn";refine pU h4 ?_;rw [Nh]
  by_cases hc:∀ b∈R,tb t a b∈R
  ·rw [Jr hc];walk_at "9";refine ⟨s3.trans s4,fun c hc'=>?_,_,rfl⟩;rw [MG,ha] at hc';rcases MD.mp hc' with y|y
   ·exact hf c y
   ·rw [Ma.mp y];exact hc
  ·rw [Gq hc];walk_at "rn";refine rk ?_;walk_at "rn";refine q2 (fun ⟨R2,e,pt⟩=>hc fun b hb=>?_) H4 (s03.trans s4);obtain rfl:=inj e;exact pt.cl a haR b hb
 ·rintro σ' H3 ⟨s3,hf,x2,rfl⟩;rw [Nh] at hf;walk_at "rn";exact q1 ⟨R,rfl,srt,rlt,rne,hf⟩ H3 (s02.trans s3)
theorem BK {n e k:Nat} {t:List (List Nat)} (gt:GT n t e) (h1:1<=k) (hk:∀ a,a<n->bK t e a k=e) (hj:∀ j,1<=j->j<k->∃ a,a<n/\bK t e a j≠e):cW (cR n t e) k:=by
 refine ⟨h1,fun s hs=>?_,fun j j1 j2=>?_⟩
 ·obtain ⟨a,ha,rfl⟩:=Mg.mp hs;exact Nat.mod_eq_zero_of_dvd (JJ gt (L9.mp ha) (hk a (L9.mp ha)))
 ·obtain ⟨a,ha,q⟩:=hj j j1 j2;refine ⟨bF n t e a,Mg.mpr ⟨a,L9.mpr ha,rfl⟩,fun z=>q ?_⟩;obtain ⟨c,rfl⟩:=Pw z;exact rN gt ha (js gt ha).2.1 c
def AB (K:LN):Sp:=fun vs H Q _=>∃ (v:V) (n e:Nat) (t:List (List Nat)),vs=[v]/\At K H v t/\GT n t e/\∀ k H',ai H H'->cW (cR n t e) k->k<=n->Q (.int (k:Int)) H'
theorem lA (T:Txt K mg):aI P w K mg base CX0 2 T.eX.f T.eX.fd ["_law_table"] (AB K):=by
 refine T.eX.ok gN (fun vs H Q E h=>?_) (fun cdv A outer s H vs Q E hr h=>?_)
 ·obtain ⟨v,n,e,t,rfl,_⟩:=h;rfl
 obtain ⟨v,n,e,t,rfl,hT,gt,q⟩:=h;refine ⟨_,(ae (ao (i:=1) gN.nd rfl (PX rfl) (aA T.kU (wz T) (hr.mono (by decide)) rfl (paF (pv 0) aa)))
   (ae (ao (i:=2) gN.nd rfl (PX rfl) (cp (mJ rfl) rfl T.eM M1 (paF (cp ph rfl T.bj Pt (paF (av (aW K rfl) rfl T.bI Ms (paF (pv 0) aa)) aa)) aa)))
   (ae (ao (i:=3) gN.nd rfl (Mb rfl) ag)
   (ae (nK Ml (ou (kb (av (kM K rfl rfl) rfl T.lN Oa (paF (bZ rfl qa (aZ K rfl (pv 2)) (fun _ _ _ _=>⟨(aD (i:=0) qa.nd rfl (Mb rfl)),bw,(dJ bY (pv 0) (pv 1) (aE _))⟩)) aa)))) (ae (ao (i:=2) gN.nd rfl (PX rfl) (bZ rfl qg (aY rfl T.bj (paF (av (aW K rfl) rfl T.bI Ms (paF (pv 0) aa)) aa)) (fun _ _ _ _=>⟨(aD (i:=0) qg.nd rfl (Mb rfl)),bw,(aq (aj K rfl) (aq (aj K rfl) (pv 2) (aq (aj K rfl) (pv 1) (pv 0) (fun _ _=>rfl)) (fun _ _=>rfl)) (pv 0) (fun _ _=>rfl))⟩)))
   (ah (ao (i:=3) gN.nd rfl (Mb rfl) (ak bf (pv 3) ag)))))
   (ah (aM (pv 3))))))),?_⟩
 have n1:=gt.pos;have n23:=gt.le;walk_at "rn";refine ⟨v,n,e,t,rfl,hT,gt,fun H1 s1=>?_⟩;have hT1:=Rep.mono s1 hT;walk_at "rx";rw [gt.len];refine xu fun pr hpr=>?_;walk_at "rx";refine pd (K:=K) ar (by omega) fun dl H2 _ s2 gl=>?_
 have s12:ai H1 H2:=(aG hpr _).trans s2;have e1:LZ n=(LZ n).map fun a=>bK t e a 1:=by
  refine List.ext_getElem (by simp) fun i h1 h2=>?_
  simp at h1
  simpa using (qy gt h1).symm
 have a1:=gl.at;rw [e1] at a1;walk_at "rx";refine nZ (fun m σ' H'=>ai H1 H'/\∃ (k:Nat) (p:Addr),m=n - k/\1<=k/\k<=n/\(∀ j,1<=j->j<k->∃ a,a<n/\bK t e a j≠e)/\At K H' (.ref p) ((LZ n).map fun a=>bK t e a k)/\σ'=[some v,some (.int (e:Int)),some (.ref p),some (.int (k:Int))]) (n - 1)
  ⟨s12,1,dl,rfl,Mh _,n1,fun j j1 j2=>absurd j2 (by omega),a1,rfl⟩ ?_
 rintro m σ' H3 ⟨s3,k,p,rfl,k1,kn,hj,aP,rfl⟩;walk_at "rx";refine kC (β:=Bool) aP (by simp;omega) (fun i=>(((LZ n).map fun a=>bK t e a k).map fun x=>decide (x=e)).take i) (fun σ'=>∃ y,σ'=[y,some (.int (e:Int))]) rfl (fun i _=>by rw [Mu];omega) ⟨_,rfl⟩ ?_ ?_
 ·rintro i c w' σ' H4 d' R R0 hc hs hw ⟨y,rfl⟩ hR hR0 hd';cases (show w'=V.int (c:Int) from hw);walk_at "rx";refine hR _ _ (decide (c=e)) _ ⟨_,rfl⟩ (ai.refl _) rfl ?_;rw [MG,Mc,hc];rfl
 intro db H4 s4 hB;walk_at "rx";refine pU hB ?_;have s34:=s3.trans s4;have hT4:=Rep.mono s34 hT1;have aP4:=Rep.mono s4 aP;rw [MC (by simp)]
 walk_at "rx";cases hall:((((LZ n).map fun a=>bK t e a k).map fun x=>decide (x=e)).all id) with
 | false =>
  have zz:∃ a,a<n/\bK t e a k≠e:=by
   refine N4 fun no=>?_;rw [Bool.eq_false_iff] at hall;refine hall ?_;rw [Mx];intro x hx;simp only [Mg,L9] at hx;obtain ⟨_,⟨a,ha,rfl⟩,rfl⟩:=hx;exact decide_eq_true (N4 fun q=>no ⟨a,ha,q⟩)
  have kl:k<n:=by
   rcases MN k n with y|y
   ·exact y
   ·obtain ⟨a,ha,q⟩:=zz;have:k=n:=by omega
    rw [this] at q;exact absurd (Ko gt ha) q
  refine rk ?_;refine ⟨fun σ4 H4=>ai H1 H4/\∃ (p:Addr),At K H4 (.ref p) ((LZ n).map fun a=>bK t e a (k+1))/\σ4=[some v,some (.int (e:Int)),some (.ref p),some (.int ((k+1:Nat):Int))],fun σ4 H4 y=>?_,?_⟩
  ·obtain ⟨y1,p',y2,y3⟩:=y;refine ⟨n - (k+1),by omega,y1,k+1,p',rfl,by omega,by omega,fun j j1 j2=>?_,y2,y3⟩
   rcases MN j k with u|u
   ·exact hj j j1 u
   ·have:j=k:=by omega
    rw [this];exact zz
  walk_at "rx";rw [gt.len];refine kI K (n:=n) (β:=Nat) rfl (by omega) (fun i=>((LZ n).map fun a=>bK t e a (k+1)).take i) (fun σ'=>∃ y,σ'=[y,some (.ref p),some v]) rfl (fun i _=>by rw [Mu];omega) ⟨_,rfl⟩ ?_ ?_
  ·rintro i σ' H5 d' R R0 hi hs ⟨y,rfl⟩ hR hR0 hd';have aP5:=Rep.mono hs aP4;have hT5:=Rep.mono hs hT4;have hpl:=cL gt hi k;walk_at "rn";refine bG aP5 (c:=bK t e i k) (by simp [hi]) ?_
   refine dQ hT5 rfl (gt.get hpl) fun w1 hw1=>?_;walk_at "rn";refine bG hw1 (gt.eU hpl hi) ?_;exact hR _ _ _ _ ⟨_,rfl⟩ (ai.refl _) rfl (dH _ n i hi)
  intro dn H5 s5 h5;have h5':At K H5 (.ref dn) (((LZ n).map fun a=>bK t e a (k+1)).take n):=h5;rw [MC (by simp)] at h5'
  walk_at "rx";exact ⟨s34.trans s5,dn,h5',rfl⟩
 | true =>
  refine eR ?_;have z:∀ a,a<n->bK t e a k=e:=fun a ha=>by
   rw [Mx] at hall;have:=hall (decide (bK t e a k=e)) (Mg.mpr ⟨_,Mg.mpr ⟨a,L9.mpr ha,rfl⟩,rfl⟩);exact of_decide_eq_true this
  walk_at "rx";exact q k H4 (s1.trans s34) (BK gt k1 z hj) kn
def AY (K:LN):Sp:=fun vs H Q _=>∃ (v:V) (dp:Addr) (n e:Nat) (t:List (List Nat)) (R:List Nat),vs=[v,.ref dp]/\At K H v t/\GT n t e/\H dp=some (.lst (bb R))/\IsPart n t R/\∀ ds H' ps,ai H H'->Tbl H' ds (fM t R) ps->Q (.ref ds) H'
theorem tS (T:Txt K mg):aI P w K mg base CX0 1 T.iY.f T.iY.fd ["_law_table","_law_part"] (AY K):=by
 refine T.iY.ok ow (fun vs H Q E h=>?_) (fun cdv A outer s H vs Q E hr h=>?_)
 ·obtain ⟨v,dp,n,e,t,R,rfl,_⟩:=h;rfl
 obtain ⟨v,dp,n,e,t,R,rfl,hT,gt,h1,pt,q⟩:=h;have n23:=gt.le;have rl:=pt.len;refine ⟨_,(ae (ao (i:=2) ow.nd rfl (Mb rfl) (bT aa))
   (ae (bE Ml rfl (aZ K rfl (pv 1)) (aD (i:=3) ow.nd rfl (PX rfl)) (ah (bc (fG K rfl ME MS MT cX (pv 2) (paF (bZ rfl p6 (aZ K rfl (pv 1)) (fun _ _ _ _=>⟨(aD (i:=0) p6.nd rfl (Mb rfl)),bw,(fG K rfl ME Pf Q7 Bm (pv 2) (paF (aq (aj K rfl) (aq (aj K rfl) (pv 3) (pv 1) (fun _ _=>rfl)) (pv 0) (fun _ _=>rfl)) aa))⟩)) aa)))))
   (ah (aM (pv 2))))),?_⟩
 walk_at "4";refine ⟨small (by show 0<=1000;decide),fun ds hds=>?_⟩
 have s0:=aG hds (.lst []);have t0:Tbl (upd H ds (.lst [])) ds [] []:=Tbl.nil;generalize upd H ds (.lst [])=H0 at s0 t0;walk_at "rn";refine Bu (H₀:=H) (α:=Nat) (cC h1) (fun i σ' H'=>ai H H'/\∃ (ps:List Addr) (x3:Option V),Tbl H' ds ((fM t R).take i) ps/\σ'=[some v,some (.ref dp),some (.ref ds),x3]) ⟨s0,[],_,t0,rfl⟩ (fun i σ' H' z=>z.1) ?_ ?_
 ·rintro i a w' σ' H1 ha hw ⟨s1,ps,x3,tb1,rfl⟩;cases (show w'=V.int (a:Int) from hw);have haR:=LS ha;have han:=pt.lt a haR;have il:=(LR.mp ha).1;have h11:=s1 _ _ h1;walk_at "rn";refine ⟨.inl ⟨rfl,_,SqL.of tb1.top⟩,?_⟩;walk_at "rn";refine mT (α:=Nat) (β:=Nat) (cC h11) (by omega) (fun j=>(R.map fun b=>R.idxOf (tb t a b)).take j) (fun σ'=>∃ y,σ'=[y,some (.int (a:Int)),some (.ref dp),some v]) rfl (fun i _=>by rw [Mu];omega) ⟨_,rfl⟩ ?_ ?_
  ·rintro j b w2 σ' H3 d3 R3 R03 hb hs3 hw2 ⟨y,rfl⟩ hR3 hR03 hd3;cases (show w2=V.int (b:Int) from hw2);have hbR:=LS hb;have hbn:=pt.lt b hbR;have h13:=hs3 _ _ h11;have hT3:=Rep.mono (s1.trans hs3) hT;have hab:=pt.cl a haR b hbR;walk_at "rn";refine ⟨.inl ⟨rfl,_,SqL.of h13⟩,?_⟩;walk_at "rn";refine dQ hT3 rfl (gt.get han) fun w1 hw1=>?_;walk_at "rn";refine bG hw1 (gt.eU han hbn) ?_;walk_at "rn";refine Cq h13 (xr hab) (fun i' hi'=>tR hi') ?_;exact hR3 _ _ _ _ ⟨_,rfl⟩ (ai.refl _) rfl (by rw [MG,Mc,hb];rfl)
  intro dr H3 hdr s3 h3;have g3:Gr K H3 dr ((R.map fun b=>R.idxOf (tb t a b)).take R.length):=h3;rw [MC (by simp)] at g3
  have nd:dr≠ds:=(wM tb1.top hdr).symm;have np:dr∉ps:=fun z=>by
   obtain ⟨k,hk⟩:=Ny z;have hk':k<((fM t R).take i).length:=by rw [<- tb1.len];exact (LR.mp hk).1
   have:=tb1.row k dr _ hk (LO hk');rw [hdr] at this;cases this
  have ql:ps.length<=23:=by rw [tb1.len,Mu];omega
  walk_at "rn";refine ⟨ds,_,_,rfl,rfl,s3 _ _ tb1.top,Na (show (ps.map V.ref).length<=1000 by rw [LP];omega) (by rw [Nx];decide),?_⟩
  refine ⟨qO hds (s1.trans s3),ps++[dr],_,?_,rfl⟩;have:=tb1.snoc s3 (lr g3) np nd;have et:(fM t R).take (i+1)=(fM t R).take i++[R.map fun b=>R.idxOf (tb t a b)]:=by
   unfold fM;rw [MG,Mc,ha];rfl
  rw [et];exact this
 ·rintro σ' H1 ⟨s1,ps,x3,tb1,rfl⟩;rw [MC (by unfold fM;simp)] at tb1
  walk_at "rn";exact q ds H1 ps s1 tb1
def jN (t t':List (List Nat)) (m m' z z' k:Nat):Str:=if t≠t' then "OtherGroup" else if m≠m' then "OtherWheel" else if (k=0/\60<z+z')\/(k=1/\60<z * z') then "TooGreat" else ""
def KdW (T:Txt K mg) (C:Addr) (s:Str):Prop:=(C=T.bR/\s = "NoPart")\/(C=T.bB/\s = "BadWheel")\/(C=T.ba/\s = "OtherGroup")\/(C=T.bh/\s = "OtherWheel")\/(C=T.bg/\s = "TooGreat")
def GI (T:Txt K mg) (H:Hp) (x:V) (s:Str):Prop:=(s = "" /\ x=.non)\/∃ C y,x=.ref y/\KdW T C s/\H y=some (kD y C)
theorem KdW.facts {T:Txt K mg} {C:Addr} {s:Str} (h:KdW T C s):cb K C/\MH K (.ref C) (.type "ValueError")=some true/\Nv (kO K C) [T.bR,T.cQ,T.bB,T.fI,T.cJ,T.dG,T.ba,T.bh,T.bg,T.dP,T.dS,T.dj,T.fC,T.fH,T.cz] (qG s)/\V.str s≠V.str "":=by
 rcases h with ⟨rfl,rfl⟩|⟨rfl,rfl⟩|⟨rfl,rfl⟩|⟨rfl,rfl⟩|⟨rfl,rfl⟩
 ·exact ⟨T.lZ,T.mh,dX (bs:=qG "NoPart") (T.mG.trans (by trivial)),by decide⟩
 ·exact ⟨T.jJ,T.jK,dX (bs:=qG "BadWheel") (T.jM.trans (by trivial)),by decide⟩
 ·exact ⟨T.gU,T.gS,dX (bs:=qG "OtherGroup") (T.gY.trans (by trivial)),by decide⟩
 ·exact ⟨T.gQ,T.gD,dX (bs:=qG "OtherWheel") (T.g8.trans (by trivial)),by decide⟩
 ·exact ⟨T.jO,T.jI,dX (bs:=qG "TooGreat") (T.jL.trans (by trivial)),by decide⟩
def DR (T:Txt K mg):Sp:=fun vs H Q _=>∃ (x:V) (s:Str),vs=[x,.str s]/\GI T H x s/\∀ H',ai H H'->Q (.bl true) H'
theorem vQ (T:Txt K mg):aI P w K mg base CX0 3 T.kJ.f T.kJ.fd ["_law_caught","_law_name"] (DR T):=by
 refine T.kJ.ok DL (fun vs H Q E h=>?_) (fun cdv A outer s H vs Q E hr h=>?_)
 ·obtain ⟨x,s,rfl,_⟩:=h;rfl
 obtain ⟨x,s,rfl,hm,q⟩:=h;refine ⟨_,(ae (aX (ay bY (pv 1) cj (aE _)) (ah (aM (Km (vw (pv 0))))) aN)
   (ah (aM (aA T.lE (BX T) (hr.mono (by decide)) rfl (paF (pv 0) (paF (pv 1) aa)))))),?_⟩
 walk_at "1";refine ⟨rfl,?_⟩;walk_at "rn";rcases hm with ⟨rfl,rfl⟩|⟨C,y,rfl,kd,hy⟩
 ·refine aV (fun _=>?_) (fun z=>absurd rfl z);walk_at "rn";rw [decide_eq_true rfl];exact q _ (ai.refl _)
 ·obtain ⟨f1,f2,f3,f4⟩:=kd.facts;refine aV (fun z=>absurd z f4) (fun _=>?_);walk_at "rn";exact ⟨y,C,none,s,rfl,hy,f1,f2,f3,q⟩
def BA (K:LN):Sp:=fun vs H Q _=>∃ (p p':Addr) (v v':V) (t t':List (List Nat)) (m m' z z' k:Nat),vs=[.ref p,.ref p',.int (k:Int)]/\H p=some (.tup [v,.int (m:Int),.int (z:Int)])/\H p'=some (.tup [v',.int (m':Int),.int (z':Int)])/\At K H v t/\At K H v' t'/\k<=1/\z<=60/\z'<=60/\Q (.str (jN t t' m m' z z' k)) H
theorem By (T:Txt K mg):aI P w K mg base CX0 1 T.lG.f T.lG.fd ["_law_first","_law_second","_law_way"] (BA K):=by
 refine T.lG.ok B2 (fun vs H Q E h=>?_) (fun cdv A outer s H vs Q E hr h=>?_)
 ·obtain ⟨p,p',v,v',t,t',m,m',z,z',k,rfl,_⟩:=h;rfl
 obtain ⟨p,p',v,v',t,t',m,m',z,z',k,rfl,hp,hp',aT,aT',k1,z60,z60',q⟩:=h;unfold jN at q;refine ⟨_,(ae (aX (ay (kS K rfl (List Nat) hr.units) (aq (fR K rfl) (pv 0) ag (fun _ _=>rfl)) (aq (fR K rfl) (pv 1) ag (fun _ _=>rfl)) (aE _)) (ah (aM cj)) aN)
   (ae (aX (ay iy (aq (fR K rfl) (pv 0) ag (fun _ _=>rfl)) (aq (fR K rfl) (pv 1) ag (fun _ _=>rfl)) (aE _)) (ah (aM cj)) aN)
   (ae (aX (PW.pt (oM (PW.pt (iH (ay bY (pv 2) ag (aE _)) (iQ (ay iD (ak bf (aq (fR K rfl) (pv 0) ag (fun _ _=>rfl)) (aq (fR K rfl) (pv 1) ag (fun _ _=>rfl))) ag (aE _))))) (oj (PW.pt (iH (ay bY (pv 2) ag (aE _)) (iQ (ay iD (ak bD (aq (fR K rfl) (pv 0) ag (fun _ _=>rfl)) (aq (fR K rfl) (pv 1) ag (fun _ _=>rfl))) ag (aE _)))))))) (ah (aM cj)) aN)
   (ah (aM cj))))),?_⟩
 walk_at "1";refine kj (i:=0) hp rfl ?_;walk_at "rn";refine kj (i:=0) hp' rfl ?_;walk_at "rn";refine oX aT aT' ?_;walk_at "rn";refine bX (fun c=>?_) (fun c=>?_)
 ·walk_at "rn";rw [if_pos c] at q;exact q
 rw [if_neg (fun y=>y c)] at q;walk_at "1";refine kj (i:=1) hp rfl ?_;walk_at "rn";refine kj (i:=1) hp' rfl ?_;walk_at "rn";refine bX (fun c2=>?_) (fun c2=>?_)
 ·walk_at "rn";rw [if_pos c2] at q;exact q
 rw [if_neg (fun y=>y c2)] at q;walk_at "1";refine aV (fun k0=>?_) (fun k0=>?_)
 ·walk_at "rn";refine kj (i:=2) hp rfl ?_;walk_at "rn";refine kj (i:=2) hp' rfl ?_;walk_at "rn";refine aV (fun c3=>?_) (fun c3=>?_)
  ·walk_at "rn";rw [if_pos (.inl ⟨by omega,by omega⟩)] at q
   exact q
  ·walk_at "rn";refine aV (fun k2=>absurd k2 (by omega)) (fun _=>?_)
   refine eR ?_;walk_at "rn";rw [if_neg (by omega)] at q
   exact q
 ·refine eR ?_;walk_at "rn";refine aV (fun k2=>?_) (fun k2=>absurd (by omega) k2)
  walk_at "rn";refine kj (i:=2) hp rfl ?_;walk_at "rn";refine kj (i:=2) hp' rfl ?_;walk_at "rn";generalize hzz:z * z'=zz at q;refine aV (fun c3=>?_) (fun c3=>?_)
  ·walk_at "rn";rw [if_pos (.inr ⟨by omega,by omega⟩)] at q
   exact q
  ·walk_at "rn";rw [if_neg (by omega)] at q
   exact q
def SzW (T:Txt K mg) (H3:Hp) (g dp:Addr) (n m s b:Nat) (σ':St) (H':Hp):Prop:=ai H3 H'/\∃ (zd zm:Nat) (dbl:Addr) (Dd:List (List (Nat×Nat))) (mv:V),dC (bC T) H' dbl g m zd Dd/\WOk n m zd Dd/\((mv=.non/\zm=0)\/∃ am Dm,mv=.ref am/\dC (bC T) H' am g m zm Dm/\WOk n m zm Dm)/\zm+b * zd=s/\1<=zd /\
 σ'=[some (.ref g),some (.int (m:Int)),some (.int (b:Int)),some (.ref dp),some (.ref dbl),some mv]
theorem GN (s zd:Nat):s * zd=s / 2 * (zd+zd)+s % 2 * zd:=by
 have h:=OS s 2;generalize s / 2=q at h ⊢;generalize s % 2=r at h ⊢;rw [<- h,Nat.add_mul,OP 2 q,Q5,Nat.two_mul]
def Bg (T:Txt K mg):Sp:=fun vs H Q _=>∃ (g:Addr) (n e m l s:Nat) (t:List (List Nat)),vs=[.ref g,.int (m:Int),.int (s:Int)]/\aU T.az H g n t e/\GT n t e/\cW (cR n t e) l/\m % l=0/\0<m/\m<=60/\1<=s/\s<=60 /\
 ∀ a H' D,ai H H'->dC (bC T) H' a g m s D->WOk n m s D->Q (.ref a) H'
theorem oq (T:Txt K mg):aI P w K mg base CX0 9 T.gw.f T.gw.fd ["_law_group_here","_law_spokes","_law_size"] (Bg T):=by
 refine T.gw.ok dU (fun vs H Q E h=>?_) (fun cdv A outer s H vs Q E hr h=>?_)
 ·obtain ⟨g,n,e,m,l,s,t,rfl,_⟩:=h;rfl
 obtain ⟨g,n,e,m,l,s,t,rfl,hG,gt,hl,ml0,m1,m60,s1,s60,q⟩:=h;obtain ⟨gx,gr,gb,hg,aR,aB⟩:=aU.get (K:=K) hG;have n1:=gt.pos;have n23:=gt.le;have pt:=En gt;refine ⟨_,(ae (ao (i:=3) dU.nd rfl (Mb rfl) (cp (mJ rfl) rfl T.eM M1 (paF (cp ph rfl T.bj Pt (paF (aL K rfl (pv 0) rfl) aa)) aa)))
   (ae (ao (i:=4) dU.nd rfl (Mb rfl) (rM T.zW (FW T) (hr.mono (by decide)) rfl T.AJ T.A2 .nil oA (paF (pv 0) (paF (pv 3) (paF (bZ rfl qv (aZ K rfl (pv 3)) (fun _ _ _ _=>⟨(aD (i:=0) qv.nd rfl (Mb rfl)),bw,ag⟩)) (paF (pv 1) aa))))))
   (ae (ao (i:=5) dU.nd rfl (Mb rfl) vj)
   (ae (nK Ml (ay iD (pv 2) ag (aE _)) (ae (aX (PW.pt (iH (ay bY (ak aS (pv 2) ag) ag (aE _)) (iQ (wF (vw (pv 5)))))) (ah (ao (i:=5) dU.nd rfl (Mb rfl) (pv 4))) (ah (aX (ay bY (ak aS (pv 2) ag) ag (aE _)) (ah (ao (i:=5) dU.nd rfl (Mb rfl) (rM T.rH (tD T) (hr.mono (by decide)) rfl T.rh T.qY .nil oA (paF (pv 5) (paF (pv 4) aa))))) aN)))
   (ae (ao (i:=2) dU.nd rfl (Mb rfl) (ak bz (pv 2) ag))
   (ah (aX (ay iD (pv 2) ag (aE _)) (ah (ao (i:=4) dU.nd rfl (Mb rfl) (rM T.rH (tD T) (hr.mono (by decide)) rfl T.rh T.qY .nil oA (paF (pv 4) (paF (pv 4) aa))))) aN)))))
   (ah (aM (pv 5))))))),?_⟩
 walk_at "rn";refine bL T hg ?_;walk_at "rn";refine xu fun pr hpr=>?_;walk_at "rn";refine pd (K:=K) (n:=n) ar (by omega) fun dp H1 _ s1' gp=>?_
 have sA:ai H H1:=(aG hpr (.rng 0 (n:Int))).trans s1';have aP:=gp.at;walk_at "rn";refine mT (α:=Nat) (β:=Nat) aP (by rw [Mt];omega) (fun i=>Mq i 0) (fun σ'=>∃ y,σ'=[y]) rfl (fun i _=>by rw [PU];exact Mh _) ⟨_,rfl⟩ ?_ ?_
 ·rintro i x w' σ' H2 d2 R2 R02 hx hs hw ⟨y,rfl⟩ hR2 hR02 hd2;walk_at "rn";exact hR2 _ _ 0 _ ⟨_,rfl⟩ (ai.refl _) rfl (O1 ..)
 intro dm H2 _ s2 g2;have g2':Gr K H2 dm (Mq (LZ n).length 0):=g2;rw [Mt] at g2';have sB:=sA.trans s2;walk_at "rn";intro x dx hx hdx hne;have sn:ai H2 (upd (upd H2 dx (.own x)) x (.ins T.bo dx [])):=fun b o z=>by
  rw [au (aH z hx),au (aH z hdx)];exact z
 have ml:(Mq n 0).length=(LZ n).length:=by rw [PU,Mt]
 have mm:∀ y∈Mq n 0,y<m:=fun y hy=>by rw [QM hy];exact m1
 have zr:∀ i:Nat,(Mq n 0).getD i 0=0:=fun i=>by
  rw [L6,QV]
  by_cases z:i<n
  ·rw [if_pos z];rfl
  ·rw [if_neg z];rfl
 refine ⟨x,dx,g,_,_,_,n,e,m,l,t,LZ n,Mq n 0,H2,rfl,ar,hx,sn,hG.mono sB,gt,Rep.mono s2 aP,pt,g2'.at,ml,mm,.inl rfl,hl,ml0,m1,m60,fun j _ k _=>by unfold og;rw [zr,zr,zr];rw [Ou,RN],fun d H3 fs s3 h3 wf hD=>⟨rfl,?_⟩⟩
 have wo:=Jh gt pt ml mm m1 m60;have c1:(bH n t e (LZ n)).length=1:=by rw [<- rB gt pt,Mt,Nat.div_self n1]
 rw [c1] at wf wo;generalize lT n t e (LZ n) (Mq n 0)=D0 at hD wo;have sC:=sB.trans s3;have w0:dC (bC T) H3 x g m 1 D0:=⟨T.bo,dx,d,fs,Eu T,h3,wf,hD⟩;walk_at "rn";refine nZ (SzW T H3 g dp n m s) s ⟨ai.refl _,1,0,x,D0,.non,w0,wo,.inl ⟨rfl,rfl⟩,by omega,Mh _,rfl⟩ ?_
 rintro b σ' H4 ⟨s4,zd,zm,dbl,Dd,mv,wd,od,hm,hs,z1,rfl⟩;have hg4:=(hG.mono (sC.trans s4));walk_at "rn";refine aV (fun b0=>?_) (fun b0=>?_)
 rotate_left
 ·have eb:b=0:=by omega
  subst eb;walk_at "rn";rcases hm with ⟨_,z⟩|⟨am,Dm,rfl,wm,om⟩
  ·exfalso;omega
  ·have ez:zm=s:=by omega
   subst ez;exact q am H4 Dm (sC.trans s4) wm om
 have hb:=GN b zd;have zle:zd<=b * zd:=Rr zd (by omega)
 refine ⟨fun σ2 H2=>∃ b',b' < b/\SzW T H3 g dp n m s b' σ2 H2,fun σ2 H2 z=>z,?_⟩;walk_at "rn";refine jB (fun σ' H'=>ai H4 H'/\∃ (zm':Nat) (mv':V),((mv'=.non/\zm'=0)\/∃ am Dm,mv'=.ref am/\dC (bC T) H' am g m zm' Dm/\WOk n m zm' Dm)/\zm'=zm+b % 2 * zd/\σ'=[some (.ref g),some (.int (m:Int)),some (.int (b:Int)),some (.ref dp),some (.ref dbl),some mv']) (fun N hN=>?_) ?_
 ·walk_at "rn";refine aV (fun b1=>?_) (fun b1=>?_)
  ·have e1:b % 2=1:=by omega
   walk_at "rn";rcases hm with ⟨rfl,z⟩|⟨am,Dm,rfl,wm,om⟩
   ·refine aV (fun _=>?_) (fun z=>absurd rfl z);walk_at "rn";exact hN _ _ ⟨ai.refl _,zd,_,.inr ⟨dbl,Dd,rfl,wd,od⟩,by rw [e1,z];omega,rfl⟩
   ·refine aV (fun z=>by cases z) (fun _=>?_)
    walk_at "11";refine aV (fun _=>?_) (fun z=>absurd b1 z);walk_at "rn";intro y dy hy hdy hny;have sy:ai H4 (upd (upd H4 dy (.own y)) y (.ins T.bN dy [])):=fun b o z=>by
     rw [au (aH z hy),au (aH z hdy)];exact z
    refine ⟨y,dy,am,dbl,g,g,n,e,m,zm,zd,t,Dm,Dd,rfl,ar,⟨wm.mono sy,wd.mono sy,hg4.mono sy,hg4.mono sy,gt,om,od⟩,by omega,fun d5 H5 fs5 h5 wf5 hD5 k5=>⟨rfl,?_⟩⟩
    have s5:ai H4 H5:=fun b o z=>k5 b o (sy _ _ z) (aH z hy);walk_at "rn";exact hN _ _ ⟨s5,zm+zd,_,.inr ⟨y,_,rfl,⟨T.bN,dy,d5,fs5,tF T,h5,wf5,hD5⟩,om.bes od (by omega)⟩,by rw [e1];omega,rfl⟩
  ·have e0:b % 2=0:=by omega
   refine eR ?_;walk_at "11";refine aV (fun z=>absurd z b1) (fun _=>?_);exact hN _ _ ⟨ai.refl _,zm,mv,hm,by rw [e0];omega,rfl⟩
 rintro σ' H5 ⟨s5,zm',mv',hm',ez,rfl⟩;have wd5:=wd.mono s5;have hg5:=hg4.mono s5;walk_at "1";refine aV (fun q0=>?_) (fun q0=>?_)
 ·have zz:zd+zd<=b / 2 * (zd+zd):=Rr _ (by omega)
  walk_at "rn";intro y dy hy hdy hny;have sy:ai H5 (upd (upd H5 dy (.own y)) y (.ins T.bN dy [])):=fun b o z=>by
   rw [au (aH z hy),au (aH z hdy)];exact z
  refine ⟨y,dy,dbl,dbl,g,g,n,e,m,zd,zd,t,Dd,Dd,rfl,ar,⟨wd5.mono sy,wd5.mono sy,hg5.mono sy,hg5.mono sy,gt,od,od⟩,by omega,fun d6 H6 fs6 h6 wf6 hD6 k6=>⟨rfl,?_⟩⟩
  have s6:ai H5 H6:=fun b o z=>k6 b o (sy _ _ z) (aH z hy);walk_at "rn";refine ⟨b / 2,by omega,s4.trans (s5.trans s6),zd+zd,zm',y,_,mv',⟨T.bN,dy,d6,fs6,tF T,h6,wf6,hD6⟩,od.bes od (by omega),?_,by omega,by omega,rfl⟩
  rcases hm' with h|⟨am,Dm,e1,wm,om⟩
  ·exact .inl h
  ·exact .inr ⟨am,Dm,e1,wm.mono s6,om⟩
 ·have e0:b / 2=0:=by omega
  refine ⟨b / 2,by omega,s4.trans s5,zd,zm',dbl,Dd,mv',wd5,od,hm',?_,z1,rfl⟩
  rw [e0] at hb ⊢;omega
theorem Ag {n n' e e':Nat} {t:List (List Nat)} (g:GT n t e) (g':GT n' t e'):n'=n/\e'=e:=by
 have en:n'=n:=by rw [<- g'.len,g.len]
 subst en;exact ⟨rfl,(g.qJ g'.elt).mp fun o ho=>⟨g'.unl o ho,g'.unr o ho⟩⟩
theorem Dj (T:Txt K mg):aI P w K mg base (CXR P w) 2 T.jt T.jy ["self","one","other"] (fun vs H Q E=>(sr (bC T) T.bN T.az vs H Q E\/rC (bC T) T.bg T.az vs H Q E)\/spM (gf (bC T) T.ba T.bh T.az) vs H Q E):=L2.aI.orR (qH T) (Dq T)
theorem BJ (T:Txt K mg):aI P w K mg base (CXR P w) 2 T.ic T.ie ["self","one","other"] (fun vs H Q E=>(qT (bC T) T.bU T.az vs H Q E\/o9 (bC T) T.bg T.az vs H Q E)\/spM (gf (bC T) T.ba T.bh T.az) vs H Q E):=L2.aI.orR (o8 T) (BO T)
theorem Eg (T:Txt K mg):aI P w K mg base (CXR P w) 7 T.ji T.je ["self","group","part","way"] (fun vs H Q E=>(sj (bC T) T.cu T.az vs H Q E\/qN (bC T) T.bg T.az vs H Q E)\/vW (bC T) T.bR T.ba T.bB T.az K vs H Q E):=L2.aI.orR (qV T) (C7 T)
def zh (T:Txt K mg):Sp:=fun vs H Q _=>∃ (a b g g':Addr) (n n' e e' m m' z z' k:Nat) (t t':List (List Nat)) (D E:List (List (Nat×Nat))),vs=[.ref a,.ref b,.int (k:Int)]/\dC (bC T) H a g m z D/\dC (bC T) H b g' m' z' E/\aU T.az H g n t e/\GT n t e/\aU T.az H g' n' t' e'/\GT n' t' e'/\WOk n m z D/\WOk n' m' z' E/\z<=60/\z'<=60/\k<=1 /\
 ∀ x H',ai H H'->GI T H' x (jN t t' m m' z z' k)->Q x H'
theorem ze (T:Txt K mg):aI P w K mg base CX0 4 T.jm.f T.jm.fd ["_law_one_here","_law_other","_law_way"] (zh T):=by
 have qH:=@Dj P w K mg base;have o8:=@BJ P w K mg base;refine T.jm.ok kh (fun vs H Q E h=>?_) (fun cdv A outer s H vs Q E hr h=>?_)
 ·obtain ⟨a,b,g,g',n,n',e,e',m,m',z,z',k,t,t',D,E,rfl,_⟩:=h;rfl
 obtain ⟨a,b,g,g',n,n',e,e',m,m',z,z',k,t,t',D,E',rfl,wa,wb,hg,gt,hg',gt',oa,ob,z60,z60',k1,q⟩:=h;have word:∀ (C:Addr) (s:Str) (H1:Hp) (y:Addr),jN t t' m m' z z' k=s->KdW T C s->ai H H1->H1 y=none->Q (.ref y) (upd H1 y (kD y C)):=fun C s H1 y es kd s1 hy=>q _ _ (s1.trans (aG hy _)) (.inr ⟨C,y,rfl,by rw [es];exact kd,ar⟩)
 have fine:∀ H1,jN t t' m m' z z' k = "" -> ai H H1->Q .non H1:=fun H1 es s1=>q _ _ s1 (.inl ⟨es,rfl⟩);refine ⟨_,(ae (ao (i:=3) kh.nd rfl (Mb rfl) vj)
   (ae (Fy (i:=4) rfl (t8 (JV (ay bY (pv 2) ag (aE _)) (t8 (uO (tP T.rH (qH T) rfl (hr.mono (by decide)) rfl T.rh T.qY (paF (pv 0) (paF (pv 1) aa))))) (t8 (uO (tP T.yT (o8 T) rfl (hr.mono (by decide)) rfl T.yN T.yH (paF (pv 0) (paF (pv 1) aa))))))) (fun _=>(ah (ao (i:=3) kh.nd rfl (Mb rfl) (pv 4)))) rfl T.o6 kh.nd rfl rfl rfl rfl)
   (ah (aM (pv 3))))),?_⟩
 walk_at "rn";refine Iw ?_;refine Lw ?_;walk_at "rn";refine aV (fun k0=>?_) (fun k0=>?_)
 ·have ek:k=0:=by omega
  subst ek;refine xj ?_;refine xy ?_;walk_at "rn";intro x dx hx hdx hne;have sn:ai H (upd (upd H dx (.own x)) x (.ins T.bN dx [])):=fun b o z=>by
   rw [au (aH z hx),au (aH z hdx)];exact z
  by_cases ht:t=t'
  ·subst ht;obtain ⟨rfl,rfl⟩:=Ag gt gt'
   by_cases hm:m=m'
   ·subst hm
    by_cases hz:z+z'<=60
    ·refine .inl (.inl ⟨x,dx,a,b,g,g',_,_,m,z,z',t,D,E',rfl,ar,⟨wa.mono sn,wb.mono sn,hg.mono sn,hg'.mono sn,gt,oa,ob⟩,hz,fun d H1 fs _ _ _ k5=>⟨rfl,?_⟩⟩);have s5:ai H H1:=fun b o z=>k5 b o (sn _ _ z) (aH z hx);dsimp only;walk_at "rn";exact fine H1 (by unfold jN;rw [if_neg (fun y=>y rfl),if_neg (fun y=>y rfl),if_neg (by omega)]) s5
    ·refine .inl (.inr ⟨_,a,b,g,g',_,_,m,z,z',t,D,E',rfl,⟨wa.mono sn,wb.mono sn,hg.mono sn,hg'.mono sn,gt,oa,ob⟩,by omega,⟨_,rfl,T.gh,fun y hy=>?_⟩⟩)
     walk_at "rn";dsimp only;walk_at "rn";exact word _ "TooGreat" _ y (by unfold jN;rw [if_neg (fun y=>y rfl),if_neg (fun y=>y rfl),if_pos (.inl ⟨rfl,by omega⟩)]) (.inr (.inr (.inr (.inr ⟨rfl,rfl⟩)))) sn hy
   ·refine .inr ⟨_,_,rfl,a,b,g,g',_,_,_,_,m,m',z,z',t,t,D,E',rfl,wa.mono sn,wb.mono sn,hg.mono sn,hg'.mono sn,.inr ⟨rfl,hm,⟨_,rfl,T.fA,fun y hy=>?_⟩⟩⟩;walk_at "rn";dsimp only;walk_at "rn";exact word _ "OtherWheel" _ y (by unfold jN;rw [if_neg (fun y=>y rfl),if_pos hm]) (.inr (.inr (.inr (.inl ⟨rfl,rfl⟩)))) sn hy
  ·refine .inr ⟨_,_,rfl,a,b,g,g',_,_,_,_,m,m',z,z',t,t',D,E',rfl,wa.mono sn,wb.mono sn,hg.mono sn,hg'.mono sn,.inl ⟨ht,⟨_,rfl,T.dR,fun y hy=>?_⟩⟩⟩;walk_at "rn";dsimp only;walk_at "rn";exact word _ "OtherGroup" _ y (by unfold jN;rw [if_pos ht]) (.inr (.inr (.inl ⟨rfl,rfl⟩))) sn hy
 ·have ek:k=1:=by omega
  subst ek;refine xj ?_;refine xy ?_;walk_at "rn";intro x dx hx hdx hne;have sn:ai H (upd (upd H dx (.own x)) x (.ins T.bU dx [])):=fun b o z=>by
   rw [au (aH z hx),au (aH z hdx)];exact z
  by_cases ht:t=t'
  ·subst ht;obtain ⟨rfl,rfl⟩:=Ag gt gt'
   by_cases hm:m=m'
   ·subst hm
    by_cases hz:z * z'<=60
    ·refine .inl (.inl ⟨x,dx,a,b,g,g',_,_,m,z,z',t,D,E',rfl,ar,⟨wa.mono sn,wb.mono sn,hg.mono sn,hg'.mono sn,gt,oa,ob⟩,hz,fun d H1 fs _ _ _ k5=>⟨rfl,?_⟩⟩);have s5:ai H H1:=fun b o z=>k5 b o (sn _ _ z) (aH z hx);dsimp only;walk_at "rn";exact fine H1 (by unfold jN;rw [if_neg (fun y=>y rfl),if_neg (fun y=>y rfl),if_neg (by omega)]) s5
    ·refine .inl (.inr ⟨_,a,b,g,g',_,_,m,z,z',t,D,E',rfl,⟨wa.mono sn,wb.mono sn,hg.mono sn,hg'.mono sn,gt,oa,ob⟩,by omega,⟨_,rfl,T.gh,fun y hy=>?_⟩⟩)
     walk_at "rn";dsimp only;walk_at "rn";exact word _ "TooGreat" _ y (by unfold jN;rw [if_neg (fun y=>y rfl),if_neg (fun y=>y rfl),if_pos (.inr ⟨rfl,by omega⟩)]) (.inr (.inr (.inr (.inr ⟨rfl,rfl⟩)))) sn hy
   ·refine .inr ⟨_,_,rfl,a,b,g,g',_,_,_,_,m,m',z,z',t,t,D,E',rfl,wa.mono sn,wb.mono sn,hg.mono sn,hg'.mono sn,.inr ⟨rfl,hm,⟨_,rfl,T.fA,fun y hy=>?_⟩⟩⟩;walk_at "rn";dsimp only;walk_at "rn";exact word _ "OtherWheel" _ y (by unfold jN;rw [if_neg (fun y=>y rfl),if_pos hm]) (.inr (.inr (.inr (.inl ⟨rfl,rfl⟩)))) sn hy
  ·refine .inr ⟨_,_,rfl,a,b,g,g',_,_,_,_,m,m',z,z',t,t',D,E',rfl,wa.mono sn,wb.mono sn,hg.mono sn,hg'.mono sn,.inl ⟨ht,⟨_,rfl,T.dR,fun y hy=>?_⟩⟩⟩;walk_at "rn";dsimp only;walk_at "rn";exact word _ "OtherGroup" _ y (by unfold jN;rw [if_pos ht]) (.inr (.inr (.inl ⟨rfl,rfl⟩))) sn hy
def Kx (n:Nat) (t:List (List Nat)) (e:Nat) (t':List (List Nat)) (L:List Int) (m z:Nat) (s:Str):Prop:=(¬ rG n t L/\s = "NoPart")\/∃ R:List Nat,L=R.map (fun (x:Nat)=>(x:Int))/\IsPart n t R /\
 ((t'≠fM t R/\s = "OtherGroup")\/(t'=fM t R/\((¬ pP n t e (m:Int)/\s = "BadWheel")\/(pP n t e (m:Int)/\((60<(bH n t e R).length * z/\s = "TooGreat")\/((bH n t e R).length * z<=60/\s = ""))))))
def uK (T:Txt K mg):Sp:=fun vs H Q _=>∃ (g p1 a g':Addr) (n e n' e' m z:Nat) (t t':List (List Nat)) (L:List Int) (D:List (List (Nat×Nat))) (s:Str),vs=[.ref g,.ref p1,.ref a]/\aU T.az H g n t e/\GT n t e/\H p1=some (.lst (L.map V.int))/\L.length<=64/\dC (bC T) H a g' m z D/\aU T.az H g' n' t' e'/\GT n' t' e'/\WOk n' m z D/\Kx n t e t' L m z s /\
 ∀ x H',ai H H'->GI T H' x s->Q x H'
theorem uR (T:Txt K mg):aI P w K mg base CX0 9 T.gj.f T.gj.fd ["_law_group_here","_law_part","_law_way"] (uK T):=by
 have qV:=@Eg P w K mg base;refine T.gj.ok iq (fun vs H Q E h=>?_) (fun cdv A outer s H vs Q E hr h=>?_)
 ·obtain ⟨g,p1,a,g',n,e,n',e',m,z,t,t',L,D,s,rfl,_⟩:=h;rfl
 obtain ⟨g,p1,a,g',n,e,n',e',m,z,t,t',L,D,s,rfl,hg,gt,h1,ll,wa,hg',gt',oa,due,q⟩:=h;have word:∀ (C:Addr) (H1:Hp) (y:Addr),KdW T C s->ai H H1->H1 y=none->Q (.ref y) (upd H1 y (kD y C)):=fun C H1 y kd s1 hy=>q _ _ (s1.trans (aG hy _)) (.inr ⟨C,y,rfl,kd,ar⟩);refine ⟨_,(ae (ao (i:=3) iq.nd rfl (Mb rfl) vj)
   (ae (Fy (i:=4) rfl (t8 (uO (tP T.AU (qV T) rfl (hr.mono (by decide)) rfl T.AG T.zX (paF (pv 0) (paF (pv 1) (paF (pv 2) aa)))))) (fun _=>(ah (ao (i:=3) iq.nd rfl (Mb rfl) (pv 4)))) rfl T.o6 iq.nd rfl rfl rfl rfl)
   (ah (aM (pv 3))))),?_⟩
 walk_at "rn";refine Iw ?_;refine xj ?_;refine xy ?_;walk_at "rn";intro x dx hx hdx hne;have sn:ai H (upd (upd H dx (.own x)) x (.ins T.cu dx [])):=fun b o z=>by
  rw [au (aH z hx),au (aH z hdx)];exact z
 rcases due with ⟨np,rfl⟩|⟨R,rfl,pt,⟨nt,rfl⟩|⟨rfl,due⟩⟩
 ·refine .inr ⟨_,g,p1,a,g',n,e,n',e',m,z,t,t',L,D,rfl,hg.mono sn,gt,sn _ _ h1,ll,wa.mono sn,hg'.mono sn,oa.m1,.inl ⟨np,fun H1 s1=>⟨_,rfl,T.mC,fun y hy=>?_⟩⟩⟩;walk_at "rn";dsimp only;walk_at "rn";exact word _ H1 y (.inl ⟨rfl,rfl⟩) (sn.trans s1) hy
 ·refine .inr ⟨_,g,p1,a,g',n,e,n',e',m,z,t,t',_,D,rfl,hg.mono sn,gt,sn _ _ h1,ll,wa.mono sn,hg'.mono sn,oa.m1,.inr ⟨R,rfl,pt,.inl ⟨nt,fun H1 s1=>⟨_,rfl,T.dR,fun y hy=>?_⟩⟩⟩⟩;walk_at "rn";dsimp only;walk_at "rn";exact word _ H1 y (.inr (.inr (.inl ⟨rfl,rfl⟩))) (sn.trans s1) hy
 have gi:=Ar gt pt;obtain ⟨rfl,rfl⟩:=Ag gi gt';rcases due with ⟨ns,rfl⟩|⟨sv,due⟩
 ·refine .inr ⟨_,g,p1,a,g',n,e,_,_,m,z,t,_,_,D,rfl,hg.mono sn,gt,sn _ _ h1,ll,wa.mono sn,hg'.mono sn,oa.m1,.inr ⟨R,rfl,pt,.inr ⟨rfl,ns,fun H1 s1=>⟨_,rfl,T.jR,fun y hy=>?_⟩⟩⟩⟩;walk_at "rn";dsimp only;walk_at "rn";exact word _ H1 y (.inr (.inl ⟨rfl,rfl⟩)) (sn.trans s1) hy
 obtain ⟨l,hl⟩:=Dz gt;have ml0:m % l=0:=by have:=sv.2.2 l hl;omega
 have h1':H p1=some (.lst (bb R)):=by rw [h1,N7];rfl
 rcases due with ⟨hz,rfl⟩|⟨hz,rfl⟩
 ·refine .inl (.inr ⟨_,g,p1,a,g',n,e,m,z,l,t,R,D,rfl,⟨hg.mono sn,gt,sn _ _ h1',pt,wa.mono sn,hg'.mono sn,oa,hl,ml0⟩,hz,fun H1 s1=>⟨_,rfl,T.gh,fun y hy=>?_⟩⟩);walk_at "rn";dsimp only;walk_at "rn";exact word _ H1 y (.inr (.inr (.inr (.inr ⟨rfl,rfl⟩)))) (sn.trans s1) hy
 ·refine .inl (.inl ⟨x,dx,g,p1,a,g',n,e,m,z,l,t,R,D,rfl,ar,⟨hg.mono sn,gt,sn _ _ h1',pt,wa.mono sn,hg'.mono sn,oa,hl,ml0⟩,hz,fun d H1 fs _ _ _ k5=>⟨rfl,?_⟩⟩);have s5:ai H H1:=fun b o z=>k5 b o (sn _ _ z) (aH z hx);dsimp only;walk_at "rn";exact q _ _ s5 (.inl ⟨rfl,rfl⟩)
def vC:Sp:=fun vs H Q _=>∃ c:Nat,vs=[.int (c:Int)]/\∀ p H' (s1 s2:Nat),ai H H'->H' p=some (.tup [.int (s1:Int),.int (s2:Int)])->1<=s1->s1<=60->1<=s2->s2<=60->Q (.ref p) H'
theorem vI (T:Txt K mg):aI P w K mg base CX0 1 T.gM.f T.gM.fd ["_law_cell_here"] vC:=by
 refine T.gM.ok lP (fun vs H Q E h=>?_) (fun cdv A outer s H vs Q E hr h=>?_)
 ·obtain ⟨c,rfl,_⟩:=h;rfl
 obtain ⟨c,rfl,q⟩:=h;have o1:c / 5 % 60<60:=My _ (by decide)
 have c5:c % 5<5:=My _ (by decide)
 refine ⟨_,(ae (ao (i:=1) lP.nd rfl (Mb rfl) (ak bf ag (ak aS (ak bz (pv 0) ag) ag)))
   (ae (ao (i:=2) lP.nd rfl (Mb rfl) (aq (aj K rfl) (bT (paF (ak pS ag (pv 1)) (paF (ak pS ag (pv 1)) (paF (ak bz ag (pv 1)) (paF (ak bf (ak bz ag (pv 1)) ag) (paF (ak bf ag (ak aS (ak bz (pv 0) ag) ag)) aa)))))) (ak aS (pv 0) ag) (fun _ _=>rfl)))
   (ah (aM (mX (paF (pv 1) (paF (av (ym rfl) rfl T.qA RQ (paF ag (paF (av (EA rfl) rfl T.t7 PyProof.Rows.boot_max (paF ag (paF (pv 2) aa))) aa))) aa))))))),?_⟩
 walk_at "rn";generalize eo:1+c / 5 % 60=o;refine eQ ?_;walk_at "rn";refine ⟨small (by show 5<=1000;decide),fun pl hpl=>?_⟩
 generalize ((60:Nat):Int) - (o:Int)=y0;generalize ((61:Nat):Int) - (o:Int)=y1;have s1:=aG hpl (.lst (([y0,y1,((60 / o:Nat):Int),((60 / o+1:Nat):Int),((1+c / 300 % 60:Nat):Int)]:List Int).map V.int));have h1:(upd H pl (.lst (([y0,y1,((60 / o:Nat):Int),((60 / o+1:Nat):Int),((1+c / 300 % 60:Nat):Int)]:List Int).map V.int))) pl=some (.lst (([y0,y1,((60 / o:Nat):Int),((60 / o+1:Nat):Int),((1+c / 300 % 60:Nat):Int)]:List Int).map V.int)):=ar;have l5:([y0,y1,((60 / o:Nat):Int),((60 / o+1:Nat):Int),((1+c / 300 % 60:Nat):Int)]:List Int).length=5:=rfl;rw [show [V.int y0,V.int y1,V.int ((60 / o:Nat):Int),V.int ((60 / o+1:Nat):Int),V.int ((1+c / 300 % 60:Nat):Int)]=([y0,y1,((60 / o:Nat):Int),((60 / o+1:Nat):Int),((1+c / 300 % 60:Nat):Int)]:List Int).map V.int from rfl];generalize ([y0,y1,((60 / o:Nat):Int),((60 / o+1:Nat):Int),((1+c / 300 % 60:Nat):Int)]:List Int)=ys at s1 h1 l5;generalize upd H pl (.lst (ys.map V.int))=H1 at s1 h1;walk_at "rn";refine wq (n:=c % 5) (xA (SqL.of h1)) rfl (LO (by omega)) ?_
 generalize ys[c % 5]'(by omega)=y
 walk_at "5";refine Ei ?_;walk_at "rn";refine Ei ?_;walk_at "rn";obtain ⟨v,ev,v1,v60⟩:∃ v:Nat,min ((60:Nat):Int) (max ((1:Nat):Int) y)=(v:Int)/\1<=v/\v<=60:=⟨(min ((60:Nat):Int) (max ((1:Nat):Int) y)).toNat,by omega,by omega,by omega⟩
 refine ⟨small (by show 2<=1000;decide),fun p hp=>?_⟩
 rw [ev];exact q p _ o v (s1.trans (aG hp _)) ar (by omega) (by omega) v1 v60
def WD (T:Txt K mg) (H:Hp) (a p:Addr):Prop:=∃ (g:Addr) (n e m z:Nat) (t:List (List Nat)) (D:List (List (Nat×Nat))) (v:V),dC (bC T) H a g m z D/\aU T.az H g n t e/\GT n t e/\WOk n m z D/\z<=60/\H p=some (.tup [v,.int (m:Int),.int (z:Int)])/\At K H v t
theorem WD.mono {T:Txt K mg} {H H':Hp} {a p:Addr} (s:ai H H'):WD T H a p->WD T H' a p
 | ⟨g,n,e,m,z,t,D,v,h1,h2,h3,h4,h5,h6,h7⟩=>⟨g,n,e,m,z,t,D,v,h1.mono s,h2.mono s,h3,h4,h5,s _ _ h6,Rep.mono s h7⟩
def z7 (T:Txt K mg):Sp:=fun vs H Q _=>∃ (d1 d2 a0 a1 p0 p1:Addr),vs=[.ref d1,.ref d2]/\H d1=some (.lst [.ref a0,.ref a1])/\H d2=some (.lst [.ref p0,.ref p1])/\WD T H a0 p0/\WD T H a1 p1/\∀ H',ai H H'->Q (.bl true) H'
theorem AR (T:Txt K mg):aI P w K mg base CX0 5 T.j5.f T.j5.fd ["_law_ways","_law_told"] (z7 T):=by
 refine T.j5.ok jw (fun vs H Q E h=>?_) (fun cdv A outer s H vs Q E hr h=>?_)
 ·obtain ⟨d1,d2,a0,a1,p0,p1,rfl,_⟩:=h;rfl
 obtain ⟨d1,d2,a0,a1,p0,p1,rfl,h1,h2,w0,w1,q⟩:=h;have pick:∀ j,j<2->∃ a p,([V.ref a0,.ref a1])[j]?=some (.ref a)/\([V.ref p0,.ref p1])[j]?=some (.ref p)/\WD T H a p:=fun j hj=>by
  rcases (show j=0\/j=1 by omega) with rfl|rfl
  ·exact ⟨a0,p0,rfl,rfl,w0⟩
  ·exact ⟨a1,p1,rfl,rfl,w1⟩
 refine ⟨_,(ae (bE Ml rfl (aY rfl T.bj (paF ag aa)) (aD (i:=2) jw.nd rfl (Mb rfl)) (ah (bE Ml rfl (aY rfl T.bj (paF ag aa)) (aD (i:=3) jw.nd rfl (Mb rfl)) (ah (bE Ml rfl (aY rfl T.bj (paF ag aa)) (aD (i:=4) jw.nd rfl (Mb rfl)) (ae (ao (i:=5) jw.nd rfl (Mb rfl) (aA T.jm (ze T) (hr.mono (by decide)) rfl (paF (aq (aj K rfl) (pv 0) (pv 2) (fun _ _=>rfl)) (paF (aq (aj K rfl) (pv 0) (pv 3) (fun _ _=>rfl)) (paF (pv 4) aa)))))
   (ah (aX (ou (kb (aA T.kJ (vQ T) (hr.mono (by decide)) rfl (paF (pv 5) (paF (aA T.lG (By T) (hr.mono (by decide)) rfl (paF (aq (aj K rfl) (pv 1) (pv 2) (fun _ _=>rfl)) (paF (aq (aj K rfl) (pv 1) (pv 3) (fun _ _=>rfl)) (paF (pv 4) aa)))) aa))))) (ah (aM i8)) aN))))))))
   (ah (aM i8))),?_⟩
 walk_at "rn";refine cq (n:=2) rfl (by decide) (fun i σ H'=>ai H H'/\∃ x2 x3 x4 x5,σ=[some (.ref d1),some (.ref d2),x2,x3,x4,x5]) ⟨ai.refl _,_,_,_,_,rfl⟩ ?_ ?_
 ·rintro j σ' H1 hj ⟨s1,x2,x3,x4,x5,rfl⟩;obtain ⟨a,p,ea,ep,wj⟩:=pick j hj;walk_at "rn";refine cq (n:=2) rfl (by decide) (fun i σ H'=>ai H H'/\∃ x3 x4 x5,σ=[some (.ref d1),some (.ref d2),some (.int (j:Int)),x3,x4,x5]) ⟨s1,_,_,_,rfl⟩ ?_ ?_
  ·rintro k σ' H2 hk ⟨s2,x3,x4,x5,rfl⟩;obtain ⟨b,p',eb,ep',wk⟩:=pick k hk;walk_at "rn";refine cq (n:=2) rfl (by decide) (fun i σ H'=>ai H H'/\∃ x4 x5,σ=[some (.ref d1),some (.ref d2),some (.int (j:Int)),some (.int (k:Int)),x4,x5]) ⟨s2,_,_,rfl⟩ ?_ ?_
   ·rintro i σ' H3 hi ⟨s3,x4,x5,rfl⟩;obtain ⟨g,n,e,m,z,t,D,v,c1,c2,c3,c4,c5,c6,c7⟩:=wj.mono s3;obtain ⟨g',n',e',m',z',t',D',v',b1,b2,b3,b4,b5,b6,b7⟩:=wk.mono s3;walk_at "rn";refine ⟨d1,_,_,.ref a,rfl,rfl,SqL.of (s3 _ _ h1),kY ea,?_⟩;walk_at "rn";refine ⟨d1,_,_,.ref b,rfl,rfl,SqL.of (s3 _ _ h1),kY eb,?_⟩;walk_at "rn";refine ⟨a,b,g,g',n,n',e,e',m,m',z,z',i,t,t',D,D',rfl,c1,b1,c2,c3,b2,b3,c4,b4,c5,b5,by omega,fun x H4 s4 met=>?_⟩
    walk_at "1";refine ⟨d2,_,_,.ref p,rfl,rfl,SqL.of ((s3.trans s4) _ _ h2),kY ep,?_⟩;walk_at "rn";refine ⟨d2,_,_,.ref p',rfl,rfl,SqL.of ((s3.trans s4) _ _ h2),kY ep',?_⟩;walk_at "rn";refine ⟨p,p',v,v',t,t',m,m',z,z',i,rfl,s4 _ _ c6,s4 _ _ b6,Rep.mono s4 c7,Rep.mono s4 b7,by omega,c5,b5,?_⟩
    walk_at "rn";refine ⟨x,_,rfl,met,fun H5 s5=>?_⟩;walk_at "9";exact ⟨s3.trans (s4.trans s5),_,_,rfl⟩
   ·rintro σ' H3 ⟨s3,x4,x5,rfl⟩;exact ⟨s3,_,_,_,rfl⟩
  ·rintro σ' H2 ⟨s2,x3,x4,x5,rfl⟩;exact ⟨s2,_,_,_,_,rfl⟩
 ·rintro σ' H1 ⟨s1,x2,x3,x4,x5,rfl⟩;walk_at "rn";exact q _ s1
theorem Fj {k c:Nat} (k1:1<=k) (k23:k<=23):0<k * (1+c % (60 / k))/\k * (1+c % (60 / k))<=60/\k * (1+c % (60 / k)) % k=0:=by
 have q1:0<60 / k:=O4 (by omega) k1
 have h:=My c q1;refine ⟨NI k1 (by omega),?_,QK ..⟩
 exact M4 (M5 k (show 1+c % (60 / k)<=60 / k by omega)) (R1 60 k)
def xt (T:Txt K mg):Sp:=fun vs H Q _=>∃ (d1 d2 g g2:Addr) (n e n2 e2 c:Nat) (t t2:List (List Nat)),vs=[.ref d1,.ref d2,.ref g,.ref g2,.int (c:Int)]/\At K H (.ref d1) t/\GT n t e/\At K H (.ref d2) t2/\GT n2 t2 e2/\aU T.az H g n t e/\aU T.az H g2 n2 t2 e2/\∀ H',ai H H'->Q (.bl true) H'
theorem xZ (T:Txt K mg):aI P w K mg base CX0 10 T.iG.f T.iG.fd ["_law_table","_law_other","_law_group_here","_law_second","_law_cell_here"] (xt T):=by
 refine T.iG.ok bp (fun vs H Q E h=>?_) (fun cdv A outer s H vs Q E hr h=>?_)
 ·obtain ⟨d1,d2,g,g2,n,e,n2,e2,c,t,t2,rfl,_⟩:=h;rfl
 obtain ⟨d1,d2,g,g2,n,e,n2,e2,c,t,t2,rfl,aT,gt,aT2,gt2,hG,hG2,q⟩:=h;have n1:=gt.pos;have n23:=gt.le;have c3:c % 3<3:=My _ (by decide)
 refine ⟨_,(ae (dk (i:=5) rfl bp.nd rfl (Mb rfl) nY (aY rfl T.bj (paF (ak aS (pv 4) ag) aa)) (fun _ _ _ _=>⟨(aD (i:=0) nY.nd rfl (Mb rfl)),bw,(aA T.jZ (Ax T) (hr.mono (by decide)) rfl (paF (pv 1) (paF (pv 0) (paF (av (aW K rfl) rfl T.bI Ms (paF (pv 2) aa)) aa))))⟩) rfl)
   (ae (ao (i:=6) bp.nd rfl (Mb rfl) (aA T.jx (zf T) (hr.mono (by decide)) rfl (paF (pv 0) (paF (pv 5) aa))))
   (ae (ao (i:=7) bp.nd rfl (Mb rfl) (aA T.iY (tS T) (hr.mono (by decide)) rfl (paF (pv 0) (paF (pv 6) aa))))
   (ae (ao (i:=8) bp.nd rfl (Mb rfl) (aA T.fq (rJ T) (hr.mono (by decide)) rfl (paF (pv 2) (paF (cp (fZ K rfl) rfl T.eM M1 (paF (pv 6) aa)) aa))))
   (ae (aX (ay bY (ak aS (ak bz (pv 4) ag) ag) ag (aE _)) (ae (ao (i:=7) bp.nd rfl (Mb rfl) (pv 1))
   (ah (ao (i:=8) bp.nd rfl (Mb rfl) (pv 3)))) aN)
   (ae (ao (i:=9) bp.nd rfl (Mb rfl) (aA T.eX (lA T) (hr.mono (by decide)) rfl (paF (pv 7) aa)))
   (ae (ao (i:=9) bp.nd rfl (Mb rfl) (ak bD (pv 9) (ak bf ag (ak aS (ak bz (pv 4) ag) (ak bz ag (pv 9))))))
   (ae (ao (i:=10) bp.nd rfl (Mb rfl) (ak bz (av (aW K rfl) rfl T.bI Ms (paF (pv 0) aa)) (av (aW K rfl) rfl T.bI Ms (paF (pv 6) aa))))
   (ae (ao (i:=11) bp.nd rfl (Mb rfl) (av (ym rfl) rfl T.qA RQ (paF ag (paF (aq (aj K rfl) (bT (paF (ak bz ag (pv 10)) (paF (ak bf (ak bz ag (pv 10)) ag) (paF ag aa)))) (ak aS (ak bz (pv 4) ag) ag) (fun _ _=>rfl)) aa))))
   (ae (ao (i:=12) bp.nd rfl (Mb rfl) (aA T.gw (oq T) (hr.mono (by decide)) rfl (paF (pv 8) (paF (pv 9) (paF (pv 11) aa)))))
   (ae (aX (ay bY (ak aS (ak bz (pv 4) ag) ag) ag (aE _)) (ah (ao (i:=6) bp.nd rfl (Mb rfl) (Au (AE K rfl) (pv 6) CM (CN (Ic E8 ag))))) aN)
   (ae (ao (i:=13) bp.nd rfl (Mb rfl) cj)
   (ae (aX (ou (kb (aA T.iI (xa T) (hr.mono (by decide)) rfl (paF (pv 0) (paF (pv 6) aa))))) (ah (ao (i:=13) bp.nd rfl (Mb rfl) cj)) (ah (aX (ay (kS K rfl (List Nat) hr.units) (pv 7) (aA T.iY (tS T) (hr.mono (by decide)) rfl (paF (pv 0) (paF (pv 6) aa))) (aE _)) (ah (ao (i:=13) bp.nd rfl (Mb rfl) cj)) (ah (aX (ay iy (ak aS (pv 9) (aA T.eX (lA T) (hr.mono (by decide)) rfl (paF (pv 0) aa))) ag (aE _)) (ah (ao (i:=13) bp.nd rfl (Mb rfl) cj)) (ah (aX (ay iD (ak bD (ak bz (av (aW K rfl) rfl T.bI Ms (paF (pv 0) aa)) (av (aW K rfl) rfl T.bI Ms (paF (pv 6) aa))) (pv 11)) ag (aE _)) (ah (ao (i:=13) bp.nd rfl (Mb rfl) cj)) aN)))))))
   (ah (aM (aA T.kJ (vQ T) (hr.mono (by decide)) rfl (paF (aA T.gj (uR T) (hr.mono (by decide)) rfl (paF (pv 2) (paF (pv 6) (paF (pv 12) aa)))) (paF (pv 13) aa)))))))))))))))))),?_⟩
 walk_at "rn";refine rm K (n:=c % 3) (β:=Nat) rfl (by omega) (fun j=>(LZ j).map fun k=>thg (c:Int) k n) (fun σ'=>∃ y,σ'=[y,some (.int (c:Int)),some (.ref d1)]) rfl (fun j _=>by rw [LP,Mt];exact Mh _) ⟨_,rfl⟩ ?_ ?_
 ·rintro j σ' H1 d' R' R0 hj hs ⟨y,rfl⟩ hR' hR0 hd';walk_at "rn";refine dD (Rep.mono hs aT) ?_;rw [gt.len];walk_at "rn";refine ⟨(c:Int),j,n,rfl,by omega,n1,fun _=>?_⟩
  exact hR' _ _ (thg (c:Int) j n) _ ⟨_,rfl⟩ (ai.refl _) rfl (by rw [Pp,MM];rfl)
 intro ds H1 _ s1 g1;have g1':Gr K H1 ds ((LZ (c % 3)).map fun k=>thg (c:Int) k n):=g1;have slt:∀ x∈(LZ (c % 3)).map (fun k=>thg (c:Int) k n),x<n:=fun x hx=>by
  obtain ⟨k,_,rfl⟩:=Mg.mp hx;exact My _ n1
 generalize (LZ (c % 3)).map (fun k=>thg (c:Int) k n)=S at g1' slt;walk_at "rn";refine ⟨_,_,n,e,t,S,rfl,Rep.mono s1 aT,gt,g1'.at,slt,fun dp H2 R _ s2 gq G=>?_⟩;have pt:=G.part gt slt;have h2:=lr gq;have s12:=s1.trans s2;have rl:=pt.len;have r0:=ML.mpr pt.ne;walk_at "rn";refine ⟨_,dp,n,e,t,R,rfl,Rep.mono s12 aT,gt,h2,pt,fun dr H3 ps3 s3 tb3=>?_⟩;have s13:=s12.trans s3;walk_at "rn";refine xY (α:=Nat) (cC (s3 _ _ h2)) fun dc H4 _ s4 g4=>?_;have s14:=s13.trans s4;walk_at "rn";refine ⟨g,dc,n,e,t,R,rfl,hG.mono s14,gt,lr g4,pt,fun go H5 _ s5 hgo=>?_⟩;have s15:=s14.trans s5;have s25:=s3.trans (s4.trans s5);have h5:=s25 _ _ h2;have tb5:=tb3.mono (s4.trans s5);walk_at "rn";refine jB (fun σ' H'=>H'=H5/\∃ (vr:V) (gO:Addr) (nO eO:Nat) (tO:List (List Nat)),At K H5 vr tO/\GT nO tO eO/\aU T.az H5 gO nO tO eO/\σ'=[some (.ref d1),some (.ref d2),some (.ref g),some (.ref g2),some (.int (c:Int)),some (.ref ds),some (.ref dp),some vr,some (.ref gO),none,none,none,none,none]) (fun N hN=>?_) ?_
 ·walk_at "rn";refine aV (fun _=>?_) (fun _=>?_)
  ·walk_at "rn";exact hN _ _ ⟨rfl,.ref d2,g2,n2,e2,t2,Rep.mono s15 aT2,gt2,hG2.mono s15,rfl⟩
  ·exact hN _ _ ⟨rfl,.ref dr,go,_,_,_,tb5.at,Ar gt pt,hgo.mono my,rfl⟩
 rintro σ' H' ⟨rfl,vr,gO,nO,eO,tO,aO,gtO,hgO,rfl⟩;walk_at "rn";refine ⟨vr,nO,eO,tO,rfl,aO,gtO,fun k H6 s6 hk kn=>?_⟩;have k1:=hk.pos;have k23:k<=23:=M4 kn gtO.le;obtain ⟨m1,m60,mk⟩:=Fj (k:=k) (c:=c / 12) k1 k23;have qk:0<60 / k:=O4 (by omega) k1
 have s16:=s15.trans s6;walk_at "rn";generalize k * (1+c / 12 % (60 / k))=m at m1 m60 mk;have aT6:=Rep.mono s16 aT;have h6:=s6 _ _ h5;refine dD aT6 ?_;rw [gt.len];walk_at "rn";refine dD (cC h6) ?_;refine qm r0 (by omega) ?_
 have dv1:1<=n / R.length:=O4 pt.len r0;have dv23:n / R.length<=23:=M4 (Nat.div_le_self ..) n23;have dd:0<60 / (n / R.length):=O4 (by omega) dv1
 have dd60:60 / (n / R.length)<=60:=Nat.div_le_self ..;generalize em:n / R.length=many at dv1 dv23 dd dd60;walk_at "4";refine ⟨small (by show 3<=1000;decide),fun pl hpl=>?_⟩
 have s7:=aG hpl (.lst (bb [60 / many,60 / many+1,1]));have h7:(upd H6 pl (.lst (bb [60 / many,60 / many+1,1]))) pl=some (.lst (bb [60 / many,60 / many+1,1])):=ar;rw [show [V.int ((60 / many:Nat):Int),V.int ((60 / many+1:Nat):Int),V.int ((1:Nat):Int)]=bb [60 / many,60 / many+1,1] from rfl];generalize upd H6 pl (.lst (bb [60 / many,60 / many+1,1]))=H7 at s7 h7;have i3:c / 720 % 3<3:=My _ (by decide)
 have yall:∀ y∈[60 / many,60 / many+1,1],1<=y:=fun y hy=>by
  rcases Mv.mp hy with rfl|hy
  ·exact dd
  rcases Mv.mp hy with rfl|hy
  ·omega
  ·rw [Ma.mp hy];exact Mh _
 walk_at "rn";refine bG (n:=c / 720 % 3) (cC h7) (LO (show c / 720 % 3<3 from i3)) ?_;have y1:=yall _ (Ni (l:=[60 / many,60 / many+1,1]) (n:=c / 720 % 3) i3);generalize ([60 / many,60 / many+1,1])[c / 720 % 3]'i3=y at y1;walk_at "rn";refine Ei ?_;rw [show min ((60:Nat):Int) (y:Int)=((min 60 y:Nat):Int) by omega]
 have z1:1<=min 60 y:=by omega
 have z60:min 60 y<=60:=by omega
 generalize min 60 y=z at z1 z60;have s67:=s6.trans s7;have s17:=s15.trans s67;walk_at "rn";refine ⟨gO,nO,eO,m,k,z,tO,rfl,hgO.mono s67,gtO,hk,mk,m1,m60,z1,z60,fun aw H8 D s8 wa oa=>?_⟩;have s18:=s17.trans s8;have s58:=s67.trans s8;have h8:=s58 _ _ h5;have aO8:=Rep.mono s58 aO;have hgO8:=hgO.mono s58;walk_at "rn";refine jB (fun σ' H'=>ai H8 H'/\∃ (dq:Addr) (S2:List Nat),H' dq=some (.lst (bb S2))/\S2.length<=23/\(∀ x∈S2,x<n)/\σ'=[some (.ref d1),some (.ref d2),some (.ref g),some (.ref g2),some (.int (c:Int)),some (.ref ds),some (.ref dq),some vr,some (.ref gO),some (.int (m:Int)),some (.int (many:Int)),some (.int (z:Int)),some (.ref aw),none]) (fun N hN=>?_) ?_
 ·walk_at "rn";refine aV (fun _=>?_) (fun _=>?_)
  ·walk_at "rn";refine Hf (cC h8) fun pc H9 _ s9 g9=>?_;have cl:=JE R none (some (-((1:Nat):Int)));exact hN _ _ ⟨s9,pc,_,lr g9,by omega,fun x hx=>pt.lt x (Je hx),rfl⟩
  ·exact hN _ _ ⟨ai.refl _,dp,R,h8,by omega,pt.lt,rfl⟩
 rintro σ' H9 ⟨s9,dq,S2,h9,l2,lt2,rfl⟩;have s19:=s18.trans s9;have aT9:=Rep.mono s19 aT;have aO9:=Rep.mono s9 aO8;walk_at "rn"
 rename_i N hN
 have fin:∀ (sd:Str) (H10:Hp),ai H9 H10->Kx n t e tO (S2.map fun (x:Nat)=>(x:Int)) m z sd->N [some (.ref d1),some (.ref d2),some (.ref g),some (.ref g2),some (.int (c:Int)),some (.ref ds),some (.ref dq),some vr,some (.ref gO),some (.int (m:Int)),some (.int (many:Int)),some (.int (z:Int)),some (.ref aw),some (.str sd)] H10:=by
  intro sd H10 s10 due;have s810:=s9.trans s10;refine sL hN ?_;walk_at "rn";refine ⟨g,dq,aw,gO,n,e,nO,eO,m,z,t,tO,_,D,sd,rfl,hG.mono (s19.trans s10),gt,by rw [s10 _ _ h9,N7];rfl,by rw [LP];omega,wa.mono s810,hgO8.mono s810,gtO,oa,due,fun x H11 s11 met=>?_⟩
  walk_at "rn";exact ⟨x,sd,rfl,met,fun H12 s12'=>q _ (s19.trans (s10.trans (s11.trans s12')))⟩
 clear hN
 walk_at "11";refine ⟨_,dq,n,e,t,_,rfl,aT9,gt,JR (cC h9),by rw [LP];omega,EX lt2,fun hp H10 s10=>?_,fun np H10 s10=>?_⟩
 rotate_left
 ·walk_at "rn";refine rk ?_;walk_at "rn";exact fin "NoPart" H10 s10 (.inl ⟨np,rfl⟩)
 obtain ⟨R2,e2',pt2⟩:=hp;obtain rfl:=v5 e2';walk_at "rn";refine eR ?_;walk_at "11";refine ⟨_,dq,n,e,t,S2,rfl,Rep.mono s10 aT9,gt,s10 _ _ h9,pt2,fun di H11 psi s11 tbi=>?_⟩;have s911:=s10.trans s11;walk_at "rn";refine oX (α:=List Nat) (as:=tO) (bs:=fM t S2) (Rep.mono s911 aO9) tbi.at ?_;walk_at "rn";refine bX (fun nt=>?_) (fun et=>?_)
 ·walk_at "rn";exact fin "OtherGroup" H11 s911 (.inr ⟨S2,rfl,pt2,.inl ⟨nt,rfl⟩⟩)
 walk_at "11";refine ⟨_,n,e,t,rfl,Rep.mono s911 aT9,gt,fun l H12 s12' hl _=>?_⟩;have l1:=hl.pos;have s912:=s911.trans s12';walk_at "rn";refine bX (fun nm=>?_) (fun em0=>?_)
 ·walk_at "rn";refine fin "BadWheel" H12 s912 (.inr ⟨S2,rfl,pt2,.inr ⟨et,.inl ⟨fun sv=>nm ?_,rfl⟩⟩⟩);have:=sv.2.2 l hl;omega
 have sv:pP n t e (m:Int):=⟨by omega,by omega,fun k' hk'=>by rw [hk'.uni hl];omega⟩
 have rs0:=ML.mpr pt2.ne;walk_at "11";refine dD (Rep.mono s912 aT9) ?_;rw [gt.len];walk_at "rn";refine dD (cC (s912 _ _ h9)) ?_;refine qm rs0 (by omega) ?_
 rw [rB gt pt2];walk_at "rn";refine aV (fun tg=>?_) (fun tg=>?_)
 ·walk_at "rn";exact fin "TooGreat" H12 s912 (.inr ⟨S2,rfl,pt2,.inr ⟨et,.inr ⟨sv,.inl ⟨by omega,rfl⟩⟩⟩⟩)
 ·exact fin "" H12 s912 (.inr ⟨S2,rfl,pt2,.inr ⟨et,.inr ⟨sv,.inr ⟨by omega,rfl⟩⟩⟩⟩)
def zy (K:LN):Sp:=fun vs H Q _=>∃ (a:Addr) (ns:List Int),vs=[.ref a]/\SqL K H a (ns.map V.int)/\ns.length<=63/\∀ H',Q (.bl true) H'
theorem Kr (T:Txt K mg):aI P w K mg base CX0 12 T.zq.f T.zq.fd ["_law_script"] (zy K):=by
 refine T.zq.ok jo (fun vs H Q E h=>?_) (fun cdv A outer s H vs Q E hr h=>?_)
 ·obtain ⟨a,ns,rfl,_⟩:=h;rfl
 obtain ⟨a,ns,rfl,hS,h63,q⟩:=h;have hA:=xA hS;refine ⟨_,(ae (ao (i:=1) jo.nd rfl (Mb rfl) (aA T.iX (sU T) (hr.mono (by decide)) rfl (paF (pv 0) (paF ag aa))))
   (ae (ao (i:=2) jo.nd rfl (Mb rfl) (pv 1))
   (ae (aX (ay bY (ak aS (aA T.cS (ff T) (hr.mono (by decide)) rfl (paF (pv 0) (paF ag aa))) ag) ag (aE _)) (ah (ao (i:=2) jo.nd rfl (Mb rfl) (aA T.iX (sU T) (hr.mono (by decide)) rfl (paF (pv 0) (paF ag aa))))) aN)
   (ae (ao (i:=3) jo.nd rfl (Mb rfl) (aA T.ir (oZ T) (hr.mono (by decide)) rfl (paF (bZ rfl Bn (aZ K rfl (pv 1)) (fun _ _ _ _=>⟨(aD (i:=0) Bn.nd rfl (Mb rfl)),bw,(cp (fZ K rfl) rfl T.eM M1 (paF (pv 0) aa))⟩)) aa)))
   (ae (ao (i:=4) jo.nd rfl (Mb rfl) (aA T.ir (oZ T) (hr.mono (by decide)) rfl (paF (bZ rfl Bc (aZ K rfl (pv 2)) (fun _ _ _ _=>⟨(aD (i:=0) Bc.nd rfl (Mb rfl)),bw,(cp (fZ K rfl) rfl T.eM M1 (paF (pv 0) aa))⟩)) aa)))
   (ae (ao (i:=5) jo.nd rfl (Mb rfl) (aA T.eX (lA T) (hr.mono (by decide)) rfl (paF (pv 1) aa)))
   (ae (ao (i:=6) jo.nd rfl (Mb rfl) (bT (paF (ak bD (pv 5) (ak bf ag (ak aS (aA T.cS (ff T) (hr.mono (by decide)) rfl (paF (pv 0) (paF ag aa))) (ak bz ag (pv 5))))) (paF (aA T.eX (lA T) (hr.mono (by decide)) rfl (paF (pv 2) aa)) aa))))
   (ae (aX (PW.pt (iH (ay bY (ak aS (aq (aj K rfl) (pv 6) ag (fun _ _=>rfl)) (aq (aj K rfl) (pv 6) ag (fun _ _=>rfl))) ag (aE _)) (iQ (ay bY (ak aS (ak bz (aA T.cS (ff T) (hr.mono (by decide)) rfl (paF (pv 0) (paF ag aa))) ag) ag) ag (aE _))))) (ah (Fx (aq (aj K rfl) (pv 6) ag (fun _ _=>rfl)) (EO (pv 6) ag set_list))) aN)
   (ae (ao (i:=7) jo.nd rfl (Mb rfl) (aA T.gM (vI T) (hr.mono (by decide)) rfl (paF (aA T.cS (ff T) (hr.mono (by decide)) rfl (paF (pv 0) (paF ag aa))) aa)))
   (ae (ao (i:=8) jo.nd rfl (Mb rfl) (bT (paF (aA T.gw (oq T) (hr.mono (by decide)) rfl (paF (pv 3) (paF (aq (aj K rfl) (pv 6) ag (fun _ _=>rfl)) (paF (aq (fR K rfl) (pv 7) ag (fun _ _=>rfl)) aa)))) (paF (aA T.gw (oq T) (hr.mono (by decide)) rfl (paF (pv 4) (paF (aq (aj K rfl) (pv 6) ag (fun _ _=>rfl)) (paF (aq (fR K rfl) (pv 7) ag (fun _ _=>rfl)) aa)))) aa))))
   (ae (ao (i:=9) jo.nd rfl (Mb rfl) (bT (paF (mX (paF (pv 1) (paF (aq (aj K rfl) (pv 6) ag (fun _ _=>rfl)) (paF (aq (fR K rfl) (pv 7) ag (fun _ _=>rfl)) aa)))) (paF (mX (paF (pv 2) (paF (aq (aj K rfl) (pv 6) ag (fun _ _=>rfl)) (paF (aq (fR K rfl) (pv 7) ag (fun _ _=>rfl)) aa)))) aa))))
   (ae (aX (ou (kb (aA T.j5 (AR T) (hr.mono (by decide)) rfl (paF (pv 8) (paF (pv 9) aa))))) (ah (aM i8)) aN)
   (ah (aM (aA T.iG (xZ T) (hr.mono (by decide)) rfl (paF (pv 1) (paF (pv 2) (paF (pv 3) (paF (pv 4) (paF (aA T.cS (ff T) (hr.mono (by decide)) rfl (paF (pv 0) (paF ag aa))) aa)))))))))))))))))))),?_⟩
 walk_at "rn";refine ⟨_,ns,0,rfl,hA,fun d1 H1 n t e ps1 s1 gt tb1 _ _=>?_⟩;have n1:=gt.pos;have n23:=gt.le;have hA1:=Rep.mono s1 hA;walk_at "rn";refine jB (fun σ' H'=>ai H1 H'/\∃ (d2:Addr) (n2 e2:Nat) (t2:List (List Nat)),At K H' (.ref d2) t2/\GT n2 t2 e2/\σ'=[some (.ref a),some (.ref d1),some (.ref d2),none,none,none,none,none,none,none]) (fun N hN=>?_) ?_
 ·walk_at "rn";refine ⟨_,ns,6,rfl,hA1,?_⟩;walk_at "rn";refine aV (fun _=>?_) (fun _=>?_)
  ·walk_at "rn";refine ⟨_,ns,3,rfl,hA1,fun d2 H2 n2 t2 e2 ps2 s2 gt2 tb2 _ _=>?_⟩;walk_at "rn";exact hN _ _ ⟨s2,d2,n2,e2,t2,tb2.at,gt2,rfl⟩
  ·exact hN _ _ ⟨ai.refl _,d1,n,e,t,tb1.at,gt,rfl⟩
 rintro σ' H2 ⟨s2,d2,n2,e2,t2,aO2,gt2,rfl⟩;have m1':=gt2.pos;have m23':=gt2.le;have aT2:At K H2 (.ref d1) t:=Rep.mono s2 tb1.at;have hA2:=Rep.mono s2 hA1;walk_at "rn";refine ni (K:=K) aT2 (by rw [gt.len];omega) fun dh H3 psh s3 _ _ tbh=>?_
 walk_at "rn";refine ⟨_,n,e,t,rfl,tbh.at,gt,fun g H4 _ s4 hg0=>?_⟩;have hg:=aU.mono my hg0;have s24:=s3.trans s4;walk_at "rn";refine ni (K:=K) (Rep.mono s24 aO2) (by rw [gt2.len];omega) fun dh2 H5 psh2 s5 _ _ tbh2=>?_
 walk_at "rn";refine ⟨_,n2,e2,t2,rfl,tbh2.at,gt2,fun g2 H6 _ s6 hg20=>?_⟩;have hg2:=aU.mono my hg20;have s46:=s5.trans s6;have s26:=s24.trans s46;have hg6:=hg.mono s46;walk_at "rn";refine ⟨_,n,e,t,rfl,Rep.mono s26 aT2,gt,fun l H7 s7 hl ln=>?_⟩;have l1:=hl.pos;have s27:=s26.trans s7;walk_at "4";refine ⟨_,ns,7,rfl,Rep.mono s27 hA2,?_⟩;obtain ⟨m1,m60,mk⟩:=Fj (k:=l) (c:=nv ns 7) l1 (by omega)
 have qk:0<60 / l:=O4 (by omega) l1
 generalize nv ns 7=kd at m1 m60 mk;walk_at "rn";generalize l * (1+kd % (60 / l))=m at m1 m60 mk;refine ⟨_,n2,e2,t2,rfl,Rep.mono s27 aO2,gt2,fun l2 H8 s8 hl2 ln2=>?_⟩;have l21:=hl2.pos;have s28:=s27.trans s8;have s68:=s7.trans s8;walk_at "rn";refine ⟨small (by show 2<=1000;decide),fun ds hds=>?_⟩
 have s9:=aG hds (.lst (bb [m,l2]));have h9:(upd H8 ds (.lst (bb [m,l2]))) ds=some (.lst (bb [m,l2])):=ar;rw [show [V.int (m:Int),V.int (l2:Int)]=bb [m,l2] from rfl];generalize upd H8 ds (.lst (bb [m,l2]))=H9 at s9 h9;walk_at "rn";refine jB (fun σ' H'=>ai H8 H'/\∃ m2:Nat,H' ds=some (.lst (bb [m,m2]))/\0<m2/\m2<=60/\m2 % l2=0/\σ'=[some (.ref a),some (.ref d1),some (.ref d2),some (.ref g),some (.ref g2),some (.int (l:Int)),some (.ref ds),none,none,none]) (fun N hN=>?_) ?_
 ·walk_at "rn";refine bG (n:=0) (cC h9) rfl ?_;walk_at "rn";refine bG (n:=1) (cC h9) rfl ?_;walk_at "rn";refine aV (fun c0=>?_) (fun c0=>?_)
  ·walk_at "rn";refine ⟨_,ns,6,rfl,Rep.mono (s28.trans s9) hA2,?_⟩;walk_at "rn";refine aV (fun _=>?_) (fun _=>?_)
   ·walk_at "rn";refine bG (n:=0) (cC h9) rfl ?_;walk_at "rn";refine EN (j:=1) h9 rfl (by show 1<2;decide) ?_
    exact hN _ _ ⟨qO hds s9,m,ar,m1,m60,by omega,rfl⟩
   ·exact hN _ _ ⟨s9,l2,h9,l21,by omega,Pa _,rfl⟩
  ·refine eR ?_;exact hN _ _ ⟨s9,l2,h9,l21,by omega,Pa _,rfl⟩
 rintro σ' HA ⟨sA,m2,hdA,m21,m260,mk2,rfl⟩;have s2A:=s28.trans sA;have s6A:=s68.trans sA;walk_at "rn";refine ⟨_,ns,8,rfl,Rep.mono s2A hA2,?_⟩;walk_at "rn";refine ⟨_,rfl,fun p HB z1 z2 sB hp z11 z160 z21 z260=>?_⟩;have s2B:=s2A.trans sB;have s6B:=s6A.trans sB;have hdB:=sB _ _ hdA;walk_at "4";refine bG (n:=0) (cC hdB) rfl ?_;walk_at "rn";refine kj (i:=0) hp rfl ?_;walk_at "rn";refine ⟨g,n,e,m,l,z1,t,rfl,hg6.mono s6B,gt,hl,mk,m1,m60,z11,z160,fun a0 HC D0 sC w0 o0=>?_⟩;have s6C:=s6B.trans sC;walk_at "rn";refine bG (n:=1) (cC (sC _ _ hdB)) rfl ?_;walk_at "rn";refine kj (i:=1) (sC _ _ hp) rfl ?_;walk_at "rn";refine ⟨g2,n2,e2,m2,l2,z2,t2,rfl,hg2.mono s6C,gt2,hl2,mk2,m21,m260,z21,z260,fun a1 HD D1 sD w1 o1=>?_⟩;have sCD:=sC.trans sD;walk_at "rn";refine ⟨small (by show 2<=1000;decide),fun dw hdw=>?_⟩
 have sE:=aG hdw (.lst [.ref a0,.ref a1]);have hE:(upd HD dw (.lst [.ref a0,.ref a1])) dw=some (.lst [.ref a0,.ref a1]):=ar;generalize upd HD dw (.lst [.ref a0,.ref a1])=HE at sE hE;have sBE:=sCD.trans sE;have hdE:=sBE _ _ hdB;have hpE:=sBE _ _ hp;walk_at "4";refine mO ?_;walk_at "rn";refine bG (n:=0) (cC hdE) rfl ?_;walk_at "rn";refine kj (i:=0) hpE rfl ?_;walk_at "rn";refine ⟨small (by show 3<=1000;decide),fun p0 hp0=>?_⟩
 have sF:=aG hp0 (.tup [.ref d1,.int (m:Int),.int (z1:Int)]);have hF:(upd HE p0 (.tup [.ref d1,.int (m:Int),.int (z1:Int)])) p0=some (.tup [.ref d1,.int (m:Int),.int (z1:Int)]):=ar;generalize upd HE p0 (.tup [.ref d1,.int (m:Int),.int (z1:Int)])=HF at sF hF;walk_at "5";refine bG (n:=1) (cC (sF _ _ hdE)) rfl ?_;walk_at "rn";refine kj (i:=1) (sF _ _ hpE) rfl ?_;walk_at "rn";refine ⟨small (by show 3<=1000;decide),fun p1 hp1=>?_⟩
 have sG:=aG hp1 (.tup [.ref d2,.int (m2:Int),.int (z2:Int)]);have hG:(upd HF p1 (.tup [.ref d2,.int (m2:Int),.int (z2:Int)])) p1=some (.tup [.ref d2,.int (m2:Int),.int (z2:Int)]):=ar;generalize upd HF p1 (.tup [.ref d2,.int (m2:Int),.int (z2:Int)])=HG at sG hG;walk_at "rn";refine ⟨small (by show 2<=1000;decide),fun dt hdt=>?_⟩
 have sI:=aG hdt (.lst [.ref p0,.ref p1]);have hI:(upd HG dt (.lst [.ref p0,.ref p1])) dt=some (.lst [.ref p0,.ref p1]):=ar;generalize upd HG dt (.lst [.ref p0,.ref p1])=HI at sI hI;have sEI:=sF.trans (sG.trans sI);have sDI:=sE.trans sEI;have s6I:=s6B.trans (sBE.trans sEI);have s2I:=s2B.trans (sBE.trans sEI);have aTI:=Rep.mono s2I aT2;have aOI:=Rep.mono s2I aO2;have hgI:=hg6.mono s6I;have hg2I:=hg2.mono s6I;walk_at "1";refine ⟨dw,dt,a0,a1,p0,p1,rfl,sEI _ _ hE,hI,⟨g,n,e,m,z1,t,D0,.ref d1,w0.mono (sD.trans sDI),hgI,gt,o0,z160,(sG.trans sI) _ _ hF,aTI⟩,⟨g2,n2,e2,m2,z2,t2,D1,.ref d2,w1.mono sDI,hg2I,gt2,o1,z260,sI _ _ hG,aOI⟩,fun HJ sJ=>?_⟩;walk_at "9";refine ⟨_,ns,9,rfl,Rep.mono (s2I.trans sJ) hA2,?_⟩;walk_at "rn";exact ⟨d1,d2,g,g2,n,e,n2,e2,_,t,t2,rfl,Rep.mono sJ aTI,gt,Rep.mono sJ aOI,gt2,hgI.mono sJ,hg2I.mono sJ,fun HK _=>q HK⟩
end
theorem all_mk {l:RA} {w:World} {K:LN} {h:Heap} {mg:Str->Option Value} {fa:Addr} (X:K.In h) (G:h.Ns LX mg) (hfa:mg "law" = some (.ref fa))
  {f1 f2 f3 f4 f5 f6 f7 f8 f9 f10 f11 f12 f13 f14 f15 f16 f17 f18 f19 f20 f21 f22 f23 f24 f25 f26 f27 f28 f29 f30 f31 f32 f33 f34 f35 f36 f37 f38 f39 f40 f41 f42 f43 f44 f45 f46 f47 f48 f49 f50 f51 f52 f53 f54 f55 f56 f59 f64:Addr} {od1 an1 od2 an2 od3 an3 od4 an4 od5 an5 od6 an6 od7 an7 od8 an8 od9 an9 od10 an10 od11 an11 od12 an12 od13 an13 od14 an14 od15 an15 od16 an16 od17 an17 od18 an18 od19 an19 od20 an20 od21 an21 od22 an22 od23 an23 od24 an24 od25 an25 od26 an26 od27 an27 od28 an28 od29 an29 od30 an30 od31 an31 od32 an32 od33 an33 od34 an34 od35 an35 od36 an36 od37 an37 od38 an38 od39 an39 od40 an40 od41 an41 od42 an42 od43 an43 od44 an44 od45 an45 od46 an46 od47 an47 od48 an48 od49 an49 od50 an50 od51 an51 od52 an52 od53 an53 od54 an54 od55 an55 od56 an56 od59 an59 od64 an64:Option Addr} {sl1 sl2 sl3 sl4 sl5 sl6 sl7 sl8 sl9 sl10 sl11 sl12 sl13 sl14 sl15 sl16 sl17 sl18 sl19 sl20 sl21 sl22 sl23 sl24 sl25 sl26 sl27 sl28 sl29 sl30 sl31 sl32 sl33 sl34 sl35 sl36 sl37 sl38 sl39 sl40 sl41 sl42 sl43 sl44 sl45 sl46 sl47 sl48 sl49 sl50 sl51 sl52 sl53 sl54 sl55 sl56 sl59 sl64:Array (Option Value)} {oc1 kV1 dc1 pm1 cd1 ct1 oc2 kV2 dc2 pm2 cd2 ct2 oc3 kV3 dc3 pm3 cd3 ct3 oc4 kV4 dc4 pm4 cd4 ct4 oc5 kV5 dc5 pm5 cd5 ct5 oc6 kV6 dc6 pm6 cd6 ct6 oc7 kV7 dc7 pm7 cd7 ct7 oc8 kV8 dc8 pm8 cd8 ct8 oc9 kV9 dc9 pm9 cd9 ct9 oc10 kV10 dc10 pm10 cd10 ct10 oc11 kV11 dc11 pm11 cd11 ct11 oc12 kV12 dc12 pm12 cd12 ct12 oc13 kV13 dc13 pm13 cd13 ct13 oc14 kV14 dc14 pm14 cd14 ct14 oc15 kV15 dc15 pm15 cd15 ct15 oc16 kV16 dc16 pm16 cd16 ct16 oc17 kV17 dc17 pm17 cd17 ct17 oc18 kV18 dc18 pm18 cd18 ct18 oc19 kV19 dc19 pm19 cd19 ct19 oc20 kV20 dc20 pm20 cd20 ct20 oc21 kV21 dc21 pm21 cd21 ct21 oc22 kV22 dc22 pm22 cd22 ct22 oc23 kV23 dc23 pm23 cd23 ct23 oc24 kV24 dc24 pm24 cd24 ct24 oc25 kV25 dc25 pm25 cd25 ct25 oc26 kV26 dc26 pm26 cd26 ct26 oc27 kV27 dc27 pm27 cd27 ct27 oc28 kV28 dc28 pm28 cd28 ct28 oc29 kV29 dc29 pm29 cd29 ct29 oc30 kV30 dc30 pm30 cd30 ct30 oc31 kV31 dc31 pm31 cd31 ct31 oc32 kV32 dc32 pm32 cd32 ct32 oc33 kV33 dc33 pm33 cd33 ct33 oc34 kV34 dc34 pm34 cd34 ct34 oc35 kV35 dc35 pm35 cd35 ct35 oc36 kV36 dc36 pm36 cd36 ct36 oc37 kV37 dc37 pm37 cd37 ct37 oc38 kV38 dc38 pm38 cd38 ct38 oc39 kV39 dc39 pm39 cd39 ct39 oc40 kV40 dc40 pm40 cd40 ct40 oc41 kV41 dc41 pm41 cd41 ct41 oc42 kV42 dc42 pm42 cd42 ct42 oc43 kV43 dc43 pm43 cd43 ct43 oc44 kV44 dc44 pm44 cd44 ct44 oc45 kV45 dc45 pm45 cd45 ct45 oc46 kV46 dc46 pm46 cd46 ct46 oc47 kV47 dc47 pm47 cd47 ct47 oc48 kV48 dc48 pm48 cd48 ct48 oc49 kV49 dc49 pm49 cd49 ct49 oc50 kV50 dc50 pm50 cd50 ct50 oc51 kV51 dc51 pm51 cd51 ct51 oc52 kV52 dc52 pm52 cd52 ct52 oc53 kV53 dc53 pm53 cd53 ct53 oc54 kV54 dc54 pm54 cd54 ct54 oc55 kV55 dc55 pm55 cd55 ct55 oc56 kV56 dc56 pm56 cd56 ct56 oc59 kV59 dc59 pm59 cd59 ct59 oc64 kV64 dc64 pm64 cd64 ct64:Value}
  {D23:Addr} {dd23:Option Addr} {ds23:Array (Option Value)} {dcl23:Value} {dn23:Nat}
  {C57 f57:Addr} {od57 an57:Option Addr} {sl57:Array (Option Value)} {oc57 kV57 dc57 pm57 cd57 ct57:Value}
  {C58 f58:Addr} {od58 an58:Option Addr} {sl58:Array (Option Value)} {oc58 kV58 dc58 pm58 cd58 ct58:Value}
  {C60 f60:Addr} {od60 an60:Option Addr} {sl60:Array (Option Value)} {oc60 kV60 dc60 pm60 cd60 ct60:Value}
  {D60:Addr} {dd60:Option Addr} {ds60:Array (Option Value)} {dcl60:Value} {dn60:Nat}
  {C61 f61:Addr} {od61 an61:Option Addr} {sl61:Array (Option Value)} {oc61 kV61 dc61 pm61 cd61 ct61:Value}
  {C62 f62:Addr} {od62 an62:Option Addr} {sl62:Array (Option Value)} {oc62 kV62 dc62 pm62 cd62 ct62:Value}
  {C63 f63:Addr} {od63 an63:Option Addr} {sl63:Array (Option Value)} {oc63 kV63 dc63 pm63 cd63 ct63:Value}
  {CX_NoWay:Addr}
  {CX_NoPart:Addr}
  {CX_BadWheel:Addr}
  {CX_BadMarks:Addr}
  {CX_TooGreat:Addr}
  {CX_OtherGroup:Addr}
  {CX_OtherWheel:Addr}
  {CX_BookError:Addr}
  {CX_NotSteady:Addr}
  {CX_NoMove:Addr}
  {CX_NotKept:Addr}
  {CX_BadSize:Addr}
  {CX_Stranger:Addr}
  {CX_NoUnit:Addr}
  {CX_NoBack:Addr}
  {CX_NotTogether:Addr}
  {iN:Tok}
  {iE:Tok}
  {iK:Tok}
  (a1:LW K LX "group_of" = some (some (.ref f1))) (l1:K.lookup f1=some ⟨oc1,od1,.func (L8 "group_of" "group_of" (aJ iw) (ax iw) (af iw) .none kV1 dc1 pm1 an1 cd1 ct1),sl1⟩) (c1:L5 K cd1 "group_of" = true) (k1:LV K (.ref f1)=true)
  (a2:LW K LX "check_size" = some (some (.ref f2))) (l2:K.lookup f2=some ⟨oc2,od2,.func (L8 "check_size" "check_size" (aJ gJ) (ax gJ) (af gJ) .none kV2 dc2 pm2 an2 cd2 ct2),sl2⟩) (c2:L5 K cd2 "check_size" = true) (k2:LV K (.ref f2)=true)
  (a3:LW K LX "check_strangers" = some (some (.ref f3))) (l3:K.lookup f3=some ⟨oc3,od3,.func (L8 "check_strangers" "check_strangers" (aJ dv) (ax dv) (af dv) .none kV3 dc3 pm3 an3 cd3 ct3),sl3⟩) (c3:L5 K cd3 "check_strangers" = true) (k3:LV K (.ref f3)=true)
  (a4:LW K LX "unit_of" = some (some (.ref f4))) (l4:K.lookup f4=some ⟨oc4,od4,.func (L8 "unit_of" "unit_of" (aJ kN) (ax kN) (af kN) .none kV4 dc4 pm4 an4 cd4 ct4),sl4⟩) (c4:L5 K cd4 "unit_of" = true) (k4:LV K (.ref f4)=true)
  (a5:LW K LX "leaves_all" = some (some (.ref f5))) (l5:K.lookup f5=some ⟨oc5,od5,.func (L8 "leaves_all" "leaves_all" (aJ hV) (ax hV) (af hV) .none kV5 dc5 pm5 an5 cd5 ct5),sl5⟩) (c5:L5 K cd5 "leaves_all" = true) (k5:LV K (.ref f5)=true)
  (a6:LW K LX "backs_of" = some (some (.ref f6))) (l6:K.lookup f6=some ⟨oc6,od6,.func (L8 "backs_of" "backs_of" (aJ ik) (ax ik) (af ik) .none kV6 dc6 pm6 an6 cd6 ct6),sl6⟩) (c6:L5 K cd6 "backs_of" = true) (k6:LV K (.ref f6)=true)
  (a7:LW K LX "back_of" = some (some (.ref f7))) (l7:K.lookup f7=some ⟨oc7,od7,.func (L8 "back_of" "back_of" (aJ kW) (ax kW) (af kW) .none kV7 dc7 pm7 an7 cd7 ct7),sl7⟩) (c7:L5 K cd7 "back_of" = true) (k7:LV K (.ref f7)=true)
  (a8:LW K LX "check_together" = some (some (.ref f8))) (l8:K.lookup f8=some ⟨oc8,od8,.func (L8 "check_together" "check_together" (aJ dE) (ax dE) (af dE) .none kV8 dc8 pm8 an8 cd8 ct8),sl8⟩) (c8:L5 K cd8 "check_together" = true) (k8:LV K (.ref f8)=true)
  (a9:LW K LX "order" = some (some (.ref f9))) (l9:K.lookup f9=some ⟨oc9,od9,.func (L8 "order" "order" (aJ nD) (ax nD) (af nD) .none kV9 dc9 pm9 an9 cd9 ct9),sl9⟩) (c9:L5 K cd9 "order" = true) (k9:LV K (.ref f9)=true)
  (a10:LW K LX "turns" = some (some (.ref f10))) (l10:K.lookup f10=some ⟨oc10,od10,.func (L8 "turns" "turns" (aJ kG) (ax kG) (af kG) .none kV10 dc10 pm10 an10 cd10 ct10),sl10⟩) (c10:L5 K cd10 "turns" = true) (k10:LV K (.ref f10)=true)
  (a11:LW K LX "check_part" = some (some (.ref f11))) (l11:K.lookup f11=some ⟨oc11,od11,.func (L8 "check_part" "check_part" (aJ hX) (ax hX) (af hX) .none kV11 dc11 pm11 an11 cd11 ct11),sl11⟩) (c11:L5 K cd11 "check_part" = true) (k11:LV K (.ref f11)=true)
  (a12:LW K LX "is_part" = some (some (.ref f12))) (l12:K.lookup f12=some ⟨oc12,od12,.func (L8 "is_part" "is_part" (aJ kX) (ax kX) (af kX) .none kV12 dc12 pm12 an12 cd12 ct12),sl12⟩) (c12:L5 K cd12 "is_part" = true) (k12:LV K (.ref f12)=true)
  (a13:LW K LX "all_things" = some (some (.ref f13))) (l13:K.lookup f13=some ⟨oc13,od13,.func (L8 "all_things" "all_things" (aJ fJ) (ax fJ) (af fJ) .none kV13 dc13 pm13 an13 cd13 ct13),sl13⟩) (c13:L5 K cd13 "all_things" = true) (k13:LV K (.ref f13)=true)
  (a14:LW K LX "rises" = some (some (.ref f14))) (l14:K.lookup f14=some ⟨oc14,od14,.func (L8 "rises" "rises" (aJ mq) (ax mq) (af mq) .none kV14 dc14 pm14 an14 cd14 ct14),sl14⟩) (c14:L5 K cd14 "rises" = true) (k14:LV K (.ref f14)=true)
  (a15:LW K LX "holds_products" = some (some (.ref f15))) (l15:K.lookup f15=some ⟨oc15,od15,.func (L8 "holds_products" "holds_products" (aJ dF) (ax dF) (af dF) .none kV15 dc15 pm15 an15 cd15 ct15),sl15⟩) (c15:L5 K cd15 "holds_products" = true) (k15:LV K (.ref f15)=true)
  (a16:LW K LX "sides" = some (some (.ref f16))) (l16:K.lookup f16=some ⟨oc16,od16,.func (L8 "sides" "sides" (aJ kL) (ax kL) (af kL) .none kV16 dc16 pm16 an16 cd16 ct16),sl16⟩) (c16:L5 K cd16 "sides" = true) (k16:LV K (.ref f16)=true)
  (a17:LW K LX "side_of" = some (some (.ref f17))) (l17:K.lookup f17=some ⟨oc17,od17,.func (L8 "side_of" "side_of" (aJ jv) (ax jv) (af jv) .none kV17 dc17 pm17 an17 cd17 ct17),sl17⟩) (c17:L5 K cd17 "side_of" = true) (k17:LV K (.ref f17)=true)
  (a18:LW K LX "carriers_of" = some (some (.ref f18))) (l18:K.lookup f18=some ⟨oc18,od18,.func (L8 "carriers_of" "carriers_of" (aJ eD) (ax eD) (af eD) .none kV18 dc18 pm18 an18 cd18 ct18),sl18⟩) (c18:L5 K cd18 "carriers_of" = true) (k18:LV K (.ref f18)=true)
  (a19:LW K LX "inner" = some (some (.ref f19))) (l19:K.lookup f19=some ⟨oc19,od19,.func (L8 "inner" "inner" (aJ lX) (ax lX) (af lX) .none kV19 dc19 pm19 an19 cd19 ct19),sl19⟩) (c19:L5 K cd19 "inner" = true) (k19:LV K (.ref f19)=true)
  (a20:LW K LX "check_spokes" = some (some (.ref f20))) (l20:K.lookup f20=some ⟨oc20,od20,.func (L8 "check_spokes" "check_spokes" (aJ fm) (ax fm) (af fm) .none kV20 dc20 pm20 an20 cd20 ct20),sl20⟩) (c20:L5 K cd20 "check_spokes" = true) (k20:LV K (.ref f20)=true)
  (a21:LW K LX "serving" = some (some (.ref f21))) (l21:K.lookup f21=some ⟨oc21,od21,.func (L8 "serving" "serving" (aJ kQ) (ax kQ) (af kQ) .none kV21 dc21 pm21 an21 cd21 ct21),sl21⟩) (c21:L5 K cd21 "serving" = true) (k21:LV K (.ref f21)=true)
  (a22:LW K LX "check_marks" = some (some (.ref f22))) (l22:K.lookup f22=some ⟨oc22,od22,.func (L8 "check_marks" "check_marks" (aJ eI) (ax eI) (af eI) .none kV22 dc22 pm22 an22 cd22 ct22),sl22⟩) (c22:L5 K cd22 "check_marks" = true) (k22:LV K (.ref f22)=true)
  (a23:LW K LX "first_break" = some (some (.ref f23))) (l23:K.lookup f23=some ⟨oc23,od23,.func (L8 "first_break" "first_break" (aJ fS) (ax fS) (af fS) (.ref D23) kV23 dc23 pm23 an23 cd23 ct23),sl23⟩) (c23:L5 K cd23 "first_break" = true) (k23:LV K (.ref f23)=true) (e23:K.lookup D23=some ⟨dcl23,dd23,.seq #[.none] dn23,ds23⟩)
  (a24:LW K LX "check_way" = some (some (.ref f24))) (l24:K.lookup f24=some ⟨oc24,od24,.func (L8 "check_way" "check_way" (aJ iS) (ax iS) (af iS) .none kV24 dc24 pm24 an24 cd24 ct24),sl24⟩) (c24:L5 K cd24 "check_way" = true) (k24:LV K (.ref f24)=true)
  (a25:LW K LX "check_alike" = some (some (.ref f25))) (l25:K.lookup f25=some ⟨oc25,od25,.func (L8 "check_alike" "check_alike" (aJ fQ) (ax fQ) (af fQ) .none kV25 dc25 pm25 an25 cd25 ct25),sl25⟩) (c25:L5 K cd25 "check_alike" = true) (k25:LV K (.ref f25)=true)
  (a26:LW K LX "check_places" = some (some (.ref f26))) (l26:K.lookup f26=some ⟨oc26,od26,.func (L8 "check_places" "check_places" (aJ fj) (ax fj) (af fj) .none kV26 dc26 pm26 an26 cd26 ct26),sl26⟩) (c26:L5 K cd26 "check_places" = true) (k26:LV K (.ref f26)=true)
  (a27:LW K LX "side_moves" = some (some (.ref f27))) (l27:K.lookup f27=some ⟨oc27,od27,.func (L8 "side_moves" "side_moves" (aJ fD) (ax fD) (af fD) .none kV27 dc27 pm27 an27 cd27 ct27),sl27⟩) (c27:L5 K cd27 "side_moves" = true) (k27:LV K (.ref f27)=true)
  (a28:LW K LX "behind" = some (some (.ref f28))) (l28:K.lookup f28=some ⟨oc28,od28,.func (L8 "behind" "behind" (aJ kE) (ax kE) (af kE) .none kV28 dc28 pm28 an28 cd28 ct28),sl28⟩) (c28:L5 K cd28 "behind" = true) (k28:LV K (.ref f28)=true)
  (a29:LW K LX "paired" = some (some (.ref f29))) (l29:K.lookup f29=some ⟨oc29,od29,.func (L8 "paired" "paired" (aJ mn) (ax mn) (af mn) .none kV29 dc29 pm29 an29 cd29 ct29),sl29⟩) (c29:L5 K cd29 "paired" = true) (k29:LV K (.ref f29)=true)
  (a30:LW K LX "raised_moves" = some (some (.ref f30))) (l30:K.lookup f30=some ⟨oc30,od30,.func (L8 "raised_moves" "raised_moves" (aJ fv) (ax fv) (af fv) .none kV30 dc30 pm30 an30 cd30 ct30),sl30⟩) (c30:L5 K cd30 "raised_moves" = true) (k30:LV K (.ref f30)=true)
  (a31:LW K LX "_law_cell" = some (some (.ref f31))) (l31:K.lookup f31=some ⟨oc31,od31,.func (L8 "_law_cell" "_law_cell" (aJ jU) (ax jU) (af jU) .none kV31 dc31 pm31 an31 cd31 ct31),sl31⟩) (c31:L5 K cd31 "_law_cell" = true) (k31:LV K (.ref f31)=true)
  (a32:LW K LX "_law_sizes" = some (some (.ref f32))) (l32:K.lookup f32=some ⟨oc32,od32,.func (L8 "_law_sizes" "_law_sizes" (aJ iT) (ax iT) (af iT) .none kV32 dc32 pm32 an32 cd32 ct32),sl32⟩) (c32:L5 K cd32 "_law_sizes" = true) (k32:LV K (.ref f32)=true)
  (a33:LW K LX "_law_kind" = some (some (.ref f33))) (l33:K.lookup f33=some ⟨oc33,od33,.func (L8 "_law_kind" "_law_kind" (aJ jH) (ax jH) (af jH) .none kV33 dc33 pm33 an33 cd33 ct33),sl33⟩) (c33:L5 K cd33 "_law_kind" = true) (k33:LV K (.ref f33)=true)
  (a34:LW K LX "_law_unit" = some (some (.ref f34))) (l34:K.lookup f34=some ⟨oc34,od34,.func (L8 "_law_unit" "_law_unit" (aJ jT) (ax jT) (af jT) .none kV34 dc34 pm34 an34 cd34 ct34),sl34⟩) (c34:L5 K cd34 "_law_unit" = true) (k34:LV K (.ref f34)=true)
  (a35:LW K LX "_law_turned" = some (some (.ref f35))) (l35:K.lookup f35=some ⟨oc35,od35,.func (L8 "_law_turned" "_law_turned" (aJ gR) (ax gR) (af gR) .none kV35 dc35 pm35 an35 cd35 ct35),sl35⟩) (c35:L5 K cd35 "_law_turned" = true) (k35:LV K (.ref f35)=true)
  (a36:LW K LX "_law_sum" = some (some (.ref f36))) (l36:K.lookup f36=some ⟨oc36,od36,.func (L8 "_law_sum" "_law_sum" (aJ kK) (ax kK) (af kK) .none kV36 dc36 pm36 an36 cd36 ct36),sl36⟩) (c36:L5 K cd36 "_law_sum" = true) (k36:LV K (.ref f36)=true)
  (a37:LW K LX "_law_rows" = some (some (.ref f37))) (l37:K.lookup f37=some ⟨oc37,od37,.func (L8 "_law_rows" "_law_rows" (aJ ij) (ax ij) (af ij) .none kV37 dc37 pm37 an37 cd37 ct37),sl37⟩) (c37:L5 K cd37 "_law_rows" = true) (k37:LV K (.ref f37)=true)
  (a38:LW K LX "_law_names" = some (some (.ref f38))) (l38:K.lookup f38=some ⟨oc38,od38,.func (L8 "_law_names" "_law_names" (aJ iV) (ax iV) (af iV) .none kV38 dc38 pm38 an38 cd38 ct38),sl38⟩) (c38:L5 K cd38 "_law_names" = true) (k38:LV K (.ref f38)=true)
  (a39:LW K LX "_law_group" = some (some (.ref f39))) (l39:K.lookup f39=some ⟨oc39,od39,.func (L8 "_law_group" "_law_group" (aJ eZ) (ax eZ) (af eZ) .none kV39 dc39 pm39 an39 cd39 ct39),sl39⟩) (c39:L5 K cd39 "_law_group" = true) (k39:LV K (.ref f39)=true)
  (a40:LW K LX "_law_one" = some (some (.ref f40))) (l40:K.lookup f40=some ⟨oc40,od40,.func (L8 "_law_one" "_law_one" (aJ jr) (ax jr) (af jr) .none kV40 dc40 pm40 an40 cd40 ct40),sl40⟩) (c40:L5 K cd40 "_law_one" = true) (k40:LV K (.ref f40)=true)
  (a41:LW K LX "_law_thing" = some (some (.ref f41))) (l41:K.lookup f41=some ⟨oc41,od41,.func (L8 "_law_thing" "_law_thing" (aJ iR) (ax iR) (af iR) .none kV41 dc41 pm41 an41 cd41 ct41),sl41⟩) (c41:L5 K cd41 "_law_thing" = true) (k41:LV K (.ref f41)=true)
  (a42:LW K LX "_law_closed" = some (some (.ref f42))) (l42:K.lookup f42=some ⟨oc42,od42,.func (L8 "_law_closed" "_law_closed" (aJ gK) (ax gK) (af gK) .none kV42 dc42 pm42 an42 cd42 ct42),sl42⟩) (c42:L5 K cd42 "_law_closed" = true) (k42:LV K (.ref f42)=true)
  (a43:LW K LX "_law_turns" = some (some (.ref f43))) (l43:K.lookup f43=some ⟨oc43,od43,.func (L8 "_law_turns" "_law_turns" (aJ eY) (ax eY) (af eY) .none kV43 dc43 pm43 an43 cd43 ct43),sl43⟩) (c43:L5 K cd43 "_law_turns" = true) (k43:LV K (.ref f43)=true)
  (a44:LW K LX "_law_is_part" = some (some (.ref f44))) (l44:K.lookup f44=some ⟨oc44,od44,.func (L8 "_law_is_part" "_law_is_part" (aJ eA) (ax eA) (af eA) .none kV44 dc44 pm44 an44 cd44 ct44),sl44⟩) (c44:L5 K cd44 "_law_is_part" = true) (k44:LV K (.ref f44)=true)
  (a45:LW K LX "_law_inner" = some (some (.ref f45))) (l45:K.lookup f45=some ⟨oc45,od45,.func (L8 "_law_inner" "_law_inner" (aJ gk) (ax gk) (af gk) .none kV45 dc45 pm45 an45 cd45 ct45),sl45⟩) (c45:L5 K cd45 "_law_inner" = true) (k45:LV K (.ref f45)=true)
  (a46:LW K LX "_law_flags" = some (some (.ref f46))) (l46:K.lookup f46=some ⟨oc46,od46,.func (L8 "_law_flags" "_law_flags" (aJ i4) (ax i4) (af i4) .none kV46 dc46 pm46 an46 cd46 ct46),sl46⟩) (c46:L5 K cd46 "_law_flags" = true) (k46:LV K (.ref f46)=true)
  (a47:LW K LX "_law_only" = some (some (.ref f47))) (l47:K.lookup f47=some ⟨oc47,od47,.func (L8 "_law_only" "_law_only" (aJ ix) (ax ix) (af ix) .none kV47 dc47 pm47 an47 cd47 ct47),sl47⟩) (c47:L5 K cd47 "_law_only" = true) (k47:LV K (.ref f47)=true)
  (a48:LW K LX "_law_sized" = some (some (.ref f48))) (l48:K.lookup f48=some ⟨oc48,od48,.func (L8 "_law_sized" "_law_sized" (aJ gA) (ax gA) (af gA) .none kV48 dc48 pm48 an48 cd48 ct48),sl48⟩) (c48:L5 K cd48 "_law_sized" = true) (k48:LV K (.ref f48)=true)
  (a49:LW K LX "_law_sizes_by" = some (some (.ref f49))) (l49:K.lookup f49=some ⟨oc49,od49,.func (L8 "_law_sizes_by" "_law_sizes_by" (aJ fk) (ax fk) (af fk) .none kV49 dc49 pm49 an49 cd49 ct49),sl49⟩) (c49:L5 K cd49 "_law_sizes_by" = true) (k49:LV K (.ref f49)=true)
  (a50:LW K LX "_law_both" = some (some (.ref f50))) (l50:K.lookup f50=some ⟨oc50,od50,.func (L8 "_law_both" "_law_both" (aJ jF) (ax jF) (af jF) .none kV50 dc50 pm50 an50 cd50 ct50),sl50⟩) (c50:L5 K cd50 "_law_both" = true) (k50:LV K (.ref f50)=true)
  (a51:LW K LX "_law_paired" = some (some (.ref f51))) (l51:K.lookup f51=some ⟨oc51,od51,.func (L8 "_law_paired" "_law_paired" (aJ gW) (ax gW) (af gW) .none kV51 dc51 pm51 an51 cd51 ct51),sl51⟩) (c51:L5 K cd51 "_law_paired" = true) (k51:LV K (.ref f51)=true)
  (a52:LW K LX "_law_lifted_up" = some (some (.ref f52))) (l52:K.lookup f52=some ⟨oc52,od52,.func (L8 "_law_lifted_up" "_law_lifted_up" (aJ dZ) (ax dZ) (af dZ) .none kV52 dc52 pm52 an52 cd52 ct52),sl52⟩) (c52:L5 K cd52 "_law_lifted_up" = true) (k52:LV K (.ref f52)=true)
  (a53:LW K LX "_law_met" = some (some (.ref f53))) (l53:K.lookup f53=some ⟨oc53,od53,.func (L8 "_law_met" "_law_met" (aJ lh) (ax lh) (af lh) .none kV53 dc53 pm53 an53 cd53 ct53),sl53⟩) (c53:L5 K cd53 "_law_met" = true) (k53:LV K (.ref f53)=true)
  (a54:LW K LX "_law_pairs" = some (some (.ref f54))) (l54:K.lookup f54=some ⟨oc54,od54,.func (L8 "_law_pairs" "_law_pairs" (aJ iZ) (ax iZ) (af iZ) .none kV54 dc54 pm54 an54 cd54 ct54),sl54⟩) (c54:L5 K cd54 "_law_pairs" = true) (k54:LV K (.ref f54)=true)
  (a55:LW K LX "_law_raising" = some (some (.ref f55))) (l55:K.lookup f55=some ⟨oc55,od55,.func (L8 "_law_raising" "_law_raising" (aJ ee) (ax ee) (af ee) .none kV55 dc55 pm55 an55 cd55 ct55),sl55⟩) (c55:L5 K cd55 "_law_raising" = true) (k55:LV K (.ref f55)=true)
  (a56:LW K LX "law" = some (some (.ref f56))) (l56:K.lookup f56=some ⟨oc56,od56,.func (L8 "law" "law" (aJ lC) (ax lC) (af lC) .none kV56 dc56 pm56 an56 cd56 ct56),sl56⟩) (c56:L5 K cd56 "law" = true) (k56:LV K (.ref f56)=true)
  (aC57:LW K LX "Group" = some (some (.ref C57))) (a57:L4 K (.ref C57) "__init__" = some (some (.ref f57))) (i57:N6 K (.ref f57)=true) (l57:K.lookup f57=some ⟨oc57,od57,.func (L8 "__init__" "Group.__init__" (aJ g0) (ax g0) (af g0) .none kV57 dc57 pm57 an57 cd57 ct57),sl57⟩) (c57:L5 K cd57 "Group.__init__" = true) (k57:LV K (.ref f57)=true) (pg57:NC K C57 Qv=true) (hd57:Nl K C57=true) (po57:N0 K C57=true) (sa57:L4 K (.ref C57) "__setattr__" = some (some (.builtin "object.__setattr__"))) (mk57:Og K C57=true) (kc57:LV K (.ref C57)=true)
  (n57_many:L4 K (.ref C57) "many" = some none)
  (n57_rows:L4 K (.ref C57) "rows" = some none)
  (n57_unit:L4 K (.ref C57) "unit" = some none)
  (n57_backs:L4 K (.ref C57) "backs" = some none)
  (aC58:LW K LX "Way" = some (some (.ref C58))) (a58:L4 K (.ref C58) "__init__" = some (some (.ref f58))) (i58:N6 K (.ref f58)=true) (l58:K.lookup f58=some ⟨oc58,od58,.func (L8 "__init__" "Way.__init__" (aJ jD) (ax jD) (af jD) .none kV58 dc58 pm58 an58 cd58 ct58),sl58⟩) (c58:L5 K cd58 "Way.__init__" = true) (k58:LV K (.ref f58)=true) (pg58:NC K C58 Qv=true) (hd58:Nl K C58=true) (po58:N0 K C58=true) (sa58:L4 K (.ref C58) "__setattr__" = some (some (.builtin "object.__setattr__"))) (mk58:Og K C58=true) (kc58:LV K (.ref C58)=true)
  (ug58:OV K (.ref C58) "__getattribute__" = some (some (.builtin "type.__getattribute__"))) (ur58:PySem.W.readsIn K C58 (.type "type")=true) (uf58:PySem.W.findCls K (.ref C58) (.type "type") "__init__" = some (.val (.ref f58)))
  (n58_group:L4 K (.ref C58) "group" = some none)
  (n58_spokes:L4 K (.ref C58) "spokes" = some none)
  (n58_size:L4 K (.ref C58) "size" = some none)
  (n58_deeds:L4 K (.ref C58) "deeds" = some none)
  (a59:L4 K (.ref C58) "moves" = some (some (.ref f59))) (i59:N6 K (.ref f59)=true) (l59:K.lookup f59=some ⟨oc59,od59,.func (L8 "moves" "Way.moves" (aJ iW) (ax iW) (af iW) .none kV59 dc59 pm59 an59 cd59 ct59),sl59⟩) (c59:L5 K cd59 "Way.moves" = true) (k59:LV K (.ref f59)=true)
  (aC60:LW K LX "Lifted" = some (some (.ref C60))) (a60:L4 K (.ref C60) "__init__" = some (some (.ref f60))) (i60:N6 K (.ref f60)=true) (l60:K.lookup f60=some ⟨oc60,od60,.func (L8 "__init__" "Lifted.__init__" (aJ eE) (ax eE) (af eE) (.ref D60) kV60 dc60 pm60 an60 cd60 ct60),sl60⟩) (c60:L5 K cd60 "Lifted.__init__" = true) (k60:LV K (.ref f60)=true) (pg60:NC K C60 Qv=true) (hd60:Nl K C60=true) (po60:N0 K C60=true) (sa60:L4 K (.ref C60) "__setattr__" = some (some (.builtin "object.__setattr__"))) (mk60:Og K C60=true) (kc60:LV K (.ref C60)=true) (e60:K.lookup D60=some ⟨dcl60,dd60,.seq #[.none] dn60,ds60⟩)
  (v60_moves:L4 K (.ref C60) "moves" = some (some (.ref f59)))
  (n60_part:L4 K (.ref C60) "part" = some none)
  (n60_marks:L4 K (.ref C60) "marks" = some none)
  (n60_group:L4 K (.ref C60) "group" = some none)
  (n60_spokes:L4 K (.ref C60) "spokes" = some none)
  (n60_size:L4 K (.ref C60) "size" = some none)
  (n60_deeds:L4 K (.ref C60) "deeds" = some none)
  (aC61:LW K LX "Beside" = some (some (.ref C61))) (a61:L4 K (.ref C61) "__init__" = some (some (.ref f61))) (i61:N6 K (.ref f61)=true) (l61:K.lookup f61=some ⟨oc61,od61,.func (L8 "__init__" "Beside.__init__" (aJ ei) (ax ei) (af ei) .none kV61 dc61 pm61 an61 cd61 ct61),sl61⟩) (c61:L5 K cd61 "Beside.__init__" = true) (k61:LV K (.ref f61)=true) (pg61:NC K C61 Qv=true) (hd61:Nl K C61=true) (po61:N0 K C61=true) (sa61:L4 K (.ref C61) "__setattr__" = some (some (.builtin "object.__setattr__"))) (mk61:Og K C61=true) (kc61:LV K (.ref C61)=true)
  (v61_moves:L4 K (.ref C61) "moves" = some (some (.ref f59)))
  (n61_group:L4 K (.ref C61) "group" = some none)
  (n61_spokes:L4 K (.ref C61) "spokes" = some none)
  (n61_size:L4 K (.ref C61) "size" = some none)
  (n61_deeds:L4 K (.ref C61) "deeds" = some none)
  (aC62:LW K LX "Crossed" = some (some (.ref C62))) (a62:L4 K (.ref C62) "__init__" = some (some (.ref f62))) (i62:N6 K (.ref f62)=true) (l62:K.lookup f62=some ⟨oc62,od62,.func (L8 "__init__" "Crossed.__init__" (aJ dM) (ax dM) (af dM) .none kV62 dc62 pm62 an62 cd62 ct62),sl62⟩) (c62:L5 K cd62 "Crossed.__init__" = true) (k62:LV K (.ref f62)=true) (pg62:NC K C62 Qv=true) (hd62:Nl K C62=true) (po62:N0 K C62=true) (sa62:L4 K (.ref C62) "__setattr__" = some (some (.builtin "object.__setattr__"))) (mk62:Og K C62=true) (kc62:LV K (.ref C62)=true)
  (v62_moves:L4 K (.ref C62) "moves" = some (some (.ref f59)))
  (n62_group:L4 K (.ref C62) "group" = some none)
  (n62_spokes:L4 K (.ref C62) "spokes" = some none)
  (n62_size:L4 K (.ref C62) "size" = some none)
  (n62_deeds:L4 K (.ref C62) "deeds" = some none)
  (aC63:LW K LX "Raised" = some (some (.ref C63))) (a63:L4 K (.ref C63) "__init__" = some (some (.ref f63))) (i63:N6 K (.ref f63)=true) (l63:K.lookup f63=some ⟨oc63,od63,.func (L8 "__init__" "Raised.__init__" (aJ ef) (ax ef) (af ef) .none kV63 dc63 pm63 an63 cd63 ct63),sl63⟩) (c63:L5 K cd63 "Raised.__init__" = true) (k63:LV K (.ref f63)=true) (pg63:NC K C63 Qv=true) (hd63:Nl K C63=true) (po63:N0 K C63=true) (sa63:L4 K (.ref C63) "__setattr__" = some (some (.builtin "object.__setattr__"))) (mk63:Og K C63=true) (kc63:LV K (.ref C63)=true)
  (v63_moves:L4 K (.ref C63) "moves" = some (some (.ref f59)))
  (n63_group:L4 K (.ref C63) "group" = some none)
  (n63_spokes:L4 K (.ref C63) "spokes" = some none)
  (n63_size:L4 K (.ref C63) "size" = some none)
  (n63_deeds:L4 K (.ref C63) "deeds" = some none)
  (aX_NoWay:LW K LX "NoWay" = some (some (.ref CX_NoWay))) (a64:L4 K (.ref CX_NoWay) "__init__" = some (some (.ref f64))) (i64:N6 K (.ref f64)=true) (l64:K.lookup f64=some ⟨oc64,od64,.func (L8 "__init__" "NoWay.__init__" (aJ jz) (ax jz) (af jz) .none kV64 dc64 pm64 an64 cd64 ct64),sl64⟩) (c64:L5 K cd64 "NoWay.__init__" = true) (k64:LV K (.ref f64)=true) (hd64:Nl K CX_NoWay=true) (sa64:L4 K (.ref CX_NoWay) "__setattr__" = some (some (.builtin "object.__setattr__"))) (kc64:LV K (.ref CX_NoWay)=true) (ob64:Ik K CX_NoWay=true) (ov64:HZ K CX_NoWay=true)
  (n64_one:L4 K (.ref CX_NoWay) "one" = some none)
  (n64_two:L4 K (.ref CX_NoWay) "two" = some none)
  (aX_NoPart:LW K LX "NoPart" = some (some (.ref CX_NoPart)))
  (aX_BadWheel:LW K LX "BadWheel" = some (some (.ref CX_BadWheel)))
  (aX_BadMarks:LW K LX "BadMarks" = some (some (.ref CX_BadMarks)))
  (aX_TooGreat:LW K LX "TooGreat" = some (some (.ref CX_TooGreat)))
  (aX_OtherGroup:LW K LX "OtherGroup" = some (some (.ref CX_OtherGroup)))
  (aX_OtherWheel:LW K LX "OtherWheel" = some (some (.ref CX_OtherWheel)))
  (aX_BookError:LW K LX "BookError" = some (some (.ref CX_BookError)))
  (aX_NotSteady:LW K LX "NotSteady" = some (some (.ref CX_NotSteady)))
  (aX_NoMove:LW K LX "NoMove" = some (some (.ref CX_NoMove)))
  (aX_NotKept:LW K LX "NotKept" = some (some (.ref CX_NotKept)))
  (aX_BadSize:LW K LX "BadSize" = some (some (.ref CX_BadSize)))
  (aX_Stranger:LW K LX "Stranger" = some (some (.ref CX_Stranger)))
  (aX_NoUnit:LW K LX "NoUnit" = some (some (.ref CX_NoUnit)))
  (aX_NoBack:LW K LX "NoBack" = some (some (.ref CX_NoBack)))
  (aX_NotTogether:LW K LX "NotTogether" = some (some (.ref CX_NotTogether)))
  (mB:Nf K CX_NoPart bmV kA=true)
  (lZ:cb K CX_NoPart)
  (iu:Nf K CX_BadWheel bmV kA=true)
  (jJ:cb K CX_BadWheel)
  (lO:Nf K CX_BadMarks bmV kA=true)
  (lQ:cb K CX_BadMarks)
  (pE:cb K CX_NoWay)
  (w_get:OV K (.builtin "object.__class__") "__get__" = some (some (.builtin "getset_descriptor.__get__")))
  (vk:RF K (.builtin "object.__class__")=some true)
  (pK:L4 K (.ref C62) "__class__" = some (some (.builtin "object.__class__")))
  (pX:N3 K C62 (.type "object")=some true)
  (pT:MH K (.ref C62) (.ref C58)=some true)
  (pz:L4 K (.ref C60) "__class__" = some (some (.builtin "object.__class__")))
  (pY:N3 K C60 (.type "object")=some true)
  (pV:MH K (.ref C60) (.ref C58)=some true)
  (pW:L4 K (.ref C61) "__class__" = some (some (.builtin "object.__class__")))
  (pA:N3 K C61 (.type "object")=some true)
  (qu:MH K (.ref C61) (.ref C58)=some true)
  (qt:L4 K (.ref C63) "__class__" = some (some (.builtin "object.__class__")))
  (qf:N3 K C63 (.type "object")=some true)
  (qj:MH K (.ref C63) (.ref C58)=some true)
  (jV:Nf K CX_TooGreat bmV kA=true)
  (fF:Nf K CX_OtherGroup bmV kA=true)
  (gU:cb K CX_OtherGroup)
  (gX:Nf K CX_OtherWheel bmV kA=true)
  (gQ:cb K CX_OtherWheel)
  (jO:cb K CX_TooGreat)
  (mC:M6 K (.ref CX_NoPart) (.ref CX_BookError)=some true)
  (jR:M6 K (.ref CX_BadWheel) (.ref CX_BookError)=some true)
  (dR:M6 K (.ref CX_OtherGroup) (.ref CX_BookError)=some true)
  (fA:M6 K (.ref CX_OtherWheel) (.ref CX_BookError)=some true)
  (gh:M6 K (.ref CX_TooGreat) (.ref CX_BookError)=some true)
  (mh:MH K (.ref CX_NoPart) (.type "ValueError")=some true)
  (jK:MH K (.ref CX_BadWheel) (.type "ValueError")=some true)
  (gS:MH K (.ref CX_OtherGroup) (.type "ValueError")=some true)
  (gD:MH K (.ref CX_OtherWheel) (.type "ValueError")=some true)
  (jI:MH K (.ref CX_TooGreat) (.type "ValueError")=some true)
  (mG:flagsOf K CX_NoPart [CX_NoPart,CX_NotSteady,CX_BadWheel,CX_NoMove,CX_BadMarks,CX_NoWay,CX_OtherGroup,CX_OtherWheel,CX_TooGreat,CX_NotKept,CX_BadSize,CX_Stranger,CX_NoUnit,CX_NoBack,CX_NotTogether]=(j6 15 0).map some)
  (jM:flagsOf K CX_BadWheel [CX_NoPart,CX_NotSteady,CX_BadWheel,CX_NoMove,CX_BadMarks,CX_NoWay,CX_OtherGroup,CX_OtherWheel,CX_TooGreat,CX_NotKept,CX_BadSize,CX_Stranger,CX_NoUnit,CX_NoBack,CX_NotTogether]=(j6 15 2).map some)
  (gY:flagsOf K CX_OtherGroup [CX_NoPart,CX_NotSteady,CX_BadWheel,CX_NoMove,CX_BadMarks,CX_NoWay,CX_OtherGroup,CX_OtherWheel,CX_TooGreat,CX_NotKept,CX_BadSize,CX_Stranger,CX_NoUnit,CX_NoBack,CX_NotTogether]=(j6 15 6).map some)
  (g8:flagsOf K CX_OtherWheel [CX_NoPart,CX_NotSteady,CX_BadWheel,CX_NoMove,CX_BadMarks,CX_NoWay,CX_OtherGroup,CX_OtherWheel,CX_TooGreat,CX_NotKept,CX_BadSize,CX_Stranger,CX_NoUnit,CX_NoBack,CX_NotTogether]=(j6 15 7).map some)
  (jL:flagsOf K CX_TooGreat [CX_NoPart,CX_NotSteady,CX_BadWheel,CX_NoMove,CX_BadMarks,CX_NoWay,CX_OtherGroup,CX_OtherWheel,CX_TooGreat,CX_NotKept,CX_BadSize,CX_Stranger,CX_NoUnit,CX_NoBack,CX_NotTogether]=(j6 15 8).map some)
  (eC:LW K LX "MOST_PLACES" = some (some (.int 60 iN)))
  (eF:LW K LX "MOST_SPOKES" = some (some (.int 60 iE)))
  (fO:LW K LX "MOST_THINGS" = some (some (.int 23 iK)))
  (gG:LW K LX "ValueError" = some none)
  (lN:LW K LX "all" = some none)
  (qB:LW K LX "any" = some none)
  (qo:LW K LX "dict" = some none)
  (cY:LW K LX "enumerate" = some none)
  (bq:LW K LX "isinstance" = some none)
  (bI:LW K LX "len" = some none)
  (eM:LW K LX "list" = some none)
  (t7:LW K LX "max" = some none)
  (qA:LW K LX "min" = some none)
  (bj:LW K LX "range" = some none)
  (ue:LW K LX "set" = some none)
  (jq:LW K LX "sorted" = some none)
  (ud:LW K LX "zip" = some none) :
  ∃ fd:MZ,(∀ (s:LU) (v:Value),QU s fd ⟨[v],[]⟩ [("_law_script",v)])/\∀ base:Heap,K.In base->base.Ns LX mg->aI l.prog w K mg base CX0 12 fa fd ["_law_script"] (zy K):=by
 have e:=hfa.symm.trans (LY X G a56);cases e;have F1:=aQ (st:=iw) l1 c1 k1;have b1:=F1.binds (ps:=["table"]) fun _ _ _ _ _ _ us hl=>by obtain ⟨a,rfl⟩:=ky hl;rfl
 have F2:=aQ (st:=gJ) l2 c2 k2;have b2:=F2.binds (ps:=["rows"]) fun _ _ _ _ _ _ us hl=>by obtain ⟨a,rfl⟩:=ky hl;rfl
 have F3:=aQ (st:=dv) l3 c3 k3;have b3:=F3.binds (ps:=["rows"]) fun _ _ _ _ _ _ us hl=>by obtain ⟨a,rfl⟩:=ky hl;rfl
 have F4:=aQ (st:=kN) l4 c4 k4;have b4:=F4.binds (ps:=["rows"]) fun _ _ _ _ _ _ us hl=>by obtain ⟨a,rfl⟩:=ky hl;rfl
 have F5:=aQ (st:=hV) l5 c5 k5;have b5:=F5.binds (ps:=["rows","thing"]) fun _ _ _ _ _ _ us hl=>by obtain ⟨a,b,rfl⟩:=dB hl;rfl
 have F6:=aQ (st:=ik) l6 c6 k6;have b6:=F6.binds (ps:=["rows","unit"]) fun _ _ _ _ _ _ us hl=>by obtain ⟨a,b,rfl⟩:=dB hl;rfl
 have F7:=aQ (st:=kW) l7 c7 k7;have b7:=F7.binds (ps:=["rows","unit","thing"]) fun _ _ _ _ _ _ us hl=>by obtain ⟨a,b,c,rfl⟩:=jX hl;rfl
 have F8:=aQ (st:=dE) l8 c8 k8;have b8:=F8.binds (ps:=["rows"]) fun _ _ _ _ _ _ us hl=>by obtain ⟨a,rfl⟩:=ky hl;rfl
 have F9:=aQ (st:=nD) l9 c9 k9;have b9:=F9.binds (ps:=["group","thing"]) fun _ _ _ _ _ _ us hl=>by obtain ⟨a,b,rfl⟩:=dB hl;rfl
 have F10:=aQ (st:=kG) l10 c10 k10;have b10:=F10.binds (ps:=["group"]) fun _ _ _ _ _ _ us hl=>by obtain ⟨a,rfl⟩:=ky hl;rfl
 have F11:=aQ (st:=hX) l11 c11 k11;have b11:=F11.binds (ps:=["group","some"]) fun _ _ _ _ _ _ us hl=>by obtain ⟨a,b,rfl⟩:=dB hl;rfl
 have F12:=aQ (st:=kX) l12 c12 k12;have b12:=F12.binds (ps:=["group","some"]) fun _ _ _ _ _ _ us hl=>by obtain ⟨a,b,rfl⟩:=dB hl;rfl
 have F13:=aQ (st:=fJ) l13 c13 k13;have b13:=F13.binds (ps:=["group","some"]) fun _ _ _ _ _ _ us hl=>by obtain ⟨a,b,rfl⟩:=dB hl;rfl
 have F14:=aQ (st:=mq) l14 c14 k14;have b14:=F14.binds (ps:=["some"]) fun _ _ _ _ _ _ us hl=>by obtain ⟨a,rfl⟩:=ky hl;rfl
 have F15:=aQ (st:=dF) l15 c15 k15;have b15:=F15.binds (ps:=["group","some"]) fun _ _ _ _ _ _ us hl=>by obtain ⟨a,b,rfl⟩:=dB hl;rfl
 have F16:=aQ (st:=kL) l16 c16 k16;have b16:=F16.binds (ps:=["group","part"]) fun _ _ _ _ _ _ us hl=>by obtain ⟨a,b,rfl⟩:=dB hl;rfl
 have F17:=aQ (st:=jv) l17 c17 k17;have b17:=F17.binds (ps:=["group","part","thing"]) fun _ _ _ _ _ _ us hl=>by obtain ⟨a,b,c,rfl⟩:=jX hl;rfl
 have F18:=aQ (st:=eD) l18 c18 k18;have b18:=F18.binds (ps:=["group","part"]) fun _ _ _ _ _ _ us hl=>by obtain ⟨a,b,rfl⟩:=dB hl;rfl
 have F19:=aQ (st:=lX) l19 c19 k19;have b19:=F19.binds (ps:=["group","part"]) fun _ _ _ _ _ _ us hl=>by obtain ⟨a,b,rfl⟩:=dB hl;rfl
 have F20:=aQ (st:=fm) l20 c20 k20;have b20:=F20.binds (ps:=["many"]) fun _ _ _ _ _ _ us hl=>by obtain ⟨a,rfl⟩:=ky hl;rfl
 have F21:=aQ (st:=kQ) l21 c21 k21;have b21:=F21.binds (ps:=["group","spokes"]) fun _ _ _ _ _ _ us hl=>by obtain ⟨a,b,rfl⟩:=dB hl;rfl
 have F22:=aQ (st:=eI) l22 c22 k22;have b22:=F22.binds (ps:=["part","marks","spokes"]) fun _ _ _ _ _ _ us hl=>by obtain ⟨a,b,c,rfl⟩:=jX hl;rfl
 have F23:=CK (st:=fS) l23 e23 c23 k23;have F24:=aQ (st:=iS) l24 c24 k24;have b24:=F24.binds (ps:=["group","part","marks","spokes"]) fun _ _ _ _ _ _ us hl=>by obtain ⟨a,b,c,d,rfl⟩:=xq hl;rfl
 have F25:=aQ (st:=fQ) l25 c25 k25;have b25:=F25.binds (ps:=["one","other"]) fun _ _ _ _ _ _ us hl=>by obtain ⟨a,b,rfl⟩:=dB hl;rfl
 have F26:=aQ (st:=fj) l26 c26 k26;have b26:=F26.binds (ps:=["many"]) fun _ _ _ _ _ _ us hl=>by obtain ⟨a,rfl⟩:=ky hl;rfl
 have F27:=aQ (st:=fD) l27 c27 k27;have b27:=F27.binds (ps:=["group","part"]) fun _ _ _ _ _ _ us hl=>by obtain ⟨a,b,rfl⟩:=dB hl;rfl
 have F28:=aQ (st:=kE) l28 c28 k28;have b28:=F28.binds (ps:=["moves","many"]) fun _ _ _ _ _ _ us hl=>by obtain ⟨a,b,rfl⟩:=dB hl;rfl
 have F29:=aQ (st:=mn) l29 c29 k29;have b29:=F29.binds (ps:=["moves","others","spokes"]) fun _ _ _ _ _ _ us hl=>by obtain ⟨a,b,c,rfl⟩:=jX hl;rfl
 have F30:=aQ (st:=fv) l30 c30 k30;have b30:=F30.binds (ps:=["moves","way"]) fun _ _ _ _ _ _ us hl=>by obtain ⟨a,b,rfl⟩:=dB hl;rfl
 have F31:=aQ (st:=jU) l31 c31 k31;have b31:=F31.binds (ps:=["_law_script","_law_k"]) fun _ _ _ _ _ _ us hl=>by obtain ⟨a,b,rfl⟩:=dB hl;rfl
 have F32:=aQ (st:=iT) l32 c32 k32;have b32:=F32.binds (ps:=["_law_one_here","_law_two"]) fun _ _ _ _ _ _ us hl=>by obtain ⟨a,b,rfl⟩:=dB hl;rfl
 have F33:=aQ (st:=jH) l33 c33 k33;have b33:=F33.binds (ps:=["_law_sizes_here","_law_number"]) fun _ _ _ _ _ _ us hl=>by obtain ⟨a,b,rfl⟩:=dB hl;rfl
 have F34:=aQ (st:=jT) l34 c34 k34;have b34:=F34.binds (ps:=["_law_many","_law_steps","_law_number"]) fun _ _ _ _ _ _ us hl=>by obtain ⟨a,b,c,rfl⟩:=jX hl;rfl
 have F35:=aQ (st:=gR) l35 c35 k35;have b35:=F35.binds (ps:=["_law_place","_law_sizes_here","_law_kind_here","_law_units"]) fun _ _ _ _ _ _ us hl=>by obtain ⟨a,b,c,d,rfl⟩:=xq hl;rfl
 have F36:=aQ (st:=kK) l36 c36 k36;have b36:=F36.binds (ps:=["_law_one_here","_law_other","_law_sizes_here"]) fun _ _ _ _ _ _ us hl=>by obtain ⟨a,b,c,rfl⟩:=jX hl;rfl
 have F37:=aQ (st:=ij) l37 c37 k37;have b37:=F37.binds (ps:=["_law_sizes_here","_law_turn","_law_end"]) fun _ _ _ _ _ _ us hl=>by obtain ⟨a,b,c,rfl⟩:=jX hl;rfl
 have F38:=aQ (st:=iV) l38 c38 k38;have b38:=F38.binds (ps:=["_law_many","_law_number"]) fun _ _ _ _ _ _ us hl=>by obtain ⟨a,b,rfl⟩:=dB hl;rfl
 have F39:=aQ (st:=eZ) l39 c39 k39;have b39:=F39.binds (ps:=["_law_script","_law_start"]) fun _ _ _ _ _ _ us hl=>by obtain ⟨a,b,rfl⟩:=dB hl;rfl
 have F40:=aQ (st:=jr) l40 c40 k40;have b40:=F40.binds (ps:=["_law_table"]) fun _ _ _ _ _ _ us hl=>by obtain ⟨a,rfl⟩:=ky hl;rfl
 have F41:=aQ (st:=iR) l41 c41 k41;have b41:=F41.binds (ps:=["_law_cell_here","_law_k","_law_many"]) fun _ _ _ _ _ _ us hl=>by obtain ⟨a,b,c,rfl⟩:=jX hl;rfl
 have F42:=aQ (st:=gK) l42 c42 k42;have b42:=F42.binds (ps:=["_law_table","_law_some"]) fun _ _ _ _ _ _ us hl=>by obtain ⟨a,b,rfl⟩:=dB hl;rfl
 have F43:=aQ (st:=eY) l43 c43 k43;have b43:=F43.binds (ps:=["_law_table"]) fun _ _ _ _ _ _ us hl=>by obtain ⟨a,rfl⟩:=ky hl;rfl
 have F44:=aQ (st:=eA) l44 c44 k44;have b44:=F44.binds (ps:=["_law_table","_law_some"]) fun _ _ _ _ _ _ us hl=>by obtain ⟨a,b,rfl⟩:=dB hl;rfl
 have F45:=aQ (st:=gk) l45 c45 k45;have b45:=F45.binds (ps:=["_law_table","_law_part"]) fun _ _ _ _ _ _ us hl=>by obtain ⟨a,b,rfl⟩:=dB hl;rfl
 have F46:=aQ (st:=i4) l46 c46 k46;have b46:=F46.binds (ps:=["_law_met_here"]) fun _ _ _ _ _ _ us hl=>by obtain ⟨a,rfl⟩:=ky hl;rfl
 have F47:=aQ (st:=ix) l47 c47 k47;have b47:=F47.binds (ps:=["_law_met_here","_law_name"]) fun _ _ _ _ _ _ us hl=>by obtain ⟨a,b,rfl⟩:=dB hl;rfl
 have F48:=aQ (st:=gA) l48 c48 k48;have b48:=F48.binds (ps:=["_law_group_here","_law_spokes","_law_size"]) fun _ _ _ _ _ _ us hl=>by obtain ⟨a,b,c,rfl⟩:=jX hl;rfl
 have F49:=aQ (st:=fk) l49 c49 k49;have b49:=F49.binds (ps:=["_law_cell_here"]) fun _ _ _ _ _ _ us hl=>by obtain ⟨a,rfl⟩:=ky hl;rfl
 have F50:=aQ (st:=jF) l50 c50 k50;have b50:=F50.binds (ps:=["_law_first","_law_second","_law_way"]) fun _ _ _ _ _ _ us hl=>by obtain ⟨a,b,c,rfl⟩:=jX hl;rfl
 have F51:=aQ (st:=gW) l51 c51 k51;have b51:=F51.binds (ps:=["_law_one_here","_law_other","_law_way"]) fun _ _ _ _ _ _ us hl=>by obtain ⟨a,b,c,rfl⟩:=jX hl;rfl
 have F52:=aQ (st:=dZ) l52 c52 k52;have b52:=F52.binds (ps:=["_law_group_here","_law_part","_law_way"]) fun _ _ _ _ _ _ us hl=>by obtain ⟨a,b,c,rfl⟩:=jX hl;rfl
 have F53:=aQ (st:=lh) l53 c53 k53;have b53:=F53.binds (ps:=["_law_caught","_law_name"]) fun _ _ _ _ _ _ us hl=>by obtain ⟨a,b,rfl⟩:=dB hl;rfl
 have F54:=aQ (st:=iZ) l54 c54 k54;have b54:=F54.binds (ps:=["_law_ways","_law_told"]) fun _ _ _ _ _ _ us hl=>by obtain ⟨a,b,rfl⟩:=dB hl;rfl
 have F55:=aQ (st:=ee) l55 c55 k55;have b55:=F55.binds (ps:=["_law_table","_law_other","_law_group_here","_law_second","_law_cell_here"]) fun _ _ _ _ _ _ us hl=>by obtain ⟨a,b,c,d,e,rfl⟩:=LG hl;rfl
 have F56:=aQ (st:=lC) l56 c56 k56;have b56:=F56.binds (ps:=["_law_script"]) fun _ _ _ _ _ _ us hl=>by obtain ⟨a,rfl⟩:=ky hl;rfl
 have F57:=aQ (st:=g0) l57 c57 k57;have b57:=F57.binds (ps:=["self","rows","unit","backs"]) fun _ _ _ _ _ _ us hl=>by obtain ⟨a,b,c,d,rfl⟩:=xq hl;rfl
 have F58:=aQ (st:=jD) l58 c58 k58;have b58:=F58.binds (ps:=["self","group","spokes","deeds"]) fun _ _ _ _ _ _ us hl=>by obtain ⟨a,b,c,d,rfl⟩:=xq hl;rfl
 have F59:=aQ (st:=iW) l59 c59 k59;have b59:=F59.binds (ps:=["self","thing"]) fun _ _ _ _ _ _ us hl=>by obtain ⟨a,b,rfl⟩:=dB hl;rfl
 have F60:=CK (st:=eE) l60 e60 c60 k60;have F61:=aQ (st:=ei) l61 c61 k61;have b61:=F61.binds (ps:=["self","one","other"]) fun _ _ _ _ _ _ us hl=>by obtain ⟨a,b,c,rfl⟩:=jX hl;rfl
 have F62:=aQ (st:=dM) l62 c62 k62;have b62:=F62.binds (ps:=["self","one","other"]) fun _ _ _ _ _ _ us hl=>by obtain ⟨a,b,c,rfl⟩:=jX hl;rfl
 have F63:=aQ (st:=ef) l63 c63 k63;have b63:=F63.binds (ps:=["self","group","part","way"]) fun _ _ _ _ _ _ us hl=>by obtain ⟨a,b,c,d,rfl⟩:=xq hl;rfl
 have F64:=aQ (st:=jz) l64 c64 k64;have b64:=F64.binds (ps:=["self","one","two"]) fun _ _ _ _ _ _ us hl=>by obtain ⟨a,b,c,rfl⟩:=jX hl;rfl
 let T:Txt K mg:={ ir:=⟨f1,_,F1,b1,LY X G a1⟩,jf:=⟨f2,_,F2,b2,LY X G a2⟩,eN:=⟨f3,_,F3,b3,LY X G a3⟩,m5:=⟨f4,_,F4,b4,LY X G a4⟩,jn:=⟨f5,_,F5,b5,LY X G a5⟩,lS:=⟨f6,_,F6,b6,LY X G a6⟩,mU:=⟨f7,_,F7,b7,LY X G a7⟩,fw:=⟨f8,_,F8,b8,LY X G a8⟩,pG:=⟨f9,_,F9,b9,LY X G a9⟩,nF:=⟨f10,_,F10,b10,LY X G a10⟩,cF:=⟨f11,_,F11,b11,LY X G a11⟩,fU:=⟨f12,_,F12,b12,LY X G a12⟩,de:=⟨f13,_,F13,b13,LY X G a13⟩,jS:=⟨f14,_,F14,b14,LY X G a14⟩,cw:=⟨f15,_,F15,b15,LY X G a15⟩,pZ:=⟨f16,_,F16,b16,LY X G a16⟩,mZ:=⟨f17,_,F17,b17,LY X G a17⟩,iF:=⟨f18,_,F18,b18,LY X G a18⟩,fq:=⟨f19,_,F19,b19,LY X G a19⟩,cK:=⟨f20,_,F20,b20,LY X G a20⟩,cN:=⟨f21,_,F21,b21,LY X G a21⟩,iO:=⟨f22,_,F22,b22,LY X G a22⟩,iM:=⟨f23,_,F23,fun s us KI hl=>match us,hl with | [_,_,_,_],_=>F23.to KI fun _ _ _ _ _ _ _=>⟨_,rfl,rfl⟩,wC rfl fun s us KI hl=>match us,hl with | [_,_,_],_=>F23.to KI fun _ _ _ _ _ _ _=>⟨_,rfl,rfl⟩,vU rfl fun s us w KI hl=>match us,hl with | [_,_,_],_=>F23.to KI fun _ _ _ _ _ _ _=>⟨_,rfl,rfl⟩,LY X G a23⟩,j8:=⟨f24,_,F24,b24,LY X G a24⟩,bS:=⟨f25,_,F25,b25,LY X G a25⟩,bM:=⟨f26,_,F26,b26,LY X G a26⟩,gH:=⟨f27,_,F27,b27,LY X G a27⟩,lY:=⟨f28,_,F28,b28,LY X G a28⟩,nM:=⟨f29,_,F29,b29,LY X G a29⟩,gP:=⟨f30,_,F30,b30,LY X G a30⟩,cS:=⟨f31,_,F31,b31,LY X G a31⟩,j7:=⟨f32,_,F32,b32,LY X G a32⟩,lu:=⟨f33,_,F33,b33,LY X G a33⟩,lB:=⟨f34,_,F34,b34,LY X G a34⟩,ju:=⟨f35,_,F35,b35,LY X G a35⟩,lg:=⟨f36,_,F36,b36,LY X G a36⟩,lH:=⟨f37,_,F37,b37,LY X G a37⟩,ka:=⟨f38,_,F38,b38,LY X G a38⟩,iX:=⟨f39,_,F39,b39,LY X G a39⟩,kU:=⟨f40,_,F40,b40,LY X G a40⟩,jZ:=⟨f41,_,F41,b41,LY X G a41⟩,jx:=⟨f42,_,F42,b42,LY X G a42⟩,eX:=⟨f43,_,F43,b43,LY X G a43⟩,iI:=⟨f44,_,F44,b44,LY X G a44⟩,iY:=⟨f45,_,F45,b45,LY X G a45⟩,j9:=⟨f46,_,F46,b46,LY X G a46⟩,lE:=⟨f47,_,F47,b47,LY X G a47⟩,gw:=⟨f48,_,F48,b48,LY X G a48⟩,gM:=⟨f49,_,F49,b49,LY X G a49⟩,lG:=⟨f50,_,F50,b50,LY X G a50⟩,jm:=⟨f51,_,F51,b51,LY X G a51⟩,gj:=⟨f52,_,F52,b52,LY X G a52⟩,kJ:=⟨f53,_,F53,b53,LY X G a53⟩,j5:=⟨f54,_,F54,b54,LY X G a54⟩,iG:=⟨f55,_,F55,b55,LY X G a55⟩,zq:=⟨fa,_,F56,b56,LY X G a56⟩,az:=C57,ub:=f57,t6:=_,kR:=⟨pg57,hd57,po57,sa57⟩,Cp:=LY X G aC57,Cj:=⟨mk57,a57,i57,kc57⟩,CD:=F57,CH:=b57,nG:=n57_many,oi:=n57_rows,oo:=n57_unit,rT:=n57_backs,iC:=C58,wx:=f58,zJ:=_,Lb:=⟨pg58,hd58,po58,sa58⟩,vP:=LY X G aC58,K6:=⟨mk58,a58,i58,kc58⟩,IC:=F58,vt:=b58,wL:=⟨ug58,ur58,uf58,k58⟩,Ca:=n58_group,Bl:=n58_spokes,C0:=n58_size,B6:=n58_deeds,dN:=f59,mK:=_,Ce:=⟨a59,i59,k59⟩,uB:=F59,iU:=b59,bo:=C60,rq:=f60,mI:=_,nW:=⟨pg60,hd60,po60,sa60⟩,AJ:=LY X G aC60,zW:=⟨mk60,a60,i60,kc60⟩,Aw:=F60,A2:=fun s us KI hl=>match us,hl with | [_,_,_,_,_],_=>F60.to KI fun _ _ _ _ _ _ _=>⟨_,rfl,rfl⟩,Gb:=wC rfl fun s us KI hl=>match us,hl with | [_,_,_,_],_=>F60.to KI fun _ _ _ _ _ _ _=>⟨_,rfl,rfl⟩,FT:=vU rfl fun s us w KI hl=>match us,hl with | [_,_,_,_],_=>F60.to KI fun _ _ _ _ _ _ _=>⟨_,rfl,rfl⟩,qe:=⟨v60_moves,i59,k59⟩,rQ:=n60_part,pN:=n60_marks,qr:=n60_group,oU:=n60_spokes,sg:=n60_size,qd:=n60_deeds,bN:=C61,jt:=f61,jy:=_,uJ:=⟨pg61,hd61,po61,sa61⟩,rh:=LY X G aC61,rH:=⟨mk61,a61,i61,kc61⟩,qx:=F61,qY:=b61,pH:=⟨v61_moves,i59,k59⟩,p9:=n61_group,oE:=n61_spokes,rW:=n61_size,pD:=n61_deeds,bU:=C62,ic:=f62,ie:=_,sO:=⟨pg62,hd62,po62,sa62⟩,yN:=LY X G aC62,yT:=⟨mk62,a62,i62,kc62⟩,oK:=F62,yH:=b62,oB:=⟨v62_moves,i59,k59⟩,oC:=n62_group,n0:=n62_spokes,pQ:=n62_size,oH:=n62_deeds,cu:=C63,ji:=f63,je:=_,va:=⟨pg63,hd63,po63,sa63⟩,AG:=LY X G aC63,AU:=⟨mk63,a63,i63,kc63⟩,rA:=F63,zX:=b63,pR:=⟨v63_moves,i59,k59⟩,qp:=n63_group,oG:=n63_spokes,rZ:=n63_size,pF:=n63_deeds,dG:=CX_NoWay,xp:=f64,xb:=_,Cf:=LY X G aX_NoWay,Jp:=⟨ob64,a64,i64,sa64,hd64,ov64,kc64⟩,IW:=F64,Jq:=b64,BG:=n64_one,BN:=n64_two,bR:=CX_NoPart,uH:=LY X G aX_NoPart,bB:=CX_BadWheel,nA:=LY X G aX_BadWheel,cJ:=CX_BadMarks,we:=LY X G aX_BadMarks,bg:=CX_TooGreat,qZ:=LY X G aX_TooGreat,ba:=CX_OtherGroup,lK:=LY X G aX_OtherGroup,bh:=CX_OtherWheel,nQ:=LY X G aX_OtherWheel,gm:=CX_BookError,o6:=LY X G aX_BookError,cQ:=CX_NotSteady,uz:=LY X G aX_NotSteady,fI:=CX_NoMove,Br:=LY X G aX_NoMove,dP:=CX_NotKept,yi:=LY X G aX_NotKept,dS:=CX_BadSize,yk:=LY X G aX_BadSize,dj:=CX_Stranger,wR:=LY X G aX_Stranger,fC:=CX_NoUnit,z6:=LY X G aX_NoUnit,fH:=CX_NoBack,AX:=LY X G aX_NoBack,cz:=CX_NotTogether,rV:=LY X G aX_NotTogether,mB:=mB,lZ:=lZ,iu:=iu,jJ:=jJ,lO:=lO,lQ:=lQ,pE:=pE,w_get:=w_get,vk:=vk,pK:=pK,pX:=pX,pT:=pT,pz:=pz,pY:=pY,pV:=pV,pW:=pW,pA:=pA,qu:=qu,qt:=qt,qf:=qf,qj:=qj,jV:=jV,fF:=fF,gU:=gU,gX:=gX,gQ:=gQ,jO:=jO,mC:=mC,jR:=jR,dR:=dR,fA:=fA,gh:=gh,mh:=mh,jK:=jK,gS:=gS,gD:=gD,jI:=jI,mG:=mG,jM:=jM,gY:=gY,g8:=g8,jL:=jL,iN:=iN,eC:=LY X G eC,iE:=iE,eF:=LY X G eF,iK:=iK,fO:=LY X G fO,gG:=M0 X G gG,lN:=M0 X G lN,qB:=M0 X G qB,qo:=M0 X G qo,cY:=M0 X G cY,bq:=M0 X G bq,bI:=M0 X G bI,eM:=M0 X G eM,t7:=M0 X G t7,qA:=M0 X G qA,bj:=M0 X G bj,ue:=M0 X G ue,jq:=M0 X G jq,ud:=M0 X G ud }
 exact ⟨L8 "law" "law" (aJ lC) (ax lC) (af lC) .none kV56 dc56 pm56 an56 cd56 ct56,fun s v=>.of_eq rfl,fun base _ _=>Kr T⟩
theorem walk {l:RA} {q:Mp} {loose:List Str} {XP:(Str->Option Value)->Heap->Prop} {YP:World->Heap->Prop} {d:DefRec} {K:Params->LN} (hn:l.most=some 63) (hdf:d.params.defaults=[])
  (hY:∀ (w:World) (h:Heap),YP w h->(K w.params).In h)
  (F:∀ (w:World) (mg:Str->Option Value) (fa:Addr) (h:Heap),(K w.params).In h->h.Ns LX mg->mg d.name=some (.ref fa) ->
   ∃ fd:MZ,(∀ (s:LU) (u:Value),QU s fd ⟨[u],[]⟩ [("_law_script",u)])/\∀ base:Heap,(K w.params).In base->base.Ns LX mg->aI l.prog w (K w.params) mg base CX0 12 fa fd ["_law_script"] (zy (K w.params))) :
  PySem.W.WalkO q loose XP YP l.row.toRowW d [] (fun f vs=>PySem.call f vs) :=
 L2.Jf (n:=63) (k:=12) (x:="_law_script") (CX:=fun _=>CX0) (sp:=fun w=>zy (K w.params)) hn (by decide) hdf ⟨rfl,by decide,by decide⟩ hY F (fun _ _ a ns hl _ hS=>⟨a,ns,rfl,hS,hl,fun _=>rfl⟩) fun _ _ _ _ _ z=>z
end TB
namespace PySem.W.Fast
def tw8583454768142696863:=0
def tw8934099402215237146:=0
def tw11061015024103005342:=0
def tw3796242490601974041:=0
def tw11580797920360592372:=0
def tw4745322238838302639:=0
def tw6783317437475693639:=0
def tw4634466124199044303:=0
def tw16991992096787386360:=0
def tw4668474286738665863:=0
def tw15682066635026507412:=0
def tw1118499553894170082:=0
def tw5229154606191798878:=0
def tw12106388594109297288:=0
def tw5029935824467957707:=0
def tw10726460242748747067:=0
def tw15029251237416235403:=0
def tw13758909947367678163:=0
def tw6915883208236769664:=0
def tw8906847076409619658:=0
def tw17143947551333070264:=0
def tw17408840353349859224:=0
def tw16719798769353495108:=0
def tw17768886583285718932:=0
def tw13625809492472864659:=0
def tw17052749103387708096:=0
def tw13907199579063940868:=0
def tw18229811554491083011:=0
def tw7283373927856465738:=0
def tw11800186466637113505:=0
def tw14172009356157342298:=0
def tw512913831513606458:=0
def tw1887829511919495860:=0
def tw9049078471577037049:=0
def tw17949411812201174894:=0
def tw8670083366285778429:=0
def tw15125984349045866962:=0
def tw6764579552550447692:=0
def tw13527399367118345090:=0
def tw541281139304969617:=0
def tw12941138701350485214:=0
def tw2169927459926369732:=0
def tw3674474459258245870:=0
def tw3572839534701409637:=0
def tw837233159679350220:=0
def tw571914589614905133:=0
def tw10995194428412468342:=0
def tw7683852162576153900:=0
def tw1114506937060744201:=0
def tw8925674430221346843:=0
def tw16171333530178865382:=0
def tw4206266298845977998:=0
def tw6079299451989645368:=0
def tw681075037901893276:=0
def tw2485378909239352025:=0
def tw15462705140778120288:=0
def tw13063735078819445233:=0
def tw8883862038254881561:=0
def tw15909696872936124585:=0
def tw11295743414833166341:=0
def tw15957886598303367718:=0
def tw12433602717197022555:=0
def tw665765727052340688:=0
def tw2585821603855085909:=0
def tw2897760531079064474:=0
def tw17372667068562845424:=0
def tw14516698124339082345:=0
def tw8924001101713389201:=0
def tw14802090195973898271:=0
def tw14415983105453911532:=0
def tw16443761208603724389:=0
def tw6154776019192781217:=0
def tw12581169864740920102:=0
def tw10581292404594808326:=0
def tw2309572852592199021:=0
def tw2724032216853331613:=0
def tw12026104545922948991:=0
def tw8495095092835030311:=0
def tw11670125526858774777:=0
def tw10791527467854964115:=0
def tw7726528292949424142:=0
def tw14733484987954649671:=0
def tw11346986352642493350:=0
def tw18226478001699360092:=0
def tw591042954240912643:=0
def tw5188262554636697015:=0
def tw5132738607218660593:=0
def tw7432257322237873895:=0
def tw2405211602989668825:=0
def tw2645821613433728474:=0
def tw6137844649065720084:=0
def tw8963011804988164349:=0
def tw18246140770377947967:=0
def tw13358323399244212632:=0
def tw1478945468146152171:=0
def tw3746899511986493528:=0
def tw4078826610069628758:=0
def tw11457757732109300071:=0
def tw2639775063662527976:=0
def tw11227741356452775686:=0
def tw14689846703641391783:=0
def tw10335720984546125676:=0
def tw16872353233778640987:=0
def tw12220973546854225316:=0
def tw3845875733383462166:=0
def tw12254732413137962175:=0
def tw1943256925659644071:=0
def tw15209571990504697215:=0
def tw7494615824888783611:=0
def tw2762723825044377016:=0
def tw17789634524697361895:=0
def tw13345227211112993474:=0
def tw13585048191959659996:=0
def tw18266818529213009286:=0
def tw17236439044389650692:=0
def tw4766518318965985873:=0
def tw5230907271636302014:=0
def tw10196799701645962153:=0
def tw11498135598079801370:=0
def tw16431722032128806772:=0
def tw8568095303919250350:=0
def tw2323456279900295034:=0
def tw2242058399824789673:=0
def tw12999633058745857281:=0
def tw12310115487906223301:=0
def tw9264864862097421026:=0
def tw13405328587069278259:=0
def tw4510358984923046181:=0
def tw12428571734077017913:=0
def tw14239747897288483172:=0
def tw9206308477067881915:=0
def tw14573146271394127358:=0
def tw1093182649464914571:=0
def tw5394665302739842361:=0
def tw11137329606112425382:=0
def tw4479334322392854506:=0
def tw9168146930989542983:=0
def tw9725446127821580420:=0
def tw9272507773501252204:=0
def tw3433469917941923333:=0
def tw12694109406402821593:=0
def tw17027575442796785308:=0
def tw17976770997570669458:=0
def tw9183336776280721195:=0
def tw5006898052450711051:=0
def tw4608528625844082889:=0
def tw16156653291984512762:=0
def tw14901007610429794932:=0
def tw7487622747132354705:=0
def tw5478418532090317912:=0
def tw12370721899969539288:=0
def tw14257414600976636825:=0
def tw1922399159628153951:=0
def tw16964365247912942113:=0
def tw528480885781707170:=0
def tw5131601646140866395:=0
def tw7744627794609983280:=0
def tw17433096824408394046:=0
def tw206376527030368590:=0
def tw248352723443521152:=0
def tw6974055546960030965:=0
def tw13259591678429974776:=0
def tw14378873706499260312:=0
def tw17554366836323012173:=0
def tw15202759237525316793:=0
def tw2813438279549144231:=0
def tw609718842871438340:=0
def tw6281829714280587994:=0
def tw14547844954744585742:=0
def tw6686329690824355880:=0
def tw6774321698047982995:=0
def tw16873967328927176835:=0
def tw2762283985921021514:=0
def tw12533151652541868267:=0
def tw13303147160670806120:=0
def tw17509399969232929713:=0
def tw7044758335077227723:=0
def tw6240269316374298961:=0
def tw17845549771504455498:=0
def tw15746675563893512432:=0
def tw3425546463639897545:=0
def tw12359971620948563373:=0
def tw13396353360447003819:=0
def tw8769394198989482261:=0
def tw14084338972554598012:=0
def tw16691681235284965439:=0
def tw1233230079178212235:=0
def tw6367407207780842784:=0
def tw16418539210822145457:=0
def tw5819671876209995398:=0
def tw4960394253882415002:=0
def tw16148383241906754052:=0
def tw4023723688606871819:=0
def tw2756148891929921711:=0
def tw11818244903376209146:=0
def tw5715949098032834381:=0
def tw2196524529493031858:=0
def tw17456746396592692810:=0
def tw7376219489774015908:=0
def tw2250373279831698077:=0
def tw7240406378724738216:=0
def tw8514216447826446156:=0
def tw13226532848880710020:=0
def tw16617977827107469426:=0
def tw14414194348579745706:=0
def tw2863470809734180560:=0
def tw12289501470366844535:=0
def tw17113913524905670974:=0
def tw696002979006165523:=0
def tw4522464265480748986:=0
def tw10302984191487410467:=0
def tw781211281178004009:=0
def tw898076040307792172:=0
def tw14854748647385476789:=0
def tw15033750057535686797:=0
def tw1113802554781763696:=0
end PySem.W.Fast
open PySem PySem.W PyProof.Rows
set_option maxRecDepth 100000 in
set_option maxHeartbeats 0 in
theorem PySem.Challenge.cw_tracebook_k47_ways_that_do_not_go_togeth_holds : PySem.Challenge.rw_tracebook_k47_ways_that_do_not_go_togeth.Holds := by
 w_on;o_law;k_head;(case hw=>w_witness2)
 k_fill
 refine TB.walk (l:=PySem.Challenge.rw_tracebook_k47_ways_that_do_not_go_togeth) rfl rfl (fun w h Y=>PySem.W.kIn_of Y) ?F
 case F =>
  intro w mg fa h KX G hmg
  refine' TB.all_mk KX G hmg ?a1 ?l1 ?c1 ?k1 ?a2 ?l2 ?c2 ?k2 ?a3 ?l3 ?c3 ?k3 ?a4 ?l4 ?c4 ?k4 ?a5 ?l5 ?c5 ?k5 ?a6 ?l6 ?c6 ?k6 ?a7 ?l7 ?c7 ?k7 ?a8 ?l8 ?c8 ?k8 ?a9 ?l9 ?c9 ?k9 ?a10 ?l10 ?c10 ?k10 ?a11 ?l11 ?c11 ?k11 ?a12 ?l12 ?c12 ?k12 ?a13 ?l13 ?c13 ?k13 ?a14 ?l14 ?c14 ?k14 ?a15 ?l15 ?c15 ?k15 ?a16 ?l16 ?c16 ?k16 ?a17 ?l17 ?c17 ?k17 ?a18 ?l18 ?c18 ?k18 ?a19 ?l19 ?c19 ?k19 ?a20 ?l20 ?c20 ?k20 ?a21 ?l21 ?c21 ?k21 ?a22 ?l22 ?c22 ?k22 ?a23 ?l23 ?c23 ?k23 ?e23 ?a24 ?l24 ?c24 ?k24 ?a25 ?l25 ?c25 ?k25 ?a26 ?l26 ?c26 ?k26 ?a27 ?l27 ?c27 ?k27 ?a28 ?l28 ?c28 ?k28 ?a29 ?l29 ?c29 ?k29 ?a30 ?l30 ?c30 ?k30 ?a31 ?l31 ?c31 ?k31 ?a32 ?l32 ?c32 ?k32 ?a33 ?l33 ?c33 ?k33 ?a34 ?l34 ?c34 ?k34 ?a35 ?l35 ?c35 ?k35 ?a36 ?l36 ?c36 ?k36 ?a37 ?l37 ?c37 ?k37 ?a38 ?l38 ?c38 ?k38 ?a39 ?l39 ?c39 ?k39 ?a40 ?l40 ?c40 ?k40 ?a41 ?l41 ?c41 ?k41 ?a42 ?l42 ?c42 ?k42 ?a43 ?l43 ?c43 ?k43 ?a44 ?l44 ?c44 ?k44 ?a45 ?l45 ?c45 ?k45 ?a46 ?l46 ?c46 ?k46 ?a47 ?l47 ?c47 ?k47 ?a48 ?l48 ?c48 ?k48 ?a49 ?l49 ?c49 ?k49 ?a50 ?l50 ?c50 ?k50 ?a51 ?l51 ?c51 ?k51 ?a52 ?l52 ?c52 ?k52 ?a53 ?l53 ?c53 ?k53 ?a54 ?l54 ?c54 ?k54 ?a55 ?l55 ?c55 ?k55 ?a56 ?l56 ?c56 ?k56 ?aC57 ?a57 ?i57 ?l57 ?c57 ?k57 ?pg57 ?hd57 ?po57 ?sa57 ?mk57 ?kc57 ?n57_many ?n57_rows ?n57_unit ?n57_backs ?aC58 ?a58 ?i58 ?l58 ?c58 ?k58 ?pg58 ?hd58 ?po58 ?sa58 ?mk58 ?kc58 ?ug58 ?ur58 ?uf58 ?n58_group ?n58_spokes ?n58_size ?n58_deeds ?a59 ?i59 ?l59 ?c59 ?k59 ?aC60 ?a60 ?i60 ?l60 ?c60 ?k60 ?pg60 ?hd60 ?po60 ?sa60 ?mk60 ?kc60 ?e60 ?v60_moves ?n60_part ?n60_marks ?n60_group ?n60_spokes ?n60_size ?n60_deeds ?aC61 ?a61 ?i61 ?l61 ?c61 ?k61 ?pg61 ?hd61 ?po61 ?sa61 ?mk61 ?kc61 ?v61_moves ?n61_group ?n61_spokes ?n61_size ?n61_deeds ?aC62 ?a62 ?i62 ?l62 ?c62 ?k62 ?pg62 ?hd62 ?po62 ?sa62 ?mk62 ?kc62 ?v62_moves ?n62_group ?n62_spokes ?n62_size ?n62_deeds ?aC63 ?a63 ?i63 ?l63 ?c63 ?k63 ?pg63 ?hd63 ?po63 ?sa63 ?mk63 ?kc63 ?v63_moves ?n63_group ?n63_spokes ?n63_size ?n63_deeds ?aX_NoWay ?a64 ?i64 ?l64 ?c64 ?k64 ?hd64 ?sa64 ?kc64 ?ob64 ?ov64 ?n64_one ?n64_two ?aX_NoPart ?aX_BadWheel ?aX_BadMarks ?aX_TooGreat ?aX_OtherGroup ?aX_OtherWheel ?aX_BookError ?aX_NotSteady ?aX_NoMove ?aX_NotKept ?aX_BadSize ?aX_Stranger ?aX_NoUnit ?aX_NoBack ?aX_NotTogether ?mB ?lZ ?iu ?jJ ?lO ?lQ ?pE ?w_get ?vk ?pK ?pX ?pT ?pz ?pY ?pV ?pW ?pA ?qu ?qt ?qf ?qj ?jV ?fF ?gU ?gX ?gQ ?jO ?mC ?jR ?dR ?fA ?gh ?mh ?jK ?gS ?gD ?jI ?mG ?jM ?gY ?g8 ?jL ?eC ?eF ?fO ?gG ?lN ?qB ?qo ?cY ?bq ?bI ?eM ?t7 ?qA ?bj ?ue ?jq ?ud
  (case a1|l1|c1|k1|a2|l2|c2|k2|a3|l3|c3|k3|a4|l4|c4|k4|a5|l5|c5|k5|a6|l6|c6|k6|a7|l7|c7|k7|a8|l8|c8|k8|a9|l9|c9|k9|a10|l10|c10|k10|a11|l11|c11|k11|a12|l12|c12|k12|a13|l13|c13|k13|a14|l14|c14|k14|a15|l15|c15|k15|a16|l16|c16|k16|a17|l17|c17|k17|a18|l18|c18|k18|a19|l19|c19|k19|a20|l20|c20|k20|a21|l21|c21|k21|a22|l22|c22|k22|a23|l23|c23|k23|e23|a24|l24|c24|k24|a25|l25|c25|k25|a26|l26|c26|k26|a27|l27|c27|k27|a28|l28|c28|k28|a29|l29|c29|k29|a30|l30|c30|k30|a31|l31|c31|k31|a32|l32|c32|k32|a33|l33|c33|k33|a34|l34|c34|k34|a35|l35|c35|k35|a36|l36|c36|k36|a37|l37|c37|k37|a38|l38|c38|k38|a39|l39|c39|k39|a40|l40|c40|k40|a41|l41|c41|k41|a42|l42|c42|k42|a43|l43|c43|k43|a44|l44|c44|k44|a45|l45|c45|k45|a46|l46|c46|k46|a47|l47|c47|k47|a48|l48|c48|k48|a49|l49|c49|k49|a50|l50|c50|k50|a51|l51|c51|k51|a52|l52|c52|k52|a53|l53|c53|k53|a54|l54|c54|k54|a55|l55|c55|k55|a56|l56|c56|k56|aC57|a57|i57|l57|c57|k57|pg57|hd57|po57|sa57|mk57|kc57|n57_many|n57_rows|n57_unit|n57_backs|aC58|a58|i58|l58|c58|k58|pg58|hd58|po58|sa58|mk58|kc58|ug58|ur58|uf58|n58_group|n58_spokes|n58_size|n58_deeds|a59|i59|l59|c59|k59|aC60|a60|i60|l60|c60|k60|pg60|hd60|po60|sa60|mk60|kc60|e60|v60_moves|n60_part|n60_marks|n60_group|n60_spokes|n60_size|n60_deeds|aC61|a61|i61|l61|c61|k61|pg61|hd61|po61|sa61|mk61|kc61|v61_moves|n61_group|n61_spokes|n61_size|n61_deeds|aC62|a62|i62|l62|c62|k62|pg62|hd62|po62|sa62|mk62|kc62|v62_moves|n62_group|n62_spokes|n62_size|n62_deeds|aC63|a63|i63|l63|c63|k63|pg63|hd63|po63|sa63|mk63|kc63|v63_moves|n63_group|n63_spokes|n63_size|n63_deeds|aX_NoWay|a64|i64|l64|c64|k64|hd64|sa64|kc64=>k_is)
  (case ob64|ov64=>kernel_rfl)
  (case n64_one|n64_two|aX_NoPart|aX_BadWheel|aX_BadMarks|aX_TooGreat|aX_OtherGroup|aX_OtherWheel|aX_BookError|aX_NotSteady|aX_NoMove|aX_NotKept|aX_BadSize|aX_Stranger|aX_NoUnit|aX_NoBack|aX_NotTogether=>k_is)
  (case mB=>kernel_rfl)
  (case lZ=>(refine' ⟨?_,?_,?_,?_,?_,?_,?_,?_⟩ <;> k_is))
  (case iu=>kernel_rfl)
  (case jJ=>(refine' ⟨?_,?_,?_,?_,?_,?_,?_,?_⟩ <;> k_is))
  (case lO=>kernel_rfl)
  (case lQ=>(refine' ⟨?_,?_,?_,?_,?_,?_,?_,?_⟩ <;> k_is))
  (case pE=>(refine' ⟨?_,?_,?_,?_,?_,?_,?_,?_⟩ <;> k_is))
  (case w_get|vk|pK|pX|pT|pz|pY|pV|pW|pA|qu|qt|qf|qj|jV|fF=>kernel_rfl)
  (case gU=>(refine' ⟨?_,?_,?_,?_,?_,?_,?_,?_⟩ <;> k_is))
  (case gX=>kernel_rfl)
  (case gQ=>(refine' ⟨?_,?_,?_,?_,?_,?_,?_,?_⟩ <;> k_is))
  (case jO=>(refine' ⟨?_,?_,?_,?_,?_,?_,?_,?_⟩ <;> k_is))
  (case mC|jR|dR|fA|gh|mh|jK|gS|gD|jI|mG|jM|gY|g8|jL=>kernel_rfl)
  (case eC|eF|fO|gG|lN|qB|qo|cY|bq|bI|eM|t7|qA|bj|ue|jq|ud=>k_is)
