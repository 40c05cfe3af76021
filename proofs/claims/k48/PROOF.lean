import PyProof.Rows.All
import Wide.All
import OpenK.AllK
import Wide.FinOn
import Lean
import PyProof.EqAt
import PyProof.EqKinds
import PyProof.TupleCall
import PyProof.NeKinds
import PySem.Challenge.RW_tracebook_k48_whole_a_walk_of_ways
local macro_rules | `(tactic| trivial) => `(tactic| decide +kernel)
def QK {α:Type} {a:α} {q:Prop}:a=a\/q:=Or.inl rfl
open Array renaming getElem?_eq_some_iff->MY,length_toList->Oq
open Bool renaming false_ne_true->Ls,eq_iff_iff->MC,and_eq_true->NQ,not_eq_true'->OY
open Classical renaming byContradiction->ML
open False renaming elim->Mf
open ForInStep renaming yield->NB
open Int renaming emod_nonneg->Oy,add_mul_emod_self_left->OA,toNat_natCast->OT,toNat->Qq,zero_add->QD
open Int.ofNat renaming inj->Qp
open List renaming length_map->KY,getElem?_eq_getElem->KZ,getElem?_eq_some_iff->K0,mem_of_getElem?->K1,getD_eq_getElem?_getD->K2,range->K3,getElem?_map->K4,mem_range->K7,mem_cons_of_mem->K8,mem_singleton->Lb,mem_map->Lc,mem_cons_self->Le,take_of_length_le->Lf,length_append->Lg,length_take->Lh,replicate->Ll,length_range->Ln,getElem?_append_left->Lq,getElem?_append_right->Lr,take_add_one->Lv,size_toArray->Ly,map_congr_left->LA,all_eq_true->LC,idxOf_lt_length_of_mem->LH,getElem?_range->LK,mem_cons->LL,mem_append_right->LM,length_cons->LN,mem_append->LP,map_append->LR,getElem?_of_mem->LS,map_cons->LY,length_pos_iff->L3,nodup_cons->L9,zipWith->Ma,mem_filter->Mc,lookup_cons->Md,take_length->Mn,ext_getElem->Mo,getElem?_set_self->Mt,mem_append_left->MD,getElem?_set_ne->ME,getElem_mem->MG,replicate_succ->MI,flatMap_cons->MK,getElem?_eq_none->MM,map_map->MN,getElem?_take_of_lt->MP,getElem_idxOf->MQ,getElem_map->MR,mem_flatten->M1,mem_flatMap->M4,length_replicate->M5,lookup_append->M8,length_filter_le->Nb,getElem_range->Nc,filter_cons_of_neg->Nm,nodup_range->Nr,pairwise_cons->Ny,find?_cons->NC,getElem?_zipWith->NI,flatten_cons->NL,filterMap_cons->NR,append_nil->NW,length_set->NX,any_cons->NY,range_succ->N0,filter_cons_of_pos->N1,ne_nil_of_mem->N2,length_pos_of_mem->N3,any_eq_false->N5,lookup->N7,getElem_inj->Of,length_drop->Og,replicate_succ'->Oi,mem_of_mem_take->Oj,flatMap_append->Ox,filter_append->OJ,pairwise_iff_getElem->ON,append_assoc->OU,nodup_append->OW,idxOf_lt_length_iff->OX,find?_range_eq_some->OZ,find?_range_eq_none->O0,eq_of_mem_replicate->O3,getElem?_replicate->O9,all_cons->Pa,map_id->Pb,any_eq_true->Pj,of_mem_zip->Pz,forIn_cons->PF,length_nil->PK,length_zip->PR,mem_iff_getElem->P7,idxOf_cons_self->P8,getElem_zipWith->P9,nodup_nil->Qa,getElem_of_mem->Qg,filter_sublist->Qi,flatten_append->Qj,map_nil->QC,length->QI
open Nat renaming le_refl->Lj,lt_of_lt_of_le->Lm,mod_lt->Lu,ne_of_lt->Lz,lt_or_ge->LD,mod_eq_of_lt->LJ,lt_of_le_of_lt->LO,le_trans->L4,mul_le_mul_left->L6,zero_add->L7,zero_le->Mb,div_eq_of_lt->Me,div_lt_of_lt_mul->Mh,dvd_of_mod_eq_zero->Mi,lt_irrefl->Mp,mul_pos->Ms,add_mul_mod_self_left->Mx,add_zero->MA,add_mul_div_left->MF,lt_trichotomy->MJ,eq_of_beq_eq_true->MO,succ_mul->MU,beq->MZ,add_comm->M6,mul_comm->M7,add_assoc->M9,mul_zero->Na,le_of_lt->Nh,mul_succ->Nj,lt_succ_self->Np,mod_eq_zero_of_dvd->Nu,eq_zero_or_pos->Nx,add_mod_mod->NF,div_add_mod->NG,mod_self->NH,mul_le_mul_right->NN,le_succ->NS,mul_left_comm->N8,zero_mul->Oc,le_add_right->Oh,min_eq_left->Ou,mod_eq_sub_mod->OH,zero_mod->OI,lt_succ_of_lt->OV,add_sub_of_le->O1,mul_mod_right->O2,mul_add->Pe,add_mod->Pf,div_div_eq_div_mul->Pq,ne_of_gt->Pt,le_of_eq->Px,lt_trans->PL,mod_add_div->PU,mod_add_mod->PV,sub_zero->PX,zero_div->PY,mul_div_le->Qe,div_pos->Qk,mul_assoc->Qs,sub_self->QE
open Ne renaming symm->MX
open Option renaming map_eq_some_iff->Mv,getD_some->Nq,map_some->Ov,isSome_iff_exists->OS
open Option.some renaming inj->LG
open Or renaming inl->K6,inr->Ni
open PyProof.Rows renaming boot_list->L8,callWith_type1->Ml,boot_isinstance->Nz,boot_int->Od,boot_all->Oe,assignInOrder_cons->OD,boot_sorted->O4,AllBare->O6,boot_range->Pg,subscriptTail_builtinR->Pm,boot_any->PZ,Constant_none->Qm,IntsAre->Qu
open PySem renaming Shared->K5,wpAny_bind->K9,boot_len->Lo,Program->Lp,sizeLine->LB,wpAny_pure->LI,starEach->LV,Around->LW,mem_of_lookup->LX,FuncData->LZ,mainGlobals->L1,sizeLine_eq->L5,wpAny_mono->Mj,Paired->MB,wpAny_truthy_bool->MH,wpAny_passesOwn->Nf,wpAny_holding->Nk,wpAny_field->Nl,wpAny_Call_Name_kw->Nv,wpAny_execs_nil->NA,NameKind->NK,wpAny_comprehension_free->NT,wpAny_newObj_type->N4,ZipApart->N9,codeAny_mono->Oa,ExceptHandler->Om,call_meets->Oo,GenState->OB,tupleKind_room_in1->OF,BindsTo->OM,wpAny_pyIter_list->OP,wpAny_standAt->O7,wpAny_callSpecial?_slot->Pc,wpAny_execs_cons->Ph,wpAny_pyIter_zip->Pk,codeAny_compStart_list->Pn,richCompare_meets_room->Po,wpAny_nextOf_list_item->Pp,wpAny_isTrue_Compare1->Pr,Keyword->Py,wpAny_pyNext_zip_item->PJ,pushCells_keeps->PM,SetTable->P2,wpAny_pyNext_zip_end->P5,IsPair->Qb,wpAny_setField->Qc,wpAny_seqItems->Qd,Result->Qo,Builtin->Qv,Within->Qw,seqIndex_neg->Qz,seqIndex_of->QJ
open PySem.Around renaming under_plainId->P6,under->Qx
open PySem.Builtin.Dict renaming updateFrom->Pd
open PySem.Builtin.List renaming listTooLong->Ng
open PySem.Builtin.Range renaming rangeSize->O8
open PySem.Builtin.SmallTypes renaming ownedTupleIsFree->My,nextOf->NO
open PySem.Calls renaming Name_function_global->Oz,evalArgs_plain->P4
open PySem.Code renaming isFrame->Qy
open PySem.Data renaming cell->Qn,fields->QG
open PySem.EntryCells renaming newEntry->Qh
open PySem.F renaming plainAttrs_list->Lk,slot_list_append->Lw,type_list_append->Lx,slot_list_index->MT,type_list_index->Nn,slot_zip_getattribute->NZ,slot_zip_next->Ow
open PySem.Heap renaming get?_push_of_some->La,lt_size->Li,get?_push_size->LQ,get?_update_other->Mu,size_push->Nt,get?_update_self->Ob,SameBut->OC
open PySem.NameKind renaming free->Mq,cell->Mr
open PySem.Obj renaming data_mapFields->OG,isFreed_of_fields->PN,mapSeq->P1,mapFields->Qr
open PySem.Paired renaming length->NV
open PySem.PassesOwn renaming never->Ld
open PySem.SeqAt renaming EqAt->Qt
open PySem.SeqAt.EqAt renaming same->PB
open PySem.Value renaming ref->LF,none->NJ,int->NU,bool->P0,str->Ql,float->QF
open PySem.W renaming Frag->KW,fnOf->LU,keepIn->L0,findIn->Mg,codeIn->Mm,kia_one->Mw,emptyDict->Mz,instObj->MW,exmOne->Nd,callWith_K->Nw,nsIn->ND,mg_of->NM,plainGet->NP,hasDictIn->N6,excIn->Ol,plainGet_of->Ot,isFn->OE,lookIn->OK,kitOne->OL,methodObj->OO,plainOver->OQ,specialIn->OR,cellsFrom_some->Pl,takerIn->Pu,makesIn->Pw,OpenLaw->PD,methodCall_KW->PQ
open Sum renaming inl->O5,inr->Qf
open True renaming intro->M0
set_option Elab.async false
set_option linter.all false
set_option maxRecDepth 100000
local macro_rules|`(tactic|lia)=>`(tactic|first|lia +ring|omega)
set_option hygiene false
local macro_rules|`(tactic|exists $t)=>`(tactic|refine $t (fun vs H Q E h=>?_) (fun cdv A outer s H vs Q E hr h=>?_))
set_option hygiene true
namespace L2
open PySem PySem.Spec PyProof.Rows
abbrev Key:=Sum Int Str
def qo:Key->Value->Bool
 | .inl k,v=>Value.isInt k v
 | .inr x,v=>Value.isStrOf x v
def KQ (w:World):Key->Int
 | .inl k=>hashInt k
 | .inr x=>hashStr w x
def dq:∀ {k:Key} {v:Value},qo k v=true->(∃ i t,k=O5 i/\v=NU i t)\/(∃ x t,k=Qf x/\v=Ql x t)
 | .inl i,v,h=>by
  obtain ⟨t,e⟩:=Value.isInt_shape (k:=i) (v:=v) h;exact .inl ⟨i,t,rfl,e⟩
 | .inr x,v,h=>by
  obtain ⟨t,e⟩:=Value.isStrOf_shape (x:=x) (v:=v) h;exact .inr ⟨x,t,rfl,e⟩
def DJ (i:Int) (t:Tok):qo (.inl i) (.int i t)=true:=by simp [qo,Value.isInt]
def D8 (x:Str) (t:Tok):qo (.inr x) (.str x t)=true:=by simp [qo,Value.isStrOf]
def Jx (a b:Int):decide ((O5 a:Key)=O5 b)=(a == b):=by
 by_cases e:a=b
 ·subst e;simp
 ·have h:¬ (O5 a:Key)=O5 b:=fun q=>e (O5.inj q);rw [decide_eq_false h];exact (beq_eq_false_iff_ne.mpr e).symm
def JP (a b:Str):decide ((Qf a:Key)=Qf b)=decide (a=b):=by
 by_cases e:a=b
 ·subst e;simp
 ·have h:¬ (Qf a:Key)=Qf b:=fun q=>e (Qf.inj q);rw [decide_eq_false h,decide_eq_false e]
def IV (a:Int) (b:Str):decide ((O5 a:Key)=Qf b)=false:=decide_eq_false (fun q=>nomatch q)
def IY (a:Str) (b:Int):decide ((Qf a:Key)=O5 b)=false:=decide_eq_false (fun q=>nomatch q)
def c5 (prog:Lp) (w:World):PySem.KeyKind prog w Key where
 is:=qo
 hash:=KQ w
 inj:=fun v a b ha hb=>by
  rcases dq ha with ⟨i,t,rfl,rfl⟩|⟨x,t,rfl,rfl⟩
  ·rcases dq hb with ⟨j,u,rfl,e⟩|⟨y,u,rfl,e⟩
   ·injection e with e1 _;rw [e1]
   ·exact nomatch e
  ·rcases dq hb with ⟨j,u,rfl,e⟩|⟨y,u,rfl,e⟩
   ·exact nomatch e
   ·injection e with e1 _;rw [e1]
 byValue:=fun k v h=>by
  rcases dq h with ⟨i,t,rfl,rfl⟩|⟨x,t,rfl,rfl⟩ <;> rfl
 pyHash:=fun hv h=>by
  rcases dq hv with ⟨i,t,rfl,rfl⟩|⟨x,t,rfl,rfl⟩
  ·exact wpAny_pyHash_int h
  ·exact wpAny_pyHash_str h
 eqBool:=fun hu hv h=>by
  rcases dq hu with ⟨i,t,rfl,rfl⟩|⟨x,t,rfl,rfl⟩
  ·rcases dq hv with ⟨j,u,rfl,rfl⟩|⟨y,u,rfl,rfl⟩
   ·rw [Jx] at h;exact wpAny_eqBool_int h
   ·rw [IV] at h;exact SeqAt.EqAt.int_str i t y u _ _ _ _ h
  ·rcases dq hv with ⟨j,u,rfl,rfl⟩|⟨y,u,rfl,rfl⟩
   ·rw [IY] at h;exact SeqAt.EqAt.str_int x t j u _ _ _ _ h
   ·rw [JP] at h;exact wpAny_eqBool_str h
 «strs»:=fun k x t v h=>by
  rcases dq h with ⟨i,u,rfl,e⟩|⟨y,u,rfl,e⟩
  ·exact nomatch e
  ·injection e with e1 _;subst e1;cases v <;> rfl
def A2 (prog:Lp) (w:World) (i:Int) (t:Tok):(c5 prog w).is (.inl i) (.int i t)=true:=DJ i t
def AX (prog:Lp) (w:World) (x:Str) (t:Tok):(c5 prog w).is (.inr x) (.str x t)=true:=D8 x t
inductive V where
 | non|bl (b:Bool)|int (i:Int)|str (x:Str)|byt (b:Array UInt8)|flt (b:UInt64)|ref (a:Addr)|ty (n:String)
 deriving DecidableEq
def RelV:V->Value->Prop
 | .non,u=>u=NJ
 | .bl b,u=>u=P0 b
 | .int i,u=>∃ t,u=NU i t
 | .str x,u=>∃ t,u=Ql x t
 | .byt b,u=>∃ t,u=Value.bytes b t
 | .flt b,u=>∃ t,u=QF b t
 | .ref a,u=>u=LF a
 | .ty n,u=>u=Value.type n
abbrev Vals:List V->List Value->Prop:=MB RelV
def Vals.length {xs:List V} {us:List Value} (r:Vals xs us):xs.length=us.length:=NV r
def Vals.get:∀ {xs:List V} {us:List Value} {i:Nat} {x:V},Vals xs us->xs[i]?=some x->∃ u,us[i]?=some u/\RelV x u
 | _,_,_,_,.nil,e=>by simp at e
 | _,_,0,_,.cons r _,e=>by simp at e;subst e;exact ⟨_,rfl,r⟩
 | _,_,i+1,x,.cons _ t,e=>by
  obtain ⟨u,h1,h2⟩:=Vals.get (i:=i) (x:=x) t (by simpa using e)
  exact ⟨u,by simpa using h1,h2⟩
def Vals.set {x:V} {u:Value} (r:RelV x u):∀ {xs:List V} {us:List Value} (i:Nat),Vals xs us->Vals (xs.set i x) (us.set i u)
 | _,_,_,.nil=>.nil
 | _,_,0,.cons _ t=>.cons r t
 | _,_,i+1,.cons q t=>.cons q (Vals.set r i t)
def Vals.append:∀ {xs ys:List V} {us ws:List Value},Vals xs us->Vals ys ws->Vals (xs++ys) (us++ws)
 | _,_,_,_,.nil,s=>s
 | _,_,_,_,.cons r t,s=>.cons r (Vals.append t s)
def Vals.take:∀ {xs:List V} {us:List Value} (n:Nat),Vals xs us->Vals (xs.take n) (us.take n)
 | _,_,0,_=>.nil
 | _,_,_+1,.nil=>.nil
 | _,_,n+1,.cons r t=>.cons r (Vals.take n t)
def Vals.drop:∀ {xs:List V} {us:List Value} (n:Nat),Vals xs us->Vals (xs.drop n) (us.drop n)
 | _,_,0,r=>r
 | _,_,_+1,.nil=>.nil
 | _,_,n+1,.cons _ t=>Vals.drop n t
def eQ:Option V->Option Value->Prop
 | some v,some u=>RelV v u
 | none,none=>True
 | _,_=>False
def KV {κ:Type}:List (κ×V)->List (κ×Value)->Prop:=MB fun (p:κ×V) (q:κ×Value)=>p.1=q.1/\RelV p.2 q.2
def kV:Key->V
 | .inl i=>.int i
 | .inr x=>.str x
inductive HO where
  | lst (xs:List V)
  | tup (xs:List V)
  | dK (kvs:List (Key×V))|dT (kvs:List (List Key×V))
  | set (S:Int->Bool) (n:Nat)
  | ins (C dx:Addr) (fs:List (Str×V))
  | own (x:Addr)
  | xd (fs:List (Str×V))
  | met (f x:Addr)
  | rng (lo hi:Int)
  | frz (o:Obj) (u:HO)
  | tbl (ps:Array Value)
  | ext (φ:Heap->Prop)
abbrev Hp:=Addr->Option HO
def upd (H:Hp) (a:Addr) (o:HO):Hp:=fun b=>if b=a then some o else H b
def au {H:Hp} {a:Addr} {o:HO}:upd H a o a=some o:=by unfold upd;rw [if_pos rfl]
def av {H:Hp} {a b:Addr} {o:HO} (h:b≠a):upd H a o b=H b:=by unfold upd;rw [if_neg h]
def J6 {H:Hp} {a b:Addr} {o u:HO} (h:H a=some o) (h':H b=some u) (d:o≠u):a≠b:=by
 intro e;subst e;rw [h] at h';exact d (LG h')
def aH {H:Hp} {a b:Addr} {o:HO} (h:H a=some o) (h':H b=none):a≠b:=by
 intro e;subst e;rw [h] at h';cases h'
section
variable (P:Lp) (w:World)
def bX (H:Hp) (h:Heap) (a:Addr):HO->Prop
 | .lst xs=>xs.length<=LB/\∃ (its:List Value) (n:Nat),Vals xs its/\h.get? a=some { cls:=.type "list",data:=.seq its.toArray n }
 | .tup xs=>xs.length<=LB/\∃ its:List Value,Vals xs its/\IsTup h a its.toArray
 | .dK kvs=>kvs.length<=LB/\(a == sysModules)=false/\∃ vs,KV kvs vs/\h.DictOf (c5 P w) a vs
 | .dT kvs=>kvs.length<=LB/\(a == sysModules)=false/\∃ xs:List (List Key×Addr×Value),
   MB (fun (p:List Key×V) (q:List Key×Addr×Value)=>p.1=q.1/\H q.2.1=some (.tup (p.1.map kV))/\RelV p.2 q.2.2) kvs xs /\
   ∃ o es ep,h.get? a=some o/\o.ExactDict/\o.data=.dict es ep/\es.toList=xs.map (entryOfKey (tupleKind (c5 P w)))/\(xs.map (·.1)).Nodup
 | .set S n=>h.SetOf (intKind P w) a S n
 | .ins C dx fs=>H dx=some (.own a)/\fs.length<=1000/\dx≠a/\h.get? a=some (MW C dx) /\
   ∃ mA,h.Ns1 dx mA/\(∀ f,eQ (fs.lookup f) (mA f))/\Qw mA (fs.map (·.1))
 | .own _=>∃ o,h.get? a=some o
 | .xd fs=>∃ mA,h.Ns1 a mA/\∀ f,eQ (fs.lookup f) (mA f)
 | .rng lo hi=>∃ t u v,h.get? a=some { cls:=.type "range",data:=.fields #[.int lo t,.int hi u,.int 1 v] }
 | .frz o u=>h.get? a=some o/\bX H h a u
 | .tbl ps=>h.get? a=some { cls:=.none,data:=.fields ps }
 | .met f x=>h.get? a=some (OO (.ref f) (.ref x))
 | .ext φ=>φ h/\(∃ o,h.get? a=some o)/\∀ h1 h2:Heap,φ h1->(∀ o,h1.get? a=some o->h2.get? a=some o)->φ h2
def HOk (H:Hp) (h:Heap):Prop:=∀ a o,H a=some o->bX P w H h a o
end
section
variable {P:Lp} {w:World} {H H':Hp} {h h':Heap} {a:Addr} {o:HO}
def bX.lt (x:bX P w H h a o):a<h.objs.size:=by
 cases o with
 | lst xs=>obtain ⟨_,_,_,_,e⟩:=x;exact Li e
 | tup xs=>obtain ⟨_,_,_,p⟩:=x;exact p.lt
 | dK kvs=>obtain ⟨_,_,_,_,o,_,_,e,_⟩:=x;exact Li e
 | dT kvs=>obtain ⟨_,_,_,_,o,_,_,e,_⟩:=x;exact Li e
 | set S n=>obtain ⟨o,_,_,_,e,_⟩:=x;exact Li e
 | ins C dx fs=>obtain ⟨_,_,_,e,_⟩:=x;exact Li e
 | own y=>obtain ⟨_,e⟩:=x;exact Li e
 | xd fs=>obtain ⟨_,⟨_,_,_,e,_⟩,_⟩:=x;exact Li e
 | rng lo hi=>obtain ⟨_,_,_,e⟩:=x;exact Li e
 | frz ob u=>obtain ⟨e,_⟩:=x;exact Li e
 | tbl ps=>exact Li (show h.get? a=some _ from x)
 | met f y=>exact Li (show h.get? a=some _ from x)
 | ext φ=>obtain ⟨_,⟨_,e⟩,_⟩:=x;exact Li e
def Paired.dD {α β:Type} {F G:α->β->Prop}:∀ {l₁:List α} {l₂:List β},MB F l₁ l₂->(∀ a b,F a b->G a b)->MB G l₁ l₂
 | _,_,.nil,_=>.nil
 | _,_,.cons r t,f=>.cons (f _ _ r) (Paired.dD t f)
def bX.oM (x:bX P w H h a o) (k:∀ b u,(b=a\/H b=some (.own a))->h.get? b=some u->h'.get? b=some u)
  (ho:∀ b,H b=some (.own a)->H' b=some (.own a)) (ht:∀ b xs,H b=some (.tup xs)->H' b=some (.tup xs)):bX P w H' h' a o:=by
 induction o with
 | lst xs=>obtain ⟨z,its,n,r,e⟩:=x;exact ⟨z,its,n,r,k _ _ (.inl rfl) e⟩
 | tup xs=>obtain ⟨z,its,r,ob,e,c⟩:=x;exact ⟨z,its,r,ob,k _ _ (.inl rfl) e,c⟩
 | dK kvs=>obtain ⟨z,y,vs,r,ob,es,ep,e,c⟩:=x;exact ⟨z,y,vs,r,ob,es,ep,k _ _ (.inl rfl) e,c⟩
 | dT kvs =>
  obtain ⟨z,y,xs,r,ob,es,ep,e,c⟩:=x;exact ⟨z,y,xs,Paired.dD r fun p q z=>⟨z.1,ht _ _ z.2.1,z.2.2⟩,ob,es,ep,k _ _ (.inl rfl) e,c⟩
 | set S n=>obtain ⟨ob,es,ep,t,e,c⟩:=x;exact ⟨ob,es,ep,t,k _ _ (.inl rfl) e,c⟩
 | ins C dx fs =>
  obtain ⟨d,z,ne,e,mA,⟨od,es,ep,e2,c⟩,r⟩:=x;exact ⟨ho _ d,z,ne,k _ _ (.inl rfl) e,mA,⟨od,es,ep,k _ _ (.inr d) e2,c⟩,r⟩
 | own y=>obtain ⟨ob,e⟩:=x;exact ⟨ob,k _ _ (.inl rfl) e⟩
 | xd fs=>obtain ⟨mA,⟨od,es,ep,e,c⟩,r⟩:=x;exact ⟨mA,⟨od,es,ep,k _ _ (.inl rfl) e,c⟩,r⟩
 | rng lo hi=>obtain ⟨t,u,v,e⟩:=x;exact ⟨t,u,v,k _ _ (.inl rfl) e⟩
 | frz ob u ih=>obtain ⟨e,q⟩:=x;exact ⟨k _ _ (.inl rfl) e,ih q⟩
 | tbl ps =>
  have e:h.get? a=some { cls:=.none,data:=.fields ps }:=x;show h'.get? a=some { cls:=.none,data:=.fields ps };exact k a _ (.inl rfl) e
 | met f y =>
  have e:h.get? a=some (OO (.ref f) (.ref y)):=x;show h'.get? a=some (OO (.ref f) (.ref y));exact k a _ (.inl rfl) e
 | ext φ=>obtain ⟨p,⟨o,e⟩,st⟩:=x;exact ⟨st _ _ p fun o q=>k _ _ (.inl rfl) q,⟨o,k _ _ (.inl rfl) e⟩,st⟩
def HOk.lt (x:HOk P w H h) (e:H a=some o):a<h.objs.size:=(x a o e).lt
def HOk.fresh (x:HOk P w H h) (e:h.objs.size<=a):H a=none:=by
 cases q:H a with
 | none=>rfl
 | some u=>exact absurd (Lm (x.lt q) e) (Mp _)
def HOk.kept (x:HOk P w H h) (k:∀ b u,h.get? b=some u->h'.get? b=some u):HOk P w H h':=fun a o e =>
 (x a o e).oM (fun b u _ q=>k b u q) (fun _ q=>q) fun _ _ q=>q
def HOk.laid (x:HOk P w H h) (k:∀ b u,h.get? b=some u->h'.get? b=some u) (hp:h.objs.size<=a) (new:bX P w (upd H a o) h' a o):HOk P w (upd H a o) h':=fun b u e=>by
 have hn:=x.fresh hp
 by_cases hb:b=a
 ·subst hb;rw [au] at e;cases e;exact new
 ·rw [av hb] at e;exact (x b u e).oM (fun c v _ q=>k c v q) (fun c q=>by rw [av (aH q hn)];exact q) fun c xs q=>by rw [av (aH q hn)];exact q
end
def Rd (H:Hp) (a:Addr) (u:HO):Prop:=H a=some u\/∃ o,H a=some (.frz o u)
def Rd.of {H:Hp} {a:Addr} {u:HO} (h:H a=some u):Rd H a u:=.inl h
def Rd.ok {P:Lp} {w:World} {H:Hp} {h:Heap} {a:Addr} {u:HO} (r:Rd H a u) (x:HOk P w H h):bX P w H h a u:=by
 rcases r with r|⟨o,r⟩
 ·exact x a u r
 ·obtain ⟨_,q⟩:=x a _ r;exact q
def Mut:Option HO->Prop
 | some (.lst _)=>True
 | some (.dK _)=>True
 | some (.dT _)=>True
 | some (.set _ _)=>True
 | some (.ins _ _ _)=>True
 | some (.ext _)=>True
 | _=>False
section
variable {P:Lp} {w:World} {H:Hp} {h h':Heap} {x e:Addr} {o':HO}
def HOk.write (ok:HOk P w H h) (mu:Mut (H x)) (he:e=x\/H e=some (.own x)) (k:∀ b u,b≠e->h.get? b=some u->h'.get? b=some u) (heo:∃ u,h'.get? e=some u)
  (new:bX P w (upd H x o') h' x o'):HOk P w (upd H x o') h':=fun b u q=>by
 have nown:∀ c y,H c=some (.own y)->c≠x:=fun c y r z=>by subst z;rw [r] at mu;exact mu
 have ntup:∀ c xs,H c=some (.tup xs)->c≠x:=fun c xs r z=>by subst z;rw [r] at mu;exact mu
 by_cases hb:b=x
 ·subst hb;rw [au] at q;cases q;exact new
 ·rw [av hb] at q
  by_cases hbe:b=e
  ·have q':H b=some (.own x):=by
    rcases he with z|z
    ·exact absurd (hbe.trans z) hb
    ·rw [hbe];exact z
   rw [q] at q';cases q';obtain ⟨v,hv⟩:=heo;exact ⟨v,by rw [hbe];exact hv⟩
  ·refine (ok b u q).oM (fun c v hc r=>k c v ?_ r) (fun c r=>by rw [av (nown c b r)];exact r) fun c xs r=>by rw [av (ntup c xs r)];exact r
   rcases hc with rfl|hc
   ·exact hbe
   ·rintro rfl;rcases he with z|z
    ·exact nown c b hc z
    ·rw [hc] at z;cases z;exact hb rfl
end
structure Un (fs ex:List Addr) (H H':Hp) (h h':Heap):Prop where
 keep:∀ b o,h.get? b=some o->H b=none->b∉fs->b∉ex->h'.get? b=some o
 slot:∀ b o,h.get? b=some o->H b=none->b∈fs->b∉ex->∃ sl,h'.get? b=some { o with slots:=sl }
 free:∀ b o,h.get? b=some o->H b=none->b∉ex->H' b=none
 there:∀ b o,h.get? b=some o->b∉ex->∃ o',h'.get? b=some o'
 i8:∀ b xs,H b=some (.tup xs)->H' b=some (.tup xs)
 ij:∀ b o u,H b=some (.frz o u)->H' b=some (.frz o u)
 iP:∀ b ps,H b=some (.tbl ps)->∃ more,H' b=some (.tbl (ps++more))
section
variable {fs fs' ex ex':List Addr} {H H1 H2:Hp} {h h1 h2 h':Heap} {a x e:Addr} {o:HO}
def Un.any (u:Un fs ex H H1 h h1) {b:Addr} {ob:Obj} (q:h.get? b=some ob) (n:H b=none) (hx:b∉ex):∃ sl,h1.get? b=some { ob with slots:=sl }:=by
 by_cases hb:b∈fs
 ·exact u.slot b ob q n hb hx
 ·exact ⟨ob.slots,u.keep b ob q n hb hx⟩
def Un.trans (a:Un fs ex H H1 h h1) (b:Un fs ex H1 H2 h1 h2):Un fs ex H H2 h h2 where
 keep:=fun c ob q n hc hx=>b.keep c ob (a.keep c ob q n hc hx) (a.free c ob q n hx) hc hx
 slot:=fun c ob q n hc hx=>by
  obtain ⟨sl,e1⟩:=a.slot c ob q n hc hx;obtain ⟨sl',e2⟩:=b.slot c _ e1 (a.free c ob q n hx) hc hx;exact ⟨sl',e2⟩
 free:=fun c ob q n hx=>by
  obtain ⟨o',e1⟩:=a.there c ob q hx;exact b.free c o' e1 (a.free c ob q n hx) hx
 there:=fun c ob q hx=>by
  obtain ⟨o',e1⟩:=a.there c ob q hx;exact b.there c o' e1 hx
 i8:=fun c xs q=>b.i8 c xs (a.i8 c xs q)
 ij:=fun c ob xs q=>b.ij c ob xs (a.ij c ob xs q)
 iP:=fun c ps q=>by
  obtain ⟨m1,e1⟩:=a.iP c ps q;obtain ⟨m2,e2⟩:=b.iP c _ e1;exact ⟨m1++m2,by rw [e2,Array.append_assoc]⟩
def Un.kept (k:∀ b u,h.get? b=some u->h'.get? b=some u):Un fs ex H H h h' :=
 ⟨fun b ob q _ _ _=>k b ob q,fun b ob q _ _ _=>⟨ob.slots,k b ob q⟩,fun _ _ _ n _=>n,fun b ob q _=>⟨ob,k b ob q⟩,fun _ _ q=>q,fun _ _ _ q=>q,fun _ ps q=>⟨#[],by rw [q];simp⟩⟩
def Un.refl:Un fs ex H H h h:=Un.kept fun _ _ q=>q
def Un.laid (k:∀ b u,h.get? b=some u->h'.get? b=some u) (hp:h.objs.size<=a) (hn:H a=none):Un fs ex H (upd H a o) h h' where
 keep:=fun b u q _ _ _=>k b u q
 slot:=fun b u q _ _ _=>⟨u.slots,k b u q⟩
 free:=fun b u q n _=>by rw [av (Lz (Lm (Li q) hp))];exact n
 there:=fun b u q _=>⟨u,k b u q⟩
 i8:=fun b xs q=>by rw [av (aH q hn)];exact q
 ij:=fun b u xs q=>by rw [av (aH q hn)];exact q
 iP:=fun b ps q=>⟨#[],by rw [av (aH q hn),q];simp⟩
def Un.write (mu:Mut (H x)) (he:e=x\/H e=some (.own x)) (k:∀ b u,b≠e->h.get? b=some u->h'.get? b=some u) (heo:∃ u,h'.get? e=some u):Un fs ex H (upd H x o) h h':=by
 have hx:∀ b,H b=none->b≠x:=fun b n z=>by subst z;rw [n] at mu;exact mu
 have hb:∀ b,H b=none->b≠e:=fun b n z=>by
  subst z;rcases he with r|r
  ·exact hx b n r
  ·rw [n] at r;cases r
 have hm:∀ b u,H b=some u->¬ Mut (some u)->b≠x:=fun b u q nm z=>by subst z;rw [q] at mu;exact nm mu
 refine ⟨fun b u q n _ _=>k b u (hb b n) q,fun b u q n _ _=>⟨u.slots,k b u (hb b n) q⟩,fun b u q n _=>by rw [av (hx b n)];exact n,fun b u q _=>?_,
  fun b xs q=>by rw [av (hm b _ q fun z=>z)];exact q,fun b u xs q=>by rw [av (hm b _ q fun z=>z)];exact q,fun b ps q=>⟨#[],by rw [av (hm b _ q fun z=>z),q];simp⟩⟩
 by_cases hbe:b=e
 ·subst hbe;exact heo
 ·exact ⟨u,k b u hbe q⟩
def Un.mono (u:Un fs ex H H1 h h1) (hs:∀ b∈fs,b∈fs') (hx:∀ b∈ex,b∈ex'):Un fs' ex' H H1 h h1 :=
 ⟨fun b ob q n hb he=>u.keep b ob q n (fun z=>hb (hs b z)) fun z=>he (hx b z),fun _ _ q n _ he=>u.any q n fun z=>he (hx _ z),fun b ob q n he=>u.free b ob q n fun z=>he (hx b z),fun b ob q he=>u.there b ob q fun z=>he (hx b z),u.i8,u.ij,u.iP⟩
end
def trk (h:Heap) (H:Hp):List Addr:=(K3 h.objs.size).filter fun a=>(H a).isSome
def og (h:Heap) (H:Hp):Heap:=PySem.W.hideAll h (trk h H)
def EA (h:Heap) (H:Hp):(og h H).objs.size=h.objs.size:=PySem.W.hideAll_size _ _
def GD {h:Heap} {H:Hp} {b:Addr} {o:Obj} (e:h.get? b=some o) (n:H b=none):(og h H).get? b=some o :=
 PySem.W.hideAll_get _ e fun hm=>by
  have q:(H b).isSome=true:=(Mc.mp hm).2;rw [n] at q;simp at q
def Iz {h:Heap} {H:Hp} {b:Addr} {o:Obj} (e:(og h H).get? b=some o):h.get? b=some o/\H b=none:=by
 have e':h.get? b=some o:=PySem.W.of_hideAll (trk h H) e;refine ⟨e',?_⟩;cases q:H b with
 | none=>rfl
 | some x =>
  have hm:b∈trk h H:=Mc.mpr ⟨K7.mpr (Li e'),by simp [q]⟩
  have z:(og h H).get? b=none:=PySem.W.hideAll_none (trk h H) hm;rw [z] at e;cases e
structure Mod (K:KW) (mg:Str->Option Value) (base:Heap):Prop where
 kin:K.In base
 glob:base.Ns L1 mg
 blt:∃ mb,base.Ns builtinsNs mb/\∀ x:Str,x ≠ "__name__" -> mb x=bootBuiltins x
 nolimit:base.NoLimit
structure Cx where
 prog:Lp
 w:World
 K:KW
 mg:Str->Option Value
 base:Heap
 A:LW
 N:List Str
 s₀:K5
 H₀:Hp
 env:Env
 outer:List Env
 stack:List Env
 ex:List Addr
 fn:Str->Bool
 calm:Bool
 pn:List (Addr×Obj)
 xe:Value->K5->Prop
def frs (l:List Env):List Addr:=l.filterMap (·.frame)
abbrev Cx.fs (X:Cx):List Addr:=frs X.outer
def Vis (sc:Scope) (x:Str):Prop:=sc.names.lookup x=some .local\/sc.names.lookup x=some .cell\/sc.names.lookup x=some .free
def Loc (sc:Scope) (x:Str):Prop:=sc.names.lookup x=some .local\/sc.names.lookup x=some .cell
def Look (env:Env) (h:Heap) (m:Str->Option Value) (x:Str) (u:Value):Prop :=
 (env.kindOf x=some .local/\m x=some u)\/((env.kindOf x=some .cell\/env.kindOf x=some .free)/\∃ c,env.cells.lookup x=some c/\h.IsCell c (some u))
structure Cx.Ok (X:Cx):Prop where
 mod:Mod X.K X.mg X.base
 kind:X.env.scope.kind=.function
 glob:X.env.globals=L1
 blt:X.env.builtins=builtinsNs
 above:X.s₀.heap.objs.size<=X.env.locals
 inj:∀ x y c,X.env.cells.lookup x=some c->X.env.cells.lookup y=some c->x=y
 has:∀ x,(X.env.kindOf x=some .cell\/X.env.kindOf x=some .free)->∃ c,X.env.cells.lookup x=some c
 cab:∀ x c,X.fn x=true->X.env.cells.lookup x=some c->X.s₀.heap.objs.size<=c
 hd:X.calm=true->X.A.handled=none
 frames:X.A.frames=some X.stack
 stk:X.stack=X.outer\/(X.stack=X.env :: X.outer/\X.env.frame=some X.env.locals)
 exf:∀ b∈X.ex,b≠X.env.locals/\∀ x c,X.env.cells.lookup x=some c->c≠b
 bs:∀ b o,X.base.get? b=some o->X.s₀.heap.get? b=some o/\X.H₀ b=none
 bsz:X.base.objs.size<=X.s₀.heap.objs.size
 sG:∀ b o,X.base.get? b=some o->b∉X.ex
 ph:∀ b∈X.ex,b∉X.fs
 eT:X.s₀.heap.FunFrames X.base X.outer
 frf:∀ b∈X.fs,X.H₀ b=none
structure Inv (X:Cx) (pins:List (Addr×Obj)) (σ:List (Option V)) (H:Hp) (s:K5):Prop where
 ok:X.Ok
 os:s.os=X.s₀.os
 bare:O6 s.gens
 base:Un X.fs X.ex X.H₀ H X.s₀.heap s.heap
 loc:∃ m,s.heap.Ns X.env.locals m/\∀ (i:Nat) (x:Str) (v:V),X.N[i]?=some x->σ[i]?=some (some v)->Vis X.env.scope x->∃ u,RelV v u/\Look X.env s.heap m x u
 cell:∀ x c,X.env.cells.lookup x=some c->∃ v,s.heap.IsCell c v
 free:H X.env.locals=none
 fH:∀ x c,X.env.cells.lookup x=some c->H c=none
 pin:∀ p∈X.pn++pins,s.heap.get? p.1=some p.2/\H p.1=none/\p.1≠X.env.locals/\p.1∉X.fs/\∀ v,p.2.data≠.cell v
 hok:HOk X.prog X.w H s.heap
 len:σ.length=X.N.length
section
variable {X:Cx} {pins:List (Addr×Obj)} {σ:List (Option V)} {H H':Hp} {s:K5} {h':Heap}
def Cx.Ok.KC (ok:X.Ok) {b:Addr} {o:Obj} (e:X.base.get? b=some o):b∉X.fs:=fun hb=>by
 have:=(ok.eT.mem hb).1;rw [e] at this;cases this
def Inv.bs (I:Inv X pins σ H s):∀ b o,X.base.get? b=some o->s.heap.get? b=some o/\H b=none:=fun b o e =>
 ⟨I.base.keep b o (I.ok.bs b o e).1 (I.ok.bs b o e).2 (I.ok.KC e) (I.ok.sG b o e),I.base.free b o (I.ok.bs b o e).1 (I.ok.bs b o e).2 (I.ok.sG b o e)⟩
def Inv.bk (I:Inv X pins σ H s):∀ b o,X.base.get? b=some o->s.heap.get? b=some o:=fun b o e=>(I.bs b o e).1
def Inv.mod (I:Inv X pins σ H s):Mod X.K X.mg X.base:=I.ok.mod
def Inv.kIn (I:Inv X pins σ H s):X.K.In s.heap:=I.ok.mod.kin.keeps I.bk
def Inv.lt (I:Inv X pins σ H s):X.env.locals<s.heap.objs.size:=let ⟨_,hn,_⟩:=I.loc;hn.lt
def Inv.sz (I:Inv X pins σ H s):X.s₀.heap.objs.size<=s.heap.objs.size:=L4 I.ok.above (Nh I.lt)
def Inv.KL (I:Inv X pins σ H s) {a:Addr} (h:s.heap.objs.size<=a):a∉X.fs:=fun hb=>by
 obtain ⟨_,o,ho,_⟩:=I.ok.eT.mem hb;exact absurd (Lm (Li ho) (L4 I.sz h)) (Mp _)
def Inv.cne (I:Inv X pins σ H s):∀ x c,X.env.cells.lookup x=some c->c≠X.env.locals:=fun x c e z=>by
 obtain ⟨v,o,ho,hd⟩:=I.cell x c e;obtain ⟨m,⟨o',es,ep,ho',hd',_⟩,_⟩:=I.loc;rw [z,ho'] at ho;cases ho;rw [hd'] at hd;cases hd
def Inv.eT (I:Inv X pins σ H s):s.heap.FunFrames X.base X.outer:=by
 have all:∀ (l:List Env),(∀ b∈frs l,b∈X.fs)->X.s₀.heap.FunFrames X.base l->s.heap.FunFrames X.base l:=by
  intro l
  induction l with
  | nil=>intro _ _;trivial
  | cons env r ih =>
   intro hs hl;obtain ⟨hk,⟨L,o,hf,hn,ho,hd⟩,hr⟩:=hl;have hL:L∈X.fs:=hs L (by unfold frs;rw [NR,hf];exact Le)
   obtain ⟨sl,e⟩:=I.base.slot L o ho (I.ok.frf L hL) hL fun z=>I.ok.ph L z hL;exact ⟨hk,⟨L,_,hf,hn,e,hd⟩,ih (fun b hb=>hs b (by unfold frs;rw [NR,hf];exact K8 _ hb)) hr⟩
 exact all X.outer (fun _ hb=>hb) I.ok.eT
def Inv.stack (I:Inv X pins σ H s):s.heap.FunFrames X.base X.stack:=by
 rcases I.ok.stk with e|⟨e,hf⟩
 ·rw [e];exact I.eT
 ·rw [e];obtain ⟨m,hn,_⟩:=I.loc;refine .cons (by rw [I.ok.kind];decide) hf hn ?_ I.eT
  exact Heap.get?_none_of_le (L4 I.ok.bsz I.ok.above)
def Inv.pA (I:Inv X pins σ H s):∀ b∈frs X.stack,b∈X.env.locals :: X.fs:=fun b hb=>by
 rcases I.ok.stk with e|⟨e,hf⟩
 ·rw [e] at hb;exact K8 _ hb
 ·rw [e] at hb;unfold frs at hb;rw [NR,hf] at hb;exact hb
def Inv.vP (I:Inv X pins σ H s):∀ b∈frs X.stack,H b=none:=fun b hb=>by
 rcases LL.mp (I.pA b hb) with e|hb
 ·rw [e];exact I.free
 ·obtain ⟨_,o,ho,_⟩:=I.ok.eT.mem hb;exact I.base.free b o ho (I.ok.frf b hb) fun z=>I.ok.ph b z hb
def Inv.step {g':Array OB} {t':Nat} {d':Drawn} {ch:List Addr} (I:Inv X pins σ H s)
  (hch:∀ b∈ch,(b∈X.ex\/X.s₀.heap.objs.size<=b)/\b≠X.env.locals/\(∀ x c,X.env.cells.lookup x=some c->c≠b)/\∀ p∈X.pn++pins,p.1≠b)
  (keep:∀ b o,b≠X.env.locals->b∉X.fs->b∉ch->s.heap.get? b=some o->H b=none->h'.get? b=some o)
  (slot:∀ b o,b≠X.env.locals->b∈X.fs->b∉ch->s.heap.get? b=some o->H b=none->∃ sl,h'.get? b=some { o with slots:=sl }) (free:∀ b o,b∉ch->s.heap.get? b=some o->H b=none->H' b=none)
  (there:∀ b o,b∉ch->s.heap.get? b=some o->∃ o',h'.get? b=some o')
  (i8:∀ b xs,H b=some (.tup xs)->H' b=some (.tup xs)) (ij:∀ b o u,H b=some (.frz o u)->H' b=some (.frz o u)) (iP:∀ b ps,H b=some (.tbl ps)->∃ more,H' b=some (.tbl (ps++more)))
  (ns:∀ m,s.heap.Ns X.env.locals m->h'.Ns X.env.locals m) (hok:HOk X.prog X.w H' h') (hg:O6 g') :
  Inv X pins σ H' { s with heap:=h',gens:=g',drawn:=d',toks:=t' }:=by
 have neL:∀ b o,X.s₀.heap.get? b=some o->b≠X.env.locals:=fun b o e=>Lz (Lm (Li e) I.ok.above);have neC:∀ b o,X.s₀.heap.get? b=some o->b∉X.ex->b∉ch:=fun b o e hx hb=>by
  rcases (hch b hb).1 with z|z
  ·exact hx z
  ·exact absurd (Lm (Li e) z) (Mp _)
 have cellK:∀ x c,X.env.cells.lookup x=some c->∀ v,s.heap.IsCell c v->h'.IsCell c v:=fun x c e v ⟨o,ho,hd⟩=>by
  have nch:c∉ch:=fun z=>(hch c z).2.2.1 x c e rfl
  by_cases hc:c∈X.fs
  ·obtain ⟨sl,q⟩:=slot c o (I.cne x c e) hc nch ho (I.fH x c e);exact ⟨_,q,hd⟩
  ·exact ⟨o,keep c o (I.cne x c e) hc nch ho (I.fH x c e),hd⟩
 refine ⟨I.ok,I.os,hg,⟨fun b o e n hb hx=>?_,fun b o e n hb hx=>?_,fun b o e n hx=>?_,fun b o e hx=>?_,fun b xs e=>i8 b xs (I.base.i8 b xs e),fun b o xs e=>ij b o xs (I.base.ij b o xs e),fun b ps e=>?_⟩,?_,fun x c e=>?_,?_,fun x c e=>?_,fun p hp=>?_,hok,I.len⟩
 ·exact keep b o (neL b o e) hb (neC b o e hx) (I.base.keep b o e n hb hx) (I.base.free b o e n hx)
 ·obtain ⟨sl,e1⟩:=I.base.slot b o e n hb hx;obtain ⟨sl',e2⟩:=slot b _ (neL b o e) hb (neC b o e hx) e1 (I.base.free b o e n hx);exact ⟨sl',e2⟩
 ·obtain ⟨o',e1⟩:=I.base.there b o e hx;exact free b o' (neC b o e hx) e1 (I.base.free b o e n hx)
 ·obtain ⟨o',e1⟩:=I.base.there b o e hx;exact there b o' (neC b o e hx) e1
 ·obtain ⟨m1,e1⟩:=I.base.iP b ps e;obtain ⟨m2,e2⟩:=iP b _ e1;exact ⟨m1++m2,by rw [e2,Array.append_assoc]⟩
 ·obtain ⟨m,hn,hl⟩:=I.loc;refine ⟨m,ns m hn,fun i x v e1 e2 e3=>?_⟩;obtain ⟨u,r,l⟩:=hl i x v e1 e2 e3;refine ⟨u,r,?_⟩;rcases l with l|⟨k,c,e,z⟩
  ·exact .inl l
  ·exact .inr ⟨k,c,e,cellK x c e _ z⟩
 ·obtain ⟨v,z⟩:=I.cell x c e;exact ⟨v,cellK x c e v z⟩
 ·obtain ⟨m,⟨o,_,_,ho,_⟩,_⟩:=I.loc;exact free _ o (fun z=>(hch _ z).2.1 rfl) ho I.free
 ·obtain ⟨v,o,ho,hd⟩:=I.cell x c e;exact free c o (fun z=>(hch c z).2.2.1 x c e rfl) ho (I.fH x c e)
 ·obtain ⟨e,n,ne,nf,d⟩:=I.pin p hp;have nch:p.1∉ch:=fun z=>(hch p.1 z).2.2.2 p hp rfl;exact ⟨keep p.1 p.2 ne nf nch e n,free p.1 p.2 nch e n,ne,nf,d⟩
def Inv.un {t':Nat} (I:Inv X pins σ H s) (u:Un X.fs [] H H' s.heap h') (hok:HOk X.prog X.w H' h'):Inv X pins σ H' { s with heap:=h',toks:=t' }:=by
 obtain ⟨m,⟨o,es,ep,ho,r⟩,_⟩:=id I.loc;obtain ⟨sl,hL⟩:=u.any ho I.free (by simp)
 exact I.step (g':=s.gens) (d':=s.drawn) (ch:=[]) (fun _ z=>nomatch z) (fun b o _ hb _ e n=>u.keep b o e n hb (by simp)) (fun b o _ hb _ e n=>u.slot b o e n hb (by simp)) (fun b o _ e n=>u.free b o e n (by simp)) (fun b o _ e=>u.there b o e (by simp)) u.i8 u.ij u.iP (fun m' hm=>by
  obtain ⟨o',es',ep',ho',r'⟩:=hm;rw [ho] at ho';cases ho';exact ⟨_,es',ep',hL,r'⟩) hok I.bare
def Inv.call {g':Array OB} {t':Nat} {d':Drawn} {ch:List Addr} (I:Inv X pins σ H s) (u:Un (frs X.stack) ch H H' s.heap h') (hok:HOk X.prog X.w H' h') (hg:O6 g')
  (hch:∀ b∈ch,(b∈X.ex\/X.s₀.heap.objs.size<=b)/\b≠X.env.locals/\(∀ x c,X.env.cells.lookup x=some c->c≠b)/\∀ p∈X.pn++pins,p.1≠b) :
  Inv X pins σ H' { s with heap:=h',gens:=g',drawn:=d',toks:=t' }:=by
 obtain ⟨m,⟨o,es,ep,ho,r⟩,_⟩:=id I.loc;obtain ⟨sl,hL⟩:=u.any ho I.free fun z=>(hch _ z).2.1 rfl;exact I.step (ch:=ch) hch (fun b o hL hb hc e n=>u.keep b o e n (fun z=>(LL.mp (I.pA b z)).elim hL hb) hc) (fun b o _ _ hc e n=>u.any e n hc) (fun b o hc e n=>u.free b o e n hc) (fun b o hc e=>u.there b o e hc) u.i8 u.ij u.iP (fun m' hm=>by
  obtain ⟨o',es',ep',ho',r'⟩:=hm;rw [ho] at ho';cases ho';exact ⟨_,es',ep',hL,r'⟩) hok hg
def Inv.turned {t':Nat} {it:Addr} (I:Inv X pins σ H s) (k:∀ b o,b≠it->s.heap.get? b=some o->h'.get? b=some o) (hn:H it=none) (hL:it≠X.env.locals)
  (h1:it∈X.ex\/X.s₀.heap.objs.size<=it) (h2:∀ x c,X.env.cells.lookup x=some c->c≠it) (h3:∀ p∈X.pn++pins,p.1≠it):Inv X pins σ H { s with heap:=h',toks:=t' }:=by
 have nit:∀ b u,H b=some u->b≠it:=fun b u e z=>by rw [z,hn] at e;cases e
 refine I.step (g':=s.gens) (d':=s.drawn) (ch:=[it]) (fun b hb=>?_) (fun b o _ _ hc e _=>k b o (fun z=>hc (by simp [z])) e) (fun b o _ _ hc e _=>⟨o.slots,k b o (fun z=>hc (by simp [z])) e⟩) (fun _ _ _ _ n=>n)
  (fun b o hc e=>⟨o,k b o (fun z=>hc (by simp [z])) e⟩) (fun _ _ e=>e) (fun _ _ _ e=>e) (fun b ps e=>⟨#[],by rw [e];simp⟩) (fun m hm=>?_) (fun b u e=>?_) I.bare
 ·have e:b=it:=by simpa using hb
  subst e;exact ⟨h1,hL,h2,h3⟩
 ·obtain ⟨o,es,ep,ho,r⟩:=hm;exact ⟨o,es,ep,k _ o (MX hL) ho,r⟩
 ·refine (I.hok b u e).oM (fun c v hc q=>k c v ?_ q) (fun _ q=>q) fun _ _ q=>q;rcases hc with z|z
  ·rw [z];exact nit b u e
  ·exact nit c _ z
def Inv.tok (I:Inv X pins σ H s) (t:Nat):Inv X pins σ H { s with toks:=t }:=I.un (h':=s.heap) (t':=t) Un.refl I.hok
def Inv.kept {t':Nat} (I:Inv X pins σ H s) (k:∀ b u,s.heap.get? b=some u->h'.get? b=some u):Inv X pins σ H { s with heap:=h',toks:=t' }:=I.un (Un.kept k) (I.hok.kept k)
def Inv.laid {a:Addr} {o:HO} {t':Nat} (I:Inv X pins σ H s) (k:∀ b u,s.heap.get? b=some u->h'.get? b=some u) (hp:s.heap.objs.size<=a) (new:bX X.prog X.w (upd H a o) h' a o) :
  Inv X pins σ (upd H a o) { s with heap:=h',toks:=t' }:=I.un (Un.laid k hp (I.hok.fresh hp)) (I.hok.laid k hp new)
def Inv.write {x e:Addr} {o:HO} {t':Nat} (I:Inv X pins σ H s) (mu:Mut (H x)) (he:e=x\/H e=some (.own x)) (k:∀ b u,b≠e->s.heap.get? b=some u->h'.get? b=some u) (heo:∃ u,h'.get? e=some u)
  (new:bX X.prog X.w (upd H x o) h' x o):Inv X pins σ (upd H x o) { s with heap:=h',toks:=t' }:=I.un (Un.write mu he k heo) (I.hok.write mu he k heo new)
def Inv.BG {pins':List (Addr×Obj)} (I:Inv X pins σ H s) (h:∀ p∈pins',s.heap.get? p.1=some p.2/\H p.1=none/\p.1≠X.env.locals/\p.1∉X.fs/\∀ v,p.2.data≠.cell v):Inv X pins' σ H s :=
 ⟨I.ok,I.os,I.bare,I.base,I.loc,I.cell,I.free,I.fH,fun p hp=>(LP.mp hp).elim (fun z=>I.pin p (MD _ z)) (h p),I.hok,I.len⟩
def zh {N:List Str} (hN:N.Nodup) {i j:Nat} {x:Str} (a:N[i]?=some x) (b:N[j]?=some x):i=j:=by
 obtain ⟨h1,e1⟩:=K0.mp a;obtain ⟨h2,e2⟩:=K0.mp b;exact (Of hN).mp (e1.trans e2.symm)
def wx {M:Model} {A:LW} {E:Value->K5->Prop} {i:Nat} {x:Str} {v:V} {u:Value} {Q:Unit->K5->Prop} (I:Inv X pins σ H s) (hN:X.N.Nodup) (hi:X.N[i]?=some x) (hx:Loc X.env.scope x) (r:RelV v u)
  (h:∀ s',Inv X pins (σ.set i (some v)) H s'->(∃ a,OC a s.heap s'.heap/\(a=X.env.locals\/X.env.cells.lookup x=some a))->Q () s') (hf:X.fn x=true\/X.env.scope.names.lookup x=some .local:=by first|exact .inl rfl|exact .inr rfl|assumption):wpAny M A (storeName X.env x u) Q E s:=by
 obtain ⟨m,hn,hl⟩:=id I.loc;have hcls:(X.env.scope.kind == .class || (X.env.scope.kind == .module && X.env.locals != X.env.globals))=false:=by rw [I.ok.kind];rfl
 have hiσ:i<σ.length:=by rw [I.len];exact (K0.mp hi).1
 have cne:=I.cne;have tracked:∀ {a:Addr} {h':Heap},(∃ o,s.heap.get? a=some o/\H a=none)->OC a s.heap h'->HOk X.prog X.w H h':=fun {a h'} ha hs b ob e=>by
  obtain ⟨_,_,hfree⟩:=ha;refine (I.hok b ob e).oM (fun c w' hc q=>(hs.2 c ?_).trans q) (fun _ q=>q) fun _ _ q=>q;rintro rfl;rcases hc with rfl|hc
  ·rw [hfree] at e;cases e
  ·rw [hfree] at hc;cases hc
 rcases hx with hk|hk
 ·refine wpAny_storeName_local hk hn (fun h' hn' hs=>?_) hcls;obtain ⟨oL,_,_,hoL,_⟩:=id hn;refine h _ ⟨I.ok,I.os,I.bare,⟨fun b o e n hb hx=>?_,fun b o e n hb hx=>?_,I.base.free,fun b o e hx=>?_,I.base.i8,I.base.ij,I.base.iP⟩,⟨_,hn',fun j y v' e1 e2 e3=>?_⟩,fun y c e=>?_,I.free,I.fH,fun p hp=>?_,tracked ⟨oL,hoL,I.free⟩ hs,by simpa using I.len⟩ ⟨_,hs,.inl rfl⟩
  ·exact (hs.2 b (Lz (Lm (Li e) I.ok.above))).trans (I.base.keep b o e n hb hx)
  ·obtain ⟨sl,e1⟩:=I.base.slot b o e n hb hx;exact ⟨sl,(hs.2 b (Lz (Lm (Li e) I.ok.above))).trans e1⟩
  ·obtain ⟨o',e1⟩:=I.base.there b o e hx;exact ⟨o',(hs.2 b (Lz (Lm (Li e) I.ok.above))).trans e1⟩
  ·by_cases hj:j=i
   ·subst hj;rw [hi] at e1;cases e1;rw [Mt hiσ] at e2;cases e2;exact ⟨u,r,.inl ⟨hk,by simp⟩⟩
   ·rw [ME (MX hj)] at e2;obtain ⟨u',r',q⟩:=hl j y v' e1 e2 e3;refine ⟨u',r',?_⟩;rcases q with ⟨k,e⟩|⟨k,c,e,z⟩
    ·refine .inl ⟨k,?_⟩;have:y≠x:=fun e=>hj (zh hN e1 (e ▸ hi));simp [this,e]
    ·exact .inr ⟨k,c,e,z.sameBut hs (cne y c e)⟩
  ·obtain ⟨w',z⟩:=I.cell y c e;exact ⟨w',z.sameBut hs (cne y c e)⟩
  ·obtain ⟨e,n,ne,nf,d⟩:=I.pin p hp;exact ⟨(hs.2 p.1 ne).trans e,n,ne,nf,d⟩
 ·have hfn:X.fn x=true:=by
   rcases hf with z|z
   ·exact z
   ·rw [z] at hk;cases hk
  obtain ⟨c,hc⟩:=I.ok.has x (.inl hk);obtain ⟨w',z⟩:=I.cell x c hc;refine wpAny_storeName_cell I.ok.kind hk hc z (fun h' hc' hs=>?_);obtain ⟨oc,hoc,hocd⟩:=id z;refine h { s with heap:=h' } ⟨I.ok,I.os,I.bare,⟨fun b o e n hb hx=>?_,fun b o e n hb hx=>?_,I.base.free,fun b o e hx=>?_,I.base.i8,I.base.ij,I.base.iP⟩,⟨m,hn.sameBut hs (MX (cne x c hc)),fun j y v' e1 e2 e3=>?_⟩,fun y c' e=>?_,I.free,I.fH,fun p hp=>?_,tracked ⟨oc,hoc,I.fH x c hc⟩ hs,by simpa using I.len⟩ ⟨c,hs,.inr hc⟩
  ·exact (hs.2 b (Lz (Lm (Li e) (I.ok.cab x c hfn hc)))).trans (I.base.keep b o e n hb hx)
  ·obtain ⟨sl,e1⟩:=I.base.slot b o e n hb hx;exact ⟨sl,(hs.2 b (Lz (Lm (Li e) (I.ok.cab x c hfn hc)))).trans e1⟩
  ·obtain ⟨o',e1⟩:=I.base.there b o e hx;exact ⟨o',(hs.2 b (Lz (Lm (Li e) (I.ok.cab x c hfn hc)))).trans e1⟩
  ·by_cases hj:j=i
   ·subst hj;rw [hi] at e1;cases e1;rw [Mt hiσ] at e2;cases e2;exact ⟨u,r,.inr ⟨.inl hk,c,hc,hc'⟩⟩
   ·rw [ME (MX hj)] at e2;obtain ⟨u',r',q⟩:=hl j y v' e1 e2 e3;refine ⟨u',r',?_⟩;rcases q with q|⟨k,c',e,z'⟩
    ·exact .inl q
    ·refine .inr ⟨k,c',e,z'.sameBut hs ?_⟩;rintro rfl;exact hj (zh hN e1 (I.ok.inj _ _ _ e hc ▸ hi))
  ·by_cases hcc:c'=c
   ·subst hcc;exact ⟨_,hc'⟩
   ·obtain ⟨w2,z2⟩:=I.cell y c' e;exact ⟨w2,z2.sameBut hs hcc⟩
  ·obtain ⟨e,n,ne,nf,d⟩:=I.pin p hp;refine ⟨(hs.2 p.1 ?_).trans e,n,ne,nf,d⟩;intro q;rw [q,hoc] at e;have q':oc=p.2:=LG e;exact d w' (by rw [<- q'];exact hocd)
def lg {M:Model} {A:LW} {E:Value->K5->Prop} {i:Nat} {x:Str} {v:V} {u:Value} {Q:Unit->K5->Prop} (I:Inv X pins σ H s) (hN:X.N.Nodup) (hi:X.N[i]?=some x) (hx:Loc X.env.scope x) (r:RelV v u)
  (h:∀ s',Inv X pins (σ.set i (some v)) H s'->Q () s') (hf:X.fn x=true\/X.env.scope.names.lookup x=some .local:=by first|exact .inl rfl|exact .inr rfl|assumption):wpAny M A (storeName X.env x u) Q E s :=
 wx I hN hi hx r (fun s' I' _=>h s' I') hf
def Inv.BQ {s':K5} {ch:List Addr} (I:Inv X pins σ H s) (ho:s'.os=s.os) (u:Un (frs X.stack) ch H H' s.heap s'.heap) (hok:HOk X.prog X.w H' s'.heap) (hg:O6 s'.gens)
  (hch:∀ b∈ch,(b∈X.ex\/X.s₀.heap.objs.size<=b)/\b≠X.env.locals/\(∀ x c,X.env.cells.lookup x=some c->c≠b)/\∀ p∈X.pn++pins,p.1≠b):Inv X pins σ H' s':=by
 obtain ⟨h',g',d',t',o'⟩:=s';have e:o'=s.os:=ho;subst e;exact I.call (g':=g') (t':=t') (d':=d') u hok hg hch
end
abbrev XK:=Value->Option Addr->Hp->Prop
abbrev St:=List (Option V)
abbrev VK:=V->Hp->Prop
abbrev TE:=St->Hp->VK->Prop
abbrev TT:=St->Hp->(Bool->Hp->Prop)->Prop
abbrev TA:=St->Hp->(List V->Hp->Prop)->Prop
structure Ends where
 nx:St->Hp->Prop
 rt:VK
 bk:St->Hp->Prop:=fun _ _=>False
 ct:St->Hp->Prop:=fun _ _=>False
abbrev TS:=Ends->St->Hp->Prop
def EP (X:Cx) (pins:List (Addr×Obj)) (σ:St) (Q:VK) (u:Value) (s':K5):Prop:=∃ v H',Inv X pins σ H' s'/\RelV v u/\Q v H'
def TP (X:Cx) (pins:List (Addr×Obj)) (σ:St) (Q:Bool->Hp->Prop) (b:Bool) (s':K5):Prop:=∃ H',Inv X pins σ H' s'/\Q b H'
def AP (X:Cx) (pins:List (Addr×Obj)) (σ:St) (Q:List V->Hp->Prop) (us:List Value) (s':K5):Prop:=∃ vs H',Inv X pins σ H' s'/\Vals vs us/\Q vs H'
def SP (X:Cx) (pins:List (Addr×Obj)) (D:Ends) (f:Flow) (s':K5):Prop :=
 match f with
 | .next=>∃ σ' H',Inv X pins σ' H' s'/\D.nx σ' H'
 | .brk=>∃ σ' H',Inv X pins σ' H' s'/\D.bk σ' H'
 | .cont=>∃ σ' H',Inv X pins σ' H' s'/\D.ct σ' H'
 | .ret u=>∃ v σ' H',Inv X pins σ' H' s'/\RelV v u/\D.rt v H'
def PE (X:Cx) (e:Expr) (t:TE):Prop :=
 ∀ (pins:List (Addr×Obj)) (s:K5) (σ:St) (H:Hp) (Q:VK),Inv X pins σ H s->t σ H Q->wpAny (model X.prog X.w) X.A (eval e X.env) (EP X pins σ Q) X.xe s
def PT (X:Cx) (e:Expr) (t:TT):Prop :=
 ∀ (pins:List (Addr×Obj)) (s:K5) (σ:St) (H:Hp) (Q:Bool->Hp->Prop),Inv X pins σ H s->t σ H Q->wpAny (model X.prog X.w) X.A (isTrue e X.env (eval e X.env)) (TP X pins σ Q) X.xe s
def PW (X:Cx) (e:Expr) (t:TT):Prop :=
 ∀ (whole:Sem Value) (pins:List (Addr×Obj)) (s:K5) (σ:St) (H:Hp) (Q:Bool->Hp->Prop),Inv X pins σ H s->t σ H Q->wpAny (model X.prog X.w) X.A (isTrue e X.env whole) (TP X pins σ Q) X.xe s
def PW.pt {X:Cx} {e:Expr} {t:TT} (h:PW X e t):PT X e t:=h _
def PA (X:Cx) (es:List Expr) (t:TA):Prop :=
 ∀ (pos:Pos) (pins:List (Addr×Obj)) (s:K5) (σ:St) (H:Hp) (Q:List V->Hp->Prop),Inv X pins σ H s->t σ H Q->wpAny (model X.prog X.w) X.A (spliced (backTo pos (LV es X.env))) (AP X pins σ Q) X.xe s
def PS (X:Cx) (st:Stmt) (t:TS):Prop :=
 ∀ (pins:List (Addr×Obj)) (s:K5) (σ:St) (H:Hp) (D:Ends),Inv X pins σ H s->t D σ H->wpAny (model X.prog X.w) X.A (exec st X.env) (SP X pins D) X.xe s
def PSs (X:Cx) (st:List Stmt) (t:TS):Prop :=
 ∀ (pins:List (Addr×Obj)) (s:K5) (σ:St) (H:Hp) (D:Ends),Inv X pins σ H s->t D σ H->wpAny (model X.prog X.w) X.A (execs st X.env) (SP X pins D) X.xe s
def thn {α:Type} {t:Sem α} {Q Q':α->K5->Prop} {M:Model} {A:LW} {E:Value->K5->Prop} {s:K5} (h:wpAny M A t Q E s) (hQ:∀ a s,Q a s->Q' a s):wpAny M A t Q' E s:=Mj h hQ fun _ _ x=>x
section
variable {X:Cx}
def o9 (i:Nat):TE:=fun σ H Q=>∃ v,σ[i]?=some (some v)/\Q v H
def tC (v:V):TE:=fun _ H Q=>Q v H
def Jb {i:Nat} {x:Str} {pos:Pos} (hN:X.N[i]?=some x) (hv:Vis X.env.scope x) (hd:(x == ("__debug__" : Str))=false:=by decide) (hcd:(x == ("__classdict__" : Str))=false:=by decide):PE X (.Name x pos) (o9 i):=by
 intro pins s σ H Q I h;obtain ⟨v,e,h⟩:=h;obtain ⟨m,hn,hl⟩:=I.loc;obtain ⟨u,r,l⟩:=hl i x v hN e hv;have fin:EP X pins σ Q u s:=⟨v,H,I,r,h⟩;rcases l with ⟨hk,hm⟩|⟨hk,c,hc,hcell⟩
 ·exact wpAny_Name (wpAny_loadName_local I.ok.kind hk hn hm fin) hd
 ·rcases hk with hk|hk
  ·exact wpAny_Name (wpAny_loadName_cell I.ok.kind hk hc hcell fin) hd
  ·exact wpAny_Name (wpAny_loadName_free I.ok.kind hk hc hcell fin hcd) hd
def ag {i j pos}:PE X (.Constant (.int i) j pos) (tC (.int i)):=fun _ _ _ H _ I h=>wpAny_Constant_int ⟨.int i,H,I.tok _,⟨_,rfl⟩,h⟩
def iE {b j pos}:PE X (.Constant (.bool b) j pos) (tC (.bl b)):=fun _ _ _ H _ I h=>Constant_bool ⟨.bl b,H,I,rfl,h⟩
def pj {j pos}:PE X (.Constant .none j pos) (tC .non):=fun _ _ _ H _ I h=>Qm ⟨.non,H,I,rfl,h⟩
def Jm {x j pos}:PE X (.Constant (.str x) j pos) (tC (.str x)):=fun _ _ _ H _ I h=>Calls.Constant_str ⟨.str x,H,I.tok _,⟨_,rfl⟩,h⟩
def Gl (X:Cx) (x:Str):Prop:=X.env.kindOf x=some .globalImplicit
def iM {E:Value->K5->Prop} {pins:List (Addr×Obj)} {s:K5} {σ:St} {H:Hp} {x:Str} {u:Value} {pos:Pos} {Q:Value->K5->Prop} (I:Inv X pins σ H s) (hg:Gl X x) (hm:X.mg x=some u) (h:Q u s)
  (hd:(x == ("__debug__" : Str))=false:=by decide):wpAny (model X.prog X.w) X.A (eval (.Name x pos) X.env) Q E s :=
 Oz I.ok.kind hg (Calls.loadGlobal_global (by rw [I.ok.glob];exact I.mod.glob.keeps I.bk) hm h) hd
def jz {E:Value->K5->Prop} {pins:List (Addr×Obj)} {s:K5} {σ:St} {H:Hp} {x:Str} {u:Value} {pos:Pos} {Q:Value->K5->Prop} (I:Inv X pins σ H s) (hg:Gl X x) (hm:X.mg x=none) (hv:bootBuiltins x=some u) (h:Q u s)
  (hn:x ≠ "__name__":=by decide) (hd:(x == ("__debug__" : Str))=false:=by decide):wpAny (model X.prog X.w) X.A (eval (.Name x pos) X.env) Q E s:=by
 obtain ⟨mb,h1,h2⟩:=I.mod.blt;exact Oz I.ok.kind hg (Calls.loadGlobal_builtin (by rw [I.ok.glob];exact I.mod.glob.keeps I.bk) hm (by rw [I.ok.blt];exact h1.keeps I.bk) ((h2 x hn).trans hv) h) hd
def qf {x:Str} {v:V} {u:Value} {pos:Pos} (hg:Gl X x) (hm:X.mg x=some u) (r:RelV v u) (hd:(x == ("__debug__" : Str))=false:=by decide):PE X (.Name x pos) (tC v) :=
 fun _ _ _ H _ I h=>iM I hg hm ⟨v,H,I,r,h⟩ hd
def vj {x:Str} {v:V} {u:Value} {pos:Pos} (hg:Gl X x) (hm:X.mg x=none) (hv:bootBuiltins x=some u) (r:RelV v u) (hn:x ≠ "__name__":=by decide) (hd:(x == ("__debug__" : Str))=false:=by decide):PE X (.Name x pos) (tC v) :=
 fun _ _ _ H _ I h=>jz I hg hm hv ⟨v,H,I,r,h⟩ hn hd
variable {a b:Expr} {ta tb:TE} {pos:Pos}
def PC (X:Cx) (op:CmpOp) (a b:Expr) (t:TE):Prop :=
 ∀ (pins:List (Addr×Obj)) (s:K5) (σ:St) (H:Hp) (Q:VK),Inv X pins σ H s->t σ H Q ->
  wpAny (model X.prog X.w) X.A (eval a X.env) (fun v s₁=>wpAny (model X.prog X.w) X.A (eval b X.env) (fun u s₂=>wpAny (model X.prog X.w) X.A (compareOp op v u) (EP X pins σ Q) X.xe s₂) X.xe s₁) X.xe s
def yQ (b:Expr) {op:CmpOp} (h:op≠.In) (h2:op≠.NotIn):behindInMarks op b=false:=by
 have e1:(op == CmpOp.In)=false:=by cases op <;> first|rfl|exact absurd rfl h
 have e2:(op == CmpOp.NotIn)=false:=by cases op <;> first|rfl|exact absurd rfl h2
 cases b <;> simp [behindInMarks,e1,e2]
def IJ (ta:TE):TE:=fun σ H Q=>ta σ H fun x H1=>Q (.bl (decide (x=.non))) H1
def Hj (ta:TE):TE:=fun σ H Q=>ta σ H fun x H1=>Q (.bl (!decide (x=.non))) H1
def RelV.Aa {x:V} {v:Value} (r:RelV x v):(v == NJ)=decide (x=.non):=by
 cases x with
 | non=>cases r;rfl
 | bl _=>cases r;rfl
 | int _=>obtain ⟨t,rfl⟩:=r;rfl
 | str _=>obtain ⟨t,rfl⟩:=r;rfl
 | byt _=>obtain ⟨t,rfl⟩:=r;rfl
 | flt _=>obtain ⟨t,rfl⟩:=r;rfl
 | ref _=>cases r;rfl
 | ty _=>cases r;rfl
def Eo {j pos'} (ha:PE X a ta):PC X .Is a (.Constant .none j pos') (IJ ta):=by
 intro pins s σ H Q I h;refine thn (ha pins s σ H _ I h) fun v s1 ⟨x,H1,I1,r1,q1⟩=>?_;exact Qm (is_none_gen ⟨.bl _,H1,I1,by rw [r1.Aa];rfl,q1⟩)
def Bu {j pos'} (ha:PE X a ta):PC X .IsNot a (.Constant .none j pos') (Hj ta):=by
 intro pins s σ H Q I h;refine thn (ha pins s σ H _ I h) fun v s1 ⟨x,H1,I1,r1,q1⟩=>?_;exact Qm (isnot_none_gen ⟨.bl _,H1,I1,by rw [r1.Aa];rfl,q1⟩)
def tB (t:TE):TT:=fun σ H Q=>t σ H fun x H1=>∃ c,x=.bl c/\Q c H1
def Jw {op:CmpOp} {t:TE} (h:PC X op a b t) (h1:behindInMarks op b=false:=by first|exact yQ _ (by decide) (by decide)|rfl):PE X (.Compare a [op] [b] pos) t:=fun pins s σ H Q I hw=>wpAny_Compare1 (h pins s σ H Q I hw) h1
def ud {op:CmpOp} {t:TE} (h:PC X op a b t) (h1:behindInMarks op b=false:=by first|exact yQ _ (by decide) (by decide)|rfl):PT X (.Compare a [op] [b] pos) (tB t):=by
 intro pins s σ H Q I hw;refine Pr (thn (h pins s σ H _ I hw) fun v s1 h1=>thn h1 fun u s2 h2=>thn h2 fun c s3 ⟨x,H1,I1,r1,q1⟩=>?_) h1;obtain ⟨d,rfl,q⟩:=q1;cases r1;exact MH ⟨H1,I1,q⟩
def jG {e:Expr} {t:TE} (h:PE X e t) (he:∀ whole,isTrue e X.env whole=(do let v <- whole;standAt e.pos;holding [v] (truthy v)):=by intro _;rfl):PT X e (tB t):=by
 intro pins s σ H Q I hw;refine isTrue_plain (thn (h pins s σ H _ I hw) fun v s1 ⟨x,H1,I1,r1,q1⟩=>?_) (he _);obtain ⟨d,rfl,q⟩:=q1;cases r1;exact MH ⟨H1,I1,q⟩
variable {tA tB':TT} {rest:List Expr}
def Jk (t u:TT):TT:=fun σ H Q=>t σ H fun c H1=>if c=true then u σ H1 Q else Q false H1
def tOr (t u:TT):TT:=fun σ H Q=>t σ H fun c H1=>if c=true then Q true H1 else u σ H1 Q
def JU (t:TT):TT:=fun σ H Q=>t σ H fun c H1=>Q (!c) H1
def kG (ha:PT X a tA):PW X (.BoolOp .And [a] pos) tA:=by
 intro wh pins s σ H Q I h;refine isTrue_and (thn (ha pins s σ H Q I h) fun c s1 e=>?_);cases c with
 | true=>exact isTrue_and_nil e
 | false=>exact e
def mL (ha:PT X a tA):PW X (.BoolOp .Or [a] pos) tA:=by
 intro wh pins s σ H Q I h;refine isTrue_or (thn (ha pins s σ H Q I h) fun c s1 e=>?_);cases c with
 | false=>exact isTrue_or_nil e
 | true=>exact e
def jv (ha:PT X a tA) (hb:PW X (.BoolOp .And (b :: rest) pos) tB'):PW X (.BoolOp .And (a :: b :: rest) pos) (Jk tA tB'):=by
 intro wh pins s σ H Q I h;refine isTrue_and (thn (ha pins s σ H _ I h) fun c s1 ⟨H1,I1,q1⟩=>?_);cases c with
 | true=>exact hb wh pins s1 σ H1 Q I1 q1
 | false=>exact ⟨H1,I1,q1⟩
def om (ha:PT X a tA) (hb:PW X (.BoolOp .Or (b :: rest) pos) tB'):PW X (.BoolOp .Or (a :: b :: rest) pos) (tOr tA tB'):=by
 intro wh pins s σ H Q I h;refine isTrue_or (thn (ha pins s σ H _ I h) fun c s1 ⟨H1,I1,q1⟩=>?_);cases c with
 | true=>exact ⟨H1,I1,q1⟩
 | false=>exact hb wh pins s1 σ H1 Q I1 q1
def pV (ha:PT X a tA):PT X (.UnaryOp .Not a pos) (JU tA):=by
 intro pins s σ H Q I h;exact isTrue_not (ha pins s σ H (fun c H1=>Q (!c) H1) I h)
def G5 (ta tb:TE):TE:=fun σ H Q=>ta σ H fun x H1=>∃ c,x=.bl c/\if c=true then tb σ H1 Q else Q (.bl false) H1
def IP (ta tb:TE):TE:=fun σ H Q=>ta σ H fun x H1=>∃ c,x=.bl c/\if c=true then Q (.bl true) H1 else tb σ H1 Q
def Hf (ta:TE):TE:=fun σ H Q=>ta σ H fun x H1=>∃ c,x=.bl c/\Q (.bl (!c)) H1
def pM {op} {t:TE} (h:PE X a t):PE X (.BoolOp op [a] pos) t:=fun pins s σ H Q I hw=>BoolOp_one (h pins s σ H Q I hw)
def m6 (ha:PE X a ta) (hb:PE X (.BoolOp .And (b :: rest) pos) tb):PE X (.BoolOp .And (a :: b :: rest) pos) (G5 ta tb):=by
 intro pins s σ H Q I h;refine BoolOp_and (thn (ha pins s σ H _ I h) fun v s1 ⟨x,H1,I1,r1,q1⟩=>?_);obtain ⟨c,rfl,q1⟩:=q1;cases r1;refine MH ?_;cases c with
 | true=>exact hb pins s1 σ H1 Q I1 q1
 | false=>exact ⟨.bl false,H1,I1,rfl,q1⟩
def Kc (ha:PE X a ta) (hb:PE X (.BoolOp .Or (b :: rest) pos) tb):PE X (.BoolOp .Or (a :: b :: rest) pos) (IP ta tb):=by
 intro pins s σ H Q I h;refine BoolOp_or (thn (ha pins s σ H _ I h) fun v s1 ⟨x,H1,I1,r1,q1⟩=>?_);obtain ⟨c,rfl,q1⟩:=q1;cases r1;refine MH ?_;cases c with
 | false=>exact hb pins s1 σ H1 Q I1 q1
 | true=>exact ⟨.bl true,H1,I1,rfl,q1⟩
def JK (ha:PE X a ta):PE X (.UnaryOp .Not a pos) (Hf ta):=by
 intro pins s σ H Q I h;refine UnaryOp_ (thn (ha pins s σ H _ I h) fun v s1 ⟨x,H1,I1,r1,q1⟩=>?_);obtain ⟨c,rfl,q1⟩:=q1;cases r1;exact not_of (MH ⟨.bl (!c),H1,I1,rfl,q1⟩)
end
def SqL (K:KW) (H:Hp) (a:Addr) (xs:List V):Prop :=
 Rd H a (.lst xs) \/
  ∃ (o:Obj) (its:Array Value) (n:Nat),K.lookup a=some o/\o.cls=.type "list" /\ o.dict=none/\o.data=.seq its n/\its.size<=LB/\Vals xs its.toList
def SqT (K:KW) (H:Hp) (a:Addr) (xs:List V):Prop :=
 Rd H a (.tup xs) \/
  ∃ (o:Obj) (its:Array Value) (n:Nat),K.lookup a=some o/\o.cls=.type "tuple" /\ o.data=.seq its n/\its.size<=LB/\Vals xs its.toList
def KN:Value->Option V
 | .none=>some .non
 | .bool b=>some (.bl b)
 | .int i _=>some (.int i)
 | .str x _=>some (.str x)
 | .bytes b _=>some (.byt b)
 | .float b _=>some (.flt b)
 | .ref a=>some (.ref a)
 | .type n=>some (.ty n)
 | _=>none
def RelV.abs {x:V} {u:Value} (r:RelV x u):KN u=some x:=by
 cases x with
 | non=>cases r;rfl
 | bl _=>cases r;rfl
 | int _=>obtain ⟨t,rfl⟩:=r;rfl
 | str _=>obtain ⟨t,rfl⟩:=r;rfl
 | byt _=>obtain ⟨t,rfl⟩:=r;rfl
 | flt _=>obtain ⟨t,rfl⟩:=r;rfl
 | ref _=>cases r;rfl
 | ty _=>cases r;rfl
def RelV.inj {x y:V} {u:Value} (r:RelV x u) (q:RelV y u):x=y:=LG (r.abs.symm.trans q.abs)
def Vals.inj:∀ {xs ys:List V} {us:List Value},Vals xs us->Vals ys us->xs=ys
 | _,_,_,.nil,.nil=>rfl
 | _,_,_,.cons r t,.cons r' t'=>by rw [r.inj r',Vals.inj t t']
section
variable {X:Cx} {pins:List (Addr×Obj)} {σ:St} {H:Hp} {s:K5} {a:Addr} {xs ys:List V}
def SqL.of {K:KW} (h:H a=some (.lst xs)):SqL K H a xs:=.inl (.inl h)
def SqT.of {K:KW} (h:H a=some (.tup xs)):SqT K H a xs:=.inl (.inl h)
def Inv.list (I:Inv X pins σ H s) (h:SqL X.K H a xs):∃ its:List Value,Vals xs its/\PlainL s.heap a its.toArray/\xs.length<=LB:=by
 rcases h with h|⟨o,its,n,hk,hc,hd,hs,hz,r⟩
 ·obtain ⟨z,its,n,r,e⟩:=h.ok I.hok;exact ⟨its,r,⟨_,n,e,rfl,rfl,rfl⟩,z⟩
 ·refine ⟨its.toList,r,⟨o,n,I.kIn a o hk,hc,hd,by simpa using hs⟩,?_⟩
  have e:=r.length;simp only [Oq] at e;lia
def Inv.tuple (I:Inv X pins σ H s) (h:SqT X.K H a xs):∃ its:List Value,Vals xs its/\IsTup s.heap a its.toArray/\xs.length<=LB:=by
 rcases h with h|⟨o,its,n,hk,hc,hs,hz,r⟩
 ·obtain ⟨z,its,r,p⟩:=h.ok I.hok;exact ⟨its,r,p,z⟩
 ·refine ⟨its.toList,r,⟨o,I.kIn a o hk,hc,n,by simpa using hs⟩,?_⟩
  have e:=r.length;simp only [Oq] at e;lia
def Inv.iN (I:Inv X pins σ H s) (h:SqL X.K H a xs) (h':SqL X.K H a ys):xs=ys:=by
 obtain ⟨its,r,⟨o,n,e,_,_,d⟩,_⟩:=I.list h;obtain ⟨its',r',⟨o',n',e',_,_,d'⟩,_⟩:=I.list h';rw [e] at e';cases e';rw [d] at d';injection d' with d1 _;have:its=its':=by simpa using congrArg Array.toList d1
 subst this;exact r.inj r'
def Inv.xm (I:Inv X pins σ H s) (h:SqT X.K H a xs) (h':SqT X.K H a ys):xs=ys:=by
 obtain ⟨its,r,⟨o,e,_,n,d⟩,_⟩:=I.tuple h;obtain ⟨its',r',⟨o',e',_,n',d'⟩,_⟩:=I.tuple h';rw [e] at e';cases e';rw [d] at d';injection d' with d1 _;have:its=its':=by simpa using congrArg Array.toList d1
 subst this;exact r.inj r'
end
abbrev Cx.jX (X:Cx) (E:Value->K5->Prop):Cx:={ X with xe:=E }
abbrev Cx.nox (X:Cx):Cx:=X.jX fun _ _=>False
def Cx.Ok.jX {X:Cx} (ok:X.Ok) (E:Value->K5->Prop):(X.jX E).Ok :=
 ⟨ok.mod,ok.kind,ok.glob,ok.blt,ok.above,ok.inj,ok.has,ok.cab,ok.hd,ok.frames,ok.stk,ok.exf,ok.bs,ok.bsz,ok.sG,ok.ph,ok.eT,ok.frf⟩
def Cx.Ok.fS {X:Cx} {E:Value->K5->Prop} (ok:(X.jX E).Ok):X.Ok :=
 ⟨ok.mod,ok.kind,ok.glob,ok.blt,ok.above,ok.inj,ok.has,ok.cab,ok.hd,ok.frames,ok.stk,ok.exf,ok.bs,ok.bsz,ok.sG,ok.ph,ok.eT,ok.frf⟩
section
variable {X:Cx} {pins:List (Addr×Obj)} {σ:St} {H:Hp} {s:K5} {E:Value->K5->Prop}
def Inv.jX (I:Inv X pins σ H s) (E:Value->K5->Prop):Inv (X.jX E) pins σ H s:=⟨I.ok.jX E,I.os,I.bare,I.base,I.loc,I.cell,I.free,I.fH,I.pin,I.hok,I.len⟩
def Inv.fS (I:Inv (X.jX E) pins σ H s):Inv X pins σ H s:=⟨I.ok.fS,I.os,I.bare,I.base,I.loc,I.cell,I.free,I.fH,I.pin,I.hok,I.len⟩
def SP.fS {D:Ends} {f:Flow} {s':K5} (h:SP (X.jX E) pins D f s'):SP X pins D f s':=by
 cases f with
 | next=>obtain ⟨σ',H',I,q⟩:=h;exact ⟨σ',H',I.fS,q⟩
 | brk=>obtain ⟨σ',H',I,q⟩:=h;exact ⟨σ',H',I.fS,q⟩
 | cont=>obtain ⟨σ',H',I,q⟩:=h;exact ⟨σ',H',I.fS,q⟩
 | ret u=>obtain ⟨v,σ',H',I,r,q⟩:=h;exact ⟨v,σ',H',I.fS,r,q⟩
def PSs.nox {st:List Stmt} {t:TS} (h:PSs X.nox st t):PSs X st t:=fun pins s σ H D I hw =>
 Mj (h pins s σ H D (I.jX _) hw) (fun _ _ q=>q.fS) fun _ _ z=>Mf z
end
section
variable {X:Cx} {st:Stmt} {rest:List Stmt} {t u:TS} {e:Expr} {te:TE} {pos:Pos}
def GW:TS:=fun D σ H=>D.nx σ H
def Jd (t u:TS):TS:=fun D σ H=>t { D with nx:=u D } σ H
def aQ:PSs X [] GW:=fun _ _ σ H _ I h=>NA ⟨σ,H,I,h⟩
def ae (h1:PS X st t) (h2:PSs X rest u):PSs X (st :: rest) (Jd t u):=by
 intro pins s σ H D I h;refine Ph (thn (h1 pins s σ H { D with nx:=u D } I h) fun f s1 q=>?_);cases f with
 | next =>
  obtain ⟨σ',H',I',q⟩:=q;exact h2 pins s1 σ' H' D I' q
 | ret v=>exact q
 | brk=>exact q
 | cont=>exact q
def af (h1:PS X st t):PSs X [st] t:=by
 intro pins s σ H D I h;refine Ph (thn (h1 pins s σ H D I h) fun f s1 q=>?_);cases f with
 | next=>exact NA q
 | ret v=>exact q
 | brk=>exact q
 | cont=>exact q
def Inv.quiet {pins:List (Addr×Obj)} {σ:St} {H:Hp} {s:K5} (I:Inv X pins σ H s):interactive X.env=false:=by simp [interactive,I.ok.kind]
def Hi (te:TE):TS:=fun D σ H=>te σ H fun _ H1=>D.nx σ H1
def aV (he:PE X e te) (hs:swapsWith e none pos.line X.env=pure false:=by rfl):PS X (.Expr e pos) (Hi te):=by
 intro pins s σ H D I h;exact wpAny_Expr_any (thn (he pins s σ H _ I h) fun v s1 ⟨x,H1,I1,r1,q1⟩=>⟨σ,H1,I1,q1⟩) I.quiet hs
def Ju (te:TE):TS:=fun D σ H=>te σ H D.rt
def aK (he:PE X e te):PS X (.Return (some e) pos) (Ju te):=by
 intro pins s σ H D I h;exact wpAny_Return_some (thn (he pins s σ H _ I h) fun v s1 ⟨x,H1,I1,r1,q1⟩=>⟨x,σ,H1,I1,r1,q1⟩)
def Gh (c:TT) (t u:TS):TS:=fun D σ H=>c σ H fun b H1=>if b=true then t D σ H1 else u D σ H1
def a8 {c:Expr} {a b:List Stmt} {tc:TT} (hc:PT X c tc) (ha:PSs X a t) (hb:PSs X b u):PS X (.If c a b pos) (Gh tc t u):=by
 intro pins s σ H D I h;refine wpAny_If (thn (hc pins s σ H _ I h) fun d s1 ⟨H1,I1,q1⟩=>?_);cases d with
 | true=>exact ha pins s1 σ H1 D I1 q1
 | false=>exact hb pins s1 σ H1 D I1 q1
def EM:TS:=fun _ _ _=>False
def cg:PS X st EM:=fun _ _ _ _ _ _ h=>h.elim
def p7 {sts:List Stmt}:PSs X sts EM:=fun _ _ _ _ _ _ h=>h.elim
end
abbrev TG:=V->St->Hp->(St->Hp->Prop)->Prop
abbrev TGs:=List V->St->Hp->(St->Hp->Prop)->Prop
def PG (X:Cx) (target:Expr) (t:TG):Prop :=
 ∀ (pins:List (Addr×Obj)) (s:K5) (σ:St) (H:Hp) (v:V) (u:Value) (Q:St->Hp->Prop),Inv X pins σ H s->RelV v u->t v σ H Q ->
  wpAny (model X.prog X.w) X.A (assign target X.env u) (fun _ s'=>∃ σ' H',Inv X pins σ' H' s'/\Q σ' H') X.xe s
def PGs (X:Cx) (ts:List Expr) (t:TGs):Prop :=
 ∀ (pins:List (Addr×Obj)) (s:K5) (σ:St) (H:Hp) (vs:List V) (us:List Value) (Q:St->Hp->Prop),Inv X pins σ H s->Vals vs us->t vs σ H Q ->
  wpAny (model X.prog X.w) X.A (assignInOrder ((assignEach ts X.env).map (·.2)) us) (fun _ s'=>∃ σ' H',Inv X pins σ' H' s'/\Q σ' H') X.xe s
abbrev CJ:=V->V->V->Hp->(Hp->Prop)->Prop
def Js (X:Cx) (t:CJ):Prop :=
 ∀ (pins:List (Addr×Obj)) (s:K5) (σ:St) (H:Hp) (o i v:V) (ov iv u:Value) (Q:Hp->Prop),Inv X pins σ H s->RelV o ov->RelV i iv->RelV v u->t o i v H Q ->
  wpAny (model X.prog X.w) X.A (setItem ov iv u) (fun _ s'=>∃ H',Inv X pins σ H' s'/\Q H') X.xe s
section
variable {X:Cx} {pos:Pos}
def cw (i:Nat):TG:=fun v σ H Q=>Q (σ.set i (some v)) H
def ar {i:Nat} {x:Str} (hN:X.N.Nodup) (hi:X.N[i]?=some x) (hx:Loc X.env.scope x) (hf:X.fn x=true\/X.env.scope.names.lookup x=some .local:=by first|exact .inl rfl|exact .inr rfl|assumption):PG X (.Name x pos) (cw i):=by
 intro pins s σ H v u Q I r h;exact wpAny_assign_Name (lg I hN hi hx r (fun s' I'=>⟨_,H,I',h⟩) hf)
def jM:TGs:=fun vs σ H Q=>vs=[]/\Q σ H
def cW (t:TG) (u:TGs):TGs:=fun vs σ H Q=>∃ v r,vs=v :: r/\t v σ H fun σ' H'=>u r σ' H' Q
def de:PGs X [] jM:=by
 intro pins s σ H vs us Q I r h;obtain ⟨e,h⟩:=h;subst e;cases r;exact assignInOrder_nil ⟨σ,H,I,h⟩
def bc {e:Expr} {es:List Expr} {t:TG} {u:TGs} (h1:PG X e t) (h2:PGs X es u)
  (hs:(assignEach (e :: es) X.env).map (·.2)=assign e X.env :: (assignEach es X.env).map (·.2):=by rfl):PGs X (e :: es) (cW t u):=by
 intro pins s σ H vs us Q I r h;obtain ⟨v,vr,e1,h⟩:=h;subst e1;cases r with
 | cons r rr =>
  rw [hs];refine OD (thn (h1 pins s σ H _ _ _ I r h) fun _ s1 ⟨σ1,H1,I1,q1⟩=>?_);exact h2 pins s1 σ1 H1 _ _ Q I1 rr q1
def jQ (K:KW) (n:Nat) (t:TGs):TG:=fun v σ H Q=>∃ a xs,v=.ref a/\SqT K H a xs/\xs.length=n/\t xs σ H Q
def dR {es:List Expr} {k:Nat} {t:TGs} {n:Nat} (hc:X.calm=true) (h:PGs X es t)
  (hn:(assignEach es X.env).length=n:=by rfl) (hst:(assignEach es X.env).findIdx? (·.1)=none:=by rfl):PG X (.Tuple es k pos) (jQ X.K n t):=by
 intro pins s σ H v u Q I r hw;obtain ⟨a,xs,e1,hq,hl,hw⟩:=hw;subst e1;cases r;obtain ⟨its,rv,ht,hz⟩:=I.tuple hq;refine assign_Tuple_tuple (I.ok.hd hc) ht (by simp [hn,<- hl,rv.length]) hst fun h' hx=>?_
 have I1:Inv X pins σ H { s with heap:=h' }:=I.kept (t':=s.toks) fun b o e=>hx b o (Lz (Li e)) e;exact h pins _ σ H xs _ Q I1 (by simpa using rv) hw
def IW (to ti:TE) (t:CJ):TG:=fun v σ H Q=>to σ H fun o H1=>ti σ H1 fun i H2=>t o i v H2 fun H3=>Q σ H3
def yN {o i:Expr} {to ti:TE} {t:CJ} (ho:PE X o to) (hi:PE X i ti) (hs:Js X t)
  (ha:∀ v,assign (.Subscript o i pos) X.env v=(do
   let ov <- holding [v] (eval o X.env)
   let iv <- holding [v,ov] (eval i X.env)
   standAt pos
   holding [v,ov,iv] (setItem ov iv v)
   release [v,ov,iv] []):=by intro _;rfl):PG X (.Subscript o i pos) (IW to ti t):=by
 intro pins s σ H v u Q I r h;rw [ha];refine K9 (Nk (thn (ho pins s σ H _ I h) fun ov s1 ⟨x,H1,I1,r1,q1⟩=>?_));refine K9 (Nk (thn (hi pins s1 σ H1 _ I1 q1) fun iv s2 ⟨y,H2,I2,r2,q2⟩=>?_));refine K9 (O7 (K9 (Nk (thn (hs pins s2 σ H2 x y v ov iv u _ I2 r1 r2 r q2) fun _ s3 ⟨H3,I3,q3⟩=>?_))));exact wpAny_release ⟨σ,H3,I3,q3⟩
def CV (te:TE) (g:TG):TS:=fun D σ H=>te σ H fun x H1=>g x σ H1 D.nx
def m8 {tg e:Expr} {te:TE} {g:TG} (he:PE X e te) (hg:PG X tg g) (hs:swapsWithSole [tg] e pos.line X.env=pure false:=by rfl) (hw:swappedStores [tg] e X.env=pure none:=by rfl)
  (h1:(assignEach [tg] X.env).map (·.2)=[assign tg X.env]:=by rfl):PS X (.Assign [tg] e pos) (CV te g):=by
 intro pins s σ H D I h;refine wpAny_Assign_stores (thn (he pins s σ H _ I h) fun v s1 ⟨x,H1,I1,r1,q1⟩=>?_) hs hw;rw [h1];exact thn (hg pins s1 σ H1 x v _ I1 r1 q1) fun _ s2 q=>q
def aq {i:Nat} {x:Str} {e:Expr} {te:TE} {pos':Pos} (hN:X.N.Nodup) (hi:X.N[i]?=some x) (hx:Loc X.env.scope x) (he:PE X e te) (hs:swapsWith e (some (.Name x pos')) pos.line X.env=pure false:=by rfl) (hf:X.fn x=true\/X.env.scope.names.lookup x=some .local:=by first|exact .inl rfl|exact .inr rfl|assumption) :
  PS X (.Assign [.Name x pos'] e pos) (CV te (cw i)):=by
 intro pins s σ H D I h;refine wpAny_Assign_Name (thn (he pins s σ H _ I h) fun v s1 ⟨y,H1,I1,r1,q1⟩=>?_) hs;exact lg I1 hN hi hx r1 (fun s2 I2=>⟨_,H1,I2,q1⟩) hf
def JB (i j:Nat) (ta:TA):TS:=fun D σ H=>ta σ H fun vs H1=>∃ v w,vs=[v,w]/\D.nx ((σ.set i (some v)).set j (some w)) H1
def Dp {i j:Nat} {x y:Str} {a b:Expr} {ta:TA} {px py pt:Pos} {kt k2 pt2} (hc:X.calm=true) (hN:X.N.Nodup) (hi:X.N[i]?=some x) (hj:X.N[j]?=some y) (hij:i≠j)
  (hx:X.env.scope.names.lookup x=some .local) (hy:X.env.scope.names.lookup y=some .local) (ha:PA X [a,b] ta)
  (hw:swappedStores [.Tuple [.Name x px,.Name y py] kt pt] (.Tuple [a,b] k2 pt2) X.env=pure (some [x,y]))
  (hs:swapsWithSole [.Tuple [.Name x px,.Name y py] kt pt] (.Tuple [a,b] k2 pt2) pos.line X.env=pure false:=by rfl) :
  PS X (.Assign [.Tuple [.Name x px,.Name y py] kt pt] (.Tuple [a,b] k2 pt2) pos) (JB i j ta):=by
 intro pins s σ H D I h;rw [exec_Assign_arm];refine K9 (O7 ?_);rw [hs];refine K9 (LI ?_);rw [if_neg (by decide)]
 refine K9 (Tuple_ (thn (ha _ pins s σ H _ I h) fun us s1 ⟨vs,H1,I1,r1,q1⟩=>?_));obtain ⟨v,w,e1,q1⟩:=q1;subst e1;obtain ⟨u1,u2,rfl,rv,rw'⟩:∃ u1 u2,us=[u1,u2]/\RelV v u1/\RelV w u2:=by
  cases r1 with
  | cons p q =>
   cases q with
   | cons p' q' =>
    cases q';exact ⟨_,_,rfl,p,p'⟩
 refine N4 ?_ (by show 2<=LB;decide)
 have I2:Inv X pins σ H1 { s1 with heap:=s1.heap.push { cls:=.type "tuple",data:=.seq [u1,u2].toArray } }:=I1.kept (t':=s1.toks) fun b o e=>La _ e;rw [hw];refine K9 (LI ?_);show wpAny (model X.prog X.w) X.A (do rule "assign.swapped-stores";let items <- unpackItems (.ref s1.heap.objs.size) 2 none;assignInOrder [fun v=>bindName X.env y v,fun v=>bindName X.env x v] items.reverse;pure Flow.next) _ _ _;refine K9 (wpAny_rule (K9 (unpackItems_tuple (items:=#[u1,u2]) (I.ok.hd hc) (IsTup.new s1.heap _) fun h' hx'=>?_)));have I3:=I2.kept (h':=h') (t':=s1.toks) fun b o e=>hx' b o (Lz (Li e)) e;show wpAny _ _ (assignInOrder [fun v=>bindName X.env y v,fun v=>bindName X.env x v] [u2,u1] >>= fun _=>pure Flow.next) _ _ _;refine K9 (OD (wpAny_bindName (lg I3 hN hj (.inl hy) rw' (fun s2 I4=>?_) (.inr hy))));refine OD (wpAny_bindName (lg I4 hN hi (.inl hx) rv (fun s3 I5=>assignInOrder_nil (LI ?_)) (.inr hx)));rw [List.set_comm _ _ (MX hij)] at I5;exact ⟨_,H1,I5,q1⟩
def ER (c:TT) (tb:TS):TS:=fun D σ H=>∃ W:Nat->St->Hp->Prop,(∃ m,W m σ H)/\∀ m σ H,W m σ H ->
 c σ H fun b H1=>if b=true then ∃ N:St->Hp->Prop,(∀ σ' H',N σ' H'->∃ m',m' < m/\W m' σ' H')/\tb { D with nx:=N,ct:=N,bk:=D.nx } σ H1 else D.nx σ H1
def l5 {c:Expr} {body:List Stmt} {tc:TT} {tb:TS} (hp:PassesOwn (model X.prog X.w) X.A X.env X.xe) (hc:PT X c tc) (hb:PSs X body tb):PS X (.While c body [] pos) (ER tc tb):=by
 intro pins s σ H D I h;obtain ⟨W,⟨m0,w0⟩,turn⟩:=h;refine wpAny_While (codeAny_whileLoop (fun n s'=>∃ σ' H',Inv X pins σ' H' s'/\W n σ' H') ?_ m0 ⟨σ,H,I,w0⟩);rintro n s1 ⟨σ1,H1,I1,w1⟩;refine Nf hp (thn (hc pins s1 σ1 H1 _ I1 (turn n σ1 H1 w1)) fun b s2 ⟨H2,I2,q2⟩=>?_);cases b with
 | true =>
  obtain ⟨N,hN,q2⟩:=q2;rw [if_pos rfl];refine Nf hp (thn (hb pins s2 σ1 H2 _ I2 q2) fun f s3 q3=>?_);cases f with
  | next =>
   obtain ⟨σ3,H3,I3,n3⟩:=q3;obtain ⟨m',hm,w3⟩:=hN σ3 H3 n3;exact ⟨m',hm,σ3,H3,I3,w3⟩
  | cont =>
   obtain ⟨σ3,H3,I3,n3⟩:=q3;obtain ⟨m',hm,w3⟩:=hN σ3 H3 n3;exact ⟨m',hm,σ3,H3,I3,w3⟩
  | brk=>exact q3
  | ret v=>exact q3
 | false =>
  rw [if_neg Ls];exact NA ⟨σ1,H2,I2,q2⟩
end
structure It where
 go:Nat->Hp->Prop
 yld:Nat->Hp->V->Hp->Prop
 stop:Nat->Hp->Prop
def hX (X:Cx) (pins:List (Addr×Obj)) (H:Hp) (b:Addr):Prop :=
 H b=none/\b≠X.env.locals/\b∉X.fs/\(b∈X.ex\/X.s₀.heap.objs.size<=b)/\(∀ x c,X.env.cells.lookup x=some c->c≠b)/\∀ p∈X.pn++pins,p.1≠b
def Inv.sI {X:Cx} {pins:List (Addr×Obj)} {σ:St} {H H':Hp} {s:K5} {b:Addr} (I:Inv X pins σ H s) (hb:s.heap.objs.size<=b) (hn:H' b=none):hX X pins H' b:=by
 refine ⟨hn,Pt (Lm I.lt hb),I.KL hb,.inr (L4 I.sz hb),fun x c e z=>?_,fun p hp z=>?_⟩
 ·obtain ⟨v,q⟩:=I.cell x c e;exact absurd (Lm q.lt (by rw [z];exact hb)) (Mp _)
 ·exact absurd (Lm (Li (I.pin p hp).1) (by rw [z];exact hb)) (Mp _)
structure Turn (P:Lp) (w:World) (K:KW) (tg:Expr) (J:It) (fp:List Addr) (it:Addr) (tn:Nat->Heap->Prop):Prop where
 mem:it∈fp
 obj:∀ i h,tn i h->∀ b∈fp,∃ o,h.get? b=some o/\∀ v,o.data≠.cell v
 keep:∀ i h h',tn i h->(∀ b∈fp,∀ o,h.get? b=some o->h'.get? b=some o)->tn i h'
 item:∀ (X:Cx),X.prog=P->X.w=w->X.K=K->X.calm=true->∀ (i:Nat) (pins:List (Addr×Obj)) (s:K5) (σ:St) (H:Hp) (E:Value->K5->Prop),Inv X pins σ H s->(∀ b∈fp,hX X pins H b)->tn i s.heap->J.go i H ->
  wpAny (model P w) X.A (pyNext (.ref it)) (fun r s1=>∃ u,r=some u /\
   wpAny (model P w) X.A (letOwnedTupleGo tg (.ref it) u) (fun _ s2=>∃ x H',Inv X pins σ H' s2/\RelV x u/\J.yld i H x H'/\tn (i+1) s2.heap/\∀ b∈fp,H' b=none) E s1) E s
 done:∀ (X:Cx),X.prog=P->X.w=w->X.K=K->X.calm=true->∀ (i:Nat) (pins:List (Addr×Obj)) (s:K5) (σ:St) (H:Hp) (E:Value->K5->Prop),Inv X pins σ H s->(∀ b∈fp,hX X pins H b)->tn i s.heap->J.stop i H ->
  wpAny (model P w) X.A (pyNext (.ref it)) (fun r s1=>r=none/\Inv X pins σ H s1) E s
 self:∀ (A:LW) (i:Nat) (s:K5) (Q:Value->K5->Prop) (E:Value->K5->Prop),tn i s.heap->Q (.ref it) s->wpAny (model P w) A (pyIter (.ref it)) Q E s
abbrev TI:=St->Hp->(It->Hp->Prop)->Prop
def PIE (X:Cx) (pins:List (Addr×Obj)) (σ:St) (tg:Expr) (R:It->Hp->Prop) (itv:Value) (s2:K5):Prop :=
 ∃ (it:Addr) (fp:List Addr) (tn:Nat->Heap->Prop) (J:It) (H':Hp),itv=.ref it/\Inv X pins σ H' s2/\Turn X.prog X.w X.K tg J fp it tn/\tn 0 s2.heap/\(∀ b∈fp,hX X pins H' b)/\R J H'
def PI (X:Cx) (tg iter:Expr) (wi:TI):Prop :=
 ∀ (pins:List (Addr×Obj)) (s:K5) (σ:St) (H:Hp) (R:It->Hp->Prop),Inv X pins σ H s->wi σ H R ->
  wpAny (model X.prog X.w) X.A (eval iter X.env) (fun v s1=>wpAny (model X.prog X.w) X.A (pyIter v) (PIE X pins σ tg R) X.xe s1) X.xe s
def GP {M:Model} {A:LW} {E:Value->K5->Prop} {s:K5} {tg:Expr} {it:Addr} {u:Value} {o:Obj} {n:String} {vs:Array Value} {Q:Unit->K5->Prop} (ho:s.heap.get? it=some o) (hc:o.cls=.type n) (hd:o.data=.fields vs)
  (hn:["enumerate","zip","dict_itemiterator","dict_reverseitemiterator","odict_iterator","itertools.zip_longest","itertools.pairwise"].contains n=false) (hQ:Q () s):wpAny M A (letOwnedTupleGo tg (.ref it) u) Q E s:=by
 unfold letOwnedTupleGo;cases tg <;> first
  | exact LI hQ
  | (cases u <;> first
    | exact LI hQ
    | (refine K9 (wpAny_load ho ?_)
       rw [hc,hd];show wpAny M A (if (["enumerate","zip","dict_itemiterator","dict_reverseitemiterator","odict_iterator","itertools.zip_longest","itertools.pairwise"].contains n && vs[0]? == some (rawInt _))=true then _ else _) Q E s;rw [if_neg (by intro h;rw [hn,Bool.false_and] at h;cases h)]
       exact LI hQ))
def Itl (K:KW) (a:Addr):It :=
 ⟨fun i H=>∃ xs x,SqL K H a xs/\xs[i]?=some x,fun i H x H'=>H'=H/\∀ xs,SqL K H a xs->xs[i]?=some x,fun i H=>∃ xs,SqL K H a xs/\xs.length<=i⟩
def Itr (lo:Int) (n:Nat):It:=⟨fun i _=>i<n,fun i H x H'=>H'=H/\x=.int (lo+i),fun i _=>n<=i⟩
def Er {P:Lp} {w:World} {K:KW} {tg:Expr} (a it:Addr):Turn P w K tg (Itl K a) [it] it (fun i h=>h.IsListIter it a i) where
 mem:=by simp
 obj:=fun i h st b hb=>by
  have e:b=it:=by simpa using hb
  subst e;obtain ⟨o,e,c,d⟩:=st;exact ⟨o,e,fun v z=>by rw [d] at z;cases z⟩
 keep:=fun i h h' st k=>st.at fun o e=>k it (by simp) o e
 item:=by
  intro X hP hw hK hc i pins s σ H E I hf st hg;subst hP hw hK;obtain ⟨xs,x,hq,hx⟩:=hg;obtain ⟨its,rv,p,hz⟩:=I.list hq;obtain ⟨u,hu,ru⟩:=rv.get hx;obtain ⟨f0,f1,f2,f3,f4,f5⟩:=hf it (by simp)
  refine wpAny_pyNext_list_item st p.isList (x:=u) (by simpa using hu) fun h' st' sb=>?_
  have I1:Inv X pins σ H { s with heap:=h' }:=I.turned (t':=s.toks) (fun b o hb e=>(sb.2 b hb).trans e) f0 f1 f3 f4 f5;obtain ⟨o,e,c,d⟩:=id st';exact ⟨u,rfl,GP (s:={ s with heap:=h' }) e c d (by decide) ⟨x,H,I1,ru,⟨rfl,fun ys hy=>by rw [I.iN hy hq];exact hx⟩,st',fun b hb=>(hf b hb).1⟩⟩
 done:=by
  intro X hP hw hK hc i pins s σ H E I hf st hg;subst hP hw hK;obtain ⟨xs,hq,hx⟩:=hg;obtain ⟨its,rv,p,hz⟩:=I.list hq;obtain ⟨f0,f1,f2,f3,f4,f5⟩:=hf it (by simp)
  have hl:=rv.length;exact wpAny_pyNext_list_end (I.ok.hd hc) st p.isList (by simp;lia) fun h' eb=>⟨rfl,I.turned (t':=s.toks) (fun b o hb e=>eb b o hb e) f0 f1 f3 f4 f5⟩
 self:=fun _ _ _ _ _ st h=>wpAny_pyIter_listiter st h
def CL {P:Lp} {w:World} {K:KW} {tg:Expr} (it:Addr) (lo:Int) (n:Nat):Turn P w K tg (Itr lo n) [it] it (fun i h=>IsRangeIter h it (lo+(i:Nat) * 1) ((n:Int) - (i:Nat)) 1) where
 mem:=by simp
 obj:=fun i h st b hb=>by
  have e:b=it:=by simpa using hb
  subst e;exact ⟨_,st,fun v z=>by
   have z':QG _=Qn v:=z;cases z'⟩
 keep:=fun i h h' st k=>k it (by simp) _ st
 item:=by
  intro X hP hw hK hc i pins s σ H E I hf st hg;subst hP hw hK;obtain ⟨f0,f1,f2,f3,f4,f5⟩:=hf it (by simp)
  have W:=Walks.range (prog:=X.prog) (w:=X.w) (I.ok.hd hc) it lo 1 n;refine W.item i s _ _ hg st fun v h' tk hv st' kk=>?_;obtain ⟨t,rfl⟩:=hv;have I1:Inv X pins σ H { s with heap:=h',toks:=tk }:=I.turned (fun b o hb e=>kk b o (by simpa using hb) e) f0 f1 f3 f4 f5
  refine ⟨_,rfl,GP (s:={ s with heap:=h',toks:=tk }) (n:="range_iterator") st' rfl rfl (by decide) ⟨.int (lo+i),H,I1,⟨t,?_⟩,⟨rfl,rfl⟩,st',fun b hb=>(hf b hb).1⟩⟩
  rw [Int.mul_one]
 done:=by
  intro X hP hw hK hc i pins s σ H E I hf st hg;subst hP hw hK;obtain ⟨f0,f1,f2,f3,f4,f5⟩:=hf it (by simp)
  exact wpAny_pyNext_range_end (I.ok.hd hc) st (by have:n<=i:=hg;lia) fun h' eb=>⟨rfl,I.turned (t':=s.toks) (fun b o hb e=>eb b o hb e) f0 f1 f3 f4 f5⟩
 self:=fun _ _ _ _ _ st h=>wpAny_pyIter_rangeiter st h
section
variable {X:Cx} {tg:Expr}
def C0 (K:KW) (tl:TE):TI:=fun σ H R=>tl σ H fun x H1=>∃ a,x=.ref a/\(∃ xs,SqL K H1 a xs)/\R (Itl K a) H1
def HA {l:Expr} {tl:TE} (hl:PE X l tl):PI X tg l (C0 X.K tl):=by
 intro pins s σ H R I h;refine thn (hl pins s σ H _ I h) fun v s1 ⟨x,H1,I1,r1,q1⟩=>?_;obtain ⟨a,e,⟨xs,hq⟩,q⟩:=q1;subst e;cases r1;obtain ⟨its,rv,p,hz⟩:=I1.list hq;refine OP p.isList ?_;refine ⟨s1.heap.objs.size,[s1.heap.objs.size],_,_,H1,rfl,I1.kept (t':=s1.toks) fun b o e=>La _ e,Er a _,⟨_,LQ _ rfl,rfl,rfl⟩,fun b hb=>?_,q⟩;have e:b=s1.heap.objs.size:=by simpa using hb
 subst e;exact I1.sI (Lj _) (I1.hok.fresh (Lj _))
def FU {pins:List (Addr×Obj)} {σ:St} {H:Hp} {s:K5} {R:It->Hp->Prop} {E:Value->K5->Prop} {lo hi:Int} {t u v:Tok} {tk:Nat} (I:Inv X pins σ H s) (h1:-(2 ^ 62)<=lo) (h2:lo<2 ^ 62) (h3:-(2 ^ 62)<=hi) (h4:hi<2 ^ 62)
  (q:R (Itr lo (hi - lo).toNat) H):wpAny (model X.prog X.w) X.A (pyIter (.ref s.heap.objs.size)) (PIE X pins σ tg R) E { s with heap:=s.heap.push { cls:=.type "range",data:=.fields #[.int lo t,.int hi u,.int 1 v] },toks:=tk }:=by
 refine wpAny_pyIter_range (IsRange.new ..) (small_one h1 h2 h3 h4) ?_;have I1:Inv X pins σ H { s with heap:=s.heap.push { cls:=.type "range",data:=.fields #[.int lo t,.int hi u,.int 1 v] },toks:=tk }:=I.kept fun b o e=>La _ e;refine ⟨(s.heap.push { cls:=.type "range",data:=.fields #[.int lo t,.int hi u,.int 1 v] }).objs.size,[(s.heap.push { cls:=.type "range",data:=.fields #[.int lo t,.int hi u,.int 1 v] }).objs.size],_,_,H,rfl,
  I1.kept (t':=tk) fun b o e=>La _ e,CL _ lo (hi - lo).toNat,?_,fun b hb=>?_,q⟩
 ·have e1:lo+((0:Nat):Int) * 1=lo:=by simp
  have e2:(((hi - lo).toNat:Nat):Int) - ((0:Nat):Int)=O8 lo hi 1:=by rw [rangeSize_one];split <;> lia
  show IsRangeIter _ _ (lo+((0:Nat):Int) * 1) ((((hi - lo).toNat:Nat):Int) - ((0:Nat):Int)) 1;rw [e1,e2];exact LQ _ rfl
 ·have e:b=(s.heap.push { cls:=.type "range",data:=.fields #[.int lo t,.int hi u,.int 1 v] }).objs.size:=by simpa using hb
  subst e;exact I1.sI (Lj _) (I1.hok.fresh (Lj _))
def B3 (ta:TA):TI:=fun σ H R=>ta σ H fun vs H1=>∃ j:Int,vs=[.int j]/\-(2 ^ 62)<=j/\j<2 ^ 62/\R (Itr 0 j.toNat) H1
def DH {a:Expr} {ta:TA} {p pos:Pos} (hg:Gl X "range") (hm:X.mg "range" = none) (ha:PA X [a] ta) (hs:LV [a] X.env=[(false,eval a X.env)]:=by rfl):PI X tg (.Call (.Name "range" p) [a] [] pos) (B3 ta):=by
 intro pins s σ H R I h;refine Call_ (jz I hg hm boot_range (Ml (thn (ha pos pins s σ H _ I h) fun us s1 ⟨vs,H1,I1,r1,q1⟩=>?_) hs rfl));obtain ⟨j,e,q1,q2,q⟩:=q1;subst e;cases r1 with
 | cons r rr =>
  cases rr;obtain ⟨t,rfl⟩:=r;exact call_range_1 (FU I1 (by lia) (by lia) q1 q2 (by simpa using q))
def IS (wi:TI) (g:TG) (tb:TS):TS:=fun D σ H=>wi σ H fun J H1=>∃ W:Nat->Nat->St->Hp->Prop,(∃ m,W 0 m σ H1)/\∀ i m σ H,W i m σ H ->
 (J.stop i H/\D.nx σ H)\/(J.go i H/\∃ N:St->Hp->Prop,(∀ σ' H',N σ' H'->∃ m',m' < m/\W (i+1) m' σ' H')/\∀ x H',J.yld i H x H'->g x σ H' fun σ2 H2=>tb { D with nx:=N,ct:=N,bk:=D.nx } σ2 H2)
def jx (fp:List Addr) (h:Heap):List (Addr×Obj):=fp.filterMap fun b=>(h.get? b).map fun o=>(b,o)
def gn {fp:List Addr} {h:Heap} {b:Addr} {o:Obj} (hb:b∈fp) (e:h.get? b=some o):(b,o)∈jx fp h:=List.mem_filterMap.mpr ⟨b,hb,by rw [e];rfl⟩
def DV {fp:List Addr} {h:Heap} {p:Addr×Obj} (hp:p∈jx fp h):p.1∈fp/\h.get? p.1=some p.2:=by
 obtain ⟨b,hb,e⟩:=List.mem_filterMap.mp hp;cases q:h.get? b with
 | none=>rw [q] at e;cases e
 | some o =>
  rw [q] at e;have e':(b,o)=p:=LG e;subst e';exact ⟨hb,q⟩
def Inv.pinned {pins:List (Addr×Obj)} {σ:St} {H:Hp} {s:K5} {fp:List Addr} (I:Inv X pins σ H s) (hf:∀ b∈fp,hX X pins H b) (ho:∀ b∈fp,∃ o,s.heap.get? b=some o/\∀ v,o.data≠.cell v):Inv X (pins++jx fp s.heap) σ H s :=
 I.BG fun p hp=>(LP.mp hp).elim (fun z=>I.pin p (LM _ z)) fun z=>by
  obtain ⟨hb,e⟩:=DV z;obtain ⟨f0,f1,f2,_⟩:=hf p.1 hb;obtain ⟨o,e',d⟩:=ho p.1 hb;rw [e] at e';cases e';exact ⟨e,f0,f1,f2,d⟩
def Inv.lT {pins pl:List (Addr×Obj)} {σ:St} {H:Hp} {s:K5} (I:Inv X (pins++pl) σ H s):Inv X pins σ H s:=I.BG fun p hp=>I.pin p (LM _ (MD _ hp))
def ba {iter:Expr} {body:List Stmt} {wi:TI} {g:TG} {tb:TS} {pos:Pos} (hp:PassesOwn (model X.prog X.w) X.A X.env X.xe) (hc:X.calm=true) (hi:PI X tg iter wi) (hg:PG X tg g) (hb:PSs X body tb)
  (hs:∀ x,foldedSetIterable iter X.env x=pure x:=by intro _;rfl):PS X (.For tg iter body [] pos) (IS wi g tb):=by
 intro pins s σ H D I h;refine wpAny_For (thn (hi pins s σ H _ I h) fun v s1 h1=>thn h1 fun itv s2 h2=>?_) hs;obtain ⟨it,fp,tn,J,H2,e,I2,T,st2,f2,W,⟨m0,w0⟩,turn⟩:=h2;subst e;have stat:∀ {H':Hp},(∀ b∈fp,H' b=none)->∀ b∈fp,hX X pins H' b:=fun hn b hb=>⟨hn b hb,(f2 b hb).2⟩;refine codeAny_forLoop_any (fun n s'=>∃ i σ' H',Inv X pins σ' H' s'/\tn i s'.heap/\(∀ b∈fp,H' b=none)/\W i n σ' H') ?_ m0 ⟨0,σ,H2,I2,st2,fun b hb=>(f2 b hb).1,w0⟩;rintro n s3 ⟨i,σ3,H3,I3,st3,fr3,w3⟩;rcases turn i n σ3 H3 w3 with ⟨stop,qn⟩|⟨go,N,hN,step⟩
 ·refine Nf hp (thn (T.done X rfl rfl rfl hc i pins s3 σ3 H3 X.xe I3 (stat fr3) st3 stop) fun r s4 ⟨hr,I4⟩=>?_);subst hr;exact NA ⟨σ3,H3,I4,qn⟩
 ·refine Nf hp (thn (T.item X rfl rfl rfl hc i pins s3 σ3 H3 X.xe I3 (stat fr3) st3 go) fun r s4 ⟨u,hr,h4⟩=>?_);subst hr;refine Nf hp (thn h4 fun _ s5 ⟨x,H5,I5,r5,y5,st5,fr5⟩=>?_);have I5':=I5.pinned (stat fr5) (T.obj _ _ st5);refine Nf hp (thn (hg _ s5 σ3 H5 x u _ I5' r5 (step x H5 y5)) fun _ s6 ⟨σ6,H6,I6,q6⟩=>?_);refine Nf hp (thn (hb _ s6 σ6 H6 _ I6 q6) fun f s7 q7=>?_);have again:∀ {σ7:St} {H7:Hp},Inv X (pins++jx fp s5.heap) σ7 H7 s7->N σ7 H7->∃ m,m<n/\∃ i σ' H',Inv X pins σ' H' s7/\tn i s7.heap/\(∀ b∈fp,H' b=none)/\W i m σ' H':=fun {σ7 H7} I7 n7=>by
   obtain ⟨m',hm,w7⟩:=hN σ7 H7 n7;refine ⟨m',hm,i+1,σ7,H7,I7.lT,T.keep _ _ _ st5 fun b hb o e=>(I7.pin (b,o) (LM _ (LM _ (gn hb e)))).1,fun b hb=>?_,w7⟩;obtain ⟨o,e,d⟩:=T.obj _ _ st5 b hb;exact (I7.pin (b,o) (LM _ (LM _ (gn hb e)))).2.1
  cases f with
  | next=>obtain ⟨σ7,H7,I7,n7⟩:=q7;exact again I7 n7
  | cont=>obtain ⟨σ7,H7,I7,n7⟩:=q7;exact again I7 n7
  | brk=>obtain ⟨σ7,H7,I7,q7⟩:=q7;exact ⟨σ7,H7,I7.lT,q7⟩
  | ret v=>obtain ⟨x7,σ7,H7,I7,r7,q7⟩:=q7;exact ⟨x7,σ7,H7,I7.lT,r7,q7⟩
end
def rY {K:KW} {a:Addr} {xs:List V} {g:TG} {tb:TS} {D:Ends} {σ:St} {H:Hp} (Pv:Nat->St->Hp->Prop) (h0:Pv 0 σ H) (hl:∀ i σ H,i<=xs.length->Pv i σ H->SqL K H a xs)
  (hs:∀ i x σ H,xs[i]?=some x->Pv i σ H->g x σ H fun σ2 H2=>tb { D with nx:=Pv (i+1),ct:=Pv (i+1),bk:=D.nx } σ2 H2) (hd:∀ σ H,Pv xs.length σ H->D.nx σ H) :
  ∃ W:Nat->Nat->St->Hp->Prop,(∃ m,W 0 m σ H)/\∀ i m σ H,W i m σ H ->
   ((Itl K a).stop i H/\D.nx σ H)\/((Itl K a).go i H/\∃ N:St->Hp->Prop,(∀ σ' H',N σ' H'->∃ m',m' < m/\W (i+1) m' σ' H')/\∀ x H',(Itl K a).yld i H x H'->g x σ H' fun σ2 H2=>tb { D with nx:=N,ct:=N,bk:=D.nx } σ2 H2):=by
 refine ⟨fun i m σ H=>m=xs.length - i/\i<=xs.length/\Pv i σ H,⟨xs.length,by simp,Mb _,h0⟩,?_⟩
 rintro i m σ H ⟨rfl,hi,p⟩;have q:=hl i σ H hi p
 by_cases hlt:i<xs.length
 ·refine .inr ⟨⟨xs,xs[i],q,by simp [hlt]⟩,Pv (i+1),fun σ' H' p'=>⟨xs.length - (i+1),by lia,rfl,hlt,p'⟩,fun x H' y=>?_⟩
  obtain ⟨e,y⟩:=y;subst e;exact hs i x σ _ (y xs q) p
 ·have e:i=xs.length:=by lia
  subst e;exact .inl ⟨⟨xs,q,Lj _⟩,hd σ H p⟩
def Es {lo:Int} {n:Nat} {g:TG} {tb:TS} {D:Ends} {σ:St} {H:Hp} (Pv:Nat->St->Hp->Prop) (h0:Pv 0 σ H)
  (hs:∀ i σ H,i<n->Pv i σ H->g (.int (lo+i)) σ H fun σ2 H2=>tb { D with nx:=Pv (i+1),ct:=Pv (i+1),bk:=D.nx } σ2 H2) (hd:∀ σ H,Pv n σ H->D.nx σ H) :
  ∃ W:Nat->Nat->St->Hp->Prop,(∃ m,W 0 m σ H)/\∀ i m σ H,W i m σ H ->
   ((Itr lo n).stop i H/\D.nx σ H)\/((Itr lo n).go i H/\∃ N:St->Hp->Prop,(∀ σ' H',N σ' H'->∃ m',m' < m/\W (i+1) m' σ' H')/\∀ x H',(Itr lo n).yld i H x H'->g x σ H' fun σ2 H2=>tb { D with nx:=N,ct:=N,bk:=D.nx } σ2 H2):=by
 refine ⟨fun i m σ H=>m=n - i/\i<=n/\Pv i σ H,⟨n,by simp,Mb _,h0⟩,?_⟩
 rintro i m σ H ⟨rfl,hi,p⟩
 by_cases hlt:i<n
 ·refine .inr ⟨hlt,Pv (i+1),fun σ' H' p'=>⟨n - (i+1),by lia,rfl,hlt,p'⟩,fun x H' y=>?_⟩
  obtain ⟨e,y⟩:=y;subst e y;exact hs i σ _ hlt p
 ·have e:i=n:=by lia
  subst e;exact .inl ⟨Lj _,hd σ H p⟩
abbrev R2:=V->V->Hp->VK->Prop
def OpR (X:Cx) (f:Value->Value->Sem Value) (r:R2):Prop :=
 ∀ (pins:List (Addr×Obj)) (s:K5) (σ:St) (H:Hp) (x y:V) (v u:Value) (Q:VK),Inv X pins σ H s->RelV x v->RelV y u->r x y H Q ->
  wpAny (model X.prog X.w) X.A (f v u) (EP X pins σ Q) X.xe s
def dP (X:Cx) (f:Value) (r:List V->Hp->VK->Prop):Prop :=
 ∀ (pins:List (Addr×Obj)) (s:K5) (σ:St) (H:Hp) (xs:List V) (us:List Value) (Q:VK),Inv X pins σ H s->Vals xs us->r xs H Q ->
  wpAny (model X.prog X.w) X.A (call f us) (EP X pins σ Q) X.xe s
def tOp (r:R2) (ta tb:TE):TE:=fun σ H Q=>ta σ H fun x H1=>tb σ H1 fun y H2=>r x y H2 Q
def rI (C:Int->Int->Prop) (g:Int->Int->V):R2:=fun x y H Q=>∃ i j,x=.int i/\y=.int j/\C i j/\Q (g i j) H
def rI0 (g:Int->Int->V):R2:=fun x y H Q=>∃ i j,x=.int i/\y=.int j/\Q (g i j) H
section
variable {X:Cx} {a b c:Expr} {ta tb tc:TE} {pos:Pos}
def FJ (ha:PE X a ta) (hb:PE X b tb) {pins:List (Addr×Obj)} {s:K5} {σ:St} {H:Hp} {R:V->V->Hp->Prop} (I:Inv X pins σ H s)
  (h:ta σ H fun x H1=>tb σ H1 fun y H2=>R x y H2) {Q:Value->K5->Prop} {f:Value->Value->Sem Value}
  (hf:∀ v u s2 x y H2,Inv X pins σ H2 s2->RelV x v->RelV y u->R x y H2->wpAny (model X.prog X.w) X.A (f v u) Q X.xe s2) :
  wpAny (model X.prog X.w) X.A (eval a X.env) (fun v s₁=>wpAny (model X.prog X.w) X.A (eval b X.env) (fun u s₂=>wpAny (model X.prog X.w) X.A (f v u) Q X.xe s₂) X.xe s₁) X.xe s:=by
 refine thn (ha pins s σ H _ I h) fun v s1 ⟨x,H1,I1,r1,q1⟩=>?_;refine thn (hb pins s1 σ H1 _ I1 q1) fun u s2 ⟨y,H2,I2,r2,q2⟩=>?_;exact hf v u s2 x y H2 I2 r1 r2 q2
def ak {op:Operator} {r:R2} (ho:OpR X (binaryOp op) r) (ha:PE X a ta) (hb:PE X b tb):PE X (.BinOp a op b pos) (tOp r ta tb):=by
 intro pins s σ H Q I h;exact wpAny_BinOp (FJ ha hb I h fun v u s2 x y H2 I2 rx ry q=>ho pins s2 σ H2 x y v u Q I2 rx ry q)
def opI {f:Value->Value->Sem Value} {C:Int->Int->Prop} {g:Int->Int->Int}
  (rule:∀ (i j:Int) (t u:Tok) (s:K5) (Q:Value->K5->Prop) (E:Value->K5->Prop),C i j->Q (.int (g i j) s.toks) { s with toks:=s.toks+1 }->wpAny (model X.prog X.w) X.A (f (.int i t) (.int j u)) Q E s) :
  OpR X f (rI C fun i j=>.int (g i j)):=by
 intro pins s σ H x y v u Q I rx ry h;obtain ⟨i,j,rfl,rfl,hc,q⟩:=h;obtain ⟨t,rfl⟩:=rx;obtain ⟨t',rfl⟩:=ry;exact rule i j t t' s _ _ hc ⟨.int (g i j),H,I.tok _,⟨_,rfl⟩,q⟩
def Jy {f:Value->Value->Sem Value} {g:Int->Int->Int}
  (rule:∀ (i j:Int) (t u:Tok) (s:K5) (Q:Value->K5->Prop) (E:Value->K5->Prop),Q (.int (g i j) s.toks) { s with toks:=s.toks+1 }->wpAny (model X.prog X.w) X.A (f (.int i t) (.int j u)) Q E s) :
  OpR X f (rI0 fun i j=>.int (g i j)):=by
 intro pins s σ H x y v u Q I rx ry h;obtain ⟨i,j,rfl,rfl,q⟩:=h;obtain ⟨t,rfl⟩:=rx;obtain ⟨t',rfl⟩:=ry;exact rule i j t t' s _ _ ⟨.int (g i j),H,I.tok _,⟨_,rfl⟩,q⟩
def Fv {f:Value->Value->Sem Value} {g:Int->Int->Bool}
  (rule:∀ (i j:Int) (t u:Tok) (s:K5) (Q:Value->K5->Prop) (E:Value->K5->Prop),Q (.bool (g i j)) s->wpAny (model X.prog X.w) X.A (f (.int i t) (.int j u)) Q E s) :
  OpR X f (rI0 fun i j=>.bl (g i j)):=by
 intro pins s σ H x y v u Q I rx ry h;obtain ⟨i,j,rfl,rfl,q⟩:=h;obtain ⟨t,rfl⟩:=rx;obtain ⟨t',rfl⟩:=ry;exact rule i j t t' s _ _ ⟨.bl (g i j),H,I,rfl,q⟩
def Jr (i j:Int):Prop:=0<j/\j<1073741824
def De (i j:Int):Prop:=(-(2 ^ 64)<i/\i<2 ^ 64)\/(-(2 ^ 64)<j/\j<2 ^ 64)
def De.ok {i j:Int} (h:De i j):IntMulOk i j:=by
 rcases h with ⟨h1,h2⟩|⟨h1,h2⟩
 ·exact .of_left (intBits_le_64 h1 h2)
 ·exact .of_right (intBits_le_64 h1 h2)
def aW:OpR X (binaryOp .Add) (rI0 fun i j=>.int (i+j)):=Jy fun _ _ _ _ _ _ _ q=>add_int q
def pE:OpR X (binaryOp .Sub) (rI0 fun i j=>.int (i - j)):=Jy fun _ _ _ _ _ _ _ q=>sub_int q
def bg:OpR X (binaryOp .Mult) (rI De fun i j=>.int (i * j)):=opI fun _ _ _ _ _ _ _ hc q=>mul_int q hc.ok
def bH:OpR X (binaryOp .FloorDiv) (rI Jr fun i j=>.int (i / j)):=opI fun i j _ _ _ _ _ hc q=>by
 have h1:(0:Int)<j:=hc.1;have h2:j<1073741824:=hc.2;exact floordiv_int (by lia) (by rw [Int.fdiv_eq_ediv_of_nonneg i (by lia)];exact q) (.inl (PyProof.noPylong_small (by lia)))
def aO:OpR X (binaryOp .Mod) (rI (fun _ j=>0<j) fun i j=>.int (i % j)):=opI fun i j _ _ _ _ _ hc q=>by
 have h1:(0:Int)<j:=hc;exact mod_int' (by lia) (by rw [Int.fmod_eq_emod_of_nonneg i (by lia)];exact q)
end
def Ji:V->V->Bool
 | .non,.non=>true | .non,.int _=>true | .int _,.non=>true | .non,.bl _=>true | .bl _,.non=>true | .non,.str _=>true | .str _,.non=>true
 | .int _,.int _=>true | .bl _,.bl _=>true | .str _,.str _=>true | .byt _,.byt _=>true
 | .int _,.str _=>true | .str _,.int _=>true | .bl _,.str _=>true | .str _,.bl _=>true
 | _,_=>false
def rEq:R2:=fun x y H Q=>Ji x y=true/\Q (.bl (decide (x=y))) H
def rNe:R2:=fun x y H Q=>Ji x y=true/\Q (.bl (!decide (x=y))) H
def BP {i j:Int}:decide (V.int i=V.int j)=(i == j):=by
 rw [MC];simp
def Ek {i j:Bool}:decide (V.bl i=V.bl j)=(i == j):=by
 rw [MC];simp
def Bm {i j:Str}:decide (V.str i=V.str j)=(i == j):=by
 rw [MC];simp
def Bs {i j:Array UInt8}:decide (V.byt i=V.byt j)=(i.toList == j.toList):=by
 rw [MC];cases i;cases j;simp
section
variable {X:Cx} {a b c:Expr} {ta tb tc:TE} {pos:Pos}
def bI {pins:List (Addr×Obj)} {σ:St} {H:Hp} {s:K5} {Q:VK} {k k':Bool} (I:Inv X pins σ H s) (q:Q (.bl k) H) (e:k=k'):EP X pins σ Q (.bool k') s:=by
 subst e;exact ⟨.bl k,H,I,rfl,q⟩
def cb:OpR X (compareOp .Eq) rEq:=by
 intro pins s σ H x y v u Q I rx ry h;obtain ⟨hs,q⟩:=h;cases x with
 | non =>
  cases rx;cases y with
  | non=>cases ry;exact PySem.EqNone.eq_none_none (bI I q (by simp))
  | bl j=>cases ry;exact PySem.EqNone.eq_none_bool (bI I q (by simp))
  | int j=>obtain ⟨t',rfl⟩:=ry;exact PySem.EqNone.eq_none_int (bI I q (by simp))
  | str j=>obtain ⟨t',rfl⟩:=ry;exact PySem.EqNone.eq_none_str (bI I q (by simp))
  | _=>exact absurd (show false=true from hs) Ls
 | bl i =>
  cases rx;cases y with
  | non=>cases ry;exact PySem.EqNone.eq_bool_none (bI I q (by simp))
  | bl j=>cases ry;exact eq_bool (bI I q Ek)
  | str j=>obtain ⟨t',rfl⟩:=ry;exact PySem.EqMixed.eq_bool_str (bI I q (by simp))
  | _=>exact absurd (show false=true from hs) Ls
 | int i =>
  obtain ⟨t,rfl⟩:=rx;cases y with
  | non=>cases ry;exact PySem.EqNone.eq_int_none (bI I q (by simp))
  | int j=>obtain ⟨t',rfl⟩:=ry;exact eq_int (bI I q BP)
  | str j=>obtain ⟨t',rfl⟩:=ry;exact PySem.EqMixed.eq_int_str (bI I q (by simp))
  | _=>exact absurd (show false=true from hs) Ls
 | str i =>
  obtain ⟨t,rfl⟩:=rx;cases y with
  | non=>cases ry;exact PySem.EqNone.eq_str_none (bI I q (by simp))
  | bl j=>cases ry;exact PySem.EqMixed.eq_str_bool (bI I q (by simp))
  | int j=>obtain ⟨t',rfl⟩:=ry;exact PySem.EqMixed.eq_str_int (bI I q (by simp))
  | str j=>obtain ⟨t',rfl⟩:=ry;exact eq_str (bI I q Bm)
  | _=>exact absurd (show false=true from hs) Ls
 | byt i =>
  obtain ⟨t,rfl⟩:=rx;cases y with
  | byt j=>obtain ⟨t',rfl⟩:=ry;exact PySem.W.eq_bytes (bI I q Bs)
  | _=>exact absurd (show false=true from hs) Ls
 | _=>cases y <;> exact absurd (show false=true from hs) Ls
def eI:OpR X (compareOp .NotEq) rNe:=by
 intro pins s σ H x y v u Q I rx ry h;obtain ⟨hs,q⟩:=h;cases x with
 | non =>
  cases rx;cases y with
  | non=>cases ry;exact PySem.EqNone.ne_none_none (bI I q (by simp))
  | bl j=>cases ry;exact PySem.EqNone.ne_none_bool (bI I q (by simp))
  | int j=>obtain ⟨t',rfl⟩:=ry;exact PySem.EqNone.ne_none_int (bI I q (by simp))
  | str j=>obtain ⟨t',rfl⟩:=ry;exact PySem.EqNone.ne_none_str (bI I q (by simp))
  | _=>exact absurd (show false=true from hs) Ls
 | bl i =>
  cases rx;cases y with
  | non=>cases ry;exact PySem.EqNone.ne_bool_none (bI I q (by simp))
  | bl j=>cases ry;exact ne_bool (bI I q (congrArg not Ek))
  | str j=>obtain ⟨t',rfl⟩:=ry;exact PySem.EqMixed.ne_bool_str (bI I q (by simp))
  | _=>exact absurd (show false=true from hs) Ls
 | int i =>
  obtain ⟨t,rfl⟩:=rx;cases y with
  | non=>cases ry;exact PySem.EqNone.ne_int_none (bI I q (by simp))
  | int j=>obtain ⟨t',rfl⟩:=ry;exact ne_int (bI I q (congrArg not BP))
  | str j=>obtain ⟨t',rfl⟩:=ry;exact PySem.EqMixed.ne_int_str (bI I q (by simp))
  | _=>exact absurd (show false=true from hs) Ls
 | str i =>
  obtain ⟨t,rfl⟩:=rx;cases y with
  | non=>cases ry;exact PySem.EqNone.ne_str_none (bI I q (by simp))
  | bl j=>cases ry;exact PySem.EqMixed.ne_str_bool (bI I q (by simp))
  | int j=>obtain ⟨t',rfl⟩:=ry;exact PySem.EqMixed.ne_str_int (bI I q (by simp))
  | str j=>obtain ⟨t',rfl⟩:=ry;exact ne_str (bI I q (congrArg not Bm))
  | _=>exact absurd (show false=true from hs) Ls
 | byt i =>
  obtain ⟨t,rfl⟩:=rx;cases y with
  | byt j=>obtain ⟨t',rfl⟩:=ry;exact PySem.W.ne_bytes (bI I q (congrArg not Bs))
  | _=>exact absurd (show false=true from hs) Ls
 | _=>cases y <;> exact absurd (show false=true from hs) Ls
def kc:OpR X (compareOp .Lt) (rI0 fun i j=>.bl (decide (i<j))):=Fv fun _ _ _ _ _ _ _ q=>lt_int q
def gG:OpR X (compareOp .Gt) (rI0 fun i j=>.bl (decide (j<i))):=Fv fun _ _ _ _ _ _ _ q=>gt_int q
def yu:OpR X (compareOp .GtE) (rI0 fun i j=>.bl (decide (j<=i))):=Fv fun _ _ _ _ _ _ _ q=>ge_int q
def aG (b:Expr) {op:CmpOp} (h:op≠.In:=by decide) (h2:op≠.NotIn:=by decide):behindInMarks op b=false:=by
 have e1:(op == CmpOp.In)=false:=by cases op <;> first|rfl|exact absurd rfl h
 have e2:(op == CmpOp.NotIn)=false:=by cases op <;> first|rfl|exact absurd rfl h2
 cases b <;> simp [behindInMarks,e1,e2]
def d9 {op:CmpOp} {r:R2} (ho:OpR X (compareOp op) r) (ha:PE X a ta) (hb:PE X b tb) (hm:behindInMarks op b=false):PE X (.Compare a [op] [b] pos) (tOp r ta tb):=by
 intro pins s σ H Q I h;exact wpAny_Compare1 (FJ ha hb I h fun v u s2 x y H2 I2 rx ry q=>ho pins s2 σ H2 x y v u Q I2 rx ry q) hm
def G2 (t:TE):TT:=fun σ H Q=>t σ H fun x H'=>∃ k,x=.bl k/\Q k H'
def aD {op:CmpOp} {r:R2} (ho:OpR X (compareOp op) r) (ha:PE X a ta) (hb:PE X b tb) (hm:behindInMarks op b=false):PT X (.Compare a [op] [b] pos) (G2 (tOp r ta tb)):=by
 intro pins s σ H Q I h;refine Pr (thn (ha pins s σ H _ I h) fun v s1 ⟨x,H1,I1,r1,q1⟩=>thn (hb pins s1 σ H1 _ I1 q1) fun u s2 ⟨y,H2,I2,r2,q2⟩ =>
  thn (ho pins s2 σ H2 x y v u _ I2 r1 r2 q2) fun c s3 ⟨z,H3,I3,r3,k,e,q3⟩=>?_) hm
 subst e;cases r3;exact MH ⟨H3,I3,q3⟩
def sR:(LB:Nat)<2 ^ 63:=by rw [L5];decide
def vals1 {x:V} {us:List Value} (r:Vals [x] us):∃ u,us=[u]/\RelV x u:=by
 cases r with
 | cons r1 r2=>cases r2;exact ⟨_,rfl,r1⟩
def xb:dP X (.type "int") (fun xs H Q=>(∃ i,xs=[.int i]/\Q (.int i) H)\/∃ k,xs=[.bl k]/\Q (.int (if k then 1 else 0)) H):=by
 intro pins s σ H xs us Q I r h;rcases h with ⟨i,rfl,q⟩|⟨k,rfl,q⟩
 ·obtain ⟨u,rfl,t,rfl⟩:=vals1 r;exact call_int_int ⟨.int i,H,I,⟨_,rfl⟩,q⟩
 ·obtain ⟨u,rfl,r1⟩:=vals1 r;cases r1;exact call_int_bool ⟨.int (if k then 1 else 0),H,I.tok _,⟨_,rfl⟩,q⟩
end
structure rP (h:Heap) (x dx C:Addr) (mA:Str->Option Value):Prop where
 obj:h.get? x=some (MW C dx)
 ns:h.Ns1 dx mA
 ne:dx≠x
def DY {h:Heap} {dx:Addr} {mA:Str->Option Value} (n:h.Ns1 dx mA):∃ od,h.get? dx=some od/\∀ name,OK name od=some (mA name):=by
 obtain ⟨o,es,ep,ho,hd,hk,_,hm⟩:=n;refine ⟨o,ho,fun name=>?_⟩;have e:=hm name;unfold nsFind findBy at e;rw [<- Array.find?_toList] at e;unfold OK;rw [hd];dsimp only
 split
 ·rename_i y q
  rw [q] at e;exact congrArg some e
 ·rename_i q
  rw [q] at e;have a:es.toList.any (·.refKey)=false:=by
   rw [N5];intro y hy;obtain ⟨z,t,hkey⟩:=hk y (Array.mem_toList_iff.mp hy);simp [DictEntry.refKey,hkey]
  have a':¬ es.toList.any (·.refKey)=true:=by rw [a];exact Ls
  rw [if_neg a'];exact congrArg some e
def rP.look {h:Heap} {x dx C:Addr} {mA:Str->Option Value} (I:rP h x dx C mA):∃ od,PySem.W.InstAt h x (MW C dx) C (some od)/\∀ name,OK name od=some (mA name) :=
 let ⟨od,ho,hl⟩:=DY I.ns
 ⟨od,⟨I.obj,rfl,rfl,ho⟩,hl⟩
section
variable {prog:Lp} {w:World} {A:LW} {E:Value->K5->Prop} {s:K5} {K:KW} {x dx C f:Addr} {mA:Str->Option Value} {name:Str} {v:Value}
def get_map {expr:Bool} {Q:Value->K5->Prop} (X:K.In s.heap) (I:rP s.heap x dx C mA) (hg:NP K C name=true) (hh:N6 K C=true)
  (ha:Mg K (.ref C) name=some none) (hv:mA name=some v) (hv':PySem.W.handedIn v=true) (h:Q v { s with toks:=s.toks+1 }) :
  wpAny (model prog w) A (getAttr (.ref x) name expr) Q E s:=by
 obtain ⟨od,J,hl⟩:=I.look;exact PySem.W.get_value X J (Ot hg).1 (PySem.W.findObj_own hh ha rfl (by rw [hl,hv])) hv' h
def Fs {pl:Sem Bool} {Q:Value×List Value->K5->Prop} (X:K.In s.heap) (I:rP s.heap x dx C mA) (hg:NP K C name=true)
  (hf:Mg K (.ref C) name=some (some (.ref f))) (ht:OE K (.ref f)=true) (hv:mA name=none) (h:Q (.ref f,[.ref x]) s) :
  wpAny (model prog w) A (getMethod (.ref x) name pl) Q E s:=by
 obtain ⟨od,J,hl⟩:=I.look;exact PySem.W.method_fn X J (Ot hg).1 (Ot hg).2 hf (beq_iff_eq.mp ht) (by show (OK name od).map (·.isSome)=some false;rw [hl,hv];rfl) h
def Hq {ns:List Str} {Q:Unit->K5->Prop} (X:K.In s.heap) (I:rP s.heap x dx C mA)
  (hs:Mg K (.ref C) "__setattr__" = some (some (.builtin "object.__setattr__"))) (hp:OQ K C=true) (ht:Pu K C name=some none) (hh:N6 K C=true)
  (hw:Qw mA ns) (hsz:ns.length<=LB)
  (h:∀ h',rP h' x dx C (fun y=>if y=name then some v else mA y)->OC dx s.heap h'->Q () { s with heap:=h',toks:=s.toks+2 }) :
  wpAny (model prog w) A (setAttr (.ref x) name v) Q E s:=by
 obtain ⟨od,J,hl⟩:=I.look;refine PySem.W.set_plain X J hs (PySem.W.osa_open (s:={ s with toks:=s.toks+1 }) (r:=none) X J hp ht fun b=>?_);obtain ⟨cd,hc,hd'⟩:=PySem.W.any_some hh;have hx:s.heap.get? x=some ⟨.ref C,some dx,.plain,#[]⟩:=I.obj;refine K9 (LI (K9 (K9 (wpAny_loadPart hx (K9 (PySem.W.Looks.here (s:={ s with toks:=s.toks+1 }) (PySem.W.looks_clsIn X hc) ?_))))));rw [hd'];refine LI (a:=some dx) (K9 (LI (K9 ?_)));refine wpAny_nsSet1 (s:={ s with toks:=s.toks+1 }) I.ns fun h' hn2 hs2=>?_;obtain ⟨oD,esD,epD,hoD,hdD,hcD⟩:=hn2.count (PySem.Within.cons name v hw);refine K9 (wpAny_lookBehind hoD (by rw [hdD];exact pastItsLine_dict (L4 hcD (by rw [LN];lia))) ?_)
 exact LI (h _ ⟨(hs2.2 _ (MX I.ne)).trans I.obj,hn2,I.ne⟩ hs2)
def AE {R:Qo->K5->Prop} {vs:List Value} {kw:List (Str×Value)} (X:K.In s.heap) (hm:Pw K C=true)
  (hi:Mg K (.ref C) "__init__" = some (some (.ref f))) (hf:PySem.W.typeIn K (.ref f)=some (.type "function"))
  (h:codeAny (model prog w) (A.under (.builtin "type.__call__" ⟨.ref C :: vs,kw⟩)) (.call (.ref f) ⟨.ref (s.heap.objs.size+1) :: vs,kw⟩) (PySem.W.InitBack (s.heap.objs.size+1) R)
   { s with heap:=(s.heap.push Mz).push (MW C s.heap.objs.size) }) :
  codeAny (model prog w) A (.call (.ref C) ⟨vs,kw⟩) R s:=by
 obtain ⟨hh,g,d,t,os⟩:=s;exact PySem.W.make_core (PySem.W.makes_of X hm) (PySem.W.looks_findIn X hi) (fun self=>PySem.W.bind_fn X self hf) (.inl rfl) h
end
def cX (f:Str) (v:V):List (Str×V)->List (Str×V)
 | []=>[(f,v)]
 | (g,x) :: r=>if g=f then (g,v) :: r else (g,x) :: cX f v r
def rJ (f g:Str) (v:V):∀ fs:List (Str×V),(cX f v fs).lookup g=if g=f then some v else fs.lookup g
 | []=>by
  show N7 g [(f,v)]=_
  by_cases h:g=f
  ·have hb:(g == f)=true:=beq_iff_eq.mpr h;simp only [N7,hb,if_pos h]
  ·have hb:(g == f)=false:=beq_eq_false_iff_ne.mpr h;simp only [N7,hb,if_neg h]
 | (k,x) :: r=>by
  have ih:=rJ f g v r;rw [show cX f v ((k,x) :: r)=(if k=f then (k,v) :: r else (k,x) :: cX f v r) from rfl]
  by_cases hk:k=f
  ·rw [if_pos hk]
   by_cases h:g=k
   ·have hb:(g == k)=true:=beq_iff_eq.mpr h;simp only [N7,hb,if_pos (h.trans hk)]
   ·have hb:(g == k)=false:=beq_eq_false_iff_ne.mpr h;simp only [N7,hb,if_neg (fun e:g=f=>h (e.trans hk.symm))]
  ·rw [if_neg hk]
   by_cases h:g=k
   ·have hb:(g == k)=true:=beq_iff_eq.mpr h;simp only [N7,hb,if_neg (fun e:g=f=>hk (h.symm.trans e))]
   ·have hb:(g == k)=false:=beq_eq_false_iff_ne.mpr h;simp only [N7,hb];exact ih
def pD (f:Str) (v:V):∀ fs:List (Str×V),f∈(cX f v fs).map (·.1)/\∀ g,g∈fs.map (·.1)->g∈(cX f v fs).map (·.1)
 | []=>⟨by simp [cX],fun g h=>by simp at h⟩
 | (k,x) :: r=>by
  obtain ⟨i1,i2⟩:=pD f v r;rw [show cX f v ((k,x) :: r)=(if k=f then (k,v) :: r else (k,x) :: cX f v r) from rfl]
  by_cases hk:k=f
  ·rw [if_pos hk];subst hk;exact ⟨by simp,fun g h=>by simpa using h⟩
  ·rw [if_neg hk];refine ⟨?_,fun g h=>?_⟩
   ·rw [LY];exact K8 _ i1
   ·rw [LY] at h ⊢;rcases LL.mp h with e|e
    ·exact LL.mpr (.inl e)
    ·exact K8 _ (i2 g e)
def rF (f:Str) (v:V):∀ fs:List (Str×V),(cX f v fs).length<=fs.length+1
 | []=>by simp [cX]
 | (k,x) :: r=>by
  have ih:=rF f v r;rw [show cX f v ((k,x) :: r)=(if k=f then (k,v) :: r else (k,x) :: cX f v r) from rfl]
  by_cases hk:k=f
  ·rw [if_pos hk,LN,LN];lia
  ·rw [if_neg hk,LN,LN];lia
def eQ.some_of {v:V} {o:Option Value} (r:eQ (some v) o):∃ u,o=some u/\RelV v u:=by
 cases o with
 | none=>exact (show False from r).elim
 | some u=>exact ⟨u,rfl,r⟩
def eQ.none_of {o:Option Value} (r:eQ none o):o=none:=by
 cases o with
 | none=>rfl
 | some u=>exact (show False from r).elim
def Ee {v:V} {u:Value} (r:RelV v u):PySem.W.handedIn u=true:=by
 cases v with
 | non=>cases (show u=NJ from r);rfl
 | bl b=>cases (show u=P0 b from r);rfl
 | int i=>obtain ⟨t,e⟩:=(show ∃ t,u=NU i t from r);cases e;rfl
 | str x=>obtain ⟨t,e⟩:=(show ∃ t,u=Ql x t from r);cases e;rfl
 | byt b=>obtain ⟨t,e⟩:=(show ∃ t,u=Value.bytes b t from r);cases e;rfl
 | flt b=>obtain ⟨t,e⟩:=(show ∃ t,u=QF b t from r);cases e;rfl
 | ref a=>cases (show u=LF a from r);rfl
 | ty n=>cases (show u=Value.type n from r);rfl
section
variable {P:Lp} {w:World} {H H':Hp} {h h':Heap} {a C dx:Addr} {fs fs':List (Str×V)}
def qv (hok:HOk P w H h) (e:H a=some (.ins C dx fs)):∃ mA,rP h a dx C mA/\(∀ f,eQ (fs.lookup f) (mA f))/\Qw mA (fs.map (·.1))/\fs.length<=1000/\H dx=some (.own a):=by
 obtain ⟨d,z,ne,ob,mA,n,r,q⟩:=(show bX P w H h a (.ins C dx fs) from hok a _ e);exact ⟨mA,⟨ob,n,ne⟩,r,q,z,d⟩
end
structure Cls (K:KW) (C:Addr):Prop where
 pg:NP K C Str.empty=true
 hd:N6 K C=true
 po:OQ K C=true
 sa:Mg K (.ref C) "__setattr__" = some (some (.builtin "object.__setattr__"))
def Cls.get {K:KW} {C:Addr} (c:Cls K C) (f:Str):NP K C f=true:=c.pg
def aY (K:KW) (C:Addr) (f:Str):Prop:=Mg K (.ref C) f=some none
def aY.Kn {K:KW} {C:Addr} {f:Str} (n:aY K C f):Pu K C f=some none:=by
 unfold Pu;rw [show Mg K (.ref C) f=some none from n];rfl
structure Meth (K:KW) (C:Addr) (m:Str) (f:Addr):Prop where
 at_:Mg K (.ref C) m=some (some (.ref f))
 fn:OE K (.ref f)=true
 kp:L0 K (.ref f)=true
section
variable {X:Cx} {pins:List (Addr×Obj)} {σ:St} {H:Hp} {s:K5} {a C dx:Addr} {fs:List (Str×V)} {f:Str} {v:V} {A:LW} {E:Value->K5->Prop}
def BX {b:Bool} {Q:Value->K5->Prop} (I:Inv X pins σ H s) (e:H a=some (.ins C dx fs)) (c:Cls X.K C) (n:aY X.K C f) (l:fs.lookup f=some v)
  (h:∀ u s',Inv X pins σ H s'->RelV v u->Q u s'):wpAny (model X.prog X.w) A (getAttr (.ref a) f b) Q E s:=by
 obtain ⟨mA,O,r,_,_,_⟩:=qv I.hok e;obtain ⟨u,hu,ru⟩:=eQ.some_of (v:=v) (o:=mA f) (by rw [<- l];exact r f)
 exact get_map I.kIn O (c.get f) c.hd n hu (Ee ru) (h u _ (I.tok _) ru)
def C7 {m:Str} {g:Addr} {pl:Sem Bool} {Q:Value×List Value->K5->Prop} (I:Inv X pins σ H s) (e:H a=some (.ins C dx fs)) (c:Cls X.K C) (k:Meth X.K C m g) (l:fs.lookup m=none)
  (h:Q (.ref g,[.ref a]) s):wpAny (model X.prog X.w) A (getMethod (.ref a) m pl) Q E s:=by
 obtain ⟨mA,O,r,_,_,_⟩:=qv I.hok e;have hn:mA m=none:=eQ.none_of (by rw [<- l];exact r m)
 exact Fs I.kIn O (c.get m) k.at_ k.fn hn h
def BR {y:V} {u:Value} {Q:Unit->K5->Prop} (I:Inv X pins σ H s) (e:H a=some (.ins C dx fs)) (c:Cls X.K C) (n:aY X.K C f) (hl:fs.length<1000) (ry:RelV y u)
  (h:∀ s',Inv X pins σ (upd H a (.ins C dx (cX f y fs))) s'->Q () s'):wpAny (model X.prog X.w) A (setAttr (.ref a) f u) Q E s:=by
 obtain ⟨mA,O,r,wi,_,ho⟩:=qv I.hok e;have hz:(fs.map (·.1)).length<=LB:=by rw [KY,L5];lia
 refine Hq I.kIn O c.sa c.po n.Kn c.hd wi hz fun h' O' sb=>h _ ?_;have hd:∃ o,h'.get? dx=some o:=let ⟨o,_,_,e',_⟩:=O'.ns;⟨o,e'⟩;refine I.write (x:=a) (e:=dx) (by rw [e];exact M0) (.inr ho) (fun b q hb z=>(sb.2 b hb).trans z) hd ?_
 refine ⟨by rw [av O.ne];exact ho,?_,O.ne,O'.obj,_,O'.ns,fun g=>?_,fun g hg=>?_⟩
 ·have:=rF f y fs;lia
 ·show eQ ((cX f y fs).lookup g) (if g=f then some u else mA g);rw [rJ]
  by_cases q:g=f
  ·rw [if_pos q,if_pos q];exact ry
  ·rw [if_neg q,if_neg q];exact r g
 ·by_cases q:g=f
  ·rw [q];exact (pD f y fs).1
  ·refine (pD f y fs).2 g (wi g fun z=>hg ?_);show (if g=f then some u else mA g)=none;rw [if_neg q];exact z
def Inv.made (I:Inv X pins σ H s):Inv X pins σ (upd (upd H s.heap.objs.size (.own (s.heap.objs.size+1))) (s.heap.objs.size+1) (.ins C s.heap.objs.size []))
  { s with heap:=(s.heap.push Mz).push (MW C s.heap.objs.size) }:=by
 have e1:(s.heap.push Mz).get? s.heap.objs.size=some Mz:=LQ s.heap rfl;have e2:((s.heap.push Mz).push (MW C s.heap.objs.size)).get? (s.heap.objs.size+1)=some (MW C s.heap.objs.size):=by
  have:=LQ (s.heap.push Mz) (o:=MW C s.heap.objs.size) rfl
  rwa [Nt] at this
 have e3:(s.heap.push Mz).Ns s.heap.objs.size (fun _=>none):=⟨Mz,#[],_,e1,rfl,(fun e he=>absurd he (by simp)),fun _=>rfl⟩
 have I1:=I.laid (a:=s.heap.objs.size) (o:=.own (s.heap.objs.size+1)) (h':=s.heap.push Mz) (t':=s.toks) (fun b u q=>La _ q) (Lj _) ⟨_,e1⟩;refine I1.laid (a:=s.heap.objs.size+1) (o:=.ins C s.heap.objs.size []) (t':=s.toks) (fun b u q=>La _ q) (Px (Nt _ _)) ?_;have ne:s.heap.objs.size≠s.heap.objs.size+1:=Lz (Np _);refine ⟨by rw [av ne,au],Mb _,ne,e2,fun _=>none,(Heap.Ns1.of_empty e3).at fun o q=>La _ q,fun _=>M0,fun y hy=>absurd rfl hy⟩
def Iv {prog:Lp} {w:World} {env:Env} {e:Expr} {f:Str} {pos:Pos} {s:K5} {Q:Value->K5->Prop} (hb:attributeBase e f env (eval e env)=eval e env)
  (h:wpAny (model prog w) A (eval e env) (fun o s₁=>wpAny (model prog w) A (getAttr o f true) Q E s₁) E s):wpAny (model prog w) A (eval (.Attribute e f pos) env) Q E s :=
 Attribute_any_ h (by rw [arm_eval_Attribute,hb])
end
def Gi (K:KW) (ta:TE) (f:Str):TE:=fun σ H Q=>ta σ H fun x H1=>∃ a C dx fs v,x=.ref a/\H1 a=some (.ins C dx fs)/\Cls K C/\aY K C f/\fs.lookup f=some v/\Q v H1
def E2 (K:KW) (ta tv:TE) (f:Str):TS:=fun D σ H=>tv σ H fun y H1=>ta σ H1 fun x H2=>∃ a C dx fs,x=.ref a/\H2 a=some (.ins C dx fs)/\Cls K C/\aY K C f/\fs.length<1000 /\
 D.nx σ (upd H2 a (.ins C dx (cX f y fs)))
section
variable {X:Cx} {o e value:Expr} {f:Str} {pos pos' tpos:Pos} {ta tv:TE}
def Jh (he:PE X e ta) (hb:attributeBase e f X.env (eval e X.env)=eval e X.env):PE X (.Attribute e f pos) (Gi X.K ta f):=by
 intro pins s σ H Q I h;refine Iv hb (thn (he pins s σ H _ I h) fun u s1 ⟨x,H1,I1,rx,a,C,dx,fs,v,ex,ea,c,n,l,q⟩=>?_);subst ex;obtain rfl:u=LF a:=rx;exact BX I1 ea c n l fun u' s2 I2 ru=>⟨v,H1,I2,ru,q⟩
def Jq (ha:PE X o ta) (hv:PE X value tv) (hs:swapsWith value (some (.Attribute o f pos')) pos.line X.env=pure false):PS X (.Assign [.Attribute o f pos'] value pos) (E2 X.K ta tv f):=by
 intro pins s σ H D I h;refine plainObj_wpAny_Assign_Attribute (thn (hv pins s σ H _ I h) fun u s1 ⟨y,H1,I1,ry,q⟩=>thn (ha pins s1 σ H1 _ I1 q) fun ov s2 ⟨x,H2,I2,rx,a,C,dx,fs,ex,ea,c,n,l,q2⟩=>?_) hs;subst ex;obtain rfl:ov=LF a:=rx;exact BR I2 ea c n l ry fun s3 I3=>⟨σ,_,I3,q2⟩
end
section
variable {X:Cx} {pins:List (Addr×Obj)} {σ:St} {H:Hp} {s:K5} {A:LW} {E:Value->K5->Prop} {Q:Value->K5->Prop} {c:Value} {b:Bool}
inductive gQ (K:KW) (H:Hp):V->Value->Prop where
 | non:gQ K H .non (.type "NoneType")
 | bl (x:Bool):gQ K H (.bl x) (.type "bool")
 | int (i:Int):gQ K H (.int i) (.type "int")
 | str (x:Str):gQ K H (.str x) (.type "str")
 | flt (x:UInt64):gQ K H (.flt x) (.type "float")
 | lst {a:Addr} {xs:List V} (e:H a=some (.lst xs)):gQ K H (.ref a) (.type "list")
 | frz {a:Addr} {o:Obj} {xs:List V} (e:H a=some (.frz o (.lst xs))):gQ K H (.ref a) (.type "list")
 | tup {a:Addr} {xs:List V} (e:H a=some (.tup xs)):gQ K H (.ref a) (.type "tuple")
 | dK {a:Addr} {kvs:List (Key×V)} (e:H a=some (.dK kvs)):gQ K H (.ref a) (.type "dict")
 | dT {a:Addr} {kvs:List (List Key×V)} (e:H a=some (.dT kvs)):gQ K H (.ref a) (.type "dict")
 | ins {a C dx:Addr} {fs:List (Str×V)} (e:H a=some (.ins C dx fs)) (cl:Cls K C) (ha:Mg K (.ref C) "__class__" = some (some (.builtin "object.__class__")))
   (hn:OR K (.builtin "object.__class__") "__get__" = some (some (.builtin "getset_descriptor.__get__"))) (htk:PySem.W.takesIn K (.builtin "object.__class__")=some true)
   (hm:PySem.W.mroIn K C (.type "object")=some true):gQ K H (.ref a) (.ref C)
def Em {x:V} {u t:Value} (I:Inv X pins σ H s) (rx:RelV x u) (ty:gQ X.K H x t) (e:OL X.K t c=some b) (h:∀ tk,Q (.bool b) { s with toks:=tk }) :
  wpAny (model X.prog X.w) A (call (.builtin "isinstance") [u,c]) Q E s:=by
 cases ty with
 | non=>cases (show u=NJ from rx);exact Mw PySem.W.kitx_none I.kIn M0 e (fun z=>nomatch z) h
 | bl y=>cases (show u=P0 y from rx);exact Mw PySem.W.kitx_bool I.kIn M0 e (fun z=>nomatch z) h
 | int i=>obtain ⟨t,q⟩:=(show ∃ t,u=NU i t from rx);cases q;exact Mw PySem.W.kitx_int I.kIn M0 e (fun z=>nomatch z) h
 | str y=>obtain ⟨t,q⟩:=(show ∃ t,u=Ql y t from rx);cases q;exact Mw PySem.W.kitx_str I.kIn M0 e (fun z=>nomatch z) h
 | flt y=>obtain ⟨t,q⟩:=(show ∃ t,u=QF y t from rx);cases q;exact Mw PySem.W.kitx_float I.kIn M0 e (fun z=>nomatch z) h
 | @lst a xs ea =>
  cases (show u=LF a from rx);obtain ⟨_,_,n,_,h1⟩:=(show bX X.prog X.w H s.heap a (.lst xs) from I.hok a _ ea);exact Mw PySem.W.kitx_list I.kIn ⟨_,h1,rfl⟩ e (fun z=>nomatch z) h
 | @frz a ob xs ea =>
  cases (show u=LF a from rx);obtain ⟨_,_,_,n,_,h1⟩:=(show bX X.prog X.w H s.heap a (.frz ob (.lst xs)) from I.hok a _ ea);exact Mw PySem.W.kitx_list I.kIn ⟨_,h1,rfl⟩ e (fun z=>nomatch z) h
 | @tup a xs ea =>
  cases (show u=LF a from rx);obtain ⟨_,_,_,p⟩:=(show bX X.prog X.w H s.heap a (.tup xs) from I.hok a _ ea);obtain ⟨o,h1,h2,_⟩:=p;exact Mw PySem.W.kitx_tuple I.kIn ⟨o,h1,h2⟩ e (fun z=>nomatch z) h
 | @dK a kvs ea =>
  cases (show u=LF a from rx);obtain ⟨_,_,vs,_,p⟩:=(show bX X.prog X.w H s.heap a (.dK kvs) from I.hok a _ ea);obtain ⟨o,es,ep,h1,h2,_⟩:=p;exact Mw PySem.W.kitx_dict I.kIn ⟨o,h1,h2.1⟩ e (fun z=>nomatch z) h
 | @dT a kvs ea =>
  cases (show u=LF a from rx);obtain ⟨_,_,xs,_,o,es,ep,h1,h2,_⟩:=(show bX X.prog X.w H s.heap a (.dT kvs) from I.hok a _ ea);exact Mw PySem.W.kitx_dict I.kIn ⟨o,h1,h2.1⟩ e (fun z=>nomatch z) h
 | @ins a C dx fs ea cl ha hn htk hm =>
  cases (show u=LF a from rx);obtain ⟨mA,O,_⟩:=qv I.hok ea;obtain ⟨od,J,_⟩:=O.look;exact Mw (PySem.W.kitx_own (cl.get _) cl.hd ha hn htk hm) I.kIn J e (fun z=>nomatch z) h
end
structure b6 (k:Nat) (A:LW):Prop where
 hd:A.handled=none
 dp:A.depth+3 * k+5<recursionLimit
 un:A.units+16 * k+200<cLine
def b6.mono {j k:Nat} {A:LW} (r:b6 k A) (h:j<=k):b6 j A:=⟨r.hd,by have:=r.dp;lia,by have:=r.un;lia⟩
def b6.deeper {k:Nat} {A:LW} (r:b6 (k+1) A) (env:Env):b6 k (A.deeper env) :=
 ⟨r.hd,by have:=r.dp;show A.depth+1+3 * k+5<_;lia,by have:=r.un;show A.units+3+16 * k+200<_;lia⟩
def CS {A:LW} {C:Addr} {us:List Value} {kw:List (Str×Value)}:(A.under (.builtin "type.__call__" ⟨.ref C :: us,kw⟩)).depth=A.depth+1:=by
 first|rfl|simp [Qx,Code.weight,Code.isCreation,Code.isGuard,Code.isCaller,Code.frames,Qy,guardIds]
def Dc {A:LW} {C:Addr} {us:List Value} {kw:List (Str×Value)}:(A.under (.builtin "type.__call__" ⟨.ref C :: us,kw⟩)).units=A.units+1:=by
 first|rfl|simp [Qx,Code.cUnits,Code.frames,Qy]
def b6.make {k:Nat} {A:LW} (r:b6 (k+1) A) (C:Addr) (us:List Value) (kw:List (Str×Value)):b6 k (A.under (.builtin "type.__call__" ⟨.ref C :: us,kw⟩)) :=
 ⟨r.hd,by have:=r.dp;rw [CS];lia,by have:=r.un;rw [Dc];lia⟩
def b6.depth {k:Nat} {A:LW} (r:b6 k A):A.depth<recursionLimit:=by have:=r.dp;lia
def b6.units {k:Nat} {A:LW} (r:b6 k A):A.units+64<cLine:=by have:=r.un;lia
def rZ:TA:=fun _ H Q=>Q [] H
def kj (ta:TE) (tr:TA):TA:=fun σ H Q=>ta σ H fun x H1=>tr σ H1 fun xs H2=>Q (x :: xs) H2
section
variable {X:Cx} {e:Expr} {es:List Expr} {te:TE} {t:TA} {pos:Pos}
def aa:PA X [] rZ:=fun _ _ _ _ H Q I h=>Calls.spliced_nil ⟨[],H,I,.nil,h⟩
def vw (ha:PE X e te) (hr:PA X es t) (hs:LV (e :: es) X.env=(false,eval e X.env) :: LV es X.env:=by rfl):PA X (e :: es) (kj te t):=by
 intro pos pins s σ H Q I h;rw [hs];show wpAny _ _ (spliced ((false,eval e X.env) :: backTo pos (LV es X.env))) _ _ s;refine Calls.spliced_cons (thn (ha pins s σ H _ I h) fun u s1 ⟨x,H1,I1,r1,q1⟩=>?_);exact thn (hr pos pins s1 σ H1 _ I1 q1) fun us s2 ⟨xs,H2,I2,r2,q2⟩=>⟨x :: xs,H2,I2,.cons r1 r2,q2⟩
def FL (t:TA):TE:=fun σ H Q=>t σ H fun xs H1=>xs.length<=LB/\∀ p,H1 p=none->Q (.ref p) (upd H1 p (.tup xs))
def yG (t:TA):TE:=fun σ H Q=>t σ H fun xs H1=>xs.length<=LB/\∀ p,H1 p=none->Q (.ref p) (upd H1 p (.lst xs))
def el {x1} (h:PA X es t):PE X (.Tuple es x1 pos) (FL t):=by
 intro pins s σ H Q I hq;refine wpAny_Tuple_spliced (thn (h pos pins s σ H _ I hq) fun us s1 ⟨xs,H1,I1,r,z,q⟩=>⟨by rw [<- r.length];exact z,?_⟩)
 have hf:H1 s1.heap.objs.size=none:=I1.hok.fresh (Lj _);refine ⟨.ref s1.heap.objs.size,upd H1 s1.heap.objs.size (.tup xs),I1.laid (t':=s1.toks) (fun b u e=>La _ e) (Lj _) ?_,rfl,q _ hf⟩;exact ⟨z,us,r,⟨_,LQ _ rfl,rfl,_,rfl⟩⟩
def bP (h:PA X es t):PE X (.List es pos) (yG t):=by
 intro pins s σ H Q I hq;refine wpAny_List_spliced (thn (h pos pins s σ H _ I hq) fun us s1 ⟨xs,H1,I1,r,z,q⟩=>⟨by rw [<- r.length];exact z,?_⟩)
 have hf:H1 s1.heap.objs.size=none:=I1.hok.fresh (Lj _);refine ⟨.ref s1.heap.objs.size,upd H1 s1.heap.objs.size (.lst xs),I1.laid (t':=s1.toks) (fun b u e=>La _ e) (Lj _) ?_,rfl,q _ hf⟩;exact ⟨z,us,0,r,LQ _ rfl⟩
end
abbrev Sp:=List V->Hp->VK->XK->Prop
abbrev CXT:=List Env->Hp->K5->XK->Value->K5->Prop
structure r9 (P:Lp) (w:World) (K:KW) (mg:Str->Option Value) (base:Heap) (A:LW) (outer:List Env) (s:K5) (H:Hp):Prop where
 frames:A.frames=some outer
 mod:Mod K mg base
 bs:∀ b o,base.get? b=some o->s.heap.get? b=some o/\H b=none
 bsz:base.objs.size<=s.heap.objs.size
 eT:s.heap.FunFrames base outer
 frf:∀ b∈frs outer,H b=none
 hok:HOk P w H s.heap
 bare:O6 s.gens
def CE (outer:List Env) (P:Lp) (w:World) (H:Hp) (s:K5) (Q:VK) (u:Value) (s':K5):Prop :=
 ∃ v H',s'.os=s.os/\O6 s'.gens/\Un (frs outer) [] H H' s.heap s'.heap/\HOk P w H' s'.heap/\RelV v u/\Q v H'
def CR (CX:CXT) (outer:List Env) (P:Lp) (w:World) (H:Hp) (s:K5) (Q:VK) (E:XK) (r:Qo) (s':K5):Prop :=
 match r with
 | .ok (.ret u)=>CE outer P w H s Q u s'
 | .ok _=>False
 | .error e=>CX outer H s E e s'
structure aJ (P:Lp) (w:World) (K:KW) (mg:Str->Option Value) (base:Heap) (CX:CXT) (k:Nat) (f:Addr) (fd:LZ) (ps:List Str) (sp:Sp):Prop where
 len:∀ vs H Q E,sp vs H Q E->vs.length=ps.length
 run:∀ (A:LW) (outer:List Env) (s:K5) (H:Hp) (args:Args) (us:List Value) (vs:List V) (Q:VK) (E:XK),b6 k A->r9 P w K mg base A outer s H->OM s fd args (ps.zip us)->Vals vs us->sp vs H Q E ->
  codeAny (model P w) A (.call (.ref f) args) (CR CX outer P w H s Q E) s
def aJ.mono {P:Lp} {w:World} {K:KW} {mg:Str->Option Value} {base:Heap} {CX:CXT} {j k:Nat} {f:Addr} {fd:LZ} {ps:List Str} {sp:Sp} (F:aJ P w K mg base CX j f fd ps sp) (h:j<=k) :
  aJ P w K mg base CX k f fd ps sp:=⟨F.len,fun A outer s H args us vs Q E hr=>F.run A outer s H args us vs Q E (hr.mono h)⟩
def r9.make {P:Lp} {w:World} {K:KW} {mg:Str->Option Value} {base:Heap} {A:LW} {outer:List Env} {s:K5} {H:Hp} (e:r9 P w K mg base A outer s H) (C:Addr) (us:List Value) (kw:List (Str×Value)) :
  r9 P w K mg base (A.under (.builtin "type.__call__" ⟨.ref C :: us,kw⟩)) outer s H:=⟨by first|exact e.frames|(simpa [Qx,Code.envs,Qy,pushEnvs] using e.frames),e.mod,e.bs,e.bsz,e.eT,e.frf,e.hok,e.bare⟩
section
variable {X:Cx} {pins:List (Addr×Obj)} {σ:St} {H:Hp} {s s':K5}
def Inv.Fp (I:Inv X pins σ H s):r9 X.prog X.w X.K X.mg X.base X.A X.stack s H :=
 ⟨I.ok.frames,I.ok.mod,I.bs,L4 I.ok.bsz I.sz,I.stack,I.vP,I.hok,I.bare⟩
def Inv.after {Q:VK} {u:Value} (I:Inv X pins σ H s) (h:CE X.stack X.prog X.w H s Q u s'):EP X pins σ Q u s':=by
 obtain ⟨v,H',os,bare,un,hok,r,q⟩:=h;obtain ⟨hh,g,d,t,os'⟩:=s';obtain rfl:os'=s.os:=os;exact ⟨v,H',I.call (h':=hh) (g':=g) (d':=d) (t':=t) (ch:=[]) un hok bare (fun b z=>absurd z (by simp)),r,q⟩
end
def nD (sp:Sp) (dvs:List V) (E:XK) (t:TA):TE:=fun σ H Q=>t σ H fun vs H1=>sp (vs++dvs) H1 Q E
def CY (C:Addr) (sp:Sp) (dvs:List V) (E:XK) (t:TA):TE:=fun σ H Q=>t σ H fun vs H1=>∀ x dx,H1 x=none->H1 dx=none->dx≠x ->
 sp (.ref x :: (vs++dvs)) (upd (upd H1 dx (.own x)) x (.ins C dx [])) (fun v H2=>v=.non/\Q (.ref x) H2) E
def Binds (K:KW) (fd:LZ) (ps:List Str) (ds:List Value):Prop :=
 ∀ (s:K5) (us:List Value),K.In s.heap->(us++ds).length=ps.length->OM s fd ⟨us,[]⟩ (ps.zip (us++ds))
def Binds.all {K:KW} {fd:LZ} {ps:List Str} (h:∀ us:List Value,us.length=ps.length->bindArgs fd ⟨us,[]⟩=pure (ps.zip us)):Binds K fd ps []:=fun s us _ hl=>by
 rw [NW] at hl ⊢;exact .of_eq (h us hl)
def Passes (CX:CXT) (X:Cx) (E:XK):Prop:=∀ (pins:List (Addr×Obj)) (σ:St) (H:Hp) (s:K5) (e:Value) (s':K5),Inv X pins σ H s->CX X.stack H s E e s'->X.xe e s'
section
variable {X:Cx} {CX:CXT} {k:Nat} {f C:Addr} {fd:LZ} {ps:List Str} {sp:Sp} {dvs:List V} {ds:List Value} {E:XK} {x m:Str} {p pos apos:Pos} {e o:Expr} {es:List Expr} {ta:TE} {t:TA}
def Aw {pins:List (Addr×Obj)} {σ:St} {H:Hp} {s:K5} {Q:VK} {us:List Value} {vs:List V} (F:aJ X.prog X.w X.K X.mg X.base CX k f fd ps sp) (hr:b6 k X.A) (hb:Binds X.K fd ps ds) (hd:Vals dvs ds) (hx:Passes CX X E)
  (I:Inv X pins σ H s) (r:Vals vs us) (h:sp (vs++dvs) H Q E):wpAny (model X.prog X.w) X.A (call (.ref f) us) (EP X pins σ Q) X.xe s:=by
 have r2:Vals (vs++dvs) (us++ds):=r.append hd;have hl:(us++ds).length=ps.length:=by rw [<- r2.length];exact F.len _ _ _ _ h
 refine wpAny_call (Oa (F.run X.A X.stack s H ⟨us,[]⟩ (us++ds) (vs++dvs) Q E hr I.Fp (hb s us I.kIn hl) r2 h) fun r s' hq=>?_);cases r with
 | error e=>exact hx pins σ H s e s' I hq
 | ok fl =>
  cases fl with
  | ret u=>exact I.after hq
  | next=>exact Mf hq
  | brk=>exact Mf hq
  | cont=>exact Mf hq
def va (F:aJ X.prog X.w X.K X.mg X.base CX k f fd ps sp) (hr:b6 k X.A) (hg:Gl X x) (hm:X.mg x=some (.ref f)) (hk:L0 X.K (.ref f)=true) (hb:Binds X.K fd ps ds) (hd:Vals dvs ds) (hx:Passes CX X E)
  (ha:PA X (e :: es) t) (hdb:(x == ("__debug__" : Str))=false:=by decide) (he:LV (e :: es) X.env=(false,eval e X.env) :: LV es X.env:=by rfl) (hpl:(backTo pos (LV es X.env)).any (·.1)=false:=by rfl) :
  PE X (.Call (.Name x p) (e :: es) [] pos) (nD sp dvs E t):=by
 intro pins s σ H Q I h;refine Nv (iM I hg hm ?_ hdb);refine Nw (h₀:=X.base) I.ok.mod.kin hk (thn (ha pos pins s σ H _ I h) fun us s1 ⟨vs,H1,I1,r,q⟩=>⟨I1.kIn,?_⟩) he hpl;exact Aw F hr hb hd hx I1 r q
structure Mk (K:KW) (C f:Addr):Prop where
 makes:Pw K C=true
 init:Mg K (.ref C) "__init__" = some (some (.ref f))
 fn:OE K (.ref f)=true
 kp:L0 K (.ref C)=true
def Ga {pins:List (Addr×Obj)} {σ:St} {H:Hp} {s:K5} {Q:VK} {us:List Value} {vs:List V} (M:Mk X.K C f) (F:aJ X.prog X.w X.K X.mg X.base CX k f fd ps sp) (hr:b6 (k+1) X.A) (hb:Binds X.K fd ps ds) (hd:Vals dvs ds)
  (hx:Passes CX X E) (I:Inv X pins σ H s) (r:Vals vs us)
  (h:∀ x dx,H x=none->H dx=none->dx≠x->sp (.ref x :: (vs++dvs)) (upd (upd H dx (.own x)) x (.ins C dx [])) (fun v H2=>v=.non/\Q (.ref x) H2) E) :
  wpAny (model X.prog X.w) X.A (call (.ref C) us) (EP X pins σ Q) X.xe s:=by
 have hq:=h (s.heap.objs.size+1) s.heap.objs.size (I.hok.fresh (NS _)) (I.hok.fresh (Lj _)) (Lz (Np _));have I2:=Inv.made (C:=C) I;have r2:Vals (V.ref (s.heap.objs.size+1) :: (vs++dvs)) (LF (s.heap.objs.size+1) :: (us++ds)):=.cons rfl (r.append hd);have hl:(LF (s.heap.objs.size+1) :: us++ds).length=ps.length:=by
  have e:=r2.length;rw [F.len _ _ _ _ hq] at e;exact e.symm
 refine wpAny_call (AE (f:=f) I.kIn M.makes M.init (beq_iff_eq.mp M.fn) (Oa (F.run _ X.stack _ _ ⟨LF (s.heap.objs.size+1) :: us,[]⟩ (LF (s.heap.objs.size+1) :: (us++ds)) _ _ E (hr.make C us [])
  (I2.Fp.make C us []) (hb _ (LF (s.heap.objs.size+1) :: us) I2.kIn hl) r2 hq) fun r s' hq'=>?_))
 cases r with
 | error e=>exact hx pins σ _ _ e s' I2 hq'
 | ok fl =>
  cases fl with
  | ret u =>
   obtain ⟨v,H',I3,rv,ev,q3⟩:=I2.after hq';subst ev;exact ⟨rv,⟨V.ref (s.heap.objs.size+1),H',I3,rfl,q3⟩⟩
  | next=>exact Mf hq'
  | brk=>exact Mf hq'
  | cont=>exact Mf hq'
def IG (M:Mk X.K C f) (F:aJ X.prog X.w X.K X.mg X.base CX k f fd ps sp) (hr:b6 (k+1) X.A) (hg:Gl X x) (hm:X.mg x=some (.ref C)) (hb:Binds X.K fd ps ds) (hd:Vals dvs ds) (hx:Passes CX X E)
  (ha:PA X (e :: es) t) (hdb:(x == ("__debug__" : Str))=false:=by decide) (he:LV (e :: es) X.env=(false,eval e X.env) :: LV es X.env:=by rfl) (hpl:(backTo pos (LV es X.env)).any (·.1)=false:=by rfl) :
  PE X (.Call (.Name x p) (e :: es) [] pos) (CY C sp dvs E t):=by
 intro pins s σ H Q I h;refine Nv (iM I hg hm ?_ hdb);refine Nw (h₀:=X.base) I.ok.mod.kin M.kp (thn (ha pos pins s σ H _ I h) fun us s1 ⟨vs,H1,I1,r,q⟩=>⟨I1.kIn,?_⟩) he hpl;exact Ga M F hr hb hd hx I1 r q
end
section
variable {X:Cx} {CX:CXT} {k:Nat} {f C:Addr} {fd:LZ} {ps ks:List Str} {sp:Sp} {E:XK} {x m:Str} {p pos apos kpos:Pos} {e o:Expr} {es:List Expr} {kws:List Py} {te ta:TE} {t tk:TA} {nm:Option Str}
structure Au (K:KW) (fd:LZ) (ps ks:List Str) (g:List Value->List Value->List Value) (gV:List V->List V->List V):Prop where
 to:∀ (s:K5) (us ws:List Value),K.In s.heap->(g us ws).length=ps.length->OM s fd ⟨us,ks.zip ws⟩ (ps.zip (g us ws))
 rel:∀ {vs:List V} {us:List Value} {zs:List V} {ws:List Value},Vals vs us->Vals zs ws->Vals (gV vs zs) (g us ws)
variable {g:List Value->List Value->List Value} {gV:List V->List V->List V}
end
structure az (N P:List Str) (sc:Scope):Prop where
 kind:sc.kind=.function
 co:sc.isCoroutine=false
 gen:sc.isGenerator=false
 nd:N.Nodup
 pre:N.take P.length=P
 par:∀ x∈P,sc.names.lookup x=some .local\/sc.names.lookup x=some .cell
 JQ:∀ y∈sc.names,y.2≠.free
def wA {kindOf:Str->Option NK} {x:Str}:∀ {binds:List (Str×Value)} {m:Str->Option Value},(∀ v,(x,v)∉binds)->bindL kindOf binds m x=m x
 | [],_,_=>rfl
 | (n,v) :: r,m,h=>by
  unfold bindL;rw [wA fun w hw=>h w (K8 _ hw)]
  split
  ·have:x≠n:=by rintro rfl;exact h v Le
   simp [this]
  ·rfl
def wj {kindOf:Str->Option NK} {x:Str}:∀ {binds:List (Str×Value)} {m:Str->Option Value},(∀ v,(x,v)∉binds)->bindC kindOf binds m x=m x
 | [],_,_=>rfl
 | (n,v) :: r,m,h=>by
  unfold bindC;rw [wj fun w hw=>h w (K8 _ hw)]
  split
  ·rfl
  ·have:x≠n:=by rintro rfl;exact h v Le
   simp [this]
def wH {kindOf:Str->Option NK} {x:Str} {v:Value}:∀ {P:List Str} {vs:List Value} {i:Nat} {m:Str->Option Value},P.Nodup->P[i]?=some x->vs[i]?=some v->kindOf x=some .local ->
  bindL kindOf (P.zip vs) m x=some v
 | [],_,_,_,_,h,_,_=>by simp at h
 | _ :: _,[],_,_,_,_,h,_=>by simp at h
 | p :: P,w :: vs,0,m,nd,h1,h2,hk=>by
  simp at h1 h2;subst h1;subst h2;show bindL kindOf ((p,w) :: P.zip vs) m p=_;unfold bindL;rw [wA fun v hv=>(L9.mp nd).1 (Pz hv).1,if_pos hk];simp
 | p :: P,w :: vs,i+1,m,nd,h1,h2,hk=>by
  show bindL kindOf ((p,w) :: P.zip vs) m x=_;unfold bindL;exact wH (i:=i) (L9.mp nd).2 (by simpa using h1) (by simpa using h2) hk
def xc {kindOf:Str->Option NK} {x:Str} {v:Value}:∀ {P:List Str} {vs:List Value} {i:Nat} {m:Str->Option Value},P.Nodup->P[i]?=some x->vs[i]?=some v->kindOf x≠some .local ->
  bindC kindOf (P.zip vs) m x=some v
 | [],_,_,_,_,h,_,_=>by simp at h
 | _ :: _,[],_,_,_,_,h,_=>by simp at h
 | p :: P,w :: vs,0,m,nd,h1,h2,hk=>by
  simp at h1 h2;subst h1;subst h2;show bindC kindOf ((p,w) :: P.zip vs) m p=_;unfold bindC;rw [wj fun v hv=>(L9.mp nd).1 (Pz hv).1,if_neg hk];simp
 | p :: P,w :: vs,i+1,m,nd,h1,h2,hk=>by
  show bindC kindOf ((p,w) :: P.zip vs) m x=_;unfold bindC;exact xc (i:=i) (L9.mp nd).2 (by simpa using h1) (by simpa using h2) hk
def start (N:List Str) (vs:List V):St:=vs.map some++Ll (N.length - vs.length) none
def i9 (CX:CXT) (P:Lp) (w:World) (K:KW) (mg:Str->Option Value) (base:Heap) (N:List Str) (qual:Str) (scope:Scope) (f:Addr) (cd:Value) (A:LW) (outer:List Env) (s:K5) (H:Hp) (E:XK):Cx where
 prog:=P
 w:=w
 K:=K
 mg:=mg
 base:=base
 A:=A.deeper (envOfC qual scope s.heap.objs.size f cd)
 N:=N
 s₀:=s
 H₀:=H
 env:=envOfC qual scope s.heap.objs.size f cd
 outer:=outer
 stack:=envOfC qual scope s.heap.objs.size f cd :: outer
 ex:=[]
 calm:=true
 fn:=fun _=>true
 pn:=[]
 xe:=fun e s'=>wpAny (model P w) (A.deeper (envOfC qual scope s.heap.objs.size f cd)) (leaving (envOfC qual scope s.heap.objs.size f cd) e) (fun _ s''=>CX outer H s E e s'') (fun e' s''=>CX outer H s E e' s'') s'
def zA {sc:Scope} {n:Nat} {x:Str} (h:sc.names.lookup x=some .cell):∃ c,(cellsFrom n sc.names []).lookup x=some c:=by
 have q:=Pl sc.names n [] (.inl h);exact OS.mp q
def Dv {CX:CXT} {P:Lp} {w:World} {K:KW} {mg:Str->Option Value} {base:Heap} {N ps:List Str} {qual:Str} {scope:Scope} {f:Addr} {cd:Value} {A:LW} {outer:List Env} {s s1:K5} {H:Hp} {E:XK} {us:List Value} {vs:List V}
  (S:az N ps scope) (hd:A.handled=none) (e0:r9 P w K mg base A outer s H) (hl:vs.length=ps.length) (r:Vals vs us)
  (x:InCallC s s.heap.objs.size (bindL (envOfC qual scope s.heap.objs.size f cd).kindOf (ps.zip us) fun _=>none) (cellsFrom (s.heap.objs.size+1) scope.names []) (bindC (envOfC qual scope s.heap.objs.size f cd).kindOf (ps.zip us) fun _=>none) s1) :
  Inv (i9 CX P w K mg base N qual scope f cd A outer s H E) [] (start N vs) H s1:=by
 have hpl:ps.length<=N.length:=by have:=congrArg QI S.pre;rw [Lh] at this;lia
 obtain ⟨h1,tk,rfl,hk⟩:=x.done;have noA:∀ b:Addr,b∉(i9 CX P w K mg base N qual scope f cd A outer s H E).ex:=fun b z=>absurd (show b∈([]:List Addr) from z) (by simp)
 refine ⟨⟨e0.mod,S.kind,rfl,rfl,Lj _,fun y z c h1 h2=>?_,fun y hy=>?_,fun y c _ h=>?_,fun _=>hd,Around.frames_deeper e0.frames,.inr ⟨rfl,rfl⟩,fun b z=>absurd z (noA b),e0.bs,e0.bsz,fun b _ _=>noA b,fun b z=>absurd z (noA b),e0.eT,e0.frf⟩,
  rfl,e0.bare,Un.kept hk,⟨_,x.toInCall.ns,fun i y v h1 h2 h3=>?_⟩,fun y c h=>⟨_,x.cell y c h⟩,e0.hok.fresh (Lj _),fun y c h=>?_,fun p hp=>absurd (show p∈([]:List (Addr×Obj)) from hp) (by simp),e0.hok.kept hk,?_⟩
 ·exact name_of_addr x.apart (LX h1) (LX h2)
 ·have hy:scope.names.lookup y=some .cell\/scope.names.lookup y=some .free:=hy;rcases hy with hy|hy
  ·exact zA hy
  ·exact absurd rfl (S.JQ _ (LX hy))
 ·exact Nh (x.above y c (LX h))
 ·have hi:i<vs.length:=by
   unfold start at h2
   by_cases hi:i<vs.length
   ·exact hi
   ·rw [Lr (by simpa using hi)] at h2
    rw [O9] at h2
    split at h2 <;> cases h2
  have ha:vs[i]?=some v:=by
   unfold start at h2;rw [Lq (by simpa using hi),K4] at h2
   cases e:vs[i]? with
   | none=>rw [e] at h2;cases h2
   | some a=>rw [e] at h2;cases h2;rfl
  obtain ⟨u,hu,rv⟩:=r.get ha;have hp:ps[i]?=some y:=by
   rw [<- S.pre,MP (by lia)];exact h1
  have ndP:ps.Nodup:=by rw [<- S.pre];exact S.nd.sublist (List.take_sublist _ _)
  refine ⟨u,rv,?_⟩;rcases S.par y (K1 hp) with k|k
  ·exact .inl ⟨k,wH ndP hp hu k⟩
  ·obtain ⟨c,e⟩:=zA (n:=s.heap.objs.size+1) k;refine .inr ⟨.inl k,c,e,?_⟩;have q:=x.cell y c e;rw [xc ndP hp hu (by show scope.names.lookup y≠_;rw [k];decide)] at q
   exact q
 ·exact e0.hok.fresh (Nh (x.above y c (LX h)))
 ·unfold start;show _=N.length;rw [Lg,KY,M5];lia
def CH {CX:CXT} {P:Lp} {w:World} {K:KW} {mg:Str->Option Value} {base:Heap} {k:Nat} {f:Addr} {name qual:Str} {params:Arguments} {body:List Stmt} {scope:Scope} {dV kV doc pm cdv ct oc:Value} {an od:Option Addr}
  {osl:Array (Option Value)} {N ps:List Str} {sp:Sp} (lk:K.lookup f=some ⟨oc,od,.func (LU name qual params body scope dV kV doc pm an cdv ct),osl⟩) (hcd:Mm K cdv qual=true) (S:az N ps scope)
  (len:∀ vs H Q E,sp vs H Q E->vs.length=ps.length)
  (hbody:∀ (A:LW) (outer:List Env) (s:K5) (H:Hp) (vs:List V) (Q:VK) (E:XK),b6 k (A.deeper (envOfC qual scope s.heap.objs.size f cdv))->sp vs H Q E ->
   ∃ t,PSs (i9 CX P w K mg base N qual scope f cdv A outer s H E) body t/\t { nx:=fun _ H'=>Q .non H',rt:=Q } (start N vs) H) :
  aJ P w K mg base CX (k+1) f (LU name qual params body scope dV kV doc pm an cdv ct) ps sp:=by
 refine ⟨len,fun A outer s H args us vs Q E hr e0 hb r hsp=>?_⟩;have hl:=len _ _ _ _ hsp;have KX:K.In s.heap:=e0.mod.kin.keeps fun b o e=>(e0.bs b o e).1;have lim:s.heap.NoLimit:=e0.mod.nolimit.keeps fun b o e=>(e0.bs b o e).1;have hkind:∀ y∈ps.zip us,scope.names.lookup y.1=some .local\/(scope.names.lookup y.1=some .cell/\((cellsFrom (s.heap.objs.size+1) scope.names []).lookup y.1).isSome=true):=fun ⟨n,v⟩ hy=>by
  rcases S.par n (Pz hy).1 with q|q
  ·exact .inl q
  ·exact .inr ⟨q,Pl _ _ _ (.inl q)⟩
 refine codeAny_call_function hr.depth (KX _ _ lk) rfl S.co S.gen rfl (PySem.W.codeRec_of KX hcd) (hb _ _ _ _ ?_);refine wpAny_newFunctionEnv_cells S.kind hkind fun env he s1 x=>?_;subst he;refine ⟨lim.keeps x.toInCall.keep,codeAny_func ?_⟩;obtain ⟨t,ht,hq⟩:=hbody A outer s H vs Q E (hr.deeper _) hsp;have I:Inv (i9 CX P w K mg base N qual scope f cdv A outer s H E) [] (start N vs) H s1:=Dv S hr.hd e0 hl r x;refine Mj (ht [] s1 (start N vs) H _ I hq) (fun fl s' hs=>?_) fun e s' hs=>hs;have fin:∀ {σ':St} {H':Hp} {v:V} {u:Value},Inv (i9 CX P w K mg base N qual scope f cdv A outer s H E) [] σ' H' s'->RelV v u->Q v H'->CE outer P w H s Q u s' :=
  fun {σ' H' v u} J rv q=>⟨v,H',J.os,J.bare,J.base,J.hok,rv,q⟩
 cases fl with
 | ret u =>
  obtain ⟨v,σ',H',J,rv,q⟩:=hs;exact fin J rv q
 | next =>
  obtain ⟨σ',H',J,q⟩:=hs;exact fin (v:=V.non) (u:=NJ) J rfl q
 | brk =>
  obtain ⟨_,_,_,q⟩:=hs;exact Mf q
 | cont =>
  obtain ⟨_,_,_,q⟩:=hs;exact Mf q
section
variable {X:Cx} {x:Str} {p pos:Pos} {e:Expr} {es:List Expr} {t:TA} {id T:String} {r:List V->Hp->VK->Prop}
def tCB (r:List V->Hp->VK->Prop) (t:TA):TE:=fun σ H Q=>t σ H fun vs H1=>r vs H1 Q
def FK (hc:dP X (.builtin id) r) (hg:Gl X x) (hm:X.mg x=none) (hv:bootBuiltins x=some (.builtin id)) (ha:PA X (e :: es) t) (hn:x ≠ "__name__":=by decide) (hdb:(x == ("__debug__" : Str))=false:=by decide)
  (he:LV (e :: es) X.env=(false,eval e X.env) :: LV es X.env:=by rfl) (hpl:(backTo pos (LV es X.env)).any (·.1)=false:=by rfl):PE X (.Call (.Name x p) (e :: es) [] pos) (tCB r t):=by
 intro pins s σ H Q I h;refine Nv (jz I hg hm hv ?_ hn hdb);exact PyProof.Rows.callWith_builtin1 (thn (ha pos pins s σ H _ I h) fun us s1 ⟨vs,H1,I1,r1,q1⟩=>hc pins s1 σ H1 vs us Q I1 r1 q1) he hpl
def Ef (hc:dP X (.type T) r) (hg:Gl X x) (hm:X.mg x=none) (hv:bootBuiltins x=some (.type T)) (ha:PA X (e :: es) t) (hn:x ≠ "__name__":=by decide) (hdb:(x == ("__debug__" : Str))=false:=by decide)
  (he:LV (e :: es) X.env=(false,eval e X.env) :: LV es X.env:=by rfl) (hpl:(backTo pos (LV es X.env)).any (·.1)=false:=by rfl):PE X (.Call (.Name x p) (e :: es) [] pos) (tCB r t):=by
 intro pins s σ H Q I h;refine Nv (jz I hg hm hv ?_ hn hdb);exact Ml (thn (ha pos pins s σ H _ I h) fun us s1 ⟨vs,H1,I1,r1,q1⟩=>hc pins s1 σ H1 vs us Q I1 r1 q1) he hpl
end
end L2
namespace HT
open PySem PyProof.Rows
section
open PySem.SeqAt
open PySem.AutoSeq1 (wpAny_loadPart')
open PySem.MeetsSeq PySem.MeetsSeq2 PySem.MeetsSeq3
end
section
variable {prog:Lp} {w:World} {A:LW} {E:Value->K5->Prop} {s:K5}
def sIx (n d:Nat):Option Int->Nat
 | none=>d
 | some v=>if v<0 then (v+(n:Int)).toNat else min v.toNat n
def Gp (n d:Nat):sIx n d none=d:=rfl
def IF (n d k:Nat):sIx n d (some (k:Int))=min k n:=by
 show (if (k:Int)<0 then ((k:Int)+(n:Int)).toNat else min (k:Int).toNat n)=min k n;rw [if_neg (by lia),OT]
end
end HT
namespace L2
open PySem PySem.Spec PyProof.Rows
abbrev TO:=St->Hp->(Option Int->Hp->Prop)->Prop
def PO (X:Cx) (e:Option Expr) (t:TO):Prop :=
 ∀ (pins:List (Addr×Obj)) (s:K5) (σ:St) (H:Hp) (Q:Option Int->Hp->Prop),Inv X pins σ H s->t σ H Q ->
  wpAny (model X.prog X.w) X.A (evalPart e X.env) (fun u s'=>∃ o H',Inv X pins σ H' s'/\IsPart u o/\Q o H') X.xe s
def Bn:TO:=fun _ H Q=>Q none H
def Hk (t:TE):TO:=fun σ H Q=>t σ H fun x H1=>∃ i,x=.int i/\Q (some i) H1
section
variable {X:Cx} {e:Expr} {te:TE} {lo hi:Option Expr} {tl th:TO} {pos p2:Pos}
def HJ:PO X none Bn:=by
 intro pins s σ H Q I h;rw [evalPart_none];exact LI ⟨none,H,I,.none,h⟩
def vO (h:PE X e te):PO X (some e) (Hk te):=by
 intro pins s σ H Q I hw;rw [evalPart_some];refine thn (h pins s σ H _ I hw) fun u s1 ⟨x,H1,I1,r1,q1⟩=>?_;obtain ⟨i,rfl,q⟩:=q1;obtain ⟨t,rfl⟩:=r1;exact ⟨some i,H1,I1,.int i t,q⟩
def SlR (X:Cx) (r:V->Option Int->Option Int->Hp->VK->Prop):Prop :=
 ∀ (pins:List (Addr×Obj)) (s:K5) (σ:St) (H:Hp) (x:V) (v vl vu:Value) (lo hi:Option Int) (sl:Addr) (Q:VK),Inv X pins σ H s->RelV x v->s.heap.IsSliceOf sl vl vu .none->IsPart vl lo->IsPart vu hi->r x lo hi H Q ->
  ∃ T id,typeLookup (.type T) "__getitem__" = pure (some (.builtin id))/\s.TypeIs v T/\wpAny (model X.prog X.w) X.A (getItem v (.ref sl)) (EP X pins σ Q) X.xe s
def tSl (r:V->Option Int->Option Int->Hp->VK->Prop) (te:TE) (tl th:TO):TE:=fun σ H Q=>te σ H fun x H1=>tl σ H1 fun l H2=>th σ H2 fun u H3=>r x l u H3 Q
def zm {r:V->Option Int->Option Int->Hp->VK->Prop} (hr:SlR X r) (he:PE X e te) (hl:PO X lo tl) (hu:PO X hi th):PE X (.Subscript e (.Slice lo hi none p2) pos) (tSl r te tl th):=by
 intro pins s σ H Q I h;refine Subscript_ (thn (he pins s σ H _ I h) fun v s1 ⟨x,H1,I1,r1,q1⟩=>?_);refine wpAny_Slice (thn (hl pins s1 σ H1 _ I1 q1) fun vl s2 ⟨l,H2,I2,pl,q2⟩=>thn (hu pins s2 σ H2 _ I2 q2) fun vu s3 ⟨u,H3,I3,pu,q3⟩=>?_);rw [evalPart_none];refine LI ?_;have I4:Inv X pins σ H3 { s3 with heap:=s3.heap.push { cls:=.type "slice",data:=.fields #[vl,vu,.none] } }:=I3.kept (t':=s3.toks) fun b ob q=>La _ q;obtain ⟨T,id,hT,ht,hg⟩:=hr pins { s3 with heap:=s3.heap.push { cls:=.type "slice",data:=.fields #[vl,vu,.none] } } σ H3 x v vl vu l u s3.heap.objs.size Q I4 r1 (Heap.IsSliceOf.new ..) pl pu q3;show wpAny (model X.prog X.w) X.A (subscriptTail e (.Slice lo hi none p2) v (.ref s3.heap.objs.size)) (EP X pins σ Q) X.xe { s3 with heap:=s3.heap.push { cls:=.type "slice",data:=.fields #[vl,vu,.none] } };exact tail_any (ops:=[.ref s3.heap.objs.size,v]) ht hT hg (by with_unfolding_all rfl)
def sM (xs:List V) (lo hi:Option Int):List V:=(xs.drop (HT.sIx xs.length 0 lo)).take (HT.sIx xs.length xs.length hi - HT.sIx xs.length 0 lo)
def A3 (xs:List V) (lo hi:Option Int):(sM xs lo hi).length<=xs.length:=by
 unfold sM;rw [Lh,Og];lia
end
def ixN (n:Nat) (i:Int):Option Nat:=if 0<=i then (if i<n then some i.toNat else none) else if -(n:Int)<=i then some (i+n).toNat else none
def atI {α:Type} (xs:List α) (i:Int):Option α:=(ixN xs.length i).bind fun j=>xs[j]?
def BN {n:Nat} {i:Int} {j:Nat} (h:ixN n i=some j):seqIndex? i n=some j/\j<n/\-(n:Int)<=i/\i<n:=by
 unfold ixN at h
 by_cases h0:0<=i
 ·rw [if_pos h0] at h
  by_cases h1:i<n
  ·rw [if_pos h1] at h;have e:i.toNat=j:=LG h;exact ⟨by rw [QJ h0 h1,e],by lia,by lia,h1⟩
  ·rw [if_neg h1] at h;cases h
 ·rw [if_neg h0] at h
  by_cases h1:-(n:Int)<=i
  ·rw [if_pos h1] at h;have e:(i+n).toNat=j:=LG h;exact ⟨by rw [Qz (by lia) h1,e],by lia,h1,by lia⟩
  ·rw [if_neg h1] at h;cases h
def Bp {α:Type} {xs:List α} {i:Int} {v:α} (h:atI xs i=some v):∃ j,seqIndex? i xs.length=some j/\xs[j]?=some v/\j<xs.length/\-(xs.length:Int)<=i/\i<xs.length:=by
 unfold atI at h;cases e:ixN xs.length i with
 | none=>rw [e] at h;cases h
 | some j =>
  rw [e] at h;obtain ⟨h1,h2,h3,h4⟩:=BN e;exact ⟨j,h1,h,h2,h3,h4⟩
def f7 {α:Type} {xs:List α} {j:Nat} {v:α} (h:xs[j]?=some v):atI xs (j:Int)=some v:=by
 have hj:j<xs.length:=(K0.mp h).1;have e:ixN xs.length (j:Int)=some j:=by
  unfold ixN;rw [if_pos (by lia),if_pos (by lia)];simp
 unfold atI;rw [e];exact h
def HK (b:Expr):Prop:=∀ o i,subscripted b false o i=operate [o,i] (getItem o i)
def IxR (X:Cx) (r:R2):Prop :=
 ∀ (value slice:Expr) (pins:List (Addr×Obj)) (s:K5) (σ:St) (H:Hp) (x y:V) (v u:Value) (Q:VK),Inv X pins σ H s->RelV x v->RelV y u->r x y H Q ->
  subscripted slice false v u=operate [v,u] (getItem v u)->wpAny (model X.prog X.w) X.A (subscriptTail value slice v u) (EP X pins σ Q) X.xe s
def MtR (X:Cx) (id:String) (r:V->List V->Hp->VK->Prop):Prop :=
 ∀ (pins:List (Addr×Obj)) (s:K5) (σ:St) (H:Hp) (x:V) (xs:List V) (v:Value) (us:List Value) (Q:VK),Inv X pins σ H s->RelV x v->Vals xs us->r x xs H Q ->
  wpAny (model X.prog X.w) X.A (call (.builtin id) (v :: us)) (EP X pins σ Q) X.xe s
section
variable {X:Cx} {a b:Expr} {ta tb:TE} {pos:Pos}
def ao {r:R2} (hr:IxR X r) (ha:PE X a ta) (hb:PE X b tb) (hs:HK b):PE X (.Subscript a b pos) (tOp r ta tb):=by
 intro pins s σ H Q I h;exact Subscript_ (FJ ha hb I h fun v u s2 x y H2 I2 rx ry q=>hr a b pins s2 σ H2 x y v u Q I2 rx ry q (hs _ _))
def pQ (K:KW):R2:=fun x y H Q=>∃ p xs i v,x=.ref p/\y=.int i/\SqL K H p xs/\atI xs i=some v/\Q v H
def Fe (K:KW):R2:=fun x y H Q=>∃ p xs i v,x=.ref p/\y=.int i/\SqT K H p xs/\atI xs i=some v/\Q v H
def HR:IxR X (pQ X.K):=by
 intro value slice pins s σ H x y v u Q I rx ry h hs;obtain ⟨p,xs,i,z,rfl,rfl,hq,he,q⟩:=h;cases rx;obtain ⟨t,rfl⟩:=ry;obtain ⟨its,r,pl,hz⟩:=I.list hq;obtain ⟨j,h1,h2,h3,h4,h5⟩:=Bp he;obtain ⟨w,ew,rw'⟩:=r.get h2;have hl:=r.length;have hn:=sR;have fin:EP X pins σ Q w s:=⟨z,H,I,rw',q⟩
 by_cases h0:0<=i
 ·have hj:i.toNat=j:=by
   rw [QJ h0 h5] at h1;exact LG h1
  exact item_listR pl.isList h0 (by lia) (by rw [hj];simpa using ew) fin hs
 ·have hj:(i+(its.toArray.size:Int)).toNat=j:=by
   rw [Qz (by lia) h4] at h1
   rw [Ly,<- hl];exact LG h1
  exact Pm (x:=w) pl.isList.typeIs slot_list_getitem.lookup
   (wpAny_getItem_list_neg (Q:=fun r s'=>r=w/\EP X pins σ Q r s') pl.isList (by lia) (by rw [Ly] <;> lia) (by lia) (by rw [hj];simpa using ew) ⟨rfl,fin⟩) hs
def Jl:IxR X (Fe X.K):=by
 intro value slice pins s σ H x y v u Q I rx ry h hs;obtain ⟨p,xs,i,z,rfl,rfl,hq,he,q⟩:=h;cases rx;obtain ⟨t,rfl⟩:=ry;obtain ⟨its,r,pl,hz⟩:=I.tuple hq;obtain ⟨j,h1,h2,h3,h4,h5⟩:=Bp he;obtain ⟨w,ew,rw'⟩:=r.get h2;have hl:=r.length;have hn:=sR;have fin:EP X pins σ Q w s:=⟨z,H,I,rw',q⟩;exact Pm (x:=w) pl.typeIs slot_tuple_getitem.lookup
  (getItem_tuple (j:=j) (Q:=fun r s'=>r=w/\EP X pins σ Q r s') pl (by lia) (by lia) (by rw [Ly,<- hl];exact h1) (by simpa using ew) ⟨rfl,fin⟩) hs
def Dk (its:List Value) (n j:Nat) (u:Value):P1 (·.setIfInBounds j u) { cls:=.type "list",data:=.seq its.toArray n }={ cls:=.type "list",data:=.seq (its.set j u).toArray n }:=by
 simp [P1]
def Inv.lst {pins:List (Addr×Obj)} {σ:St} {H:Hp} {s:K5} {p:Addr} {xs:List V} (I:Inv X pins σ H s) (h:H p=some (.lst xs)) :
  ∃ (its:List Value) (n:Nat),Vals xs its/\s.heap.get? p=some { cls:=.type "list",data:=.seq its.toArray n }/\xs.length<=LB:=by
 obtain ⟨z,its,n,r,e⟩:=I.hok p _ h;exact ⟨its,n,r,e,z⟩
def Inv.Jg {pins:List (Addr×Obj)} {σ:St} {H:Hp} {s:K5} {p:Addr} {xs ys:List V} {its its':List Value} {n n':Nat} {f:Obj->Obj} (I:Inv X pins σ H s) (h:H p=some (.lst xs))
  (ho:s.heap.get? p=some { cls:=.type "list",data:=.seq its.toArray n }) (hf:f { cls:=.type "list",data:=.seq its.toArray n }={ cls:=.type "list",data:=.seq its'.toArray n' }) (r:Vals ys its') (hz:ys.length<=LB) (t:Nat) :
  Inv X pins σ (upd H p (.lst ys)) { s with heap:=s.heap.update p f,toks:=t }:=by
 have e:(s.heap.update p f).get? p=some { cls:=.type "list",data:=.seq its'.toArray n' }:=by
  rw [Ob f ho (by rw [hf] <;> rfl),hf]
 refine I.write (x:=p) (e:=p) (by rw [h];trivial) (.inl rfl) (fun b u hb q=>(Mu _ _ (MX hb)).trans q) ⟨_,e⟩ ?_
 exact ⟨hz,its',n',r,e⟩
def G4:V->V->V->Hp->(Hp->Prop)->Prop:=fun o i v H Q=>∃ p xs k j,o=.ref p/\i=.int k/\H p=some (.lst xs)/\ixN xs.length k=some j/\Q (upd H p (.lst (xs.set j v)))
def set_list:Js X G4:=by
 intro pins s σ H o i v ov iv u Q I ro ri rv h;obtain ⟨p,xs,k,j,rfl,rfl,hp,hj,q⟩:=h;cases ro;obtain ⟨t,rfl⟩:=ri;obtain ⟨its,n,r,ho,hz⟩:=I.lst hp;obtain ⟨h1,h2,h3,h4⟩:=BN hj;have hl:=r.length;have hn:=sR;have I':Inv X pins σ (upd H p (.lst (xs.set j v))) { s with heap:=s.heap.update p (P1 (·.setIfInBounds j u)) } :=
  I.Jg hp ho (Dk its n j u) (r.set rv j) (by rw [NX];exact hz) s.toks
 by_cases h0:0<=k
 ·have hk:k.toNat=j:=by
   rw [QJ h0 h4] at h1;exact LG h1
  exact PySem.W.ki_setAt ho h0 (by lia) (by rw [Ly,<- hl];exact h4) (by rw [hk];exact ⟨_,I',q⟩)
 ·have hk:(k+(its.toArray.size:Int)).toNat=j:=by
   rw [Qz (by lia) h3] at h1
   rw [Ly,<- hl];exact LG h1
  exact PySem.W.ki_setBack ho (by lia) (by rw [Ly,<- hl];exact h3) (by lia) (by rw [hk];exact ⟨_,I',q⟩)
def Af (lo hi:Option Int) (n:Nat):(sliceBounds lo hi none n).1=((HT.sIx n 0 lo:Nat):Int)/\(sliceBounds lo hi none n).2.1=((HT.sIx n n hi:Nat):Int)/\(sliceBounds lo hi none n).2.2=1:=by
 refine ⟨?_,?_,rfl⟩
 ·cases lo with
  | none=>simp [sliceBounds,HT.sIx]
  | some i =>
   simp only [sliceBounds,HT.sIx,Option.getD_none,show (1:Int) > 0 by decide,if_true]
   by_cases h:i<0
   ·simp only [h,if_true] <;> lia
   ·simp only [h,if_false] <;> lia
 ·cases hi with
  | none=>simp [sliceBounds,HT.sIx]
  | some i =>
   simp only [sliceBounds,HT.sIx,Option.getD_none,show (1:Int) > 0 by decide,if_true]
   by_cases h:i<0
   ·simp only [h,if_true] <;> lia
   ·simp only [h,if_false] <;> lia
def xy (its:List Value) (lo hi:Option Int):slicePick its.toArray lo hi none=((its.drop (HT.sIx its.length 0 lo)).take (HT.sIx its.length its.length hi - HT.sIx its.length 0 lo)).toArray:=by
 obtain ⟨h1,h2,h3⟩:=Af lo hi its.toArray.size;unfold slicePick;rw [h1,h2,h3];simp only [sliceRange_one,pick_run,Ly] <;> rfl
def CF (K:KW):V->Option Int->Option Int->Hp->VK->Prop:=fun x lo hi H Q=>∃ a xs,x=.ref a/\SqL K H a xs/\∀ p,H p=none->Q (.ref p) (upd H p (.lst (sM xs lo hi)))
def Iq:SlR X (CF X.K):=by
 intro pins s σ H x v vl vu lo hi sl Q I rx hs pl pu h;obtain ⟨a,xs,rfl,hx,q⟩:=h;cases rx;obtain ⟨its,r,ht,hz⟩:=I.list hx;have hlen:=r.length;refine ⟨"list",_,slot_list_getitem.lookup,ht.isList.typeIs,?_⟩;refine wpAny_getItem_list_slice ht.isList hs pl pu .none (by simp) ?_ (by rw [Ly] <;> lia)
 rw [xy,<- hlen];refine ⟨.ref s.heap.objs.size,_,I.laid (t':=s.toks) (o:=.lst (sM xs lo hi)) (fun b ob q=>La _ q) (Lj _) ?_,rfl,q _ (I.hok.fresh (Lj _))⟩;exact ⟨L4 (A3 xs lo hi) hz,_,0,(r.drop (HT.sIx xs.length 0 lo)).take (HT.sIx xs.length xs.length hi - HT.sIx xs.length 0 lo),LQ _ rfl⟩
def kh:V->Bool
 | .non=>true
 | .bl _=>true
 | .int _=>true
 | .str _=>true
 | _=>false
def eqV:V->V->Bool
 | .non,.non=>true
 | .bl a,.bl b=>a == b
 | .bl a,.int b=>(if a then 1 else 0) == b
 | .int a,.bl b=>a == (if b then 1 else 0)
 | .int a,.int b=>a == b
 | .str a,.str b=>a == b
 | _,_=>false
def AD {A:LW} {s:K5} {y x:V} {u v:Value} (ry:RelV y u) (rx:RelV x v) (fy:kh y=true) (fx:kh x=true):Qt A s u v (eqV y x):=by
 cases y with
 | non =>
  cases ry;cases x with
  | non=>cases rx;exact PB _
  | bl b=>cases rx;exact SeqAt.EqAt.none_bool b
  | int b=>obtain ⟨t,rfl⟩:=rx;exact SeqAt.EqAt.none_int b t
  | str b=>obtain ⟨t,rfl⟩:=rx;exact SeqAt.EqAt.none_str b t
  | _=>exact absurd (show false=true from fx) Ls
 | bl a =>
  cases ry;cases x with
  | non=>cases rx;exact SeqAt.EqAt.bool_none a
  | bl b=>cases rx;exact SeqAt.EqAt.bool_bool a b
  | int b=>obtain ⟨t,rfl⟩:=rx;exact SeqAt.EqAt.bool_int a b t
  | str b=>obtain ⟨t,rfl⟩:=rx;exact SeqAt.EqAt.bool_str a b t
  | _=>exact absurd (show false=true from fx) Ls
 | int a =>
  obtain ⟨t',rfl⟩:=ry;cases x with
  | non=>cases rx;exact SeqAt.EqAt.int_none a t'
  | bl b=>cases rx;exact SeqAt.EqAt.int_bool a t' b
  | int b=>obtain ⟨t,rfl⟩:=rx;exact SeqAt.EqAt.int_int a t' b t
  | str b=>obtain ⟨t,rfl⟩:=rx;exact SeqAt.EqAt.int_str a t' b t
  | _=>exact absurd (show false=true from fx) Ls
 | str a =>
  obtain ⟨t',rfl⟩:=ry;cases x with
  | non=>cases rx;exact SeqAt.EqAt.str_none a t'
  | bl b=>cases rx;exact SeqAt.EqAt.str_bool a t' b
  | int b=>obtain ⟨t,rfl⟩:=rx;exact SeqAt.EqAt.str_int a t' b t
  | str b=>obtain ⟨t,rfl⟩:=rx;exact SeqAt.EqAt.str_str a t' b t
  | _=>exact absurd (show false=true from fx) Ls
 | _=>exact absurd (show false=true from fy) Ls
def eqU (x:V) (u:Value):Bool:=match u with
 | .none=>eqV .non x
 | .bool b=>eqV (.bl b) x
 | .int i _=>eqV (.int i) x
 | .str z _=>eqV (.str z) x
 | _=>false
def Ey {x y:V} {u:Value} (r:RelV y u) (f:kh y=true):eqU x u=eqV y x:=by
 cases y with
 | non=>cases r;rfl
 | bl b=>cases r;rfl
 | int i=>obtain ⟨t,rfl⟩:=r;rfl
 | str z=>obtain ⟨t,rfl⟩:=r;rfl
 | _=>exact absurd (show false=true from f) Ls
def mR {x:V}:∀ {xs:List V} {us:List Value},Vals xs us->xs.all kh=true->us.any (eqU x)=xs.any fun y=>eqV y x
 | _,_,.nil,_=>rfl
 | y :: xs,u :: us,.cons r t,f=>by
  rw [Pa,NQ] at f;rw [NY,NY,Ey r f.1,mR t f.2]
def kO {A:LW} {s:K5} {x:V} {v:Value} (rx:RelV x v) (fx:kh x=true):∀ {xs:List V} {us:List Value},Vals xs us->xs.all kh=true->∀ u∈us,Qt A s u v (eqU x u)
 | _,_,.nil,_=>fun u hu=>by cases hu
 | y :: xs,u :: us,.cons r t,f=>fun u' hu=>by
  rw [Pa,NQ] at f;rcases LL.mp hu with rfl|hu
  ·rw [Ey r f.1];exact AD r rx f.1 fx
  ·exact kO rx fx t f.2 u' hu
def inV (x:V) (xs:List V):Bool:=xs.any fun y=>eqV y x
def rIn (K:KW) (neg:Bool):R2:=fun x y H Q=>∃ p xs,y=.ref p/\(SqL K H p xs\/SqT K H p xs)/\kh x=true/\xs.all kh=true/\Q (.bl (if neg then !inV x xs else inV x xs)) H
def DU:OpR X (compareOp .In) (rIn X.K false):=by
 intro pins s σ H x y v u Q I rx ry h;obtain ⟨p,xs,rfl,hq,fx,fs,q⟩:=h;cases ry;rcases hq with hq|hq
 ·obtain ⟨its,r,pl,hz⟩:=I.list hq;refine SeqAt.in_listAt (eqU x) pl.isList (fun w hw=>kO rx fx r fs w (by simpa using hw)) ⟨.bl _,H,I,rfl,?_⟩
  rw [show its.toArray.any (eqU x)=its.any (eqU x) by simp,mR r fs]
  exact q
 ·obtain ⟨its,r,pl,hz⟩:=I.tuple hq;refine SeqAt.in_tupleAt (eqU x) pl (fun w hw=>kO rx fx r fs w (by simpa using hw)) ⟨.bl _,H,I,rfl,?_⟩
  rw [show its.toArray.any (eqU x)=its.any (eqU x) by simp,mR r fs]
  exact q
def zS:OpR X (compareOp .NotIn) (rIn X.K true):=by
 intro pins s σ H x y v u Q I rx ry h;obtain ⟨p,xs,rfl,hq,fx,fs,q⟩:=h;cases ry;rcases hq with hq|hq
 ·obtain ⟨its,r,pl,hz⟩:=I.list hq;refine SeqAt.notIn_listAt (eqU x) pl.isList (fun w hw=>kO rx fx r fs w (by simpa using hw)) ⟨.bl _,H,I,rfl,?_⟩
  rw [show its.toArray.any (eqU x)=its.any (eqU x) by simp,mR r fs]
  exact q
 ·obtain ⟨its,r,pl,hz⟩:=I.tuple hq;refine SeqAt.notIn_tupleAt (eqU x) pl (fun w hw=>kO rx fx r fs w (by simpa using hw)) ⟨.bl _,H,I,rfl,?_⟩
  rw [show its.toArray.any (eqU x)=its.any (eqU x) by simp,mR r fs]
  exact q
def zL:dP X (.builtin "len") (fun xs H Q=>∃ p ys,xs=[.ref p]/\(SqL X.K H p ys\/SqT X.K H p ys)/\Q (.int ys.length) H):=by
 intro pins s σ H xs us Q I r h;obtain ⟨p,ys,rfl,hq,q⟩:=h;obtain ⟨u,rfl,rx⟩:=vals1 r;cases rx;have hn:=sR;rcases hq with hq|hq
 ·obtain ⟨its,r',pl,hz⟩:=I.list hq;have hlen:=r'.length;exact Calls.call_len_list pl.isList (by simp only [Ly] <;> lia) ⟨.int ys.length,H,I.tok _,⟨s.toks+1,by rw [Ly,hlen]⟩,q⟩
 ·obtain ⟨its,r',pl,hz⟩:=I.tuple hq;have hlen:=r'.length;exact len_tuple pl (by simp only [Ly] <;> lia) ⟨.int ys.length,H,I.tok _,⟨s.toks+1,by rw [Ly,hlen]⟩,q⟩
def yH:dP X (.type "list") (fun xs H Q=>∃ p ys,xs=[.ref p]/\(SqL X.K H p ys\/SqT X.K H p ys)/\∀ l,H l=none->Q (.ref l) (upd H l (.lst ys))):=by
 intro pins s σ H xs us Q I r h;obtain ⟨p,ys,rfl,hq,q⟩:=h;obtain ⟨u,rfl,rx⟩:=vals1 r;cases rx;have fin:∀ (its:List Value),Vals ys its->ys.length<=LB->∀ (h':Heap) (c':Nat),(∀ b o',s.heap.get? b=some o'->h'.get? b=some o') ->
   h'.get? s.heap.objs.size=some { cls:=.type "list",dict:=none,data:=.seq its.toArray c',slots:=#[] }->EP X pins σ Q (.ref s.heap.objs.size) { s with heap:=h' }:=fun its r' hz h' c' kp e =>
  ⟨.ref s.heap.objs.size,_,I.laid (t':=s.toks) kp (Lj _) (show bX X.prog X.w _ h' _ (.lst ys) from ⟨hz,its,c',r',e⟩),rfl,q _ (I.hok.fresh (Lj _))⟩
 rcases hq with hq|hq
 ·obtain ⟨its,r',pl,hz⟩:=I.list hq;have hlen:=r'.length;obtain ⟨o,ho,hc,n,hd⟩:=pl.isList;exact call_list_seq p (.inl rfl) ho hc hd (fun h' c' kp e=>fin its r' hz h' c' kp e) (by simp only [Ly] <;> lia)
 ·obtain ⟨its,r',pl,hz⟩:=I.tuple hq;have hlen:=r'.length;obtain ⟨o,ho,hc,n,hd⟩:=pl;exact call_list_seq p (.inr rfl) ho hc hd (fun h' c' kp e=>fin its r' hz h' c' kp e) (by simp only [Ly] <;> lia)
def tyV (K:KW) (T:String) (x:V) (H:Hp):Prop:=match x with
 | .str _=>T = "str"
 | .int _=>T = "int"
 | .ref p=>(T = "list" /\ ∃ xs,SqL K H p xs)\/(T = "tuple" /\ ∃ o,K.lookup p=some o/\o.cls=.type "tuple" /\ o.dict=none) \/
   (T = "dict" /\ ((∃ kvs,H p=some (.dK kvs))\/∃ kvs,H p=some (.dT kvs)))\/(T = "set" /\ ∃ S n,H p=some (.set S n))
 | _=>False
def JA {pins:List (Addr×Obj)} {σ:St} {H:Hp} {s:K5} {T:String} {x:V} {v:Value} (I:Inv X pins σ H s) (r:RelV x v) (ty:tyV X.K T x H) :
  s.TypeIs v T/\∀ a,v=.ref a->∃ ob,s.heap.get? a=some ob/\ob.dict=none:=by
 cases x with
 | str z =>
  obtain ⟨t,rfl⟩:=r;cases (show T = "str" from ty);exact ⟨typeIs_str s z t,fun _ e=>nomatch e⟩
 | int i =>
  obtain ⟨t,rfl⟩:=r;cases (show T = "int" from ty);exact ⟨typeIs_int s i t,fun _ e=>nomatch e⟩
 | ref p =>
  cases r;rcases ty with ⟨rfl,xs,hq⟩|⟨rfl,o,hk,hc,hd⟩|⟨rfl,hk⟩|⟨rfl,S,n,hk⟩
  ·obtain ⟨its,_,pl,_⟩:=I.list hq;refine ⟨pl.isList.typeIs,fun a e=>?_⟩;cases e;obtain ⟨o,n,e,c,hd,_⟩:=pl;exact ⟨o,e,hd⟩
  ·refine ⟨⟨o,I.kIn p o hk,hc⟩,fun a e=>?_⟩;cases e;exact ⟨o,I.kIn _ o hk,hd⟩
  ·have z:∃ o,s.heap.get? p=some o/\o.ExactDict:=by
    rcases hk with ⟨kvs,hk⟩|⟨kvs,hk⟩
    ·obtain ⟨_,_,_,_,o,_,_,e,ex,_⟩:=I.hok p _ hk;exact ⟨o,e,ex⟩
    ·obtain ⟨_,_,_,_,o,_,_,e,ex,_⟩:=I.hok p _ hk;exact ⟨o,e,ex⟩
   obtain ⟨o,e,ex⟩:=z;refine ⟨⟨o,e,ex.1⟩,fun a e2=>?_⟩;cases e2;exact ⟨o,e,ex.2.1⟩
  ·obtain ⟨o,_,_,_,e,ex,_⟩:=I.hok p _ hk;refine ⟨⟨o,e,ex.1⟩,fun a e2=>?_⟩;cases e2;exact ⟨o,e,ex.2.1⟩
 | _=>exact Mf ty
def tBM (K:KW) (T:String) (r:V->List V->Hp->VK->Prop) (to:TE) (t:TA):TE:=fun σ H Q=>to σ H fun x H1=>tyV K T x H1/\t σ H1 fun xs H2=>r x xs H2 Q
variable {o e:Expr} {es:List Expr} {to:TE} {t:TA} {name:Str} {apos cpos:Pos} {T id:String} {r:V->List V->Hp->VK->Prop}
def Ks (pa:PlainAttrs T) (slot:Slot T name id) (hty:typeOf (.builtin id)=pure (.type "method_descriptor")) (hm:MtR X id r) (ho:PE X o to) (ha:PA X (e :: es) t)
  (hbase:attributeBase o name X.env (eval o X.env)=eval o X.env:=by rfl)
  (hfew:((backTo cpos (LV (e :: es) X.env)).all (fun x=>!x.1) && (backToKw cpos (keywordEach [] X.env)).all (fun x=>x.1.isSome)
   && decide ((e :: es).length+([]:List Py).length+(if ([]:List Py).isEmpty then 0 else 1)<30))=true:=by rfl)
  (hline:(apos.endLine == cpos.line)=true:=by rfl) (hs:LV (e :: es) X.env=(false,eval e X.env) :: LV es X.env:=by rfl) (hplain:(backTo cpos (LV es X.env)).any (·.1)=false:=by rfl) :
  PE X (.Call (.Attribute o name apos) (e :: es) [] cpos) (tBM X.K T r to t):=by
 intro pins s σ H Q I h;refine wpAny_Call_method_late hbase hfew hline rfl (thn (ho pins s σ H _ I h) fun v s1 ⟨x,H1,I1,r1,ty,q1⟩=>?_);obtain ⟨h1,h2⟩:=JA I1 r1 ty;refine ⟨T,id,pa,slot,hty,h1,h2,?_⟩;have hA:=ha cpos pins s1 σ H1 _ I1 q1;rw [hs] at hA ⊢;refine Calls.callWith_builtin (by show (false || (backTo cpos (LV es X.env)).any (·.1))=false;rw [hplain] <;> rfl) (P4 ?_)
 exact thn hA fun us s2 ⟨vs,H2,I2,r2,q2⟩=>hm pins s2 σ H2 x vs v us Q I2 r1 r2 q2
/- xs.append(e),list.index on a module's tuple .. are MtR facts of 06m -/
end
def MtM (X:Cx) (id:String) (r:V->List V->Hp->VK->Prop):Prop :=
 ∀ (pins:List (Addr×Obj)) (s:K5) (σ:St) (H:Hp) (x:V) (xs:List V) (v:Value) (us:List Value) (Q:VK),Inv X pins σ H s->RelV x v->Vals xs us->r x xs H Q ->
  wpAny (model X.prog X.w) X.A (call (.builtin id) (v :: us)) (EP X pins σ Q) X.xe s
def Vals.one {x:V} {us:List Value} (h:Vals [x] us):∃ u,us=[u]/\RelV x u:=by
 cases h with
 | cons r t=>cases t;exact ⟨_,rfl,r⟩
def Vals.two {x y:V} {us:List Value} (h:Vals [x,y] us):∃ u v,us=[u,v]/\RelV x u/\RelV y v:=by
 cases h with
 | cons r t =>
  cases t with
  | cons q e=>cases e;exact ⟨_,_,rfl,r,q⟩
def Vals.rep {xs:List V} {us:List Value} (h:Vals xs us):∀ k:Nat,Vals (Ll k xs).flatten (Ll k us).flatten
 | 0=>.nil
 | k+1=>by
  rw [MI,MI,NL,NL];exact Vals.append h (Vals.rep h k)
def foldl_rep (its:List Value):∀ (k:Nat) (acc:List Value),
  List.foldl (fun x1 x2=>x1++x2) acc.toArray (Ll k its.toArray)=(acc++(Ll k its).flatten).toArray
 | 0,acc=>by simp
 | k+1,acc=>by
  have e:acc.toArray++its.toArray=(acc++its).toArray:=by simp
  have e2:(acc++its)++(Ll k its).flatten=acc++(Ll (k+1) its).flatten:=by
   rw [MI,NL,OU]
  rw [<- e2,<- foldl_rep its k (acc++its),<- e,MI,List.foldl_cons]
section
variable {X:Cx} {pins:List (Addr×Obj)} {σ:St} {H:Hp} {s:K5} {l b:Addr} {xs ys zs:List V}
def Inv.GL {its its':List Value} {n:Nat} {f:Array Value->Array Value} {t':Nat} (I:Inv X pins σ H s) (hH:H l=some (.lst xs))
  (e:s.heap.get? l=some { cls:=.type "list",data:=.seq its.toArray n }) (hf:f its.toArray=its'.toArray) (hv:Vals ys its') (hz:ys.length<=LB) :
  Inv X pins σ (upd H l (.lst ys)) { s with heap:=s.heap.update l (P1 f),toks:=t' }:=by
 have q:=PySem.IsL.update e f;rw [hf] at q;refine I.write (x:=l) (e:=l) (by rw [hH];exact trivial) (.inl rfl) (fun b' u hb hu=>(Mu s.heap (P1 f) (MX hb)).trans hu) ⟨_,q⟩ ?_
 exact ⟨hz,its',_,hv,q⟩
def Inv.IZ {its:List Value} {t':Nat} (I:Inv X pins σ H s) (hv:Vals ys its) (hz:ys.length<=LB) :
  Inv X pins σ (upd H s.heap.objs.size (.lst ys)) { s with heap:=s.heap.push { cls:=.type "list",data:=.seq its.toArray },toks:=t' } :=
 I.laid (fun _ _ q=>La _ q) (Lj _) ⟨hz,its,0,hv,LQ _ rfl⟩
def Inv.fresh (I:Inv X pins σ H s):H s.heap.objs.size=none:=I.hok.fresh (Lj _)
def Inv.pU (I:Inv X pins σ H s) (hH:H l=some (.lst xs)):xs.length<=LB/\∃ (its:List Value) (n:Nat),Vals xs its/\xs.length=its.length/\s.heap.get? l=some { cls:=.type "list",data:=.seq its.toArray n }:=by
 obtain ⟨z,its,n,r,e⟩:=I.hok l _ hH;exact ⟨z,its,n,r,r.length,e⟩
def yU {n:Nat} (h:n<=LB):Ng n=false:=by
 unfold Ng;exact decide_eq_false (by lia)
end
section
variable {X:Cx}
def vA:V->List V->Hp->VK->Prop:=fun x vs H Q=>∃ l xs y,x=.ref l/\vs=[y]/\H l=some (.lst xs)/\xs.length<LB/\Q .non (upd H l (.lst (xs++[y])))
def bF:MtM X "list.append" vA:=by
 intro pins s σ H x vs v us Q I rx rv h;obtain ⟨l,xs,y,rfl,rfl,hH,hz,q⟩:=h;cases rx;obtain ⟨u,rfl,ru⟩:=rv.one;obtain ⟨z,its,n,r,hl,e⟩:=I.pU hH;refine Oo F.slot_list_append ⟨_,e,rfl⟩ F.entry_list_append (F.args_list_append_2 _ _) (PySem.list_append l its.toArray n u (by rw [Ly];lia)) ⟨e,?_⟩
 refine ⟨.non,_,I.GL (its':=its++[u]) hH e (by simp) (r.append (.cons ru .nil)) ?_,rfl,q⟩
 rw [Lg,List.length_singleton];lia
def HQ:V->List V->Hp->VK->Prop:=fun x vs H Q=>∃ l b xs zs,x=.ref l/\vs=[.ref b]/\H l=some (.lst xs)/\H b=some (.lst zs)/\xs.length+zs.length<=LB/\Q .non (upd H l (.lst (xs++zs)))
def DW:MtM X "list.extend" HQ:=by
 intro pins s σ H x vs v us Q I rx rv h;obtain ⟨l,b,xs,zs,rfl,rfl,hH,hB,hz,q⟩:=h;cases rx;obtain ⟨u,rfl,ru⟩:=rv.one;cases ru;obtain ⟨z,its,n,r,hl,e⟩:=I.pU hH;obtain ⟨z2,its2,n2,r2,hl2,e2⟩:=I.pU hB;have hsz:its.toArray.size+its2.toArray.size<=LB:=by rw [Ly,Ly];lia
 have hlong:¬ (!its.toArray.isEmpty && Ng (its.toArray.size+its2.toArray.size))=true:=by
  rw [yU hsz,Bool.and_false];exact Ls
 refine Oo F.slot_list_extend ⟨_,e,rfl⟩ F.entry_list_extend (F.args_list_extend_2 _ _)
  (AutoSeq1.list_extend_list_list_0 l its.toArray n b its2.toArray n2 hlong (by rw [Ly];lia) (by lia)) ⟨e,e2,?_⟩
 refine ⟨.non,_,I.GL (its':=its++its2) hH e (by simp) (r.append r2) ?_,rfl,q⟩
 rw [Lg];lia
def Jc:R2:=fun x y H Q=>∃ l b xs zs,x=.ref l/\y=.ref b/\H l=some (.lst xs)/\H b=some (.lst zs)/\xs.length+zs.length<=LB/\∀ p,H p=none->Q (.ref p) (upd H p (.lst (xs++zs)))
def zi:OpR X (binaryOp .Add) Jc:=by
 intro pins s σ H x y v u Q I rx ry h;obtain ⟨l,b,xs,zs,rfl,rfl,hH,hB,hz,q⟩:=h;cases rx;cases ry;obtain ⟨z,its,n,r,hl,e⟩:=I.pU hH;obtain ⟨z2,its2,n2,r2,hl2,e2⟩:=I.pU hB;refine PySem.P.add_list e e2 ?_ (by rw [Ly,Ly];lia)
 have ea:its.toArray++its2.toArray=(its++its2).toArray:=by simp
 rw [ea];exact ⟨.ref _,_,I.IZ (t':=s.toks) (r.append r2) (by rw [Lg];lia),rfl,q _ I.fresh⟩
def Ky:R2:=fun x y H Q=>∃ l k xs,x=.ref l/\y=.int k/\H l=some (.lst xs)/\-(2 ^ 63)<=k/\k<2 ^ 63/\xs.length * k.toNat<=LB /\
 ∀ p,H p=none->Q (.ref p) (upd H p (.lst (Ll k.toNat xs).flatten))
def len_rep {α:Type} (xs:List α) (k:Nat):(Ll k xs).flatten.length=k * xs.length:=by
 induction k with
 | zero=>simp
 | succ k ih=>rw [MI,NL,Lg,ih,MU,M6]
def zO:OpR X (binaryOp .Mult) Ky:=by
 intro pins s σ H x y v u Q I rx ry h;obtain ⟨l,k,xs,rfl,rfl,hH,h1,h2,hz,q⟩:=h;cases rx;obtain ⟨t,rfl⟩:=ry;obtain ⟨z,its,n,r,hl,e⟩:=I.pU hH;have hlen:its.toArray.size * k.toNat<=LB:=by rw [Ly,<- hl];exact hz
 have hcap:¬ its.toArray.size * k.toNat > (2 ^ 63 - 1) / 8:=by
  have:(LB:Nat)<=(2 ^ 63 - 1) / 8:=by decide
  lia
 have hfit:¬ (!Builtin.List.listFitsIndex k)=true:=by
  rw [fitsIndex_both h1 h2];exact Ls
 have hlong:¬ Ng (its.toArray.size * k.toNat)=true:=by
  rw [yU hlen];exact Ls
 have hnew:List.foldl (fun x1 x2=>x1++x2) #[] (Ll (if its.toArray.isEmpty=true then 0 else k.toNat) its.toArray)=(Ll k.toNat its).flatten.toArray:=by
  have f0:∀ m:Nat,List.foldl (fun x1 x2=>x1++x2) #[] (Ll m its.toArray)=(Ll m its).flatten.toArray:=fun m=>by
   have:=foldl_rep its m [];rw [List.nil_append] at this;exact this
  rw [f0];cases its with
  | nil=>simp
  | cons a r'=>rw [if_neg (by simp)]
 refine wpAny_binaryOp_repeat_ref (T:="list") (U:="int") (by decide) ⟨_,e,rfl⟩ (fun s'=>typeIs_int s' k t) noFill_list_mul F.fills_int_mul F.slot_int_rmul repeat_list F.slot_int_index.lookup
  (Oo F.slot_int_rmul (typeIs_int s k t) F.entry_int_rmul (F.args_int_rmul_2 _ _) (int___rmul___int_list k t l its.toArray n)
   ⟨e,rfl,⟨_,e,rfl⟩,Oo F.slot_list_mul ⟨_,e,rfl⟩ F.entry_list_mul (F.args_list_mul_2 _ _) (AutoListH.list___mul___list_int_3 l its.toArray n k t hfit hcap hlong) ⟨e,?_⟩⟩)
 rw [hnew];exact ⟨.ref _,_,I.IZ (t':=s.toks) (r.rep k.toNat) (by rw [len_rep,M7];exact hz),rfl,q _ I.fresh⟩
end
section
variable {prog:Lp} {w:World} {A:LW} {E:Value->K5->Prop} {s:K5}
end
section
variable {X:Cx}
end
end L2
namespace Att
open PySem PySem.W PySem.Calls PyProof.Rows
def uK {P:Params} {h:Heap}:∀ (ns:List Int) (vs:List Value),WellAll P h vs (ns.map WData.int)->Qu vs ns:=by
 intro ns
 induction ns with
 | nil =>
  intro vs w;rw [QC] at w;cases w;exact .nil
 | cons n ns ih =>
  intro vs w;rw [LY] at w;cases w with
  | cons a b =>
   cases a;exact .cons _ _ (ih _ b)
def Ep {l:OpenLaw} {n:Nat} (hn:l.most=some n) {P:Params} {h:Heap} {args:List WData} {vals:List Value}
  (hpre:l.row.toRowW.claim.pre args=true) (hwl:WellAll P h vals args) :
  ∃ a vs ns,vals=[LF a]/\args=[WData.list (ns.map WData.int)]/\h.get? a=some { cls:=.type "list",data:=.seq vs.toArray }/\Qu vs ns/\ns.length<=n:=by
 have hsh:WShape.hasAll [] args [.list .int]=true:=(pre_splitW hpre).1;have hc:l.pre.holds [] { args:=args }=true:=(pre_splitW hpre).2;obtain ⟨d,r,rfl,h1,h2⟩:=hasAllW_cons hsh;obtain rfl:=hasAllW_nil h2;obtain ⟨xs,rfl,h3⟩:=hasW_list h1;obtain ⟨ns,rfl⟩:=items_int h3;have hlen:ns.length<=n:=by
  unfold OpenLaw.pre at hc;have h4:(WTm.not (.lt (.lit (.int (n:Int))) (.len (.arg 0)))).holds [] { args:=[.list (ns.map .int)] }=true:=by
   have h4:=(holds_andW hc).1;rw [hn] at h4;exact h4
  have h5:=condW_of h4 (w_not (w_lt w_lit (w_len_list (w_arg rfl))));rw [KY] at h5;refine Nat.le_of_not_lt fun q=>?_;have q':(n:Int)<((ns.length:Nat):Int):=by lia
  first
   | (rw [decide_eq_true q'] at h5;exact absurd h5 (by decide))
   | (simp at h5;lia)
 cases hwl with
 | cons w1 w2 =>
  cases w2;cases w1 with
  | list ho hall=>exact ⟨_,_,ns,rfl,rfl,ho,uK ns _ hall,hlen⟩
def DA (l:OpenLaw) (args:List WData):l.row.toRowW.claim.post args (.bool true) args=true :=
 postW_of (r:=l.row.toRowW) (X:=(true == true))
  (show WShape.has [] (.bool true) .bool=true by first|rfl|decide|simp [WShape.has,WShape.arms,WShape.armsAll])
  (show (WTm.eq .res (.lit (.bool true))).value [] { args:=args,res:=some (.bool true),after:=args }=some (.bool (true == true)) from w_eq_bool (w_res rfl) w_lit) rfl
def Bd {l:OpenLaw} {n:Nat} {q:Lp} {loose:List Str} {XP:(Str->Option Value)->Heap->Prop} {YP:World->Heap->Prop} {d:DefRec}
  (hn:l.most=some n) (hdf:d.params.defaults=[])
  (call:∀ (w:World) (s₀ s₁:K5) (mg mb:Str->Option Value) (fa:Addr) (o:Obj) (pm cd doc:Value) (a:Addr) (vs:List Value) (ns:List Int),
   Ground q loose [] XP w s₀ mg mb s₁.heap->YP w s₁.heap ->
   s₁.heap.get? fa=some o->o.data=.func (docDef d.name d.params d.body d.scope pm cd doc)->s₁.heap.CodeRec cd d.name->mg d.name=some (.ref fa) ->
   s₁.heap.get? a=some { cls:=.type "list",data:=.seq vs.toArray }->Qu vs ns->ns.length<=n->s₁.gens=#[] ->
   codeAny (model l.prog w) callerA (.call (.ref fa) ⟨[.ref a],[]⟩) (fun r s'=>r=.ok (.ret (.bool true))/\OldK s₁.heap s'.heap/\s'.os=s₁.os/\O6 s'.gens) s₁) :
  WalkO q loose XP YP l.row.toRowW d [] (fun f vs=>PySem.call f vs):=by
 intro w s₀ s₁ mg mb G Y fa o pm cd doc dV kV ho hd hcd hD hmg hg args vals as hpre hlay hrd hwl hlo;obtain rfl:dV=.none:=Dflts.none hD hdf;obtain rfl:kV=.none:=Dflts.noKw hD;obtain ⟨a,vs,ns,rfl,rfl,hobj,hints,hlen⟩:=Ep hn hpre hwl;refine enter_call (Oa (call w s₀ s₁ mg mb fa o pm cd doc a vs ns G Y ho (fd_plain hd) hcd hmg hobj hints hlen hg) fun r s' hq=>?_);obtain ⟨rfl,h2,h3,h4⟩:=hq;exact ⟨.inl ⟨.bool true,.bool true,[],rfl,fun _=>rfl,.bool true,DA l _,fun _=>⟨List.Pairwise.nil,fun _ hm=>(nomatch hm)⟩⟩,h2,h3,h4⟩
section
variable {prog:Lp} {w:World} {A:LW} {E:Value->K5->Prop} {s:K5} {K:Frag}
end
end Att
namespace L2
open PySem PySem.Spec PyProof.Rows
def wC:∀ {vs:List Value} {ns:List Int},Qu vs ns->Vals (ns.map V.int) vs
 | _,_,.nil=>.nil
 | _,_,.cons n t h=>.cons ⟨t,rfl⟩ (wC h)
def E6 (H:Hp):Prop:=∀ b,H b=none\/∃ o xs,H b=some (.frz o (.lst xs))
def Fz {P:Lp} {w:World} {K:KW} {mg mb:Str->Option Value} {CX:CXT} {k:Nat} {fa a:Addr} {fd:LZ} {x:Str} {sp:Sp} {s₁:K5} {vs:List Value} {ns:List Int}
  (KX:K.In s₁.heap) (hns:s₁.heap.Ns L1 mg) (hb:s₁.heap.Ns builtinsNs mb) (hbb:∀ x:Str,x ≠ "__name__" -> mb x=bootBuiltins x) (hlim:s₁.heap.NoLimit) (hg:s₁.gens=#[])
  (ha:s₁.heap.get? a=some { cls:=.type "list",data:=.seq vs.toArray }) (hi:Qu vs ns) (hl:ns.length<=LB) (hr:b6 k callerA)
  (F:∀ base:Heap,K.In base->base.Ns L1 mg->aJ P w K mg base CX k fa fd [x] sp) (hbind:∀ (s:K5) (u:Value),OM s fd ⟨[u],[]⟩ [(x,u)])
  (hsp:∀ H:Hp,E6 H->SqL K H a (ns.map V.int)->sp [.ref a] H (fun v _=>v=.bl true) fun _ _ _=>False)
  (hCX:∀ H e s',CX [] H s₁ (fun _ _ _=>False) e s'->False) :
  codeAny (model P w) callerA (.call (.ref fa) ⟨[.ref a],[]⟩) (fun r s'=>r=.ok (.ret (.bool true))/\OldK s₁.heap s'.heap/\s'.os=s₁.os/\O6 s'.gens) s₁:=by
 have rv:=wC hi;have lenV:=hi.length;have core:∀ H:Hp,E6 H->SqL K H a (ns.map V.int)->HOk P w H s₁.heap->(∀ b,H b≠none->b=a)->(H a≠none->K.lookup a=none) ->
   codeAny (model P w) callerA (.call (.ref fa) ⟨[.ref a],[]⟩) (fun r s'=>r=.ok (.ret (.bool true))/\OldK s₁.heap s'.heap/\s'.os=s₁.os/\O6 s'.gens) s₁:=by
  intro H hO hS hok hA hK;have base_of:∀ {b:Addr} {o:Obj},s₁.heap.get? b=some o->H b=none->(og s₁.heap H).get? b=some o:=fun e n=>GD e n;have noA:∀ {b:Addr} {o:Obj} {es:Array DictEntry} {ep:Nat},s₁.heap.get? b=some o->o.data=.dict es ep->H b=none:=fun {b o es ep} e d=>by
   cases q:H b with
   | none=>rfl
   | some u =>
    have e':b=a:=hA b (by rw [q];simp)
    subst e';rw [ha] at e;cases e;have d':Data.seq vs.toArray _=Data.dict es ep:=d;cases d'
  have nsK:∀ {b:Addr} {m:Str->Option Value},s₁.heap.Ns b m->(og s₁.heap H).Ns b m:=fun {b m} ⟨o,es,ep,e,d,r⟩=>⟨o,es,ep,base_of e (noA e d),d,r⟩;have hKb:K.In (og s₁.heap H):=fun b o e=>base_of (KX b o e) (by
   cases q:H b with
   | none=>rfl
   | some u =>
    have e':b=a:=hA b (by rw [q];simp)
    subst e';rw [hK (by rw [q];simp)] at e;cases e)
  have hM:Mod K mg (og s₁.heap H):=⟨hKb,nsK hns,⟨mb,nsK hb,hbb⟩,let ⟨mc,h1,h2⟩:=hlim;⟨mc,nsK h1,h2⟩⟩;have e0:r9 P w K mg (og s₁.heap H) callerA [] s₁ H:=⟨rfl,hM,fun b o e=>Iz e,Px (EA _ _),trivial,fun b hb=>absurd (show b∈([]:List Addr) from hb) (by simp),hok,.of_eq hg⟩
  refine Oa ((F _ hKb (nsK hns)).run callerA [] s₁ H ⟨[.ref a],[]⟩ [.ref a] [.ref a] _ _ hr e0 (hbind s₁ (.ref a)) (.cons rfl .nil) (hsp H hO hS)) fun r s' h=>?_;cases r with
  | error e=>exact (hCX H e s' h).elim
  | ok fl =>
   cases fl with
   | next=>exact Mf h
   | brk=>exact Mf h
   | cont=>exact Mf h
   | ret u =>
    obtain ⟨v,H',os,bare,un,hok',r',q⟩:=h;have q':v=.bl true:=q;subst q';obtain rfl:u=P0 true:=r';refine ⟨rfl,OldK.of_keep fun b o e=>?_,os,bare⟩;cases q:H b with
    | none=>exact un.keep b o e q (by intro z;exact absurd (show b∈([]:List Addr) from z) (by simp)) (by simp)
    | some u =>
     rcases hO b with z|⟨ob,xs,z⟩
     ·rw [q] at z;cases z
     ·have z2:=un.ij b ob _ z;obtain ⟨e1,_⟩:=hok b _ z;obtain ⟨e2,_⟩:=hok' b _ z2;rw [e] at e1;cases e1;exact e2
 cases hk:K.lookup a with
 | some o =>
  have e:=KX a o hk;rw [ha] at e;cases e;refine core (fun _=>none) (fun _=>.inl rfl) (.inr ⟨_,vs.toArray,_,hk,rfl,rfl,rfl,by rw [Ly,lenV];exact hl,by simpa using rv⟩) (fun b u z=>by have z':(none:Option HO)=some u:=z;cases z') (fun b z=>absurd rfl z) fun z=>absurd rfl z
 | none =>
  refine core (fun b=>if b=a then some (.frz { cls:=.type "list",data:=.seq vs.toArray } (.lst (ns.map V.int))) else none) (fun b=>?_) (.inl (.inr ⟨{ cls:=.type "list",data:=.seq vs.toArray },if_pos rfl⟩)) (fun b u z=>?_) (fun b z=>?_) fun _=>hk
  ·by_cases hb:b=a
   ·exact .inr ⟨_,_,if_pos hb⟩
   ·exact .inl (if_neg hb)
  ·by_cases hb:b=a
   ·have z':=(if_pos hb).symm.trans z;cases z';subst hb;exact ⟨ha,by rw [KY];exact hl,vs,_,rv,ha⟩
   ·have z':=(if_neg hb).symm.trans z;cases z'
  ·by_cases hb:b=a
   ·exact hb
   ·exact absurd (if_neg hb) z
def Io {l:PD} {n k:Nat} {q:Lp} {loose:List Str} {XP:(Str->Option Value)->Heap->Prop} {YP:World->Heap->Prop} {d:DefRec} {K:Params->KW} {CX:World->CXT} {sp:World->Sp} {x:Str}
  (hn:l.most=some n) (hn2:n<=LB) (hdf:d.params.defaults=[]) (hr:b6 k callerA)
  (hY:∀ (w:World) (h:Heap),YP w h->(K w.params).In h)
  (F:∀ (w:World) (mg:Str->Option Value) (fa:Addr) (h:Heap),(K w.params).In h->h.Ns L1 mg->mg d.name=some (.ref fa) ->
   ∃ fd:LZ,(∀ (s:K5) (u:Value),OM s fd ⟨[u],[]⟩ [(x,u)]) /\
    ∀ base:Heap,(K w.params).In base->base.Ns L1 mg->aJ l.prog w (K w.params) mg base (CX w) k fa fd [x] (sp w))
  (hsp:∀ (w:World) (H:Hp) (a:Addr) (ns:List Int),ns.length<=n->E6 H->SqL (K w.params) H a (ns.map V.int)->sp w [.ref a] H (fun v _=>v=.bl true) fun _ _ _=>False)
  (hCX:∀ (w:World) (H:Hp) (s:K5) (e:Value) (s':K5),CX w [] H s (fun _ _ _=>False) e s'->False) :
  PySem.W.WalkO q loose XP YP l.row.toRowW d [] (fun f vs=>PySem.call f vs):=by
 refine Att.Bd hn hdf fun w s₀ s₁ mg mb fa o pm cd doc a vs ns G Y ho hd hcd hmg hobj hints hlen hg=>?_;have KX:=hY w _ Y;obtain ⟨fd,hb,hF⟩:=F w mg fa _ KX G.T.g hmg;exact Fz KX G.T.g G.T.b G.T.builtins G.T.nolimit hg hobj hints (L4 hlen hn2) hr hF hb (fun H hO hS=>hsp w H a ns hlen hO hS) fun H e s'=>hCX w H s₁ e s'
def inClass (s:Stmt) (j:Nat):Stmt:=match s with
 | .ClassDef _ _ _ body _ _ _ _ _ _ _=>body.getD j (.Pass ⟨0,0,0,0⟩)
 | _=>.Pass ⟨0,0,0,0⟩
def bO (s:Stmt):Arguments:=match s with
 | .FunctionDef _ a _ _ _ _ _ _ _ _=>a
 | _=>{ posonlyargs:=[],args:=[],vararg:=none,kwonlyargs:=[],kw_defaults:=[],kwarg:=none,defaults:=[] }
def bw (s:Stmt):List Stmt:=match s with
 | .FunctionDef _ _ b _ _ _ _ _ _ _=>b
 | _=>[]
def ah (s:Stmt):Scope:=match s with
 | .FunctionDef _ _ _ _ _ _ sc _ _ _=>sc
 | _=>{ kind:=.function,names:=[],isGenerator:=false,isCoroutine:=false }
abbrev CX0:CXT:=fun _ _ _ _ _ _=>False
abbrev E0:XK:=fun _ _ _=>False
def l6 {X:Cx}:Passes CX0 X E0:=fun _ _ _ _ _ _ _ h=>h.elim
structure Fun (K:KW) (x qual:Str) (st:Stmt) (f:Addr) (fd:LZ):Prop where
 ex:∃ (oc:Value) (od:Option Addr) (kV doc pm:Value) (an:Option Addr) (cdv ct:Value) (osl:Array (Option Value)),
  fd=LU x qual (bO st) (bw st) (ah st) .none kV doc pm an cdv ct/\K.lookup f=some ⟨oc,od,.func fd,osl⟩/\Mm K cdv qual=true
 kp:L0 K (.ref f)=true
section
variable {P:Lp} {w:World} {K:KW} {mg:Str->Option Value} {base:Heap}
def Fun.ok {x qual:Str} {st:Stmt} {f:Addr} {fd:LZ} {N ps:List Str} {k:Nat} {sp:Sp} (F:Fun K x qual st f fd) (S:az N ps (ah st)) (len:∀ vs H Q E,sp vs H Q E->vs.length=ps.length)
  (hbody:∀ (cdv:Value) (A:LW) (outer:List Env) (s:K5) (H:Hp) (vs:List V) (Q:VK) (E:XK),b6 k (A.deeper (envOfC qual (ah st) s.heap.objs.size f cdv))->sp vs H Q E ->
   ∃ t,PSs (i9 CX0 P w K mg base N qual (ah st) f cdv A outer s H E).nox (bw st) t/\t { nx:=fun _ H'=>Q .non H',rt:=Q } (start N vs) H):aJ P w K mg base CX0 (k+1) f fd ps sp:=by
 obtain ⟨oc,od,kV,doc,pm,an,cdv,ct,osl,rfl,lk,hcd⟩:=F.ex;refine CH lk hcd S len fun A outer s H vs Q E hr hsp=>?_;obtain ⟨t,h,q⟩:=hbody cdv A outer s H vs Q E hr hsp;exact ⟨t,h.nox,q⟩
def mS {x qual:Str} {st:Stmt} {f:Addr} {oc:Value} {od an:Option Addr} {osl:Array (Option Value)} {kV doc pm cdv ct:Value} (l:K.lookup f=some ⟨oc,od,.func (LU x qual (bO st) (bw st) (ah st) .none kV doc pm an cdv ct),osl⟩)
  (c:Mm K cdv qual=true) (k:L0 K (.ref f)=true):Fun K x qual st f (LU x qual (bO st) (bw st) (ah st) .none kV doc pm an cdv ct):=⟨⟨oc,od,kV,doc,pm,an,cdv,ct,osl,rfl,l,c⟩,k⟩
end
def js {A:LW} {k:Nat} (hr:b6 k A):A.units+1<cLine:=LO (Nat.add_le_add_left (by decide:1<=64) _) hr.units
def D6 {n:Nat} (h:n<=1000):n<LB:=LO h (by decide)
section
variable {X:Cx}
def pv (i:Nat) {x:Str} {pos:Pos} (hN:X.N[i]?=some x:=by rfl) (hv:Vis X.env.scope x:=by first|exact K6 rfl|exact Ni (K6 rfl)|exact Ni (Ni rfl)) (hd:(x == ("__debug__" : Str))=false:=by decide)
  (hcd:(x == ("__classdict__" : Str))=false:=by decide):PE X (.Name x pos) (o9 i):=Jb hN hv hd hcd
end
def fJ {A B:Prop} (h:B):if false=true then A else B:=by
 rw [if_neg Ls];exact h
def pB {A B:Prop} (h:A):if true=true then A else B:=by
 rw [if_pos rfl];exact h
def ai (H H':Hp):Prop:=∀ b o,H b=some o->H' b=some o
def ai.refl (H:Hp):ai H H:=fun _ _ h=>h
def ai.trans {H H1 H2:Hp} (a:ai H H1) (b:ai H1 H2):ai H H2:=fun c o h=>b c o (a c o h)
def ai.free {H H':Hp} (e:ai H H') {l:Addr} (h:H' l=Option.none):H l=Option.none:=by
 cases q:H l with
 | none=>rfl
 | some o =>
  rw [e l o q] at h;cases h
def ai.seq {K:KW} {H H':Hp} {a:Addr} {xs:List V} (e:ai H H') (h:SqL K H a xs):SqL K H' a xs:=by
 rcases h with (h|⟨o,h⟩)|h
 ·exact .inl (.inl (e _ _ h))
 ·exact .inl (.inr ⟨o,e _ _ h⟩)
 ·exact .inr h
def dO (env:Env):List (Str×NK)->List (Str×Addr)->List (Str×Addr)
 | [],acc=>acc
 | (n,k) :: r,acc=>dO env r (if k == .free then (n,(env.cells.lookup n).getD 0) :: acc else acc)
def yL (env:Env):∀ (l:List (Str×NK)) (acc:List (Str×Addr)),(∀ x∈l,x.2=.free->∃ c,env.cells.lookup x.1=some c) ->
  (forIn l acc (fun x r=>if (x.snd == Mq)=true then (do let c <- cellOf env x.fst;pure (NB ((x.fst,c) :: r))) else pure (NB r)):Sem (List (Str×Addr)))=pure (dO env l acc)
 | [],acc,_=>rfl
 | (n,k) :: r,acc,h=>by
  rw [PF];have ih:=yL env r;unfold dO
  by_cases hk:(k == Mq)=true
  ·obtain ⟨c,hc⟩:=h (n,k) Le (by simpa using hk)
   have e:cellOf env n=pure c:=by unfold cellOf;rw [hc]
   have hc':env.cells.lookup n=some c:=hc;dsimp only;rw [if_pos hk,if_pos hk,e,hc'];exact ih _ fun x hx=>h x (K8 _ hx)
  ·dsimp only;rw [if_neg hk,if_neg hk];exact ih _ fun x hx=>h x (K8 _ hx)
def uY {scope:Scope} {env:Env} (h:∀ x∈scope.names,x.2=.free->∃ c,env.cells.lookup x.1=some c):closureFor scope env=pure (dO env scope.names []):=by
 simp only [closureFor];rw [yL env scope.names [] h];rfl
def rL {env:Env}:∀ (l:List (Str×NK)) (acc:List (Str×Addr)),(∀ x∈l,x.2=.free->∃ c,env.cells.lookup x.1=some c)->(∀ x c,acc.lookup x=some c->env.cells.lookup x=some c) ->
  ∀ x c,(dO env l acc).lookup x=some c->env.cells.lookup x=some c
 | [],acc,_,ha=>ha
 | (n,k) :: r,acc,h,ha=>by
  unfold dO;refine rL r _ (fun x hx=>h x (K8 _ hx)) fun x c e=>?_
  by_cases hk:(k == Mq)=true
  ·rw [if_pos hk] at e;obtain ⟨c',hc⟩:=h (n,k) Le (by simpa using hk)
   have hc':env.cells.lookup n=some c':=hc;rw [Md] at e
   split at e
   ·rename_i q
    have q':x=n:=by simpa using q
    subst q';rw [hc'] at e ⊢
    simpa using e
   ·exact ha x c e
  ·rw [if_neg hk] at e;exact ha x c e
def wD {env:Env}:∀ (l:List (Str×NK)) (acc:List (Str×Addr)) (x:Str),(∃ c,acc.lookup x=some c)->∃ c,(dO env l acc).lookup x=some c
 | [],_,_,h=>h
 | (n,k) :: r,acc,x,h=>by
  unfold dO;refine wD r _ x ?_
  by_cases hk:(k == Mq)=true
  ·rw [if_pos hk,Md]
   split
   ·exact ⟨_,rfl⟩
   ·exact h
  ·rw [if_neg hk];exact h
def lM {env:Env}:∀ (l:List (Str×NK)) (acc:List (Str×Addr)) (x:Str),(x,Mq)∈l->∃ c,(dO env l acc).lookup x=some c
 | (n,k) :: r,acc,x,h=>by
  unfold dO;rcases LL.mp h with e|h
  ·cases e;refine wD r _ _ ?_;rw [if_pos (by rfl),Md]
   simp
  ·exact lM r _ x h
def lA {env:Env}:∀ {names:List (Str×NK)} {x:Str},names.lookup x=some .free ->
  (names.map fun (n,k)=>if (k == Mq && env.scope.kind == .function && env.kindOf n == some .cell) then (n,Mr) else (n,k)).lookup x=some .cell \/
  (names.map fun (n,k)=>if (k == Mq && env.scope.kind == .function && env.kindOf n == some .cell) then (n,Mr) else (n,k)).lookup x=some .free
 | [],_,h=>by simp at h
 | (n,k) :: r,x,h=>by
  rw [LY]
  by_cases hx:(x == n)=true
  ·rw [Md,hx] at h;dsimp only at h ⊢;cases h
   split
   ·rw [Md,hx];exact .inl rfl
   ·rw [Md,hx];exact .inr rfl
  ·have hx':(x == n)=false:=by simpa using hx
   rw [Md,hx'] at h;have ih:=lA (env:=env) (names:=r) (x:=x) h;dsimp only at h ⊢
   split
   ·rw [Md,hx'];exact ih
   ·rw [Md,hx'];exact ih
def jZ {env:Env}:∀ {names:List (Str×NK)} {x:Str},
  ((names.map fun (n,k)=>if (k == Mq && env.scope.kind == .function && env.kindOf n == some .cell) then (n,Mr) else (n,k)).lookup x=some .cell \/
  (names.map fun (n,k)=>if (k == Mq && env.scope.kind == .function && env.kindOf n == some .cell) then (n,Mr) else (n,k)).lookup x=some .free) ->
  (x,Mq)∈names\/(x,Mr)∈names
 | [],_,h=>by simp at h
 | (n,k) :: r,x,h=>by
  rw [LY] at h
  by_cases hx:(x == n)=true
  ·have q':x=n:=by simpa using hx
   dsimp only at h
   split at h
   ·rename_i hc
    have:k=Mq:=by
     cases k <;> simp_all
    subst this q';exact .inl Le
   ·rw [Md,hx] at h;dsimp only at h;subst q';rcases h with h|h
    ·cases h;exact .inr Le
    ·cases h;exact .inl Le
  ·have hx':(x == n)=false:=by simpa using hx
   have ih:=jZ (env:=env) (names:=r) (x:=x);dsimp only at h
   split at h
   ·rw [Md,hx'] at h;exact (ih h).elim (fun z=>.inl (K8 _ z)) fun z=>.inr (K8 _ z)
   ·rw [Md,hx'] at h;exact (ih h).elim (fun z=>.inl (K8 _ z)) fun z=>.inr (K8 _ z)
def fF (own:List Str) (fr:List Nat) (N:List Str):List Str:=own++fr.map fun i=>(N[i]?).getD ("" : Str)
def bB (own:List Str) (fr:List Nat) (σ:St):St:=own.map (fun _=>none)++fr.map fun i=>(σ[i]?).join
def cY (X:Cx) (scope:Scope) (own:List Str) (fr:List Nat) (C:Addr) (s₂:K5) (H₂:Hp) (fp:List Addr):Cx :=
 { X with N:=fF own fr X.N,s₀:=s₂,H₀:=H₂,env:=compEnvC scope (dO X.env scope.names []) C X.env,outer:=X.stack,ex:=fp,fn:=fun _=>false,pn:=[],xe:=fun _ _=>False }
structure aU (sc:Scope) (N:List Str) (scope:Scope) (own:List Str) (fr:List Nat):Prop where
 kind:scope.kind=.function
 DP:∀ y∈scope.names,y.2≠.cell
 names:∀ y∈scope.names,y.2=.local->scope.names.lookup y.1=some .local
 free:∀ y∈scope.names,y.2=.free->sc.names.lookup y.1=some .cell\/sc.names.lookup y.1=some .free
 fr0:∀ i∈fr,(N[i]?.bind fun x=>scope.names.lookup x)=some .free
 nd:(fF own fr N).Nodup
def aU.fr {sc:Scope} {N:List Str} {scope:Scope} {own:List Str} {fr:List Nat} (S:aU sc N scope own fr):∀ i∈fr,∃ x,N[i]?=some x/\scope.names.lookup x=some .free:=fun i hi=>by
 have q:=S.fr0 i hi;cases e:N[i]? with
 | none=>rw [e] at q;cases q
 | some x=>rw [e] at q;exact ⟨x,rfl,q⟩
section
variable {X:Cx} {scope:Scope} {own:List Str} {fr:List Nat} {pins:List (Addr×Obj)} {σ:St} {H₂:Hp} {s₂:K5} {fp:List Addr} {C D:Addr} {h₁:Heap} {m:Str->Option Value} {tk:Nat}
def aU.cells (S:aU X.env.scope X.N scope own fr) (ok:X.Ok):∀ x∈scope.names,x.2=.free->∃ c,X.env.cells.lookup x.1=some c:=fun x hx hf=>ok.has x.1 (S.free x hx hf)
def t7 {i:Nat} {v:V} (h:(bB own fr σ)[i]?=some (some v)):∃ j,own.length<=i/\fr[i - own.length]?=some j/\σ[j]?=some (some v):=by
 unfold bB at h
 by_cases hi:i<own.length
 ·rw [Lq (by simpa using hi),K4] at h
  cases e:own[i]? with
  | none=>rw [e] at h;cases h
  | some a=>rw [e] at h;cases h
 ·rw [Lr (by simpa using hi),K4,KY] at h
  cases e:fr[i - own.length]? with
  | none=>rw [e] at h;cases h
  | some j =>
   rw [e] at h;refine ⟨j,by lia,rfl,?_⟩
   have h':(σ[j]?).join=some v:=by simpa using h
   cases q:σ[j]? with
   | none=>rw [q] at h';cases h'
   | some o=>rw [q] at h';exact congrArg some h'
def F9 (S:aU X.env.scope X.N scope own fr) (I:Inv X pins σ H₂ s₂) (f2:∀ b∈fp,hX X pins H₂ b) (fo:∀ b∈fp,b<s₂.heap.objs.size)
  (hC:s₂.heap.objs.size<=C) (hD:s₂.heap.objs.size<=D) (hDC:D≠C) (old:∀ b o,s₂.heap.get? b=some o->h₁.get? b=some o) (hns:h₁.Ns C m) (new:∃ n,h₁.get? D=some { cls:=.type "list",data:=.seq #[] n }) :
  Inv (cY X scope own fr C s₂ H₂ fp) [] (bB own fr σ) (upd H₂ D (.lst [])) { s₂ with heap:=h₁,toks:=tk }:=by
 have hk:=S.cells I.ok;have sub:=rL (env:=X.env) scope.names [] hk (fun x c e=>by cases e)
 have fl:∀ x c,(dO X.env scope.names []).lookup x=some c->∃ v,s₂.heap.IsCell c v:=fun x c e=>I.cell x c (sub x c e);have okX:(cY X scope own fr C s₂ H₂ fp).Ok:=by
  refine ⟨I.ok.mod,S.kind,I.ok.glob,I.ok.blt,hC,fun x y c e1 e2=>I.ok.inj x y c (sub x c e1) (sub y c e2),fun x hx=>?_,fun x c hf=>absurd hf (by intro z;cases z),I.ok.hd,I.ok.frames,.inl rfl,fun b hb=>⟨?_,fun x c e z=>?_⟩,
   I.bs,L4 I.ok.bsz I.sz,fun b o e hb=>?_,fun b hb=>?_,I.stack,I.vP⟩
  ·rcases jZ hx with z|z
   ·exact lM _ _ _ z
   ·exact absurd rfl (S.DP _ z)
  ·exact Lz (Lm (fo b hb) hC)
  ·exact (f2 b hb).2.2.2.2.1 x c (sub x c e) z
  ·obtain ⟨_,_,_,f3,_⟩:=f2 b hb;rcases f3 with z|z
   ·exact I.ok.sG b o e z
   ·exact absurd (Lm (Li (I.ok.bs b o e).1) z) (Mp _)
  ·obtain ⟨_,f1,f2',_⟩:=f2 b hb;intro z;rcases LL.mp (I.pA b z) with q|q
   ·exact f1 q
   ·exact f2' q
 have frH:∀ a,s₂.heap.objs.size<=a->H₂ a=none:=fun a h=>I.hok.fresh h;refine ⟨okX,rfl,I.bare,Un.laid old hD (frH D hD),⟨m,hns,fun i x v e1 e2 e3=>?_⟩,fun x c e=>?_,?_,fun x c e=>?_,fun p hp=>absurd (show p∈([]:List (Addr×Obj)) from hp) (by simp),I.hok.laid old hD ?_,?_⟩
 ·obtain ⟨j,hi,hj,hv⟩:=t7 e2;have hx:X.N[j]?=some x:=by
   obtain ⟨y,hy,_⟩:=S.fr j (K1 hj);have e1':(fF own fr X.N)[i]?=some x:=e1;unfold fF at e1';rw [Lr hi,K4,hj] at e1';have e1'':(X.N[j]?).getD ("" : Str)=x:=by simpa using e1'
   rw [hy] at e1'' ⊢;exact congrArg some e1''
  obtain ⟨y,hy,hfree⟩:=S.fr j (K1 hj);rw [hx] at hy;cases hy;have hkind:X.env.kindOf x=some .cell\/X.env.kindOf x=some .free:=S.free _ (LX hfree) rfl;obtain ⟨mo,hno,hlo⟩:=I.loc;obtain ⟨u,r,l⟩:=hlo j x v hx hv (hkind.elim (fun z=>.inr (.inl z)) fun z=>.inr (.inr z));refine ⟨u,r,.inr ⟨lA hfree,?_⟩⟩;obtain ⟨c,hc⟩:=lM (env:=X.env) scope.names [] x (LX hfree);refine ⟨c,hc,?_⟩;have hc':=sub x c hc;rcases l with ⟨k,_⟩|⟨_,c',e,o,z1,z2⟩
  ·rcases hkind with z|z
   ·rw [k] at z;cases z
   ·rw [k] at z;cases z
  ·rw [hc'] at e;cases e;exact ⟨o,old _ _ z1,z2⟩
 ·obtain ⟨v,o,z1,z2⟩:=fl x c e;exact ⟨v,o,old _ _ z1,z2⟩
 ·show (upd H₂ D (.lst [])) C=none;rw [av (MX hDC)];exact frH C hC
 ·obtain ⟨v,o,z1,z2⟩:=fl x c e;rw [av (Lz (Lm (Li z1) hD))];exact I.fH x c (sub x c e)
 ·obtain ⟨n,e⟩:=new;exact ⟨Mb _,[],n,.nil,e⟩
 ·show (bB own fr σ).length=(fF own fr X.N).length;simp [bB,fF]
end
def PIf (X:Cx) (ifs:List Expr) (t:TT):Prop :=
 ∀ (pins:List (Addr×Obj)) (s:K5) (σ:St) (H:Hp) (Q:Bool->Hp->Prop),Inv X pins σ H s->t σ H Q ->
  wpAny (model X.prog X.w) X.A (forIn ifs true fun c r=>if r=true then (do let ok <- isTrue c X.env (eval c X.env);pure (NB ok)) else pure (NB r)) (TP X pins σ Q) X.xe s
def sL:TT:=fun _ H Q=>Q true H
def aX {X:Cx}:PIf X [] sL:=fun _ _ _ H _ I h=>wpAny_tests_nil ⟨H,I,h⟩
def qc {X:Cx} {c:Expr} {t:TT} (h:PT X c t):PIf X [c] t:=fun pins s σ H Q I hw=>wpAny_tests_one (h pins s σ H Q I hw)
section
variable {prog:Lp} {w:World} {A:LW} {R:Qo->K5->Prop} {s:K5}
def xh {elt target iter:Expr} {ifs:List Expr} {scope:Scope} {pos:Pos} {it acc:Value} {env:Env} (J:Nat->K5->Prop)
  (turn:∀ n s,J n s->wpAny (model prog w) A (pyNext it) (fun r s₁=>match r with
   | none=>R (.ok .next) s₁
   | some v=>wpAny (model prog w) A (letOwnedTupleGo target it v) (fun _ s₂=>wpAny (model prog w) A (assign target env v) (fun _ s₃ =>
     wpAny (model prog w) A (forIn ifs true fun c r=>if r=true then (do let ok <- isTrue c env (eval c env);pure (NB ok)) else pure (NB r)) (fun ok s₄ =>
      if ok=true then wpAny (model prog w) A (eval elt env) (fun x s₅=>wpAny (model prog w) A (call (.builtin "list.append") [acc,x]) (fun _ s₆=>∃ m,m<n/\J m s₆) (fun _ _=>False) s₅) (fun _ _=>False) s₄
      else ∃ m,m<n/\J m s₄) (fun _ _=>False) s₃) (fun _ _=>False) s₂) (fun _ _=>False) s₁) (fun _ _=>False) s)
  (n:Nat) (h:J n s):codeAny (model prog w) A (.compLoop (.ListComp elt [⟨target,iter,ifs,0⟩] scope pos) 0 it acc env) R s:=by
 refine codeAny_loop rfl J (fun n s hJ=>?_) n h;show wpAny _ A ((compTurn (.ListComp elt [⟨target,iter,ifs,0⟩] scope pos) 0 it acc env).onRaise (fun x=>(do noteFrame x env;theTreesLotGoes x))) _ _ s;have nf:∀ {x:Value} {s':K5},False->notedBy (model prog w) A env (fun e s'=>R (.error e) s') x s':=fun z=>z.elim;refine wpAny_noted ?_;rw [compTurn_list];refine K9 (O7 (K9 (Mj (turn n s hJ) (fun r s₁ h₁=>?_) fun _ _ z=>nf z)));cases r with
 | none=>exact LI h₁
 | some v =>
  refine K9 (Mj h₁ (fun _ s₂ h₂=>?_) fun _ _ z=>nf z);refine K9 (Mj h₂ (fun _ s₃ h₃=>?_) fun _ _ z=>nf z);refine K9 (Mj h₃ (fun ok s₄ h₄=>?_) fun _ _ z=>nf z);cases ok with
  | false=>exact LI ⟨rfl,h₄⟩
  | true =>
   refine K9 (K9 (Mj h₄ (fun x s₅ h₅=>?_) fun _ _ z=>nf z));exact K9 (Mj h₅ (fun _ s₆ h₆=>LI (LI ⟨rfl,h₆⟩)) fun _ _ z=>nf z)
end
def qz (own:List Str) (fr:List Nat) (wi:TI) (g:TG) (tt:TT) (te:TE):TE:=fun σ H Q=>wi σ H fun J H1=>∀ D,H1 D=none ->
 ∃ W:Nat->Nat->St->Hp->Prop,(∃ m,W 0 m (bB own fr σ) (upd H1 D (.lst [])))/\∀ i m σ' H',W i m σ' H' ->
  (J.stop i H'/\Q (.ref D) H')\/(J.go i H'/\∀ x H2,J.yld i H' x H2->g x σ' H2 fun σ2 H3=>tt σ2 H3 fun ok H4 =>
   if ok=true then te σ2 H4 fun y H5=>∃ ys,H5 D=some (.lst ys)/\ys.length<LB/\∃ m',m' < m/\W (i+1) m' σ2 (upd H5 D (.lst (ys++[y]))) else ∃ m',m' < m/\W (i+1) m' σ2 H4)
section
variable {X:Cx} {elt tg iter:Expr} {ifs:List Expr} {scope:Scope} {pos:Pos} {own:List Str} {fr:List Nat} {wi:TI} {g:TG} {tt:TT} {te:TE}
def wV {pins:List (Addr×Obj)} {s:K5} {σ:St} {H:Hp} {Q:VK} {RR:Value->Addr->Qo->K5->Prop} (hc:X.calm=true) (S:aU X.env.scope X.N scope own fr) (hi:PI X tg iter wi)
  (hb:∀ C s₂ H₂ fp,PG (cY X scope own fr C s₂ H₂ fp) tg g/\PIf (cY X scope own fr C s₂ H₂ fp) ifs tt/\PE (cY X scope own fr C s₂ H₂ fp) elt te)
  (I:Inv X pins σ H s) (h:qz own fr wi g tt te σ H Q)
  (hRR:∀ D C s' H' m',Inv X pins σ H' s'->Q (.ref D) H'->hX X pins H' C->s'.heap.Ns C m'->RR (.ref D) C (.ok .next) s') :
  wpAny (model X.prog X.w) X.A (eval iter X.env) (fun v s₁=>wpAny (model X.prog X.w) X.A (pyIter v) (fun it s₂=>wpAny (model X.prog X.w) X.A (newList []) (fun acc s₃ =>
   wpAny (model X.prog X.w) X.A (newFunctionEnv scope X.env.globals (dO X.env scope.names []) [] X.env.qual none .none (some X.env)) (fun cenv s₄ =>
    codeAny (model X.prog X.w) X.A (.compStart (.ListComp elt [⟨tg,iter,ifs,0⟩] scope pos) 0 it acc { cenv with scope:=relabel scope X.env }) (RR acc cenv.locals) s₄) X.xe s₃) X.xe s₂) X.xe s₁) X.xe s:=by
 refine thn (hi pins s σ H _ I h) fun v s1 h1=>thn h1 fun itv s2 h2=>?_;obtain ⟨it,fp,tn,J,H2,e,I2,T,st2,f2,hq⟩:=h2;subst e;refine N4 (wpAny_newFunctionEnv S.DP (by intro y hy;simp at hy) (fun h₁ hns₁ hsb₁=>?_) S.kind)
 dsimp only at hns₁ hsb₁ ⊢;have hD:=I2.hok.fresh (Lj s2.heap.objs.size);obtain ⟨W,⟨m0,w0⟩,turn⟩:=hq s2.heap.objs.size hD;generalize hH2:s2.heap.push { cls:=.type "list",dict:=none,data:=.seq ([]:List Value).toArray }=G at hns₁ hsb₁ ⊢;have hG:G.objs.size=s2.heap.objs.size+1:=by rw [<- hH2,Nt]
 have hDC:s2.heap.objs.size≠G.objs.size:=by rw [hG];exact Lz (Np _)
 have hC:s2.heap.objs.size<=G.objs.size:=by rw [hG];exact NS _
 have old:∀ b o,s2.heap.get? b=some o->h₁.get? b=some o:=fun b o e =>
  hsb₁.extBut b o (by rw [hG];exact Lz (OV (Li e))) (La _ (hH2 ▸ La _ e))
 have new:h₁.get? s2.heap.objs.size=some { cls:=.type "list",data:=.seq #[] 0 }:=hsb₁.extBut _ _ hDC (La _ (hH2 ▸ LQ _ rfl));have fo:∀ b∈fp,b<s2.heap.objs.size:=fun b hb'=>let ⟨o,e,_⟩:=T.obj 0 _ st2 b hb';Li e;have I4:Inv (cY X scope own fr G.objs.size s2 H2 fp) [] (bB own fr σ) (upd H2 s2.heap.objs.size (.lst [])) { s2 with heap:=h₁,toks:=s2.toks+([]:List (Str×Value)).length } :=
  F9 S I2 f2 fo hC (Lj _) hDC old hns₁ ⟨_,new⟩
 obtain ⟨hg,ht,he⟩:=hb G.objs.size s2 H2 fp;have fpX:∀ {H':Hp},(∀ b∈fp,H' b=none)->∀ b∈fp,hX (cY X scope own fr G.objs.size s2 H2 fp) [] H' b:=fun {H'} hn b hb'=>by
  refine ⟨hn b hb',Lz (Lm (fo b hb') hC),I4.ok.ph b hb',.inl hb',(I4.ok.exf b hb').2,fun p hp=>absurd (show p∈([]:List (Addr×Obj)) from hp) (by simp)⟩
 have fr0:∀ b∈fp,(upd H2 s2.heap.objs.size (.lst [])) b=none:=fun b hb'=>by
  rw [av (Lz (fo b hb'))];exact (f2 b hb').1
 have tn0:tn 0 h₁:=T.keep _ _ _ st2 fun b hb' o e=>old b o e;have loop:codeAny (model X.prog X.w) X.A (.compLoop (.ListComp elt [⟨tg,iter,ifs,0⟩] scope pos) 0 (.ref it) (.ref s2.heap.objs.size) (compEnvC scope (dO X.env scope.names []) G.objs.size X.env))
   (RR (.ref s2.heap.objs.size) G.objs.size) { s2 with heap:=h₁,toks:=s2.toks+([]:List (Str×Value)).length }:=by
  refine xh (fun n s'=>∃ i σ' H',Inv (cY X scope own fr G.objs.size s2 H2 fp) [] σ' H' s'/\tn i s'.heap/\(∀ b∈fp,H' b=none)/\W i n σ' H') ?_ m0 ⟨0,_,_,I4,tn0,fr0,w0⟩;rintro n s3 ⟨i,σ3,H3,I3,st3,fr3,w3⟩;have nfp:∀ {H':Hp} {s':K5} {σ':St} {pl:List (Addr×Obj)},Inv (cY X scope own fr G.objs.size s2 H2 fp) pl σ' H' s'->pl=jx fp s'.heap->True:=fun _ _=>trivial;rcases turn i n σ3 H3 w3 with ⟨stop,qn⟩|⟨go,step⟩
  ·refine thn (T.done (cY X scope own fr G.objs.size s2 H2 fp) rfl rfl rfl hc i [] s3 σ3 H3 (fun _ _=>False) I3 (fpX fr3) st3 stop) fun r s4 ⟨hr,I5⟩=>?_;subst hr;have IX:Inv X pins σ H3 s4:=I2.BQ (ch:=fp) I5.os I5.base I5.hok I5.bare fun b hb'=>let ⟨_,f1,_,f3,f4,f5⟩:=f2 b hb';⟨f3,f1,f4,f5⟩;obtain ⟨m',hn',_⟩:=I5.loc;exact hRR _ _ _ _ m' IX qn (I2.sI hC I5.free) hn'
  ·refine thn (T.item (cY X scope own fr G.objs.size s2 H2 fp) rfl rfl rfl hc i [] s3 σ3 H3 (fun _ _=>False) I3 (fpX fr3) st3 go) fun r s4 ⟨u,hr,h4⟩=>?_;subst hr;refine thn h4 fun _ s5 ⟨x,H5,I5,r5,y5,st5,fr5⟩=>?_;have I5':=I5.pinned (fpX fr5) (T.obj _ _ st5);refine thn (hg _ s5 σ3 H5 x u _ I5' r5 (step x H5 y5)) fun _ s6 ⟨σ6,H6,I6,q6⟩=>?_;have again:∀ {s7:K5} {σ7:St} {H7:Hp} {m':Nat},Inv (cY X scope own fr G.objs.size s2 H2 fp) ([]++jx fp s5.heap) σ7 H7 s7->m' < n->W (i+1) m' σ7 H7 ->
     ∃ m,m<n/\∃ i σ' H',Inv (cY X scope own fr G.objs.size s2 H2 fp) [] σ' H' s7/\tn i s7.heap/\(∀ b∈fp,H' b=none)/\W i m σ' H':=fun {s7 σ7 H7 m'} I7 hm w7=>by
    refine ⟨m',hm,i+1,σ7,H7,I7.lT,T.keep _ _ _ st5 fun b hb' o e=>(I7.pin (b,o) (LM _ (LM _ (gn hb' e)))).1,fun b hb'=>?_,w7⟩;obtain ⟨o,e,d⟩:=T.obj _ _ st5 b hb';exact (I7.pin (b,o) (LM _ (LM _ (gn hb' e)))).2.1
   refine thn (ht _ s6 σ6 H6 _ I6 q6) fun ok s7 ⟨H7,I7,q7⟩=>?_;cases ok with
   | false =>
    rw [if_neg Ls] at q7 ⊢;obtain ⟨m',hm,w7⟩:=q7;exact again I7 hm w7
   | true =>
    rw [if_pos rfl] at q7 ⊢;refine thn (he _ s7 σ6 H7 _ I7 q7) fun y s8 ⟨yv,H8,I8,r8,q8⟩=>?_;obtain ⟨ys,hy,hl,m',hm,w8⟩:=q8;refine thn (bF _ s8 σ6 H8 (.ref s2.heap.objs.size) [yv] _ [y] (fun _ H9=>H9=upd H8 s2.heap.objs.size (.lst (ys++[yv]))) I8 rfl (.cons r8 .nil) ⟨_,ys,yv,rfl,rfl,hy,hl,rfl⟩) fun _ s9 ⟨_,H9,I9,_,e9⟩=>?_;subst e9;exact again I9 hm w8
 exact Pn loop (T.self X.A 0 _ _ _ tn0 loop)
def bu (hc:X.calm=true) (S:aU X.env.scope X.N scope own fr) (hi:PI X tg iter wi)
  (hb:∀ C s₂ H₂ fp,PG (cY X scope own fr C s₂ H₂ fp) tg g/\PIf (cY X scope own fr C s₂ H₂ fp) ifs tt/\PE (cY X scope own fr C s₂ H₂ fp) elt te)
  (hs:∀ x,foldedSetIterable iter X.env x=pure x:=by intro _;rfl):PE X (.ListComp elt [⟨tg,iter,ifs,0⟩] scope pos) (qz own fr wi g tt te):=by
 intro pins s σ H Q I h;rw [eval_ListComp];refine NT (use:=none) rfl hs (uY (S.cells I.ok)) S.kind S.names ?_;refine wV (RR:=fun acc C=>compPost (model X.prog X.w) X.A X.xe none (EP X pins σ Q) acc C) hc S hi hb I h ?_;intro D C s' H' m' I' q f hn;obtain ⟨f0,f1,f2,f3,f4,f5⟩:=f;exact ⟨m',hn,fun h' sb=>⟨.ref D,H',I'.turned (t':=s'.toks) (fun b o hb e=>(sb.2 b hb).trans e) f0 f1 f3 f4 f5,rfl,q⟩⟩
def bV {i:Nat} {y:Str} {py iS:Pos} (hc:X.calm=true) (hN:X.N.Nodup) (hi':X.N[i]?=some y) (hy:Loc X.env.scope y) (S:aU X.env.scope X.N scope own fr) (hi:PI X tg iter wi)
  (hb:∀ C s₂ H₂ fp,PG (cY X scope own fr C s₂ H₂ fp) tg g/\PIf (cY X scope own fr C s₂ H₂ fp) ifs tt/\PE (cY X scope own fr C s₂ H₂ fp) elt te)
  (hsw:swapsWith (.ListComp elt [⟨tg,iter,ifs,0⟩] scope pos) (some (.Name y py)) iS.line X.env=pure true)
  (hs:∀ x,foldedSetIterable iter X.env x=pure x:=by intro _;rfl) (hf:X.fn y=true\/X.env.scope.names.lookup y=some .local:=by first|exact .inl rfl|exact .inr rfl|assumption) :
  PS X (.Assign [.Name y py] (.ListComp elt [⟨tg,iter,ifs,0⟩] scope pos) iS) (CV (qz own fr wi g tt te) (cw i)):=by
 intro pins s σ H D I h;rw [exec_Assign_Name_used _ _ _ _ hsw];refine K9 (O7 (K9 ?_));show wpAny _ X.A (do let _ <- comprehension (.ListComp elt [⟨tg,iter,ifs,0⟩] scope pos) scope X.env _ (newList []) false (eval iter X.env) (some (assign (.Name y py) X.env))) _ _ s;refine K9 (Mj (NT (use:=some (assign (.Name y py) X.env)) (Q:=fun _ s'=>SP X pins D .next s') rfl hs (uY (S.cells I.ok)) S.kind S.names ?_) (fun _ s' hq=>LI (LI hq)) fun _ _ e=>e);refine wV (RR:=fun acc C=>compPost (model X.prog X.w) X.A X.xe (some (assign (.Name y py) X.env)) (fun _ s'=>SP X pins D .next s') acc C) hc S hi hb I h ?_;intro D' C s' H' m' I' q f hn;show wpAny _ _ (assign (.Name y py) X.env (.ref D')) _ _ _;refine wpAny_assign_Name (wx I' hN hi' hy (v:=.ref D') rfl (fun s2 I2 ⟨a,sb,ha⟩=>?_) hf);obtain ⟨f0,f1,f2,f3,f4,f5⟩:=f;have hCa:C≠a:=by
  rcases ha with e|e
  ·rw [e];exact f1
  ·exact fun z=>f4 y a e z.symm
 refine ⟨m',hn.sameBut sb hCa,fun h' sb'=>?_⟩;exact ⟨_,H',I2.turned (t':=s2.toks) (fun b o hb e=>(sb'.2 b hb).trans e) f0 f1 f3 f4 f5,q⟩
end
class Rep (α:Type) where
 is:KW->Hp->V->α->Prop
 mono:∀ {K:KW} {H H':Hp} {v:V} {a:α},ai H H'->is K H v a->is K H' v a
instance:Rep Int:=⟨fun _ _ v a=>v=.int a,fun _ h=>h⟩
instance:Rep Nat:=⟨fun _ _ v a=>v=.int (a:Int),fun _ h=>h⟩
instance:Rep Bool:=⟨fun _ _ v a=>v=.bl a,fun _ h=>h⟩
def Paired.get {α β:Type} {F:α->β->Prop}:∀ {l₁:List α} {l₂:List β} {i:Nat} {b:β},MB F l₁ l₂->l₂[i]?=some b->∃ a,l₁[i]?=some a/\F a b
 | _,_,_,_,.nil,e=>by simp at e
 | _,_,0,_,.cons r _,e=>by simp at e;subst e;exact ⟨_,rfl,r⟩
 | _,_,i+1,b,.cons _ t,e=>by
  obtain ⟨a,h1,h2⟩:=Paired.get (i:=i) (b:=b) t (by simpa using e)
  exact ⟨a,by simpa using h1,h2⟩
def Paired.getL {α β:Type} {F:α->β->Prop}:∀ {l₁:List α} {l₂:List β} {i:Nat} {a:α},MB F l₁ l₂->l₁[i]?=some a->∃ b,l₂[i]?=some b/\F a b
 | _,_,_,_,.nil,e=>by simp at e
 | _,_,0,_,.cons r _,e=>by simp at e;subst e;exact ⟨_,rfl,r⟩
 | _,_,i+1,b,.cons _ t,e=>by
  obtain ⟨a,h1,h2⟩:=Paired.getL (i:=i) (a:=b) t (by simpa using e)
  exact ⟨a,by simpa using h1,h2⟩
def Paired.app {α β:Type} {F:α->β->Prop}:∀ {l₁ l₃:List α} {l₂ l₄:List β},MB F l₁ l₂->MB F l₃ l₄->MB F (l₁++l₃) (l₂++l₄)
 | _,_,_,_,.nil,s=>s
 | _,_,_,_,.cons r t,s=>.cons r (Paired.app t s)
def Paired.ym {α β:Type} {F:α->β->Prop}:∀ {l₁:List α} {l₂:List β} (n:Nat),MB F l₁ l₂->MB F (l₁.take n) (l₂.take n)
 | _,_,0,_=>.nil
 | _,_,_+1,.nil=>.nil
 | _,_,n+1,.cons r t=>.cons r (Paired.ym n t)
def Paired.yC {α β:Type} {F:α->β->Prop}:∀ {l₁:List α} {l₂:List β} (n:Nat),MB F l₁ l₂->MB F (l₁.drop n) (l₂.drop n)
 | _,_,0,r=>r
 | _,_,_+1,.nil=>.nil
 | _,_,n+1,.cons _ t=>Paired.yC n t
def Paired.of_map {α β γ:Type} {F:α->β->Prop} {f:γ->α} {g:γ->β} (h:∀ c,F (f c) (g c)):∀ l:List γ,MB F (l.map f) (l.map g)
 | []=>.nil
 | c :: r=>.cons (h c) (Paired.of_map h r)
instance {α:Type} [Rep α]:Rep (List α) :=
 ⟨fun K H v l=>∃ p xs,v=.ref p/\SqL K H p xs/\MB (Rep.is K H) xs l,fun e ⟨p,xs,h1,h2,h3⟩=>⟨p,xs,h1,e.seq h2,Paired.dD h3 fun _ _ q=>Rep.mono e q⟩⟩
def ai.tup {K:KW} {H H':Hp} {a:Addr} {xs:List V} (e:ai H H') (h:SqT K H a xs):SqT K H' a xs:=by
 rcases h with (h|⟨o,h⟩)|h
 ·exact .inl (.inl (e _ _ h))
 ·exact .inl (.inr ⟨o,e _ _ h⟩)
 ·exact .inr h
instance {α β:Type} [Rep α] [Rep β]:Rep (α×β) :=
 ⟨fun K H v l=>∃ p x y,v=.ref p/\SqT K H p [x,y]/\Rep.is K H x l.1/\Rep.is K H y l.2,fun e ⟨p,x,y,h1,h2,h3,h4⟩=>⟨p,x,y,h1,e.tup h2,Rep.mono e h3,Rep.mono e h4⟩⟩
abbrev At {α:Type} [Rep α] (K:KW) (H:Hp) (v:V) (a:α):Prop:=Rep.is K H v a
def Ik {K:KW} {H:Hp} {p:Addr} {ns:List Int} (h:SqL K H p (ns.map V.int)):At K H (.ref p) ns:=⟨p,_,rfl,h,by
 have q:=Paired.of_map (F:=fun (v:V) (a:Int)=>v=.int a) (f:=V.int) (g:=id) (fun _=>rfl) ns;rw [Pb] at q;exact q⟩
def gU {K:KW} {H:Hp} {v:V} {ns:List Nat} (h:At K H v ns):∃ p,v=.ref p/\SqL K H p (ns.map fun (n:Nat)=>V.int (n:Int)):=by
 obtain ⟨p,xs,rfl,hS,hP⟩:=h;refine ⟨p,rfl,?_⟩;have e:xs=ns.map fun (n:Nat)=>V.int (n:Int):=by
  clear hS
  induction hP with
  | nil=>rfl
  | cons r _ ih=>rw [LY,<- ih];exact congrArg (· :: _) r
 rw [<- e];exact hS
def At.item {α:Type} [Rep α] {K:KW} {H:Hp} {v:V} {l:List α} {i:Nat} {a:α} (h:At K H v l) (e:l[i]?=some a):∃ p xs x,v=.ref p/\SqL K H p xs/\atI xs (i:Int)=some x/\At K H x a:=by
 obtain ⟨p,xs,rfl,hS,hP⟩:=h;obtain ⟨x,hx,r⟩:=Paired.get hP e;exact ⟨p,xs,x,rfl,hS,f7 hx,r⟩
def At.len {α:Type} [Rep α] {K:KW} {H:Hp} {v:V} {l:List α} (h:At K H v l):∃ p xs,v=.ref p/\SqL K H p xs/\xs.length=l.length:=by
 obtain ⟨p,xs,rfl,hS,hP⟩:=h;exact ⟨p,xs,rfl,hS,hP.length⟩
class bQ (α:Type) [Rep α] [DecidableEq α] where
 depth:Nat
 inj:∀ {X:Cx} {pins:List (Addr×Obj)} {σ:St} {H:Hp} {s:K5} {x:V} {a b:α},Inv X pins σ H s->At X.K H x a->At X.K H x b->a=b
 eq:∀ {X:Cx} {pins:List (Addr×Obj)} {σ:St} {H:Hp} {s:K5} {A:LW} {x y:V} {u v:Value} {a b:α},Inv X pins σ H s->At X.K H x a->At X.K H y b->RelV x u->RelV y v->A.units+depth<cLine ->
  Qt A s u v (decide (a=b))
instance:bQ Int where
 depth:=0
 inj:=fun _ h h'=>by cases h;cases h';rfl
 eq:=fun {X pins σ H s A x y u v a b} _ hx hy ru rv _=>by
  cases hx;cases hy;have q:=AD (A:=A) (s:=s) ru rv rfl rfl;have e:eqV (.int a) (.int b)=decide (a=b):=rfl;rw [e] at q;exact q
instance:bQ Nat where
 depth:=0
 inj:=fun _ h h'=>by
  have q:=(show _=V.int _ from h).symm.trans (show _=V.int _ from h');injection q with q;exact Qp q
 eq:=fun {X pins σ H s A x y u v a b} _ hx hy ru rv _=>by
  cases hx;cases hy;have q:=AD (A:=A) (s:=s) ru rv rfl rfl;have e:eqV (.int (a:Int)) (.int (b:Int))=decide (a=b):=by
   show decide ((a:Int)=(b:Int))=decide (a=b);exact decide_eq_decide.mpr Int.ofNat_inj
  rw [e] at q;exact q
def E3 {A:LW} {n:Nat} (h:A.units+(n+1)<cLine):A.in1.units+n<cLine:=by
 show A.units+1+n<cLine;lia
def nX {X:Cx} {pins:List (Addr×Obj)} {σ:St} {H:Hp} {s:K5} {α:Type} [Rep α] [DecidableEq α] [bQ α] (I:Inv X pins σ H s) :
  ∀ {xs:List V} {as bs:List α},MB (Rep.is X.K H) xs as->MB (Rep.is X.K H) xs bs->as=bs
 | _,_,_,.nil,.nil=>rfl
 | _,_,_,.cons r t,.cons r' t'=>by rw [bQ.inj I r r',nX I t t']
def range_all {α:Type} [DecidableEq α]:∀ (as bs:List α),as.length=bs.length->((K3 as.length).all fun j=>decide (as[j]?=bs[j]?))=decide (as=bs):=by
 intro as bs hl;rw [MC];simp only [LC,K7,decide_eq_true_eq];constructor
 ·intro h;refine List.ext_getElem? fun i=>?_
  by_cases hi:i<as.length
  ·exact h i hi
  ·rw [MM (by lia),MM (by lia)]
 ·intro h i _;rw [h]
def uR {X:Cx} {pins:List (Addr×Obj)} {σ:St} {H:Hp} {s:K5} {A:LW} {α:Type} [Rep α] [DecidableEq α] [bQ α] {p q:Addr} {xs ys:List V} {as bs:List α}
  (I:Inv X pins σ H s) (h1:SqL X.K H p xs) (r1:MB (Rep.is X.K H) xs as) (h2:SqL X.K H q ys) (r2:MB (Rep.is X.K H) ys bs) (hu:A.units+(bQ.depth α+1)<cLine) (hl:as.length=bs.length) :
  ∃ its its2:List Value,s.heap.IsList p its.toArray/\s.heap.IsList q its2.toArray/\its.toArray.size=its2.toArray.size/\its.toArray.size=as.length /\
   ∀ j (h1:j<its.toArray.size) (h2:j<its2.toArray.size),Qt A.in1 s its.toArray[j] its2.toArray[j] (decide (as[j]?=bs[j]?)):=by
 obtain ⟨its,v1,p1,_⟩:=I.list h1;obtain ⟨its2,v2,p2,_⟩:=I.list h2;have e1:=v1.length;have e2:=v2.length;have e3:=r1.length;have e4:=r2.length;refine ⟨its,its2,p1.isList,p2.isList,by simp;lia,by simp;lia,fun j h1 h2=>?_⟩
 have h1':j<its.length:=by simpa using h1
 have h2':j<its2.length:=by simpa using h2
 have hx:j<xs.length:=by lia
 have hy:j<ys.length:=by lia
 obtain ⟨u,hu1,ru⟩:=v1.get (i:=j) (x:=xs[j]) (by simp [hx])
 obtain ⟨v,hv1,rv⟩:=v2.get (i:=j) (x:=ys[j]) (by simp [hy])
 obtain ⟨a,ha,ra⟩:=Paired.getL r1 (i:=j) (a:=xs[j]) (by simp [hx])
 obtain ⟨b,hb,rb⟩:=Paired.getL r2 (i:=j) (a:=ys[j]) (by simp [hy])
 have eu:its.toArray[j]=u:=by
  have:its[j]?=some its[j]:=by simp [h1']
  rw [this] at hu1
  simpa using hu1
 have ev:its2.toArray[j]=v:=by
  have:its2[j]?=some its2[j]:=by simp [h2']
  rw [this] at hv1
  simpa using hv1
 rw [eu,ev,ha,hb];have z:=bQ.eq (A:=A.in1) I ra rb ru rv (E3 hu);have e:decide (some a=some b)=decide (a=b):=by simp
 rw [e];exact z
instance {α:Type} [Rep α] [DecidableEq α] [bQ α]:bQ (List α) where
 depth:=bQ.depth α+1
 inj:=fun {X pins σ H s x a b} I h h'=>by
  obtain ⟨p,xs,e,h1,r1⟩:=h;obtain ⟨q,ys,e',h2,r2⟩:=h';subst e;cases e';have:=I.iN h1 h2;subst this;exact nX I r1 r2
 eq:=fun {X pins σ H s A x y u v a b} I hx hy ru rv hu=>by
  obtain ⟨p,xs,e,h1,r1⟩:=hx;obtain ⟨q,ys,e',h2,r2⟩:=hy;subst e e';cases (show u=LF p from ru);cases (show v=LF q from rv)
  by_cases hpq:p=q
  ·subst hpq;have:=I.iN h1 h2;subst this;have:=nX I r1 r2;subst this;rw [decide_eq_true rfl];exact PB _
  ·refine SeqAt.EqAt.of_refs hpq ?_;have hu0:A.units<cLine:=by lia
   by_cases hl:a.length=b.length
   ·obtain ⟨its,its2,l1,l2,e1,e2,he⟩:=uR (A:=A) I h1 r1 h2 r2 hu hl;have z:=SeqAt.RcAt.lists l1 l2 e1 hu0 he;rw [e2,range_all a b hl] at z;exact z
   ·obtain ⟨its,v1,p1,_⟩:=I.list h1;obtain ⟨its2,v2,p2,_⟩:=I.list h2;have e1:=v1.length;have e2:=v2.length;have e3:=r1.length;have e4:=r2.length;rw [decide_eq_false (fun z=>hl (by rw [z]))]
    exact SeqAt.RcAt.lists_lengths p1.isList p2.isList (by simp;lia) hu0
def IT {X:Cx} (α:Type) [Rep α] [DecidableEq α] [bQ α] (hu:X.A.units+64<cLine) (hd:bQ.depth α<=32:=by decide) :
  OpR X (compareOp .Eq) (fun x y H Q=>∃ as bs:List α,At X.K H x as/\At X.K H y bs/\Q (.bl (decide (as=bs))) H):=by
 intro pins s σ H x y u v Q I ru rv h;obtain ⟨as,bs,⟨p,xs,e,h1,r1⟩,⟨q,ys,e',h2,r2⟩,hq⟩:=h;subst e e';cases (show u=LF p from ru);cases (show v=LF q from rv);have hu0:X.A.units<cLine:=by lia
 by_cases hl:as.length=bs.length
 ·obtain ⟨its,its2,l1,l2,e1,e2,he⟩:=uR (A:=X.A) I h1 r1 h2 r2 (by lia) hl
  refine SeqAt.eq_listAt l1 l2 e1 hu0 he ?_;rw [e2,range_all as bs hl];exact ⟨.bl _,H,I,rfl,hq⟩
 ·obtain ⟨its,v1,p1,_⟩:=I.list h1;obtain ⟨its2,v2,p2,_⟩:=I.list h2;have e1:=v1.length;have e2:=v2.length;have e3:=r1.length;have e4:=r2.length;rw [decide_eq_false (fun z=>hl (by rw [z]))] at hq
  exact SeqAt.eq_list_lengthsAt p1.isList p2.isList (by simp;lia) hu0 ⟨.bl false,H,I,rfl,hq⟩
def IQ {X:Cx} (α:Type) [Rep α] [DecidableEq α] [bQ α] (hu:X.A.units+64<cLine) (hd:bQ.depth α<=32:=by decide) :
  OpR X (compareOp .NotEq) (fun x y H Q=>∃ as bs:List α,At X.K H x as/\At X.K H y bs/\Q (.bl (!decide (as=bs))) H):=by
 intro pins s σ H x y u v Q I ru rv h;obtain ⟨as,bs,⟨p,xs,e,h1,r1⟩,⟨q,ys,e',h2,r2⟩,hq⟩:=h;subst e e';cases (show u=LF p from ru);cases (show v=LF q from rv);have hu0:X.A.units<cLine:=by lia
 have fin:∀ k:Bool,Q (.bl k) H->P0 k≠Value.notImplemented/\EP X pins σ Q (.bool k) s:=fun k z=>⟨(fun z=>nomatch z),.bl k,H,I,rfl,z⟩
 by_cases hl:as.length=bs.length
 ·obtain ⟨its,its2,l1,l2,e1,e2,he⟩:=uR (A:=X.A) I h1 r1 h2 r2 (by lia) hl
  obtain ⟨⟨cls,dd,data,sl⟩,ho,hc,n,hd'⟩:=id l1;obtain ⟨⟨cls2,dd2,data2,sl2⟩,ho2,hc2,n2,hd2⟩:=id l2;simp only at hc hd' hc2 hd2;subst hc hd' hc2 hd2;have hq':=fin _ hq;rw [<- range_all as bs hl,<- e2] at hq';exact Po (op:=.NotEq) ⟨_,ho,rfl⟩ ⟨_,ho2,rfl⟩ F.slot_list_ne F.entry_list_ne (F.args_list_ne_2 _ _) (SeqAt.list_neAt p q _ _ n n2 dd dd2 sl sl2 e1 _) ⟨ho,ho2,he,hq'⟩ hu0
 ·obtain ⟨its,v1,p1,_⟩:=I.list h1;obtain ⟨its2,v2,p2,_⟩:=I.list h2;have e1:=v1.length;have e2:=v2.length;have e3:=r1.length;have e4:=r2.length;rw [decide_eq_false (fun z=>hl (by rw [z]))] at hq
  obtain ⟨⟨cls,dd,data,sl⟩,ho,hc,n,hd'⟩:=id p1.isList;obtain ⟨⟨cls2,dd2,data2,sl2⟩,ho2,hc2,n2,hd2⟩:=id p2.isList;simp only at hc hd' hc2 hd2;subst hc hd' hc2 hd2;exact Po (op:=.NotEq) ⟨_,ho,rfl⟩ ⟨_,ho2,rfl⟩ F.slot_list_ne F.entry_list_ne (F.args_list_ne_2 _ _) (SeqAt.list_ne_lengthsAt p q _ _ n n2 dd dd2 sl sl2 (by simp;lia)) ⟨ho,ho2,fin _ hq⟩ hu0
def AO {X:Cx}:dP X (.builtin "isinstance") (fun xs H Q=>∃ x n t b,xs=[x,.ty n]/\gQ X.K H x t/\OL X.K t (.type n)=some b/\Q (.bl b) H):=by
 intro pins s σ H xs us Q I r h;obtain ⟨x,n,t,b,rfl,ty,e,q⟩:=h;obtain ⟨u,v,rfl,ru,rv⟩:=r.two;cases (show v=Value.type n from rv);exact Em I ru ty e fun tk=>⟨.bl b,H,I.tok tk,rfl,q⟩
structure Df (K:KW) (mg:Str->Option Value) (x:Str) (st:Stmt) (ps:List Str) where
 f:Addr
 fd:LZ
 fn:Fun K x x st f fd
 bd:Binds K fd ps []
 nm:mg x=some (.ref f)
section
variable {X:Cx} {x:Str} {st:Stmt} {ps:List Str} {k:Nat} {sp:Sp} {p pos:Pos} {e:Expr} {es:List Expr} {t:TA}
def J8 (d:Df X.K X.mg x st ps) (G:aJ X.prog X.w X.K X.mg X.base CX0 k d.f d.fd ps sp) (hr:b6 k X.A) (hg:Gl X x) (ha:PA X (e :: es) t) (hdb:(x == ("__debug__" : Str))=false:=by decide)
  (he:LV (e :: es) X.env=(false,eval e X.env) :: LV es X.env:=by rfl) (hpl:(backTo pos (LV es X.env)).any (·.1)=false:=by rfl) :
  PE X (.Call (.Name x p) (e :: es) [] pos) (nD sp [] E0 t):=va G hr hg d.nm d.fn.kp d.bd .nil l6 ha hdb he hpl
end
def Df.ok {P:Lp} {w:World} {K:KW} {mg:Str->Option Value} {base:Heap} {x:Str} {st:Stmt} {N ps:List Str} {k:Nat} {sp:Sp} (d:Df K mg x st ps) (S:az N ps (ah st)) (len:∀ vs H Q E,sp vs H Q E->vs.length=ps.length)
  (hbody:∀ (cdv:Value) (A:LW) (outer:List Env) (s:K5) (H:Hp) (vs:List V) (Q:VK) (E:XK),b6 k (A.deeper (envOfC x (ah st) s.heap.objs.size d.f cdv))->sp vs H Q E ->
   ∃ t,PSs (i9 CX0 P w K mg base N x (ah st) d.f cdv A outer s H E).nox (bw st) t/\t { nx:=fun _ H'=>Q .non H',rt:=Q } (start N vs) H):aJ P w K mg base CX0 (k+1) d.f d.fd ps sp :=
 d.fn.ok S len hbody
def aw {H:Hp} {p:Addr} (h:H p=none) (o:HO):ai H (upd H p o):=fun b u q=>by rw [av (aH q h)];exact q
def small {n:Nat} (h:n<=1000):n<=LB:=Nh (D6 h)
def isB (x:V) (H:Hp) (QB:Bool->Hp->Prop):Prop:=∃ k,x=.bl k/\QB k H
abbrev isF (K:KW) (f:Str) (x:V) (H1:Hp) (Q:VK):Prop:=∃ a C dx fs v,x=.ref a/\H1 a=some (.ins C dx fs)/\Cls K C/\aY K C f/\fs.lookup f=some v/\Q v H1
def isI (x:V) (H:Hp) (QO:Option Int->Hp->Prop):Prop:=∃ i,x=.int i/\QO (some i) H
def ki (g:TG) (t:TS) (D:Ends) (σ:St):It->Hp->Prop:=fun J H1=>∃ W:Nat->Nat->St->Hp->Prop,(∃ m,W 0 m σ H1)/\∀ i m σ H,W i m σ H ->
  (J.stop i H/\D.nx σ H)\/(J.go i H/\∃ N:St->Hp->Prop,(∀ σ' H',N σ' H'->∃ m',m' < m/\W (i+1) m' σ' H')/\∀ x H',J.yld i H x H'->g x σ H' fun σ2 H2=>t { D with nx:=N,ct:=N,bk:=D.nx } σ2 H2)
def cS (own:List Str) (fr:List Nat) (g:TG) (tt:TT) (ta:TE) (σ:St) (Q:VK):It->Hp->Prop:=fun J H1=>∀ d,H1 d=none->∃ W:Nat->Nat->St->Hp->Prop,(∃ m,W 0 m (bB own fr σ) (upd H1 d (.lst [])))/\∀ i m σ' H',W i m σ' H' ->
  (J.stop i H'/\Q (.ref d) H')\/(J.go i H'/\∀ x H2,J.yld i H' x H2->g x σ' H2 fun σ2 H3=>tt σ2 H3 fun ok H4 =>
   if ok=true then ta σ2 H4 fun y H5=>∃ ys,H5 d=some (.lst ys)/\ys.length<LB/\∃ m',m' < m/\W (i+1) m' σ2 (upd H5 d (.lst (ys++[y]))) else ∃ m',m' < m/\W (i+1) m' σ2 H4)
def iz (K:KW) (x:V) (H:Hp) (R:It->Hp->Prop):Prop:=∃ a,x=.ref a/\(∃ xs,SqL K H a xs)/\R (Itl K a) H
def rU (vs:List V) (H:Hp) (R:It->Hp->Prop):Prop:=∃ j:Int,vs=[.int j]/\-(2 ^ 62)<=j/\j<2 ^ 62/\R (Itr 0 j.toNat) H
section
variable {σ:St} {H:Hp} {Q:VK} {QB:Bool->Hp->Prop} {D:Ends} {K:KW} {t u:TS} {ta tb tc:TE} {g:TG} {i:Nat} {v x y:V} {tt tu:TT} {tA:TA} {a b:Int}
def uD (h:D.nx σ H):GW D σ H:=h
def yk (h:ta σ H fun x H1=>g x σ H1 D.nx):CV ta g D σ H:=h
def oX {QS:St->Hp->Prop} (h:QS (σ.set i (some v)) H):cw i v σ H QS:=h
def uo (h:ta σ H fun _ H1=>D.nx σ H1):Hi ta D σ H:=h
def yf (h:ta σ H D.rt):Ju ta D σ H:=h
def G7 (h:tt σ H fun b H1=>if b=true then t D σ H1 else u D σ H1):Gh tt t u D σ H:=h
def gZ (J:St->Hp->Prop) (main:∀ N:St->Hp->Prop,(∀ σ' H',J σ' H'->N σ' H')->tt σ H fun b H1=>if b=true then t { D with nx:=N } σ H1 else u { D with nx:=N } σ H1)
  (key:∀ σ' H',J σ' H'->D.nx σ' H'):Gh tt t u D σ H:=main D.nx key
def yj (e:σ[i]?=some (some v)) (h:Q v H):o9 i σ H Q:=⟨v,e,h⟩
def r_C (h:Q v H):tC v σ H Q:=h
def C8 {r:R2} (h:ta σ H fun x H1=>tb σ H1 fun y H2=>r x y H2 Q):tOp r ta tb σ H Q:=h
def yA {f:Int->Int->V} (h:Q (f a b) H):rI0 f (.int a) (.int b) H Q:=⟨a,b,rfl,rfl,h⟩
def vn {C:Int->Int->Prop} {f:Int->Int->V} (c:C a b) (h:Q (f a b) H):rI C f (.int a) (.int b) H Q:=⟨a,b,rfl,rfl,c,h⟩
def uv (h:Q (.bl (decide (a=b))) H):rEq (.int a) (.int b) H Q:=⟨rfl,by
 have e:decide (V.int a=V.int b)=decide (a=b):=decide_eq_decide.mpr ⟨fun z=>by injection z,fun z=>by rw [z]⟩
 rw [e];exact h⟩
def tQ (h:Q (.bl (!decide (a=b))) H):rNe (.int a) (.int b) H Q:=⟨rfl,by
 have e:decide (V.int a=V.int b)=decide (a=b):=decide_eq_decide.mpr ⟨fun z=>by injection z,fun z=>by rw [z]⟩
 rw [e];exact h⟩
def ur (h:ta σ H fun x H'=>isB x H' QB):G2 ta σ H QB:=h
def CA (h:ta σ H fun x H1=>isB x H1 QB):tB ta σ H QB:=h
def C9 {c:Bool} (h:QB c H):isB (.bl c) H QB:=⟨c,rfl,h⟩
def yw (h:tt σ H fun c H1=>if c=true then tu σ H1 QB else QB false H1):Jk tt tu σ H QB:=h
def CO (h:tt σ H fun c H1=>if c=true then QB true H1 else tu σ H1 QB):tOr tt tu σ H QB:=h
def yD (h:tt σ H fun c H1=>QB (!c) H1):JU tt σ H QB:=h
def uH (h:ta σ H fun x H1=>isB x H1 fun c H1=>if c=true then tb σ H1 Q else Q (.bl false) H1):G5 ta tb σ H Q:=h
def yt (h:ta σ H fun x H1=>isB x H1 fun c H1=>if c=true then Q (.bl true) H1 else tb σ H1 Q):IP ta tb σ H Q:=h
def uM (h:ta σ H fun x H1=>isB x H1 fun c H1=>Q (.bl (!c)) H1):Hf ta σ H Q:=h
def yy {QA:List V->Hp->Prop} (h:QA [] H):rZ σ H QA:=h
def uL {QA:List V->Hp->Prop} (h:ta σ H fun x H1=>tA σ H1 fun xs H2=>QA (x :: xs) H2):kj ta tA σ H QA:=h
def Cp {r:List V->Hp->VK->Prop} (h:tA σ H fun vs H1=>r vs H1 Q):tCB r tA σ H Q:=h
def tO {sp:Sp} {E:XK} (h:tA σ H fun vs H1=>sp (vs++[]) H1 Q E):nD sp [] E tA σ H Q:=h
def dY (h:tA σ H fun xs H1=>xs.length<=LB/\∀ p,H1 p=none->Q (.ref p) (upd H1 p (.lst xs))):yG tA σ H Q:=h
def eE (h:tA σ H fun xs H1=>xs.length<=LB/\∀ p,H1 p=none->Q (.ref p) (upd H1 p (.tup xs))):FL tA σ H Q:=h
def yq (h:ta σ H fun x H1=>Q (.bl (decide (x=.non))) H1):IJ ta σ H Q:=h
def tZ (h:ta σ H fun x H1=>Q (.bl (!decide (x=.non))) H1):Hj ta σ H Q:=h
def yE {wi:TI} (h:wi σ H (ki g t D σ)):IS wi g t D σ H:=h
def qD {R:It->Hp->Prop} (h:ta σ H fun x H1=>iz K x H1 R):C0 K ta σ H R:=h
def qr {R:It->Hp->Prop} (h:tA σ H fun vs H1=>rU vs H1 R):B3 tA σ H R:=h
def uN {own:List Str} {fr:List Nat} {wi:TI} (h:wi σ H (cS own fr g tt ta σ Q)):qz own fr wi g tt ta σ H Q:=h
def BU {r:V->Option Int->Option Int->Hp->VK->Prop} {tl th:TO} (h:ta σ H fun x H1=>tl σ H1 fun l H2=>th σ H2 fun u H3=>r x l u H3 Q):tSl r ta tl th σ H Q:=h
def nS {QO:Option Int->Hp->Prop} (h:QO none H):Bn σ H QO:=h
def ug {QO:Option Int->Hp->Prop} (h:ta σ H fun x H1=>isI x H1 QO):Hk ta σ H QO:=h
def sZ {QO:Option Int->Hp->Prop} (h:QO (some a) H):isI (.int a) H QO:=⟨a,rfl,h⟩
def Cv {T:String} {r:V->List V->Hp->VK->Prop} (h:ta σ H fun x H1=>tyV K T x H1/\tA σ H1 fun xs H2=>r x xs H2 Q):tBM K T r ta tA σ H Q:=h
def yh {f:Str} (h:ta σ H fun x H1=>isF K f x H1 Q):Gi K ta f σ H Q:=h
def tD {C:Addr} {sp:Sp} {dvs:List V} {E:XK} (h:tA σ H fun vs H1=>∀ x dx,H1 x=none->H1 dx=none->dx≠x->sp (.ref x :: (vs++dvs)) (upd (upd H1 dx (.own x)) x (.ins C dx [])) (fun v H2=>v=.non/\Q (.ref x) H2) E):CY C sp dvs E tA σ H Q:=h
def uc {f:Str} (h:tb σ H fun y H1=>ta σ H1 fun x H2=>∃ a C dx fs,x=.ref a/\H2 a=some (.ins C dx fs)/\Cls K C/\aY K C f/\fs.length<1000/\D.nx σ (upd H2 a (.ins C dx (cX f y fs)))):E2 K ta tb f D σ H:=h
def cI {α:Type} [Rep α] {l:List α} {n:Nat} {c:α} (h:At K H v l) (e:a=(n:Int)) (hn:l[n]?=some c) (q:∀ w,At K H w c->Q w H):pQ K v (.int a) H Q:=by
 obtain ⟨p,xs,x,rfl,hS,hx,hc⟩:=h.item hn;subst e;exact ⟨p,xs,_,x,rfl,rfl,hS,hx,q x hc⟩
def iH {l:List Nat} {n c:Nat} (h:At K H v l) (e:a=(n:Int)) (hn:l[n]?=some c) (q:Q (.int (c:Int)) H):pQ K v (.int a) H Q :=
 cI h e hn fun w hw=>by cases (show w=V.int (c:Int) from hw);exact q
def Ka {l:List Int} {n:Nat} {c:Int} (h:At K H v l) (e:a=(n:Int)) (hn:l[n]?=some c) (q:Q (.int c) H):pQ K v (.int a) H Q :=
 cI h e hn fun w hw=>by cases (show w=V.int c from hw);exact q
def bK {n:Nat} (e:a=(n:Int)) (hn:n<=1000000) (Pv:Nat->St->Hp->Prop) (h0:Pv 0 σ H)
  (hs:∀ i σ' H',i<n->Pv i σ' H'->g (.int (i:Int)) σ' H' fun σ2 H2=>t { D with nx:=Pv (i+1),ct:=Pv (i+1),bk:=D.nx } σ2 H2) (hd:∀ σ' H',Pv n σ' H'->D.nx σ' H') :
  rU [.int a] H (ki g t D σ):=by
 subst e;refine ⟨n,rfl,by lia,by lia,?_⟩
 have z:((n:Int)).toNat=n:=by lia
 show ki g t D σ (Itr 0 (n:Int).toNat) H;rw [z];exact Es Pv h0 (fun i σ' H' hi p=>by rw [QD];exact hs i σ' H' hi p) hd
def mP {α:Type} [Rep α] {l:List α} (h:At K H v l) (Pv:Nat->St->Hp->Prop) (h0:Pv 0 σ H) (hl:∀ i σ' H',Pv i σ' H'->ai H H')
  (hs:∀ i c w σ' H',l[i]?=some c->At K H' w c->Pv i σ' H'->g w σ' H' fun σ2 H2=>t { D with nx:=Pv (i+1),ct:=Pv (i+1),bk:=D.nx } σ2 H2) (hd:∀ σ' H',Pv l.length σ' H'->D.nx σ' H') :
  iz K v H (ki g t D σ):=by
 obtain ⟨p,xs,rfl,hS,hP⟩:=h;refine ⟨p,rfl,⟨xs,hS⟩,rY (K:=K) (a:=p) (xs:=xs) Pv h0 (fun i σ' H' _ q=>(hl i σ' H' q).seq hS) (fun i x σ' H' hx q=>?_) (fun σ' H' q=>?_)⟩
 ·obtain ⟨c,hc,r⟩:=Paired.getL hP hx;exact hs i c x σ' H' hc (Rep.mono (hl i σ' H' q) r) q
 ·rw [hP.length] at q;exact hd σ' H' q
def del (H:Hp) (d:Addr):Hp:=fun a=>if a=d then none else H a
def fK {H:Hp} {d b:Addr} (h:b≠d):del H d b=H b:=if_neg h
def n5 {H H':Hp} {d:Addr} (e:ai H H'):ai (del H d) (del H' d):=fun b o h=>by
 by_cases hb:b=d
 ·rw [hb] at h;have z:del H d d=none:=if_pos rfl;rw [z] at h;cases h
 ·rw [fK hb] at h ⊢;exact e b o h
def iR {H:Hp} {d:Addr} {o:HO}:ai (del H d) (del (upd H d o) d):=fun b u h=>by
 by_cases hb:b=d
 ·rw [hb] at h;have z:del H d d=none:=if_pos rfl;rw [z] at h;cases h
 ·rw [fK hb] at h ⊢;rw [av hb];exact h
def jF {H:Hp} {d:Addr}:ai (del H d) H:=fun b u h=>by
 by_cases hb:b=d
 ·rw [hb] at h;have z:del H d d=none:=if_pos rfl;rw [z] at h;cases h
 ·rw [fK hb] at h;exact h
def uU {β:Type} [Rep β] {J:It} {n:Nat} {own:List Str} {fr:List Nat} (Src:Nat->V->Hp->Prop) (acc:Nat->List β) (Sh:St->Prop)
  (hgo:∀ i H',i<n->ai H H'->J.go i H') (hst:∀ H',ai H H'->J.stop n H') (hy:∀ i H' x H2,i<n->ai H H'->J.yld i H' x H2->H2=H'/\Src i x H')
  (hz:n<=100000) (ha0:acc 0=[]) (hal:∀ i,i<=n->(acc i).length<=i) (h0:Sh (bB own fr σ))
  (turn:∀ i w σ' H' (d:Addr) (R:St->V->Hp->Prop) (R0:St->Hp->Prop),i<n->ai H H'->Src i w H'->Sh σ' ->
   (∀ σ2 y b H5,Sh σ2->ai H' H5->At K (del H5 d) y b->acc (i+1)=acc i++[b]->R σ2 y H5)->(∀ σ2 H5,Sh σ2->ai H' H5->acc (i+1)=acc i->R0 σ2 H5)->(∃ ys,H' d=some (.lst ys)) ->
   g w σ' H' fun σ2 H3=>tt σ2 H3 fun ok H4=>if ok=true then ta σ2 H4 (R σ2) else R0 σ2 H4)
  (fin:∀ d H',H d=none->ai H H'->(∃ ys,H' d=some (.lst ys)/\MB (Rep.is K (del H' d)) ys (acc n))->Q (.ref d) H') (d:Addr) (hd:H d=none) :
  ∃ W:Nat->Nat->St->Hp->Prop,(∃ m,W 0 m (bB own fr σ) (upd H d (.lst [])))/\∀ i m σ' H',W i m σ' H' ->
   (J.stop i H'/\Q (.ref d) H')\/(J.go i H'/\∀ x H2,J.yld i H' x H2->g x σ' H2 fun σ2 H3=>tt σ2 H3 fun ok H4 =>
    if ok=true then ta σ2 H4 fun y H5=>∃ ys,H5 d=some (.lst ys)/\ys.length<LB/\∃ m',m' < m/\W (i+1) m' σ2 (upd H5 d (.lst (ys++[y]))) else ∃ m',m' < m/\W (i+1) m' σ2 H4):=by
 refine ⟨fun i m σ' H'=>m=n - i/\i<=n/\Sh σ'/\ai H H'/\∃ ys,H' d=some (.lst ys)/\MB (Rep.is K (del H' d)) ys (acc i),⟨n,rfl,Mb _,h0,aw hd _,[],au,by rw [ha0];exact .nil⟩,?_⟩
 rintro i m σ' H' ⟨rfl,hi,hsh,hs,ys,hys,hp⟩
 by_cases hlt:i<n
 ·refine .inr ⟨hgo i H' hlt hs,fun x H2 hx=>?_⟩;obtain ⟨rfl,hsrc⟩:=hy i H' x H2 hlt hs hx;refine turn i x σ' H2 d _ _ hlt hs hsrc hsh (fun σ2 y b H5 h1 h2 h3 h4=>?_) (fun σ2 H5 h1 h2 h4=>?_) ⟨ys,hys⟩
  ·have hl:=hp.length;have hl2:=hal i hi;refine ⟨ys,h2 _ _ hys,LO (show ys.length<=100000 by lia) (by rw [L5];decide),n - (i+1),by lia,rfl,hlt,h1,fun b' o e=>?_,ys++[y],au,?_⟩
   ·rw [av (aH e hd)];exact h2 _ _ (hs _ _ e)
   ·rw [h4];exact Paired.app (Paired.dD hp fun _ _ q=>Rep.mono iR (Rep.mono (n5 h2) q)) (.cons (Rep.mono iR h3) .nil)
  ·refine ⟨n - (i+1),by lia,rfl,hlt,h1,hs.trans h2,ys,h2 _ _ hys,?_⟩
   rw [h4];exact Paired.dD hp fun _ _ q=>Rep.mono (n5 h2) q
 ·have e:i=n:=by lia
  subst e;exact .inl ⟨hst H' hs,fin d H' hd hs ⟨ys,hys,hp⟩⟩
def gW {α β:Type} [Rep α] [Rep β] {l:List α} {own:List Str} {fr:List Nat} (h:At K H v l) (hz:l.length<=100000) (acc:Nat->List β) (Sh:St->Prop) (ha0:acc 0=[]) (hal:∀ i,i<=l.length->(acc i).length<=i) (h0:Sh (bB own fr σ))
  (turn:∀ i c w σ' H' (d:Addr) (R:St->V->Hp->Prop) (R0:St->Hp->Prop),l[i]?=some c->ai H H'->At K H' w c->Sh σ' ->
   (∀ σ2 y b H5,Sh σ2->ai H' H5->At K (del H5 d) y b->acc (i+1)=acc i++[b]->R σ2 y H5)->(∀ σ2 H5,Sh σ2->ai H' H5->acc (i+1)=acc i->R0 σ2 H5)->(∃ ys,H' d=some (.lst ys)) ->
   g w σ' H' fun σ2 H3=>tt σ2 H3 fun ok H4=>if ok=true then ta σ2 H4 (R σ2) else R0 σ2 H4)
  (fin:∀ d H',H d=none->ai H H'->(∃ ys,H' d=some (.lst ys)/\MB (Rep.is K (del H' d)) ys (acc l.length))->Q (.ref d) H') :
  iz K v H (cS own fr g tt ta σ Q):=by
 obtain ⟨p,xs,rfl,hS,hP⟩:=h;have hl:=hP.length;refine ⟨p,rfl,⟨xs,hS⟩,uU (J:=Itl K p) (n:=l.length) (fun i w H'=>∃ c,l[i]?=some c/\At K H' w c) acc Sh (fun i H' hi e=>⟨xs,xs[i]'(by lia),e.seq hS,by simp [hl,hi]⟩) (fun H' e=>⟨xs,e.seq hS,Px hl⟩)
  (fun i H' x H2 hi e hy=>?_) hz ha0 hal h0 (fun i w σ' H' d R R0 hi e ⟨c,hc,hw⟩=>turn i c w σ' H' d R R0 hc e hw) fin⟩
 obtain ⟨e1,e2⟩:=hy;have z:=e2 xs (e.seq hS);obtain ⟨c,hc,r⟩:=Paired.getL hP z;exact ⟨e1,c,hc,Rep.mono e r⟩
def eV (K:KW) {β:Type} [Rep β] {n:Nat} {own:List Str} {fr:List Nat} (e:a=(n:Int)) (hz:n<=100000) (acc:Nat->List β) (Sh:St->Prop) (ha0:acc 0=[]) (hal:∀ i,i<=n->(acc i).length<=i) (h0:Sh (bB own fr σ))
  (turn:∀ i σ' H' (d:Addr) (R:St->V->Hp->Prop) (R0:St->Hp->Prop),i<n->ai H H'->Sh σ' ->
   (∀ σ2 y b H5,Sh σ2->ai H' H5->At K (del H5 d) y b->acc (i+1)=acc i++[b]->R σ2 y H5)->(∀ σ2 H5,Sh σ2->ai H' H5->acc (i+1)=acc i->R0 σ2 H5)->(∃ ys,H' d=some (.lst ys)) ->
   g (.int (i:Int)) σ' H' fun σ2 H3=>tt σ2 H3 fun ok H4=>if ok=true then ta σ2 H4 (R σ2) else R0 σ2 H4)
  (fin:∀ d H',H d=none->ai H H'->(∃ ys,H' d=some (.lst ys)/\MB (Rep.is K (del H' d)) ys (acc n))->Q (.ref d) H') :
  rU [.int a] H (cS own fr g tt ta σ Q):=by
 subst e;refine ⟨n,rfl,by lia,by lia,?_⟩
 have z:((n:Int)).toNat=n:=by lia
 show cS own fr g tt ta σ Q (Itr 0 (n:Int).toNat) H;rw [z];refine uU (J:=Itr 0 n) (n:=n) (fun i w _=>w=.int (i:Int)) acc Sh (fun i H' hi _=>hi) (fun H' _=>Lj n) (fun i H' x H2 hi e hy=>?_) hz ha0 hal h0 (fun i w σ' H' d R R0 hi e hw=>?_) fin
 ·obtain ⟨e1,e2⟩:=hy;exact ⟨e1,by rw [e2,QD]⟩
 ·subst hw;exact turn i σ' H' d R R0 hi e
def lB {α β:Type} [Rep α] [Rep β] {l:List α} {own:List Str} {fr:List Nat} (h:At K H v l) (hz:l.length<=100000) (acc:Nat->List β) (Sh:St->Prop) (ha0:acc 0=[]) (hal:∀ i,i<=l.length->(acc i).length<=i) (h0:Sh (bB own fr σ))
  (turn:∀ i c w σ' H' (d:Addr) (R:St->V->Hp->Prop) (R0:St->Hp->Prop),l[i]?=some c->ai H H'->At K H' w c->Sh σ' ->
   (∀ σ2 y b H5,Sh σ2->ai H' H5->At K (del H5 d) y b->acc (i+1)=acc i++[b]->R σ2 y H5)->(∀ σ2 H5,Sh σ2->ai H' H5->acc (i+1)=acc i->R0 σ2 H5)->(∃ ys,H' d=some (.lst ys)) ->
   g w σ' H' fun σ2 H3=>tt σ2 H3 fun ok H4=>if ok=true then ta σ2 H4 (R σ2) else R0 σ2 H4)
  (fin:∀ d H',ai H H'->At K H' (.ref d) (acc l.length)->Q (.ref d) H') :
  iz K v H (cS own fr g tt ta σ Q) :=
 gW h hz acc Sh ha0 hal h0 turn fun d H' _ hs ⟨ys,hys,hp⟩=>fin d H' hs ⟨d,ys,rfl,SqL.of hys,Paired.dD hp fun _ _ q=>Rep.mono jF q⟩
def jy (K:KW) {β:Type} [Rep β] {n:Nat} {own:List Str} {fr:List Nat} (e:a=(n:Int)) (hz:n<=100000) (acc:Nat->List β) (Sh:St->Prop) (ha0:acc 0=[]) (hal:∀ i,i<=n->(acc i).length<=i) (h0:Sh (bB own fr σ))
  (turn:∀ i σ' H' (d:Addr) (R:St->V->Hp->Prop) (R0:St->Hp->Prop),i<n->ai H H'->Sh σ' ->
   (∀ σ2 y b H5,Sh σ2->ai H' H5->At K (del H5 d) y b->acc (i+1)=acc i++[b]->R σ2 y H5)->(∀ σ2 H5,Sh σ2->ai H' H5->acc (i+1)=acc i->R0 σ2 H5)->(∃ ys,H' d=some (.lst ys)) ->
   g (.int (i:Int)) σ' H' fun σ2 H3=>tt σ2 H3 fun ok H4=>if ok=true then ta σ2 H4 (R σ2) else R0 σ2 H4)
  (fin:∀ d H',ai H H'->At K H' (.ref d) (acc n)->Q (.ref d) H') :
  rU [.int a] H (cS own fr g tt ta σ Q) :=
 eV K e hz acc Sh ha0 hal h0 turn fun d H' _ hs ⟨ys,hys,hp⟩=>fin d H' hs ⟨d,ys,rfl,SqL.of hys,Paired.dD hp fun _ _ q=>Rep.mono jF q⟩
def nR (h:QB true H):sL σ H QB:=h
def tY {A B:Prop} (h:A):if true=true then A else B:=pB h
end
def bf {c A B:Prop} [Decidable c] (h1:c->A) (h2:¬ c->B):if decide c=true then A else B:=by
 by_cases h:c
 ·rw [decide_eq_true h];exact pB (h1 h)
 ·rw [decide_eq_false h];exact fJ (h2 h)
def bT {c A B:Prop} [Decidable c] (h1:¬ c->A) (h2:c->B):if (!decide c)=true then A else B:=by
 by_cases h:c
 ·rw [decide_eq_true h];exact fJ (h2 h)
 ·rw [decide_eq_false h];exact pB (h1 h)
def Gr {β:Type} [Rep β] (K:KW) (H:Hp) (d:Addr) (l:List β):Prop:=∃ ys,H d=some (.lst ys)/\MB (Rep.is K (del H d)) ys l
section
variable {β:Type} [Rep β] {K:KW} {H H':Hp} {d:Addr} {l:List β} {y:V} {b:β} {Q:VK}
def Gr.nil (h:H d=some (.lst [])):Gr K H d ([]:List β):=⟨[],h,.nil⟩
def Gr.at (h:Gr K H d l):At K H (.ref d) l:=by
 obtain ⟨ys,h1,h2⟩:=h;exact ⟨d,ys,rfl,SqL.of h1,Paired.dD h2 fun _ _ q=>Rep.mono jF q⟩
def Gr.mono (s:ai H H') (h:Gr K H d l):Gr K H' d l:=by
 obtain ⟨ys,h1,h2⟩:=h;exact ⟨ys,s _ _ h1,Paired.dD h2 fun _ _ q=>Rep.mono (n5 s) q⟩
def Gr.is (h:Gr K H d l):∃ ys,H d=some (.lst ys):=let ⟨ys,h1,_⟩:=h;⟨ys,h1⟩
def Gr.ty (h:Gr K H d l):tyV K "list" (.ref d) H:=by
 obtain ⟨ys,h1,_⟩:=h;exact .inl ⟨rfl,_,SqL.of h1⟩
def fX (h:Gr K H d l) (hl:l.length<=100000) (hy:At K (del H d) y b) (q:∀ H',Gr K H' d (l++[b])->(∀ a o,a≠d->H a=some o->H' a=some o)->(∀ a,a≠d->H' a=H a)->Q .non H'):vA (.ref d) [y] H Q:=by
 obtain ⟨ys,h1,h2⟩:=h;have e:=h2.length;refine ⟨d,ys,y,rfl,rfl,h1,LO (show ys.length<=100000 by lia) (by rw [L5];decide),?_⟩
 refine q _ ⟨_,au,Paired.app (Paired.dD h2 fun _ _ z=>Rep.mono iR z) (.cons (Rep.mono iR hy) .nil)⟩ (fun a o ha z=>by rw [av ha];exact z) fun a ha=>av ha
def ai.but {H₀:Hp} (hd:H₀ d=none) (s:ai H₀ H) (k:∀ a o,a≠d->H a=some o->H' a=some o):ai H₀ H':=fun a o z=>k a o (aH z hd) (s a o z)
end
def cut {α:Type} (l:List α) (lo hi:Option Int):List α:=(l.drop (HT.sIx l.length 0 lo)).take (HT.sIx l.length l.length hi - HT.sIx l.length 0 lo)
def Iw {α:Type} [Rep α] {K:KW} {H:Hp} {v:V} {Q:VK} {l:List α} {lo hi:Option Int} (h:At K H v l) (q:∀ p H',ai H H'->H p=none->At K H' (.ref p) (cut l lo hi)->Q (.ref p) H'):CF K v lo hi H Q:=by
 obtain ⟨p,xs,rfl,hS,hP⟩:=h;refine ⟨p,xs,rfl,hS,fun d hd=>q d _ (aw hd _) hd ⟨d,_,rfl,SqL.of au,?_⟩⟩;have e:=hP.length;unfold sM cut;rw [e];exact Paired.ym _ (Paired.yC _ (Paired.dD hP fun _ _ z=>Rep.mono (aw hd _) z))
def Hs {α:Type} (l:List α) (lo hi:Option Int):(cut l lo hi).length<=l.length:=by
 unfold cut;rw [Lh,Og];lia
def Ea {H:Hp} {d p:Addr} (hd:∃ ys,H d=some (.lst ys)) (hp:H p=none):p≠d:=fun e=>by
 obtain ⟨ys,hd⟩:=hd;rw [e,hd] at hp;cases hp
def Jo (K:KW):List V->Hp->VK->Prop:=fun xs H Q=>∃ p ys,xs=[.ref p]/\(SqL K H p ys\/SqT K H p ys)/\Q (.int ys.length) H
def BS (K:KW):List V->Hp->VK->Prop:=fun xs H Q=>∃ p ys,xs=[.ref p]/\(SqL K H p ys\/SqT K H p ys)/\∀ l,H l=none->Q (.ref l) (upd H l (.lst ys))
def Hc (K:KW):List V->Hp->VK->Prop:=fun xs H Q=>∃ x n t b,xs=[x,.ty n]/\gQ K H x t/\OL K t (.type n)=some b/\Q (.bl b) H
def IU (α:Type) [Rep α] [DecidableEq α] (K:KW):R2:=fun x y H Q=>∃ as bs:List α,At K H x as/\At K H y bs/\Q (.bl (decide (as=bs))) H
def Jt (α:Type) [Rep α] [DecidableEq α] (K:KW):R2:=fun x y H Q=>∃ as bs:List α,At K H x as/\At K H y bs/\Q (.bl (!decide (as=bs))) H
section
variable {K:KW} {H:Hp} {Q:VK} {v x y:V} {α:Type} [Rep α] {l:List α}
def b8 (h:At K H v l) (q:Q (.int (l.length:Int)) H):Jo K [v] H Q:=by
 obtain ⟨p,xs,rfl,hS,e⟩:=h.len;exact ⟨p,xs,rfl,.inl hS,by rw [e];exact q⟩
def yW {n:String} {t:Value} {b:Bool} (ty:gQ K H x t) (e:OL K t (.type n)=some b) (q:Q (.bl b) H):Hc K [x,.ty n] H Q:=⟨x,n,t,b,rfl,ty,e,q⟩
def GX [DecidableEq α] {as bs:List α} (ha:At K H x as) (hb:At K H y bs) (q:Q (.bl (decide (as=bs))) H):IU α K x y H Q:=⟨as,bs,ha,hb,q⟩
def t6 [DecidableEq α] {as bs:List α} (ha:At K H x as) (hb:At K H y bs) (q:Q (.bl (!decide (as=bs))) H):Jt α K x y H Q:=⟨as,bs,ha,hb,q⟩
end
section
variable {X:Cx} (K:KW) (hK:X.K=K) {e l o value:Expr} {ta tv tl:TE} {f:Str} {pos pos':Pos}
include hK
theorem aj:IxR X (pQ K):=by subst hK;exact HR
theorem bC:IxR X (Fe K):=by subst hK;exact Jl
theorem aE (he:PE X e ta) (hb:attributeBase e f X.env (eval e X.env)=eval e X.env):PE X (.Attribute e f pos) (Gi K ta f):=by subst hK;exact Jh he hb
theorem fA (ha:PE X o ta) (hv:PE X value tv) (hs:swapsWith value (some (.Attribute o f pos')) pos.line X.env=pure false):PS X (.Assign [.Attribute o f pos'] value pos) (E2 K ta tv f):=by subst hK;exact Jq ha hv hs
theorem aT {tg:Expr} (hl:PE X l tl):PI X tg l (C0 K tl):=by subst hK;exact HA hl
theorem yK:SlR X (CF K):=by subst hK;exact Iq
theorem aN:dP X (.builtin "len") (Jo K):=by subst hK;exact zL
theorem gq:dP X (.type "list") (BS K):=by subst hK;exact yH
theorem lC:dP X (.builtin "isinstance") (Hc K):=by subst hK;exact AO
theorem BD (α:Type) [Rep α] [DecidableEq α] [bQ α] (hu:X.A.units+64<cLine) (hd:bQ.depth α<=32:=by decide) :
  OpR X (compareOp .Eq) (IU α K):=by subst hK;exact IT α hu hd
theorem mT (α:Type) [Rep α] [DecidableEq α] [bQ α] (hu:X.A.units+64<cLine) (hd:bQ.depth α<=32:=by decide) :
  OpR X (compareOp .NotEq) (Jt α K):=by subst hK;exact IQ α hu hd
theorem Ja {T id:String} {name:Str} {r:V->List V->Hp->VK->Prop} {to:TE} {t:TA} {e:Expr} {es:List Expr} {apos cpos:Pos} (pa:PlainAttrs T) (slot:Slot T name id) (hty:typeOf (.builtin id)=pure (.type "method_descriptor")) (hm:MtR X id r) (ho:PE X o to) (ha:PA X (e :: es) t)
  (hbase:attributeBase o name X.env (eval o X.env)=eval o X.env:=by rfl)
  (hfew:((backTo cpos (LV (e :: es) X.env)).all (fun x=>!x.1) && (backToKw cpos (keywordEach [] X.env)).all (fun x=>x.1.isSome)
   && decide ((e :: es).length+([]:List Py).length+(if ([]:List Py).isEmpty then 0 else 1)<30))=true:=by rfl)
  (hline:(apos.endLine == cpos.line)=true:=by rfl) (hs:LV (e :: es) X.env=(false,eval e X.env) :: LV es X.env:=by rfl) (hplain:(backTo cpos (LV es X.env)).any (·.1)=false:=by rfl) :
  PE X (.Call (.Attribute o name apos) (e :: es) [] cpos) (tBM K T r to t):=by subst hK;exact Ks pa slot hty hm ho ha hbase hfew hline hs hplain
end
section
variable {X:Cx} {pins:List (Addr×Obj)} {σ:St} {H:Hp} {s:K5} {h':Heap} {t':Nat} {fp:List Addr} {p:Addr} {o:HO}
def Inv.wk (I:Inv X pins σ H s) (hf:∀ b∈fp,hX X pins H b) (k:∀ b ob,b∉fp->s.heap.get? b=some ob->h'.get? b=some ob) (hp:s.heap.objs.size<=p) (new:bX X.prog X.w (upd H p o) h' p o) :
  Inv X pins σ (upd H p o) { s with heap:=h',toks:=t' }:=by
 have hn:=I.hok.fresh hp;have lt:∀ {b:Addr} {ob:Obj},s.heap.get? b=some ob->b≠p:=fun e=>Lz (Lm (Li e) hp);have nofp:∀ b u,H b=some u->b∉fp:=fun b u e hb=>by rw [(hf b hb).1] at e;cases e
 refine I.step (g':=s.gens) (d':=s.drawn) (ch:=fp) (fun b hb=>let ⟨_,f1,_,f3,f4,f5⟩:=hf b hb;⟨f3,f1,f4,f5⟩) (fun b ob _ _ hc e _=>k b ob hc e) (fun b ob _ _ hc e _=>⟨ob.slots,k b ob hc e⟩)
  (fun b ob _ e n=>by rw [av (lt e)];exact n) (fun b ob hc e=>⟨ob,k b ob hc e⟩) (fun b xs e=>by rw [av (aH e hn)];exact e) (fun b ob u e=>by rw [av (aH e hn)];exact e)
  (fun b ps e=>⟨#[],by rw [av (aH e hn),e];simp⟩) (fun m hm=>?_) (fun b u e=>?_) I.bare
 ·obtain ⟨ob,es,ep,e,r⟩:=hm;exact ⟨ob,es,ep,k _ ob (fun hb=>(hf _ hb).2.1 rfl) e,r⟩
 ·by_cases hb:b=p
  ·subst hb;rw [au] at e;cases e;exact new
  ·rw [av hb] at e;refine (I.hok b u e).oM (fun c v hc q=>k c v ?_ q) (fun c q=>by rw [av (aH q hn)];exact q) fun c xs q=>by rw [av (aH q hn)];exact q
   rcases hc with z|z
   ·rw [z];exact nofp b u e
   ·exact nofp c _ z
end
def Ite (K:KW) (a:Addr):It :=
 ⟨fun i H=>∃ xs x,SqL K H a xs/\xs[i]?=some x,fun i H v H'=>∃ p x,v=.ref p/\H p=none/\H'=upd H p (.tup [.int (i:Int),x])/\∀ xs,SqL K H a xs->xs[i]?=some x,fun i H=>∃ xs,SqL K H a xs/\xs.length<=i⟩
def ES {P:Lp} {w:World} {K:KW} {es:List Expr} {kk:Nat} {tpos:Pos} (a e it:Addr) (hei:e≠it) :
  Turn P w K (.Tuple es kk tpos) (Ite K a) [e,it] e (fun i h=>(∃ old,IsEnum h e it i old)/\h.IsListIter it a i) where
 mem:=by simp
 obj:=fun i h st b hb=>by
  obtain ⟨⟨old,he⟩,o,e1,c,d⟩:=st;rcases LL.mp hb with z|hb
  ·rw [z];exact ⟨_,he,fun v z=>by
    have z':QG _=Qn v:=z;cases z'⟩
  ·rw [Lb.mp hb];exact ⟨o,e1,fun v z=>by rw [d] at z;cases z⟩
 keep:=fun i h h' st k=>⟨let ⟨old,he⟩:=st.1;⟨old,k e (by simp) _ he⟩,st.2.at fun o e=>k it (by simp) o e⟩
 item:=by
  intro X hP hw hK hc i pins s σ H E I hf st hg;subst hP hw hK;obtain ⟨xs,x,hq,hx⟩:=hg;obtain ⟨its,rv,p,hz⟩:=I.list hq;obtain ⟨u,hu,ru⟩:=rv.get hx;obtain ⟨⟨old,he⟩,hit⟩:=st;refine wpAny_pyNext_enum_item he hit p.isList (x:=u) (by simpa using hu) hei fun h' ho hit' hT hsz hk=>?_
  refine ⟨_,rfl,?_⟩;have I1:Inv X pins σ (upd H s.heap.objs.size (.tup [.int (i:Int),x])) { s with heap:=h',toks:=s.toks+1 } :=
   I.wk hf (fun b ob hb q=>hk b ob (fun z=>hb (by simp [z])) (fun z=>hb (by simp [z])) q) (Lj _) ⟨by show 2<=LB;decide,[.int i s.toks,u],.cons ⟨_,rfl⟩ (.cons ru .nil),⟨_,hT,rfl,_,rfl⟩⟩
  have fE:=hf e (by simp)
  have hlt:e<s.heap.objs.size:=Li he;have hlt2:it<s.heap.objs.size:=by obtain ⟨_,z,_⟩:=hit;exact Li z
  refine wpAny_letOwnedTupleGo_enum ho fun h2 he2 hs2=>?_;have nE:(upd H s.heap.objs.size (.tup [.int (i:Int),x])) e=none:=by rw [av (Lz hlt)];exact fE.1
  refine ⟨.ref s.heap.objs.size,_,I1.turned (t':=s.toks+1) (fun b ob hb q=>(hs2.2 b hb).trans q) nE fE.2.1 fE.2.2.2.1 fE.2.2.2.2.1 fE.2.2.2.2.2,rfl,⟨_,x,rfl,I.hok.fresh (Lj _),rfl,fun ys hy=>by rw [I.iN hy hq];exact hx⟩,?_,fun b hb=>?_⟩
  ·refine ⟨⟨u,?_⟩,hit'.at fun o q=>(hs2.2 it (MX hei)).trans q⟩;have e1:((i+1:Nat):Int)=(i:Int)+1:=by lia
   rw [e1];exact he2
  ·have hb':b<s.heap.objs.size:=by
    rcases LL.mp hb with z|hb
    ·rw [z];exact hlt
    ·rw [Lb.mp hb];exact hlt2
   rw [av (Lz hb')];exact (hf b hb).1
 done:=by
  intro X hP hw hK hc i pins s σ H E I hf st hg;subst hP hw hK;obtain ⟨xs,hq,hx⟩:=hg;obtain ⟨its,rv,p,hz⟩:=I.list hq;obtain ⟨⟨old,he⟩,hit⟩:=st;have hl:=rv.length;obtain ⟨f0,f1,f2,f3,f4,f5⟩:=hf it (by simp)
  exact wpAny_pyNext_enum_end (I.ok.hd hc) he hit p.isList (by simp;lia) fun h' eb=>⟨rfl,I.turned (t':=s.toks) (fun b o hb e=>eb b o hb e) f0 f1 f3 f4 f5⟩
 self:=fun _ _ _ _ _ st h=>by
  obtain ⟨⟨old,he⟩,_⟩:=st;exact wpAny_pyIter_enum he h
def CT (K:KW) (vs:List V) (H:Hp) (R:It->Hp->Prop):Prop:=∃ a xs,vs=[.ref a]/\SqL K H a xs/\R (Ite K a) H
def C4 (K:KW) (ta:TA):TI:=fun σ H R=>ta σ H fun vs H1=>CT K vs H1 R
def Fi {X:Cx} (K:KW) (hK:X.K=K) {tgs:List Expr} {kk:Nat} {tpos:Pos} {a:Expr} {ta:TA} {p pos:Pos} (hg:Gl X "enumerate") (hm:X.mg "enumerate" = none) (ha:PA X [a] ta) (hs:LV [a] X.env=[(false,eval a X.env)]:=by rfl) :
  PI X (.Tuple tgs kk tpos) (.Call (.Name "enumerate" p) [a] [] pos) (C4 K ta):=by
 subst hK;intro pins s σ H R I h;refine Call_ (jz I hg hm boot_enumerate (Ml (thn (ha pos pins s σ H _ I h) fun us s1 ⟨vs,H1,I1,r1,q1⟩=>?_) hs rfl));obtain ⟨l,xs,e,hS,q⟩:=q1;subst e;cases r1 with
 | cons r rr =>
  cases rr;cases (show _=LF l from r);obtain ⟨its,rv,pl,hz⟩:=I1.list hS;refine call_enumerate_list pl.isList fun h' he hit hsz hk=>?_;refine wpAny_pyIter_enum he ?_;have I2:Inv X pins σ H1 { s1 with heap:=h' }:=I1.kept (t':=s1.toks) hk;refine ⟨s1.heap.objs.size+1,[s1.heap.objs.size+1,s1.heap.objs.size],_,_,H1,rfl,I2,ES l _ _ (Nat.succ_ne_self _),⟨⟨.none,he⟩,hit⟩,fun b hb=>?_,q⟩;rcases LL.mp hb with z|hb
  ·rw [z];exact I1.sI (NS _) (I1.hok.fresh (NS _))
  ·rw [Lb.mp hb];exact I1.sI (Lj _) (I1.hok.fresh (Lj _))
def By:V->List V->Hp->VK->Prop:=fun x vs H Q=>∃ (l:Addr) (xs:List V) (k:Int) (y:V),x=.ref l/\vs=[.int k,y]/\H l=some (.lst xs)/\0<=k/\k.toNat<=xs.length/\xs.length<1000000/\Q .non (upd H l (.lst (xs.take k.toNat++y :: xs.drop k.toNat)))
def CZ (its:List Value) (u2:Value) (k:Int) (h0:0<=k) (hi:k.toNat<=its.length) :
  (fun xs:Array Value=>(xs.extract 0 (if k<0 then (k+(xs.size:Int)).toNat else min k.toNat xs.size)).push u2++xs.extract (if k<0 then (k+(xs.size:Int)).toNat else min k.toNat xs.size)) its.toArray=(its.take k.toNat++u2 :: its.drop k.toNat).toArray:=by
 have h1:¬ (k<0):=by lia
 have hm:min k.toNat its.toArray.size=k.toNat:=by rw [Ly];lia
 dsimp only;rw [if_neg h1,hm];simp;exact Lf (by simp)
def DG {X:Cx}:MtM X "list.insert" By:=by
 intro pins s σ H x vs v us Q I rx rv h;obtain ⟨l,xs,k,y,rfl,rfl,hH,h0,hi,hl,q⟩:=h;cases rx;obtain ⟨u1,u2,rfl,r1,r2⟩:=rv.two;obtain ⟨t,rfl⟩:=(show ∃ t,u1=NU k t from r1);obtain ⟨z,its,n,r,hl',e⟩:=I.pU hH;have hz2:its.toArray.size<=LB:=by
  have e1:its.toArray.size=its.length:=Ly ..;lia
 have hfit:¬ (!Builtin.List.listFitsIndex k)=true:=by
  unfold Builtin.List.listFitsIndex;simp;lia
 have M3:=AutoSeq1.list_insert_list_int_val_1 l its.toArray n k t u2 hfit hz2;refine Oo F.slot_list_insert ⟨_,e,rfl⟩ F.entry_list_insert (F.args_list_insert_3 _ _ _) M3 ⟨e,?_⟩;have hv:Vals (xs.take k.toNat++y :: xs.drop k.toNat) (its.take k.toNat++u2 :: its.drop k.toNat):=(Vals.take k.toNat r).append (.cons r2 (Vals.drop k.toNat r));refine ⟨.non,_,I.GL (its':=its.take k.toNat++u2 :: its.drop k.toNat) hH e (CZ its u2 k h0 (by lia)) hv ?_,rfl,q⟩
 rw [Lg,LN,Lh,Og,L5];lia
def DM:List V->Hp->VK->Prop:=fun xs H Q=>∃ j:Int,xs=[.int j]/\∀ p,H p=none->Q (.ref p) (upd H p (.rng 0 j))
def qY {X:Cx}:dP X (.type "range") DM:=by
 intro pins s σ H xs us Q I r h;obtain ⟨j,rfl,q⟩:=h;obtain ⟨u,rfl,ru⟩:=vals1 r;obtain ⟨t,rfl⟩:=(show ∃ t,u=NU j t from ru);refine call_range_1 ?_;refine ⟨.ref s.heap.objs.size,_,I.laid (fun b u e=>La _ e) (Lj _) ?_,rfl,q _ (I.hok.fresh (Lj _))⟩;exact ⟨_,_,_,LQ _ rfl⟩
def uj:List V->Hp->VK->Prop:=fun xs H Q=>∃ (p:Addr) (n:Nat),xs=[.ref p]/\H p=some (.rng 0 (n:Int))/\n<=1000000/\∀ l,H l=none->Q (.ref l) (upd H l (.lst ((K3 n).map fun (i:Nat)=>V.int (i:Int))))
def rC:∀ {xs:List V} {us:List Value},xs.length=us.length->(∀ (i:Nat) (x:V) (u:Value),xs[i]?=some x->us[i]?=some u->RelV x u)->Vals xs us
 | [],[],_,_=>.nil
 | [],_ :: _,h,_=>by cases h
 | _ :: _,[],h,_=>by cases h
 | x :: xs,u :: us,h,g=>.cons (g 0 x u rfl rfl) (rC (by simpa using h) fun i y v hy hv=>g (i+1) y v (by simpa using hy) (by simpa using hv))
def Dx {n:Nat} (h:n<=1000000):n<=LB:=by rw [L5];lia
def mW {X:Cx} (hc:X.calm=true):dP X (.type "list") uj:=by
 intro pins s σ H xs us Q I r h;obtain ⟨p,n,rfl,hp,hn,q⟩:=h;obtain ⟨u,rfl,ru⟩:=vals1 r;cases (show u=LF p from ru);obtain ⟨t1,t2,t3,hr⟩:=(show bX X.prog X.w H s.heap p (.rng 0 (n:Int)) from I.hok p _ hp);have hs:O8 0 (n:Int) 1=n:=by rw [rangeSize_one];split <;> lia
 refine call_list_range (n:=n) (I.ok.hd hc) hr (small_one (by lia) (by lia) (by lia) (by lia)) (by exact_mod_cast hs) (by lia) fun h' tk acc c' hk hS hacc=>?_
 refine ⟨.ref s.heap.objs.size,_,I.laid hk (Lj _) ?_,rfl,q _ (I.hok.fresh (Lj _))⟩;obtain ⟨ha1,ha2⟩:=hacc;have hl:((K3 n).map fun (i:Nat)=>V.int (i:Int)).length=acc.toList.length:=by simp;exact ha1.symm
 refine ⟨by simp;exact Dx hn,acc.toList,c',rC hl fun i x u hx hu=>?_,by simpa using hS⟩
 have hi:i<n:=by
  have:=(K0.mp hx).1
  simpa using this
 obtain ⟨t,e⟩:=ha2 i u (by simpa using hu)
 have ex:x=V.int (i:Int):=by
  rw [K4,LK hi] at hx;exact (LG hx).symm
 rw [ex];exact ⟨t,by simpa using e⟩
section
variable {σ:St} {H:Hp} {Q:VK} {D:Ends} {K:KW} {t:TS} {ta tb:TE} {g:TG} {v w x y:V} {tA:TA} {a:Int}
def BO {n:Int} (q:∀ p,H p=none->Q (.ref p) (upd H p (.rng 0 n))):DM [.int n] H Q:=⟨n,rfl,q⟩
def i7 {l:List Nat}:MB (Rep.is K H) (l.map fun (n:Nat)=>V.int (n:Int)) l:=by
 have q:=Paired.of_map (F:=fun (v:V) (a:Nat)=>v=.int (a:Int)) (f:=fun (n:Nat)=>V.int (n:Int)) (g:=id) (fun _=>rfl) l;rw [Pb] at q;exact q
def rB {p:Addr} {n:Nat} (hp:H p=some (.rng 0 (n:Int))) (hn:n<=1000000) (q:∀ l H',H l=none->ai H H'->Gr K H' l (K3 n)->Q (.ref l) H'):uj [.ref p] H Q :=
 ⟨p,n,rfl,hp,hn,fun l hl=>q l _ hl (aw hl _) ⟨_,au,i7⟩⟩
def uk {to ti:TE} {ts:CJ} {QS:St->Hp->Prop} (h:to σ H fun o H1=>ti σ H1 fun i H2=>ts o i v H2 fun H3=>QS σ H3):IW to ti ts v σ H QS:=h
def Az {p:Addr} {xs:List V} {j:Nat} {QH:Hp->Prop} (hp:H p=some (.lst xs)) (e:a=(j:Int)) (hj:j<xs.length) (q:QH (upd H p (.lst (xs.set j v)))):G4 (.ref p) (.int a) v H QH:=by
 subst e;refine ⟨p,xs,_,j,rfl,rfl,hp,?_,q⟩;unfold ixN;rw [if_pos (by lia),if_pos (by lia)]
 rfl
def isP (vs:List V) (H:Hp) (k:V->V->Hp->Prop):Prop:=∃ v w,vs=[v,w]/\k v w H
def yz {i j:Nat} (h:tA σ H fun vs H1=>isP vs H1 fun v w H1=>D.nx ((σ.set i (some v)).set j (some w)) H1):JB i j tA D σ H:=h
def sU {k:V->V->Hp->Prop} (h:k x y H):isP [x,y] H k:=⟨x,y,rfl,h⟩
def qx {R:It->Hp->Prop} (h:tA σ H fun vs H1=>CT K vs H1 R):C4 K tA σ H R:=h
def ng {α:Type} [Rep α] {l:List α} {ia ib:Nat} {H₀:Hp} (h:At K H₀ v l) (Pv:Nat->St->Hp->Prop) (h0:Pv 0 σ H) (hl:∀ i σ' H',Pv i σ' H'->ai H₀ H')
  (hs:∀ i c w σ' H' H'' p,l[i]?=some c->At K H₀ w c->Pv i σ' H'->H' p=none->H''=upd H' p (.tup [.int (i:Int),w])->ai H' H''->t { D with nx:=Pv (i+1),ct:=Pv (i+1),bk:=D.nx } ((σ'.set ia (some (.int (i:Int)))).set ib (some w)) H'')
  (hd:∀ σ' H',Pv l.length σ' H'->D.nx σ' H'):CT K [v] H (ki (jQ K 2 (cW (cw ia) (cW (cw ib) jM))) t D σ):=by
 obtain ⟨p,xs,rfl,hS,hP⟩:=h;have hlen:=hP.length;refine ⟨p,xs,rfl,(hl 0 σ H h0).seq hS,fun i m σ' H'=>m=xs.length - i/\i<=xs.length/\Pv i σ' H',⟨xs.length,by simp,Mb _,h0⟩,?_⟩
 rintro i m σ' H' ⟨rfl,hi,p0⟩;have q:=(hl i σ' H' p0).seq hS
 by_cases hlt:i<xs.length
 ·refine .inr ⟨⟨xs,xs[i],q,by simp [hlt]⟩,Pv (i+1),fun σ2 H2 p'=>⟨xs.length - (i+1),by lia,rfl,hlt,p'⟩,fun z H2 yl=>?_⟩
  obtain ⟨d,w,rfl,hd',rfl,hw⟩:=yl;have hx:=hw xs q;obtain ⟨c,hc,r⟩:=Paired.getL hP hx;refine ⟨d,[.int (i:Int),w],rfl,SqT.of au,rfl,⟨_,_,rfl,⟨_,_,rfl,⟨rfl,?_⟩⟩⟩⟩;exact hs i c w σ' H' _ d hc r p0 hd' rfl (aw hd' _)
 ·have e:i=xs.length:=by lia
  subst e;exact .inl ⟨⟨xs,q,Lj _⟩,hd σ' H' (by rw [hlen] at p0;exact p0)⟩
end
def aA (r:List Nat):List V:=r.map fun (n:Nat)=>V.int (n:Int)
structure Tbl (H:Hp) (d:Addr) (rows:List (List Nat)) (ps:List Addr):Prop where
 top:H d=some (.lst (ps.map V.ref))
 nd:ps.Nodup
 ap:d∉ps
 len:ps.length=rows.length
 row:∀ (i:Nat) (p:Addr) (r:List Nat),ps[i]?=some p->rows[i]?=some r->H p=some (.lst (aA r))
section
variable {H H':Hp} {d:Addr} {rows:List (List Nat)} {ps:List Addr} {K:KW}
def Tbl.mono (s:ai H H') (h:Tbl H d rows ps):Tbl H' d rows ps:=⟨s _ _ h.top,h.nd,h.ap,h.len,fun i p r e1 e2=>s _ _ (h.row i p r e1 e2)⟩
def oA {α β:Type} {F:α->β->Prop}:∀ {xs:List α} {ys:List β},xs.length=ys.length->(∀ (i:Nat) (x:α) (y:β),xs[i]?=some x->ys[i]?=some y->F x y)->MB F xs ys
 | [],[],_,_=>.nil
 | [],_ :: _,h,_=>by cases h
 | _ :: _,[],h,_=>by cases h
 | x :: xs,y :: ys,h,g=>.cons (g 0 x y rfl rfl) (oA (by simpa using h) fun i u v hu hv=>g (i+1) u v (by simpa using hu) (by simpa using hv))
def Tbl.at (h:Tbl H d rows ps):At K H (.ref d) rows:=by
 refine ⟨d,_,rfl,SqL.of h.top,oA (by rw [KY,h.len]) fun i x r hx hr=>?_⟩
 rw [K4] at hx;cases e:ps[i]? with
 | none=>rw [e] at hx;cases hx
 | some p =>
  rw [e] at hx;have hx':x=V.ref p:=(LG hx).symm;rw [hx'];exact ⟨p,_,rfl,SqL.of (h.row i p r e hr),i7⟩
def Tbl.get (h:Tbl H d rows ps) {i:Nat} {r:List Nat} (e:rows[i]?=some r):∃ p,ps[i]?=some p/\H p=some (.lst (aA r)):=by
 have hi:i<ps.length:=by rw [h.len];exact (K0.mp e).1
 exact ⟨ps[i],by simp [hi],h.row i _ r (by simp [hi]) e⟩
def Tbl.set (h:Tbl H d rows ps) {i j n:Nat} {p:Addr} {r:List Nat} (e:rows[i]?=some r) (hp:ps[i]?=some p):Tbl (upd H p (.lst ((aA r).set j (.int (n:Int))))) d (rows.set i (r.set j n)) ps:=by
 have hi:i<ps.length:=(K0.mp hp).1;have mem:p∈ps:=K1 hp;refine ⟨by rw [av (fun z=>h.ap (by rw [z];exact mem))];exact h.top,h.nd,h.ap,by rw [NX];exact h.len,fun k q r' hq hr=>?_⟩
 by_cases hk:k=i
 ·subst hk;rw [hp] at hq;cases hq;rw [Mt (by rw [<- h.len];exact hi)] at hr
  cases hr;rw [au];unfold aA;rw [List.map_set]
 ·rw [ME (MX hk)] at hr;have hne:q≠p:=fun z=>hk (by
   subst z;have h1:=(K0.mp hq);have h2:=(K0.mp hp);exact (Of h.nd).mp (h1.2.trans h2.2.symm))
  rw [av hne];exact h.row k q r' hq hr
end
def nF {K:KW} {H:Hp} {v:V} {Q:VK} {σ:St} {rows:List (List Nat)} {x:Str} (h:At K H v rows) (hz:rows.length<=100000) (fin:∀ d H' ps,ai H H'->H d=none->(∀ p∈ps,H p=none)->Tbl H' d rows ps->Q (.ref d) H') :
  iz K v H (cS [x] [] (cw 0) sL (tCB (BS K) (kj (o9 0) rZ)) σ Q):=by
 obtain ⟨p,xs,rfl,hS,hP⟩:=h;have hl:=hP.length;refine ⟨p,rfl,⟨xs,hS⟩,fun d hd=>?_⟩;refine ⟨fun i m σ' H'=>m=xs.length - i/\i<=xs.length/\(∃ y,σ'=[y])/\ai H H'/\∃ ps,(∀ p∈ps,H p=none)/\Tbl H' d (rows.take i) ps,⟨xs.length,rfl,Mb _,⟨_,rfl⟩,aw hd _,[],by simp,⟨au,Qa,by simp,by simp,fun i p r e _=>by simp at e⟩⟩,?_⟩
 rintro i m σ' H' ⟨rfl,hi,⟨y,rfl⟩,hs,ps,hps,T⟩
 by_cases hlt:i<xs.length
 ·refine .inr ⟨⟨xs,xs[i],hs.seq hS,by simp [hlt]⟩,fun z H2 yl=>?_⟩
  obtain ⟨rfl,hz'⟩:=yl;have hx:=hz' xs (hs.seq hS);obtain ⟨c,hc,r⟩:=Paired.getL hP hx;obtain ⟨q,e,hq⟩:=gU (Rep.mono hs r);subst e;have tl:=T.len;have hci:i<rows.length:=(K0.mp hc).1;rw [Lh,Ou (by lia)] at tl
  refine oX ?_;refine nR ?_;refine pB ?_;refine ⟨_,rfl,q,_,rfl,.inl hq,fun l hl'=>?_⟩;have nld:l≠d:=fun e=>by rw [e,T.top] at hl';cases hl'
  have hHl:H l=none:=hs.free hl';refine ⟨_,(by rw [av nld.symm];exact T.top),?_,xs.length - (i+1),by lia,rfl,hlt,⟨_,rfl⟩,fun b o eb=>?_,ps++[l],fun p' hp'=>?_,?_⟩
  ·rw [KY,tl,L5];lia
  ·rw [av (aH eb hd),av (aH eb hHl)];exact hs b o eb
  ·rcases LP.mp hp' with z|z
   ·exact hps p' z
   ·rw [Lb.mp z];exact hHl
  ·have nlp:l∉ps:=fun z=>by
    obtain ⟨k,hk⟩:=LS z;have hk':k<i:=by have:=(K0.mp hk).1;lia
    have hr:(rows.take i)[k]?=some (rows[k]'(by lia)):=by rw [MP hk'];simp
    have z1:=T.row k l _ hk hr;rw [z1] at hl';cases hl'
   refine ⟨by rw [au,LR];rfl,?_,?_,?_,fun k p' r' hk hr=>?_⟩
   ·rw [OW];exact ⟨T.nd,by simp,fun a ha b hb=>by rw [Lb.mp hb];exact fun z=>nlp (z ▸ ha)⟩
   ·intro z;rcases LP.mp z with z|z
    ·exact T.ap z
    ·exact nld (Lb.mp z).symm
   ·rw [Lg,Lh,Ou (by lia)];simp;lia
   ·have nd':p'≠d:=fun z=>by
     rw [z] at hk;rcases LP.mp (K1 hk) with z' | z'
     ·exact T.ap z'
     ·exact nld (Lb.mp z').symm
    rw [av nd']
    by_cases hki:k<i
    ·rw [Lq (by lia)] at hk
     have hr2:(rows.take i)[k]?=some r':=by
      rw [MP (by lia)] at hr ⊢;exact hr
     have np:p'≠l:=fun z=>nlp (by rw [<- z];exact K1 hk)
     rw [av np];exact T.row k p' r' hk hr2
    ·have hk2:k<i+1:=by
      have:=(K0.mp hr).1;rw [Lh] at this;lia
     have ek:k=i:=by lia
     subst ek;rw [Lr (by lia),tl,QE] at hk
     have e1:l=p':=by simpa using hk
     subst e1;rw [MP (by lia),hc] at hr
     cases hr;rw [au];unfold aA;rfl
 ·have e:i=xs.length:=by lia
  subst e;refine .inl ⟨⟨xs,hs.seq hS,Lj _⟩,?_⟩;rw [hl,Mn] at T;exact fin d H' ps hs hd hps T
def Wr (K:KW) {α:Type} [Rep α] (t:TE) (a:α):Prop:=∀ σ H Q,(∀ v H',ai H H'->At K H' v a->Q v H')->t σ H Q
def WrA (K:KW) {α:Type} [Rep α] (t:TA) (l:List α):Prop:=∀ σ H Q,(∀ vs H',ai H H'->MB (Rep.is K H') vs l->Q vs H')->t σ H Q
section
variable {K:KW} {α:Type} [Rep α] {t:TE} {tA:TA} {a:α} {l:List α}
def DB {n:Nat} {i:Int} (e:i=(n:Int)):Wr K (tC (.int i)) n:=fun _ H _ q=>q _ H (ai.refl _) (by rw [e];rfl)
def jC:WrA K rZ ([]:List α):=fun _ H _ q=>q [] H (ai.refl _) .nil
def uQ (h:Wr K t a) (hr:WrA K tA l):WrA K (kj t tA) (a :: l):=fun σ H Q q=>h σ H _ fun v H1 s1 a1=>hr σ H1 _ fun vs H2 s2 a2=>q _ H2 (s1.trans s2) (.cons (Rep.mono s2 a1) a2)
def Dy (h:WrA K tA l) (hz:l.length<=1000):Wr K (yG tA) l:=fun σ H Q q=>h σ H _ fun vs H1 s1 a1=>⟨by have:=a1.length;exact small (by lia),fun p hp=>q _ _ (s1.trans (aw hp _)) ⟨p,vs,rfl,SqL.of au,Paired.dD a1 fun _ _ z=>Rep.mono (aw hp _) z⟩⟩
end
def Kf {K:KW} {α:Type} [Rep α] {H:Hp} {x y:V} {l r:List α} {Q:VK} (hx:∃ p xs,x=.ref p/\H p=some (.lst xs)/\MB (Rep.is K H) xs l) (hy:∃ p xs,y=.ref p/\H p=some (.lst xs)/\MB (Rep.is K H) xs r) (hz:l.length+r.length<=100000)
  (q:∀ d H',H d=none->ai H H'->At K H' (.ref d) (l++r)->Q (.ref d) H'):Jc x y H Q:=by
 obtain ⟨p,xs,rfl,h1,r1⟩:=hx;obtain ⟨p',ys,rfl,h2,r2⟩:=hy;have e1:=r1.length;have e2:=r2.length;refine ⟨p,p',xs,ys,rfl,rfl,h1,h2,by rw [L5];lia,fun d hd=>q d _ hd (aw hd _) ⟨d,_,rfl,SqL.of au,Paired.app (Paired.dD r1 fun _ _ z=>Rep.mono (aw hd _) z) (Paired.dD r2 fun _ _ z=>Rep.mono (aw hd _) z)⟩⟩
def isStar:Expr->Bool
 | .Starred ..=>true
 | _=>false
def bD {e:Expr} {es:List Expr} {env:Env} (h:isStar e=false):LV (e :: es) env=(false,eval e env) :: LV es env:=by
 cases e <;> first|rfl|cases h
def cD {env:Env} {pos:Pos}:∀ {es:List Expr},es.all (fun e=>!isStar e)=true->(backTo pos (LV es env)).any (·.1)=false
 | [],_=>rfl
 | e :: es,h=>by
  rw [Pa,NQ] at h;rw [bD (by simpa using h.1)]
  have ih:=cD (env:=env) (pos:=pos) h.2;show (backTo pos ((false,eval e env) :: LV es env)).any (·.1)=false;unfold backTo at ih ⊢
  simpa using ih
def Gw {env:Env} {pos:Pos} {es:List Expr} (h:es.all (fun e=>!isStar e)=true) (hl:es.length<30):((backTo pos (LV es env)).all (fun x=>!x.1) && (backToKw pos (keywordEach [] env)).all (fun x=>x.1.isSome)
   && decide (es.length+([]:List Py).length+(if ([]:List Py).isEmpty then 0 else 1)<30))=true:=by
 have h1:=cD (env:=env) (pos:=pos) h;have h2:(backTo pos (LV es env)).all (fun x=>!x.1)=true:=by
  rw [N5] at h1;rw [LC];intro x hx;have:=h1 x hx
  simpa using this
 rw [h2];show (true && true && decide (es.length+0+0<30))=true
 simpa using hl
section
variable {X:Cx} {e o:Expr} {es:List Expr} {te:TE} {t:TA} {x:Str} {st:Stmt} {ps:List Str} {k:Nat} {sp:Sp} {p pos:Pos}
def paF (ha:PE X e te) (hr:PA X es t) (hn:isStar e=false:=by rfl):PA X (e :: es) (kj te t):=vw ha hr (bD hn)
def ay (d:Df X.K X.mg x st ps) (G:aJ X.prog X.w X.K X.mg X.base CX0 k d.f d.fd ps sp) (hr:b6 k X.A) (hg:Gl X x) (ha:PA X (e :: es) t) (hn:isStar e=false:=by rfl) (hall:es.all (fun e=>!isStar e)=true:=by rfl) (hdb:(x == ("__debug__" : Str))=false:=by decide) :
  PE X (.Call (.Name x p) (e :: es) [] pos) (nD sp [] E0 t):=J8 d G hr hg ha hdb (bD hn) (cD hall)
def aI {id:String} {r:List V->Hp->VK->Prop} (hc:dP X (.builtin id) r) (hg:Gl X x) (hm:X.mg x=none) (hv:bootBuiltins x=some (.builtin id)) (ha:PA X (e :: es) t) (hn':isStar e=false:=by rfl) (hall:es.all (fun e=>!isStar e)=true:=by rfl) (hn:x ≠ "__name__":=by decide) (hdb:(x == ("__debug__" : Str))=false:=by decide) :
  PE X (.Call (.Name x p) (e :: es) [] pos) (tCB r t):=FK hc hg hm hv ha hn hdb (bD hn') (cD hall)
def cJ {T:String} {r:List V->Hp->VK->Prop} (hc:dP X (.type T) r) (hg:Gl X x) (hm:X.mg x=none) (hv:bootBuiltins x=some (.type T)) (ha:PA X (e :: es) t) (hn':isStar e=false:=by rfl) (hall:es.all (fun e=>!isStar e)=true:=by rfl) (hn:x ≠ "__name__":=by decide) (hdb:(x == ("__debug__" : Str))=false:=by decide) :
  PE X (.Call (.Name x p) (e :: es) [] pos) (tCB r t):=Ef hc hg hm hv ha hn hdb (bD hn') (cD hall)
def bZ (K:KW) (hK:X.K=K) {T id:String} {name:Str} {r:V->List V->Hp->VK->Prop} {to:TE} {apos cpos:Pos} (pa:PlainAttrs T) (slot:Slot T name id) (hty:typeOf (.builtin id)=pure (.type "method_descriptor")) (hm:MtR X id r) (ho:PE X o to) (ha:PA X (e :: es) t)
  (hbase:attributeBase o name X.env (eval o X.env)=eval o X.env:=by rfl) (hn:isStar e=false:=by rfl) (hall:es.all (fun e=>!isStar e)=true:=by rfl) (hl:(e :: es).length<30:=by decide) (hline:(apos.endLine == cpos.line)=true:=by rfl) :
  PE X (.Call (.Attribute o name apos) (e :: es) [] cpos) (tBM K T r to t) :=
 Ja K hK pa slot hty hm ho ha hbase (Gw (by rw [Pa,hn,hall];rfl) hl) hline (bD hn) (cD hall)
def aM {tg a:Expr} {ta:TA} (hg:Gl X "range") (hm:X.mg "range" = none) (ha:PA X [a] ta) (hn:isStar a=false:=by rfl):PI X tg (.Call (.Name "range" p) [a] [] pos) (B3 ta):=DH hg hm ha (bD hn)
def iO (K:KW) (hK:X.K=K) {tgs:List Expr} {kk:Nat} {tpos:Pos} {a:Expr} {ta:TA} (hg:Gl X "enumerate") (hm:X.mg "enumerate" = none) (ha:PA X [a] ta) (hn:isStar a=false:=by rfl) :
  PI X (.Tuple tgs kk tpos) (.Call (.Name "enumerate" p) [a] [] pos) (C4 K ta):=Fi K hK hg hm ha (bD hn)
end
section
variable {X:Cx} {CX:CXT} {k:Nat} {f C:Addr} {fd:LZ} {ps:List Str} {sp:Sp} {dvs:List V} {ds:List Value} {E:XK} {x:Str} {p pos:Pos} {e:Expr} {es:List Expr} {t:TA}
def nu (M:Mk X.K C f) (F:aJ X.prog X.w X.K X.mg X.base CX k f fd ps sp) (hr:b6 (k+1) X.A) (hg:Gl X x) (hm:X.mg x=some (.ref C)) (hb:Binds X.K fd ps ds) (hd:Vals dvs ds) (hx:Passes CX X E)
  (ha:PA X (e :: es) t) (hn:isStar e=false:=by rfl) (hall:es.all (fun e=>!isStar e)=true:=by rfl) (hdb:(x == ("__debug__" : Str))=false:=by decide):PE X (.Call (.Name x p) (e :: es) [] pos) (CY C sp dvs E t) :=
 IG M F hr hg hm hb hd hx ha hdb (bD hn) (cD hall)
end
section
variable {σ:St} {H H':Hp} {Q:VK} {K:KW} {a b:Nat}
def KR {n:Nat} (h:Q (.int ((@OfNat.ofNat Nat n (instOfNatNat n):Nat):Int)) H):tC (.int (@OfNat.ofNat Int n instOfNat)) σ H Q:=h
def Jp (q:Q (.int ((a+b:Nat):Int)) H):rI0 (fun i j=>.int (i+j)) (.int (a:Int)) (.int (b:Int)) H Q:=⟨a,b,rfl,rfl,by
 have e:(a:Int)+(b:Int)=((a+b:Nat):Int):=by lia
 dsimp only;rw [e];exact q⟩
def pW (h:a<18446744073709551616\/b<18446744073709551616) (q:Q (.int ((a * b:Nat):Int)) H):rI De (fun i j=>.int (i * j)) (.int (a:Int)) (.int (b:Int)) H Q:=⟨a,b,rfl,rfl,by
 rcases h with h|h
 ·exact .inl ⟨by lia,by lia⟩
 ·exact .inr ⟨by lia,by lia⟩,by
 have e:(a:Int) * (b:Int)=((a * b:Nat):Int):=by push_cast;rfl
 dsimp only;rw [e];exact q⟩
def tJ (h:0<b) (q:Q (.int ((a % b:Nat):Int)) H):rI (fun _ j=>0<j) (fun i j=>.int (i % j)) (.int (a:Int)) (.int (b:Int)) H Q:=⟨a,b,rfl,rfl,by lia,by
 have e:(a:Int) % (b:Int)=((a % b:Nat):Int):=by push_cast;rfl
 dsimp only;rw [e];exact q⟩
def kP (h:0<b) (h2:b<1073741824) (q:Q (.int ((a / b:Nat):Int)) H):rI Jr (fun i j=>.int (i / j)) (.int (a:Int)) (.int (b:Int)) H Q:=⟨a,b,rfl,rfl,⟨by lia,by lia⟩,by
 have e:(a:Int) / (b:Int)=((a / b:Nat):Int):=by push_cast;rfl
 dsimp only;rw [e];exact q⟩
def lD {p q:Prop} [Decidable p] [Decidable q] (h:p↔q) {R:Bool->Prop} (z:R (decide q)):R (decide p):=by
 rw [decide_eq_decide.mpr h];exact z
def Kw (q:Q (.bl (decide (a=b))) H):rEq (.int (a:Int)) (.int (b:Int)) H Q:=uv (lD (R:=fun k=>Q (.bl k) H) (by lia) q)
def Kg (q:Q (.bl (!decide (a=b))) H):rNe (.int (a:Int)) (.int (b:Int)) H Q:=tQ (lD (R:=fun k=>Q (.bl (!k)) H) (by lia) q)
def Kj (q:Q (.bl (decide (a<b))) H):rI0 (fun i j=>.bl (decide (i<j))) (.int (a:Int)) (.int (b:Int)) H Q:=⟨a,b,rfl,rfl,lD (R:=fun k=>Q (.bl k) H) (by lia) q⟩
def Kp (q:Q (.bl (decide (b<a))) H):rI0 (fun i j=>.bl (decide (j<i))) (.int (a:Int)) (.int (b:Int)) H Q:=⟨a,b,rfl,rfl,lD (R:=fun k=>Q (.bl k) H) (by lia) q⟩
def Kx (q:Q (.bl (decide (b<=a))) H):rI0 (fun i j=>.bl (decide (j<=i))) (.int (a:Int)) (.int (b:Int)) H Q:=⟨a,b,rfl,rfl,lD (R:=fun k=>Q (.bl k) H) (by lia) q⟩
def bh {v:V} {l:List Nat} {n c:Nat} (h:At K H v l) (hn:l[n]?=some c) (q:Q (.int (c:Int)) H):pQ K v (.int (n:Int)) H Q:=iH h rfl hn q
end
section
variable {β:Type} [Rep β] {K:KW} {H H':Hp} {d:Addr} {l:List β} {y:V} {b:β} {Q:VK}
def FH {k:Nat} (h:Gr K H d l) (hk:k<=l.length) (hl:l.length<=100000) (hy:At K (del H d) y b) (q:∀ H',Gr K H' d (l.take k++b :: l.drop k)->(∀ a o,a≠d->H a=some o->H' a=some o)->Q .non H'):By (.ref d) [.int (k:Int),y] H Q:=by
 obtain ⟨ys,h1,h2⟩:=h;have e:=h2.length;refine ⟨d,ys,k,y,rfl,rfl,h1,by lia,by lia,by lia,?_⟩
 refine q _ ⟨_,au,?_⟩ (fun a o ha z=>by rw [av ha];exact z)
 rw [OT];exact Paired.app (Paired.ym k (Paired.dD h2 fun _ _ z=>Rep.mono iR z)) (.cons (Rep.mono iR hy) (Paired.yC k (Paired.dD h2 fun _ _ z=>Rep.mono iR z)))
end
def J7 {H H':Hp} {d:Addr} (k:∀ a o,a≠d->H a=some o->H' a=some o):ai (del H d) (del H' d):=fun b o h=>by
 by_cases hb:b=d
 ·rw [hb] at h;have z:del H d d=none:=if_pos rfl;rw [z] at h;cases h
 ·rw [fK hb] at h ⊢;exact k b o hb h
def nZ {K:KW} {H:Hp} {p d:Addr} {l:List Nat} (h:Gr K H p l) (hne:p≠d):At K (del H d) (.ref p) l:=by
 obtain ⟨ys,hy,hP⟩:=h;refine ⟨p,ys,rfl,SqL.of (by rw [fK hne];exact hy),?_⟩
 exact Paired.dD hP fun _ _ z=>z
def Ko {K:KW} {H:Hp} {d:Addr} {rows:List (List Nat)} {ps:List Addr} {i:Nat} {p:Addr} {Q:VK} (h:Tbl H d rows ps) (hp:ps[i]?=some p) (q:Q (.ref p) H):pQ K (.ref d) (.int (i:Int)) H Q :=
 ⟨d,_,_,_,rfl,rfl,SqL.of h.top,f7 (by rw [K4,hp];rfl),q⟩
def E8 {α:Type} (l:List α):cut l (some 1) none=l.drop 1:=by
 unfold cut;have e:HT.sIx l.length 0 (some 1)=min 1 l.length:=HT.IF l.length 0 1;rw [e,HT.Gp];cases l with
 | nil=>rfl
 | cons x r =>
  have:min 1 (x :: r).length=1:=by simp
  rw [this];exact Lf (by simp)
def Gr.copy {α:Type} [Rep α] {K:KW} {H:Hp} {d:Addr} {l:List α} (h:Gr K H d l):∃ p xs,V.ref d=.ref p/\H p=some (.lst xs)/\MB (Rep.is K H) xs l:=by
 obtain ⟨ys,h1,h2⟩:=h;exact ⟨d,ys,rfl,h1,Paired.dD h2 fun _ _ z=>Rep.mono jF z⟩
def eP {K:KW} {α:Type} [Rep α] {tA:TA} {l:List α} (h:WrA K tA l) (hz:l.length<=1000) {σ:St} {H:Hp} {Q:VK} (q:∀ d H',H d=none->ai H H'->Gr K H' d l->Q (.ref d) H'):yG tA σ H Q :=
 h σ H _ fun vs H1 s1 a1=>⟨by have:=a1.length;exact small (by lia),fun p hp=>q p _ (s1.free hp) (s1.trans (aw hp _)) ⟨vs,au,Paired.dD a1 fun _ _ z=>Rep.mono (fun b o e=>by
  have hb:b≠p:=aH e hp;rw [fK hb,av hb];exact e) z⟩⟩
def since (H H':Hp):Hp:=fun a=>match H a with
 | none=>H' a
 | some _=>none
section
variable {H H' H'':Hp} {a d:Addr} {rows:List (List Nat)} {ps:List Addr} {K:KW}
def fL (h:H a=none):since H H' a=H' a:=by unfold since;rw [h]
def kY:ai (since H H') H':=fun b o h=>by
 unfold since at h
 split at h
 ·exact h
 ·cases h
def Tbl.since (h:Tbl H' d rows ps) (fd:H d=none) (fps:∀ p∈ps,H p=none):Tbl (since H H') d rows ps :=
 ⟨by rw [fL fd];exact h.top,h.nd,h.ap,h.len,fun i p r e1 e2=>by rw [fL (fps p (K1 e1))];exact h.row i p r e1 e2⟩
def Gr.since {l:List Nat} (h:Gr K H' d l) (fd:H d=none):At K (since H H') (.ref d) l:=by
 obtain ⟨ys,hy,hP⟩:=h;exact ⟨d,ys,rfl,SqL.of (by rw [fL fd];exact hy),Paired.dD hP fun _ _ z=>z⟩
end
def iW {K:KW} {H H₀:Hp} {σ:St} {g:TG} {t:TS} {D:Ends} {v:V} {α:Type} [Rep α] {l:List α} (h:At K H₀ v l) (Pv:Nat->St->Hp->Prop) (h0:Pv 0 σ H) (hl:∀ i σ' H',Pv i σ' H'->ai H₀ H')
  (hs:∀ i c w σ' H',l[i]?=some c->At K H₀ w c->Pv i σ' H'->g w σ' H' fun σ2 H2=>t { D with nx:=Pv (i+1),ct:=Pv (i+1),bk:=D.nx } σ2 H2) (hd:∀ σ' H',Pv l.length σ' H'->D.nx σ' H') :
  iz K v H (ki g t D σ):=by
 obtain ⟨p,xs,rfl,hS,hP⟩:=h;refine ⟨p,rfl,⟨xs,(hl 0 σ H h0).seq hS⟩,rY (K:=K) (a:=p) (xs:=xs) Pv h0 (fun i σ' H' _ q=>(hl i σ' H' q).seq hS) (fun i x σ' H' hx q=>?_) (fun σ' H' q=>?_)⟩
 ·obtain ⟨c,hc,r⟩:=Paired.getL hP hx;exact hs i c x σ' H' hc r q
 ·rw [hP.length] at q;exact hd σ' H' q
def zN {H H':Hp} {d:Addr} (s:ai H H') (hd:H d=none):ai H (del H' d):=fun b o z=>by
 rw [fK (aH z hd)];exact s b o z
def lX {c:TT} {t:TS} {D:Ends} {σ:St} {H:Hp} (W:Nat->St->Hp->Prop) (m:Nat) (h0:W m σ H)
  (hs:∀ m σ' H',W m σ' H'->c σ' H' fun b H1=>if b=true then ∃ N:St->Hp->Prop,(∀ σ2 H2,N σ2 H2->∃ m',m' < m/\W m' σ2 H2)/\t { D with nx:=N,ct:=N,bk:=D.nx } σ' H1 else D.nx σ' H1):ER c t D σ H:=⟨W,⟨m,h0⟩,hs⟩
def GN (K:KW):List V->Hp->VK->Prop:=fun xs H Q=>∃ (p:Addr) (bs:List Bool),xs=[.ref p]/\SqL K H p (bs.map V.bl)/\Q (.bl (bs.any id)) H
def FA (K:KW):List V->Hp->VK->Prop:=fun xs H Q=>∃ (p:Addr) (bs:List Bool),xs=[.ref p]/\SqL K H p (bs.map V.bl)/\Q (.bl (bs.all id)) H
def oO:∀ {bs:List Bool} {its:List Value},Vals (bs.map V.bl) its->∀ (i:Nat) (v:Value),its[i]?=some v->∃ b,bs[i]?=some b/\v=.bool b
 | [],_,.nil,i,v,e=>by simp at e
 | b :: bs,_,.cons r t,0,v,e=>by
  simp at e;subst e;exact ⟨b,rfl,r⟩
 | b :: bs,_,.cons r t,i+1,v,e=>by
  obtain ⟨c,h1,h2⟩:=oO (bs:=bs) t i v (by simpa using e)
  exact ⟨c,by simpa using h1,h2⟩
def BW (bs:List Bool):((K3 bs.length).any fun i=>(bs[i]?).getD false)=bs.any id:=by
 rw [MC,Pj,Pj];constructor
 ·rintro ⟨i,hi,e⟩;have hi':=K7.mp hi;simp only [KZ hi',Nq] at e;exact ⟨_,MG hi',e⟩
 ·rintro ⟨b,hb,e⟩;obtain ⟨i,hi,rfl⟩:=Qg hb;exact ⟨i,K7.mpr hi,by simp only [KZ hi,Nq];exact e⟩
def B5 (bs:List Bool):((K3 bs.length).all fun i=>(bs[i]?).getD true)=bs.all id:=by
 rw [MC,LC,LC];constructor
 ·intro h b hb;obtain ⟨i,hi,rfl⟩:=Qg hb;have:=h i (K7.mpr hi);simp only [KZ hi,Nq] at this;exact this
 ·intro h i hi;have hi':=K7.mp hi;simp only [KZ hi',Nq];exact h _ (MG hi')
def D3 {X:Cx} (hc:X.calm=true):dP X (.builtin "any") (GN X.K):=by
 intro pins s σ H xs us Q I r h;obtain ⟨p,bs,rfl,hS,q⟩:=h;obtain ⟨u,rfl,ru⟩:=vals1 r;cases (show u=LF p from ru);obtain ⟨its,rv,pl,hz⟩:=I.list hS;have hl:=pl.isList;have hlen:its.length=bs.length:=by have:=rv.length;simp at this;lia
 have hlt:p<s.heap.objs.size:=by obtain ⟨_,e,_⟩:=hl;exact Li e
 refine call_any_walk (OP hl ?_);refine ⟨s.heap.objs.size,[s.heap.objs.size,p],[s.heap.objs.size],its.toArray.size,_,_,fun i=>(bs[i]?).getD false,rfl,Walks.list (A:=X.A.in1) (I.ok.hd hc) _ p (Lz hlt) its.toArray,
  ⟨⟨_,LQ _ rfl,rfl,rfl⟩,hl.push _⟩,fun i v s' Q' E' hP hQ=>?_,fun h' tk hk=>?_⟩
 ·obtain ⟨b,e,rfl⟩:=oO rv i v (by simpa using hP)
  simp only [e,Nq] at hQ;exact MH hQ
 ·have e:((K3 its.toArray.size).any fun i=>(bs[i]?).getD false)=bs.any id:=by
   rw [Ly,hlen];exact BW bs
  rw [e];exact ⟨.bl _,H,I.kept (t':=tk) (fun b x e=>hk b x (fun hm=>by rw [Lb.mp hm] at e;exact Mp _ (Li e)) (La _ e)),rfl,q⟩
def EC {X:Cx} (hc:X.calm=true):dP X (.builtin "all") (FA X.K):=by
 intro pins s σ H xs us Q I r h;obtain ⟨p,bs,rfl,hS,q⟩:=h;obtain ⟨u,rfl,ru⟩:=vals1 r;cases (show u=LF p from ru);obtain ⟨its,rv,pl,hz⟩:=I.list hS;have hl:=pl.isList;have hlen:its.length=bs.length:=by have:=rv.length;simp at this;lia
 have hlt:p<s.heap.objs.size:=by obtain ⟨_,e,_⟩:=hl;exact Li e
 refine call_all_walk (OP hl ?_);refine ⟨s.heap.objs.size,[s.heap.objs.size,p],[s.heap.objs.size],its.toArray.size,_,_,fun i=>(bs[i]?).getD true,rfl,Walks.list (A:=X.A.in1) (I.ok.hd hc) _ p (Lz hlt) its.toArray,
  ⟨⟨_,LQ _ rfl,rfl,rfl⟩,hl.push _⟩,fun i v s' Q' E' hP hQ=>?_,fun h' tk hk=>?_⟩
 ·obtain ⟨b,e,rfl⟩:=oO rv i v (by simpa using hP)
  simp only [e,Nq] at hQ;exact MH hQ
 ·have e:((K3 its.toArray.size).all fun i=>(bs[i]?).getD true)=bs.all id:=by
   rw [Ly,hlen];exact B5 bs
  rw [e];exact ⟨.bl _,H,I.kept (t':=tk) (fun b x e=>hk b x (fun hm=>by rw [Lb.mp hm] at e;exact Mp _ (Li e)) (La _ e)),rfl,q⟩
def xi {X:Cx} (K:KW) (hK:X.K=K) (hc:X.calm=true):dP X (.builtin "any") (GN K):=by subst hK;exact D3 hc
def pR {X:Cx} (K:KW) (hK:X.K=K) (hc:X.calm=true):dP X (.builtin "all") (FA K):=by subst hK;exact EC hc
section
variable {σ:St} {H H':Hp} {Q:VK} {K:KW} {v:V}
def zH {bs:List Bool} (h:At K H v bs):∃ p,v=.ref p/\SqL K H p (bs.map V.bl):=by
 obtain ⟨p,xs,rfl,hS,hP⟩:=h;refine ⟨p,rfl,?_⟩;have e:xs=bs.map V.bl:=by
  clear hS
  induction hP with
  | nil=>rfl
  | cons r _ ih=>rw [LY,<- ih];exact congrArg (· :: _) r
 rw [<- e];exact hS
def GY {bs:List Bool} (h:At K H v bs) (q:Q (.bl (bs.any id)) H):GN K [v] H Q:=by
 obtain ⟨p,rfl,hS⟩:=zH h;exact ⟨p,bs,rfl,hS,q⟩
def zJ {bs:List Bool} (h:At K H v bs) (q:Q (.bl (bs.all id)) H):FA K [v] H Q:=by
 obtain ⟨p,rfl,hS⟩:=zH h;exact ⟨p,bs,rfl,hS,q⟩
end
def sH:∀ {ns:List Int} {its:List Value},Vals (ns.map V.int) its->Qu its ns
 | [],_,.nil=>.nil
 | n :: ns,_,.cons r t=>by
  obtain ⟨tk,e⟩:=(show ∃ tk,_=NU n tk from r);subst e;exact .cons n tk (sH t)
def Dt:V->List V->Hp->VK->Prop:=fun x vs H Q=>∃ (l:Addr) (ns:List Int) (k:Int),x=.ref l/\vs=[.int k]/\H l=some (.lst (ns.map V.int))/\k∈ns/\Q (.int (ns.idxOf k:Nat)) H
def nP {X:Cx}:MtM X "list.index" Dt:=by
 intro pins s σ H x vs v us Q I rx rv h;obtain ⟨l,ns,k,rfl,rfl,hH,hk,q⟩:=h;cases rx;obtain ⟨u,rfl,ru⟩:=rv.one;obtain ⟨t,rfl⟩:=(show ∃ t,u=NU k t from ru);obtain ⟨z,its,n,r,hl',e⟩:=I.pU hH;have hi:=sH r;have hlen:=hi.length;have hj:ns.idxOf k<ns.length:=OX.mpr hk;have hz:ns.length<=LB:=by simpa using z
 rw [L5] at hz;refine Oo MT ⟨_,e,rfl⟩ PySem.F.entry_list_index (PySem.F.args_list_index_2 _ _)
  (SeqAt.list_indexAt l its.toArray n none #[] (.int k t) (isInt k) (ns.idxOf k) (by simpa [hlen] using hj) (by lia) ?_ ?_) ⟨e,fun y hy=>(eq_isInt k t hi y (by simpa using hy)).at _ _,⟨.int _,H,I.tok _,⟨_,rfl⟩,q⟩⟩
 ·show isInt k its[ns.idxOf k]=true;rw [isInt_at k hi _ (by lia) hj]
  simpa using MQ hj
 ·intro j hjs hlt;show isInt k its[j]=false;rw [isInt_at k hi j (by simpa using hjs) (by lia)]
  exact ne_of_lt_idxOf hlt _
def qB {H:Hp} {Q:VK} {p:Addr} {r:List Nat} {k j:Nat} (h:H p=some (.lst (aA r))) (hk:r[j]?=some k) (hf:∀ i,i<j->r[i]?≠some k) (q:Q (.int (j:Int)) H):Dt (.ref p) [.int (k:Int)] H Q:=by
 have hj:j<r.length:=(K0.mp hk).1;have e1:aA r=(r.map fun (n:Nat)=>(n:Int)).map V.int:=by
  unfold aA;rw [MN];rfl
 have e2:(r.map fun (n:Nat)=>(n:Int)).idxOf (k:Int)=j:=by
  have hm:(k:Int)∈r.map fun (n:Nat)=>(n:Int):=Lc.mpr ⟨k,K1 hk,rfl⟩;have hlt:=OX.mpr hm;have hat:=MQ hlt;rw [KY] at hlt;have hat':r[(r.map fun (n:Nat)=>(n:Int)).idxOf (k:Int)]?=some k:=by
   rw [KZ hlt];rw [MR] at hat;exact congrArg some (Qp hat)
  rcases MJ ((r.map fun (n:Nat)=>(n:Int)).idxOf (k:Int)) j with z|z|z
  ·exact absurd hat' (hf _ z)
  ·exact z
  ·exfalso
   have:=ne_of_lt_idxOf z (by rw [KY];exact hj)
   rw [KZ hj] at hk;have hk':=LG hk;simp [hk'] at this
 refine ⟨p,r.map fun (n:Nat)=>(n:Int),k,rfl,rfl,by rw [<- e1];exact h,Lc.mpr ⟨k,K1 hk,rfl⟩,?_⟩
 rw [e2];exact q
def Bl {K:KW} {H:Hp} {σ:St} {Q:VK} {g:TG} {tt:TT} {ta:TE} {d:Addr} {rows:List (List Nat)} {ps:List Addr} {β:Type} [Rep β] {own:List Str} {fr:List Nat} (h:Tbl H d rows ps) (hz:rows.length<=100000) (acc:Nat->List β) (Sh:St->Prop) (ha0:acc 0=[]) (hal:∀ i,i<=rows.length->(acc i).length<=i) (h0:Sh (bB own fr σ))
  (turn:∀ i c p σ' H' (d:Addr) (R:St->V->Hp->Prop) (R0:St->Hp->Prop),rows[i]?=some c->ai H H'->H' p=some (.lst (aA c))->Sh σ' ->
   (∀ σ2 y b H5,Sh σ2->ai H' H5->At K (del H5 d) y b->acc (i+1)=acc i++[b]->R σ2 y H5)->(∀ σ2 H5,Sh σ2->ai H' H5->acc (i+1)=acc i->R0 σ2 H5)->(∃ ys,H' d=some (.lst ys)) ->
   g (.ref p) σ' H' fun σ2 H3=>tt σ2 H3 fun ok H4=>if ok=true then ta σ2 H4 (R σ2) else R0 σ2 H4)
  (fin:∀ d H',H d=none->ai H H'->(∃ ys,H' d=some (.lst ys)/\MB (Rep.is K (del H' d)) ys (acc rows.length))->Q (.ref d) H') :
  iz K (.ref d) H (cS own fr g tt ta σ Q):=by
 have hl:(ps.map V.ref).length=rows.length:=by rw [KY,h.len]
 refine ⟨d,rfl,⟨_,SqL.of h.top⟩,uU (J:=Itl K d) (n:=rows.length) (fun i w H'=>∃ p c,w=.ref p/\rows[i]?=some c/\H' p=some (.lst (aA c))) acc Sh (fun i H' hi e=>⟨_,(ps.map V.ref)[i]'(by lia),e.seq (SqL.of h.top),KZ (by lia)⟩) (fun H' e=>⟨_,e.seq (SqL.of h.top),Px hl⟩)
  (fun i H' x H2 hi e hy=>?_) hz ha0 hal h0 (fun i w σ' H' d' R R0 hi e ⟨p,c,hw,hc,hp⟩=>by subst hw;exact turn i c p σ' H' d' R R0 hc e hp) fin⟩
 obtain ⟨e1,e2⟩:=hy;have z:=e2 _ (e.seq (SqL.of h.top));rw [K4] at z;cases q:ps[i]? with
 | none=>rw [q] at z;cases z
 | some p =>
  rw [q] at z;refine ⟨e1,p,rows[i],(LG z).symm,KZ hi,e _ _ (h.row i p _ q (KZ hi))⟩
def F6 {α:Type} [Rep α] {K:KW} {H:Hp} {v:V} {Q:VK} {l:List α} {lo hi:Option Int} (h:At K H v l) (q:∀ p H',H p=none->ai H H'->Gr K H' p (cut l lo hi)->Q (.ref p) H'):CF K v lo hi H Q:=by
 obtain ⟨p,xs,rfl,hS,hP⟩:=h;refine ⟨p,xs,rfl,hS,fun d hd=>q d _ hd (aw hd _) ⟨_,au,?_⟩⟩;have e:=hP.length;have sm:ai H (del (upd H d (.lst (sM xs lo hi))) d):=fun b o z=>by
  have hb:b≠d:=aH z hd;rw [fK hb,av hb];exact z
 unfold sM cut at *;rw [e] at sm ⊢;exact Paired.ym _ (Paired.yC _ (Paired.dD hP fun _ _ z=>Rep.mono sm z))
def C3:Expr->Option Int
 | .Constant (.int i) _ _=>some i
 | _=>none
def tW:List Expr->Option (List Int)
 | []=>some []
 | e :: es=>match C3 e,tW es with
  | some i,some l=>some (i :: l)
  | _,_=>none
def JI:Expr->Option (List Int)
 | .List es _=>tW es
 | _=>none
def yr:List Expr->Option (List (List Int))
 | []=>some []
 | e :: es=>match JI e,yr es with
  | some i,some l=>some (i :: l)
  | _,_=>none
def qM:List Int->TA
 | []=>rZ
 | i :: l=>kj (tC (.int i)) (qM l)
def tN:List (List Int)->TA
 | []=>rZ
 | r :: l=>kj (yG (qM r)) (tN l)
def sJ {X:Cx}:∀ {es:List Expr} (ns:List Int),tW es=some ns->PA X es (qM ns)
 | [],ns,h=>by cases h;exact aa
 | e :: es,ns,h=>by
  unfold tW at h
  split at h
  ·rename_i i l h1 h2
   cases h;cases e with
   | Constant c j pos =>
    cases c with
    | int k =>
     have hk:k=i:=by simpa [C3] using h1
     subst hk;exact vw ag (sJ l h2) (bD rfl)
    | _=>simp [C3] at h1
   | _=>simp [C3] at h1
  ·cases h
def zu {X:Cx}:∀ {es:List Expr} (rs:List (List Int)),yr es=some rs->PA X es (tN rs)
 | [],rs,h=>by cases h;exact aa
 | e :: es,rs,h=>by
  unfold yr at h
  split at h
  ·rename_i i l h1 h2
   cases h;cases e with
   | List ls pos=>exact vw (bP (sJ i h1)) (zu l h2) (bD rfl)
   | _=>simp [JI] at h1
  ·cases h
@[irreducible] def z8 (es:List Expr) (ns:List Int):Bool:=decide (tW es=some ns)
@[irreducible] def zV (es:List Expr) (rs:List (List Int)):Bool:=decide (yr es=some rs)
def Ie {X:Cx} {es:List Expr} (ns:List Int) (h:z8 es ns=true):PA X es (qM ns):=sJ ns (by unfold z8 at h;exact of_decide_eq_true h)
def HW {X:Cx} {es:List Expr} (rs:List (List Int)) (h:zV es rs=true):PA X es (tN rs):=zu rs (by unfold zV at h;exact of_decide_eq_true h)
structure IsP (p:Prop):Prop where
 out:p
def sh {X:Cx} {es:List Expr} (ns:List Int) (h:z8 es ns=true):IsP (PA X es (qM ns)):=⟨Ie ns h⟩
def zC {X:Cx} {es:List Expr} (rs:List (List Int)) (h:zV es rs=true):IsP (PA X es (tN rs)):=⟨HW rs h⟩
section
variable {K:KW}
def nc:∀ (l:List Nat),WrA K (qM (l.map fun (n:Nat)=>(n:Int))) l
 | []=>jC
 | n :: l=>uQ (DB rfl) (nc l)
def vU:∀ (rs:List (List Nat)),(∀ r∈rs,r.length<=1000)->WrA K (tN (rs.map fun r=>r.map fun (n:Nat)=>(n:Int))) rs
 | [],_=>jC
 | r :: rs,h=>uQ (Dy (nc r) (h r Le)) (vU rs fun x hx=>h x (K8 _ hx))
end
def wY:∀ {its:List Value} {ns:List Int},Qu its ns->Vals (ns.map V.int) its
 | _,_,.nil=>.nil
 | _,_,.cons n t r=>.cons ⟨t,rfl⟩ (wY r)
def vb (K:KW):List V->Hp->VK->Prop:=fun xs H Q=>∃ (p:Addr) (ns:List Int),xs=[.ref p]/\SqL K H p (ns.map V.int)/\ns.length<64 /\
 ∀ (d:Addr) (ns':List Int),H d=none->ns'.Perm ns->ns'.Pairwise (·<=·)->Q (.ref d) (upd H d (.lst (ns'.map V.int)))
def yI {X:Cx}:dP X (.builtin "sorted") (vb X.K):=by
 intro pins s σ H xs us Q I r h;obtain ⟨p,ns,rfl,hS,h64,q⟩:=h;obtain ⟨u,rfl,ru⟩:=vals1 r;cases (show u=LF p from ru);obtain ⟨its,rv,pl,hz⟩:=I.list hS;have hi:=sH rv;have hlen:=hi.length;refine sorted_ints pl.isList hi (by lia) fun out ns' a1 a2 a3=>?_
 obtain ⟨c,hc⟩:=sortedAll_at s.heap its out;have hn:H (s.heap.objs.size+1)=none:=I.hok.fresh (NS _);have hl':ns'.length=ns.length:=a2.length_eq;refine ⟨.ref (s.heap.objs.size+1),_,I.laid (o:=.lst (ns'.map V.int)) (fun b o e=>sortedAll_old e) (NS _) ⟨?_,out.toList,c,wY a1,?_⟩,rfl,q _ ns' hn a2 a3⟩
 ·rw [KY];exact small (by lia)
 ·simpa [seqObj] using hc
def oW {X:Cx} (K:KW) (hK:X.K=K):dP X (.builtin "sorted") (vb K):=by subst hK;exact yI
section
variable {σ:St} {H H':Hp} {Q:VK} {K:KW} {v:V}
def Dm {ns':List Int} {l:List Nat} (h:ns'.Perm (l.map fun (n:Nat)=>(n:Int))):∃ l':List Nat,ns'=l'.map (fun (n:Nat)=>(n:Int))/\l'.Perm l:=by
 refine ⟨ns'.map Qq,?_,?_⟩
 ·rw [MN];have e:∀ x∈ns',((fun (n:Nat)=>(n:Int)) ∘ Qq) x=x:=fun x hx=>by
   obtain ⟨n,_,rfl⟩:=Lc.mp (h.mem_iff.mp hx);rfl
  have:ns'.map ((fun (n:Nat)=>(n:Int)) ∘ Qq)=ns'.map id:=LA e;rw [this,Pb]
 ·have:=h.map Qq;rw [MN] at this;have e:(Qq ∘ fun (n:Nat)=>(n:Int))=id:=by funext n;rfl
  rw [e,Pb] at this;exact this
def uh (l:List Nat):aA l=(l.map fun (n:Nat)=>(n:Int)).map V.int:=by
 unfold aA;rw [MN];rfl
def Ac {l:List Nat} (h:At K H v l) (hl:l.length<64) (q:∀ (d:Addr) (l':List Nat) (H':Hp),H d=none->ai H H'->l'.Perm l->l'.Pairwise (·<=·)->Gr K H' d l'->Q (.ref d) H'):vb K [v] H Q:=by
 obtain ⟨p,rfl,hS⟩:=gU h;have hS':SqL K H p ((l.map fun (n:Nat)=>(n:Int)).map V.int):=by
  have e:=uh l;unfold aA at e;rw [<- e];exact hS
 refine ⟨p,_,rfl,hS',by rw [KY];exact hl,fun d ns' hd hp hs=>?_⟩
 obtain ⟨l',rfl,hp'⟩:=Dm hp;have hs':l'.Pairwise (·<=·):=by
  rw [List.pairwise_map] at hs;exact hs.imp fun z=>by lia
 rw [<- uh];exact q d l' _ hd (aw hd _) hp' hs' ⟨_,au,i7⟩
def xa (l:List Nat):(l.map fun (n:Nat)=>V.int (n:Int)).all kh=true:=by
 rw [LC];intro x hx;obtain ⟨n,_,rfl⟩:=Lc.mp hx;rfl
def v8 (x:Nat):∀ l:List Nat,inV (.int (x:Int)) (l.map fun (n:Nat)=>V.int (n:Int))=decide (x∈l)
 | []=>rfl
 | a :: l=>by
  have ih:=v8 x l;rw [LY];simp only [inV] at ih ⊢;rw [NY,ih];have e1:eqV (V.int (a:Int)) (V.int (x:Int))=decide (x=a):=by
   show ((a:Int) == (x:Int))=decide (x=a);rw [MC];simp;lia
  rw [e1,MC];simp
def JZ {l:List Nat} {x:Nat} (h:At K H v l) (q:Q (.bl (decide (x∈l))) H):rIn K false (.int (x:Int)) v H Q:=by
 obtain ⟨p,rfl,hS⟩:=gU h;refine ⟨p,_,rfl,.inl hS,rfl,xa l,?_⟩;rw [v8];exact q
def BJ {l:List Nat} {x:Nat} (h:At K H v l) (q:Q (.bl (!decide (x∈l))) H):rIn K true (.int (x:Int)) v H Q:=by
 obtain ⟨p,rfl,hS⟩:=gU h;refine ⟨p,_,rfl,.inl hS,rfl,xa l,?_⟩;rw [v8];exact q
end
def JW {X:Cx} (K:KW) (hK:X.K=K):OpR X (compareOp .In) (rIn K false):=by subst hK;exact DU
def wz {X:Cx} (K:KW) (hK:X.K=K):OpR X (compareOp .NotIn) (rIn K true):=by subst hK;exact zS
section
variable {X:Cx} {pins:List (Addr×Obj)} {σ:St} {H:Hp} {s:K5} {A:LW} {α β:Type} [Rep α] [DecidableEq α] [bQ α] [Rep β] [DecidableEq β] [bQ β]
def Ia {p q:Addr} {x1 x2 y1 y2:V} {a c:α} {b d:β} (I:Inv X pins σ H s) (hp:SqT X.K H p [x1,x2]) (h1:At X.K H x1 a) (h2:At X.K H x2 b) (hq:SqT X.K H q [y1,y2]) (h3:At X.K H y1 c) (h4:At X.K H y2 d)
  (hu:A.units+(max (bQ.depth α) (bQ.depth β)+1)<cLine):SeqAt.RcAt A s (.ref p) (.ref q) (decide ((a,b)=(c,d))):=by
 obtain ⟨its,v1,t1,_⟩:=I.tuple hp;obtain ⟨its2,v2,t2,_⟩:=I.tuple hq;obtain ⟨u1,u2,rfl,r1,r2⟩:=v1.two;obtain ⟨w1,w2,rfl,r3,r4⟩:=v2.two;have e1:=bQ.eq (A:=A.in1) I h1 h3 r1 r3 (by show A.units+1+_<_;lia)
 have e2:=bQ.eq (A:=A.in1) I h2 h4 r2 r4 (by show A.units+1+_<_;lia)
 have z:=SeqAt.RcAt.tuples (A:=A) (e:=fun j=>if j=0 then decide (a=c) else decide (b=d)) t1 t2 (by lia) fun j hj1 hj2=>by
  have hj:j<2:=by simpa using hj1
  match j,hj with
  | 0,_=>exact e1
  | 1,_=>exact e2
 have ek:((K3 (min (#[u1,u2]:Array Value).size (#[w1,w2]:Array Value).size)).all (fun j=>if j=0 then decide (a=c) else decide (b=d)) && (#[u1,u2]:Array Value).size == (#[w1,w2]:Array Value).size)=decide ((a,b)=(c,d)):=by
  have:(K3 (min (#[u1,u2]:Array Value).size (#[w1,w2]:Array Value).size))=[0,1]:=rfl;rw [this,MC];simp
 rw [<- ek];exact z
instance:bQ (α×β) where
 depth:=max (bQ.depth α) (bQ.depth β)+1
 inj:=fun {X pins σ H s x a b} I h h'=>by
  obtain ⟨p,x1,x2,e,h1,h2,h3⟩:=h;obtain ⟨q,y1,y2,e',h4,h5,h6⟩:=h';subst e;cases e';have z:=I.xm h1 h4;cases z;exact Prod.ext (bQ.inj I h2 h5) (bQ.inj I h3 h6)
 eq:=fun {X pins σ H s A x y u v a b} I hx hy ru rv hu=>by
  obtain ⟨p,x1,x2,e,h1,h2,h3⟩:=hx;obtain ⟨q,y1,y2,e',h4,h5,h6⟩:=hy;subst e e';cases (show u=LF p from ru);cases (show v=LF q from rv)
  by_cases hpq:p=q
  ·subst hpq;have z:=I.xm h1 h4;cases z;have e1:a=b:=Prod.ext (bQ.inj I h2 h5) (bQ.inj I h3 h6);rw [decide_eq_true e1];exact PB _
  ·exact SeqAt.EqAt.of_refs hpq (Ia I h1 h2 h3 h4 h5 h6 hu)
end
section
variable {σ:St} {H:Hp} {Q:VK} {K:KW}
def b9 {p:Addr} {xs:List V} {i:Nat} {x:V} (h:H p=some (.tup xs)) (hx:xs[i]?=some x) (q:Q x H):Fe K (.ref p) (.int (i:Int)) H Q:=⟨p,xs,_,x,rfl,rfl,SqT.of h,f7 hx,q⟩
def HI {p:Addr} {a b:Nat} (h:H p=some (.tup [.int (a:Int),.int (b:Int)])):At K H (.ref p) ((a,b):Nat×Nat):=⟨p,_,_,rfl,SqT.of h,rfl,rfl⟩
end
def jD {X:Cx} (K:KW) (hK:X.K=K) {pos p1 p2:Pos} {i j k:Nat} {x y:Str} (hc:X.calm=true) (hN:X.N.Nodup) (hi:X.N[i]?=some x) (hx:Loc X.env.scope x) (hj:X.N[j]?=some y) (hy:Loc X.env.scope y)
  (hf:X.fn x=true\/X.env.scope.names.lookup x=some .local:=by first|exact .inl rfl|exact .inr rfl|assumption) (hf':X.fn y=true\/X.env.scope.names.lookup y=some .local:=by first|exact .inl rfl|exact .inr rfl|assumption) :
  PG X (.Tuple [.Name x p1,.Name y p2] k pos) (jQ K 2 (cW (cw i) (cW (cw j) jM))):=by
 subst hK;exact dR hc (bc (ar hN hi hx hf) (bc (ar hN hj hy hf') de))
def Bx {K:KW} {α:Type} [Rep α] {H:Hp} {v:V} {Q:VK} {l:List α} (h:At K H v l) (q:∀ p H',H p=none->ai H H'->Gr K H' p l->Q (.ref p) H'):BS K [v] H Q:=by
 obtain ⟨p,xs,rfl,hS,hP⟩:=h;refine ⟨p,xs,rfl,.inl hS,fun d hd=>q d _ hd (aw hd _) ⟨_,au,Paired.dD hP fun _ _ z=>Rep.mono (fun b o z=>?_) z⟩⟩;have hb:b≠d:=aH z hd;rw [fK hb,av hb];exact z
def b4 {H:Hp} {p d:Addr} {o:HO} (h:H p=some o) (hd:H d=none):p≠d:=fun e=>by rw [e,hd] at h;cases h
section
variable {X:Cx} {pins:List (Addr×Obj)} {σ:St} {H:Hp} {s:K5} {h':Heap} {t':Nat} {fp:List Addr}
def Inv.Ei (I:Inv X pins σ H s) (hf:∀ b∈fp,hX X pins H b) (k:∀ b ob,b∉fp->s.heap.get? b=some ob->h'.get? b=some ob):Inv X pins σ H { s with heap:=h',toks:=t' }:=by
 have nofp:∀ b u,H b=some u->b∉fp:=fun b u e hb=>by rw [(hf b hb).1] at e;cases e
 refine I.step (g':=s.gens) (d':=s.drawn) (ch:=fp) (fun b hb=>let ⟨_,f1,_,f3,f4,f5⟩:=hf b hb;⟨f3,f1,f4,f5⟩) (fun b ob _ _ hc e _=>k b ob hc e) (fun b ob _ _ hc e _=>⟨ob.slots,k b ob hc e⟩)
  (fun _ _ _ _ n=>n) (fun b ob hc e=>⟨ob,k b ob hc e⟩) (fun _ _ e=>e) (fun _ _ _ e=>e) (fun b ps e=>⟨#[],by rw [e];simp⟩) (fun m hm=>?_) (fun b u e=>?_) I.bare
 ·obtain ⟨ob,es,ep,e,r⟩:=hm;exact ⟨ob,es,ep,k _ ob (fun hb=>(hf _ hb).2.1 rfl) e,r⟩
 ·refine (I.hok b u e).oM (fun c v hc q=>k c v ?_ q) (fun _ q=>q) fun _ _ q=>q;rcases hc with z|z
  ·rw [z];exact nofp b u e
  ·exact nofp c _ z
end
def Hn {a b:Nat} (h:¬ a=b):@Ne Addr a b:=h
def w5 (n l l':Nat) (h1:l<n) (h2:l' < n):N9 (n+4) (n+2) (n+3) n (n+1) l l':=by
 constructor <;> (refine Hn ?_;lia)
def Itz (K:KW) (a b:Addr):It :=
 ⟨fun i H=>∃ xs x ys y,SqL K H a xs/\xs[i]?=some x/\SqL K H b ys/\ys[i]?=some y,fun i H v H'=>∃ p x y,v=.ref p/\H p=none/\H'=upd H p (.tup [x,y])/\(∀ xs,SqL K H a xs->xs[i]?=some x)/\∀ ys,SqL K H b ys->ys[i]?=some y,
  fun i H=>∃ xs ys,SqL K H a xs/\SqL K H b ys/\(xs.length<=i\/ys.length<=i)⟩
def F5 {P:Lp} {w:World} {K:KW} {es:List Expr} {kk:Nat} {tpos:Pos} (a b z TI TO i1 i2:Addr) (D:N9 z TI TO i1 i2 a b) :
  Turn P w K (.Tuple es kk tpos) (Itz K a b) [z,TI,TO,i1,i2] z (fun i h=>IsZip h z TI TO .none/\Qb h TI (.ref i1) (.ref i2)/\(∃ c d,Qb h TO c d)/\h.IsListIter i1 a i/\h.IsListIter i2 b i) where
 mem:=by simp
 obj:=fun i h st c hc=>by
  obtain ⟨hz,hTI,⟨u,v,hTO⟩,⟨o1,e1,_,d1⟩,o2,e2,_,d2⟩:=st;have hc':c=z\/c=TI\/c=TO\/c=i1\/c=i2:=by simpa using hc
  rcases hc' with rfl|rfl|rfl|rfl|rfl
  ·exact ⟨_,hz,fun v y=>by
    have y':QG _=Qn v:=y;cases y'⟩
  ·exact ⟨_,hTI,fun v y=>by
    have y':Data.seq _ _=Qn v:=y;cases y'⟩
  ·exact ⟨_,hTO,fun v y=>by
    have y':Data.seq _ _=Qn v:=y;cases y'⟩
  ·exact ⟨o1,e1,fun v y=>by rw [d1] at y;cases y⟩
  ·exact ⟨o2,e2,fun v y=>by rw [d2] at y;cases y⟩
 keep:=fun i h h' st k=>by
  obtain ⟨hz,hTI,⟨u,v,hTO⟩,h1,h2⟩:=st;exact ⟨k z (by simp) _ hz,k TI (by simp) _ hTI,⟨u,v,k TO (by simp) _ hTO⟩,h1.at fun o e=>k i1 (by simp) o e,h2.at fun o e=>k i2 (by simp) o e⟩
 item:=by
  intro X hP hw hK hc i pins s σ H E I hf st hg;subst hP hw hK;obtain ⟨xs,x,ys,y,hq,hx,hq2,hy⟩:=hg;obtain ⟨its,rv,p,_⟩:=I.list hq;obtain ⟨its2,rv2,p2,_⟩:=I.list hq2;obtain ⟨u,hu,ru⟩:=rv.get hx;obtain ⟨u2,hu2,ru2⟩:=rv2.get hy;obtain ⟨hz,hTI,⟨c,d,hTO⟩,h1,h2⟩:=st;have lz:z<s.heap.objs.size:=Li hz;have lTI:TI<s.heap.objs.size:=Li hTI;have lTO:TO<s.heap.objs.size:=Li hTO;have l1:i1<s.heap.objs.size:=by obtain ⟨_,q,_⟩:=h1;exact Li q
  have l2:i2<s.heap.objs.size:=by obtain ⟨_,q,_⟩:=h2;exact Li q
  refine PJ D hz hTI hTO h1 h2 p.isList p2.isList (x:=u) (y:=u2) (by simpa using hu) (by simpa using hu2) fun h' a1 a2 a3 a4 a5 a6 hk=>?_
  refine ⟨_,rfl,?_⟩;have I1:Inv X pins σ (upd H s.heap.objs.size (.tup [x,y])) { s with heap:=h',toks:=s.toks } :=
   I.wk hf (fun b ob hb q=>hk b ob (fun z=>hb (by simp [z])) (fun z=>hb (by simp [z])) (fun z=>hb (by simp [z])) (fun z=>hb (by simp [z])) q) (Lj _) ⟨by show 2<=LB;decide,[u,u2],.cons ru (.cons ru2 .nil),⟨_,a5,rfl,_,rfl⟩⟩
  have fE:=hf z (by simp)
  refine wpAny_letOwnedTupleGo_zip a1 fun h2' hz2 hs2=>?_;have nE:(upd H s.heap.objs.size (.tup [x,y])) z=none:=by rw [av (Lz lz)];exact fE.1
  refine ⟨.ref s.heap.objs.size,_,I1.turned (t':=s.toks) (fun b ob hb q=>(hs2.2 b hb).trans q) nE fE.2.1 fE.2.2.2.1 fE.2.2.2.2.1 fE.2.2.2.2.2,rfl,⟨_,x,y,rfl,I.hok.fresh (Lj _),rfl,fun zs hz=>by rw [I.iN hz hq];exact hx,fun zs hz=>by rw [I.iN hz hq2];exact hy⟩,?_,fun b hb=>?_⟩
  ·exact ⟨hz2,hs2.extBut _ _ D.TIz (hk _ _ D.TIz D.TITO D.TIi1 D.TIi2 hTI),⟨_,_,hs2.extBut _ _ D.TOz a2⟩,a3.extBut hs2.extBut D.i1z,a4.extBut hs2.extBut D.i2z⟩
  ·have hb2:b=z\/b=TI\/b=TO\/b=i1\/b=i2:=by simpa using hb
   have hb':b<s.heap.objs.size:=by rcases hb2 with rfl|rfl|rfl|rfl|rfl <;> assumption
   rw [av (Lz hb')];exact (hf b hb).1
 done:=by
  intro X hP hw hK hc i pins s σ H E I hf st hg;subst hP hw hK;obtain ⟨xs,ys,hq,hq2,hx⟩:=hg;obtain ⟨its,rv,p,_⟩:=I.list hq;obtain ⟨its2,rv2,p2,_⟩:=I.list hq2;obtain ⟨hz,hTI,⟨c,d,hTO⟩,h1,h2⟩:=st;have e1:=rv.length;have e2:=rv2.length;refine P5 (I.ok.hd hc) D hz hTI hTO h1 h2 p.isList p2.isList (by
   rcases hx with z|z
   ·exact .inl (by simp;lia)
   ·exact .inr (by simp;lia)) fun h' hk=>⟨rfl,I.Ei (t':=s.toks) hf fun b ob hb q=>hk b ob (fun z=>hb (by simp [z])) (fun z=>hb (by simp [z])) (fun z=>hb (by simp [z])) (fun z=>hb (by simp [z])) q⟩
 self:=fun _ _ _ _ _ st h=>Pk st.1 h
def rQ (K:KW) (vs:List V) (H:Hp) (R:It->Hp->Prop):Prop:=∃ a b xs ys,vs=[.ref a,.ref b]/\SqL K H a xs/\SqL K H b ys/\R (Itz K a b) H
def JL (K:KW) (ta:TA):TI:=fun σ H R=>ta σ H fun vs H1=>rQ K vs H1 R
def qj {K:KW} {ta:TA} {σ:St} {H:Hp} {R:It->Hp->Prop} (h:ta σ H fun vs H1=>rQ K vs H1 R):JL K ta σ H R:=h
def kF {X:Cx} (K:KW) (hK:X.K=K) {tgs:List Expr} {kk:Nat} {tpos:Pos} {a b:Expr} {ta:TA} {p pos:Pos} (hg:Gl X "zip") (hm:X.mg "zip" = none) (ha:PA X [a,b] ta) (hn:isStar a=false:=by rfl) (hn2:isStar b=false:=by rfl) :
  PI X (.Tuple tgs kk tpos) (.Call (.Name "zip" p) [a,b] [] pos) (JL K ta):=by
 subst hK;intro pins s σ H R I h;refine Call_ (jz I hg hm boot_zip (Ml (thn (ha pos pins s σ H _ I h) fun us s1 ⟨vs,H1,I1,r1,q1⟩=>?_) (bD hn) (cD (by simp [hn2]))))
 obtain ⟨l,l',xs,ys,e,hS,hS2,q⟩:=q1;subst e;cases r1 with
 | cons r rr =>
  cases rr with
  | cons r2 rr2 =>
   cases rr2;cases (show _=LF l from r);cases (show _=LF l' from r2);obtain ⟨its,rv,pl,_⟩:=I1.list hS;obtain ⟨its2,rv2,pl2,_⟩:=I1.list hS2;have lt1:l<s1.heap.objs.size:=by obtain ⟨_,z,_⟩:=pl.isList;exact Li z
   have lt2:l' < s1.heap.objs.size:=by obtain ⟨_,z,_⟩:=pl2.isList;exact Li z
   refine call_zip_2 pl.isList pl2.isList fun h' hz hTI hTO hi1 hi2 hsz hk=>?_;refine Pk hz ?_;have I2:Inv X pins σ H1 { s1 with heap:=h' }:=I1.kept (t':=s1.toks) hk;have D:N9 (s1.heap.objs.size+4) (s1.heap.objs.size+2) (s1.heap.objs.size+3) s1.heap.objs.size (s1.heap.objs.size+1) l l':=by
    exact w5 _ _ _ lt1 lt2
   refine ⟨s1.heap.objs.size+4,[s1.heap.objs.size+4,s1.heap.objs.size+2,s1.heap.objs.size+3,s1.heap.objs.size,s1.heap.objs.size+1],_,_,H1,rfl,I2,F5 l l' _ _ _ _ _ D,⟨hz,hTI,⟨_,_,hTO⟩,hi1,hi2⟩,fun b hb=>?_,q⟩;have hb2:b=s1.heap.objs.size+4\/b=s1.heap.objs.size+2\/b=s1.heap.objs.size+3\/b=s1.heap.objs.size\/b=s1.heap.objs.size+1:=by simpa using hb
   have hb':s1.heap.objs.size<=b:=by rcases hb2 with rfl|rfl|rfl|rfl|rfl <;> lia
   exact I1.sI hb' (I1.hok.fresh hb')
def Hv {K:KW} {H H₀:Hp} {σ:St} {t:TS} {D:Ends} {p p2:Addr} {xs ys:List V} {ia ib:Nat} (hS:SqL K H₀ p xs) (hS2:SqL K H₀ p2 ys) (he:xs.length=ys.length) (Pv:Nat->St->Hp->Prop) (h0:Pv 0 σ H) (hl:∀ i σ' H',Pv i σ' H'->ai H₀ H')
  (hs:∀ i w w2 σ' H' H'' p,xs[i]?=some w->ys[i]?=some w2->Pv i σ' H'->H' p=none->H''=upd H' p (.tup [w,w2])->ai H' H''->t { D with nx:=Pv (i+1),ct:=Pv (i+1),bk:=D.nx } ((σ'.set ia (some w)).set ib (some w2)) H'')
  (hd:∀ σ' H',Pv xs.length σ' H'->D.nx σ' H'):rQ K [.ref p,.ref p2] H (ki (jQ K 2 (cW (cw ia) (cW (cw ib) jM))) t D σ):=by
 refine ⟨p,p2,xs,ys,rfl,(hl 0 σ H h0).seq hS,(hl 0 σ H h0).seq hS2,fun i m σ' H'=>m=xs.length - i/\i<=xs.length/\Pv i σ' H',⟨xs.length,by simp,Mb _,h0⟩,?_⟩
 rintro i m σ' H' ⟨rfl,hi,p0⟩;have q:=(hl i σ' H' p0).seq hS;have q2:=(hl i σ' H' p0).seq hS2
 by_cases hlt:i<xs.length
 ·have hlt2:i<ys.length:=by lia
  refine .inr ⟨⟨xs,xs[i],ys,ys[i],q,by simp [hlt],q2,by simp [hlt2]⟩,Pv (i+1),fun σ2 H2 p'=>⟨xs.length - (i+1),by lia,rfl,hlt,p'⟩,fun z H2 yl=>?_⟩
  obtain ⟨d,w,w2,rfl,hd',rfl,hw,hw2⟩:=yl;refine ⟨d,[w,w2],rfl,SqT.of au,rfl,⟨_,_,rfl,⟨_,_,rfl,⟨rfl,?_⟩⟩⟩⟩;exact hs i w w2 σ' H' _ d (hw xs q) (hw2 ys q2) p0 hd' rfl (aw hd' _)
 ·refine .inl ⟨⟨xs,ys,q,q2,.inl (by lia)⟩,?_⟩
  have:i=xs.length:=by lia
  rw [this] at p0;exact hd σ' H' p0
def En {K:KW} {H H₀:Hp} {σ:St} {t:TS} {D:Ends} {v v2:V} {α β:Type} [Rep α] [Rep β] {l:List α} {m:List β} {ia ib:Nat} (h:At K H₀ v l) (h2:At K H₀ v2 m) (he:l.length=m.length) (Pv:Nat->St->Hp->Prop) (h0:Pv 0 σ H) (hl:∀ i σ' H',Pv i σ' H'->ai H₀ H')
  (hs:∀ i c c2 w w2 σ' H' H'' p,l[i]?=some c->m[i]?=some c2->At K H₀ w c->At K H₀ w2 c2->Pv i σ' H'->H' p=none->H''=upd H' p (.tup [w,w2])->ai H' H''->t { D with nx:=Pv (i+1),ct:=Pv (i+1),bk:=D.nx } ((σ'.set ia (some w)).set ib (some w2)) H'')
  (hd:∀ σ' H',Pv l.length σ' H'->D.nx σ' H'):rQ K [v,v2] H (ki (jQ K 2 (cW (cw ia) (cW (cw ib) jM))) t D σ):=by
 obtain ⟨p,xs,rfl,hS,hP⟩:=h;obtain ⟨p2,ys,rfl,hS2,hP2⟩:=h2;have hlen:=hP.length;have hlen2:=hP2.length;refine ⟨p,p2,xs,ys,rfl,(hl 0 σ H h0).seq hS,(hl 0 σ H h0).seq hS2,fun i m σ' H'=>m=xs.length - i/\i<=xs.length/\Pv i σ' H',⟨xs.length,by simp,Mb _,h0⟩,?_⟩
 rintro i m σ' H' ⟨rfl,hi,p0⟩;have q:=(hl i σ' H' p0).seq hS;have q2:=(hl i σ' H' p0).seq hS2
 by_cases hlt:i<xs.length
 ·have hlt2:i<ys.length:=by lia
  refine .inr ⟨⟨xs,xs[i],ys,ys[i],q,by simp [hlt],q2,by simp [hlt2]⟩,Pv (i+1),fun σ2 H2 p'=>⟨xs.length - (i+1),by lia,rfl,hlt,p'⟩,fun z H2 yl=>?_⟩
  obtain ⟨d,w,w2,rfl,hd',rfl,hw,hw2⟩:=yl;obtain ⟨c,hc,r⟩:=Paired.getL hP (hw xs q);obtain ⟨c2,hc2,r2⟩:=Paired.getL hP2 (hw2 ys q2);refine ⟨d,[w,w2],rfl,SqT.of au,rfl,⟨_,_,rfl,⟨_,_,rfl,⟨rfl,?_⟩⟩⟩⟩;exact hs i c c2 w w2 σ' H' _ d hc hc2 r r2 p0 hd' rfl (aw hd' _)
 ·refine .inl ⟨⟨xs,ys,q,q2,.inl (by lia)⟩,?_⟩
  have:i=xs.length:=by lia
  rw [this,hlen] at p0;exact hd σ' H' p0
section
variable {prog:Lp} {w:World} {A:LW} {E:Value->K5->Prop}
variable {s:K5}
end
section
variable {X:Cx} {pos:Pos}
end
structure jP (K:KW) (x qual:Str) (st:Stmt) (f:Addr) (fd:LZ):Prop where
 ex:∃ (oc:Value) (od:Option Addr) (D:Addr) (kV doc pm:Value) (an:Option Addr) (cdv ct:Value) (osl:Array (Option Value)) (dc:Value) (dd:Option Addr) (n:Nat) (dsl:Array (Option Value)),
  fd=LU x qual (bO st) (bw st) (ah st) (.ref D) kV doc pm an cdv ct/\K.lookup f=some ⟨oc,od,.func fd,osl⟩/\Mm K cdv qual=true/\K.lookup D=some ⟨dc,dd,.seq #[.none] n,dsl⟩
 kp:L0 K (.ref f)=true
section
variable {P:Lp} {w:World} {K:KW} {mg:Str->Option Value} {base:Heap} {x qual:Str} {st:Stmt} {f:Addr} {fd:LZ} {ps:List Str}
def jP.ok {N:List Str} {k:Nat} {sp:Sp} (F:jP K x qual st f fd) (S:az N ps (ah st)) (len:∀ vs H Q E,sp vs H Q E->vs.length=ps.length)
  (hbody:∀ (cdv:Value) (A:LW) (outer:List Env) (s:K5) (H:Hp) (vs:List V) (Q:VK) (E:XK),b6 k (A.deeper (envOfC qual (ah st) s.heap.objs.size f cdv))->sp vs H Q E ->
   ∃ t,PSs (i9 CX0 P w K mg base N qual (ah st) f cdv A outer s H E).nox (bw st) t/\t { nx:=fun _ H'=>Q .non H',rt:=Q } (start N vs) H):aJ P w K mg base CX0 (k+1) f fd ps sp:=by
 obtain ⟨oc,od,D,kV,doc,pm,an,cdv,ct,osl,dc,dd,n,dsl,rfl,lk,hcd,_⟩:=F.ex;refine CH lk hcd S len fun A outer s H vs Q E hr hsp=>?_;obtain ⟨t,h,q⟩:=hbody cdv A outer s H vs Q E hr hsp;exact ⟨t,h.nox,q⟩
def jP.to {s:K5} {args:Args} {bs:List (Str×Value)} (F:jP K x qual st f fd) (KI:K.In s.heap)
  (h:∀ (D:Addr) (kV doc pm:Value) (an:Option Addr) (cdv ct:Value),∃ k:Option (Array Value)->Sem (List (Str×Value)),bindArgs (LU x qual (bO st) (bw st) (ah st) (.ref D) kV doc pm an cdv ct) args=seqItems? (.ref D) >>= k/\k (some #[.none])=pure bs):OM s fd args bs:=by
 obtain ⟨oc,od,D,kV,doc,pm,an,cdv,ct,osl,dc,dd,n,dsl,rfl,lk,hcd,dl⟩:=F.ex;obtain ⟨k,h1,h2⟩:=h D kV doc pm an cdv ct;exact BindsTo.of_defaults (fd:=LU x qual (bO st) (bw st) (ah st) (.ref D) kV doc pm an cdv ct) (T:=D) rfl (KI _ _ dl) rfl h1 h2
def mX {D:Addr} {oc dc:Value} {od an dd:Option Addr} {osl dsl:Array (Option Value)} {kV doc pm cdv ct:Value} {n:Nat} (l:K.lookup f=some ⟨oc,od,.func (LU x qual (bO st) (bw st) (ah st) (.ref D) kV doc pm an cdv ct),osl⟩)
  (d:K.lookup D=some ⟨dc,dd,.seq #[.none] n,dsl⟩) (c:Mm K cdv qual=true) (k:L0 K (.ref f)=true):jP K x qual st f (LU x qual (bO st) (bw st) (ah st) (.ref D) kV doc pm an cdv ct) :=
 ⟨⟨oc,od,D,kV,doc,pm,an,cdv,ct,osl,dc,dd,n,dsl,rfl,l,c,d⟩,k⟩
end
def byName {α:Type} (k:Nat) (us ws:List α):List α:=if us.length=k/\ws.length=1 then us++ws else []
def Cu {k:Nat} {vs zs:List V} {us ws:List Value} (r:Vals vs us) (rz:Vals zs ws):Vals (byName k vs zs) (byName k us ws):=by
 have h1:=r.length;have h2:=rz.length;unfold byName;rw [h1,h2]
 split
 ·exact r.append rz
 ·exact .nil
def Cf {K:KW} {fd:LZ} {ps:List Str} {k:Nat} (hk:ps.length=k+1) (h:∀ (s:K5) (us:List Value),K.In s.heap->us.length=k->OM s fd ⟨us,[]⟩ (ps.zip (us++[.none]))):Binds K fd ps [.none]:=fun s us KI hl=>h s us KI (by
 rw [Lg,hk] at hl;have:([NJ]:List Value).length=1:=rfl;lia)
def Co {K:KW} {fd:LZ} {ps:List Str} {y:Str} {k:Nat} (hk:ps.length=k+1) (h:∀ (s:K5) (us:List Value) (w:Value),K.In s.heap->us.length=k->OM s fd ⟨us,[(y,w)]⟩ (ps.zip (us++[w]))):Au K fd ps [y] (byName k) (byName k):=by
 refine ⟨fun s us ws KI hl=>?_,Cu⟩;unfold byName at hl ⊢
 split at hl
 ·rename_i c
  rw [if_pos c]
  match ws,c.2 with
  | [w],_=>exact h s us w KI c.1
 ·rw [hk] at hl;cases hl
structure DfD (K:KW) (mg:Str->Option Value) (x:Str) (st:Stmt) (ps:List Str) (y:Str) (k:Nat) where
 f:Addr
 fd:LZ
 fn:jP K x x st f fd
 bd:Binds K fd ps []
 bn:Binds K fd ps [.none]
 bk:Au K fd ps [y] (byName k) (byName k)
 nm:mg x=some (.ref f)
def DfD.ok {P:Lp} {w:World} {K:KW} {mg:Str->Option Value} {base:Heap} {x y:Str} {st:Stmt} {N ps:List Str} {k j:Nat} {sp:Sp} (d:DfD K mg x st ps y j) (S:az N ps (ah st)) (len:∀ vs H Q E,sp vs H Q E->vs.length=ps.length)
  (hbody:∀ (cdv:Value) (A:LW) (outer:List Env) (s:K5) (H:Hp) (vs:List V) (Q:VK) (E:XK),b6 k (A.deeper (envOfC x (ah st) s.heap.objs.size d.f cdv))->sp vs H Q E ->
   ∃ t,PSs (i9 CX0 P w K mg base N x (ah st) d.f cdv A outer s H E).nox (bw st) t/\t { nx:=fun _ H'=>Q .non H',rt:=Q } (start N vs) H):aJ P w K mg base CX0 (k+1) d.f d.fd ps sp :=
 d.fn.ok S len hbody
section
variable {X:Cx} {x y:Str} {st:Stmt} {ps:List Str} {k j:Nat} {sp:Sp} {p pos kpos:Pos} {e a:Expr} {es:List Expr} {t:TA} {te:TE}
def Kb (d:DfD X.K X.mg x st ps y j) (G:aJ X.prog X.w X.K X.mg X.base CX0 k d.f d.fd ps sp) (hr:b6 k X.A) (hg:Gl X x) (ha:PA X (e :: es) t) (hn:isStar e=false:=by rfl) (hall:es.all (fun e=>!isStar e)=true:=by rfl) (hdb:(x == ("__debug__" : Str))=false:=by decide) :
  PE X (.Call (.Name x p) (e :: es) [] pos) (nD sp [] E0 t):=va G hr hg d.nm d.fn.kp d.bd .nil l6 ha hdb (bD hn) (cD hall)
end
end L2
set_option Elab.async false
set_option linter.all false
set_option maxRecDepth 100000
namespace L2
open PySem PySem.Spec PyProof.Rows
section
variable (P:Lp) (w:World)
end
section
variable {P:Lp} {w:World} {H H':Hp} {h h':Heap} {a:Addr} {o:HO}
end
section
variable {P:Lp} {w:World} {H:Hp} {h h':Heap} {x e:Addr} {o':HO}
end
section
variable {fs fs' ex ex':List Addr} {H H1 H2:Hp} {h h1 h2 h':Heap} {a x e:Addr} {o:HO}
end
section
variable {X:Cx} {pins:List (Addr×Obj)} {σ:List (Option V)} {H H':Hp} {s:K5} {h':Heap}
end
section
variable {X:Cx}
variable {a b:Expr} {ta tb:TE} {pos:Pos}
variable {tA tB':TT} {rest:List Expr}
end
section
variable {X:Cx} {pins:List (Addr×Obj)} {σ:St} {H:Hp} {s:K5} {a:Addr} {xs ys:List V}
end
section
variable {X:Cx} {pins:List (Addr×Obj)} {σ:St} {H:Hp} {s:K5} {E:Value->K5->Prop}
end
section
variable {X:Cx} {st:Stmt} {rest:List Stmt} {t u:TS} {e:Expr} {te:TE} {pos:Pos}
end
section
variable {X:Cx} {pos:Pos}
end
section
variable {X:Cx} {tg:Expr}
end
section
variable {X:Cx} {a b c:Expr} {ta tb tc:TE} {pos:Pos}
end
section
variable {prog:Lp} {w:World} {A:LW} {E:Value->K5->Prop} {s:K5} {K:KW} {x dx C f:Addr} {mA:Str->Option Value} {name:Str} {v:Value}
end
section
variable {P:Lp} {w:World} {H H':Hp} {h h':Heap} {a C dx:Addr} {fs fs':List (Str×V)}
end
section
variable {X:Cx} {pins:List (Addr×Obj)} {σ:St} {H:Hp} {s:K5} {a C dx:Addr} {fs:List (Str×V)} {f:Str} {v:V} {A:LW} {E:Value->K5->Prop}
end
section
variable {X:Cx} {o e value:Expr} {f:Str} {pos pos' tpos:Pos} {ta tv:TE}
end
section
variable {X:Cx} {pins:List (Addr×Obj)} {σ:St} {H:Hp} {s:K5} {A:LW} {E:Value->K5->Prop} {Q:Value->K5->Prop} {c:Value} {b:Bool}
end
section
variable {X:Cx} {e:Expr} {es:List Expr} {te:TE} {t:TA} {pos:Pos}
end
section
variable {X:Cx} {pins:List (Addr×Obj)} {σ:St} {H:Hp} {s s':K5}
end
section
variable {X:Cx} {CX:CXT} {k:Nat} {f C:Addr} {fd:LZ} {ps:List Str} {sp:Sp} {dvs:List V} {ds:List Value} {E:XK} {x m:Str} {p pos apos:Pos} {e o:Expr} {es:List Expr} {ta:TE} {t:TA}
end
section
variable {X:Cx} {CX:CXT} {k:Nat} {f C:Addr} {fd:LZ} {ps ks:List Str} {sp:Sp} {E:XK} {x m:Str} {p pos apos kpos:Pos} {e o:Expr} {es:List Expr} {kws:List Py} {te ta:TE} {t tk:TA} {nm:Option Str}
variable {g:List Value->List Value->List Value} {gV:List V->List V->List V}
end
section
variable {X:Cx} {x:Str} {p pos:Pos} {e:Expr} {es:List Expr} {t:TA} {id T:String} {r:List V->Hp->VK->Prop}
end
section
variable {κ:Type} [DecidableEq κ]
def cM (kvs:List (κ×V)) (k:κ):Option V:=(kvs.find? fun kv=>decide (kv.1=k)).map (·.2)
def putK (kvs:List (κ×V)) (k:κ) (v:V):List (κ×V) :=
 if (kvs.any fun kv=>decide (kv.1=k))=true then kvs.map (fun kv=>if kv.1=k then (kv.1,v) else kv) else kvs++[(k,v)]
def dM {p:κ×V} {r:List (κ×V)} {k:κ} (e:p.1=k):cM (p :: r) k=some p.2:=by simp [cM,NC,e]
def da {p:κ×V} {r:List (κ×V)} {k:κ} (e:¬ p.1=k):cM (p :: r) k=cM r k:=by simp [cM,NC,e]
def lO (k:κ):∀ kvs:List (κ×V),(kvs.any fun kv=>decide (kv.1=k))=(cM kvs k).isSome
 | []=>rfl
 | p :: r=>by
  rw [NY]
  by_cases e:p.1=k
  ·simp only [dM e,decide_eq_true e,Bool.true_or,Option.isSome_some]
  ·rw [da e,decide_eq_false e,Bool.false_or];exact lO k r
def yR (k j:κ) (y:V):∀ kvs:List (κ×V),cM (kvs.map fun kv=>if kv.1=k then (kv.1,y) else kv) j=(cM kvs j).map fun x=>if j=k then y else x
 | []=>rfl
 | p :: r=>by
  have ih:=yR k j y r;rw [LY]
  by_cases h:p.1=k
  ·rw [if_pos h]
   by_cases e:p.1=j
   ·rw [dM (p:=(p.1,y)) e,dM e,Ov,if_pos (e.symm.trans h)]
   ·rw [da (p:=(p.1,y)) e,da e,ih]
  ·rw [if_neg h]
   by_cases e:p.1=j
   ·rw [dM (p:=p) e,dM e,Ov,if_neg (fun z=>h (e.trans z))]
   ·rw [da (p:=p) e,da e,ih]
def wu (k j:κ) (y:V):∀ kvs:List (κ×V),cM kvs k=none->cM (kvs++[(k,y)]) j=if j=k then some y else cM kvs j
 | [],_=>by
  by_cases e:k=j
  ·rw [if_pos e.symm];exact dM (p:=(k,y)) e
  ·rw [if_neg (fun z=>e z.symm)];exact da (p:=(k,y)) e
 | p :: r,hn=>by
  rw [List.cons_append];have hk:¬ p.1=k:=fun z=>by rw [dM z] at hn;cases hn
  rw [da hk] at hn;have ih:=wu k j y r hn
  by_cases e:p.1=j
  ·rw [dM e,dM e,if_neg (fun z=>hk (e.trans z))]
  ·rw [da e,da e,ih]
def FN (kvs:List (κ×V)) (k j:κ) (y:V):cM (putK kvs k y) j=if j=k then some y else cM kvs j:=by
 unfold putK
 by_cases a:(kvs.any fun kv=>decide (kv.1=k))=true
 ·rw [if_pos a,yR];rw [lO] at a
  by_cases e:j=k
  ·obtain ⟨x,hx⟩:=OS.mp a;rw [if_pos e,e,hx,Ov,if_pos rfl]
  ·rw [if_neg e];cases cM kvs j with
   | none=>rfl
   | some x=>rw [Ov,if_neg e]
 ·rw [if_neg a];refine wu k j y kvs ?_;rw [lO] at a;cases q:cM kvs k with
  | none=>rfl
  | some x=>rw [q] at a;exact (a rfl).elim
def jb (kvs:List (κ×V)) (k:κ) (v:V):(putK kvs k v).length<=kvs.length+1:=by
 unfold putK
 split
 ·rw [KY];lia
 ·rw [Lg,LN,PK];lia
def FC {kvs:List (κ×V)} {k:κ} (v:V) (h:cM kvs k=none):putK kvs k v=kvs++[(k,v)]:=by
 unfold putK;rw [lO,h];exact if_neg (by decide)
def eQ.oU {o:Option V} {u:Option Value} (r:eQ o u):o.isSome=u.isSome:=by
 cases o with
 | none=>cases u with
  | none=>rfl
  | some _=>exact (show False from r).elim
 | some _=>cases u with
  | none=>exact (show False from r).elim
  | some _=>rfl
def eQ.getD {o:Option V} {u:Option Value} {d:V} {d':Value} (r:eQ o u) (rd:RelV d d'):RelV (o.getD d) (u.getD d'):=by
 cases o with
 | none=>cases u with
  | none=>exact rd
  | some _=>exact (show False from r).elim
 | some _=>cases u with
  | none=>exact (show False from r).elim
  | some _=>exact r
def KV.val {kvs:List (κ×V)} {vs:List (κ×Value)} (r:KV kvs vs) (k:κ):eQ (cM kvs k) (valueAt vs k):=by
 unfold KV at r
 induction r with
 | nil=>exact M0
 | @cons p q ps qs h t ih =>
  obtain ⟨h1,h2⟩:=h
  by_cases e:p.1=k
  ·have e':q.1=k:=h1.symm.trans e;have b:valueAt (q :: qs) k=some q.2:=by simp [valueAt,NC,e']
   rw [dM e,b];exact h2
  ·have e':¬ q.1=k:=fun z=>e (h1.trans z);have b:valueAt (q :: qs) k=valueAt qs k:=by simp [valueAt,NC,e']
   rw [da e,b];exact ih
def KV.any {kvs:List (κ×V)} {vs:List (κ×Value)} (r:KV kvs vs) (k:κ):(kvs.any fun kv=>decide (kv.1=k))=vs.any fun kv=>decide (kv.1=k):=by
 unfold KV at r
 induction r with
 | nil=>rfl
 | cons h t ih=>rw [NY,NY,ih,h.1]
def KV.E4 {kvs:List (κ×V)} {vs:List (κ×Value)} (r:KV kvs vs) (k:κ) {y:V} {u:Value} (ry:RelV y u) :
  KV (kvs.map fun kv=>if kv.1=k then (kv.1,y) else kv) (vs.map fun kv=>if kv.1=k then (kv.1,u) else kv):=by
 unfold KV at r ⊢
 induction r with
 | nil=>exact .nil
 | @cons p q ps qs h t ih =>
  rw [LY,LY];refine .cons ?_ ih;obtain ⟨h1,h2⟩:=h
  by_cases e:p.1=k
  ·rw [if_pos e,if_pos (h1.symm.trans e)];exact ⟨h1,ry⟩
  ·rw [if_neg e,if_neg (fun z=>e (h1.trans z))];exact ⟨h1,h2⟩
def KV.put {kvs:List (κ×V)} {vs:List (κ×Value)} (r:KV kvs vs) (k:κ) {y:V} {u:Value} (ry:RelV y u):KV (putK kvs k y) (stored vs k u):=by
 unfold putK stored;rw [r.any k]
 by_cases e:(vs.any fun kv=>decide (kv.1=k))=true
 ·rw [if_pos e,if_pos e];exact r.E4 k ry
 ·rw [if_neg e,if_neg e];exact Paired.snoc r ⟨rfl,ry⟩
def KV.keys {kvs:List (κ×V)} {vs:List (κ×Value)} (r:KV kvs vs):kvs.map (·.1)=vs.map (·.1):=by
 unfold KV at r
 induction r with
 | nil=>rfl
 | cons h t ih=>rw [LY,LY,ih,h.1]
def KV.length {kvs:List (κ×V)} {vs:List (κ×Value)} (r:KV kvs vs):kvs.length=vs.length:=NV r
end
def qh {P:Lp} {w:World} {k:Key} {u:Value} (r:RelV (kV k) u):(c5 P w).is k u=true:=by
 cases k with
 | inl i=>obtain ⟨t,e⟩:=(show ∃ t,u=NU i t from r);subst e;exact A2 P w i t
 | inr x=>obtain ⟨t,e⟩:=(show ∃ t,u=Ql x t from r);subst e;exact AX P w x t
def wm {P:Lp} {w:World}:∀ {ks:List Key} {us:List Value},Vals (ks.map kV) us->ItemsAre (c5 P w) ks us
 | [],_,r=>by rw [QC] at r;cases r;exact .nil
 | k :: ks,_,r=>by
  rw [LY] at r;cases r with
  | cons h t=>exact .cons (qh h) (wm t)
abbrev KT (H:Hp):List (List Key×V)->List (List Key×Addr×Value)->Prop:=MB fun p q=>p.1=q.1/\H q.2.1=some (.tup (p.1.map kV))/\RelV p.2 q.2.2
def KT.val {H:Hp} {kvs:List (List Key×V)} {xs:List (List Key×Addr×Value)} (r:KT H kvs xs) (k:List Key):eQ (cM kvs k) ((atKey xs k).map (·.2)):=by
 induction r with
 | nil=>exact M0
 | @cons p q ps qs h t ih =>
  obtain ⟨h1,_,h2⟩:=h
  by_cases e:p.1=k
  ·have e':q.1=k:=h1.symm.trans e;have b:atKey (q :: qs) k=some q.2:=by simp [atKey,NC,e']
   rw [dM e,b];exact h2
  ·have e':¬ q.1=k:=fun z=>e (h1.trans z);have b:atKey (q :: qs) k=atKey qs k:=by simp [atKey,NC,e']
   rw [da e,b];exact ih
def KT.E4 {H:Hp} {kvs:List (List Key×V)} {xs:List (List Key×Addr×Value)} (r:KT H kvs xs) (k:List Key) {y:V} {u:Value} (ry:RelV y u) :
  KT H (kvs.map fun kv=>if kv.1=k then (kv.1,y) else kv) (xs.map (putAt k u)):=by
 induction r with
 | nil=>exact .nil
 | @cons p q ps qs h t ih =>
  rw [LY,LY];refine .cons ?_ ih;obtain ⟨h1,h2,h3⟩:=h;unfold putAt
  by_cases e:p.1=k
  ·rw [if_pos e,if_pos (h1.symm.trans e)];exact ⟨h1,h2,ry⟩
  ·rw [if_neg e,if_neg (fun z=>e (h1.trans z))];exact ⟨h1,h2,h3⟩
def KT.put {H:Hp} {kvs:List (List Key×V)} {xs:List (List Key×Addr×Value)} (r:KT H kvs xs) (k:List Key) {b:Addr} {y:V} {u:Value} (hb:H b=some (.tup (k.map kV))) (ry:RelV y u) :
  KT H (putK kvs k y) (storedH xs k b u):=by
 have e:(kvs.any fun kv=>decide (kv.1=k))=(atKey xs k).isSome:=by
  rw [lO,(r.val k).oU,Option.isSome_map]
 unfold putK storedH;rw [e]
 by_cases q:(atKey xs k).isSome=true
 ·rw [if_pos q,if_pos q];exact r.E4 k ry
 ·rw [if_neg q,if_neg q];exact Paired.snoc r ⟨rfl,hb,ry⟩
def KT.keeps {H H':Hp} {kvs:List (List Key×V)} {xs:List (List Key×Addr×Value)} (r:KT H kvs xs) (ht:∀ b ys,H b=some (.tup ys)->H' b=some (.tup ys)):KT H' kvs xs :=
 Paired.dD r fun _ _ z=>⟨z.1,ht _ _ z.2.1,z.2.2⟩
section
variable {P:Lp} {w:World} {H:Hp} {h:Heap} {a:Addr}
def GV {u:HO} (ok:HOk P w H h) (e:Rd H a u):bX P w H h a u:=e.ok ok
def yB {kvs:List (Key×V)} (ok:HOk P w H h) (e:Rd H a (.dK kvs)):kvs.length<=LB/\(a == sysModules)=false/\∃ vs,KV kvs vs/\h.DictOf (c5 P w) a vs :=
 show bX P w H h a (.dK kvs) from GV ok e
def GS {kvs:List (Key×V)} (ok:HOk P w H h) (e:H a=some (.dK kvs)):kvs.length<=LB/\(a == sysModules)=false/\∃ vs,KV kvs vs/\h.DictOf (c5 P w) a vs:=yB ok (.inl e)
def uq {ks:List Key} (ok:HOk P w H h) (e:H a=some (.tup (ks.map kV))):(tupleKind (c5 P w)).is h ks a:=by
 obtain ⟨_,its,r,o,h1,h2,n,h3⟩:=(show bX P w H h a (.tup (ks.map kV)) from ok a _ e);exact ⟨o,its.toArray,n,h1,h2,h3,by simpa using wm r⟩
def ye {kvs:List (List Key×V)} (ok:HOk P w H h) (e:Rd H a (.dT kvs)):kvs.length<=LB/\(a == sysModules)=false /\
  ∃ xs,KT H kvs xs/\h.DictOfH (tupleKind (c5 P w)) a xs:=by
 obtain ⟨z,y,xs,r,o,es,ep,h1,h2,h3,h4,h5⟩:=(show bX P w H h a (.dT kvs) from GV ok e);refine ⟨z,y,xs,r,o,es,ep,h1,h2,h3,h4,fun x hx=>?_,h5⟩;have all:∀ {l:List (List Key×V)} {m:List (List Key×Addr×Value)},KT H l m->∀ x∈m,(tupleKind (c5 P w)).is h x.1 x.2.1:=by
  intro l m q
  induction q with
  | nil=>intro x hx;exact nomatch hx
  | @cons p q ps qs hq t ih =>
   intro x hx;rcases LL.mp hx with e|hx
   ·subst e;exact uq ok (by rw [<- hq.1];exact hq.2.1)
   ·exact ih x hx
 exact all r x hx
def J5 {kvs:List (List Key×V)} (ok:HOk P w H h) (e:H a=some (.dT kvs)):kvs.length<=LB/\(a == sysModules)=false /\
  ∃ xs,KT H kvs xs/\h.DictOfH (tupleKind (c5 P w)) a xs:=ye ok (.inl e)
end
def iV (H:Hp) (a:Addr) (y:V) (r:Option V):Prop :=
 (∃ kvs k,Rd H a (.dK kvs)/\y=kV k/\r=cM kvs k)\/∃ kvs k b,Rd H a (.dT kvs)/\y=.ref b/\H b=some (.tup (k.map kV))/\r=cM kvs k
def p9 (H:Hp) (a:Addr) (y v:V) (H':Hp):Prop :=
 (∃ kvs k,H a=some (.dK kvs)/\y=kV k/\kvs.length<LB/\H'=upd H a (.dK (putK kvs k v))) \/
 ∃ kvs k b,H a=some (.dT kvs)/\y=.ref b/\H b=some (.tup (k.map kV))/\kvs.length<LB/\H'=upd H a (.dT (putK kvs k v))
def iV.k {H:Hp} {a:Addr} {kvs:List (Key×V)} {k:Key} (e:H a=some (.dK kvs)):iV H a (kV k) (cM kvs k):=.inl ⟨kvs,k,.inl e,rfl,rfl⟩
def iV.t {H:Hp} {a b:Addr} {kvs:List (List Key×V)} {k:List Key} (e:H a=some (.dT kvs)) (eb:H b=some (.tup (k.map kV))):iV H a (.ref b) (cM kvs k):=.inr ⟨kvs,k,b,.inl e,rfl,eb,rfl⟩
def p9.k {H:Hp} {a:Addr} {kvs:List (Key×V)} {k:Key} {v:V} (e:H a=some (.dK kvs)) (hl:kvs.length<LB):p9 H a (kV k) v (upd H a (.dK (putK kvs k v))):=.inl ⟨kvs,k,e,rfl,hl,rfl⟩
def p9.t {H:Hp} {a b:Addr} {kvs:List (List Key×V)} {k:List Key} {v:V} (e:H a=some (.dT kvs)) (eb:H b=some (.tup (k.map kV))) (hl:kvs.length<LB) :
  p9 H a (.ref b) v (upd H a (.dT (putK kvs k v))):=.inr ⟨kvs,k,b,e,rfl,eb,hl,rfl⟩
section
variable {X:Cx} {pins:List (Addr×Obj)} {σ:St} {H:Hp} {s:K5} {a:Addr} {y v:V} {u r:Value} {o:Option V} {A:LW} {E:Value->K5->Prop}
def Inv.big (I:Inv X pins σ H s):sysModules<s.heap.objs.size:=by
 have h:L1<s.heap.objs.size:=(I.mod.glob.keeps I.bk).lt;exact PL (by decide) h
def Ej {Q:Value->K5->Prop} (hu:A.units+1<cLine) (I:Inv X pins σ H s) (g:iV H a y (some v)) (ry:RelV y u) (h:∀ w' s',Inv X pins σ H s'->RelV v w'->Q w' s') :
  wpAny (model X.prog X.w) A (getItem (.ref a) u) Q E s:=by
 rcases g with ⟨kvs,k,e,ey,l⟩|⟨kvs,k,b,e,ey,eb,l⟩
 ·subst ey;obtain ⟨z,hd,vs,rel,dd⟩:=yB I.hok e;obtain ⟨w',hw,rw'⟩:=eQ.some_of (v:=v) (o:=valueAt vs k) (by rw [l];exact rel.val k)
  exact wpAny_getItem_of (qh ry) dd.mapOf hw (h w' _ (I.tok _) rw')
 ·subst ey;cases (show u=LF b from ry);obtain ⟨z,hd,xs,rel,dd⟩:=ye I.hok e;obtain ⟨w',hw,rw'⟩:=eQ.some_of (v:=v) (o:=(atKey xs k).map (·.2)) (by rw [l];exact rel.val k)
  obtain ⟨p,hp,hp2⟩:=Mv.mp hw;refine wpAny_getItem_heap (OF hu) (uq I.hok eb) dd hp ?_;rw [hp2];exact h w' _ (I.tok _) rw'
def HX {Q:Value->K5->Prop} (hu:A.units+1<cLine) (I:Inv X pins σ H s) (g:iV H a y o) (ry:RelV y u) (h:∀ s',Inv X pins σ H s'->Q (.bool (!o.isSome)) s') :
  wpAny (model X.prog X.w) A (compareOp .NotIn u (.ref a)) Q E s:=by
 rcases g with ⟨kvs,k,e,ey,l⟩|⟨kvs,k,b,e,ey,eb,l⟩
 ·subst ey;obtain ⟨z,hd,vs,rel,dd⟩:=yB I.hok e;refine wpAny_notIn_of (qh ry) hd dd.mapOf ?_;rw [<- (rel.val k).oU,<- l];exact h _ (I.tok _)
 ·subst ey;cases (show u=LF b from ry);obtain ⟨z,hd,xs,rel,dd⟩:=ye I.hok e;refine wpAny_notIn_heap (OF hu) (uq I.hok eb) hd dd ?_;have q:=(rel.val k).oU;rw [Option.isSome_map] at q;rw [<- q,<- l];exact h _ (I.tok _)
def vq {h':Heap} {t':Nat} {ob:HO} (I:Inv X pins σ H s) (mu:Mut (H a)) (hs:OC a s.heap h') (he:∃ q,h'.get? a=some q) (new:bX X.prog X.w (upd H a ob) h' a ob) :
  Inv X pins σ (upd H a ob) { s with heap:=h',toks:=t' } :=
 I.write (x:=a) (e:=a) mu (.inl rfl) (fun b q hb z=>(hs.2 b hb).trans z) he new
def AA {P:Lp} {w:World} {H':Hp} {h':Heap} {kvs:List (Key×V)} {vs:List (Key×Value)} (z:kvs.length<=LB) (hd:(a == sysModules)=false) (rel:KV kvs vs) (dd:h'.DictOf (c5 P w) a vs) :
  bX P w H' h' a (.dK kvs):=⟨z,hd,vs,rel,dd⟩
def D0 {H':Hp} {Q:Unit->K5->Prop} (hu:A.units+1<cLine) (I:Inv X pins σ H s) (g:p9 H a y v H') (ry:RelV y u) (rv:RelV v r) (h:∀ s',Inv X pins σ H' s'->Q () s') :
  wpAny (model X.prog X.w) A (setItem (.ref a) u r) Q E s:=by
 rcases g with ⟨kvs,k,e,ey,l,eH⟩|⟨kvs,k,b,e,ey,eb,l,eH⟩
 ·subst ey eH;obtain ⟨z,hd,vs,rel,dd⟩:=GS I.hok e;have hz:vs.length<=LB:=by rw [<- rel.length];exact z
  have hl:(putK kvs k v).length<=LB:=by have:=jb kvs k v;lia
  refine wpAny_setItem_pairs (hsz:=hz) (qh ry) dd fun h' dd' hs=>h _ ?_;have he:∃ q,h'.get? a=some q:=let ⟨q,_,_,hq,_⟩:=dd';⟨q,hq⟩;exact vq I (by rw [e];exact M0) hs he (AA hl hd (rel.put k rv) dd')
 ·subst ey eH;cases (show u=LF b from ry);obtain ⟨z,hd,xs,rel,dd⟩:=J5 I.hok e;have hz:xs.length<=LB:=by rw [<- NV rel];exact z
  have hl:(putK kvs k v).length<=LB:=by have:=jb kvs k v;lia
  refine wpAny_setItem_heap (hsz:=hz) (OF hu) (uq I.hok eb) dd fun h' dd' hs=>h _ ?_;obtain ⟨q,es,ep,hq,h2,h3,h4,_,h5⟩:=dd';refine vq I (by rw [e];exact M0) hs ⟨q,hq⟩ ⟨hl,hd,_,(rel.put k eb rv).keeps fun c ys ec=>?_,q,es,ep,hq,h2,h3,h4,h5⟩
  rw [av (J6 ec e (fun z=>nomatch z))];exact ec
end
section
variable {X:Cx} {pins:List (Addr×Obj)} {σ:St} {H:Hp} {s:K5} {a:Addr} {kvs:List (Key×V)} {k:Key} {u:Value} {A:LW} {E:Value->K5->Prop}
end
def JM (i:Expr):Prop:=∀ ov iv,subscripted i false ov iv=operate [ov,iv] (getItem ov iv)
def HB {prog:Lp} {w:World} {A:LW} {E:Value->K5->Prop} {s:K5} {env:Env} {value slice:Expr} {pos:Pos} {T id:String} {Q:Value->K5->Prop}
  (hl:typeLookup (.type T) "__getitem__" = pure (some (.builtin id))) (hs:JM slice)
  (h:wpAny (model prog w) A (eval value env) (fun o s₁=>wpAny (model prog w) A (eval slice env) (fun i s₂=>s₂.TypeIs o T/\wpAny (model prog w) A (getItem o i) Q E s₂) E s₁) E s) :
  wpAny (model prog w) A (eval (.Subscript value slice pos) env) Q E s:=by
 refine Subscript_ (Mj h (fun o s₁ h₁=>Mj h₁ (fun i s₂ h₂=>?_) fun _ _ x=>x) fun _ _ x=>x);obtain ⟨hT,h₂⟩:=h₂;unfold subscriptTail;refine K9 ?_;rw [getitemInPython_of_ne hT.not_modules];refine K9 (wpAny_specialOf hT hl ?_);have fin:wpAny (model prog w) A (subscripted slice false o i) (fun r s₃=>wpAny (model prog w) A (letTemporaryGo value o r >>= fun _=>pure r) Q E s₃) E s₂:=by
  rw [hs o i];exact wpAny_operating (Mj h₂ (fun r s₃ h₃=>K9 (wpAny_letTemporaryGo (LI h₃))) fun _ _ x=>x)
 first
  | exact LI (K9 fin)
  | exact K9 (LI (K9 fin))
  | exact K9 fin
def Ba {X:Cx} {pins:List (Addr×Obj)} {σ:St} {H:Hp} {s:K5} {a:Addr} {y:V} {o:Option V} (I:Inv X pins σ H s) (g:iV H a y o):s.TypeIs (.ref a) "dict":=by
 rcases g with ⟨kvs,k,e,_,_⟩|⟨kvs,k,b,e,_,_,_⟩
 ·obtain ⟨_,_,vs,_,dd⟩:=yB I.hok e;exact dd.typeIs
 ·obtain ⟨_,_,xs,_,dd⟩:=ye I.hok e;exact dd.typeIs
def GU (td ty:TE):TE:=fun σ H Q=>td σ H fun x H1=>ty σ H1 fun y H2=>∃ a v,x=.ref a/\iV H2 a y (some v)/\Q v H2
def Bk (ty td:TE):TE:=fun σ H Q=>ty σ H fun y H1=>td σ H1 fun x H2=>∃ a o,x=.ref a/\iV H2 a y o/\Q (.bl (!o.isSome)) H2
def Hd (td ty tv:TE):TS:=fun D σ H=>tv σ H fun v H1=>td σ H1 fun x H2=>ty σ H2 fun y H3=>∃ a H4,x=.ref a/\p9 H3 a y v H4/\D.nx σ H4
section
variable {X:Cx} {o i e value:Expr} {pos pos' tpos:Pos} {td ty tv:TE}
def i3 (hu:X.A.units+1<cLine) (ho:PE X o td) (hi:PE X i ty) (hs:JM i):PE X (.Subscript o i pos) (GU td ty):=by
 intro pins s σ H Q I h;refine HB PySem.F.slot_dict_getitem.lookup hs (thn (ho pins s σ H _ I h) fun u s1 ⟨x,H1,I1,rx,q1⟩=>thn (hi pins s1 σ H1 _ I1 q1) fun iv s2 ⟨y,H2,I2,ry,a,v,ex,g,q2⟩=>?_);subst ex;obtain rfl:u=LF a:=rx;exact ⟨Ba I2 g,Ej hu I2 g ry fun w' s3 I3 rw'=>⟨v,H2,I3,rw',q2⟩⟩
def Ed (hu:X.A.units+1<cLine) (hi:PE X i ty) (ho:PE X o td):PC X .NotIn i o (Bk ty td):=by
 intro pins s σ H Q I h;refine thn (hi pins s σ H _ I h) fun iv s1 ⟨y,H1,I1,ry,q1⟩=>thn (ho pins s1 σ H1 _ I1 q1) fun u s2 ⟨x,H2,I2,rx,a,ov,ex,g,q2⟩=>?_;subst ex;obtain rfl:u=LF a:=rx;exact HX hu I2 g ry fun s3 I3=>⟨.bl (!ov.isSome),H2,I3,rfl,q2⟩
def BC (hu:X.A.units+1<cLine) (ho:PE X o td) (hi:PE X i ty) (hv:PE X value tv) (hs:swapsWith value (some (.Subscript o i pos')) pos.line X.env=pure false) :
  PS X (.Assign [.Subscript o i pos'] value pos) (Hd td ty tv):=by
 intro pins s σ H D I h;refine wpAny_Assign_Subscript (thn (hv pins s σ H _ I h) fun r s1 ⟨v,H1,I1,rv,q1⟩=>thn (ho pins s1 σ H1 _ I1 q1) fun u s2 ⟨x,H2,I2,rx,q2⟩=>thn (hi pins s2 σ H2 _ I2 q2) fun iv s3 ⟨y,H3,I3,ry,a,H4,ex,g,q3⟩=>?_) hs;subst ex;obtain rfl:u=LF a:=rx;exact D0 hu I3 g ry rv fun s4 I4=>⟨σ,H4,I4,q3⟩
end
def AF {P:Lp} {w:World} {H:Hp} (h:Heap) (hb:sysModules<h.objs.size):bX P w H (h.push { cls:=.type "dict",data:=.dict #[] }) h.objs.size (.dK []) :=
 ⟨Mb _,beq_eq_false_iff_ne.mpr (MX (Lz hb)),[],.nil,Heap.DictOf.new h⟩
def EW:TE:=fun _ H Q=>∀ p,H p=none->Q (.ref p) (upd H p (.dK []))
section
variable {X:Cx} {pos:Pos}
def Gq:PE X (.Dict [] [] pos) EW:=fun pins s σ H Q I h =>
 wpAny_Dict_empty ⟨.ref s.heap.objs.size,_,I.laid (a:=s.heap.objs.size) (o:=.dK []) (t':=s.toks) (fun _ _ q=>La _ q) (Lj _) (AF s.heap I.big),rfl,h _ (I.hok.fresh (Lj _))⟩
end
def yM:List (TE×TE)->St->Hp->(List (V×V)->Hp->Prop)->Prop
 | [],_,H,Q=>Q [] H
 | (tk,tv) :: r,σ,H,Q=>tk σ H fun x H1=>tv σ H1 fun y H2=>yM r σ H2 fun ps H3=>Q ((x,y) :: ps) H3
abbrev VV:List (V×V)->List (Value×Value)->Prop:=MB fun p q=>RelV p.1 q.1/\RelV p.2 q.2
def PPs (X:Cx) (pos:Pos) (keys:List (Option Expr)) (values:List Expr) (trs:List (TE×TE)):Prop :=
 ∀ (pins:List (Addr×Obj)) (s:K5) (σ:St) (H:Hp) (Q:List (V×V)->Hp->Prop),Inv X pins σ H s->yM trs σ H Q ->
  wpAny (model X.prog X.w) X.A (evalPairs (pairTrees keys values X.env pos)) (fun vs s'=>∃ ps H',Inv X pins σ H' s'/\VV ps vs/\Q ps H') X.xe s
def II {X:Cx} {pos:Pos}:PPs X pos [] [] []:=fun pins s σ H Q I h=>pairTrees_nil_walk ⟨[],H,I,.nil,h⟩
def GA {X:Cx} {pos:Pos} {k v:Expr} {ks:List (Option Expr)} {vs:List Expr} {tk tv:TE} {trs:List (TE×TE)} (hk:PE X k tk) (hv:PE X v tv) (hr:PPs X pos ks vs trs) :
  PPs X pos (some k :: ks) (v :: vs) ((tk,tv) :: trs):=fun pins s σ H Q I h =>
 pairTrees_cons_walk (thn (hk pins s σ H _ I h) fun u s1 ⟨x,H1,I1,rx,q1⟩=>thn (hv pins s1 σ H1 _ I1 q1) fun w2 s2 ⟨y,H2,I2,ry,q2⟩ =>
  thn (hr pins s2 σ H2 _ I2 q2) fun ws s3 ⟨ps,H3,I3,rel,q3⟩=>⟨(x,y) :: ps,H3,I3,.cons ⟨rx,ry⟩ rel,q3⟩)
def ic (kvs more:List (Key×V)):List (Key×V):=more.foldl (fun acc kv=>putK acc kv.1 kv.2) kvs
def KV.merge:∀ {more:List (Key×V)} {rs:List (Key×Value)} {kvs:List (Key×V)} {vs:List (Key×Value)},KV more rs->KV kvs vs->KV (ic kvs more) (merged vs rs):=by
 intro more rs kvs vs r;unfold KV at r
 induction r generalizing kvs vs with
 | nil=>intro q;exact q
 | @cons p q ps qs h t ih =>
  intro r0;have e:KV (putK kvs p.1 p.2) (stored vs q.1 q.2):=by
   have:=r0.put p.1 h.2;rw [<- h.1];exact this
  exact ih e
def oI:∀ (more kvs:List (Key×V)),(ic kvs more).length<=kvs.length+more.length
 | [],kvs=>by show kvs.length<=kvs.length+0;lia
 | p :: r,kvs=>by
  have h1:=oI r (putK kvs p.1 p.2);have h2:=jb kvs p.1 p.2;show (ic (putK kvs p.1 p.2) r).length<=_;rw [LN];lia
def tE {P:Lp} {w:World}:∀ {kvs:List (Key×V)} {ws:List (Value×Value)},VV (kvs.map fun kv=>(kV kv.1,kv.2)) ws->∃ rs,Carries (c5 P w) ws rs/\KV kvs rs
 | [],_,r=>by rw [QC] at r;cases r;exact ⟨[],M0,.nil⟩
 | p :: kvs,_,r=>by
  rw [LY] at r;cases r with
  | @cons a b as bs h t =>
   obtain ⟨rs,c,q⟩:=tE (P:=P) (w:=w) t;obtain ⟨b1,b2⟩:=b;exact ⟨(p.1,b2) :: rs,⟨qh h.1,rfl,c⟩,.cons ⟨rfl,h.2⟩ q⟩
def GQ (trs:List (TE×TE)):TE:=fun σ H Q=>∀ p,H p=none->yM trs σ (upd H p (.dK [])) fun ps H2=>H2 p=some (.dK [])/\∃ kvs:List (Key×V),ps=kvs.map (fun kv=>(kV kv.1,kv.2))/\kvs.length<=15/\Q (.ref p) (upd H2 p (.dK (ic [] kvs)))
def Hu {X:Cx} {pos:Pos} {keys:List (Option Expr)} {values:List Expr} {trs:List (TE×TE)} (h:PPs X pos keys values trs) (hall:keys.all (·.isSome)=true) (hl:keys.length=values.length) (h0:keys≠[])
  (h15:keys.length<=15):PE X (.Dict keys values pos) (GQ trs):=by
 intro pins s σ H Q I q;have hn:=I.hok.fresh (Lj s.heap.objs.size);have I1:=I.laid (a:=s.heap.objs.size) (o:=.dK []) (h':=s.heap.push { cls:=.type "dict",data:=.dict #[] }) (t':=s.toks) (fun _ _ q=>La _ q) (Lj _) (AF s.heap I.big);refine wpAny_Dict_walk (knd:=c5 X.prog X.w) hall hl h0 h15 (thn (h pins _ σ _ _ I1 (q _ hn)) fun ws s2 ⟨ps,H2,I2,rel,e,kvs,ep,lk,q2⟩=>?_);subst ep;obtain ⟨rs,c,rk⟩:=tE (P:=X.prog) (w:=X.w) rel;obtain ⟨z,hd,vs0,r0,dd⟩:=GS I2.hok e;cases r0;refine ⟨rs,c,dd,fun h' dd' hs=>⟨.ref s.heap.objs.size,_,?_,rfl,q2⟩⟩;have hz:(ic [] kvs).length<=LB:=by
  have h1:=oI kvs [];rw [PK] at h1;rw [L5];lia
 have he:∃ q,h'.get? s.heap.objs.size=some q:=let ⟨q,_,_,hq,_⟩:=dd';⟨q,hq⟩;exact vq I2 (by rw [e];exact M0) hs he (AA hz hd (rk.merge .nil) dd')
section
variable {X:Cx} {pins:List (Addr×Obj)} {σ:St} {H:Hp} {s:K5} {a:Addr} {y d:V} {u r:Value} {o:Option V} {A:LW} {E:Value->K5->Prop}
end
section
variable {X:Cx} {o e f:Expr} {apos cpos:Pos} {td ty tx:TE}
end
section
variable {X:Cx} {pins:List (Addr×Obj)} {σ:St} {H:Hp} {s:K5} {a:Addr} {kvs:List (Key×V)} {A:LW} {E:Value->K5->Prop}
end
section
variable {X:Cx} {pins:List (Addr×Obj)} {σ:St} {H:Hp} {s:K5} {a:Addr} {y:V} {u:Value} {A:LW} {E:Value->K5->Prop}
end
end L2
namespace Att
open PySem PySem.W PySem.Calls PyProof.Rows
section
variable {prog:Lp} {w:World} {A:LW} {E:Value->K5->Prop} {s:K5} {K:Frag}
end
end Att
namespace L2
open PySem PySem.Spec PyProof.Rows
section
variable {P:Lp} {w:World} {K:KW} {mg:Str->Option Value} {base:Heap}
end
section
variable {X:Cx}
end
section
variable {κ:Type} [DecidableEq κ]
def BA:∀ {l:List κ} {k:κ},l.Nodup->¬ k∈l->(l++[k]).Nodup
 | [],k,_,_=>by simp
 | a :: r,k,h,hk=>by
  obtain ⟨h1,h2⟩:=L9.mp h;show (a :: (r++[k])).Nodup;refine L9.mpr ⟨fun m=>?_,BA h2 fun m=>hk (LL.mpr (Ni m))⟩;rcases LP.mp m with q|q
  ·exact h1 q
  ·exact hk (LL.mpr (K6 (Lb.mp q).symm))
end
section
variable {K:KW} {H:Hp} {σ:St} {Q:VK} {g:TG} {tt:TT} {ta:TE} {own:List Str} {fr:List Nat}
def nW {J:It} {n:Nat} (W:Addr->Nat->St->Hp->List V->Prop) (hz:n<=100000)
  (hgo:∀ d i σ' H' ys,i<n->W d i σ' H' ys->J.go i H') (hst:∀ d σ' H' ys,W d n σ' H' ys->J.stop n H')
  (hal:∀ d i σ' H' ys,i<=n->W d i σ' H' ys->ys.length<=i) (h0:∀ d,H d=none->W d 0 (bB own fr σ) (upd H d (.lst [])) [])
  (turn:∀ d i σ' H' ys x H2 (R:St->V->Hp->Prop) (R0:St->Hp->Prop),H d=none->i<n->W d i σ' H' ys->H' d=some (.lst ys)->J.yld i H' x H2 ->
   (∀ σ2 y H5,H5 d=some (.lst ys)->W d (i+1) σ2 (upd H5 d (.lst (ys++[y]))) (ys++[y])->R σ2 y H5)->(∀ σ2 H5,H5 d=some (.lst ys)->W d (i+1) σ2 H5 ys->R0 σ2 H5) ->
   g x σ' H2 fun σ2 H3=>tt σ2 H3 fun ok H4=>if ok=true then ta σ2 H4 (R σ2) else R0 σ2 H4)
  (fin:∀ d σ' H' ys,H d=none->H' d=some (.lst ys)->W d n σ' H' ys->Q (.ref d) H'):cS own fr g tt ta σ Q J H:=by
 intro d hd;refine ⟨fun i m σ' H'=>m=n - i/\i<=n/\∃ ys,H' d=some (.lst ys)/\W d i σ' H' ys,⟨n,rfl,Mb _,[],au,h0 d hd⟩,?_⟩;rintro i m σ' H' ⟨rfl,hi,ys,hys,w⟩
 by_cases hlt:i<n
 ·refine .inr ⟨hgo d i σ' H' ys hlt w,fun x H2 hx=>turn d i σ' H' ys x H2 _ _ hd hlt w hys hx (fun σ2 y H5 h1 h2=>?_) (fun σ2 H5 h1 h2=>?_)⟩
  ·have hl:=hal d i σ' H' ys hi w;exact ⟨ys,h1,LO (show ys.length<=100000 by lia) (by rw [L5];decide),n - (i+1),by lia,rfl,hlt,_,au,h2⟩
  ·exact ⟨n - (i+1),by lia,rfl,hlt,ys,h1,h2⟩
 ·have e:i=n:=by lia
  subst e;exact .inl ⟨hst d σ' H' ys w,fin d σ' H' ys hd hys w⟩
def nQ {a:Int} {n:Nat} (e:a=(n:Int)) (hz:n<=100000) (W:Addr->Nat->St->Hp->List V->Prop)
  (hal:∀ d i σ' H' ys,i<=n->W d i σ' H' ys->ys.length<=i) (h0:∀ d,H d=none->W d 0 (bB own fr σ) (upd H d (.lst [])) [])
  (turn:∀ d i σ' H' ys (R:St->V->Hp->Prop) (R0:St->Hp->Prop),H d=none->i<n->W d i σ' H' ys->H' d=some (.lst ys) ->
   (∀ σ2 y H5,H5 d=some (.lst ys)->W d (i+1) σ2 (upd H5 d (.lst (ys++[y]))) (ys++[y])->R σ2 y H5)->(∀ σ2 H5,H5 d=some (.lst ys)->W d (i+1) σ2 H5 ys->R0 σ2 H5) ->
   g (.int (i:Int)) σ' H' fun σ2 H3=>tt σ2 H3 fun ok H4=>if ok=true then ta σ2 H4 (R σ2) else R0 σ2 H4)
  (fin:∀ d σ' H' ys,H d=none->H' d=some (.lst ys)->W d n σ' H' ys->Q (.ref d) H'):rU [.int a] H (cS own fr g tt ta σ Q):=by
 subst e;refine ⟨n,rfl,by lia,by lia,?_⟩
 have z:((n:Int)).toNat=n:=by lia
 show cS own fr g tt ta σ Q (Itr 0 (n:Int).toNat) H;rw [z];refine nW (n:=n) W hz (fun d i σ' H' ys hi _=>hi) (fun d σ' H' ys _=>Lj n) hal h0 (fun d i σ' H' ys x H2 R R0 hd hi w hys hy=>?_) fin;obtain ⟨e1,e2⟩:=hy;subst e1 e2;rw [QD];exact turn d i σ' _ ys R R0 hd hi w hys
def mB {p:Addr} {xs:List V} (hz:xs.length<=100000) (W:Addr->Nat->St->Hp->List V->Prop) (hw:∀ d i σ' H' ys,W d i σ' H' ys->SqL K H' p xs) (hS:SqL K H p xs)
  (hal:∀ d i σ' H' ys,i<=xs.length->W d i σ' H' ys->ys.length<=i) (h0:∀ d,H d=none->W d 0 (bB own fr σ) (upd H d (.lst [])) [])
  (turn:∀ d i x σ' H' ys (R:St->V->Hp->Prop) (R0:St->Hp->Prop),H d=none->xs[i]?=some x->W d i σ' H' ys->H' d=some (.lst ys) ->
   (∀ σ2 y H5,H5 d=some (.lst ys)->W d (i+1) σ2 (upd H5 d (.lst (ys++[y]))) (ys++[y])->R σ2 y H5)->(∀ σ2 H5,H5 d=some (.lst ys)->W d (i+1) σ2 H5 ys->R0 σ2 H5) ->
   g x σ' H' fun σ2 H3=>tt σ2 H3 fun ok H4=>if ok=true then ta σ2 H4 (R σ2) else R0 σ2 H4)
  (fin:∀ d σ' H' ys,H d=none->H' d=some (.lst ys)->W d xs.length σ' H' ys->Q (.ref d) H'):iz K (.ref p) H (cS own fr g tt ta σ Q):=by
 refine ⟨p,rfl,⟨xs,hS⟩,nW (J:=Itl K p) (n:=xs.length) W hz (fun d i σ' H' ys hi w=>⟨xs,xs[i],hw d i σ' H' ys w,by simp [hi]⟩) (fun d σ' H' ys w=>⟨xs,hw d _ σ' H' ys w,Lj _⟩) hal h0 (fun d i σ' H' ys x H2 R R0 hd hi w hys hy=>?_) fin⟩
 obtain ⟨e1,e2⟩:=hy;subst e1;exact turn d i x σ' _ ys R R0 hd (e2 xs (hw d i σ' _ ys w)) w hys
def Dr {p:Addr} {xs:List V} {ia ib:Nat} (hz:xs.length<=100000) (W:Addr->Nat->St->Hp->List V->Prop) (hw:∀ d i σ' H' ys,W d i σ' H' ys->SqL K H' p xs) (hS:SqL K H p xs)
  (hal:∀ d i σ' H' ys,i<=xs.length->W d i σ' H' ys->ys.length<=i) (h0:∀ d,H d=none->W d 0 (bB own fr σ) (upd H d (.lst [])) [])
  (turn:∀ d i x σ' H' H2 ys (R:St->V->Hp->Prop) (R0:St->Hp->Prop),H d=none->xs[i]?=some x->W d i σ' H' ys->H' d=some (.lst ys)->ai H' H2 ->
   (∀ σ2 y H5,H5 d=some (.lst ys)->W d (i+1) σ2 (upd H5 d (.lst (ys++[y]))) (ys++[y])->R σ2 y H5)->(∀ σ2 H5,H5 d=some (.lst ys)->W d (i+1) σ2 H5 ys->R0 σ2 H5) ->
   tt ((σ'.set ia (some (.int (i:Int)))).set ib (some x)) H2 fun ok H4=>if ok=true then ta ((σ'.set ia (some (.int (i:Int)))).set ib (some x)) H4 (R ((σ'.set ia (some (.int (i:Int)))).set ib (some x))) else R0 ((σ'.set ia (some (.int (i:Int)))).set ib (some x)) H4)
  (fin:∀ d σ' H' ys,H d=none->H' d=some (.lst ys)->W d xs.length σ' H' ys->Q (.ref d) H'):CT K [.ref p] H (cS own fr (jQ K 2 (cW (cw ia) (cW (cw ib) jM))) tt ta σ Q):=by
 refine ⟨p,xs,rfl,hS,nW (J:=Ite K p) (n:=xs.length) W hz (fun d i σ' H' ys hi w=>⟨xs,xs[i],hw d i σ' H' ys w,by simp [hi]⟩) (fun d σ' H' ys w=>⟨xs,hw d _ σ' H' ys w,Lj _⟩) hal h0 (fun d i σ' H' ys x H2 R R0 hd hi w hys hy hR hR0=>?_) fin⟩
 obtain ⟨q,x',rfl,hq,rfl,e2⟩:=hy;have hx:=e2 xs (hw d i σ' H' ys w);refine ⟨q,[.int (i:Int),x'],rfl,SqT.of au,rfl,⟨_,_,rfl,⟨_,_,rfl,⟨rfl,?_⟩⟩⟩⟩;exact turn d i x' σ' H' _ ys R R0 hd hx w hys (aw hq _) hR hR0
end
def Tbl.nil {H:Hp} {d:Addr}:Tbl (upd H d (.lst [])) d [] []:=⟨au,Qa,by simp,rfl,fun i p r e=>by simp at e⟩
def Tbl.snoc {H H5:Hp} {d p:Addr} {L:List (List Nat)} {ps:List Addr} {s:List Nat} (h:Tbl H d L ps) (hs:ai H H5) (hp:H5 p=some (.lst (aA s))) (hn:p∉ps) (hd:p≠d) :
  Tbl (upd H5 d (.lst (ps.map V.ref++[.ref p]))) d (L++[s]) (ps++[p]):=by
 refine ⟨?_,?_,?_,?_,fun i q r e1 e2=>?_⟩
 ·rw [au,LR];rfl
 ·exact BA h.nd hn
 ·intro z;rcases LP.mp z with z|z
  ·exact h.ap z
  ·exact hd (Lb.mp z).symm
 ·rw [Lg,Lg,h.len];rfl
 ·have hl:=h.len;rcases LD i ps.length with z|z
  ·rw [Lq z] at e1;rw [Lq (by lia)] at e2
   have hq:q≠d:=fun c=>h.ap (c ▸ K1 e1);rw [av hq];exact hs _ _ (h.row i q r e1 e2)
  ·rw [Lr z] at e1;rw [Lr (by lia)] at e2
   have i0:i - ps.length=0:=by
    rcases Nx (i - ps.length) with c|c
    ·exact c
    ·rw [MM (by simp;lia)] at e1;cases e1
   rw [i0] at e1;rw [show i - L.length=0 by lia] at e2
   cases e1;cases e2;rw [av hd];exact hp
section
variable {H:Hp} {σ:St} {Q:VK} {td ty tv:TE}
def nk (k:Nat):Key:=O5 (k:Int)
def Hl (x y:V) (H:Hp) (Q:VK):Prop:=∃ a v,x=.ref a/\iV H a y (some v)/\Q v H
def Bo (y x:V) (H:Hp) (Q:VK):Prop:=∃ a o,x=.ref a/\iV H a y o/\Q (.bl (!o.isSome)) H
def He (x y v:V) (H:Hp) (D:Hp->Prop):Prop:=∃ a H4,x=.ref a/\p9 H a y v H4/\D H4
def iY (h:td σ H fun x H1=>ty σ H1 fun y H2=>Hl x y H2 Q):GU td ty σ H Q:=h
def Ew (h:ty σ H fun y H1=>td σ H1 fun x H2=>Bo y x H2 Q):Bk ty td σ H Q:=h
def BK {D:Ends} (h:tv σ H fun v H1=>td σ H1 fun x H2=>ty σ H2 fun y H3=>He x y v H3 (D.nx σ)):Hd td ty tv D σ H:=h
def lN {a:Addr} {k:Nat} {kvs:List (Key×V)} {v:V} (h:H a=some (.dK kvs)) (hv:cM kvs (nk k)=some v) (q:Q v H):Hl (.ref a) (.int (k:Int)) H Q :=
 ⟨a,v,rfl,by rw [<- hv];exact iV.k (k:=nk k) h,q⟩
def Fx {a:Addr} {k:Nat} {kvs:List (Key×V)} (h:H a=some (.dK kvs)) (q:Q (.bl (!(cM kvs (nk k)).isSome)) H):Bo (.int (k:Int)) (.ref a) H Q :=
 ⟨a,_,rfl,iV.k (k:=nk k) h,q⟩
def DX {D:Hp->Prop} {a:Addr} {k:Nat} {kvs:List (Key×V)} {v:V} (h:H a=some (.dK kvs)) (hl:kvs.length<=100000) (q:D (upd H a (.dK (putK kvs (nk k) v)))):He (.ref a) (.int (k:Int)) v H D :=
 ⟨a,_,rfl,p9.k (k:=nk k) h (LO hl (by rw [L5];decide)),q⟩
def IL (h:∀ p,H p=none->Q (.ref p) (upd H p (.dK []))):EW σ H Q:=h
def Hx {tk:TE} (h:∀ p,H p=none->tk σ (upd H p (.dK [])) fun x H1=>tv σ H1 fun y H2=>H2 p=some (.dK [])/\∃ kvs:List (Key×V),[(x,y)]=kvs.map (fun kv=>(kV kv.1,kv.2))/\kvs.length<=15/\Q (.ref p) (upd H2 p (.dK (ic [] kvs)))):GQ [(tk,tv)] σ H Q:=h
def tp {a b:Nat} (h:nk a=nk b):a=b:=Qp (O5.inj h)
end
section
variable {prog:Lp} {w:World} {A:LW} {s:K5} {R:Qo->K5->Prop}
variable {I:Addr} {fp wr:List Addr} {G:Array OB->Array OB->Prop} {n:Nat} {P:Nat->Value->Prop} {St:Nat->K5->Prop}
end
section
variable {prog:Lp} {w:World} {A:LW} {s:K5} {R:Qo->K5->Prop} {E:Value->K5->Prop}
variable {I:Addr} {fp wr:List Addr} {G:Array OB->Array OB->Prop} {n:Nat} {P:Nat->Value->Prop} {St:Nat->K5->Prop}
end
section
variable {X:Cx} {pins:List (Addr×Obj)} {σ:St} {H:Hp} {s:K5} {a:Addr} {kvs:List (Key×V)} {ep:Nat}
end
section
variable {P:Lp} {w:World} {σ:St} {H:Hp} {Q:VK} {td ty:TE} {tl:TE} {ta:TA} {K:KW}
end
section
variable {X:Cx} {CX:CXT} {k:Nat} {f C:Addr} {fd:LZ} {ps:List Str} {sp:Sp} {m:Str} {pos apos:Pos} {e o:Expr} {es:List Expr} {ta:TE} {t:TA}
end
section
variable {σ:St} {H:Hp} {Q:VK} {K:KW}
end
section
variable {σ:St} {H:Hp} {Q:VK} {D:Ends} {g:TG} {t:TS} {tA:TA} {tt:TT} {ta:TE} {own:List Str} {fr:List Nat}
end
def cq:∀ (names:List (Str×NK)) (n:Nat) (acc:List (Str×Addr)),cellsFrom n names acc=cellsFrom n names []++acc
 | [],_,_=>rfl
 | (x,k) :: r,n,acc=>by
  unfold cellsFrom
  split
  ·rw [cq r (n+1) ((x,n) :: acc),cq r (n+1) [(x,n)],OU];rfl
  ·exact cq r n acc
def gE:∀ (names:List (Str×NK)) (n:Nat) (x:Str),(x,Mr)∈names->∃ c,(cellsFrom n names []).lookup x=some c
 | (y,k) :: r,n,x,h=>by
  unfold cellsFrom;rcases LL.mp h with e|h
  ·cases e;rw [if_pos (show (Mr == Mr)=true from rfl),cq,M8];cases q:(cellsFrom (n+1) r []).lookup y with
   | some c=>exact ⟨c,rfl⟩
   | none=>exact ⟨n,by simp⟩
  ·split
   ·obtain ⟨c,hc⟩:=gE r (n+1) x h;rw [cq,M8,hc];exact ⟨c,rfl⟩
   ·exact gE r n x h
def jU:∀ (names:List (Str×NK)) (n:Nat) (x:Str) (c:Addr),(x,c)∈cellsFrom n names []->(x,Mr)∈names
 | [],_,_,_,h=>by simp [cellsFrom] at h
 | (y,k) :: r,n,x,c,h=>by
  unfold cellsFrom at h
  split at h
  ·rename_i hk
   rw [cq] at h;rcases LP.mp h with z|z
   ·exact K8 _ (jU r (n+1) x c z)
   ·have z':=Lb.mp z;cases z';have:k=Mr:=by simpa using hk
    rw [this];exact Le
  ·exact K8 _ (jU r n x c h)
def qO {M:Model} {A:LW} {E:Value->K5->Prop} {s:K5} {scope:Scope} {globals:Addr} {cl:List (Str×Addr)} {qual:Str} {env:Env} {Q:Env->K5->Prop}
  (h:Q (newEnv scope s.heap.objs.size globals (cellsFrom (s.heap.objs.size+1) scope.names cl) qual none .none (some env) builtinsNs) { s with heap:=pushCells (s.heap.push { cls:=.type "dict",data:=.dict #[] }) scope.names }) :
  wpAny M A (newFunctionEnv scope globals cl [] qual none .none (some env)) Q E s:=by
 simp only [newFunctionEnv,Option.isSome_some,if_true];refine K9 (wpAny_alloc ?_);refine K9 (wpAny_layCells _ (fun name kind cells=>by cases hkc:kind == Mr <;> simp [hkc]) _ _ _ _ ?_)
 rw [show ({ s with heap:=s.heap.push { cls:=.type "dict",data:=.dict #[] } }:K5).heap.objs.size=s.heap.objs.size+1 from Nt ..];exact K9 (LI (LI h))
def c6 (X:Cx) (scope:Scope) (own:List Str) (fr:List Nat) (C:Addr) (s₂:K5) (H₂:Hp) (fp:List Addr):Cx :=
 { X with N:=fF own fr X.N,s₀:=s₂,H₀:=H₂,env:=compEnvC scope (cellsFrom (C+1) scope.names (dO X.env scope.names [])) C X.env,outer:=X.stack,ex:=fp,fn:=fun x=>decide ((x,Mr)∈scope.names),pn:=[],xe:=fun _ _=>False }
structure dZ (sc:Scope) (N:List Str) (scope:Scope) (own:List Str) (fr:List Nat):Prop where
 kind:scope.kind=.function
 cf0:∀ y∈scope.names,y.2=.cell->(y.1,Mq)∉scope.names
 names:∀ y∈scope.names,y.2=.local->scope.names.lookup y.1=some .local
 free:∀ y∈scope.names,y.2=.free->sc.names.lookup y.1=some .cell\/sc.names.lookup y.1=some .free
 fr0:∀ i∈fr,(N[i]?.bind fun x=>scope.names.lookup x)=some .free
 nd:(fF own fr N).Nodup
def dZ.cf {sc:Scope} {N:List Str} {scope:Scope} {own:List Str} {fr:List Nat} (S:dZ sc N scope own fr) (x:Str) (h:(x,Mr)∈scope.names):(x,Mq)∉scope.names:=S.cf0 _ h rfl
def dZ.fr {sc:Scope} {N:List Str} {scope:Scope} {own:List Str} {fr:List Nat} (S:dZ sc N scope own fr):∀ i∈fr,∃ x,N[i]?=some x/\scope.names.lookup x=some .free:=fun i hi=>by
 have q:=S.fr0 i hi;cases e:N[i]? with
 | none=>rw [e] at q;cases q
 | some x=>rw [e] at q;exact ⟨x,rfl,q⟩
section
variable {X:Cx} {scope:Scope} {own:List Str} {fr:List Nat} {pins:List (Addr×Obj)} {σ:St} {H₂:Hp} {s₂:K5} {fp:List Addr} {C D:Addr} {h₁:Heap} {m:Str->Option Value} {tk:Nat}
def dZ.cells (S:dZ X.env.scope X.N scope own fr) (ok:X.Ok):∀ x∈scope.names,x.2=.free->∃ c,X.env.cells.lookup x.1=some c:=fun x hx hf=>ok.has x.1 (S.free x hx hf)
def Ec (S:dZ X.env.scope X.N scope own fr) (I:Inv X pins σ H₂ s₂) (f2:∀ b∈fp,hX X pins H₂ b) (fo:∀ b∈fp,b<s₂.heap.objs.size)
  (hC:s₂.heap.objs.size<=C) (hD:s₂.heap.objs.size<=D) (hDC:D≠C) (hDC':D<C) (old:∀ b o,s₂.heap.get? b=some o->h₁.get? b=some o) (hns:h₁.Ns C m) (new:∃ n,h₁.get? D=some { cls:=.type "list",data:=.seq #[] n }) (okc:CellsOk h₁ (C+1) (cellsFrom (C+1) scope.names [])) :
  Inv (c6 X scope own fr C s₂ H₂ fp) [] (bB own fr σ) (upd H₂ D (.lst [])) { s₂ with heap:=h₁,toks:=tk }:=by
 have hk:=S.cells I.ok;have sub:=rL (env:=X.env) scope.names [] hk (fun x c e=>by cases e)
 have fl:∀ x c,(dO X.env scope.names []).lookup x=some c->∃ v,s₂.heap.IsCell c v:=fun x c e=>I.cell x c (sub x c e);have two:∀ x c,(cellsFrom (C+1) scope.names (dO X.env scope.names [])).lookup x=some c->((cellsFrom (C+1) scope.names []).lookup x=some c)\/(dO X.env scope.names []).lookup x=some c:=fun x c e=>by
  rw [cq,M8] at e;cases q:(cellsFrom (C+1) scope.names []).lookup x with
  | none=>rw [q] at e;exact .inr e
  | some c'=>rw [q] at e;exact .inl e
 have nw:∀ x c,(cellsFrom (C+1) scope.names []).lookup x=some c->h₁.IsCell c none/\C+1<=c:=fun x c e=>okc.empty x c (LX e);have ge:∀ x c,(cellsFrom (C+1) scope.names []).lookup x=some c->s₂.heap.objs.size<=c:=fun x c e=>L4 hC (Nh (nw x c e).2);have olt:∀ x c,(dO X.env scope.names []).lookup x=some c->c<s₂.heap.objs.size:=fun x c e=>by
  obtain ⟨v,o,z1,_⟩:=fl x c e;exact Li z1
 have okX:(c6 X scope own fr C s₂ H₂ fp).Ok:=by
  refine ⟨I.ok.mod,S.kind,I.ok.glob,I.ok.blt,hC,fun x y c e1 e2=>?_,fun x hx=>?_,fun x c hf e=>?_,I.ok.hd,I.ok.frames,.inl rfl,fun b hb=>⟨?_,fun x c e z=>?_⟩,
   I.bs,L4 I.ok.bsz I.sz,fun b o e hb=>?_,fun b hb=>?_,I.stack,I.vP⟩
  ·rcases two x c e1 with z1|z1 <;> rcases two y c e2 with z2|z2
   ·exact name_of_addr okc.apart (LX z1) (LX z2)
   ·exact absurd (LO (ge x c z1) (olt y c z2)) (Mp _)
   ·exact absurd (LO (ge y c z2) (olt x c z1)) (Mp _)
   ·exact I.ok.inj x y c (sub x c z1) (sub y c z2)
  ·show ∃ c,(cellsFrom (C+1) scope.names (dO X.env scope.names [])).lookup x=some c;rw [cq,M8];cases q:(cellsFrom (C+1) scope.names []).lookup x with
   | some c'=>exact ⟨c',rfl⟩
   | none =>
    rcases jZ hx with z|z
    ·exact lM _ _ _ z
    ·obtain ⟨c,hc⟩:=gE scope.names (C+1) x z;rw [q] at hc;cases hc
  ·rcases two x c e with z|z
   ·exact ge x c z
   ·exfalso
    have hf':(x,Mr)∈scope.names:=of_decide_eq_true hf;have e':(cellsFrom (C+1) scope.names (dO X.env scope.names [])).lookup x=some c:=e;obtain ⟨c',hc'⟩:=gE scope.names (C+1) x hf';rw [cq,M8,hc'] at e';cases e';exact absurd (LO (ge x _ hc') (olt x _ z)) (Mp _)
  ·exact Lz (Lm (fo b hb) hC)
  ·rcases two x c e with y|y
   ·exact absurd (LO (ge x c y) (z ▸ fo b hb)) (Mp _)
   ·exact (f2 b hb).2.2.2.2.1 x c (sub x c y) z
  ·obtain ⟨_,_,_,f3,_⟩:=f2 b hb;rcases f3 with z|z
   ·exact I.ok.sG b o e z
   ·exact absurd (Lm (Li (I.ok.bs b o e).1) z) (Mp _)
  ·obtain ⟨_,f1,f2',_⟩:=f2 b hb;intro z;rcases LL.mp (I.pA b z) with q|q
   ·exact f1 q
   ·exact f2' q
 have frH:∀ a,s₂.heap.objs.size<=a->H₂ a=none:=fun a h=>I.hok.fresh h;refine ⟨okX,rfl,I.bare,Un.laid old hD (frH D hD),⟨m,hns,fun i x v e1 e2 e3=>?_⟩,fun x c e=>?_,?_,fun x c e=>?_,fun p hp=>absurd (show p∈([]:List (Addr×Obj)) from hp) (by simp),I.hok.laid old hD ?_,?_⟩
 ·obtain ⟨j,hi,hj,hv⟩:=t7 e2;have hx:X.N[j]?=some x:=by
   obtain ⟨y,hy,_⟩:=S.fr j (K1 hj);have e1':(fF own fr X.N)[i]?=some x:=e1;unfold fF at e1';rw [Lr hi,K4,hj] at e1';have e1'':(X.N[j]?).getD ("" : Str)=x:=by simpa using e1'
   rw [hy] at e1'' ⊢;exact congrArg some e1''
  obtain ⟨y,hy,hfree⟩:=S.fr j (K1 hj);rw [hx] at hy;cases hy;have hkind:X.env.kindOf x=some .cell\/X.env.kindOf x=some .free:=S.free _ (LX hfree) rfl;obtain ⟨mo,hno,hlo⟩:=I.loc;obtain ⟨u,r,l⟩:=hlo j x v hx hv (hkind.elim (fun z=>.inr (.inl z)) fun z=>.inr (.inr z));refine ⟨u,r,.inr ⟨lA hfree,?_⟩⟩;obtain ⟨c,hc⟩:=lM (env:=X.env) scope.names [] x (LX hfree);have hno:(cellsFrom (C+1) scope.names []).lookup x=none:=by
   cases q:(cellsFrom (C+1) scope.names []).lookup x with
   | none=>rfl
   | some c'=>exact absurd (LX hfree) (S.cf x (jU scope.names (C+1) x c' (LX q)))
  refine ⟨c,by show (cellsFrom (C+1) scope.names (dO X.env scope.names [])).lookup x=some c;rw [cq,M8,hno];exact hc,?_⟩
  have hc':=sub x c hc;rcases l with ⟨k,_⟩|⟨_,c',e,o,z1,z2⟩
  ·rcases hkind with z|z
   ·rw [k] at z;cases z
   ·rw [k] at z;cases z
  ·rw [hc'] at e;cases e;exact ⟨o,old _ _ z1,z2⟩
 ·rcases two x c e with y|y
  ·exact ⟨none,(nw x c y).1⟩
  ·obtain ⟨v,o,z1,z2⟩:=fl x c y;exact ⟨v,o,old _ _ z1,z2⟩
 ·show (upd H₂ D (.lst [])) C=none;rw [av (MX hDC)];exact frH C hC
 ·rcases two x c e with y|y
  ·rw [av (show c≠D from Pt (PL hDC' (nw x c y).2))];exact frH c (ge x c y)
  ·obtain ⟨v,o,z1,z2⟩:=fl x c y;rw [av (Lz (Lm (Li z1) hD))];exact I.fH x c (sub x c y)
 ·obtain ⟨n,e⟩:=new;exact ⟨Mb _,[],n,.nil,e⟩
 ·show (bB own fr σ).length=(fF own fr X.N).length;simp [bB,fF]
end
section
variable {X:Cx} {elt tg iter:Expr} {ifs:List Expr} {scope:Scope} {pos:Pos} {own:List Str} {fr:List Nat} {wi:TI} {g:TG} {tt:TT} {te:TE}
def Cg {pins:List (Addr×Obj)} {s:K5} {σ:St} {H:Hp} {Q:VK} {RR:Value->Addr->Qo->K5->Prop} (hc:X.calm=true) (S:dZ X.env.scope X.N scope own fr) (hi:PI X tg iter wi)
  (hb:∀ C s₂ H₂ fp,PG (c6 X scope own fr C s₂ H₂ fp) tg g/\PIf (c6 X scope own fr C s₂ H₂ fp) ifs tt/\PE (c6 X scope own fr C s₂ H₂ fp) elt te)
  (I:Inv X pins σ H s) (h:qz own fr wi g tt te σ H Q)
  (hRR:∀ D C s' H' m',Inv X pins σ H' s'->Q (.ref D) H'->hX X pins H' C->s'.heap.Ns C m'->RR (.ref D) C (.ok .next) s') :
  wpAny (model X.prog X.w) X.A (eval iter X.env) (fun v s₁=>wpAny (model X.prog X.w) X.A (pyIter v) (fun it s₂=>wpAny (model X.prog X.w) X.A (newList []) (fun acc s₃ =>
   wpAny (model X.prog X.w) X.A (newFunctionEnv scope X.env.globals (dO X.env scope.names []) [] X.env.qual none .none (some X.env)) (fun cenv s₄ =>
    codeAny (model X.prog X.w) X.A (.compStart (.ListComp elt [⟨tg,iter,ifs,0⟩] scope pos) 0 it acc { cenv with scope:=relabel scope X.env }) (RR acc cenv.locals) s₄) X.xe s₃) X.xe s₂) X.xe s₁) X.xe s:=by
 refine thn (hi pins s σ H _ I h) fun v s1 h1=>thn h1 fun itv s2 h2=>?_;obtain ⟨it,fp,tn,J,H2,e,I2,T,st2,f2,hq⟩:=h2;subst e;refine N4 (qO ?_);dsimp only;have hD:=I2.hok.fresh (Lj s2.heap.objs.size);obtain ⟨W,⟨m0,w0⟩,turn⟩:=hq s2.heap.objs.size hD;generalize hH2:s2.heap.push { cls:=.type "list",dict:=none,data:=.seq ([]:List Value).toArray }=G at ⊢;have hG:G.objs.size=s2.heap.objs.size+1:=by rw [<- hH2,Nt]
 have hDC:s2.heap.objs.size≠G.objs.size:=by rw [hG];exact Lz (Np _)
 have hC:s2.heap.objs.size<=G.objs.size:=by rw [hG];exact NS _
 have old:∀ b o,s2.heap.get? b=some o->(pushCells (G.push { cls:=.type "dict",data:=.dict #[] }) scope.names).get? b=some o:=fun b o e =>
  PM _ _ b o (La _ (hH2 ▸ La _ e))
 have new:(pushCells (G.push { cls:=.type "dict",data:=.dict #[] }) scope.names).get? s2.heap.objs.size=some { cls:=.type "list",data:=.seq #[] 0 } :=
  PM _ _ _ _ (La _ (hH2 ▸ LQ _ rfl))
 have hns₁:(pushCells (G.push { cls:=.type "dict",data:=.dict #[] }) scope.names).Ns G.objs.size (fun _=>none):=(Heap.Ns.new G (.type "dict")).keeps (PM _ _);have okc:=cellsFrom_ok scope.names (G.push { cls:=.type "dict",data:=.dict #[] }) (G.objs.size+1) [] ⟨fun _ _ hm=>(nomatch hm),List.Pairwise.nil⟩ (by rw [Nt];exact Lj _)
 rw [Nt] at okc;generalize hh1:pushCells (G.push { cls:=.type "dict",data:=.dict #[] }) scope.names=h₁ at old new hns₁ okc ⊢;have fo:∀ b∈fp,b<s2.heap.objs.size:=fun b hb'=>let ⟨o,e,_⟩:=T.obj 0 _ st2 b hb';Li e;have I4:Inv (c6 X scope own fr G.objs.size s2 H2 fp) [] (bB own fr σ) (upd H2 s2.heap.objs.size (.lst [])) { s2 with heap:=h₁ } :=
  Ec (tk:=s2.toks) S I2 f2 fo hC (Lj _) hDC (by rw [hG];exact Np _) old hns₁ ⟨_,new⟩ okc
 obtain ⟨hg,ht,he⟩:=hb G.objs.size s2 H2 fp;have fpX:∀ {H':Hp},(∀ b∈fp,H' b=none)->∀ b∈fp,hX (c6 X scope own fr G.objs.size s2 H2 fp) [] H' b:=fun {H'} hn b hb'=>by
  refine ⟨hn b hb',Lz (Lm (fo b hb') hC),I4.ok.ph b hb',.inl hb',(I4.ok.exf b hb').2,fun p hp=>absurd (show p∈([]:List (Addr×Obj)) from hp) (by simp)⟩
 have fr0:∀ b∈fp,(upd H2 s2.heap.objs.size (.lst [])) b=none:=fun b hb'=>by
  rw [av (Lz (fo b hb'))];exact (f2 b hb').1
 have tn0:tn 0 h₁:=T.keep _ _ _ st2 fun b hb' o e=>old b o e;have loop:codeAny (model X.prog X.w) X.A (.compLoop (.ListComp elt [⟨tg,iter,ifs,0⟩] scope pos) 0 (.ref it) (.ref s2.heap.objs.size) (compEnvC scope (cellsFrom (G.objs.size+1) scope.names (dO X.env scope.names [])) G.objs.size X.env))
   (RR (.ref s2.heap.objs.size) G.objs.size) { s2 with heap:=h₁ }:=by
  refine xh (fun n s'=>∃ i σ' H',Inv (c6 X scope own fr G.objs.size s2 H2 fp) [] σ' H' s'/\tn i s'.heap/\(∀ b∈fp,H' b=none)/\W i n σ' H') ?_ m0 ⟨0,_,_,I4,tn0,fr0,w0⟩;rintro n s3 ⟨i,σ3,H3,I3,st3,fr3,w3⟩;have nfp:∀ {H':Hp} {s':K5} {σ':St} {pl:List (Addr×Obj)},Inv (c6 X scope own fr G.objs.size s2 H2 fp) pl σ' H' s'->pl=jx fp s'.heap->True:=fun _ _=>trivial;rcases turn i n σ3 H3 w3 with ⟨stop,qn⟩|⟨go,step⟩
  ·refine thn (T.done (c6 X scope own fr G.objs.size s2 H2 fp) rfl rfl rfl hc i [] s3 σ3 H3 (fun _ _=>False) I3 (fpX fr3) st3 stop) fun r s4 ⟨hr,I5⟩=>?_;subst hr;have IX:Inv X pins σ H3 s4:=I2.BQ (ch:=fp) I5.os I5.base I5.hok I5.bare fun b hb'=>let ⟨_,f1,_,f3,f4,f5⟩:=f2 b hb';⟨f3,f1,f4,f5⟩;obtain ⟨m',hn',_⟩:=I5.loc;exact hRR _ _ _ _ m' IX qn (I2.sI hC I5.free) hn'
  ·refine thn (T.item (c6 X scope own fr G.objs.size s2 H2 fp) rfl rfl rfl hc i [] s3 σ3 H3 (fun _ _=>False) I3 (fpX fr3) st3 go) fun r s4 ⟨u,hr,h4⟩=>?_;subst hr;refine thn h4 fun _ s5 ⟨x,H5,I5,r5,y5,st5,fr5⟩=>?_;have I5':=I5.pinned (fpX fr5) (T.obj _ _ st5);refine thn (hg _ s5 σ3 H5 x u _ I5' r5 (step x H5 y5)) fun _ s6 ⟨σ6,H6,I6,q6⟩=>?_;have again:∀ {s7:K5} {σ7:St} {H7:Hp} {m':Nat},Inv (c6 X scope own fr G.objs.size s2 H2 fp) ([]++jx fp s5.heap) σ7 H7 s7->m' < n->W (i+1) m' σ7 H7 ->
     ∃ m,m<n/\∃ i σ' H',Inv (c6 X scope own fr G.objs.size s2 H2 fp) [] σ' H' s7/\tn i s7.heap/\(∀ b∈fp,H' b=none)/\W i m σ' H':=fun {s7 σ7 H7 m'} I7 hm w7=>by
    refine ⟨m',hm,i+1,σ7,H7,I7.lT,T.keep _ _ _ st5 fun b hb' o e=>(I7.pin (b,o) (LM _ (LM _ (gn hb' e)))).1,fun b hb'=>?_,w7⟩;obtain ⟨o,e,d⟩:=T.obj _ _ st5 b hb';exact (I7.pin (b,o) (LM _ (LM _ (gn hb' e)))).2.1
   refine thn (ht _ s6 σ6 H6 _ I6 q6) fun ok s7 ⟨H7,I7,q7⟩=>?_;cases ok with
   | false =>
    rw [if_neg Ls] at q7 ⊢;obtain ⟨m',hm,w7⟩:=q7;exact again I7 hm w7
   | true =>
    rw [if_pos rfl] at q7 ⊢;refine thn (he _ s7 σ6 H7 _ I7 q7) fun y s8 ⟨yv,H8,I8,r8,q8⟩=>?_;obtain ⟨ys,hy,hl,m',hm,w8⟩:=q8;refine thn (bF _ s8 σ6 H8 (.ref s2.heap.objs.size) [yv] _ [y] (fun _ H9=>H9=upd H8 s2.heap.objs.size (.lst (ys++[yv]))) I8 rfl (.cons r8 .nil) ⟨_,ys,yv,rfl,rfl,hy,hl,rfl⟩) fun _ s9 ⟨_,H9,I9,_,e9⟩=>?_;subst e9;exact again I9 hm w8
 exact Pn loop (T.self X.A 0 _ _ _ tn0 loop)
def zR (hc:X.calm=true) (S:dZ X.env.scope X.N scope own fr) (hi:PI X tg iter wi)
  (hb:∀ C s₂ H₂ fp,PG (c6 X scope own fr C s₂ H₂ fp) tg g/\PIf (c6 X scope own fr C s₂ H₂ fp) ifs tt/\PE (c6 X scope own fr C s₂ H₂ fp) elt te)
  (hs:∀ x,foldedSetIterable iter X.env x=pure x:=by intro _;rfl):PE X (.ListComp elt [⟨tg,iter,ifs,0⟩] scope pos) (qz own fr wi g tt te):=by
 intro pins s σ H Q I h;rw [eval_ListComp];refine NT (use:=none) rfl hs (uY (S.cells I.ok)) S.kind S.names ?_;refine Cg (RR:=fun acc C=>compPost (model X.prog X.w) X.A X.xe none (EP X pins σ Q) acc C) hc S hi hb I h ?_;intro D C s' H' m' I' q f hn;obtain ⟨f0,f1,f2,f3,f4,f5⟩:=f;exact ⟨m',hn,fun h' sb=>⟨.ref D,H',I'.turned (t':=s'.toks) (fun b o hb e=>(sb.2 b hb).trans e) f0 f1 f3 f4 f5,rfl,q⟩⟩
end
section
variable {K:KW} {H:Hp} {σ:St} {Q:VK} {tt:TT} {ta:TE} {own:List Str} {fr:List Nat}
def zo {p p2:Addr} {xs ys:List V} {ia ib:Nat} (he:xs.length=ys.length) (hz:xs.length<=100000) (W:Addr->Nat->St->Hp->List V->Prop) (hw:∀ d i σ' H' zs,W d i σ' H' zs->SqL K H' p xs) (hw2:∀ d i σ' H' zs,W d i σ' H' zs->SqL K H' p2 ys) (hS:SqL K H p xs) (hS2:SqL K H p2 ys)
  (hal:∀ d i σ' H' zs,i<=xs.length->W d i σ' H' zs->zs.length<=i) (h0:∀ d,H d=none->W d 0 (bB own fr σ) (upd H d (.lst [])) [])
  (turn:∀ d i x y σ' H' H2 zs (R:St->V->Hp->Prop) (R0:St->Hp->Prop),H d=none->xs[i]?=some x->ys[i]?=some y->W d i σ' H' zs->H' d=some (.lst zs)->ai H' H2 ->
   (∀ σ2 y H5,H5 d=some (.lst zs)->W d (i+1) σ2 (upd H5 d (.lst (zs++[y]))) (zs++[y])->R σ2 y H5)->(∀ σ2 H5,H5 d=some (.lst zs)->W d (i+1) σ2 H5 zs->R0 σ2 H5) ->
   tt ((σ'.set ia (some x)).set ib (some y)) H2 fun ok H4=>if ok=true then ta ((σ'.set ia (some x)).set ib (some y)) H4 (R ((σ'.set ia (some x)).set ib (some y))) else R0 ((σ'.set ia (some x)).set ib (some y)) H4)
  (fin:∀ d σ' H' zs,H d=none->H' d=some (.lst zs)->W d xs.length σ' H' zs->Q (.ref d) H'):rQ K [.ref p,.ref p2] H (cS own fr (jQ K 2 (cW (cw ia) (cW (cw ib) jM))) tt ta σ Q):=by
 refine ⟨p,p2,xs,ys,rfl,hS,hS2,nW (J:=Itz K p p2) (n:=xs.length) W hz (fun d i σ' H' zs hi w=>⟨xs,xs[i],ys,ys[i]'(by lia),hw d i σ' H' zs w,by simp [hi],hw2 d i σ' H' zs w,by simp [show i<ys.length by lia]⟩)
  (fun d σ' H' zs w=>⟨xs,ys,hw d _ σ' H' zs w,hw2 d _ σ' H' zs w,.inl (Lj _)⟩) hal h0 (fun d i σ' H' zs x H2 R R0 hd hi w hzs hy hR hR0=>?_) fin⟩
 obtain ⟨q,x',y',rfl,hq,rfl,e2,e3⟩:=hy;have hx:=e2 xs (hw d i σ' H' zs w);have hy:=e3 ys (hw2 d i σ' H' zs w);refine ⟨q,[x',y'],rfl,SqT.of au,rfl,⟨_,_,rfl,⟨_,_,rfl,⟨rfl,?_⟩⟩⟩⟩;exact turn d i x' y' σ' H' _ zs R R0 hd hx hy w hzs (aw hq _) hR hR0
end
section
variable {X:Cx}
end
end L2
namespace L2
section
variable {α:Type} {us:List α}
def len0 (h:us.length=0):us=[]:=List.length_eq_zero_iff.mp h
def zK {n:Nat} (h:us.length=n+1):∃ a r,us=a :: r/\r.length=n:=by
 cases us with
 | nil=>simp at h
 | cons a r=>exact ⟨a,r,rfl,by simpa using h⟩
def JO (h:us.length=1):∃ a,us=[a]:=by
 obtain ⟨a,r,rfl,h2⟩:=zK h;obtain rfl:=len0 h2;exact ⟨a,rfl⟩
def J0 (h:us.length=2):∃ a b,us=[a,b]:=by
 obtain ⟨a,r,rfl,h2⟩:=zK h;obtain ⟨b,rfl⟩:=JO h2;exact ⟨a,b,rfl⟩
def Dh (h:us.length=3):∃ a b c,us=[a,b,c]:=by
 obtain ⟨a,r,rfl,h2⟩:=zK h;obtain ⟨b,c,rfl⟩:=J0 h2;exact ⟨a,b,c,rfl⟩
def lK (h:us.length=4):∃ a b c d,us=[a,b,c,d]:=by
 obtain ⟨a,r,rfl,h2⟩:=zK h;obtain ⟨b,c,d,rfl⟩:=Dh h2;exact ⟨a,b,c,d,rfl⟩
def Jj (h:us.length=5):∃ a b c d e,us=[a,b,c,d,e]:=by
 obtain ⟨a,r,rfl,h2⟩:=zK h;obtain ⟨b,c,d,e,rfl⟩:=lK h2;exact ⟨a,b,c,d,e,rfl⟩
end
end L2
namespace L2
open PySem PySem.Spec PyProof.Rows
def bX.there {P:Lp} {w:World} {H:Hp} {h:Heap} {a:Addr} {o:HO} (x:bX P w H h a o):∃ ob,h.get? a=some ob:=by
 cases o with
 | lst xs=>obtain ⟨_,_,_,_,e⟩:=x;exact ⟨_,e⟩
 | tup xs=>obtain ⟨_,_,_,ob,e,_⟩:=x;exact ⟨_,e⟩
 | dK kvs=>obtain ⟨_,_,_,_,o,_,_,e,_⟩:=x;exact ⟨_,e⟩
 | dT kvs=>obtain ⟨_,_,_,_,o,_,_,e,_⟩:=x;exact ⟨_,e⟩
 | set S n=>obtain ⟨o,_,_,_,e,_⟩:=x;exact ⟨_,e⟩
 | ins C dx fs=>obtain ⟨_,_,_,e,_⟩:=x;exact ⟨_,e⟩
 | own y=>exact x
 | xd fs=>obtain ⟨_,⟨_,_,_,e,_⟩,_⟩:=x;exact ⟨_,e⟩
 | rng lo hi=>obtain ⟨_,_,_,e⟩:=x;exact ⟨_,e⟩
 | frz ob u=>obtain ⟨e,_⟩:=x;exact ⟨_,e⟩
 | tbl ps=>exact ⟨_,(show h.get? a=some _ from x)⟩
 | met f y=>exact ⟨_,(show h.get? a=some _ from x)⟩
 | ext φ=>obtain ⟨_,e,_⟩:=x;exact e
def nA (h:Heap) (x T C:Addr) (d:Option Addr) (fl:Value):Prop:=∃ oe vs oT ts,h.get? x=some oe/\oe.cls=.ref C/\oe.dict=d/\oe.data=.fields vs/\vs[1]?=some (.ref T)/\T≠x/\h.get? T=some oT/\oT.data=.fields ts/\ts[3]?=some fl
abbrev nJ (h:Heap) (x T C:Addr) (d:Option Addr):Prop:=nA h x T C d .none
def vR (h:Heap) (x C:Addr) (d:Option Addr):Prop:=∃ oe vs,h.get? x=some oe/\oe.cls=.ref C/\oe.dict=d/\oe.data=.fields vs/\vs[1]?=some .none
def yo (h:Heap) (b:Addr):Prop:=∃ o vs,h.get? b=some o/\o.data=.fields vs
def nA.zw {h:Heap} {x T C:Addr} {d:Option Addr} {fl:Value} (e:nA h x T C d fl):∀ b∈[x,T],yo h b:=fun b hb=>by
 obtain ⟨oe,vs,oT,ts,e1,_,_,e3,_,_,e6,e7,_⟩:=e;rcases LL.mp hb with rfl|hb
 ·exact ⟨_,_,e1,e3⟩
 ·obtain rfl:=Lb.mp hb;exact ⟨_,_,e6,e7⟩
def vR.zw {h:Heap} {x C:Addr} {d:Option Addr} (e:vR h x C d):∀ b∈[x],yo h b:=fun b hb=>by
 obtain ⟨oe,vs,e1,_,_,e3,_⟩:=e;obtain rfl:=Lb.mp hb;exact ⟨_,_,e1,e3⟩
structure eF (l:List Env) (x:Addr) (ts:List Addr) (C:Addr) (d:Option Addr) (fl:Value) (T:Addr) (h h':Heap):Prop where
 keep:∀ b o,b∉frs l->b≠x->b∉ts->h.get? b=some o->h'.get? b=some o
 slot:∀ b o,b∈frs l->h.get? b=some o->∃ sl,h'.get? b=some { o with slots:=sl }
 exc:nA h' x T C d fl
 new:T∈ts\/h.get? T=none
def eF.on {l:List Env} {x T C:Addr} {ts:List Addr} {d:Option Addr} {f1 f2:Value} {h h1 h2:Heap} (a:eF l x ts C d f1 T h h1) (b:eF l x [T] C d f2 T h1 h2):eF l x ts C d f2 T h h2 where
 keep:=fun c o k1 k2 k3 q=>b.keep c o k1 k2 (fun z=>by
  rw [Lb.mp z] at k3 q;exact a.new.elim k3 fun y=>by rw [y] at q;cases q) (a.keep c o k1 k2 k3 q)
 slot:=fun c o k q=>by
  obtain ⟨s1,q1⟩:=a.slot c o k q;obtain ⟨s2,q2⟩:=b.slot c _ k q1;exact ⟨s2,q2⟩
 exc:=b.exc
 new:=a.new
section
variable {M:Model} {A:LW} {E:Value->K5->Prop} {s:K5} {base:Heap} {env:Env} {outer:List Env} {L x T C:Addr} {d:Option Addr} {fl:Value} {Q:Unit->K5->Prop}
def uS (f:Array Value->Array Value) (o:Obj):(Qr f o).dict=o.dict:=by
 obtain ⟨oc,od,odt,osl⟩:=o;cases odt <;> rfl
def xj {head:Value} {hadNext:Bool} {oe:Obj} {vs:Array Value} (hfr:A.frames=some (env :: outer)) (hl:s.heap.FunFrames base (env :: outer)) (hf:env.frame=some L)
  (he:s.heap.get? x=some oe) (hc:oe.cls=.ref C) (hi:oe.dict=d) (hd:oe.data=.fields vs) (hz:1<vs.size) (h:∀ h' T,eF (env :: outer) x [] C d (rawInt L) T s.heap h'->Q () { s with heap:=h' }) :
  wpAny M A (frameOf env >>= fun a=>entryPlaceOf L hadNext >>= fun pl=>Qh head a .none (rawInt L) .none pl >>= fun b=>setField (.ref x) 1 b) Q E s:=by
 have nx:x∉frs (env :: outer):=fun hm=>by
  obtain ⟨_,o,ho,hn⟩:=hl.mem hm;rw [he] at ho;cases ho;exact hn vs hd
 refine K9 (wpAny_frameOf_fun hfr hl hf fun h1 hs=>K9 (wpAny_entryPlaceOf fun pl hpl=>?_));unfold Qh newFields;refine K9 (N4 ?_ (hpl.sizeOk5 _ _ _ _ _));have h3:([head,.ref L,.none,rawInt L,.none]++(if pl.isEmpty then Ll 6 NJ else pl)).toArray[3]?=some (rawInt L):=by simp
 generalize ([head,.ref L,.none,rawInt L,.none]++(if pl.isEmpty then Ll 6 NJ else pl)).toArray=arr at h3;have e1:h1.get? x=some oe:=(hs.2.1 x nx).trans he;have nT:h1.objs.size≠x:=Pt (Li e1);have fresh:s.heap.get? h1.objs.size=none:=by
  cases q:s.heap.get? h1.objs.size with
  | none=>rfl
  | some o =>
   obtain ⟨sl,z⟩:=hs.2.2 _ _ q;exact absurd (Li z) (Mp _)
 refine Qc (La _ e1) hd hz (h _ h1.objs.size ⟨fun b o k1 k2 _ q=>?_,fun b o k1 q=>?_,?_,.inr fresh⟩)
 ·rw [Mu _ _ (MX k2)];exact La _ ((hs.2.1 b k1).trans q)
 ·obtain ⟨sl,z⟩:=hs.2.2 b o q;refine ⟨sl,?_⟩;rw [Mu _ _ (fun y=>nx (by rw [y];exact k1))]
  exact La _ z
 ·have hd':=OG hd (·.setIfInBounds 1 (LF h1.objs.size));exact ⟨_,_,_,arr,Ob _ (La _ e1) (PN hd'),(Obj.cls_mapFields _ _).trans hc,(uS _ _).trans hi,hd',by simp [hz],nT,
   (Mu _ _ (MX nT)).trans (LQ h1 rfl),rfl,h3⟩
def Cd (hfr:A.frames=some (env :: outer)) (hl:s.heap.FunFrames base (env :: outer)) (hf:env.frame=some L) (he:vR s.heap x C d)
  (h:∀ h' T,eF (env :: outer) x [] C d (rawInt L) T s.heap h'->Q () { s with heap:=h' }):wpAny M A (noteFrame (.ref x) env) Q E s:=by
 obtain ⟨oe,vs,e1,e2,e3,e4,e5⟩:=he;unfold noteFrame;simp only [hf];refine K9 (Nl e1 e4 e5 ?_);rw [if_neg (by decide)]
 exact xj hfr hl hf e1 e2 e3 e4 (MY.mp e5).1 h
def Fl (hfr:A.frames=some (env :: outer)) (hl:s.heap.FunFrames base (env :: outer)) (hf:env.frame=some L) (he:nA s.heap x T C d fl) (hne:fl≠rawInt L)
  (h:∀ h' T',eF (env :: outer) x [T] C d (rawInt L) T' s.heap h'->Q () { s with heap:=h' }):wpAny M A (noteFrame (.ref x) env) Q E s:=by
 obtain ⟨oe,vs,oT,ts,e1,e2,e3,e4,e5,e6,e7,e8,e9⟩:=he;unfold noteFrame;simp only [hf];refine K9 (Nl e1 e4 e5 ?_);rw [if_pos (by simp)]
 refine K9 (Nl e7 e8 e9 ?_);rw [if_neg (fun z=>hne (eq_of_beq z))];have hz:=(MY.mp e9).1;refine K9 (Qc e7 e8 hz ?_);have other:∀ b,b≠T->(s.heap.update T (Qr (·.setIfInBounds 3 NJ))).get? b=s.heap.get? b:=fun b hb=>Mu _ _ (MX hb);have norec:∀ b o,s.heap.get? b=some o->(∀ vs,o.data≠.fields vs)->b≠T:=fun b o q n z=>by
  rw [z,e7] at q;cases q;exact n ts e8
 refine xj hfr (hl.of_keeps fun b o q n=>⟨o,(other b (norec b o q n)).trans q,rfl⟩) hf ((other x (MX e6)).trans e1) e2 e3 e4 (MY.mp e5).1 fun h' T' F=>h h' T' ⟨fun b o k1 k2 k3 q=>?_,fun b o k1 q=>?_,F.exc,?_⟩
 ·exact F.keep b o k1 k2 (by simp) ((other b fun z=>k3 (z ▸ .head _)).trans q)
 ·obtain ⟨_,o',ho',hn⟩:=hl.mem k1;rw [q] at ho';cases ho';exact F.slot b o k1 ((other b (norec b o q hn)).trans q)
 ·rcases F.new with z|z
  ·simp at z
  ·by_cases y:T'=T
   ·exact .inl (y ▸ .head _)
   ·rw [other T' y] at z;exact .inr z
def BB (hfr:A.frames=some (env :: outer)) (hl:s.heap.FunFrames base (env :: outer)) (hf:env.frame=some L) (he:nJ s.heap x T C d)
  (h:∀ h' T',eF (env :: outer) x [T] C d (rawInt L) T' s.heap h'->Q () { s with heap:=h' }):wpAny M A (noteFrame (.ref x) env) Q E s:=Fl hfr hl hf he (by simp [rawInt]) h
def GH {l:List Env} {fr:Option Addr} (hl:s.heap.FunFrames base l) (he:nA s.heap x T C d fl)
  (h:∀ h',(∀ b,b≠T->h'.get? b=s.heap.get? b)->eF l x [T] C d (fr.elim .none fun f=>rawInt f) T s.heap h'->Q () { s with heap:=h' }):wpAny M A (setFlight (.ref x) fr) Q E s:=by
 obtain ⟨oe,vs,oT,ts,e1,e2,e3,e4,e5,e6,e7,e8,e9⟩:=he;unfold setFlight;refine K9 (Nl e1 e4 e5 ?_);rw [if_pos (by simp)]
 have hz:=(MY.mp e9).1;have other:∀ b,b≠T->(s.heap.update T (Qr (·.setIfInBounds 3 (fr.elim NJ fun f=>rawInt f)))).get? b=s.heap.get? b:=fun b hb=>Mu _ _ (MX hb);refine Qc e7 e8 hz (h _ other ⟨fun b o _ _ k3 q=>(other b fun z=>k3 (z ▸ .head _)).trans q,fun b o k1 q=>?_,?_,.inl (.head _)⟩)
 ·obtain ⟨_,o',ho',hn⟩:=hl.mem k1;refine ⟨o.slots,(other b fun z=>?_).trans q⟩;rw [z,e7] at ho';cases ho';exact hn ts e8
 ·exact ⟨oe,vs,_,_,(other x (MX e6)).trans e1,e2,e3,e4,e5,e6,Ob _ e7 (PN (OG e8 _)),OG e8 _,by simp [hz]⟩
def kq {l:List Env} (hl:s.heap.FunFrames base l) (he:nA s.heap x T C d fl) (h:∀ h',eF l x [T] C d .none T s.heap h'->Q () { s with heap:=h' }):wpAny M A (setFlight (.ref x) none) Q E s:=GH hl he fun h' _ F=>h h' F
def eF.eT {l:List Env} {ts:List Addr} {h h':Heap} (F:eF l x ts C d fl T h h') (hl:h.FunFrames base l):h'.FunFrames base l:=by
 have all:∀ m:List Env,(∀ b∈frs m,b∈frs l)->h.FunFrames base m->h'.FunFrames base m:=by
  intro m
  induction m with
  | nil=>intro _ _;trivial
  | cons e r ih =>
   intro hs ⟨hk,⟨L,o,hf,hn,ho,hd⟩,hr⟩;have e1:frs (e :: r)=L :: frs r:=by unfold frs;rw [NR,hf]
   rw [e1] at hs;obtain ⟨sl,q⟩:=F.slot L o (hs L (.head _)) ho;exact ⟨hk,⟨L,_,hf,hn,q,hd⟩,ih (fun b hb=>hs b (.tail _ hb)) hr⟩
 exact all l (fun _ z=>z) hl
def C1 (hfr:A.frames=some (env :: outer)) (hl:s.heap.FunFrames base (env :: outer)) (hf:env.frame=some L) (he:nJ s.heap x T C d)
  (h:∀ h' T',eF (env :: outer) x [T] C d .none T' s.heap h'->Q () { s with heap:=h' }):wpAny M A (leaving env (.ref x)) Q E s:=by
 unfold leaving;exact K9 (BB hfr hl hf he fun h1 T1 F1=>kq (s:={ s with heap:=h1 }) (F1.eT hl) F1.exc fun h2 F2=>h h2 T1 (F1.on F2))
def A4 (hfr:A.frames=some (env :: outer)) (hl:s.heap.FunFrames base (env :: outer)) (hf:env.frame=some L) (he:vR s.heap x C d)
  (h:∀ h' T',eF (env :: outer) x [] C d .none T' s.heap h'->Q () { s with heap:=h' }):wpAny M A (leaving env (.ref x)) Q E s:=by
 unfold leaving;exact K9 (Cd hfr hl hf he fun h1 T1 F1=>kq (s:={ s with heap:=h1 }) (F1.eT hl) F1.exc fun h2 F2=>h h2 T1 (F1.on F2))
def EJ (hfr:A.frames=some (env :: outer)) (hl:s.heap.FunFrames base (env :: outer)) (hf:env.frame=some L) (he:nJ s.heap x T C d)
  (h:∀ h' T',eF (env :: outer) x [T] C d .none T' s.heap h'->Q () { s with heap:=h' }):wpAny M A (noteFrame (.ref x) env) (fun _ s₂=>wpAny M A (setFlight (.ref x) none) Q E s₂) E s :=
 BB hfr hl hf he fun h1 T1 F1=>kq (s:={ s with heap:=h1 }) (F1.eT hl) F1.exc fun h2 F2=>h h2 T1 (F1.on F2)
end
structure Up (X:Cx) (pins:List (Addr×Obj)) (σ:St) (H:Hp) (s:K5) (x:Addr) (ts:List Addr):Prop where
 inv:Inv X pins σ H s
 fx:H x=none
 fT:∀ b∈ts,H b=none
 nx:X.s₀.heap.get? x=none
 nT:∀ b∈ts,X.s₀.heap.get? b=none
 px:∀ p∈X.pn++pins,p.1≠x/\p.1∉ts
section
variable {X:Cx} {pins:List (Addr×Obj)} {σ:St} {H H':Hp} {s s':K5} {x T C:Addr} {d:Option Addr} {fl:Value} {ts:List Addr} {h':Heap} {E:XK} {e:Value}
def Inv.fsF (I:Inv X pins σ H s):∀ b∈X.fs,H b=none:=fun b hb=>by
 obtain ⟨_,o,ho,_⟩:=I.ok.eT.mem hb;exact I.base.free b o ho (I.ok.frf b hb) fun z=>I.ok.ph b z hb
def Inv.Ax (I:Inv X pins σ H s) {b:Addr} (r:yo s.heap b):b≠X.env.locals/\(∀ y c,X.env.cells.lookup y=some c->c≠b)/\b∉frs X.stack/\b∉X.fs:=by
 obtain ⟨o,vs,ho,hd⟩:=r;refine ⟨fun z=>?_,fun y c e z=>?_,fun z=>?_,fun z=>?_⟩
 ·obtain ⟨m,⟨oL,es,ep,hoL,hdL,_⟩,_⟩:=I.loc;rw [<- z,ho] at hoL;cases hoL;rw [hd] at hdL;cases hdL
 ·obtain ⟨v,oc,hoc,hdc⟩:=I.cell y c e;rw [z,ho] at hoc;cases hoc;rw [hd] at hdc;cases hdc
 ·obtain ⟨_,o',ho',hnf⟩:=I.stack.mem z;rw [ho] at ho';cases ho';exact hnf vs hd
 ·obtain ⟨_,o',ho',hnf⟩:=I.eT.mem z;rw [ho] at ho';cases ho';exact hnf vs hd
def Inv.land {ch:List Addr} (I:Inv X pins σ H s)
  (hch:∀ b∈ch,X.s₀.heap.get? b=none/\b≠X.env.locals/\(∀ x c,X.env.cells.lookup x=some c->c≠b)/\∀ p∈X.pn++pins,p.1≠b) (hfr:∀ b∈ch,H b=none)
  (keep:∀ b o,b≠X.env.locals->b∉X.fs->b∉ch->s.heap.get? b=some o->h'.get? b=some o)
  (slot:∀ b o,b=X.env.locals\/b∈X.fs->s.heap.get? b=some o->∃ sl,h'.get? b=some { o with slots:=sl }):Inv X pins σ H { s with heap:=h' }:=by
 have neL:∀ b o,X.s₀.heap.get? b=some o->b≠X.env.locals:=fun b o e=>Lz (Lm (Li e) I.ok.above);have neC:∀ b o,X.s₀.heap.get? b=some o->b∉ch:=fun b o e hb=>by rw [(hch b hb).1] at e;cases e
 have trk:∀ b u o,H b=some u->s.heap.get? b=some o->h'.get? b=some o:=fun b u o e q =>
  keep b o (fun z=>by rw [z,I.free] at e;cases e) (fun z=>by rw [I.fsF b z] at e;cases e) (fun z=>by rw [hfr b z] at e;cases e) q
 have any:∀ b o,b∉ch->s.heap.get? b=some o->∃ sl,h'.get? b=some { o with slots:=sl }:=fun b o hb q=>by
  by_cases z:b=X.env.locals\/b∈X.fs
  ·exact slot b o z q
  ·exact ⟨o.slots,keep b o (fun y=>z (.inl y)) (fun y=>z (.inr y)) hb q⟩
 have cellK:∀ x c,X.env.cells.lookup x=some c->∀ v,s.heap.IsCell c v->h'.IsCell c v:=fun x c e v ⟨o,ho,hd⟩=>by
  obtain ⟨sl,q⟩:=any c o (fun z=>(hch c z).2.2.1 x c e rfl) ho;exact ⟨_,q,hd⟩
 refine ⟨I.ok,I.os,I.bare,⟨fun b o e n hb hx=>keep b o (neL b o e) hb (neC b o e) (I.base.keep b o e n hb hx),fun b o e n hb hx=>?_,I.base.free,fun b o e hx=>?_,I.base.i8,I.base.ij,I.base.iP⟩,?_,fun x c e=>?_,I.free,I.fH,fun p hp=>?_,fun a o e=>?_,I.len⟩
 ·obtain ⟨sl,e1⟩:=I.base.slot b o e n hb hx;obtain ⟨sl',e2⟩:=slot b _ (.inr hb) e1;exact ⟨sl',e2⟩
 ·obtain ⟨o',e1⟩:=I.base.there b o e hx;obtain ⟨sl,q⟩:=any b o' (neC b o e) e1;exact ⟨_,q⟩
 ·obtain ⟨m,hn,hl⟩:=I.loc;obtain ⟨oL,es,ep,ho,r⟩:=hn;obtain ⟨sl,hL⟩:=slot _ oL (.inl rfl) ho;refine ⟨m,⟨_,es,ep,hL,r⟩,fun i x v e1 e2 e3=>?_⟩;obtain ⟨u,r,l⟩:=hl i x v e1 e2 e3;refine ⟨u,r,?_⟩;rcases l with l|⟨k,c,e,z⟩
  ·exact .inl l
  ·exact .inr ⟨k,c,e,cellK x c e _ z⟩
 ·obtain ⟨v,z⟩:=I.cell x c e;exact ⟨v,cellK x c e v z⟩
 ·obtain ⟨e,n,ne,nf,d⟩:=I.pin p hp;exact ⟨keep p.1 p.2 ne nf (fun z=>(hch p.1 z).2.2.2 p hp rfl) e,n,ne,nf,d⟩
 ·refine (I.hok a o e).oM (fun b u hb q=>?_) (fun _ q=>q) fun _ _ q=>q;rcases hb with rfl|hb
  ·exact trk _ _ _ e q
  ·exact trk _ _ _ hb q
def Up.land (U:Up X pins σ H s x ts) (hex:X.ex=[]) (hd:∀ b∈x :: ts,yo s.heap b) (F:eF X.stack x ts C d fl T s.heap h'):Up X pins σ H { s with heap:=h' } x [T]:=by
 have I:=U.inv;have hch:∀ b∈x :: ts,X.s₀.heap.get? b=none/\H b=none/\∀ p∈X.pn++pins,p.1≠b:=fun b hb=>by
  rcases LL.mp hb with rfl|hb
  ·exact ⟨U.nx,U.fx,fun p hp=>(U.px p hp).1⟩
  ·exact ⟨U.nT b hb,U.fT b hb,fun p hp z=>(U.px p hp).2 (z ▸ hb)⟩
 have J:Inv X pins σ H { s with heap:=h' }:=by
  refine I.land (ch:=x :: ts) (fun b hb=>⟨(hch b hb).1,(I.Ax (hd b hb)).1,(I.Ax (hd b hb)).2.1,(hch b hb).2.2⟩) (fun b hb=>(hch b hb).2.1) (fun b o h1 h2 h3 q=>?_) (fun b o hb q=>?_)
  ·exact F.keep b o (fun z=>(LL.mp (I.pA b z)).elim h1 h2) (fun z=>h3 (z ▸ .head _)) (fun z=>h3 (.tail _ z)) q
  ·by_cases z:b∈frs X.stack
   ·exact F.slot b o z q
   ·have nr:b∉x :: ts:=fun y=>by
     obtain ⟨n1,_,_,n4⟩:=I.Ax (hd b y);exact hb.elim n1 n4
    exact ⟨o.slots,F.keep b o z (fun y=>nr (y ▸ .head _)) (fun y=>nr (.tail _ y)) q⟩
 have hor:=F.new;refine ⟨J,U.fx,fun b hb=>?_,U.nx,fun b hb=>?_,fun p hp=>⟨(U.px p hp).1,fun hb=>?_⟩⟩
 ·obtain rfl:=Lb.mp hb;rcases hor with z|z
  ·exact U.fT _ z
  ·cases q:H b with
   | none=>rfl
   | some u=>obtain ⟨ob,e⟩:=(I.hok b u q).there;rw [z] at e;cases e
 ·obtain rfl:=Lb.mp hb;rcases hor with z|z
  ·exact U.nT _ z
  ·cases q:X.s₀.heap.get? b with
   | none=>rfl
   | some o=>obtain ⟨ob,e⟩:=I.base.there b o q (by rw [hex];simp);rw [z] at e;cases e
 ·have hb':=Lb.mp hb;rcases hor with z|z
  ·exact (U.px p hp).2 (hb' ▸ z)
  ·have e:=(I.pin p hp).1;rw [hb',z] at e;cases e
def CXR (P:Lp) (w:World):CXT:=fun outer H s E e s'=>∃ x T C d H',e=.ref x/\s'.os=s.os/\O6 s'.gens/\Un (frs outer) [] H H' s.heap s'.heap/\HOk P w H' s'.heap/\s.heap.get? x=none/\s.heap.get? T=none /\
 H' x=none/\H' T=none/\nJ s'.heap x T C d/\E (.ref C) d H'
def xg (I:Inv X pins σ H s) (hex:X.ex=[]) (h:CXR X.prog X.w X.stack H s E e s'):∃ x T C d H',e=.ref x/\nJ s'.heap x T C d/\Up X pins σ H' s' x [T]/\E (.ref C) d H':=by
 obtain ⟨x,T,C,d,H',rfl,os,bare,un,hok,nx,nT,fx,fT,he,q⟩:=h;have nw:∀ b,s.heap.get? b=none->X.s₀.heap.get? b=none:=fun b n=>by
  cases q:X.s₀.heap.get? b with
  | none=>rfl
  | some o=>obtain ⟨ob,e⟩:=I.base.there b o q (by rw [hex];simp);rw [n] at e;cases e
 refine ⟨x,T,C,d,H',rfl,he,⟨I.BQ (ch:=[]) os un hok bare (fun b z=>absurd z (by simp)),fx,fun b hb=>?_,nw _ nx,fun b hb=>?_,fun p hp=>⟨fun z=>?_,fun z=>?_⟩⟩,q⟩
 ·obtain rfl:=Lb.mp hb;exact fT
 ·obtain rfl:=Lb.mp hb;exact nw _ nT
 ·have e:=(I.pin p hp).1;rw [z,nx] at e;cases e
 ·have e:=(I.pin p hp).1;rw [Lb.mp z,nT] at e;cases e
end
def Lets (X:Cx) (E:XK):Prop:=∀ (pins:List (Addr×Obj)) (σ:St) (H:Hp) (s:K5) (x C:Addr) (d:Option Addr),Up X pins σ H s x []->vR s.heap x C d->E (.ref C) d H->X.xe (.ref x) s
section
variable {P:Lp} {w:World} {K:KW} {mg:Str->Option Value} {base:Heap} {N:List Str} {qual:Str} {scope:Scope} {f:Addr} {cd:Value} {A:LW} {outer:List Env} {s:K5} {H:Hp} {E:XK}
def EG {pins:List (Addr×Obj)} {σ:St} {H':Hp} {s':K5} {x T C:Addr} {d:Option Addr} (U:Up (i9 (CXR P w) P w K mg base N qual scope f cd A outer s H E) pins σ H' s' x [T]) (he:nJ s'.heap x T C d) (q:E (.ref C) d H') :
  CXR P w outer H s E (.ref x) s' :=
 ⟨x,T,C,d,H',rfl,U.inv.os,U.inv.bare,U.inv.base,U.inv.hok,U.nx,U.nT T (.head _),U.fx,U.fT T (.head _),he,q⟩
def CB:Passes (CXR P w) (i9 (CXR P w) P w K mg base N qual scope f cd A outer s H E) E:=fun pins σ H1 s1 e s' I h=>by
 obtain ⟨x,T,C,d,H',rfl,he,U,q⟩:=xg I rfl h;exact C1 (L:=s.heap.objs.size) (outer:=outer) U.inv.ok.frames U.inv.stack rfl he fun h' T' F=>EG (U.land rfl he.zw F) F.exc q
def Kr:Lets (i9 (CXR P w) P w K mg base N qual scope f cd A outer s H E) E:=fun pins σ H' s' x C d U he q =>
 A4 (L:=s.heap.objs.size) (outer:=outer) U.inv.ok.frames U.inv.stack rfl he fun h' T' F=>EG (U.land rfl he.zw F) F.exc q
def Fun.okR {x qual:Str} {st:Stmt} {f:Addr} {fd:LZ} {N ps:List Str} {k:Nat} {sp:Sp} (F:Fun K x qual st f fd) (S:az N ps (ah st)) (len:∀ vs H Q E,sp vs H Q E->vs.length=ps.length)
  (hbody:∀ (cdv:Value) (A:LW) (outer:List Env) (s:K5) (H:Hp) (vs:List V) (Q:VK) (E:XK),b6 k (A.deeper (envOfC qual (ah st) s.heap.objs.size f cdv))->sp vs H Q E ->
   ∃ t,PSs (i9 (CXR P w) P w K mg base N qual (ah st) f cdv A outer s H E) (bw st) t/\t { nx:=fun _ H'=>Q .non H',rt:=Q } (start N vs) H):aJ P w K mg base (CXR P w) (k+1) f fd ps sp:=by
 obtain ⟨oc,od,kV,doc,pm,an,cdv,ct,osl,rfl,lk,hcd⟩:=F.ex;exact CH lk hcd S len fun A outer s H vs Q E hr hsp=>hbody cdv A outer s H vs Q E hr hsp
end
abbrev bmV:List Value:=[.type "ValueError",.type "Exception",.type "BaseException",.type "object"]
abbrev EZ:String:="ValueError.__new__"
def HP {K:KW} {h:Heap} {C:Addr} {bmB:List Value} {newId:String} (X:K.In h) (q:Ol K C bmB newId=true) :
  ∃ bm N nm qn bs hdct sn sub ab col dd k0 k1 k2 k3 k5 mN,h.get? C=some (excClassObj nm qn C N bs bm hdct sn sub ab col dd k0 k1 k2 k3 k5 newId)/\h.Ns N mN/\mN "__init__" = none/\OwnTail h bmB bm:=by
 unfold Ol at q
 split at q
 ·rename_i dd cd sl ho
  split at q
  ·rename_i C' bm k0 k1 k2 k3 n k5 hm hs
   simp only [NQ,beq_iff_eq,OY] at q;obtain ⟨⟨⟨⟨⟨rfl,rfl⟩,hdel⟩,ht⟩,hok⟩,hni⟩:=q;obtain ⟨nm,bs,mro,ns,qn,hd,sn,sub,ab,col,del⟩:=cd;dsimp only at hm hdel hok hni;subst hm hdel;have hsl:sl=#[k0,k1,k2,k3,some (.builtin n),k5]:=by
    obtain ⟨l⟩:=sl;simp only at hs;rw [hs]
   subst hsl;exact ⟨bm,ns,nm,qn,bs,hd,sn,sub,ab,col,dd,k0,k1,k2,k3,k5,_,X _ _ ho,.of_isNs (PySem.W.isNs_of_in X hok),PySem.W.nsMap_none_of_in X hok hni,PySem.W.tail_of_in X ht⟩
  ·cases q
 ·cases q
section
variable {X:Cx} {E:XK} {C:Addr} {x:Str} {np cpos pos:Pos} {e:Expr} {es:List Expr} {ta:TA}
def As (C:Addr) (E:XK) (ta:TA):TS:=fun _ σ H=>ta σ H fun vs H1=>vs.length<=LB/\E (.ref C) none H1
def Inv.Ho {pins:List (Addr×Obj)} {σ:St} {H:Hp} {s:K5} {h':Heap} {e:Addr} {us:List Value} (I:Inv X pins σ H s) (hex:X.ex=[]) (m:Heap.MadeExcOf s.heap h' e (.ref C) us):Up X pins σ H { s with heap:=h' } e []/\vR h' e C none:=by
 obtain ⟨t,ht,_,_⟩:=m.there;refine ⟨⟨I.un (t':=s.toks) (Un.kept m.keeps) (I.hok.kept m.keeps),?_,fun b hb=>absurd hb (by simp),?_,fun b hb=>absurd hb (by simp),fun p hp=>⟨fun z=>?_,by simp⟩⟩,⟨_,_,ht,rfl,rfl,rfl,rfl⟩⟩
 ·cases q:H e with
  | none=>rfl
  | some u=>obtain ⟨ob,e1⟩:=(I.hok e u q).there;rw [m.new] at e1;cases e1
 ·cases q:X.s₀.heap.get? e with
  | none=>rfl
  | some o=>obtain ⟨ob,e1⟩:=I.base.there e o q (by rw [hex];simp);rw [m.new] at e1;cases e1
 ·have e1:=(I.pin p hp).1;rw [z,m.new] at e1;cases e1
def E5 (hL:Lets X E) (hex:X.ex=[]) (hcalm:X.calm=true) (hq:Ol X.K C bmV EZ=true) (hg:Gl X x) (hm:X.mg x=some (.ref C)) (ha:PA X (e :: es) ta)
  (hdb:(x == ("__debug__" : Str))=false:=by decide) (he:LV (e :: es) X.env=(false,eval e X.env) :: LV es X.env:=by rfl) (hpl:(backTo cpos (LV es X.env)).any (·.1)=false:=by rfl) :
  PS X (.Raise (some (.Call (.Name x np) (e :: es) [] cpos)) none pos) (As C E ta):=by
 intro pins s σ H D I h;obtain ⟨bm,N,nm,qn,bs,hdct,sn,sub,ab,col,dd,k0,k1,k2,k3,k5,mN,hC,hN,hni,T⟩:=HP I.mod.kin hq;have Fb:=PySem.F.excBase_ValueError;refine wpAny_Raise_call_subU (C:=C) (nm:=nm) (q:=qn) (N:=N) (bs:=bs) (bm:=bm) (hdct:=hdct) (sn:=sn) (sub:=sub) (ab:=ab) (col:=col) (dd:=dd) (k0:=k0) (k1:=k1) (k2:=k2) (k3:=k3) (k5:=k5)
  Fb (by trivial) Fb (mN:=mN) (T.hasType Fb.hasBase) (I.ok.hd hcalm) (by rw [he];show (false || (backTo cpos (LV es X.env)).any (·.1))=false;rw [hpl];rfl) hni (iM I hg hm ⟨rfl,?_⟩ hdb)
 have h0:=ha cpos pins s σ H _ I h;rw [he] at h0 ⊢;refine P4 (thn h0 fun us s2 ⟨vs,H2,I2,r,z,q⟩=>⟨rfl,by rw [<- r.length];exact z,I2.bk _ _ hC,hN.keeps I2.bk,T.keeps I2.bk,fun h' e' m=>?_⟩)
 obtain ⟨U,hn⟩:=I2.Ho hex m;exact hL pins σ H2 _ e' C none U hn q
end
abbrev TXs:=Ends->(St->Hp->Addr->Option Addr->Prop)->St->Hp->Prop
abbrev TXe:=St->Hp->VK->(Hp->Addr->Option Addr->Prop)->Prop
def XP (X:Cx) (pins:List (Addr×Obj)) (Ex:St->Hp->Addr->Option Addr->Prop) (e:Value) (s':K5):Prop:=∃ x T C d σ' H',e=.ref x/\nJ s'.heap x T C d/\Up X pins σ' H' s' x [T]/\Ex σ' H' C d
def PSx (X:Cx) (sts:List Stmt) (t:TXs):Prop :=
 ∀ (pins:List (Addr×Obj)) (s:K5) (σ:St) (H:Hp) (D:Ends) (Ex:St->Hp->Addr->Option Addr->Prop),Inv X pins σ H s->t D Ex σ H->wpAny (model X.prog X.w) X.A (execs sts X.env) (SP X pins D) (XP X pins Ex) s
def Gy (X:Cx) (st:Stmt) (t:TXs):Prop :=
 ∀ (pins:List (Addr×Obj)) (s:K5) (σ:St) (H:Hp) (D:Ends) (Ex:St->Hp->Addr->Option Addr->Prop),Inv X pins σ H s->t D Ex σ H->wpAny (model X.prog X.w) X.A (exec st X.env) (SP X pins D) (XP X pins Ex) s
def PEx (X:Cx) (e:Expr) (t:TXe):Prop :=
 ∀ (pins:List (Addr×Obj)) (s:K5) (σ:St) (H:Hp) (Q:VK) (Ex:Hp->Addr->Option Addr->Prop),Inv X pins σ H s->t σ H Q Ex->wpAny (model X.prog X.w) X.A (eval e X.env) (EP X pins σ Q) (XP X pins fun σ' H' C d=>σ'=σ/\Ex H' C d) s
section
variable {X:Cx} {pos:Pos}
def qb {st:Stmt} {t:TXs} (h:Gy X st t):PSx X [st] t:=by
 intro pins s σ H D Ex I q;refine Ph (Mj (h pins s σ H D Ex I q) (fun f s1 z=>?_) fun _ _ z=>z);cases f with
 | next=>exact NA z
 | ret v=>exact z
 | brk=>exact z
 | cont=>exact z
def JC (c:TT) (t u:TXs):TXs:=fun D Ex σ H=>c σ H fun b H1=>if b=true then t D Ex σ H1 else u D Ex σ H1
def JT {c:Expr} {a b:List Stmt} {tc:TT} {t u:TXs} (hc:PT X.nox c tc) (ha:PSx X a t) (hb:PSx X b u):Gy X (.If c a b pos) (JC tc t u):=by
 intro pins s σ H D Ex I h;refine wpAny_If (Mj (hc pins s σ H _ (I.jX _) h) (fun d s1 ⟨H1,I1,q1⟩=>?_) fun _ _ z=>Mf z);cases d with
 | true=>exact ha pins s1 σ H1 D Ex I1.fS q1
 | false=>exact hb pins s1 σ H1 D Ex I1.fS q1
def Ae (C:Addr) (sp:Sp) (t:TA):TXe:=fun σ H Q Ex=>t σ H fun vs H1=>∀ x dx,H1 x=none->H1 dx=none->dx≠x ->
 sp (.ref x :: vs) (upd (upd H1 dx (.own x)) x (.ins C dx [])) (fun v H2=>v=.non/\Q (.ref x) H2) (fun c d H2=>∃ C,c=.ref C/\Ex H2 C d)
def Fy {k:Nat} {C f:Addr} {fd:LZ} {ps:List Str} {sp:Sp} {x:Str} {p:Pos} {e:Expr} {es:List Expr} {t:TA} (M:Mk X.K C f) (F:aJ X.prog X.w X.K X.mg X.base (CXR X.prog X.w) k f fd ps sp) (hex:X.ex=[]) (hr:b6 (k+1) X.A) (hg:Gl X x) (hm:X.mg x=some (.ref C))
  (hb:Binds X.K fd ps []) (ha:PA X.nox (e :: es) t) (hdb:(x == ("__debug__" : Str))=false:=by decide) (he:LV (e :: es) X.env=(false,eval e X.env) :: LV es X.env:=by rfl) (hpl:(backTo pos (LV es X.env)).any (·.1)=false:=by rfl) :
  PEx X (.Call (.Name x p) (e :: es) [] pos) (Ae C sp t):=by
 intro pins s0 σ H0 Q Ex I0 h0;refine Nv (iM I0 hg hm ?_ hdb);refine Nw (h₀:=X.base) I0.ok.mod.kin M.kp (Mj (ha pos pins s0 σ H0 _ (I0.jX _) h0) (fun us s ⟨vs,H,I',r,h⟩=>?_) fun _ _ z=>Mf z) he hpl;have I:=I'.fS;refine ⟨I.kIn,?_⟩;have hq:=h (s.heap.objs.size+1) s.heap.objs.size (I.hok.fresh (NS _)) (I.hok.fresh (Lj _)) (Lz (Np _));have I2:=Inv.made (C:=C) I;have r2:Vals (V.ref (s.heap.objs.size+1) :: vs) (LF (s.heap.objs.size+1) :: us):=.cons rfl r;have hl:(LF (s.heap.objs.size+1) :: us++[]).length=ps.length:=by
  have e:=r2.length;rw [F.len _ _ _ _ hq] at e;rw [NW];exact e.symm
 have hb':=hb _ (LF (s.heap.objs.size+1) :: us) I2.kIn hl;rw [NW] at hb';refine wpAny_call (AE (f:=f) I.kIn M.makes M.init (beq_iff_eq.mp M.fn) (Oa (F.run _ X.stack _ _ ⟨LF (s.heap.objs.size+1) :: us,[]⟩ (LF (s.heap.objs.size+1) :: us) _ _ _ (hr.make C us [])
  (I2.Fp.make C us []) hb' r2 hq) fun r s' hq'=>?_))
 cases r with
 | error e =>
  have hq2:CXR X.prog X.w X.stack _ _ (fun c d H2=>∃ C,c=LF C/\Ex H2 C d) e s':=hq';obtain ⟨x,T,C',d,H',rfl,he,U,C'',hc,q⟩:=xg I2 hex hq2;cases hc;exact ⟨x,T,C',d,σ,H',rfl,he,U,rfl,q⟩
 | ok fl =>
  cases fl with
  | ret u =>
   obtain ⟨v,H',I3,rv,ev,q3⟩:=I2.after hq';subst ev;exact ⟨rv,⟨V.ref (s.heap.objs.size+1),H',I3,rfl,q3⟩⟩
  | next=>exact Mf hq'
  | brk=>exact Mf hq'
  | cont=>exact Mf hq'
end
def Kh (x C:Addr) (d:Option Addr) (h:Heap):Prop:=∃ o vs,h.get? x=some o/\o.cls=.ref C/\o.dict=d/\o.data=.fields vs
def nA.isExc {h:Heap} {x T C:Addr} {d:Option Addr} {fl:Value} (e:nA h x T C d fl):Kh x C d h:=by
 obtain ⟨oe,vs,_,_,e1,e2,e3,e4,_⟩:=e;exact ⟨oe,vs,e1,e2,e3,e4⟩
section
variable {X:Cx} {pins:List (Addr×Obj)} {σ:St} {H:Hp} {s:K5} {x T C:Addr} {ts:List Addr}
end
abbrev Cx.me (X:Cx) (e:Value):Cx:={ X with A:=X.A.mark (some e),calm:=false,xe:=fun _ _=>False }
section
variable {X:Cx} {pins:List (Addr×Obj)} {σ:St} {H:Hp} {s:K5} {e:Value}
def Inv.me (I:Inv X pins σ H s) (e:Value):Inv (X.me e) pins σ H s :=
 ⟨⟨I.ok.mod,I.ok.kind,I.ok.glob,I.ok.blt,I.ok.above,I.ok.inj,I.ok.has,I.ok.cab,fun z=>Bool.noConfusion z,I.ok.frames,I.ok.stk,I.ok.exf,I.ok.bs,I.ok.bsz,I.ok.sG,I.ok.ph,I.ok.eT,I.ok.frf⟩,I.os,I.bare,I.base,I.loc,I.cell,I.free,I.fH,I.pin,I.hok,I.len⟩
def Inv.qy (I:Inv (X.me e) pins σ H s) (ok:X.Ok):Inv X pins σ H s:=⟨ok,I.os,I.bare,I.base,I.loc,I.cell,I.free,I.fH,I.pin,I.hok,I.len⟩
abbrev TH:=Ends->St->Hp->Addr->Option Addr->Prop
def PH (X:Cx) (hs:List Om) (t:TH):Prop:=∀ (pins:List (Addr×Obj)) (s:K5) (σ:St) (H:Hp) (D:Ends) (x T C:Addr) (d:Option Addr),Up X pins σ H s x [T]->nJ s.heap x T C d->t D σ H C d->wpAny (model X.prog X.w) X.A (handleBy (.ref x) X.env hs) (SP X pins D) X.xe s
def KH:TH:=fun _ _ _ _ _=>False
def JY:PH X [] KH:=fun _ _ _ _ _ _ _ _ _ _ _ z=>Mf z
def hOf (K:KW) (B:Addr) (ts:TS) (t:TH):TH:=fun D σ H C d=>(Nd K (.ref C) (.ref B)=some true/\ts D σ H)\/(Nd K (.ref C) (.ref B)=some false/\t D σ H C d)
section
variable {x T C B:Addr} {d:Option Addr} {cn:Str} {np:Pos} {b:Bool}
def we {name:Option Str} {su:List Stmt} {hp:Pos} {rest:List Om} {D:Ends} (U:Up X pins σ H s x [T]) (he:nJ s.heap x T C d) (hg:Gl X cn) (hm:X.mg cn=some (.ref B)) (hdb:(cn == ("__debug__" : Str))=false) (hx:Nd X.K (.ref C) (.ref B)=some b)
  (h:if b=true then codeAny (model X.prog X.w) (X.A.mark (some (.ref x))) (.handlers (.ref x) [.ExceptHandler none name su hp] X.env) (fun r s₂=>match r with
     | .ok f=>(match name with
      | none=>SP X pins D f s₂
      | some n=>wpAny (model X.prog X.w) X.A (do bindName X.env n .none;unbindBehindTheSuite X.env n hp) (fun _ s₃=>SP X pins D f s₃) X.xe s₂)
     | .error x=>cameBackBy (model X.prog X.w) X.A X.env X.xe x s₂) s else wpAny (model X.prog X.w) X.A (handleBy (.ref x) X.env rest) (SP X pins D) X.xe s) :
  wpAny (model X.prog X.w) X.A (handleBy (.ref x) X.env (.ExceptHandler (some (.Name cn np)) name su hp :: rest)) (SP X pins D) X.xe s:=by
 have I2:=U.inv;refine wpAny_handleBy_cons (codeAny_handlers_test (Mj (Q:=fun c s'=>c=.ref B/\s'=s) (E:=fun _ _=>False) (show wpAny (model X.prog X.w) (X.A.mark (some (.ref x))) (eval (.Name cn np) X.env) _ _ _ from iM (X:=X.me (.ref x)) (I2.me _) hg hm ⟨rfl,rfl⟩ hdb) (fun c s3 ⟨e1,e2⟩=>?_) fun _ _ z=>Mf z)) (by intro q;cases q)
 subst e1 e2;have LT:PySem.W.Looks (model X.prog X.w) s3.heap (typeOf (.ref x)) (.ref C):=by
  obtain ⟨o,vs,e1,e2,_⟩:=he.isExc;exact e2 ▸ (PySem.W.Looks.ld e1).andThen .now
 refine (PySem.W.exm_one I2.kIn LT hx).at ?_;cases b with
 | true=>exact h
 | false=>exact h
end
def Ki {b₀:Stmt} {su:List Stmt} {cn:Str} {np hp:Pos} {B:Addr} {ts:TS} {rest:List Om} {t:TH} (hex:X.ex=[]) (hs:∀ e,PSs (X.me e) (b₀ :: su) ts) (hr:PH X rest t)
  (hg:Gl X cn) (hm:X.mg cn=some (.ref B)) (hdb:(cn == ("__debug__" : Str))=false:=by decide) :
  PH X (.ExceptHandler (some (.Name cn np)) none (b₀ :: su) hp :: rest) (hOf X.K B ts t):=by
 intro pins s1 σ' H' D x T C d U he q;rcases q with ⟨hm1,q⟩|⟨hm1,q⟩
 ·refine we U he hg hm hdb hm1 ?_;rw [if_pos rfl];refine codeAny_handlers_suite ?_;refine kq U.inv.stack he fun h3 F3=>?_;have I3:=(U.land hex he.zw F3).inv;refine Mj (hs (.ref x) pins _ _ _ _ (I3.me _) q) (fun f s5 z=>?_) fun _ _ z=>Mf z;have ok:=U.inv.ok;cases f with
  | next =>
   obtain ⟨σ6,H6,I6,q6⟩:=z;exact ⟨_,H6,I6.qy ok,q6⟩
  | ret u =>
   obtain ⟨v,σ6,H6,I6,r6,q6⟩:=z;exact ⟨v,_,H6,I6.qy ok,r6,q6⟩
  | brk =>
   obtain ⟨σ6,H6,I6,q6⟩:=z;exact ⟨_,H6,I6.qy ok,q6⟩
  | cont =>
   obtain ⟨σ6,H6,I6,q6⟩:=z;exact ⟨_,H6,I6.qy ok,q6⟩
 ·refine we U he hg hm hdb hm1 ?_;rw [if_neg (by decide)]
  exact hr pins s1 σ' H' D x T C d U he q
def Ku (tb:TXs) (th:TH):TS:=fun D σ H=>tb D (fun σ' H' C d=>th D σ' H' C d) σ H
def Il {body:List Stmt} {h₀:Om} {hs:List Om} {pos:Pos} {tb:TXs} {th:TH} (hex:X.ex=[]) (hb:PSx X body tb) (hh:PH X (h₀ :: hs) th) (hst:X.stack=X.env :: X.outer) (hfr:X.env.frame=some X.env.locals) :
  PS X (.Try body (h₀ :: hs) [] [] pos) (Ku tb th):=by
 intro pins s σ H D I h;refine wpAny_Try_except (Mj (hb pins s σ H D _ I h) (fun f s1 z=>?_) fun e s1 z=>?_)
 ·cases f with
  | next=>exact NA z
  | ret v=>exact z
  | brk=>exact z
  | cont=>exact z
 obtain ⟨x,T,C,d,σ',H',rfl,he,U,q⟩:=z;have fr:X.A.frames=some (X.env :: X.outer):=by rw [<- hst];exact I.ok.frames
 have sk1:s1.heap.FunFrames X.base (X.env :: X.outer):=by rw [<- hst];exact U.inv.stack
 refine EJ (L:=X.env.locals) (outer:=X.outer) fr sk1 hfr he fun h2 T2 F2=>?_;rw [<- hst] at F2;exact hh pins _ σ' H' D x T2 C d (U.land hex he.zw F2) F2.exc q
end
section
variable {X:Cx} {x:Str} {st:Stmt} {ps:List Str} {k:Nat} {sp:Sp} {p pos:Pos} {e:Expr} {es:List Expr} {t:TA} {E:XK}
def zF (d:Df X.K X.mg x st ps) (G:aJ X.prog X.w X.K X.mg X.base (CXR X.prog X.w) k d.f d.fd ps sp) (hr:b6 k X.A) (hg:Gl X x) (hx:Passes (CXR X.prog X.w) X E) (ha:PA X (e :: es) t) (hn:isStar e=false:=by rfl) (hall:es.all (fun e=>!isStar e)=true:=by rfl) (hdb:(x == ("__debug__" : Str))=false:=by decide) :
  PE X (.Call (.Name x p) (e :: es) [] pos) (nD sp [] E t):=va G hr hg d.nm d.fn.kp d.bd .nil hx ha hdb (bD hn) (cD hall)
def pP {C f:Addr} {fd:LZ} (M:Mk X.K C f) (G:aJ X.prog X.w X.K X.mg X.base (CXR X.prog X.w) k f fd ps sp) (hex:X.ex=[]) (hr:b6 (k+1) X.A) (hg:Gl X x) (hm:X.mg x=some (.ref C)) (hb:Binds X.K fd ps []) (ha:PA X.nox (e :: es) t) (hn:isStar e=false:=by rfl) (hall:es.all (fun e=>!isStar e)=true:=by rfl) (hdb:(x == ("__debug__" : Str))=false:=by decide) :
  PEx X (.Call (.Name x p) (e :: es) [] pos) (Ae C sp t):=Fy M G hex hr hg hm hb ha hdb (bD hn) (cD hall)
def DR {C:Addr} {np cpos:Pos} (hL:Lets X E) (hex:X.ex=[]) (hcalm:X.calm=true) (hq:Ol X.K C bmV EZ=true) (hg:Gl X x) (hm:X.mg x=some (.ref C)) (ha:PA X (e :: es) t) (hn:isStar e=false:=by rfl) (hall:es.all (fun e=>!isStar e)=true:=by rfl)
  (hdb:(x == ("__debug__" : Str))=false:=by decide):PS X (.Raise (some (.Call (.Name x np) (e :: es) [] cpos)) none pos) (As C E t):=E5 hL hex hcalm hq hg hm ha hdb (bD hn) (cD hall)
end
section
variable {K:KW} {B C:Addr} {i:Nat} {tb t u:TXs} {ts:TS} {D:Ends} {σ:St} {H:Hp} {c:TT} {te:TXe} {sp:Sp} {ta:TA} {Q:VK} {Ex:St->Hp->Addr->Option Addr->Prop} {Eh:Hp->Addr->Option Addr->Prop} {E:XK} {th:TH}
def Km (h:c σ H fun b H1=>if b=true then t D Ex σ H1 else u D Ex σ H1):JC c t u D Ex σ H:=h
def vd (h:ta σ H fun vs H1=>∀ x dx,H1 x=none->H1 dx=none->dx≠x ->
 sp (.ref x :: vs) (upd (upd H1 dx (.own x)) x (.ins C dx [])) (fun v H2=>v=.non/\Q (.ref x) H2) (fun c d H2=>∃ C,c=.ref C/\Eh H2 C d)):Ae C sp ta σ H Q Eh:=h
def Ht (h:ta σ H fun vs H1=>vs.length<=LB/\E (.ref C) none H1):As C E ta D σ H:=h
end
section
open PySem.Calls PySem.Builtin PySem.Builtin.ObjectAttr PySem.Builtin.Getset_descriptor
variable {prog:Lp} {w:World} {A:LW} {E:Value->K5->Prop} {K:KW} {x C:Addr} {di:Option Addr} {h:Heap} {g:Array OB} {d:Drawn} {t:Nat} {os:OsState}
end
section
variable {K:KW} {H:Hp} {Q:VK} {x C D:Addr} {d:Option Addr} {b:Bool}
end
section
variable {M:Model} {A:LW} {E:Value->K5->Prop} {s:K5} {base:Heap} {env:Env} {l:List Env} {L x T C:Addr} {d:Option Addr}
end
section
variable {X:Cx} {pins:List (Addr×Obj)} {σ:St} {H:Hp} {s s':K5} {x T C:Addr} {d:Option Addr} {ts:List Addr} {h':Heap} {E:XK} {e:Value} {fl:Value}
end
section
variable {P:Lp} {w:World} {K:KW} {mg:Str->Option Value} {base:Heap} {N:List Str} {qual:Str} {scope:Scope} {f:Addr} {cd:Value} {A:LW} {outer:List Env} {s:K5} {H:Hp} {E:XK}
def aJ.both {k:Nat} {f:Addr} {fd:LZ} {ps:List Str} {sp1 sp2:Sp} (F1:aJ P w K mg base CX0 k f fd ps sp1) (F2:aJ P w K mg base (CXR P w) k f fd ps sp2):aJ P w K mg base (CXR P w) k f fd ps (fun vs H Q E=>sp1 vs H Q E\/sp2 vs H Q E) :=
 ⟨fun vs H Q E h=>h.elim (F1.len vs H Q E) (F2.len vs H Q E),fun A outer s H args us vs Q E hr he hb hv h=>by
  rcases h with h|h
  ·refine Oa (F1.run A outer s H args us vs Q E hr he hb hv h) fun r s' z=>?_;cases r with
   | error e=>exact Mf z
   | ok fl=>cases fl <;> exact z
  ·exact F2.run A outer s H args us vs Q E hr he hb hv h⟩
end
section
variable {X:Cx} {pos:Pos}
def G0 (i:Nat) (te:TXe):TXs:=fun D Ex σ H=>te σ H (fun v H1=>D.nx (σ.set i (some v)) H1) (fun H1 C d=>Ex σ H1 C d)
def uV {i:Nat} {x:Str} {e:Expr} {te:TXe} {pos':Pos} (hN:X.N.Nodup) (hi:X.N[i]?=some x) (hx:Loc X.env.scope x) (he:PEx X e te) (hs:swapsWith e (some (.Name x pos')) pos.line X.env=pure false:=by rfl) (hf:X.fn x=true\/X.env.scope.names.lookup x=some .local:=by first|exact .inl rfl|exact .inr rfl|assumption) :
  Gy X (.Assign [.Name x pos'] e pos) (G0 i te):=by
 intro pins s σ H D Ex I h;refine wpAny_Assign_Name (Mj (he pins s σ H _ _ I h) (fun v s1 ⟨y,H1,I1,r1,q1⟩=>?_) fun e s1 ⟨x,T,C,d,σ',H',e1,e2,e3,e4,e5⟩=>⟨x,T,C,d,σ,H',e1,e2,by rw [<- e4];exact e3,e5⟩) hs
 exact lg I1 hN hi hx r1 (fun s' I'=>⟨_,H1,I',q1⟩) hf
end
section
variable {σ:St} {H:Hp} {Q:VK} {D:Ends} {Ex:St->Hp->Addr->Option Addr->Prop} {Eh:Hp->Addr->Option Addr->Prop}
def zr {i:Nat} {te:TXe} (h:te σ H (fun v H1=>D.nx (σ.set i (some v)) H1) (fun H1 C d=>Ex σ H1 C d)):G0 i te D Ex σ H:=h
end
end L2
namespace L2
def Back (U N:St->Hp->Prop):Prop:=∀ σ' H',U σ' H'->N σ' H'
def tF {t u:TS} {D:Ends} {σ:St} {H:Hp} (h:∀ N:St->Hp->Prop,Back (u D) N->t { D with nx:=N } σ H):Jd t u D σ H:=h _ fun _ _ z=>z
def uB {U N:St->Hp->Prop} {σ:St} {H:Hp} (h:Back U N) (q:U σ H):N σ H:=h σ H q
end L2
namespace L2
open PySem PySem.Spec PyProof.Rows
structure Ce (K:KW) (C:Addr) (m:Str) (f:Addr):Prop where
 ga:OR K (.ref C) "__getattribute__" = some (some (.builtin "type.__getattribute__"))
 rd:PySem.W.readsIn K C (.type "type")=true
 fc:PySem.W.findCls K (.ref C) (.type "type") m=some (.val (.ref f))
 kp:L0 K (.ref f)=true
section
variable {X:Cx} {k:Nat} {f C:Addr} {fd:LZ} {ps:List Str} {sp:Sp} {x m:Str} {p pos apos:Pos} {e:Expr} {es:List Expr} {t:TA}
def iL {pl:Sem Bool} (hg:Gl X x) (hm:X.mg x=some (.ref C)) (hc:Ce X.K C m f) (F:aJ X.prog X.w X.K X.mg X.base CX0 k f fd ps sp) (hr:b6 k X.A) (hb:Binds X.K fd ps []) (ha:PA X (e :: es) t)
  (hn:isStar e=false:=by rfl) (hall:es.all (fun e=>!isStar e)=true:=by rfl) (hdb:(x == ("__debug__" : Str))=false:=by decide)
  (ht:eval (.Call (.Attribute (.Name x p) m apos) (e :: es) [] pos) X.env=(do
   let ov <- eval (.Name x p) X.env
   standAt apos.atName
   let (f,first) <- holding [ov] (getMethod ov m pl)
   callWith pos f first (backTo pos (LV (e :: es) X.env)) (backToKw pos (keywordEach [] X.env))):=by rfl) :
  PE X (.Call (.Attribute (.Name x p) m apos) (e :: es) [] pos) (nD sp [] E0 t):=by
 intro pins s σ H Q I h;refine PQ (pl:=pl) (iM I hg hm ?_ hdb) ht;refine PySem.W.method_cls I.kIn hc.ga (PySem.W.cls_value I.kIn hc.rd hc.fc rfl ?_);refine Nw (first:=[]) (h₀:=X.base) I.ok.mod.kin hc.kp (thn (ha pos pins _ σ H _ (I.tok (s.toks+1)) h) fun us s2 ⟨vs,H2,I2,r,q2⟩=>⟨I2.kIn,?_⟩) (bD hn) (cD hall);exact Aw F hr hb .nil l6 I2 r q2
end
section
variable {X:Cx} {k:Nat} {f C:Addr} {fd:LZ} {ps ks:List Str} {sp:Sp} {x:Str} {p pos kpos:Pos} {e a:Expr} {es:List Expr} {kws:List Py} {t tk:TA} {te:TE} {g:List Value->List Value->List Value} {gV:List V->List V->List V}
end
section
variable {X:Cx} {pins:List (Addr×Obj)} {σ:St} {H:Hp} {s:K5} {A:LW} {α β:Type} [Rep α] [DecidableEq α] [bQ α] [Rep β] [DecidableEq β] [bQ β]
end
end L2
namespace PySem
open Sem (wp)
def Ij:typeLookup (.type "zip") "__getattr__" = pure none:=am_miss_of_fast (by kernel_rfl)
def HZ:typeLookup (.type "zip") "keys" = pure none:=am_miss_of_fast (by kernel_rfl)
def Ge:entryFor table "zip.__getattribute__" = some Qv.«object.__getattribute__» :=
 entryFor_alias (id':="object.__getattribute__") (by kernel_rfl) (by trivial) (by trivial) (by kernel_rfl)
def Gn (z:Addr) (fs:Array Value) (u:Tok) :
  Meets (Qv.«object.__getattribute__» ⟨[.ref z,.str "keys" u],[]⟩) (fun A R s=>s.heap.get? z=some { cls:=.type "zip",dict:=none,data:=.fields fs,slots:=#[] }/\raisesAttr (.ref z) "keys" A R s) :=
 Meets.of_wp fun prog w A R s hs=>by
  obtain ⟨hp,g,d,tk,os⟩:=s;obtain ⟨hx,hA,hs⟩:=hs;have hT:(⟨hp,g,d,tk,os⟩:K5).TypeIs (.ref z) "zip":=⟨_,hx,rfl⟩;have hk:=HZ;unfold Qv.«object.__getattribute__»
  repeat (any_goals (first|assumption|wp_step))
  exact wpAny_raiseAttrError hA hs (attrMsg_fits (by trivial) (by trivial))
section
variable {prog:Lp} {w:World} {A:LW} {E:Value->K5->Prop} {s:K5}
def A5 {z:Addr} {fs:Array Value} {Q:Option Value->K5->Prop} (hx:s.heap.get? z=some { cls:=.type "zip",dict:=none,data:=.fields fs,slots:=#[] }) (hA:A.handled=none)
  (h:∀ h' tk,(∀ b o,s.heap.get? b=some o->h'.get? b=some o)->Q none { s with heap:=h',toks:=tk }):wpAny (model prog w) A (getAttr? (.ref z) "keys") Q E s:=by
 obtain ⟨hp,g,d,tk,os⟩:=s;have hT:∀ tk',(⟨hp,g,d,tk',os⟩:K5).TypeIs (.ref z) "zip":=fun _=>⟨_,hx,rfl⟩;have f1:=sub_AttributeError;have f3:=NZ.lookup;have f4:=NZ.bind (.ref z);have f5:=Ij;unfold getAttr? getAttrBy? getAttrBy
 repeat (any_goals (first|assumption|exact hT _|((with_reducible show wpAny _ _ (call (Value.builtin "zip.__getattribute__") _ _) _ _ _);refine Oo NZ (hT _) Ge (F.args_zip_getattribute_2 _ _) (Gn z fs _) ⟨hx,hA,fun h' tk' e hn=>?_⟩)|wp_step))
 obtain ⟨t',u',he⟩:=hn.there;show wpAny _ _ (getattributeRaised _ _ _ _ _ _ _) _ _ _;unfold getattributeRaised
 repeat (any_goals (first|assumption|wp_step))
 exact h _ _ hn.keeps
end
end PySem
namespace PySem
open Sem (wp)
section
variable {prog:Lp} {w:World} {A:LW} {E:Value->K5->Prop} {s:K5}
abbrev gk (h:Heap) (z TI TO T:Addr) (b:Bool):Prop:=h.get? z=some { cls:=.type "zip",dict:=none,data:=.fields #[rawInt T,.bool b,.bool false,.ref TI,.ref TO],slots:=#[] }
def wq {z TI TO T:Addr} {b:Bool} {oT:Obj} {Q:Bool->K5->Prop} (gz:gk s.heap z TI TO T b) (gT:s.heap.get? T=some oT)
  (h:∀ h',gk h' z TI TO T true->OC z s.heap h'->Q false { s with heap:=h' }):wpAny (model prog w) A (My (.ref z)) Q E s:=by
 unfold My;refine K9 (Nl gz rfl (x:=rawInt T) rfl ?_);have al:∀ {R:Option Obj->K5->Prop},R (some oT) s->wpAny (model prog w) A (loadIfAlive ((T:Int).toNat)) R E s:=fun {R} r=>by
  intro Γ q hΓ;show R (s.heap.get? ((T:Int).toNat)) s;rw [show ((T:Int).toNat)=T from OT T,gT];exact r
 refine K9 (al ?_);rw [if_neg (fun z=>nomatch z)];refine K9 (Nl gz rfl (x:=.bool b) rfl ?_);cases b with
 | true =>
  rw [if_neg (by decide)]
  exact LI (h _ gz ⟨rfl,fun _ _=>rfl⟩)
 | false =>
  rw [if_pos (by decide)]
  exact K9 (wpAny_setField_rec gz (by simp) fun h1 gz1 hs1=>LI (h h1 gz1 hs1))
def xR {z TI TO T i1 i2 l1 l2:Addr} {k1 k2:Nat} {xs ys:Array Value} {x y:Value} {b:Bool} {oT:Obj} {Q:Value->K5->Prop} (D:N9 z TI TO i1 i2 l1 l2)
  (gz:gk s.heap z TI TO T b) (gT:s.heap.get? T=some oT) (gI:Qb s.heap TI (.ref i1) (.ref i2))
  (g1:s.heap.IsListIter i1 l1 k1) (g2:s.heap.IsListIter i2 l2 k2) (gl1:s.heap.IsList l1 xs) (gl2:s.heap.IsList l2 ys) (gx:xs[k1]?=some x) (gy:ys[k2]?=some y)
  (hQ:∀ h',gk h' z TI TO T true->h'.IsListIter i1 l1 (k1+1)->h'.IsListIter i2 l2 (k2+1)->Qb h' s.heap.objs.size x y ->
   (∀ c o,c≠z->c≠i1->c≠i2->s.heap.get? c=some o->h'.get? c=some o)->Q (.ref s.heap.objs.size) { s with heap:=h' }) :
  wpAny (model prog w) A (Qv.«zip.__next__» ⟨[.ref z],[]⟩) (fun fin s'=>∃ v,fin=.done (.ret v)/\Q v s') E s:=by
 show wpAny _ _ (field (.ref z) 2 >>= _) _ _ _;refine K9 (Nl gz rfl (x:=.bool false) rfl ?_);show wpAny _ _ (field (.ref z) 3 >>= _) _ _ _;refine K9 (Nl gz rfl (x:=.ref TI) rfl ?_);refine K9 (Qd gI rfl ?_);show wpAny _ _ (My (.ref z) >>= _) _ _ _;refine K9 (wq gz gT fun h1 gz1 hs1=>?_);simp only [Bool.false_eq_true,if_false,List.forIn_toArray,PF,List.forIn_nil];refine K9 (K9 (K9 (Nk ?_)));show wpAny _ _ (NO (.ref i1) >>= _) _ _ _;refine K9 (Pp (g1.extBut hs1.extBut D.i1z) (gl1.extBut hs1.extBut D.l1z) gx fun h2 g12 hs2=>LI (LI ?_));refine K9 (K9 (Nk ?_));show wpAny _ _ (NO (.ref i2) >>= _) _ _ _;refine K9 (Pp ((g2.extBut hs1.extBut D.i2z).extBut hs2.extBut D.i12.symm) ((gl2.extBut hs1.extBut D.l2z).extBut hs2.extBut D.l2i1) gy fun h3 g23 hs3=>LI (LI (LI ?_)));refine K9 (wpAny_newTuple (LI ⟨_,rfl,?_⟩) (show 2<=LB by decide))
 have e1:h1.objs.size=s.heap.objs.size:=hs1.1;have e2:h2.objs.size=h1.objs.size:=hs2.1;have e3:h3.objs.size=h2.objs.size:=hs3.1;have ez:h3.objs.size=s.heap.objs.size:=e3.trans (e2.trans e1);have up:∀ c o,c≠z->c≠i1->c≠i2->s.heap.get? c=some o->h3.get? c=some o:=fun c o n1 n2 n3 q=>hs3.extBut _ _ n3 (hs2.extBut _ _ n2 (hs1.extBut _ _ n1 q));have q:=hQ (h3.push { cls:=.type "tuple",data:=.seq #[x,y] }) (La _ (hs3.extBut _ _ D.i2z.symm (hs2.extBut _ _ D.i1z.symm gz1))) ((g12.extBut hs3.extBut D.i12).at fun o e=>La _ e) (g23.at fun o e=>La _ e)
  (by rw [<- ez];exact LQ _ rfl) fun c o n1 n2 n3 q=>La _ (up c o n1 n2 n3 q)
 rw [<- ez] at q;exact q
def EN {z TI TO T i1 i2 l1 l2:Addr} {k1 k2:Nat} {xs ys:Array Value} {x y:Value} {b:Bool} {oT:Obj} {Q:Option Value->K5->Prop} (D:N9 z TI TO i1 i2 l1 l2)
  (gz:gk s.heap z TI TO T b) (gT:s.heap.get? T=some oT) (gI:Qb s.heap TI (.ref i1) (.ref i2))
  (g1:s.heap.IsListIter i1 l1 k1) (g2:s.heap.IsListIter i2 l2 k2) (gl1:s.heap.IsList l1 xs) (gl2:s.heap.IsList l2 ys) (gx:xs[k1]?=some x) (gy:ys[k2]?=some y)
  (hQ:∀ h',gk h' z TI TO T true->h'.IsListIter i1 l1 (k1+1)->h'.IsListIter i2 l2 (k2+1)->Qb h' s.heap.objs.size x y ->
   (∀ c o,c≠z->c≠i1->c≠i2->s.heap.get? c=some o->h'.get? c=some o)->Q (some (.ref s.heap.objs.size)) { s with heap:=h' }) :
  wpAny (model prog w) A (pyNext (.ref z)) Q E s:=by
 have tz:s.TypeIs (.ref z) "zip":=⟨_,gz,rfl⟩;unfold pyNext;refine K9 (wpAny_attempt (Pc (name:=Str.ofString "__next__") tz Ow (wpAny_call_entry Ow tz F.entry_zip_next ?_ (F.args_zip_next_1 _))));exact xR D gz gT gI g1 g2 gl1 gl2 gx gy fun h' a1 a2 a3 a4 a5=>LI (hQ h' a1 a2 a3 a4 a5)
def zX {z TI TO T i1 i2 l1 l2:Addr} {k1:Nat} {xs:Array Value} {b:Bool} {oT:Obj} {Q:Fin->K5->Prop} (hh:A.handled=none) (D:N9 z TI TO i1 i2 l1 l2)
  (gz:gk s.heap z TI TO T b) (gT:s.heap.get? T=some oT) (gI:Qb s.heap TI (.ref i1) (.ref i2))
  (g1:s.heap.IsListIter i1 l1 k1) (gl1:s.heap.IsList l1 xs) (gx:xs[k1]?=none)
  (hE:∀ h' e,(∀ c o,c≠z->c≠i1->c≠i2->s.heap.get? c=some o->h'.get? c=some o)->(∃ o,h'.get? e=some o/\o.cls=.type "StopIteration")->E (.ref e) { s with heap:=h' }) :
  wpAny (model prog w) A (Qv.«zip.__next__» ⟨[.ref z],[]⟩) Q E s:=by
 show wpAny _ _ (field (.ref z) 2 >>= _) _ _ _;refine K9 (Nl gz rfl (x:=.bool false) rfl ?_);show wpAny _ _ (field (.ref z) 3 >>= _) _ _ _;refine K9 (Nl gz rfl (x:=.ref TI) rfl ?_);refine K9 (Qd gI rfl ?_);show wpAny _ _ (My (.ref z) >>= _) _ _ _;refine K9 (wq gz gT fun h1 gz1 hs1=>?_);simp only [Bool.false_eq_true,if_false,List.forIn_toArray,PF,List.forIn_nil];refine K9 (K9 (K9 (Nk ?_)));show wpAny _ _ (NO (.ref i1) >>= _) _ _ _;exact K9 (wpAny_nextOf_list_end hh (g1.extBut hs1.extBut D.i1z) (gl1.extBut hs1.extBut D.l1z) gx fun h2 e hs2 he=>hE h2 e (fun c o n1 n2 n3 q=>hs2 _ _ n2 (hs1.extBut _ _ n1 q)) he)
def Fg {z TI TO T i1 i2 l1 l2:Addr} {k1:Nat} {xs:Array Value} {b:Bool} {oT:Obj} {Q:Option Value->K5->Prop} (hh:A.handled=none) (D:N9 z TI TO i1 i2 l1 l2)
  (gz:gk s.heap z TI TO T b) (gT:s.heap.get? T=some oT) (gI:Qb s.heap TI (.ref i1) (.ref i2))
  (g1:s.heap.IsListIter i1 l1 k1) (gl1:s.heap.IsList l1 xs) (gx:xs[k1]?=none)
  (hQ:∀ h',(∀ c o,c≠z->c≠i1->c≠i2->s.heap.get? c=some o->h'.get? c=some o)->Q none { s with heap:=h' }):wpAny (model prog w) A (pyNext (.ref z)) Q E s:=by
 have tz:s.TypeIs (.ref z) "zip":=⟨_,gz,rfl⟩;unfold pyNext;refine K9 (wpAny_attempt (Pc (name:=Str.ofString "__next__") tz Ow (wpAny_call_entry Ow tz F.entry_zip_next (zX hh D gz gT gI g1 gl1 gx fun h' e hk he=>?_) (F.args_zip_next_1 _))));obtain ⟨o,ho,hc⟩:=he;exact K9 (wpAny_isInstance (T:="StopIteration") (b:=true) ⟨o,ho,hc⟩ isSubtype_stop (LI (hQ _ hk)))
end
end PySem
namespace PySem
open Sem (wp)
def zU:entryFor table "dict.update.loop" = some Qv.«dict.update.loop»:=entryFor_of_tree (by kernel_rfl)
def oh:plainId "dict.update.loop" = true:=by trivial
structure kA (h:Heap) (z TI TO i1 i2 l1 l2:Addr) (i:Nat) (xs ys:Array Value):Prop where
 own:(IsZip h z TI TO .none/\∃ a b,Qb h TO a b)\/∃ (T:Addr) (b:Bool) (oT:Obj),gk h z TI TO T b/\h.get? T=some oT/\T≠z/\T≠i1/\T≠i2
 ins:Qb h TI (.ref i1) (.ref i2)
 it1:h.IsListIter i1 l1 i
 it2:h.IsListIter i2 l2 i
 ls1:h.IsList l1 xs
 ls2:h.IsList l2 ys
def kA.keep {h h':Heap} {z TI TO i1 i2 l1 l2 d:Addr} {i:Nat} {xs ys:Array Value} (Z:kA h z TI TO i1 i2 l1 l2 i xs ys) (nz:z≠d) (nI:TI≠d) (nO:TO≠d) (n1:i1≠d) (n2:i2≠d) (n3:l1≠d) (n4:l2≠d)
  (k:∀ c o,c≠d->h.get? c=some o->h'.get? c=some o) (hd:∃ o,h'.get? d=some o):kA h' z TI TO i1 i2 l1 l2 i xs ys where
 own:=by
  rcases Z.own with ⟨gz,a,b,gO⟩|⟨T,b,oT,gz,gT,t1,t2,t3⟩
  ·exact .inl ⟨k _ _ nz gz,a,b,k _ _ nO gO⟩
  ·by_cases e:T=d
   ·obtain ⟨o,ho⟩:=hd;exact .inr ⟨T,b,o,k _ _ nz gz,by rw [e];exact ho,t1,t2,t3⟩
   ·exact .inr ⟨T,b,oT,k _ _ nz gz,k _ _ e gT,t1,t2,t3⟩
 ins:=k _ _ nI Z.ins
 it1:=Z.it1.at fun o q=>k _ o n1 q
 it2:=Z.it2.at fun o q=>k _ o n2 q
 ls1:=Z.ls1.at fun o q=>k _ o n3 q
 ls2:=Z.ls2.at fun o q=>k _ o n4 q
section
variable {prog:Lp} {w:World} {A:LW} {E:Value->K5->Prop} {s:K5} {z TI TO i1 i2 l1 l2:Addr} {xs ys:Array Value}
def Cb {i:Nat} {x y:Value} {Q:Option Value->K5->Prop} (D:N9 z TI TO i1 i2 l1 l2) (Z:kA s.heap z TI TO i1 i2 l1 l2 i xs ys) (gx:xs[i]?=some x) (gy:ys[i]?=some y)
  (hQ:∀ h',kA h' z TI TO i1 i2 l1 l2 (i+1) xs ys->Qb h' s.heap.objs.size x y->(∀ c o,c≠z->c≠TO->c≠i1->c≠i2->s.heap.get? c=some o->h'.get? c=some o)->Q (some (.ref s.heap.objs.size)) { s with heap:=h' }) :
  wpAny (model prog w) A (pyNext (.ref z)) Q E s:=by
 have lt:∀ {c:Addr} {o:Obj},s.heap.get? c=some o->s.heap.objs.size≠c:=fun e=>Pt (Li e);rcases Z.own with ⟨gz,a,b,gO⟩|⟨T,b,oT,gz,gT,t1,t2,t3⟩
 ·refine PJ D gz Z.ins gO Z.it1 Z.it2 Z.ls1 Z.ls2 gx gy fun h' a1 a2 a3 a4 a5 a6 hk=>hQ h' ⟨.inr ⟨s.heap.objs.size,false,_,a1,a5,lt gz,?_,?_⟩,hk _ _ D.TIz D.TITO D.TIi1 D.TIi2 Z.ins,a3,a4,Z.ls1.at fun o e=>hk _ o D.l1z D.l1TO D.l1i1 D.l1i2 e,Z.ls2.at fun o e=>hk _ o D.l2z D.l2TO D.l2i1 D.l2i2 e⟩ a5 hk
  ·obtain ⟨_,e,_⟩:=Z.it1;exact lt e
  ·obtain ⟨_,e,_⟩:=Z.it2;exact lt e
 ·exact EN D gz gT Z.ins Z.it1 Z.it2 Z.ls1 Z.ls2 gx gy fun h' a1 a2 a3 a4 hk=>hQ h' ⟨.inr ⟨T,true,oT,a1,hk _ _ t1 t2 t3 gT,t1,t2,t3⟩,hk _ _ D.TIz D.TIi1 D.TIi2 Z.ins,a2,a3,Z.ls1.at fun o e=>hk _ o D.l1z D.l1i1 D.l1i2 e,Z.ls2.at fun o e=>hk _ o D.l2z D.l2i1 D.l2i2 e⟩ a4 fun c o c1 _ c3 c4 e=>hk c o c1 c3 c4 e
def EE {i:Nat} {Q:Option Value->K5->Prop} (hh:A.handled=none) (D:N9 z TI TO i1 i2 l1 l2) (Z:kA s.heap z TI TO i1 i2 l1 l2 i xs ys) (gx:xs[i]?=none)
  (hQ:∀ h',(∀ c o,c≠z->c≠TO->c≠i1->c≠i2->s.heap.get? c=some o->h'.get? c=some o)->Q none { s with heap:=h' }):wpAny (model prog w) A (pyNext (.ref z)) Q E s:=by
 rcases Z.own with ⟨gz,a,b,gO⟩|⟨T,b,oT,gz,gT,t1,t2,t3⟩
 ·exact P5 hh D gz Z.ins gO Z.it1 Z.it2 Z.ls1 Z.ls2 (.inl gx) fun h' hk=>hQ h' hk
 ·exact Fg hh D gz gT Z.ins Z.it1 Z.ls1 gx fun h' hk=>hQ h' fun c o c1 _ c3 c4 e=>hk c o c1 c3 c4 e
end
section
variable {prog:Lp} {w:World} {A:LW} {E:Value->K5->Prop} {Kk:Type} [DecidableEq Kk] {knd:KeyKind prog w Kk} {d z TI TO i1 i2 l1 l2:Addr} {xs ys:Array Value} {kvs:List (Kk×Value)}
def HC {R:Qo->K5->Prop} (hh:A.handled=none) (D:N9 z TI TO i1 i2 l1 l2) (nz:z≠d) (nI:TI≠d) (nO:TO≠d) (n1:i1≠d) (n2:i2≠d) (n3:l1≠d) (n4:l2≠d) (hl:kvs.length=xs.size) (hz:kvs.length<=LB)
  (hkv:∀ (i:Nat) (k:Kk) (v:Value),kvs[i]?=some (k,v)->∃ x,xs[i]?=some x/\knd.is k x=true/\ys[i]?=some v) :
  ∀ (m i:Nat) (j:Int) (s:K5),kvs.length - i=m->i<=kvs.length->kA s.heap z TI TO i1 i2 l1 l2 i xs ys->s.heap.DictOf knd d (merged [] (kvs.take i)) ->
   (∀ h' t',h'.DictOf knd d (merged [] kvs)->(∀ c o,c≠d->c≠z->c≠TO->c≠i1->c≠i2->s.heap.get? c=some o->h'.get? c=some o)->R (.ok (.ret .none)) { s with heap:=h',toks:=t' }) ->
   codeAny (model prog w) A (.builtin "dict.update.loop" ⟨[.ref d,.ref z,rawInt j,.none],[]⟩) R s:=by
 intro m
 induction m with
 | zero =>
  intro i j s hm hi Z hd hR;have e:i=kvs.length:=by lia
  subst e;rw [Mn] at hd;refine codeAny_builtin zU ?_;rw [P6 oh _];show wpAny _ A.in1 (pyNext (.ref z) >>= _) _ _ s;refine K9 (EE (by simpa using hh) D Z (Array.getElem?_eq_none (by lia)) fun h' hk=>?_)
  show wpAny _ A.in1 (Builtin.Dict.addKeywords d [] >>= _) _ _ _;refine K9 (LI (LI (hR h' s.toks ?_ fun c o _ c1 c2 c3 c4 q=>hk c o c1 c2 c3 c4 q)));obtain ⟨o,es,ep,ho,rest⟩:=hd;exact ⟨o,es,ep,hk _ _ nz.symm nO.symm n1.symm n2.symm ho,rest⟩
 | succ m ih =>
  intro i j s hm hi Z hd hR;have hlt:i<kvs.length:=by lia
  obtain ⟨⟨k,v⟩,hg⟩:∃ p,kvs[i]?=some p:=⟨_,KZ hlt⟩;obtain ⟨x,gx,kx,gy⟩:=hkv i k v hg;refine codeAny_builtin zU ?_;rw [P6 oh _];show wpAny _ A.in1 (pyNext (.ref z) >>= _) _ _ s;refine K9 (Cb D Z gx gy fun h1 Z1 gp hk=>?_);show wpAny _ A.in1 (holding [LF s.heap.objs.size] _ >>= _) _ _ _;refine K9 (Nk ?_);refine K9 (wpAny_tryCatch ?_);unfold Builtin.Dict.pairItems;refine K9 (wpAny_typeOf (T:="tuple") ⟨_,gp,rfl⟩ ?_);rw [if_pos (by decide)]
  refine K9 (Qd gp rfl (LI ?_));show wpAny _ A.in1 (holding [x,v] (dictSet d x v)) _ _ _;refine Nk ?_;have hd1:h1.DictOf knd d (merged [] (kvs.take i)):=by
   obtain ⟨o,es,ep,ho,rest⟩:=hd;exact ⟨o,es,ep,hk _ _ nz.symm nO.symm n1.symm n2.symm ho,rest⟩
  have ml:=merged_length_le ([]:List (Kk×Value)) (kvs.take i);have tl:(kvs.take i).length<=i:=List.length_take_le ..;refine wpAny_dictSet_pairs (s:={ s with heap:=h1 }) (hsz:=by rw [PK,L7] at ml;lia) kx hd1 fun h2 hd2 hs2=>?_
  rw [<- merged_take_succ [] kvs i (k,v) hg] at hd2;have he:∃ o,h2.get? d=some o:=let ⟨o,_,_,ho,_⟩:=hd2;⟨o,ho⟩;refine LI ⟨plainId_quiet oh _,ih (i+1) (j+1) _ (by lia) hlt (Z1.keep nz nI nO n1 n2 n3 n4 (fun c o c1 q=>(hs2.2 c c1).trans q) he) hd2 fun h3 t3 hd3 hk3=>?_⟩
  exact hR h3 t3 hd3 fun c o c0 c1 c2 c3 c4 q=>hk3 c o c0 c1 c2 c3 c4 ((hs2.2 c c0).trans (hk c o c1 c2 c3 c4 q))
def xD {s:K5} {Q:Value->K5->Prop} (hh:A.handled=none) (D:N9 z TI TO i1 i2 l1 l2) (gz:IsZip s.heap z TI TO .none) (Z:kA s.heap z TI TO i1 i2 l1 l2 0 xs ys) (hl:kvs.length=xs.size) (hz:kvs.length<=LB)
  (hkv:∀ (i:Nat) (k:Kk) (v:Value),kvs[i]?=some (k,v)->∃ x,xs[i]?=some x/\knd.is k x=true/\ys[i]?=some v) (nd:(kvs.map (·.1)).Nodup) (gO:∃ o,s.heap.get? TO=some o)
  (h:∀ h' t',h'.DictOf knd s.heap.objs.size kvs->(∀ c o,c≠z->c≠TO->c≠i1->c≠i2->s.heap.get? c=some o->h'.get? c=some o)->Q (.ref s.heap.objs.size) { s with heap:=h',toks:=t' }) :
  wpAny (model prog w) A (call (.type "dict") [.ref z]) Q E s:=by
 refine callType_codes (Q₁:=fun obj s₁=>obj=.ref s.heap.objs.size/\s₁={ s with heap:=s.heap.push { cls:=.type "dict",data:=.dict #[] } }) F.kt_called_dict (F.kt_typeCall_dict_1 _) F.entry_dict_init (kt_code_dict_new _ ⟨rfl,rfl⟩) ?_;rintro obj s₁ ⟨rfl,rfl⟩;have anew:(s.heap.push { cls:=.type "dict",data:=.dict #[] }).DictOf knd s.heap.objs.size []:=Heap.DictOf.new s.heap;have lt:∀ {c:Addr} {o:Obj},s.heap.get? c=some o->c≠s.heap.objs.size:=fun e=>Lz (Li e);have gz1:IsZip (s.heap.push { cls:=.type "dict",data:=.dict #[] }) z TI TO .none:=La _ gz;have nz:=lt gz;have nI:=lt Z.ins;have nO:TO≠s.heap.objs.size:=let ⟨_,e⟩:=gO;lt e;have n1:i1≠s.heap.objs.size:=let ⟨_,e,_⟩:=Z.it1;lt e;have n2:i2≠s.heap.objs.size:=let ⟨_,e,_⟩:=Z.it2;lt e;have n3:l1≠s.heap.objs.size:=let ⟨_,e,_⟩:=Z.ls1;lt e;have n4:l2≠s.heap.objs.size:=let ⟨_,e,_⟩:=Z.ls2;lt e;refine ⟨anew.typeIs,F.args_dict_init_2 _ _,?_⟩;unfold Qv.«dict.__init__»;refine K9 ?_;unfold Builtin.Dict.selfAndRest;refine K9 (wpAny_notOrdered_dict anew.typeIs ?_);show wpAny _ _ (pure (s.heap.objs.size,[LF z])) _ _ _;refine LI ?_;show wpAny _ _ (Pd "dict.__init__" s.heap.objs.size (.ref z) [] .none) _ _ _;unfold Pd;refine K9 (wpAny_typeOf (T:="zip") ⟨_,gz1,rfl⟩ ?_);rw [if_pos (by decide)]
 refine K9 (A5 gz1 (by simpa using hh) fun h1 t1 k1=>?_)
 rw [if_pos (show (none:Option Value).isNone=true from rfl)];refine K9 (wpAny_rule ?_);refine K9 (Pk (k1 _ _ gz1) ?_);have up:∀ c o,s.heap.get? c=some o->h1.get? c=some o:=fun c o e=>k1 c o (La _ e);have anew1:h1.DictOf knd s.heap.objs.size []:=by
  obtain ⟨o,es,ep,ho,rest⟩:=anew;exact ⟨o,es,ep,k1 _ _ ho,rest⟩
 have Z1:kA h1 z TI TO i1 i2 l1 l2 0 xs ys:=Z.keep nz nI nO n1 n2 n3 n4 (fun c o _ e=>up c o e) (let ⟨o,_,_,ho,_⟩:=anew1;⟨o,ho⟩);refine LI ⟨plainId_quiet oh _,HC (by simpa using hh) D nz nI nO n1 n2 n3 n4 hl hz hkv kvs.length 0 0 _ rfl (Mb _) Z1 anew1 fun h' t' hd' hk'=>?_⟩
 rw [merged_nil_of_nodup kvs nd] at hd';exact ⟨rfl,h h' t' hd' fun c o c1 c2 c3 c4 e=>hk' c o (lt e) c1 c2 c3 c4 (up c o e)⟩
end
end PySem
namespace L2
open PySem PySem.Spec PyProof.Rows
def DL:∀ {ks:List Key} {ys:List V} {us:List Value},Vals ys us->KV (ks.zip ys) (ks.zip us)
 | [],_,_,_=>by
  rw [List.zip_nil_left,List.zip_nil_left];exact Paired.nil
 | _ :: _,_,_,.nil=>Paired.nil
 | _ :: _,_,_,.cons r rr=>Paired.cons ⟨rfl,r⟩ (DL rr)
def An (K:KW) (vs:List V) (H:Hp) (Q:VK):Prop:=∃ (a b:Addr) (ks:List Key) (ys:List V),vs=[.ref a,.ref b]/\SqL K H a (ks.map kV)/\SqL K H b ys/\ks.length=ys.length/\ks.Nodup/\∀ d,H d=none->Q (.ref d) (upd H d (.dK (ks.zip ys)))
def Aj (K:KW) (ta:TA):TE:=fun σ H Q=>ta σ H fun vs H1=>An K vs H1 Q
def Ds {K:KW} {ta:TA} {σ:St} {H:Hp} {Q:VK} (h:ta σ H fun vs H1=>An K vs H1 Q):Aj K ta σ H Q:=h
def Cn {X:Cx} (K:KW) (hK:X.K=K) (hc:X.calm=true) {a b:Expr} {ta:TA} {p p2 pos pos2:Pos} (hg1:Gl X "dict") (hm1:X.mg "dict" = none) (hg2:Gl X "zip") (hm2:X.mg "zip" = none) (ha:PA X [a,b] ta) (hn:isStar a=false:=by rfl) (hn2:isStar b=false:=by rfl) :
  PE X (.Call (.Name "dict" p) [.Call (.Name "zip" p2) [a,b] [] pos2] [] pos) (Aj K ta):=by
 subst hK;intro pins s σ H Q I h;refine Call_ (jz I hg1 hm1 PyProof.Rows.boot_dict (Ml ?_ (bD rfl) (cD rfl)));rw [bD rfl];show wpAny _ _ (spliced ((false,eval (.Call (.Name "zip" p2) [a,b] [] pos2) X.env) :: backTo pos (LV [] X.env))) _ _ s;refine Calls.spliced_cons ?_;refine Call_ (jz I hg2 hm2 boot_zip (Ml (thn (ha pos2 pins s σ H _ I h) fun us s1 ⟨vs,H1,I1,r1,q1⟩=>?_) (bD hn) (cD (by simp [hn2]))))
 obtain ⟨l,l',ks,ys,e,hS,hS2,hlen,hnd,q⟩:=q1;subst e;cases r1 with
 | cons r rr =>
  cases rr with
  | cons r2 rr2 =>
   cases rr2;cases (show _=LF l from r);cases (show _=LF l' from r2);obtain ⟨its,rv,pl,hz1⟩:=I1.list hS;obtain ⟨its2,rv2,pl2,hz2⟩:=I1.list hS2;have e1:=rv.length;have e2:=rv2.length;rw [KY] at e1 hz1;have zl:(ks.zip its2).length=ks.length:=by rw [PR];lia
   have zv:(ks.zip ys).length=ks.length:=by rw [PR];lia
   have lt1:l<s1.heap.objs.size:=by obtain ⟨_,z,_⟩:=pl.isList;exact Li z
   have lt2:l' < s1.heap.objs.size:=by obtain ⟨_,z,_⟩:=pl2.isList;exact Li z
   refine call_zip_2 pl.isList pl2.isList fun h' gz gI gO g1 g2 gs hk=>?_;refine Calls.spliced_nil ?_;refine xD (knd:=c5 X.prog X.w) (kvs:=ks.zip its2) (s:={ s1 with heap:=h' }) (I.ok.hd hc) (w5 _ _ _ lt1 lt2) gz ⟨.inl ⟨gz,_,_,gO⟩,gI,g1,g2,pl.isList.at fun o e=>hk _ o e,pl2.isList.at fun o e=>hk _ o e⟩ (by rw [zl];simpa using e1) (by rw [zl];exact hz1) (fun i k v e=>?_) ?_ ⟨_,gO⟩ fun h2 t2 hd hk2=>?_
   ·obtain ⟨z1,z2⟩:=List.getElem?_zip_eq_some.mp e;obtain ⟨u,hu,ru⟩:=rv.get (show (ks.map kV)[i]?=some (kV k) by rw [K4,z1];rfl)
    exact ⟨u,by simpa using hu,qh ru,by simpa using z2⟩
   ·rw [List.map_fst_zip (by lia)]
    exact hnd
   ·have gs':h'.objs.size=s1.heap.objs.size+5:=gs;have hp:s1.heap.objs.size<=h'.objs.size:=by rw [gs'];exact Oh _ _
    refine ⟨.ref h'.objs.size,upd H1 h'.objs.size (.dK (ks.zip ys)),I1.laid (a:=h'.objs.size) (o:=.dK (ks.zip ys)) (fun b o e=>?_) hp (AA (by rw [zv];exact hz1) (beq_eq_false_iff_ne.mpr (MX (Lz (Lm I1.big hp)))) (DL rv2) hd),rfl,q _ (I1.hok.fresh hp)⟩
    have lb:=Li e;exact hk2 b o (Lz (Lm lb (Oh _ _))) (Lz (Lm lb (Oh _ _))) (Lz lb) (Lz (Lm lb (Oh _ _))) (hk b o e)
def dH (R M:List Nat):List (Key×V):=(R.map nk).zip (aA M)
def kR:∀ {F M:List Nat} {j f c:Nat},F.Nodup->F[j]?=some f->M[j]?=some c->cM (dH F M) (nk f)=some (.int (c:Int))
 | [],_,_,_,_,_,h,_=>by simp at h
 | _ :: _,[],_,_,_,_,_,h=>by simp at h
 | a :: F,q :: M,0,f,c,_,h1,h2=>by
  cases h1;cases h2;exact dM rfl
 | a :: F,q :: M,j+1,f,c,nd,h1,h2=>by
  have h1':F[j]?=some f:=h1;have h2':M[j]?=some c:=h2;obtain ⟨n1,n2⟩:=L9.mp nd;have h3:¬ nk a=nk f:=fun z=>n1 (by rw [tp z];exact K1 h1')
  show cM ((nk a,V.int (q:Int)) :: dH F M) (nk f)=_;rw [da h3];exact kR n2 h1' h2'
def Ak:∀ {R:List Nat},R.Nodup->(R.map nk).Nodup
 | [],_=>Qa
 | a :: R,h=>by
  obtain ⟨h1,h2⟩:=L9.mp h;refine L9.mpr ⟨fun z=>?_,Ak h2⟩;obtain ⟨b,hb,e⟩:=Lc.mp z;exact h1 (by rw [<- tp e];exact hb)
def Im (R:List Nat):(R.map nk).map kV=aA R:=by
 unfold aA;rw [MN];rfl
def Kz {K:KW} {H:Hp} {Q:VK} {x y:V} {R M:List Nat} (hR:At K H x R) (hM:At K H y M) (e:R.length=M.length) (nd:R.Nodup) (q:∀ d,H d=none->Q (.ref d) (upd H d (.dK (dH R M)))):An K [x,y] H Q:=by
 obtain ⟨p,rfl,h1⟩:=gU hR;obtain ⟨p2,rfl,h2⟩:=gU hM;exact ⟨p,p2,R.map nk,aA M,rfl,by rw [Im];exact h1,h2,by unfold aA;rw [KY,KY];exact e,Ak nd,q⟩
def Du (Cs:Addr->Prop) (m:Str) (sp:Sp) (ta:TE) (t:TA):TE:=fun σ H Q=>ta σ H fun x H1=>∃ C a dx fs,Cs C/\x=.ref a/\H1 a=some (.ins C dx fs)/\fs.lookup m=none/\t σ H1 fun vs H2=>sp (x :: (vs++[])) H2 Q E0
section
variable {X:Cx} {k:Nat} {f:Addr} {Cs:Addr->Prop} {fd:LZ} {ps:List Str} {sp:Sp} {m:Str} {pos apos:Pos} {e o:Expr} {es:List Expr} {ta:TE} {t:TA}
def dJ {pl:Sem Bool} (he:PE X o ta) (c:∀ C,Cs C->Cls X.K C/\Meth X.K C m f) (F:aJ X.prog X.w X.K X.mg X.base CX0 k f fd ps sp) (hr:b6 k X.A) (hb:Binds X.K fd ps []) (ha:PA X (e :: es) t)
  (hn:isStar e=false:=by rfl) (hall:es.all (fun e=>!isStar e)=true:=by rfl)
  (ht:eval (.Call (.Attribute o m apos) (e :: es) [] pos) X.env=(do
   let ov <- eval o X.env
   standAt apos.atName
   let (f,first) <- holding [ov] (getMethod ov m pl)
   callWith pos f first (backTo pos (LV (e :: es) X.env)) (backToKw pos (keywordEach [] X.env))):=by rfl) :
  PE X (.Call (.Attribute o m apos) (e :: es) [] pos) (Du Cs m sp ta t):=by
 intro pins s σ H Q I h;refine PQ (pl:=pl) (thn (he pins s σ H _ I h) fun u s1 ⟨x,H1,I1,rx,C,a,dx,fs,hC,ex,ea,l,q⟩=>?_) ht;subst ex;obtain rfl:u=LF a:=rx;refine C7 I1 ea (c C hC).1 (c C hC).2 l ?_;refine Nw (first:=[.ref a]) (h₀:=X.base) I.ok.mod.kin (c C hC).2.kp (thn (ha pos pins s1 σ H1 _ I1 q) fun us s2 ⟨vs,H2,I2,r,q2⟩=>⟨I2.kIn,?_⟩) (bD hn) (cD hall);exact Aw (us:=.ref a :: us) (vs:=.ref a :: vs) F hr hb .nil l6 I2 (.cons rfl r) q2
end
def ee {σ:St} {H:Hp} {Q:VK} {Cs:Addr->Prop} {m:Str} {sp:Sp} {ta:TE} {t:TA} (h:ta σ H fun x H1=>∃ C a dx fs,Cs C/\x=.ref a/\H1 a=some (.ins C dx fs)/\fs.lookup m=none/\t σ H1 fun vs H2=>sp (x :: (vs++[])) H2 Q E0):Du Cs m sp ta t σ H Q:=h
def G8 (K:KW) (B:Addr) (tb:TXs) (ts:TS):TS:=fun D σ H=>tb D (fun σ' H' C _=>Nd K (.ref C) (.ref B)=some true/\ts D σ' H') σ H
section
variable {X:Cx}
def Bj {body:List Stmt} {b₀:Stmt} {su:List Stmt} {cn:Str} {np hp pos:Pos} {B:Addr} {tb:TXs} {ts:TS} (hex:X.ex=[]) (hb:PSx X body tb) (hs:∀ e,PSs (X.me e) (b₀ :: su) ts)
  (hg:Gl X cn) (hm:X.mg cn=some (.ref B)) (hst:X.stack=X.env :: X.outer) (hfr:X.env.frame=some X.env.locals)
  (hdb:(cn == ("__debug__" : Str))=false:=by decide) :
  PS X (.Try body [.ExceptHandler (some (.Name cn np)) none (b₀ :: su) hp] [] [] pos) (G8 X.K B tb ts):=by
 intro pins s σ H D I h;have hb':PSx X body (fun D Ex σ H=>tb D (fun σ' H' C _=>Nd X.K (.ref C) (.ref B)=some true/\ts D σ' H') σ H/\∀ σ' H' C d,(Nd X.K (.ref C) (.ref B)=some true/\ts D σ' H')->Ex σ' H' C d):=fun pins s σ H D Ex I z =>
  Mj (hb pins s σ H D _ I z.1) (fun _ _ y=>y) fun e s1 ⟨x,T,C,d,σ',H',e1,e2,e3,e4⟩=>⟨x,T,C,d,σ',H',e1,e2,e3,z.2 _ _ _ _ e4⟩
 exact Il hex hb' (Ki hex hs JY hg hm hdb) hst hfr pins s σ H D I ⟨h,fun _ _ _ _ z=>.inl z⟩
end
def EO {K:KW} {B:Addr} {tb:TXs} {ts:TS} {D:Ends} {σ:St} {H:Hp} (h:tb D (fun σ' H' C _=>Nd K (.ref C) (.ref B)=some true/\ts D σ' H') σ H):G8 K B tb ts D σ H:=h
def G3 {H:Hp} {Q:VK} {a b:Bool} (h:Q (.bl (!decide (a=b))) H):rNe (.bl a) (.bl b) H Q:=⟨rfl,by
 have e:decide (V.bl a=V.bl b)=decide (a=b):=decide_eq_decide.mpr ⟨fun z=>by injection z,fun z=>by rw [z]⟩
 rw [e];exact h⟩
end L2
namespace L2
open PySem
structure Good (led:Bool) (es:Array (Int×Value)) (t:P2) (ks:List Nat):Prop where
 plain:t.plain=true
 led:t.led=led
 dum:t.dummies=#[]
 size:t.place.size=es.size
 rise:t.place.toList.Pairwise (· < ·)
 keys:es.toList.map (·.1)=ks.map fun (k:Nat)=>(k:Int)
 nd:ks.Nodup
 lt:∀ k∈ks,k<23
 st:(t.mask=7/\es.size<=4/\∀ j∈t.place.toList,j<8)\/((t.mask=31/\es.size<=18\/t.mask=127)/\t.place.toList=ks)
def Good.len {led:Bool} {es:Array (Int×Value)} {t:P2} {ks:List Nat} (g:Good led es t ks):es.size=ks.length:=by
 have:=congrArg QI g.keys;rw [KY,KY,Oq] at this;exact this
end L2
namespace L2
open PySem PySem.Spec PyProof.Rows
def FQ (w:World):Bool:=w.params.followText "set-order"
def Nums (es:Array (Int×Value)):Prop:=∀ e∈es.toList,∃ (k:Nat) (tk:Tok),k<23/\e=((k:Int),NU (k:Int) tk)
def sj (h:Heap) (a:Addr) (led:Bool) (ks:List Nat):Prop:=∃ o es ep t,h.get? a=some o/\o.ExactSet/\o.data=.set es ep t/\Nums es/\Good led es t ks
section
variable {prog:Lp} {w:World} {A:LW} {E:Value->K5->Prop} {s:K5}
end
def xq (h:Heap) (it a:Addr) (slot i n ep:Nat):Prop:=h.get? it=some { cls:=.type "set_iterator",dict:=none,data:=.fields #[.int slot 0,.int i 0,.ref a,.int n 0,.int ep 0],slots:=#[] }
def BY (h:Heap) (a:Addr) (es:Array (Int×Value)) (ep:Nat) (t:P2):Prop:=∃ o,h.get? a=some o/\o.ExactSet/\o.data=.set es ep t
def slotAt (t:P2) (i:Nat):Nat:=if i=0 then 0 else t.place.getD (i - 1) 0+1
section
variable {prog:Lp} {w:World} {A:LW} {E:Value->K5->Prop} {s:K5}
end
def Ct (w:World) (h:Heap) (it a:Addr) (t:P2) (i n ep:Nat):Prop:=xq h it a (slotAt t i) i n ep\/(FQ w=true/\∃ sl,xq h it a sl i n ep)
section
variable {prog:Lp} {w:World} {A:LW} {E:Value->K5->Prop} {s:K5}
def Ct.keep {h h':Heap} {it a:Addr} {t:P2} {i n ep:Nat} (x:Ct w h it a t i n ep) (k:∀ o,h.get? it=some o->h'.get? it=some o):Ct w h' it a t i n ep:=by
 rcases x with z|⟨c,sl,z⟩
 ·exact .inl (k _ z)
 ·exact .inr ⟨c,sl,k _ z⟩
def BY.keep {h h':Heap} {a:Addr} {es:Array (Int×Value)} {ep:Nat} {t:P2} (x:BY h a es ep t) (k:∀ o,h.get? a=some o->h'.get? a=some o):BY h' a es ep t:=let ⟨o,ho,r⟩:=x;⟨o,k _ ho,r⟩
end
def sj.there {h:Heap} {a:Addr} {led:Bool} {ks:List Nat} (x:sj h a led ks):∃ o,h.get? a=some o:=let ⟨o,_,_,_,ho,_⟩:=x;⟨o,ho⟩
def sj.nd {h:Heap} {a:Addr} {led:Bool} {ks:List Nat} (x:sj h a led ks):ks.Nodup/\∀ k∈ks,k<23:=let ⟨_,_,_,_,_,_,_,_,g⟩:=x;⟨g.nd,g.lt⟩
def sj.keep {h h':Heap} {a:Addr} {led:Bool} {ks:List Nat} (x:sj h a led ks) (k:∀ o,h.get? a=some o->h'.get? a=some o):sj h' a led ks:=let ⟨o,es,ep,t,ho,r⟩:=x;⟨o,es,ep,t,k _ ho,r⟩
section
variable {H:Hp} {Q:VK} {K:KW} {v:V} {w:World}
end
section
variable {X:Cx} {elt tg iter:Expr} {ifs:List Expr} {scope:Scope} {pos:Pos} {own:List Str} {fr:List Nat} {wi:TI} {g:TG} {tt:TT} {te:TE}
end
section
variable {prog:Lp} {w:World} {A:LW} {K:KW} {C f:Addr} {R:Qo->K5->Prop} {h:Heap} {g:Array OB} {d:Drawn} {t:Nat} {os:OsState}
end
section
variable {prog:Lp} {w:World} {A:LW} {E:Value->K5->Prop} {s:K5} {K:KW} {C x f:Addr} {name:Str} {v:Value}
end
def KO (dx:Addr) (fs:List (Str×V)) (h:Heap):Prop:=∃ mA,h.Ns1 dx mA/\∀ f,eQ (fs.lookup f) (mA f)
abbrev xdO (dx:Addr) (fs:List (Str×V)):HO:=.ext (KO dx fs)
section
variable {X:Cx} {pins:List (Addr×Obj)} {σ:St} {H:Hp} {s:K5} {a C i dx:Addr} {fs:List (Str×V)} {f:Str} {y:V} {u:Value} {A:LW} {E:Value->K5->Prop}
end
section
variable {prog:Lp} {w:World} {A:LW} {E:Value->K5->Prop} {s:K5} {env:Env} {C:Addr} {Q:Flow->K5->Prop}
end
section
variable {X:Cx} {pins:List (Addr×Obj)} {σ:St} {H:Hp} {s:K5} {E:XK} {C:Addr}
end
section
open PySem.Calls PySem.Builtin PySem.Builtin.ObjectAttr
variable {prog:Lp} {w:World} {A:LW} {E:Value->K5->Prop} {K:KW} {x C dx:Addr} {di:Option Addr} {h:Heap} {g:Array OB} {d:Drawn} {t:Nat} {os:OsState} {name:Str} {v:Value} {mA:Str->Option Value}
end
section
variable {K:KW} {σ:St} {H:Hp} {Q:VK} {D:Ends} {ta tv:TE} {tA:TA} {f:Str} {E:XK} {C:Addr} {sp:Sp}
end
def Fld (H:Hp) (d:Option Addr) (l:List (Str×V)):Prop:=∃ dx fs,d=some dx/\H dx=some (xdO dx fs)/\∀ p∈l,fs.lookup p.1=some p.2
def Fld.mono {H H':Hp} {d:Option Addr} {l:List (Str×V)} (s:ai H H'):Fld H d l->Fld H' d l
 | ⟨dx,fs,e,h,k⟩=>⟨dx,fs,e,s _ _ h,k⟩
section
variable {P:Lp} {w:World} {K:KW} {mg:Str->Option Value} {base:Heap} {x qual:Str} {st:Stmt} {f:Addr} {fd:LZ} {N ps:List Str} {k:Nat} {sp:Sp}
end
section
variable {X:Cx} {x y:Str} {st:Stmt} {ps:List Str} {k j:Nat} {sp:Sp} {p pos:Pos} {e:Expr} {es:List Expr} {t:TA} {E:XK}
end
section
variable {prog:Lp} {w:World} {A:LW} {R:Qo->K5->Prop} {s:K5}
end
section
variable {X:Cx} {scope:Scope} {own:List Str} {fr fp:List Addr} {C:Addr} {s₂:K5} {H₂:Hp} {E:XK} {pins:List (Addr×Obj)} {σ:St}
end
section
variable {X:Cx} {elt tg iter:Expr} {ifs:List Expr} {scope:Scope} {pos:Pos} {own:List Str} {fr:List Nat} {wi:TI} {g:TG} {tt:TT} {te:TE}
end
end L2
namespace L2
open PySem PySem.W PyProof.Rows
section
variable {lt:Nat->Nat->Bool}
def ze (lt:Nat->Nat->Bool) (p:Array Nat) (n q:Nat):Prop:=q<n/\∀ i j,n - (q+1)<=i->i<n->n - (q+1)<=j->j<n->lt (p.getD i 0) (p.getD j 0)=false
end
end L2
namespace L2
open PySem PySem.W PyProof.Rows PySem.SeqAt
open AutoSeq1 (wpAny_loadPart')
open MeetsSeq MeetsSeq2 MeetsSeq3
section
variable {prog:Lp} {w:World} {A:LW} {E:Value->K5->Prop} {s:K5}
end
end L2
namespace L2
open PySem PySem.W PySem.Spec PyProof.Rows
section
variable {n:Nat}
end
section
variable {prog:Lp} {w:World} {A:LW} {E:Value->K5->Prop} {s:K5}
end
end L2
namespace L2
open PySem PySem.W PySem.Spec PyProof.Rows
def Rows (H H':Hp) (d:Addr) (L:List (List Nat)):Prop:=H d=none/\∃ ps:List Addr,H' d=some (.lst (ps.map V.ref))/\MB (fun p r=>H p=none/\p≠d/\H' p=some (.lst (aA r))) ps L
def Rows.since {H0 H H':Hp} {d:Addr} {L:List (List Nat)} (s:ai H0 H) (h:Rows H H' d L):Rows H0 H' d L:=by
 obtain ⟨h1,ps,h2,h3⟩:=h;exact ⟨s.free h1,ps,h2,Paired.dD h3 fun _ _ z=>⟨s.free z.1,z.2⟩⟩
def Rows.mono {H H' H'':Hp} {d:Addr} {L:List (List Nat)} (s:ai H' H'') (h:Rows H H' d L):Rows H H'' d L:=by
 obtain ⟨h1,ps,h2,h3⟩:=h;exact ⟨h1,ps,s _ _ h2,Paired.dD h3 fun _ _ z=>⟨z.1,z.2.1,s _ _ z.2.2⟩⟩
def rp {α β γ:Type} {F:α->γ->Prop} {G:β->γ->Prop} {f:β->α} (h:∀ b c,G b c->F (f b) c):∀ {l:List β} {m:List γ},MB G l m->MB F (l.map f) m
 | _,_,.nil=>.nil
 | _,_,.cons r t=>.cons (h _ _ r) (rp h t)
def Rows.at {K:KW} {H H':Hp} {d:Addr} {L:List (List Nat)} (h:Rows H H' d L):At K H' (.ref d) L:=by
 obtain ⟨h1,ps,h2,h3⟩:=h;exact ⟨d,_,rfl,SqL.of h2,rp (fun p r z=>⟨p,_,rfl,SqL.of z.2.2,i7⟩) h3⟩
def Rows.nil {H H':Hp} {d:Addr} (hd:H d=none) (h:H' d=some (.lst [])):Rows H H' d []:=⟨hd,[],h,.nil⟩
end L2
namespace L2
open PySem PySem.W PySem.Spec PyProof.Rows
section
variable {prog:Lp} {w:World} {A:LW} {E:Value->K5->Prop} {s:K5}
end
end L2
namespace L2
open PySem PySem.Spec PyProof.Rows
section
variable {K:KW} {h:Heap} {mg:Str->Option Value} {f:Addr} {od an:Option Addr} {sl:Array (Option Value)} {oc kV dc pm cd ct:Value} {x:Str} {st:Stmt} {fd:LZ}
def bd1 {p1:Str} (hb:∀ u1:Value,bindArgs fd ⟨[u1],[]⟩=pure [(p1,u1)]:=by intros;rfl):Binds K fd [p1] []:=.all fun us hl=>by obtain ⟨u1,rfl⟩:=JO hl;exact hb _
def df1 {p1:Str} (X:K.In h) (G:h.Ns L1 mg) (a:ND K L1 x=some (some (.ref f)):=by k_is) (l:K.lookup f=some ⟨oc,od,.func (LU x x (bO st) (bw st) (ah st) .none kV dc pm an cd ct),sl⟩:=by k_is) (c:Mm K cd x=true:=by k_is) (k:L0 K (.ref f)=true:=by k_is)
  (hb:∀ u1:Value,bindArgs (LU x x (bO st) (bw st) (ah st) .none kV dc pm an cd ct) ⟨[u1],[]⟩=pure [(p1,u1)]:=by intros;rfl):Df K mg x st [p1]:=⟨f,_,mS l c k,bd1 hb,NM X G a⟩
def bd2 {p1 p2:Str} (hb:∀ u1 u2:Value,bindArgs fd ⟨[u1,u2],[]⟩=pure [(p1,u1),(p2,u2)]:=by intros;rfl):Binds K fd [p1,p2] []:=.all fun us hl=>by obtain ⟨u1,u2,rfl⟩:=J0 hl;exact hb _ _
def df2 {p1 p2:Str} (X:K.In h) (G:h.Ns L1 mg) (a:ND K L1 x=some (some (.ref f)):=by k_is) (l:K.lookup f=some ⟨oc,od,.func (LU x x (bO st) (bw st) (ah st) .none kV dc pm an cd ct),sl⟩:=by k_is) (c:Mm K cd x=true:=by k_is) (k:L0 K (.ref f)=true:=by k_is)
  (hb:∀ u1 u2:Value,bindArgs (LU x x (bO st) (bw st) (ah st) .none kV dc pm an cd ct) ⟨[u1,u2],[]⟩=pure [(p1,u1),(p2,u2)]:=by intros;rfl):Df K mg x st [p1,p2]:=⟨f,_,mS l c k,bd2 hb,NM X G a⟩
def bd3 {p1 p2 p3:Str} (hb:∀ u1 u2 u3:Value,bindArgs fd ⟨[u1,u2,u3],[]⟩=pure [(p1,u1),(p2,u2),(p3,u3)]:=by intros;rfl):Binds K fd [p1,p2,p3] []:=.all fun us hl=>by obtain ⟨u1,u2,u3,rfl⟩:=Dh hl;exact hb _ _ _
def df3 {p1 p2 p3:Str} (X:K.In h) (G:h.Ns L1 mg) (a:ND K L1 x=some (some (.ref f)):=by k_is) (l:K.lookup f=some ⟨oc,od,.func (LU x x (bO st) (bw st) (ah st) .none kV dc pm an cd ct),sl⟩:=by k_is) (c:Mm K cd x=true:=by k_is) (k:L0 K (.ref f)=true:=by k_is)
  (hb:∀ u1 u2 u3:Value,bindArgs (LU x x (bO st) (bw st) (ah st) .none kV dc pm an cd ct) ⟨[u1,u2,u3],[]⟩=pure [(p1,u1),(p2,u2),(p3,u3)]:=by intros;rfl):Df K mg x st [p1,p2,p3]:=⟨f,_,mS l c k,bd3 hb,NM X G a⟩
def bd4 {p1 p2 p3 p4:Str} (hb:∀ u1 u2 u3 u4:Value,bindArgs fd ⟨[u1,u2,u3,u4],[]⟩=pure [(p1,u1),(p2,u2),(p3,u3),(p4,u4)]:=by intros;rfl):Binds K fd [p1,p2,p3,p4] []:=.all fun us hl=>by obtain ⟨u1,u2,u3,u4,rfl⟩:=lK hl;exact hb _ _ _ _
def df4 {p1 p2 p3 p4:Str} (X:K.In h) (G:h.Ns L1 mg) (a:ND K L1 x=some (some (.ref f)):=by k_is) (l:K.lookup f=some ⟨oc,od,.func (LU x x (bO st) (bw st) (ah st) .none kV dc pm an cd ct),sl⟩:=by k_is) (c:Mm K cd x=true:=by k_is) (k:L0 K (.ref f)=true:=by k_is)
  (hb:∀ u1 u2 u3 u4:Value,bindArgs (LU x x (bO st) (bw st) (ah st) .none kV dc pm an cd ct) ⟨[u1,u2,u3,u4],[]⟩=pure [(p1,u1),(p2,u2),(p3,u3),(p4,u4)]:=by intros;rfl):Df K mg x st [p1,p2,p3,p4]:=⟨f,_,mS l c k,bd4 hb,NM X G a⟩
def bd5 {p1 p2 p3 p4 p5:Str} (hb:∀ u1 u2 u3 u4 u5:Value,bindArgs fd ⟨[u1,u2,u3,u4,u5],[]⟩=pure [(p1,u1),(p2,u2),(p3,u3),(p4,u4),(p5,u5)]:=by intros;rfl):Binds K fd [p1,p2,p3,p4,p5] []:=.all fun us hl=>by obtain ⟨u1,u2,u3,u4,u5,rfl⟩:=Jj hl;exact hb _ _ _ _ _
def df5 {p1 p2 p3 p4 p5:Str} (X:K.In h) (G:h.Ns L1 mg) (a:ND K L1 x=some (some (.ref f)):=by k_is) (l:K.lookup f=some ⟨oc,od,.func (LU x x (bO st) (bw st) (ah st) .none kV dc pm an cd ct),sl⟩:=by k_is) (c:Mm K cd x=true:=by k_is) (k:L0 K (.ref f)=true:=by k_is)
  (hb:∀ u1 u2 u3 u4 u5:Value,bindArgs (LU x x (bO st) (bw st) (ah st) .none kV dc pm an cd ct) ⟨[u1,u2,u3,u4,u5],[]⟩=pure [(p1,u1),(p2,u2),(p3,u3),(p4,u4),(p5,u5)]:=by intros;rfl):Df K mg x st [p1,p2,p3,p4,p5]:=⟨f,_,mS l c k,bd5 hb,NM X G a⟩
end
section
variable {K:KW} {h:Heap} {mg:Str->Option Value} {f D:Addr} {od an dd:Option Addr} {sl dsl:Array (Option Value)} {oc kV dc pm cd ct dcl:Value} {x qual:Str} {st:Stmt} {fd:LZ} {n:Nat}
def ToD (x qual:Str) (st:Stmt) (args:Args) (bs:List (Str×Value)):Prop:=∀ (D:Addr) (kV doc pm:Value) (an:Option Addr) (cdv ct:Value),∃ k:Option (Array Value)->Sem (List (Str×Value)),bindArgs (LU x qual (bO st) (bw st) (ah st) (.ref D) kV doc pm an cdv ct) args=seqItems? (.ref D) >>= k/\k (some #[.none])=pure bs
def bc4 {p1 p2 p3 p4:Str} (F:jP K x qual st f fd) (hb:∀ u1 u2 u3 u4:Value,ToD x qual st ⟨[u1,u2,u3,u4],[]⟩ [(p1,u1),(p2,u2),(p3,u3),(p4,u4)]:=by intros;intro _ _ _ _ _ _ _;exact ⟨_,rfl,rfl⟩):Binds K fd [p1,p2,p3,p4] []:=fun s us KI hl=>by rw [NW] at hl ⊢;obtain ⟨u1,u2,u3,u4,rfl⟩:=lK hl;exact F.to KI (hb _ _ _ _)
def bn4 {p1 p2 p3 p4:Str} (F:jP K x qual st f fd) (hb:∀ u1 u2 u3:Value,ToD x qual st ⟨[u1,u2,u3],[]⟩ [(p1,u1),(p2,u2),(p3,u3),(p4,.none)]:=by intros;intro _ _ _ _ _ _ _;exact ⟨_,rfl,rfl⟩):Binds K fd [p1,p2,p3,p4] [.none]:=Cf rfl fun s us KI hl=>by obtain ⟨u1,u2,u3,rfl⟩:=Dh hl;exact F.to KI (hb _ _ _)
def bk4 {p1 p2 p3 p4:Str} (F:jP K x qual st f fd) (hb:∀ u1 u2 u3 u4:Value,ToD x qual st ⟨[u1,u2,u3],[(p4,u4)]⟩ [(p1,u1),(p2,u2),(p3,u3),(p4,u4)]:=by intros;intro _ _ _ _ _ _ _;exact ⟨_,rfl,rfl⟩):Au K fd [p1,p2,p3,p4] [p4] (byName 3) (byName 3):=Co rfl fun s us w KI hl=>by obtain ⟨u1,u2,u3,rfl⟩:=Dh hl;exact F.to KI (hb _ _ _ w)
def dd4 {p1 p2 p3 p4:Str} (X:K.In h) (G:h.Ns L1 mg) (a:ND K L1 x=some (some (.ref f)):=by k_is) (l:K.lookup f=some ⟨oc,od,.func (LU x x (bO st) (bw st) (ah st) (.ref D) kV dc pm an cd ct),sl⟩:=by k_is) (e:K.lookup D=some ⟨dcl,dd,.seq #[.none] n,dsl⟩:=by k_is) (c:Mm K cd x=true:=by k_is) (k:L0 K (.ref f)=true:=by k_is)
  (ha:∀ u1 u2 u3 u4:Value,ToD x x st ⟨[u1,u2,u3,u4],[]⟩ [(p1,u1),(p2,u2),(p3,u3),(p4,u4)]:=by intros;intro _ _ _ _ _ _ _;exact ⟨_,rfl,rfl⟩) (hb:∀ u1 u2 u3:Value,ToD x x st ⟨[u1,u2,u3],[]⟩ [(p1,u1),(p2,u2),(p3,u3),(p4,.none)]:=by intros;intro _ _ _ _ _ _ _;exact ⟨_,rfl,rfl⟩) (hc:∀ u1 u2 u3 u4:Value,ToD x x st ⟨[u1,u2,u3],[(p4,u4)]⟩ [(p1,u1),(p2,u2),(p3,u3),(p4,u4)]:=by intros;intro _ _ _ _ _ _ _;exact ⟨_,rfl,rfl⟩):DfD K mg x st [p1,p2,p3,p4] p4 3:=⟨f,_,mX l e c k,bc4 (mX l e c k) ha,bn4 (mX l e c k) hb,bk4 (mX l e c k) hc,NM X G a⟩
def bc5 {p1 p2 p3 p4 p5:Str} (F:jP K x qual st f fd) (hb:∀ u1 u2 u3 u4 u5:Value,ToD x qual st ⟨[u1,u2,u3,u4,u5],[]⟩ [(p1,u1),(p2,u2),(p3,u3),(p4,u4),(p5,u5)]:=by intros;intro _ _ _ _ _ _ _;exact ⟨_,rfl,rfl⟩):Binds K fd [p1,p2,p3,p4,p5] []:=fun s us KI hl=>by rw [NW] at hl ⊢;obtain ⟨u1,u2,u3,u4,u5,rfl⟩:=Jj hl;exact F.to KI (hb _ _ _ _ _)
end
section
variable {K:KW} {h:Heap} {mg:Str->Option Value} {f C D:Addr} {od an dd:Option Addr} {sl dsl:Array (Option Value)} {oc kV dc pm cd ct dcl:Value} {x qual:Str} {st:Stmt} {v:Value} {n:Nat}
def fnk (l:K.lookup f=some ⟨oc,od,.func (LU x qual (bO st) (bw st) (ah st) .none kV dc pm an cd ct),sl⟩:=by k_is) (c:Mm K cd qual=true:=by k_is) (k:L0 K (.ref f)=true:=by k_is) :
  Fun K x qual st f (LU x qual (bO st) (bw st) (ah st) .none kV dc pm an cd ct):=mS l c k
def fDk (l:K.lookup f=some ⟨oc,od,.func (LU x qual (bO st) (bw st) (ah st) (.ref D) kV dc pm an cd ct),sl⟩:=by k_is) (e:K.lookup D=some ⟨dcl,dd,.seq #[.none] n,dsl⟩:=by k_is) (c:Mm K cd qual=true:=by k_is) (k:L0 K (.ref f)=true:=by k_is) :
  jP K x qual st f (LU x qual (bO st) (bw st) (ah st) (.ref D) kV dc pm an cd ct):=mX l e c k
def mgk (X:K.In h) (G:h.Ns L1 mg) (a:ND K L1 x=some (some v):=by k_is):mg x=some v:=NM X G a
def mgz (X:K.In h) (G:h.Ns L1 mg) (a:ND K L1 x=some none:=by k_is):mg x=none:=PySem.W.mg_none_of X G a
def o8 (a:NP K C Str.empty=true:=by k_is) (b:N6 K C=true:=by k_is) (c:OQ K C=true:=by k_is) (d:Mg K (.ref C) "__setattr__" = some (some (.builtin "object.__setattr__")):=by k_is):Cls K C:=⟨a,b,c,d⟩
def mkk (a:Pw K C=true:=by k_is) (b:Mg K (.ref C) "__init__" = some (some (.ref f)):=by k_is) (c:OE K (.ref f)=true:=by k_is) (d:L0 K (.ref C)=true:=by k_is):Mk K C f:=⟨a,b,c,d⟩
def fC (a:Mg K (.ref C) x=some (some (.ref f)):=by k_is) (b:OE K (.ref f)=true:=by k_is) (c:L0 K (.ref f)=true:=by k_is):Meth K C x f:=⟨a,b,c⟩
def IK (a:OR K (.ref C) "__getattribute__" = some (some (.builtin "type.__getattribute__")):=by k_is) (b:PySem.W.readsIn K C (.type "type")=true:=by k_is) (c:PySem.W.findCls K (.ref C) (.type "type") x=some (.val (.ref f)):=by k_is) (d:L0 K (.ref f)=true:=by k_is):Ce K C x f:=⟨a,b,c,d⟩
def cy (a:Mg K (.ref C) x=some none:=by k_is):aY K C x:=a
def krf {α:Type} {a b:α} (e:a=b:=by kernel_rfl):a=b:=e
end
def fsc {N P:List Str} {sc:Scope} (h1:sc.kind=.function) (h2:sc.isCoroutine=false) (h3:sc.isGenerator=false) (h5:N.take P.length=P) (h:N.Nodup/\(∀ x∈P,sc.names.lookup x=some .local\/sc.names.lookup x=some .cell)/\∀ y∈sc.names,y.2≠.free):az N P sc:=⟨h1,h2,h3,h.1,h5,h.2.1,h.2.2⟩
def csc {sc:Scope} {N:List Str} {scope:Scope} {own:List Str} {fr:List Nat} (h1:scope.kind=.function) (h:(∀ y∈scope.names,y.2≠.cell)/\(∀ y∈scope.names,y.2=.local->scope.names.lookup y.1=some .local)/\(∀ y∈scope.names,y.2=.free->sc.names.lookup y.1=some .cell\/sc.names.lookup y.1=some .free)/\(∀ i∈fr,(N[i]?.bind fun x=>scope.names.lookup x)=some .free)/\(fF own fr N).Nodup):aU sc N scope own fr:=⟨h1,h.1,h.2.1,h.2.2.1,h.2.2.2.1,h.2.2.2.2⟩
def Jz {sc:Scope} {N:List Str} {scope:Scope} {own:List Str} {fr:List Nat} (h1:scope.kind=.function) (h:(∀ y∈scope.names,y.2=.cell->(y.1,Mq)∉scope.names)/\(∀ y∈scope.names,y.2=.local->scope.names.lookup y.1=some .local)/\(∀ y∈scope.names,y.2=.free->sc.names.lookup y.1=some .cell\/sc.names.lookup y.1=some .free)/\(∀ i∈fr,(N[i]?.bind fun x=>scope.names.lookup x)=some .free)/\(fF own fr N).Nodup):dZ sc N scope own fr:=⟨h1,h.1,h.2.1,h.2.2.1,h.2.2.2.1,h.2.2.2.2⟩
section
variable {X:Cx}
end
end L2
namespace L2
open PySem PySem.W PySem.Spec PyProof.Rows
section
variable {X:Cx} {x y:Str} {st:Stmt} {ps:List Str} {k j:Nat} {sp:Sp} {p pos:Pos} {e:Expr} {es:List Expr} {t:TA} {E:XK}
end
def bJ (l:List (Option V)) (i:Nat):Option V:=l.getD i none
end L2
set_option maxHeartbeats 4000000
namespace TB
open PySem L2
seal PE PA PS PSs PT PI PG PGs PO
local macro_rules | `(tactic| walk_at "rd1")=>`(tactic| with_reducible first
 | refine tF (fun _ _=>?_)|refine uB (by assumption) ?_|refine uD ?_|refine yk ?_|refine oX ?_|refine uo ?_|refine yf ?_|refine r_retN ?_|refine G7 ?_
 | refine r_C ?_|refine C8 ?_|refine r_un ?_|refine yA ?_|refine uv ?_|refine tQ ?_|refine ur ?_|refine CA ?_|refine C9 ?_
 | refine yw ?_|refine CO ?_|refine yD ?_|refine uH ?_|refine yt ?_|refine uM ?_|refine r_if ?_|refine yy ?_|refine uL ?_|refine Cp ?_|refine tO ?_|refine dY ?_|refine eE ?_
 | refine yE ?_|refine qD ?_|refine qr ?_|refine uN ?_|refine BU ?_|refine nS ?_|refine ug ?_|refine sZ ?_|refine Cv ?_|refine yh ?_|refine tD ?_|refine uc ?_|refine yz ?_|refine sU ?_|refine uk ?_|refine qx ?_
 | refine yq ?_|refine tZ ?_|refine nR ?_|refine tY ?_|(refine' yj ?e ?_;(case e=>with_unfolding_all exact rfl)))
local macro_rules | `(tactic| walk_at "rs1")=>`(tactic| with_reducible first
 | refine tF (fun _ _=>?_)|refine uB (by assumption) ?_|refine uD ?_|refine yk ?_|refine oX ?_|refine uo ?_|refine yf ?_|refine r_retN ?_
 | refine r_C ?_|refine C8 ?_|refine r_un ?_|refine yA ?_|refine uv ?_|refine tQ ?_|refine ur ?_|refine CA ?_|refine C9 ?_
 | refine yw ?_|refine CO ?_|refine yD ?_|refine uH ?_|refine yt ?_|refine uM ?_|refine r_if ?_|refine yy ?_|refine uL ?_|refine Cp ?_|refine tO ?_|refine dY ?_|refine eE ?_
 | refine yE ?_|refine qD ?_|refine qr ?_|refine uN ?_|refine BU ?_|refine nS ?_|refine ug ?_|refine sZ ?_|refine Cv ?_|refine yh ?_|refine tD ?_|refine uc ?_|refine yz ?_|refine sU ?_|refine uk ?_|refine qx ?_
 | refine yq ?_|refine tZ ?_|refine nR ?_|refine tY ?_|(refine' yj ?e ?_;(case e=>with_unfolding_all exact rfl)))
local macro_rules | `(tactic| walk_at "rs")=>`(tactic| repeat walk_at "rs1")
local macro_rules | `(tactic| walk_at "rd")=>`(tactic| repeat walk_at "rd1")
local macro_rules | `(tactic| walk_at "rw1")=>`(tactic| with_reducible first
 | refine tF (fun _ _=>?_)|refine uB (by assumption) ?_|refine uD ?_|refine yk ?_|refine oX ?_|refine uo ?_|refine yf ?_|refine r_retN ?_
 | refine r_C ?_|refine C8 ?_|refine r_un ?_|refine yA ?_|refine uv ?_|refine tQ ?_|refine ur ?_|refine CA ?_|refine C9 ?_
 | refine yw ?_|refine CO ?_|refine yD ?_|refine uH ?_|refine yt ?_|refine uM ?_|refine r_if ?_|refine yy ?_|refine uL ?_|refine Cp ?_|refine tO ?_
 | refine yE ?_|refine qD ?_|refine qr ?_|refine uN ?_|refine BU ?_|refine nS ?_|refine ug ?_|refine sZ ?_|refine Cv ?_|refine yh ?_|refine tD ?_|refine uc ?_|refine yz ?_|refine sU ?_|refine uk ?_|refine qx ?_
 | refine yq ?_|refine tZ ?_|refine nR ?_|refine tY ?_|(refine' yj ?e ?_;(case e=>with_unfolding_all exact rfl)))
local macro_rules | `(tactic| walk_at "rw")=>`(tactic| repeat walk_at "rw1")
local macro_rules | `(tactic| walk_at "wr")=>`(tactic| repeat (first|exact jC|refine uQ ?_ ?_|refine Dy ?_ (by decide)|exact DB rfl))
local macro_rules | `(tactic| walk_at "rn1")=>`(tactic| with_reducible first
 | refine tF (fun _ _=>?_)|refine uB (by assumption) ?_|refine uD ?_|refine yk ?_|refine oX ?_|refine uo ?_|refine yf ?_|refine r_retN ?_
 | refine KR ?_|refine r_C ?_|refine C8 ?_|refine r_un ?_|refine r_rU ?_|refine Jp ?_|refine Kw ?_|refine Kg ?_|refine Kj ?_|refine r_leN ?_|refine Kp ?_|refine Kx ?_
 | refine tJ (by first|assumption|omega) ?_|refine kP (by first|assumption|omega) (by first|assumption|omega) ?_|refine pW (by omega) ?_
 | refine yA ?_|refine uv ?_|refine tQ ?_|refine ur ?_|refine CA ?_|refine C9 ?_
 | refine yw ?_|refine CO ?_|refine yD ?_|refine uH ?_|refine yt ?_|refine uM ?_|refine r_if ?_|refine yy ?_|refine uL ?_|refine Cp ?_|refine tO ?_
 | refine yE ?_|refine qD ?_|refine qr ?_|refine uN ?_|refine BU ?_|refine nS ?_|refine ug ?_|refine sZ ?_|refine Cv ?_|refine r_bm0 ?_|refine yh ?_|refine tD ?_|refine uc ?_|refine yz ?_|refine sU ?_|refine uk ?_|refine qx ?_
 | refine yq ?_|refine tZ ?_|refine nR ?_|refine tY ?_|(refine' yj ?e ?_;(case e=>with_unfolding_all exact rfl)))
local macro_rules | `(tactic| walk_at "rx1")=>`(tactic| first|walk_at "rn1" | refine bh (by assumption) (by rfl) ?_|refine b8 (by assumption) ?_|refine JZ (by assumption) ?_|refine BJ (by assumption) ?_)
local macro_rules | `(tactic| walk_at "rx")=>`(tactic| repeat walk_at "rx1")
local macro_rules | `(tactic| walk_at "ifs")=>`(tactic| with_reducible refine G7 ?_)
local macro_rules | `(tactic| walk_at "rn")=>`(tactic| repeat walk_at "rn1")
local macro_rules | `(tactic| walk_at "1") => `(tactic| (walk_at "rn";walk_at "ifs";walk_at "rn"))
local macro_rules | `(tactic| walk_at "2") => `(tactic| (walk_at "rn";refine dY ?_;walk_at "rn"))
local macro_rules | `(tactic| walk_at "3") => `(tactic| (walk_at "rn";refine eE ?_;walk_at "rn"))
local macro_rules | `(tactic| walk_at "4") => `(tactic| (walk_at "rn";refine ee ?_;walk_at "rn"))
local macro_rules | `(tactic| walk_at "5") => `(tactic| (walk_at "rx";walk_at "ifs";walk_at "rx"))
local macro_rules | `(tactic| walk_at "6") => `(tactic| (walk_at "rn";refine bT (fun c=>absurd rfl c) (fun _=>?_);walk_at "rn"))
local macro_rules | `(tactic| walk_at "7") => `(tactic| (walk_at "rn";refine qj ?_;walk_at "rn"))
local macro_rules | `(tactic| walk_at "8") => `(tactic| (walk_at "rn";refine fJ ?_;walk_at "rn"))
local macro_rules | `(tactic| walk_at "9") => `(tactic| (refine fJ ?_;walk_at "rx"))
local macro_rules | `(tactic| left) => `(tactic| walk_at "rx")
local macro_rules | `(tactic| symm) => `(tactic| walk_at "rg")
local macro_rules | `(tactic| right) => `(tactic| walk_at "rd")
def top (i:Nat):Stmt:=PySem.Challenge.pw_tracebook_k48_whole_a_walk_of_ways.main.body.getD i (.Pass ⟨0,0,0,0⟩)
abbrev nM:Stmt:=top 17
abbrev pX:Stmt:=top 18
abbrev j7:Stmt:=top 19
abbrev wG:Stmt:=top 20
abbrev pK:Stmt:=top 21
abbrev nL:Stmt:=top 22
abbrev wB:Stmt:=top 23
abbrev lq:Stmt:=top 24
abbrev Bt:Stmt:=top 25
abbrev qu:Stmt:=top 26
abbrev pH:Stmt:=top 28
abbrev wc:Stmt:=top 29
abbrev lR:Stmt:=top 30
abbrev vc:Stmt:=top 31
abbrev kN:Stmt:=top 32
abbrev qm:Stmt:=top 33
abbrev pY:Stmt:=top 34
abbrev jR:Stmt:=top 35
abbrev vL:Stmt:=top 36
abbrev mQ:Stmt:=top 39
abbrev wX:Stmt:=top 41
abbrev jL:Stmt:=top 42
abbrev oF:Stmt:=top 43
abbrev rf:Stmt:=top 44
abbrev ou:Stmt:=top 47
abbrev m5:Stmt:=top 48
abbrev lF:Stmt:=top 51
abbrev sr:Stmt:=top 53
abbrev Ao:Stmt:=top 55
abbrev iT:Stmt:=top 57
abbrev nj:Stmt:=top 60
abbrev uF:Stmt:=top 62
abbrev rg:Stmt:=top 63
abbrev sX:Stmt:=top 64
abbrev tU:Stmt:=top 65
abbrev oZ:Stmt:=top 66
abbrev wU:Stmt:=top 67
abbrev nU:Stmt:=top 68
abbrev rH:Stmt:=top 69
abbrev je:Stmt:=top 70
abbrev rG:Stmt:=top 71
abbrev o5:Stmt:=top 72
abbrev mI:Stmt:=top 73
abbrev rE:Stmt:=top 74
abbrev jt:Stmt:=top 75
abbrev rD:Stmt:=top 76
abbrev kZ:Stmt:=top 77
abbrev nv:Stmt:=top 78
abbrev mG:Stmt:=top 79
abbrev i4:Stmt:=top 80
abbrev kW:Stmt:=top 81
abbrev kI:Stmt:=top 82
abbrev gM:Stmt:=top 83
abbrev wK:Stmt:=top 84
abbrev mK:Stmt:=top 85
abbrev pF:Stmt:=top 86
abbrev kf:Stmt:=top 87
abbrev dQ:Stmt:=top 88
abbrev uw:Stmt:=top 89
abbrev Ck:Stmt:=top 90
abbrev pz:Stmt:=inClass (top 16) 0
abbrev sW:Stmt:=inClass (top 49) 0
abbrev qW:Stmt:=inClass (top 49) 1
abbrev qX:Stmt:=inClass (top 49) 2
abbrev jK:Stmt:=inClass (top 50) 0
abbrev j6:Stmt:=inClass (top 52) 0
abbrev i6:Stmt:=inClass (top 54) 0
abbrev jI:Stmt:=inClass (top 56) 0
abbrev jN:Stmt:=inClass (top 58) 0
abbrev jO:Stmt:=inClass (top 59) 0
def jq:az ["table","rows","unit","backs"] ["table"] (ah nM):=fsc rfl rfl rfl rfl (by trivial)
def jJ:az ["rows","many","row"] ["rows"] (ah pX):=fsc rfl rfl rfl rfl (by trivial)
def eA:az ["rows","many","row","column"] ["rows"] (ah j7):=fsc rfl rfl rfl rfl (by trivial)
def uO:az ["rows","thing"] ["rows"] (ah wG):=fsc rfl rfl rfl rfl (by trivial)
def oE:az ["rows","thing","other"] ["rows","thing"] (ah pK):=fsc rfl rfl rfl rfl (by trivial)
def AZ:az ["rows","unit"] ["rows","unit"] (ah nL):=fsc rfl rfl rfl rfl (by trivial)
def tM:az ["rows","unit","thing","other"] ["rows","unit","thing"] (ah wB):=fsc rfl rfl rfl rfl (by trivial)
def dN:az ["rows","many","one","two","three"] ["rows"] (ah lq):=fsc rfl rfl rfl rfl (by trivial)
def lp:az ["group","thing","many","reached"] ["group","thing"] (ah Bt):=fsc rfl rfl rfl rfl (by trivial)
def nY:az ["group","orders","many"] ["group"] (ah qu):=fsc rfl rfl rfl rfl (by trivial)
def xu:az ["group","some"] ["group","some"] (ah pH):=fsc rfl rfl rfl rfl (by trivial)
def CD:az ["group","some"] ["group","some"] (ah wc):=fsc rfl rfl rfl rfl (by trivial)
def xP:az ["group","some"] ["group","some"] (ah lR):=fsc rfl rfl rfl rfl (by trivial)
def Gx:az ["some"] ["some"] (ah vc):=fsc rfl rfl rfl rfl (by trivial)
def gw:az ["group","some","one","other"] ["group","some"] (ah kN):=fsc rfl rfl rfl rfl (by trivial)
def zk:az ["group","part","by_thing"] ["group","part"] (ah qm):=fsc rfl rfl rfl rfl (by trivial)
def Cw:az ["group","part","thing"] ["group","part","thing"] (ah pY):=fsc rfl rfl rfl rfl (by trivial)
def vD:az ["group","part"] ["group","part"] (ah jR):=fsc rfl rfl rfl rfl (by trivial)
def Fu:az ["group","part"] ["group","part"] (ah vL):=fsc rfl rfl rfl rfl (by trivial)
def sO:az ["many"] ["many"] (ah mQ):=fsc rfl rfl rfl rfl (by trivial)
def tX:az ["group","spokes","least"] ["group","spokes"] (ah wX):=fsc rfl rfl rfl rfl (by trivial)
def u7:az ["part","marks","spokes"] ["part","marks","spokes"] (ah jL):=fsc rfl rfl rfl rfl (by trivial)
def eK:az ["group","part","marks","spokes","many","mark","one","other"] ["group","part","marks","spokes"] (ah oF):=fsc rfl rfl rfl rfl (by trivial)
def pG:az ["group","part","marks","spokes","found"] ["group","part","marks","spokes"] (ah rf):=fsc rfl rfl rfl rfl (by trivial)
def vx:az ["one","other"] ["one","other"] (ah ou):=fsc rfl rfl rfl rfl (by trivial)
def mF:az ["many"] ["many"] (ah m5):=fsc rfl rfl rfl rfl (by trivial)
def dF:az ["group","part","carriers","found","number","carrier","k","thing"] ["group","part"] (ah lF):=fsc rfl rfl rfl rfl (by trivial)
def DS:az ["moves","many"] ["moves","many"] (ah sr):=fsc rfl rfl rfl rfl (by trivial)
def gX:az ["moves","others","spokes","found","place","spoke","further","more"] ["moves","others","spokes"] (ah Ao):=fsc rfl rfl rfl rfl (by trivial)
def tL:az ["moves","spokes"] ["moves","spokes"] (ah iT):=fsc rfl rfl rfl rfl (by trivial)
def fD:az ["moves","way","found","number","k"] ["moves","way"] (ah nj):=fsc rfl rfl rfl rfl (by trivial)
def AK:az ["_law_script","_law_k"] ["_law_script","_law_k"] (ah uF):=fsc rfl rfl rfl rfl (by trivial)
def cF:az ["_law_one_here","_law_two","_law_number","_law_some_here","_law_top","_law_steps","_law_room","_law_first","_law_second","_law_third"] ["_law_one_here","_law_two"] (ah rg):=fsc rfl rfl rfl rfl (by trivial)
def qZ:az ["_law_sizes_here","_law_number","_law_kinds"] ["_law_sizes_here","_law_number"] (ah sX):=fsc rfl rfl rfl rfl (by trivial)
def eC:az ["_law_many","_law_steps","_law_number","_law_units","_law_u","_law_found","_law_k"] ["_law_many","_law_steps","_law_number"] (ah tU):=fsc rfl rfl rfl rfl (by trivial)
def cv:az ["_law_place","_law_sizes_here","_law_kind_here","_law_units","_law_x","_law_y","_law_w"] ["_law_place","_law_sizes_here","_law_kind_here","_law_units"] (ah oZ):=fsc rfl rfl rfl rfl (by trivial)
def iy:az ["_law_one_here","_law_other","_law_sizes_here","_law_both","_law_x","_law_y","_law_w"] ["_law_one_here","_law_other","_law_sizes_here"] (ah wU):=fsc rfl rfl rfl rfl (by trivial)
def cu:az ["_law_sizes_here","_law_turn","_law_end","_law_calm","_law_rows_here","_law_led","_law_i","_law_one_here","_law_row","_law_j","_law_other","_law_place"] ["_law_sizes_here","_law_turn","_law_end"] (ah nU):=fsc rfl rfl rfl rfl (by trivial)
def iC:az ["_law_many","_law_number","_law_names_here","_law_k"] ["_law_many","_law_number"] (ah rH):=fsc rfl rfl rfl rfl (by trivial)
def bo:az ["_law_script","_law_start","_law_one_here","_law_two","_law_sizes_here","_law_stirred","_law_kind_here","_law_units","_law_k","_law_calm","_law_turn","_law_end","_law_rows_here","_law_names_here","_law_row","_law_table","_law_a","_law_b","_law_thing_here"] ["_law_script","_law_start"] (ah je):=fsc rfl rfl rfl rfl (by trivial)
def zY:az ["_law_found"] ["_law_found"] (ah rG):=fsc rfl rfl rfl rfl (by trivial)
def Dd:az ["_law_table"] ["_law_table"] (ah o5):=fsc rfl rfl rfl rfl (by trivial)
def p6:az ["_law_table","_law_one_here"] ["_law_table"] (ah mI):=fsc rfl rfl rfl rfl (by trivial)
def oQ:az ["_law_cell_here","_law_k","_law_many","_law_number"] ["_law_cell_here","_law_k","_law_many"] (ah rE):=fsc rfl rfl rfl rfl (by trivial)
def eN:az ["_law_table","_law_one_here","_law_powers","_law_many"] ["_law_table"] (ah jt):=fsc rfl rfl rfl rfl (by trivial)
def eJ:az ["_law_table","_law_thing_here","_law_one_here","_law_found","_law_many"] ["_law_table","_law_thing_here"] (ah rD):=fsc rfl rfl rfl rfl (by trivial)
def bz:az ["_law_table","_law_some_here","_law_spokes","_law_cell_here","_law_given","_law_k","_law_size","_law_marks","_law_found","_law_at","_law_good_here","_law_one_here","_law_mark","_law_thing_here","_law_total","_law_part"] ["_law_table","_law_some_here","_law_spokes","_law_cell_here"] (ah kZ):=fsc rfl rfl rfl rfl (by trivial)
def qV:az ["_law_table","_law_cell_here","_law_number"] ["_law_table","_law_cell_here"] (ah nv):=fsc rfl rfl rfl rfl (by trivial)
def la:az ["_law_table","_law_part","_law_rows_here","_law_one_here"] ["_law_table","_law_part"] (ah mG):=fsc rfl rfl rfl rfl (by trivial)
def eB:az ["_law_table","_law_part","_law_found","_law_seen","_law_thing_here"] ["_law_table","_law_part"] (ah i4):=fsc rfl rfl rfl rfl (by trivial)
def cK:az ["_law_table","_law_part","_law_traces","_law_spokes","_law_backs_here","_law_found","_law_thing_here","_law_counts","_law_carrier","_law_over","_law_own"] ["_law_table","_law_part","_law_traces","_law_spokes"] (ah kW):=fsc rfl rfl rfl rfl (by trivial)
def jV:az ["_law_table","_law_part","_law_marks","_law_spokes","_law_traces","_law_mark"] ["_law_table","_law_part","_law_marks","_law_spokes"] (ah kI):=fsc rfl rfl rfl rfl (by trivial)
def cO:az ["_law_one_here","_law_other","_law_spokes","_law_found","_law_left","_law_right","_law_counts","_law_k","_law_j","_law_at"] ["_law_one_here","_law_other","_law_spokes"] (ah gM):=fsc rfl rfl rfl rfl (by trivial)
def ky:az ["_law_group_here","_law_table","_law_spokes","_law_cell_here","_law_part","_law_marks","_law_traces"] ["_law_group_here","_law_table","_law_spokes","_law_cell_here"] (ah wK):=fsc rfl rfl rfl rfl (by trivial)
def ck:az ["_law_group_here","_law_table","_law_spokes","_law_state","_law_cell_here","_law_part","_law_traces","_law_way","_law_size","_law_made"] ["_law_group_here","_law_table","_law_spokes","_law_state","_law_cell_here"] (ah mK):=fsc rfl rfl rfl rfl (by trivial)
def fj:az ["_law_one_here","_law_other","_law_way","_law_made"] ["_law_one_here","_law_other","_law_way"] (ah pF):=fsc rfl rfl rfl rfl (by trivial)
def cP:az ["_law_group_here","_law_table","_law_spokes","_law_state","_law_cell_here","_law_way","_law_traces","_law_counts","_law_other","_law_made","_law_left","_law_right"] ["_law_group_here","_law_table","_law_spokes","_law_state","_law_cell_here"] (ah kf):=fsc rfl rfl rfl rfl (by trivial)
def c7:az ["_law_way","_law_table","_law_one_here","_law_first","_law_thing_here","_law_second","_law_due"] ["_law_way","_law_table","_law_one_here"] (ah dQ):=fsc rfl rfl rfl rfl (by trivial)
def fw:az ["_law_state","_law_table","_law_spokes","_law_one_here","_law_way","_law_traces","_law_size","_law_thing_here","_law_counts"] ["_law_state","_law_table","_law_spokes","_law_one_here"] (ah uw):=fsc rfl rfl rfl rfl (by trivial)
def ff:az ["_law_script","_law_table","_law_group_here","_law_spokes","_law_state","_law_cells","_law_k","_law_cell_here","_law_found"] ["_law_script"] (ah Ck):=fsc rfl rfl rfl rfl (by trivial)
def xB:az ["self","rows","unit","backs"] ["self","rows","unit","backs"] (ah pz):=fsc rfl rfl rfl rfl (by trivial)
def AM:az ["self","group","spokes","deeds"] ["self","group","spokes","deeds"] (ah sW):=fsc rfl rfl rfl rfl (by trivial)
def yS:az ["self","thing"] ["self","thing"] (ah qW):=fsc rfl rfl rfl rfl (by trivial)
def hZ:az ["self","thing","counts","place","move"] ["self","thing"] (ah qX):=fsc rfl rfl rfl rfl (by trivial)
def mO:az ["self","group","part","marks","spokes","deeds"] ["self","group","part","marks","spokes"] (ah jK):=fsc rfl rfl rfl rfl (by trivial)
def iU:az ["self","one","other","deeds"] ["self","one","other"] (ah j6):=fsc rfl rfl rfl rfl (by trivial)
def iF:az ["self","one","other","deeds"] ["self","one","other"] (ah i6):=fsc rfl rfl rfl rfl (by trivial)
def nt:az ["self","way","deeds"] ["self","way"] (ah jI):=fsc rfl rfl rfl rfl (by trivial)
def vG:az ["self","way","part"] ["self","way","part"] (ah jN):=fsc rfl rfl rfl rfl (by trivial)
def eL:az ["self","group","part","way","spokes","deeds"] ["self","group","part","way"] (ah jO):=fsc rfl rfl rfl rfl (by trivial)
def oB:aU (ah nM) ["table","rows","unit","backs"] { kind:=.function,names:=[(".0",.local),("row",.local),("list",.globalImplicit)],isGenerator:=false,isCoroutine:=false,more:=[] } ["row"] []:=csc rfl (by trivial)
def oy:aU (ah nL) ["rows","unit"] { kind:=.function,names:=[(".0",.local),("thing",.local),("back_of",.globalImplicit),("rows",.free),("unit",.free)],isGenerator:=false,isCoroutine:=false,more:=[] } ["thing"] [0,1]:=csc rfl (by trivial)
def sY:aU (ah qu) ["group","orders","many"] { kind:=.function,names:=[(".0",.local),("thing",.local),("order",.globalImplicit),("group",.free)],isGenerator:=false,isCoroutine:=false,more:=[] } ["thing"] [0]:=csc rfl (by trivial)
def sP:aU (ah qu) ["group","orders","many"] { kind:=.function,names:=[(".0",.local),("times",.local),("many",.free)],isGenerator:=false,isCoroutine:=false,more:=[] } ["times"] [2]:=csc rfl (by trivial)
def mf:aU (ah lR) ["group","some"] { kind:=.function,names:=[(".0",.local),("number",.local),("group",.free)],isGenerator:=false,isCoroutine:=false,more:=[] } ["number"] [0]:=csc rfl (by trivial)
def um:aU (ah vc) ["some"] { kind:=.function,names:=[(".0",.local),("place",.local),("some",.free)],isGenerator:=false,isCoroutine:=false,more:=[] } ["place"] [0]:=csc rfl (by trivial)
def tf:aU (ah qm) ["group","part","by_thing"] { kind:=.function,names:=[(".0",.local),("thing",.local),("side_of",.globalImplicit),("group",.free),("part",.free)],isGenerator:=false,isCoroutine:=false,more:=[] } ["thing"] [0,1]:=csc rfl (by trivial)
def tH:aU (ah qm) ["group","part","by_thing"] { kind:=.function,names:=[(".0",.local),("thing",.local),("side",.local)],isGenerator:=false,isCoroutine:=false,more:=[] } ["thing","side"] []:=csc rfl (by trivial)
def pk:aU (ah pY) ["group","part","thing"] { kind:=.function,names:=[(".0",.local),("other",.local),("group",.free),("thing",.free)],isGenerator:=false,isCoroutine:=false,more:=[] } ["other"] [0,2]:=csc rfl (by trivial)
def kU:aU (ah jR) ["group","part"] { kind:=.function,names:=[(".0",.local),("side",.local)],isGenerator:=false,isCoroutine:=false,more:=[] } ["side"] []:=csc rfl (by trivial)
def tV:dZ (ah vL) ["group","part"] { kind:=.function,names:=[(".0",.local),("one",.cell),("group",.free),("part",.free)],isGenerator:=false,isCoroutine:=false,more:=[] } ["one"] [0,1]:=Jz rfl (by trivial)
def sQ:aU { kind:=.function,names:=[(".0",.local),("one",.cell),("group",.cell),("part",.cell)],isGenerator:=false,isCoroutine:=false,more:=[] } ["one","group","part"] { kind:=.function,names:=[(".0",.local),("other",.local),("group",.free),("one",.free),("part",.free)],isGenerator:=false,isCoroutine:=false,more:=[] } ["other"] [1,0,2]:=csc rfl (by trivial)
def kJ:aU (ah jL) ["part","marks","spokes"] { kind:=.function,names:=[(".0",.local),("mark",.local),("spokes",.free)],isGenerator:=false,isCoroutine:=false,more:=[] } ["mark"] [2]:=csc rfl (by trivial)
def my:dZ (ah lF) ["group","part","carriers","found","number","carrier","k","thing"] { kind:=.function,names:=[(".0",.local),("row",.cell),("carriers",.free),("found",.free)],isGenerator:=false,isCoroutine:=false,more:=[] } ["row"] [2,3]:=Jz rfl (by trivial)
def mC:aU { kind:=.function,names:=[(".0",.local),("row",.cell),("carriers",.cell),("found",.cell)],isGenerator:=false,isCoroutine:=false,more:=[] } ["row","carriers","found"] { kind:=.function,names:=[(".0",.local),("carrier",.local),("found",.free),("row",.free)],isGenerator:=false,isCoroutine:=false,more:=[] } ["carrier"] [2,0]:=csc rfl (by trivial)
def rh:aU (ah sr) ["moves","many"] { kind:=.function,names:=[(".0",.local),("place",.local),("spoke",.local),("many",.free)],isGenerator:=false,isCoroutine:=false,more:=[] } ["place","spoke"] [1]:=csc rfl (by trivial)
def j8:aU (ah iT) ["moves","spokes"] { kind:=.function,names:=[(".0",.local),("place",.local),("spoke",.local),("spokes",.free)],isGenerator:=false,isCoroutine:=false,more:=[] } ["place","spoke"] [1]:=csc rfl (by trivial)
def oq:aU (ah nU) ["_law_sizes_here","_law_turn","_law_end","_law_calm","_law_rows_here","_law_led","_law_i","_law_one_here","_law_row","_law_j","_law_other","_law_place"] { kind:=.function,names:=[(".0",.local),("_law_place",.local),("_law_turn",.free)],isGenerator:=false,isCoroutine:=false,more:=[] } ["_law_place"] [1]:=csc rfl (by trivial)
def nh:aU (ah je) ["_law_script","_law_start","_law_one_here","_law_two","_law_sizes_here","_law_stirred","_law_kind_here","_law_units","_law_k","_law_calm","_law_turn","_law_end","_law_rows_here","_law_names_here","_law_row","_law_table","_law_a","_law_b","_law_thing_here"] { kind:=.function,names:=[(".0",.local),("_law_place",.local),("_law_turned",.globalImplicit),("_law_kind_here",.free),("_law_sizes_here",.free),("_law_units",.free)],isGenerator:=false,isCoroutine:=false,more:=[] } ["_law_place"] [6,4,7]:=csc rfl (by trivial)
def m9:aU (ah je) ["_law_script","_law_start","_law_one_here","_law_two","_law_sizes_here","_law_stirred","_law_kind_here","_law_units","_law_k","_law_calm","_law_turn","_law_end","_law_rows_here","_law_names_here","_law_row","_law_table","_law_a","_law_b","_law_thing_here"] { kind:=.function,names:=[(".0",.local),("_law_row",.local),("list",.globalImplicit)],isGenerator:=false,isCoroutine:=false,more:=[] } ["_law_row"] []:=csc rfl (by trivial)
def oP:aU (ah o5) ["_law_table"] { kind:=.function,names:=[(".0",.local),("_law_thing_here",.local),("_law_table",.free)],isGenerator:=false,isCoroutine:=false,more:=[] } ["_law_thing_here"] [0]:=csc rfl (by trivial)
def nq:aU (ah mI) ["_law_table","_law_one_here"] { kind:=.function,names:=[(".0",.local),("_law_row",.local),("_law_one_here",.free)],isGenerator:=false,isCoroutine:=false,more:=[] } ["_law_row"] [1]:=csc rfl (by trivial)
def mV:aU (ah jt) ["_law_table","_law_one_here","_law_powers","_law_many"] { kind:=.function,names:=[(".0",.local),("_law_end",.local),("_law_one_here",.free)],isGenerator:=false,isCoroutine:=false,more:=[] } ["_law_end"] [1]:=csc rfl (by trivial)
def mY:aU (ah jt) ["_law_table","_law_one_here","_law_powers","_law_many"] { kind:=.function,names:=[(".0",.local),("_law_thing_here",.local),("_law_powers",.free),("_law_table",.free)],isGenerator:=false,isCoroutine:=false,more:=[] } ["_law_thing_here"] [2,0]:=csc rfl (by trivial)
def mj:aU (ah kZ) ["_law_table","_law_some_here","_law_spokes","_law_cell_here","_law_given","_law_k","_law_size","_law_marks","_law_found","_law_at","_law_good_here","_law_one_here","_law_mark","_law_thing_here","_law_total","_law_part"] { kind:=.function,names:=[(".0",.local),("_law_thing_here",.local),("int",.globalImplicit),("_law_good_here",.free),("_law_marks",.free)],isGenerator:=false,isCoroutine:=false,more:=[] } ["_law_thing_here"] [10,7]:=csc rfl (by trivial)
def oG:aU (ah nv) ["_law_table","_law_cell_here","_law_number"] { kind:=.function,names:=[(".0",.local),("_law_k",.local),("_law_thing",.globalImplicit),("len",.globalImplicit),("_law_cell_here",.free),("_law_table",.free)],isGenerator:=false,isCoroutine:=false,more:=[] } ["_law_k"] [1,0]:=csc rfl (by trivial)
def mU:aU (ah mG) ["_law_table","_law_part","_law_rows_here","_law_one_here"] { kind:=.function,names:=[(".0",.local),("_law_other",.local),("_law_one_here",.free),("_law_part",.free),("_law_table",.free)],isGenerator:=false,isCoroutine:=false,more:=[] } ["_law_other"] [3,1,0]:=csc rfl (by trivial)
def ka:aU (ah i4) ["_law_table","_law_part","_law_found","_law_seen","_law_thing_here"] { kind:=.function,names:=[(".0",.local),("_law_one_here",.local),("_law_table",.free),("_law_thing_here",.free)],isGenerator:=false,isCoroutine:=false,more:=[] } ["_law_one_here"] [0,4]:=csc rfl (by trivial)
def l9:aU (ah kW) ["_law_table","_law_part","_law_traces","_law_spokes","_law_backs_here","_law_found","_law_thing_here","_law_counts","_law_carrier","_law_over","_law_own"] { kind:=.function,names:=[(".0",.local),("_law_one_here",.local),("_law_other",.local)],isGenerator:=false,isCoroutine:=false,more:=[] } ["_law_one_here","_law_other"] []:=csc rfl (by trivial)
def mq:aU (ah kI) ["_law_table","_law_part","_law_marks","_law_spokes","_law_traces","_law_mark"] { kind:=.function,names:=[(".0",.local),("_law_k",.local),("int",.globalImplicit),("_law_mark",.free)],isGenerator:=false,isCoroutine:=false,more:=[] } ["_law_k"] [5]:=csc rfl (by trivial)
def lW:aU (ah gM) ["_law_one_here","_law_other","_law_spokes","_law_found","_law_left","_law_right","_law_counts","_law_k","_law_j","_law_at"] { kind:=.function,names:=[(".0",.local),("_law_k",.local),("_law_left",.free)],isGenerator:=false,isCoroutine:=false,more:=[] } ["_law_k"] [4]:=csc rfl (by trivial)
def lE:aU (ah gM) ["_law_one_here","_law_other","_law_spokes","_law_found","_law_left","_law_right","_law_counts","_law_k","_law_j","_law_at"] { kind:=.function,names:=[(".0",.local),("_law_k",.local),("_law_right",.free)],isGenerator:=false,isCoroutine:=false,more:=[] } ["_law_k"] [5]:=csc rfl (by trivial)
def mZ:aU (ah mK) ["_law_group_here","_law_table","_law_spokes","_law_state","_law_cell_here","_law_part","_law_traces","_law_way","_law_size","_law_made"] { kind:=.function,names:=[(".0",.local),("_law_thing_here",.local),("_law_state",.free)],isGenerator:=false,isCoroutine:=false,more:=[] } ["_law_thing_here"] [3]:=csc rfl (by trivial)
def ot:aU (ah kf) ["_law_group_here","_law_table","_law_spokes","_law_state","_law_cell_here","_law_way","_law_traces","_law_counts","_law_other","_law_made","_law_left","_law_right"] { kind:=.function,names:=[(".0",.local),("_law_k",.local),("_law_counts",.free),("_law_spokes",.free)],isGenerator:=false,isCoroutine:=false,more:=[] } ["_law_k"] [7,2]:=csc rfl (by trivial)
def oH:aU (ah kf) ["_law_group_here","_law_table","_law_spokes","_law_state","_law_cell_here","_law_way","_law_traces","_law_counts","_law_other","_law_made","_law_left","_law_right"] { kind:=.function,names:=[(".0",.local),("_law_one_here",.local),("_law_two",.local)],isGenerator:=false,isCoroutine:=false,more:=[] } ["_law_one_here","_law_two"] []:=csc rfl (by trivial)
def iJ:aU (ah dQ) ["_law_way","_law_table","_law_one_here","_law_first","_law_thing_here","_law_second","_law_due"] { kind:=.function,names:=[(".0",.local),("_law_to",.local),("_law_spoke",.local),("_law_first",.free)],isGenerator:=false,isCoroutine:=false,more:=[] } ["_law_to","_law_spoke"] [3]:=csc rfl (by trivial)
def iI:aU (ah dQ) ["_law_way","_law_table","_law_one_here","_law_first","_law_thing_here","_law_second","_law_due"] { kind:=.function,names:=[(".0",.local),("_law_two",.local),("_law_led",.local),("_law_way",.free)],isGenerator:=false,isCoroutine:=false,more:=[] } ["_law_two","_law_led"] [0]:=csc rfl (by trivial)
def iK:aU (ah dQ) ["_law_way","_law_table","_law_one_here","_law_first","_law_thing_here","_law_second","_law_due"] { kind:=.function,names:=[(".0",.local),("_law_place",.local)],isGenerator:=false,isCoroutine:=false,more:=[] } ["_law_place"] []:=csc rfl (by trivial)
def zD:aU (ah Ck) ["_law_script","_law_table","_law_group_here","_law_spokes","_law_state","_law_cells","_law_k","_law_cell_here","_law_found"] { kind:=.function,names:=[(".0",.local),("_law_row",.local),("list",.globalImplicit)],isGenerator:=false,isCoroutine:=false,more:=[] } ["_law_row"] []:=csc rfl (by trivial)
def k8:aU (ah jK) ["self","group","part","marks","spokes","deeds"] { kind:=.function,names:=[(".0",.local),("moves",.local),("marks",.free)],isGenerator:=false,isCoroutine:=false,more:=[] } ["moves"] [3]:=csc rfl (by trivial)
def lZ:aU { kind:=.function,names:=[(".0",.local),("moves",.local),("marks",.cell)],isGenerator:=false,isCoroutine:=false,more:=[] } ["moves","marks"] { kind:=.function,names:=[(".0",.local),("number",.local),("k",.local),("marks",.free)],isGenerator:=false,isCoroutine:=false,more:=[] } ["number","k"] [1]:=csc rfl (by trivial)
def lj:aU (ah j6) ["self","one","other","deeds"] { kind:=.function,names:=[(".0",.local),("thing",.local),("behind",.globalImplicit),("one",.free),("other",.free)],isGenerator:=false,isCoroutine:=false,more:=[] } ["thing"] [1,2]:=csc rfl (by trivial)
def j9:aU (ah i6) ["self","one","other","deeds"] { kind:=.function,names:=[(".0",.local),("thing",.local),("paired",.globalImplicit),("one",.free),("other",.free)],isGenerator:=false,isCoroutine:=false,more:=[] } ["thing"] [1,2]:=csc rfl (by trivial)
def k6:aU (ah jI) ["self","way","deeds"] { kind:=.function,names:=[(".0",.local),("thing",.local),("backed_moves",.globalImplicit),("way",.free)],isGenerator:=false,isCoroutine:=false,more:=[] } ["thing"] [1]:=csc rfl (by trivial)
def lG:aU (ah jN) ["self","way","part"] { kind:=.function,names:=[(".0",.local),("thing",.local),("way",.free)],isGenerator:=false,isCoroutine:=false,more:=[] } ["thing"] [1]:=csc rfl (by trivial)
def lQ:aU (ah jO) ["self","group","part","way","spokes","deeds"] { kind:=.function,names:=[(".0",.local),("moves",.local),("raised_moves",.globalImplicit),("way",.free)],isGenerator:=false,isCoroutine:=false,more:=[] } ["moves"] [3]:=csc rfl (by trivial)
set_option genInjectivity false in
set_option genSizeOf false in
structure Txt (K:KW) (mg:Str->Option Value) where
 ik:Df K mg "group_of" nM ["table"]
 iD:Df K mg "check_size" pX ["rows"]
 eD:Df K mg "check_strangers" j7 ["rows"]
 l8:Df K mg "unit_of" wG ["rows"]
 iu:Df K mg "leaves_all" pK ["rows","thing"]
 kz:Df K mg "backs_of" nL ["rows","unit"]
 mD:Df K mg "back_of" wB ["rows","unit","thing"]
 eS:Df K mg "check_together" lq ["rows"]
 qd:Df K mg "order" Bt ["group","thing"]
 qH:Df K mg "turns" qu ["group"]
 eM:Df K mg "check_part" pH ["group","some"]
 mr:Df K mg "is_part" wc ["group","some"]
 iw:Df K mg "all_things" lR ["group","some"]
 qL:Df K mg "rises" vc ["some"]
 eR:Df K mg "holds_products" kN ["group","some"]
 qe:Df K mg "sides" qm ["group","part"]
 mw:Df K mg "side_of" pY ["group","part","thing"]
 gJ:Df K mg "carriers_of" jR ["group","part"]
 iZ:Df K mg "inner" vL ["group","part"]
 gv:Df K mg "check_spokes" mQ ["many"]
 fP:Df K mg "serving" wX ["group","spokes"]
 gL:Df K mg "check_marks" jL ["part","marks","spokes"]
 gF:DfD K mg "first_break" oF ["group","part","marks","spokes"] "spokes" 3
 jj:Df K mg "check_way" rf ["group","part","marks","spokes"]
 dG:Df K mg "check_alike" ou ["one","other"]
 bM:Df K mg "check_places" m5 ["many"]
 fR:Df K mg "side_moves" lF ["group","part"]
 kL:Df K mg "behind" sr ["moves","many"]
 nK:Df K mg "paired" Ao ["moves","others","spokes"]
 gi:Df K mg "backed_moves" iT ["moves","spokes"]
 gj:Df K mg "raised_moves" nj ["moves","way"]
 eg:Df K mg "_law_cell" uF ["_law_script","_law_k"]
 jh:Df K mg "_law_sizes" rg ["_law_one_here","_law_two"]
 kr:Df K mg "_law_kind" sX ["_law_sizes_here","_law_number"]
 ko:Df K mg "_law_unit" tU ["_law_many","_law_steps","_law_number"]
 ip:Df K mg "_law_turned" oZ ["_law_place","_law_sizes_here","_law_kind_here","_law_units"]
 jE:Df K mg "_law_sum" wU ["_law_one_here","_law_other","_law_sizes_here"]
 kb:Df K mg "_law_rows" nU ["_law_sizes_here","_law_turn","_law_end"]
 jc:Df K mg "_law_names" rH ["_law_many","_law_number"]
 jd:Df K mg "_law_group" je ["_law_script","_law_start"]
 ji:Df K mg "_law_whole" rG ["_law_found"]
 ei:Df K mg "_law_one" o5 ["_law_table"]
 jf:Df K mg "_law_backs" mI ["_law_table"]
 fq:Df K mg "_law_thing" rE ["_law_cell_here","_law_k","_law_many"]
 jo:Df K mg "_law_turns" jt ["_law_table"]
 jn:Df K mg "_law_order" rD ["_law_table","_law_thing_here"]
 fY:Df K mg "_law_marked" kZ ["_law_table","_law_some_here","_law_spokes","_law_cell_here"]
 hV:Df K mg "_law_some" nv ["_law_table","_law_cell_here"]
 jg:Df K mg "_law_inner" mG ["_law_table","_law_part"]
 gh:Df K mg "_law_carriers" i4 ["_law_table","_law_part"]
 fO:Df K mg "_law_raised" kW ["_law_table","_law_part","_law_traces","_law_spokes"]
 ig:Df K mg "_law_lifted" kI ["_law_table","_law_part","_law_marks","_law_spokes"]
 gH:Df K mg "_law_crossed" gM ["_law_one_here","_law_other","_law_spokes"]
 fU:Df K mg "_law_new" wK ["_law_group_here","_law_table","_law_spokes","_law_cell_here"]
 jr:Df K mg "_law_again" mK ["_law_group_here","_law_table","_law_spokes","_law_state","_law_cell_here"]
 ir:Df K mg "_law_paired" pF ["_law_one_here","_law_other","_law_way"]
 kB:Df K mg "_law_deed" kf ["_law_group_here","_law_table","_law_spokes","_law_state","_law_cell_here"]
 eZ:Df K mg "_law_multiplies" dQ ["_law_way","_law_table","_law_one_here"]
 ix:Df K mg "_law_good" uw ["_law_state","_law_table","_law_spokes","_law_one_here"]
 qw:Df K mg "law" Ck ["_law_script"]
 aL:Addr
 vK:Addr
 vk:LZ
 Iu:mg "Group" = some (.ref aL)
 ja:Cls K aL
 Hw:Mk K aL vK
 IB:Fun K "__init__" "Group.__init__" pz vK vk
 HL:Binds K vk ["self","rows","unit","backs"] []
 pN:aY K aL "many"
 pI:aY K aL "rows"
 pZ:aY K aL "unit"
 xU:aY K aL "backs"
 jk:Addr
 yp:Addr
 CK:LZ
 qN:mg "Way" = some (.ref jk)
 KS:Cls K jk
 KU:Mk K jk yp
 Kv:Fun K "__init__" "Way.__init__" sW yp CK
 qE:Binds K CK ["self","group","spokes","deeds"] []
 qC:Ce K jk "__init__" yp
 J2:aY K jk "group"
 JN:aY K jk "spokes"
 Kq:aY K jk "size"
 J4:aY K jk "deeds"
 cQ:Addr
 mH:LZ
 J1:Meth K jk "moves" cQ
 AU:Fun K "moves" "Way.moves" qW cQ mH
 cG:Binds K mH ["self","thing"] []
 cR:Addr
 mJ:LZ
 J3:Meth K jk "trace" cR
 AS:Fun K "trace" "Way.trace" qX cR mJ
 AN:Binds K mJ ["self","thing"] []
 bj:Addr
 rX:Addr
 sD:LZ
 E7:mg "Lifted" = some (.ref bj)
 lu:Cls K bj
 Gj:Mk K bj rX
 y7:jP K "__init__" "Lifted.__init__" jK rX sD
 vB:Meth K bj "moves" cQ
 vI:Meth K bj "trace" cR
 xM:aY K bj "part"
 vZ:aY K bj "marks"
 vi:aY K bj "group"
 uC:aY K bj "spokes"
 yb:aY K bj "size"
 uP:aY K bj "deeds"
 cB:Addr
 lU:Addr
 kM:LZ
 Gm:mg "Beside" = some (.ref cB)
 sE:Cls K cB
 GC:Mk K cB lU
 zQ:Fun K "__init__" "Beside.__init__" j6 lU kM
 GK:Binds K kM ["self","one","other"] []
 vM:Meth K cB "moves" cQ
 vE:Meth K cB "trace" cR
 vW:aY K cB "group"
 uI:aY K cB "spokes"
 xJ:aY K cB "size"
 vf:aY K cB "deeds"
 bY:Addr
 jw:Addr
 jH:LZ
 DT:mg "Crossed" = some (.ref bY)
 oK:Cls K bY
 EV:Mk K bY jw
 w9:Fun K "__init__" "Crossed.__init__" i6 jw jH
 D7:Binds K jH ["self","one","other"] []
 tG:Meth K bY "moves" cQ
 uJ:Meth K bY "trace" cR
 tq:aY K bY "group"
 so:aY K bY "spokes"
 vY:aY K bY "size"
 ue:aY K bY "deeds"
 cL:Addr
 sN:Addr
 sF:LZ
 FX:mg "Backed" = some (.ref cL)
 sy:Cls K cL
 Fh:Mk K cL sN
 FT:Fun K "__init__" "Backed.__init__" jI sN sF
 F7:Binds K sF ["self","way"] []
 vo:Meth K cL "moves" cQ
 v5:Meth K cL "trace" cR
 uX:aY K cL "group"
 ua:aY K cL "spokes"
 xE:aY K cL "size"
 uZ:aY K cL "deeds"
 cU:Addr
 rM:Addr
 sf:LZ
 Gf:mg "Within" = some (.ref cU)
 sx:Cls K cU
 Fd:Mk K cU rM
 EY:Fun K "__init__" "Within.__init__" jN rM sf
 FV:Binds K sf ["self","way","part"] []
 vX:Meth K cU "moves" cQ
 vg:Meth K cU "trace" cR
 vm:aY K cU "group"
 tK:aY K cU "spokes"
 ya:aY K cU "size"
 vJ:aY K cU "deeds"
 cC:Addr
 lP:Addr
 lV:LZ
 FI:mg "Raised" = some (.ref cC)
 sk:Cls K cC
 FR:Mk K cC lP
 AG:Fun K "__init__" "Raised.__init__" jO lP lV
 GJ:Binds K lV ["self","group","part","way"] []
 vN:Meth K cC "moves" cQ
 vz:Meth K cC "trace" cR
 uT:aY K cC "group"
 sS:aY K cC "spokes"
 yd:aY K cC "size"
 vy:aY K cC "deeds"
 b5:Addr
 nH:mg "TooGreat" = some (.ref b5)
 B7:Ol K b5 bmV EZ=true
 oi:Nd K (.ref b5) (.ref b5)=some true
 xx:Tok
 ow:mg "MOST_PLACES" = some (.int 60 xx)
 xV:Tok
 xQ:mg "MOST_SPOKES" = some (.int 60 xV)
 xX:Tok
 xG:mg "MOST_THINGS" = some (.int 23 xX)
 B9:mg "all" = none
 Ha:mg "any" = none
 JV:mg "bool" = none
 Jn:mg "dict" = none
 fB:mg "enumerate" = none
 Cj:mg "int" = none
 kH:mg "isinstance" = none
 bA:mg "len" = none
 iG:mg "list" = none
 aZ:mg "range" = none
 zZ:mg "sorted" = none
 nC:mg "zip" = none
section
variable {K:KW} {mg:Str->Option Value}
def Txt.Gv (T:Txt K mg):Binds K T.sD ["self","group","part","marks","spokes"] []:=bc5 T.y7
end
def tb (t:List (List Nat)) (i j:Nat):Nat:=(t.getD i []).getD j 0
structure Sq (n:Nat) (t:List (List Nat)):Prop where
 len:t.length=n
 pos:1<=n
 le:n<=23
 row:∀ (i:Nat) (r:List Nat),t[i]?=some r->r.length=n
structure Gd (n:Nat) (t:List (List Nat)):Prop extends Sq n t where
 lt:∀ i j,i<n->j<n->tb t i j<n
structure GT (n:Nat) (t:List (List Nat)) (e:Nat):Prop extends Gd n t where
 elt:e<n
 unl:∀ i,i<n->tb t e i=i
 unr:∀ i,i<n->tb t i e=i
 back:∀ i,i<n->∃ b,b<n/\tb t i b=e/\tb t b i=e
 assoc:∀ i j k,i<n->j<n->k<n->tb t (tb t i j) k=tb t i (tb t j k)
def Sq.get {n:Nat} {t:List (List Nat)} (s:Sq n t) {i:Nat} (h:i<n):t[i]?=some (t.getD i []):=by
 have hl:i<t.length:=by rw [s.len];exact h
 rw [K2,KZ hl];simp
def Sq.cZ {n:Nat} {t:List (List Nat)} (s:Sq n t) {i j:Nat} (h:i<n) (h':j<n):(t.getD i [])[j]?=some (tb t i j):=by
 have hr:(t.getD i []).length=n:=s.row i _ (s.get h);have hl:j<(t.getD i []).length:=by rw [hr];exact h'
 unfold tb;rw [K2 (l:=t.getD i []),KZ hl];simp
def qa (n:Nat) (t:List (List Nat)) (x:Nat):Prop:=∀ o,o<n->tb t x o=o/\tb t o x=o
instance {n:Nat} {t:List (List Nat)} {x:Nat}:Decidable (qa n t x):=inferInstanceAs (Decidable (∀ o,o<n->tb t x o=o/\tb t o x=o))
def GT.tm {n:Nat} {t:List (List Nat)} {e x:Nat} (g:GT n t e) (hx:x<n):qa n t x↔x=e:=by
 constructor
 ·intro h;have h1:=(h e g.elt).1;have h2:=g.unr x hx;rw [h2] at h1;exact h1
 ·rintro rfl o ho;exact ⟨g.unl o ho,g.unr o ho⟩
def bq (n:Nat) (t:List (List Nat)) (e a:Nat):Nat:=((K3 n).find? fun b=>decide (tb t a b=e/\tb t b a=e)).getD 0
def Iy {n:Nat} {t:List (List Nat)} {e a b:Nat} (hb:b<n) (h:tb t a b=e/\tb t b a=e) (hn:∀ c,c<b->¬ (tb t a c=e/\tb t c a=e)):bq n t e a=b:=by
 unfold bq;have:(K3 n).find? (fun b=>decide (tb t a b=e/\tb t b a=e))=some b:=by
  rw [OZ];refine ⟨by simpa using h,by simpa using hb,fun j hj=>?_⟩
  have:=hn j hj;simp only [OY,decide_eq_false_iff_not];exact this
 rw [this];rfl
def GT.bk {n:Nat} {t:List (List Nat)} {e a:Nat} (g:GT n t e) (ha:a<n):bq n t e a<n/\tb t a (bq n t e a)=e/\tb t (bq n t e a) a=e:=by
 obtain ⟨b,hb,h⟩:=g.back a ha;unfold bq;cases q:(K3 n).find? (fun b=>decide (tb t a b=e/\tb t b a=e)) with
 | none =>
  rw [O0] at q;have:=q b hb;simp at this;exact this.elim (fun z=>absurd h.1 z) fun z=>absurd h.2 z
 | some c =>
  have h1:=List.find?_some q;have h2:=K7.mp (List.mem_of_find?_eq_some q);simp only [decide_eq_true_eq] at h1;exact ⟨h2,h1⟩
def bks (n:Nat) (t:List (List Nat)) (e:Nat):List Nat:=(K3 n).map (bq n t e)
def prd (t:List (List Nat)) (e:Nat) (l:List Nat):Nat:=l.foldl (tb t) e
def bR {β:Type} (f:Nat->β) (n i:Nat) (h:i<n):((K3 n).map f).take (i+1)=((K3 n).map f).take i++[f i]:=by
 rw [Lv];simp [h]
def mkT (n:Nat) (f:Nat->Nat->Nat):List (List Nat):=(K3 n).map fun a=>(K3 n).map fun b=>f a b
def Dq {n:Nat} {f:Nat->Nat->Nat} {a b:Nat} (ha:a<n) (hb:b<n):tb (mkT n f) a b=f a b:=by
 unfold tb mkT;simp [K2,ha,hb]
def JS {n:Nat} {f:Nat->Nat->Nat} (h1:1<=n) (h2:n<=23):Sq n (mkT n f):=by
 refine ⟨by simp [mkT],h1,h2,fun i r h=>?_⟩
 have:r∈mkT n f:=K1 h;unfold mkT at this;obtain ⟨a,_,rfl⟩:=Lc.mp this;simp
def D2 {n:Nat} {f:Nat->Nat->Nat} {e:Nat} (h1:1<=n) (h2:n<=23) (lt:∀ a b,a<n->b<n->f a b<n) (elt:e<n) (unl:∀ a,a<n->f e a=a) (unr:∀ a,a<n->f a e=a)
  (back:∀ a,a<n->∃ b,b<n/\f a b=e/\f b a=e) (assoc:∀ a b c,a<n->b<n->c<n->f (f a b) c=f a (f b c)):GT n (mkT n f) e:=by
 have q:∀ {a b:Nat},a<n->b<n->tb (mkT n f) a b=f a b:=fun ha hb=>Dq ha hb;refine ⟨⟨JS h1 h2,fun i j hi hj=>by rw [q hi hj];exact lt i j hi hj⟩,elt,fun i hi=>by rw [q elt hi];exact unl i hi,fun i hi=>by rw [q hi elt];exact unr i hi,fun i hi=>?_,fun i j k hi hj hk=>?_⟩
 ·obtain ⟨b,hb,x,y⟩:=back i hi;exact ⟨b,hb,by rw [q hi hb];exact x,by rw [q hb hi];exact y⟩
 ·rw [q hi hj,q hj hk,q (lt i j hi hj) hk,q hi (lt j k hj hk)];exact assoc i j k hi hj hk
structure Ab (m:Nat) (ad:Nat->Nat->Nat):Prop where
 pos:0<m
 lt:∀ x y,x<m->y<m->ad x y<m
 assoc:∀ x y z,x<m->y<m->z<m->ad (ad x y) z=ad x (ad y z)
 comm:∀ x y,x<m->y<m->ad x y=ad y x
 zero:∀ x,x<m->ad x 0=x
 neg:∀ x,x<m->∃ y,y<m/\ad x y=0
structure Tn (m:Nat) (ad:Nat->Nat->Nat) (f:Nat->Nat) (s e:Nat):Prop extends Ab m ad where
 iS:0<s
 flt:∀ x,x<m->f x<m
 fad:∀ x y,x<m->y<m->f (ad x y)=ad (f x) (f y)
 per:∀ x,x<m->Nat.repeat f s x=x
 elt:e<m
 fe:f e=e
def tim (ad:Nat->Nat->Nat) (e:Nat):Nat->Nat
 | 0=>0
 | k+1=>ad (tim ad e k) e
def cyc (m:Nat) (ad:Nat->Nat->Nat) (f:Nat->Nat) (s e I J:Nat):Nat :=
 (let p:=ad (I % m) (Nat.repeat f (I / m) (J % m));if I / m+J / m >= s then ad p e else p)+m * ((I / m+J / m) % s)
section
variable {m:Nat} {ad:Nat->Nat->Nat} {f:Nat->Nat} {s e:Nat}
def fh (T:Tn m ad f s e):∀ (k:Nat) {x:Nat},x<m->Nat.repeat f k x<m
 | 0,_,h=>h
 | k+1,_,h=>T.flt _ (fh T k h)
def p8 (T:Tn m ad f s e):∀ (k:Nat) {x y:Nat},x<m->y<m->Nat.repeat f k (ad x y)=ad (Nat.repeat f k x) (Nat.repeat f k y)
 | 0,_,_,_,_=>rfl
 | k+1,x,y,hx,hy=>by
  show f (Nat.repeat f k (ad x y))=ad (f (Nat.repeat f k x)) (f (Nat.repeat f k y));rw [p8 T k hx hy,T.fad _ _ (fh T k hx) (fh T k hy)]
def Hb (T:Tn m ad f s e):∀ k:Nat,Nat.repeat f k e=e
 | 0=>rfl
 | k+1=>by show f (Nat.repeat f k e)=e;rw [Hb T k,T.fe]
def kE (f:Nat->Nat) (x:Nat):∀ i j:Nat,Nat.repeat f (i+j) x=Nat.repeat f i (Nat.repeat f j x)
 | 0,j=>by rw [L7];rfl
 | i+1,j=>by
  have e:i+1+j=(i+j)+1:=by omega
  rw [e];show f (Nat.repeat f (i+j) x)=f (Nat.repeat f i (Nat.repeat f j x));rw [kE f x i j]
def IA (T:Tn m ad f s e) {x:Nat} (hx:x<m) {k:Nat} (hk:k<2 * s):Nat.repeat f (k % s) x=Nat.repeat f k x:=by
 have hs:=T.iS
 by_cases h:k<s
 ·rw [LJ h]
 ·have e1:k % s=k - s:=by rw [OH (by omega),LJ (by omega)]
  have e2:k=(k - s)+s:=by omega
  rw [e1]
  conv=>rhs;rw [e2,kE,T.per x hx]
def ef (T:Tn m ad f s e):∀ k,tim ad e k<m
 | 0=>T.pos
 | k+1=>T.lt _ _ (ef T k) T.elt
def DZ (T:Ab m ad) {x:Nat} (hx:x<m):ad 0 x=x:=by rw [T.comm 0 x T.pos hx,T.zero x hx]
def u9 (T:Tn m ad f s e):∀ i j,tim ad e (i+j)=ad (tim ad e i) (tim ad e j)
 | i,0=>by rw [MA];show _=ad _ 0;rw [T.zero _ (ef T i)]
 | i,j+1=>by
  show ad (tim ad e (i+j)) e=ad (tim ad e i) (ad (tim ad e j) e);rw [u9 T i j,T.assoc _ _ _ (ef T i) (ef T j) T.elt]
def vt (T:Tn m ad f s e) (k:Nat):∀ j,Nat.repeat f k (tim ad e j)=tim ad e j
 | 0=>by
  show Nat.repeat f k 0=0;have h0:Nat.repeat f k 0<m:=fh T k T.pos;have h1:ad (Nat.repeat f k 0) (Nat.repeat f k 0)=Nat.repeat f k 0:=by rw [<- p8 T k T.pos T.pos,T.zero 0 T.pos]
  obtain ⟨y,hy,e1⟩:=T.neg _ h0;have h2:ad (ad (Nat.repeat f k 0) (Nat.repeat f k 0)) y=ad (Nat.repeat f k 0) y:=by rw [h1]
  rw [T.assoc _ _ _ h0 h0 hy,e1,T.zero _ h0] at h2;exact h2
 | j+1=>by
  show Nat.repeat f k (ad (tim ad e j) e)=ad (tim ad e j) e;rw [p8 T k (ef T j) T.elt,vt T k j,Hb T k]
def ju (T:Tn m ad f s e) {x y i j:Nat} (hx:x<m) (hy:y<m) (hi:i<s) (hj:j<s) :
  cyc m ad f s e (x+m * i) (y+m * j)=ad (ad x (Nat.repeat f i y)) (tim ad e ((i+j) / s))+m * ((i+j) % s):=by
 have hm:=T.pos;have d1:(x+m * i) / m=i:=by rw [MF _ _ hm,Me hx,L7]
 have d2:(y+m * j) / m=j:=by rw [MF _ _ hm,Me hy,L7]
 have r1:(x+m * i) % m=x:=by rw [Mx,LJ hx]
 have r2:(y+m * j) % m=y:=by rw [Mx,LJ hy]
 unfold cyc;rw [d1,d2,r1,r2];dsimp only;have hp:ad x (Nat.repeat f i y)<m:=T.lt _ _ hx (fh T i hy)
 by_cases h:i+j >= s
 ·have q:(i+j) / s=1:=by
   have:i+j=(i+j - s)+s * 1:=by omega
   rw [this,MF _ _ T.iS,Me (by omega)]
  rw [if_pos h,q];show _=ad _ (ad 0 e)+_;rw [DZ T.toAb T.elt]
 ·have q:(i+j) / s=0:=Me (by omega)
  rw [if_neg h,q];show _=ad _ 0+_;rw [T.zero _ hp]
def dm (m:Nat) (I:Nat):I=I % m+m * (I / m):=(PU I m).symm
def Dw (T:Tn m ad f s e) {I J:Nat} (hI:I<m * s) (hJ:J<m * s):cyc m ad f s e I J<m * s:=by
 have hm:=T.pos;have hi:I / m<s:=Mh hI;have hj:J / m<s:=Mh hJ;rw [dm m I,dm m J,ju T (Lu _ hm) (Lu _ hm) hi hj];have h1:ad (ad (I % m) (Nat.repeat f (I / m) (J % m))) (tim ad e ((I / m+J / m) / s))<m:=T.lt _ _ (T.lt _ _ (Lu _ hm) (fh T _ (Lu _ hm))) (ef T _);have h2:(I / m+J / m) % s<s:=Lu _ T.iS;have h3:m * ((I / m+J / m) % s)+m<=m * s:=by
  rw [<- Nj];exact L6 _ h2
 omega
def oJ (T:Tn m ad f s e) {I J L:Nat} (hI:I<m * s) (hJ:J<m * s) (hL:L<m * s):cyc m ad f s e (cyc m ad f s e I J) L=cyc m ad f s e I (cyc m ad f s e J L):=by
 have hm:=T.pos;have hi:I / m<s:=Mh hI;have hj:J / m<s:=Mh hJ;have hl:L / m<s:=Mh hL;rw [dm m I,dm m J,dm m L];generalize I / m=i at hi;generalize J / m=j at hj;generalize L / m=l at hl;have hx:I % m<m:=Lu _ hm;have hy:J % m<m:=Lu _ hm;have hz:L % m<m:=Lu _ hm;generalize I % m=x at hx;generalize J % m=y at hy;generalize L % m=z at hz;have hs:=T.iS;have hij:(i+j) % s<s:=Lu _ hs;have hjl:(j+l) % s<s:=Lu _ hs;have fy:=fh T i hy;have fz:=fh T j hz;have t1:=ef T ((i+j) / s);have t2:=ef T ((j+l) / s);have p1:ad x (Nat.repeat f i y)<m:=T.lt _ _ hx fy;have p2:ad y (Nat.repeat f j z)<m:=T.lt _ _ hy fz;rw [ju T hx hy hi hj,ju T hy hz hj hl,ju T (T.lt _ _ p1 t1) hz hij hl,ju T hx (T.lt _ _ p2 t2) hi hjl];have em:((i+j) % s+l) % s=(i+(j+l) % s) % s:=by rw [PV,NF,M9]
 have ed:(i+j) / s+((i+j) % s+l) / s=(j+l) / s+(i+(j+l) % s) / s:=by
  have a1:=NG (i+j) s;have a2:=NG (j+l) s;have a3:=NG ((i+j) % s+l) s;have a4:=NG (i+(j+l) % s) s;rw [em] at a3;have:s * ((i+j) / s+((i+j) % s+l) / s)=s * ((j+l) / s+(i+(j+l) % s) / s):=by
   rw [Pe,Pe];omega
  exact Nat.eq_of_mul_eq_mul_left hs this
 rw [em]
 congr 1
 have fz2:Nat.repeat f ((i+j) % s) z<m:=fh T _ hz;have efz:Nat.repeat f ((i+j) % s) z=Nat.repeat f i (Nat.repeat f j z):=by rw [IA T hz (by omega),kE]
 have fz3:Nat.repeat f i (Nat.repeat f j z)<m:=fh T i fz;rw [p8 T i p2 t2,p8 T i hy fz,vt T i,efz];have t3:=ef T (((i+j) % s+l) / s);have t4:=ef T ((i+(j+l) % s) / s);rw [T.assoc _ _ _ p1 t1 fz3,T.comm _ _ t1 fz3,<- T.assoc _ _ _ p1 fz3 t1,T.assoc _ _ _ (T.lt _ _ p1 fz3) t1 t3,<- u9 T,ed];rw [T.assoc _ _ _ hx fy fz3,<- T.assoc _ _ _ hx (T.lt _ _ fy fz3) t2,T.assoc _ _ _ (T.lt _ _ hx (T.lt _ _ fy fz3)) t2 t4,<- u9 T]
def HU (T:Tn m ad f s e) {I:Nat} (hI:I<m * s):cyc m ad f s e 0 I=I:=by
 have hm:=T.pos;have hi:I / m<s:=Mh hI;have hx:I % m<m:=Lu _ hm;have h:=ju T (x:=0) (y:=I % m) (i:=0) (j:=I / m) hm hx T.iS hi;rw [<- dm m I,Na,MA,L7,Me hi,LJ hi] at h;rw [h];show ad (ad 0 (I % m)) 0+_=_;rw [DZ T.toAb hx,T.zero _ hx,<- dm m I]
def vQ (T:Tn m ad f s e) {I:Nat} (hI:I<m * s):cyc m ad f s e I 0=I:=by
 have hm:=T.pos;have hi:I / m<s:=Mh hI;have hx:I % m<m:=Lu _ hm;have h:=ju T (x:=I % m) (y:=0) (i:=I / m) (j:=0) hx hm hi T.iS;rw [<- dm m I,Na,MA,MA,Me hi,LJ hi] at h;rw [h];have z0:Nat.repeat f (I / m) 0=0:=vt T (I / m) 0;show ad (ad (I % m) (Nat.repeat f (I / m) 0)) 0+_=_;rw [z0,T.zero _ hx,T.zero _ hx,<- dm m I]
def xp (T:Tn m ad f s e) {I:Nat} (hI:I<m * s):∃ J,J<m * s/\cyc m ad f s e I J=0:=by
 have hm:=T.pos;have hs:=T.iS;have hi:I / m<s:=Mh hI;have hx:I % m<m:=Lu _ hm;have hj:(s - I / m) % s<s:=Lu _ hs;have hw:ad (I % m) (tim ad e ((I / m+(s - I / m) % s) / s))<m:=T.lt _ _ hx (ef T _);obtain ⟨v,hv,ev⟩:=T.neg _ hw;have hy:Nat.repeat f ((s - I / m) % s) v<m:=fh T _ hv;refine ⟨Nat.repeat f ((s - I / m) % s) v+m * ((s - I / m) % s),?_,?_⟩
 ·have h3:m * ((s - I / m) % s)+m<=m * s:=by
   rw [<- Nj];exact L6 _ hj
  omega
 ·have h:=ju T (x:=I % m) (y:=Nat.repeat f ((s - I / m) % s) v) (i:=I / m) (j:=(s - I / m) % s) hx hy hi hj;rw [<- dm m I] at h;rw [h];have er:Nat.repeat f (I / m) (Nat.repeat f ((s - I / m) % s) v)=v:=by
   rw [<- kE]
   by_cases h0:I / m=0
   ·rw [h0,PX,NH];rfl
   ·rw [LJ (Nat.sub_lt hs (Nat.pos_of_ne_zero h0))];have:I / m+(s - I / m)=s:=O1 (Nh hi);rw [this,T.per v hv]
  have e0:(I / m+(s - I / m) % s) % s=0:=by
   rw [NF];have:I / m+(s - I / m)=s:=O1 (Nh hi);rw [this,NH]
  rw [er,e0,Na,MA,T.assoc _ _ _ hx hv (ef T _),T.comm _ _ hv (ef T _),<- T.assoc _ _ _ hx (ef T _) hv];exact ev
def FP (T:Tn m ad f s e) {I:Nat} (hI:I<m * s):∃ J,J<m * s/\cyc m ad f s e I J=0/\cyc m ad f s e J I=0:=by
 obtain ⟨J,hJ,e1⟩:=xp T hI;obtain ⟨L,hL,e2⟩:=xp T hJ;refine ⟨J,hJ,e1,?_⟩;have hJI:=Dw T hJ hI;have h1:cyc m ad f s e J I=cyc m ad f s e (cyc m ad f s e J I) (cyc m ad f s e J L):=by rw [e2,vQ T hJI]
 rw [h1,<- oJ T hJI hJ hL,oJ T hJ hI hJ,e1,vQ T hJ,e2]
end
def lsum (a b c p q:Nat):Nat:=(p+q) % a+a * ((p / a+q / a) % b)+a * b * ((p / (a * b)+q / (a * b)) % c)
section
variable {a b c:Nat}
def G1 {x y w:Nat} (hx:x<a):(x+a * y+a * b * w) % a=x:=by
 rw [Qs,M9,<- Pe,Mx,LJ hx]
def GR {x y w:Nat} (ha:0<a) (hx:x<a):(x+a * y+a * b * w) / a=y+b * w:=by
 rw [Qs,M9,<- Pe,MF _ _ ha,Me hx,L7]
def Hh {x y w:Nat} (ha:0<a) (hx:x<a) (hy:y<b):(x+a * y+a * b * w) / a % b=y:=by
 rw [GR ha hx,Mx,LJ hy]
def G6 {x y w:Nat} (ha:0<a) (hb:0<b) (hx:x<a) (hy:y<b):(x+a * y+a * b * w) / (a * b)=w:=by
 rw [<- Pq,GR ha hx,MF _ _ hb,Me hy,L7]
def DC {x y w:Nat} (hx:x<a) (hy:y<b) (hw:w<c):x+a * y+a * b * w<a * b * c:=by
 have h1:a * y+a<=a * b:=by rw [<- Nj];exact L6 _ hy
 have h2:a * b * w+a * b<=a * b * c:=by rw [<- Nj];exact L6 _ hw
 omega
def JE (ha:0<a) (hb:0<b) (p:Nat):p % a+a * (p / a % b)+a * b * (p / (a * b))=p:=by
 rw [<- Pq,Qs,M9,<- Pe,PU,PU]
def Bw {p:Nat} (hp:p<a * b * c):p / (a * b)<c:=Mh hp
def EH (ha:0<a) (p q:Nat):lsum a b c p q % a=(p+q) % a:=G1 (Lu _ ha)
def EK (ha:0<a) (hb:0<b) (p q:Nat):lsum a b c p q / a % b=(p / a+q / a) % b:=Hh ha (Lu _ ha) (Lu _ hb)
def Eu (ha:0<a) (hb:0<b) (p q:Nat):lsum a b c p q / (a * b)=(p / (a * b)+q / (a * b)) % c:=G6 ha hb (Lu _ ha) (Lu _ hb)
def gD (x y k:Nat):(x % k+y) % k=(x+y) % k:=PV x k y
def HM (ha:0<a) (hb:0<b) (hc:0<c):Ab (a * b * c) (lsum a b c) where
 pos:=Ms (Ms ha hb) hc
 lt:=fun x y _ _=>DC (Lu _ ha) (Lu _ hb) (Lu _ hc)
 comm:=fun x y _ _=>by unfold lsum;rw [M6 x y,M6 (x / a),M6 (x / (a * b))]
 assoc:=fun x y z _ _ _=>by
  have e1:(lsum a b c x y+z) % a=(x+lsum a b c y z) % a:=by
   rw [<- gD,EH ha,gD,M6 x (lsum a b c y z),<- gD (lsum a b c y z),EH ha,gD]
   congr 1;omega
  have e2:(lsum a b c x y / a+z / a) % b=(x / a+lsum a b c y z / a) % b:=by
   rw [<- gD,EK ha hb,gD,M6 (x / a) (lsum a b c y z / a),<- gD (lsum a b c y z / a),EK ha hb,gD]
   congr 1;omega
  have e3:(lsum a b c x y / (a * b)+z / (a * b)) % c=(x / (a * b)+lsum a b c y z / (a * b)) % c:=by
   rw [Eu ha hb,Eu ha hb,gD,M6 (x / (a * b)) (_ % c),gD]
   congr 1;omega
  show (lsum a b c x y+z) % a+a * ((lsum a b c x y / a+z / a) % b)+a * b * ((lsum a b c x y / (a * b)+z / (a * b)) % c)=(x+lsum a b c y z) % a+a * ((x / a+lsum a b c y z / a) % b)+a * b * ((x / (a * b)+lsum a b c y z / (a * b)) % c);rw [e1,e2,e3]
 zero:=fun x hx=>by
  unfold lsum;rw [PY,PY,MA,MA,MA,LJ (Bw hx),JE ha hb]
 neg:=fun x hx=>by
  have hx1:x % a<a:=Lu _ ha;have hy1:x / a % b<b:=Lu _ hb;have hw1:x / (a * b)<c:=Bw hx;have lx:(a - x % a) % a<a:=Lu _ ha;have ly:(b - x / a % b) % b<b:=Lu _ hb;have lw:(c - x / (a * b)) % c<c:=Lu _ hc;refine ⟨(a - x % a) % a+a * ((b - x / a % b) % b)+a * b * ((c - x / (a * b)) % c),DC lx ly lw,?_⟩;have f1:(x+((a - x % a) % a+a * ((b - x / a % b) % b)+a * b * ((c - x / (a * b)) % c))) % a=0:=by
   rw [Pf,G1 lx,NF];have:x % a+(a - x % a)=a:=by omega
   rw [this,NH]
  have f2:(x / a+((a - x % a) % a+a * ((b - x / a % b) % b)+a * b * ((c - x / (a * b)) % c)) / a) % b=0:=by
   rw [Pf,Hh ha lx ly,NF];have:x / a % b+(b - x / a % b)=b:=by omega
   rw [this,NH]
  have f3:(x / (a * b)+((a - x % a) % a+a * ((b - x / a % b) % b)+a * b * ((c - x / (a * b)) % c)) / (a * b)) % c=0:=by
   rw [G6 ha hb lx ly,NF];have:x / (a * b)+(c - x / (a * b))=c:=O1 (Nh hw1);rw [this,NH]
  unfold lsum;rw [f1,f2,f3,Na,Na]
end
def dX (a b c kind u0 u1 u2 p:Nat):Nat :=
 let x:=p % a
 let y:=p / a % b
 let w:=p / (a * b) * u2 % c
 match kind with
 | 1=>y+a * (x+b * w)
 | 2=>(a - y) % a+a * ((x+a - y) % a+b * w)
 | 3=>x+a * ((y+x) % b+b * w)
 | 4=>(x+a / 2 * y) % a+a * (y+b * w)
 | _=>x * u0 % a+a * (y * u1 % b+b * w)
def iter (f:Nat->Nat):Nat->Nat->Nat
 | 0,x=>x
 | n+1,x=>iter f n (f x)
def pw (u m:Nat):Nat->Nat
 | 0=>1
 | n+1=>pw u m n * u % m
def tj (a b c s kind u0 u1 u2:Nat):Bool :=
 (K3 (a * b * c)).all fun p=>Nat.blt (dX a b c kind u0 u1 u2 p) (a * b * c) && (MZ (iter (dX a b c kind u0 u1 u2) s p) p &&
  (K3 (a * b * c)).all fun q=>MZ (dX a b c kind u0 u1 u2 (lsum a b c p q)) (lsum a b c (dX a b c kind u0 u1 u2 p) (dX a b c kind u0 u1 u2 q)))
def eo (a b s kind:Nat):Bool:=kind == 0 || (kind == 1 && (a == b && s % 2 == 0)) || (kind == 2 && (a == b && s % 3 == 0)) || (kind == 3 && (a % b == 0 && (decide (1<b) && s % b == 0))) || (kind == 4 && (a % 2 == 0 && (b % 2 == 0 && s % 2 == 0)))
def unitsOf (m s:Nat):List Nat:=(K3 m).filter fun u=>MZ (pw u m s) (1 % m)
def DF:Bool:=(K3 4).all fun s'=>let s:=s'+1
 (K3 (23 / s)).all fun a'=>let a:=a'+1
 (K3 (23 / (s * a))).all fun b'=>let b:=b'+1
 (K3 (23 / (s * a * b))).all fun c'=>let c:=c'+1
 (K3 5).all fun k=>!eo a b s k || ((if MZ k 0 then unitsOf a s else [0]).all fun u0=>(if MZ k 0 then unitsOf b s else [0]).all fun u1=>(unitsOf c s).all fun u2=>tj a b c s k u0 u1 u2)
set_option maxRecDepth 1000000 in
def Dz:DF=true:=by trivial
def yV (f:Nat->Nat):∀ (n x:Nat),iter f n x=Nat.repeat f n x
 | 0,_=>rfl
 | n+1,x=>by
  show iter f n (f x)=f (Nat.repeat f n x);rw [yV f n (f x)];have h1:=kE f x n 1;have h2:=kE f x 1 n;rw [M6] at h2;have e:Nat.repeat f n (Nat.repeat f 1 x)=Nat.repeat f 1 (Nat.repeat f n x):=h1.symm.trans h2;exact e
def oV {m s u:Nat}:u∈unitsOf m s↔u<m/\pw u m s=1 % m:=by
 unfold unitsOf;rw [Mc,K7];simp
structure Par (a b c s kind u0 u1 u2:Nat):Prop where
 a1:1<=a
 b1:1<=b
 c1:1<=c
 s1:1<=s
 s4:s<=4
 le:a * b * c * s<=23
 k5:kind<5
 kind:eo a b s kind=true
 v0:u0∈unitsOf a s
 v1:u1∈unitsOf b s
 v2:u2∈unitsOf c s
def o7 {x k n:Nat} (hx:1<=x) (hk:1<=k) (h:k * x<=n):x - 1<n / k:=by
 have:x<=n / k:=(Nat.le_div_iff_mul_le (by omega)).mpr (by rw [M7];exact h)
 omega
def HV {a b c kind u0 u1 u2:Nat} (h:kind≠0) (h5:kind<5):dX a b c kind u0 u1 u2=dX a b c kind 0 0 u2:=by
 match kind,h,h5 with
 | 1,_,_=>rfl
 | 2,_,_=>rfl
 | 3,_,_=>rfl
 | 4,_,_=>rfl
 | 0,h,_=>exact absurd rfl h
def Par.chk {a b c s kind u0 u1 u2:Nat} (P:Par a b c s kind u0 u1 u2):tj a b c s kind u0 u1 u2=true:=by
 have hle:=P.le;have h1:s * a<=23:=by
  have:s * a * (b * c)=a * b * c * s:=by simp only [M7,N8]
  have z:s * a * 1<=s * a * (b * c):=L6 _ (Ms P.b1 P.c1);omega
 have h2:s * a * b<=23:=by
  have:s * a * b * c=a * b * c * s:=by simp only [M7,N8]
  have z:s * a * b * 1<=s * a * b * c:=L6 _ P.c1;omega
 have h3:s * a * b * c<=23:=by
  have:s * a * b * c=a * b * c * s:=by simp only [M7,N8]
  omega
 have sa:1<=s * a:=Ms P.s1 P.a1;have sab:1<=s * a * b:=Ms sa P.b1;have q0:=Dz;unfold DF at q0;have q1:=LC.mp q0 (s - 1) (K7.mpr (by have:=P.s1;have:=P.s4;omega))
 have es:s - 1+1=s:=by have:=P.s1;omega
 have ea:a - 1+1=a:=by have:=P.a1;omega
 have eb:b - 1+1=b:=by have:=P.b1;omega
 have ec:c - 1+1=c:=by have:=P.c1;omega
 try dsimp only at q1
 rw [es] at q1;have q2:=LC.mp q1 (a - 1) (K7.mpr (o7 P.a1 P.s1 h1))
 try dsimp only at q2
 rw [ea] at q2;have q3:=LC.mp q2 (b - 1) (K7.mpr (o7 P.b1 sa h2))
 try dsimp only at q3
 rw [eb] at q3;have q4:=LC.mp q3 (c - 1) (K7.mpr (o7 P.c1 sab h3))
 try dsimp only at q4
 rw [ec] at q4;have q5:=LC.mp q4 kind (K7.mpr P.k5);rw [P.kind] at q5;simp only [Bool.not_true,Bool.false_or] at q5
 by_cases hk:kind=0
 ·subst hk;have q6:=LC.mp q5 u0 P.v0;have q7:=LC.mp q6 u1 P.v1;exact LC.mp q7 u2 P.v2
 ·have hb:MZ kind 0=false:=by
   cases h:MZ kind 0 with
   | false=>rfl
   | true=>exact absurd (MO h) hk
  rw [hb] at q5;have q6:=LC.mp q5 0 (Lb.mpr rfl);have q7:=LC.mp q6 0 (Lb.mpr rfl);have q8:=LC.mp q7 u2 P.v2;unfold tj at q8 ⊢;rw [HV hk P.k5];exact q8
def Par.tn {a b c s kind u0 u1 u2 e:Nat} (P:Par a b c s kind u0 u1 u2) (he:e<a * b * c) (fe:dX a b c kind u0 u1 u2 e=e):Tn (a * b * c) (lsum a b c) (dX a b c kind u0 u1 u2) s e:=by
 have q:=P.chk;unfold tj at q;have q':∀ p,p<a * b * c->_:=fun p hp=>LC.mp q p (K7.mpr hp);simp only [NQ,LC,K7] at q';refine { HM P.a1 P.b1 P.c1 with iS:=P.s1,flt:=fun x hx=>?_,fad:=fun x y hx hy=>?_,per:=fun x hx=>?_,elt:=he,fe:=fe }
 ·have z:=(q' x hx).1;exact Nat.le_of_ble_eq_true z
 ·exact MO ((q' x hx).2.2 y hy)
 ·rw [<- yV];exact MO (q' x hx).2.1
def GT.rel {n:Nat} {t t':List (List Nat)} {e:Nat} (g:GT n t e) (π:List Nat) (hl:π.length=n) (hm:∀ x,x∈π↔x<n) (sq:Sq n t')
  (h:∀ a b,a<n->b<n->tb t' (π.getD a 0) (π.getD b 0)=π.getD (tb t a b) 0):GT n t' (π.getD e 0):=by
 have into:∀ a,a<n->π.getD a 0<n:=fun a ha=>by
  have:π.getD a 0∈π:=by
   rw [K2,KZ (by omega)]
   exact MG _
  exact (hm _).mp this
 have onto:∀ i,i<n->∃ a,a<n/\π.getD a 0=i:=fun i hi=>by
  obtain ⟨a,ha,e'⟩:=P7.mp ((hm i).mpr hi);refine ⟨a,by omega,?_⟩
  rw [K2,KZ ha,e'];rfl
 refine ⟨⟨sq,fun i j hi hj=>?_⟩,into e g.elt,fun i hi=>?_,fun i hi=>?_,fun i hi=>?_,fun i j k hi hj hk=>?_⟩
 ·obtain ⟨a,ha,rfl⟩:=onto i hi;obtain ⟨b,hb,rfl⟩:=onto j hj;rw [h a b ha hb];exact into _ (g.lt a b ha hb)
 ·obtain ⟨a,ha,rfl⟩:=onto i hi;rw [h e a g.elt ha,g.unl a ha]
 ·obtain ⟨a,ha,rfl⟩:=onto i hi;rw [h a e ha g.elt,g.unr a ha]
 ·obtain ⟨a,ha,rfl⟩:=onto i hi;obtain ⟨b,hb,x,y⟩:=g.back a ha;exact ⟨π.getD b 0,into b hb,by rw [h a b ha hb,x],by rw [h b a hb ha,y]⟩
 ·obtain ⟨a,ha,rfl⟩:=onto i hi;obtain ⟨b,hb,rfl⟩:=onto j hj;obtain ⟨d,hd,rfl⟩:=onto k hk;rw [h a b ha hb,h b d hb hd,h _ d (g.lt a b ha hb) hd,h a _ ha (g.lt b d hb hd),g.assoc a b d ha hb hd]
def JR {m:Nat} {ad:Nat->Nat->Nat} {f:Nat->Nat} {s e:Nat} (T:Tn m ad f s e) (h:m * s<=23):GT (m * s) (mkT (m * s) (cyc m ad f s e)) 0 :=
 D2 (Ms T.pos T.iS) h (fun _ _ ha hb=>Dw T ha hb) (Ms T.pos T.iS) (fun _ ha=>HU T ha) (fun _ ha=>vQ T ha) (fun _ ha=>FP T ha) (fun _ _ _ ha hb hc=>oJ T ha hb hc)
def getD_some {α:Type} {l:List α} {i:Nat} (d:α) (h:i<l.length):l[i]?=some (l.getD i d):=by
 rw [K2,KZ h];rfl
def Jv {m:Nat} {ad:Nat->Nat->Nat} {f:Nat->Nat} {s e x y i j:Nat} (hx:x<m) (hy:y<m) :
  cyc m ad f s e (x+m * i) (y+m * j)=(if s<=i+j then ad (ad x (Nat.repeat f i y)) e else ad x (Nat.repeat f i y))+m * ((i+j) % s):=by
 have hm:0<m:=by omega
 have d1:(x+m * i) / m=i:=by rw [MF _ _ hm,Me hx,L7]
 have d2:(y+m * j) / m=j:=by rw [MF _ _ hm,Me hy,L7]
 have r1:(x+m * i) % m=x:=by rw [Mx,LJ hx]
 have r2:(y+m * j) % m=y:=by rw [Mx,LJ hy]
 unfold cyc;rw [d1,d2,r1,r2]
def Cy (a b c kind u0 u1 u2:Nat):dX a b c kind u0 u1 u2 0=0:=by
 unfold dX;have e1:(0:Nat) / (a * b) * u2 % c=0:=by rw [PY,Oc,OI]
 have e2:(0:Nat) / a % b=0:=by rw [PY,OI]
 simp only [e1,e2,OI]
 split <;> simp
def IM:Bool:=(K3 24).all fun m=>(K3 5).all fun s=>MZ m 0 || (MZ s 0 || !(unitsOf m s).isEmpty)
def Ip:IM=true:=by trivial
def GB {m s:Nat} (h1:1<=m) (h2:m<=23) (h3:1<=s) (h4:s<=4):unitsOf m s≠[]:=by
 have q0:=Ip;unfold IM at q0;have q1:=LC.mp q0 m (K7.mpr (by omega))
 have q2:=LC.mp q1 s (K7.mpr (by omega))
 have b1:MZ m 0=false:=by
  cases h:MZ m 0 with
  | false=>rfl
  | true=>have:=MO h;omega
 have b2:MZ s 0=false:=by
  cases h:MZ s 0 with
  | false=>rfl
  | true=>have:=MO h;omega
 rw [b1,b2] at q2;intro e;rw [e] at q2;exact absurd q2 (by decide)
def uz (m s i:Nat):((K3 (i+1)).filter fun u=>MZ (pw u m s) (1 % m))=(if pw i m s=1 % m then ((K3 i).filter fun u=>MZ (pw u m s) (1 % m))++[i] else (K3 i).filter fun u=>MZ (pw u m s) (1 % m)):=by
 rw [N0,OJ]
 by_cases h:pw i m s=1 % m
 ·rw [if_pos h];have:MZ (pw i m s) (1 % m)=true:=by rw [h];exact Nat.beq_refl _
  simp [this]
 ·rw [if_neg h];have:MZ (pw i m s) (1 % m)=false:=by
   cases q:MZ (pw i m s) (1 % m) with
   | false=>rfl
   | true=>exact absurd (MO q) h
  simp [this]
def Fw {π:List Nat} {k i:Nat} (h:π.Perm (K3 i)):(π.take k++i :: π.drop k).Perm (K3 (i+1)):=by
 refine List.perm_middle.trans ?_;rw [List.take_append_drop,N0];exact (List.Perm.cons i h).trans (List.perm_append_singleton i (K3 i)).symm
def JJ {rows:List (List Nat)} {n i j i' j' x:Nat} (hl:rows.length=n) (hr:∀ (k:Nat) (r:List Nat),rows[k]?=some r->r.length=n) (hi:i<n) (hj:j<n) :
  tb (rows.set i ((rows.getD i []).set j x)) i' j'=if i'=i/\j'=j then x else tb rows i' j':=by
 have hi2:i<rows.length:=by omega
 unfold tb
 by_cases e:i'=i
 ·subst e;have hrow:(rows.getD i' []).length=n:=hr i' _ (by rw [K2,KZ hi2];rfl)
  have e1:(rows.set i' ((rows.getD i' []).set j x)).getD i' []=(rows.getD i' []).set j x:=by
   rw [K2,Mt hi2];rfl
  rw [e1]
  by_cases e2:j'=j
  ·subst e2;rw [if_pos ⟨rfl,rfl⟩,K2,Mt (by omega)]
   rfl
  ·rw [if_neg (fun z=>e2 z.2),K2,ME (MX e2),<- K2]
 ·rw [if_neg (fun z=>e z.1)];have e1:(rows.set i ((rows.getD i []).set j x)).getD i' []=rows.getD i' []:=by
   rw [K2,ME (MX e),<- K2]
  rw [e1]
def mE {π:List Nat} {n a:Nat} (h:π.Perm (K3 n)) (ha:a<n):π.getD a 0<n:=by
 have hl:π.length=n:=by rw [h.length_eq,Ln]
 have:π.getD a 0∈π:=by
  rw [K2,KZ (by omega)]
  exact MG _
 exact K7.mp (h.mem_iff.mp this)
def zy {π:List Nat} {n a b:Nat} (h:π.Perm (K3 n)) (ha:a<n) (hb:b<n) (e:π.getD a 0=π.getD b 0):a=b:=by
 have hl:π.length=n:=by rw [h.length_eq,Ln]
 have nd:π.Nodup:=h.nodup_iff.mpr Nr;have ha':a<π.length:=by omega
 have hb':b<π.length:=by omega
 rw [K2,K2,KZ ha',KZ hb'] at e;exact (Of nd).mp e
structure Ren (n:Nat) (π:List Nat) (R rows:List (List Nat)) (A B:Nat):Prop where
 len:rows.length=n
 row:∀ (i:Nat) (r:List Nat),rows[i]?=some r->r.length=n
 at_:∀ a b,a<n->b<n->(a<A\/(a=A/\b<B))->tb rows (π.getD a 0) (π.getD b 0)=π.getD (tb R a b) 0
def Ren.put {n:Nat} {π:List Nat} {R rows:List (List Nat)} {A B:Nat} (h:Ren n π R rows A B) (hp:π.Perm (K3 n)) (hA:A<n) (hB:B<n) :
  Ren n π R (rows.set (π.getD A 0) ((rows.getD (π.getD A 0) []).set (π.getD B 0) (π.getD (tb R A B) 0))) A (B+1):=by
 have iA:=mE hp hA;have iB:=mE hp hB;refine ⟨by rw [NX];exact h.len,fun i r e=>?_,fun a b ha hb c=>?_⟩
 ·by_cases q:i=π.getD A 0
  ·subst q;rw [Mt (by rw [h.len];exact iA)] at e
   cases e;rw [NX];exact h.row (π.getD A 0) _ (getD_some [] (by rw [h.len];exact iA))
  ·rw [ME (MX q)] at e;exact h.row i r e
 ·rw [JJ h.len h.row iA iB]
  by_cases q:a=A/\b=B
  ·obtain ⟨rfl,rfl⟩:=q;rw [if_pos ⟨rfl,rfl⟩]
  ·rw [if_neg fun z=>q ⟨zy hp ha hA z.1,zy hp hb hB z.2⟩];refine h.at_ a b ha hb ?_;omega
def Ren.next {n:Nat} {π:List Nat} {R rows:List (List Nat)} {A:Nat} (h:Ren n π R rows A n):Ren n π R rows (A+1) 0 :=
 ⟨h.len,h.row,fun a b ha hb c=>h.at_ a b ha hb (by omega)⟩
def Ren.gt {n:Nat} {π:List Nat} {R rows:List (List Nat)} {e:Nat} (h:Ren n π R rows n 0) (hp:π.Perm (K3 n)) (g:GT n R e):GT n rows (π.getD e 0) :=
 g.rel π (by rw [hp.length_eq,Ln]) (fun x=>by rw [hp.mem_iff,K7]) ⟨h.len,g.pos,g.le,h.row⟩ fun a b ha hb=>h.at_ a b ha hb (.inl ha)
def Gu:List (List Nat):=[[2,2,1,3],[7,1,1,3],[5,1,1,4],[4,2,1,2],[3,3,1,2],[8,1,1,2],[4,1,1,2],[2,2,2,2],[3,1,1,4],[2,2,1,2],[5,1,1,2],[9,1,1,2]]
def gA (p:Nat->Bool) (i:Nat):(K3 (i+1)).filter p=if p i=true then (K3 i).filter p++[i] else (K3 i).filter p:=by
 rw [N0,OJ];cases q:p i with
 | true=>simp [q]
 | false=>simp [q]
def gP (p:Nat->Bool) (i:Nat):((K3 i).filter p).length<=i:=by
 have:=Nb p (K3 i);rw [Ln] at this;exact this
def sub_len:∀ {l1 l2:List Nat},l1.Nodup->(∀ x∈l1,x∈l2)->l1.length<=l2.length
 | [],_,_,_=>Mb _
 | a :: l1,l2,nd,h=>by
  have ha:a∈l2:=h a Le;rw [L9] at nd;have ih:=sub_len (l1:=l1) (l2:=l2.erase a) nd.2 fun x hx=>(List.mem_erase_of_ne (show x≠a from fun e=>nd.1 (by rw [<- e];exact hx))).mpr (h x (K8 _ hx))
  rw [List.length_erase_of_mem ha] at ih;have:0<l2.length:=N3 ha;rw [LN];omega
def gY {f:Nat->Nat}:∀ {l:List Nat},l.Nodup->(∀ x∈l,∀ y∈l,f x=f y->x=y)->(l.map f).Nodup
 | [],_,_=>by simp
 | a :: l,nd,h=>by
  rw [L9] at nd;rw [LY,L9];refine ⟨fun z=>?_,gY nd.2 fun x hx y hy=>h x (K8 _ hx) y (K8 _ hy)⟩;obtain ⟨b,hb,e⟩:=Lc.mp z;exact nd.1 (h b (K8 _ hb) a Le e ▸ hb)
def wL (p:Nat->Bool):∀ l:List Nat,l.length=(l.filter p).length+(l.filter fun y=>!p y).length
 | []=>rfl
 | a :: l=>by
  have ih:=wL p l;cases h:p a with
  | true =>
   rw [N1 h,Nm (by simp [h]),LN,LN]
   omega
  | false =>
   rw [Nm (by simp [h]),N1 (by simp [h]),LN,LN]
   omega
def php {n:Nat} {f:Nat->Nat} (h:∀ i,i<=n->f i<n):∃ i j,i<j/\j<=n/\f i=f j:=by
 by_cases q:∃ i j,i<j/\j<=n/\f i=f j
 ·exact q
 ·exfalso
  have nd:((K3 (n+1)).map f).Nodup:=gY Nr fun x hx y hy e=>by
   have hx':=K7.mp hx;have hy':=K7.mp hy;rcases MJ x y with z|z|z
   ·exact absurd ⟨x,y,z,by omega,e⟩ q
   ·exact z
   ·exact absurd ⟨y,x,z,by omega,e.symm⟩ q
  have:=sub_len nd (l2:=K3 n) fun x hx=>by
   obtain ⟨i,hi,rfl⟩:=Lc.mp hx;exact K7.mpr (h i (by have:=K7.mp hi;omega))
  simp at this;omega
section
variable {n:Nat} {t:List (List Nat)} {e:Nat}
def GT.mh (g:GT n t e) {a:Nat} (ha:a<n):bq n t e a<n:=(g.bk ha).1
def GT.uW (g:GT n t e) {a:Nat} (ha:a<n):tb t a (bq n t e a)=e:=(g.bk ha).2.1
def GT.zq (g:GT n t e) {a:Nat} (ha:a<n):tb t (bq n t e a) a=e:=(g.bk ha).2.2
def GT.fM (g:GT n t e) {x y z:Nat} (hx:x<n) (hy:y<n) (hz:z<n) (h:tb t x y=tb t x z):y=z:=by
 have hb:=g.mh hx;have h1:tb t (bq n t e x) (tb t x y)=tb t (bq n t e x) (tb t x z):=by rw [h]
 rw [<- g.assoc _ _ _ hb hx hy,<- g.assoc _ _ _ hb hx hz,g.zq hx,g.unl y hy,g.unl z hz] at h1;exact h1
def GT.idem (g:GT n t e) {x:Nat} (hx:x<n):tb t x x=x↔x=e:=by
 constructor
 ·intro h;refine g.fM hx hx g.elt ?_;rw [h,g.unr x hx]
 ·rintro rfl;exact g.unl _ hx
def GT.yP (g:GT n t e) {a b:Nat} (ha:a<n) (hb:b<n) (h:tb t a b=e):b=bq n t e a :=
 g.fM ha hb (g.mh ha) (h.trans (g.uW ha).symm)
def bp (t:List (List Nat)) (e a:Nat):Nat->Nat
 | 0=>e
 | k+1=>tb t (bp t e a k) a
variable {a:Nat}
def b7 (g:GT n t e) (ha:a<n):∀ k,bp t e a k<n
 | 0=>g.elt
 | k+1=>g.lt _ _ (b7 g ha k) ha
def kQ (g:GT n t e) (ha:a<n):bp t e a 1=a:=g.unl a ha
def fZ (g:GT n t e) (ha:a<n) (i:Nat):∀ j,bp t e a (i+j)=tb t (bp t e a i) (bp t e a j)
 | 0=>(g.unr _ (b7 g ha i)).symm
 | j+1=>by
  show tb t (bp t e a (i+j)) a=tb t (bp t e a i) (tb t (bp t e a j) a);rw [fZ g ha i j,g.assoc _ _ _ (b7 g ha i) (b7 g ha j) ha]
def HH (g:GT n t e) (ha:a<n):∃ k,k<n/\bp t e a (k+1)=e:=by
 obtain ⟨i,j,hij,hj,q⟩:=php (f:=bp t e a) (n:=n) fun i _=>b7 g ha i;refine ⟨j - i - 1,by omega,?_⟩
 have e1:j=i+(j - i - 1+1):=by omega
 rw [e1,fZ g ha] at q;refine (g.fM (b7 g ha i) (b7 g ha _) g.elt ?_);rw [<- q,g.unr _ (b7 g ha i)]
def a7 (n:Nat) (t:List (List Nat)) (e a:Nat):Nat:=((K3 n).find? fun k=>decide (bp t e a (k+1)=e)).getD 0+1
def dW (g:GT n t e) (ha:a<n):a7 n t e a<=n/\bp t e a (a7 n t e a)=e/\∀ k,1<=k->k<a7 n t e a->bp t e a k≠e:=by
 obtain ⟨k,hk,h⟩:=HH g ha;unfold a7;cases q:(K3 n).find? (fun k=>decide (bp t e a (k+1)=e)) with
 | none =>
  rw [O0] at q;have:=q k hk;simp at this;exact absurd h this
 | some c =>
  rw [OZ] at q;obtain ⟨h1,h2,h3⟩:=q;have h2':c<n:=by simpa using h2
  refine ⟨by show c+1<=n;omega,by simpa using h1,fun k k1 k2 z=>?_⟩
  have k2':k<c+1:=k2;have:=h3 (k - 1) (by omega)
  rw [show k - 1+1=k by omega,z] at this
  simp at this
def fv:1<=a7 n t e a:=Nat.succ_le_succ (Mb _)
def lJ (g:GT n t e) (ha:a<n) {o:Nat} (h:bp t e a o=e):∀ k,bp t e a (o * k)=e
 | 0=>rfl
 | k+1=>by rw [Nj,fZ g ha,lJ g ha h k,h,g.unl e g.elt]
def zG (g:GT n t e) (ha:a<n) (k:Nat):bp t e a (k % a7 n t e a)=bp t e a k:=by
 have h:=(dW g ha).2.1
 conv=>rhs;rw [<- NG k (a7 n t e a),fZ g ha,lJ g ha h,g.unl _ (b7 g ha _)]
def Ad (g:GT n t e) (ha:a<n) {i j:Nat} (hi:i<a7 n t e a) (hj:j<a7 n t e a) (h:bp t e a i=bp t e a j):i=j:=by
 have key:∀ {i j:Nat},i<j->j<a7 n t e a->bp t e a i=bp t e a j->False:=fun {i j} hij hj h=>by
  have e1:j=i+(j - i):=by omega
  rw [e1,fZ g ha] at h;have:=g.fM (b7 g ha i) (b7 g ha (j - i)) g.elt (by rw [<- h,g.unr _ (b7 g ha i)])
  exact (dW g ha).2.2 (j - i) (by omega) (by omega) this
 rcases MJ i j with z|z|z
 ·exact (key z hj h).elim
 ·exact z
 ·exact (key z hi h.symm).elim
def Bi (g:GT n t e) (ha:a<n) {k:Nat} (h:bp t e a k=e):a7 n t e a ∣ k:=by
 have h1:=zG g ha k;rw [h] at h1;have h2:k % a7 n t e a<a7 n t e a:=Lu _ fv;have h3:=Ad g ha h2 (i:=k % a7 n t e a) (j:=0) fv h1;exact Mi h3
def zx (g:GT n t e) {P:List Nat} (nd:P.Nodup) (lt:∀ h∈P,h<n) (he:e∈P) (cl:∀ h∈P,∀ k∈P,tb t h k∈P) (bk:∀ h∈P,bq n t e h∈P) :
  ∀ (k:Nat) (S:List Nat),S.length<=k->S.Nodup->(∀ x∈S,x<n)->(∀ x∈S,∀ h∈P,tb t x h∈S)->P.length ∣ S.length
 | 0,S,hk,_,_,_=>by
  have:S.length=0:=by omega
  rw [this];exact Nat.dvd_zero _
 | k+1,[],_,_,_,_=>Nat.dvd_zero _
 | k+1,x :: S,hk,hn,hl,hc=>by
  have hx:x<n:=hl x Le
  let C:=P.map (tb t x)
  have cn:C.Nodup:=gY nd fun y hy z hz q=>g.fM hx (lt y hy) (lt z hz) q;have cs:∀ y∈C,y∈x :: S:=fun y hy=>by
   obtain ⟨h,hh,rfl⟩:=Lc.mp hy;exact hc x Le h hh
  have xC:x∈C:=Lc.mpr ⟨e,he,g.unr x hx⟩;have ih:=zx g nd lt he cl bk k ((x :: S).filter fun y=>!decide (y∈C)) (by
    have:((x :: S).filter fun y=>!decide (y∈C))=S.filter fun y=>!decide (y∈C):=by
     rw [Nm];simp [xC]
    rw [this];have:=Nb (fun y=>!decide (y∈C)) S;rw [LN] at hk;omega)
   (hn.sublist Qi) (fun y hy=>hl y (Mc.mp hy).1) fun y hy h hh=>by
    have hy1:=Mc.mp hy;have hyn:=hl y hy1.1;refine Mc.mpr ⟨hc y hy1.1 h hh,?_⟩;have ny:y∉C:=by simpa using hy1.2
    simp only [OY,decide_eq_false_iff_not];intro z;obtain ⟨h',hh',q⟩:=Lc.mp z;have hb:=bk h hh;refine ny (Lc.mpr ⟨tb t h' (bq n t e h),cl h' hh' _ hb,?_⟩);rw [<- g.assoc _ _ _ hx (lt h' hh') (lt _ hb),q,g.assoc _ _ _ hyn (lt h hh) (lt _ hb),g.uW (lt h hh),g.unr y hyn]
  have e1:((x :: S).filter fun y=>decide (y∈C)).length=P.length:=by
   have l1:((x :: S).filter fun y=>decide (y∈C)).length<=C.length:=sub_len (hn.sublist Qi) fun y hy=>by simpa using (Mc.mp hy).2
   have l2:C.length<=((x :: S).filter fun y=>decide (y∈C)).length:=sub_len cn fun y hy=>Mc.mpr ⟨cs y hy,by simpa using hy⟩
   have l3:C.length=P.length:=KY ..;omega
  have e2:(x :: S).length=((x :: S).filter fun y=>decide (y∈C)).length+((x :: S).filter fun y=>!decide (y∈C)).length:=wL _ _;rw [e2,e1];exact (Nat.dvd_add_right (Nat.dvd_refl _)).mpr ih
def DD (g:GT n t e) (ha:a<n):a7 n t e a ∣ n:=by
 let P:=(K3 (a7 n t e a)).map (bp t e a)
 have mem:∀ k,bp t e a k∈P:=fun k=>by
  rw [<- zG g ha k];exact Lc.mpr ⟨_,K7.mpr (Lu _ fv),rfl⟩
 have frm:∀ h∈P,∃ k,k<a7 n t e a/\bp t e a k=h:=fun h hh=>by
  obtain ⟨k,hk,q⟩:=Lc.mp hh;exact ⟨k,K7.mp hk,q⟩
 have r:=zx g (P:=P) (gY Nr fun x hx y hy q=>Ad g ha (K7.mp hx) (K7.mp hy) q)
  (fun h hh=>by obtain ⟨k,_,rfl⟩:=frm h hh;exact b7 g ha k) (mem 0)
  (fun h hh k hk=>by
   obtain ⟨i,_,rfl⟩:=frm h hh;obtain ⟨j,_,rfl⟩:=frm k hk;rw [<- fZ g ha];exact mem _)
  (fun h hh=>by
   obtain ⟨i,hi,rfl⟩:=frm h hh;have q:tb t (bp t e a i) (bp t e a (a7 n t e a - i))=e:=by
    rw [<- fZ g ha,show i+(a7 n t e a - i)=a7 n t e a by omega]
    exact (dW g ha).2.1
   rw [<- g.yP (b7 g ha i) (b7 g ha _) q];exact mem _)
  n (K3 n) (by simp) Nr (fun x hx=>K7.mp hx) fun x hx h hh=>by
   obtain ⟨k,_,rfl⟩:=frm h hh;exact K7.mpr (g.lt _ _ (K7.mp hx) (b7 g ha k))
 have e1:P.length=a7 n t e a:=by simp [P]
 rw [e1,Ln] at r;exact r
def JX (g:GT n t e) (ha:a<n):bp t e a n=e:=by
 obtain ⟨k,hk⟩:=DD g ha
 conv=>lhs;rw [hk]
 exact lJ g ha (dW g ha).2.1 k
end
def CW {n:Nat} {t:List (List Nat)} {e:Nat} (g:GT n t e):((K3 n).filter fun a=>decide (tb t a a=a))[0]?=some e:=by
 have he:e∈(K3 n).filter fun a=>decide (tb t a a=a):=Mc.mpr ⟨K7.mpr g.elt,by simpa using (g.idem g.elt).mpr rfl⟩
 cases q:(K3 n).filter fun a=>decide (tb t a a=a) with
 | nil=>rw [q] at he;cases he
 | cons x r =>
  have hx:x∈(K3 n).filter fun a=>decide (tb t a a=a):=by rw [q];exact Le
  have h1:=Mc.mp hx;have h2:=(g.idem (K7.mp h1.1)).mp (by simpa using h1.2)
  rw [h2];rfl
structure bU (l:List Nat) (k:Nat):Prop where
 pos:1<=k
 all:∀ s∈l,k % s=0
 least:∀ j,1<=j->j<k->∃ s,s∈l/\j % s≠0
def bU.uni {l:List Nat} {k k':Nat} (h:bU l k) (h':bU l k'):k=k':=by
 rcases MJ k k' with z|z|z
 ·obtain ⟨s,hs,q⟩:=h'.least k h.pos z;exact absurd (h.all s hs) q
 ·exact z
 ·obtain ⟨s,hs,q⟩:=h.least k' h'.pos z;exact absurd (h'.all s hs) q
def bnd:List Nat->Nat
 | []=>1
 | s :: l=>s * bnd l
def vV:∀ {l:List Nat},(∀ s∈l,1<=s)->1<=bnd l
 | [],_=>Lj _
 | s :: l,h=>Ms (h s Le) (vV fun x hx=>h x (K8 _ hx))
def vp:∀ {l:List Nat} {s:Nat},s∈l->bnd l % s=0
 | a :: l,s,h=>by
  rcases LL.mp h with z|z
  ·subst z;exact O2 s (bnd l)
  ·have ih:=vp z;obtain ⟨c,hc⟩:=Mi ih;show a * bnd l % s=0;rw [hc,N8];exact O2 s _
def t8:∀ {l r:List Nat},l.Pairwise (· < ·)->r.Pairwise (· < ·)->(∀ x,x∈l↔x∈r)->l=r
 | [],[],_,_,_=>rfl
 | [],b :: r,_,_,h=>absurd ((h b).mpr Le) (by simp)
 | a :: l,[],_,_,h=>absurd ((h a).mp Le) (by simp)
 | a :: l,b :: r,hl,hr,h=>by
  rw [Ny] at hl hr;have e:a=b:=by
   rcases LL.mp ((h a).mp Le) with z|z
   ·exact z
   ·rcases LL.mp ((h b).mpr Le) with y|y
    ·exact y.symm
    ·have h1:=hr.1 a z;have h2:=hl.1 b y;omega
  subst e;refine congrArg (a :: ·) (t8 hl.2 hr.2 fun x=>?_);constructor
  ·intro hx;rcases LL.mp ((h x).mp (K8 _ hx)) with z|z
   ·have:=hl.1 x hx;omega
   ·exact z
  ·intro hx;rcases LL.mp ((h x).mpr (K8 _ hx)) with z|z
   ·have:=hr.1 x hx;omega
   ·exact z
def oY:∀ {l:List Nat},l.Nodup->l.Pairwise (·<=·)->l.Pairwise (· < ·)
 | [],_,_=>.nil
 | a :: l,nd,h=>by
  rw [L9] at nd;rw [Ny] at h ⊢;refine ⟨fun b hb=>?_,oY nd.2 h.2⟩;have h1:=h.1 b hb;have h2:a≠b:=fun z=>nd.1 (by rw [z];exact hb)
  omega
def bW {l:List Nat} (h:l.Pairwise (· < ·)):l.Nodup:=h.imp fun z=>Lz z
def fI {l:List Nat} {n:Nat} (nd:l.Nodup) (h:∀ x∈l,x<n):l.length<=n:=by
 have:=sub_len nd (l2:=K3 n) fun x hx=>K7.mpr (h x hx)
 simpa using this
section
variable {n:Nat} {t:List (List Nat)} {e:Nat}
def Dl (g:GT n t e) {x:Nat} (hx:x<n):∀ (l:List Nat) {a:Nat},a<n->(∀ y∈l,y<n)->prd t (tb t x a) l=tb t x (prd t a l)
 | [],_,_,_=>rfl
 | y :: l,a,ha,hl=>by
  have hy:=hl y Le;show prd t (tb t (tb t x a) y) l=tb t x (prd t (tb t a y) l);rw [g.assoc x a y hx ha hy];exact Dl g hx l (g.lt a y ha hy) fun z hz=>hl z (K8 _ hz)
def yX (g:GT n t e) {x:Nat} (hx:x<n) {l:List Nat} (hl:∀ y∈l,y<n):prd t x l=tb t x (prd t e l):=by
 rw [<- Dl g hx l g.elt hl,g.unr x hx]
def Ic (a:Nat) (l r:List Nat):prd t a (l++r)=prd t (prd t a l) r:=by
 unfold prd;rw [List.foldl_append]
structure Gen (n:Nat) (t:List (List Nat)) (e:Nat) (S P:List Nat):Prop where
 srt:P.Pairwise (· < ·)
 lt:∀ x∈P,x<n
 un:e∈P
 cl:∀ x∈P,∀ s∈S,tb t x s∈P
 wd:∀ x∈P,∃ l,(∀ y∈l,y∈S)/\prd t e l=x
structure IsPart (n:Nat) (t:List (List Nat)) (P:List Nat):Prop where
 srt:P.Pairwise (· < ·)
 lt:∀ x∈P,x<n
 ne:P≠[]
 cl:∀ x∈P,∀ y∈P,tb t x y∈P
variable {S P:List Nat}
def Gen.walk (G:Gen n t e S P):∀ (l:List Nat) {x:Nat},x∈P->(∀ y∈l,y∈S)->prd t x l∈P
 | [],_,hx,_=>hx
 | y :: l,x,hx,hl=>G.walk l (G.cl x hx y (hl y Le)) fun z hz=>hl z (K8 _ hz)
def Gen.part (G:Gen n t e S P) (g:GT n t e) (hS:∀ s∈S,s<n):IsPart n t P:=by
 refine ⟨G.srt,G.lt,N2 G.un,fun x hx y hy=>?_⟩;obtain ⟨l,hl,rfl⟩:=G.wd y hy;rw [<- yX g (G.lt x hx) fun z hz=>hS z (hl z hz)];exact G.walk l hx hl
def IsPart.pow (h:IsPart n t P) (g:GT n t e) {x:Nat} (hx:x∈P):∀ k,bp t e x (k+1)∈P
 | 0=>by rw [kQ g (h.lt x hx)];exact hx
 | k+1=>h.cl _ (h.pow g hx k) _ hx
def IsPart.un (h:IsPart n t P) (g:GT n t e):e∈P:=by
 obtain ⟨x,hx⟩:=List.exists_mem_of_ne_nil _ h.ne;have o:=dW g (h.lt x hx);have:=h.pow g hx (a7 n t e x - 1);rw [show a7 n t e x - 1+1=a7 n t e x by have:=fv (n:=n) (t:=t) (e:=e) (a:=x);omega,o.2.1] at this
 exact this
def IsPart.bk (h:IsPart n t P) (g:GT n t e) {x:Nat} (hx:x∈P):bq n t e x∈P:=by
 have hn:=h.lt x hx;have o:=dW g hn;have op:1<=a7 n t e x:=fv;have q:tb t x (bp t e x (a7 n t e x - 1))=e:=by
  have:=fZ g hn 1 (a7 n t e x - 1);rw [show 1+(a7 n t e x - 1)=a7 n t e x by omega,o.2.1,kQ g hn] at this
  exact this.symm
 rw [<- g.yP hn (b7 g hn _) q];cases h1:a7 n t e x - 1 with
 | zero=>exact h.un g
 | succ k=>exact h.pow g hx k
def IsPart.len (h:IsPart n t P):P.length<=n:=fI (bW h.srt) h.lt
def Gen.len (G:Gen n t e S P):P.length<=n:=fI (bW G.srt) G.lt
def Gen.has (G:Gen n t e S P) (g:GT n t e) {s:Nat} (hs:s∈S) (hn:s<n):s∈P:=by
 have:=G.cl e G.un s hs;rw [g.unl s hn] at this;exact this
structure lY (n:Nat) (t:List (List Nat)) (e:Nat) (S F:List Nat) (A:Nat):Prop where
 nd:F.Nodup
 lt:∀ x∈F,x<n
 un:e∈F
 le:A<=F.length
 cl:∀ i x,i<A->F[i]?=some x->∀ s∈S,tb t x s∈F
 wd:∀ x∈F,∃ l,(∀ y∈l,y∈S)/\prd t e l=x
def lY.len {F:List Nat} {A:Nat} (G:lY n t e S F A):F.length<=n:=fI G.nd G.lt
def lY.put {F:List Nat} {A x s:Nat} (G:lY n t e S F A) (g:GT n t e) (hx:x∈F) (hs:s∈S) (hn:s<n) (h:tb t x s∉F):lY n t e S (F++[tb t x s]) A:=by
 refine ⟨?_,fun y hy=>?_,MD _ G.un,by rw [Lg];have:=G.le;omega,fun i y hi e' r hr=>?_,fun y hy=>?_⟩
 ·rw [OW];exact ⟨G.nd,by simp,fun a ha b hb=>by rw [Lb.mp hb];exact fun z=>h (z ▸ ha)⟩
 ·rcases LP.mp hy with z|z
  ·exact G.lt y z
  ·rw [Lb.mp z];exact g.lt x s (G.lt x hx) hn
 ·rw [Lq (Lm hi G.le)] at e';exact MD _ (G.cl i y hi e' r hr)
 ·rcases LP.mp hy with z|z
  ·exact G.wd y z
  ·obtain ⟨l,hl,q⟩:=G.wd x hx;refine ⟨l++[s],fun u hu=>?_,?_⟩
   ·rcases LP.mp hu with z' | z'
    ·exact hl u z'
    ·rw [Lb.mp z'];exact hs
   ·rw [Ic,q,Lb.mp z];rfl
def lY.next {F:List Nat} {A x:Nat} (G:lY n t e S F A) (hx:F[A]?=some x) (h:∀ s∈S,tb t x s∈F):lY n t e S F (A+1) :=
 ⟨G.nd,G.lt,G.un,(K0.mp hx).1,fun i y hi e'=>by
  rcases LD i A with z|z
  ·exact G.cl i y z e'
  ·have:i=A:=by omega
   subst this;rw [hx] at e';cases e';exact h,G.wd⟩
def lY.gen {F P:List Nat} {A:Nat} (G:lY n t e S F A) (hA:F.length<=A) (hp:P.Perm F) (hs:P.Pairwise (·<=·)):Gen n t e S P:=by
 refine ⟨oY (hp.nodup_iff.mpr G.nd) hs,fun x hx=>G.lt x (hp.mem_iff.mp hx),hp.mem_iff.mpr G.un,fun x hx s hs'=>?_,fun x hx=>G.wd x (hp.mem_iff.mp hx)⟩;obtain ⟨i,hi,e'⟩:=P7.mp (hp.mem_iff.mp hx);exact hp.mem_iff.mpr (G.cl i x (by omega) (by rw [KZ hi,e']) s hs')
end
def thg (c:Int) (k n:Nat):Nat:=((c % 2147483647).toNat * 48271+69621 * k * k+7 * k) % 2147483629 * (((c % 2147483647).toNat * 48271+69621 * k * k+7 * k) % 2147483629) % 2147483587 % n
def DN (c:Int) (k:Nat) {n:Nat} (h:1<=n):thg c k n<n:=Lu _ h
structure yF (n:Nat) (t:List (List Nat)) (e:Nat) (R:List Nat) (L:List (List Nat)):Prop where
 ne:∀ s∈L,s≠[]
 srt:∀ s∈L,s.Pairwise (· < ·)
 lt:∀ s∈L,∀ x∈s,x<n
 len:∀ s∈L,s.length=R.length
 side:∀ s∈L,∀ x∈s,tb t (bq n t e (s.getD 0 0)) x∈R
 heads:(L.map fun s=>s.getD 0 0).Pairwise (· < ·)
 all:L.flatten.Perm (K3 n)
section
variable {n:Nat} {t:List (List Nat)} {e:Nat} {R:List Nat}
def dU (g:GT n t e) (p:IsPart n t R) {x y:Nat} (hx:x<n) (hy:y<n):tb t (bq n t e x) y∈R↔∃ h,h∈R/\tb t x h=y:=by
 have hb:=g.mh hx;constructor
 ·intro h;refine ⟨_,h,?_⟩;rw [<- g.assoc _ _ _ hx hb hy,g.uW hx,g.unl y hy]
 ·rintro ⟨h,hh,rfl⟩;rw [<- g.assoc _ _ _ hb hx (p.lt h hh),g.zq hx,g.unl h (p.lt h hh)];exact hh
def wI (g:GT n t e) (p:IsPart n t R) {x:Nat} (hx:x<n):tb t (bq n t e x) x∈R:=by
 rw [g.zq hx];exact p.un g
def jB (g:GT n t e) (p:IsPart n t R) {a x y:Nat} (ha:a<n) (hx:x<n) (hy:y<n) (h1:tb t (bq n t e a) x∈R) (h2:tb t (bq n t e a) y∈R):tb t (bq n t e x) y∈R:=by
 obtain ⟨k1,hk1,rfl⟩:=(dU g p ha hx).mp h1;obtain ⟨k2,hk2,rfl⟩:=(dU g p ha hy).mp h2;have l1:=p.lt k1 hk1;have l2:=p.lt k2 hk2;have lb:=g.mh l1;refine (dU g p hx hy).mpr ⟨tb t (bq n t e k1) k2,p.cl _ (p.bk g hk1) _ hk2,?_⟩;rw [g.assoc _ _ _ ha l1 (g.lt _ _ lb l2),<- g.assoc k1 _ _ l1 lb l2,g.uW l1,g.unl k2 l2]
def dz (g:GT n t e) (p:IsPart n t R) {a x:Nat} (ha:a<n) (hx:x<n) (h:tb t (bq n t e a) x∈R):tb t (bq n t e x) a∈R:=jB g p ha hx ha h (wI g p ha)
structure dE (n:Nat) (t:List (List Nat)) (e:Nat) (R:List Nat) (L:List (List Nat)) (i:Nat):Prop where
 ne:∀ s∈L,s≠[]
 srt:∀ s∈L,s.Pairwise (· < ·)
 lt:∀ s∈L,∀ x∈s,x<n
 len:∀ s∈L,s.length=R.length
 full:∀ s∈L,∀ y,y<n->(y∈s↔tb t (bq n t e (s.getD 0 0)) y∈R)
 heads:(L.map fun s=>s.getD 0 0).Pairwise (· < ·)
 hl:∀ s∈L,s.getD 0 0<i
 nd:L.flatten.Nodup
 cov:∀ y,y<i->y∈L.flatten
def dE.nil:dE n t e R [] 0 :=
 ⟨by simp,by simp,by simp,by simp,by simp,by simp,by simp,by simp,fun y h=>absurd h (by omega)⟩
def head_mem {s:List Nat} (h:s≠[]):s.getD 0 0∈s:=by
 cases s with
 | nil=>exact absurd rfl h
 | cons a r=>simp
def dE.old {L:List (List Nat)} {i:Nat} (S:dE n t e R L i) (h:i∈L.flatten):dE n t e R L (i+1) :=
 ⟨S.ne,S.srt,S.lt,S.len,S.full,S.heads,fun s hs=>OV (S.hl s hs),S.nd,fun y hy=>by
  rcases LD y i with z|z
  ·exact S.cov y z
  ·have:y=i:=by omega
   rw [this];exact h⟩
def dE.new {L:List (List Nat)} {i:Nat} {s:List Nat} (S:dE n t e R L i) (g:GT n t e) (p:IsPart n t R) (hi:i<n) (h:i∉L.flatten) (hs:s.Pairwise (· < ·)) (hm:∀ y,y∈s↔∃ k,k∈R/\tb t i k=y):dE n t e R (L++[s]) (i+1):=by
 have hlt:∀ y∈s,y<n:=fun y hy=>by
  obtain ⟨k,hk,rfl⟩:=(hm y).mp hy;exact g.lt _ _ hi (p.lt k hk)
 have his:i∈s:=(hm i).mpr ⟨e,p.un g,g.unr i hi⟩;have hne:s≠[]:=N2 his;have apart:∀ y∈s,y∉L.flatten:=fun y hy hf=>by
  obtain ⟨s',hs',hy'⟩:=M1.mp hf;have hn:=hlt y hy;have h0:=S.lt s' hs' _ (head_mem (S.ne s' hs'));have q1:=(S.full s' hs' y hn).mp hy';have q2:tb t (bq n t e i) y∈R:=(dU g p hi hn).mpr ((hm y).mp hy);have q3:=dz g p hi hn q2;have q4:=jB g p hn h0 hi (dz g p h0 hn q1) q3;exact h (M1.mpr ⟨s',hs',(S.full s' hs' i hi).mpr q4⟩)
 have hge:∀ y∈s,i<=y:=fun y hy=>by
  rcases LD y i with z|z
  ·exact absurd (S.cov y z) (apart y hy)
  ·exact z
 have h0:s.getD 0 0=i:=by
  have h1:=hge _ (head_mem hne);cases s with
  | nil=>exact absurd rfl hne
  | cons a r =>
   have h1:i<=a:=h1;show a=i;rcases LL.mp his with z|z
   ·exact z.symm
   ·have:=(Ny.mp hs).1 i z;omega
 have hnd:=bW hs;have hlen:s.length=R.length:=by
  have m1:(R.map (tb t i)).Nodup:=gY (bW p.srt) fun x hx y hy q=>g.fM hi (p.lt x hx) (p.lt y hy) q;have e1:=sub_len hnd (l2:=R.map (tb t i)) fun y hy=>by
   obtain ⟨k,hk,q⟩:=(hm y).mp hy;exact Lc.mpr ⟨k,hk,q⟩
  have e2:=sub_len m1 (l2:=s) fun y hy=>by
   obtain ⟨k,hk,q⟩:=Lc.mp hy;exact (hm y).mpr ⟨k,hk,q⟩
  rw [KY] at e1 e2;omega
 have two:∀ {Z:List Nat->Prop},(∀ s'∈L,Z s')->Z s->∀ s'∈L++[s],Z s':=fun {Z} a b s' hs'=>by
  rcases LP.mp hs' with z|z
  ·exact a s' z
  ·rw [Lb.mp z];exact b
 refine ⟨two S.ne hne,two S.srt hs,two S.lt hlt,two S.len hlen,two S.full fun y hy=>?_,?_,two (fun s' hs'=>OV (S.hl s' hs')) (by omega),?_,fun y hy=>?_⟩
 ·rw [h0,hm y];exact (dU g p hi hy).symm
 ·rw [LR];refine List.pairwise_append.mpr ⟨S.heads,by simp,fun a ha b hb=>?_⟩
  obtain ⟨s',hs',rfl⟩:=Lc.mp ha;have:b=s.getD 0 0:=by simpa using hb
  rw [this,h0];exact S.hl s' hs'
 ·rw [Qj];refine OW.mpr ⟨S.nd,by simpa using hnd,fun x hx y hy q=>?_⟩
  have hy':y∈s:=by simpa using hy
  rw [q] at hx;exact apart y hy' hx
 ·rw [Qj];rcases LD y i with z|z
  ·exact MD _ (S.cov y z)
  ·have:y=i:=by omega
   rw [this];exact LM _ (by simpa using his)
def dE.fin {L:List (List Nat)} (S:dE n t e R L n):yF n t e R L:=by
 refine ⟨S.ne,S.srt,S.lt,S.len,fun s hs x hx=>(S.full s hs x (S.lt s hs x hx)).mp hx,S.heads,?_⟩;refine (List.perm_ext_iff_of_nodup S.nd Nr).mpr fun x=>⟨fun hx=>?_,fun hx=>S.cov x (K7.mp hx)⟩;obtain ⟨s,hs,hx'⟩:=M1.mp hx;exact K7.mpr (S.lt s hs x hx')
end
section
variable {n:Nat} {t:List (List Nat)} {e:Nat} {S F:List Nat} {W:List (List Nat)}
end
section
variable {n:Nat} {t:List (List Nat)} {e:Nat} {R:List Nat}
def BI {s:List Nat} (hs:s.Pairwise (· < ·)) {x:Nat} (hx:x∈s):s.getD 0 0<=x:=by
 cases s with
 | nil=>exact absurd hx (by simp)
 | cons a r =>
  show a<=x;rcases LL.mp hx with rfl|z
  ·exact Lj _
  ·exact Nh ((Ny.mp hs).1 x z)
def dE.step {L:List (List Nat)} {i:Nat} {s:List Nat} (S:dE n t e R L i) (g:GT n t e) (p:IsPart n t R) (hi:i<n) (hs:s.Pairwise (· < ·)) (hm:∀ y,y∈s↔∃ k,k∈R/\tb t i k=y) :
  i∈s/\(s.getD 0 0=i->i∉L.flatten)/\(s.getD 0 0≠i->i∈L.flatten):=by
 have is:i∈s:=(hm i).mpr ⟨e,p.un g,g.unr i hi⟩;have hh:=head_mem (N2 is);have le:=BI hs is;refine ⟨is,fun eh hf=>?_,fun eh=>?_⟩
 ·obtain ⟨s',hs',hi'⟩:=M1.mp hf;have h1:=S.hl s' hs';have h2:=(S.full s' hs' i hi).mp hi';have h3:=dz g p (by omega) hi h2
  obtain ⟨k,hk,ek⟩:=(dU g p hi (by omega)).mp h3
  have:=BI hs ((hm _).mpr ⟨k,hk,ek⟩);omega
 ·obtain ⟨s',hs',hi'⟩:=M1.mp (S.cov (s.getD 0 0) (by omega))
  have h1:=S.hl s' hs';have h2:=(S.full s' hs' _ (by omega)).mp hi'
  have h3:=dz g p (by omega) (by omega) h2
  have h4:=(dU g p hi (by omega)).mpr ((hm _).mp hh)
  have h5:=dz g p hi (by omega) h4
  exact M1.mpr ⟨s',hs',(S.full s' hs' i hi).mpr (jB g p (by omega) (by omega) hi h3 h5)⟩
end
section
variable {t:List (List Nat)} {R M:List Nat} {m:Nat}
def fV (t:List (List Nat)) (R M:List Nat) (m j k:Nat):Prop:=M.getD (R.idxOf (tb t (R.getD j 0) (R.getD k 0))) 0=(M.getD j 0+M.getD k 0) % m
def qG (t:List (List Nat)) (R M:List Nat) (m:Nat):Option (Nat×Nat)->Prop
 | none=>∀ j,j<R.length->∀ k,k<R.length->fV t R M m j k
 | some (a,b)=>∃ j k,j<R.length/\k<R.length/\R.getD j 0=a/\R.getD k 0=b/\¬ fV t R M m j k/\(∀ j',j' < j->∀ k',k' < R.length->fV t R M m j' k')/\∀ k',k' < k->fV t R M m j k'
def qG.uni {o o':Option (Nat×Nat)} (h:qG t R M m o) (h':qG t R M m o'):o=o':=by
 cases o with
 | none =>
  cases o' with
  | none=>rfl
  | some p =>
   obtain ⟨a,b⟩:=p;obtain ⟨j,k,hj,hk,_,_,q,_⟩:=h';exact absurd (h j hj k hk) q
 | some p =>
  obtain ⟨a,b⟩:=p;obtain ⟨j,k,hj,hk,ea,eb,q,q1,q2⟩:=h;cases o' with
  | none=>exact absurd (h' j hj k hk) q
  | some p' =>
   obtain ⟨a',b'⟩:=p';obtain ⟨j',k',hj',hk',ea',eb',q',q1',q2'⟩:=h';have ej:j=j':=by
    rcases MJ j j' with z|z|z
    ·exact absurd (q1' j z k hk) q
    ·exact z
    ·exact absurd (q1 j' z k' hk') q'
   subst ej;have ek:k=k':=by
    rcases MJ k k' with z|z|z
    ·exact absurd (q2' k z) q
    ·exact z
    ·exact absurd (q2 k' z) q'
   subst ek;rw [<- ea,<- eb,<- ea',<- eb']
def qJ {l:List Nat} {x:Nat} (h:x∈l):l[l.idxOf x]?=some x:=by
 rw [KZ (LH h)];simp
def mz:∀ {l:List Nat} {x i:Nat},i<l.idxOf x->l[i]?≠some x
 | [],_,_,h=>absurd h (by simp)
 | y :: l,x,i,h=>by
  rw [List.idxOf_cons] at h
  by_cases e:y=x
  ·subst e;simp at h
  ·have hb:(y == x)=false:=by simp [e]
   rw [hb] at h;cases i with
   | zero=>simpa using e
   | succ i =>
    have h':i<l.idxOf x:=by simpa using h
    simpa using mz h'
end
section
variable {n:Nat} {t:List (List Nat)} {e:Nat} {R:List Nat}
def kK (n:Nat) (t:List (List Nat)) (e:Nat) (R:List Nat) (x:Nat):Bool:=decide (∀ y,y<x->tb t (bq n t e y) x∉R)
def c9 (n:Nat) (t:List (List Nat)) (e:Nat) (R:List Nat) (i:Nat):List Nat:=(K3 i).filter (kK n t e R)
def aS (n:Nat) (t:List (List Nat)) (e:Nat) (R:List Nat):List Nat:=c9 n t e R n
def kC {i x:Nat}:x∈c9 n t e R i↔x<i/\∀ y,y<x->tb t (bq n t e y) x∉R:=by
 unfold c9 kK;rw [Mc,K7,decide_eq_true_iff]
def eX {x:Nat}:x∈aS n t e R↔x<n/\∀ y,y<x->tb t (bq n t e y) x∉R:=kC
def C5 {i:Nat}:(c9 n t e R i).Pairwise (· < ·):=List.Pairwise.filter _ List.pairwise_lt_range
def n8:(aS n t e R).Pairwise (· < ·):=C5
def bE {x:Nat} (h:x∈aS n t e R):x<n:=(eX.mp h).1
def kX:(aS n t e R).length<=n:=fI (bW n8) fun x hx=>bE hx
def AQ (i:Nat):c9 n t e R (i+1)=if kK n t e R i=true then c9 n t e R i++[i] else c9 n t e R i:=by
 unfold c9;rw [N0,OJ];cases h:kK n t e R i with
 | true=>simp [h]
 | false=>simp [h]
def qk (g:GT n t e) (p:IsPart n t R) (x:Nat) (hx:x<n):∃ c,c∈aS n t e R/\tb t (bq n t e c) x∈R:=by
 induction x using Nat.strongRecOn with
 | ind x ih =>
  by_cases h:∀ y,y<x->tb t (bq n t e y) x∉R
  ·exact ⟨x,eX.mpr ⟨hx,h⟩,wI g p hx⟩
  ·obtain ⟨y,hy⟩:=Classical.not_forall.mp h;obtain ⟨yx,hr⟩:=Classical.not_imp.mp hy;have hr':=Classical.not_not.mp hr;have yn:=PL yx hx;obtain ⟨c,hc,q⟩:=ih y yx yn;exact ⟨c,hc,jB g p yn (bE hc) hx (dz g p (bE hc) yn q) hr'⟩
def zp (g:GT n t e) (p:IsPart n t R) {x c c':Nat} (hx:x<n) (hc:c∈aS n t e R) (hc':c'∈aS n t e R) (h:tb t (bq n t e c) x∈R) (h':tb t (bq n t e c') x∈R):c=c':=by
 have l:=bE hc;have l':=bE hc';have q:=jB g p hx l l' (dz g p l hx h) (dz g p l' hx h');have q':=dz g p l l' q;rcases MJ c c' with z|z|z
 ·exact absurd q ((eX.mp hc').2 c z)
 ·exact z
 ·exact absurd q' ((eX.mp hc).2 c' z)
def Ii (g:GT n t e) (p:IsPart n t R) {x c:Nat} (hx:x<n) (hc:c∈aS n t e R) (h:tb t (bq n t e c) x∈R):c<=x:=by
 rcases LD x c with z|z
 ·exact absurd (dz g p (bE hc) hx h) ((eX.mp hc).2 x z)
 ·exact z
def AB {s:List Nat} {x:Nat} (h:s.Pairwise (· < ·)) (hx:x∈s):s.getD 0 0<=x:=by
 cases s with
 | nil=>cases hx
 | cons a r =>
  show a<=x;rcases LL.mp hx with z|z
  ·omega
  ·have:=(Ny.mp h).1 x z;omega
def yF.aS {L:List (List Nat)} (S:yF n t e R L) (g:GT n t e) (p:IsPart n t R):L.map (fun s=>s.getD 0 0)=aS n t e R:=by
 refine t8 S.heads n8 fun x=>?_;have full:∀ s∈L,∀ y,y<n->tb t (bq n t e (s.getD 0 0)) y∈R->y∈s:=fun s hs y hy h=>by
  refine ML fun no=>?_;have h0:=S.lt s hs _ (head_mem (S.ne s hs));have nd:(y :: s).Nodup:=L9.mpr ⟨no,bW (S.srt s hs)⟩;have:=sub_len nd (l2:=R.map (tb t (s.getD 0 0))) fun z hz=>by
   have hzr:z<n/\tb t (bq n t e (s.getD 0 0)) z∈R:=by
    rcases LL.mp hz with q|q
    ·rw [q];exact ⟨hy,h⟩
    ·exact ⟨S.lt s hs z q,S.side s hs z q⟩
   obtain ⟨k,hk,q⟩:=(dU g p h0 hzr.1).mp hzr.2;exact Lc.mpr ⟨k,hk,q⟩
  rw [LN,KY,S.len s hs] at this;omega
 constructor
 ·intro hx;obtain ⟨s,hs,rfl⟩:=Lc.mp hx;have h0:=S.lt s hs _ (head_mem (S.ne s hs));refine eX.mpr ⟨h0,fun y hy q=>?_⟩;have hyn:=PL hy h0;have ys:=full s hs y hyn (dz g p hyn h0 q);have:=AB (S.srt s hs) ys;have hy':y<s.getD 0 0:=hy;omega
 ·intro hx;obtain ⟨hxn,h⟩:=eX.mp hx;obtain ⟨s,hs,xs⟩:=M1.mp (S.all.mem_iff.mpr (K7.mpr hxn));refine Lc.mpr ⟨s,hs,?_⟩;have h1:=S.side s hs x xs;have hle:=AB (S.srt s hs) xs;show s.getD 0 0=x;rcases LD (s.getD 0 0) x with z|z
  ·exact absurd h1 (h _ z)
  ·omega
def hm (n:Nat) (t:List (List Nat)) (e:Nat) (R:List Nat) (x:Nat):Nat:=(aS n t e R).findIdx fun c=>decide (tb t (bq n t e c) x∈R)
def ov (n:Nat) (t:List (List Nat)) (e:Nat) (R:List Nat) (x:Nat):Nat:=tb t (bq n t e ((aS n t e R).getD (hm n t e R x) 0)) x
def C6 (g:GT n t e) (p:IsPart n t R) {x i c:Nat} (hx:x<n) (hi:(aS n t e R)[i]?=some c) (h:tb t (bq n t e c) x∈R):hm n t e R x=i:=by
 obtain ⟨hl,ec⟩:=K0.mp hi;have hex:∃ c,c∈aS n t e R/\decide (tb t (bq n t e c) x∈R)=true:=⟨c,K1 hi,decide_eq_true h⟩;have hlt:hm n t e R x<(aS n t e R).length:=List.findIdx_lt_length_of_exists hex;have hget:=List.findIdx_getElem (w:=hlt);have h2:tb t (bq n t e ((aS n t e R)[hm n t e R x])) x∈R:=of_decide_eq_true hget;have hc2:(aS n t e R)[hm n t e R x]∈aS n t e R:=MG hlt;have:=zp g p hx (K1 hi) hc2 h h2;have nd:=bW (n8 (n:=n) (t:=t) (e:=e) (R:=R));exact (Of nd).mp (by rw [ec,<- this])
def kD (g:GT n t e) (p:IsPart n t R) {x:Nat} (hx:x<n):∃ c,(aS n t e R)[hm n t e R x]?=some c/\c<n/\tb t (bq n t e c) x=ov n t e R x/\ov n t e R x∈R:=by
 obtain ⟨c,hc,h⟩:=qk g p x hx;obtain ⟨i,hi⟩:=LS hc;have q:=C6 g p hx hi h;have hg:(aS n t e R).getD i 0=c:=by rw [K2,hi];rfl
 have ho:ov n t e R x=tb t (bq n t e c) x:=by unfold ov;rw [q,hg]
 exact ⟨c,by rw [q];exact hi,bE hc,ho.symm,by rw [ho];exact h⟩
def yg (g:GT n t e) (p:IsPart n t R) {x i c k h:Nat} (hi:(aS n t e R)[i]?=some c) (hk:R[k]?=some h) (q:tb t c h=x):hm n t e R x=i/\R.idxOf (ov n t e R x)=k:=by
 have hc:=K1 hi;have hh:=K1 hk;have cn:=bE hc;have hn:=p.lt h hh;have hx:x<n:=by rw [<- q];exact g.lt _ _ cn hn
 have hb:=g.mh cn;have e1:tb t (bq n t e c) x=h:=by rw [<- q,<- g.assoc _ _ _ hb cn hn,g.zq cn,g.unl h hn]
 have h1:=C6 g p hx hi (by rw [e1];exact hh)
 obtain ⟨c',a1,_,a3,_⟩:=kD g p hx;rw [h1,hi] at a1;cases a1;refine ⟨h1,?_⟩;rw [<- a3,e1];obtain ⟨hl,eh⟩:=K0.mp hk;rw [<- eh];exact (bW p.srt).idxOf_getElem k hl
def qK (g:GT n t e) (p:IsPart n t R) {x:Nat} (hx:x<n):∃ c k,(aS n t e R)[hm n t e R x]?=some c/\R[k]?=some (ov n t e R x)/\R.idxOf (ov n t e R x)=k/\tb t c (ov n t e R x)=x:=by
 obtain ⟨c,a1,a2,a3,a4⟩:=kD g p hx;refine ⟨c,_,a1,?_,rfl,?_⟩
 ·rw [KZ (LH a4),MQ]
 ·rw [<- a3,<- g.assoc _ _ _ a2 (g.mh a2) hx,g.uW a2,g.unl x hx]
def eY (n:Nat) (t:List (List Nat)) (e:Nat) (R:List Nat):List (List (Nat×Nat)):=(K3 n).map fun a=>(aS n t e R).map fun c=>(hm n t e R (tb t a c),R.idxOf (ov n t e R (tb t a c)))
def fG (n:Nat) (t:List (List Nat)) (e:Nat) (R M:List Nat):List (List (Nat×Nat)):=(K3 n).map fun a=>(aS n t e R).map fun c=>(hm n t e R (tb t a c),M.getD (R.idxOf (ov n t e R (tb t a c))) 0)
variable {S:List Nat}
def n0 {m:Nat} {f:Nat->Nat} {μ:Nat->Nat} (G:Gen n t e S R) (m1:0<m) (hf:∀ x∈R,f x<m) (hs:∀ x∈R,∀ s∈S,f (tb t x s)=(f x+μ s) % m) :
  ∀ (l:List Nat) {x:Nat},x∈R->(∀ y∈l,y∈S)->f (prd t x l)=(f x+(l.map μ).sum) % m
 | [],x,hx,_=>by
  show f x=(f x+0) % m;rw [MA,LJ (hf x hx)]
 | y :: l,x,hx,hl=>by
  have hy:=hl y Le;show f (prd t (tb t x y) l)=(f x+(μ y+(l.map μ).sum)) % m;rw [n0 G m1 hf hs l (G.cl x hx y hy) fun z hz=>hl z (K8 _ hz),hs x hx y hy,PV,M9]
def DQ {m:Nat} {f:Nat->Nat} {μ:Nat->Nat} (g:GT n t e) (G:Gen n t e S R) (hS:∀ s∈S,s<n) (m1:0<m) (hf:∀ x∈R,f x<m) (he:f e=0) (hs:∀ x∈R,∀ s∈S,f (tb t x s)=(f x+μ s) % m) :
  ∀ x∈R,∀ y∈R,f (tb t x y)=(f x+f y) % m:=fun x hx y hy=>by
 obtain ⟨l,hl,rfl⟩:=G.wd y hy;have h1:=n0 G m1 hf hs l hx hl;have h2:=n0 G m1 hf hs l G.un hl;rw [he,L7] at h2;rw [yX g (G.lt x hx) fun z hz=>hS z (hl z hz)] at h1;rw [h1,h2,NF]
def JH {m:Nat} {f:Nat->Nat} (p:IsPart n t R) (h:∀ x∈R,∀ y∈R,f (tb t x y)=(f x+f y) % m) {j k:Nat} (hj:j<R.length) (hk:k<R.length):fV t R (R.map f) m j k:=by
 have gd:∀ i,i<R.length->R.getD i 0=R[i]!/\(R.map f).getD i 0=f (R.getD i 0)/\R.getD i 0∈R:=fun i hi=>by
  have e1:R.getD i 0=R[i]:=by rw [K2,KZ hi];rfl
  refine ⟨by rw [e1];simp [hi],?_,by rw [e1];exact MG hi⟩
  rw [K2,K4,KZ hi,e1];rfl
 obtain ⟨_,b1,c1⟩:=gd j hj;obtain ⟨_,b2,c2⟩:=gd k hk;have hab:=p.cl _ c1 _ c2;have hi:=LH hab;obtain ⟨_,b3,c3⟩:=gd _ hi;unfold fV;rw [b1,b2,b3,<- h _ c1 _ c2]
 congr 1
 rw [K2,KZ hi,MQ];rfl
def ID {m:Nat} {j k:Nat}:fV t R (Ll R.length 0) m j k:=by
 have z:∀ i,(Ll R.length 0).getD i 0=0:=fun i=>by
  rw [K2];cases h:(Ll R.length 0)[i]? with
  | none=>rfl
  | some x =>
   have:=O3 (K1 h);rw [this];rfl
 unfold fV;rw [z,z,z];exact (OI m).symm
end
section
variable {n:Nat} {t:List (List Nat)} {e:Nat} {R:List Nat}
def cV (t:List (List Nat)) (R:List Nat):List (List Nat):=R.map fun a=>R.map fun b=>R.idxOf (tb t a b)
def map_getD {β:Type} (f:Nat->β):∀ (R:List Nat),R.map f=(K3 R.length).map fun i=>f (R.getD i 0):=fun R=>by
 refine Mo (by simp) fun i h1 h2=>?_
 simp at h1;simp [K2,h1]
def Bv:cV t R=mkT R.length fun i j=>R.idxOf (tb t (R.getD i 0) (R.getD j 0)):=by
 unfold cV mkT;rw [map_getD];refine LA fun i _=>?_;rw [map_getD]
def cp (p:IsPart n t R) {i:Nat} (h:i<R.length):R.getD i 0∈R/\R.idxOf (R.getD i 0)=i:=by
 have e1:R.getD i 0=R[i]:=by rw [K2,KZ h];rfl
 rw [e1];exact ⟨MG h,(bW p.srt).idxOf_getElem i h⟩
def br {x:Nat} (h:x∈R):R.idxOf x<R.length/\R.getD (R.idxOf x) 0=x:=by
 have hi:=LH h;refine ⟨hi,?_⟩;rw [K2,KZ hi,MQ];rfl
def ub (p:IsPart n t R) {i j:Nat} (hi:i<R.length) (hj:j<R.length):tb (cV t R) i j=R.idxOf (tb t (R.getD i 0) (R.getD j 0)):=by
 rw [Bv,Dq hi hj]
def zE (g:GT n t e) (p:IsPart n t R):GT R.length (cV t R) (R.idxOf e):=by
 have un:=p.un g;have rl:=p.len;have n23:=g.le;rw [Bv];refine D2 (L3.mpr p.ne) (by omega) (fun a b ha hb=>?_) (br un).1 (fun a ha=>?_) (fun a ha=>?_) (fun a ha=>?_) fun a b c ha hb hc=>?_
 ·exact (br (p.cl _ (cp p ha).1 _ (cp p hb).1)).1
 ·obtain ⟨h1,h2⟩:=cp p ha;rw [(br un).2,g.unl _ (p.lt _ h1)];exact h2
 ·obtain ⟨h1,h2⟩:=cp p ha;rw [(br un).2,g.unr _ (p.lt _ h1)];exact h2
 ·obtain ⟨h1,_⟩:=cp p ha;have hb:=p.bk g h1;refine ⟨R.idxOf (bq n t e (R.getD a 0)),(br hb).1,?_,?_⟩
  ·rw [(br hb).2,g.uW (p.lt _ h1)]
  ·rw [(br hb).2,g.zq (p.lt _ h1)]
 ·obtain ⟨h1,_⟩:=cp p ha;obtain ⟨h2,_⟩:=cp p hb;obtain ⟨h3,_⟩:=cp p hc;rw [(br (p.cl _ h1 _ h2)).2,(br (p.cl _ h2 _ h3)).2,g.assoc _ _ _ (p.lt _ h1) (p.lt _ h2) (p.lt _ h3)]
def f6 {α:Type} (D:List (List α)) (R:List Nat):List (List α):=R.map fun a=>D.getD a []
def gf (m:Nat) (D:List (List (Nat×Nat))):List (List (Nat×Nat)):=D.map fun r=>r.map fun y=>(y.1,(m - y.2) % m)
def rO {α:Type} {f:Nat->List α} {k:Nat}:∀ {l:List Nat},(∀ c∈l,(f c).length=k)->(l.flatMap f).length=l.length * k
 | [],_=>by simp
 | c :: l,h=>by
  rw [MK,Lg,h c Le,rO fun x hx=>h x (K8 _ hx),LN,MU];omega
def E1 (g:GT n t e) (p:IsPart n t R):(aS n t e R).length * R.length=n:=by
 have len:((aS n t e R).flatMap fun c=>R.map (tb t c)).length=(aS n t e R).length * R.length:=rO fun c _=>KY _;have nd:((aS n t e R).flatMap fun c=>R.map (tb t c)).Nodup:=by
  refine List.pairwise_flatMap.mpr ⟨fun c hc=>?_,?_⟩
  ·exact gY (bW p.srt) fun x hx y hy q=>g.fM (bE hc) (p.lt x hx) (p.lt y hy) q
  ·refine List.Pairwise.imp_of_mem ?_ n8;intro a b ha hb ab x hx y hy q;obtain ⟨h,hh,rfl⟩:=Lc.mp hx;obtain ⟨h',hh',q'⟩:=Lc.mp hy;have xn:=g.lt a h (bE ha) (p.lt h hh);have q1:=(dU g p (bE ha) xn).mpr ⟨h,hh,rfl⟩;have q2:=(dU g p (bE hb) xn).mpr ⟨h',hh',q'.trans q.symm⟩;have:=zp g p xn ha hb q1 q2;omega
 have a1:=sub_len nd (l2:=K3 n) fun x hx=>by
  obtain ⟨c,hc,hx'⟩:=M4.mp hx;obtain ⟨h,hh,rfl⟩:=Lc.mp hx';exact K7.mpr (g.lt c h (bE hc) (p.lt h hh))
 have a2:=sub_len Nr (l2:=(aS n t e R).flatMap fun c=>R.map (tb t c)) fun x hx=>by
  obtain ⟨c,k,z1,z2,_,z4⟩:=qK g p (K7.mp hx);exact M4.mpr ⟨c,K1 z1,Lc.mpr ⟨_,K1 z2,z4⟩⟩
 rw [Ln] at a1 a2;omega
def nN (g:GT n t e) (p:IsPart n t R):n / R.length=(aS n t e R).length:=by
 have h:=E1 g p;have r1:0<R.length:=L3.mpr p.ne;generalize (aS n t e R).length=k at h;rw [<- h];exact Nat.mul_div_cancel _ r1
def cE (D:List (List (Nat×Nat))) (z:Nat) (r:List (Nat×Nat)):List (Nat×Nat):=r.flatMap fun x=>(D.getD x.2 []).map fun y=>(x.1 * z+y.1,y.2)
def fN (n:Nat) (t:List (List Nat)) (e:Nat) (R:List Nat) (D:List (List (Nat×Nat))) (z:Nat):List (List (Nat×Nat)):=(eY n t e R).map (cE D z)
def nV {D:List (List (Nat×Nat))} {z:Nat}:∀ {r:List (Nat×Nat)},(∀ x∈r,(D.getD x.2 []).length=z)->(cE D z r).length=r.length * z
 | [],_=>by unfold cE;simp
 | x :: r,h=>by
  have ih:=nV (D:=D) (z:=z) (r:=r) fun y hy=>h y (K8 _ hy);have hx:=h x Le;unfold cE at ih ⊢;rw [MK,Lg,KY,hx,ih,LN,MU];omega
def Be {D:List (List (Nat×Nat))} {z i:Nat} {r:List (Nat×Nat)} {x:Nat×Nat} (h:r[i]?=some x):cE D z (r.take (i+1))=cE D z (r.take i)++(D.getD x.2 []).map fun y=>(x.1 * z+y.1,y.2):=by
 unfold cE;rw [Lv,h,Ox];simp
end
def bU.dvd {l:List Nat} {k j:Nat} (h:bU l k) (hj:∀ s∈l,j % s=0):j % k=0:=by
 rcases Nx (j % k) with z|z
 ·exact z
 ·obtain ⟨s,hs,q⟩:=h.least (j % k) z (Lu _ h.pos);refine absurd ?_ q;have d1:s ∣ j:=Mi (hj s hs);have d2:s ∣ k:=Mi (h.all s hs);exact Nu ((Nat.dvd_mod_iff d2).mpr d1)
section
variable {n:Nat} {t:List (List Nat)} {e:Nat} {R:List Nat}
def zI (g:GT n t e) (p:IsPart n t R) {i:Nat} (hi:i<R.length):∀ k,bp (cV t R) (R.idxOf e) i k=R.idxOf (bp t e (R.getD i 0) k)/\bp t e (R.getD i 0) k∈R
 | 0=>⟨rfl,p.un g⟩
 | k+1=>by
  obtain ⟨h1,h2⟩:=zI g p hi k;have hR:=(cp p hi).1;refine ⟨?_,p.cl _ h2 _ hR⟩;show tb (cV t R) (bp (cV t R) (R.idxOf e) i k) i=R.idxOf (tb t (bp t e (R.getD i 0) k) (R.getD i 0));rw [h1,ub p (br h2).1 hi,(br h2).2]
def DK (g:GT n t e) (p:IsPart n t R) {l l':Nat} (h:bU ((K3 n).map (a7 n t e)) l) (h':bU ((K3 R.length).map (a7 R.length (cV t R) (R.idxOf e))) l'):l % l'=0:=by
 refine h'.dvd fun s hs=>?_;obtain ⟨i,hi,rfl⟩:=Lc.mp hs;have hi':=K7.mp hi;have hx:=p.lt _ (cp p hi').1;obtain ⟨c,hc⟩:=Mi (h.all _ (Lc.mpr ⟨R.getD i 0,K7.mpr hx,rfl⟩));have q:bp t e (R.getD i 0) l=e:=by rw [hc];exact lJ g hx (dW g hx).2.1 c
 refine Nu (Bi (zE g p) hi' ?_);rw [(zI g p hi' l).1,q]
def Ai {M:List Nat} (g:GT n t e) (p:IsPart n t R):fN n t e R ((K3 R.length).map fun a=>[(0,M.getD a 0)]) 1=fG n t e R M:=by
 unfold fN eY fG;rw [MN];refine LA fun a ha=>?_;have han:=K7.mp ha;show cE _ 1 ((aS n t e R).map fun c=>(hm n t e R (tb t a c),R.idxOf (ov n t e R (tb t a c))))=_;have key:∀ l:List Nat,(∀ c∈l,c∈aS n t e R)->cE ((K3 R.length).map fun a=>[(0,M.getD a 0)]) 1 (l.map fun c=>(hm n t e R (tb t a c),R.idxOf (ov n t e R (tb t a c))))=l.map fun c=>(hm n t e R (tb t a c),M.getD (R.idxOf (ov n t e R (tb t a c))) 0):=fun l=>by
  induction l with
  | nil=>intro _;rfl
  | cons c l ih =>
   intro hl;have hc:=hl c Le;obtain ⟨_,_,_,_,h4⟩:=kD g p (g.lt a c han (bE hc));have hi:=LH h4;have e1:((K3 R.length).map fun a=>[(0,M.getD a 0)]).getD (R.idxOf (ov n t e R (tb t a c))) []=[(0,M.getD (R.idxOf (ov n t e R (tb t a c))) 0)]:=by
    rw [K2,K4,LK hi];rfl
   have:=ih fun x hx=>hl x (K8 _ hx);unfold cE at this ⊢;rw [LY,MK,this,LY];show (List.map _ (((K3 R.length).map fun a=>[(0,M.getD a 0)]).getD (R.idxOf (ov n t e R (tb t a c))) []))++_=_;rw [e1];simp
 exact key _ fun c hc=>hc
end
def yZ (z:Nat):List (Nat×Nat):=(K3 z).map fun p=>(p,0)
section
variable {n:Nat} {t:List (List Nat)} {e:Nat} {R M:List Nat}
def cj (n:Nat) (t:List (List Nat)) (e x a:Nat):Nat:=tb t (tb t (bq n t e x) a) x
def G9 (g:GT n t e) {x a:Nat} (hx:x<n) (ha:a<n):cj n t e x a=tb t (bq n t e x) (tb t a x):=g.assoc _ _ _ (g.mh hx) ha hx
def Gk (g:GT n t e) (p:IsPart n t R) {a c j:Nat} (ha:a<n) (hj:(aS n t e R)[j]?=some c):hm n t e R (tb t a c)=j↔cj n t e c a∈R:=by
 have hc:=bE (K1 hj);have hac:=g.lt a c ha hc;rw [G9 g hc ha];constructor
 ·intro h;obtain ⟨c',a1,a2,a3,a4⟩:=kD g p hac;rw [h,hj] at a1;cases a1;rw [a3];exact a4
 ·exact fun h=>C6 g p hac hj h
def HG (g:GT n t e) (p:IsPart n t R) {a c j:Nat} (ha:a<n) (hj:(aS n t e R)[j]?=some c) (h:hm n t e R (tb t a c)=j):ov n t e R (tb t a c)=cj n t e c a:=by
 have hc:=bE (K1 hj);have hac:=g.lt a c ha hc;obtain ⟨c',a1,a2,a3,a4⟩:=kD g p hac;rw [h,hj] at a1;cases a1;rw [G9 g hc ha,a3]
def mk (R M:List Nat) (x:Nat):Nat:=M.getD (R.idxOf x) 0
def GZ (n:Nat) (t:List (List Nat)) (e:Nat) (R M:List Nat) (a:Nat):Prop:=∀ x,x<n->cj n t e x a∈R/\mk R M (cj n t e x a)=0
instance:DecidablePred (GZ n t e R M):=fun a=>by unfold GZ;infer_instance
def ze (n:Nat) (t:List (List Nat)) (e:Nat) (R M:List Nat) (a:Nat):Prop:=(∀ x,x<n->cj n t e x a∈R)/\∀ x,x<n->mk R M (cj n t e x a)=mk R M a
instance:DecidablePred (ze n t e R M):=fun a=>by unfold ze;infer_instance
end
section
variable {P:Lp} {w:World} {K:KW} {mg:Str->Option Value} {base:Heap}
inductive xF (K:KW) (vs:List V) (H:Hp) (Q:VK) (E:XK):Prop
 | mk (v:V) (n:Nat) (t:List (List Nat)) (_:vs=[v]) (_:At K H v t) (_:Sq n t) (_:Q .non H)
def xw (T:Txt K mg):aJ P w K mg base CX0 1 T.iD.f T.iD.fd ["rows"] (xF K):=by
 exists T.iD.ok jJ
 ·obtain ⟨v,n,t,rfl,_⟩:=h;rfl
 obtain ⟨v,n,t,rfl,hT,sq,q⟩:=h;refine ⟨_,(ae (aq (i:=1) jJ.nd rfl (K6 rfl) (aI (aN K rfl) rfl T.bA Lo (paF (pv 0) aa)))
   (ae (a8 (PW.pt (om (aD kc (pv 1) ag (aG _)) (mL (aD gG (pv 1) (qf (v:=.int 23) rfl T.xG ⟨_,rfl⟩) (aG _))))) (af cg) aQ)
   (af (ba Ld rfl (aT K rfl (pv 0)) (ar (i:=2) jJ.nd rfl (K6 rfl)) (af (a8 (aD eI (aI (aN K rfl) rfl T.bA Lo (paF (pv 2) aa)) (pv 1) (aG _)) (af cg) aQ)))))),?_⟩
 right;refine b8 hT ?_;right;have h1:=sq.len;have h2:=sq.pos;have h3:=sq.le;refine bf (fun c=>absurd c (by omega)) (fun _=>?_)
 right;refine bf (fun c=>absurd c (by omega)) (fun _=>?_)
 right;refine mP hT (fun i σ H'=>H'=H/\∃ x,σ=[some v,some (.int t.length),x]) ⟨rfl,_,rfl⟩ (fun i σ H' h=>by rw [h.1];exact ai.refl _) ?_ ?_
 ·rintro i r w' σ' H' hr' hw ⟨rfl,x,rfl⟩;right;refine b8 hw ?_;right;refine bT (fun c=>absurd (by rw [sq.row i r hr',h1]) c) (fun _=>?_)
  right;exact ⟨rfl,_,rfl⟩
 ·rintro σ' H' ⟨rfl,x,rfl⟩;exact q
inductive oR (K:KW) (vs:List V) (H:Hp) (Q:VK) (E:XK):Prop
 | mk (v:V) (n:Nat) (t:List (List Nat)) (_:vs=[v]) (_:At K H v t) (_:Gd n t) (_:Q .non H)
def oN (T:Txt K mg):aJ P w K mg base CX0 1 T.eD.f T.eD.fd ["rows"] (oR K):=by
 exists T.eD.ok eA
 ·obtain ⟨v,n,t,rfl,_⟩:=h;rfl
 obtain ⟨v,n,t,rfl,hT,gd,q⟩:=h;refine ⟨_,(ae (aq (i:=1) eA.nd rfl (K6 rfl) (aI (aN K rfl) rfl T.bA Lo (paF (pv 0) aa)))
   (af (ba Ld rfl (aM rfl T.aZ (paF (pv 1) aa)) (ar (i:=2) eA.nd rfl (K6 rfl)) (af (ba Ld rfl (aM rfl T.aZ (paF (pv 1) aa)) (ar (i:=3) eA.nd rfl (K6 rfl)) (af (a8 (PW.pt (om (aD kc (ao (aj K rfl) (ao (aj K rfl) (pv 0) (pv 2) (fun _ _=>rfl)) (pv 3) (fun _ _=>rfl)) ag (aG _)) (mL (aD yu (ao (aj K rfl) (ao (aj K rfl) (pv 0) (pv 2) (fun _ _=>rfl)) (pv 3) (fun _ _=>rfl)) (pv 1) (aG _))))) (af cg) aQ))))))),?_⟩
 right;refine b8 hT ?_;right;have h1:=gd.len;have h3:=gd.le;rw [h1];refine bK (n:=n) rfl (by omega) (fun i σ H'=>H'=H/\∃ x y,σ=[some v,some (.int n),x,y]) ⟨rfl,_,_,rfl⟩ ?_ ?_
 ·rintro i σ' H' hi ⟨rfl,x,y,rfl⟩;right;refine bK (n:=n) rfl (by omega) (fun j σ H''=>H''=H'/\∃ y,σ=[some v,some (.int n),some (.int (i:Int)),y]) ⟨rfl,_,rfl⟩ ?_ ?_
  ·rintro j σ'' H'' hj ⟨rfl,y,rfl⟩;have hlt:=gd.lt i j hi hj;right;refine cI hT rfl (gd.get hi) fun w1 hw1=>?_;right;refine iH hw1 rfl (gd.cZ hi hj) ?_;right;refine bf (fun c=>absurd c (by omega)) (fun _=>?_)
   right;refine cI hT rfl (gd.get hi) fun w2 hw2=>?_;right;refine iH hw2 rfl (gd.cZ hi hj) ?_;right;refine bf (fun c=>absurd c (by omega)) (fun _=>?_)
   right;exact ⟨rfl,_,rfl⟩
  ·rintro σ'' H'' ⟨rfl,y,rfl⟩;exact ⟨rfl,_,_,rfl⟩
 ·rintro σ' H' ⟨rfl,x,y,rfl⟩;exact q
inductive xA (K:KW) (vs:List V) (H:Hp) (Q:VK) (E:XK):Prop
 | mk (v:V) (n x:Nat) (t:List (List Nat)) (_:vs=[v,.int (x:Int)]) (_:At K H v t) (_:Sq n t) (_:x<n) (_:Q (.bl (decide (qa n t x))) H)
def xZ (T:Txt K mg):aJ P w K mg base CX0 1 T.iu.f T.iu.fd ["rows","thing"] (xA K):=by
 exists T.iu.ok oE
 ·obtain ⟨v,n,x,t,rfl,_⟩:=h;rfl
 obtain ⟨v,n,x,t,rfl,hT,sq,hx,q⟩:=h;refine ⟨_,(ae (ba Ld rfl (aM rfl T.aZ (paF (aI (aN K rfl) rfl T.bA Lo (paF (pv 0) aa)) aa)) (ar (i:=2) oE.nd rfl (K6 rfl)) (af (a8 (PW.pt (om (aD eI (ao (aj K rfl) (ao (aj K rfl) (pv 0) (pv 1) (fun _ _=>rfl)) (pv 2) (fun _ _=>rfl)) (pv 2) (aG _)) (mL (aD eI (ao (aj K rfl) (ao (aj K rfl) (pv 0) (pv 2) (fun _ _=>rfl)) (pv 1) (fun _ _=>rfl)) (pv 2) (aG _))))) (af (aK iE)) aQ)))
   (af (aK iE))),?_⟩
 right;refine b8 hT ?_;right;have h1:=sq.len;have h3:=sq.le;rw [h1];refine bK (n:=n) rfl (by omega) (fun i σ H'=>H'=H/\(∀ o,o<i->tb t x o=o/\tb t o x=o)/\∃ y,σ=[some v,some (.int (x:Int)),y]) ⟨rfl,fun o ho=>absurd ho (by omega),_,rfl⟩ ?_ ?_
 ·rintro i σ' H' hi ⟨rfl,hb,y,rfl⟩;have no:∀ (z:¬ (tb t x i=i/\tb t i x=i)),Q (.bl false) H':=fun z=>by
   rw [decide_eq_false (fun l:qa n t x=>z (l i hi))] at q;exact q
  right;refine cI hT rfl (sq.get hx) fun w1 hw1=>?_;right;refine iH hw1 rfl (sq.cZ hx hi) ?_;right;refine bT (fun c=>?_) (fun c1=>?_)
  ·right;exact no fun z=>c (by rw [z.1])
  ·right;refine cI hT rfl (sq.get hi) fun w2 hw2=>?_;right;refine iH hw2 rfl (sq.cZ hi hx) ?_;right;refine bT (fun c=>?_) (fun c2=>?_)
   ·right;exact no fun z=>c (by rw [z.2])
   ·right;refine ⟨rfl,fun o ho=>?_,_,rfl⟩;rcases LD o i with z|z
    ·exact hb o z
    ·have e:o=i:=by omega
     subst e;exact ⟨by omega,by omega⟩
 ·rintro σ' H' ⟨rfl,hb,y,rfl⟩;right;rw [decide_eq_true (show qa n t x from hb)] at q;exact q
inductive CN (K:KW) (vs:List V) (H:Hp) (Q:VK) (E:XK):Prop
 | mk (v:V) (n e:Nat) (t:List (List Nat)) (_:vs=[v]) (_:At K H v t) (_:GT n t e) (_:Q (.int (e:Int)) H)
def B1 (T:Txt K mg):aJ P w K mg base CX0 2 T.l8.f T.l8.fd ["rows"] (CN K):=by
 exists T.l8.ok uO
 ·obtain ⟨v,n,e,t,rfl,_⟩:=h;rfl
 obtain ⟨v,n,e,t,rfl,hT,gt,q⟩:=h;refine ⟨_,(ae (ba Ld rfl (aM rfl T.aZ (paF (aI (aN K rfl) rfl T.bA Lo (paF (pv 0) aa)) aa)) (ar (i:=1) uO.nd rfl (K6 rfl)) (af (a8 (jG (ay T.iu (xZ T) (hr.mono (by decide)) rfl (paF (pv 0) (paF (pv 1) aa)))) (af (aK (pv 1))) aQ)))
   (af cg)),?_⟩
 right;refine b8 hT ?_;right;have h1:=gt.len;have h3:=gt.le;rw [h1];refine bK (n:=n) rfl (by omega) (fun i σ H'=>H'=H/\i<=e/\∃ y,σ=[some v,y]) ⟨rfl,Mb _,_,rfl⟩ ?_ ?_
 ·rintro i σ' H' hi ⟨rfl,hle,y,rfl⟩;right;refine ⟨v,n,i,t,rfl,hT,gt.toSq,hi,?_⟩;right;refine bf (fun c=>?_) (fun c=>?_)
  ·right;rw [(gt.tm hi).mp c];exact q
  ·right;refine ⟨rfl,?_,_,rfl⟩;have:i≠e:=fun z=>c ((gt.tm hi).mpr z);omega
 ·rintro σ' H' ⟨rfl,hle,y,rfl⟩;exact absurd gt.elt (by omega)
inductive Ca (K:KW) (vs:List V) (H:Hp) (Q:VK) (E:XK):Prop
 | mk (v:V) (n e a:Nat) (t:List (List Nat)) (_:vs=[v,.int (e:Int),.int (a:Int)]) (_:At K H v t) (_:GT n t e) (_:a<n) (_:Q (.int (bq n t e a:Int)) H)
def B2 (T:Txt K mg):aJ P w K mg base CX0 1 T.mD.f T.mD.fd ["rows","unit","thing"] (Ca K):=by
 exists T.mD.ok tM
 ·obtain ⟨v,n,e,a,t,rfl,_⟩:=h;rfl
 obtain ⟨v,n,e,a,t,rfl,hT,gt,ha,q⟩:=h;refine ⟨_,(ae (ba Ld rfl (aM rfl T.aZ (paF (aI (aN K rfl) rfl T.bA Lo (paF (pv 0) aa)) aa)) (ar (i:=3) tM.nd rfl (K6 rfl)) (af (a8 (PW.pt (jv (aD cb (ao (aj K rfl) (ao (aj K rfl) (pv 0) (pv 2) (fun _ _=>rfl)) (pv 3) (fun _ _=>rfl)) (pv 1) (aG _)) (kG (aD cb (ao (aj K rfl) (ao (aj K rfl) (pv 0) (pv 3) (fun _ _=>rfl)) (pv 2) (fun _ _=>rfl)) (pv 1) (aG _))))) (af (aK (pv 3))) aQ)))
   (af cg)),?_⟩
 right;refine b8 hT ?_;right;have h1:=gt.len;have h3:=gt.le;rw [h1];refine bK (n:=n) rfl (by omega) (fun i σ H'=>H'=H/\(∀ o,o<i->¬ (tb t a o=e/\tb t o a=e))/\∃ y,σ=[some v,some (.int (e:Int)),some (.int (a:Int)),y]) ⟨rfl,fun o ho=>absurd ho (by omega),_,rfl⟩ ?_ ?_
 ·rintro i σ' H' hi ⟨rfl,hb,y,rfl⟩;have on:(¬ (tb t a i=e/\tb t i a=e))->∀ o,o<i+1->¬ (tb t a o=e/\tb t o a=e):=fun z o ho=>by
   rcases LD o i with l|l
   ·exact hb o l
   ·have e':o=i:=by omega
    subst e';exact z
  right;refine cI hT rfl (gt.get ha) fun w1 hw1=>?_;right;refine iH hw1 rfl (gt.cZ ha hi) ?_;right;refine bf (fun c1=>?_) (fun c=>?_)
  ·right;refine cI hT rfl (gt.get hi) fun w2 hw2=>?_;right;refine iH hw2 rfl (gt.cZ hi ha) ?_;right;refine bf (fun c2=>?_) (fun c=>?_)
   ·right;rw [Iy hi ⟨by omega,by omega⟩ hb] at q
    exact q
   ·right;exact ⟨rfl,on fun z=>c (by rw [z.2]),_,rfl⟩
  ·refine fJ ?_;right;exact ⟨rfl,on fun z=>c (by rw [z.1]),_,rfl⟩
 ·rintro σ' H' ⟨rfl,hb,y,rfl⟩;obtain ⟨b,hb',z⟩:=gt.back a ha;exact absurd z (hb b hb')
inductive Bg (K:KW) (vs:List V) (H:Hp) (Q:VK) (E:XK):Prop
 | mk (v:V) (n e:Nat) (t:List (List Nat)) (_:vs=[v,.int (e:Int)]) (_:At K H v t) (_:GT n t e) (_:∀ d H',H d=none->ai H H'->Gr K H' d (bks n t e)->Q (.ref d) H')
def Bf (T:Txt K mg):aJ P w K mg base CX0 2 T.kz.f T.kz.fd ["rows","unit"] (Bg K):=by
 exists T.kz.ok AZ
 ·obtain ⟨v,n,e,t,rfl,_⟩:=h;rfl
 obtain ⟨v,n,e,t,rfl,hT,gt,q⟩:=h;refine ⟨_,(af (aK (bu rfl oy (aM rfl T.aZ (paF (aI (aN K rfl) rfl T.bA Lo (paF (pv 0) aa)) aa)) (fun _ _ _ _=>⟨(ar (i:=0) oy.nd rfl (K6 rfl)),aX,(ay T.mD (B2 T) (hr.mono (by decide)) rfl (paF (pv 1) (paF (pv 2) (paF (pv 0) aa))))⟩)))),?_⟩
 right;refine b8 hT ?_;right;have h1:=gt.len;have h3:=gt.le;rw [h1];refine eV K (n:=n) rfl (by omega) (fun i=>(bks n t e).take i) (fun σ'=>∃ y,σ'=[y,some v,some (.int (e:Int))]) rfl (fun i hi=>by rw [Lh];omega) ⟨_,rfl⟩ ?_ ?_
 ·rintro i σ' H' d R R0 hi hs ⟨y,rfl⟩ hR hR0 hd;right;refine ⟨v,n,e,i,t,rfl,Rep.mono hs hT,gt,hi,?_⟩;exact hR _ _ (bq n t e i) _ ⟨_,rfl⟩ (ai.refl _) rfl (bR _ n i hi)
 ·intro d H' fd hs ha;have e1:(bks n t e).take n=bks n t e:=Lf (by simp [bks])
  have ha':Gr K H' d ((bks n t e).take n):=ha;rw [e1] at ha';exact q d H' fd hs ha'
inductive qP (K:KW) (vs:List V) (H:Hp) (Q:VK) (E:XK):Prop
 | mk (v:V) (n e:Nat) (t:List (List Nat)) (_:vs=[v]) (_:At K H v t) (_:GT n t e) (_:Q .non H)
def qS (T:Txt K mg):aJ P w K mg base CX0 1 T.eS.f T.eS.fd ["rows"] (qP K):=by
 exists T.eS.ok dN
 ·obtain ⟨v,n,e,t,rfl,_⟩:=h;rfl
 obtain ⟨v,n,e,t,rfl,hT,gt,q⟩:=h;refine ⟨_,(ae (aq (i:=1) dN.nd rfl (K6 rfl) (aI (aN K rfl) rfl T.bA Lo (paF (pv 0) aa)))
   (af (ba Ld rfl (aM rfl T.aZ (paF (pv 1) aa)) (ar (i:=2) dN.nd rfl (K6 rfl)) (af (ba Ld rfl (aM rfl T.aZ (paF (pv 1) aa)) (ar (i:=3) dN.nd rfl (K6 rfl)) (af (ba Ld rfl (aM rfl T.aZ (paF (pv 1) aa)) (ar (i:=4) dN.nd rfl (K6 rfl)) (af (a8 (aD eI (ao (aj K rfl) (ao (aj K rfl) (pv 0) (ao (aj K rfl) (ao (aj K rfl) (pv 0) (pv 2) (fun _ _=>rfl)) (pv 3) (fun _ _=>rfl)) (fun _ _=>rfl)) (pv 4) (fun _ _=>rfl)) (ao (aj K rfl) (ao (aj K rfl) (pv 0) (pv 2) (fun _ _=>rfl)) (ao (aj K rfl) (ao (aj K rfl) (pv 0) (pv 3) (fun _ _=>rfl)) (pv 4) (fun _ _=>rfl)) (fun _ _=>rfl)) (aG _)) (af cg) aQ))))))))),?_⟩
 right;refine b8 hT ?_;right;have h1:=gt.len;have h3:=gt.le;rw [h1];refine bK (n:=n) rfl (by omega) (fun i σ H'=>H'=H/\∃ x y z,σ=[some v,some (.int n),x,y,z]) ⟨rfl,_,_,_,rfl⟩ ?_ ?_
 ·rintro i σ' H' hi ⟨rfl,x,y,z,rfl⟩;right;refine bK (n:=n) rfl (by omega) (fun j σ H''=>H''=H'/\∃ y z,σ=[some v,some (.int n),some (.int (i:Int)),y,z]) ⟨rfl,_,_,rfl⟩ ?_ ?_
  ·rintro j σ'' H'' hj ⟨rfl,y,z,rfl⟩;right;refine bK (n:=n) rfl (by omega) (fun k σ H3=>H3=H''/\∃ z,σ=[some v,some (.int n),some (.int (i:Int)),some (.int (j:Int)),z]) ⟨rfl,_,rfl⟩ ?_ ?_
   ·rintro k σ3 H3 hk ⟨rfl,z,rfl⟩;have hij:=gt.lt i j hi hj;have hjk:=gt.lt j k hj hk;right;refine cI hT rfl (gt.get hi) fun w1 hw1=>?_;right;refine iH hw1 rfl (gt.cZ hi hj) ?_;refine cI hT rfl (gt.get hij) fun w2 hw2=>?_;right;refine iH hw2 rfl (gt.cZ hij hk) ?_;right;refine cI hT rfl (gt.get hi) fun w3 hw3=>?_;right;refine cI hT rfl (gt.get hj) fun w4 hw4=>?_;right;refine iH hw4 rfl (gt.cZ hj hk) ?_;refine iH hw3 rfl (gt.cZ hi hjk) ?_;right;refine bT (fun c=>absurd (by rw [gt.assoc i j k hi hj hk]) c) (fun _=>?_)
    right;exact ⟨rfl,_,rfl⟩
   ·rintro σ3 H3 ⟨rfl,z,rfl⟩;exact ⟨rfl,_,_,rfl⟩
  ·rintro σ'' H'' ⟨rfl,y,z,rfl⟩;exact ⟨rfl,_,_,_,rfl⟩
 ·rintro σ' H' ⟨rfl,x,y,z,rfl⟩;exact q
def gfs (n:Int) (r e b:V):List (Str×V):=[("many",.int n),("rows",r),("unit",e),("backs",b)]
def FD (n:Int) (r e b:V):(gfs n r e b).lookup ("many" : Str)=some (.int n):=rfl
def FW (n:Int) (r e b:V):(gfs n r e b).lookup ("rows" : Str)=some r:=rfl
def FY (n:Int) (r e b:V):(gfs n r e b).lookup ("unit" : Str)=some e:=rfl
def bb (C:Addr) (H:Hp) (g:Addr) (n:Nat) (t:List (List Nat)) (e:Nat):Prop :=
 ∃ dx r b ps,H g=some (.ins C dx (gfs n (.ref r) (.int (e:Int)) (.ref b)))/\Tbl H r t ps/\H b=some (.lst (aA (bks n t e)))
def bb.mono {C:Addr} {H H':Hp} {g n e:Nat} {t:List (List Nat)} (s:ai H H') (h:bb C H g n t e):bb C H' g n t e:=by
 obtain ⟨dx,r,b,ps,h1,h2,h3⟩:=h;exact ⟨dx,r,b,ps,s _ _ h1,h2.mono s,s _ _ h3⟩
def bS {H:Hp} {b:Addr} {l:List Nat} (h:H b=some (.lst (aA l))):At K H (.ref b) l:=⟨b,_,rfl,SqL.of h,i7⟩
def dB {H:Hp} {d:Addr} {l:List Nat} (h:Gr K H d l):H d=some (.lst (aA l)):=by
 obtain ⟨ys,hy,hP⟩:=h;have e:ys=aA l:=by
  unfold aA
  clear hy
  induction hP with
  | nil=>rfl
  | cons r _ ih=>rw [LY,<- ih];exact congrArg (· :: _) r
 rw [<- e];exact hy
def bb.get {C:Addr} {H:Hp} {g n e:Nat} {t:List (List Nat)} (h:bb C H g n t e):∃ dx r b,H g=some (.ins C dx (gfs n (.ref r) (.int (e:Int)) (.ref b)))/\At K H (.ref r) t/\At K H (.ref b) (bks n t e):=by
 obtain ⟨dx,r,b,ps,h1,h2,h3⟩:=h;exact ⟨dx,r,b,h1,h2.at,bS h3⟩
section
variable (T:Txt K mg) {H:Hp} {g dx:Addr} {n:Int} {r e b:V} {Q:VK} (hg:H g=some (.ins T.aL dx (gfs n r e b)))
include hg
theorem bN (q:Q (.int n) H):isF K "many" (.ref g) H Q:=⟨g,T.aL,dx,_,_,rfl,hg,T.ja,T.pN,FD _ _ _ _,q⟩
theorem bG (q:Q r H):isF K "rows" (.ref g) H Q:=⟨g,T.aL,dx,_,_,rfl,hg,T.ja,T.pI,FW _ _ _ _,q⟩
theorem cz (q:Q e H):isF K "unit" (.ref g) H Q:=⟨g,T.aL,dx,_,_,rfl,hg,T.ja,T.pZ,FY _ _ _ _,q⟩
end
inductive FO (C:Addr) (K:KW) (vs:List V) (H:Hp) (Q:VK) (E:XK):Prop
 | mk (p dx:Addr) (r e b:V) (t:List (List Nat)) (_:vs=[.ref p,r,e,b]) (_:H p=some (.ins C dx [])) (_:At K H r t) (_:∀ H',H' p=some (.ins C dx (gfs t.length r e b))->(∀ a o,H a=some o->a≠p->H' a=some o)->Q .non H')
def Ft (T:Txt K mg):aJ P w K mg base CX0 1 T.vK T.vk ["self","rows","unit","backs"] (FO T.aL K):=by
 exists T.IB.ok xB
 ·obtain ⟨p,dx,r,e,b,t,rfl,_⟩:=h;rfl
 obtain ⟨p,dx,r,e,b,t,rfl,hp,hT,k⟩:=h;refine ⟨_,(ae (fA K rfl (pv 0) (aI (aN K rfl) rfl T.bA Lo (paF (pv 1) aa)) rfl)
   (ae (fA K rfl (pv 0) (pv 1) rfl)
   (ae (fA K rfl (pv 0) (pv 2) rfl)
   (af (fA K rfl (pv 0) (pv 3) rfl))))),?_⟩
 right;refine b8 hT ?_;right;refine ⟨p,T.aL,dx,_,rfl,hp,T.ja,T.pN,(by show 0<1000;decide),?_⟩
 right;refine ⟨p,T.aL,dx,_,rfl,au,T.ja,T.pI,(by show 1<1000;decide),?_⟩
 right;refine ⟨p,T.aL,dx,_,rfl,au,T.ja,T.pZ,(by show 2<1000;decide),?_⟩
 right;refine ⟨p,T.aL,dx,_,rfl,au,T.ja,T.xU,(by show 3<1000;decide),?_⟩
 refine k _ au fun a o ha hne=>?_;rw [av hne,av hne,av hne,av hne];exact ha
inductive Bb (C:Addr) (K:KW) (vs:List V) (H:Hp) (Q:VK) (E:XK):Prop
 | mk (v:V) (n e:Nat) (t:List (List Nat)) (_:vs=[v]) (_:At K H v t) (_:GT n t e) (_:∀ g H',H g=none->ai H H'->bb C (since H H') g n t e->Q (.ref g) H')
def rq (T:Txt K mg):aJ P w K mg base CX0 3 T.ik.f T.ik.fd ["table"] (Bb T.aL K):=by
 exists T.ik.ok jq
 ·obtain ⟨v,n,e,t,rfl,_⟩:=h;rfl
 obtain ⟨v,n,e,t,rfl,hT,gt,k⟩:=h;refine ⟨_,(ae (bV (i:=1) rfl jq.nd rfl (K6 rfl) oB (aT K rfl (pv 0)) (fun _ _ _ _=>⟨(ar (i:=0) oB.nd rfl (K6 rfl)),aX,(cJ (gq K rfl) rfl T.iG L8 (paF (pv 0) aa))⟩) rfl)
   (ae (aV (ay T.iD (xw T) (hr.mono (by decide)) rfl (paF (pv 1) aa)))
   (ae (aV (ay T.eD (oN T) (hr.mono (by decide)) rfl (paF (pv 1) aa)))
   (ae (aq (i:=2) jq.nd rfl (K6 rfl) (ay T.l8 (B1 T) (hr.mono (by decide)) rfl (paF (pv 1) aa)))
   (ae (aq (i:=3) jq.nd rfl (K6 rfl) (ay T.kz (Bf T) (hr.mono (by decide)) rfl (paF (pv 1) (paF (pv 2) aa))))
   (ae (aV (ay T.eS (qS T) (hr.mono (by decide)) rfl (paF (pv 1) aa)))
   (af (aK (nu T.Hw (Ft T) (hr.mono (by decide)) rfl T.Iu T.HL .nil l6 (paF (pv 1) (paF (pv 2) (paF (pv 3) aa)))))))))))),?_⟩
 have h1:=gt.len;have h3:=gt.le;right;refine nF hT (by omega) fun d H1 ps s1 fd fps tb1=>?_
 have hd':At K H1 (.ref d) t:=tb1.at;right;refine ⟨_,n,t,rfl,hd',gt.toSq,?_⟩;right;refine ⟨_,n,t,rfl,hd',gt.toGd,?_⟩;right;refine ⟨_,n,e,t,rfl,hd',gt,?_⟩;right;refine ⟨_,n,e,t,rfl,hd',gt,fun b H2 fb s2 hb=>?_⟩;right;refine ⟨_,n,e,t,rfl,Rep.mono s2 hd',gt,?_⟩;right;intro x dx hx hdx hne;have s3:ai H2 (upd (upd H2 dx (.own x)) x (.ins T.aL dx [])):=fun b' o z=>by
  rw [av (aH z hx),av (aH z hdx)];exact z
 refine ⟨x,dx,_,_,_,t,rfl,au,Rep.mono s3 (Rep.mono s2 hd'),fun H4 h4 k4=>⟨rfl,?_⟩⟩;have s4:ai H2 H4:=fun b' o z=>k4 b' o (s3 b' o z) (aH z hx);have fx:H x=none:=(s1.trans s2).free hx;refine k x H4 fx (s1.trans (s2.trans s4)) ⟨dx,d,b,ps,?_,(tb1.mono (s2.trans s4)).since fd fps,?_⟩
 ·rw [fL fx,h4,h1]
 ·rw [fL (s1.free fb)];exact s4 _ _ (dB hb)
end
def mn (ns:List Int) (k:Nat):Nat:=match ns[k]? with
 | some x=>(x % 2147483647).toNat
 | none=>0
def rK (ns:List Int) (k:Nat):mn ns k<2147483647:=by
 unfold mn
 split
 ·rename_i x _
  have:=Int.emod_lt_of_pos x (show (0:Int)<2147483647 by decide)
  have:=Oy x (show (2147483647:Int)≠0 by decide)
  omega
 ·decide
structure fQ (a b c s:Nat):Prop where
 a1:1<=a
 b1:1<=b
 c1:1<=c
 s1:1<=s
 s4:s<=4
 le:a * b * c * s<=23
def szL (l:List Nat):Bool:=match l with
 | [a,b,c,s]=>decide (1<=a/\1<=b/\1<=c/\1<=s/\s<=4/\a * b * c * s<=23)
 | _=>false
def JG {l:List Nat} (h:szL l=true):∃ a b c s,l=[a,b,c,s]/\fQ a b c s:=by
 match l,h with
 | [a,b,c,s],h =>
  have h':=of_decide_eq_true h;exact ⟨a,b,c,s,rfl,h'.1,h'.2.1,h'.2.2.1,h'.2.2.2.1,h'.2.2.2.2.1,h'.2.2.2.2.2⟩
def i5 {x y:Nat} (h:1<=y):x<=x * y:=by
 have:=L6 x h;omega
def fQ.ab {a b c s:Nat} (h:fQ a b c s):a * b<=23:=by
 have h1:=h.le;have h2:a * b<=a * b * c:=i5 h.c1;have h3:a * b * c<=a * b * c * s:=i5 h.s1;omega
def fQ.abc {a b c s:Nat} (h:fQ a b c s):a * b * c<=23:=by
 have h1:=h.le;have h3:a * b * c<=a * b * c * s:=i5 h.s1;omega
def fQ.a23 {a b c s:Nat} (h:fQ a b c s):a<=23:=by
 have h1:=h.ab;have h2:a<=a * b:=i5 h.b1;omega
def fQ.b23 {a b c s:Nat} (h:fQ a b c s):b<=23:=by
 have h1:=h.ab;have h2:b<=b * a:=i5 h.a1;rw [M7] at h2;omega
def fQ.c23 {a b c s:Nat} (h:fQ a b c s):c<=23:=by
 have h1:=h.abc;have h2:c<=c * (a * b):=i5 (Ms h.a1 h.b1);rw [M7] at h2;omega
def IE:Gu.all szL=true:=by decide
def Hz:∀ k,k<4->6<=([8,12,6,23]:List Nat).getD k 0/\([8,12,6,23]:List Nat).getD k 0<=23:=by decide
def Ff:∀ k,k<6->1<=([2,1,2,3,2,4]:List Nat).getD k 0/\([2,1,2,3,2,4]:List Nat).getD k 0<=4:=by decide
def Fq:∀ k,k<3->0<([12,276,6348]:List Nat).getD k 0/\([12,276,6348]:List Nat).getD k 0<1073741824:=by decide
def Kd {fi se th st room top:Nat} (h1:1<=fi) (h2:1<=se) (h3:1<=th) (h4:1<=st) (h5:st<=4) (hfs:0<fi * se) (ht:th<=room / (fi * se)) (hr:room * st<=top) (h23:top<=23):fQ fi se th st:=by
 refine ⟨h1,h2,h3,h4,h5,?_⟩;have e1:fi * se * th<=room:=L4 (L6 _ ht) (Qe room (fi * se));have e2:fi * se * th * st<=room * st:=NN _ e1;omega
section
variable {P:Lp} {w:World} {K:KW} {mg:Str->Option Value} {base:Heap}
inductive Bh (K:KW) (vs:List V) (H:Hp) (Q:VK) (E:XK):Prop
 | mk (v:V) (ns:List Int) (k:Nat) (_:vs=[v,.int (k:Int)]) (_:At K H v ns) (_:Q (.int (mn ns k:Int)) H)
def gC (T:Txt K mg):aJ P w K mg base CX0 1 T.eg.f T.eg.fd ["_law_script","_law_k"] (Bh K):=by
 exists T.eg.ok AK
 ·obtain ⟨v,ns,k,rfl,_⟩:=h;rfl
 obtain ⟨v,ns,k,rfl,hA,q⟩:=h;refine ⟨_,(ae (a8 (aD kc (pv 1) (aI (aN K rfl) rfl T.bA Lo (paF (pv 0) aa)) (aG _)) (af (aK (ak aO (ao (aj K rfl) (pv 0) (pv 1) (fun _ _=>rfl)) ag))) aQ)
   (af (aK ag))),?_⟩
 right;refine b8 hA ?_;right;refine bf (fun c=>?_) (fun c=>?_)
 ·have hk:k<ns.length:=by omega
  right;refine Ka (n:=k) hA rfl (KZ hk) ?_;right;refine vn (show (0:Int)<2147483647 by decide) ?_
  unfold mn at q;rw [KZ hk] at q;have:=Oy ns[k] (show (2147483647:Int)≠0 by decide)
  dsimp only at q;rw [Int.toNat_of_nonneg this] at q;exact q
 ·have hk:¬ k<ns.length:=by omega
  right;unfold mn at q;rw [MM (by omega)] at q
  exact q
inductive zt (K:KW) (vs:List V) (H:Hp) (Q:VK) (E:XK):Prop
 | mk (one two:Nat) (_:vs=[.int (one:Int),.int (two:Int)]) (_:∀ v H' a b c s,ai H H'->fQ a b c s->At K H' v [a,b,c,s]->Q v H')
def zj (T:Txt K mg):aJ P w K mg base CX0 1 T.jh.f T.jh.fd ["_law_one_here","_law_two"] (zt K):=by
 exists T.jh.ok cF
 ·obtain ⟨one,two,rfl,_⟩:=h;rfl
 obtain ⟨one,two,rfl,q⟩:=h;refine ⟨_,(ae (aq (i:=2) cF.nd rfl (K6 rfl) (ak bH (pv 0) ag))
   (ae (a8 (aD cb (ak aO (pv 0) ag) ag (aG _)) (ae (aq (i:=3) cF.nd rfl (K6 rfl) (bP (zC [[2,2,1,3],[7,1,1,3],[5,1,1,4],[4,2,1,2],[3,3,1,2],[8,1,1,2]] (by trivial)).out))
   (ae (aq (i:=3) cF.nd rfl (K6 rfl) (ak zi (pv 3) (bP (zC [[4,1,1,2],[2,2,2,2],[3,1,1,4],[2,2,1,2],[5,1,1,2],[9,1,1,2]] (by trivial)).out)))
   (af (aK (ao (aj K rfl) (pv 3) (ak aO (pv 2) ag) (fun _ _=>rfl)))))) aQ)
   (ae (aq (i:=4) cF.nd rfl (K6 rfl) (ao (aj K rfl) (bP (sh [8,12,6,23] (by trivial)).out) (ak aO (pv 2) ag) (fun _ _=>rfl)))
   (ae (aq (i:=5) cF.nd rfl (K6 rfl) (ao (aj K rfl) (bP (sh [2,1,2,3,2,4] (by trivial)).out) (ak aO (ak bH (pv 2) ag) ag) (fun _ _=>rfl)))
   (ae (aq (i:=6) cF.nd rfl (K6 rfl) (ak bH (pv 4) (pv 5)))
   (ae (aq (i:=7) cF.nd rfl (K6 rfl) (ak aW ag (ak aO (ak bH (pv 2) ag) (pv 6))))
   (ae (aq (i:=8) cF.nd rfl (K6 rfl) (ak aW ag (ak aO (pv 1) (ak bH (pv 6) (pv 7)))))
   (ae (aq (i:=9) cF.nd rfl (K6 rfl) (ak aW ag (ak aO (ak bH (pv 1) ag) (ak bH (pv 6) (ak bg (pv 7) (pv 8))))))
   (af (aK (bP (paF (pv 7) (paF (pv 8) (paF (pv 9) (paF (pv 5) aa))))))))))))))),?_⟩
 left;generalize one / 3=num;walk_at "ifs";left;refine bf (fun _=>?_) (fun _=>?_)
 ·left;refine eP (K:=K) (l:=([[2,2,1,3],[7,1,1,3],[5,1,1,4],[4,2,1,2],[3,3,1,2],[8,1,1,2]]:List (List Nat))) (vU _ (by decide)) (by decide) fun d1 H1 f1 s1 g1=>?_
  left;refine eP (K:=K) (l:=([[4,1,1,2],[2,2,2,2],[3,1,1,4],[2,2,1,2],[5,1,1,2],[9,1,1,2]]:List (List Nat))) (vU _ (by decide)) (by decide) fun d2 H2 f2 s2 g2=>?_
  refine Kf (g1.mono s2).copy g2.copy (by decide) fun d3 H3 f3 s3 a3=>?_
  have a3':At K H3 (.ref d3) Gu:=a3;left;have hm:num % 12<Gu.length:=Lu _ (by decide)
  refine cI (n:=num % 12) a3' rfl (getD_some [] hm) fun w hw=>?_;obtain ⟨a,b,c,s,e,ok⟩:=JG (LC.mp IE _ (K1 (getD_some [] hm)));rw [e] at hw;exact q w H3 a b c s (s1.trans (s2.trans s3)) ok hw
 ·left;refine eP (K:=K) (l:=([8,12,6,23]:List Nat)) (nc _) (by decide) fun d1 H1 f1 s1 g1=>?_
  left;have hm4:num % 4<4:=Lu _ (by decide)
  refine bh g1.at (getD_some 0 (show num % 4<([8,12,6,23]:List Nat).length from hm4)) ?_;obtain ⟨h6,h23⟩:=Hz (num % 4) hm4;generalize ([8,12,6,23]:List Nat).getD (num % 4) 0=top at h6 h23 ⊢;left;refine eP (K:=K) (l:=([2,1,2,3,2,4]:List Nat)) (nc _) (by decide) fun d2 H2 f2 s2 g2=>?_
  left;have hm6:num / 4 % 6<6:=Lu _ (by decide)
  refine bh g2.at (getD_some 0 (show num / 4 % 6<([2,1,2,3,2,4]:List Nat).length from hm6)) ?_;obtain ⟨t1,t4⟩:=Ff (num / 4 % 6) hm6;generalize ([2,1,2,3,2,4]:List Nat).getD (num / 4 % 6) 0=st at t1 t4 ⊢;left;have hroom:0<top / st:=Qk (by omega) (by omega)
  have hrs:top / st * st<=top:=Nat.div_mul_le_self _ _;generalize top / st=room at hroom hrs ⊢;have hr23:room<=23:=by
   have:=Nat.le_mul_of_pos_right room (show 0<st by omega)
   omega
  left;have hf:1+num / 24 % room<=room:=by
   have:=Lu (num / 24) hroom;omega
  have hf1:1<=1+num / 24 % room:=by omega
  generalize 1+num / 24 % room=fi at hf hf1 ⊢;left;have h2:0<room / fi:=Qk hf hf1;refine tJ h2 ?_;left;have hse:1+two % (room / fi)<=room / fi:=by
   have:=Lu two h2;omega
  have hse1:1<=1+two % (room / fi):=by omega
  generalize 1+two % (room / fi)=se at hse hse1 ⊢;have hfs:fi * se<=room:=L4 (L6 _ hse) (Qe room fi);have hfs1:0<fi * se:=Ms hf1 hse1;left;have h3:0<room / (fi * se):=Qk hfs hfs1;refine tJ h3 ?_;left;have hth:1+two / 23 % (room / (fi * se))<=room / (fi * se):=by
   have:=Lu (two / 23) h3;omega
  have hth1:1<=1+two / 23 % (room / (fi * se)):=by omega
  generalize 1+two / 23 % (room / (fi * se))=th at hth hth1 ⊢;refine dY ?_;left;refine ⟨small (by show 4<=1000;decide),fun p hp=>q _ _ fi se th st (s1.trans (s2.trans (aw hp _))) (Kd hf1 hse1 hth1 t1 t4 hfs1 hth hrs h23) ?_⟩
  exact ⟨p,_,rfl,SqL.of au,.cons rfl (.cons rfl (.cons rfl (.cons rfl .nil)))⟩
def KJ (K:KW) (H:Hp) (v:V) (x a b s:Nat) (d:Addr) (n:Nat):St->Hp->Prop:=fun σ' H'=>σ'=[some v,some (.int (x:Int)),some (.ref d)]/\ai H H'/\∃ l:List Nat,Gr K H' d l/\l≠[]/\l.length<=n/\∀ k∈l,k<5/\eo a b s k=true
def KJ.put {H H':Hp} {v:V} {x a b s n k:Nat} {d:Addr} {σ':St} {N:St->Hp->Prop} (hd:H d=none) (hn:n<=1000) (h:KJ K H v x a b s d n σ' H') (h5:k<5) (hk:eo a b s k=true) (hN:∀ H'',KJ K H v x a b s d (n+1) σ' H''->N σ' H'') :
  vA (.ref d) [.int (k:Int)] H' fun _ H1=>N σ' H1:=by
 obtain ⟨e,s1,l,g,ne,ll,hl⟩:=h;refine fX (b:=k) g (by omega) rfl fun H3 g3 k3 _=>hN H3 ⟨e,ai.but hd s1 k3,_,g3,by simp,by rw [Lg];simp;omega,fun y hy=>?_⟩
 rcases LP.mp hy with z|z
 ·exact hl y z
 ·rw [Lb.mp z];exact ⟨h5,hk⟩
def KJ.skip {H H':Hp} {v:V} {x a b s n:Nat} {d:Addr} {σ':St} (h:KJ K H v x a b s d n σ' H'):KJ K H v x a b s d (n+1) σ' H':=by
 obtain ⟨e,s1,l,g,ne,ll,hl⟩:=h;exact ⟨e,s1,l,g,ne,by omega,hl⟩
def KJ.ty {H H':Hp} {v:V} {x a b s n:Nat} {d:Addr} {σ':St} (h:KJ K H v x a b s d n σ' H'):tyV K "list" (.ref d) H':=by
 obtain ⟨e,s1,l,g,_⟩:=h;exact g.ty
def Ke {a b s:Nat} (h1:a=b) (h2:s % 2=0):eo a b s 1=true:=by subst h1;simp [eo,h2]
def J9 {a b s:Nat} (h1:a=b) (h2:s % 3=0):eo a b s 2=true:=by subst h1;simp [eo,h2]
def Kl {a b s:Nat} (h1:a % b=0) (h2:1<b) (h3:s % b=0):eo a b s 3=true:=by simp [eo,h1,h2,h3]
def Kt {a b s:Nat} (h1:a % 2=0) (h2:b % 2=0) (h3:s % 2=0):eo a b s 4=true:=by simp [eo,h1,h2,h3]
inductive A6 (K:KW) (vs:List V) (H:Hp) (Q:VK) (E:XK):Prop
 | mk (v:V) (x a b c s:Nat) (_:vs=[v,.int (x:Int)]) (_:fQ a b c s) (_:At K H v [a,b,c,s]) (_:∀ k H',ai H H'->k<5->eo a b s k=true->Q (.int (k:Int)) H')
def Bc (T:Txt K mg):aJ P w K mg base CX0 1 T.kr.f T.kr.fd ["_law_sizes_here","_law_number"] (A6 K):=by
 exists T.kr.ok qZ
 ·obtain ⟨v,x,a,b,c,s,rfl,_⟩:=h;rfl
 obtain ⟨v,x,a,b,c,s,rfl,sz,hS,q⟩:=h;refine ⟨_,(ae (aq (i:=2) qZ.nd rfl (K6 rfl) (bP (paF ag aa)))
   (ae (a8 (PW.pt (jv (aD cb (ao (aj K rfl) (pv 0) ag (fun _ _=>rfl)) (ao (aj K rfl) (pv 0) ag (fun _ _=>rfl)) (aG _)) (kG (aD cb (ak aO (ao (aj K rfl) (pv 0) ag (fun _ _=>rfl)) ag) ag (aG _))))) (af (aV (bZ K rfl Lk Lw Lx bF (pv 2) (paF ag aa)))) aQ)
   (ae (a8 (PW.pt (jv (aD cb (ao (aj K rfl) (pv 0) ag (fun _ _=>rfl)) (ao (aj K rfl) (pv 0) ag (fun _ _=>rfl)) (aG _)) (kG (aD cb (ak aO (ao (aj K rfl) (pv 0) ag (fun _ _=>rfl)) ag) ag (aG _))))) (af (aV (bZ K rfl Lk Lw Lx bF (pv 2) (paF ag aa)))) aQ)
   (ae (a8 (PW.pt (jv (aD cb (ak aO (ao (aj K rfl) (pv 0) ag (fun _ _=>rfl)) (ao (aj K rfl) (pv 0) ag (fun _ _=>rfl))) ag (aG _)) (jv (aD gG (ao (aj K rfl) (pv 0) ag (fun _ _=>rfl)) ag (aG _)) (kG (aD cb (ak aO (ao (aj K rfl) (pv 0) ag (fun _ _=>rfl)) (ao (aj K rfl) (pv 0) ag (fun _ _=>rfl))) ag (aG _)))))) (af (aV (bZ K rfl Lk Lw Lx bF (pv 2) (paF ag aa)))) aQ)
   (ae (a8 (PW.pt (jv (aD cb (ak aO (ao (aj K rfl) (pv 0) ag (fun _ _=>rfl)) ag) ag (aG _)) (jv (aD cb (ak aO (ao (aj K rfl) (pv 0) ag (fun _ _=>rfl)) ag) ag (aG _)) (kG (aD cb (ak aO (ao (aj K rfl) (pv 0) ag (fun _ _=>rfl)) ag) ag (aG _)))))) (af (aV (bZ K rfl Lk Lw Lx bF (pv 2) (paF ag aa)))) aQ)
   (af (aK (ao (aj K rfl) (pv 2) (ak aO (pv 1) (aI (aN K rfl) rfl T.bA Lo (paF (pv 2) aa))) (fun _ _=>rfl))))))))),?_⟩
 have b1:=sz.b1;left;refine eP (K:=K) (l:=([0]:List Nat)) (by walk_at "wr") (by decide) fun d H1 f1 s1 g1=>?_
 have j1:KJ K H v x a b s d 1 [some v,some (.int (x:Int)),some (.ref d)] H1:=⟨rfl,s1,_,g1,by simp,by simp,fun k hk=>by rw [Lb.mp hk];exact ⟨by decide,rfl⟩⟩
 have hS1:=Rep.mono s1 hS;left;refine gZ (KJ K H v x a b s d 2) (fun N hN=>?_) ?_
 ·left;refine bf (fun c1=>?_) (fun _=>?_)
  ·left;refine bf (fun c2=>?_) (fun _=>?_)
   ·left;refine ⟨j1.ty,?_⟩;left;exact KJ.put f1 (by decide) j1 (by decide) (Ke c1 c2) fun H2 z=>hN _ _ z
   ·left;exact hN _ _ j1.skip
  ·walk_at "9";exact hN _ _ j1.skip
 rintro σ2 H2 j2;obtain ⟨rfl,s2,z2⟩:=id j2;have hS2:=Rep.mono s2 hS;left;refine gZ (KJ K H v x a b s d 3) (fun N hN=>?_) ?_
 ·left;refine bf (fun c1=>?_) (fun _=>?_)
  ·left;refine bf (fun c2=>?_) (fun _=>?_)
   ·left;refine ⟨j2.ty,?_⟩;left;exact KJ.put f1 (by decide) j2 (by decide) (J9 c1 c2) fun H2 z=>hN _ _ z
   ·left;exact hN _ _ j2.skip
  ·walk_at "9";exact hN _ _ j2.skip
 rintro σ3 H3 j3;obtain ⟨rfl,s3,z3⟩:=id j3;have hS3:=Rep.mono s3 hS;left;refine gZ (KJ K H v x a b s d 4) (fun N hN=>?_) ?_
 ·left;refine bf (fun c1=>?_) (fun _=>?_)
  ·left;refine bf (fun c2=>?_) (fun _=>?_)
   ·left;refine bf (fun c3=>?_) (fun _=>?_)
    ·left;refine ⟨j3.ty,?_⟩;left;exact KJ.put f1 (by decide) j3 (by decide) (Kl c1 c2 c3) fun H2 z=>hN _ _ z
    ·left;exact hN _ _ j3.skip
   ·walk_at "9";exact hN _ _ j3.skip
  ·walk_at "9";exact hN _ _ j3.skip
 rintro σ4 H4 j4;obtain ⟨rfl,s4,z4⟩:=id j4;have hS4:=Rep.mono s4 hS;left;refine gZ (KJ K H v x a b s d 5) (fun N hN=>?_) ?_
 ·left;refine bf (fun c1=>?_) (fun _=>?_)
  ·left;refine bf (fun c2=>?_) (fun _=>?_)
   ·left;refine bf (fun c3=>?_) (fun _=>?_)
    ·left;refine ⟨j4.ty,?_⟩;left;exact KJ.put f1 (by decide) j4 (by decide) (Kt c1 c2 c3) fun H2 z=>hN _ _ z
    ·left;exact hN _ _ j4.skip
   ·walk_at "9";exact hN _ _ j4.skip
  ·walk_at "9";exact hN _ _ j4.skip
 rintro σ5 H5 ⟨rfl,s5,l,g5,ne,ll,hl⟩;have ha5:=g5.at;have hl0:0<l.length:=L3.mpr ne;left;have hm:x % l.length<l.length:=Lu _ hl0;refine bh ha5 (getD_some 0 hm) ?_;have hk:=hl _ (K1 (getD_some 0 hm));exact q _ H5 s5 hk.1 hk.2
inductive A0 (K:KW) (vs:List V) (H:Hp) (Q:VK) (E:XK):Prop
 | mk (m s x:Nat) (_:vs=[.int (m:Int),.int (s:Int),.int (x:Int)]) (_:1<=m) (_:m<=23) (_:1<=s) (_:s<=4) (_:∀ u H',ai H H'->u∈unitsOf m s->Q (.int (u:Int)) H')
def AV (T:Txt K mg):aJ P w K mg base CX0 1 T.ko.f T.ko.fd ["_law_many","_law_steps","_law_number"] (A0 K):=by
 exists T.ko.ok eC
 ·obtain ⟨m,s,x,rfl,_⟩:=h;rfl
 obtain ⟨m,s,x,rfl,m1,m23,s1,s4,q⟩:=h;refine ⟨_,(ae (aq (i:=3) eC.nd rfl (K6 rfl) (bP aa))
   (ae (ba Ld rfl (aM rfl T.aZ (paF (pv 0) aa)) (ar (i:=4) eC.nd rfl (K6 rfl)) (ae (aq (i:=5) eC.nd rfl (K6 rfl) ag)
   (ae (ba Ld rfl (aM rfl T.aZ (paF (pv 1) aa)) (ar (i:=6) eC.nd rfl (K6 rfl)) (af (aq (i:=5) eC.nd rfl (K6 rfl) (ak aO (ak bg (pv 5) (pv 4)) (pv 0)))))
   (af (a8 (aD cb (pv 5) (ak aO ag (pv 0)) (aG _)) (af (aV (bZ K rfl Lk Lw Lx bF (pv 3) (paF (pv 4) aa)))) aQ)))))
   (ae (a8 (PW.pt (jv (aD gG (ak bg (pv 0) (pv 1)) ag (aG _)) (kG (aD gG (aI (aN K rfl) rfl T.bA Lo (paF (pv 3) aa)) ag (aG _))))) (af (aq (i:=3) eC.nd rfl (K6 rfl) (zm (yK K rfl) (pv 3) (vO ag) HJ))) aQ)
   (af (aK (ao (aj K rfl) (pv 3) (ak aO (pv 2) (aI (aN K rfl) rfl T.bA Lo (paF (pv 3) aa))) (fun _ _=>rfl))))))),?_⟩
 left;refine eP (K:=K) (l:=([]:List Nat)) jC (by decide) fun d H1 f1 e1 g1=>?_
 left;refine bK (n:=m) rfl (by omega) (fun i σ H'=>ai H H'/\Gr K H' d ((K3 i).filter fun u=>MZ (pw u m s) (1 % m))/\∃ y z k,σ=[some (.int (m:Int)),some (.int (s:Int)),some (.int (x:Int)),some (.ref d),y,z,k]) ⟨e1,g1,_,_,_,rfl⟩ ?_ ?_
 ·rintro i σ' H' hi ⟨e2,g2,y,z,k,rfl⟩;left;refine bK (n:=s) rfl (by omega) (fun j σ H2=>H2=H'/\∃ k,σ=[some (.int (m:Int)),some (.int (s:Int)),some (.int (x:Int)),some (.ref d),some (.int (i:Int)),some (.int (pw i m j:Int)),k]) ⟨rfl,_,rfl⟩ ?_ ?_
  ·rintro j σ'' H2 hj ⟨rfl,k,rfl⟩;left;exact ⟨rfl,_,rfl⟩
  ·rintro σ'' H2 ⟨rfl,k,rfl⟩;walk_at "5";have hl:((K3 i).filter fun u=>MZ (pw u m s) (1 % m)).length<=100000:=by
    have:=Nb (fun u=>MZ (pw u m s) (1 % m)) (K3 i);rw [Ln] at this;omega
   refine bf (fun c=>?_) (fun c=>?_)
   ·left;refine ⟨g2.ty,?_⟩;left;refine fX (b:=i) g2 hl rfl fun H3 g3 k3 _=>?_;refine ⟨ai.but f1 e2 k3,?_,_,_,_,rfl⟩;rw [uz,if_pos c];exact g3
   ·left;refine ⟨e2,?_,_,_,_,rfl⟩;rw [uz,if_neg c];exact g2
 ·rintro σ' H2 ⟨e2,g2,y,z,k,rfl⟩;have g2':Gr K H2 d (unitsOf m s):=g2;have a2:=g2'.at;have ne:=GB m1 m23 s1 s4;have ul:(unitsOf m s).length<=23:=by
   have:=Nb (fun u=>MZ (pw u m s) (1 % m)) (K3 m);rw [Ln] at this;exact L4 this m23
  have u0:0<(unitsOf m s).length:=L3.mpr ne;left;refine gZ (fun σ' H'=>ai H H'/\∃ (p:Addr) (l:List Nat),At K H' (.ref p) l/\0<l.length/\(∀ u∈l,u∈unitsOf m s)/\∃ y z k,σ'=[some (.int (m:Int)),some (.int (s:Int)),some (.int (x:Int)),some (.ref p),y,z,k]) (fun N hN=>?_) ?_
  ·have no:N [some (.int (m:Int)),some (.int (s:Int)),some (.int (x:Int)),some (.ref d),y,z,k] H2:=hN _ _ ⟨e2,d,_,a2,u0,fun _ z=>z,_,_,_,rfl⟩;left;refine bf (fun c1=>?_) (fun _=>?_)
   ·left;refine bf (fun c2=>?_) (fun _=>?_)
    ·left;refine Iw a2 fun p H3 e3 _ a3=>?_;left;have ec:cut (unitsOf m s) (some ((1:Nat):Int)) none=(unitsOf m s).drop 1:=E8 _;rw [ec] at a3;exact hN _ _ ⟨e2.trans e3,p,_,a3,by rw [Og];omega,fun u hu=>List.mem_of_mem_drop hu,_,_,_,rfl⟩
    ·left;exact no
   ·walk_at "9";exact no
  ·rintro σ3 H3 ⟨e3,p,l,a3,l0,hl,y,z,k,rfl⟩;left;have hm:x % l.length<l.length:=Lu _ l0;refine bh a3 (getD_some 0 hm) ?_;exact q _ H3 e3 (hl _ (K1 (getD_some 0 hm)))
def Par.sz {a b c s kind u0 u1 u2:Nat} (h:Par a b c s kind u0 u1 u2):fQ a b c s:=⟨h.a1,h.b1,h.c1,h.s1,h.s4,h.le⟩
inductive xO (K:KW) (vs:List V) (H:Hp) (Q:VK) (E:XK):Prop
 | mk (v u:V) (p kind a b c s u0 u1 u2:Nat) (_:vs=[.int (p:Int),v,.int (kind:Int),u]) (_:Par a b c s kind u0 u1 u2) (_:At K H v [a,b,c,s]) (_:At K H u [u0,u1,u2]) (_:p<a * b * c) (_:Q (.int (dX a b c kind u0 u1 u2 p:Int)) H)
def yc (T:Txt K mg):aJ P w K mg base CX0 1 T.ip.f T.ip.fd ["_law_place","_law_sizes_here","_law_kind_here","_law_units"] (xO K):=by
 exists T.ip.ok cv
 ·obtain ⟨v,u,p,kind,a,b,c,s,u0,u1,u2,rfl,_⟩:=h;rfl
 obtain ⟨v,u,p,kind,a,b,c,s,u0,u1,u2,rfl,pr,hS,hU,hp,q⟩:=h;refine ⟨_,(ae (aq (i:=4) cv.nd rfl (K6 rfl) (ak aO (pv 0) (ao (aj K rfl) (pv 1) ag (fun _ _=>rfl))))
   (ae (aq (i:=5) cv.nd rfl (K6 rfl) (ak aO (ak bH (pv 0) (ao (aj K rfl) (pv 1) ag (fun _ _=>rfl))) (ao (aj K rfl) (pv 1) ag (fun _ _=>rfl))))
   (ae (aq (i:=6) cv.nd rfl (K6 rfl) (ak aO (ak bg (ak bH (pv 0) (ak bg (ao (aj K rfl) (pv 1) ag (fun _ _=>rfl)) (ao (aj K rfl) (pv 1) ag (fun _ _=>rfl)))) (ao (aj K rfl) (pv 3) ag (fun _ _=>rfl))) (ao (aj K rfl) (pv 1) ag (fun _ _=>rfl))))
   (ae (a8 (aD cb (pv 2) ag (aG _)) (af (Dp (i:=4) (j:=5) rfl cv.nd rfl rfl (by decide) rfl rfl (paF (pv 5) (paF (pv 4) aa)) rfl)) (af (a8 (aD cb (pv 2) ag (aG _)) (af (Dp (i:=4) (j:=5) rfl cv.nd rfl rfl (by decide) rfl rfl (paF (ak aO (ak pE ag (pv 5)) (ao (aj K rfl) (pv 1) ag (fun _ _=>rfl))) (paF (ak aO (ak pE (pv 4) (pv 5)) (ao (aj K rfl) (pv 1) ag (fun _ _=>rfl))) aa)) rfl)) (af (a8 (aD cb (pv 2) ag (aG _)) (af (aq (i:=5) cv.nd rfl (K6 rfl) (ak aO (ak aW (pv 5) (pv 4)) (ao (aj K rfl) (pv 1) ag (fun _ _=>rfl))))) (af (a8 (aD cb (pv 2) ag (aG _)) (af (aq (i:=4) cv.nd rfl (K6 rfl) (ak aO (ak aW (pv 4) (ak bg (ak bH (ao (aj K rfl) (pv 1) ag (fun _ _=>rfl)) ag) (pv 5))) (ao (aj K rfl) (pv 1) ag (fun _ _=>rfl))))) (ae (aq (i:=4) cv.nd rfl (K6 rfl) (ak aO (ak bg (pv 4) (ao (aj K rfl) (pv 3) ag (fun _ _=>rfl))) (ao (aj K rfl) (pv 1) ag (fun _ _=>rfl))))
   (af (aq (i:=5) cv.nd rfl (K6 rfl) (ak aO (ak bg (pv 5) (ao (aj K rfl) (pv 3) ag (fun _ _=>rfl))) (ao (aj K rfl) (pv 1) ag (fun _ _=>rfl)))))))))))))
   (af (aK (ak aW (pv 4) (ak bg (ao (aj K rfl) (pv 1) ag (fun _ _=>rfl)) (ak aW (pv 5) (ak bg (ao (aj K rfl) (pv 1) ag (fun _ _=>rfl)) (pv 6))))))))))),?_⟩
 have a1:=pr.a1;have b1:=pr.b1;have c1:=pr.c1;have a23:=pr.sz.a23;have b23:=pr.sz.b23;have c23:=pr.sz.c23;have ab23:=pr.sz.ab;have ab0:0<a * b:=Ms a1 b1;have lu0:=(oV.mp pr.v0).1;have lu1:=(oV.mp pr.v1).1;have lu2:=(oV.mp pr.v2).1;left;refine gZ (fun σ' H'=>H'=H/\∃ X Y:Nat,X+a * (Y+b * (p / (a * b) * u2 % c))=dX a b c kind u0 u1 u2 p/\σ'=[some (.int (p:Int)),some v,some (.int (kind:Int)),some u,some (.int (X:Int)),some (.int (Y:Int)),some (.int ((p / (a * b) * u2 % c:Nat):Int))]) (fun N hN=>?_) ?_
 ·left;refine bf (fun k1=>?_) (fun k1=>?_)
  ·left;refine hN _ _ ⟨rfl,p / a % b,p % a,?_,rfl⟩;subst k1;rfl
  ·walk_at "ifs";left;refine bf (fun k2=>?_) (fun k2=>?_)
   ·have eab:a=b:=by
     have:=pr.kind;subst k2;simp [eo] at this;exact this.1
    have hy:p / a % b<a:=by rw [eab];exact Lu _ b1
    have hx:p % a<a:=Lu _ a1;left;refine vn (by omega) ?_
    left;refine vn (by omega) ?_
    left;refine hN _ _ ⟨rfl,(a - p / a % b) % a,(p % a+a - p / a % b) % a,?_,?_⟩
    ·subst k2;rfl
    ·have e1:(((0:Nat):Int) - ((p / a % b:Nat):Int)) % (a:Int)=(((a - p / a % b) % a:Nat):Int):=by
      have z:(((a - p / a % b) % a:Nat):Int)=((a - p / a % b:Nat):Int) % (a:Int):=by push_cast;rfl
      rw [z,show ((a - p / a % b:Nat):Int)=(((0:Nat):Int) - ((p / a % b:Nat):Int))+(a:Int) * 1 by omega,OA]
     have e2:(((p % a:Nat):Int) - ((p / a % b:Nat):Int)) % (a:Int)=(((p % a+a - p / a % b) % a:Nat):Int):=by
      have z:(((p % a+a - p / a % b) % a:Nat):Int)=((p % a+a - p / a % b:Nat):Int) % (a:Int):=by push_cast;rfl
      rw [z,show ((p % a+a - p / a % b:Nat):Int)=(((p % a:Nat):Int) - ((p / a % b:Nat):Int))+(a:Int) * 1 by omega,OA]
     rw [<- e1,<- e2];rfl
   ·walk_at "ifs";left;refine bf (fun k3=>?_) (fun k3=>?_)
    ·left;refine hN _ _ ⟨rfl,p % a,(p / a % b+p % a) % b,?_,rfl⟩;subst k3;rfl
    ·walk_at "ifs";left;refine bf (fun k4=>?_) (fun k4=>?_)
     ·left;refine hN _ _ ⟨rfl,(p % a+a / 2 * (p / a % b)) % a,p / a % b,?_,rfl⟩;subst k4;rfl
     ·have k0:kind=0:=by have:=pr.k5;omega
      left;refine hN _ _ ⟨rfl,p % a * u0 % a,p / a % b * u1 % b,?_,rfl⟩;subst k0;rfl
 ·rintro σ' H' ⟨rfl,X,Y,e,rfl⟩;left;rw [e];exact q
inductive B8 (K:KW) (vs:List V) (H:Hp) (Q:VK) (E:XK):Prop
 | mk (v:V) (p r a b c s:Nat) (_:vs=[.int (p:Int),.int (r:Int),v]) (_:fQ a b c s) (_:At K H v [a,b,c,s]) (_:Q (.int (lsum a b c p r:Int)) H)
def tI (T:Txt K mg):aJ P w K mg base CX0 1 T.jE.f T.jE.fd ["_law_one_here","_law_other","_law_sizes_here"] (B8 K):=by
 exists T.jE.ok iy
 ·obtain ⟨v,p,r,a,b,c,s,rfl,_⟩:=h;rfl
 obtain ⟨v,p,r,a,b,c,s,rfl,sz,hS,q⟩:=h;refine ⟨_,(ae (aq (i:=3) iy.nd rfl (K6 rfl) (ak bg (ao (aj K rfl) (pv 2) ag (fun _ _=>rfl)) (ao (aj K rfl) (pv 2) ag (fun _ _=>rfl))))
   (ae (aq (i:=4) iy.nd rfl (K6 rfl) (ak aO (ak aW (pv 0) (pv 1)) (ao (aj K rfl) (pv 2) ag (fun _ _=>rfl))))
   (ae (aq (i:=5) iy.nd rfl (K6 rfl) (ak aO (ak aW (ak bH (pv 0) (ao (aj K rfl) (pv 2) ag (fun _ _=>rfl))) (ak bH (pv 1) (ao (aj K rfl) (pv 2) ag (fun _ _=>rfl)))) (ao (aj K rfl) (pv 2) ag (fun _ _=>rfl))))
   (ae (aq (i:=6) iy.nd rfl (K6 rfl) (ak aO (ak aW (ak bH (pv 0) (pv 3)) (ak bH (pv 1) (pv 3))) (ao (aj K rfl) (pv 2) ag (fun _ _=>rfl))))
   (af (aK (ak aW (ak aW (pv 4) (ak bg (ao (aj K rfl) (pv 2) ag (fun _ _=>rfl)) (pv 5))) (ak bg (pv 3) (pv 6))))))))),?_⟩
 have a1:=sz.a1;have b1:=sz.b1;have c1:=sz.c1;have a23:=sz.a23;have b23:=sz.b23;have ab23:=sz.ab;have ab0:0<a * b:=Ms a1 b1;left;exact q
inductive zT (K:KW) (vs:List V) (H:Hp) (Q:VK) (E:XK):Prop
 | mk (n x:Nat) (_:vs=[.int (n:Int),.int (x:Int)]) (_:n<=23) (_:x<2147483647) (_:∀ (d:Addr) (H':Hp) (π:List Nat),ai H H'->π.Perm (K3 n)->At K H' (.ref d) π->Q (.ref d) H')
def yT (T:Txt K mg):aJ P w K mg base CX0 1 T.jc.f T.jc.fd ["_law_many","_law_number"] (zT K):=by
 exists T.jc.ok iC
 ·obtain ⟨n,x,rfl,_⟩:=h;rfl
 obtain ⟨n,x,rfl,n23,hx,q⟩:=h;refine ⟨_,(ae (aq (i:=2) iC.nd rfl (K6 rfl) (bP aa))
   (ae (ba Ld rfl (aM rfl T.aZ (paF (pv 0) aa)) (ar (i:=3) iC.nd rfl (K6 rfl)) (ae (aq (i:=1) iC.nd rfl (K6 rfl) (ak aO (ak aW (ak aW (ak aW (ak bg (pv 1) (pv 1)) (ak bg ag (pv 1))) (pv 3)) ag) ag))
   (af (aV (bZ K rfl Lk PySem.F.slot_list_insert PySem.F.type_list_insert DG (pv 2) (paF (ak aO (pv 1) (ak aW (pv 3) ag)) (paF (pv 3) aa)))))))
   (af (aK (pv 2))))),?_⟩
 left;refine eP (K:=K) (l:=([]:List Nat)) jC (by decide) fun d H1 f1 e1 g1=>?_
 left;refine bK (n:=n) rfl (by omega) (fun i σ H'=>ai H H'/\∃ (π:List Nat) (y:Nat) (k:Option V),π.Perm (K3 i)/\y<2147483647/\Gr K H' d π/\σ=[some (.int (n:Int)),some (.int (y:Int)),some (.ref d),k]) ⟨e1,[],x,_,.refl _,hx,g1,rfl⟩ ?_ ?_
 ·rintro i σ' H' hi ⟨e2,π,y,k,hp,hy,g2,rfl⟩;have hl:π.length=i:=by rw [hp.length_eq,Ln]
  left;have hy2:(y * y+48271 * y+i+11) % 2147483647<2147483647:=Lu _ (by decide)
  generalize (y * y+48271 * y+i+11) % 2147483647=y2 at hy2 ⊢;refine ⟨g2.ty,?_⟩;left;have hk:y2 % (i+1)<i+1:=Lu _ (by omega)
  refine FH (b:=i) g2 (show y2 % (i+1)<=π.length by omega) (by omega) rfl fun H3 g3 k3=>?_
  exact ⟨ai.but f1 e2 k3,_,y2,_,Fw hp,hy2,g3,rfl⟩
 ·rintro σ' H2 ⟨e2,π,y,k,hp,hy,g2,rfl⟩;left;exact q d H2 π e2 hp g2.at
def gK {β:Type} (f:Nat->β) {n i:Nat} (h:i<n):((K3 n).map f)[i]?=some (f i):=by simp [h]
inductive AW (K:KW) (vs:List V) (H:Hp) (Q:VK) (E:XK):Prop
 | mk (v tv:V) (a b c s e:Nat) (f:Nat->Nat) (_:vs=[v,tv,.int (e:Int)]) (_:fQ a b c s) (_:Tn (a * b * c) (lsum a b c) f s e) (_:At K H v [a,b,c,s]) (_:At K H tv ((K3 (a * b * c)).map f)) (_:∀ d H',ai H H'->At K H' (.ref d) (mkT (a * b * c * s) (cyc (a * b * c) (lsum a b c) f s e))->Q (.ref d) H')
def AL (T:Txt K mg):aJ P w K mg base CX0 2 T.kb.f T.kb.fd ["_law_sizes_here","_law_turn","_law_end"] (AW K):=by
 exists T.kb.ok cu
 ·obtain ⟨v,tv,a,b,c,s,e,f,rfl,_⟩:=h;rfl
 obtain ⟨v,tv,a,b,c,s,e,f,rfl,sz,tn,hS,hT,q⟩:=h;refine ⟨_,(ae (aq (i:=3) cu.nd rfl (K6 rfl) (aI (aN K rfl) rfl T.bA Lo (paF (pv 1) aa)))
   (ae (aq (i:=4) cu.nd rfl (K6 rfl) (bP aa))
   (ae (aq (i:=5) cu.nd rfl (K6 rfl) (cJ (mW rfl) rfl T.iG L8 (paF (cJ qY rfl T.aZ Pg (paF (pv 3) aa)) aa)))
   (ae (ba Ld rfl (aM rfl T.aZ (paF (ao (aj K rfl) (pv 0) ag (fun _ _=>rfl)) aa)) (ar (i:=6) cu.nd rfl (K6 rfl)) (ae (ba Ld rfl (aM rfl T.aZ (paF (pv 3) aa)) (ar (i:=7) cu.nd rfl (K6 rfl)) (ae (aq (i:=8) cu.nd rfl (K6 rfl) (bP aa))
   (ae (ba Ld rfl (aM rfl T.aZ (paF (ao (aj K rfl) (pv 0) ag (fun _ _=>rfl)) aa)) (ar (i:=9) cu.nd rfl (K6 rfl)) (af (ba Ld rfl (aM rfl T.aZ (paF (pv 3) aa)) (ar (i:=10) cu.nd rfl (K6 rfl)) (ae (aq (i:=11) cu.nd rfl (K6 rfl) (ay T.jE (tI T) (hr.mono (by decide)) rfl (paF (pv 7) (paF (ao (aj K rfl) (pv 5) (pv 10) (fun _ _=>rfl)) (paF (pv 0) aa)))))
   (ae (a8 (aD yu (ak aW (pv 6) (pv 9)) (ao (aj K rfl) (pv 0) ag (fun _ _=>rfl)) (aG _)) (af (aq (i:=11) cu.nd rfl (K6 rfl) (ay T.jE (tI T) (hr.mono (by decide)) rfl (paF (pv 11) (paF (pv 2) (paF (pv 0) aa)))))) aQ)
   (af (aV (bZ K rfl Lk Lw Lx bF (pv 8) (paF (ak aW (pv 11) (ak bg (pv 3) (ak aO (ak aW (pv 6) (pv 9)) (ao (aj K rfl) (pv 0) ag (fun _ _=>rfl))))) aa)))))))))
   (af (aV (bZ K rfl Lk Lw Lx bF (pv 4) (paF (pv 8) aa)))))))
   (af (bV (i:=5) rfl cu.nd rfl (K6 rfl) oq (aT K rfl (pv 5)) (fun _ _ _ _=>⟨(ar (i:=0) oq.nd rfl (K6 rfl)),aX,(ao (aj K rfl) (pv 1) (pv 0) (fun _ _=>rfl))⟩) rfl))))
   (af (aK (pv 4))))))),?_⟩
 have s1:=sz.s1;have s4:=sz.s4;have hle:=sz.le;have m23:=sz.abc;have m0:=tn.pos;have hlen:((K3 (a * b * c)).map f).length=a * b * c:=by simp
 left;rw [hlen];generalize hm:a * b * c=m at hle m23 m0 hlen tn hT q ⊢;generalize hF:cyc m (lsum a b c) f s e=F at q ⊢;refine eP (K:=K) (l:=([]:List (List Nat))) jC (by decide) fun d H1 fd e1 g1=>?_
 left;refine BO fun pr hpr=>?_;left;refine rB (K:=K) au (by omega) fun dl H2 fl e2 gl=>?_
 have e12:ai H H2:=e1.trans ((aw hpr _).trans e2);have g2:Gr K H2 d ([]:List (List Nat)):=g1.mono ((aw hpr _).trans e2);have hdl:dl≠d:=fun z=>by
  obtain ⟨ys,hy⟩:=g1.is;have:(upd H1 pr (.rng 0 (m:Int))) d=some (.lst ys):=by rw [av (aH hy hpr)];exact hy
  rw [z,this] at fl;cases fl
 have hS2:=Rep.mono e12 hS;left;refine bK (n:=s) rfl (by omega) (fun i σ H'=>ai H H'/\Gr K H' d ((mkT (m * s) F).take (m * i))/\∃ (vl:V),At K (del H' d) vl ((K3 m).map (Nat.repeat f i))/\∃ xf:Nat->Option V,σ=[some v,some tv,some (.int (e:Int)),some (.int (m:Int)),some (.ref d),some vl,xf 0,xf 1,xf 2,xf 3,xf 4,xf 5]) ?_ ?_ ?_
 ·refine ⟨e12,by rw [Na];exact g2,.ref dl,?_,bJ [_,_,_,_,_,_],rfl⟩
  have z:(K3 m).map (Nat.repeat f 0)=K3 m:=by
   have:Nat.repeat f 0=id:=by funext x;rfl
   rw [this,Pb]
  rw [z];exact nZ gl hdl
 ·rintro i σ' H3 hi ⟨e3,g3,vl,hl3,xf,rfl⟩;left;refine bK (n:=m) rfl (by omega) (fun o σ H'=>ai H H'/\Gr K H' d ((mkT (m * s) F).take (m * i+o))/\At K (del H' d) vl ((K3 m).map (Nat.repeat f i))/\∃ xf:Nat->Option V,σ=[some v,some tv,some (.int (e:Int)),some (.int (m:Int)),some (.ref d),some vl,some (.int (i:Int)),xf 0,xf 1,xf 2,xf 3,xf 4]) ⟨e3,g3,hl3,bJ [_,_,_,_,_],rfl⟩ ?_ ?_
  ·rintro o σ' H4 ho ⟨e4,g4,hl4,xf,rfl⟩;have hI:m * i+o<m * s:=by
    have:m * (i+1)<=m * s:=L6 m hi;rw [Nj] at this;omega
   left;refine eP (K:=K) (l:=([]:List Nat)) jC (by decide) fun p H5 fp e5 g5=>?_
   have hpd:p≠d:=Ea g4.is fp;have hS5:=Rep.mono (e4.trans e5) hS;left;refine bK (n:=s) rfl (by omega) (fun j σ H'=>ai H4 H'/\Gr K H' p (((K3 (m * s)).map fun y=>F (m * i+o) y).take (m * j))/\∃ xf:Nat->Option V,σ=[some v,some tv,some (.int (e:Int)),some (.int (m:Int)),some (.ref d),some vl,some (.int (i:Int)),some (.int (o:Int)),some (.ref p),xf 0,xf 1,xf 2]) ⟨e5,by rw [Na];exact g5,bJ [_,_,_],rfl⟩ ?_ ?_
   ·rintro j σ' H6 hj ⟨e6,g6,xf,rfl⟩;left;refine bK (n:=m) rfl (by omega) (fun k σ H'=>ai H4 H'/\Gr K H' p (((K3 (m * s)).map fun y=>F (m * i+o) y).take (m * j+k))/\∃ xf:Nat->Option V,σ=[some v,some tv,some (.int (e:Int)),some (.int (m:Int)),some (.ref d),some vl,some (.int (i:Int)),some (.int (o:Int)),some (.ref p),some (.int (j:Int)),xf 0,xf 1]) ⟨e6,g6,bJ [_,_],rfl⟩ ?_ ?_
    ·rintro k σ' H7 hk ⟨e7,g7,xf,rfl⟩;have hJ:m * j+k<m * s:=by
      have:m * (j+1)<=m * s:=L6 m hj;rw [Nj] at this;omega
     have hS7:=Rep.mono (e4.trans e7) hS;have hl7:At K H7 vl ((K3 m).map (Nat.repeat f i)):=Rep.mono e7 (Rep.mono jF hl4);left;refine bh hl7 (gK _ hk) ?_;left;refine ⟨v,o,Nat.repeat f i k,a,b,c,s,rfl,sz,hS7,?_⟩;left;refine gZ (fun σ' H'=>H'=H7/\σ'=[some v,some tv,some (.int (e:Int)),some (.int (m:Int)),some (.ref d),some vl,some (.int (i:Int)),some (.int (o:Int)),some (.ref p),some (.int (j:Int)),some (.int (k:Int)),some (.int ((if s<=i+j then lsum a b c (lsum a b c o (Nat.repeat f i k)) e else lsum a b c o (Nat.repeat f i k):Nat):Int))]) (fun N hN=>?_) ?_
     ·left;refine bf (fun c1=>?_) (fun c1=>?_)
      ·left;refine ⟨v,_,e,a,b,c,s,rfl,sz,hS7,?_⟩;left;refine hN _ _ ⟨rfl,?_⟩;rw [if_pos c1];rfl
      ·left;refine hN _ _ ⟨rfl,?_⟩;rw [if_neg c1];rfl
     ·rintro σ' H8 ⟨rfl,rfl⟩;left;refine ⟨g7.ty,?_⟩;left;have ev:(if s<=i+j then lsum a b c (lsum a b c o (Nat.repeat f i k)) e else lsum a b c o (Nat.repeat f i k))+m * ((i+j) % s)=F (m * i+o) (m * j+k):=by
       rw [<- hF,M6 (m * i) o,M6 (m * j) k,Jv ho hk]
      rw [ev];refine fX (b:=F (m * i+o) (m * j+k)) g7 (by rw [Lh];omega) rfl fun H9 g9 k9 _=>?_
      refine ⟨ai.but fp e7 k9,?_,bJ [_,_],rfl⟩;rw [show m * j+(k+1)=(m * j+k)+1 by omega,bR (fun y=>F (m * i+o) y) (m * s) (m * j+k) hJ]
      exact g9
    ·rintro σ' H7 ⟨e7,g7,xf,rfl⟩;refine ⟨e7,?_,bJ [_,_,_],rfl⟩;rw [Nj];exact g7
   ·rintro σ' H6 ⟨e6,g6,xf,rfl⟩;have et:((K3 (m * s)).map fun y=>F (m * i+o) y).take (m * s)=(K3 (m * s)).map fun y=>F (m * i+o) y:=Lf (by simp)
    rw [et] at g6;have g6d:=g4.mono e6;left;refine ⟨g6d.ty,?_⟩;left;refine fX g6d (by rw [Lh];omega) (nZ g6 hpd) fun H7 g7 k7 _=>?_
    have hdH:H d=none:=fd;refine ⟨ai.but hdH (e4.trans e6) k7,?_,Rep.mono (J7 k7) (Rep.mono (n5 e6) hl4),bJ [_,_,_,_,_],rfl⟩;rw [show m * i+(o+1)=(m * i+o)+1 by omega]
    unfold mkT;rw [bR (fun x=>(K3 (m * s)).map fun y=>F x y) (m * s) (m * i+o) hI];exact g7
  ·rintro σ' H4 ⟨e4,g4,hl4,xf,rfl⟩;left;have hl4':At K H4 vl ((K3 m).map (Nat.repeat f i)):=Rep.mono jF hl4;have hll:((K3 m).map (Nat.repeat f i)).length=m:=by simp
   refine gW (β:=Nat) hl4' (by omega) (fun k=>((K3 m).map (Nat.repeat f (i+1))).take k) (fun σ'=>∃ y,σ'=[y,some tv]) rfl (fun k hk=>by rw [Lh];omega) ⟨_,rfl⟩ ?_ ?_
   ·rintro k z w' σ' H5 d' R R0 hz hs hw ⟨y,rfl⟩ hR hR0 hd';have hkm:k<m:=by
     have:=(K0.mp hz).1;omega
    rw [gK _ hkm] at hz;cases hz;cases (show w'=V.int ((Nat.repeat f i k:Nat):Int) from hw);have hT5:=Rep.mono (e4.trans hs) hT;left;refine bh hT5 (gK _ (fh tn i hkm)) ?_;exact hR _ _ (Nat.repeat f (i+1) k) _ ⟨_,rfl⟩ (ai.refl _) rfl (bR _ m k hkm)
   ·intro d' H5 fd' e5 hg;have hg':Gr K H5 d' (((K3 m).map (Nat.repeat f (i+1))).take m):=by
     have:=hg;rw [hll] at this;exact this
    rw [Lf (by simp)] at hg'
    left;refine ⟨e4.trans e5,?_,.ref d',nZ hg' (Ea g4.is fd'),bJ [_,_,_,_,_,_],rfl⟩;rw [Nj];exact g4.mono e5
 ·rintro σ' H3 ⟨e3,g3,vl,hl3,xf,rfl⟩;rw [Lf (by simp [mkT])] at g3
  left;exact q d H3 e3 g3.at
inductive Ay (K:KW) (vs:List V) (H:Hp) (Q:VK) (E:XK):Prop
 | mk (v:V) (ns:List Int) (st:Nat) (_:vs=[v,.int (st:Int)]) (_:At K H v ns) (_:∀ d H' n t e ps,ai H H'->GT n t e->Tbl H' d t ps->H d=none->(∀ p∈ps,H p=none)->Q (.ref d) H')
def y6 (T:Txt K mg):aJ P w K mg base CX0 3 T.jd.f T.jd.fd ["_law_script","_law_start"] (Ay K):=by
 exists T.jd.ok bo
 ·obtain ⟨v,ns,st,rfl,_⟩:=h;rfl
 obtain ⟨v,ns,st,rfl,hA,q⟩:=h;refine ⟨_,(ae (aq (i:=2) bo.nd rfl (K6 rfl) (ay T.eg (gC T) (hr.mono (by decide)) rfl (paF (pv 0) (paF (pv 1) aa))))
   (ae (aq (i:=3) bo.nd rfl (K6 rfl) (ay T.eg (gC T) (hr.mono (by decide)) rfl (paF (pv 0) (paF (ak aW (pv 1) ag) aa))))
   (ae (aq (i:=4) bo.nd rfl (Ni rfl) (ay T.jh (zj T) (hr.mono (by decide)) rfl (paF (pv 2) (paF (pv 3) aa))))
   (ae (aq (i:=5) bo.nd rfl (K6 rfl) (ak aO (ak bg (ak bg (ak aW (pv 3) ag) (ak aW (pv 3) ag)) ag) ag))
   (ae (aq (i:=6) bo.nd rfl (Ni rfl) (ay T.kr (Bc T) (hr.mono (by decide)) rfl (paF (pv 4) (paF (pv 5) aa))))
   (ae (aq (i:=7) bo.nd rfl (Ni rfl) (bP aa))
   (ae (ba Ld rfl (aM rfl T.aZ (paF ag aa)) (ar (i:=8) bo.nd rfl (K6 rfl)) (af (aV (bZ K rfl Lk Lw Lx bF (pv 7) (paF (ay T.ko (AV T) (hr.mono (by decide)) rfl (paF (ao (aj K rfl) (pv 4) (pv 8) (fun _ _=>rfl)) (paF (ao (aj K rfl) (pv 4) ag (fun _ _=>rfl)) (paF (ak bH (pv 5) (ao (aj K rfl) (bP (sh [12,276,6348] (by trivial)).out) (pv 8) (fun _ _=>rfl))) aa)))) aa)))))
   (ae (aq (i:=9) bo.nd rfl (K6 rfl) (ak bg (ak bg (ao (aj K rfl) (pv 4) ag (fun _ _=>rfl)) (ao (aj K rfl) (pv 4) ag (fun _ _=>rfl))) (ao (aj K rfl) (pv 4) ag (fun _ _=>rfl))))
   (ae (bV (i:=10) rfl bo.nd rfl (K6 rfl) nh (aM rfl T.aZ (paF (pv 9) aa)) (fun _ _ _ _=>⟨(ar (i:=0) nh.nd rfl (K6 rfl)),aX,(ay T.ip (yc T) (hr.mono (by decide)) rfl (paF (pv 0) (paF (pv 2) (paF (pv 1) (paF (pv 3) aa)))))⟩) rfl)
   (ae (aq (i:=11) bo.nd rfl (K6 rfl) (ak aO (ak aO (ak bg (ak bg (ak aW (pv 2) ag) (ak aW (pv 2) ag)) ag) ag) (pv 9)))
   (ae (a8 (aD eI (ao (aj K rfl) (pv 10) (pv 11) (fun _ _=>rfl)) (pv 11) (aG _)) (af (aq (i:=11) bo.nd rfl (K6 rfl) ag)) aQ)
   (ae (aq (i:=12) bo.nd rfl (K6 rfl) (ay T.kb (AL T) (hr.mono (by decide)) rfl (paF (pv 4) (paF (pv 10) (paF (pv 11) aa)))))
   (ae (aq (i:=13) bo.nd rfl (K6 rfl) (ay T.jc (yT T) (hr.mono (by decide)) rfl (paF (aI (aN K rfl) rfl T.bA Lo (paF (pv 12) aa)) (paF (ay T.eg (gC T) (hr.mono (by decide)) rfl (paF (pv 0) (paF (ak aW (pv 1) ag) aa))) aa))))
   (ae (bV (i:=15) rfl bo.nd rfl (K6 rfl) m9 (aT K rfl (pv 12)) (fun _ _ _ _=>⟨(ar (i:=0) m9.nd rfl (K6 rfl)),aX,(cJ (gq K rfl) rfl T.iG L8 (paF (pv 0) aa))⟩) rfl)
   (ae (ba Ld rfl (iO K rfl rfl T.fB (paF (pv 12) aa)) (dR rfl (bc (ar (i:=16) bo.nd rfl (K6 rfl)) (bc (ar (i:=14) bo.nd rfl (K6 rfl)) de))) (af (ba Ld rfl (iO K rfl rfl T.fB (paF (pv 14) aa)) (dR rfl (bc (ar (i:=17) bo.nd rfl (K6 rfl)) (bc (ar (i:=18) bo.nd rfl (K6 rfl)) de))) (af (m8 (ao (aj K rfl) (pv 13) (pv 18) (fun _ _=>rfl)) (yN (ao (aj K rfl) (pv 15) (ao (aj K rfl) (pv 13) (pv 16) (fun _ _=>rfl)) (fun _ _=>rfl)) (ao (aj K rfl) (pv 13) (pv 17) (fun _ _=>rfl)) set_list))))))
   (af (aK (pv 15)))))))))))))))))),?_⟩
 left;refine ⟨v,ns,st,rfl,hA,?_⟩;have one2:=rK ns st;generalize mn ns st=one at one2 ⊢;left;refine ⟨v,ns,st+1,rfl,hA,?_⟩;have two2:=rK ns (st+1);generalize mn ns (st+1)=two at two2 ⊢;left;refine ⟨one,two,rfl,fun vS H1 a b c s s1 sz hS=>?_⟩;left;generalize (two+11) * (two+29) * 48271 % 2147483629=stir;refine ⟨vS,stir,a,b,c,s,rfl,sz,hS,fun kind H2 s2 k5 hk=>?_⟩;have hS2:=Rep.mono s2 hS;left;refine eP (K:=K) (l:=([]:List Nat)) jC (by decide) fun du H3 fu s3 gu=>?_
 left;refine bK (n:=3) rfl (by decide) (fun i σ H'=>ai H2 H'/\∃ us:List Nat,Gr K H' du us/\us.length=i/\(∀ j,j<i->us.getD j 0∈unitsOf ([a,b,c,s].getD j 0) s)/\∃ x8,σ=[some v,some (.int (st:Int)),some (.int (one:Int)),some (.int (two:Int)),some vS,some (.int (stir:Int)),some (.int (kind:Int)),some (.ref du),x8,none,none,none,none,none,none,none,none,none,none]) ⟨s3,[],gu,rfl,fun j hj=>absurd hj (by omega),_,rfl⟩ ?_ ?_
 ·rintro i σ' H4 hi ⟨s4,us,g4,l4,hu,x8,rfl⟩;left;refine ⟨g4.ty,?_⟩;have hS4:=Rep.mono s4 hS2;left;refine bh hS4 (getD_some 0 (show i<4 by omega)) ?_
  left;refine eP (K:=K) (l:=([12,276,6348]:List Nat)) (nc _) (by decide) fun d5 H5 f5 s5 g5=>?_
  left;refine bh g5.at (getD_some 0 (show i<3 from hi)) ?_;obtain ⟨p1,p2⟩:=Fq i hi;refine kP p1 p2 ?_;left;have hmi:1<=[a,b,c,s].getD i 0/\[a,b,c,s].getD i 0<=23:=by
   match i,hi with
   | 0,_=>exact ⟨sz.a1,sz.a23⟩
   | 1,_=>exact ⟨sz.b1,sz.b23⟩
   | 2,_=>exact ⟨sz.c1,sz.c23⟩
  refine ⟨_,s,_,rfl,hmi.1,hmi.2,sz.s1,sz.s4,fun u H6 s6 hu6=>?_⟩;left;refine fX (b:=u) (g4.mono (s5.trans s6)) (by omega) rfl fun H7 g7 k7 _=>?_
  refine ⟨ai.but fu (s4.trans (s5.trans s6)) k7,_,g7,by rw [Lg,l4];rfl,fun j hj=>?_,_,rfl⟩
  rcases LD j i with z|z
  ·have e1:(us++[u]).getD j 0=us.getD j 0:=by
    rw [K2,Lq (by omega),<- K2]
   rw [e1];exact hu j z
  ·have e:j=i:=by omega
   subst e;have e1:(us++[u]).getD j 0=u:=by
    rw [K2,Lr (by omega),l4,QE]
    rfl
   rw [e1];exact hu6
 rintro σ' H4 ⟨s4,us,g4,l4,hu,x8,rfl⟩
 match us,l4 with
 | [u0,u1,u2],_ =>
 have v0:u0∈unitsOf a s:=hu 0 (by decide)
 have v1:u1∈unitsOf b s:=hu 1 (by decide)
 have v2:u2∈unitsOf c s:=hu 2 (by decide)
 have pr:Par a b c s kind u0 u1 u2:=⟨sz.a1,sz.b1,sz.c1,sz.s1,sz.s4,sz.le,k5,hk,v0,v1,v2⟩;have hS4:=Rep.mono s4 hS2;have hU4:=g4.at;have a23:=sz.a23;have ab23:=sz.ab;have m23:=sz.abc;have m0:0<a * b * c:=Ms (Ms sz.a1 sz.b1) sz.c1;left;refine jy K (n:=a * b * c) (β:=Nat) rfl (by omega) (fun i=>((K3 (a * b * c)).map (dX a b c kind u0 u1 u2)).take i) (fun σ'=>∃ y,σ'=[y,some (.int (kind:Int)),some vS,some (.ref du)]) rfl (fun i hi=>by rw [Lh];omega) ⟨_,rfl⟩ ?_ ?_
 ·rintro i σ' H5 d' R R0 hi hs ⟨y,rfl⟩ hR hR0 hd';left;refine ⟨vS,_,i,kind,a,b,c,s,u0,u1,u2,rfl,pr,Rep.mono hs hS4,Rep.mono hs hU4,hi,?_⟩;exact hR _ _ _ _ ⟨_,rfl⟩ (ai.refl _) rfl (bR _ _ i hi)
 intro dt H5 s5 ht5;have ht5':At K H5 (.ref dt) ((K3 (a * b * c)).map (dX a b c kind u0 u1 u2)):=by
  have z:At K H5 (.ref dt) (((K3 (a * b * c)).map (dX a b c kind u0 u1 u2)).take (a * b * c)):=ht5;rw [Lf (by simp)] at z
  exact z
 left;have en:(one+5) * (one+17) * 69621 % 2147483587 % (a * b * c)<a * b * c:=Lu _ m0;generalize (one+5) * (one+17) * 69621 % 2147483587 % (a * b * c)=en0 at en ⊢;refine gZ (fun σ' H'=>H'=H5/\∃ e:Nat,e<a * b * c/\dX a b c kind u0 u1 u2 e=e/\σ'=[some v,some (.int (st:Int)),some (.int (one:Int)),some (.int (two:Int)),some vS,some (.int (stir:Int)),some (.int (kind:Int)),some (.ref du),x8,some (.int ((a * b * c:Nat):Int)),some (.ref dt),some (.int (e:Int)),none,none,none,none,none,none,none]) (fun N hN=>?_) ?_
 ·left;refine bh ht5' (gK _ en) ?_;left;refine bT (fun c1=>?_) (fun c1=>?_)
  ·left;exact hN _ _ ⟨rfl,0,m0,Cy ..,rfl⟩
  ·left;exact hN _ _ ⟨rfl,en0,en,c1,rfl⟩
 rintro σ' H5 ⟨rfl,e,he,fe,rfl⟩;have tn:=pr.tn he fe;have hS5:=Rep.mono s5 hS4;left;refine ⟨vS,_,a,b,c,s,e,_,rfl,sz,tn,hS5,ht5',fun dr H6 s6 hR6=>?_⟩;have gt:=JR tn sz.le;have s06:ai H H6:=s1.trans (s2.trans (s4.trans (s5.trans s6)));generalize mkT (a * b * c * s) (cyc (a * b * c) (lsum a b c) (dX a b c kind u0 u1 u2) s e)=R at gt hR6;generalize a * b * c * s=n at gt;have hA6:=Rep.mono s06 hA;left;rw [gt.len];refine ⟨v,ns,st+2,rfl,hA6,?_⟩;left;refine ⟨n,_,rfl,gt.le,rK ns (st+2),fun dn H7 π s7 hp hN7=>?_⟩;have hR7:=Rep.mono s7 hR6;have hl:π.length=n:=by rw [hp.length_eq,Ln]
 left;refine nF hR7 (by rw [gt.len];have:=gt.le;omega) fun d H8 ps s8 fd fps tb8=>?_
 left;refine ng (H₀:=H7) hR7 (fun i σ H'=>ai H7 H'/\∃ rows,Ren n π R rows i 0/\Tbl H' d rows ps/\∃ xf:Nat->Option V,σ=[some v,some (.int (st:Int)),some (.int (one:Int)),some (.int (two:Int)),some vS,some (.int (stir:Int)),some (.int (kind:Int)),some (.ref du),x8,some (.int ((a * b * c:Nat):Int)),some (.ref dt),some (.int (e:Int)),some (.ref dr),some (.ref dn),xf 0,some (.ref d),xf 1,xf 2,xf 3]) ?_ (fun i σ' H' z=>z.1) ?_ ?_
 ·exact ⟨s8,R,⟨gt.len,gt.row,fun x y hx hy z=>absurd z (by omega)⟩,tb8,bJ [_,_,_,_],rfl⟩
 ·rintro i row wr σ' H9 H10 p hrow hwr ⟨s9,rows,rn,tb9,xf,rfl⟩ hp9 e10 s10;have hi:i<n:=by
   have:=(K0.mp hrow).1;rw [gt.len] at this;exact this
  have hrl:row.length=n:=gt.row i row hrow;left;refine ng (H₀:=H7) hwr (fun j σ H'=>ai H7 H'/\∃ rows,Ren n π R rows i j/\Tbl H' d rows ps/\∃ xf:Nat->Option V,σ=[some v,some (.int (st:Int)),some (.int (one:Int)),some (.int (two:Int)),some vS,some (.int (stir:Int)),some (.int (kind:Int)),some (.ref du),x8,some (.int ((a * b * c:Nat):Int)),some (.ref dt),some (.int (e:Int)),some (.ref dr),some (.ref dn),some wr,some (.ref d),some (.int (i:Int)),xf 0,xf 1]) ⟨s9.trans s10,rows,rn,tb9.mono s10,bJ [_,_],rfl⟩ (fun j σ' H' z=>z.1) ?_ ?_
  ·rintro j th wt σ'' H11 H12 p2 hth hwt ⟨s11,rows2,rn2,tb11,xf,rfl⟩ hp11 e12 s12;have hj:j<n:=by
    have:=(K0.mp hth).1;omega
   cases (show wt=V.int (th:Int) from hwt);have hth':th=tb R i j:=by
    have e1:=gt.get hi;rw [hrow] at e1;cases e1;have e2:=gt.cZ hi hj;rw [hth] at e2;exact LG e2
   have htl:th<n:=by rw [hth'];exact gt.lt i j hi hj
   have hN12:=Rep.mono (s11.trans s12) hN7;have tb12:=tb11.mono s12;left;refine bh hN12 (getD_some 0 (by omega)) ?_
   left;refine bh hN12 (getD_some 0 (by omega)) ?_
   have iA:=mE hp hi;have iB:=mE hp hj;have hrw:rows2[π.getD i 0]?=some (rows2.getD (π.getD i 0) []):=getD_some [] (by rw [rn2.len];exact iA)
   obtain ⟨pp,hpp,hHp⟩:=tb12.get hrw;refine Ko tb12 hpp ?_;left;refine bh hN12 (getD_some 0 (by omega)) ?_
   refine Az hHp rfl (by unfold aA;rw [KY,rn2.row _ _ hrw];exact iB) ?_
   refine ⟨fun b' o z=>?_,_,?_,tb12.set hrw hpp,bJ [_,_],rfl⟩
   ·rw [av (aH z (fps pp (K1 hpp)))];exact (s11.trans s12) b' o z
   ·rw [hth'];exact rn2.put hp hi hj
  ·rintro σ'' H11 ⟨s11,rows2,rn2,tb11,xf,rfl⟩;rw [hrl] at rn2;exact ⟨s11,rows2,rn2.next,tb11,bJ [_,_,_,_],rfl⟩
 ·rintro σ' H9 ⟨s9,rows,rn,tb9,xf,rfl⟩;rw [gt.len] at rn;left;have s07:=s06.trans s7;exact q d H9 n rows _ ps (s07.trans s9) (rn.gt hp gt) tb9 (s07.free fd) fun p hp'=>s07.free (fps p hp')
inductive Ap (K:KW) (vs:List V) (H:Hp) (Q:VK) (E:XK):Prop
 | mk (i:Int) (_:vs=[.int i]) (_:Q (.bl true) H)
def Ag (T:Txt K mg):aJ P w K mg base CX0 1 T.ji.f T.ji.fd ["_law_found"] (Ap K):=by
 exists T.ji.ok zY
 ·obtain ⟨i,rfl,_⟩:=h;rfl
 obtain ⟨i,rfl,q⟩:=h;refine ⟨_,(af (aK (m6 (aI (lC K rfl) rfl T.kH Nz (paF (pv 0) (paF (vj (v:=.ty "int") rfl T.Cj Od rfl) aa))) (pM (JK (aI (lC K rfl) rfl T.kH Nz (paF (pv 0) (paF (vj (v:=.ty "bool") rfl T.JV PyProof.Rows.boot_bool rfl) aa)))))))),?_⟩;left;refine yW (b:=true) (.int i) rfl ?_;left;refine yW (b:=false) (.int i) rfl ?_;left;exact q
inductive CU (K:KW) (vs:List V) (H:Hp) (Q:VK) (E:XK):Prop
 | mk (v:V) (n e:Nat) (t:List (List Nat)) (_:vs=[v]) (_:At K H v t) (_:GT n t e) (_:∀ H',ai H H'->Q (.int (e:Int)) H')
def f9 (T:Txt K mg):aJ P w K mg base CX0 1 T.ei.f T.ei.fd ["_law_table"] (CU K):=by
 exists T.ei.ok Dd
 ·obtain ⟨v,n,e,t,rfl,_⟩:=h;rfl
 obtain ⟨v,n,e,t,rfl,hT,gt,q⟩:=h;refine ⟨_,(af (aK (ao (aj K rfl) (bu rfl oP (aM rfl T.aZ (paF (aI (aN K rfl) rfl T.bA Lo (paF (pv 0) aa)) aa)) (fun _ _ _ _=>⟨(ar (i:=0) oP.nd rfl (K6 rfl)),(qc (aD cb (ao (aj K rfl) (ao (aj K rfl) (pv 1) (pv 0) (fun _ _=>rfl)) (pv 0) (fun _ _=>rfl)) (pv 0) (aG _))),(pv 0)⟩)) ag (fun _ _=>rfl)))),?_⟩;have n23:=gt.le;left;rw [gt.len];refine jy K (n:=n) (β:=Nat) rfl (by omega) (fun i=>(K3 i).filter fun a=>decide (tb t a a=a)) (fun σ'=>∃ y,σ'=[y,some v]) rfl (fun i _=>gP _ i) ⟨_,rfl⟩ ?_ ?_
 ·rintro i σ' H5 d' R R0 hi hs ⟨y,rfl⟩ hR hR0 hd';have ft:=gA (fun a=>decide (tb t a a=a)) i;have hT5:=Rep.mono hs hT;left;refine cI hT5 rfl (gt.get hi) fun w1 hw1=>?_;left;refine bh hw1 (gt.cZ hi hi) ?_;left;refine bf (fun z=>?_) (fun z=>?_)
  ·left;rw [if_pos (by simpa using z)] at ft
   exact hR _ _ i _ ⟨_,rfl⟩ (ai.refl _) rfl ft
  ·rw [if_neg (by simpa using z)] at ft
   exact hR0 _ _ ⟨_,rfl⟩ (ai.refl _) ft
 ·intro d H' hs ha;walk_at "rn";exact bh ha (CW gt) (q H' hs)
inductive z7 (K:KW) (vs:List V) (H:Hp) (Q:VK) (E:XK):Prop
 | mk (d:Addr) (n e:Nat) (t:List (List Nat)) (ps:List Addr) (_:vs=[.ref d]) (_:Tbl H d t ps) (_:GT n t e) (_:∀ d' H',ai H H'->At K H' (.ref d') (bks n t e)->Q (.ref d') H')
def yY (T:Txt K mg):aJ P w K mg base CX0 2 T.jf.f T.jf.fd ["_law_table"] (z7 K):=by
 exists T.jf.ok p6
 ·obtain ⟨d,n,e,t,ps,rfl,_⟩:=h;rfl
 obtain ⟨d,n,e,t,ps,rfl,tb0,gt,q⟩:=h;refine ⟨_,(ae (aq (i:=1) p6.nd rfl (Ni rfl) (ay T.ei (f9 T) (hr.mono (by decide)) rfl (paF (pv 0) aa)))
   (af (aK (bu rfl nq (aT K rfl (pv 0)) (fun _ _ _ _=>⟨(ar (i:=0) nq.nd rfl (K6 rfl)),aX,(bZ K rfl Lk MT Nn nP (pv 0) (paF (pv 1) aa))⟩))))),?_⟩
 have n23:=gt.le;left;refine ⟨_,n,e,t,rfl,tb0.at,gt,fun H1 s1=>?_⟩;left;refine Bl (β:=Nat) (tb0.mono s1) (by rw [gt.len];omega) (fun i=>(bks n t e).take i) (fun σ'=>∃ y,σ'=[y,some (.int (e:Int))]) rfl (fun i _=>by rw [Lh];omega) ⟨_,rfl⟩ ?_ ?_
 ·rintro i c p σ' H5 d' R R0 hc hs hp ⟨y,rfl⟩ hR hR0 hd';have hi:i<n:=by
   have:=(K0.mp hc).1;rw [gt.len] at this;exact this
  have hbk:=gt.bk hi;have ec:c=t.getD i []:=by
   have:=gt.get hi;rw [hc] at this;exact LG this
  left;refine ⟨.inl ⟨rfl,_,SqL.of hp⟩,?_⟩;left;refine qB (j:=bq n t e i) hp (by rw [ec,gt.cZ hi hbk.1,hbk.2.1]) (fun j hj z=>?_) ?_
  ·have hjn:j<n:=by omega
   rw [ec,gt.cZ hi hjn] at z;have:=gt.yP hi hjn (LG z);omega
  ·refine hR _ _ (bq n t e i) _ ⟨_,rfl⟩ (ai.refl _) rfl ?_;exact bR (bq n t e) n i hi
 ·intro d' H5 fd hs hg;have hg':Gr K H5 d' ((bks n t e).take n):=by
   have z:=hg;rw [gt.len] at z;exact z
  rw [Lf (by simp [bks])] at hg'
  exact q d' H5 (s1.trans hs) hg'.at
inductive y8 (K:KW) (vs:List V) (H:Hp) (Q:VK) (E:XK):Prop
 | mk (c:Int) (k n:Nat) (_:vs=[.int c,.int (k:Int),.int (n:Int)]) (_:k<=100) (_:1<=n) (_:(thg c k n<n->Q (.int (thg c k n:Int)) H))
def lh (T:Txt K mg):aJ P w K mg base CX0 1 T.fq.f T.fq.fd ["_law_cell_here","_law_k","_law_many"] (y8 K):=by
 exists T.fq.ok oQ
 ·obtain ⟨c,k,n,rfl,_⟩:=h;rfl
 obtain ⟨c,k,n,rfl,hk,hn,q⟩:=h;have q:=q (DN c k hn);unfold thg at q;refine ⟨_,(ae (aq (i:=3) oQ.nd rfl (K6 rfl) (ak aO (ak aW (ak aW (ak bg (ak aO (pv 0) ag) ag) (ak bg (ak bg ag (pv 1)) (pv 1))) (ak bg ag (pv 1))) ag))
   (af (aK (ak aO (ak aO (ak bg (pv 3) (pv 3)) ag) (pv 2))))),?_⟩
 left;refine vn (by decide) ?_
 have c1:=Oy c (show ((2147483647:Nat):Int)≠0 by decide)
 generalize hx:(c % ((2147483647:Nat):Int)).toNat=x;have ex:c % ((2147483647:Nat):Int)=(x:Int):=by omega
 rw [ex];have hx':(c % 2147483647).toNat=x:=hx;rw [hx'] at q;left;have hy:(x * 48271+69621 * k * k+7 * k) % 2147483629<2147483629:=Lu _ (by decide)
 generalize (x * 48271+69621 * k * k+7 * k) % 2147483629=y at hy q ⊢;left;exact q
end
local macro_rules | `(tactic| walk_at "rg1")=>`(tactic| first|walk_at "rx1" | refine bN (by assumption) (by assumption) ?_|refine bG (by assumption) (by assumption) ?_|refine cz (by assumption) (by assumption) ?_|refine r_gbacks (by assumption) (by assumption) ?_)
local macro_rules | `(tactic| walk_at "rg")=>`(tactic| repeat walk_at "rg1")
section
variable {P:Lp} {w:World} {K:KW} {mg:Str->Option Value} {base:Heap}
inductive FF (C:Addr) (K:KW) (vs:List V) (H:Hp) (Q:VK) (E:XK):Prop
 | mk (g:Addr) (n e a:Nat) (t:List (List Nat)) (_:vs=[.ref g,.int (a:Int)]) (_:bb C H g n t e) (_:GT n t e) (_:a<n) (_:Q (.int (a7 n t e a:Int)) H)
def E9 (T:Txt K mg):aJ P w K mg base CX0 1 T.qd.f T.qd.fd ["group","thing"] (FF T.aL K):=by
 exists T.qd.ok lp
 ·obtain ⟨g,n,e,a,t,rfl,_⟩:=h;rfl
 obtain ⟨g,n,e,a,t,rfl,hG,gt,ha,q⟩:=h;obtain ⟨dx,r,b,hg,hT,hb⟩:=hG.get (K:=K);refine ⟨_,(ae (aq (i:=2) lp.nd rfl (K6 rfl) ag)
   (ae (aq (i:=3) lp.nd rfl (K6 rfl) (pv 1))
   (ae (l5 Ld (aD eI (pv 3) (aE K rfl (pv 0) rfl) (aG _)) (ae (aq (i:=3) lp.nd rfl (K6 rfl) (ao (aj K rfl) (ao (aj K rfl) (aE K rfl (pv 0) rfl) (pv 3) (fun _ _=>rfl)) (pv 1) (fun _ _=>rfl)))
   (af (aq (i:=2) lp.nd rfl (K6 rfl) (ak aW (pv 2) ag)))))
   (af (aK (pv 2)))))),?_⟩
 obtain ⟨o1,o2,o3⟩:=dW gt ha;have o4:1<=a7 n t e a:=fv;symm;refine lX (fun m σ' H'=>H'=H/\∃ k,1<=k/\k<=a7 n t e a/\m=a7 n t e a - k/\σ'=[some (.ref g),some (.int (a:Int)),some (.int (k:Int)),some (.int (bp t e a k:Int))]) (a7 n t e a - 1) ⟨rfl,1,Lj _,o4,rfl,by rw [kQ gt ha];rfl⟩ ?_
 rintro m σ' H' ⟨rfl,k,k1,k2,rfl,rfl⟩;have kl:=b7 gt ha k;symm;refine bT (fun c=>?_) (fun c=>?_)
 ·have k3:k<a7 n t e a:=by
   rcases LD k (a7 n t e a) with z|z
   ·exact z
   ·have:k=a7 n t e a:=by omega
    rw [this] at c;exact absurd o2 c
  refine ⟨fun σ2 H2=>H2=H'/\σ2=[some (.ref g),some (.int (a:Int)),some (.int ((k+1:Nat):Int)),some (.int (bp t e a (k+1):Int))],fun σ2 H2 z=>⟨a7 n t e a - (k+1),by omega,z.1,k+1,by omega,k3,rfl,z.2⟩,?_⟩
  symm;refine cI hT rfl (gt.get kl) fun w1 hw1=>?_;symm;refine bh hw1 (gt.cZ kl ha) ?_;symm;exact ⟨rfl,rfl⟩
 ·have k3:k=a7 n t e a:=by
   rcases LD k (a7 n t e a) with z|z
   ·exact absurd c (o3 k k1 z)
   ·omega
  symm;rw [k3];exact q
def cA (n:Nat) (t:List (List Nat)) (e:Nat):List Nat:=(K3 n).map (a7 n t e)
def Av {n:Nat} {t:List (List Nat)} {e:Nat}:∀ s∈cA n t e,1<=s:=fun s hs=>by
 obtain ⟨a,_,rfl⟩:=Lc.mp hs;exact fv
inductive Fj (C:Addr) (K:KW) (vs:List V) (H:Hp) (Q:VK) (E:XK):Prop
 | mk (g:Addr) (n e:Nat) (t:List (List Nat)) (_:vs=[.ref g]) (_:bb C H g n t e) (_:GT n t e) (_:∀ k H',ai H H'->bU (cA n t e) k->Q (.int (k:Int)) H')
def FG (T:Txt K mg):aJ P w K mg base CX0 2 T.qH.f T.qH.fd ["group"] (Fj T.aL K):=by
 exists T.qH.ok nY
 ·obtain ⟨g,n,e,t,rfl,_⟩:=h;rfl
 obtain ⟨g,n,e,t,rfl,hG,gt,q⟩:=h;obtain ⟨dx,r,b,hg,hT,hb⟩:=hG.get (K:=K);refine ⟨_,(ae (bV (i:=1) rfl nY.nd rfl (K6 rfl) sY (aM rfl T.aZ (paF (aE K rfl (pv 0) rfl) aa)) (fun _ _ _ _=>⟨(ar (i:=0) sY.nd rfl (K6 rfl)),aX,(ay T.qd (E9 T) (hr.mono (by decide)) rfl (paF (pv 1) (paF (pv 0) aa)))⟩) rfl)
   (ae (aq (i:=2) nY.nd rfl (Ni rfl) ag)
   (ae (l5 Ld (jG (aI (xi K rfl rfl) rfl T.Ha PZ (paF (bu rfl sP (aT K rfl (pv 1)) (fun _ _ _ _=>⟨(ar (i:=0) sP.nd rfl (K6 rfl)),aX,(d9 eI (ak aO (pv 1) (pv 0)) ag (aG _))⟩)) aa))) (af (aq (i:=2) nY.nd rfl (Ni rfl) (ak aW (pv 2) ag))))
   (af (aK (pv 2)))))),?_⟩
 have n23:=gt.le;symm;refine jy K (n:=n) (β:=Nat) rfl (by omega) (fun i=>(cA n t e).take i) (fun σ'=>∃ y,σ'=[y,some (.ref g)]) rfl (fun i hi=>by rw [Lh];omega) ⟨_,rfl⟩ ?_ ?_
 ·rintro i σ' H5 d' R R0 hi hs ⟨y,rfl⟩ hR hR0 hd';symm;refine ⟨g,n,e,i,t,rfl,bb.mono hs hG,gt,hi,?_⟩;exact hR _ _ _ _ ⟨_,rfl⟩ (ai.refl _) rfl (bR _ _ i hi)
 intro d1 H1 s1 h1;have hlen:(cA n t e).length=n:=by simp [cA]
 have h1':At K H1 (.ref d1) (cA n t e):=by
  have z:At K H1 (.ref d1) ((cA n t e).take n):=h1;rw [Lf (by omega)] at z
  exact z
 symm;have b1:=vV (Av (n:=n) (t:=t) (e:=e));refine lX (fun m σ' H'=>ai H1 H'/\∃ k,1<=k/\k<=bnd (cA n t e)/\m=bnd (cA n t e) - k/\(∀ j,1<=j->j<k->∃ s,s∈cA n t e/\j % s≠0)/\σ'=[some (.ref g),some (.ref d1),some (.int (k:Int))]) (bnd (cA n t e) - 1) ⟨ai.refl _,1,Lj _,b1,rfl,fun j j1 j2=>absurd j1 (by omega),rfl⟩ ?_
 rintro m σ' H2 ⟨s2,k,k1,k2,rfl,hk,rfl⟩;have h2:=Rep.mono s2 h1';symm;refine lB (β:=Bool) h2 (by omega) (fun i=>((cA n t e).map fun s=>!decide (k % s=0)).take i) (fun σ'=>∃ y,σ'=[y,some (.int (k:Int))]) rfl (fun i hi=>by rw [Lh];omega) ⟨_,rfl⟩ ?_ ?_
 ·rintro i c w' σ' H3 d' R R0 hc hs hw ⟨y,rfl⟩ hR hR0 hd';cases (show w'=V.int (c:Int) from hw);have c1:0<c:=Av c (K1 hc);symm;refine hR _ _ (!decide (k % c=0)) _ ⟨_,rfl⟩ (ai.refl _) rfl ?_;rw [Lv,K4,hc];rfl
 intro d2 H3 s3 h3;have h3':At K H3 (.ref d2) ((cA n t e).map fun s=>!decide (k % s=0)):=by
  have z:At K H3 (.ref d2) (((cA n t e).map fun s=>!decide (k % s=0)).take (cA n t e).length):=h3;rw [Lf (by simp)] at z
  exact z
 symm;refine GY h3' ?_;symm;cases hb':((cA n t e).map fun s=>!decide (k % s=0)).any id with
 | true =>
  refine pB ?_;have ex:∃ s,s∈cA n t e/\k % s≠0:=by
   obtain ⟨x,hx,ex⟩:=Pj.mp hb';obtain ⟨s,hs,rfl⟩:=Lc.mp hx;exact ⟨s,hs,by simpa using ex⟩
  have k3:k<bnd (cA n t e):=by
   rcases LD k (bnd (cA n t e)) with z|z
   ·exact z
   ·have ek:k=bnd (cA n t e):=by omega
    obtain ⟨s,hs,z⟩:=ex;rw [ek] at z;exact absurd (vp hs) z
  refine ⟨fun σ2 H4=>ai H1 H4/\σ2=[some (.ref g),some (.ref d1),some (.int ((k+1:Nat):Int))],fun σ2 H4 z=>⟨bnd (cA n t e) - (k+1),by omega,z.1,k+1,by omega,k3,rfl,fun j j1 j2=>?_,z.2⟩,?_⟩
  ·rcases LD j k with z' | z'
   ·exact hk j j1 z'
   ·have:j=k:=by omega
    rw [this];exact ex
  symm;exact ⟨s2.trans s3,rfl⟩
 | false =>
  refine fJ ?_;symm;refine q k H3 (s1.trans (s2.trans s3)) ⟨k1,fun s hs=>?_,hk⟩;rw [N5] at hb';have:=hb' _ (Lc.mpr ⟨s,hs,rfl⟩)
  simpa using this
end
section
def B4 (H:Hp) (x:V):Option (Nat×Nat)->Prop
 | none=>x=.non
 | some (a,b)=>∃ p,x=.ref p/\H p=some (.tup [.int (a:Int),.int (b:Int)])
def B4.mono {H H':Hp} {x:V} (s:ai H H'):∀ {o:Option (Nat×Nat)},B4 H x o->B4 H' x o
 | none,h=>h
 | some _,⟨p,e,hp⟩=>⟨p,e,s _ _ hp⟩
inductive GG (C:Addr) (K:KW) (vs:List V) (H:Hp) (Q:VK) (E:XK):Prop
 | mk (g:Addr) (v:V) (n e:Nat) (t:List (List Nat)) (R:List Nat) (_:vs=[.ref g,v]) (_:bb C H g n t e) (_:GT n t e) (_:At K H v R) (_:IsPart n t R) (_:∀ d H' L ps,H d=none->(∀ p∈ps,H p=none)->ai H H'->Tbl H' d L ps->yF n t e R L->Q (.ref d) H')
end
section
variable {P:Lp} {w:World} {K:KW} {mg:Str->Option Value} {base:Heap}
def IsPart.Hm {n e:Nat} {t:List (List Nat)} {R:List Nat} (h:IsPart n t R) (g:GT n t e):R.length<=23:=L4 h.len g.le
inductive xv (C:Addr) (K:KW) (vs:List V) (H:Hp) (Q:VK) (E:XK):Prop
 | mk (g:Addr) (v:V) (n e:Nat) (t:List (List Nat)) (R:List Nat) (_:vs=[.ref g,v]) (_:bb C H g n t e) (_:GT n t e) (_:At K H v R) (_:(∀ x∈R,x<n)) (_:R.length<=64) (_:∀ H',ai H H'->Q (.bl true) H')
def xH (T:Txt K mg):aJ P w K mg base CX0 1 T.iw.f T.iw.fd ["group","some"] (xv T.aL K):=by
 exists T.iw.ok xP
 ·obtain ⟨g,v,n,e,t,R,rfl,_⟩:=h;rfl
 obtain ⟨g,v,n,e,t,R,rfl,hG,gt,hR,hlt,hlen,q⟩:=h;obtain ⟨dx,r,bk,hg,hT,hB⟩:=hG.get (K:=K);refine ⟨_,(af (aK (aI (pR K rfl rfl) rfl T.B9 Oe (paF (bu rfl mf (aT K rfl (pv 1)) (fun _ _ _ _=>⟨(ar (i:=0) mf.nd rfl (K6 rfl)),aX,(m6 (d9 yu (pv 0) ag (aG _)) (pM (d9 kc (pv 0) (aE K rfl (pv 1) rfl) (aG _))))⟩)) aa)))),?_⟩;symm;refine lB (β:=Bool) hR (by omega) (fun i=>Ll i true) (fun σ'=>∃ y,σ'=[y,some (.ref g)]) rfl (fun i hi=>by simp) ⟨_,rfl⟩ ?_ ?_
 ·rintro i c w' σ' H3 d' R' R0 hc hs hw ⟨y,rfl⟩ hR' hR0 hd';cases (show w'=V.int (c:Int) from hw);have hg3:=hs _ _ hg;have c1:=hlt c (K1 hc);symm;refine bf (fun _=>?_) (fun z=>absurd (Mb _) z);symm;rw [decide_eq_true c1];exact hR' _ _ true _ ⟨_,rfl⟩ (ai.refl _) rfl Oi
 intro d2 H3 s3 h3;symm;refine zJ h3 ?_;rw [show (Ll R.length true).all id=true by simp]
 exact q H3 s3
inductive F0 (K:KW) (vs:List V) (H:Hp) (Q:VK) (E:XK):Prop
 | mk (v:V) (R:List Nat) (_:vs=[v]) (_:At K H v R) (_:R≠[]) (_:R.Pairwise (· < ·)) (_:R.length<=64) (_:∀ H',ai H H'->Q (.bl true) H')
def F8 (T:Txt K mg):aJ P w K mg base CX0 1 T.qL.f T.qL.fd ["some"] (F0 K):=by
 exists T.qL.ok Gx
 ·obtain ⟨v,R,rfl,_⟩:=h;rfl
 obtain ⟨v,R,rfl,hR,ne,srt,hlen,q⟩:=h;have l0:0<R.length:=L3.mpr ne;refine ⟨_,(af (aK (aI (pR K rfl rfl) rfl T.B9 Oe (paF (bu rfl um (aM rfl T.aZ (paF (ak pE (aI (aN K rfl) rfl T.bA Lo (paF (pv 0) aa)) ag) aa)) (fun _ _ _ _=>⟨(ar (i:=0) um.nd rfl (K6 rfl)),aX,(d9 kc (ao (aj K rfl) (pv 1) (pv 0) (fun _ _=>rfl)) (ao (aj K rfl) (pv 1) (ak aW (pv 0) ag) (fun _ _=>rfl)) (aG _))⟩)) aa)))),?_⟩;symm;refine jy K (n:=R.length - 1) (β:=Bool) (by omega) (by omega) (fun i=>Ll i true) (fun σ'=>∃ y,σ'=[y,some v]) rfl (fun i hi=>by simp) ⟨_,rfl⟩ ?_ ?_
 ·rintro i σ' H3 d' R' R0 hi hs ⟨y,rfl⟩ hR' hR0 hd';have hR3:=Rep.mono hs hR;symm;refine bh hR3 (KZ (by omega)) ?_
  symm;refine bh hR3 (KZ (by omega)) ?_
  symm;rw [decide_eq_true ((ON.mp srt) i (i+1) (by omega) (by omega) (by omega))]
  exact hR' _ _ true _ ⟨_,rfl⟩ (ai.refl _) rfl Oi
 intro d2 H3 s3 h3;symm;refine zJ h3 ?_;rw [show (Ll (R.length - 1) true).all id=true by simp]
 exact q H3 s3
inductive qQ (C:Addr) (K:KW) (vs:List V) (H:Hp) (Q:VK) (E:XK):Prop
 | mk (g:Addr) (v:V) (n e:Nat) (t:List (List Nat)) (R:List Nat) (_:vs=[.ref g,v]) (_:bb C H g n t e) (_:GT n t e) (_:At K H v R) (_:IsPart n t R) (_:Q (.bl true) H)
def qU (T:Txt K mg):aJ P w K mg base CX0 1 T.eR.f T.eR.fd ["group","some"] (qQ T.aL K):=by
 exists T.eR.ok gw
 ·obtain ⟨g,v,n,e,t,R,rfl,_⟩:=h;rfl
 obtain ⟨g,v,n,e,t,R,rfl,hG,gt,hR,pt,q⟩:=h;obtain ⟨dx,r,bk,hg,hT,hB⟩:=hG.get (K:=K);refine ⟨_,(ae (ba Ld rfl (aT K rfl (pv 1)) (ar (i:=2) gw.nd rfl (K6 rfl)) (af (ba Ld rfl (aT K rfl (pv 1)) (ar (i:=3) gw.nd rfl (K6 rfl)) (af (a8 (aD (wz K rfl) (ao (aj K rfl) (ao (aj K rfl) (aE K rfl (pv 0) rfl) (pv 2) (fun _ _=>rfl)) (pv 3) (fun _ _=>rfl)) (pv 1) (by with_unfolding_all rfl)) (af (aK iE)) aQ)))))
   (af (aK iE))),?_⟩
 symm;refine mP hR (fun i σ H'=>H'=H/\∃ x y,σ=[some (.ref g),some v,x,y]) ⟨rfl,_,_,rfl⟩ (fun i σ H' h=>by rw [h.1];exact ai.refl _) ?_ ?_
 ·rintro i a w' σ' H' ha hw ⟨rfl,x,y,rfl⟩;cases (show w'=V.int (a:Int) from hw);have haR:=K1 ha;symm;refine mP hR (fun i σ H''=>H''=H'/\∃ y,σ=[some (.ref g),some v,some (.int (a:Int)),y]) ⟨rfl,_,rfl⟩ (fun i σ H' h=>by rw [h.1];exact ai.refl _) ?_ ?_
  ·rintro j b w2 σ' H'' hb hw2 ⟨rfl,y,rfl⟩;cases (show w2=V.int (b:Int) from hw2);have hbR:=K1 hb;symm;walk_at "ifs";symm;refine cI hT rfl (gt.get (pt.lt a haR)) fun w1 hw1=>?_;symm;refine bh hw1 (gt.cZ (pt.lt a haR) (pt.lt b hbR)) ?_;symm;refine bT (fun z=>absurd (pt.cl a haR b hbR) z) (fun _=>?_);symm;exact ⟨rfl,_,rfl⟩
  ·rintro σ' H'' ⟨rfl,y,rfl⟩;exact ⟨rfl,_,_,rfl⟩
 ·rintro σ' H' ⟨rfl,x,y,rfl⟩;symm;exact q
inductive B0 (C:Addr) (K:KW) (vs:List V) (H:Hp) (Q:VK) (E:XK):Prop
 | mk (g:Addr) (v:V) (n e:Nat) (t:List (List Nat)) (R:List Nat) (_:vs=[.ref g,v]) (_:bb C H g n t e) (_:GT n t e) (_:At K H v R) (_:IsPart n t R) (_:∀ H',ai H H'->Q (.bl true) H')
def Dg (T:Txt K mg):aJ P w K mg base CX0 2 T.mr.f T.mr.fd ["group","some"] (B0 T.aL K):=by
 exists T.mr.ok CD
 ·obtain ⟨g,v,n,e,t,R,rfl,_⟩:=h;rfl
 obtain ⟨g,v,n,e,t,R,rfl,hG,gt,hR,pt,q⟩:=h;have l0:0<R.length:=L3.mpr pt.ne;have l23:=pt.Hm gt;refine ⟨_,(af (aK (m6 (d9 gG (aI (aN K rfl) rfl T.bA Lo (paF (pv 1) aa)) ag (aG _)) (m6 (ay T.iw (xH T) (hr.mono (by decide)) rfl (paF (pv 0) (paF (pv 1) aa))) (m6 (ay T.qL (F8 T) (hr.mono (by decide)) rfl (paF (pv 1) aa)) (pM (ay T.eR (qU T) (hr.mono (by decide)) rfl (paF (pv 0) (paF (pv 1) aa))))))))),?_⟩
 symm;refine bf (fun _=>?_) (fun z=>absurd l0 z);symm;refine ⟨g,v,n,e,t,R,rfl,hG,gt,hR,pt.lt,by omega,fun H1 s1=>?_⟩
 symm;refine ⟨v,R,rfl,Rep.mono s1 hR,pt.ne,pt.srt,by omega,fun H2 s2=>?_⟩
 symm;have s02:=s1.trans s2;exact ⟨g,v,n,e,t,R,rfl,hG.mono s02,gt,Rep.mono s02 hR,pt,q H2 s02⟩
inductive xK (C:Addr) (K:KW) (vs:List V) (H:Hp) (Q:VK) (E:XK):Prop
 | mk (g:Addr) (v:V) (n e:Nat) (t:List (List Nat)) (R:List Nat) (_:vs=[.ref g,v]) (_:bb C H g n t e) (_:GT n t e) (_:At K H v R) (_:IsPart n t R) (_:∀ H',ai H H'->Q .non H')
def jT (T:Txt K mg):aJ P w K mg base CX0 3 T.eM.f T.eM.fd ["group","some"] (xK T.aL K):=by
 exists T.eM.ok xu
 ·obtain ⟨g,v,n,e,t,R,rfl,_⟩:=h;rfl
 obtain ⟨g,v,n,e,t,R,rfl,hG,gt,hR,pt,q⟩:=h;refine ⟨_,(af (a8 (pV (jG (ay T.mr (Dg T) (hr.mono (by decide)) rfl (paF (pv 0) (paF (pv 1) aa))))) (af cg) aQ)),?_⟩
 symm;walk_at "ifs";symm;refine ⟨g,v,n,e,t,R,rfl,hG,gt,hR,pt,fun H1 s1=>?_⟩;symm;refine fJ ?_;symm;exact q H1 s1
inductive Di (C:Addr) (K:KW) (vs:List V) (H:Hp) (Q:VK) (E:XK):Prop
 | mk (g:Addr) (v:V) (n e x:Nat) (t:List (List Nat)) (R:List Nat) (_:vs=[.ref g,v,.int (x:Int)]) (_:bb C H g n t e) (_:GT n t e) (_:At K H v R) (_:IsPart n t R) (_:x<n) (_:∀ d H' s,H d=none->ai H H'->Gr K H' d s->s.Pairwise (· < ·)->(∀ y,y∈s↔∃ k,k∈R/\tb t x k=y)->Q (.ref d) H')
def CI (T:Txt K mg):aJ P w K mg base CX0 1 T.mw.f T.mw.fd ["group","part","thing"] (Di T.aL K):=by
 exists T.mw.ok Cw
 ·obtain ⟨g,v,n,e,x,t,R,rfl,_⟩:=h;rfl
 obtain ⟨g,v,n,e,x,t,R,rfl,hG,gt,hR,pt,hx,q⟩:=h;obtain ⟨dx,r,bk,hg,hT,hB⟩:=hG.get (K:=K);have l23:=pt.Hm gt;refine ⟨_,(af (aK (aI (oW K rfl) rfl T.zZ O4 (paF (bu rfl pk (aT K rfl (pv 1)) (fun _ _ _ _=>⟨(ar (i:=0) pk.nd rfl (K6 rfl)),aX,(ao (aj K rfl) (ao (aj K rfl) (aE K rfl (pv 1) rfl) (pv 2) (fun _ _=>rfl)) (pv 0) (fun _ _=>rfl))⟩)) aa)))),?_⟩;symm;refine lB (β:=Nat) hR (by omega) (fun i=>(R.map fun k=>tb t x k).take i) (fun σ'=>∃ y,σ'=[y,some (.ref g),some (.int (x:Int))]) rfl (fun i hi=>by rw [Lh];omega) ⟨_,rfl⟩ ?_ ?_
 ·rintro i c w' σ' H3 d' R' R0 hc hs hw ⟨y,rfl⟩ hR' hR0 hd';cases (show w'=V.int (c:Int) from hw);have hg3:=hs _ _ hg;have hT3:=Rep.mono hs hT;have c1:=pt.lt c (K1 hc);symm;refine cI hT3 rfl (gt.get hx) fun w1 hw1=>?_;symm;refine bh hw1 (gt.cZ hx c1) ?_;refine hR' _ _ (tb t x c) _ ⟨_,rfl⟩ (ai.refl _) rfl ?_;rw [Lv,K4,hc];rfl
 intro d2 H3 s3 h3;have h3':At K H3 (.ref d2) (R.map fun k=>tb t x k):=by
  have z:At K H3 (.ref d2) ((R.map fun k=>tb t x k).take R.length):=h3;rw [Lf (by simp)] at z
  exact z
 walk_at "rn";refine Ac h3' (by rw [KY];omega) fun d l' H4 hd s4 hpm hsr g4=>?_
 have nd:(R.map fun k=>tb t x k).Nodup:=by
  have z:=bW pt.srt;unfold List.Nodup at z ⊢;rw [List.pairwise_map];exact z.imp_of_mem fun ha hb hne c=>hne (gt.fM hx (pt.lt _ ha) (pt.lt _ hb) c)
 refine q d H4 l' (s3.free hd) (s3.trans s4) g4 (oY (hpm.nodup_iff.mpr nd) hsr) fun y=>?_;rw [hpm.mem_iff,Lc]
def GF (T:Txt K mg):aJ P w K mg base CX0 4 T.qe.f T.qe.fd ["group","part"] (GG T.aL K):=by
 exists T.qe.ok zk
 ·obtain ⟨g,v,n,e,t,R,rfl,_⟩:=h;rfl
 obtain ⟨g,v,n,e,t,R,rfl,hG,gt,hR,pt,q⟩:=h;have n23:=gt.le;refine ⟨_,(ae (aV (ay T.eM (jT T) (hr.mono (by decide)) rfl (paF (pv 0) (paF (pv 1) aa))))
   (ae (bV (i:=2) rfl zk.nd rfl (K6 rfl) tf (aM rfl T.aZ (paF (aE K rfl (pv 0) rfl) aa)) (fun _ _ _ _=>⟨(ar (i:=0) tf.nd rfl (K6 rfl)),aX,(ay T.mw (CI T) (hr.mono (by decide)) rfl (paF (pv 1) (paF (pv 2) (paF (pv 0) aa))))⟩) rfl)
   (af (aK (bu rfl tH (iO K rfl rfl T.fB (paF (pv 2) aa)) (fun _ _ _ _=>⟨(jD K rfl (i:=0) (j:=1) rfl tH.nd rfl (K6 rfl) rfl (K6 rfl)),(qc (aD cb (ao (aj K rfl) (pv 1) ag (fun _ _=>rfl)) (pv 0) (aG _))),(pv 1)⟩)))))),?_⟩
 symm;refine ⟨g,v,n,e,t,R,rfl,hG,gt,hR,pt,fun H1 s1=>?_⟩;have hG1:=hG.mono s1;have hR1:=Rep.mono s1 hR;obtain ⟨dx,r,bk,hg,hT,hB⟩:=hG1.get (K:=K);symm;refine nQ (n:=n) rfl (by omega) (fun d i σ' H' ys=>ai H1 H'/\∃ (L:List (List Nat)) (ps:List Addr) (y:Option V),Tbl H' d L ps/\ys=ps.map V.ref/\ps.length=i/\(∀ p∈ps,H1 p=none)/\(∀ (j:Nat) (s:List Nat),L[j]?=some s->s.Pairwise (· < ·)/\∀ y,y∈s↔∃ k,k∈R/\tb t j k=y)/\σ'=[y,some (.ref g),some v])
  (fun d i σ' H' ys hi ⟨_,L,ps,y,_,e1,e2,_⟩=>by rw [e1,KY,e2];exact Lj _) (fun d hd=>⟨aw hd _,[],[],_,Tbl.nil,rfl,rfl,by simp,by simp,rfl⟩) ?_ ?_
 ·rintro d i σ' H' ys R' R0 hd hi ⟨s2,L,ps,y,tb2,rfl,hl,fps,hL,rfl⟩ hys hR' hR0;symm;refine ⟨g,v,n,e,i,t,R,rfl,hG1.mono s2,gt,Rep.mono s2 hR1,pt,hi,fun p H3 sd fp s3 g3 srt hm=>?_⟩;have hp:=dB g3;have hdl:H3 d=some (.lst (ps.map V.ref)):=s3 _ _ tb2.top;have hpd:p≠d:=fun c=>by rw [c,tb2.top] at fp;cases fp
  refine hR' _ _ _ hdl ⟨fun b o z=>?_,L++[sd],ps++[p],some (.int (i:Int)),tb2.snoc s3 hp (fun c=>?_) hpd,by rw [LR];rfl,by rw [Lg,hl];rfl,fun q' hq'=>?_,fun j s' hj=>?_,rfl⟩
  ·rw [av (aH z hd)];exact s3 _ _ (s2 _ _ z)
  ·obtain ⟨j,hj⟩:=LS c;have:=tb2.row j p _ hj (KZ (by rw [<- tb2.len];exact (K0.mp hj).1))
   rw [fp] at this;cases this
  ·rcases LP.mp hq' with z|z
   ·exact fps q' z
   ·rw [Lb.mp z];exact s2.free fp
  ·have e1:L.length=i:=by rw [<- tb2.len];exact hl
   rcases LD j L.length with z|z
   ·rw [Lq z] at hj;exact hL j s' hj
   ·rw [Lr z] at hj;have j0:j - L.length=0:=by
     rcases Nx (j - L.length) with c|c
     ·exact c
     ·rw [MM (by simp;omega)] at hj;cases hj
    rw [j0] at hj;cases hj;have:j=i:=by omega
    rw [this];exact ⟨srt,hm⟩
 rintro d1 σ1 H2 ys fd1 hd1 ⟨s2,L,ps,y,tb2,rfl,hl,fps,hL,rfl⟩;have s02:=s1.trans s2;have lL:L.length=n:=by rw [<- tb2.len];exact hl
 symm;refine Dr (xs:=ps.map V.ref) (by rw [KY];omega) (fun d i σ' H' ys=>ai H2 H'/\∃ (L':List (List Nat)) (ps':List Addr) (y z:Option V),Tbl H' d L' ps'/\ys=ps'.map V.ref/\ps'.length<=i/\(∀ p∈ps',p∈ps.take i)/\dE n t e R L' i/\σ'=[y,z])
  (fun d i σ' H' ys ⟨z,_⟩=>SqL.of (z _ _ tb2.top)) (SqL.of tb2.top) (fun d i σ' H' ys hi ⟨_,L',ps',y,z,_,e1,e2,_⟩=>by rw [e1,KY];exact e2)
  (fun d hd=>⟨aw hd _,[],[],_,_,Tbl.nil,rfl,Mb _,by simp,dE.nil,rfl⟩) ?_ ?_
 ·rintro d i x σ' H3 H4 ys R' R0 hd hx ⟨s3,L',ps',y,z,tb3,rfl,hl',hps',st,rfl⟩ hys s4 hR' hR0;rw [K4] at hx;obtain ⟨p,hp,rfl⟩:=Mv.mp hx;have hi:i<n:=by rw [<- hl];exact (K0.mp hp).1
  obtain ⟨sd,hsd⟩:∃ sd,L[i]?=some sd:=⟨L[i],KZ (by omega)⟩
  obtain ⟨srt,hm⟩:=hL i sd hsd;obtain ⟨k1,k2,k3⟩:=st.step gt pt hi srt hm;have hp4:H4 p=some (.lst (aA sd)):=s4 _ _ (s3 _ _ (tb2.row i p sd hp hsd));have ap4:At K H4 (.ref p) sd:=bS hp4;have l0:0<sd.length:=L3.mpr (N2 k1);symm;refine bh ap4 (getD_some 0 l0) ?_;symm;have hin:∀ q∈ps',q∈ps.take (i+1):=fun q hq=>by
   rw [Lv];exact MD _ (hps' q hq)
  refine bf (fun c=>?_) (fun c=>?_)
  ·symm;have hn:p∉ps':=fun c=>by
    have z1:=hps' p c;obtain ⟨j,hj⟩:=LS z1;have hj1:j<i:=by
     have:=(K0.mp hj).1;rw [Lh] at this;omega
    rw [MP hj1] at hj;obtain ⟨i1,e1⟩:=(K0.mp hj);obtain ⟨i2,e2⟩:=(K0.mp hp);exact (ON.mp tb2.nd) j i i1 i2 hj1 (e1.trans e2.symm)
   have hpd:p≠d:=fun c=>by
    have:=tb2.row i p sd hp hsd;rw [c,hd] at this;cases this
   refine hR' _ _ _ (s4 _ _ hys) ⟨fun b o zz=>?_,L'++[sd],ps'++[p],_,_,tb3.snoc s4 hp4 hn hpd,by rw [LR];rfl,by rw [Lg];show _+1<=_;omega,fun q' hq'=>?_,st.new gt pt hi (k2 c) srt hm,rfl⟩
   ·rw [av (aH zz hd)];exact s4 _ _ (s3 _ _ zz)
   ·rcases LP.mp hq' with z|z
    ·exact hin q' z
    ·rw [Lb.mp z,Lv,hp];simp
  ·refine hR0 _ _ (s4 _ _ hys) ⟨s3.trans s4,L',ps',_,_,tb3.mono s4,rfl,by omega,hin,st.old (k3 c),rfl⟩
 rintro d2 σ2 H3 ys fd2 hd2 ⟨s3,L',ps',y,z,tb3,rfl,hl',hps',st,rfl⟩;rw [KY,hl] at st;symm;exact q d2 H3 L' ps' (s02.free fd2) (fun p hp=>s1.free (fps p (Oj (hps' p hp)))) (s02.trans s3) tb3 st.fin
inductive tP  (vs:List V) (H:Hp) (Q:VK) (E:XK):Prop
 | mk (m:Nat) (_:vs=[.int (m:Int)]) (_:1<=m) (_:m<=60) (_:Q .non H)
def ui (T:Txt K mg):aJ P w K mg base CX0 1 T.gv.f T.gv.fd ["many"] tP:=by
 exists T.gv.ok sO
 ·obtain ⟨m,rfl,_⟩:=h;rfl
 obtain ⟨m,rfl,m1,m2,q⟩:=h;refine ⟨_,(af (a8 (PW.pt (om (aD kc (pv 0) ag (aG _)) (mL (aD gG (pv 0) (qf (v:=.int 60) rfl T.xQ ⟨_,rfl⟩) (aG _))))) (af cg) aQ)),?_⟩;walk_at "5";refine bf (fun c=>absurd c (by omega)) (fun _=>?_)
 left;refine bf (fun c=>absurd c (by omega)) (fun _=>?_)
 left;exact q
def zP (n:Nat) (t:List (List Nat)) (e:Nat) (z:V) (m:Nat):Prop:=(z=.non/\bU (cA n t e) m)\/(z=.int (m:Int)/\1<=m/\m<=60/\∀ k,bU (cA n t e) k->m % k=0)
inductive B6 (C:Addr) (vs:List V) (H:Hp) (Q:VK) (E:XK):Prop
 | mk (g:Addr) (z:V) (n e m:Nat) (t:List (List Nat)) (_:vs=[.ref g,z]) (_:bb C H g n t e) (_:GT n t e) (_:zP n t e z m) (_:∀ H',ai H H'->Q (.int (m:Int)) H')
def kg (T:Txt K mg):aJ P w K mg base CX0 3 T.fP.f T.fP.fd ["group","spokes"] (B6 T.aL):=by
 exists T.fP.ok tX
 ·obtain ⟨g,z,n,e,m,t,rfl,_⟩:=h;rfl
 obtain ⟨g,z,n,e,m,t,rfl,hG,gt,hz,q⟩:=h;refine ⟨_,(ae (aq (i:=2) tX.nd rfl (K6 rfl) (ay T.qH (FG T) (hr.mono (by decide)) rfl (paF (pv 0) aa)))
   (ae (a8 (ud (Eo (pv 1))) (af (aK (pv 2))) aQ)
   (ae (aV (ay T.gv (ui T) (hr.mono (by decide)) rfl (paF (pv 1) aa)))
   (ae (a8 (aD eI (ak aO (pv 1) (pv 2)) ag (aG _)) (af cg) aQ)
   (af (aK (pv 1))))))),?_⟩
 left;refine ⟨g,n,e,t,rfl,hG,gt,fun k H1 s1 hk=>?_⟩;walk_at "5";rcases hz with ⟨rfl,hm⟩|⟨rfl,m1,m2,hm⟩
 ·refine bf (fun _=>?_) (fun c=>absurd rfl c);left;rw [hk.uni hm];exact q _ s1
 ·refine bf (fun c=>by cases c) (fun _=>?_)
  left;refine ⟨m,rfl,m1,m2,?_⟩;have hk0:=hk.pos;walk_at "5";refine bT (fun c=>absurd (hm k hk) c) (fun _=>?_);left;exact q _ s1
end
section
inductive ve (C:Addr) (K:KW) (vs:List V) (H:Hp) (Q:VK) (E:XK):Prop
 | mk (g:Addr) (v u z:V) (n e m l:Nat) (t:List (List Nat)) (R M:List Nat) (_:vs=[.ref g,v,u,z]) (_:bb C H g n t e) (_:GT n t e) (_:At K H v R) (_:IsPart n t R) (_:At K H u M) (_:M.length=R.length) (_:(∀ x∈M,x<m)) (_:(z=.int (m:Int)\/(z=.non/\m=l))) (_:bU (cA n t e) l) (_:m % l=0) (_:0<m) (_:m<=60) (_:∀ x H' o,ai H H'->B4 H' x o->qG t R M m o->Q x H')
end
section
variable {P:Lp} {w:World} {K:KW} {mg:Str->Option Value} {base:Heap}
inductive u6 (K:KW) (vs:List V) (H:Hp) (Q:VK) (E:XK):Prop
 | mk (v u:V) (m:Nat) (R M:List Nat) (_:vs=[v,u,.int (m:Int)]) (_:At K H v R) (_:At K H u M) (_:M.length=R.length) (_:M.length<=1000) (_:(∀ x∈M,x<m)) (_:∀ H',ai H H'->Q .non H')
def vH (T:Txt K mg):aJ P w K mg base CX0 1 T.gL.f T.gL.fd ["part","marks","spokes"] (u6 K):=by
 exists T.gL.ok u7
 ·obtain ⟨v,u,m,R,M,rfl,_⟩:=h;rfl
 obtain ⟨v,u,m,R,M,rfl,hR,hM,hl,h1,mm,q⟩:=h;refine ⟨_,(ae (a8 (aD eI (aI (aN K rfl) rfl T.bA Lo (paF (pv 1) aa)) (aI (aN K rfl) rfl T.bA Lo (paF (pv 0) aa)) (aG _)) (af cg) aQ)
   (af (a8 (jG (aI (xi K rfl rfl) rfl T.Ha PZ (paF (bu rfl kJ (aT K rfl (pv 1)) (fun _ _ _ _=>⟨(ar (i:=0) kJ.nd rfl (K6 rfl)),aX,(Kc (d9 kc (pv 0) ag (aG _)) (pM (d9 yu (pv 0) (pv 1) (aG _))))⟩)) aa))) (af cg) aQ))),?_⟩
 walk_at "5";refine bT (fun c=>absurd hl c) (fun _=>?_);walk_at "5";refine lB (β:=Bool) hM (by omega) (fun i=>Ll i false) (fun σ'=>∃ y,σ'=[y,some (.int (m:Int))]) rfl (fun i _=>by simp) ⟨_,rfl⟩ ?_ ?_
 ·rintro i c w' σ' H3 d' R' R0 hc hs hw ⟨y,rfl⟩ hR' hR0 hd';cases (show w'=V.int (c:Int) from hw);have c1:=mm c (K1 hc);left;refine bf (fun c=>absurd c (by omega)) (fun _=>?_)
  left;rw [decide_eq_false (show ¬ c >= m by omega)]
  exact hR' _ _ false _ ⟨_,rfl⟩ (ai.refl _) rfl Oi
 intro d2 H3 s3 h3;have h3':At K H3 (.ref d2) (Ll M.length false):=h3;left;refine GY h3' ?_;rw [show (Ll M.length false).any id=false from N5.mpr fun x hx=>by rw [O3 hx];decide]
 left;walk_at "9";exact q _ s3
def v3 (T:Txt K mg):aJ P w K mg base CX0 4 T.gF.f T.gF.fd ["group","part","marks","spokes"] (ve T.aL K):=by
 exists T.gF.ok eK
 ·obtain ⟨g,v,u,z,n,e,m,l,t,R,M,rfl,_⟩:=h;rfl
 obtain ⟨g,v,u,z,n,e,m,l,t,R,M,rfl,hG,gt,hR,pt,hM,ml,mm,hz,hl,ml0,m1,m60,q⟩:=h;have n23:=gt.le;have rl:=pt.len;have nd:=bW pt.srt;have sv:zP n t e z m:=by
  rcases hz with rfl|⟨rfl,rfl⟩
  ·exact .inr ⟨rfl,m1,m60,fun k hk=>by rw [hk.uni hl];exact ml0⟩
  ·exact .inl ⟨rfl,hl⟩
 refine ⟨_,(ae (aV (ay T.eM (jT T) (hr.mono (by decide)) rfl (paF (pv 0) (paF (pv 1) aa))))
   (ae (aq (i:=4) eK.nd rfl (K6 rfl) (ay T.fP (kg T) (hr.mono (by decide)) rfl (paF (pv 0) (paF (pv 3) aa))))
   (ae (aV (ay T.gL (vH T) (hr.mono (by decide)) rfl (paF (pv 1) (paF (pv 2) (paF (pv 4) aa)))))
   (ae (aq (i:=5) eK.nd rfl (K6 rfl) (Cn K rfl rfl rfl T.Jn rfl T.nC (paF (pv 1) (paF (pv 2) aa))))
   (ae (ba Ld rfl (aT K rfl (pv 1)) (ar (i:=6) eK.nd rfl (K6 rfl)) (af (ba Ld rfl (aT K rfl (pv 1)) (ar (i:=7) eK.nd rfl (K6 rfl)) (af (a8 (aD eI (i3 (js hr) (pv 5) (ao (aj K rfl) (ao (aj K rfl) (aE K rfl (pv 0) rfl) (pv 6) (fun _ _=>rfl)) (pv 7) (fun _ _=>rfl)) (fun _ _=>rfl)) (ak aO (ak aW (i3 (js hr) (pv 5) (pv 6) (fun _ _=>rfl)) (i3 (js hr) (pv 5) (pv 7) (fun _ _=>rfl))) (pv 4)) (aG _)) (af (aK (el (paF (pv 6) (paF (pv 7) aa))))) aQ)))))
   (af (aK pj))))))),?_⟩
 walk_at "rn";refine ⟨g,v,n,e,t,R,rfl,hG,gt,hR,pt,fun H1 s1=>?_⟩;walk_at "rn";refine ⟨g,z,n,e,m,t,rfl,bb.mono s1 hG,gt,sv,fun H2 s2=>?_⟩;have s02:=s1.trans s2;walk_at "rn";refine ⟨v,u,m,R,M,rfl,Rep.mono s02 hR,Rep.mono s02 hM,ml,by omega,mm,fun H3 s3=>?_⟩
 have s03:=s02.trans s3;walk_at "rn";refine Ds ?_;walk_at "rn";refine Kz (Rep.mono s03 hR) (Rep.mono s03 hM) ml.symm nd fun d hd=>?_;have s04:=s03.trans (aw hd (.dK (dH R M)));have hd4:upd H3 d (.dK (dH R M)) d=some (.dK (dH R M)):=au;generalize upd H3 d (.dK (dH R M))=H4 at s04 hd4 ⊢;have hG4:=bb.mono s04 hG;obtain ⟨dx,r4,bk,hg,hT,hB⟩:=hG4.get (K:=K);walk_at "rn";refine mP (Rep.mono s04 hR) (fun j σ' H'=>H'=H4/\(∀ j',j' < j->∀ k,k<R.length->fV t R M m j' k)/\∃ x6 x7,σ'=[some (.ref g),some v,some u,some z,some (.int (m:Int)),some (.ref d),x6,x7]) ⟨rfl,fun j hj=>absurd hj (by omega),_,_,rfl⟩ (fun i σ' H' y=>by rw [y.1];exact ai.refl _) ?_ ?_
 ·rintro j a w' σ' H' ha hw ⟨rfl,hj,x6,x7,rfl⟩;cases (show w'=V.int (a:Int) from hw);have jl:j<R.length:=(K0.mp ha).1;have haR:=K1 ha;have han:=pt.lt a haR;have mi:=getD_some (l:=M) 0 (show j<M.length by omega)
  have ea:R.getD j 0=a:=by rw [K2,ha];rfl
  walk_at "rn";refine mP (Rep.mono s04 hR) (fun k σ' H1=>H1=H'/\(∀ k',k' < k->fV t R M m j k')/\∃ x7,σ'=[some (.ref g),some v,some u,some z,some (.int (m:Int)),some (.ref d),some (.int (a:Int)),x7]) ⟨rfl,fun j hj=>absurd hj (by omega),_,rfl⟩ (fun i σ' H1 y=>by rw [y.1];exact ai.refl _) ?_ ?_
  ·rintro k b w2 σ' H1 hb hw2 ⟨rfl,hk',x7,rfl⟩;cases (show w2=V.int (b:Int) from hw2);have kl:k<R.length:=(K0.mp hb).1;have hbR:=K1 hb;have hbn:=pt.lt b hbR;have mk:=getD_some (l:=M) 0 (show k<M.length by omega)
   have eb:R.getD k 0=b:=by rw [K2,hb];rfl
   have hab:=pt.cl a haR b hbR;have hx:=LH hab;have mx:=getD_some (l:=M) 0 (show R.idxOf (tb t a b)<M.length by omega)
   have oke:fV t R M m j k↔M.getD (R.idxOf (tb t a b)) 0=(M.getD j 0+M.getD k 0) % m:=by
    unfold fV;rw [ea,eb]
   walk_at "1";refine iY ?_;symm;refine cI hT rfl (gt.get han) fun w1 hw1=>?_;walk_at "rn";refine bh hw1 (gt.cZ han hbn) ?_;refine lN hd4 (kR nd (qJ hab) mx) ?_;walk_at "rn";refine iY ?_;walk_at "rn";refine lN hd4 (kR nd ha mi) ?_;walk_at "rn";refine iY ?_;walk_at "rn";refine lN hd4 (kR nd hb mk) ?_;walk_at "rn";refine bT (fun y=>?_) (fun y=>?_)
   ·walk_at "3";refine ⟨small (by show 2<=1000;decide),fun p hp=>?_⟩
    exact q _ _ (some (a,b)) (s04.trans (aw hp _)) ⟨p,rfl,au⟩ ⟨j,k,jl,kl,ea,eb,fun y'=>y (oke.mp y'),hj,hk'⟩
   ·walk_at "rn";refine ⟨rfl,fun k' hk2=>?_,_,rfl⟩;rcases LD k' k with y' | y'
    ·exact hk' k' y'
    ·have:k'=k:=by omega
     rw [this];exact oke.mpr y
  ·rintro σ' H1 ⟨rfl,hk',x7,rfl⟩;walk_at "rn";refine ⟨rfl,fun j' hj2 k hk=>?_,_,_,rfl⟩;rcases LD j' j with y|y
   ·exact hj j' y k hk
   ·have:j'=j:=by omega
    rw [this];exact hk' k hk
 ·rintro σ' H' ⟨rfl,hj,x6,x7,rfl⟩;walk_at "rn";exact q _ _ none s04 rfl fun j hj2 k hk=>hj j hj2 k hk
def bt (T:Txt K mg) (C:Addr):Prop:=C=T.bj\/C=T.cB\/C=T.bY\/C=T.cL\/C=T.cU\/C=T.cC
def wM (T:Txt K mg):bt T T.bj:=.inl rfl
def wW (T:Txt K mg):bt T T.cB:=.inr (.inl rfl)
def tS (T:Txt K mg):bt T T.bY:=.inr (.inr (.inl rfl))
def wO (T:Txt K mg):bt T T.cL:=.inr (.inr (.inr (.inl rfl)))
def wZ (T:Txt K mg):bt T T.cU:=.inr (.inr (.inr (.inr (.inl rfl))))
def wR (T:Txt K mg):bt T T.cC:=.inr (.inr (.inr (.inr (.inr (rfl)))))
structure KD (K:KW) (C:Addr):Prop where
 cls:Cls K C
 g:aY K C "group"
 s:aY K C "spokes"
 z:aY K C "size"
 d:aY K C "deeds"
def ni (T:Txt K mg) {C:Addr} (h:bt T C):KD K C:=by
 rcases h with rfl|rfl|rfl|rfl|rfl|rfl
 ·exact ⟨T.lu,T.vi,T.uC,T.yb,T.uP⟩
 ·exact ⟨T.sE,T.vW,T.uI,T.xJ,T.vf⟩
 ·exact ⟨T.oK,T.tq,T.so,T.vY,T.ue⟩
 ·exact ⟨T.sy,T.uX,T.ua,T.xE,T.uZ⟩
 ·exact ⟨T.sx,T.vm,T.tK,T.ya,T.vJ⟩
 ·exact ⟨T.sk,T.uT,T.sS,T.yd,T.vy⟩
def dC (T:Txt K mg):∀ C,bt T C->Cls K C/\Meth K C "moves" T.cQ:=by
 rintro C (rfl|rfl|rfl|rfl|rfl|rfl)
 ·exact ⟨T.lu,T.vB⟩
 ·exact ⟨T.sE,T.vM⟩
 ·exact ⟨T.oK,T.tG⟩
 ·exact ⟨T.sy,T.vo⟩
 ·exact ⟨T.sx,T.vX⟩
 ·exact ⟨T.sk,T.vN⟩
def DI (T:Txt K mg):∀ C,bt T C->Cls K C/\Meth K C "trace" T.cR:=by
 rintro C (rfl|rfl|rfl|rfl|rfl|rfl)
 ·exact ⟨T.lu,T.vI⟩
 ·exact ⟨T.sE,T.vE⟩
 ·exact ⟨T.oK,T.uJ⟩
 ·exact ⟨T.sy,T.v5⟩
 ·exact ⟨T.sx,T.vg⟩
 ·exact ⟨T.sk,T.vz⟩
def bL (H:Hp) (p:Addr) (r:List (Nat×Nat)):Prop:=∃ qs:List Addr,H p=some (.lst (qs.map V.ref))/\qs.length=r.length/\∀ (i:Nat) (q:Addr) (x:Nat×Nat),qs[i]?=some q->r[i]?=some x->H q=some (.tup [.int (x.1:Int),.int (x.2:Int)])
def c8 (H:Hp) (d:Addr) (D:List (List (Nat×Nat))):Prop:=∃ ps:List Addr,H d=some (.lst (ps.map V.ref))/\ps.length=D.length/\∀ (i:Nat) (p:Addr) (r:List (Nat×Nat)),ps[i]?=some p->D[i]?=some r->bL H p r
def bL.mono {H H':Hp} {p:Addr} {r:List (Nat×Nat)} (s:ai H H') (h:bL H p r):bL H' p r:=by
 obtain ⟨qs,h1,h2,h3⟩:=h;exact ⟨qs,s _ _ h1,h2,fun i q x a b=>s _ _ (h3 i q x a b)⟩
def c8.mono {H H':Hp} {d:Addr} {D:List (List (Nat×Nat))} (s:ai H H') (h:c8 H d D):c8 H' d D:=by
 obtain ⟨ps,h1,h2,h3⟩:=h;exact ⟨ps,s _ _ h1,h2,fun i p r a b=>(h3 i p r a b).mono s⟩
def pJ {α β:Type} {F:α->β->Prop}:∀ {as:List α} {bs:List β},as.length=bs.length->(∀ (i:Nat) (a:α) (b:β),as[i]?=some a->bs[i]?=some b->F a b)->MB F as bs
 | [],[],_,_=>.nil
 | [],_ :: _,h,_=>by cases h
 | _ :: _,[],h,_=>by cases h
 | a :: as,b :: bs,h,f=>.cons (f 0 a b rfl rfl) (pJ (Nat.succ.inj h) fun i x y h1 h2=>f (i+1) x y h1 h2)
def bL.at {H:Hp} {p:Addr} {r:List (Nat×Nat)} (h:bL H p r):At K H (.ref p) r:=by
 obtain ⟨qs,h1,h2,h3⟩:=h;refine ⟨p,_,rfl,SqL.of h1,pJ (by rw [KY];exact h2) fun i a b ha hb=>?_⟩
 rw [K4] at ha;cases hq:qs[i]? with
 | none=>rw [hq] at ha;cases ha
 | some q =>
  rw [hq] at ha;cases ha;exact HI (h3 i q b hq hb)
def c8.at {H:Hp} {d:Addr} {D:List (List (Nat×Nat))} (h:c8 H d D):At K H (.ref d) D:=by
 obtain ⟨ps,h1,h2,h3⟩:=h;refine ⟨d,_,rfl,SqL.of h1,pJ (by rw [KY];exact h2) fun i a b ha hb=>?_⟩
 rw [K4] at ha;cases hq:ps[i]? with
 | none=>rw [hq] at ha;cases ha
 | some q =>
  rw [hq] at ha;cases ha;exact (h3 i q b hq hb).at
def c8.but {H H':Hp} {d p C dx:Addr} {fs:List (Str×V)} {D:List (List (Nat×Nat))} (h:c8 H d D) (hp:H p=some (.ins C dx fs)) (k:∀ a o,H a=some o->a≠p->H' a=some o):c8 H' d D:=by
 obtain ⟨ps,h1,h2,h3⟩:=h;have no:∀ (a:Addr) (o:HO),H a=some o->(∀ C dx fs,o≠.ins C dx fs)->H' a=some o:=fun a o ha n=>k a o ha fun e=>by
  rw [e,hp] at ha;exact n _ _ _ (LG ha).symm
 refine ⟨ps,no _ _ h1 (fun _ _ _ z=>by cases z),h2,fun i q r a b=>?_⟩
 obtain ⟨qs,g1,g2,g3⟩:=h3 i q r a b;exact ⟨qs,no _ _ g1 (fun _ _ _ z=>by cases z),g2,fun j q' x y z=>no _ _ (g3 j q' x y z) (fun _ _ _ z=>by cases z)⟩
def bL.keep {H:Hp} {p d:Addr} {r:List (Nat×Nat)} {ys:List V} {o:HO} (h:bL H p r) (hd:H d=some (.lst ys)) (np:p≠d):bL (upd H d o) p r:=by
 obtain ⟨qs,h1,h2,h3⟩:=h;refine ⟨qs,by rw [av np];exact h1,h2,fun i q x a b=>?_⟩
 have z:=h3 i q x a b;rw [av (fun e=>by rw [e,hd] at z;cases z)]
 exact z
def iX {α:Type} {l:List α} {x y:α} {i:Nat} (h:(l++[x])[i]?=some y):(i<l.length/\l[i]?=some y)\/(i=l.length/\x=y):=by
 rcases LD i l.length with z|z
 ·rw [Lq z] at h;exact .inl ⟨z,h⟩
 ·rw [Lr z] at h;have:i - l.length=0:=by
   rcases Nx (i - l.length) with y' | y'
   ·exact y'
   ·rw [MM (by simp;omega)] at h;cases h
  rw [this] at h;exact .inr ⟨by omega,LG h⟩
def jA {α β:Type} {F:α->β->Prop}:∀ {as:List α} {bs:List β} {i:Nat} {a:α},MB F as bs->as[i]?=some a->∃ b,bs[i]?=some b/\F a b
 | _,_,0,_,.cons h _,e=>⟨_,rfl,by cases e;exact h⟩
 | _,_,i+1,_,.cons _ t,e=>jA (i:=i) t e
 | _,_,_,_,.nil,e=>by simp at e
def iq (acc:List Nat) (i:Nat) (x:Nat×Nat):List Nat:=if x.1=i then acc.set x.2 (acc.getD x.2 0+1) else acc
def jY:List (Nat×Nat)->Nat->List Nat->List Nat
 | [],_,acc=>acc
 | x :: r,i,acc=>jY r (i+1) (iq acc i x)
def wN (x:Nat×Nat):∀ (r:List (Nat×Nat)) (i:Nat) (acc:List Nat),jY (r++[x]) i acc=iq (jY r i acc) (i+r.length) x
 | [],i,acc=>rfl
 | y :: r,i,acc=>by
  show jY (r++[x]) (i+1) (iq acc i y)=iq (jY r (i+1) (iq acc i y)) (i+(r.length+1)) x;rw [wN x r,show i+1+r.length=i+(r.length+1) by omega]
def rT {acc:List Nat} {i:Nat} {x:Nat×Nat}:(iq acc i x).length=acc.length:=by
 unfold iq
 split
 ·rw [NX]
 ·rfl
def rN:∀ (r:List (Nat×Nat)) (i:Nat) (acc:List Nat),(jY r i acc).length=acc.length
 | [],_,_=>rfl
 | x :: r,i,acc=>by
  show (jY r (i+1) (iq acc i x)).length=_;rw [rN r,rT]
def cnt (m:Nat) (r:List (Nat×Nat)):List Nat:=jY r 0 (Ll m 0)
def qp {m:Nat} {r:List (Nat×Nat)}:(cnt m r).length=m:=by unfold cnt;rw [rN,M5]
def Gz {m:Nat} {r:List (Nat×Nat)} {i:Nat} {x:Nat×Nat} (h:r[i]?=some x):cnt m (r.take (i+1))=iq (cnt m (r.take i)) i x:=by
 have hi:=(K0.mp h).1;unfold cnt;rw [Lv,h];show jY (r.take i++[x]) 0 _=_;rw [wN,Lh,show 0+min i r.length=i by omega]
def CQ {a:Nat} (n:Nat):(Ll n [V.int (a:Int)]).flatten=aA (Ll n a):=by
 unfold aA;rw [List.map_replicate]
 induction n with
 | zero=>rfl
 | succ n ih=>rw [MI,MI,NL,ih];rfl
def ints_set {l:List Nat} {k c:Nat}:(aA l).set k (V.int (c:Int))=aA (l.set k c):=by
 unfold aA;rw [List.map_set]
def c8.get {H H2:Hp} {d:Addr} {D:List (List (Nat×Nat))} {i:Nat} {r:List (Nat×Nat)} {Q:VK} (h:c8 H d D) (s:ai H H2) (hi:D[i]?=some r) (q:∀ p,bL H p r->Q (.ref p) H2):pQ K (.ref d) (.int (i:Int)) H2 Q:=by
 obtain ⟨ps,h1,h2,h3⟩:=h;have hl:i<ps.length:=by rw [h2];exact (K0.mp hi).1
 refine ⟨d,_,_,.ref ps[i],rfl,rfl,SqL.of (s _ _ h1),f7 (by rw [K4,KZ hl];rfl),q _ (h3 i _ r (KZ hl) hi)⟩
def eU {H H':Hp} {b:Addr} {o:HO} (fb:H b=none) (s:ai H H'):ai H (upd H' b o):=fun a o' z=>by
 rw [av (aH z fb)];exact s _ _ z
def qg {H:Hp} {p:Addr} {xs:List V} {Q:VK} {σ:St} {g:TG} {tt:TT} {ta:TE} {own:List Str} {fr:List Nat} (r:List (Nat×Nat)) (Sh:St->Prop) (hS:SqL K H p xs) (hl:xs.length=r.length) (hz:r.length<=1000) (h0:Sh (bB own fr σ))
  (turn:∀ (i:Nat) (x:V) (y:Nat×Nat) σ' H' (R:St->V->Hp->Prop) (R0:St->Hp->Prop),xs[i]?=some x->r[i]?=some y->ai H H'->Sh σ'->(∀ σ2 q H5,Sh σ2->ai H' H5->H5 q=some (.tup [.int (y.1:Int),.int (y.2:Int)])->R σ2 (.ref q) H5) ->
   g x σ' H' fun σ2 H3=>tt σ2 H3 fun ok H4=>if ok=true then ta σ2 H4 (R σ2) else R0 σ2 H4)
  (fin:∀ d H',H d=none->ai H H'->bL H' d r->Q (.ref d) H'):iz K (.ref p) H (cS own fr g tt ta σ Q):=by
 refine mB (p:=p) (xs:=xs) (by omega) (fun d i σ' H' ys=>ai H H'/\∃ (qs:List Addr),ys=qs.map V.ref/\qs.length=i/\(∀ (j:Nat) (q:Addr) (c:Nat×Nat),qs[j]?=some q->r[j]?=some c->H' q=some (.tup [.int (c.1:Int),.int (c.2:Int)]))/\Sh σ')
  (fun d i σ' H' ys z=>z.1.seq hS) hS (fun d i σ' H' ys hi z=>by obtain ⟨_,qs,e,e2,_⟩:=z;rw [e,KY,e2];exact Lj _) (fun d hd=>⟨aw hd _,[],rfl,rfl,(fun j q c z=>by simp at z),h0⟩) ?_ ?_
 ·rintro d i o σ' H2 ys R R0 hd hi ⟨s2,qs,rfl,hq,hc,hsh⟩ hys hR hR0;have hil:i<r.length:=by rw [<- hl];exact (K0.mp hi).1
  refine turn i o _ σ' H2 R R0 hi (KZ hil) s2 hsh fun σ2 a H5 hs2 s5 ha=>?_;have na:a≠d:=fun e=>by rw [e,s5 _ _ hys] at ha;cases ha
  refine hR _ _ _ (s5 _ _ hys) ⟨fun b o zz=>by rw [av (aH zz hd)];exact s5 _ _ (s2 _ _ zz),qs++[a],by rw [LR];rfl,by rw [Lg,hq];rfl,fun j q c' hj hj'=>?_,hs2⟩
  rcases iX hj with ⟨_,z⟩|⟨z1,z2⟩
  ·have zz:=s5 _ _ (hc j q c' z hj');rw [av (fun e=>by rw [e,s5 _ _ hys] at zz;cases zz)]
   exact zz
  ·subst z2;rw [z1,hq,KZ hil] at hj';cases hj';rw [av na];exact ha
 ·rintro d σ' H2 ys fd hd ⟨s2,qs,rfl,hq,hc,_⟩;exact fin d H2 fd s2 ⟨qs,hd,by omega,hc⟩
def nG {H:Hp} {p:Addr} {xs:List V} {Q:VK} {σ:St} {g:TG} {tt:TT} {ta:TE} {own:List Str} {fr:List Nat} (D:List (List (Nat×Nat))) (Sh:St->Prop) (hS:SqL K H p xs) (hl:xs.length=D.length) (hz:D.length<=1000) (h0:Sh (bB own fr σ))
  (turn:∀ (i:Nat) (x:V) (r:List (Nat×Nat)) σ' H' (R:St->V->Hp->Prop) (R0:St->Hp->Prop),xs[i]?=some x->D[i]?=some r->ai H H'->Sh σ'->(∀ σ2 q H5,Sh σ2->ai H' H5->H' q=none->bL H5 q r->R σ2 (.ref q) H5) ->
   g x σ' H' fun σ2 H3=>tt σ2 H3 fun ok H4=>if ok=true then ta σ2 H4 (R σ2) else R0 σ2 H4)
  (fin:∀ d H',H d=none->ai H H'->c8 H' d D->Q (.ref d) H'):iz K (.ref p) H (cS own fr g tt ta σ Q):=by
 refine mB (p:=p) (xs:=xs) (by omega) (fun d i σ' H' ys=>ai H H'/\∃ (ps:List Addr),ys=ps.map V.ref/\ps.length=i/\(∀ p∈ps,p≠d)/\(∀ (j:Nat) (p:Addr) (r:List (Nat×Nat)),ps[j]?=some p->D[j]?=some r->bL H' p r)/\Sh σ')
  (fun d i σ' H' ys z=>z.1.seq hS) hS (fun d i σ' H' ys hi z=>by obtain ⟨_,qs,e,e2,_⟩:=z;rw [e,KY,e2];exact Lj _) (fun d hd=>⟨aw hd _,[],rfl,rfl,(fun p hp=>by cases hp),(fun j q c z=>by simp at z),h0⟩) ?_ ?_
 ·rintro d i o σ' H2 ys R R0 hd hi ⟨s2,ps,rfl,hq,hnd,hc,hsh⟩ hys hR hR0;have hil:i<D.length:=by rw [<- hl];exact (K0.mp hi).1
  refine turn i o _ σ' H2 R R0 hi (KZ hil) s2 hsh fun σ2 a H5 hs2 s5 fa ra=>?_;have na:a≠d:=fun e=>by rw [e,hys] at fa;cases fa
  have hys5:=s5 _ _ hys;refine hR _ _ _ hys5 ⟨fun b o zz=>by rw [av (aH zz hd)];exact s5 _ _ (s2 _ _ zz),ps++[a],by rw [LR];rfl,by rw [Lg,hq];rfl,fun p hp=>?_,fun j p' r' hj hj'=>?_,hs2⟩
  ·rcases LP.mp hp with z|z
   ·exact hnd p z
   ·rw [Lb.mp z];exact na
  ·rcases iX hj with ⟨_,z⟩|⟨z1,z2⟩
   ·exact ((hc j p' r' z hj').mono s5).keep hys5 (hnd p' (K1 z))
   ·subst z2;rw [z1,hq,KZ hil] at hj';cases hj';exact ra.keep hys5 na
 ·rintro d σ' H2 ys fd hd ⟨s2,ps,rfl,hq,hnd,hc,_⟩;exact fin d H2 fd s2 ⟨ps,hd,by omega,hc⟩
inductive vF (C:Addr) (K:KW) (vs:List V) (H:Hp) (Q:VK) (E:XK):Prop
 | mk (g:Addr) (v:V) (n e:Nat) (t:List (List Nat)) (R:List Nat) (_:vs=[.ref g,v]) (_:bb C H g n t e) (_:GT n t e) (_:At K H v R) (_:IsPart n t R) (_:∀ d H',H d=none->ai H H'->Gr K H' d (aS n t e R)->Q (.ref d) H')
def v7 (T:Txt K mg):aJ P w K mg base CX0 5 T.gJ.f T.gJ.fd ["group","part"] (vF T.aL K):=by
 exists T.gJ.ok vD
 ·obtain ⟨g,v,n,e,t,R,rfl,_⟩:=h;rfl
 obtain ⟨g,v,n,e,t,R,rfl,hG,gt,hR,pt,q⟩:=h;have n23:=gt.le;refine ⟨_,(af (aK (bu rfl kU (aT K rfl (ay T.qe (GF T) (hr.mono (by decide)) rfl (paF (pv 0) (paF (pv 1) aa)))) (fun _ _ _ _=>⟨(ar (i:=0) kU.nd rfl (K6 rfl)),aX,(ao (aj K rfl) (pv 0) ag (fun _ _=>rfl))⟩)))),?_⟩
 walk_at "rn";refine ⟨g,v,n,e,t,R,rfl,hG,gt,hR,pt,fun d H1 L ps fd fps s1 hL hsd=>?_⟩;have ec:=hsd.aS gt pt;have ll:L.length<=n:=by
  have:=congrArg QI ec;rw [KY] at this;rw [this];exact kX
 walk_at "rn";refine Bl (β:=Nat) hL (by omega) (fun i=>(L.map fun s=>s.getD 0 0).take i) (fun σ'=>∃ y,σ'=[y]) rfl (fun i _=>by rw [Lh];omega) ⟨_,rfl⟩ ?_ ?_
 ·rintro i c p σ' H5 d' R' R0 hc hs hp ⟨y,rfl⟩ hR' hR0 hd';have cne:=hsd.ne c (K1 hc);walk_at "rn";refine bh (n:=0) (bS hp) (c:=c.getD 0 0) (getD_some 0 (L3.mpr cne)) ?_;exact hR' _ _ _ _ ⟨_,rfl⟩ (ai.refl _) rfl (by rw [Lv,K4,hc];rfl)
 ·intro d' H5 fd' hs hg;have hg':Gr K H5 d' ((L.map fun s=>s.getD 0 0).take L.length):=hg;rw [Lf (by simp),ec] at hg'
  exact q d' H5 (s1.free fd') (s1.trans hs) hg'
def MV (n:Nat) (t:List (List Nat)) (e:Nat) (R:List Nat) (H:Hp) (kvs:List (Key×V)) (i k:Nat):Prop:=∀ i' k' c h,(i' < i\/(i'=i/\k' < k))->(aS n t e R)[i']?=some c->R[k']?=some h ->
 ∃ q,cM kvs (nk (tb t c h))=some (.ref q)/\H q=some (.tup [.int ((i':Nat):Int),.int ((k':Nat):Int)])
def MV.mono {n e i k:Nat} {t:List (List Nat)} {R:List Nat} {H H':Hp} {kvs:List (Key×V)} (s:ai H H') (h:MV n t e R H kvs i k):MV n t e R H' kvs i k:=fun i' k' c x a b d=>by
 obtain ⟨q,z1,z2⟩:=h i' k' c x a b d;exact ⟨q,z1,s _ _ z2⟩
def MV.nil {n e:Nat} {t:List (List Nat)} {R:List Nat} {H:Hp}:MV n t e R H [] 0 0:=fun i' k' c x a=>by omega
def MV.next {n e i:Nat} {t:List (List Nat)} {R:List Nat} {H:Hp} {kvs:List (Key×V)} (h:MV n t e R H kvs i R.length):MV n t e R H kvs (i+1) 0:=fun i' k' c x a b d=>by
 have:=(K0.mp d).1;exact h i' k' c x (by omega) b d
def MV.put {n e i k c x:Nat} {t:List (List Nat)} {R:List Nat} {H:Hp} {kvs:List (Key×V)} {q df:Addr} (gt:GT n t e) (pt:IsPart n t R) (h:MV n t e R H kvs i k) (hd:H df=some (.dK kvs)) (hc:(aS n t e R)[i]?=some c) (hx:R[k]?=some x)
  (hq:H q=some (.tup [.int (i:Int),.int (k:Int)])):MV n t e R (upd H df (.dK (putK kvs (nk (tb t c x)) (.ref q)))) (putK kvs (nk (tb t c x)) (.ref q)) i (k+1):=fun i' k' c' x' a b d=>by
 have no:∀ {p:Addr} {ys:List V},H p=some (.tup ys)->p≠df:=fun z y=>by rw [y,hd] at z;cases z
 rw [FN];obtain ⟨a1,a2⟩:=yg gt pt hc hx rfl
 by_cases hk:nk (tb t c' x')=nk (tb t c x)
 ·rw [if_pos hk];obtain ⟨b1,b2⟩:=yg gt pt b d (tp hk);refine ⟨q,rfl,?_⟩;rw [av (no hq),<- b1,<- b2,a1,a2];exact hq
 ·rw [if_neg hk];have ne:¬ (i'=i/\k'=k):=fun ⟨z1,z2⟩=>hk (by
   subst z1 z2;rw [hc] at b;rw [hx] at d;cases b;cases d;rfl)
  obtain ⟨q',z1,z2⟩:=h i' k' c' x' (by omega) b d
  exact ⟨q',z1,by rw [av (no z2)];exact z2⟩
inductive xI (C:Addr) (K:KW) (vs:List V) (H:Hp) (Q:VK) (E:XK):Prop
 | mk (g:Addr) (v:V) (n e:Nat) (t:List (List Nat)) (R:List Nat) (_:vs=[.ref g,v]) (_:bb C H g n t e) (_:GT n t e) (_:At K H v R) (_:IsPart n t R) (_:∀ d H',H d=none->ai H H'->c8 H' d (eY n t e R)->Q (.ref d) H')
def ox (T:Txt K mg):aJ P w K mg base CX0 6 T.fR.f T.fR.fd ["group","part"] (xI T.aL K):=by
 exists T.fR.ok dF
 ·obtain ⟨g,v,n,e,t,R,rfl,_⟩:=h;rfl
 obtain ⟨g,v,n,e,t,R,rfl,hG,gt,hR,pt,q⟩:=h;have n23:=gt.le;have rl:=pt.len;have cl:=kX (n:=n) (t:=t) (e:=e) (R:=R);refine ⟨_,(ae (aq (i:=2) dF.nd rfl (Ni rfl) (ay T.gJ (v7 T) (hr.mono (by decide)) rfl (paF (pv 0) (paF (pv 1) aa))))
   (ae (aq (i:=3) dF.nd rfl (Ni rfl) Gq)
   (ae (ba Ld rfl (iO K rfl rfl T.fB (paF (pv 2) aa)) (dR rfl (bc (ar (i:=4) dF.nd rfl (K6 rfl)) (bc (ar (i:=5) dF.nd rfl (K6 rfl)) de))) (af (ba Ld rfl (iO K rfl rfl T.fB (paF (pv 1) aa)) (dR rfl (bc (ar (i:=6) dF.nd rfl (K6 rfl)) (bc (ar (i:=7) dF.nd rfl (K6 rfl)) de))) (af (BC (js hr) (pv 3) (ao (aj K rfl) (ao (aj K rfl) (aE K rfl (pv 0) rfl) (pv 5) (fun _ _=>rfl)) (pv 7) (fun _ _=>rfl)) (el (paF (pv 4) (paF (pv 6) aa))) rfl)))))
   (af (aK (zR rfl my (aT K rfl (aE K rfl (pv 0) rfl)) (fun _ _ _ _=>⟨(ar (i:=0) my.nd rfl (Ni rfl)),aX,(bu rfl mC (aT K rfl (pv 1)) (fun _ _ _ _=>⟨(ar (i:=0) mC.nd rfl (K6 rfl)),aX,(i3 (js hr) (pv 1) (ao (aj K rfl) (pv 2) (pv 0) (fun _ _=>rfl)) (fun _ _=>rfl))⟩))⟩))))))),?_⟩
 walk_at "rn";refine ⟨g,v,n,e,t,R,rfl,hG,gt,hR,pt,fun dc H1 fdc s1 gc=>?_⟩;have hG1:=bb.mono s1 hG;have hR1:=Rep.mono s1 hR;obtain ⟨dx,r4,bk,hg,hT,hB⟩:=hG1.get (K:=K);walk_at "rn";refine IL fun df hdf=>?_;walk_at "rn";refine ng (H₀:=H1) gc.at (fun i σ' H'=>ai H1 H'/\(∃ kvs,H' df=some (.dK kvs)/\kvs.length<=i * 23/\MV n t e R H' kvs i 0)/\∃ x4 x5 x6 x7,σ'=[some (.ref g),some v,some (.ref dc),some (.ref df),x4,x5,x6,x7]) ⟨aw hdf _,⟨[],au,by simp,MV.nil⟩,_,_,_,_,rfl⟩ (fun i σ' H' z=>z.1) ?_ ?_
 ·rintro i c w' σ' H3 H4 pt' hc hw ⟨s3,⟨kvs,hd3,hl3,mv3⟩,x4,x5,x6,x7,rfl⟩ hpt rfl s4;cases (show w'=V.int (c:Int) from hw);have hil:=(K0.mp hc).1;have cn:=bE (K1 hc);have s14:=s3.trans s4;have hd4:=s4 _ _ hd3;have mv4:=mv3.mono s4;generalize upd H3 pt' (.tup [.int (i:Int),.int (c:Int)])=H4 at s14 hd4 mv4;walk_at "rn";refine ng (H₀:=H1) hR1 (fun k σ' H'=>ai H1 H'/\(∃ kvs,H' df=some (.dK kvs)/\kvs.length<=i * 23+k/\MV n t e R H' kvs i k)/\∃ x6 x7,σ'=[some (.ref g),some v,some (.ref dc),some (.ref df),some (.int (i:Int)),some (.int (c:Int)),x6,x7]) ⟨s14,⟨kvs,hd4,by omega,mv4⟩,_,_,rfl⟩ (fun i σ' H' z=>z.1) ?_ ?_
  ·rintro k x w2 σ' H5 H6 pt2 hx hw2 ⟨s5,⟨kv5,hd5,hl5,mv5⟩,x6,x7,rfl⟩ hpt2 rfl s6;cases (show w2=V.int (x:Int) from hw2);have hkl:=(K0.mp hx).1;have xn:=pt.lt x (K1 hx);have s16:=s5.trans s6;have hd6:=s6 _ _ hd5;have mv6:=mv5.mono s6;generalize upd H5 pt2 (.tup [.int (k:Int),.int (x:Int)])=H6 at s16 hd6 mv6;walk_at "rn";refine BK ?_;walk_at "3";refine ⟨small (by show 2<=1000;decide),fun p hp=>?_⟩
   have s7:=aw hp (.tup [.int (i:Int),.int (k:Int)]);have hp7:(upd H6 p (.tup [.int (i:Int),.int (k:Int)])) p=some (.tup [.int (i:Int),.int (k:Int)]):=au;have s17:=s16.trans s7;have hd7:=s7 _ _ hd6;have mv7:=mv6.mono s7;generalize upd H6 p (.tup [.int (i:Int),.int (k:Int)])=H7 at s17 hd7 mv7 hp7;have hg7:=s17 _ _ hg;have hT7:=Rep.mono s17 hT;symm;refine cI hT7 rfl (gt.get cn) fun w1 hw1=>?_;walk_at "rn";refine bh hw1 (gt.cZ cn xn) ?_;have l7:=jb kv5 (nk (tb t c x)) (V.ref p);refine DX hd7 (by omega) ⟨fun b o z=>by rw [av (aH z hdf)];exact s17 _ _ z,⟨_,au,by omega,mv7.put gt pt hd7 hc hx hp7⟩,_,_,rfl⟩
  ·rintro σ' H5 ⟨s5,⟨kv5,hd5,hl5,mv5⟩,x6,x7,rfl⟩;walk_at "rn";exact ⟨s5,⟨kv5,hd5,by omega,mv5.next⟩,_,_,_,_,rfl⟩
 ·rintro σ' H3 ⟨s3,⟨kvs,hd3,hl3,mv3⟩,x4,x5,x6,x7,rfl⟩;have hg3:=s3 _ _ hg;have hT3:=Rep.mono s3 hT;have aC:=Rep.mono s3 gc.at;symm;obtain ⟨pr,xs,epr,hSr,hPr⟩:=id hT3;cases epr;have lt:=NV hPr;have tl:=gt.len;refine nG (eY n t e R) (fun σ'=>∃ y,σ'=[y,some (.ref dc),some (.ref df)]) hSr (by unfold eY;rw [KY,Ln];omega) (by unfold eY;rw [KY,Ln];omega) ⟨_,rfl⟩ ?_ ?_
  ·rintro i o r σ' H4 R' R0 ho hr4 s4 ⟨y,rfl⟩ hR';obtain ⟨row,hrow,arow⟩:=jA hPr ho;have hin:i<n:=by rw [<- tl];exact (K0.mp hrow).1
   have er:row=t.getD i []:=by
    have:=gt.get hin;rw [hrow] at this;exact LG this
   subst er;have aR4:=Rep.mono s4 arow;have aC4:=Rep.mono s4 aC;obtain ⟨pc,cs,ecs,hSc,hPc⟩:=id aC4;cases ecs;have lc:=NV hPc;have e4:r=(aS n t e R).map fun c=>(hm n t e R (tb t i c),R.idxOf (ov n t e R (tb t i c))):=by
    unfold eY at hr4;rw [K4,LK hin] at hr4;exact (LG hr4).symm
   subst e4;walk_at "rn";refine qg ((aS n t e R).map fun c=>(hm n t e R (tb t i c),R.idxOf (ov n t e R (tb t i c)))) (fun σ'=>∃ y,σ'=[y,some (.ref df),some o]) hSc (by rw [KY];exact lc) (by rw [KY];omega) ⟨_,rfl⟩ ?_ ?_
   ·rintro j o2 y2 σ' H5 R2 R02 ho2 hy2 s5 ⟨y,rfl⟩ hR2;obtain ⟨c,hc,ac⟩:=jA hPc ho2;cases (show o2=V.int (c:Int) from ac);rw [K4,hc] at hy2;cases hy2;have cn:=bE (K1 hc);have xn:=gt.lt i c hin cn;obtain ⟨c',k',z1,z2,z3,z4⟩:=qK gt pt xn;have s35:=s4.trans s5;obtain ⟨qq,v1,v2⟩:=mv3 _ _ c' _ (.inl (K0.mp z1).1) z1 z2;rw [z4] at v1;walk_at "rn";refine iY ?_;walk_at "rn";refine bh (Rep.mono s5 aR4) (gt.cZ hin cn) ?_;refine lN (s35 _ _ hd3) v1 ?_;exact hR2 _ qq _ ⟨_,rfl⟩ (ai.refl _) (by dsimp only;rw [z3];exact s35 _ _ v2)
   ·intro d2 H5 fd2 s5 r5;exact hR' _ _ _ ⟨_,rfl⟩ s5 fd2 r5
  ·intro d2 H4 fd2 s4 hD;have s14:=s3.trans s4;exact q d2 H4 (s1.free (s3.free fd2)) (s1.trans s14) hD
inductive Am (C:Addr) (K:KW) (vs:List V) (H:Hp) (Q:VK) (E:XK):Prop
 | mk (g:Addr) (v u z:V) (n e m l:Nat) (t:List (List Nat)) (R M:List Nat) (_:vs=[.ref g,v,u,z]) (_:bb C H g n t e) (_:GT n t e) (_:At K H v R) (_:IsPart n t R) (_:At K H u M) (_:M.length=R.length) (_:(∀ x∈M,x<m)) (_:(z=.int (m:Int)\/(z=.non/\m=l))) (_:bU (cA n t e) l) (_:m % l=0) (_:0<m) (_:m<=60) (_:(∀ j,j<R.length->∀ k,k<R.length->fV t R M m j k)) (_:∀ H',ai H H'->Q .non H')
def yO (T:Txt K mg):aJ P w K mg base CX0 5 T.jj.f T.jj.fd ["group","part","marks","spokes"] (Am T.aL K):=by
 exists T.jj.ok pG
 ·obtain ⟨g,v,u,z,n,e,m,l,t,R,M,rfl,_⟩:=h;rfl
 obtain ⟨g,v,u,z,n,e,m,l,t,R,M,rfl,hG,gt,hR,pt,hM,ml,mm,hz,hl,ml0,m1,m60,ok,q⟩:=h;refine ⟨_,(ae (aq (i:=4) pG.nd rfl (K6 rfl) (Kb T.gF (v3 T) (hr.mono (by decide)) rfl (paF (pv 0) (paF (pv 1) (paF (pv 2) (paF (pv 3) aa))))))
   (af (a8 (ud (Bu (pv 4))) (af cg) aQ))),?_⟩
 walk_at "rn";refine ⟨g,v,u,z,n,e,m,l,t,R,M,rfl,hG,gt,hR,pt,hM,ml,mm,hz,hl,ml0,m1,m60,fun x H1 o s1 hx hb=>?_⟩;cases hb.uni (o':=none) ok;cases (show x=.non from hx);walk_at "1";refine bT (fun c=>absurd rfl c) (fun _=>?_);walk_at "rn";exact q _ s1
end
section
variable {P:Lp} {w:World} {K:KW} {mg:Str->Option Value} {base:Heap}
def KA (g:V) (m z:Int) (d:V):List (Str×V):=[("group",g),("spokes",.int m),("size",.int z),("deeds",d)]
def KP (a b g:V) (m z:Int) (d:V):List (Str×V):=[("part",a),("marks",b),("group",g),("spokes",.int m),("size",.int z),("deeds",d)]
def WF (fs:List (Str×V)) (g:V) (m z:Int) (d:V):Prop:=fs=KA g m z d\/∃ x y,fs=KP x y g m z d
def eG (W:Addr->Prop) (H:Hp) (a g:Addr) (m z:Nat) (D:List (List (Nat×Nat))):Prop:=∃ C dx d fs,W C/\H a=some (.ins C dx fs)/\WF fs (.ref g) m z (.ref d)/\c8 H d D
def eG.mono {W:Addr->Prop} {H H':Hp} {a g m z:Nat} {D:List (List (Nat×Nat))} (s:ai H H') (h:eG W H a g m z D):eG W H' a g m z D:=by
 obtain ⟨C,dx,d,fs,h0,h1,h2,h3⟩:=h;exact ⟨C,dx,d,fs,h0,s _ _ h1,h2,h3.mono s⟩
section
variable (T:Txt K mg) {H:Hp} {C a dx:Addr} {m z:Int} {g d:V} {fs:List (Str×V)} {Q:VK} (hC:bt T C) (ha:H a=some (.ins C dx fs)) (wf:WF fs g m z d)
include hC ha wf
theorem dI (q:Q g H):isF K "group" (.ref a) H Q:=by
 have c:=ni T hC;rcases wf with rfl|⟨x,y,rfl⟩ <;> exact ⟨a,C,dx,_,_,rfl,ha,c.cls,c.g,rfl,q⟩
theorem cN (q:Q (.int m) H):isF K "spokes" (.ref a) H Q:=by
 have c:=ni T hC;rcases wf with rfl|⟨x,y,rfl⟩ <;> exact ⟨a,C,dx,_,_,rfl,ha,c.cls,c.s,rfl,q⟩
theorem dg (q:Q (.int z) H):isF K "size" (.ref a) H Q:=by
 have c:=ni T hC;rcases wf with rfl|⟨x,y,rfl⟩ <;> exact ⟨a,C,dx,_,_,rfl,ha,c.cls,c.z,rfl,q⟩
theorem Al (q:Q d H):isF K "deeds" (.ref a) H Q:=by
 have c:=ni T hC;rcases wf with rfl|⟨x,y,rfl⟩ <;> exact ⟨a,C,dx,_,_,rfl,ha,c.cls,c.d,rfl,q⟩
end
def WF.moves {fs:List (Str×V)} {g d:V} {m z:Int} (wf:WF fs g m z d):fs.lookup ("moves" : Str)=none:=by
 rcases wf with rfl|⟨x,y,rfl⟩ <;> rfl
def WF.trace {fs:List (Str×V)} {g d:V} {m z:Int} (wf:WF fs g m z d):fs.lookup ("trace" : Str)=none:=by
 rcases wf with rfl|⟨x,y,rfl⟩ <;> rfl
inductive JD (W:Addr->Prop) (vs:List V) (H:Hp) (Q:VK) (E:XK):Prop
 | mk (p C dx d:Addr) (g:V) (m:Int) (f0:List (Str×V)) (D:List (List (Nat×Nat))) (r:List (Nat×Nat)) (_:vs=[.ref p,g,.int m,.ref d]) (_:W C) (_:H p=some (.ins C dx f0)) (_:(f0=[]\/∃ x y:V,f0=([("part",x),("marks",y)]:List (Str×V)))) (_:c8 H d D) (_:D[0]?=some r) (_:∀ H' fs,H' p=some (.ins C dx fs)->WF fs g m r.length (.ref d)->(∀ a o,H a=some o->a≠p->H' a=some o)->Q .non H')
def mM (T:Txt K mg):aJ P w K mg base CX0 1 T.yp T.CK ["self","group","spokes","deeds"] (JD (bt T)):=by
 exists T.Kv.ok AM
 ·obtain ⟨p,C,dx,d,g,m,f0,D,r,rfl,_⟩:=h;rfl
 obtain ⟨p,C,dx,d,g,m,f0,D,r,rfl,hC,hp,hf,hD,h0,k⟩:=h;have c:=ni T hC;refine ⟨_,(ae (fA K rfl (pv 0) (pv 1) rfl)
   (ae (fA K rfl (pv 0) (pv 2) rfl)
   (ae (fA K rfl (pv 0) (aI (aN K rfl) rfl T.bA Lo (paF (ao (aj K rfl) (pv 3) ag (fun _ _=>rfl)) aa)) rfl)
   (af (fA K rfl (pv 0) (pv 3) rfl))))),?_⟩
 right;refine ⟨p,C,dx,_,rfl,hp,c.cls,c.g,(by rcases hf with rfl|⟨x,y,rfl⟩;exact (show 0<1000 by decide);exact (show 2<1000 by decide)),?_⟩
 right;refine ⟨p,C,dx,_,rfl,au,c.cls,c.s,(by rcases hf with rfl|⟨x,y,rfl⟩;exact (show 1<1000 by decide);exact (show 3<1000 by decide)),?_⟩
 right;have hD2:c8 (upd (upd H p (.ins C dx (cX "group" g f0))) p (.ins C dx (cX "spokes" (V.int m) (cX "group" g f0)))) d D:=hD.but hp fun a o ha hne=>by
  rw [av hne,av hne];exact ha
 refine cI (n:=0) (hD2.at (K:=K)) rfl h0 fun w1 hw1=>?_;right;refine b8 hw1 ?_;right;refine ⟨p,C,dx,_,rfl,au,c.cls,c.z,(by rcases hf with rfl|⟨x,y,rfl⟩;exact (show 2<1000 by decide);exact (show 4<1000 by decide)),?_⟩
 right;refine ⟨p,C,dx,_,rfl,au,c.cls,c.d,(by rcases hf with rfl|⟨x,y,rfl⟩;exact (show 3<1000 by decide);exact (show 5<1000 by decide)),?_⟩
 refine k _ _ au ?_ fun a o ha hne=>?_
 ·rcases hf with rfl|⟨x,y,rfl⟩
  ·exact .inl rfl
  ·exact .inr ⟨x,y,rfl⟩
 rw [av hne,av hne,av hne,av hne];exact ha
def wJ {n e i:Nat} {t:List (List Nat)} {R:List Nat} (hi:i<n):(eY n t e R)[i]?=some ((aS n t e R).map fun c=>(hm n t e R (tb t i c),R.idxOf (ov n t e R (tb t i c)))):=by
 unfold eY;rw [K4,LK hi];rfl
def xk {n e i:Nat} {t:List (List Nat)} {R M:List Nat} (hi:i<n):(fG n t e R M)[i]?=some ((aS n t e R).map fun c=>(hm n t e R (tb t i c),M.getD (R.idxOf (ov n t e R (tb t i c))) 0)):=by
 unfold fG;rw [K4,LK hi];rfl
inductive Et (C CG:Addr) (K:KW) (vs:List V) (H:Hp) (Q:VK) (E:XK):Prop
 | mk (p dx g:Addr) (v u z:V) (n e m l:Nat) (t:List (List Nat)) (R M:List Nat) (H0:Hp) (_:vs=[.ref p,.ref g,v,u,z]) (_:H p=some (.ins C dx [])) (_:H0 p=none) (_:ai H0 H) (_:bb CG H0 g n t e) (_:GT n t e) (_:At K H0 v R) (_:IsPart n t R) (_:At K H0 u M) (_:M.length=R.length) (_:(∀ x∈M,x<m)) (_:(z=.int (m:Int)\/(z=.non/\m=l))) (_:bU (cA n t e) l) (_:m % l=0) (_:0<m) (_:m<=60) (_:(∀ j,j<R.length->∀ k,k<R.length->fV t R M m j k)) (_:∀ d H' fs,ai H0 H'->H' p=some (.ins C dx fs)->WF fs (.ref g) m (aS n t e R).length (.ref d)->c8 H' d (fG n t e R M)->Q .non H')
def Ez (T:Txt K mg):aJ P w K mg base CX0 7 T.rX T.sD ["self","group","part","marks","spokes"] (Et T.bj T.aL K):=by
 exists T.y7.ok mO
 ·obtain ⟨p,dx,g,v,u,z,n,e,m,l,t,R,M,H0,rfl,_⟩:=h;rfl
 obtain ⟨p,dx,g,v,u,z,n,e,m,l,t,R,M,H0,rfl,hp,h0p,s0,hG,gt,hR,pt,hM,ml,mm,hz,hl,ml0,m1,m60,ok,q⟩:=h;have n1:=gt.pos;have n23:=gt.le;have rl:=pt.len;have cl:=kX (n:=n) (t:=t) (e:=e) (R:=R);have sv:zP n t e z m:=by
  rcases hz with rfl|⟨rfl,rfl⟩
  ·exact .inr ⟨rfl,m1,m60,fun k hk=>by rw [hk.uni hl];exact ml0⟩
  ·exact .inl ⟨rfl,hl⟩
 refine ⟨_,(ae (aV (ay T.jj (yO T) (hr.mono (by decide)) rfl (paF (pv 1) (paF (pv 2) (paF (pv 3) (paF (pv 4) aa))))))
   (ae (fA K rfl (pv 0) (cJ (gq K rfl) rfl T.iG L8 (paF (pv 2) aa)) rfl)
   (ae (fA K rfl (pv 0) (cJ (gq K rfl) rfl T.iG L8 (paF (pv 3) aa)) rfl)
   (ae (bV (i:=5) rfl mO.nd rfl (K6 rfl) k8 (aT K rfl (ay T.fR (ox T) (hr.mono (by decide)) rfl (paF (pv 1) (paF (pv 2) aa)))) (fun _ _ _ _=>⟨(ar (i:=0) k8.nd rfl (K6 rfl)),aX,(bu rfl lZ (aT K rfl (pv 0)) (fun _ _ _ _=>⟨(jD K rfl (i:=0) (j:=1) rfl lZ.nd rfl (K6 rfl) rfl (K6 rfl)),aX,(el (paF (pv 0) (paF (ao (aj K rfl) (pv 2) (pv 1) (fun _ _=>rfl)) aa)))⟩))⟩) rfl)
   (af (aV (iL rfl T.qN T.qC (mM T) (hr.mono (by decide)) T.qE (paF (pv 0) (paF (pv 1) (paF (ay T.fP (kg T) (hr.mono (by decide)) rfl (paF (pv 1) (paF (pv 4) aa))) (paF (pv 5) aa))))))))))),?_⟩
 walk_at "rn";refine ⟨g,v,u,z,n,e,m,l,t,R,M,rfl,hG.mono s0,gt,Rep.mono s0 hR,pt,Rep.mono s0 hM,ml,mm,hz,hl,ml0,m1,m60,ok,fun H1 s1=>?_⟩;have s01:=s0.trans s1;have hp1:=s1 _ _ hp;walk_at "rn";refine Bx (Rep.mono s01 hR) fun pa H2 fpa s2 ga=>?_;have hp2:=s2 _ _ hp1;have hpa:=dB ga;have npa:pa≠p:=fun y=>by rw [y,hp2] at hpa;cases hpa
 have fpa0:H0 pa=none:=s01.free fpa;right;refine ⟨p,T.bj,dx,_,rfl,hp2,T.lu,T.xM,(by show 0<1000;decide),?_⟩
 have s03:ai H0 (upd H2 p (.ins T.bj dx (cX "part" (.ref pa) []))):=fun b o y=>by rw [av (aH y h0p)];exact s2 _ _ (s01 _ _ y)
 have hp3:(upd H2 p (.ins T.bj dx (cX "part" (.ref pa) []))) p=some (.ins T.bj dx [("part",.ref pa)]):=au;have ha3:(upd H2 p (.ins T.bj dx (cX "part" (.ref pa) []))) pa=some (.lst (aA R)):=by rw [av npa];exact hpa
 generalize upd H2 p (.ins T.bj dx (cX "part" (.ref pa) []))=H3 at s03 hp3 ha3;walk_at "rn";refine Bx (Rep.mono s03 hM) fun ma H4 fma s4 gb=>?_;have hp4:=s4 _ _ hp3;have ha4:=s4 _ _ ha3;have hma:=dB gb;have nma:ma≠p:=fun y=>by rw [y,hp4] at hma;cases hma
 have fma0:H0 ma=none:=s03.free fma;right;refine ⟨p,T.bj,dx,_,rfl,hp4,T.lu,T.vZ,(by show 1<1000;decide),?_⟩
 have s05:ai H0 (upd H4 p (.ins T.bj dx (cX "marks" (.ref ma) [("part",.ref pa)]))):=fun b o y=>by rw [av (aH y h0p)];exact s4 _ _ (s03 _ _ y)
 have hp5:(upd H4 p (.ins T.bj dx (cX "marks" (.ref ma) [("part",.ref pa)]))) p=some (.ins T.bj dx [("part",.ref pa),("marks",.ref ma)]):=au;have ha5:(upd H4 p (.ins T.bj dx (cX "marks" (.ref ma) [("part",.ref pa)]))) pa=some (.lst (aA R)):=by rw [av npa];exact ha4
 have hb5:(upd H4 p (.ins T.bj dx (cX "marks" (.ref ma) [("part",.ref pa)]))) ma=some (.lst (aA M)):=by rw [av nma];exact hma
 generalize upd H4 p (.ins T.bj dx (cX "marks" (.ref ma) [("part",.ref pa)]))=H5 at s05 hp5 ha5 hb5;walk_at "rn";refine ⟨g,v,n,e,t,R,rfl,hG.mono s05,gt,Rep.mono s05 hR,pt,fun d6 H6 fd6 s6 hD6=>?_⟩;have s06:=s05.trans s6;obtain ⟨ps6,h61,h62,h63⟩:=id hD6;have ln6:ps6.length=n:=by rw [h62];unfold eY;rw [KY,Ln]
 walk_at "rn";refine nG (fG n t e R M) (fun σ'=>∃ y,σ'=[y,some u]) (SqL.of h61) (by unfold fG;rw [KY,KY,Ln];exact ln6) (by unfold fG;rw [KY,Ln];omega) ⟨_,rfl⟩ ?_ ?_
 ·rintro i o r σ' H7 R' R0 ho hr7 s7 ⟨y,rfl⟩ hR';have hin:i<n:=by
   have:=(K0.mp ho).1;rw [KY] at this;omega
  rw [xk hin] at hr7;cases hr7;rw [K4] at ho;cases hq:ps6[i]? with
  | none=>rw [hq] at ho;cases ho
  | some pq =>
   rw [hq] at ho;cases ho;obtain ⟨qs,r1,r2,r3⟩:=(h63 i pq _ hq (wJ hin)).mono s7;rw [KY] at r2;walk_at "rn";refine qg ((aS n t e R).map fun c=>(hm n t e R (tb t i c),M.getD (R.idxOf (ov n t e R (tb t i c))) 0)) (fun σ'=>∃ y1 y2,σ'=[y1,y2,some u]) (SqL.of r1) (by rw [KY,KY];exact r2) (by rw [KY];omega) ⟨_,_,rfl⟩ ?_ ?_
   ·rintro j o2 y2 σ' H8 R2 R02 ho2 hy2 s8 ⟨y1,y3,rfl⟩ hR2;rw [K4] at ho2 hy2;cases hc:(aS n t e R)[j]? with
    | none=>rw [hc] at hy2;cases hy2
    | some c =>
     rw [hc] at hy2;cases hy2;cases hq2:qs[j]? with
     | none=>rw [hq2] at ho2;cases ho2
     | some q2 =>
      rw [hq2] at ho2;cases ho2;have ht:=s8 _ _ (r3 j q2 _ hq2 (by rw [K4,hc];rfl))
      have cn:=bE (K1 hc);have xn:=gt.lt i c hin cn;obtain ⟨_,k',_,z2,z3,_⟩:=qK gt pt xn;have kl:R.idxOf (ov n t e R (tb t i c))<M.length:=by rw [z3,ml];exact (K0.mp z2).1
      refine ⟨q2,_,rfl,SqT.of ht,rfl,⟨_,_,rfl,⟨_,_,rfl,⟨rfl,?_⟩⟩⟩⟩;walk_at "3";refine bh (Rep.mono (s06.trans (s7.trans s8)) hM) (getD_some (l:=M) 0 kl) ?_;walk_at "rn";refine ⟨small (by show 2<=1000;decide),fun a ha=>?_⟩
      exact hR2 _ a _ ⟨_,_,rfl⟩ (aw ha _) au
   ·intro d2 H8 fd2 s8 r8;exact hR' _ _ _ ⟨_,rfl⟩ s8 fd2 r8
 ·intro d7 H7 fd7 s7 hD7;have s07:=s06.trans s7;walk_at "rn";refine ⟨g,z,n,e,m,t,rfl,hG.mono s07,gt,sv,fun H8 s8=>?_⟩;have s58:=s6.trans (s7.trans s8);walk_at "rn";refine ⟨p,T.bj,dx,d7,.ref g,(m:Int),_,_,_,rfl,wM T,s58 _ _ hp5,.inr ⟨_,_,rfl⟩,hD7.mono s8,xk n1,fun H9 fs h9 wf k9=>?_⟩;rw [KY] at wf;walk_at "rn";exact q d7 H9 fs (fun b o y=>k9 b o (s58 _ _ (s05 _ _ y)) (aH y h0p)) h9 wf ((hD7.mono s8).but (s58 _ _ hp5) k9)
inductive Gb (W:Addr->Prop) (vs:List V) (H:Hp) (Q:VK) (E:XK):Prop
 | mk (a g:Addr) (x m n:Nat) (D:List (List (Nat×Nat))) (r:List (Nat×Nat)) (_:vs=[.ref a,.int (x:Int)]) (_:eG W H a g m n D) (_:D[x]?=some r) (_:∀ p H',H p=none->ai H H'->bL H' p r->Q (.ref p) H')
def cc (T:Txt K mg):aJ P w K mg base CX0 1 T.cQ T.mH ["self","thing"] (Gb (bt T)):=by
 exists T.AU.ok yS
 ·obtain ⟨a,g,x,m,n,D,r,rfl,_⟩:=h;rfl
 obtain ⟨a,g,x,m,n,D,r,rfl,hW,hx,q⟩:=h;obtain ⟨C,dx,d,fs,hC,ha,wf,hD⟩:=id hW;refine ⟨_,(af (aK (cJ (gq K rfl) rfl T.iG L8 (paF (ao (aj K rfl) (aE K rfl (pv 0) rfl) (pv 1) (fun _ _=>rfl)) aa)))),?_⟩;left;refine Al T hC ha wf ?_;left;refine hD.get (ai.refl _) hx fun p hp=>?_;left;obtain ⟨qs,h1,h2,h3⟩:=hp;refine ⟨p,_,rfl,.inl (SqL.of h1),fun l hl=>?_⟩;have s1:=aw hl (.lst (qs.map V.ref));exact q l _ hl s1 ⟨qs,au,h2,fun i q' y z1 z2=>s1 _ _ (h3 i q' y z1 z2)⟩
inductive FZ (W:Addr->Prop) (vs:List V) (H:Hp) (Q:VK) (E:XK):Prop
 | mk (a g:Addr) (x m n:Nat) (D:List (List (Nat×Nat))) (r:List (Nat×Nat)) (_:vs=[.ref a,.int (x:Int)]) (_:eG W H a g m n D) (_:1<=m) (_:m<=60) (_:D[x]?=some r) (_:r.length<=1000) (_:(∀ y∈r,y.2<m)) (_:∀ p H',H p=none->ai H H'->H' p=some (.lst (aA (cnt m r)))->Q (.ref p) H')
def zf (T:Txt K mg):aJ P w K mg base CX0 1 T.cR T.mJ ["self","thing"] (FZ (bt T)):=by
 exists T.AS.ok hZ
 ·obtain ⟨a,g,x,m,n,D,r,rfl,_⟩:=h;rfl
 obtain ⟨a,g,x,m,n,D,r,rfl,hW,m1,m2,hx,hl,hr2,q⟩:=h;obtain ⟨C,dx,d,fs,hC,ha,wf,hD⟩:=id hW;refine ⟨_,(ae (aq (i:=2) hZ.nd rfl (K6 rfl) (ak zO (bP (paF ag aa)) (aE K rfl (pv 0) rfl)))
   (ae (ba Ld rfl (iO K rfl rfl T.fB (paF (ao (aj K rfl) (aE K rfl (pv 0) rfl) (pv 1) (fun _ _=>rfl)) aa)) (dR rfl (bc (ar (i:=3) hZ.nd rfl (K6 rfl)) (bc (ar (i:=4) hZ.nd rfl (K6 rfl)) de))) (af (a8 (aD cb (ao (bC K rfl) (pv 4) ag (fun _ _=>rfl)) (pv 3) (aG _)) (af (m8 (ak aW (ao (aj K rfl) (pv 2) (ao (bC K rfl) (pv 4) ag (fun _ _=>rfl)) (fun _ _=>rfl)) ag) (yN (pv 2) (ao (bC K rfl) (pv 4) ag (fun _ _=>rfl)) set_list))) aQ)))
   (af (aK (pv 2))))),?_⟩
 left;refine dY ?_;left;refine ⟨small (by show 1<=1000;decide),fun p1 hp1=>?_⟩
 have s1:=aw hp1 (.lst [.int ((0:Nat):Int)]);have h1:(upd H p1 (.lst [.int ((0:Nat):Int)])) p1=some (.lst [.int ((0:Nat):Int)]):=au;generalize upd H p1 (.lst [.int ((0:Nat):Int)])=H1 at s1 h1;left;refine cN T hC (s1 _ _ ha) wf ?_;left;refine ⟨p1,_,_,rfl,rfl,h1,by omega,by omega,?_,fun c hc=>?_⟩
 ·rw [L5];show 1 * _<=_;omega
 rw [show ((m:Nat):Int).toNat=m by omega,CQ]
 have fc:H c=none:=s1.free hc;have s2:=s1.trans (aw hc (.lst (aA (Ll m 0))));have h2:(upd H1 c (.lst (aA (Ll m 0)))) c=some (.lst (aA (cnt m (r.take 0)))):=au;generalize upd H1 c (.lst (aA (Ll m 0)))=H2 at s2 h2;left;refine Al T hC (s2 _ _ ha) wf ?_;left;refine hD.get s2 hx fun p hp=>?_;left;refine ng (H₀:=H) (hp.at (K:=K)) (fun i σ' H'=>ai H H'/\H' c=some (.lst (aA (cnt m (r.take i))))/\∃ x1 x2:Option V,σ'=[some (.ref a),some (.int (x:Int)),some (.ref c),x1,x2]) ⟨s2,h2,_,_,rfl⟩ (fun i σ' H' z=>z.1) ?_ ?_
 ·rintro i y w' σ' H3 H4 pt hy hw ⟨s3,h3,x1,x2,rfl⟩ hpt rfl s4;have s34:=s3.trans s4;have h4:=s4 _ _ h3;have hyi:=(K0.mp hy).1;obtain ⟨y1,y2⟩:=y;have hy2:y2<m:=hr2 _ (K1 hy);generalize upd H3 pt (.tup [.int (i:Int),w'])=H4 at s34 h4;obtain ⟨q1,v1,v2,rfl,hq,e1,e2⟩:=Rep.mono s34 hw;cases (show v1=V.int (y1:Int) from e1);cases (show v2=V.int (y2:Int) from e2);have et:=Gz (m:=m) hy;have lc:(cnt m (r.take i)).length=m:=qp;walk_at "5";refine ⟨q1,_,_,_,rfl,rfl,hq,f7 (j:=0) rfl,?_⟩;left;refine bf (fun z=>?_) (fun z=>?_)
  ·left;refine ⟨q1,_,_,_,rfl,rfl,hq,f7 (j:=1) rfl,?_⟩;refine bh (bS h4) (c:=(cnt m (r.take i)).getD y2 0) (by rw [List.getD,KZ (by omega)];rfl) ?_
   left;refine ⟨q1,_,_,_,rfl,rfl,hq,f7 (j:=1) rfl,?_⟩;refine Az h4 rfl (by unfold aA;rw [KY,lc];exact hy2) ?_
   refine ⟨fun b o zz=>by rw [av (aH zz fc)];exact s34 _ _ zz,?_,_,_,rfl⟩
   rw [au,ints_set,et];unfold iq;rw [if_pos z]
  ·left;refine ⟨s34,?_,_,_,rfl⟩;rw [h4,et];unfold iq;rw [if_neg z]
 ·rintro σ' H3 ⟨s3,h3,x1,x2,rfl⟩;rw [Mn] at h3;left;exact q c H3 fc s3 h3
end
section
variable {P:Lp} {w:World} {K:KW} {mg:Str->Option Value} {base:Heap}
structure WOk (n m z:Nat) (D:List (List (Nat×Nat))):Prop where
 len:D.length=n
 row:∀ r∈D,r.length=z
 lt:∀ r∈D,∀ y∈r,y.2<m
 m1:1<=m
 m60:m<=60
 z1:z<=1000
 z0:1<=z
def WOk.get {n m z i:Nat} {D:List (List (Nat×Nat))} (h:WOk n m z D) (hi:i<n):∃ r,D[i]?=some r/\r∈D/\D.getD i []=r:=by
 have hl:i<D.length:=by rw [h.len];exact hi
 exact ⟨D[i],KZ hl,MG hl,by rw [K2,KZ hl];rfl⟩
def rV {H:Hp} {Q:VK} {σ:St} {g:TG} {tt:TT} {ta:TE} {own:List Str} {fr:List Nat} {b:Int} {n:Nat} (eb:b=(n:Int)) (D:List (List (Nat×Nat))) (Sh:St->Prop) (hl:n=D.length) (hz:D.length<=1000) (h0:Sh (bB own fr σ))
  (turn:∀ (i:Nat) (r:List (Nat×Nat)) σ' H' (R:St->V->Hp->Prop) (R0:St->Hp->Prop),i<n->D[i]?=some r->ai H H'->Sh σ'->(∀ σ2 q H5,Sh σ2->ai H' H5->H' q=none->bL H5 q r->R σ2 (.ref q) H5) ->
   g (.int (i:Int)) σ' H' fun σ2 H3=>tt σ2 H3 fun ok H4=>if ok=true then ta σ2 H4 (R σ2) else R0 σ2 H4)
  (fin:∀ d H',H d=none->ai H H'->c8 H' d D->Q (.ref d) H'):rU [.int b] H (cS own fr g tt ta σ Q):=by
 refine nQ (n:=n) eb (by omega) (fun d i σ' H' ys=>ai H H'/\∃ (ps:List Addr),ys=ps.map V.ref/\ps.length=i/\(∀ p∈ps,p≠d)/\(∀ (j:Nat) (p:Addr) (r:List (Nat×Nat)),ps[j]?=some p->D[j]?=some r->bL H' p r)/\Sh σ')
  (fun d i σ' H' ys hi z=>by obtain ⟨_,qs,e,e2,_⟩:=z;rw [e,KY,e2];exact Lj _) (fun d hd=>⟨aw hd _,[],rfl,rfl,(fun p hp=>by cases hp),(fun j q c z=>by simp at z),h0⟩) ?_ ?_
 ·rintro d i σ' H2 ys R R0 hd hi ⟨s2,ps,rfl,hq,hnd,hc,hsh⟩ hys hR hR0;have hil:i<D.length:=by omega
  refine turn i _ σ' H2 R R0 hi (KZ hil) s2 hsh fun σ2 a H5 hs2 s5 fa ra=>?_;have na:a≠d:=fun e=>by rw [e,hys] at fa;cases fa
  have hys5:=s5 _ _ hys;refine hR _ _ _ hys5 ⟨fun b o zz=>by rw [av (aH zz hd)];exact s5 _ _ (s2 _ _ zz),ps++[a],by rw [LR];rfl,by rw [Lg,hq];rfl,fun p hp=>?_,fun j p' r' hj hj'=>?_,hs2⟩
  ·rcases LP.mp hp with z|z
   ·exact hnd p z
   ·rw [Lb.mp z];exact na
  ·rcases iX hj with ⟨_,z⟩|⟨z1,z2⟩
   ·exact ((hc j p' r' z hj').mono s5).keep hys5 (hnd p' (K1 z))
   ·subst z2;rw [z1,hq,KZ hil] at hj';cases hj';exact ra.keep hys5 na
 ·rintro d σ' H2 ys fd hd ⟨s2,ps,rfl,hq,hnd,hc,_⟩;exact fin d H2 fd s2 ⟨ps,hd,by omega,hc⟩
def HF {n e m:Nat} {t:List (List Nat)} {R M:List Nat} (gt:GT n t e) (pt:IsPart n t R) (ml:M.length=R.length) (mm:∀ x∈M,x<m) (m1:0<m) (m60:m<=60):WOk n m (aS n t e R).length (fG n t e R M):=by
 have n23:=gt.le;have clen:=kX (n:=n) (t:=t) (e:=e) (R:=R);refine ⟨by unfold fG;rw [KY,Ln],fun r hr=>?_,fun r hr y hy=>?_,m1,m60,by omega,(let ⟨c,hc,_⟩:=qk gt pt 0 gt.pos;N3 hc)⟩
 ·unfold fG at hr;obtain ⟨b,_,rfl⟩:=Lc.mp hr;rw [KY]
 ·unfold fG at hr;obtain ⟨b,hb,rfl⟩:=Lc.mp hr;obtain ⟨c',hc',rfl⟩:=Lc.mp hy;obtain ⟨_,k',_,z2,z3,_⟩:=qK gt pt (gt.lt b c' (K7.mp hb) (bE hc'));have kl:R.idxOf (ov n t e R (tb t b c'))<M.length:=by rw [z3,ml];exact (K0.mp z2).1
  exact mm _ (K1 (getD_some (l:=M) 0 kl))
def Fc {l:List Nat} (h:∀ s∈l,1<=s):∃ k,bU l k:=by
 have key:∀ k,1<=k->(∀ s∈l,k % s=0)->∃ k,bU l k:=fun k=>by
  induction k using Nat.strongRecOn with
  | ind k ih =>
   intro h1 h2
   by_cases c:∃ j,1<=j/\j<k/\∀ s∈l,j % s=0
   ·obtain ⟨j,a,b,d⟩:=c;exact ih j b a d
   ·exact ⟨k,h1,h2,fun j a b=>ML fun z=>c ⟨j,a,b,fun s hs=>ML fun q=>z ⟨s,hs,q⟩⟩⟩
 exact key (bnd l) (vV h) fun s hs=>vp hs
def BV {n e:Nat} {t:List (List Nat)} (g:GT n t e):∃ k,bU (cA n t e) k:=by
 refine Fc fun s hs=>?_;obtain ⟨x,hx,rfl⟩:=Lc.mp hs;exact fv
def gB (r s:List (Nat×Nat)):List (Nat×Nat):=r++s.map fun y=>(r.length+y.1,y.2)
def jS (n:Nat) (D E:List (List (Nat×Nat))):List (List (Nat×Nat)):=(K3 n).map fun i=>gB (D.getD i []) (E.getD i [])
def WOk.bes {n m z z':Nat} {D E:List (List (Nat×Nat))} (h:WOk n m z D) (h':WOk n m z' E) (hz:z+z'<=1000):WOk n m (z+z') (jS n D E):=by
 refine ⟨by unfold jS;rw [KY,Ln],fun r hr=>?_,fun r hr y hy=>?_,h.m1,h.m60,hz,by have:=h.z0;omega⟩
 ·obtain ⟨i,hi,rfl⟩:=Lc.mp hr;obtain ⟨r1,_,h2,h3⟩:=h.get (K7.mp hi);obtain ⟨r2,_,h5,h6⟩:=h'.get (K7.mp hi);unfold gB;rw [h3,h6,Lg,KY,h.row r1 h2,h'.row r2 h5]
 ·obtain ⟨i,hi,rfl⟩:=Lc.mp hr;obtain ⟨r1,_,h2,h3⟩:=h.get (K7.mp hi);obtain ⟨r2,_,h5,h6⟩:=h'.get (K7.mp hi);unfold gB at hy;rw [h3,h6] at hy;rcases LP.mp hy with z|z
  ·exact h.lt r1 h2 y z
  ·obtain ⟨x,hx,rfl⟩:=Lc.mp z;exact h'.lt r2 h5 x hx
def rS {n i:Nat} {D E:List (List (Nat×Nat))} (hi:i<n):(jS n D E)[i]?=some (gB (D.getD i []) (E.getD i [])):=by
 unfold jS;rw [K4,LK hi];rfl
def xo {H:Hp} {p:Addr} {Q:VK} {σ:St} {r:List (Nat×Nat)} {x y:Str} {fr:List Nat} {ta:TE} (f:Nat×Nat->Nat×Nat) (rest:List (Option V)) (hp:bL H p r) (hz:r.length<=1000) (hs:bB [x,y] fr σ=none :: none :: rest)
  (turn:∀ (c:Nat×Nat) H' (R:V->Hp->Prop),c∈r->ai H H'->(∀ q H5,ai H' H5->H5 q=some (.tup [.int ((f c).1:Int),.int ((f c).2:Int)])->R (.ref q) H5)->ta (some (.int (c.1:Int)) :: some (.int (c.2:Int)) :: rest) H' R)
  (fin:∀ d H',H d=none->ai H H'->bL H' d (r.map f)->Q (.ref d) H') :
  iz K (.ref p) H (cS [x,y] fr (jQ K 2 (cW (cw 0) (cW (cw 1) jM))) sL ta σ Q):=by
 obtain ⟨qs,h1,h2,h3⟩:=id hp;refine qg (r.map f) (fun σ'=>∃ y1 y2,σ'=y1 :: y2 :: rest) (SqL.of h1) (by rw [KY,KY];exact h2) (by rw [KY];exact hz) ⟨none,none,hs⟩ ?_ fin
 rintro j o y0 σ' H8 R2 R02 ho hy s8 ⟨y1,y3,rfl⟩ hR2;rw [K4] at ho hy;cases hc:r[j]? with
 | none=>rw [hc] at hy;cases hy
 | some c =>
  rw [hc] at hy;cases hy;cases hq:qs[j]? with
  | none=>rw [hq] at ho;cases ho
  | some q2 =>
   rw [hq] at ho;cases ho;have ht:=s8 _ _ (h3 j q2 c hq hc);refine ⟨q2,_,rfl,SqT.of ht,rfl,⟨_,_,rfl,⟨_,_,rfl,⟨rfl,?_⟩⟩⟩⟩;exact turn c H8 (R2 _) (K1 hc) s8 fun q H5 s5 h5=>hR2 _ q H5 ⟨_,_,rfl⟩ s5 h5
def o6 {H H₀:Hp} {σ:St} {t:TS} {E:Ends} {p:Addr} {r:List (Nat×Nat)} {ia ib:Nat} (h:bL H₀ p r) (Pv:Nat->St->Hp->Prop) (h0:Pv 0 σ H) (hl:∀ i σ' H',Pv i σ' H'->ai H₀ H')
  (hs:∀ (i:Nat) (c:Nat×Nat) σ' H',r[i]?=some c->Pv i σ' H'->t { E with nx:=Pv (i+1),ct:=Pv (i+1),bk:=E.nx } ((σ'.set ia (some (.int (c.1:Int)))).set ib (some (.int (c.2:Int)))) H') (hd:∀ σ' H',Pv r.length σ' H'->E.nx σ' H') :
  iz K (.ref p) H (ki (jQ K 2 (cW (cw ia) (cW (cw ib) jM))) t E σ):=by
 obtain ⟨qs,h1,h2,h3⟩:=h;have hS:SqL K H₀ p (qs.map V.ref):=SqL.of h1;refine ⟨p,rfl,⟨_,(hl 0 σ H h0).seq hS⟩,rY (K:=K) (a:=p) (xs:=qs.map V.ref) Pv h0 (fun i σ' H' _ q=>(hl i σ' H' q).seq hS) (fun i x σ' H' hx q=>?_) (fun σ' H' q=>?_)⟩
 ·rw [K4] at hx;cases hq:qs[i]? with
  | none=>rw [hq] at hx;cases hx
  | some q1 =>
   rw [hq] at hx;cases hx;have hi:i<r.length:=by rw [<- h2];exact (K0.mp hq).1
   have ht:=hl i σ' H' q _ _ (h3 i q1 _ hq (KZ hi));exact ⟨q1,_,rfl,SqT.of ht,rfl,⟨_,_,rfl,⟨_,_,rfl,⟨rfl,hs i _ σ' H' (KZ hi) q⟩⟩⟩⟩
 ·rw [KY,h2] at q;exact hd σ' H' q
def bL.snoc {H:Hp} {p q:Addr} {qs:List Addr} {r:List (Nat×Nat)} {y:Nat×Nat} (h1:H p=some (.lst (qs.map V.ref))) (h2:qs.length=r.length) (h3:∀ (i:Nat) (q:Addr) (x:Nat×Nat),qs[i]?=some q->r[i]?=some x->H q=some (.tup [.int (x.1:Int),.int (x.2:Int)])) (hq:H q=some (.tup [.int (y.1:Int),.int (y.2:Int)])):bL (upd H p (.lst (qs.map V.ref++[.ref q]))) p (r++[y]):=by
 refine ⟨qs++[q],by rw [au,LR];rfl,by rw [Lg,Lg,h2];rfl,fun i q' x hi hx=>?_⟩
 have no:∀ {b:Addr} {ys:List V},H b=some (.tup ys)->b≠p:=fun z e=>by rw [e,h1] at z;cases z
 rcases iX hi with ⟨il,z⟩|⟨z1,z2⟩
 ·rw [Lq (by omega)] at hx
  have zz:=h3 i q' x z hx;rw [av (no zz)];exact zz
 ·subst z2;rw [z1,h2,Lr (Lj _),QE] at hx;cases hx;rw [av (no hq)];exact hq
def bL.cat {H:Hp} {p q d:Addr} {r s:List (Nat×Nat)} {qs ps:List Addr} (hd:H d=none) (h2:qs.length=r.length) (h3:∀ (i:Nat) (q:Addr) (x:Nat×Nat),qs[i]?=some q->r[i]?=some x->H q=some (.tup [.int (x.1:Int),.int (x.2:Int)]))
  (g2:ps.length=s.length) (g3:∀ (i:Nat) (q:Addr) (x:Nat×Nat),ps[i]?=some q->s[i]?=some x->H q=some (.tup [.int (x.1:Int),.int (x.2:Int)])):bL (upd H d (.lst (qs.map V.ref++ps.map V.ref))) d (r++s):=by
 refine ⟨qs++ps,by rw [au,LR],by rw [Lg,Lg,h2,g2],fun i q' x hi hx=>?_⟩
 have key:H q'=some (.tup [.int (x.1:Int),.int (x.2:Int)]):=by
  rcases LD i qs.length with z|z
  ·rw [Lq z] at hi;rw [Lq (by omega)] at hx
   exact h3 i q' x hi hx
  ·rw [Lr z] at hi;rw [Lr (by omega),<- h2] at hx
   exact g3 _ q' x hi hx
 rw [av (b4 key hd)];exact key
inductive vC (W:Addr->Prop) (CG:Addr) (vs:List V) (H:Hp) (Q:VK) (E:XK):Prop
 | mk (a b g:Addr) (n e m z z':Nat) (t:List (List Nat)) (D E:List (List (Nat×Nat))) (_:vs=[.ref a,.ref b]) (_:eG W H a g m z D) (_:eG W H b g m z' E) (_:bb CG H g n t e) (_:Q .non H)
def gm (T:Txt K mg):aJ P w K mg base CX0 1 T.dG.f T.dG.fd ["one","other"] (vC (bt T) T.aL):=by
 exists T.dG.ok vx
 ·obtain ⟨a,b,g,n,e,m,z,z',t,D,E,rfl,_⟩:=h;rfl
 obtain ⟨a,b,g,n,e,m,z,z',t,D,E',rfl,⟨C,cx,d,fs,hC,ha,wf,_⟩,⟨C',cx',d',fs',hC',hb,wf',_⟩,hG,q⟩:=h;obtain ⟨gx,gr,gb,hg,aR,aB⟩:=bb.get (K:=K) hG;refine ⟨_,(ae (a8 (aD (mT K rfl (List Nat) hr.units) (aE K rfl (aE K rfl (pv 0) rfl) rfl) (aE K rfl (aE K rfl (pv 1) rfl) rfl) (aG _)) (af cg) aQ)
   (af (a8 (aD eI (aE K rfl (pv 0) rfl) (aE K rfl (pv 1) rfl) (aG _)) (af cg) aQ))),?_⟩
 walk_at "1";refine dI T hC ha wf ?_;walk_at "rn";refine bG T hg ?_;walk_at "rn";refine dI T hC' hb wf' ?_;walk_at "rn";refine bG T hg ?_;walk_at "rn";refine t6 aR aR ?_;walk_at "rn";refine bT (fun c=>absurd rfl c) (fun _=>?_);walk_at "1";refine cN T hC ha wf ?_;walk_at "rn";refine cN T hC' hb wf' ?_;walk_at "6";exact q
inductive uE  (vs:List V) (H:Hp) (Q:VK) (E:XK):Prop
 | mk (k:Nat) (_:vs=[.int (k:Int)]) (_:k<=60) (_:Q .non H)
def ie (T:Txt K mg):aJ P w K mg base CX0 1 T.bM.f T.bM.fd ["many"] uE:=by
 exists T.bM.ok mF
 ·obtain ⟨k,rfl,_⟩:=h;rfl
 obtain ⟨k,rfl,hk,q⟩:=h;refine ⟨_,(af (a8 (aD gG (pv 0) (qf (v:=.int 60) rfl T.ow ⟨_,rfl⟩) (aG _)) (af cg) aQ)),?_⟩;walk_at "1";refine bf (fun c=>absurd c (by omega)) (fun _=>?_)
 walk_at "rn";exact q
def rR (C:Addr):Sp:=fun vs H _ E=>∃ k:Nat,vs=[.int (k:Int)]/\60<k/\E (.ref C) none H
def gR (T:Txt K mg):aJ P w K mg base (CXR P w) 1 T.bM.f T.bM.fd ["many"] (rR T.b5):=by
 exists T.bM.fn.okR mF
 ·obtain ⟨k,rfl,_⟩:=h;rfl
 obtain ⟨k,rfl,hk,q⟩:=h;refine ⟨_,(af (a8 (aD gG (pv 0) (qf (v:=.int 60) rfl T.ow ⟨_,rfl⟩) (aG _)) (af (DR Kr rfl rfl T.B7 rfl T.nH (paF Jm aa))) aQ)),?_⟩;walk_at "1";refine bf (fun _=>?_) (fun c=>absurd c (by omega))
 walk_at "rn";refine Ht ?_;walk_at "rn";exact ⟨small (by show 1<=1000;decide),q⟩
inductive Dn  (vs:List V) (H:Hp) (Q:VK) (E:XK):Prop
 | mk (p:Addr) (k:Nat) (r:List (Nat×Nat)) (_:vs=[.ref p,.int (k:Int)]) (_:bL H p r) (_:r.length<=1000) (_:∀ d H',H d=none->ai H H'->bL H' d (r.map fun y=>(k+y.1,y.2))->Q (.ref d) H')
def wg (T:Txt K mg):aJ P w K mg base CX0 1 T.kL.f T.kL.fd ["moves","many"] Dn:=by
 exists T.kL.ok DS
 ·obtain ⟨p,k,r,rfl,_⟩:=h;rfl
 obtain ⟨p,k,r,rfl,hp,hz,q⟩:=h;refine ⟨_,(af (aK (bu rfl rh (aT K rfl (pv 0)) (fun _ _ _ _=>⟨(jD K rfl (i:=0) (j:=1) rfl rh.nd rfl (K6 rfl) rfl (K6 rfl)),aX,(el (paF (ak aW (pv 2) (pv 0)) (paF (pv 1) aa)))⟩)))),?_⟩;walk_at "rn";refine xo (fun y=>(k+y.1,y.2)) [some (.int (k:Int))] hp hz rfl (fun c H1 R hc hs hR=>?_) q;refine eE ?_;walk_at "rn";refine ⟨small (by show 2<=1000;decide),fun a ha=>?_⟩
 exact hR a _ (aw ha _) au
structure Two (W:Addr->Prop) (CG:Addr) (H:Hp) (a b g:Addr) (n e m z z':Nat) (t:List (List Nat)) (D E:List (List (Nat×Nat))):Prop where
 wa:eG W H a g m z D
 wb:eG W H b g m z' E
 gp:bb CG H g n t e
 gt:GT n t e
 oa:WOk n m z D
 ob:WOk n m z' E
def Two.mono {W:Addr->Prop} {CG:Addr} {H H':Hp} {a b g:Addr} {n e m z z':Nat} {t:List (List Nat)} {D E:List (List (Nat×Nat))} (s:ai H H') (h:Two W CG H a b g n e m z z' t D E):Two W CG H' a b g n e m z z' t D E:=⟨h.wa.mono s,h.wb.mono s,h.gp.mono s,h.gt,h.oa,h.ob⟩
inductive wQ (W:Addr->Prop) (C CG:Addr) (vs:List V) (H:Hp) (Q:VK) (E:XK):Prop
 | mk (p dx a b g:Addr) (n e m z z':Nat) (t:List (List Nat)) (D E:List (List (Nat×Nat))) (_:vs=[.ref p,.ref a,.ref b]) (_:H p=some (.ins C dx [])) (_:Two W CG H a b g n e m z z' t D E) (_:z+z'<=60) (_:∀ d H' fs,H' p=some (.ins C dx fs)->WF fs (.ref g) m (z+z':Nat) (.ref d)->c8 H' d (jS n D E)->(∀ a o,H a=some o->a≠p->H' a=some o)->Q .non H')
def DE (T:Txt K mg):aJ P w K mg base CX0 2 T.lU T.kM ["self","one","other"] (wQ (bt T) T.cB T.aL):=by
 exists T.zQ.ok iU
 ·obtain ⟨p,dx,a,b,g,n,e,m,z,z',t,D,E,rfl,_⟩:=h;rfl
 obtain ⟨p,dx,a,b,g,n,e,m,z,z',t,D,E',rfl,hp,tw,h60,k⟩:=h;obtain ⟨C,cx,d0,fs,hC,ha,wf,hD⟩:=id tw.wa;obtain ⟨C',cx',d0',fs',hC',hb,wf',hD'⟩:=id tw.wb;obtain ⟨gx,gr,gb,hg,aR,aB⟩:=bb.get (K:=K) tw.gp;have gt:=tw.gt;have n1:=gt.pos;have n23:=gt.le;have wo:=tw.oa.bes tw.ob (by omega)
 refine ⟨_,(ae (aV (ay T.dG (gm T) (hr.mono (by decide)) rfl (paF (pv 1) (paF (pv 2) aa))))
   (ae (aV (ay T.bM (ie T) (hr.mono (by decide)) rfl (paF (ak aW (aE K rfl (pv 1) rfl) (aE K rfl (pv 2) rfl)) aa)))
   (ae (bV (i:=3) rfl iU.nd rfl (K6 rfl) lj (aM rfl T.aZ (paF (aE K rfl (aE K rfl (pv 1) rfl) rfl) aa)) (fun _ _ _ _=>⟨(ar (i:=0) lj.nd rfl (K6 rfl)),aX,(ak zi (dJ (pv 1) (dC T) (cc T) (hr.mono (by decide)) T.cG (paF (pv 0) aa)) (ay T.kL (wg T) (hr.mono (by decide)) rfl (paF (dJ (pv 2) (dC T) (cc T) (hr.mono (by decide)) T.cG (paF (pv 0) aa)) (paF (aE K rfl (pv 1) rfl) aa))))⟩) rfl)
   (af (aV (iL rfl T.qN T.qC (mM T) (hr.mono (by decide)) T.qE (paF (pv 0) (paF (aE K rfl (pv 1) rfl) (paF (aE K rfl (pv 1) rfl) (paF (pv 3) aa)))))))))),?_⟩
 walk_at "rn";refine ⟨a,b,g,n,e,m,z,z',t,D,E',rfl,tw.wa,tw.wb,tw.gp,?_⟩;walk_at "rn";refine dg T hC ha wf ?_;walk_at "rn";refine dg T hC' hb wf' ?_;walk_at "rn";refine ⟨z+z',rfl,h60,?_⟩;walk_at "rn";refine dI T hC ha wf ?_;walk_at "rn";refine bN T hg ?_;walk_at "rn";refine rV (n:=n) rfl (jS n D E') (fun σ'=>∃ y,σ'=[y,some (.ref a),some (.ref b)]) (by rw [wo.len]) (by rw [wo.len];omega) ⟨_,rfl⟩ ?_ ?_
 ·rintro i r σ' H1 R' R0 hi hr1 s1 ⟨y,rfl⟩ hR';obtain ⟨r1,hr,hm1,e1⟩:=tw.oa.get hi;obtain ⟨r2,hr2,hm2,e2⟩:=tw.ob.get hi;rw [rS hi,e1,e2] at hr1;cases hr1;have l1:=tw.oa.row r1 hm1;have l2:=tw.ob.row r2 hm2;walk_at "4";refine ⟨C,a,cx,fs,hC,rfl,s1 _ _ ha,wf.moves,?_⟩;walk_at "rn";refine ⟨a,g,i,m,z,D,r1,rfl,tw.wa.mono s1,hr,fun pm H2 fpm s2 row1=>?_⟩;have s12:=s1.trans s2;walk_at "4";refine ⟨C',b,cx',fs',hC',rfl,s12 _ _ hb,wf'.moves,?_⟩;walk_at "rn";refine ⟨b,g,i,m,z',E',r2,rfl,tw.wb.mono s12,hr2,fun pn H3 fpn s3 row2=>?_⟩;have s13:=s12.trans s3;walk_at "rn";refine dg T hC (s13 _ _ ha) wf ?_;walk_at "rn";refine ⟨pn,z,r2,rfl,row2,by omega,fun pb H4 fpb s4 row3=>?_⟩
  obtain ⟨qs,g1,g2,g3⟩:=(row1.mono s3).mono s4;obtain ⟨ps,k1,k2,k3⟩:=row3;rw [KY] at k2;walk_at "rn";refine ⟨pm,pb,_,_,rfl,rfl,g1,k1,L4 (show (qs.map V.ref).length+(ps.map V.ref).length<=1000 by rw [KY,KY];omega) (by rw [L5];decide),fun d hd=>?_⟩
  have rc:=bL.cat (p:=pm) (q:=pb) (s:=r2.map fun y=>(z+y.1,y.2)) hd g2 g3 (by rw [KY];exact k2) k3
  refine hR' _ d _ ⟨_,rfl⟩ ((s2.trans (s3.trans s4)).trans (aw hd _)) ((s2.trans (s3.trans s4)).free hd) ?_;unfold gB;rw [l1];exact rc
 ·intro d H1 fd s1 hD1;walk_at "rn";refine dI T hC (s1 _ _ ha) wf ?_;walk_at "rn";refine cN T hC (s1 _ _ ha) wf ?_;walk_at "rn";obtain ⟨r0,hr0,hm0,_⟩:=wo.get n1;refine ⟨p,T.cB,dx,d,.ref g,(m:Int),[],_,_,rfl,wW T,s1 _ _ hp,.inl rfl,hD1,hr0,fun H2 fs2 h2 wf2 k2=>?_⟩;rw [wo.row r0 hm0] at wf2;walk_at "rn";exact k d H2 fs2 h2 wf2 (hD1.but (s1 _ _ hp) k2) fun b o hb hne=>k2 b o (s1 _ _ hb) hne
def uy (W:Addr->Prop) (CE CG:Addr):Sp:=fun vs H _ Ex=>∃ (x:V) (a b g:Addr) (n e m z z':Nat) (t:List (List Nat)) (D E:List (List (Nat×Nat))),vs=[x,.ref a,.ref b]/\Two W CG H a b g n e m z z' t D E/\60<z+z'/\Ex (.ref CE) none H
def CC (T:Txt K mg):aJ P w K mg base (CXR P w) 2 T.lU T.kM ["self","one","other"] (uy (bt T) T.b5 T.aL):=by
 exists T.zQ.okR iU
 ·obtain ⟨x,a,b,g,n,e,m,z,z',t,D,E,rfl,_⟩:=h;rfl
 obtain ⟨x,a,b,g,n,e,m,z,z',t,D,E',rfl,tw,h60,q⟩:=h;obtain ⟨C,cx,d0,fs,hC,ha,wf,hD⟩:=id tw.wa;obtain ⟨C',cx',d0',fs',hC',hb,wf',hD'⟩:=id tw.wb;refine ⟨_,(ae (aV (ay T.dG (gm T) (hr.mono (by decide)) rfl (paF (pv 1) (paF (pv 2) aa)))) (ae (aV (zF T.bM (gR T) (hr.mono (by decide)) rfl CB (paF (ak aW (aE K rfl (pv 1) rfl) (aE K rfl (pv 2) rfl)) aa))) p7)),?_⟩
 walk_at "rn";refine ⟨a,b,g,n,e,m,z,z',t,D,E',rfl,tw.wa,tw.wb,tw.gp,?_⟩;walk_at "rn";refine dg T hC ha wf ?_;walk_at "rn";refine dg T hC' hb wf' ?_;walk_at "rn";exact ⟨z+z',rfl,h60,q⟩
def Cc (T:Txt K mg):aJ P w K mg base (CXR P w) 2 T.lU T.kM ["self","one","other"] (fun vs H Q E=>wQ (bt T) T.cB T.aL vs H Q E\/uy (bt T) T.b5 T.aL vs H Q E):=aJ.both (DE T) (CC T)
def cH (m:Nat) (r s:List (Nat×Nat)):List (Nat×Nat):=r.flatMap fun x=>s.map fun y=>(x.1 * s.length+y.1,(x.2+y.2) % m)
def lr (n m:Nat) (D E:List (List (Nat×Nat))):List (List (Nat×Nat)):=(K3 n).map fun i=>cH m (D.getD i []) (E.getD i [])
def oj {m:Nat} {s:List (Nat×Nat)}:∀ {r:List (Nat×Nat)},(cH m r s).length=r.length * s.length
 | []=>by unfold cH;simp
 | x :: r=>by
  have:=oj (m:=m) (s:=s) (r:=r);unfold cH at this ⊢;rw [MK,Lg,KY,this,LN,MU];omega
def WOk.cro {n m z z':Nat} {D E:List (List (Nat×Nat))} (h:WOk n m z D) (h':WOk n m z' E) (hz:z * z'<=1000):WOk n m (z * z') (lr n m D E):=by
 refine ⟨by unfold lr;rw [KY,Ln],fun r hr=>?_,fun r hr y hy=>?_,h.m1,h.m60,hz,Ms h.z0 h'.z0⟩
 ·obtain ⟨i,hi,rfl⟩:=Lc.mp hr;obtain ⟨r1,_,h2,h3⟩:=h.get (K7.mp hi);obtain ⟨r2,_,h5,h6⟩:=h'.get (K7.mp hi);rw [h3,h6,oj,h.row r1 h2,h'.row r2 h5]
 ·obtain ⟨i,hi,rfl⟩:=Lc.mp hr;unfold cH at hy;obtain ⟨x,_,hx⟩:=M4.mp hy;obtain ⟨y0,_,rfl⟩:=Lc.mp hx;exact Lu _ h.m1
def AH {n m i:Nat} {D E:List (List (Nat×Nat))} (hi:i<n):(lr n m D E)[i]?=some (cH m (D.getD i []) (E.getD i [])):=by
 unfold lr;rw [K4,LK hi];rfl
def HN {m i:Nat} {r s:List (Nat×Nat)} {x:Nat×Nat} (h:r[i]?=some x):cH m (r.take (i+1)) s=cH m (r.take i) s++s.map fun y=>(x.1 * s.length+y.1,(x.2+y.2) % m):=by
 unfold cH;rw [Lv,h,Ox];simp
inductive ED (K:KW) (vs:List V) (H:Hp) (Q:VK) (E:XK):Prop
 | mk (p p':Addr) (m:Nat) (r s:List (Nat×Nat)) (_:vs=[.ref p,.ref p',.int (m:Int)]) (_:bL H p r) (_:bL H p' s) (_:r.length * s.length<=1000) (_:s.length<=1000) (_:1<=m) (_:∀ d H',H d=none->ai H H'->bL H' d (cH m r s)->Q (.ref d) H')
def EU (T:Txt K mg):aJ P w K mg base CX0 1 T.nK.f T.nK.fd ["moves","others","spokes"] (ED K):=by
 exists T.nK.ok gX
 ·obtain ⟨p,p',m,r,s,rfl,_⟩:=h;rfl
 obtain ⟨p,p',m,r,s',rfl,hp,hp',hz,hz',m1,q⟩:=h;refine ⟨_,(ae (aq (i:=3) gX.nd rfl (K6 rfl) (bP aa))
   (ae (ba Ld rfl (aT K rfl (pv 0)) (dR rfl (bc (ar (i:=4) gX.nd rfl (K6 rfl)) (bc (ar (i:=5) gX.nd rfl (K6 rfl)) de))) (af (ba Ld rfl (aT K rfl (pv 1)) (dR rfl (bc (ar (i:=6) gX.nd rfl (K6 rfl)) (bc (ar (i:=7) gX.nd rfl (K6 rfl)) de))) (af (aV (bZ K rfl Lk Lw Lx bF (pv 3) (paF (el (paF (ak aW (ak bg (pv 4) (aI (aN K rfl) rfl T.bA Lo (paF (pv 1) aa))) (pv 6)) (paF (ak aO (ak aW (pv 5) (pv 7)) (pv 2)) aa))) aa)))))))
   (af (aK (pv 3))))),?_⟩
 walk_at "2";refine ⟨small (by show 0<=1000;decide),fun pf hpf=>?_⟩
 have s0:=aw hpf (.lst []);have f0:bL (upd H pf (.lst [])) pf []:=⟨[],au,rfl,fun i q x z=>by simp at z⟩
 generalize upd H pf (.lst [])=H0 at s0 f0;walk_at "rn";refine o6 (H₀:=H) hp (fun i σ' H'=>ai H H'/\bL H' pf (cH m (r.take i) s')/\∃ x4 x5 x6 x7:Option V,σ'=[some (.ref p),some (.ref p'),some (.int (m:Int)),some (.ref pf),x4,x5,x6,x7]) ⟨s0,f0,_,_,_,_,rfl⟩ (fun i σ' H' z=>z.1) ?_ ?_
 ·rintro i x σ' H1 hx ⟨s1,f1,x4,x5,x6,x7,rfl⟩;have il:=(K0.mp hx).1;have cl:(cH m (r.take i) s').length+s'.length<=1000:=by
   rw [oj,Lh,Ou (by omega)]
   have:(i+1) * s'.length<=r.length * s'.length:=NN _ il;rw [MU] at this;omega
  walk_at "rn";refine o6 (H₀:=H) hp' (fun j σ' H'=>ai H H'/\bL H' pf (cH m (r.take i) s'++(s'.take j).map fun y=>(x.1 * s'.length+y.1,(x.2+y.2) % m))/\∃ x6 x7:Option V,σ'=[some (.ref p),some (.ref p'),some (.int (m:Int)),some (.ref pf),some (.int (x.1:Int)),some (.int (x.2:Int)),x6,x7]) ⟨s1,by simpa using f1,_,_,rfl⟩ (fun i σ' H' z=>z.1) ?_ ?_
  ·rintro j y σ' H2 hy ⟨s2,f2,x6,x7,rfl⟩;have jl:=(K0.mp hy).1;obtain ⟨qs,g1,g2,g3⟩:=id f2;have ql:qs.length<=1000:=by
    rw [g2,Lg,KY,Lh];omega
   walk_at "rn";refine ⟨.inl ⟨rfl,_,SqL.of g1⟩,?_⟩;walk_at "3";refine b8 (hp'.mono s2).at ?_;walk_at "rn";refine ⟨small (by show 2<=1000;decide),fun a ha=>?_⟩
   have s3:=aw ha (.tup [.int ((x.1 * s'.length+y.1:Nat):Int),.int (((x.2+y.2) % m:Nat):Int)]);have ha3:(upd H2 a (.tup [.int ((x.1 * s'.length+y.1:Nat):Int),.int (((x.2+y.2) % m:Nat):Int)])) a=some (.tup [.int ((x.1 * s'.length+y.1:Nat):Int),.int (((x.2+y.2) % m:Nat):Int)]):=au;generalize upd H2 a (.tup [.int ((x.1 * s'.length+y.1:Nat):Int),.int (((x.2+y.2) % m:Nat):Int)])=H3 at s3 ha3;refine ⟨pf,_,_,rfl,rfl,s3 _ _ g1,LO (show (qs.map V.ref).length<=1000 by rw [KY];exact ql) (by rw [L5];decide),?_⟩
   refine ⟨eU hpf (s2.trans s3),?_,_,_,rfl⟩;have:=bL.snoc (y:=(x.1 * s'.length+y.1,(x.2+y.2) % m)) (s3 _ _ g1) g2 (fun i q x a b=>s3 _ _ (g3 i q x a b)) ha3;rw [Lv,hy,LR,<- OU];exact this
  ·rintro σ' H2 ⟨s2,f2,x6,x7,rfl⟩;rw [Mn] at f2;walk_at "rn";exact ⟨s2,by rw [HN hx];exact f2,_,_,_,_,rfl⟩
 ·rintro σ' H1 ⟨s1,f1,x4,x5,x6,x7,rfl⟩;rw [Mn] at f1;walk_at "rn";exact q pf H1 hpf s1 f1
inductive uf (W:Addr->Prop) (C CG:Addr) (vs:List V) (H:Hp) (Q:VK) (E:XK):Prop
 | mk (p dx a b g:Addr) (n e m z z':Nat) (t:List (List Nat)) (D E:List (List (Nat×Nat))) (_:vs=[.ref p,.ref a,.ref b]) (_:H p=some (.ins C dx [])) (_:Two W CG H a b g n e m z z' t D E) (_:z * z'<=60) (_:∀ d H' fs,H' p=some (.ins C dx fs)->WF fs (.ref g) m (z * z':Nat) (.ref d)->c8 H' d (lr n m D E)->(∀ a o,H a=some o->a≠p->H' a=some o)->Q .non H')
def Cm (T:Txt K mg):aJ P w K mg base CX0 2 T.jw T.jH ["self","one","other"] (uf (bt T) T.bY T.aL):=by
 exists T.w9.ok iF
 ·obtain ⟨p,dx,a,b,g,n,e,m,z,z',t,D,E,rfl,_⟩:=h;rfl
 obtain ⟨p,dx,a,b,g,n,e,m,z,z',t,D,E',rfl,hp,tw,h60,k⟩:=h;obtain ⟨C,cx,d0,fs,hC,ha,wf,hD⟩:=id tw.wa;obtain ⟨C',cx',d0',fs',hC',hb,wf',hD'⟩:=id tw.wb;obtain ⟨gx,gr,gb,hg,aR,aB⟩:=bb.get (K:=K) tw.gp;have gt:=tw.gt;have n1:=gt.pos;have n23:=gt.le;have wo:=tw.oa.cro tw.ob (by omega)
 have zz1:=tw.oa.z1;refine ⟨_,(ae (aV (ay T.dG (gm T) (hr.mono (by decide)) rfl (paF (pv 1) (paF (pv 2) aa))))
   (ae (aV (ay T.bM (ie T) (hr.mono (by decide)) rfl (paF (ak bg (aE K rfl (pv 1) rfl) (aE K rfl (pv 2) rfl)) aa)))
   (ae (bV (i:=3) rfl iF.nd rfl (K6 rfl) j9 (aM rfl T.aZ (paF (aE K rfl (aE K rfl (pv 1) rfl) rfl) aa)) (fun _ _ _ _=>⟨(ar (i:=0) j9.nd rfl (K6 rfl)),aX,(ay T.nK (EU T) (hr.mono (by decide)) rfl (paF (dJ (pv 1) (dC T) (cc T) (hr.mono (by decide)) T.cG (paF (pv 0) aa)) (paF (dJ (pv 2) (dC T) (cc T) (hr.mono (by decide)) T.cG (paF (pv 0) aa)) (paF (aE K rfl (pv 1) rfl) aa))))⟩) rfl)
   (af (aV (iL rfl T.qN T.qC (mM T) (hr.mono (by decide)) T.qE (paF (pv 0) (paF (aE K rfl (pv 1) rfl) (paF (aE K rfl (pv 1) rfl) (paF (pv 3) aa)))))))))),?_⟩
 walk_at "rn";refine ⟨a,b,g,n,e,m,z,z',t,D,E',rfl,tw.wa,tw.wb,tw.gp,?_⟩;walk_at "rn";refine dg T hC ha wf ?_;walk_at "rn";refine dg T hC' hb wf' ?_;walk_at "rn";refine ⟨z * z',rfl,h60,?_⟩;walk_at "rn";refine dI T hC ha wf ?_;walk_at "rn";refine bN T hg ?_;walk_at "rn";refine rV (n:=n) rfl (lr n m D E') (fun σ'=>∃ y,σ'=[y,some (.ref a),some (.ref b)]) (by rw [wo.len]) (by rw [wo.len];omega) ⟨_,rfl⟩ ?_ ?_
 ·rintro i r σ' H1 R' R0 hi hr1 s1 ⟨y,rfl⟩ hR';obtain ⟨r1,hr,hm1,e1⟩:=tw.oa.get hi;obtain ⟨r2,hr2,hm2,e2⟩:=tw.ob.get hi;rw [AH hi,e1,e2] at hr1;cases hr1;have l1:=tw.oa.row r1 hm1;have l2:=tw.ob.row r2 hm2;walk_at "4";refine ⟨C,a,cx,fs,hC,rfl,s1 _ _ ha,wf.moves,?_⟩;walk_at "rn";refine ⟨a,g,i,m,z,D,r1,rfl,tw.wa.mono s1,hr,fun pm H2 fpm s2 row1=>?_⟩;have s12:=s1.trans s2;walk_at "4";refine ⟨C',b,cx',fs',hC',rfl,s12 _ _ hb,wf'.moves,?_⟩;walk_at "rn";refine ⟨b,g,i,m,z',E',r2,rfl,tw.wb.mono s12,hr2,fun pn H3 fpn s3 row2=>?_⟩;have s13:=s12.trans s3;walk_at "rn";refine cN T hC (s13 _ _ ha) wf ?_;walk_at "rn";refine ⟨pm,pn,m,r1,r2,rfl,row1.mono s3,row2,by rw [l1,l2];omega,by rw [l2];exact tw.ob.z1,tw.oa.m1,fun d H4 fd s4 row=>?_⟩
  exact hR' _ d _ ⟨_,rfl⟩ ((s2.trans s3).trans s4) ((s2.trans s3).free fd) row
 ·intro d H1 fd s1 hD1;walk_at "rn";refine dI T hC (s1 _ _ ha) wf ?_;walk_at "rn";refine cN T hC (s1 _ _ ha) wf ?_;walk_at "rn";obtain ⟨r0,hr0,hm0,_⟩:=wo.get n1;refine ⟨p,T.bY,dx,d,.ref g,(m:Int),[],_,_,rfl,tS T,s1 _ _ hp,.inl rfl,hD1,hr0,fun H2 fs2 h2 wf2 k2=>?_⟩;rw [wo.row r0 hm0] at wf2;walk_at "rn";exact k d H2 fs2 h2 wf2 (hD1.but (s1 _ _ hp) k2) fun b o hb hne=>k2 b o (s1 _ _ hb) hne
def rj (W:Addr->Prop) (CE CG:Addr):Sp:=fun vs H _ Ex=>∃ (x:V) (a b g:Addr) (n e m z z':Nat) (t:List (List Nat)) (D E:List (List (Nat×Nat))),vs=[x,.ref a,.ref b]/\Two W CG H a b g n e m z z' t D E/\60<z * z'/\Ex (.ref CE) none H
def A1 (T:Txt K mg):aJ P w K mg base (CXR P w) 2 T.jw T.jH ["self","one","other"] (rj (bt T) T.b5 T.aL):=by
 exists T.w9.okR iF
 ·obtain ⟨x,a,b,g,n,e,m,z,z',t,D,E,rfl,_⟩:=h;rfl
 obtain ⟨x,a,b,g,n,e,m,z,z',t,D,E',rfl,tw,h60,q⟩:=h;obtain ⟨C,cx,d0,fs,hC,ha,wf,hD⟩:=id tw.wa;obtain ⟨C',cx',d0',fs',hC',hb,wf',hD'⟩:=id tw.wb;have zz1:=tw.oa.z1;refine ⟨_,(ae (aV (ay T.dG (gm T) (hr.mono (by decide)) rfl (paF (pv 1) (paF (pv 2) aa)))) (ae (aV (zF T.bM (gR T) (hr.mono (by decide)) rfl CB (paF (ak bg (aE K rfl (pv 1) rfl) (aE K rfl (pv 2) rfl)) aa))) p7)),?_⟩
 walk_at "rn";refine ⟨a,b,g,n,e,m,z,z',t,D,E',rfl,tw.wa,tw.wb,tw.gp,?_⟩;walk_at "rn";refine dg T hC ha wf ?_;walk_at "rn";refine dg T hC' hb wf' ?_;walk_at "rn";exact ⟨z * z',rfl,h60,q⟩
def AR (T:Txt K mg):aJ P w K mg base (CXR P w) 2 T.jw T.jH ["self","one","other"] (fun vs H Q E=>uf (bt T) T.bY T.aL vs H Q E\/rj (bt T) T.b5 T.aL vs H Q E):=aJ.both (Cm T) (A1 T)
def C2 {H H1 H2:Hp} (s:ai H H1):ai (since H1 H2) (since H H2):=fun b o h=>by
 have hb:H1 b=none:=by
  unfold since at h;cases z:H1 b with
  | none=>rfl
  | some v=>rw [z] at h;cases h
 rw [fL hb] at h;rw [fL (s.free hb)];exact h
def IH {H:Hp} {p:Addr} {xs:List V} {Q:VK} {σ:St} {g:TG} {tt:TT} {ta:TE} {own:List Str} {fr:List Nat} (L:List (List Nat)) (Sh:St->Prop) (hS:SqL K H p xs) (hl:xs.length=L.length) (hz:L.length<=1000) (h0:Sh (bB own fr σ))
  (turn:∀ (i:Nat) (x:V) (r:List Nat) σ' H' (R:St->V->Hp->Prop) (R0:St->Hp->Prop),xs[i]?=some x->L[i]?=some r->ai H H'->Sh σ'->(∀ σ2 q H5,Sh σ2->ai H' H5->H' q=none->H5 q=some (.lst (aA r))->R σ2 (.ref q) H5) ->
   g x σ' H' fun σ2 H3=>tt σ2 H3 fun ok H4=>if ok=true then ta σ2 H4 (R σ2) else R0 σ2 H4)
  (fin:∀ d H' ps,H d=none->ai H H'->Tbl H' d L ps->Q (.ref d) H'):iz K (.ref p) H (cS own fr g tt ta σ Q):=by
 refine mB (p:=p) (xs:=xs) (by omega) (fun d i σ' H' ys=>ai H H'/\∃ (ps:List Addr),ys=ps.map V.ref/\i<=L.length/\Tbl H' d (L.take i) ps/\Sh σ')
  (fun d i σ' H' ys z=>z.1.seq hS) hS (fun d i σ' H' ys hi z=>by obtain ⟨_,ps,e,_,e2,_⟩:=z;rw [e,KY,e2.len,Lh];omega) (fun d hd=>⟨aw hd _,[],rfl,Mb _,Tbl.nil,h0⟩) ?_ ?_
 ·rintro d i o σ' H2 ys R R0 hd hi ⟨s2,ps,rfl,hil',tb2,hsh⟩ hys hR hR0;have hil:i<L.length:=by rw [<- hl];exact (K0.mp hi).1
  refine turn i o _ σ' H2 R R0 hi (KZ hil) s2 hsh fun σ2 a H5 hs2 s5 fa ha=>?_;have na:a≠d:=fun e=>by rw [e,hys] at fa;cases fa
  have np:a∉ps:=fun z=>by
   obtain ⟨k,hk⟩:=LS z;have hk':k<(L.take i).length:=by rw [<- tb2.len];exact (K0.mp hk).1
   have:=tb2.row k a _ hk (KZ hk');rw [fa] at this;cases this
  refine hR _ _ _ (s5 _ _ hys) ⟨fun b o zz=>by rw [av (aH zz hd)];exact s5 _ _ (s2 _ _ zz),ps++[a],by rw [LR];rfl,hil,?_,hs2⟩
  rw [Lv,KZ hil];exact tb2.snoc s5 ha np na
 ·rintro d σ' H2 ys fd hd ⟨s2,ps,rfl,_,tb2,_⟩;rw [hl,Mn] at tb2;exact fin d H2 ps fd s2 tb2
inductive Fm (C:Addr) (K:KW) (vs:List V) (H:Hp) (Q:VK) (E:XK):Prop
 | mk (g p1:Addr) (n e:Nat) (t:List (List Nat)) (R:List Nat) (_:vs=[.ref g,.ref p1]) (_:bb C H g n t e) (_:GT n t e) (_:H p1=some (.lst (aA R))) (_:IsPart n t R) (_:∀ g' H',H g'=none->ai H H'->bb C (since H H') g' R.length (cV t R) (R.idxOf e)->Q (.ref g') H')
def n6 (T:Txt K mg):aJ P w K mg base CX0 4 T.iZ.f T.iZ.fd ["group","part"] (Fm T.aL K):=by
 exists T.iZ.ok Fu
 ·obtain ⟨g,p1,n,e,t,R,rfl,_⟩:=h;rfl
 obtain ⟨g,p1,n,e,t,R,rfl,hG,gt,h1,pt,q⟩:=h;have n23:=gt.le;have rl:=pt.len;refine ⟨_,(ae (aV (ay T.eM (jT T) (hr.mono (by decide)) rfl (paF (pv 0) (paF (pv 1) aa))))
   (af (aK (ay T.ik (rq T) (hr.mono (by decide)) rfl (paF (zR rfl tV (aT K rfl (pv 1)) (fun _ _ _ _=>⟨(ar (i:=0) tV.nd rfl (Ni rfl)),aX,(bu rfl sQ (aT K rfl (pv 2)) (fun _ _ _ _=>⟨(ar (i:=0) sQ.nd rfl (K6 rfl)),aX,(bZ K rfl Lk MT Nn nP (pv 3) (paF (ao (aj K rfl) (ao (aj K rfl) (aE K rfl (pv 1) rfl) (pv 2) (fun _ _=>rfl)) (pv 0) (fun _ _=>rfl)) aa))⟩))⟩)) aa))))),?_⟩
 walk_at "rn";refine ⟨g,_,n,e,t,R,rfl,hG,gt,bS h1,pt,fun H1 s1=>?_⟩;obtain ⟨gx,gr,gb,hg,aR,aB⟩:=bb.get (K:=K) (hG.mono s1);have h11:=s1 _ _ h1;walk_at "rn";refine IH (cV t R) (fun σ'=>∃ y,σ'=[y,some (.ref g),some (.ref p1)]) (SqL.of h11) (by unfold cV aA;rw [KY,KY]) (by unfold cV;rw [KY];omega) ⟨_,rfl⟩ ?_ ?_
 ·rintro i o r σ' H2 R' R0 ho hr2 hs ⟨y,rfl⟩ hR;unfold aA at ho;unfold cV at hr2;rw [K4] at ho hr2;cases ha:R[i]? with
  | none=>rw [ha] at ho;cases ho
  | some a =>
   rw [ha] at ho hr2;cases ho;cases hr2;have haR:=K1 ha;have han:=pt.lt a haR;have h12:=hs _ _ h11;walk_at "rn";refine gW (α:=Nat) (β:=Nat) (bS h12) (by omega) (fun j=>(R.map fun b=>R.idxOf (tb t a b)).take j) (fun σ'=>∃ y,σ'=[y,some (.ref g),some (.int (a:Int)),some (.ref p1)]) rfl (fun i _=>by rw [Lh];omega) ⟨_,rfl⟩ ?_ ?_
   ·rintro j b w2 σ' H3 d3 R3 R03 hb hs3 hw2 ⟨y,rfl⟩ hR3 hR03 hd3;cases (show w2=V.int (b:Int) from hw2);have hbR:=K1 hb;have hbn:=pt.lt b hbR;have h13:=hs3 _ _ h12;have s13:=hs.trans hs3;have hg3:=s13 _ _ hg;have aR3:=Rep.mono s13 aR;have hab:=pt.cl a haR b hbR;walk_at "rn";refine ⟨.inl ⟨rfl,_,SqL.of h13⟩,?_⟩;symm;refine cI aR3 rfl (gt.get han) fun w1 hw1=>?_;walk_at "rn";refine bh hw1 (gt.cZ han hbn) ?_;walk_at "rn";refine qB h13 (qJ hab) (fun i' hi'=>mz hi') ?_;exact hR3 _ _ _ _ ⟨_,rfl⟩ (ai.refl _) rfl (by rw [Lv,K4,hb];rfl)
   ·intro d3 H3 fd3 s3 h3;have g3:Gr K H3 d3 ((R.map fun b=>R.idxOf (tb t a b)).take R.length):=h3;rw [Lf (by simp)] at g3
    exact hR _ _ _ ⟨_,rfl⟩ s3 fd3 (dB g3)
 ·intro d2 H2 ps2 fd2 s2 tb2;walk_at "rn";refine ⟨_,_,_,cV t R,rfl,tb2.at,zE gt pt,fun g' H3 fg s3 hg3=>?_⟩;have s02:=s1.trans s2;exact q g' H3 (s02.free fg) (s02.trans s3) (hg3.mono (C2 s02))
def WOk.back {n m z:Nat} {D:List (List (Nat×Nat))} (h:WOk n m z D):WOk n m z (gf m D):=by
 refine ⟨by unfold gf;rw [KY];exact h.len,fun r hr=>?_,fun r hr y hy=>?_,h.m1,h.m60,h.z1,h.z0⟩
 ·obtain ⟨r0,h0,rfl⟩:=Lc.mp hr;rw [KY];exact h.row r0 h0
 ·obtain ⟨r0,h0,rfl⟩:=Lc.mp hr;obtain ⟨y0,_,rfl⟩:=Lc.mp hy;exact Lu _ h.m1
def WOk.part {n m z:Nat} {t:List (List Nat)} {R:List Nat} {D:List (List (Nat×Nat))} (h:WOk n m z D) (pt:IsPart n t R):WOk R.length m z (f6 D R):=by
 refine ⟨by unfold f6;rw [KY],fun r hr=>?_,fun r hr=>?_,h.m1,h.m60,h.z1,h.z0⟩
 ·obtain ⟨a,ha,rfl⟩:=Lc.mp hr;obtain ⟨r,_,h2,h3⟩:=h.get (pt.lt a ha);rw [h3];exact h.row r h2
 ·obtain ⟨a,ha,rfl⟩:=Lc.mp hr;obtain ⟨r,_,h2,h3⟩:=h.get (pt.lt a ha);rw [h3];exact h.lt r h2
def Cr {H:Hp} {p:Addr} {Q:VK} {σ:St} {r:List (Nat×Nat)} {m:Nat} {x y:Str} {f:Nat} (hp:bL H p r) (hz:r.length<=1000) (m1:1<=m) (lt:∀ y∈r,y.2<m) (hs:bB [x,y] [f] σ=[none,none,some (.int (m:Int))])
  (fin:∀ d H',H d=none->ai H H'->bL H' d (r.map fun y=>(y.1,(m - y.2) % m))->Q (.ref d) H') :
  iz K (.ref p) H (cS [x,y] [f] (jQ K 2 (cW (cw 0) (cW (cw 1) jM))) sL (FL (kj (o9 0) (kj (tOp (rI (fun _ j=>0<j) fun i j=>.int (i % j)) (tOp (rI0 fun i j=>.int (i - j)) (o9 2) (o9 1)) (o9 2)) rZ))) σ Q):=by
 obtain ⟨qs,h1,h2,h3⟩:=id hp;refine qg (r.map fun y=>(y.1,(m - y.2) % m)) (fun σ'=>∃ y1 y2,σ'=[y1,y2,some (.int (m:Int))]) (SqL.of h1) (by rw [KY,KY];exact h2) (by rw [KY];exact hz) ⟨none,none,hs⟩ ?_ fin
 rintro j o y0 σ' H8 R2 R02 ho hy s8 ⟨y1,y3,rfl⟩ hR2;rw [K4] at ho hy;cases hc:r[j]? with
 | none=>rw [hc] at hy;cases hy
 | some c =>
  rw [hc] at hy;cases hy;cases hq:qs[j]? with
  | none=>rw [hq] at ho;cases ho
  | some q2 =>
   rw [hq] at ho;cases ho;have ht:=s8 _ _ (h3 j q2 c hq hc);have hlt:=lt c (K1 hc);refine ⟨q2,_,rfl,SqT.of ht,rfl,⟨_,_,rfl,⟨_,_,rfl,⟨rfl,?_⟩⟩⟩⟩;walk_at "3";rw [show ((m:Nat):Int) - ((c.2:Nat):Int)=((m - c.2:Nat):Int) by omega]
   walk_at "rn";refine ⟨small (by show 2<=1000;decide),fun a ha=>?_⟩
   exact hR2 _ a _ ⟨_,_,rfl⟩ (aw ha _) au
inductive uu  (vs:List V) (H:Hp) (Q:VK) (E:XK):Prop
 | mk (p:Addr) (m:Nat) (r:List (Nat×Nat)) (_:vs=[.ref p,.int (m:Int)]) (_:bL H p r) (_:r.length<=1000) (_:1<=m) (_:(∀ y∈r,y.2<m)) (_:∀ d H',H d=none->ai H H'->bL H' d (r.map fun y=>(y.1,(m - y.2) % m))->Q (.ref d) H')
def tR (T:Txt K mg):aJ P w K mg base CX0 1 T.gi.f T.gi.fd ["moves","spokes"] uu:=by
 exists T.gi.ok tL
 ·obtain ⟨p,m,r,rfl,_⟩:=h;rfl
 obtain ⟨p,m,r,rfl,hp,hz,m1,lt,q⟩:=h;refine ⟨_,(af (aK (bu rfl j8 (aT K rfl (pv 0)) (fun _ _ _ _=>⟨(jD K rfl (i:=0) (j:=1) rfl j8.nd rfl (K6 rfl) rfl (K6 rfl)),aX,(el (paF (pv 0) (paF (ak aO (ak pE (pv 2) (pv 1)) (pv 2)) aa)))⟩)))),?_⟩;walk_at "rn";exact Cr hp hz m1 lt rfl q
inductive EB (W:Addr->Prop) (C CG:Addr) (vs:List V) (H:Hp) (Q:VK) (E:XK):Prop
 | mk (p dx a g:Addr) (n e m z:Nat) (t:List (List Nat)) (D:List (List (Nat×Nat))) (_:vs=[.ref p,.ref a]) (_:H p=some (.ins C dx [])) (_:eG W H a g m z D) (_:bb CG H g n t e) (_:GT n t e) (_:WOk n m z D) (_:∀ d H' fs,H' p=some (.ins C dx fs)->WF fs (.ref g) m z (.ref d)->c8 H' d (gf m D)->(∀ a o,H a=some o->a≠p->H' a=some o)->Q .non H')
def Eg (T:Txt K mg):aJ P w K mg base CX0 2 T.sN T.sF ["self","way"] (EB (bt T) T.cL T.aL):=by
 exists T.FT.ok nt
 ·obtain ⟨p,dx,a,g,n,e,m,z,t,D,rfl,_⟩:=h;rfl
 obtain ⟨p,dx,a,g,n,e,m,z,t,D,rfl,hp,hW,hG,gt,wo,k⟩:=h;obtain ⟨C,cx,d0,fs,hC,ha,wf,hD⟩:=id hW;obtain ⟨gx,gr,gb,hg,aR,aB⟩:=bb.get (K:=K) hG;have n1:=gt.pos;have n23:=gt.le;refine ⟨_,(ae (bV (i:=2) rfl nt.nd rfl (K6 rfl) k6 (aM rfl T.aZ (paF (aE K rfl (aE K rfl (pv 1) rfl) rfl) aa)) (fun _ _ _ _=>⟨(ar (i:=0) k6.nd rfl (K6 rfl)),aX,(ay T.gi (tR T) (hr.mono (by decide)) rfl (paF (dJ (pv 1) (dC T) (cc T) (hr.mono (by decide)) T.cG (paF (pv 0) aa)) (paF (aE K rfl (pv 1) rfl) aa)))⟩) rfl)
   (af (aV (iL rfl T.qN T.qC (mM T) (hr.mono (by decide)) T.qE (paF (pv 0) (paF (aE K rfl (pv 1) rfl) (paF (aE K rfl (pv 1) rfl) (paF (pv 2) aa)))))))),?_⟩
 walk_at "rn";refine dI T hC ha wf ?_;walk_at "rn";refine bN T hg ?_;walk_at "rn";refine rV (n:=n) rfl (gf m D) (fun σ'=>∃ y,σ'=[y,some (.ref a)]) (by unfold gf;rw [KY,wo.len]) (by unfold gf;rw [KY,wo.len];omega) ⟨_,rfl⟩ ?_ ?_
 ·rintro i r σ' H1 R' R0 hi hr1 s1 ⟨y,rfl⟩ hR';obtain ⟨r0,hr0,hm0,_⟩:=wo.get hi;unfold gf at hr1;rw [K4,hr0] at hr1;cases hr1;walk_at "4";refine ⟨C,a,cx,fs,hC,rfl,s1 _ _ ha,wf.moves,?_⟩;walk_at "rn";refine ⟨a,g,i,m,z,D,r0,rfl,hW.mono s1,hr0,fun pm H2 fpm s2 r2=>?_⟩;walk_at "rn";refine cN T hC ((s1.trans s2) _ _ ha) wf ?_;walk_at "rn";refine ⟨pm,m,r0,rfl,r2,by rw [wo.row r0 hm0];exact wo.z1,wo.m1,wo.lt r0 hm0,fun d H3 fd s3 r3=>?_⟩
  exact hR' _ _ _ ⟨_,rfl⟩ (s2.trans s3) (s2.free fd) r3
 ·intro d H1 fd s1 hD1;walk_at "rn";refine dI T hC (s1 _ _ ha) wf ?_;walk_at "rn";refine cN T hC (s1 _ _ ha) wf ?_;walk_at "rn";obtain ⟨r0,hr0,hm0,_⟩:=wo.get n1;refine ⟨p,T.cL,dx,d,.ref g,(m:Int),[],_,_,rfl,wO T,s1 _ _ hp,.inl rfl,hD1,(by unfold gf;rw [K4,hr0];rfl),fun H2 fs2 h2 wf2 k2=>?_⟩
  rw [KY,wo.row r0 hm0] at wf2;walk_at "rn";exact k d H2 fs2 h2 wf2 (hD1.but (s1 _ _ hp) k2) fun b o hb hne=>k2 b o (s1 _ _ hb) hne
inductive D1 (W:Addr->Prop) (C CG:Addr) (vs:List V) (H:Hp) (Q:VK) (E:XK):Prop
 | mk (p dx a g p1:Addr) (n e m z:Nat) (t:List (List Nat)) (D:List (List (Nat×Nat))) (R:List Nat) (_:vs=[.ref p,.ref a,.ref p1]) (_:H p=some (.ins C dx [])) (_:eG W H a g m z D) (_:bb CG H g n t e) (_:GT n t e) (_:WOk n m z D) (_:H p1=some (.lst (aA R))) (_:IsPart n t R) (_:∀ g' d H' fs,bb CG (since H H') g' R.length (cV t R) (R.idxOf e)->H' p=some (.ins C dx fs)->WF fs (.ref g') m z (.ref d)->c8 H' d (f6 D R)->(∀ a o,H a=some o->a≠p->H' a=some o)->Q .non H')
def D4 (T:Txt K mg):aJ P w K mg base CX0 5 T.rM T.sf ["self","way","part"] (D1 (bt T) T.cU T.aL):=by
 exists T.EY.ok vG
 ·obtain ⟨p,dx,a,g,p1,n,e,m,z,t,D,R,rfl,_⟩:=h;rfl
 obtain ⟨p,dx,a,g,p1,n,e,m,z,t,D,R,rfl,hp,hW,hG,gt,wo,h1,pt,k⟩:=h;obtain ⟨C,cx,d0,fs,hC,ha,wf,hD⟩:=id hW;have n23:=gt.le;have rl:=pt.len;refine ⟨_,(af (aV (iL rfl T.qN T.qC (mM T) (hr.mono (by decide)) T.qE (paF (pv 0) (paF (ay T.iZ (n6 T) (hr.mono (by decide)) rfl (paF (aE K rfl (pv 1) rfl) (paF (pv 2) aa))) (paF (aE K rfl (pv 1) rfl) (paF (bu rfl lG (aT K rfl (pv 2)) (fun _ _ _ _=>⟨(ar (i:=0) lG.nd rfl (K6 rfl)),aX,(dJ (pv 1) (dC T) (cc T) (hr.mono (by decide)) T.cG (paF (pv 0) aa))⟩)) aa))))))),?_⟩
 walk_at "rn";refine dI T hC ha wf ?_;walk_at "rn";refine ⟨g,p1,n,e,t,R,rfl,hG,gt,h1,pt,fun g' H1 fg s1 hg1=>?_⟩;walk_at "rn";refine cN T hC (s1 _ _ ha) wf ?_;walk_at "rn";have h11:=s1 _ _ h1;refine nG (f6 D R) (fun σ'=>∃ y,σ'=[y,some (.ref a)]) (SqL.of h11) (by unfold f6 aA;rw [KY,KY]) (by unfold f6;rw [KY];omega) ⟨_,rfl⟩ ?_ ?_
 ·rintro i o r σ' H2 R' R0 ho hr2 s2 ⟨y,rfl⟩ hR';unfold aA at ho;unfold f6 at hr2;rw [K4] at ho hr2;cases hb:R[i]? with
  | none=>rw [hb] at ho;cases ho
  | some b =>
   rw [hb] at ho hr2;cases ho;cases hr2;obtain ⟨r0,hr0,hm0,hd0⟩:=wo.get (pt.lt b (K1 hb));dsimp only at hR';rw [hd0] at hR';have s12:=s1.trans s2;walk_at "4";refine ⟨C,a,cx,fs,hC,rfl,s12 _ _ ha,wf.moves,?_⟩;walk_at "rn";refine ⟨a,g,b,m,z,D,r0,rfl,hW.mono s12,hr0,fun pm H3 fpm s3 r3=>?_⟩;exact hR' _ _ _ ⟨_,rfl⟩ s3 fpm r3
 ·intro d H2 fd s2 hD2;have s12:=s1.trans s2;have wp:=wo.part pt;obtain ⟨r0,hr0,hm0,_⟩:=wp.get (L3.mpr pt.ne);walk_at "rn";refine ⟨p,T.cU,dx,d,.ref g',(m:Int),[],_,_,rfl,wZ T,s12 _ _ hp,.inl rfl,hD2,hr0,fun H3 fs3 h3 wf3 k3=>?_⟩;rw [wp.row r0 hm0] at wf3;walk_at "rn";refine k g' d H3 fs3 (hg1.mono fun b o y=>?_) h3 wf3 (hD2.but (s12 _ _ hp) k3) fun b o hb hne=>k3 b o (s12 _ _ hb) hne;have hb:H b=none:=by
   unfold since at y;cases z:H b with
   | none=>rfl
   | some v=>rw [z] at y;cases y
  rw [fL hb] at y ⊢;exact k3 b o (s2 _ _ y) fun z=>by rw [z,hp] at hb;cases hb
inductive t9 (W:Addr->Prop) (vs:List V) (H:Hp) (Q:VK) (E:XK):Prop
 | mk (p a g:Addr) (n m z:Nat) (r:List (Nat×Nat)) (D:List (List (Nat×Nat))) (_:vs=[.ref p,.ref a]) (_:bL H p r) (_:eG W H a g m z D) (_:WOk n m z D) (_:(∀ x∈r,x.2<n)) (_:r.length * z<=1000) (_:∀ d H',H d=none->ai H H'->bL H' d (cE D z r)->Q (.ref d) H')
def ux (T:Txt K mg):aJ P w K mg base CX0 2 T.gj.f T.gj.fd ["moves","way"] (t9 (bt T)):=by
 exists T.gj.ok fD
 ·obtain ⟨p,a,g,n,m,z,r,D,rfl,_⟩:=h;rfl
 obtain ⟨p,a,g,n,m,z,r,D,rfl,hp,hW,wo,lt,hz,q⟩:=h;obtain ⟨C,cx,d0,fs,hC,ha,wf,_⟩:=id hW;refine ⟨_,(ae (aq (i:=2) fD.nd rfl (K6 rfl) (bP aa))
   (ae (ba Ld rfl (aT K rfl (pv 0)) (dR rfl (bc (ar (i:=3) fD.nd rfl (K6 rfl)) (bc (ar (i:=4) fD.nd rfl (K6 rfl)) de))) (af (aV (bZ K rfl Lk PySem.F.slot_list_extend PySem.F.type_list_extend DW (pv 2) (paF (ay T.kL (wg T) (hr.mono (by decide)) rfl (paF (dJ (pv 1) (dC T) (cc T) (hr.mono (by decide)) T.cG (paF (pv 4) aa)) (paF (ak bg (pv 3) (aE K rfl (pv 1) rfl)) aa))) aa)))))
   (af (aK (pv 2))))),?_⟩
 walk_at "2";refine ⟨small (by show 0<=1000;decide),fun pf hpf=>?_⟩
 have s0:=aw hpf (.lst []);have f0:bL (upd H pf (.lst [])) pf []:=⟨[],au,rfl,fun i q x z=>by simp at z⟩
 generalize upd H pf (.lst [])=H0 at s0 f0;walk_at "rn";refine o6 (H₀:=H) hp (fun i σ' H'=>ai H H'/\bL H' pf (cE D z (r.take i))/\∃ x3 x4:Option V,σ'=[some (.ref p),some (.ref a),some (.ref pf),x3,x4]) ⟨s0,f0,_,_,rfl⟩ (fun i σ' H' z=>z.1) ?_ ?_
 ·rintro i x σ' H1 hx ⟨s1,f1,x3,x4,rfl⟩;have il:=(K0.mp hx).1;obtain ⟨r0,hr0,hm0,e0⟩:=wo.get (lt x (K1 hx));have l0:=wo.row r0 hm0;have cl:(cE D z (r.take i)).length+z<=1000:=by
   rw [nV fun y hy=>?_,Lh,Ou (by omega)]
   ·have:(i+1) * z<=r.length * z:=NN _ il;rw [MU] at this;omega
   ·obtain ⟨r',_,hm',e'⟩:=wo.get (lt y (Oj hy));rw [e'];exact wo.row r' hm'
  obtain ⟨qs,g1,g2,g3⟩:=id f1;walk_at "rn";refine ⟨.inl ⟨rfl,_,SqL.of g1⟩,?_⟩;walk_at "4";refine ⟨C,a,cx,fs,hC,rfl,s1 _ _ ha,wf.moves,?_⟩;walk_at "rn";refine ⟨a,g,x.2,m,z,D,r0,rfl,hW.mono s1,hr0,fun pm H2 fpm s2 row1=>?_⟩;have s12:=s1.trans s2;walk_at "rn";refine dg T hC (s12 _ _ ha) wf ?_;have zb:=wo.z1;walk_at "rn";refine ⟨pm,x.1 * z,r0,rfl,row1,by omega,fun pb H3 fpb s3 row2=>?_⟩
  obtain ⟨ps,k1,k2,k3⟩:=id row2;rw [KY] at k2;have s23:=s2.trans s3;have g1':=s23 _ _ g1;walk_at "rn";refine ⟨pf,pb,_,_,rfl,rfl,g1',k1,L4 (show (qs.map V.ref).length+(ps.map V.ref).length<=1000 by rw [KY,KY];omega) (by rw [L5];decide),?_⟩
  refine ⟨eU hpf (s1.trans s23),?_,_,_,rfl⟩;rw [Be hx,e0];refine ⟨qs++ps,by rw [au,LR],by rw [Lg,Lg,KY,g2,k2],fun j q' y hj hy=>?_⟩
  have key:H3 q'=some (.tup [.int (y.1:Int),.int (y.2:Int)]):=by
   rcases LD j qs.length with zz|zz
   ·rw [Lq zz] at hj;rw [Lq (by omega)] at hy
    exact s23 _ _ (g3 j q' y hj hy)
   ·rw [Lr zz] at hj;rw [Lr (by omega),<- g2] at hy
    exact k3 _ q' y hj hy
  rw [av (fun e=>by rw [e,g1'] at key;cases key)]
  exact key
 ·rintro σ' H1 ⟨s1,f1,x3,x4,rfl⟩;rw [Mn] at f1;walk_at "rn";exact q pf H1 hpf s1 f1
def qI {n e i:Nat} {t:List (List Nat)} {R:List Nat} (gt:GT n t e) (pt:IsPart n t R) (hi:i<n):∀ x∈(aS n t e R).map (fun c=>(hm n t e R (tb t i c),R.idxOf (ov n t e R (tb t i c)))),x.2<R.length:=fun x hx=>by
 obtain ⟨c,hc,rfl⟩:=Lc.mp hx;obtain ⟨_,_,_,_,h⟩:=kD gt pt (gt.lt i c hi (bE hc));exact LH h
def n9 {n e i z:Nat} {t:List (List Nat)} {R:List Nat} {D:List (List (Nat×Nat))} (hi:i<n):(fN n t e R D z)[i]?=some (cE D z ((aS n t e R).map fun c=>(hm n t e R (tb t i c),R.idxOf (ov n t e R (tb t i c))))):=by
 unfold fN eY;rw [K4,K4,LK hi];rfl
def BH {n e i m z:Nat} {t:List (List Nat)} {R:List Nat} {D:List (List (Nat×Nat))} (gt:GT n t e) (pt:IsPart n t R) (wo:WOk R.length m z D) (hi:i<n):(cE D z ((aS n t e R).map fun c=>(hm n t e R (tb t i c),R.idxOf (ov n t e R (tb t i c))))).length=(aS n t e R).length * z:=by
 rw [nV fun x hx=>?_,KY];obtain ⟨r,_,h2,h3⟩:=wo.get (qI gt pt hi x hx);rw [h3];exact wo.row r h2
structure Rai (W:Addr->Prop) (CG:Addr) (H:Hp) (g p1 a g':Addr) (n e m z l:Nat) (t:List (List Nat)) (R:List Nat) (D:List (List (Nat×Nat))):Prop where
 gp:bb CG H g n t e
 gt:GT n t e
 h1:H p1=some (.lst (aA R))
 pt:IsPart n t R
 wa:eG W H a g' m z D
 gp':bb CG H g' R.length (cV t R) (R.idxOf e)
 wo:WOk R.length m z D
 hl:bU (cA n t e) l
 ml:m % l=0
def Rai.mono {W:Addr->Prop} {CG:Addr} {H H':Hp} {g p1 a g':Addr} {n e m z l:Nat} {t:List (List Nat)} {R:List Nat} {D:List (List (Nat×Nat))} (s:ai H H') (h:Rai W CG H g p1 a g' n e m z l t R D):Rai W CG H' g p1 a g' n e m z l t R D:=⟨h.gp.mono s,h.gt,s _ _ h.h1,h.pt,h.wa.mono s,h.gp'.mono s,h.wo,h.hl,h.ml⟩
inductive wy (W:Addr->Prop) (C CG:Addr) (vs:List V) (H:Hp) (Q:VK) (E:XK):Prop
 | mk (p dx g p1 a g':Addr) (n e m z l:Nat) (t:List (List Nat)) (R:List Nat) (D:List (List (Nat×Nat))) (_:vs=[.ref p,.ref g,.ref p1,.ref a]) (_:H p=some (.ins C dx [])) (_:Rai W CG H g p1 a g' n e m z l t R D) (_:(aS n t e R).length * z<=60) (_:∀ d H' fs,H' p=some (.ins C dx fs)->WF fs (.ref g) m ((aS n t e R).length * z:Nat) (.ref d)->c8 H' d (fN n t e R D z)->(∀ a o,H a=some o->a≠p->H' a=some o)->Q .non H')
def El (T:Txt K mg):aJ P w K mg base CX0 7 T.lP T.lV ["self","group","part","way"] (wy (bt T) T.cC T.aL):=by
 exists T.AG.ok eL
 ·obtain ⟨p,dx,g,p1,a,g',n,e,m,z,l,t,R,D,rfl,_⟩:=h;rfl
 obtain ⟨p,dx,g,p1,a,g',n,e,m,z,l,t,R,D,rfl,hp,ra,h60,k⟩:=h;obtain ⟨C,cx,d0,fs,hC,ha,wf,_⟩:=id ra.wa;obtain ⟨gx',gr',gb',hg',aR',aB'⟩:=bb.get (K:=K) ra.gp';obtain ⟨gx,gr,gb,hg,aR,aB⟩:=bb.get (K:=K) ra.gp;have gt:=ra.gt;have pt:=ra.pt;have wo:=ra.wo;have n1:=gt.pos;have n23:=gt.le;have rl:=pt.len;have r1:0<R.length:=L3.mpr pt.ne;have zb:=wo.z1;refine ⟨_,(ae (a8 (aD (mT K rfl (List Nat) hr.units) (aE K rfl (aE K rfl (pv 3) rfl) rfl) (aE K rfl (ay T.iZ (n6 T) (hr.mono (by decide)) rfl (paF (pv 1) (paF (pv 2) aa))) rfl) (aG _)) (af cg) aQ)
   (ae (aq (i:=4) eL.nd rfl (K6 rfl) (ay T.fP (kg T) (hr.mono (by decide)) rfl (paF (pv 1) (paF (aE K rfl (pv 3) rfl) aa))))
   (ae (aV (ay T.bM (ie T) (hr.mono (by decide)) rfl (paF (ak bg (ak bH (aE K rfl (pv 1) rfl) (aI (aN K rfl) rfl T.bA Lo (paF (pv 2) aa))) (aE K rfl (pv 3) rfl)) aa)))
   (ae (bV (i:=5) rfl eL.nd rfl (K6 rfl) lQ (aT K rfl (ay T.fR (ox T) (hr.mono (by decide)) rfl (paF (pv 1) (paF (pv 2) aa)))) (fun _ _ _ _=>⟨(ar (i:=0) lQ.nd rfl (K6 rfl)),aX,(ay T.gj (ux T) (hr.mono (by decide)) rfl (paF (pv 0) (paF (pv 1) aa)))⟩) rfl)
   (af (aV (iL rfl T.qN T.qC (mM T) (hr.mono (by decide)) T.qE (paF (pv 0) (paF (pv 1) (paF (pv 4) (paF (pv 5) aa))))))))))),?_⟩
 walk_at "1";refine dI T hC ha wf ?_;walk_at "rn";refine bG T hg' ?_;walk_at "rn";refine ⟨g,p1,n,e,t,R,rfl,ra.gp,gt,ra.h1,pt,fun g2 H1 fg s1 hg1=>?_⟩;obtain ⟨gx2,gr2,gb2,hg2,aR2,aB2⟩:=bb.get (K:=K) (hg1.mono kY);walk_at "rn";refine bG T hg2 ?_;walk_at "rn";refine t6 (Rep.mono s1 aR') aR2 ?_;walk_at "6";refine cN T hC (s1 _ _ ha) wf ?_;walk_at "rn";refine ⟨g,.int (m:Int),n,e,m,t,rfl,ra.gp.mono s1,gt,.inr ⟨rfl,wo.m1,wo.m60,fun k hk=>by rw [hk.uni ra.hl];exact ra.ml⟩,fun H2 s2=>?_⟩
 have s12:=s1.trans s2;walk_at "rn";refine bN T (s12 _ _ hg) ?_;walk_at "rn";refine b8 (bS (s12 _ _ ra.h1)) ?_;refine kP r1 (by omega) ?_
 rw [nN gt pt];walk_at "rn";refine dg T hC (s12 _ _ ha) wf ?_;walk_at "rn";refine ⟨_,rfl,h60,?_⟩;walk_at "rn";refine ⟨g,_,n,e,t,R,rfl,ra.gp.mono s12,gt,bS (s12 _ _ ra.h1),pt,fun d6 H6 fd6 s6 hD6=>?_⟩;have s16:=s12.trans s6;obtain ⟨ps6,h61,h62,h63⟩:=id hD6;have ln6:ps6.length=n:=by rw [h62];unfold eY;rw [KY,Ln]
 have rn:(fN n t e R D z).length=n:=by unfold fN eY;rw [KY,KY,Ln]
 walk_at "rn";refine nG (fN n t e R D z) (fun σ'=>∃ y,σ'=[y,some (.ref a)]) (SqL.of h61) (by rw [KY,rn];exact ln6) (by omega) ⟨_,rfl⟩ ?_ ?_
 ·rintro i o r σ' H7 R' R0 ho hr7 s7 ⟨y,rfl⟩ hR';have hin:i<n:=by
   have:=(K0.mp ho).1;rw [KY] at this;omega
  rw [n9 hin] at hr7;cases hr7;rw [K4] at ho;cases hq:ps6[i]? with
  | none=>rw [hq] at ho;cases ho
  | some pq =>
   rw [hq] at ho;cases ho;have row:=(h63 i pq _ hq (wJ hin)).mono s7;walk_at "rn";refine ⟨pq,a,g',R.length,m,z,_,D,rfl,row,ra.wa.mono (s16.trans s7),wo,qI gt pt hin,by rw [KY];omega,fun d H8 fd s8 row8=>?_⟩
   exact hR' _ _ _ ⟨_,rfl⟩ s8 fd row8
 ·intro d7 H7 fd7 s7 hD7;have s17:=s16.trans s7;walk_at "rn";refine ⟨p,T.cC,dx,d7,.ref g,(m:Int),[],_,_,rfl,wR T,s17 _ _ hp,.inl rfl,hD7,n9 n1,fun H9 fs9 h9 wf9 k9=>?_⟩;rw [BH gt pt wo n1] at wf9;walk_at "rn";exact k d7 H9 fs9 h9 wf9 (hD7.but (s17 _ _ hp) k9) fun b o hb hne=>k9 b o (s17 _ _ hb) hne
def tT (W:Addr->Prop) (CE CG:Addr):Sp:=fun vs H _ Ex=>∃ (x:V) (g p1 a g':Addr) (n e m z l:Nat) (t:List (List Nat)) (R:List Nat) (D:List (List (Nat×Nat))),vs=[x,.ref g,.ref p1,.ref a]/\Rai W CG H g p1 a g' n e m z l t R D/\60<(aS n t e R).length * z/\∀ H',ai H H'->Ex (.ref CE) none H'
def Cz (T:Txt K mg):aJ P w K mg base (CXR P w) 7 T.lP T.lV ["self","group","part","way"] (tT (bt T) T.b5 T.aL):=by
 exists T.AG.okR eL
 ·obtain ⟨x,g,p1,a,g',n,e,m,z,l,t,R,D,rfl,_⟩:=h;rfl
 obtain ⟨x,g,p1,a,g',n,e,m,z,l,t,R,D,rfl,ra,h60,q⟩:=h;obtain ⟨C,cx,d0,fs,hC,ha,wf,_⟩:=id ra.wa;obtain ⟨gx',gr',gb',hg',aR',aB'⟩:=bb.get (K:=K) ra.gp';obtain ⟨gx,gr,gb,hg,aR,aB⟩:=bb.get (K:=K) ra.gp;have gt:=ra.gt;have pt:=ra.pt;have wo:=ra.wo;have n23:=gt.le;have rl:=pt.len;have r1:0<R.length:=L3.mpr pt.ne;have zb:=wo.z1;refine ⟨_,(ae (a8 (aD (mT K rfl (List Nat) hr.units) (aE K rfl (aE K rfl (pv 3) rfl) rfl) (aE K rfl (ay T.iZ (n6 T) (hr.mono (by decide)) rfl (paF (pv 1) (paF (pv 2) aa))) rfl) (aG _)) (af cg) aQ)
   (ae (aq (i:=4) eL.nd rfl (K6 rfl) (ay T.fP (kg T) (hr.mono (by decide)) rfl (paF (pv 1) (paF (aE K rfl (pv 3) rfl) aa))))
   (ae (aV (zF T.bM (gR T) (hr.mono (by decide)) rfl CB (paF (ak bg (ak bH (aE K rfl (pv 1) rfl) (aI (aN K rfl) rfl T.bA Lo (paF (pv 2) aa))) (aE K rfl (pv 3) rfl)) aa))) p7))),?_⟩
 walk_at "1";refine dI T hC ha wf ?_;walk_at "rn";refine bG T hg' ?_;walk_at "rn";refine ⟨g,p1,n,e,t,R,rfl,ra.gp,gt,ra.h1,pt,fun g2 H1 fg s1 hg1=>?_⟩;obtain ⟨gx2,gr2,gb2,hg2,aR2,aB2⟩:=bb.get (K:=K) (hg1.mono kY);walk_at "rn";refine bG T hg2 ?_;walk_at "rn";refine t6 (Rep.mono s1 aR') aR2 ?_;walk_at "6";refine cN T hC (s1 _ _ ha) wf ?_;walk_at "rn";refine ⟨g,.int (m:Int),n,e,m,t,rfl,ra.gp.mono s1,gt,.inr ⟨rfl,wo.m1,wo.m60,fun k hk=>by rw [hk.uni ra.hl];exact ra.ml⟩,fun H2 s2=>?_⟩
 have s12:=s1.trans s2;walk_at "rn";refine bN T (s12 _ _ hg) ?_;walk_at "rn";refine b8 (bS (s12 _ _ ra.h1)) ?_;refine kP r1 (by omega) ?_
 rw [nN gt pt];walk_at "rn";refine dg T hC (s12 _ _ ha) wf ?_;walk_at "rn";exact ⟨_,rfl,h60,q _ s12⟩
def Cq (T:Txt K mg):aJ P w K mg base (CXR P w) 7 T.lP T.lV ["self","group","part","way"] (fun vs H Q E=>wy (bt T) T.cC T.aL vs H Q E\/tT (bt T) T.b5 T.aL vs H Q E):=aJ.both (El T) (Cz T)
def WOk.rai {n e m z:Nat} {t:List (List Nat)} {R:List Nat} {D:List (List (Nat×Nat))} (gt:GT n t e) (pt:IsPart n t R) (wo:WOk R.length m z D) (hz:(aS n t e R).length * z<=1000):WOk n m ((aS n t e R).length * z) (fN n t e R D z):=by
 have rn:(fN n t e R D z).length=n:=by unfold fN eY;rw [KY,KY,Ln]
 have get:∀ r∈fN n t e R D z,∃ i,i<n/\r=cE D z ((aS n t e R).map fun c=>(hm n t e R (tb t i c),R.idxOf (ov n t e R (tb t i c)))):=fun r hr=>by
  obtain ⟨i,hi⟩:=LS hr;have hin:i<n:=by rw [<- rn];exact (K0.mp hi).1
  rw [n9 hin] at hi;exact ⟨i,hin,(LG hi).symm⟩
 refine ⟨rn,fun r hr=>?_,fun r hr y hy=>?_,wo.m1,wo.m60,hz,Ms (let ⟨c,hc,_⟩:=qk gt pt 0 gt.pos;N3 hc) wo.z0⟩
 ·obtain ⟨i,hi,rfl⟩:=get r hr;exact BH gt pt wo hi
 ·obtain ⟨i,hi,rfl⟩:=get r hr;unfold cE at hy;obtain ⟨x,hx,hx'⟩:=M4.mp hy;obtain ⟨y0,hy0,rfl⟩:=Lc.mp hx';obtain ⟨r0,_,h2,h3⟩:=wo.get (qI gt pt hi x hx);rw [h3] at hy0;exact wo.lt r0 h2 y0 hy0
def AJ {n e k:Nat} {t:List (List Nat)} (gt:GT n t e) (h1:1<=k) (hk:∀ a,a<n->bp t e a k=e) (hj:∀ j,1<=j->j<k->∃ a,a<n/\bp t e a j≠e):bU (cA n t e) k:=by
 refine ⟨h1,fun s hs=>?_,fun j j1 j2=>?_⟩
 ·obtain ⟨a,ha,rfl⟩:=Lc.mp hs;exact Nu (Bi gt (K7.mp ha) (hk a (K7.mp ha)))
 ·obtain ⟨a,ha,q⟩:=hj j j1 j2;refine ⟨a7 n t e a,Lc.mpr ⟨a,K7.mpr ha,rfl⟩,fun z=>q ?_⟩;obtain ⟨c,rfl⟩:=Mi z;exact lJ gt ha (dW gt ha).2.1 c
inductive za (K:KW) (vs:List V) (H:Hp) (Q:VK) (E:XK):Prop
 | mk (v:V) (n e:Nat) (t:List (List Nat)) (_:vs=[v]) (_:At K H v t) (_:GT n t e) (_:∀ k H',ai H H'->bU (cA n t e) k->k<=n->Q (.int (k:Int)) H')
def Aq (T:Txt K mg):aJ P w K mg base CX0 2 T.jo.f T.jo.fd ["_law_table"] (za K):=by
 exists T.jo.ok eN
 ·obtain ⟨v,n,e,t,rfl,_⟩:=h;rfl
 obtain ⟨v,n,e,t,rfl,hT,gt,q⟩:=h;refine ⟨_,(ae (aq (i:=1) eN.nd rfl (Ni rfl) (ay T.ei (f9 T) (hr.mono (by decide)) rfl (paF (pv 0) aa)))
   (ae (aq (i:=2) eN.nd rfl (Ni rfl) (cJ (mW rfl) rfl T.iG L8 (paF (cJ qY rfl T.aZ Pg (paF (aI (aN K rfl) rfl T.bA Lo (paF (pv 0) aa)) aa)) aa)))
   (ae (aq (i:=3) eN.nd rfl (K6 rfl) ag)
   (ae (l5 Ld (pV (jG (aI (pR K rfl rfl) rfl T.B9 Oe (paF (bu rfl mV (aT K rfl (pv 2)) (fun _ _ _ _=>⟨(ar (i:=0) mV.nd rfl (K6 rfl)),aX,(d9 cb (pv 0) (pv 1) (aG _))⟩)) aa)))) (ae (aq (i:=2) eN.nd rfl (Ni rfl) (bu rfl mY (aM rfl T.aZ (paF (aI (aN K rfl) rfl T.bA Lo (paF (pv 0) aa)) aa)) (fun _ _ _ _=>⟨(ar (i:=0) mY.nd rfl (K6 rfl)),aX,(ao (aj K rfl) (ao (aj K rfl) (pv 2) (ao (aj K rfl) (pv 1) (pv 0) (fun _ _=>rfl)) (fun _ _=>rfl)) (pv 0) (fun _ _=>rfl))⟩)))
   (af (aq (i:=3) eN.nd rfl (K6 rfl) (ak aW (pv 3) ag)))))
   (af (aK (pv 3))))))),?_⟩
 have n1:=gt.pos;have n23:=gt.le;walk_at "rn";refine ⟨v,n,e,t,rfl,hT,gt,fun H1 s1=>?_⟩;have hT1:=Rep.mono s1 hT;left;rw [gt.len];refine BO fun pr hpr=>?_;left;refine rB (K:=K) au (by omega) fun dl H2 _ s2 gl=>?_
 have s12:ai H1 H2:=(aw hpr _).trans s2;have e1:K3 n=(K3 n).map fun a=>bp t e a 1:=by
  refine Mo (by simp) fun i h1 h2=>?_
  simp at h1
  simpa using (kQ gt h1).symm
 have a1:=gl.at;rw [e1] at a1;left;refine lX (fun m σ' H'=>ai H1 H'/\∃ (k:Nat) (p:Addr),m=n - k/\1<=k/\k<=n/\(∀ j,1<=j->j<k->∃ a,a<n/\bp t e a j≠e)/\At K H' (.ref p) ((K3 n).map fun a=>bp t e a k)/\σ'=[some v,some (.int (e:Int)),some (.ref p),some (.int (k:Int))]) (n - 1)
  ⟨s12,1,dl,rfl,Lj _,n1,fun j j1 j2=>absurd j2 (by omega),a1,rfl⟩ ?_
 rintro m σ' H3 ⟨s3,k,p,rfl,k1,kn,hj,aP,rfl⟩;left;refine lB (β:=Bool) aP (by simp;omega) (fun i=>(((K3 n).map fun a=>bp t e a k).map fun x=>decide (x=e)).take i) (fun σ'=>∃ y,σ'=[y,some (.int (e:Int))]) rfl (fun i _=>by rw [Lh];omega) ⟨_,rfl⟩ ?_ ?_
 ·rintro i c w' σ' H4 d' R R0 hc hs hw ⟨y,rfl⟩ hR hR0 hd';cases (show w'=V.int (c:Int) from hw);left;refine hR _ _ (decide (c=e)) _ ⟨_,rfl⟩ (ai.refl _) rfl ?_;rw [Lv,K4,hc];rfl
 intro db H4 s4 hB;left;refine zJ hB ?_;have s34:=s3.trans s4;have hT4:=Rep.mono s34 hT1;have aP4:=Rep.mono s4 aP;rw [Lf (by simp)]
 left;cases hall:((((K3 n).map fun a=>bp t e a k).map fun x=>decide (x=e)).all id) with
 | false =>
  have zz:∃ a,a<n/\bp t e a k≠e:=by
   refine ML fun no=>?_;rw [Bool.eq_false_iff] at hall;refine hall ?_;rw [LC];intro x hx;simp only [Lc,K7] at hx;obtain ⟨_,⟨a,ha,rfl⟩,rfl⟩:=hx;exact decide_eq_true (ML fun q=>no ⟨a,ha,q⟩)
  have kl:k<n:=by
   rcases LD k n with y|y
   ·exact y
   ·obtain ⟨a,ha,q⟩:=zz;have:k=n:=by omega
    rw [this] at q;exact absurd (JX gt ha) q
  refine pB ?_;refine ⟨fun σ4 H4=>ai H1 H4/\∃ (p:Addr),At K H4 (.ref p) ((K3 n).map fun a=>bp t e a (k+1))/\σ4=[some v,some (.int (e:Int)),some (.ref p),some (.int ((k+1:Nat):Int))],fun σ4 H4 y=>?_,?_⟩
  ·obtain ⟨y1,p',y2,y3⟩:=y;refine ⟨n - (k+1),by omega,y1,k+1,p',rfl,by omega,by omega,fun j j1 j2=>?_,y2,y3⟩
   rcases LD j k with u|u
   ·exact hj j j1 u
   ·have:j=k:=by omega
    rw [this];exact zz
  left;rw [gt.len];refine jy K (n:=n) (β:=Nat) rfl (by omega) (fun i=>((K3 n).map fun a=>bp t e a (k+1)).take i) (fun σ'=>∃ y,σ'=[y,some (.ref p),some v]) rfl (fun i _=>by rw [Lh];omega) ⟨_,rfl⟩ ?_ ?_
  ·rintro i σ' H5 d' R R0 hi hs ⟨y,rfl⟩ hR hR0 hd';have aP5:=Rep.mono hs aP4;have hT5:=Rep.mono hs hT4;have hpl:=b7 gt hi k;walk_at "rn";refine bh aP5 (c:=bp t e i k) (by simp [hi]) ?_
   refine cI hT5 rfl (gt.get hpl) fun w1 hw1=>?_;walk_at "rn";refine bh hw1 (gt.cZ hpl hi) ?_;exact hR _ _ _ _ ⟨_,rfl⟩ (ai.refl _) rfl (bR _ n i hi)
  intro dn H5 s5 h5;have h5':At K H5 (.ref dn) (((K3 n).map fun a=>bp t e a (k+1)).take n):=h5;rw [Lf (by simp)] at h5'
  left;exact ⟨s34.trans s5,dn,h5',rfl⟩
 | true =>
  refine fJ ?_;have z:∀ a,a<n->bp t e a k=e:=fun a ha=>by
   rw [LC] at hall;have:=hall (decide (bp t e a k=e)) (Lc.mpr ⟨_,Lc.mpr ⟨a,K7.mpr ha,rfl⟩,rfl⟩);exact of_decide_eq_true this
  left;exact q k H4 (s1.trans s34) (AJ gt k1 z hj) kn
inductive zM (K:KW) (vs:List V) (H:Hp) (Q:VK) (E:XK):Prop
 | mk (v:V) (n e a:Nat) (t:List (List Nat)) (_:vs=[v,.int (a:Int)]) (_:At K H v t) (_:GT n t e) (_:a<n) (_:∀ H',ai H H'->Q (.int (a7 n t e a:Int)) H')
def zW (T:Txt K mg):aJ P w K mg base CX0 2 T.jn.f T.jn.fd ["_law_table","_law_thing_here"] (zM K):=by
 exists T.jn.ok eJ
 ·obtain ⟨v,n,e,a,t,rfl,_⟩:=h;rfl
 obtain ⟨v,n,e,a,t,rfl,hT,gt,ha,q⟩:=h;have os:=dW gt ha;have op:=fv (n:=n) (t:=t) (e:=e) (a:=a);refine ⟨_,(ae (aq (i:=2) eJ.nd rfl (K6 rfl) (ay T.ei (f9 T) (hr.mono (by decide)) rfl (paF (pv 0) aa)))
   (ae (aq (i:=3) eJ.nd rfl (K6 rfl) (pv 1))
   (ae (aq (i:=4) eJ.nd rfl (K6 rfl) ag)
   (ae (l5 Ld (aD eI (pv 3) (pv 2) (aG _)) (ae (aq (i:=3) eJ.nd rfl (K6 rfl) (ao (aj K rfl) (ao (aj K rfl) (pv 0) (pv 3) (fun _ _=>rfl)) (pv 1) (fun _ _=>rfl)))
   (af (aq (i:=4) eJ.nd rfl (K6 rfl) (ak aW (pv 4) ag)))))
   (af (aK (pv 4))))))),?_⟩
 walk_at "rn";refine ⟨v,n,e,t,rfl,hT,gt,fun H1 s1=>?_⟩;have hT1:=Rep.mono s1 hT;walk_at "rn";refine lX (fun b σ' H'=>H'=H1/\∃ k,1<=k/\k<=a7 n t e a/\b=a7 n t e a - k/\σ'=[some v,some (.int (a:Int)),some (.int (e:Int)),some (.int ((bp t e a k:Nat):Int)),some (.int (k:Int))]) (a7 n t e a - 1) ⟨rfl,1,Lj _,op,rfl,by rw [kQ gt ha];rfl⟩ ?_
 rintro b σ' H2 ⟨rfl,k,k1,k2,rfl,rfl⟩;walk_at "rn";refine bT (fun z=>?_) (fun z=>?_)
 ·have k3:k<a7 n t e a:=by
   rcases LD k (a7 n t e a) with y|y
   ·exact y
   ·have:k=a7 n t e a:=by omega
    rw [this] at z;exact absurd os.2.1 z
  have kl:=b7 gt ha k;refine ⟨fun σ2 H4=>H4=H2/\σ2=[some v,some (.int (a:Int)),some (.int (e:Int)),some (.int ((bp t e a (k+1):Nat):Int)),some (.int ((k+1:Nat):Int))],fun σ2 H4 y=>⟨_,by omega,y.1,k+1,by omega,k3,rfl,y.2⟩,?_⟩
  walk_at "rn";refine cI hT1 rfl (gt.get kl) fun w1 hw1=>?_;walk_at "rn";refine bh hw1 (gt.cZ kl ha) ?_;walk_at "rn";exact ⟨rfl,rfl⟩
 ·have ke:k=a7 n t e a:=by
   rcases LD k (a7 n t e a) with y|y
   ·exact absurd z (os.2.2 k k1 y)
   ·omega
  subst ke;walk_at "rn";exact q _ s1
inductive A8 (K:KW) (vs:List V) (H:Hp) (Q:VK) (E:XK):Prop
 | mk (v:V) (n e:Nat) (c:Int) (t:List (List Nat)) (_:vs=[v,.int c]) (_:At K H v t) (_:GT n t e) (_:∀ d H' S,H d=none->ai H H'->Gr K H' d S->S.length<=2->(∀ x∈S,x<n)->Q (.ref d) H')
def rA (T:Txt K mg):aJ P w K mg base CX0 2 T.hV.f T.hV.fd ["_law_table","_law_cell_here"] (A8 K):=by
 exists T.hV.ok qV
 ·obtain ⟨v,n,e,c,t,rfl,_⟩:=h;rfl
 obtain ⟨v,n,e,c,t,rfl,hT,gt,q⟩:=h;have n1:=gt.pos;have n23:=gt.le;refine ⟨_,(ae (aq (i:=2) qV.nd rfl (K6 rfl) (ak aO (pv 1) ag))
   (af (aK (bu rfl oG (aM rfl T.aZ (paF (ak aO (pv 2) ag) aa)) (fun _ _ _ _=>⟨(ar (i:=0) oG.nd rfl (K6 rfl)),aX,(ay T.fq (lh T) (hr.mono (by decide)) rfl (paF (pv 1) (paF (ak aW ag (pv 0)) (paF (aI (aN K rfl) rfl T.bA Lo (paF (pv 2) aa)) aa))))⟩))))),?_⟩
 left;refine vn (by decide) ?_
 have c1:=Oy c (show ((2147483647:Nat):Int)≠0 by decide)
 generalize hx:(c % ((2147483647:Nat):Int)).toNat=x;have ex:c % ((2147483647:Nat):Int)=(x:Int):=by omega
 rw [ex];left;refine eV K (n:=x % 3) (β:=Nat) rfl (by omega) (fun i=>((K3 (x % 3)).map fun k=>thg c (21+k) n).take i) (fun σ'=>∃ y,σ'=[y,some (.int c),some v]) rfl (fun i _=>by rw [Lh];omega) ⟨_,rfl⟩ ?_ ?_
 ·rintro i σ' H5 d' R' R0 hi hs ⟨y,rfl⟩ hR hR0 hd';have hT5:=Rep.mono hs hT;left;rw [gt.len];refine ⟨c,21+i,n,rfl,by omega,n1,fun _=>?_⟩
  exact hR _ _ _ _ ⟨_,rfl⟩ (ai.refl _) rfl (bR _ (x % 3) i hi)
 ·intro d H5 fd s5 h5;have g5:Gr K H5 d (((K3 (x % 3)).map fun k=>thg c (21+k) n).take (x % 3)):=h5;rw [Lf (by simp)] at g5
  refine q d H5 _ fd s5 g5 (by simp;omega) fun y hy=>?_
  obtain ⟨k,_,rfl⟩:=Lc.mp hy;exact DN _ _ n1
def fm (F W:List Nat) (y:Nat):Nat:=W.getD (F.idxOf y) 0
def sV {F W:List Nat} {y z c:Nat} (h:y∈F) (hl:W.length=F.length):fm (F++[z]) (W++[c]) y=fm F W y:=by
 have hi:=LH h;unfold fm;rw [List.idxOf_append,if_pos h,K2,K2,Lq (by omega)]
def Je {F W:List Nat} {z c:Nat} (h:z∉F) (hl:W.length=F.length):fm (F++[z]) (W++[c]) z=c:=by
 unfold fm;rw [List.idxOf_append,if_neg h,P8,K2,L7,<- hl,Lr (Lj _)];simp
def oS:∀ {F W:List Nat} {f:Nat},f∉F->cM (dH F W) (nk f)=none
 | [],_,_,_=>rfl
 | _ :: _,[],_,_=>rfl
 | a :: F,c :: W,f,h=>by
  have h1:¬ nk a=nk f:=fun z=>h (by rw [tp z];exact Le)
  show cM ((nk a,V.int (c:Int)) :: dH F W) (nk f)=none;rw [da h1];exact oS fun z=>h (K8 _ z)
def qA {F W:List Nat} {y:Nat} (nd:F.Nodup) (hl:W.length=F.length) (h:y∈F):cM (dH F W) (nk y)=some (.int ((fm F W y:Nat):Int)):=by
 have hi:=LH h;exact kR (j:=F.idxOf y) nd (by rw [KZ hi,MQ]) (getD_some 0 (by omega))
def Hy {F W:List Nat} {f:Nat} (nd:F.Nodup) (hl:W.length=F.length):(cM (dH F W) (nk f)).isSome=decide (f∈F):=by
 by_cases h:f∈F
 ·rw [qA nd hl h,decide_eq_true h];rfl
 ·rw [oS h,decide_eq_false h];rfl
def EF {F W:List Nat} {f c:Nat} (hl:W.length=F.length) (h:f∉F):putK (dH F W) (nk f) (.int (c:Int))=dH (F++[f]) (W++[c]):=by
 rw [FC _ (oS h)];unfold dH aA;rw [LR,LR,List.zip_append (by rw [KY,KY];exact hl.symm)]
 rfl
def Gg {F W:List Nat}:(dH F W).length<=F.length:=by
 unfold dH;rw [PR,KY];omega
def CM (t:List (List Nat)) (S G:List Nat) (m:Nat) (F W:List Nat) (x j:Nat):Prop:=∀ j' s μ,j' < j->S[j']?=some s->G[j']?=some μ->fm F W (tb t x s)=(fm F W x+μ) % m
def CM.grow {t:List (List Nat)} {S G F W:List Nat} {m x j z c:Nat} (h:CM t S G m F W x j) (hl:W.length=F.length) (hx:x∈F) (hj:∀ s∈S.take j,tb t x s∈F):CM t S G m (F++[z]) (W++[c]) x j:=fun j' s μ a b d=>by
 have hs:s∈S.take j:=by
  refine K1 (i:=j') ?_;rw [List.getElem?_take,if_pos a];exact b
 rw [sV (hj s hs) hl,sV hx hl];exact h j' s μ a b d
structure MS (n:Nat) (t:List (List Nat)) (e:Nat) (S G:List Nat) (m:Nat) (F W:List Nat) (k:Nat) (b:Bool):Prop where
 gr:lY n t e S F k
 len:W.length=F.length
 lt:∀ x∈W,x<m
 e0:fm F W e=0
 cm:b=true->∀ i x,i<k->F[i]?=some x->CM t S G m F W x S.length
def MS.grow {n e m k c s x:Nat} {t:List (List Nat)} {S G F W:List Nat} {b:Bool} (M:MS n t e S G m F W k b) (gt:GT n t e) (hx:x∈F) (hs:s∈S) (hn:s<n) (h:tb t x s∉F) (hc:c<m):MS n t e S G m (F++[tb t x s]) (W++[c]) k b:=by
 refine ⟨M.gr.put gt hx hs hn h,by rw [Lg,Lg,M.len];rfl,fun y hy=>?_,by rw [sV M.gr.un M.len];exact M.e0,fun hb i y hi hy=>?_⟩
 ·rcases LP.mp hy with z|z
  ·exact M.lt y z
  ·rw [Lb.mp z];exact hc
 ·rw [Lq (Lm hi M.gr.le)] at hy;exact (M.cm hb i y hi hy).grow M.len (K1 hy) fun s hs=>M.gr.cl i y hi hy s (Oj hs)
inductive xY (K:KW) (vs:List V) (H:Hp) (Q:VK) (E:XK):Prop
 | mk (v u:V) (n e m:Nat) (c:Int) (t:List (List Nat)) (S:List Nat) (_:vs=[v,u,.int (m:Int),.int c]) (_:At K H v t) (_:GT n t e) (_:At K H u S) (_:S.length<=2) (_:(∀ x∈S,x<n)) (_:0<m) (_:m<=60) (_:∀ p dp dm H' R M,H dp=none->H dm=none->dp≠dm->ai H H'->H' p=some (.tup [.ref dp,.ref dm])->H' dp=some (.lst (aA R))->H' dm=some (.lst (aA M))->IsPart n t R->M.length=R.length->(∀ x∈M,x<m)->(∀ j,j<R.length->∀ k,k<R.length->fV t R M m j k)->Q (.ref p) H')
def oz (T:Txt K mg):aJ P w K mg base CX0 3 T.fY.f T.fY.fd ["_law_table","_law_some_here","_law_spokes","_law_cell_here"] (xY K):=by
 exists T.fY.ok bz
 ·obtain ⟨v,u,n,e,m,c,t,S,rfl,_⟩:=h;rfl
 obtain ⟨v,u,n,e,m,c,t,S,rfl,hT,gt,hS,sl,hlt,m1,m60,q⟩:=h;have n1:=gt.pos;have n23:=gt.le;refine ⟨_,(ae (aq (i:=4) bz.nd rfl (K6 rfl) (bP aa))
   (ae (ba Ld rfl (aM rfl T.aZ (paF (aI (aN K rfl) rfl T.bA Lo (paF (pv 1) aa)) aa)) (ar (i:=5) bz.nd rfl (K6 rfl)) (ae (aq (i:=6) bz.nd rfl (K6 rfl) (ay T.jn (zW T) (hr.mono (by decide)) rfl (paF (pv 0) (paF (ao (aj K rfl) (pv 1) (pv 5) (fun _ _=>rfl)) aa))))
   (af (aV (bZ K rfl Lk Lw Lx bF (pv 4) (paF (ak bg (ak bH (pv 2) (pv 6)) (ay T.fq (lh T) (hr.mono (by decide)) rfl (paF (pv 3) (paF (ak aW ag (pv 5)) (paF (pv 6) aa))))) aa))))))
   (ae (aq (i:=7) bz.nd rfl (Ni rfl) (Hu (GA (ay T.ei (f9 T) (hr.mono (by decide)) rfl (paF (pv 0) aa)) ag II) rfl rfl (by simp) (by decide)))
   (ae (aq (i:=8) bz.nd rfl (K6 rfl) (bP (paF (ay T.ei (f9 T) (hr.mono (by decide)) rfl (paF (pv 0) aa)) aa)))
   (ae (aq (i:=9) bz.nd rfl (K6 rfl) ag)
   (ae (aq (i:=10) bz.nd rfl (Ni rfl) iE)
   (ae (l5 Ld (aD kc (pv 9) (aI (aN K rfl) rfl T.bA Lo (paF (pv 8) aa)) (aG _)) (ae (ba Ld rfl (kF K rfl rfl T.nC (paF (pv 1) (paF (pv 4) aa))) (dR rfl (bc (ar (i:=11) bz.nd rfl (K6 rfl)) (bc (ar (i:=12) bz.nd rfl (K6 rfl)) de))) (ae (aq (i:=13) bz.nd rfl (K6 rfl) (ao (aj K rfl) (ao (aj K rfl) (pv 0) (ao (aj K rfl) (pv 8) (pv 9) (fun _ _=>rfl)) (fun _ _=>rfl)) (pv 11) (fun _ _=>rfl)))
   (ae (aq (i:=14) bz.nd rfl (K6 rfl) (ak aO (ak aW (i3 (js hr) (pv 7) (ao (aj K rfl) (pv 8) (pv 9) (fun _ _=>rfl)) (fun _ _=>rfl)) (pv 12)) (pv 2)))
   (af (a8 (ud (Ed (js hr) (pv 13) (pv 7))) (ae (BC (js hr) (pv 7) (pv 13) (pv 14) rfl)
   (af (aV (bZ K rfl Lk Lw Lx bF (pv 8) (paF (pv 13) aa))))) (af (a8 (aD eI (i3 (js hr) (pv 7) (pv 13) (fun _ _=>rfl)) (pv 14) (aG _)) (af (aq (i:=10) bz.nd rfl (Ni rfl) iE)) aQ)))))))
   (af (aq (i:=9) bz.nd rfl (K6 rfl) (ak aW (pv 9) ag)))))
   (ae (aq (i:=15) bz.nd rfl (K6 rfl) (aI (oW K rfl) rfl T.zZ O4 (paF (pv 8) aa)))
   (af (aK (el (paF (pv 15) (paF (bu rfl mj (aT K rfl (pv 15)) (fun _ _ _ _=>⟨(ar (i:=0) mj.nd rfl (K6 rfl)),aX,(ak bg (i3 (js hr) (pv 2) (pv 0) (fun _ _=>rfl)) (cJ xb rfl T.Cj Od (paF (pv 1) aa)))⟩)) aa))))))))))))),?_⟩
 walk_at "2";refine ⟨small (by show 0<=1000;decide),fun pg hpg=>?_⟩
 have s0:=aw hpg (.lst []);have g0:Gr K (upd H pg (.lst [])) pg ([]:List Nat):=⟨_,au,.nil⟩;generalize upd H pg (.lst [])=H0 at s0 g0;walk_at "rn";refine b8 (Rep.mono s0 hS) ?_;refine bK (n:=S.length) rfl (by omega) (fun i σ' H'=>ai H H'/\∃ (G:List Nat) (x5 x6:Option V),Gr K H' pg G/\G.length=i/\σ'=[some v,some u,some (.int (m:Int)),some (.int c),some (.ref pg),x5,x6,none,none,none,none,none,none,none,none,none]) ⟨s0,[],_,_,g0,rfl,rfl⟩ ?_ ?_
 ·rintro i σ' H1 hi ⟨s1,G,x5,x6,g1,gl,rfl⟩;have hi':=getD_some (l:=S) 0 hi;have hsn:=hlt _ (K1 hi');generalize S.getD i 0=x at hi' hsn;walk_at "rn";refine bh (Rep.mono s1 hS) hi' ?_;walk_at "rn";refine ⟨v,n,e,x,t,rfl,Rep.mono s1 hT,gt,hsn,fun H2 s2=>?_⟩;have os:=dW gt hsn;have op:=fv (n:=n) (t:=t) (e:=e) (a:=x);have ol:a7 n t e x<=n:=os.1;generalize a7 n t e x=o at op ol;walk_at "rn";refine ⟨(g1.mono s2).ty,?_⟩;walk_at "rn";refine ⟨c,11+i,o,rfl,by omega,op,fun th=>?_⟩
  have dv:m / o<=60:=L4 (Nat.div_le_self _ _) m60;generalize m / o=d at dv;generalize thg c (11+i) o=y at th;walk_at "rn";refine fX (b:=d * y) (g1.mono s2) (by omega) rfl fun H3 g3 k3 _=>?_
  exact ⟨ai.but hpg (s1.trans s2) k3,G++[d * y],_,_,g3,by rw [Lg,gl];rfl,rfl⟩
 rintro σ' Hg ⟨sg,G,x5,x6,gg,gl,rfl⟩;have hTg:=Rep.mono sg hT;have hSg:=Rep.mono sg hS;have hpG:=dB gg;walk_at "rn";refine Hx (fun dw fdw=>?_);have sw:=aw fdw (.dK []);have hw0:(upd Hg dw (.dK [])) dw=some (.dK []):=au;generalize upd Hg dw (.dK [])=H1 at sw hw0;walk_at "rn";refine ⟨v,n,e,t,rfl,Rep.mono sw hTg,gt,fun H2 s2=>?_⟩;walk_at "rn";refine ⟨s2 _ _ hw0,[(nk e,.int ((0:Nat):Int))],rfl,(by show 1<=15;decide),?_⟩
 have sg3:ai Hg (upd H2 dw (.dK (ic [] [(nk e,.int ((0:Nat):Int))]))):=fun b o z=>by
  rw [av (aH z fdw)];exact s2 _ _ (sw _ _ z)
 have hw3:(upd H2 dw (.dK (ic [] [(nk e,.int ((0:Nat):Int))]))) dw=some (.dK (dH [e] [0])):=au;generalize upd H2 dw (.dK (ic [] [(nk e,.int ((0:Nat):Int))]))=H3 at sg3 hw3;walk_at "2";refine ⟨v,n,e,t,rfl,Rep.mono sg3 hTg,gt,fun H4 s4=>?_⟩;walk_at "rn";refine ⟨small (by show 1<=1000;decide),fun a ha=>?_⟩
 have sg4:=sg3.trans s4;have fa:Hg a=none:=sg4.free ha;have hw4:=s4 _ _ hw3;have sg5:=sg4.trans (aw ha (.lst [.int (e:Int)]));have hw5:=aw ha (.lst [.int (e:Int)]) _ _ hw4;have ha5:(upd H4 a (.lst [.int (e:Int)])) a=some (.lst (aA [e])):=au;have nwa:dw≠a:=b4 hw4 ha;generalize upd H4 a (.lst [.int (e:Int)])=H5 at sg5 hw5 ha5;walk_at "rn";have fe:fm [e] [0] e=0:=by unfold fm;rw [P8];rfl
 have ms0:MS n t e S G m [e] [0] 0 true:=⟨⟨by simp,fun x hx=>by rw [Lb.mp hx];exact gt.elt,by simp,Mb _,fun i _ hi=>absurd hi (by omega),fun x hx=>⟨[],by simp,(Lb.mp hx).symm⟩⟩,rfl,fun x hx=>by rw [Lb.mp hx];exact m1,fe,fun _ i _ hi=>absurd hi (by omega)⟩
 refine lX (fun b σ' H'=>ai Hg H'/\∃ (F W:List Nat) (k:Nat) (fl:Bool) (y1 y2 y3 y4:Option V),b=n - k/\H' dw=some (.dK (dH F W))/\H' a=some (.lst (aA F))/\MS n t e S G m F W k fl/\σ'=[some v,some u,some (.int (m:Int)),some (.int c),some (.ref pg),x5,x6,some (.ref dw),some (.ref a),some (.int (k:Int)),some (.bl fl),y1,y2,y3,y4,none]) (n - 0)
  ⟨sg5,[e],[0],0,true,_,_,_,_,rfl,hw5,ha5,ms0,rfl⟩ ?_
 rintro b σ' H6 ⟨s6,F,W,k,fl,y1,y2,y3,y4,rfl,hw6,ha6,ms,rfl⟩;have aF:At K H6 (.ref a) F:=bS ha6;have fl6:=ms.gr.len;walk_at "rn";refine b8 aF ?_;walk_at "rn";refine bf (fun lt=>?_) (fun ge=>?_)
 ·obtain ⟨b0,hb0⟩:∃ b0,F[k]?=some b0:=⟨F[k],KZ lt⟩;have hbF:b0∈F:=K1 hb0;have hbn:=ms.gr.lt b0 hbF;refine ⟨fun σ4 H4=>ai Hg H4/\∃ (F4 W4:List Nat) (fl4:Bool) (y1 y2 y3 y4:Option V),H4 dw=some (.dK (dH F4 W4))/\H4 a=some (.lst (aA F4))/\MS n t e S G m F4 W4 (k+1) fl4/\σ4=[some v,some u,some (.int (m:Int)),some (.int c),some (.ref pg),x5,x6,some (.ref dw),some (.ref a),some (.int ((k+1:Nat):Int)),some (.bl fl4),y1,y2,y3,y4,none],fun σ4 H4 z=>?_,?_⟩
  ·obtain ⟨z1,F4,W4,fl4,u1,u2,u3,u4,z2,z3,z5,z6⟩:=z;have:=z5.gr.le;have:=z5.gr.len;exact ⟨n - (k+1),by omega,z1,F4,W4,k+1,fl4,u1,u2,u3,u4,rfl,z2,z3,z5,z6⟩
  walk_at "7";obtain ⟨pS,xS,rfl,hSS,hPS⟩:=id hSg;have lS:=NV hPS;refine Hv (H₀:=Hg) hSS (SqL.of hpG) (by unfold aA;rw [KY];omega) (fun j σ4 H4=>ai Hg H4/\∃ (F4 W4:List Nat) (fl4:Bool) (y1 y2 y3 y4:Option V),H4 dw=some (.dK (dH F4 W4))/\H4 a=some (.lst (aA F4))/\MS n t e S G m F4 W4 k fl4/\F4[k]?=some b0/\(∀ s∈S.take j,tb t b0 s∈F4)/\(fl4=true->CM t S G m F4 W4 b0 j)/\σ4=[some v,some (.ref pS),some (.int (m:Int)),some (.int c),some (.ref pg),x5,x6,some (.ref dw),some (.ref a),some (.int (k:Int)),some (.bl fl4),y1,y2,y3,y4,none])
   ⟨s6,F,W,fl,_,_,_,_,hw6,ha6,ms,hb0,fun s hs=>absurd hs (by simp),fun _ j' _ _ hj=>absurd hj (by omega),rfl⟩ (fun j σ4 H4 z=>z.1) ?_ ?_
  ·rintro j w1 w2 σ4 H7 H8 pt hw1 hw2 ⟨s7,F4,W4,fl4,u1,u2,u3,u4,hw7,ha7,ms4,hb4,hj,hcm,rfl⟩ hpt rfl s8;obtain ⟨x,hx,ax⟩:=jA hPS hw1;cases (show w1=V.int (x:Int) from ax);have hjl:j<G.length:=by
    have:=(K0.mp hx).1;omega
   have hμ:=getD_some (l:=G) 0 hjl;generalize G.getD j 0=μ at hμ;have ew2:w2=V.int (μ:Int):=by
    unfold aA at hw2;rw [K4,hμ] at hw2;exact (LG hw2).symm
   subst ew2;have s78:=s7.trans s8;have hw8:=s8 _ _ hw7;have ha8:=s8 _ _ ha7;generalize upd H7 pt (.tup [.int (x:Int),.int (μ:Int)])=H8 at s78 hw8 ha8;have hxS:x∈S:=K1 hx;have hxn:=hlt x hxS;have aF8:At K H8 (.ref a) F4:=bS ha8;have hT8:=Rep.mono s78 hTg;have bF4:b0∈F4:=K1 hb4;have nd4:=ms4.gr.nd;have lK:=ms4.len;have fl4n:=ms4.gr.len;have hv0:=qA nd4 lK bF4;have mlt:(fm F4 W4 b0+μ) % m<m:=Lu _ m1;walk_at "rn";refine bh aF8 hb4 ?_;refine cI hT8 rfl (gt.get hbn) fun w1 hw1=>?_;walk_at "rn";refine bh hw1 (gt.cZ hbn hxn) ?_;walk_at "rn";refine iY ?_;walk_at "rn";refine bh aF8 hb4 ?_;refine lN hw8 hv0 ?_;walk_at "rn";have more:∀ F':List Nat,(∀ z∈F4,z∈F')->tb t b0 x∈F'->∀ s∈S.take (j+1),tb t b0 s∈F':=fun F' h1 h2 s hs=>by
    rw [Lv,hx] at hs;rcases LP.mp hs with z|z
    ·exact h1 _ (hj s z)
    ·have:s=x:=by simpa using z
     rw [this];exact h2
   have cms:∀ F' W':List Nat,CM t S G m F' W' b0 j->fm F' W' (tb t b0 x)=(fm F' W' b0+μ) % m->CM t S G m F' W' b0 (j+1):=fun F' W' h1 h2 j' s' μ' a1 a2 a3=>by
    rcases LD j' j with z|z
    ·exact h1 j' s' μ' z a2 a3
    ·have:j'=j:=by omega
     subst this;rw [hx] at a2;rw [hμ] at a3;cases a2;cases a3;exact h2
   walk_at "ifs";walk_at "rn";refine Ew ?_;walk_at "rn";refine Fx hw8 ?_;rw [Hy nd4 lK];walk_at "rn";refine bT (fun z=>?_) (fun z=>?_)
   ·walk_at "rn";refine BK ?_;walk_at "rn";refine DX hw8 (L4 Gg (by omega)) ?_
    rw [EF lK z];have hw9:(upd H8 dw (.dK (dH (F4++[tb t b0 x]) (W4++[(fm F4 W4 b0+μ) % m])))) dw=some (.dK (dH (F4++[tb t b0 x]) (W4++[(fm F4 W4 b0+μ) % m]))):=au;have s9:ai Hg (upd H8 dw (.dK (dH (F4++[tb t b0 x]) (W4++[(fm F4 W4 b0+μ) % m])))):=fun b o y=>by rw [av (aH y fdw)];exact s78 _ _ y
    have ha9:(upd H8 dw (.dK (dH (F4++[tb t b0 x]) (W4++[(fm F4 W4 b0+μ) % m])))) a=some (.lst (aA F4)):=by rw [av nwa.symm];exact ha8
    generalize upd H8 dw (.dK (dH (F4++[tb t b0 x]) (W4++[(fm F4 W4 b0+μ) % m])))=H9 at hw9 s9 ha9;have g9:Gr K H9 a F4:=⟨_,ha9,i7⟩;walk_at "rn";refine ⟨g9.ty,?_⟩;walk_at "rn";refine fX (b:=tb t b0 x) g9 (by omega) rfl fun H10 g10 k10 _=>?_
    have ms5:=ms4.grow gt bF4 hxS hxn z mlt;refine ⟨ai.but fa s9 k10,_,_,fl4,_,_,_,_,k10 _ _ nwa hw9,dB g10,ms5,by rw [Lq (K0.mp hb4).1];exact hb4,more _ (fun y hy=>MD _ hy) (by simp),fun hfl=>cms _ _ ((hcm hfl).grow lK bF4 hj) ?_,rfl⟩
    rw [Je z lK,sV bF4 lK]
   ·have z':tb t b0 x∈F4:=z;walk_at "1";refine iY ?_;walk_at "rn";refine lN hw8 (qA nd4 lK z') ?_;walk_at "rn";refine bT (fun y=>?_) (fun y=>?_)
    ·walk_at "rn";exact ⟨s78,F4,W4,false,_,_,_,_,hw8,ha8,⟨ms4.gr,ms4.len,ms4.lt,ms4.e0,(fun c=>by cases c)⟩,hb4,more _ (fun _ h=>h) z',(fun c=>by cases c),rfl⟩
    ·walk_at "rn";exact ⟨s78,F4,W4,fl4,_,_,_,_,hw8,ha8,ms4,hb4,more _ (fun _ h=>h) z',fun hfl=>cms _ _ (hcm hfl) y,rfl⟩
  ·rintro σ4 H7 ⟨s7,F4,W4,fl4,u1,u2,u3,u4,hw7,ha7,ms4,hb4,hj,hcm,rfl⟩;rw [lS,Mn] at hj;rw [lS] at hcm;walk_at "rn";refine ⟨s7,F4,W4,fl4,_,_,_,_,hw7,ha7,⟨ms4.gr.next hb4 hj,ms4.len,ms4.lt,ms4.e0,fun hfl i y hi hy=>?_⟩,rfl⟩;rcases LD i k with z|z
   ·exact ms4.cm hfl i y z hy
   ·have:i=k:=by omega
    subst this;rw [hb4] at hy;cases hy;exact hcm hfl
 ·walk_at "rn";refine Ac aF (by omega) fun dp R H7 hdp s7 hpm hsr g7=>?_
  have G':=ms.gr.gen (by omega) hpm hsr
  have ptR:=G'.part gt hlt;have rl:=ptR.len;have fdp:H dp=none:=sg.free (s6.free hdp);have hw7:=s7 _ _ hw6;have nd:=ms.gr.nd;walk_at "3";refine gW (β:=Nat) g7.at (by omega) (fun i=>(R.map fun x=>if fl=true then fm F W x else 0).take i) (fun σ'=>∃ y,σ'=[y,some (.bl fl),some (.ref dw)]) rfl (fun i _=>by rw [Lh];omega) ⟨_,rfl⟩ ?_ ?_
  ·rintro i x w' σ' H8 d' R' R0 hx hs hw ⟨y,rfl⟩ hR hR0 hd';cases (show w'=V.int (x:Int) from hw);have hxF:=hpm.mem_iff.mp (K1 hx);walk_at "rn";refine iY ?_;walk_at "rn";refine lN (hs _ _ hw7) (qA nd ms.len hxF) ?_;walk_at "rn";refine .inr ⟨fl,rfl,?_⟩;cases fl with
   | true =>
    refine pW (b:=1) (.inr (by decide)) ?_
    rw [Nat.mul_one];exact hR _ _ _ _ ⟨_,rfl⟩ (ai.refl _) rfl (by rw [Lv,K4,hx];rfl)
   | false =>
    refine pW (b:=0) (.inr (by decide)) ?_
    rw [Na];exact hR _ _ _ _ ⟨_,rfl⟩ (ai.refl _) rfl (by rw [Lv,K4,hx];rfl)
  intro dm H8 hdm s8 h8;have g8:Gr K H8 dm ((R.map fun x=>if fl=true then fm F W x else 0).take R.length):=h8;rw [Lf (by simp)] at g8
  walk_at "rn";refine ⟨small (by show 2<=1000;decide),fun p hp=>?_⟩
  have s68:=s7.trans s8;have sH8:=sg.trans (s6.trans s68);have hR8:=s8 _ _ (dB g7);have hM8:=dB g8;have s9:=aw hp (.tup [.ref dp,.ref dm]);have fml:∀ x∈R,fm F W x<m:=fun x hx=>by
   have hi:=LH (hpm.mem_iff.mp hx);exact ms.lt _ (K1 (getD_some 0 (show F.idxOf x<W.length by rw [ms.len];exact hi)))
  refine q p dp dm _ R _ fdp (sg.free (s6.free (s7.free hdm))) (b4 (dB g7) hdm) (sH8.trans s9) au (s9 _ _ hR8) (s9 _ _ hM8) ptR (by simp) (fun x hx=>?_) fun j hj k' hk=>?_
  ·obtain ⟨y,hy,rfl⟩:=Lc.mp hx
   by_cases hfl:fl=true
   ·rw [if_pos hfl];exact fml y hy
   ·rw [if_neg hfl];exact m1
  ·by_cases hfl:fl=true
   ·have em:(R.map fun x=>if fl=true then fm F W x else 0)=R.map (fm F W):=LA fun x _=>if_pos hfl;rw [em];refine JH ptR (DQ (μ:=fun s=>G.getD (S.idxOf s) 0) gt G' hlt m1 fml ms.e0 fun x hx s hs=>?_) hj hk;obtain ⟨i,hi⟩:=LS (hpm.mem_iff.mp hx);have sil:=LH hs;refine ms.cm hfl i x ?_ hi (S.idxOf s) s _ sil (by rw [KZ sil,MQ]) (getD_some 0 (by omega))
    have:=(K0.mp hi).1;omega
   ·have em:(R.map fun x=>if fl=true then fm F W x else 0)=Ll R.length 0:=by
     rw [<- List.map_const'];exact LA fun x _=>if_neg hfl
    rw [em];exact ID
inductive zg (K:KW) (vs:List V) (H:Hp) (Q:VK) (E:XK):Prop
 | mk (v:V) (dp:Addr) (n e:Nat) (t:List (List Nat)) (R:List Nat) (_:vs=[v,.ref dp]) (_:At K H v t) (_:GT n t e) (_:H dp=some (.lst (aA R))) (_:IsPart n t R) (_:∀ ds H' ps,ai H H'->Tbl H' ds (cV t R) ps->Q (.ref ds) H')
def y9 (T:Txt K mg):aJ P w K mg base CX0 1 T.jg.f T.jg.fd ["_law_table","_law_part"] (zg K):=by
 exists T.jg.ok la
 ·obtain ⟨v,dp,n,e,t,R,rfl,_⟩:=h;rfl
 obtain ⟨v,dp,n,e,t,R,rfl,hT,gt,h1,pt,q⟩:=h;have n23:=gt.le;have rl:=pt.len;refine ⟨_,(ae (aq (i:=2) la.nd rfl (K6 rfl) (bP aa))
   (ae (ba Ld rfl (aT K rfl (pv 1)) (ar (i:=3) la.nd rfl (Ni rfl)) (af (aV (bZ K rfl Lk Lw Lx bF (pv 2) (paF (bu rfl mU (aT K rfl (pv 1)) (fun _ _ _ _=>⟨(ar (i:=0) mU.nd rfl (K6 rfl)),aX,(bZ K rfl Lk MT Nn nP (pv 2) (paF (ao (aj K rfl) (ao (aj K rfl) (pv 3) (pv 1) (fun _ _=>rfl)) (pv 0) (fun _ _=>rfl)) aa))⟩)) aa)))))
   (af (aK (pv 2))))),?_⟩
 walk_at "2";refine ⟨small (by show 0<=1000;decide),fun ds hds=>?_⟩
 have s0:=aw hds (.lst []);have t0:Tbl (upd H ds (.lst [])) ds [] []:=Tbl.nil;generalize upd H ds (.lst [])=H0 at s0 t0;walk_at "rn";refine iW (H₀:=H) (α:=Nat) (bS h1) (fun i σ' H'=>ai H H'/\∃ (ps:List Addr) (x3:Option V),Tbl H' ds ((cV t R).take i) ps/\σ'=[some v,some (.ref dp),some (.ref ds),x3]) ⟨s0,[],_,t0,rfl⟩ (fun i σ' H' z=>z.1) ?_ ?_
 ·rintro i a w' σ' H1 ha hw ⟨s1,ps,x3,tb1,rfl⟩;cases (show w'=V.int (a:Int) from hw);have haR:=K1 ha;have han:=pt.lt a haR;have il:=(K0.mp ha).1;have h11:=s1 _ _ h1;walk_at "rn";refine ⟨.inl ⟨rfl,_,SqL.of tb1.top⟩,?_⟩;walk_at "rn";refine gW (α:=Nat) (β:=Nat) (bS h11) (by omega) (fun j=>(R.map fun b=>R.idxOf (tb t a b)).take j) (fun σ'=>∃ y,σ'=[y,some (.int (a:Int)),some (.ref dp),some v]) rfl (fun i _=>by rw [Lh];omega) ⟨_,rfl⟩ ?_ ?_
  ·rintro j b w2 σ' H3 d3 R3 R03 hb hs3 hw2 ⟨y,rfl⟩ hR3 hR03 hd3;cases (show w2=V.int (b:Int) from hw2);have hbR:=K1 hb;have hbn:=pt.lt b hbR;have h13:=hs3 _ _ h11;have hT3:=Rep.mono (s1.trans hs3) hT;have hab:=pt.cl a haR b hbR;walk_at "rn";refine ⟨.inl ⟨rfl,_,SqL.of h13⟩,?_⟩;walk_at "rn";refine cI hT3 rfl (gt.get han) fun w1 hw1=>?_;walk_at "rn";refine bh hw1 (gt.cZ han hbn) ?_;walk_at "rn";refine qB h13 (qJ hab) (fun i' hi'=>mz hi') ?_;exact hR3 _ _ _ _ ⟨_,rfl⟩ (ai.refl _) rfl (by rw [Lv,K4,hb];rfl)
  intro dr H3 hdr s3 h3;have g3:Gr K H3 dr ((R.map fun b=>R.idxOf (tb t a b)).take R.length):=h3;rw [Lf (by simp)] at g3
  have nd:dr≠ds:=(b4 tb1.top hdr).symm;have np:dr∉ps:=fun z=>by
   obtain ⟨k,hk⟩:=LS z;have hk':k<((cV t R).take i).length:=by rw [<- tb1.len];exact (K0.mp hk).1
   have:=tb1.row k dr _ hk (KZ hk');rw [hdr] at this;cases this
  have ql:ps.length<=23:=by rw [tb1.len,Lh];omega
  walk_at "rn";refine ⟨ds,_,_,rfl,rfl,s3 _ _ tb1.top,LO (show (ps.map V.ref).length<=1000 by rw [KY];omega) (by rw [L5];decide),?_⟩
  refine ⟨eU hds (s1.trans s3),ps++[dr],_,?_,rfl⟩;have:=tb1.snoc s3 (dB g3) np nd;have et:(cV t R).take (i+1)=(cV t R).take i++[R.map fun b=>R.idxOf (tb t a b)]:=by
   unfold cV;rw [Lv,K4,ha];rfl
  rw [et];exact this
 ·rintro σ' H1 ⟨s1,ps,x3,tb1,rfl⟩;rw [Lf (by unfold cV;simp)] at tb1
  walk_at "rn";exact q ds H1 ps s1 tb1
end
section
def ls (l:List Nat) (f:Nat->Nat):Nat:=(l.map f).sum
def fk {x:Nat} {l:List Nat} {f:Nat->Nat}:ls (x :: l) f=f x+ls l f:=by unfold ls;rw [LY,List.sum_cons]
def uA {f g:Nat->Nat}:∀ {l:List Nat},ls l (fun x=>f x+g x)=ls l f+ls l g
 | []=>rfl
 | x :: l=>by rw [fk,fk,fk,uA];omega
def iQ {f g:Nat->Nat} {l:List Nat} (h:∀ x∈l,f x=g x):ls l f=ls l g:=by unfold ls;rw [LA h]
def m7 {f:Nat->Nat}:∀ {l:List Nat},(∀ x∈l,f x=0)->ls l f=0
 | [],_=>rfl
 | x :: l,h=>by rw [fk,h x Le,m7 fun y hy=>h y (K8 _ hy)]
def D5 {f:Nat->Nat} {l l':List Nat}:ls (l++l') f=ls l f+ls l' f:=by unfold ls;rw [LR,List.sum_append]
def qF {f:Nat->Nat} {l:List Nat} {i x:Nat} (h:l[i]?=some x):ls (l.take (i+1)) f=ls (l.take i) f+f x:=by
 rw [Lv,h,D5];show _+ls [x] f=_;rw [fk];rfl
def pL {p:Nat->Bool} {f:Nat->Nat}:∀ {l:List Nat},(∀ x∈l,p x=false->f x=0)->ls (l.filter p) f=ls l f
 | [],_=>rfl
 | x :: l,h=>by
  have ih:=pL (p:=p) (f:=f) (l:=l) fun y hy=>h y (K8 _ hy);cases c:p x with
  | true=>rw [N1 c,fk,fk,ih]
  | false=>rw [Nm (by rw [c];exact Ls),fk,h x Le c,ih,L7]
def zc {f:Nat->Nat} {a:Nat}:∀ {m:Nat},ls (K3 m) (fun k=>if k=a then f k else 0)=if a<m then f a else 0
 | 0=>rfl
 | m+1=>by
  rw [N0,D5,zc,fk];show _+((if m=a then f m else 0)+0)=_;rcases MJ a m with z|z|z
  ·rw [if_pos z,if_neg (by omega),if_pos (by omega)];omega
  ·rw [if_neg (by omega),if_pos z.symm,if_pos (by omega),z];omega
  ·rw [if_neg (by omega),if_neg (by omega),if_neg (by omega)]
def stT:List (Nat×Nat)->Nat->Nat->Nat
 | [],_,_=>0
 | x :: r,i,k=>(if x=(i,k) then 1 else 0)+stT r (i+1) k
def qt (k:Nat):∀ (r s:List (Nat×Nat)) (i:Nat),stT (r++s) i k=stT r i k+stT s (i+r.length) k
 | [],s,i=>by show stT s i k=0+stT s (i+0) k;rw [L7,MA]
 | x :: r,s,i=>by
  show (if x=(i,k) then 1 else 0)+stT (r++s) (i+1) k=(if x=(i,k) then 1 else 0)+stT r (i+1) k+stT s (i+(r.length+1)) k;rw [qt k r s,show i+1+r.length=i+(r.length+1) by omega]
  omega
def ET (k:Nat):∀ (r:List (Nat×Nat)) (i:Nat),stT r i k<=r.length
 | [],_=>Lj _
 | x :: r,i=>by
  have:=ET k r (i+1);show (if x=(i,k) then 1 else 0)+stT r (i+1) k<=r.length+1
  split <;> omega
def Fn {acc:List Nat} {i k:Nat} {x:Nat×Nat} (hk:k<acc.length) (hx:x.2<acc.length):(iq acc i x).getD k 0=acc.getD k 0+if x=(i,k) then 1 else 0:=by
 obtain ⟨x1,x2⟩:=x;unfold iq
 by_cases h1:x1=i
 ·rw [if_pos h1]
  by_cases h2:x2=k
  ·subst h1 h2;rw [if_pos rfl,K2,Mt hk];rfl
  ·rw [if_neg (fun z=>h2 (congrArg Prod.snd z)),K2,ME h2,K2];rfl
 ·rw [if_neg h1,if_neg (fun z=>h1 (congrArg Prod.fst z))];rfl
def zB {k:Nat}:∀ (r:List (Nat×Nat)) (i:Nat) (acc:List Nat),k<acc.length->(∀ y∈r,y.2<acc.length)->(jY r i acc).getD k 0=acc.getD k 0+stT r i k
 | [],_,_,_,_=>rfl
 | x :: r,i,acc,hk,h=>by
  show (jY r (i+1) (iq acc i x)).getD k 0=_+((if x=(i,k) then 1 else 0)+stT r (i+1) k);rw [zB r (i+1) _ (by rw [rT];exact hk) (fun y hy=>by rw [rT];exact h y (K8 _ hy)),Fn hk (h x Le)]
  omega
def fW {m:Nat} {r:List (Nat×Nat)} (h:∀ y∈r,y.2<m):cnt m r=(K3 m).map (stT r 0):=by
 refine Mo (by rw [qp,KY,Ln]) fun k h1 h2=>?_
 rw [qp] at h1;have:=zB (k:=k) r 0 (Ll m 0) (by rw [M5];exact h1) (fun y hy=>by rw [M5];exact h y hy)
 rw [K2,KZ (by rw [rN,M5];exact h1),K2,O9,if_pos h1] at this
 rw [MR,Nc];exact (show (jY r 0 (Ll m 0))[k]'_=0+stT r 0 k from this).trans (L7 _)
def w6 {m:Nat} {f g:Nat->Nat}:Ma (·+·) ((K3 m).map f) ((K3 m).map g)=(K3 m).map fun k=>f k+g k:=by
 refine Mo (by simp) fun k h1 h2=>by simp
def Bz {c k:Nat}:∀ (s:List (Nat×Nat)) (i:Nat),stT (s.map fun y=>(c+y.1,y.2)) (c+i) k=stT s i k
 | [],_=>rfl
 | y :: s,i=>by
  show (if (c+y.1,y.2)=(c+i,k) then 1 else 0)+stT (s.map fun y=>(c+y.1,y.2)) (c+i+1) k=_+_;rw [M9 c i 1,Bz s (i+1)]
  congr 1
  by_cases h:y=(i,k)
  ·rw [if_pos h,if_pos (by rw [h])]
  ·rw [if_neg h,if_neg (fun z=>h (by obtain ⟨y1,y2⟩:=y;injection z with z1 z2;rw [show y1=i from Nat.add_left_cancel z1,show y2=k from z2]))]
def Ig {m:Nat} {r s:List (Nat×Nat)} (hr:∀ y∈r,y.2<m) (hs:∀ y∈s,y.2<m):cnt m (gB r s)=Ma (·+·) (cnt m r) (cnt m s):=by
 have hb:∀ y∈gB r s,y.2<m:=fun y hy=>by
  rcases LP.mp hy with z|z
  ·exact hr y z
  ·obtain ⟨x,hx,rfl⟩:=Lc.mp z;exact hs x hx
 rw [fW hr,fW hs,fW hb,w6];refine LA fun k _=>?_;unfold gB;rw [qt,L7];have:=Bz (c:=r.length) (k:=k) s 0;rw [MA] at this;rw [this]
def Ar {m k:Nat} (hk:k<m):∀ (r:List (Nat×Nat)) (i:Nat),(∀ y∈r,y.2<m)->stT (r.map fun y=>(y.1,(m - y.2) % m)) i k=stT r i ((m - k) % m)
 | [],_,_=>rfl
 | y :: r,i,h=>by
  show (if (y.1,(m - y.2) % m)=(i,k) then 1 else 0)+stT (r.map fun y=>(y.1,(m - y.2) % m)) (i+1) k=(if y=(i,(m - k) % m) then 1 else 0)+stT r (i+1) ((m - k) % m);rw [Ar hk r (i+1) fun x hx=>h x (K8 _ hx)]
  congr 1
  have hy:=h y Le;obtain ⟨y1,y2⟩:=y
  replace hy:y2<m:=hy
  have key:∀ {a b:Nat},a<m->b<m->(m - a) % m=b->a=(m - b) % m:=fun {a b} ha hb q=>by
   rcases Nx a with z|z
   ·subst z;rw [PX,NH] at q;rw [<- q,PX,NH]
   ·rw [LJ (by omega)] at q
    rw [<- q,LJ (by omega)]
    omega
  by_cases c:(y1,(m - y2) % m)=(i,k)
  ·injection c with c1 c2;rw [if_pos (by rw [c1,c2]),if_pos (by rw [c1,key hy hk c2])]
  ·rw [if_neg c,if_neg fun z=>c (by injection z with z1 z2;rw [z1,<- key hk hy z2.symm])]
def GI {m:Nat} {r:List (Nat×Nat)} (m1:1<=m) (h:∀ y∈r,y.2<m):cnt m (r.map fun y=>(y.1,(m - y.2) % m))=(K3 m).map fun k=>(cnt m r).getD ((m - k) % m) 0:=by
 rw [fW h,fW fun y hy=>by obtain ⟨x,_,rfl⟩:=Lc.mp hy;exact Lu _ m1]
 refine LA fun k hk=>?_;rw [Ar (K7.mp hk) r 0 h,K2,K4,LK (Lu _ m1)];rfl
def EI {z a b i j:Nat} (hb:b<z) (hj:j<z):a * z+b=i * z+j↔a=i/\b=j:=by
 constructor
 ·intro h;have h1:=congrArg (· / z) h;have h2:=congrArg (· % z) h;simp only [M7 _ z,Nat.mul_add_div (show 0<z by omega),Nat.mul_add_mod,Me hb,Me hj,LJ hb,LJ hj] at h1 h2
  exact ⟨by omega,h2⟩
 ·rintro ⟨rfl,rfl⟩;rfl
def BM {z b i k:Nat}:∀ (s:List (Nat×Nat)) (j:Nat),(∀ y∈s,y.1<z)->j+s.length<=z->stT (s.map fun y=>(b * z+y.1,y.2)) (i * z+j) k=if b=i then stT s j k else 0
 | [],_,_,_=>by show 0=if b=i then 0 else 0;split <;> rfl
 | y :: s,j,h,hl=>by
  show (if (b * z+y.1,y.2)=(i * z+j,k) then 1 else 0)+stT (s.map fun y=>(b * z+y.1,y.2)) (i * z+j+1) k=if b=i then (if y=(j,k) then 1 else 0)+stT s (j+1) k else 0;rw [LN] at hl;rw [M9,BM s (j+1) (fun x hx=>h x (K8 _ hx)) (by omega)]
  have hy:=h y Le;obtain ⟨y1,y2⟩:=y
  replace hy:y1<z:=hy
  have e:=EI (a:=b) (i:=i) hy (show j<z by omega)
  by_cases c:b=i
  ·rw [if_pos c,if_pos c]
   congr 1
   by_cases d:(y1,y2)=(j,k)
   ·injection d with d1 d2;rw [if_pos (by rw [c,d1,d2]),if_pos (by rw [d1,d2])]
   ·rw [if_neg d,if_neg fun q=>d (by injection q with q1 q2;rw [(e.mp q1).2,show y2=k from q2])]
  ·rw [if_neg c,if_neg c,if_neg fun q=>c (by injection q with q1 q2;exact (e.mp q1).1)]
def AI {k z:Nat} {G:Nat->List (Nat×Nat)} {v:Nat->Nat}:∀ (l:List Nat) (i:Nat),(∀ x∈l,(G x).length=z)->(∀ (j x:Nat),l[j]?=some x->stT (G x) ((i+j) * z) k=v x)->stT (l.flatMap G) (i * z) k=ls l v
 | [],_,_,_=>rfl
 | x :: l,i,h,hv=>by
  rw [MK,qt,h x Le,fk,show i * z+z=(i+1) * z by rw [MU],AI l (i+1) (fun y hy=>h y (K8 _ hy)) fun j y hy=>by rw [show i+1+j=i+(j+1) by omega];exact hv (j+1) y hy]
  rw [show stT (G x) (i * z) k=v x from hv 0 x rfl]
def gN (n:Nat) (t:List (List Nat)) (e:Nat) (R:List Nat) (T:List (List Nat)) (m a:Nat) (cs:List Nat):List Nat:=(K3 m).map fun k=>ls cs fun c=>if cj n t e c a∈R then (T.getD (R.idxOf (cj n t e c a)) []).getD k 0 else 0
def jW (n:Nat) (t:List (List Nat)) (e:Nat) (R:List Nat) (T:List (List Nat)) (m:Nat):List (List Nat):=(K3 n).map fun a=>gN n t e R T m a (aS n t e R)
def HE {n e m a i c:Nat} {t T:List (List Nat)} {R:List Nat} (hc:(aS n t e R)[i]?=some c) (h:cj n t e c a∉R):gN n t e R T m a ((aS n t e R).take (i+1))=gN n t e R T m a ((aS n t e R).take i):=by
 unfold gN;refine LA fun k _=>?_;rw [qF hc,if_neg h];rfl
def EX {n e m a i c:Nat} {t T:List (List Nat)} {R l:List Nat} (hc:(aS n t e R)[i]?=some c) (h:cj n t e c a∈R) (hl:T[R.idxOf (cj n t e c a)]?=some l) (lm:l.length=m):gN n t e R T m a ((aS n t e R).take (i+1))=Ma (·+·) (gN n t e R T m a ((aS n t e R).take i)) l:=by
 have e1:T.getD (R.idxOf (cj n t e c a)) []=l:=by rw [K2,hl];rfl
 have e2:l=(K3 m).map fun k=>l.getD k 0:=by
  refine Mo (by rw [KY,Ln,lm]) fun k h1 h2=>?_
  rw [MR,Nc,K2,KZ h1];rfl
 rw [e2];unfold gN;rw [w6];refine LA fun k _=>?_;rw [qF hc,if_pos h,e1]
def wF {n e m z:Nat} {t:List (List Nat)} {R:List Nat} {D:List (List (Nat×Nat))} (gt:GT n t e) (pt:IsPart n t R) (wo:WOk R.length m z D) (hl:∀ r∈D,∀ y∈r,y.1<z):(fN n t e R D z).map (cnt m)=jW n t e R (D.map (cnt m)) m:=by
 unfold fN eY jW gN;rw [MN,MN];refine LA fun a ha=>?_;have han:=K7.mp ha;have row:∀ c∈aS n t e R,∃ r,r∈D/\D[R.idxOf (ov n t e R (tb t a c))]?=some r/\D.getD (R.idxOf (ov n t e R (tb t a c))) []=r:=fun c hc=>by
  obtain ⟨_,_,_,_,h4⟩:=kD gt pt (gt.lt a c han (bE hc));obtain ⟨r,h1,h2,h3⟩:=wo.get (br h4).1;exact ⟨r,h2,h1,h3⟩
 show cnt m (cE D z ((aS n t e R).map fun c=>(hm n t e R (tb t a c),R.idxOf (ov n t e R (tb t a c)))))=_;have e0:cE D z ((aS n t e R).map fun c=>(hm n t e R (tb t a c),R.idxOf (ov n t e R (tb t a c))))=(aS n t e R).flatMap fun c=>(D.getD (R.idxOf (ov n t e R (tb t a c))) []).map fun y=>(hm n t e R (tb t a c) * z+y.1,y.2):=by
  unfold cE;rw [List.flatMap_map]
 rw [e0,fW]
 ·refine LA fun k hk=>?_;have hkm:=K7.mp hk;have:=AI (k:=k) (z:=z) (G:=fun c=>(D.getD (R.idxOf (ov n t e R (tb t a c))) []).map fun y=>(hm n t e R (tb t a c) * z+y.1,y.2)) (v:=fun c=>if cj n t e c a∈R then ((D.map (cnt m)).getD (R.idxOf (cj n t e c a)) []).getD k 0 else 0) (aS n t e R) 0 (fun c hc=>by
   obtain ⟨r,h1,_,h3⟩:=row c hc;rw [KY,h3];exact wo.row r h1) fun j c hj=>by
   obtain ⟨r,h1,h2,h3⟩:=row c (K1 hj);rw [h3,L7];have:=BM (z:=z) (b:=hm n t e R (tb t a c)) (i:=j) (k:=k) r 0 (hl r h1) (by rw [wo.row r h1];omega)
   rw [MA] at this;rw [this];have si:=Gk gt pt han hj
   by_cases q:hm n t e R (tb t a c)=j
   ·rw [if_pos q,if_pos (si.mp q),<- HG gt pt han hj q,K2 (l:=D.map (cnt m)),K4,h2];show _=(cnt m r).getD k 0;rw [fW (wo.lt r h1),K2,K4,LK hkm];rfl
   ·rw [if_neg q,if_neg fun y=>q (si.mpr y)]
  rw [Oc] at this;exact this
 ·intro y hy;obtain ⟨c,hc,hy2⟩:=M4.mp hy;obtain ⟨y0,hy0,rfl⟩:=Lc.mp hy2;obtain ⟨r,h1,_,h3⟩:=row c hc;rw [h3] at hy0;exact wo.lt r h1 y0 hy0
def cvC (m:Nat) (f g:Nat->Nat) (J K:List Nat) (c:Nat):Nat:=ls J fun j=>ls K fun k=>if c=(j+k) % m then f j * g k else 0
def cvV (m:Nat) (f g:Nat->Nat) (J K:List Nat):List Nat:=(K3 m).map (cvC m f g J K)
def Bq {m z i c x2:Nat} {x1:Nat}:∀ (s:List (Nat×Nat)) (j:Nat),(∀ y∈s,y.1<z/\y.2<m)->j+s.length<=z->stT (s.map fun y=>(x1 * z+y.1,(x2+y.2) % m)) (i * z+j) c=if x1=i then ls (K3 m) (fun k=>if c=(x2+k) % m then stT s j k else 0) else 0
 | [],_,_,_=>by
  rw [m7 fun k _=>by show (if c=(x2+k) % m then 0 else 0)=0;split <;> rfl]
  split <;> rfl
 | y :: s,j,h,hl=>by
  rw [LN] at hl;show (if (x1 * z+y.1,(x2+y.2) % m)=(i * z+j,c) then 1 else 0)+stT (s.map fun y=>(x1 * z+y.1,(x2+y.2) % m)) (i * z+j+1) c=if x1=i then ls (K3 m) (fun k=>if c=(x2+k) % m then (if y=(j,k) then 1 else 0)+stT s (j+1) k else 0) else 0;rw [M9,Bq s (j+1) (fun x hx=>h x (K8 _ hx)) (by omega)]
  obtain ⟨hy1,hy2⟩:=h y Le;obtain ⟨y1,y2⟩:=y
  replace hy1:y1<z:=hy1
  replace hy2:y2<m:=hy2
  have e:=EI (a:=x1) (i:=i) hy1 (show j<z by omega)
  by_cases q:x1=i
  ·rw [if_pos q,if_pos q];have e2:ls (K3 m) (fun k=>if c=(x2+k) % m then (if (y1,y2)=(j,k) then 1 else 0)+stT s (j+1) k else 0)=ls (K3 m) (fun k=>if k=y2 then (if y1=j/\c=(x2+k) % m then 1 else 0) else 0)+ls (K3 m) (fun k=>if c=(x2+k) % m then stT s (j+1) k else 0):=by
    rw [<- uA];refine iQ fun k _=>?_
    by_cases c1:c=(x2+k) % m
    ·rw [if_pos c1,if_pos c1]
     congr 1
     by_cases c2:(y1,y2)=(j,k)
     ·injection c2 with d1 d2;rw [if_pos (by rw [d1,d2]),if_pos d2.symm,if_pos ⟨d1,c1⟩]
     ·rw [if_neg c2]
      by_cases c3:k=y2
      ·rw [if_pos c3,if_neg fun w=>c2 (by rw [w.1,c3])]
      ·rw [if_neg c3]
    ·rw [if_neg c1,if_neg c1]
     by_cases c3:k=y2
     ·rw [if_pos c3,if_neg fun w=>c1 w.2]
     ·rw [if_neg c3]
   rw [e2,zc,if_pos hy2]
   congr 1
   by_cases c1:y1=j/\c=(x2+y2) % m
   ·rw [if_pos c1,if_pos (by rw [q,c1.1,<- c1.2])]
   ·rw [if_neg c1,if_neg fun w=>c1 (by injection w with w1 w2;exact ⟨(e.mp w1).2,w2.symm⟩)]
  ·rw [if_neg q,if_neg q,if_neg fun w=>q (by injection w with w1 w2;exact (e.mp w1).1)]
def BE {m c:Nat} {s:List (Nat×Nat)} (hs:∀ y∈s,y.1<s.length/\y.2<m):∀ (r:List (Nat×Nat)) (i:Nat),(∀ y∈r,y.2<m)->stT (cH m r s) (i * s.length) c=cvC m (stT r i) (stT s 0) (K3 m) (K3 m) c
 | [],i,_=>by
  unfold cvC;rw [m7 fun j _=>m7 fun k _=>by show (if c=(j+k) % m then 0 * stT s 0 k else 0)=0;rw [Oc];split <;> rfl]
  rfl
 | x :: r,i,h=>by
  have e0:cH m (x :: r) s=(s.map fun y=>(x.1 * s.length+y.1,(x.2+y.2) % m))++cH m r s:=by unfold cH;rw [MK]
  rw [e0,qt,KY,show i * s.length+s.length=(i+1) * s.length by rw [MU],BE hs r (i+1) fun y hy=>h y (K8 _ hy)]
  have hx:=h x Le;obtain ⟨x1,x2⟩:=x;have b:=Bq (m:=m) (z:=s.length) (i:=i) (c:=c) (x1:=x1) (x2:=x2) s 0 hs (by omega)
  rw [MA] at b;rw [b];unfold cvC;have e1:ls (K3 m) (fun j=>ls (K3 m) fun k=>if c=(j+k) % m then stT ((x1,x2) :: r) i j * stT s 0 k else 0)=ls (K3 m) (fun j=>if j=x2 then (if x1=i then ls (K3 m) (fun k=>if c=(j+k) % m then stT s 0 k else 0) else 0) else 0)+ls (K3 m) (fun j=>ls (K3 m) fun k=>if c=(j+k) % m then stT r (i+1) j * stT s 0 k else 0):=by
   rw [<- uA];refine iQ fun j _=>?_
   by_cases c2:(x1,x2)=(i,j)
   ·injection c2 with d1 d2;rw [if_pos d2.symm,if_pos d1,<- uA];refine iQ fun k _=>?_;show (if c=(j+k) % m then ((if (x1,x2)=(i,j) then 1 else 0)+stT r (i+1) j) * stT s 0 k else 0)=_;rw [show (if (x1,x2)=(i,j) then 1 else 0)=1 from if_pos (by rw [d1,d2]),Nat.add_mul,Nat.one_mul]
    split <;> rfl
   ·have e2:(if j=x2 then (if x1=i then ls (K3 m) (fun k=>if c=(j+k) % m then stT s 0 k else 0) else 0) else 0)=0:=by
     by_cases c3:j=x2
     ·rw [if_pos c3,if_neg fun w=>c2 (by rw [w,c3])]
     ·rw [if_neg c3]
    rw [e2,L7];refine iQ fun k _=>?_;show (if c=(j+k) % m then ((if (x1,x2)=(i,j) then 1 else 0)+stT r (i+1) j) * stT s 0 k else 0)=_;rw [show (if (x1,x2)=(i,j) then 1 else 0)=0 from if_neg c2,L7]
  rw [e1,zc,if_pos hx]
def Ih {m:Nat} {r s:List (Nat×Nat)} (m1:1<=m) (hr:∀ y∈r,y.2<m) (hs:∀ y∈s,y.1<s.length/\y.2<m):cnt m (cH m r s)=cvV m (fun j=>(cnt m r).getD j 0) (fun k=>(cnt m s).getD k 0) ((K3 m).filter fun k=>decide (0<(cnt m r).getD k 0)) ((K3 m).filter fun k=>decide (0<(cnt m s).getD k 0)):=by
 have hb:∀ y∈cH m r s,y.2<m:=fun y hy=>by
  unfold cH at hy;obtain ⟨x,_,hx⟩:=M4.mp hy;obtain ⟨y0,_,rfl⟩:=Lc.mp hx;exact Lu _ m1
 have gd:∀ {r:List (Nat×Nat)},(∀ y∈r,y.2<m)->∀ k,k<m->(cnt m r).getD k 0=stT r 0 k:=fun h k hk=>by
  rw [fW h,K2,K4,LK hk];rfl
 rw [fW hb];unfold cvV;refine LA fun c _=>?_;have:=BE (c:=c) hs r 0 hr;rw [Oc] at this;rw [this];unfold cvC;rw [pL fun j _ q=>m7 fun k _=>by
  have:(cnt m r).getD j 0=0:=by have:=of_decide_eq_false q;omega
  dsimp only;rw [this,Oc]
  split <;> rfl]
 refine iQ fun j hj=>?_;rw [pL fun k _ q=>by
  have:(cnt m s).getD k 0=0:=by have:=of_decide_eq_false q;omega
  dsimp only;rw [this,Na]
  split <;> rfl]
 refine iQ fun k hk=>?_;dsimp only;rw [gd hr j (K7.mp hj),gd (fun y hy=>(hs y hy).2) k (K7.mp hk)]
def set_range {m a v:Nat} {F:Nat->Nat} (ha:a<m):((K3 m).map F).set a (F a+v)=(K3 m).map fun c=>F c+if c=a then v else 0:=by
 refine Mo (by simp) fun k h1 h2=>?_
 rw [List.getElem_set,MR,MR,Nc]
 by_cases c:a=k
 ·rw [if_pos c,if_pos c.symm,c]
 ·rw [if_neg c,if_neg fun q=>c q.symm];rfl
def Hr {m μ:Nat} (h:μ<m):cnt m [(0,μ)]=(K3 m).map fun k=>if k=μ then 1 else 0:=by
 rw [fW fun y hy=>by rw [Lb.mp hy];exact h]
 refine LA fun k _=>?_;show (if ((0:Nat),μ)=(0,k) then 1 else 0)+0=_
 by_cases c:k=μ
 ·rw [if_pos c,if_pos (by rw [c])]
 ·rw [if_neg c,if_neg fun q=>c (by injection q with _ q;exact q.symm)]
end
section
def dA (D:List (List (Nat×Nat))) (a p:Nat):Nat×Nat:=(D.getD a []).getD p (0,0)
def vh (m:Nat) (x y:Nat×Nat):Nat×Nat:=(x.1,(x.2+y.2) % m)
structure cT (n:Nat) (t:List (List Nat)) (e m z:Nat) (D:List (List (Nat×Nat))):Prop where
 lt:∀ a,a<n->∀ p,p<z->(dA D a p).1<z
 mul:∀ a,a<n->∀ b,b<n->∀ p,p<z->dA D (tb t a b) p=vh m (dA D a (dA D b p).1) (dA D b p)
 one:∀ p,p<z->dA D e p=(p,0)
def WOk.rows {n m z a:Nat} {D:List (List (Nat×Nat))} {r:List (Nat×Nat)} (h:WOk n m z D) (hr:D[a]?=some r):r=(K3 z).map (dA D a):=by
 have e1:D.getD a []=r:=by rw [K2,hr];rfl
 have hl:=h.row r (K1 hr);refine Mo (by rw [KY,Ln,hl]) fun k h1 h2=>?_
 rw [MR,Nc];unfold dA;rw [e1,K2,KZ h1];rfl
def WOk.kS {n m z a p:Nat} {D:List (List (Nat×Nat))} (h:WOk n m z D) (ha:a<n) (hp:p<z):∃ r,r∈D/\D[a]?=some r/\r[p]?=some (dA D a p):=by
 obtain ⟨r,h1,h2,h3⟩:=h.get ha;refine ⟨r,h2,h1,?_⟩;rw [h.rows h1,K4,LK hp];rfl
def WOk.GO {n m z a p:Nat} {D:List (List (Nat×Nat))} (h:WOk n m z D) (ha:a<n) (hp:p<z):(dA D a p).2<m:=by
 obtain ⟨r,h1,_,h3⟩:=h.kS ha hp;exact h.lt r h1 _ (K1 h3)
def cT.pl {n e m z:Nat} {t:List (List Nat)} {D:List (List (Nat×Nat))} (h:cT n t e m z D) (wo:WOk n m z D):∀ r∈D,∀ y∈r,y.1<z:=fun r hr y hy=>by
 obtain ⟨a,ha⟩:=LS hr;have han:a<n:=by rw [<- wo.len];exact (K0.mp ha).1
 rw [wo.rows ha] at hy;obtain ⟨p,hp,rfl⟩:=Lc.mp hy;exact h.lt a han p (K7.mp hp)
def qi {D:List (List (Nat×Nat))} {a p:Nat} {r:List (Nat×Nat)} {x:Nat×Nat} (h:D[a]?=some r) (hx:r[p]?=some x):dA D a p=x:=by
 unfold dA;rw [show D.getD a []=r by rw [K2,h];rfl,K2,hx]
 rfl
def rW {α β:Type} {G:α->List β} {z j:Nat} (hj:j<z) {x:α}:∀ {l:List α} {i:Nat},(∀ y∈l,(G y).length=z)->l[i]?=some x->(l.flatMap G)[i * z+j]?=(G x)[j]?
 | [],_,_,h=>by cases h
 | y :: l,0,hl,h=>by
  cases h;rw [Oc,L7,MK,Lq (by rw [hl _ Le];exact hj)]
 | y :: l,i+1,hl,h=>by
  have hy:=hl y Le;rw [MK,Lr (by rw [hy,MU];omega),hy,show (i+1) * z+j - z=i * z+j by rw [MU];omega]
  exact rW hj (fun w hw=>hl w (K8 _ hw)) h
def EL {a b l z:Nat} (ha:a<l) (hb:b<z):a * z+b<l * z:=by
 have:(a+1) * z<=l * z:=NN _ ha;rw [MU] at this;omega
def m4 {l z p:Nat} (h:p<l * z):∃ i j,i<l/\j<z/\p=i * z+j:=by
 have z1:0<z:=Nat.pos_of_ne_zero fun y=>by rw [y,Na] at h;omega
 exact ⟨p / z,p % z,(Nat.div_lt_iff_lt_mul z1).mpr h,Lu _ z1,by have:=NG p z;rw [M7] at this;exact this.symm⟩
def KG {a b c d m:Nat}:((a+b) % m+(c+d) % m) % m=((a+c) % m+(b+d) % m) % m:=by
 rw [<- Pf,<- Pf]
 congr 1
 omega
def cT.bes {n e m z z':Nat} {t:List (List Nat)} {D E:List (List (Nat×Nat))} (gt:GT n t e) (h:cT n t e m z D) (h':cT n t e m z' E) (wo:WOk n m z D) (wo':WOk n m z' E):cT n t e m (z+z') (jS n D E):=by
 have a1:∀ a,a<n->∀ p,p<z->dA (jS n D E) a p=dA D a p:=fun a ha p hp=>by
  obtain ⟨r,h1,h2,h3⟩:=wo.kS ha hp;refine qi (rS ha) ?_;rw [show D.getD a []=r by rw [K2,h2];rfl]
  unfold gB;rw [Lq (by rw [wo.row r h1];exact hp)]
  exact h3
 have a2:∀ a,a<n->∀ p,p<z'->dA (jS n D E) a (z+p)=(z+(dA E a p).1,(dA E a p).2):=fun a ha p hp=>by
  obtain ⟨r',h1',h2',h3'⟩:=wo'.kS ha hp;obtain ⟨r,h1,h2,_⟩:=wo.get ha;have hl:=wo.row r h2;refine qi (rS ha) ?_;rw [show D.getD a []=r by rw [K2,h1];rfl,show E.getD a []=r' by rw [K2,h2'];rfl]
  unfold gB;rw [Lr (by omega),hl,Nat.add_sub_cancel_left,K4,h3']
  rfl
 have sp:∀ p,p<z+z'->p<z\/∃ q,q<z'/\p=z+q:=fun p hp=>by
  rcases LD p z with y|y
  ·exact .inl y
  ·exact .inr ⟨p - z,by omega,by omega⟩
 refine ⟨fun a ha p hp=>?_,fun a ha b hb p hp=>?_,fun p hp=>?_⟩
 ·rcases sp p hp with y|⟨q,y,rfl⟩
  ·rw [a1 a ha p y];have:=h.lt a ha p y;omega
  ·rw [a2 a ha q y];have:=h'.lt a ha q y;show z+_<_;omega
 ·have hab:=gt.lt a b ha hb;rcases sp p hp with y|⟨q,y,rfl⟩
  ·rw [a1 _ hab p y,a1 b hb p y,a1 a ha _ (h.lt b hb p y)];exact h.mul a ha b hb p y
  ·rw [a2 _ hab q y,a2 b hb q y,a2 a ha _ (h'.lt b hb q y),h'.mul a ha b hb q y];rfl
 ·rcases sp p hp with y|⟨q,y,rfl⟩
  ·rw [a1 e gt.elt p y];exact h.one p y
  ·rw [a2 e gt.elt q y,h'.one q y]
def cT.cro {n e m z z':Nat} {t:List (List Nat)} {D E:List (List (Nat×Nat))} (gt:GT n t e) (h:cT n t e m z D) (h':cT n t e m z' E) (wo:WOk n m z D) (wo':WOk n m z' E):cT n t e m (z * z') (lr n m D E):=by
 have a1:∀ a,a<n->∀ i,i<z->∀ j,j<z'->dA (lr n m D E) a (i * z'+j)=((dA D a i).1 * z'+(dA E a j).1,((dA D a i).2+(dA E a j).2) % m):=fun a ha i hi j hj=>by
  obtain ⟨r,h1,h2,h3⟩:=wo.kS ha hi;obtain ⟨r',h1',h2',h3'⟩:=wo'.kS ha hj;have hl:=wo'.row r' h1';refine qi (AH ha) ?_;rw [show D.getD a []=r by rw [K2,h2];rfl,show E.getD a []=r' by rw [K2,h2'];rfl]
  unfold cH;rw [rW hj (fun y _=>by rw [KY,hl]) h3,K4,h3',hl]
  rfl
 refine ⟨fun a ha p hp=>?_,fun a ha b hb p hp=>?_,fun p hp=>?_⟩
 ·obtain ⟨i,j,hi,hj,rfl⟩:=m4 hp;rw [a1 a ha i hi j hj];exact EL (h.lt a ha i hi) (h'.lt a ha j hj)
 ·obtain ⟨i,j,hi,hj,rfl⟩:=m4 hp;rw [a1 _ (gt.lt a b ha hb) i hi j hj,a1 b hb i hi j hj,a1 a ha _ (h.lt b hb i hi) _ (h'.lt b hb j hj),h.mul a ha b hb i hi,h'.mul a ha b hb j hj];unfold vh;dsimp only;rw [KG]
 ·obtain ⟨i,j,hi,hj,rfl⟩:=m4 hp;rw [a1 e gt.elt i hi j hj,h.one i hi,h'.one j hj];show (i * z'+j,(0+0) % m)=_;rw [MA,OI]
def cT.back {n e m z:Nat} {t:List (List Nat)} {D:List (List (Nat×Nat))} (gt:GT n t e) (h:cT n t e m z D) (wo:WOk n m z D):cT n t e m z (gf m D):=by
 have a1:∀ a,a<n->∀ p,p<z->dA (gf m D) a p=((dA D a p).1,(m - (dA D a p).2) % m):=fun a ha p hp=>by
  obtain ⟨r,h1,h2,h3⟩:=wo.kS ha hp;unfold gf;refine qi (r:=r.map fun y=>(y.1,(m - y.2) % m)) (by rw [K4,h2];rfl) ?_
  rw [K4,h3];rfl
 refine ⟨fun a ha p hp=>?_,fun a ha b hb p hp=>?_,fun p hp=>?_⟩
 ·rw [a1 a ha p hp];exact h.lt a ha p hp
 ·have hq:=h.lt b hb p hp;rw [a1 _ (gt.lt a b ha hb) p hp,a1 b hb p hp,a1 a ha _ hq,h.mul a ha b hb p hp];unfold vh;dsimp only;have x1:=wo.GO ha hq;have x2:=wo.GO hb hp;generalize (dA D a (dA D b p).1).2=x at x1;generalize (dA D b p).2=y at x2
  congr 1
  rw [<- Pf];rcases LD (x+y) m with c|c
  ·rw [LJ c,show m - x+(m - y)=m - (x+y)+m by omega,Nat.add_mod_right]
  ·rw [OH c,LJ (show x+y - m<m by omega),show m - (x+y - m)=m - x+(m - y) by omega]
 ·rw [a1 e gt.elt p hp,h.one p hp];show (p,(m - 0) % m)=_;rw [PX,NH]
def cT.part {n e m z:Nat} {t:List (List Nat)} {R:List Nat} {D:List (List (Nat×Nat))} (gt:GT n t e) (pt:IsPart n t R) (h:cT n t e m z D):cT R.length (cV t R) (R.idxOf e) m z (f6 D R):=by
 have a1:∀ a,a<R.length->∀ p,dA (f6 D R) a p=dA D (R.getD a 0) p:=fun a ha p=>by
  unfold dA f6;rw [K2 (l:=R.map _),K4,getD_some 0 ha];rfl
 have lt:∀ a,a<R.length->R.getD a 0<n:=fun a ha=>pt.lt _ (cp pt ha).1;refine ⟨fun a ha p hp=>?_,fun a ha b hb p hp=>?_,fun p hp=>?_⟩
 ·rw [a1 a ha p];exact h.lt _ (lt a ha) p hp
 ·have hc:=pt.cl _ (cp pt ha).1 _ (cp pt hb).1;rw [ub pt ha hb,a1 _ (br hc).1 p,(br hc).2,a1 b hb p,a1 a ha];exact h.mul _ (lt a ha) _ (lt b hb) p hp
 ·rw [a1 _ (br (pt.un gt)).1 p,(br (pt.un gt)).2];exact h.one p hp
def cT.rai {n e m z:Nat} {t:List (List Nat)} {R:List Nat} {D:List (List (Nat×Nat))} (gt:GT n t e) (pt:IsPart n t R) (wo:WOk R.length m z D) (h:cT R.length (cV t R) (R.idxOf e) m z D):cT n t e m ((aS n t e R).length * z) (fN n t e R D z):=by
 have a1:∀ a,a<n->∀ i c,(aS n t e R)[i]?=some c->∀ j,j<z->dA (fN n t e R D z) a (i * z+j)=(hm n t e R (tb t a c) * z+(dA D (R.idxOf (ov n t e R (tb t a c))) j).1,(dA D (R.idxOf (ov n t e R (tb t a c))) j).2):=fun a ha i c hc j hj=>by
  have mv:=qI gt pt ha;have cn:=bE (K1 hc);obtain ⟨_,_,_,_,h4⟩:=kD gt pt (gt.lt a c ha cn);obtain ⟨r,h1,h2,h3⟩:=wo.kS (br h4).1 hj;refine qi (n9 ha) ?_;unfold cE;rw [rW hj (x:=(hm n t e R (tb t a c),R.idxOf (ov n t e R (tb t a c)))) (fun y hy=>?_) (by rw [K4,hc];rfl),K4]
  ·show (Option.map _ ((D.getD (R.idxOf (ov n t e R (tb t a c))) [])[j]?))=_;rw [show D.getD (R.idxOf (ov n t e R (tb t a c))) []=r by rw [K2,h2];rfl,h3]
   rfl
  ·obtain ⟨r',_,y2,y3⟩:=wo.get (mv y hy);rw [KY,y3];exact wo.row r' y2
 have ex:∀ i,i<(aS n t e R).length->∃ c,(aS n t e R)[i]?=some c/\c<n:=fun i hi=>⟨_,KZ hi,bE (MG hi)⟩;have at':∀ {x:Nat},x∈R->R[R.idxOf x]?=some x:=fun hx=>by
  have:=br hx;rw [getD_some 0 this.1,this.2]
 refine ⟨fun a ha p hp=>?_,fun a ha b hb p hp=>?_,fun p hp=>?_⟩
 ·obtain ⟨i,j,hi,hj,rfl⟩:=m4 hp;obtain ⟨c,hc,cn⟩:=ex i hi;obtain ⟨c',z1,_,_,z4⟩:=kD gt pt (gt.lt a c ha cn);rw [a1 a ha i c hc j hj];exact EL (K0.mp z1).1 (h.lt _ (br z4).1 j hj)
 ·obtain ⟨i,j,hi,hj,rfl⟩:=m4 hp;obtain ⟨c,hc,cn⟩:=ex i hi;obtain ⟨c',k',z1,z2,_,z4⟩:=qK gt pt (gt.lt b c hb cn);have hR:=K1 z2;have cn':=bE (K1 z1);obtain ⟨c2,k2,y1,y2,_,y4⟩:=qK gt pt (gt.lt a c' ha cn');have hR2:=K1 y2;have cn2:=bE (K1 y1);have i1:=(br hR).1;have i2:=(br hR2).1;have hcl:=pt.cl _ hR2 _ hR;have hn:=pt.lt _ hR;have hn2:=pt.lt _ hR2;have key:=yg gt pt y1 (at' hcl) (x:=tb t (tb t a b) c) (by rw [<- gt.assoc _ _ _ cn2 hn2 hn,y4,gt.assoc _ _ _ ha cn' hn,z4,gt.assoc _ _ _ ha hb cn])
  have hq:=h.lt _ i1 j hj;rw [a1 _ (gt.lt a b ha hb) i c hc j hj,a1 b hb i c hc j hj,key.1,key.2,a1 a ha _ c' z1 _ hq];have mu:=h.mul _ i2 _ i1 j hj;rw [ub pt i2 i1,(br hR2).2,(br hR).2] at mu;rw [mu];rfl
 ·obtain ⟨i,j,hi,hj,rfl⟩:=m4 hp;obtain ⟨c,hc,cn⟩:=ex i hi;have key:=yg gt pt hc (at' (pt.un gt)) (x:=tb t e c) (by rw [gt.unr c cn,gt.unl c cn])
  rw [a1 e gt.elt i c hc j hj,key.1,key.2,h.one j hj]
def oo (R M:List Nat):List (List (Nat×Nat)):=(K3 R.length).map fun a=>[(0,M.getD a 0)]
section
variable {n e m:Nat} {t:List (List Nat)} {R M:List Nat} (gt:GT n t e) (pt:IsPart n t R) (ml:M.length=R.length) (mm:∀ x∈M,x<m) (m1:0<m) (m60:m<=60) (ok:∀ j,j<R.length->∀ k,k<R.length->fV t R M m j k)
include ml mm m1 m60
theorem BL:WOk R.length m 1 (oo R M):=by
 refine ⟨by unfold oo;rw [KY,Ln],fun r hr=>?_,fun r hr y hy=>?_,m1,m60,by omega,Lj _⟩
 ·obtain ⟨a,_,rfl⟩:=Lc.mp hr;rfl
 ·obtain ⟨a,ha,rfl⟩:=Lc.mp hr;rw [Lb.mp hy];exact mm _ (K1 (getD_some (l:=M) 0 (by rw [ml];exact K7.mp ha)))
omit m60 in
include gt pt ok in
theorem Ib:cT R.length (cV t R) (R.idxOf e) m 1 (oo R M):=by
 have a1:∀ a,a<R.length->dA (oo R M) a 0=(0,M.getD a 0):=fun a ha=>by
  unfold oo;exact qi (by rw [K4,LK ha];rfl) rfl
 refine ⟨fun a ha p hp=>?_,fun a ha b hb p hp=>?_,fun p hp=>?_⟩
 ·cases (show p=0 by omega)
  rw [a1 a ha];exact Nat.one_pos
 ·cases (show p=0 by omega)
  have hc:=pt.cl _ (cp pt ha).1 _ (cp pt hb).1;rw [ub pt ha hb,a1 _ (br hc).1,a1 b hb,a1 a ha];unfold vh;rw [show M.getD (R.idxOf (tb t (R.getD a 0) (R.getD b 0))) 0=_ from ok a ha b hb]
 ·cases (show p=0 by omega)
  have hi:=(br (pt.un gt)).1;rw [a1 _ hi];have h1:=ok _ hi _ hi;unfold fV at h1;rw [(br (pt.un gt)).2,gt.unl e gt.elt] at h1;have h2:M.getD (R.idxOf e) 0<m:=mm _ (K1 (getD_some (l:=M) 0 (by omega)))
  congr 1
  rcases LD (M.getD (R.idxOf e) 0+M.getD (R.idxOf e) 0) m with y|y
  ·rw [LJ y] at h1;omega
  ·rw [OH y,LJ (by omega)] at h1;omega
include gt pt ok in
theorem Gs:cT n t e m (aS n t e R).length (fG n t e R M):=by
 have:=cT.rai gt pt (BL ml mm m1 m60) (Ib gt pt ml mm m1 ok);rw [Nat.mul_one] at this;unfold oo at this;rw [Ai gt pt] at this;exact this
include gt pt in
theorem Dj:(fG n t e R M).map (cnt m)=jW n t e R (M.map fun μ=>(K3 m).map fun k=>if k=μ then 1 else 0) m:=by
 have e1:=wF gt pt (BL ml mm m1 m60) fun r hr y hy=>by
  obtain ⟨a,_,rfl⟩:=Lc.mp hr;rw [Lb.mp hy];exact Nat.one_pos
 have e2:(oo R M).map (cnt m)=M.map fun μ=>(K3 m).map fun k=>if k=μ then 1 else 0:=by
  rw [map_getD (R:=M),ml];unfold oo;rw [MN];refine LA fun a ha=>?_;exact Hr (mm _ (K1 (getD_some (l:=M) 0 (by rw [ml];exact K7.mp ha))))
 rw [e2] at e1;unfold oo at e1;rw [Ai gt pt] at e1;exact e1
end
end
section
variable {P:Lp} {w:World} {K:KW} {mg:Str->Option Value} {base:Heap}
def BF {H:Hp} {v u:V} {l r:List Nat} {σ:St} {Q:VK} {own:List Str} {te:TE} (hv:At K H v l) (hu:At K H u r) (he:l.length=r.length) (hz:l.length<=1000) (h0:∃ a b,bB own [] σ=[a,b])
  (go:∀ (x y:Nat) (H2:Hp) (R:V->Hp->Prop),R (.int ((x+y:Nat):Int)) H2->te [some (.int (x:Int)),some (.int (y:Int))] H2 R) (hq:∀ b H',H b=none->ai H H'->H' b=some (.lst (aA (Ma (·+·) l r)))->Q (.ref b) H') :
  rQ K [v,u] H (cS own [] (jQ K 2 (cW (cw 0) (cW (cw 1) jM))) sL te σ Q):=by
 obtain ⟨p,rfl,hS⟩:=gU hv;obtain ⟨p2,rfl,hS2⟩:=gU hu;obtain ⟨a0,b0,h0⟩:=h0;refine zo (by rw [KY,KY,he]) (by rw [KY];omega) (fun d i σ' H' zs=>ai H H'/\zs=aA ((Ma (·+·) l r).take i)/\∃ a b,σ'=[a,b]) (fun d i σ' H' zs z=>z.1.seq hS) (fun d i σ' H' zs z=>z.1.seq hS2) hS hS2
  (fun d i σ' H' zs hi z=>by rw [z.2.1];unfold aA;rw [KY,Lh];omega) (fun d hd=>⟨aw hd _,by simp [aA],_,_,h0⟩) ?_ ?_
 ·rintro d i x y σ' H' H2 zs R R0 hd hx hy ⟨s1,rfl,a1,b1,rfl⟩ hzs s2 hR hR0;rw [K4] at hx hy;obtain ⟨x',hx',rfl⟩:=Mv.mp hx;obtain ⟨y',hy',rfl⟩:=Mv.mp hy;refine nR ?_;refine pB ?_;refine go _ _ _ _ (hR _ _ _ (s2 _ _ hzs) ⟨fun b o zz=>by rw [av (aH zz hd)];exact s2 _ _ (s1 _ _ zz),?_,_,_,rfl⟩)
  rw [Lv,NI,hx',hy'];unfold aA;rw [LR];rfl
 ·rintro d σ' H' zs hd hzs ⟨s1,rfl,_⟩;rw [KY,Lf (by simp;omega)] at hzs
  exact hq d H' hd s1 hzs
def DO {n e i:Nat} {t:List (List Nat)} {R:List Nat} (gt:GT n t e) (pt:IsPart n t R) (hi:i<n):kK n t e R i=true↔i∉(c9 n t e R i).flatMap fun c=>R.map (tb t c):=by
 have key:i∈((c9 n t e R i).flatMap fun c=>R.map (tb t c))↔∃ c∈c9 n t e R i,tb t (bq n t e c) i∈R:=by
  rw [M4];refine exists_congr fun c=>and_congr_right fun hc=>?_;rw [Lc,dU gt pt (by have:=(kC.mp hc).1;omega) hi]
 rw [key];unfold kK;rw [decide_eq_true_iff];constructor
 ·rintro h ⟨c,hc,q⟩;exact h c (kC.mp hc).1 q
 ·intro h y hy q;obtain ⟨c,hc,hcR⟩:=qk gt pt i hi;rcases LD c i with z|z
  ·exact h ⟨c,kC.mpr ⟨z,(eX.mp hc).2⟩,hcR⟩
  ·have:c=i:=by have:=Ii gt pt hi hc hcR;omega
   exact (eX.mp hc).2 y (by omega) (this ▸ q)
inductive uG (K:KW) (vs:List V) (H:Hp) (Q:VK) (E:XK):Prop
 | mk (v u:V) (n e:Nat) (t:List (List Nat)) (R:List Nat) (_:vs=[v,u]) (_:At K H v t) (_:GT n t e) (_:At K H u R) (_:IsPart n t R) (_:∀ dc H',ai H H'->H' dc=some (.lst (aA (aS n t e R)))->Q (.ref dc) H')
def sT (T:Txt K mg):aJ P w K mg base CX0 1 T.gh.f T.gh.fd ["_law_table","_law_part"] (uG K):=by
 exists T.gh.ok eB
 ·obtain ⟨v,u,n,e,t,R,rfl,_⟩:=h;rfl
 obtain ⟨v,u,n,e,t,R,rfl,hT,gt,hR,pt,q⟩:=h;have n23:=gt.le;have rl:=pt.len;refine ⟨_,(ae (aq (i:=2) eB.nd rfl (K6 rfl) (bP aa))
   (ae (aq (i:=3) eB.nd rfl (K6 rfl) (bP aa))
   (ae (ba Ld rfl (aM rfl T.aZ (paF (aI (aN K rfl) rfl T.bA Lo (paF (pv 0) aa)) aa)) (ar (i:=4) eB.nd rfl (Ni rfl)) (af (a8 (aD (wz K rfl) (pv 4) (pv 3) (by with_unfolding_all rfl)) (ae (aV (bZ K rfl Lk Lw Lx bF (pv 2) (paF (pv 4) aa)))
   (af (aq (i:=3) eB.nd rfl (K6 rfl) (ak zi (pv 3) (bu rfl ka (aT K rfl (pv 1)) (fun _ _ _ _=>⟨(ar (i:=0) ka.nd rfl (K6 rfl)),aX,(ao (aj K rfl) (ao (aj K rfl) (pv 1) (pv 2) (fun _ _=>rfl)) (pv 0) (fun _ _=>rfl))⟩)))))) aQ)))
   (af (aK (pv 2)))))),?_⟩
 walk_at "2";refine ⟨small (by show 0<=1000;decide),fun pc hpc=>?_⟩
 have s0:=aw hpc (.lst []);have c0:(upd H pc (.lst [])) pc=some (.lst (aA (c9 n t e R 0))):=au;generalize upd H pc (.lst [])=H0 at s0 c0;walk_at "2";refine ⟨small (by show 0<=1000;decide),fun pe hpe=>?_⟩
 have s1:=s0.trans (aw hpe (.lst []));have c1:=(aw hpe (.lst [])) _ _ c0;have e1:(upd H0 pe (.lst [])) pe=some (.lst (aA ((c9 n t e R 0).flatMap fun c=>R.map (tb t c)))):=au;have ne1:pe≠pc:=(b4 c0 hpe).symm;generalize upd H0 pe (.lst [])=H1 at s1 c1 e1;walk_at "rn";refine b8 (Rep.mono s1 hT) ?_;rw [gt.len];refine bK (n:=n) rfl (by omega) (fun i σ' H'=>ai H H'/\H' pc=some (.lst (aA (c9 n t e R i)))/\∃ (pe:Addr) (x4:Option V),pe≠pc/\H' pe=some (.lst (aA ((c9 n t e R i).flatMap fun c=>R.map (tb t c))))/\σ'=[some v,some u,some (.ref pc),some (.ref pe),x4]) ⟨s1,c1,pe,_,ne1,e1,rfl⟩ ?_ ?_
 ·rintro i σ' H2 hi ⟨s2,c2,pe,x4,ne2,e2,rfl⟩;have cs:=DO gt pt hi;have su:=AQ (n:=n) (t:=t) (e:=e) (R:=R) i;have cl:(c9 n t e R i).length<=i:=by
   have:=Nb (kK n t e R) (K3 i);rw [Ln] at this;exact this
  have fl:((c9 n t e R i).flatMap fun c=>R.map (tb t c)).length<=23 * 23:=by
   rw [rO (k:=R.length) fun c _=>KY _];exact Nat.mul_le_mul (by omega) (by omega)
  walk_at "1";refine BJ (bS e2) ?_;walk_at "rn";refine bT (fun z=>?_) (fun z=>?_)
  ·rw [if_pos (cs.mpr z)] at su;have g2:Gr K H2 pc (c9 n t e R i):=⟨_,c2,i7⟩;walk_at "rn";refine ⟨g2.ty,?_⟩;walk_at "rn";refine fX (b:=i) g2 (by omega) rfl fun H3 g3 k3 _=>?_
   have s3:=ai.but hpc s2 k3;have e3:=k3 _ _ ne2 e2;have c3:=dB g3;rw [<- su] at c3;walk_at "rn";refine gW (α:=Nat) (β:=Nat) (Rep.mono s3 hR) (by omega) (fun j=>(R.map (tb t i)).take j) (fun σ'=>∃ y,σ'=[y,some v,some (.int (i:Int))]) rfl (fun i _=>by rw [Lh];omega) ⟨_,rfl⟩ ?_ ?_
   ·rintro j b w2 σ' H4 d4 R4 R04 hb hs4 hw2 ⟨y,rfl⟩ hR4 hR04 hd4;cases (show w2=V.int (b:Int) from hw2);have hbn:=pt.lt b (K1 hb);walk_at "rn";refine cI (Rep.mono (s3.trans hs4) hT) rfl (gt.get hi) fun w1 hw1=>?_;walk_at "rn";refine bh hw1 (gt.cZ hi hbn) ?_;exact hR4 _ _ _ _ ⟨_,rfl⟩ (ai.refl _) rfl (by rw [Lv,K4,hb];rfl)
   ·intro d4 H4 fd4 s4 h4;have g4:Gr K H4 d4 ((R.map (tb t i)).take R.length):=h4;rw [Lf (by simp)] at g4
    have e4:=s4 _ _ e3;have c4:=s4 _ _ c3;refine ⟨pe,d4,_,_,rfl,rfl,e4,dB g4,L4 (show (aA _).length+(aA _).length<=1000 by unfold aA;rw [KY,KY,KY];omega) (by rw [L5];decide),fun d hd=>?_⟩
    walk_at "rn";refine ⟨s3.trans (s4.trans (aw hd _)),by rw [av (b4 c4 hd)];exact c4,d,_,(b4 c4 hd).symm,?_,rfl⟩
    rw [au,su,Ox];unfold aA;rw [LR];simp
  ·rw [if_neg fun y=>cs.mp y z] at su;walk_at "rn";exact ⟨s2,by rw [su];exact c2,pe,_,ne2,by rw [su];exact e2,rfl⟩
 ·rintro σ' H2 ⟨s2,c2,pe,x4,ne2,e2,rfl⟩;walk_at "rn";exact q pc H2 s2 c2
inductive xT (K:KW) (vs:List V) (H:Hp) (Q:VK) (E:XK):Prop
 | mk (d dp:Addr) (v:V) (n e m:Nat) (t:List (List Nat)) (ps:List Addr) (R:List Nat) (L:List (List Nat)) (_:vs=[.ref d,.ref dp,v,.int (m:Int)]) (_:Tbl H d t ps) (_:GT n t e) (_:H dp=some (.lst (aA R))) (_:IsPart n t R) (_:At K H v L) (_:L.length=R.length) (_:(∀ l∈L,l.length=m)) (_:1<=m) (_:m<=60) (_:∀ df H',ai H H'->At K H' (.ref df) (jW n t e R L m)->Q (.ref df) H')
def oC (T:Txt K mg):aJ P w K mg base CX0 3 T.fO.f T.fO.fd ["_law_table","_law_part","_law_traces","_law_spokes"] (xT K):=by
 exists T.fO.ok cK
 ·obtain ⟨d,dp,v,n,e,m,t,ps,R,L,rfl,_⟩:=h;rfl
 obtain ⟨d,dp,v,n,e,m,t,ps,R,L,rfl,tb0,gt,hR,pt,hL,ll,lm,m1,m60,q⟩:=h;have n23:=gt.le;refine ⟨_,(ae (aq (i:=4) cK.nd rfl (K6 rfl) (ay T.jf (yY T) (hr.mono (by decide)) rfl (paF (pv 0) aa)))
   (ae (aq (i:=5) cK.nd rfl (K6 rfl) (bP aa))
   (ae (ba Ld rfl (aM rfl T.aZ (paF (aI (aN K rfl) rfl T.bA Lo (paF (pv 0) aa)) aa)) (ar (i:=6) cK.nd rfl (K6 rfl)) (ae (aq (i:=7) cK.nd rfl (K6 rfl) (ak zO (bP (paF ag aa)) (pv 3)))
   (ae (ba Ld rfl (aT K rfl (ay T.gh (sT T) (hr.mono (by decide)) rfl (paF (pv 0) (paF (pv 1) aa)))) (ar (i:=8) cK.nd rfl (K6 rfl)) (ae (aq (i:=9) cK.nd rfl (K6 rfl) (ao (aj K rfl) (ao (aj K rfl) (pv 0) (ao (aj K rfl) (ao (aj K rfl) (pv 0) (ao (aj K rfl) (pv 4) (pv 8) (fun _ _=>rfl)) (fun _ _=>rfl)) (pv 6) (fun _ _=>rfl)) (fun _ _=>rfl)) (pv 8) (fun _ _=>rfl)))
   (af (a8 (aD (JW K rfl) (pv 9) (pv 1) (by with_unfolding_all rfl)) (ae (aq (i:=10) cK.nd rfl (K6 rfl) (ao (aj K rfl) (pv 2) (bZ K rfl Lk MT Nn nP (pv 1) (paF (pv 9) aa)) (fun _ _=>rfl)))
   (af (bV (i:=7) rfl cK.nd rfl (K6 rfl) l9 (kF K rfl rfl T.nC (paF (pv 7) (paF (pv 10) aa))) (fun _ _ _ _=>⟨(jD K rfl (i:=0) (j:=1) rfl l9.nd rfl (K6 rfl) rfl (K6 rfl)),aX,(ak aW (pv 0) (pv 1))⟩) rfl))) aQ))))
   (af (aV (bZ K rfl Lk Lw Lx bF (pv 5) (paF (pv 7) aa)))))))
   (af (aK (pv 5)))))),?_⟩
 walk_at "rn";refine ⟨d,n,e,t,ps,rfl,tb0,gt,fun db H1 s1 aB=>?_⟩;walk_at "2";refine ⟨small (by show 0<=1000;decide),fun df hdf=>?_⟩
 have s2:=aw hdf (.lst []);have t2:Tbl (upd H1 df (.lst [])) df ((jW n t e R L m).take 0) []:=Tbl.nil;generalize upd H1 df (.lst [])=H2 at s2 t2;have rn:(jW n t e R L m).length=n:=by unfold jW;rw [KY,Ln]
 walk_at "rn";refine b8 (tb0.mono (s1.trans s2)).at ?_;rw [gt.len];refine bK (n:=n) rfl (by omega) (fun i σ' H'=>ai H1 H'/\∃ (qs:List Addr) (f:Nat->Option V),Tbl H' df ((jW n t e R L m).take i) qs/\σ'=[some (.ref d),some (.ref dp),some v,some (.int (m:Int)),some (.ref db),some (.ref df),f 0,f 1,f 2,f 3,f 4]) ⟨s2,[],bJ [_,_,_,_,_],t2,rfl⟩ ?_ ?_
 ·rintro i σ' H3 hi ⟨s3,qs,f,t3,rfl⟩;walk_at "2";refine ⟨small (by show 1<=1000;decide),fun p1 hp1=>?_⟩
  have s4:=aw hp1 (.lst [.int ((0:Nat):Int)]);have h4:(upd H3 p1 (.lst [.int ((0:Nat):Int)])) p1=some (.lst [.int ((0:Nat):Int)]):=au;generalize upd H3 p1 (.lst [.int ((0:Nat):Int)])=H4 at s4 h4;walk_at "rn";refine ⟨p1,_,_,rfl,rfl,h4,by omega,by omega,?_,fun c hc=>?_⟩
  ·rw [L5];show 1 * _<=_;omega
  rw [show ((m:Nat):Int).toNat=m by omega,CQ]
  have fc:H3 c=none:=s4.free hc;have s5:=s4.trans (aw hc (.lst (aA (Ll m 0))));have h5:(upd H4 c (.lst (aA (Ll m 0)))) c=some (.lst (aA (gN n t e R L m i ((aS n t e R).take 0)))):=by
   rw [au]
   congr 3
   refine Mo (by unfold gN;simp) fun k h1 h2=>by unfold gN;simp [ls]
  generalize upd H4 c (.lst (aA (Ll m 0)))=H5 at s5 h5;have s15:=s1.trans (s3.trans s5);walk_at "rn";refine ⟨_,_,n,e,t,R,rfl,(tb0.mono s15).at,gt,bS (s15 _ _ hR),pt,fun dc H6 s6 h6=>?_⟩;walk_at "rn";refine iW (H₀:=H6) (α:=Nat) (bS h6) (fun j σ' H'=>ai H6 H'/\∃ (c:Addr) (f:Nat->Option V),H3 c=none/\H' c=some (.lst (aA (gN n t e R L m i ((aS n t e R).take j))))/\σ'=[some (.ref d),some (.ref dp),some v,some (.int (m:Int)),some (.ref db),some (.ref df),some (.int (i:Int)),some (.ref c),f 0,f 1,f 2]) ⟨ai.refl _,c,bJ [_,_,_],fc,s6 _ _ h5,rfl⟩ (fun j σ' H' z=>z.1) ?_ ?_
  ·rintro j x w' σ' H7 hx hw ⟨s7,c,f,fc,h7,rfl⟩;cases (show w'=V.int (x:Int) from hw);have xn:=bE (K1 hx);have bn:=gt.mh xn;have bi:=gt.lt _ _ bn hi;have s17:=(s3.trans s5).trans (s6.trans s7);have s07:=s1.trans s17;have tb7:=(tb0.mono s07).at (K:=K);have hR7:=s07 _ _ hR;walk_at "rn";refine bh (Rep.mono s17 aB) (c:=bq n t e x) (by unfold bks;rw [K4,LK xn];rfl) ?_
   refine cI tb7 rfl (gt.get bn) fun w1 hw1=>?_;walk_at "rn";refine bh hw1 (gt.cZ bn hi) ?_;refine cI tb7 rfl (gt.get bi) fun w2 hw2=>?_;walk_at "rn";refine bh hw2 (gt.cZ bi xn) ?_;walk_at "1";refine JZ (bS hR7) ?_;walk_at "rn";refine bf (fun z=>?_) (fun z=>?_)
   ·have il:=LH z;have hlx:=KZ (show R.idxOf (cj n t e x i)<L.length by rw [ll];exact il)
    have lmx:=lm _ (K1 hlx);walk_at "rn";refine ⟨.inl ⟨rfl,_,SqL.of hR7⟩,?_⟩;walk_at "rn";refine qB hR7 (qJ z) (fun i' hi'=>mz hi') ?_;refine cI (Rep.mono s07 hL) rfl hlx fun w3 hw3=>?_;walk_at "7";have vl:(gN n t e R L m i ((aS n t e R).take j)).length=m:=by unfold gN;rw [KY,Ln]
    refine BF (bS h7) hw3 (by rw [vl,lmx]) (by omega) ⟨_,_,rfl⟩ (fun a b H8 R8 hR8=>?_) fun b H8 fb s8 h8=>?_
    ·walk_at "rn";exact hR8
    rw [<- EX hx z hlx lmx] at h8;walk_at "rn";exact ⟨s7.trans s8,b,bJ [_,_,_],(s5.trans (s6.trans s7)).free fb,h8,rfl⟩
   ·walk_at "rn";exact ⟨s7,c,bJ [_,_,_],fc,by rw [HE hx z];exact h7,rfl⟩
  ·rintro σ' H7 ⟨s7,c,f,fc,h7,rfl⟩;rw [Mn] at h7;have s37:=s5.trans (s6.trans s7);have tb7:=t3.mono s37;have np:c∉qs:=fun z=>by
    obtain ⟨k,hk⟩:=LS z;have hk':k<((jW n t e R L m).take i).length:=by rw [<- t3.len];exact (K0.mp hk).1
    have:=t3.row k c _ hk (KZ hk');rw [fc] at this;cases this
   have ql:qs.length<=23:=by rw [t3.len,Lh];omega
   walk_at "rn";refine ⟨.inl ⟨rfl,_,SqL.of tb7.top⟩,?_⟩;walk_at "rn";refine ⟨df,_,_,rfl,rfl,tb7.top,LO (show (qs.map V.ref).length<=1000 by rw [KY];omega) (by rw [L5];decide),?_⟩
   refine ⟨eU hdf (s3.trans s37),qs++[c],bJ [_,_,_,_,_],?_,rfl⟩;have:=tb7.snoc (ai.refl _) h7 np (b4 t3.top fc).symm;rw [Lv,show (jW n t e R L m)[i]?=some (gN n t e R L m i (aS n t e R)) by unfold jW;rw [K4,LK hi];rfl]
   exact this
 ·rintro σ' H3 ⟨s3,qs,f,t3,rfl⟩;rw [Lf (by omega)] at t3
  walk_at "rn";exact q df H3 (s1.trans s3) t3.at
inductive xt (K:KW) (vs:List V) (H:Hp) (Q:VK) (E:XK):Prop
 | mk (d dp:Addr) (u:V) (n e m:Nat) (t:List (List Nat)) (ps:List Addr) (R M:List Nat) (_:vs=[.ref d,.ref dp,u,.int (m:Int)]) (_:Tbl H d t ps) (_:GT n t e) (_:H dp=some (.lst (aA R))) (_:IsPart n t R) (_:At K H u M) (_:M.length=R.length) (_:1<=m) (_:m<=60) (_:∀ df H',ai H H'->At K H' (.ref df) (jW n t e R (M.map fun μ=>(K3 m).map fun k=>if k=μ then 1 else 0) m)->Q (.ref df) H')
def xr (T:Txt K mg):aJ P w K mg base CX0 4 T.ig.f T.ig.fd ["_law_table","_law_part","_law_marks","_law_spokes"] (xt K):=by
 exists T.ig.ok jV
 ·obtain ⟨d,dp,u,n,e,m,t,ps,R,M,rfl,_⟩:=h;rfl
 obtain ⟨d,dp,u,n,e,m,t,ps,R,M,rfl,tb0,gt,hR,pt,hM,ml,m1,m60,q⟩:=h;have n23:=gt.le;have rl:=pt.len;refine ⟨_,(ae (aq (i:=4) jV.nd rfl (K6 rfl) (bP aa))
   (ae (ba Ld rfl (aT K rfl (pv 2)) (ar (i:=5) jV.nd rfl (Ni rfl)) (af (aV (bZ K rfl Lk Lw Lx bF (pv 4) (paF (bu rfl mq (aM rfl T.aZ (paF (pv 3) aa)) (fun _ _ _ _=>⟨(ar (i:=0) mq.nd rfl (K6 rfl)),aX,(cJ xb rfl T.Cj Od (paF (d9 cb (pv 0) (pv 1) (aG _)) aa))⟩)) aa)))))
   (af (aK (ay T.fO (oC T) (hr.mono (by decide)) rfl (paF (pv 0) (paF (pv 1) (paF (pv 4) (paF (pv 3) aa))))))))),?_⟩
 walk_at "2";refine ⟨small (by show 0<=1000;decide),fun df hdf=>?_⟩
 have s0:=aw hdf (.lst []);have t0:Tbl (upd H df (.lst [])) df ((M.map fun μ=>(K3 m).map fun k=>if k=μ then 1 else 0).take 0) []:=Tbl.nil;generalize upd H df (.lst [])=H0 at s0 t0;walk_at "rn";refine iW (H₀:=H) (α:=Nat) hM (fun i σ' H'=>ai H H'/\∃ (qs:List Addr) (x5:Option V),Tbl H' df ((M.map fun μ=>(K3 m).map fun k=>if k=μ then 1 else 0).take i) qs/\σ'=[some (.ref d),some (.ref dp),some u,some (.int (m:Int)),some (.ref df),x5]) ⟨s0,[],_,t0,rfl⟩ (fun i σ' H' z=>z.1) ?_ ?_
 ·rintro i μ w' σ' H1 hμ hw ⟨s1,qs,x5,t1,rfl⟩;cases (show w'=V.int (μ:Int) from hw);have il:=(K0.mp hμ).1;have ql:qs.length<=23:=by rw [t1.len,Lh];omega
  walk_at "rn";refine ⟨.inl ⟨rfl,_,SqL.of t1.top⟩,?_⟩;walk_at "rn";refine eV K (n:=m) (β:=Nat) rfl (by omega) (fun j=>((K3 m).map fun k=>if k=μ then 1 else 0).take j) (fun σ'=>∃ y,σ'=[y,some (.int (μ:Int))]) rfl (fun i _=>by rw [Lh];omega) ⟨_,rfl⟩ ?_ ?_
  ·rintro j σ' H3 d3 R3 R03 hj hs3 ⟨y,rfl⟩ hR3 hR03 hd3;have mt:=bR (fun k=>if k=μ then 1 else 0) m j hj;walk_at "rn";refine .inr ⟨_,rfl,?_⟩
   by_cases z:j=μ
   ·rw [if_pos z] at mt;rw [decide_eq_true z];exact hR3 _ _ _ _ ⟨_,rfl⟩ (ai.refl _) rfl mt
   ·rw [if_neg z] at mt;rw [decide_eq_false z];exact hR3 _ _ _ _ ⟨_,rfl⟩ (ai.refl _) rfl mt
  intro dr H3 hdr s3 h3;have g3:Gr K H3 dr (((K3 m).map fun k=>if k=μ then 1 else 0).take m):=h3;rw [Lf (by simp)] at g3
  have np:dr∉qs:=fun z=>by
   obtain ⟨k,hk⟩:=LS z;have hk':k<((M.map fun μ=>(K3 m).map fun k=>if k=μ then 1 else 0).take i).length:=by rw [<- t1.len];exact (K0.mp hk).1
   have:=t1.row k dr _ hk (KZ hk');rw [hdr] at this;cases this
  walk_at "rn";refine ⟨df,_,_,rfl,rfl,s3 _ _ t1.top,LO (show (qs.map V.ref).length<=1000 by rw [KY];omega) (by rw [L5];decide),?_⟩
  refine ⟨eU hdf (s1.trans s3),qs++[dr],_,?_,rfl⟩;have:=t1.snoc s3 (dB g3) np (b4 t1.top hdr).symm;rw [Lv,K4,hμ];exact this
 ·rintro σ' H1 ⟨s1,qs,x5,t1,rfl⟩;rw [Lf (by simp)] at t1
  walk_at "rn";exact ⟨d,dp,_,n,e,m,t,ps,R,_,rfl,tb0.mono s1,gt,s1 _ _ hR,pt,t1.at,by rw [KY,ml],fun l hl=>by obtain ⟨μ,_,rfl⟩:=Lc.mp hl;simp,m1,m60,fun df H2 s2 h2=>q df H2 (s1.trans s2) h2⟩
def eO (m:Nat) (a:List Nat):List Nat:=(K3 m).filter fun k=>decide (0<a.getD k 0)
def JF (m:Nat) (a b:List Nat):List Nat:=cvV m (fun j=>a.getD j 0) (fun k=>b.getD k 0) (eO m a) (eO m b)
def pC (m:Nat) (A B:List (List Nat)):List (List Nat):=Ma (JF m) A B
def j5 (m:Nat) (f g:Nat->Nat) (J K K':List Nat) (j:Nat):List Nat:=(K3 m).map fun c=>cvC m f g J K c+ls K' fun k=>if c=(j+k) % m then f j * g k else 0
def Ir {m j k l:Nat} {f g:Nat->Nat} {J K:List Nat} (m1:1<=m) (hk:K[l]?=some k):(j5 m f g J K (K.take l) j).set ((j+k) % m) ((j5 m f g J K (K.take l) j).getD ((j+k) % m) 0+f j * g k)=j5 m f g J K (K.take (l+1)) j:=by
 have ha:=Lu (j+k) m1;unfold j5;rw [K2,K4,LK ha];refine (set_range (v:=f j * g k) ha).trans (LA fun c _=>?_);rw [qF hk,M9]
def HS {m j i:Nat} {f g:Nat->Nat} {J K:List Nat} (hj:J[i]?=some j):j5 m f g (J.take i) K (K.take K.length) j=cvV m f g (J.take (i+1)) K:=by
 unfold j5 cvV;refine LA fun c _=>?_;unfold cvC;rw [qF hj,Mn]
def FE {m j:Nat} {f g:Nat->Nat} {J K:List Nat}:j5 m f g J K (K.take 0) j=cvV m f g J K:=by
 unfold j5 cvV;refine LA fun c _=>?_;rw [List.take_zero];rfl
def HD {m:Nat} {f g:Nat->Nat} {K:List Nat}:cvV m f g [] K=Ll m 0:=by
 unfold cvV;refine Mo (by simp) fun k h1 h2=>by simp [cvC,ls]
def Br {H:Hp} {c:Addr}:(del H c) c=none:=by unfold del;simp
inductive vv (K:KW) (vs:List V) (H:Hp) (Q:VK) (E:XK):Prop
 | mk (v u:V) (m:Nat) (L M:List (List Nat)) (_:vs=[v,u,.int (m:Int)]) (_:At K H v L) (_:At K H u M) (_:L.length=M.length) (_:L.length<=23) (_:(∀ a∈L,a.length=m)) (_:(∀ a∈M,a.length=m)) (_:(∀ a∈L,∀ x∈a,x<=1000)) (_:1<=m) (_:m<=60) (_:∀ df H',ai H H'->At K H' (.ref df) (pC m L M)->Q (.ref df) H')
def vT (T:Txt K mg):aJ P w K mg base CX0 1 T.gH.f T.gH.fd ["_law_one_here","_law_other","_law_spokes"] (vv K):=by
 exists T.gH.ok cO
 ·obtain ⟨v,u,m,L,M,rfl,_⟩:=h;rfl
 obtain ⟨v,u,m,L,M,rfl,hL,hM,ll,l23,lm,lm',lb,m1,m60,q⟩:=h;refine ⟨_,(ae (aq (i:=3) cO.nd rfl (K6 rfl) (bP aa))
   (ae (ba Ld rfl (kF K rfl rfl T.nC (paF (pv 0) (paF (pv 1) aa))) (dR rfl (bc (ar (i:=4) cO.nd rfl (Ni rfl)) (bc (ar (i:=5) cO.nd rfl (Ni rfl)) de))) (ae (aq (i:=6) cO.nd rfl (K6 rfl) (ak zO (bP (paF ag aa)) (pv 2)))
   (ae (ba Ld rfl (aT K rfl (bu rfl lW (aM rfl T.aZ (paF (pv 2) aa)) (fun _ _ _ _=>⟨(ar (i:=0) lW.nd rfl (K6 rfl)),(qc (aD gG (ao (aj K rfl) (pv 1) (pv 0) (fun _ _=>rfl)) ag (aG _))),(pv 0)⟩))) (ar (i:=8) cO.nd rfl (K6 rfl)) (af (ba Ld rfl (aT K rfl (bu rfl lE (aM rfl T.aZ (paF (pv 2) aa)) (fun _ _ _ _=>⟨(ar (i:=0) lE.nd rfl (K6 rfl)),(qc (aD gG (ao (aj K rfl) (pv 1) (pv 0) (fun _ _=>rfl)) ag (aG _))),(pv 0)⟩))) (ar (i:=7) cO.nd rfl (K6 rfl)) (ae (aq (i:=9) cO.nd rfl (K6 rfl) (ak aO (ak aW (pv 8) (pv 7)) (pv 2)))
   (af (m8 (ak aW (ao (aj K rfl) (pv 6) (pv 9) (fun _ _=>rfl)) (ak bg (ao (aj K rfl) (pv 4) (pv 8) (fun _ _=>rfl)) (ao (aj K rfl) (pv 5) (pv 7) (fun _ _=>rfl)))) (yN (pv 6) (pv 9) set_list)))))))
   (af (aV (bZ K rfl Lk Lw Lx bF (pv 3) (paF (pv 6) aa)))))))
   (af (aK (pv 3))))),?_⟩
 walk_at "2";refine ⟨small (by show 0<=1000;decide),fun df hdf=>?_⟩
 have s2:=aw hdf (.lst []);have t2:Tbl (upd H df (.lst [])) df ((pC m L M).take 0) []:=Tbl.nil;generalize upd H df (.lst [])=H2 at s2 t2;walk_at "7";refine En (H₀:=H) hL hM ll (fun i σ' H'=>ai H H'/\∃ (qs:List Addr) (f:Nat->Option V),Tbl H' df ((pC m L M).take i) qs/\σ'=[some v,some u,some (.int (m:Int)),some (.ref df),f 0,f 1,f 2,f 3,f 4,f 5]) ⟨s2,[],bJ [_,_,_,_,_,_],t2,rfl⟩ (fun i σ' H' z=>z.1) ?_ ?_
 ·rintro i a b w1 w2 σ' H3 H3' pt ha hb hw1 hw2 ⟨s3,qs,f,t3,rfl⟩ hpt rfl s3';have am:=lm a (K1 ha);have bm:=lm' b (K1 hb);have ab:=lb a (K1 ha);have hi:=(K0.mp ha).1;have s03:=s3.trans s3'
  replace t3:=t3.mono s3'
  replace hw1:=Rep.mono s03 hw1
  replace hw2:=Rep.mono s03 hw2
  generalize upd H3 pt (.tup [w1,w2])=H3 at s03 t3 hw1 hw2;have rd:∀ k,k<m->a[k]?=some (a.getD k 0)/\b[k]?=some (b.getD k 0):=fun k hk=>⟨getD_some 0 (by omega),getD_some 0 (by omega)⟩
  walk_at "2";refine ⟨small (by show 1<=1000;decide),fun p1 hp1=>?_⟩
  have s4:=aw hp1 (.lst [.int ((0:Nat):Int)]);have h4:(upd H3 p1 (.lst [.int ((0:Nat):Int)])) p1=some (.lst [.int ((0:Nat):Int)]):=au;generalize upd H3 p1 (.lst [.int ((0:Nat):Int)])=H4 at s4 h4;walk_at "rn";refine ⟨p1,_,_,rfl,rfl,h4,by omega,by omega,?_,fun c hc=>?_⟩
  ·rw [L5];show 1 * _<=_;omega
  rw [show ((m:Nat):Int).toNat=m by omega,CQ]
  have fc:H3 c=none:=s4.free hc;have s5:=s4.trans (aw hc (.lst (aA (Ll m 0))));have h5:(upd H4 c (.lst (aA (Ll m 0)))) c=some (.lst (aA (cvV m (fun j=>a.getD j 0) (fun k=>b.getD k 0) ((eO m a).take 0) (eO m b)))):=by rw [au,List.take_zero,HD]
  generalize upd H4 c (.lst (aA (Ll m 0)))=H5 at s5 h5;walk_at "rn";refine eV K (n:=m) (β:=Nat) rfl (by omega) (fun j=>(K3 j).filter fun k=>decide (0<a.getD k 0)) (fun σ'=>∃ y,σ'=[y,some w1]) rfl (fun j _=>gP _ j) ⟨_,rfl⟩ ?_ ?_
  ·rintro j σ' H6 d6 R6 R06 hj hs6 ⟨y,rfl⟩ hR6 hR06 hd6;have ft:=gA (fun k=>decide (0<a.getD k 0)) j;walk_at "rn";refine bh (Rep.mono (s5.trans hs6) hw1) (rd j hj).1 ?_;walk_at "rn";refine bf (fun z=>?_) (fun z=>?_)
   ·walk_at "rn";rw [if_pos (by simpa using z)] at ft
    exact hR6 _ _ j _ ⟨_,rfl⟩ (ai.refl _) rfl ft
   ·rw [if_neg (by simpa using z)] at ft
    exact hR06 _ _ ⟨_,rfl⟩ (ai.refl _) ft
  intro dj H6 fdj s6 g6;have g6:H6 dj=some (.lst (aA (eO m a))):=dB g6;have h6:=s6 _ _ h5;have njc:dj≠c:=(b4 h5 fdj).symm;have sA:ai H3 (del H6 c):=zN (s5.trans s6) fc;walk_at "rn";refine iW (H₀:=del H6 c) (α:=Nat) (l:=eO m a) (bS (by rw [fK njc];exact g6)) (fun i σ' H'=>ai (del H6 c) H'/\H' c=some (.lst (aA (cvV m (fun j=>a.getD j 0) (fun k=>b.getD k 0) ((eO m a).take i) (eO m b))))/\∃ f:Nat->Option V,σ'=[some v,some u,some (.int (m:Int)),some (.ref df),some w1,some w2,some (.ref c),f 0,f 1,f 2]) ⟨jF,h6,bJ [_,_,_],rfl⟩ (fun j σ' H' z=>z.1) ?_ ?_
  ·rintro i j w' σ' H7 hj hw ⟨s7,h7,f,rfl⟩;cases (show w'=V.int (j:Int) from hw);have jm:j<m:=K7.mp (Mc.mp (K1 hj)).1;walk_at "rn";refine eV K (n:=m) (β:=Nat) rfl (by omega) (fun j=>(K3 j).filter fun k=>decide (0<b.getD k 0)) (fun σ'=>∃ y,σ'=[y,some w2]) rfl (fun j _=>gP _ j) ⟨_,rfl⟩ ?_ ?_
   ·rintro j' σ' H8 d8 R8 R08 hj' hs8 ⟨y,rfl⟩ hR8 hR08 hd8;have ft:=gA (fun k=>decide (0<b.getD k 0)) j';walk_at "rn";refine bh (Rep.mono ((sA.trans s7).trans hs8) hw2) (rd j' hj').2 ?_;walk_at "rn";refine bf (fun z=>?_) (fun z=>?_)
    ·walk_at "rn";rw [if_pos (by simpa using z)] at ft
     exact hR8 _ _ j' _ ⟨_,rfl⟩ (ai.refl _) rfl ft
    ·rw [if_neg (by simpa using z)] at ft
     exact hR08 _ _ ⟨_,rfl⟩ (ai.refl _) ft
   intro dk H8 fdk s8 g8;have g8:H8 dk=some (.lst (aA (eO m b))):=dB g8;have h8:=s8 _ _ h7;have nkc:dk≠c:=(b4 h7 fdk).symm;have sB:ai (del H6 c) (del H8 c):=zN (s7.trans s8) Br;rw [<- FE (j:=j)] at h8;walk_at "rn";refine iW (H₀:=del H8 c) (α:=Nat) (l:=eO m b) (bS (by rw [fK nkc];exact g8)) (fun l σ' H'=>ai (del H8 c) H'/\H' c=some (.lst (aA (j5 m (fun j=>a.getD j 0) (fun k=>b.getD k 0) ((eO m a).take i) (eO m b) ((eO m b).take l) j)))/\∃ f:Nat->Option V,σ'=[some v,some u,some (.int (m:Int)),some (.ref df),some w1,some w2,some (.ref c),f 0,some (.int (j:Int)),f 1]) ⟨jF,h8,bJ [_,_],rfl⟩ (fun j σ' H' z=>z.1) ?_ ?_
   ·rintro l k w' σ' H9 hk hw ⟨s9,h9,f,rfl⟩;cases (show w'=V.int (k:Int) from hw);have km:k<m:=K7.mp (Mc.mp (K1 hk)).1;have sC:=sA.trans (sB.trans s9);have am':=Lu (j+k) m1;have ax:a.getD j 0<=1000:=ab _ (K1 (rd j jm).1);have ms:=Ir (f:=fun j=>a.getD j 0) (g:=fun k=>b.getD k 0) (J:=(eO m a).take i) (j:=j) m1 hk;have ml:(j5 m (fun j=>a.getD j 0) (fun k=>b.getD k 0) ((eO m a).take i) (eO m b) ((eO m b).take l) j).length=m:=by unfold j5;rw [KY,Ln]
    generalize j5 m (fun j=>a.getD j 0) (fun k=>b.getD k 0) ((eO m a).take i) (eO m b) ((eO m b).take l) j=W at h9 ms ml;walk_at "rn";refine bh (bS h9) (getD_some (l:=W) 0 (by rw [ml];exact am')) ?_
    walk_at "rn";refine bh (Rep.mono sC hw1) (rd j jm).1 ?_;walk_at "rn";refine bh (Rep.mono sC hw2) (rd k km).2 ?_;refine pW (.inl (by omega)) ?_
    walk_at "rn";refine Az h9 rfl (by unfold aA;rw [KY,ml];exact am') ?_
    rw [ints_set,ms];exact ⟨eU Br s9,au,bJ [_,_],rfl⟩
   ·rintro σ' H9 ⟨s9,h9,f,rfl⟩;rw [HS hj] at h9;walk_at "rn";exact ⟨sB.trans s9,h9,bJ [_,_,_],rfl⟩
  ·rintro σ' H7 ⟨s7,h7,f,rfl⟩;rw [Mn] at h7;have s37:=sA.trans s7;have tb7:=t3.mono s37;have np:c∉qs:=fun z=>by
    obtain ⟨k,hk⟩:=LS z;have hk':k<((pC m L M).take i).length:=by rw [<- t3.len];exact (K0.mp hk).1
    have:=t3.row k c _ hk (KZ hk');rw [fc] at this;cases this
   have ql:qs.length<=23:=by rw [t3.len,Lh];omega
   walk_at "rn";refine ⟨.inl ⟨rfl,_,SqL.of tb7.top⟩,?_⟩;walk_at "rn";refine ⟨df,_,_,rfl,rfl,tb7.top,LO (show (qs.map V.ref).length<=1000 by rw [KY];omega) (by rw [L5];decide),?_⟩
   refine ⟨eU hdf (s03.trans s37),qs++[c],bJ [_,_,_,_,_,_],?_,rfl⟩;have:=tb7.snoc (ai.refl _) h7 np (b4 t3.top fc).symm;rw [Lv,show (pC m L M)[i]?=some (JF m a b) by unfold pC;rw [NI,ha,hb]]
   exact this
 ·rintro σ' H3 ⟨s3,qs,f,t3,rfl⟩;rw [Lf (by unfold pC;simp;omega)] at t3
  walk_at "rn";exact q df H3 s3 t3.at
def eW {H:Hp} {x dx C:Addr} (hx:H x=none) (hd:H dx=none):ai H (upd (upd H dx (.own x)) x (.ins C dx [])):=fun b o z=>by
 rw [av (aH z hx),av (aH z hd)];exact z
def lI {H H':Hp} {x dx C:Addr} (hx:H x=none) (hd:H dx=none) (k:∀ a o,(upd (upd H dx (.own x)) x (.ins C dx [])) a=some o->a≠x->H' a=some o):ai H H':=fun b o z=>k b o (eW hx hd _ _ z) (aH z hx)
structure kT (W:Addr->Prop) (K:KW) (H:Hp) (a:Addr) (v:V) (g:Addr) (n:Nat) (t:List (List Nat)) (e m z:Nat) (D:List (List (Nat×Nat))):Prop where
 wa:eG W H a g m z D
 wo:WOk n m z D
 ho:cT n t e m z D
 tr:At K H v (D.map (cnt m))
def kT.mono {W:Addr->Prop} {H H':Hp} {a g n e m z:Nat} {v:V} {t:List (List Nat)} {D:List (List (Nat×Nat))} (s:ai H H') (h:kT W K H a v g n t e m z D):kT W K H' a v g n t e m z D:=⟨h.wa.mono s,h.wo,h.ho,Rep.mono s h.tr⟩
inductive CP (W:Addr->Prop) (K:KW) (H:Hp) (p g:Addr) (n:Nat) (t:List (List Nat)) (e m:Nat):Prop
 | ok (a:Addr) (v:V) (z:Nat) (D:List (List (Nat×Nat))) (_:H p=some (.tup [.ref a,v,.int (z:Int)])) (_:z<=60) (_:kT W K H a v g n t e m z D)
 | no (v:V) (z:Nat) (_:H p=some (.tup [.non,v,.int (z:Int)])) (_:60<z)
def nB {n m z:Nat} {D:List (List (Nat×Nat))} (wo:WOk n m z D):(D.map (cnt m)).length=n/\(∀ l∈D.map (cnt m),l.length=m)/\∀ l∈D.map (cnt m),∀ x∈l,x<=1000:=by
 refine ⟨by rw [KY,wo.len],fun l hl=>?_,fun l hl x hx=>?_⟩
 ·obtain ⟨r,_,rfl⟩:=Lc.mp hl;exact qp
 ·obtain ⟨r,hr,rfl⟩:=Lc.mp hl;rw [fW (wo.lt r hr)] at hx;obtain ⟨k,_,rfl⟩:=Lc.mp hx;exact L4 (ET k r 0) (by rw [wo.row r hr];exact wo.z1)
def zip_rows {n m z z':Nat} {D E:List (List (Nat×Nat))} (wo:WOk n m z D) (wo':WOk n m z' E) {F:List (Nat×Nat)->List (Nat×Nat)->List (Nat×Nat)} {G:List Nat->List Nat->List Nat} (h:∀ r∈D,∀ s∈E,cnt m (F r s)=G (cnt m r) (cnt m s)) :
  ((K3 n).map fun i=>F (D.getD i []) (E.getD i [])).map (cnt m)=Ma G (D.map (cnt m)) (E.map (cnt m)):=by
 refine Mo (by simp [wo.len,wo'.len]) fun i h1 h2=>?_
 rw [KY,KY,Ln] at h1;obtain ⟨r,a1,a2,a3⟩:=wo.get h1;obtain ⟨s,b1,b2,b3⟩:=wo'.get h1;have e1:D[i]'(by rw [wo.len];exact h1)=r:=(K0.mp a1).2
 have e2:E[i]'(by rw [wo'.len];exact h1)=s:=(K0.mp b1).2
 simp only [MR,Nc,P9,e1,e2];rw [a3,b3,h r a2 s b2]
def Ci {m:Nat} {R:List Nat} {D:List (List (Nat×Nat))} (h:∀ a∈R,a<D.length):(f6 D R).map (cnt m)=R.map fun a=>(D.map (cnt m)).getD a []:=by
 unfold f6;rw [MN];refine LA fun a ha=>?_;show cnt m (D.getD a [])=_;rw [K2,K2,K4,KZ (h a ha)];rfl
inductive BZ (W:Addr->Prop) (CG:Addr) (K:KW) (vs:List V) (H:Hp) (Q:VK) (E:XK):Prop
 | mk (g d:Addr) (n e m l c:Nat) (t:List (List Nat)) (ps:List Addr) (_:vs=[.ref g,.ref d,.int (m:Int),.int (c:Int)]) (_:bb CG H g n t e) (_:GT n t e) (_:Tbl H d t ps) (_:bU (cA n t e) l) (_:m % l=0) (_:0<m) (_:m<=60) (_:∀ p a v z D H',ai H H'->H' p=some (.tup [.ref a,v,.int (z:Nat)])->z<=60->kT W K H' a v g n t e m z D->Q (.ref p) H')
def ku (T:Txt K mg):aJ P w K mg base CX0 9 T.fU.f T.fU.fd ["_law_group_here","_law_table","_law_spokes","_law_cell_here"] (BZ (bt T) T.aL K):=by
 exists T.fU.ok ky
 ·obtain ⟨g,d,n,e,m,l,c,t,ps,rfl,_⟩:=h;rfl
 obtain ⟨g,d,n,e,m,l,c,t,ps,rfl,hG,gt,tb0,hl,ml0,m1,m60,q⟩:=h;have n23:=gt.le;refine ⟨_,(ae (m8 (ay T.fY (oz T) (hr.mono (by decide)) rfl (paF (pv 1) (paF (ay T.hV (rA T) (hr.mono (by decide)) rfl (paF (pv 1) (paF (ak bH (pv 3) ag) aa))) (paF (pv 2) (paF (pv 3) aa))))) (dR rfl (bc (ar (i:=4) ky.nd rfl (K6 rfl)) (bc (ar (i:=5) ky.nd rfl (K6 rfl)) de))))
   (ae (aq (i:=6) ky.nd rfl (K6 rfl) (ay T.ig (xr T) (hr.mono (by decide)) rfl (paF (pv 1) (paF (pv 4) (paF (pv 5) (paF (pv 2) aa))))))
   (af (aK (el (paF (nu T.Gj (Ez T) (hr.mono (by decide)) rfl T.E7 T.Gv .nil l6 (paF (pv 0) (paF (pv 4) (paF (pv 5) (paF (pv 2) aa))))) (paF (pv 6) (paF (ak bH (aI (aN K rfl) rfl T.bA Lo (paF (pv 1) aa)) (aI (aN K rfl) rfl T.bA Lo (paF (pv 4) aa))) aa)))))))),?_⟩
 walk_at "rn";refine ⟨_,n,e,_,t,rfl,tb0.at,gt,fun dS H1 S _ s1 gS sl hlt=>?_⟩;walk_at "rn";refine ⟨_,_,n,e,m,_,t,S,rfl,(tb0.mono s1).at,gt,gS.at,sl,hlt,m1,m60,fun pT dp dm H2 R M _ _ _ s2 hT2 hp2 hm2 pt ml mm ok=>?_⟩;have s02:=s1.trans s2;have r1:0<R.length:=L3.mpr pt.ne;have rl:=pt.len;walk_at "rn";refine ⟨pT,_,rfl,SqT.of hT2,rfl,⟨_,_,rfl,⟨_,_,rfl,⟨rfl,?_⟩⟩⟩⟩;walk_at "rn";refine ⟨d,dp,_,n,e,m,t,ps,R,M,rfl,tb0.mono s02,gt,hp2,pt,bS hm2,ml,m1,m60,fun df H3 s3 a3=>?_⟩;rw [<- Dj gt pt ml mm m1 m60] at a3;have s03:=s02.trans s3;walk_at "3";intro x1 dx1 hx1 hdx1 hne1;refine ⟨x1,dx1,g,_,_,.int (m:Int),n,e,m,l,t,R,M,H3,rfl,au,hx1,eW hx1 hdx1,hG.mono s03,gt,bS (s3 _ _ hp2),pt,bS (s3 _ _ hm2),ml,mm,.inl rfl,hl,ml0,m1,m60,ok,fun d3 H4 fs s4 h4 wf hD=>⟨rfl,?_⟩⟩;have s04:=s03.trans s4;walk_at "rn";refine b8 (tb0.mono s04).at ?_;walk_at "rn";refine b8 (bS (s4 _ _ (s3 _ _ hp2))) ?_;rw [gt.len];refine kP r1 (by omega) ?_
 rw [nN gt pt];walk_at "rn";refine ⟨small (by show 3<=1000;decide),fun p hp=>?_⟩
 have s5:=aw hp (.tup [.ref x1,.ref df,.int ((aS n t e R).length:Nat)]);exact q p x1 _ _ _ _ (s04.trans s5) au (L4 kX (by omega)) ⟨⟨T.bj,dx1,d3,fs,wM T,s5 _ _ h4,wf,hD.mono s5⟩,HF gt pt ml mm m1 m60,Gs gt pt ml mm m1 m60 ok,Rep.mono (s4.trans s5) a3⟩
def lH (W:Addr->Prop) (H:Hp) (v:V) (g m z:Nat) (D:List (List (Nat×Nat))):Prop:=(z<=60/\∃ x,v=.ref x/\eG W H x g m z D)\/(60<z/\v=.non)
def lH.Fo {W:Addr->Prop} {H H':Hp} {v u:V} {p g n e m z:Nat} {t:List (List Nat)} {D:List (List (Nat×Nat))} (h:lH W H v g m z D) (s:ai H H') (hp:H' p=some (.tup [v,u,.int (z:Int)])) (wo:z<=60->WOk n m z D) (ho:z<=60->cT n t e m z D) (tr:At K H' u (D.map (cnt m))):CP W K H' p g n t e m:=by
 rcases h with ⟨h1,x,rfl,h2⟩|⟨h1,rfl⟩
 ·exact .ok x u z D hp h1 ⟨h2.mono s,wo h1,ho h1,tr⟩
 ·exact .no u z hp h1
inductive yJ (W:Addr->Prop) (CG:Addr) (K:KW) (vs:List V) (H:Hp) (Q:VK) (E:XK):Prop
 | mk (g d pS a:Addr) (v:V) (n e m l c z:Nat) (t:List (List Nat)) (ps:List Addr) (D:List (List (Nat×Nat))) (_:vs=[.ref g,.ref d,.int (m:Int),.ref pS,.int (c:Int)]) (_:bb CG H g n t e) (_:GT n t e) (_:Tbl H d t ps) (_:bU (cA n t e) l) (_:m % l=0) (_:0<m) (_:m<=60) (_:H pS=some (.tup [.ref a,v,.int (z:Int)])) (_:kT W K H a v g n t e m z D) (_:∀ p H',ai H H'->CP W K H' p g n t e m->Q (.ref p) H')
def zd (T:Txt K mg):aJ P w K mg base CX0 10 T.jr.f T.jr.fd ["_law_group_here","_law_table","_law_spokes","_law_state","_law_cell_here"] (yJ (bt T) T.aL K):=by
 exists T.jr.ok ck
 ·obtain ⟨g,d,pS,a,v,n,e,m,l,c,z,t,ps,D,rfl,_⟩:=h;rfl
 obtain ⟨g,d,pS,a,v,n,e,m,l,c,z,t,ps,D,rfl,hG,gt,tb0,hl,ml0,m1,m60,hS,st,q⟩:=h;have n23:=gt.le;refine ⟨_,(ae (aq (i:=5) ck.nd rfl (K6 rfl) (ao (bC K rfl) (ay T.fY (oz T) (hr.mono (by decide)) rfl (paF (pv 1) (paF (ay T.hV (rA T) (hr.mono (by decide)) rfl (paF (pv 1) (paF (ak bH (pv 4) ag) aa))) (paF (pv 2) (paF (pv 4) aa))))) ag (fun _ _=>rfl)))
   (ae (a8 (aD cb (ak aO (pv 4) ag) ag (aG _)) (ae (bV (i:=6) rfl ck.nd rfl (K6 rfl) mZ (aT K rfl (pv 5)) (fun _ _ _ _=>⟨(ar (i:=0) mZ.nd rfl (K6 rfl)),aX,(ao (aj K rfl) (ao (bC K rfl) (pv 1) ag (fun _ _=>rfl)) (pv 0) (fun _ _=>rfl))⟩) rfl)
   (ae (aq (i:=7) ck.nd rfl (K6 rfl) (nu T.Fd (D4 T) (hr.mono (by decide)) rfl T.Gf T.FV .nil l6 (paF (ao (bC K rfl) (pv 3) ag (fun _ _=>rfl)) (paF (pv 5) aa))))
   (af (aq (i:=8) ck.nd rfl (K6 rfl) (ao (bC K rfl) (pv 3) ag (fun _ _=>rfl)))))) (af (m8 (ay T.fU (ku T) (hr.mono (by decide)) rfl (paF (ay T.iZ (n6 T) (hr.mono (by decide)) rfl (paF (pv 0) (paF (pv 5) aa))) (paF (ay T.jg (y9 T) (hr.mono (by decide)) rfl (paF (pv 1) (paF (pv 5) aa))) (paF (pv 2) (paF (ak bH (pv 4) ag) aa))))) (dR rfl (bc (ar (i:=7) ck.nd rfl (K6 rfl)) (bc (ar (i:=6) ck.nd rfl (K6 rfl)) (bc (ar (i:=8) ck.nd rfl (K6 rfl)) de)))))))
   (ae (aq (i:=9) ck.nd rfl (K6 rfl) pj)
   (ae (Bj rfl (qb (uV (i:=9) ck.nd rfl (K6 rfl) (pP T.FR (Cq T) rfl (hr.mono (by decide)) rfl T.FI T.GJ (paF (pv 0) (paF (pv 5) (paF (pv 7) aa)))))) (fun _=>(af (aq (i:=9) ck.nd rfl (K6 rfl) pj))) rfl T.nH rfl rfl)
   (af (aK (el (paF (pv 9) (paF (ay T.fO (oC T) (hr.mono (by decide)) rfl (paF (pv 1) (paF (pv 5) (paF (pv 6) (paF (pv 2) aa))))) (paF (ak bg (pv 8) (ak bH (aI (aN K rfl) rfl T.bA Lo (paF (pv 1) aa)) (aI (aN K rfl) rfl T.bA Lo (paF (pv 5) aa)))) aa)))))))))),?_⟩
 walk_at "rn";refine ⟨_,n,e,_,t,rfl,tb0.at,gt,fun dS H1 S _ s1 gS sl hlt=>?_⟩;walk_at "rn";refine ⟨_,_,n,e,m,_,t,S,rfl,(tb0.mono s1).at,gt,gS.at,sl,hlt,m1,m60,fun pT dp dm H2 R M _ _ _ s2 hT2 hp2 hm2 pt ml mm ok=>?_⟩;have s02:=s1.trans s2;have r1:0<R.length:=L3.mpr pt.ne;have rl:=pt.len;have gt2:=zE gt pt;obtain ⟨l2,hl2⟩:=BV gt2;have ml2:m % l2=0:=Nu (Nat.dvd_trans (Mi (DK gt pt hl hl2)) (Mi ml0));walk_at "rn";refine b9 (i:=0) hT2 rfl ?_;walk_at "rn";refine gZ (fun σ' H'=>ai H2 H'/\∃ (a:Addr) (v:V) (g' z:Nat) (D:List (List (Nat×Nat))) (x9:Option V),kT (bt T) K H' a v g' R.length (cV t R) (R.idxOf e) m z D/\bb T.aL H' g' R.length (cV t R) (R.idxOf e)/\σ'=[some (.ref g),some (.ref d),some (.int (m:Int)),some (.ref pS),some (.int (c:Int)),some (.ref dp),some v,some (.ref a),some (.int (z:Int)),x9]) (fun N hN=>?_) ?_
 ·walk_at "rn";refine bf (fun _=>?_) (fun _=>?_)
  ·have st2:=st.mono s02;have pl:=Ci (m:=m) (R:=R) (D:=D) fun a ha=>by rw [st.wo.len];exact pt.lt a ha
   have ln:=(nB st.wo).1;walk_at "rn";obtain ⟨pv,xs,rfl,hv,hx⟩:=id st2.tr;refine mB (p:=dp) (xs:=aA R) (by unfold aA;rw [KY];omega) (fun d i σ' H' ys=>ai H2 H'/\MB (Rep.is K H2) ys ((R.map fun a=>(D.map (cnt m)).getD a []).take i)/\∃ y,σ'=[y,some (.ref pS)]) (fun d i σ' H' ys z=>z.1.seq (SqL.of hp2)) (SqL.of hp2) (fun d i σ' H' ys hi z=>by rw [z.2.1.length,Lh];omega) (fun d hd=>⟨aw hd _,.nil,_,rfl⟩) ?_ ?_
   ·rintro d3 j o σ' H3 ys R3 R03 hd hj ⟨s3,hP,y,rfl⟩ hys hR hR0;unfold aA at hj;rw [K4] at hj;obtain ⟨b,hb,rfl⟩:=Mv.mp hj;have bl:b<(D.map (cnt m)).length:=by rw [ln];exact pt.lt b (K1 hb)
    have bx:b<xs.length:=by rw [hx.length];exact bl
    obtain ⟨l,hl',hw⟩:=jA hx (KZ bx);walk_at "rn";refine b9 (i:=1) ((s02.trans s3) _ _ hS) rfl ?_;walk_at "rn";refine ⟨pv,_,_,xs[b],rfl,rfl,s3.seq hv,f7 (KZ bx),?_⟩;refine hR _ _ _ hys ⟨fun b o zz=>by rw [av (aH zz hd)];exact s3 _ _ zz,?_,_,rfl⟩
    rw [Lv,K4,hb];refine Paired.app hP (.cons ?_ .nil);dsimp only;rw [K2,hl'];exact hw
   rintro dt σ' H3 ys fdt hdt ⟨s3,hP,_⟩;unfold aA at hP;rw [KY,Lf (by simp),<- pl] at hP
   have a3:At K H3 (.ref dt) ((f6 D R).map (cnt m)):=⟨dt,ys,rfl,SqL.of hdt,Paired.dD hP fun _ _ z=>Rep.mono s3 z⟩;have s03:=s02.trans s3;walk_at "rn";refine b9 (i:=0) (s03 _ _ hS) rfl ?_;walk_at "rn";intro x1 dx1 hx1 hdx1 hne1;refine ⟨x1,dx1,a,g,dp,n,e,m,z,t,D,R,rfl,au,(st.wa.mono s03).mono (eW hx1 hdx1),(hG.mono s03).mono (eW hx1 hdx1),gt,st.wo,eW hx1 hdx1 _ _ (s3 _ _ hp2),pt,fun g' d4 H4 fs hg4 h4 wf hD k4=>⟨rfl,?_⟩⟩;have s4:=lI hx1 hdx1 k4;walk_at "rn";refine b9 (i:=2) ((s03.trans s4) _ _ hS) rfl ?_;walk_at "rn";exact hN _ _ ⟨s3.trans s4,x1,_,g',z,_,_,⟨⟨T.cU,dx1,d4,fs,wZ T,h4,wf,hD⟩,st.wo.part pt,st.ho.part gt pt,Rep.mono s4 a3⟩,hg4.mono kY,rfl⟩
  ·walk_at "rn";refine ⟨g,dp,n,e,t,R,rfl,hG.mono s02,gt,hp2,pt,fun g2 H3 fg2 s3 hg3=>?_⟩;have hg3':=hg3.mono kY;walk_at "rn";refine ⟨_,dp,n,e,t,R,rfl,(tb0.mono (s02.trans s3)).at,gt,s3 _ _ hp2,pt,fun ds H4 pss s4 tbs=>?_⟩;walk_at "rn";refine ⟨g2,ds,_,_,m,l2,_,cV t R,pss,rfl,hg3'.mono s4,gt2,tbs,hl2,ml2,m1,m60,fun p a v z D H5 s5 hp5 _ st5=>?_⟩;walk_at "rn";refine ⟨p,_,rfl,SqT.of hp5,rfl,⟨_,_,rfl,⟨_,_,rfl,⟨_,_,rfl,⟨rfl,?_⟩⟩⟩⟩⟩;walk_at "rn";exact hN _ _ ⟨s3.trans (s4.trans s5),a,v,g2,z,D,_,st5,(hg3'.mono s4).mono s5,rfl⟩
 rintro σ' H3 ⟨s3,a,v,g',z,D,x9,st3,hg3,rfl⟩;have s03:=s02.trans s3;have ra:Rai (bt T) T.aL H3 g dp a g' n e m z l t R D:=⟨hG.mono s03,gt,s3 _ _ hp2,pt,st3.wa,hg3,st3.wo,hl,ml0⟩;obtain ⟨l1,lm,_⟩:=nB st3.wo;have zz:=st3.wo.z1;walk_at "rn"
 rename_i N hN
 have key:∀ mv H4,ai H3 H4->lH (bt T) H4 mv g m ((aS n t e R).length * z) (fN n t e R D z)->N [some (.ref g),some (.ref d),some (.int (m:Int)),some (.ref pS),some (.int (c:Int)),some (.ref dp),some v,some (.ref a),some (.int (z:Int)),some mv] H4:=fun mv H4 s4 md=>by
  have s04:=s03.trans s4;have hp4:=s4 _ _ (s3 _ _ hp2);walk_at "3";refine ⟨d,dp,v,n,e,m,t,ps,R,_,rfl,tb0.mono s04,gt,hp4,pt,Rep.mono s4 st3.tr,l1,lm,m1,m60,fun df H5 s5 a5=>?_⟩;rw [<- wF gt pt st3.wo (st3.ho.pl st3.wo)] at a5;have s05:=s04.trans s5;walk_at "rn";refine b8 (tb0.mono s05).at ?_;walk_at "rn";refine b8 (bS (s5 _ _ hp4)) ?_;rw [gt.len];refine kP r1 (by omega) ?_
  rw [nN gt pt];refine pW (.inl (by omega)) ?_
  rw [M7];walk_at "rn";refine ⟨small (by show 3<=1000;decide),fun p hp=>?_⟩
  have s6:=aw hp (.tup [mv,.ref df,.int (((aS n t e R).length * z:Nat):Int)]);exact q p _ (s05.trans s6) (md.Fo (s5.trans s6) au (fun h60=>st3.wo.rai gt pt (by omega)) (fun _=>st3.ho.rai gt pt st3.wo) (Rep.mono s6 a5))
 refine EO ?_;refine zr ?_;refine vd ?_;walk_at "rn";intro y dy hy hdy hne;have sn:=eW (C:=T.cC) hy hdy;rcases LD 60 ((aS n t e R).length * z) with h60|h60
 ·refine .inr ⟨_,g,dp,a,g',n,e,m,z,l,t,R,D,rfl,ra.mono sn,h60,fun H4 s4=>⟨T.b5,rfl,T.oi,?_⟩⟩;exact key _ _ (sn.trans s4) (.inr ⟨h60,rfl⟩)
 ·refine .inl ⟨y,dy,g,dp,a,g',n,e,m,z,l,t,R,D,rfl,au,ra.mono sn,h60,fun d4 H4 fs h4 wf hD k4=>⟨rfl,?_⟩⟩;exact key _ _ (lI hy hdy k4) (.inl ⟨h60,y,rfl,T.cC,dy,d4,fs,wR T,h4,wf,hD⟩)
inductive xW (W:Addr->Prop) (CG:Addr) (vs:List V) (H:Hp) (Q:VK) (E:XK):Prop
 | mk (p1 p2 a b g:Addr) (v u y y':V) (k n e m z z':Nat) (t:List (List Nat)) (D E:List (List (Nat×Nat))) (_:vs=[.ref p1,.ref p2,.int (k:Int)]) (_:H p1=some (.tup [.ref a,v,y])) (_:H p2=some (.tup [.ref b,u,y'])) (_:Two W CG H a b g n e m z z' t D E) (_:∀ mv H',ai H H'->(k=2->lH W H' mv g m (z * z') (lr n m D E))->(k≠2->lH W H' mv g m (z+z') (jS n D E))->Q mv H')
def xN (T:Txt K mg):aJ P w K mg base CX0 4 T.ir.f T.ir.fd ["_law_one_here","_law_other","_law_way"] (xW (bt T) T.aL):=by
 exists T.ir.ok fj
 ·obtain ⟨p1,p2,a,b,g,v,u,y,y',k,n,e,m,z,z',t,D,E,rfl,_⟩:=h;rfl
 obtain ⟨p1,p2,a,b,g,v,u,y,y',k,n,e,m,z,z',t,D,E',rfl,h1,h2,tw,q⟩:=h;refine ⟨_,(ae (aq (i:=3) fj.nd rfl (K6 rfl) pj)
   (ae (Bj rfl (qb (JT (aD cb (pv 2) ag (aG _)) (qb (uV (i:=3) fj.nd rfl (K6 rfl) (pP T.EV (AR T) rfl (hr.mono (by decide)) rfl T.DT T.D7 (paF (ao (bC K rfl) (pv 0) ag (fun _ _=>rfl)) (paF (ao (bC K rfl) (pv 1) ag (fun _ _=>rfl)) aa))))) (qb (uV (i:=3) fj.nd rfl (K6 rfl) (pP T.GC (Cc T) rfl (hr.mono (by decide)) rfl T.Gm T.GK (paF (ao (bC K rfl) (pv 0) ag (fun _ _=>rfl)) (paF (ao (bC K rfl) (pv 1) ag (fun _ _=>rfl)) aa))))))) (fun _=>(af (aq (i:=3) fj.nd rfl (K6 rfl) pj))) rfl T.nH rfl rfl)
   (af (aK (pv 3))))),?_⟩
 walk_at "rn"
 rename_i N hN
 have key:∀ mv H1,ai H H1->(k=2->lH (bt T) H1 mv g m (z * z') (lr n m D E'))->(k≠2->lH (bt T) H1 mv g m (z+z') (jS n D E'))->N [some (.ref p1),some (.ref p2),some (.int (k:Int)),some mv] H1:=fun mv H1 s1 c1 c2=>by
  walk_at "rn";exact q mv H1 s1 c1 c2
 refine EO ?_;refine Km ?_;walk_at "rn";refine bf (fun c0=>?_) (fun c0=>?_)
 ·refine zr ?_;refine vd ?_;walk_at "rn";refine b9 (i:=0) h1 rfl ?_;walk_at "rn";refine b9 (i:=0) h2 rfl ?_;walk_at "rn";intro x dx hx hdx hne;have sn:=eW (C:=T.bY) hx hdx;rcases LD 60 (z * z') with h60|h60
  ·refine .inr ⟨_,a,b,g,n,e,m,z,z',t,D,E',rfl,tw.mono sn,h60,T.b5,rfl,T.oi,?_⟩;exact key _ _ sn (fun _=>.inr ⟨h60,rfl⟩) fun c=>absurd c0 c
  ·refine .inl ⟨x,dx,a,b,g,n,e,m,z,z',t,D,E',rfl,au,tw.mono sn,h60,fun d H1 fs h3 wf hD k1=>⟨rfl,?_⟩⟩;exact key _ _ (lI hx hdx k1) (fun _=>.inl ⟨h60,x,rfl,T.bY,dx,d,fs,tS T,h3,wf,hD⟩) fun c=>absurd c0 c
 ·refine zr ?_;refine vd ?_;walk_at "rn";refine b9 (i:=0) h1 rfl ?_;walk_at "rn";refine b9 (i:=0) h2 rfl ?_;walk_at "rn";intro x dx hx hdx hne;have sn:=eW (C:=T.cB) hx hdx;rcases LD 60 (z+z') with h60|h60
  ·refine .inr ⟨_,a,b,g,n,e,m,z,z',t,D,E',rfl,tw.mono sn,h60,T.b5,rfl,T.oi,?_⟩;exact key _ _ sn (fun c=>absurd c c0) fun _=>.inr ⟨h60,rfl⟩
  ·refine .inl ⟨x,dx,a,b,g,n,e,m,z,z',t,D,E',rfl,au,tw.mono sn,h60,fun d H1 fs h3 wf hD k1=>⟨rfl,?_⟩⟩;exact key _ _ (lI hx hdx k1) (fun c=>absurd c c0) fun _=>.inl ⟨h60,x,rfl,T.cB,dx,d,fs,wW T,h3,wf,hD⟩
inductive A9 (W:Addr->Prop) (CG:Addr) (K:KW) (vs:List V) (H:Hp) (Q:VK) (E:XK):Prop
 | mk (g d pS a:Addr) (v:V) (n e m l c z:Nat) (t:List (List Nat)) (ps:List Addr) (D:List (List (Nat×Nat))) (_:vs=[.ref g,.ref d,.int (m:Int),.ref pS,.int (c:Int)]) (_:bb CG H g n t e) (_:GT n t e) (_:Tbl H d t ps) (_:bU (cA n t e) l) (_:m % l=0) (_:0<m) (_:m<=60) (_:H pS=some (.tup [.ref a,v,.int (z:Int)])) (_:z<=60) (_:kT W K H a v g n t e m z D) (_:∀ p H',ai H H'->CP W K H' p g n t e m->Q (.ref p) H')
def A7 (T:Txt K mg):aJ P w K mg base CX0 11 T.kB.f T.kB.fd ["_law_group_here","_law_table","_law_spokes","_law_state","_law_cell_here"] (A9 (bt T) T.aL K):=by
 exists T.kB.ok cP
 ·obtain ⟨g,d,pS,a,v,n,e,m,l,c,z,t,ps,D,rfl,_⟩:=h;rfl
 obtain ⟨g,d,pS,a,v,n,e,m,l,c,z,t,ps,D,rfl,hG,gt,tb0,hl,ml0,m1,m60,hS,z60,st,q⟩:=h;have n23:=gt.le;obtain ⟨rl,rm,rb⟩:=nB st.wo;refine ⟨_,(ae (aq (i:=5) cP.nd rfl (K6 rfl) (ak aO (pv 4) ag))
   (ae (a8 (aD cb (pv 5) ag (aG _)) (af (aK (ay T.fU (ku T) (hr.mono (by decide)) rfl (paF (pv 0) (paF (pv 1) (paF (pv 2) (paF (pv 4) aa))))))) aQ)
   (ae (a8 (aD cb (pv 5) ag (aG _)) (ae (aq (i:=6) cP.nd rfl (K6 rfl) (bP aa))
   (ae (ba Ld rfl (aT K rfl (ao (bC K rfl) (pv 3) ag (fun _ _=>rfl))) (ar (i:=7) cP.nd rfl (Ni rfl)) (af (aV (bZ K rfl Lk Lw Lx bF (pv 6) (paF (bu rfl ot (aM rfl T.aZ (paF (pv 2) aa)) (fun _ _ _ _=>⟨(ar (i:=0) ot.nd rfl (K6 rfl)),aX,(ao (aj K rfl) (pv 1) (ak aO (ak pE (pv 2) (pv 0)) (pv 2)) (fun _ _=>rfl))⟩)) aa)))))
   (af (aK (el (paF (nu T.Fh (Eg T) (hr.mono (by decide)) rfl T.FX T.F7 .nil l6 (paF (ao (bC K rfl) (pv 3) ag (fun _ _=>rfl)) aa)) (paF (pv 6) (paF (ao (bC K rfl) (pv 3) ag (fun _ _=>rfl)) aa)))))))) aQ)
   (ae (a8 (aD gG (pv 5) ag (aG _)) (af (aK (ay T.jr (zd T) (hr.mono (by decide)) rfl (paF (pv 0) (paF (pv 1) (paF (pv 2) (paF (pv 3) (paF (pv 4) aa)))))))) aQ)
   (ae (aq (i:=8) cP.nd rfl (K6 rfl) (pv 3))
   (ae (a8 (aD kc (pv 5) ag (aG _)) (af (aq (i:=8) cP.nd rfl (K6 rfl) (ay T.fU (ku T) (hr.mono (by decide)) rfl (paF (pv 0) (paF (pv 1) (paF (pv 2) (paF (pv 4) aa))))))) aQ)
   (ae (aq (i:=9) cP.nd rfl (K6 rfl) (ay T.ir (xN T) (hr.mono (by decide)) rfl (paF (pv 3) (paF (pv 8) (paF (pv 5) aa)))))
   (ae (a8 (aD cb (pv 5) ag (aG _)) (af (aK (el (paF (pv 9) (paF (ay T.gH (vT T) (hr.mono (by decide)) rfl (paF (ao (bC K rfl) (pv 3) ag (fun _ _=>rfl)) (paF (ao (bC K rfl) (pv 8) ag (fun _ _=>rfl)) (paF (pv 2) aa)))) (paF (ak bg (ao (bC K rfl) (pv 3) ag (fun _ _=>rfl)) (ao (bC K rfl) (pv 8) ag (fun _ _=>rfl))) aa)))))) aQ)
   (ae (aq (i:=6) cP.nd rfl (K6 rfl) (bP aa))
   (ae (ba Ld rfl (kF K rfl rfl T.nC (paF (ao (bC K rfl) (pv 3) ag (fun _ _=>rfl)) (paF (ao (bC K rfl) (pv 8) ag (fun _ _=>rfl)) aa))) (dR rfl (bc (ar (i:=10) cP.nd rfl (K6 rfl)) (bc (ar (i:=11) cP.nd rfl (K6 rfl)) de))) (af (aV (bZ K rfl Lk Lw Lx bF (pv 6) (paF (bu rfl oH (kF K rfl rfl T.nC (paF (pv 10) (paF (pv 11) aa))) (fun _ _ _ _=>⟨(jD K rfl (i:=0) (j:=1) rfl oH.nd rfl (K6 rfl) rfl (K6 rfl)),aX,(ak aW (pv 0) (pv 1))⟩)) aa)))))
   (af (aK (el (paF (pv 9) (paF (pv 6) (paF (ak aW (ao (bC K rfl) (pv 3) ag (fun _ _=>rfl)) (ao (bC K rfl) (pv 8) ag (fun _ _=>rfl))) aa)))))))))))))))),?_⟩
 walk_at "1";refine bf (fun _=>?_) (fun _=>?_)
 ·walk_at "rn";exact ⟨g,d,n,e,m,l,c,t,ps,rfl,hG,gt,tb0,hl,ml0,m1,m60,fun p a v z D H' s hp z60 st=>q p H' s (.ok a v z D hp z60 st)⟩
 walk_at "1";refine bf (fun _=>?_) (fun _=>?_)
 ·walk_at "2";refine ⟨small (by show 0<=1000;decide),fun df hdf=>?_⟩
  have s0:=aw hdf (.lst []);have t0:Tbl (upd H df (.lst [])) df (((D.map (cnt m)).map fun l=>(K3 m).map fun k=>l.getD ((m - k) % m) 0).take 0) []:=Tbl.nil;generalize upd H df (.lst [])=H0 at s0 t0;walk_at "rn";refine b9 (i:=1) (s0 _ _ hS) rfl ?_;refine iW (H₀:=H) (α:=List Nat) st.tr (fun i σ' H'=>ai H H'/\∃ (qs:List Addr) (f:Nat->Option V),Tbl H' df (((D.map (cnt m)).map fun l=>(K3 m).map fun k=>l.getD ((m - k) % m) 0).take i) qs/\σ'=[some (.ref g),some (.ref d),some (.int (m:Int)),some (.ref pS),some (.int (c:Int)),some (.int ((c % 7:Nat):Int)),some (.ref df),f 0,f 1,f 2,f 3,f 4]) ⟨s0,[],bJ [_,_,_,_,_],t0,rfl⟩ (fun i σ' H' z=>z.1) ?_ ?_
  ·rintro i l' w' σ' H1 hl' hw ⟨s1,qs,f,t1,rfl⟩;have il:=(K0.mp hl').1;have lm:=rm l' (K1 hl');have ql:qs.length<=23:=by rw [t1.len,Lh];omega
   walk_at "rn";refine ⟨.inl ⟨rfl,_,SqL.of t1.top⟩,?_⟩;walk_at "rn";refine eV K (n:=m) (β:=Nat) rfl (by omega) (fun j=>((K3 m).map fun k=>l'.getD ((m - k) % m) 0).take j) (fun σ'=>∃ y,σ'=[y,some w',some (.int (m:Int))]) rfl (fun i _=>by rw [Lh];omega) ⟨_,rfl⟩ ?_ ?_
   ·rintro j σ' H3 d3 R3 R03 hj hs3 ⟨y,rfl⟩ hR3 hR03 hd3;have mt:=bR (fun k=>l'.getD ((m - k) % m) 0) m j hj;walk_at "rn";rw [show ((m:Nat):Int) - ((j:Nat):Int)=((m - j:Nat):Int) by omega]
    walk_at "rn";refine bh (Rep.mono (s1.trans hs3) hw) (getD_some 0 (by rw [lm];exact Lu _ m1)) ?_
    exact hR3 _ _ _ _ ⟨_,rfl⟩ (ai.refl _) rfl mt
   intro dr H3 hdr s3 h3;have g3:Gr K H3 dr (((K3 m).map fun k=>l'.getD ((m - k) % m) 0).take m):=h3;rw [Lf (by simp)] at g3
   have np:dr∉qs:=fun z=>by
    obtain ⟨k,hk⟩:=LS z;have hk':k<(((D.map (cnt m)).map fun l=>(K3 m).map fun k=>l.getD ((m - k) % m) 0).take i).length:=by rw [<- t1.len];exact (K0.mp hk).1
    have:=t1.row k dr _ hk (KZ hk');rw [hdr] at this;cases this
   walk_at "rn";refine ⟨df,_,_,rfl,rfl,s3 _ _ t1.top,LO (show (qs.map V.ref).length<=1000 by rw [KY];omega) (by rw [L5];decide),?_⟩
   refine ⟨eU hdf (s1.trans s3),qs++[dr],bJ [_,_,_,_,_],?_,rfl⟩;have:=t1.snoc s3 (dB g3) np (b4 t1.top hdr).symm;rw [Lv,K4,hl'];exact this
  ·rintro σ' H1 ⟨s1,qs,f,t1,rfl⟩;rw [Lf (by simp)] at t1
   have et:(D.map (cnt m)).map (fun l=>(K3 m).map fun k=>l.getD ((m - k) % m) 0)=(gf m D).map (cnt m):=by
    unfold gf;rw [MN,MN];exact LA fun r hr=>(GI m1 (st.wo.lt r hr)).symm
   rw [et] at t1;walk_at "3";refine b9 (i:=0) (s1 _ _ hS) rfl ?_;walk_at "rn";intro x dx hx hdx hne;have sn:=eW (C:=T.cL) hx hdx;refine ⟨x,dx,a,g,n,e,m,z,t,D,rfl,au,(st.wa.mono s1).mono sn,(hG.mono s1).mono sn,gt,st.wo,fun d' H2 fs h2 wf hD k2=>⟨rfl,?_⟩⟩;have s2:=lI hx hdx k2;walk_at "rn";refine b9 (i:=2) ((s1.trans s2) _ _ hS) rfl ?_;walk_at "rn";refine ⟨small (by show 3<=1000;decide),fun p hp=>?_⟩
   have s3:=aw hp (.tup [.ref x,.ref df,.int (z:Int)]);exact q p _ (s1.trans (s2.trans s3)) (.ok x _ z _ au z60 ⟨⟨T.cL,dx,d',fs,wO T,s3 _ _ h2,wf,hD.mono s3⟩,st.wo.back,st.ho.back gt st.wo,Rep.mono (s2.trans s3) t1.at⟩)
 walk_at "1";refine bf (fun _=>?_) (fun _=>?_)
 ·walk_at "rn";exact ⟨g,d,pS,a,v,n,e,m,l,c,z,t,ps,D,rfl,hG,gt,tb0,hl,ml0,m1,m60,hS,st,q⟩
 walk_at "rn";refine gZ (fun σ' H'=>ai H H'/\∃ (pO b:Addr) (u:V) (z':Nat) (E:List (List (Nat×Nat))) (f:Nat->Option V),H' pO=some (.tup [.ref b,u,.int (z':Int)])/\z'<=60/\kT (bt T) K H' b u g n t e m z' E/\σ'=[some (.ref g),some (.ref d),some (.int (m:Int)),some (.ref pS),some (.int (c:Int)),some (.int ((c % 7:Nat):Int)),f 0,f 1,some (.ref pO),f 2,f 3,f 4]) (fun N hN=>?_) ?_
 ·walk_at "rn";refine bf (fun _=>?_) (fun _=>?_)
  ·walk_at "rn";refine ⟨g,d,n,e,m,l,c,t,ps,rfl,hG,gt,tb0,hl,ml0,m1,m60,fun p b u z' E' H1 s1 hp z60' st'=>?_⟩;walk_at "rn";exact hN _ _ ⟨s1,p,b,u,z',E',bJ [_,_,_,_,_],hp,z60',st',rfl⟩
  ·walk_at "rn";exact hN _ _ ⟨ai.refl _,pS,a,v,z,D,bJ [_,_,_,_,_],hS,z60,st,rfl⟩
 rintro σ' H1 ⟨s1,pO,b,u,z',E',f,hO,z60',st',rfl⟩;have st1:=st.mono s1;have hS1:=s1 _ _ hS;obtain ⟨rl',rm',_⟩:=nB st'.wo;have zz:=Nat.mul_le_mul z60 z60';walk_at "rn";refine ⟨pS,pO,a,b,g,v,u,_,_,c % 7,n,e,m,z,z',t,D,E',rfl,hS1,hO,⟨st1.wa,st'.wa,hG.mono s1,gt,st.wo,st'.wo⟩,fun mv H2 s2 md1 md2=>?_⟩;have hS2:=s2 _ _ hS1;have hO2:=s2 _ _ hO;have s02:=s1.trans s2;have tr2:=Rep.mono s2 st1.tr;have tr2':=Rep.mono s2 st'.tr;walk_at "1";refine bf (fun c2=>?_) (fun c2=>?_)
 ·walk_at "3";refine b9 (i:=1) hS2 rfl ?_;walk_at "rn";refine b9 (i:=1) hO2 rfl ?_;walk_at "rn";refine ⟨v,u,m,_,_,rfl,tr2,tr2',by rw [rl,rl'],by omega,rm,rm',rb,m1,m60,fun df H3 s3 a3=>?_⟩
  have et:pC m (D.map (cnt m)) (E'.map (cnt m))=(lr n m D E').map (cnt m):=(zip_rows st.wo st'.wo fun r hr s hs=>Ih m1 (st.wo.lt r hr) fun y hy=>⟨by rw [st'.wo.row s hs];exact st'.ho.pl st'.wo s hs y hy,st'.wo.lt s hs y hy⟩).symm
  rw [et] at a3;walk_at "rn";refine b9 (i:=2) (s3 _ _ hS2) rfl ?_;walk_at "rn";refine b9 (i:=2) (s3 _ _ hO2) rfl ?_;walk_at "rn";refine ⟨small (by show 3<=1000;decide),fun p hp=>?_⟩
  have s4:=aw hp (.tup [mv,.ref df,.int ((z * z':Nat):Int)]);exact q p _ (s02.trans (s3.trans s4)) ((md1 c2).Fo (s3.trans s4) au (fun h60=>st.wo.cro st'.wo (by omega)) (fun _=>st.ho.cro gt st'.ho st.wo st'.wo) (Rep.mono s4 a3))
 walk_at "2";refine ⟨small (by show 0<=1000;decide),fun df hdf=>?_⟩
 have s3:=aw hdf (.lst []);have t3:Tbl (upd H2 df (.lst [])) df ((Ma (Ma (·+·)) (D.map (cnt m)) (E'.map (cnt m))).take 0) []:=Tbl.nil;generalize upd H2 df (.lst [])=H3 at s3 t3;walk_at "7";refine b9 (i:=1) (s3 _ _ hS2) rfl ?_;walk_at "rn";refine b9 (i:=1) (s3 _ _ hO2) rfl ?_;refine En (H₀:=H2) tr2 tr2' (by rw [rl,rl']) (fun i σ' H'=>ai H2 H'/\∃ (qs:List Addr) (f:Nat->Option V),Tbl H' df ((Ma (Ma (·+·)) (D.map (cnt m)) (E'.map (cnt m))).take i) qs/\σ'=[some (.ref g),some (.ref d),some (.int (m:Int)),some (.ref pS),some (.int (c:Int)),some (.int ((c % 7:Nat):Int)),some (.ref df),f 0,some (.ref pO),some mv,f 1,f 2]) ⟨s3,[],bJ [_,_,_],t3,rfl⟩ (fun i σ' H' z=>z.1) ?_ ?_
 ·rintro i l1 l2 w1 w2 σ' H4 H5 pt h1 h2 hw1 hw2 ⟨s4,qs,f,t4,rfl⟩ hpt rfl s5;have il:=(K0.mp h1).1;have m1':=rm l1 (K1 h1);have m2':=rm' l2 (K1 h2);have s45:=s4.trans s5;have t5:=t4.mono s5;generalize upd H4 pt (.tup [w1,w2])=H5 at s45 t5;have ql:qs.length<=23:=by rw [t5.len,Lh];omega
  walk_at "rn";refine ⟨.inl ⟨rfl,_,SqL.of t5.top⟩,?_⟩;walk_at "7";refine BF (Rep.mono s45 hw1) (Rep.mono s45 hw2) (by rw [m1',m2']) (by omega) ⟨_,_,rfl⟩ (fun x y H6 R6 hR6=>?_) fun dr H6 hdr s6 h6=>?_
  ·walk_at "rn";exact hR6
  have np:dr∉qs:=fun z=>by
   obtain ⟨k,hk⟩:=LS z;have hk':k<((Ma (Ma (·+·)) (D.map (cnt m)) (E'.map (cnt m))).take i).length:=by rw [<- t5.len];exact (K0.mp hk).1
   have:=t5.row k dr _ hk (KZ hk');rw [hdr] at this;cases this
  walk_at "rn";refine ⟨df,_,_,rfl,rfl,s6 _ _ t5.top,LO (show (qs.map V.ref).length<=1000 by rw [KY];omega) (by rw [L5];decide),?_⟩
  refine ⟨eU hdf (s45.trans s6),qs++[dr],bJ [_,_,_],?_,rfl⟩;have:=t5.snoc s6 h6 np (b4 t5.top hdr).symm;rw [Lv,NI,h1,h2];exact this
 ·rintro σ' H4 ⟨s4,qs,f,t4,rfl⟩;rw [Lf (by simp;omega)] at t4
  have et:Ma (Ma (·+·)) (D.map (cnt m)) (E'.map (cnt m))=(jS n D E').map (cnt m):=(zip_rows st.wo st'.wo fun r hr s hs=>Ig (st.wo.lt r hr) (st'.wo.lt s hs)).symm;rw [et] at t4;walk_at "3";refine b9 (i:=2) (s4 _ _ hS2) rfl ?_;walk_at "rn";refine b9 (i:=2) (s4 _ _ hO2) rfl ?_;walk_at "rn";refine ⟨small (by show 3<=1000;decide),fun p hp=>?_⟩
  have s5:=aw hp (.tup [mv,.ref df,.int ((z+z':Nat):Int)]);exact q p _ (s02.trans (s4.trans s5)) ((md2 c2).Fo (s4.trans s5) au (fun h60=>st.wo.bes st'.wo (by omega)) (fun _=>st.ho.bes gt st'.ho st.wo st'.wo) (t4.mono s5).at)
def IC {H:Hp} {Q:VK} {σ:St} {g:TG} {tt:TT} {ta:TE} {own:List Str} {fr:List Nat} {b:Int} {n:Nat} (eb:b=(n:Int)) (r:List (Nat×Nat)) (Sh:St->Prop) (hl:n=r.length) (hz:r.length<=1000) (h0:Sh (bB own fr σ))
  (turn:∀ (i:Nat) (y:Nat×Nat) σ' H' (R:St->V->Hp->Prop) (R0:St->Hp->Prop),i<n->r[i]?=some y->ai H H'->Sh σ'->(∀ σ2 q H5,Sh σ2->ai H' H5->H5 q=some (.tup [.int (y.1:Int),.int (y.2:Int)])->R σ2 (.ref q) H5) ->
   g (.int (i:Int)) σ' H' fun σ2 H3=>tt σ2 H3 fun ok H4=>if ok=true then ta σ2 H4 (R σ2) else R0 σ2 H4)
  (fin:∀ d H',H d=none->ai H H'->bL H' d r->Q (.ref d) H'):rU [.int b] H (cS own fr g tt ta σ Q):=by
 refine nQ (n:=n) eb (by omega) (fun d i σ' H' ys=>ai H H'/\∃ (qs:List Addr),ys=qs.map V.ref/\qs.length=i/\(∀ (j:Nat) (q:Addr) (c:Nat×Nat),qs[j]?=some q->r[j]?=some c->H' q=some (.tup [.int (c.1:Int),.int (c.2:Int)]))/\Sh σ')
  (fun d i σ' H' ys hi z=>by obtain ⟨_,qs,e,e2,_⟩:=z;rw [e,KY,e2];exact Lj _) (fun d hd=>⟨aw hd _,[],rfl,rfl,(fun j q c z=>by simp at z),h0⟩) ?_ ?_
 ·rintro d i σ' H2 ys R R0 hd hi ⟨s2,qs,rfl,hq,hc,hsh⟩ hys hR hR0;have hil:i<r.length:=by omega
  refine turn i _ σ' H2 R R0 hi (KZ hil) s2 hsh fun σ2 a H5 hs2 s5 ha=>?_;have na:a≠d:=fun e=>by rw [e,s5 _ _ hys] at ha;cases ha
  refine hR _ _ _ (s5 _ _ hys) ⟨fun b o zz=>by rw [av (aH zz hd)];exact s5 _ _ (s2 _ _ zz),qs++[a],by rw [LR];rfl,by rw [Lg,hq];rfl,fun j q c' hj hj'=>?_,hs2⟩
  rcases iX hj with ⟨_,z⟩|⟨z1,z2⟩
  ·have zz:=s5 _ _ (hc j q c' z hj');rw [av (fun e=>by rw [e,s5 _ _ hys] at zz;cases zz)]
   exact zz
  ·subst z2;rw [z1,hq,KZ hil] at hj';cases hj';rw [av na];exact ha
 ·rintro d σ' H2 ys fd hd ⟨s2,qs,rfl,hq,hc,_⟩;exact fin d H2 fd s2 ⟨qs,hd,by omega,hc⟩
def Ah (z:Nat):(yZ z).length=z:=by unfold yZ;rw [KY,Ln]
def Eb {H:Hp} {p p2:Addr} {Q:VK} {σ:St} {r1 r2:List (Nat×Nat)} {own:List Str} {fr:List Nat} {ta:TE} (F:Nat×Nat->Nat×Nat->Nat×Nat) (rest:List (Option V)) (h1:bL H p r1) (h2:bL H p2 r2) (he:r1.length=r2.length) (hz:r1.length<=1000) (hs:bB own fr σ=none :: none :: rest)
  (turn:∀ (c d:Nat×Nat) (q1 q2:Addr) H' (R:V->Hp->Prop),ai H H'->H' q1=some (.tup [.int (c.1:Int),.int (c.2:Int)])->H' q2=some (.tup [.int (d.1:Int),.int (d.2:Int)])->(∀ q H5,ai H' H5->H5 q=some (.tup [.int ((F c d).1:Int),.int ((F c d).2:Int)])->R (.ref q) H5)->ta (some (.ref q1) :: some (.ref q2) :: rest) H' R)
  (fin:∀ d H',H d=none->ai H H'->bL H' d (Ma F r1 r2)->Q (.ref d) H') :
  rQ K [.ref p,.ref p2] H (cS own fr (jQ K 2 (cW (cw 0) (cW (cw 1) jM))) sL ta σ Q):=by
 obtain ⟨qs,a1,a2,a3⟩:=h1;obtain ⟨ps,b1,b2,b3⟩:=h2;refine zo (xs:=qs.map V.ref) (ys:=ps.map V.ref) (by rw [KY,KY];omega) (by rw [KY];omega) (fun d i σ' H' zs=>ai H H'/\∃ (us:List Addr) (a b:Option V),zs=us.map V.ref/\us.length=i/\(∀ (j:Nat) (q:Addr) (y:Nat×Nat),us[j]?=some q->(Ma F r1 r2)[j]?=some y->H' q=some (.tup [.int (y.1:Int),.int (y.2:Int)]))/\σ'=a :: b :: rest) (fun d i σ' H' zs z=>z.1.seq (SqL.of a1)) (fun d i σ' H' zs z=>z.1.seq (SqL.of b1)) (SqL.of a1) (SqL.of b1)
  (fun d i σ' H' zs hi z=>by obtain ⟨_,us,_,_,e,e2,_⟩:=z;rw [e,KY,e2];exact Lj _) (fun d hd=>⟨aw hd _,[],_,_,rfl,rfl,(fun j q c z=>by simp at z),hs⟩) ?_ ?_
 ·rintro d i x y σ' H' H2 zs R R0 hd hx hy ⟨s1,us,a,b,rfl,ul,hu,rfl⟩ hzs s2 hR hR0;rw [K4] at hx hy;obtain ⟨q1,hq1,rfl⟩:=Mv.mp hx;obtain ⟨q2,hq2,rfl⟩:=Mv.mp hy;have i1:i<r1.length:=by rw [<- a2];exact (K0.mp hq1).1
  have i2:i<r2.length:=by omega
  have s12:=s1.trans s2;refine nR ?_;refine pB ?_;refine turn r1[i] r2[i] q1 q2 _ _ s12 (s12 _ _ (a3 i q1 _ hq1 (KZ i1))) (s12 _ _ (b3 i q2 _ hq2 (KZ i2))) fun q H5 s5 h5=>?_;have z5:=s5 _ _ (s2 _ _ hzs);refine hR _ _ _ z5 ⟨fun b o zz=>by rw [av (aH zz hd)];exact s5 _ _ (s12 _ _ zz),us++[q],_,_,by rw [LR];rfl,by rw [Lg,ul];rfl,fun j q' y hj hy=>?_,rfl⟩
  have ne:∀ {b:Addr} {ys:List V},H5 b=some (.tup ys)->b≠d:=fun z e=>by rw [e,z5] at z;cases z
  rcases iX hj with ⟨_,z⟩|⟨z1,z2⟩
  ·have zz:=s5 _ _ (s2 _ _ (hu j q' y z hy));rw [av (ne zz)];exact zz
  ·subst z2;rw [z1,ul,NI,KZ i1,KZ i2] at hy;cases hy;rw [av (ne h5)];exact h5
 ·rintro d σ' H' zs hd hzs ⟨s1,us,a,b,rfl,ul,hu,_⟩;exact fin d H' hd s1 ⟨us,hzs,by rw [ul,KY,List.length_zipWith];omega,hu⟩
def cT.row {n e m z x i:Nat} {t:List (List Nat)} {D:List (List (Nat×Nat))} {r1 r2 r3:List (Nat×Nat)} (h:cT n t e m z D) (wo:WOk n m z D) (hx:x<n) (hi:i<n) (h1:D[x]?=some r1) (h2:D[i]?=some r2) (h3:D[tb t x i]?=some r3):r3=Ma (vh m) (r2.map fun y=>r1.getD y.1 (0,0)) r2:=by
 have e1:∀ q,r1.getD q (0,0)=dA D x q:=fun q=>by unfold dA;rw [K2 (l:=D),h1];rfl
 rw [wo.rows h2,wo.rows h3];refine Mo (by simp) fun p p1 p2=>?_
 rw [KY,Ln] at p1;simp only [MR,Nc,P9];rw [e1];exact h.mul x hx i hi p p1
def cT.unit {n e m z:Nat} {t:List (List Nat)} {D:List (List (Nat×Nat))} {r:List (Nat×Nat)} (h:cT n t e m z D) (wo:WOk n m z D) (hr:D[e]?=some r):r=yZ z:=by
 rw [wo.rows hr];exact LA fun p hp=>h.one p (K7.mp hp)
inductive qR (W:Addr->Prop) (K:KW) (vs:List V) (H:Hp) (Q:VK) (E:XK):Prop
 | mk (a g:Addr) (u:V) (n e m z x:Nat) (t:List (List Nat)) (D:List (List (Nat×Nat))) (_:vs=[.ref a,u,.int (x:Int)]) (_:eG W H a g m z D) (_:WOk n m z D) (_:cT n t e m z D) (_:GT n t e) (_:At K H u t) (_:x<n) (_:∀ H',ai H H'->Q (.bl true) H')
def qT (T:Txt K mg):aJ P w K mg base CX0 3 T.eZ.f T.eZ.fd ["_law_way","_law_table","_law_one_here"] (qR (bt T) K):=by
 exists T.eZ.ok c7
 ·obtain ⟨a,g,u,n,e,m,z,x,t,D,rfl,_⟩:=h;rfl
 obtain ⟨a,g,u,n,e,m,z,x,t,D,rfl,hW,wo,ho,gt,hT,hx,q⟩:=h;obtain ⟨C,cx,d0,fs,hC,ha,wf,_⟩:=id hW;obtain ⟨r1,h1,m1,_⟩:=wo.get hx;have l1:=wo.row r1 m1;have zb:=wo.z1;have n23:=gt.le;refine ⟨_,(ae (aq (i:=3) c7.nd rfl (Ni rfl) (dJ (pv 0) (dC T) (cc T) (hr.mono (by decide)) T.cG (paF (pv 2) aa)))
   (ae (ba Ld rfl (aM rfl T.aZ (paF (aI (aN K rfl) rfl T.bA Lo (paF (pv 1) aa)) aa)) (ar (i:=4) c7.nd rfl (K6 rfl)) (ae (aq (i:=5) c7.nd rfl (K6 rfl) (dJ (pv 0) (dC T) (cc T) (hr.mono (by decide)) T.cG (paF (pv 4) aa)))
   (ae (bV (i:=6) rfl c7.nd rfl (K6 rfl) iJ (aT K rfl (pv 5)) (fun _ _ _ _=>⟨(jD K rfl (i:=0) (j:=1) rfl iJ.nd rfl (K6 rfl) rfl (K6 rfl)),aX,(ao (aj K rfl) (pv 2) (pv 0) (fun _ _=>rfl))⟩) rfl)
   (ae (bV (i:=6) rfl c7.nd rfl (K6 rfl) iI (kF K rfl rfl T.nC (paF (pv 6) (paF (pv 5) aa))) (fun _ _ _ _=>⟨(jD K rfl (i:=0) (j:=1) rfl iI.nd rfl (K6 rfl) rfl (K6 rfl)),aX,(el (paF (ao (bC K rfl) (pv 0) ag (fun _ _=>rfl)) (paF (ak aO (ak aW (ao (bC K rfl) (pv 0) ag (fun _ _=>rfl)) (ao (bC K rfl) (pv 1) ag (fun _ _=>rfl))) (aE K rfl (pv 2) rfl)) aa)))⟩) rfl)
   (af (a8 (aD (mT K rfl (Nat×Nat) hr.units) (dJ (pv 0) (dC T) (cc T) (hr.mono (by decide)) T.cG (paF (ao (aj K rfl) (ao (aj K rfl) (pv 1) (pv 2) (fun _ _=>rfl)) (pv 4) (fun _ _=>rfl)) aa)) (pv 6) (aG _)) (af (aK iE)) aQ))))))
   (af (aK (d9 (BD K rfl (Nat×Nat) hr.units) (dJ (pv 0) (dC T) (cc T) (hr.mono (by decide)) T.cG (paF (ay T.ei (f9 T) (hr.mono (by decide)) rfl (paF (pv 1) aa)) aa)) (bu rfl iK (aM rfl T.aZ (paF (aE K rfl (pv 0) rfl) aa)) (fun _ _ _ _=>⟨(ar (i:=0) iK.nd rfl (K6 rfl)),aX,(el (paF (pv 0) (paF ag aa)))⟩)) (aG _)))))),?_⟩
 walk_at "4";refine ⟨C,a,cx,fs,hC,rfl,ha,wf.moves,?_⟩;walk_at "rn";refine ⟨a,g,x,m,z,D,r1,rfl,hW,h1,fun pm H1 fpm s1 row1=>?_⟩;walk_at "rn";refine b8 (Rep.mono s1 hT) ?_;rw [gt.len];refine bK (n:=n) rfl (by omega) (fun i σ' H'=>ai H1 H'/\∃ f:Nat->Option V,σ'=[some (.ref a),some u,some (.int (x:Int)),some (.ref pm),f 0,f 1,f 2]) ⟨ai.refl _,bJ [_,_,_],rfl⟩ ?_ ?_
 ·rintro i σ' H2 hi ⟨s2,f,rfl⟩;obtain ⟨r2,h2,m2,_⟩:=wo.get hi;have l2:=wo.row r2 m2;have s02:=s1.trans s2;walk_at "4";refine ⟨C,a,cx,fs,hC,rfl,s02 _ _ ha,wf.moves,?_⟩;walk_at "rn";refine ⟨a,g,i,m,z,D,r2,rfl,hW.mono s02,h2,fun pn H3 fpn s3 row2=>?_⟩;have s03:=s02.trans s3;obtain ⟨qs,g1,g2,g3⟩:=row1.mono (s2.trans s3);walk_at "rn";refine xo (fun y=>r1.getD y.1 (0,0)) [some (.ref pm)] row2 (by omega) rfl (fun c H4 R hc hs hR=>?_) fun pb H4 fpb s4 rowb=>?_
  ·have cl:c.1<z:=ho.pl wo r2 m2 c hc;have ql:c.1<qs.length:=by omega
   walk_at "rn";refine ⟨pm,_,_,.ref qs[c.1],rfl,rfl,SqL.of (hs _ _ g1),f7 (by rw [K4,KZ ql];rfl),?_⟩
   exact hR _ _ (ai.refl _) (hs _ _ (g3 c.1 _ _ (KZ ql) (getD_some (0,0) (by omega))))
  have s04:=s03.trans s4;walk_at "7";refine Eb (vh m) [some (.ref a)] rowb (row2.mono s4) (by rw [KY]) (by rw [KY];omega) rfl (fun c d q1 q2 H5 R hs hq1 hq2 hR=>?_) fun pd H5 fpd s5 rowd=>?_
  ·have m1':=wo.m1;walk_at "3";refine b9 (i:=0) hq1 rfl ?_;walk_at "rn";refine b9 (i:=1) hq1 rfl ?_;walk_at "rn";refine b9 (i:=1) hq2 rfl ?_;walk_at "rn";refine cN T hC ((s04.trans hs) _ _ ha) wf ?_;refine tJ m1' ?_;walk_at "rn";refine ⟨small (by show 2<=1000;decide),fun b hb=>?_⟩
   exact hR b _ (aw hb _) au
  have s05:=s04.trans s5;have hT5:=Rep.mono s05 hT;obtain ⟨r3,h3,m3,_⟩:=wo.get (gt.lt x i hx hi);walk_at "1";refine ee ?_;walk_at "rn";refine ⟨C,a,cx,fs,hC,rfl,s05 _ _ ha,wf.moves,?_⟩;walk_at "rn";refine cI hT5 rfl (gt.get hx) fun w1 hw1=>?_;walk_at "rn";refine bh hw1 (gt.cZ hx hi) ?_;walk_at "rn";refine ⟨a,g,tb t x i,m,z,D,r3,rfl,hW.mono s05,h3,fun pq H6 fpq s6 row3=>?_⟩;walk_at "rn";refine t6 row3.at (rowd.mono s6).at ?_;walk_at "rn";refine bT (fun c=>absurd (ho.row wo hx hi h1 h2 h3) c) (fun _=>?_);walk_at "rn";exact ⟨s2.trans (s3.trans (s4.trans (s5.trans s6))),bJ [_,_,_],rfl⟩
 ·rintro σ' H2 ⟨s2,f,rfl⟩;have s02:=s1.trans s2;obtain ⟨r0,h0,m0,_⟩:=wo.get gt.elt;walk_at "4";refine ⟨C,a,cx,fs,hC,rfl,s02 _ _ ha,wf.moves,?_⟩;walk_at "rn";refine ⟨u,n,e,t,rfl,Rep.mono s02 hT,gt,fun H3 s3=>?_⟩;have s03:=s02.trans s3;walk_at "rn";refine ⟨a,g,e,m,z,D,r0,rfl,hW.mono s03,h0,fun pq H4 fpq s4 row0=>?_⟩;have s04:=s03.trans s4;walk_at "rn";refine dg T hC (s04 _ _ ha) wf ?_;refine IC (n:=z) rfl (yZ z) (fun σ'=>∃ y,σ'=[y]) (Ah z).symm (by rw [Ah];exact zb) ⟨_,rfl⟩ ?_ ?_
  ·rintro i y σ' H5 R R0 hi hy s5 ⟨y0,rfl⟩ hR;have ey:y=(i,0):=by
    unfold yZ at hy;rw [K4,LK hi] at hy;exact (LG hy).symm
   subst ey;walk_at "3";refine ⟨small (by show 2<=1000;decide),fun b hb=>?_⟩
   exact hR _ b _ ⟨_,rfl⟩ (aw hb _) au
  intro dr H5 fdr s5 hr5;refine GX (row0.mono s5).at hr5.at ?_;rw [decide_eq_true (ho.unit wo h0)];exact q _ (s04.trans s5)
inductive AY (W:Addr->Prop) (CG:Addr) (K:KW) (vs:List V) (H:Hp) (Q:VK) (E:XK):Prop
 | mk (pS a g:Addr) (u v:V) (n e m z x:Nat) (t:List (List Nat)) (D:List (List (Nat×Nat))) (_:vs=[.ref pS,u,.int (m:Int),.int (x:Int)]) (_:H pS=some (.tup [.ref a,v,.int (z:Int)])) (_:kT W K H a v g n t e m z D) (_:bb CG H g n t e) (_:GT n t e) (_:At K H u t) (_:x<n) (_:∀ H',ai H H'->Q (.bl true) H')
def q9 (T:Txt K mg):aJ P w K mg base CX0 4 T.ix.f T.ix.fd ["_law_state","_law_table","_law_spokes","_law_one_here"] (AY (bt T) T.aL K):=by
 exists T.ix.ok fw
 ·obtain ⟨pS,a,g,u,v,n,e,m,z,x,t,D,rfl,_⟩:=h;rfl
 obtain ⟨pS,a,g,u,v,n,e,m,z,x,t,D,rfl,hS,st,hG,gt,hT,hx,q⟩:=h;obtain ⟨C,cx,d0,fs,hC,ha,wf,_⟩:=id st.wa;obtain ⟨gx,gr,gb,hg,aR,aB⟩:=bb.get (K:=K) hG;have zb:=st.wo.z1;have n23:=gt.le;refine ⟨_,(ae (m8 (pv 0) (dR rfl (bc (ar (i:=4) fw.nd rfl (K6 rfl)) (bc (ar (i:=5) fw.nd rfl (K6 rfl)) (bc (ar (i:=6) fw.nd rfl (K6 rfl)) de)))))
   (ae (a8 (PW.pt (om (pV (jG (ay T.ji (Ag T) (hr.mono (by decide)) rfl (paF (aE K rfl (pv 4) rfl) aa)))) (om (aD eI (aE K rfl (pv 4) rfl) (pv 6) (aG _)) (mL (aD eI (aE K rfl (pv 4) rfl) (pv 2) (aG _)))))) (af (aK iE)) aQ)
   (ae (ba Ld rfl (aM rfl T.aZ (paF (aI (aN K rfl) rfl T.bA Lo (paF (pv 1) aa)) aa)) (ar (i:=7) fw.nd rfl (K6 rfl)) (ae (aq (i:=8) fw.nd rfl (K6 rfl) (dJ (pv 4) (DI T) (zf T) (hr.mono (by decide)) T.AN (paF (pv 7) aa)))
   (af (a8 (PW.pt (om (pV (jG (aI (lC K rfl) rfl T.kH Nz (paF (pv 8) (paF (vj (v:=.ty "list") rfl T.iG L8 rfl) aa))))) (mL (aD (mT K rfl Nat hr.units) (pv 8) (ao (aj K rfl) (pv 5) (pv 7) (fun _ _=>rfl)) (aG _))))) (af (aK iE)) aQ))))
   (af (aK (m6 (d9 (BD K rfl (List Nat) hr.units) (aE K rfl (aE K rfl (pv 4) rfl) rfl) (pv 1) (aG _)) (pM (ay T.eZ (qT T) (hr.mono (by decide)) rfl (paF (pv 4) (paF (pv 1) (paF (pv 3) aa))))))))))),?_⟩
 walk_at "rn";refine ⟨pS,_,rfl,SqT.of hS,rfl,⟨_,_,rfl,⟨_,_,rfl,⟨_,_,rfl,⟨rfl,?_⟩⟩⟩⟩⟩;walk_at "1";refine dg T hC ha wf ?_;walk_at "rn";refine ⟨_,rfl,?_⟩;walk_at "8";refine dg T hC ha wf ?_;walk_at "6";refine cN T hC ha wf ?_;walk_at "6";refine b8 hT ?_;rw [gt.len];refine bK (n:=n) rfl (by omega) (fun i σ' H'=>ai H H'/\∃ f:Nat->Option V,σ'=[some (.ref pS),some u,some (.int (m:Int)),some (.int (x:Int)),some (.ref a),some v,some (.int (z:Int)),f 0,f 1]) ⟨ai.refl _,bJ [_,_],rfl⟩ ?_ ?_
 ·rintro i σ' H1 hi ⟨s1,f,rfl⟩;obtain ⟨r,h1,m1,_⟩:=st.wo.get hi;walk_at "4";refine ⟨C,a,cx,fs,hC,rfl,s1 _ _ ha,wf.trace,?_⟩;walk_at "rn";refine ⟨a,g,i,m,z,D,r,rfl,st.wa.mono s1,st.wo.m1,st.wo.m60,h1,by rw [st.wo.row r m1];exact zb,st.wo.lt r m1,fun p H2 fp s2 hp=>?_⟩
  walk_at "1";refine yW (b:=true) (.lst hp) rfl ?_;walk_at "8";refine cI (Rep.mono (s1.trans s2) st.tr) rfl (by rw [K4,h1];rfl) fun w1 hw1=>?_
  refine t6 (α:=Nat) (bS hp) hw1 ?_;walk_at "6";exact ⟨s1.trans s2,bJ [_,_],rfl⟩
 ·rintro σ' H1 ⟨s1,f,rfl⟩;walk_at "rn";refine dI T hC (s1 _ _ ha) wf ?_;walk_at "rn";refine bG T (s1 _ _ hg) ?_;walk_at "rn";refine GX (Rep.mono s1 aR) (Rep.mono s1 hT) ?_;rw [decide_eq_true rfl];walk_at "rn";exact ⟨a,g,u,n,e,m,z,x,t,D,rfl,st.wa.mono s1,st.wo,st.ho,gt,Rep.mono s1 hT,hx,fun H2 s2=>q H2 (s1.trans s2)⟩
def yi (K:KW):Sp:=fun vs H Q _=>∃ (a:Addr) (ns:List Int),vs=[.ref a]/\SqL K H a (ns.map V.int)/\ns.length<=63/\∀ H',Q (.bl true) H'
def Jf (T:Txt K mg):aJ P w K mg base CX0 12 T.qw.f T.qw.fd ["_law_script"] (yi K):=by
 exists T.qw.ok ff
 ·obtain ⟨a,ns,rfl,_⟩:=h;rfl
 obtain ⟨a,ns,rfl,hS,h63,q⟩:=h;have hA:=Ik hS;refine ⟨_,(ae (aq (i:=1) ff.nd rfl (K6 rfl) (ay T.jd (y6 T) (hr.mono (by decide)) rfl (paF (pv 0) (paF ag aa))))
   (ae (aq (i:=2) ff.nd rfl (K6 rfl) (ay T.ik (rq T) (hr.mono (by decide)) rfl (paF (bu rfl zD (aT K rfl (pv 1)) (fun _ _ _ _=>⟨(ar (i:=0) zD.nd rfl (K6 rfl)),aX,(cJ (gq K rfl) rfl T.iG L8 (paF (pv 0) aa))⟩)) aa)))
   (ae (aq (i:=3) ff.nd rfl (K6 rfl) (ay T.jo (Aq T) (hr.mono (by decide)) rfl (paF (pv 1) aa)))
   (ae (aq (i:=3) ff.nd rfl (K6 rfl) (ak bg (pv 3) (ak aW ag (ak aO (ay T.eg (gC T) (hr.mono (by decide)) rfl (paF (pv 0) (paF ag aa))) (ak bH ag (pv 3))))))
   (ae (aq (i:=4) ff.nd rfl (K6 rfl) (ay T.fU (ku T) (hr.mono (by decide)) rfl (paF (pv 2) (paF (pv 1) (paF (pv 3) (paF (ay T.eg (gC T) (hr.mono (by decide)) rfl (paF (pv 0) (paF ag aa))) aa))))))
   (ae (aq (i:=5) ff.nd rfl (K6 rfl) (zm (yK K rfl) (pv 0) (vO ag) (vO (ak aW ag (ak bH ag (aI (aN K rfl) rfl T.bA Lo (paF (pv 1) aa)))))))
   (ae (ba Ld rfl (aM rfl T.aZ (paF (aI (aN K rfl) rfl T.bA Lo (paF (pv 5) aa)) aa)) (ar (i:=6) ff.nd rfl (K6 rfl)) (ae (aq (i:=7) ff.nd rfl (K6 rfl) (ak aO (ao (aj K rfl) (pv 5) (pv 6) (fun _ _=>rfl)) ag))
   (ae (a8 (aD cb (ak aO (pv 6) ag) ag (aG _)) (af (aq (i:=7) ff.nd rfl (K6 rfl) (ak bg (ak bH (pv 7) ag) ag))) aQ)
   (ae (aq (i:=8) ff.nd rfl (K6 rfl) (ay T.kB (A7 T) (hr.mono (by decide)) rfl (paF (pv 2) (paF (pv 1) (paF (pv 3) (paF (pv 4) (paF (pv 7) aa)))))))
   (ae (a8 (aD eI (Jw (Eo (ao (bC K rfl) (pv 8) ag (fun _ _=>rfl)))) (d9 gG (ao (bC K rfl) (pv 8) ag (fun _ _=>rfl)) ag (aG _)) (aG _)) (af (aK iE)) aQ)
   (af (a8 (ud (Bu (ao (bC K rfl) (pv 8) ag (fun _ _=>rfl)))) (ae (aq (i:=4) ff.nd rfl (K6 rfl) (pv 8))
   (af (a8 (pV (jG (ay T.ix (q9 T) (hr.mono (by decide)) rfl (paF (pv 4) (paF (pv 1) (paF (pv 3) (paF (ay T.fq (lh T) (hr.mono (by decide)) rfl (paF (pv 7) (paF ag (paF (aI (aN K rfl) rfl T.bA Lo (paF (pv 1) aa)) aa)))) aa))))))) (af (aK iE)) aQ))) aQ)))))))
   (af (aK (ay T.ix (q9 T) (hr.mono (by decide)) rfl (paF (pv 4) (paF (pv 1) (paF (pv 3) (paF ag aa)))))))))))))),?_⟩
 walk_at "rn";refine ⟨_,ns,0,rfl,hA,fun d1 H1 n t e ps1 s1 gt tb1 _ _=>?_⟩;have n1:=gt.pos;have n23:=gt.le;have hA1:=Rep.mono s1 hA;walk_at "rn";refine nF (K:=K) tb1.at (by rw [gt.len];omega) fun dh H2 psh s2 _ _ tbh=>?_
 walk_at "rn";refine ⟨_,n,e,t,rfl,tbh.at,gt,fun g H3 _ s3 hg0=>?_⟩;have hg:=bb.mono kY hg0;have tb3:=tb1.mono (s2.trans s3);have hA3:=Rep.mono (s2.trans s3) hA1;walk_at "rn";refine ⟨_,n,e,t,rfl,tb3.at,gt,fun l H4 s4 hl ln=>?_⟩;have l1:=hl.pos;have hg4:=bb.mono s4 hg;have tb4:=tb3.mono s4;have hA4:=Rep.mono s4 hA3;walk_at "rn";refine ⟨_,ns,3,rfl,hA4,?_⟩;generalize mn ns 3=kd;have hk60:0<60 / l:=Qk (by omega) (by omega)
 have hm:=Lu kd hk60;have m60:l * (1+kd % (60 / l))<=60:=L4 (L6 l (by omega)) (Qe 60 l)
 have m1:0<l * (1+kd % (60 / l)):=Ms (by omega) (by omega)
 have ml0:l * (1+kd % (60 / l)) % l=0:=O2 _ _;walk_at "rn";generalize l * (1+kd % (60 / l))=m at m60 m1 ml0;refine ⟨_,ns,4,rfl,hA4,?_⟩;walk_at "rn";refine ⟨g,d1,n,e,m,l,_,t,ps1,rfl,hg4,gt,tb4,hl,ml0,m1,m60,fun pS a5 v z D H5 s5 hp5 z60 st=>?_⟩;have tb5:=tb4.mono s5;have hg5:=hg4.mono s5;walk_at "rn";refine b8 tb5.at ?_;rw [gt.len];refine kP (by omega) (by omega) ?_
 walk_at "rn";refine F6 (Rep.mono s5 hA4) fun pc H6 _ s6 gc=>?_;have hcl:=Hs ns (some ((4:Nat):Int)) (some ((12+96 / n:Nat):Int));generalize cut ns (some ((4:Nat):Int)) (some ((12+96 / n:Nat):Int))=cs at gc hcl;walk_at "rn";refine b8 gc.at ?_;refine bK (n:=cs.length) rfl (by omega) (fun i σ' H'=>ai H6 H'/\∃ (pS a5:Addr) (v:V) (z:Nat) (D:List (List (Nat×Nat))) (f:Nat->Option V),H' pS=some (.tup [.ref a5,v,.int (z:Int)])/\z<=60/\kT (bt T) K H' a5 v g n t e m z D/\σ'=[some (.ref a),some (.ref d1),some (.ref g),some (.int (m:Int)),some (.ref pS),some (.ref pc),f 0,f 1,f 2]) ⟨ai.refl _,pS,a5,v,z,D,bJ [_,_,_],s6 _ _ hp5,z60,st.mono s6,rfl⟩ ?_ ?_
 ·rintro i σ' H7 hi ⟨s7,pS,a5,v,z,D,f,hp7,z60,st7,rfl⟩;have tb7:=(tb5.mono s6).mono s7;have hg7:=(hg5.mono s6).mono s7;walk_at "rn";refine cI (Rep.mono s7 gc.at) rfl (KZ hi) fun w1 hw1=>?_;cases (show w1=V.int _ from hw1);walk_at "rn";refine vn (by decide) ?_
  obtain ⟨x,hx⟩:∃ x:Nat,cs[i] % ((2147483647:Nat):Int)=(x:Int):=⟨(cs[i] % ((2147483647:Nat):Int)).toNat,by omega⟩
  rw [hx];walk_at "rn";refine gZ (fun σ' H'=>H'=H7/\∃ x:Nat,σ'=[some (.ref a),some (.ref d1),some (.ref g),some (.int (m:Int)),some (.ref pS),some (.ref pc),some (.int (i:Int)),some (.int (x:Int)),f 2]) (fun N hN=>?_) ?_
  ·walk_at "rn";refine bf (fun _=>?_) (fun _=>?_)
   ·walk_at "rn";exact hN _ _ ⟨rfl,_,rfl⟩
   ·walk_at "rn";exact hN _ _ ⟨rfl,_,rfl⟩
  rintro σ' H8 ⟨rfl,x,rfl⟩;walk_at "rn";refine ⟨g,d1,pS,a5,v,n,e,m,l,x,z,t,ps1,D,rfl,hg7,gt,tb7,hl,ml0,m1,m60,hp7,z60,st7,fun p H9 s9 dd=>?_⟩;have tb9:=tb7.mono s9;have s69:=s7.trans s9;walk_at "1";rcases dd with ⟨a9,v9,z9,D9,hp9,h60,st9⟩|⟨v9,z9,hp9,h60⟩
  ·refine b9 (i:=0) hp9 rfl ?_;walk_at "rn";refine b9 (i:=2) hp9 rfl ?_;walk_at "rn";refine G3 ?_;walk_at "rn";refine bT (fun c=>absurd (decide_eq_decide.mpr ⟨(fun z=>by cases z),fun z=>absurd z (by omega)⟩) c) (fun _=>?_)
   walk_at "1";refine b9 (i:=0) hp9 rfl ?_;walk_at "rn";refine bT (fun _=>?_) (fun c=>by cases c)
   walk_at "1";refine b8 tb9.at ?_;rw [gt.len];walk_at "rn";refine ⟨_,51,n,rfl,by decide,n1,fun xl=>?_⟩
   walk_at "rn";refine ⟨p,a9,g,_,v9,n,e,m,z9,_,t,D9,rfl,hp9,st9,hg7.mono s9,gt,tb9.at,xl,fun H10 s10=>?_⟩;walk_at "8";exact ⟨s69.trans s10,p,a9,v9,z9,D9,bJ [_,_,_],s10 _ _ hp9,h60,st9.mono s10,rfl⟩
  ·refine b9 (i:=0) hp9 rfl ?_;walk_at "rn";refine b9 (i:=2) hp9 rfl ?_;walk_at "rn";refine G3 ?_;walk_at "rn";refine bT (fun c=>absurd (decide_eq_decide.mpr ⟨fun _=>h60,fun _=>rfl⟩) c) (fun _=>?_);walk_at "1";refine b9 (i:=0) hp9 rfl ?_;walk_at "6";exact ⟨s69,pS,a5,v,z,D,bJ [_,_,_],s9 _ _ hp7,z60,st7.mono s9,rfl⟩
 ·rintro σ' H7 ⟨s7,pS,a5,v,z,D,f,hp7,z60,st7,rfl⟩;walk_at "rn";exact ⟨pS,a5,g,_,v,n,e,m,z,0,t,D,rfl,hp7,st7,(hg5.mono s6).mono s7,gt,((tb5.mono s6).mono s7).at,n1,fun H8 s8=>q _⟩
end
def HY {l:PD} {w:World} {K:KW} {mg:Str->Option Value} {fa:Addr} (hfa:mg "law" = some (.ref fa)) (T:Txt K mg) (hb:∀ (s:K5) (v:Value),OM s T.qw.fd ⟨[v],[]⟩ [("_law_script",v)]) :
  ∃ fd:LZ,(∀ (s:K5) (v:Value),OM s fd ⟨[v],[]⟩ [("_law_script",v)])/\∀ base:Heap,K.In base->base.Ns L1 mg->aJ l.prog w K mg base CX0 12 fa fd ["_law_script"] (yi K):=by
 refine ⟨T.qw.fd,hb,fun base _ _=>?_⟩;cases hfa.symm.trans T.qw.nm;exact Jf T
def walk {l:PD} {q:Lp} {loose:List Str} {XP:(Str->Option Value)->Heap->Prop} {YP:World->Heap->Prop} {d:DefRec} {K:Params->KW} (hn:l.most=some 63) (hdf:d.params.defaults=[])
  (hY:∀ (w:World) (h:Heap),YP w h->(K w.params).In h)
  (F:∀ (w:World) (mg:Str->Option Value) (fa:Addr) (h:Heap),(K w.params).In h->h.Ns L1 mg->mg d.name=some (.ref fa) ->
   ∃ fd:LZ,(∀ (s:K5) (u:Value),OM s fd ⟨[u],[]⟩ [("_law_script",u)])/\∀ base:Heap,(K w.params).In base->base.Ns L1 mg->aJ l.prog w (K w.params) mg base CX0 12 fa fd ["_law_script"] (yi (K w.params))) :
  PySem.W.WalkO q loose XP YP l.row.toRowW d [] (fun f vs=>PySem.call f vs) :=
 L2.Io (n:=63) (k:=12) (x:="_law_script") (CX:=fun _=>CX0) (sp:=fun w=>yi (K w.params)) hn (by decide) hdf ⟨rfl,by decide,by decide⟩ hY F (fun _ _ a ns hl _ hS=>⟨a,ns,rfl,hS,hl,fun _=>rfl⟩) fun _ _ _ _ _ z=>z
end TB
namespace PySem.W.Fast
def tw9928475389506201997:=0
def tw5015416435095026070:=0
def tw13008498203542560148:=0
def tw2074539369343013902:=0
def tw4448207524268134202:=0
def tw16009514511604375166:=0
def tw15030344992066461811:=0
def tw2208260992577977587:=0
def tw18230550316923728409:=0
def tw1786538542972517608:=0
def tw18146736057224860940:=0
def tw9298158152237371665:=0
def tw5420484957238692436:=0
def tw6079146487547611392:=0
def tw99491167998832335:=0
def tw7589188573100146940:=0
def tw9524039716965029770:=0
def tw6753482907790153674:=0
def tw10526274879754540606:=0
def tw18138347042724472867:=0
def tw12404871123954423476:=0
def tw5419108812760911584:=0
def tw3301199348876064443:=0
def tw8865660862726973761:=0
def tw16777144841031862695:=0
def tw7244937180964962819:=0
def tw1509752805432604218:=0
def tw13845293164531536196:=0
def tw3953827274574448956:=0
def tw17351591665333522054:=0
def tw4022095208766133701:=0
def tw7997217712500135955:=0
def tw8184790335388796058:=0
def tw9366830018825901520:=0
def tw17116738624436926232:=0
def tw14322356350273720228:=0
def tw1229495837578694272:=0
def tw12269071241956190220:=0
def tw4568490030340525812:=0
def tw679854683576358324:=0
def tw18440381263061547724:=0
def tw13663383302738100840:=0
def tw6975340027200468895:=0
def tw3304647428881063438:=0
def tw8321381823108745104:=0
def tw10210466030445674841:=0
def tw4199452072660367913:=0
def tw9262237890470140353:=0
def tw3674898457682601325:=0
def tw16956523058573808141:=0
def tw14103964999519358914:=0
def tw932505526172062566:=0
def tw7228032429051605305:=0
def tw6423800264817935525:=0
def tw12575101112709480468:=0
def tw7429890253905493762:=0
def tw18053076095732209646:=0
def tw16316497477767044791:=0
def tw3609003347177100285:=0
def tw12795906197267710047:=0
def tw14223224409334638979:=0
def tw17116636038609972942:=0
def tw15778871712301160052:=0
def tw3612931056124227654:=0
def tw442563341767289309:=0
def tw5687505195187194687:=0
def tw9392034390205819006:=0
def tw17103539733823710505:=0
def tw361657374083780009:=0
def tw9563063543709574432:=0
def tw11825539787943347319:=0
def tw5768958577164279117:=0
def tw13528098713949856223:=0
def tw1859173971319916427:=0
def tw8179420901880093754:=0
def tw5425064089355153083:=0
def tw13509844660793878571:=0
def tw8487521362348323799:=0
def tw17735928609648149176:=0
def tw8009247467399827248:=0
def tw187683950066099759:=0
def tw9055548142123811806:=0
def tw8286310891777766205:=0
def tw16788084213371465333:=0
def tw11159174334030152486:=0
def tw14211808582263196983:=0
def tw17074094792288180097:=0
def tw9114176351493481670:=0
def tw17454534295389289168:=0
def tw11567395964379548043:=0
def tw8365304852902511847:=0
def tw8980718243730781592:=0
def tw2176792820359545776:=0
def tw3734932671685839843:=0
def tw2030628174313135428:=0
def tw1025918832290448052:=0
def tw8850890990914065279:=0
def tw18206637688274114759:=0
def tw2651973829355568278:=0
def tw4152050858176050869:=0
def tw17657233240623929425:=0
def tw629596570222675658:=0
def tw7516242678327580773:=0
def tw5457766032746184610:=0
def tw3138513288358264248:=0
def tw4835558325727759765:=0
def tw1895183047155294803:=0
def tw17652527287641526101:=0
def tw13912879131309038862:=0
def tw18050754540609849241:=0
def tw5037669690721629727:=0
def tw15237089192487647814:=0
def tw12015745083018497824:=0
def tw3765258035218319407:=0
def tw14255263169894934795:=0
def tw8178490664947670928:=0
def tw2989691312124369488:=0
def tw9836361553786298602:=0
def tw11729958691164635924:=0
def tw15078354695088382300:=0
def tw5692485443146135376:=0
def tw5969434539607905865:=0
def tw16431780844172430596:=0
def tw9726735423887247062:=0
def tw11708581595755988634:=0
def tw12122162520625766080:=0
def tw15317865585224489745:=0
def tw9671742284939035121:=0
def tw2882267511883133492:=0
def tw14374685912016781718:=0
def tw13788276524501073524:=0
def tw11855221367750259319:=0
def tw13600234686574458442:=0
def tw7077015229211250475:=0
def tw15667385963316129139:=0
def tw3899661337665817260:=0
def tw10761783059201531933:=0
def tw13545227612004054371:=0
def tw17772477096879980044:=0
def tw16413507853775652191:=0
def tw10963975734368014040:=0
def tw14810523807019705937:=0
def tw3605648076511949046:=0
def tw4646602121608426816:=0
def tw1581115312700218986:=0
def tw17007223626936653778:=0
def tw1845392953508929586:=0
def tw4199205788366934682:=0
def tw4701330059606518461:=0
def tw17157621839041362964:=0
def tw17331114993777005563:=0
def tw8691701347777336674:=0
def tw11067734094457099888:=0
def tw15985829367255025088:=0
def tw8707154251835829484:=0
def tw16707542358342293007:=0
def tw9562466966592503440:=0
def tw15862647494290110679:=0
def tw18147651885360542057:=0
def tw6259121776822653368:=0
def tw16614540048220894377:=0
def tw15987499736858945434:=0
def tw17706351956065847479:=0
def tw15314827106671022944:=0
def tw15120541111605176789:=0
def tw4255154848058086606:=0
def tw14245129488928695926:=0
def tw13728630041938512545:=0
def tw8722351304172121999:=0
def tw10827666447789624708:=0
def tw18348445637467428054:=0
def tw7321178541117740331:=0
def tw16848904914917433553:=0
def tw2981849674022731951:=0
def tw6675343770834985215:=0
def tw9215206490123983958:=0
def tw410332472972416644:=0
def tw1767661006664091352:=0
def tw11092298639329038253:=0
def tw5033234069308571539:=0
def tw14542527762708365656:=0
def tw5211133579661825040:=0
def tw13609624075432757879:=0
def tw17709029957956668844:=0
def tw5226816168084948187:=0
def tw18279372215052215127:=0
def tw15383633641109039299:=0
def tw4796589350756676149:=0
def tw2370782183401108970:=0
def tw17329072834578812531:=0
def tw17556349806703274623:=0
def tw18126686284872767498:=0
def tw1564386330922559393:=0
def tw17280228554624509477:=0
def tw9983984075245405990:=0
def tw2128043627186105273:=0
def tw13017873441782187566:=0
def tw4869399477406981455:=0
def tw7058141416073193420:=0
def tw13384166220941486702:=0
def tw13757257590565402246:=0
def tw17102473410131734900:=0
def tw16284575034517899611:=0
def tw14184379197467789122:=0
def tw1792353958641407220:=0
def tw7930335706693951854:=0
def tw182348607441967150:=0
def tw8511402423043497858:=0
def tw14533573694091450521:=0
def tw2941107924743041038:=0
def tw608427455977489788:=0
def tw17869628664258967015:=0
def tw18352579607224023330:=0
def tw13731297759532945975:=0
def tw2437094802141986052:=0
def tw7640432407872732392:=0
def tw2071839810099245234:=0
def tw14225692827633131903:=0
def tw6786915373537936116:=0
def tw9073475333327935352:=0
def tw3679102382716465824:=0
def tw11271680007266128154:=0
def tw8565224299396585176:=0
def tw15452436014891726952:=0
def tw2150670943520091528:=0
def tw18322208603582132521:=0
def tw17086410494649919755:=0
end PySem.W.Fast
open PySem PySem.W PyProof.Rows L2
set_option maxRecDepth 100000 in
set_option maxHeartbeats 0 in
theorem PySem.Challenge.cw_tracebook_k48_whole_a_walk_of_ways_holds : PySem.Challenge.rw_tracebook_k48_whole_a_walk_of_ways.Holds := by
 w_on;o_law;k_head;(case hw=>w_witness2)
 k_fill
 refine TB.walk (l:=PySem.Challenge.rw_tracebook_k48_whole_a_walk_of_ways) rfl rfl (fun w h Y=>PySem.W.kIn_of Y) ?F
 case F =>
  intro w mg fa h KX G hmg
  exact TB.HY hmg ⟨df1 KX G,df1 KX G,df1 KX G,df1 KX G,df2 KX G,df2 KX G,df3 KX G,df1 KX G,df2 KX G,df1 KX G,df2 KX G,df2 KX G,df2 KX G,df1 KX G,df2 KX G,df2 KX G,df3 KX G,df2 KX G,df2 KX G,df1 KX G,df2 KX G,df3 KX G,dd4 KX G,df4 KX G,df2 KX G,df1 KX G,df2 KX G,df2 KX G,df3 KX G,df2 KX G,df2 KX G,df2 KX G,df2 KX G,df2 KX G,df3 KX G,df4 KX G,df3 KX G,df3 KX G,df2 KX G,df2 KX G,df1 KX G,df1 KX G,df1 KX G,df3 KX G,df1 KX G,df2 KX G,df4 KX G,df2 KX G,df2 KX G,df2 KX G,df4 KX G,df4 KX G,df3 KX G,df4 KX G,df5 KX G,df3 KX G,df5 KX G,df3 KX G,df4 KX G,df1 KX G,_,_,_,mgk KX G,o8,mkk,fnk,bd4,cy,cy,cy,cy,_,_,_,mgk KX G,o8,mkk,fnk,bd4,IK,cy,cy,cy,cy,_,_,fC,fnk,bd2,_,_,fC,fnk,bd2,_,_,_,mgk KX G,o8,mkk,fDk,fC,fC,cy,cy,cy,cy,cy,cy,_,_,_,mgk KX G,o8,mkk,fnk,bd3,fC,fC,cy,cy,cy,cy,_,_,_,mgk KX G,o8,mkk,fnk,bd3,fC,fC,cy,cy,cy,cy,_,_,_,mgk KX G,o8,mkk,fnk,bd2,fC,fC,cy,cy,cy,cy,_,_,_,mgk KX G,o8,mkk,fnk,bd3,fC,fC,cy,cy,cy,cy,_,_,_,mgk KX G,o8,mkk,fnk,bd4,fC,fC,cy,cy,cy,cy,_,mgk KX G,krf,krf,_,mgk KX G,_,mgk KX G,_,mgk KX G,mgz KX G,mgz KX G,mgz KX G,mgz KX G,mgz KX G,mgz KX G,mgz KX G,mgz KX G,mgz KX G,mgz KX G,mgz KX G,mgz KX G⟩ fun s v=>.of_eq rfl
