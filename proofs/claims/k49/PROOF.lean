import PyProof.Rows.All
import Wide.All
import OpenK.AllK
import Wide.FinOn
import Lean
import PyProof.EqAt
import PyProof.EqKinds
import PyProof.TupleCall
import PyProof.NeKinds
import PySem.Challenge.RW_tracebook_k49_whole_lifts_and_restrictio
local macro_rules | `(tactic| trivial) => `(tactic| decide +kernel)
def Oj {α:Type} {a:α} {q:Prop}:a=a\/q:=Or.inl rfl
open Array renaming length_toList->L4
open Bool renaming false_ne_true->Jd,eq_iff_iff->Kn,and_eq_true->La
open Classical renaming byContradiction->Kh
open False renaming elim->KS
open ForInStep renaming yield->Lg
open Int renaming emod_nonneg->Me,add_mul_emod_self_left->Mg,toNat_natCast->MB,toNat->N0,zero_add->Oc
open Int.ofNat renaming inj->NZ
open List renaming getD_eq_getElem?_getD->ID,length_map->IE,range->IF,getElem?_eq_getElem->IG,mem_of_getElem?->IH,getElem?_eq_some_iff->II,getElem?_map->IJ,mem_range->IK,mem_cons_of_mem->IM,mem_map->IP,mem_cons_self->IT,length_append->IZ,mem_singleton->I0,length_range->Jb,length_take->Je,replicate->Jg,take_of_length_le->Jh,size_toArray->Ji,getElem?_append_left->Jk,getElem?_append_right->Jl,map_congr_left->Jn,length_cons->Jp,all_eq_true->Jq,take_add_one->Js,idxOf_lt_length_of_mem->Jt,getElem?_range->Jv,length_pos_iff->Jw,mem_append_right->Jx,mem_cons->JB,mem_append->JG,map_cons->JL,map_append->JO,nodup_cons->JS,mem_filter->JX,lookup_cons->JY,flatMap_cons->J1,mem_append_left->J2,getElem?_of_mem->J3,map_map->J4,getElem?_set_self->Ke,take_length->Kj,getElem_idxOf->Ko,getElem?_set_ne->Kp,getElem_mem->Ks,nodup_range->Ku,replicate_succ->Kw,getElem?_eq_none->Kz,getElem?_take_of_lt->KC,mem_flatMap->KD,length_pos_of_mem->KP,mem_flatten->KW,length_replicate->KY,lookup_append->KZ,range_succ->K5,filter_cons_of_neg->K9,ext_getElem->Ld,pairwise_cons->Lf,find?_cons->Lh,length_filter_le->Lm,flatten_cons->Lo,perm_ext_iff_of_nodup->Lq,pairwise_iff_getElem->Lu,getElem_map->Lx,filterMap_cons->Ly,append_nil->LD,length_set->LH,any_cons->LI,filter_cons_of_pos->LM,ne_nil_of_mem->LN,any_eq_false->LO,lookup->LQ,getElem_inj->LW,length_drop->LX,replicate_succ'->LZ,mem_of_mem_take->L0,length_nil->L9,getElem_range->Mp,append_assoc->MC,nodup_append->ME,idxOf_lt_length_iff->MF,pairwise_map->MG,find?_range_eq_some->MH,find?_range_eq_none->MI,eq_of_mem_replicate->ML,getElem?_replicate->MQ,all_cons->MR,map_id->MT,any_eq_true->M0,pairwise_lt_range->Nc,of_mem_zip->Nl,forIn_cons->Np,length_zip->Nw,pairwise_flatMap->Nz,mem_iff_getElem->NH,idxOf_cons_self->NJ,nodup_nil->NK,getElem_of_mem->NP,filter_sublist->NR,flatten_append->NS,flatMap_append->NT,map->N1,map_nil->Ob,length->Oh
open List.Pairwise renaming imp_of_mem->LA,filter->NI
open Nat renaming le_refl->IV,lt_of_lt_of_le->Ja,mod_lt->Jj,ne_of_lt->Jm,mod_eq_of_lt->JE,dvd_of_mod_eq_zero->JH,lt_or_ge->JI,mul_le_mul_left->JQ,lt_of_le_of_lt->JT,zero_add->JU,le_trans->JV,div_eq_of_lt->JZ,div_lt_of_lt_mul->J5,zero_le->J6,mul_pos->J8,mul_comm->Kd,add_mul_mod_self_left->Kg,lt_irrefl->Ki,add_mul_div_left->Kq,add_zero->Kt,mod_eq_zero_of_dvd->Kv,lt_trichotomy->Kx,succ_mul->Ky,eq_of_beq_eq_true->KA,mul_le_mul_right->KG,add_comm->KH,mul_zero->KL,beq->KQ,add_assoc->K0,mul_assoc->K1,zero_mul->K2,le_of_lt->K6,mul_succ->K7,add_mod_mod->Lj,div_add_mod->Lk,lt_succ_self->Lw,eq_zero_or_pos->LK,le_succ->LR,mul_left_comm->LS,le_add_right->LY,min_eq_left->L7,mod_add_mod->Mc,mul_add->Md,mod_self->Mn,zero_mod->Mo,eq_of_mul_eq_mul_left->Mt,lt_succ_of_lt->MD,add_sub_of_le->MJ,mul_mod_right->MK,add_mod->MX,div_div_eq_div_mul->Nb,le_of_eq->Ni,lt_trans->Nr,mod_add_div->Nx,zero_div->Ny,mul_div_le->NN,div_pos->NU,dvd_trans->N2,ne_of_gt->N7,sub_self->Od
open Ne renaming symm->Lr
open Option renaming getD_some->Lc,map_some->L8,isSome_iff_exists->MA,map_eq_some_iff->M9
open Option.some renaming inj->Jy
open Or renaming inl->IQ,inr->Lb
open PyProof.Rows renaming boot_list->JW,callWith_type1->J7,boot_all->LV,assignInOrder_cons->Mj,boot_sorted->MM,boot_range->MY,subscriptTail_builtinR->M5,AllBare->Nd,boot_any->NA,Constant_none->NW,IntsAre->N4
open PySem renaming Shared->IL,wpAny_bind->IS,Program->Jc,boot_len->Jf,sizeLine->Jr,wpAny_pure->Ju,Around->JF,mem_of_lookup->JK,mainGlobals->JN,starEach->JP,FuncData->JR,sizeLine_eq->Kc,Paired->Kr,wpAny_truthy_bool->KN,wpAny_mono->KR,wpAny_passesOwn->K3,wpAny_holding->K8,NameKind->Ln,wpAny_comprehension_free->Lz,wpAny_Call_Name_kw->LF,ZipApart->LU,call_meets->L3,wpAny_execs_nil->L5,wpAny_field->Ma,GenState->Mh,tupleKind_room_in1->Mm,BindsTo->Ms,wpAny_newObj_type->Mw,wpAny_pyIter_list->Mx,wpAny_standAt->MO,wpAny_callSpecial?_slot->MU,wpAny_pyIter_zip->M1,codeAny_compStart_list->M7,richCompare_meets_room->M8,wpAny_nextOf_list_item->Na,wpAny_isTrue_Compare1->Nf,codeAny_mono->Nj,Keyword->Nk,wpAny_pyNext_zip_item->Nq,pushCells_keeps->Nt,SetTable->ND,wpAny_pyNext_zip_end->NF,IsPair->NL,wpAny_seqItems->NM,Result->NY,Builtin->N5,Within->N6,seqIndex_neg->Oa,IntMulOk->Oe,seqIndex_of->Oi
open PySem.Around renaming under_plainId->NG,under->N8
open PySem.Builtin.Dict renaming updateFrom->MW
open PySem.Builtin.Int renaming intTooBig->Nu,intBits->NQ
open PySem.Builtin.List renaming listTooLong->K4
open PySem.Builtin.Range renaming rangeSize->MP
open PySem.Builtin.SmallTypes renaming ownedTupleIsFree->Kl,nextOf->Ls
open PySem.Calls renaming Name_function_global->Mf
open PySem.Code renaming isFrame->N9
open PySem.Data renaming cell->NX,fields->Og
open PySem.F renaming plainAttrs_list->Jo,slot_list_append->Jz,type_list_append->JA,slot_list_index->LJ,slot_zip_getattribute->LL,slot_zip_next->Mb,type_list_index->MZ
open PySem.Heap renaming get?_push_of_some->IU,lt_size->IY,get?_push_size->JJ,size_push->Le,SameBut->Mi,get?_update_other->M6
open PySem.NameKind renaming free->Ka,cell->Kb
open PySem.Obj renaming mapSeq->NC
open PySem.Paired renaming length->LC
open PySem.PassesOwn renaming never->IW
open PySem.SeqAt renaming EqAt->N3
open PySem.SeqAt.EqAt renaming same->Nm
open PySem.Value renaming ref->JC,int->LB,none->Mu,bool->NB,str->NV,float->Of
open PySem.W renaming Frag->IC,fnOf->JD,keepIn->JM,findIn->J0,codeIn->J9,kia_one->Kf,emptyDict->Km,instObj->KO,nsIn->Li,mg_of->Lp,plainGet->Lv,callWith_K->LG,hasDictIn->LP,plainGet_of->L6,isFn->Ml,lookIn->Mq,kitOne->Mr,methodObj->Mv,plainOver->My,specialIn->Mz,cellsFrom_some->M4,takerIn->Ng,makesIn->Nh,OpenLaw->Nn,methodCall_KW->Nv
open Sum renaming inl->MN,inr->NO
open True renaming intro->KU
set_option Elab.async false
set_option linter.all false
set_option maxRecDepth 100000
local macro_rules|`(tactic|lia)=>`(tactic|first|lia +ring|omega)
set_option hygiene false
local macro_rules|`(tactic|exists $t)=>`(tactic|refine $t (fun vs H Q E h=>?_) (fun cdv A outer s H vs Q E hr h=>?_))
set_option hygiene true
namespace L2
open PySem PySem.Spec PyProof.Rows
abbrev Key:=Sum Int Str
def pj:Key->Value->Bool
 | .inl k,v=>Value.isInt k v
 | .inr x,v=>Value.isStrOf x v
def Iq (w:World):Key->Int
 | .inl k=>hashInt k
 | .inr x=>hashStr w x
def cR:∀ {k:Key} {v:Value},pj k v=true->(∃ i t,k=MN i/\v=LB i t)\/(∃ x t,k=NO x/\v=NV x t)
 | .inl i,v,h=>by
  obtain ⟨t,e⟩:=Value.isInt_shape (k:=i) (v:=v) h;exact .inl ⟨i,t,rfl,e⟩
 | .inr x,v,h=>by
  obtain ⟨t,e⟩:=Value.isStrOf_shape (x:=x) (v:=v) h;exact .inr ⟨x,t,rfl,e⟩
def Bt (i:Int) (t:Tok):pj (.inl i) (.int i t)=true:=by simp [pj,Value.isInt]
def Ci (x:Str) (t:Tok):pj (.inr x) (.str x t)=true:=by simp [pj,Value.isStrOf]
def GQ (a b:Int):decide ((MN a:Key)=MN b)=(a == b):=by
 by_cases e:a=b
 ·subst e;simp
 ·have h:¬ (MN a:Key)=MN b:=fun q=>e (MN.inj q);rw [decide_eq_false h];exact (beq_eq_false_iff_ne.mpr e).symm
def Ht (a b:Str):decide ((NO a:Key)=NO b)=decide (a=b):=by
 by_cases e:a=b
 ·subst e;simp
 ·have h:¬ (NO a:Key)=NO b:=fun q=>e (NO.inj q);rw [decide_eq_false h,decide_eq_false e]
def G5 (a:Int) (b:Str):decide ((MN a:Key)=NO b)=false:=decide_eq_false (fun q=>nomatch q)
def GL (a:Str) (b:Int):decide ((NO a:Key)=MN b)=false:=decide_eq_false (fun q=>nomatch q)
def cI (prog:Jc) (w:World):PySem.KeyKind prog w Key where
 is:=pj
 hash:=Iq w
 inj:=fun v a b ha hb=>by
  rcases cR ha with ⟨i,t,rfl,rfl⟩|⟨x,t,rfl,rfl⟩
  ·rcases cR hb with ⟨j,u,rfl,e⟩|⟨y,u,rfl,e⟩
   ·injection e with e1 _;rw [e1]
   ·exact nomatch e
  ·rcases cR hb with ⟨j,u,rfl,e⟩|⟨y,u,rfl,e⟩
   ·exact nomatch e
   ·injection e with e1 _;rw [e1]
 byValue:=fun k v h=>by
  rcases cR h with ⟨i,t,rfl,rfl⟩|⟨x,t,rfl,rfl⟩ <;> rfl
 pyHash:=fun hv h=>by
  rcases cR hv with ⟨i,t,rfl,rfl⟩|⟨x,t,rfl,rfl⟩
  ·exact wpAny_pyHash_int h
  ·exact wpAny_pyHash_str h
 eqBool:=fun hu hv h=>by
  rcases cR hu with ⟨i,t,rfl,rfl⟩|⟨x,t,rfl,rfl⟩
  ·rcases cR hv with ⟨j,u,rfl,rfl⟩|⟨y,u,rfl,rfl⟩
   ·rw [GQ] at h;exact wpAny_eqBool_int h
   ·rw [G5] at h;exact SeqAt.EqAt.int_str i t y u _ _ _ _ h
  ·rcases cR hv with ⟨j,u,rfl,rfl⟩|⟨y,u,rfl,rfl⟩
   ·rw [GL] at h;exact SeqAt.EqAt.str_int x t j u _ _ _ _ h
   ·rw [Ht] at h;exact wpAny_eqBool_str h
 «strs»:=fun k x t v h=>by
  rcases cR h with ⟨i,u,rfl,e⟩|⟨y,u,rfl,e⟩
  ·exact nomatch e
  ·injection e with e1 _;subst e1;cases v <;> rfl
def zg (prog:Jc) (w:World) (i:Int) (t:Tok):(cI prog w).is (.inl i) (.int i t)=true:=Bt i t
def yZ (prog:Jc) (w:World) (x:Str) (t:Tok):(cI prog w).is (.inr x) (.str x t)=true:=Ci x t
inductive V where
 | non|bl (b:Bool)|int (i:Int)|str (x:Str)|byt (b:Array UInt8)|flt (b:UInt64)|ref (a:Addr)|ty (n:String)
 deriving DecidableEq
def RelV:V->Value->Prop
 | .non,u=>u=Mu
 | .bl b,u=>u=NB b
 | .int i,u=>∃ t,u=LB i t
 | .str x,u=>∃ t,u=NV x t
 | .byt b,u=>∃ t,u=Value.bytes b t
 | .flt b,u=>∃ t,u=Of b t
 | .ref a,u=>u=JC a
 | .ty n,u=>u=Value.type n
abbrev Vals:List V->List Value->Prop:=Kr RelV
def Vals.length {xs:List V} {us:List Value} (r:Vals xs us):xs.length=us.length:=LC r
def Vals.get:∀ {xs:List V} {us:List Value} {i:Nat} {x:V},Vals xs us->xs[i]?=some x->∃ u,us[i]?=some u/\RelV x u
 | _,_,_,_,.nil,e=>by simp at e
 | _,_,0,_,.cons r _,e=>by simp at e;subst e;exact ⟨_,rfl,r⟩
 | _,_,i+1,x,.cons _ t,e=>by
  obtain ⟨u,h1,h2⟩:=Vals.get (i:=i) (x:=x) t (by simpa using e)
  exact ⟨u,by simpa using h1,h2⟩
def Vals.set {x:V} {u:Value} (r:RelV x u):∀ {xs:List V} {us:List Value} (i:Nat),Vals xs us->Vals (xs.set i x) (us.set i u)
 | _,_,_,.nil=>.nil
 | _,_,0,.cons _ t=>.cons r t
 | _,_,i+1,.cons q t=>.cons q (Vals.set r i t)
def Vals.append:∀ {xs ys:List V} {us ws:List Value},Vals xs us->Vals ys ws->Vals (xs++ys) (us++ws)
 | _,_,_,_,.nil,s=>s
 | _,_,_,_,.cons r t,s=>.cons r (Vals.append t s)
def Vals.take:∀ {xs:List V} {us:List Value} (n:Nat),Vals xs us->Vals (xs.take n) (us.take n)
 | _,_,0,_=>.nil
 | _,_,_+1,.nil=>.nil
 | _,_,n+1,.cons r t=>.cons r (Vals.take n t)
def Vals.drop:∀ {xs:List V} {us:List Value} (n:Nat),Vals xs us->Vals (xs.drop n) (us.drop n)
 | _,_,0,r=>r
 | _,_,_+1,.nil=>.nil
 | _,_,n+1,.cons _ t=>Vals.drop n t
def eE:Option V->Option Value->Prop
 | some v,some u=>RelV v u
 | none,none=>True
 | _,_=>False
def KV {κ:Type}:List (κ×V)->List (κ×Value)->Prop:=Kr fun (p:κ×V) (q:κ×Value)=>p.1=q.1/\RelV p.2 q.2
def kV:Key->V
 | .inl i=>.int i
 | .inr x=>.str x
inductive HO where
  | lst (xs:List V)
  | tup (xs:List V)
  | dK (kvs:List (Key×V))|dT (kvs:List (List Key×V))
  | set (S:Int->Bool) (n:Nat)
  | ins (C dx:Addr) (fs:List (Str×V))
  | own (x:Addr)
  | xd (fs:List (Str×V))
  | met (f x:Addr)
  | rng (lo hi:Int)
  | frz (o:Obj) (u:HO)
  | tbl (ps:Array Value)
  | ext (φ:Heap->Prop)
abbrev Hp:=Addr->Option HO
def upd (H:Hp) (a:Addr) (o:HO):Hp:=fun b=>if b=a then some o else H b
def ar {H:Hp} {a:Addr} {o:HO}:upd H a o a=some o:=by unfold upd;rw [if_pos rfl]
def av {H:Hp} {a b:Addr} {o:HO} (h:b≠a):upd H a o b=H b:=by unfold upd;rw [if_neg h]
def Ia {H:Hp} {a b:Addr} {o u:HO} (h:H a=some o) (h':H b=some u) (d:o≠u):a≠b:=by
 intro e;subst e;rw [h] at h';exact d (Jy h')
def az {H:Hp} {a b:Addr} {o:HO} (h:H a=some o) (h':H b=none):a≠b:=by
 intro e;subst e;rw [h] at h';cases h'
section
variable (P:Jc) (w:World)
def bT (H:Hp) (h:Heap) (a:Addr):HO->Prop
 | .lst xs=>xs.length<=Jr/\∃ (its:List Value) (n:Nat),Vals xs its/\h.get? a=some { cls:=.type "list",data:=.seq its.toArray n }
 | .tup xs=>xs.length<=Jr/\∃ its:List Value,Vals xs its/\IsTup h a its.toArray
 | .dK kvs=>kvs.length<=Jr/\(a == sysModules)=false/\∃ vs,KV kvs vs/\h.DictOf (cI P w) a vs
 | .dT kvs=>kvs.length<=Jr/\(a == sysModules)=false/\∃ xs:List (List Key×Addr×Value),
   Kr (fun (p:List Key×V) (q:List Key×Addr×Value)=>p.1=q.1/\H q.2.1=some (.tup (p.1.map kV))/\RelV p.2 q.2.2) kvs xs /\
   ∃ o es ep,h.get? a=some o/\o.ExactDict/\o.data=.dict es ep/\es.toList=xs.map (entryOfKey (tupleKind (cI P w)))/\(xs.map (·.1)).Nodup
 | .set S n=>h.SetOf (intKind P w) a S n
 | .ins C dx fs=>H dx=some (.own a)/\fs.length<=1000/\dx≠a/\h.get? a=some (KO C dx) /\
   ∃ mA,h.Ns1 dx mA/\(∀ f,eE (fs.lookup f) (mA f))/\N6 mA (fs.map (·.1))
 | .own _=>∃ o,h.get? a=some o
 | .xd fs=>∃ mA,h.Ns1 a mA/\∀ f,eE (fs.lookup f) (mA f)
 | .rng lo hi=>∃ t u v,h.get? a=some { cls:=.type "range",data:=.fields #[.int lo t,.int hi u,.int 1 v] }
 | .frz o u=>h.get? a=some o/\bT H h a u
 | .tbl ps=>h.get? a=some { cls:=.none,data:=.fields ps }
 | .met f x=>h.get? a=some (Mv (.ref f) (.ref x))
 | .ext φ=>φ h/\(∃ o,h.get? a=some o)/\∀ h1 h2:Heap,φ h1->(∀ o,h1.get? a=some o->h2.get? a=some o)->φ h2
def HOk (H:Hp) (h:Heap):Prop:=∀ a o,H a=some o->bT P w H h a o
end
section
variable {P:Jc} {w:World} {H H':Hp} {h h':Heap} {a:Addr} {o:HO}
def bT.lt (x:bT P w H h a o):a<h.objs.size:=by
 cases o with
 | lst xs=>obtain ⟨_,_,_,_,e⟩:=x;exact IY e
 | tup xs=>obtain ⟨_,_,_,p⟩:=x;exact p.lt
 | dK kvs=>obtain ⟨_,_,_,_,o,_,_,e,_⟩:=x;exact IY e
 | dT kvs=>obtain ⟨_,_,_,_,o,_,_,e,_⟩:=x;exact IY e
 | set S n=>obtain ⟨o,_,_,_,e,_⟩:=x;exact IY e
 | ins C dx fs=>obtain ⟨_,_,_,e,_⟩:=x;exact IY e
 | own y=>obtain ⟨_,e⟩:=x;exact IY e
 | xd fs=>obtain ⟨_,⟨_,_,_,e,_⟩,_⟩:=x;exact IY e
 | rng lo hi=>obtain ⟨_,_,_,e⟩:=x;exact IY e
 | frz ob u=>obtain ⟨e,_⟩:=x;exact IY e
 | tbl ps=>exact IY (show h.get? a=some _ from x)
 | met f y=>exact IY (show h.get? a=some _ from x)
 | ext φ=>obtain ⟨_,⟨_,e⟩,_⟩:=x;exact IY e
def Paired.cY {α β:Type} {F G:α->β->Prop}:∀ {l₁:List α} {l₂:List β},Kr F l₁ l₂->(∀ a b,F a b->G a b)->Kr G l₁ l₂
 | _,_,.nil,_=>.nil
 | _,_,.cons r t,f=>.cons (f _ _ r) (Paired.cY t f)
def bT.pY (x:bT P w H h a o) (k:∀ b u,(b=a\/H b=some (.own a))->h.get? b=some u->h'.get? b=some u)
  (ho:∀ b,H b=some (.own a)->H' b=some (.own a)) (ht:∀ b xs,H b=some (.tup xs)->H' b=some (.tup xs)):bT P w H' h' a o:=by
 induction o with
 | lst xs=>obtain ⟨z,its,n,r,e⟩:=x;exact ⟨z,its,n,r,k _ _ (.inl rfl) e⟩
 | tup xs=>obtain ⟨z,its,r,ob,e,c⟩:=x;exact ⟨z,its,r,ob,k _ _ (.inl rfl) e,c⟩
 | dK kvs=>obtain ⟨z,y,vs,r,ob,es,ep,e,c⟩:=x;exact ⟨z,y,vs,r,ob,es,ep,k _ _ (.inl rfl) e,c⟩
 | dT kvs =>
  obtain ⟨z,y,xs,r,ob,es,ep,e,c⟩:=x;exact ⟨z,y,xs,Paired.cY r fun p q z=>⟨z.1,ht _ _ z.2.1,z.2.2⟩,ob,es,ep,k _ _ (.inl rfl) e,c⟩
 | set S n=>obtain ⟨ob,es,ep,t,e,c⟩:=x;exact ⟨ob,es,ep,t,k _ _ (.inl rfl) e,c⟩
 | ins C dx fs =>
  obtain ⟨d,z,ne,e,mA,⟨od,es,ep,e2,c⟩,r⟩:=x;exact ⟨ho _ d,z,ne,k _ _ (.inl rfl) e,mA,⟨od,es,ep,k _ _ (.inr d) e2,c⟩,r⟩
 | own y=>obtain ⟨ob,e⟩:=x;exact ⟨ob,k _ _ (.inl rfl) e⟩
 | xd fs=>obtain ⟨mA,⟨od,es,ep,e,c⟩,r⟩:=x;exact ⟨mA,⟨od,es,ep,k _ _ (.inl rfl) e,c⟩,r⟩
 | rng lo hi=>obtain ⟨t,u,v,e⟩:=x;exact ⟨t,u,v,k _ _ (.inl rfl) e⟩
 | frz ob u ih=>obtain ⟨e,q⟩:=x;exact ⟨k _ _ (.inl rfl) e,ih q⟩
 | tbl ps =>
  have e:h.get? a=some { cls:=.none,data:=.fields ps }:=x;show h'.get? a=some { cls:=.none,data:=.fields ps };exact k a _ (.inl rfl) e
 | met f y =>
  have e:h.get? a=some (Mv (.ref f) (.ref y)):=x;show h'.get? a=some (Mv (.ref f) (.ref y));exact k a _ (.inl rfl) e
 | ext φ=>obtain ⟨p,⟨o,e⟩,st⟩:=x;exact ⟨st _ _ p fun o q=>k _ _ (.inl rfl) q,⟨o,k _ _ (.inl rfl) e⟩,st⟩
def HOk.lt (x:HOk P w H h) (e:H a=some o):a<h.objs.size:=(x a o e).lt
def HOk.fresh (x:HOk P w H h) (e:h.objs.size<=a):H a=none:=by
 cases q:H a with
 | none=>rfl
 | some u=>exact absurd (Ja (x.lt q) e) (Ki _)
def HOk.kept (x:HOk P w H h) (k:∀ b u,h.get? b=some u->h'.get? b=some u):HOk P w H h':=fun a o e =>
 (x a o e).pY (fun b u _ q=>k b u q) (fun _ q=>q) fun _ _ q=>q
def HOk.laid (x:HOk P w H h) (k:∀ b u,h.get? b=some u->h'.get? b=some u) (hp:h.objs.size<=a) (new:bT P w (upd H a o) h' a o):HOk P w (upd H a o) h':=fun b u e=>by
 have hn:=x.fresh hp
 by_cases hb:b=a
 ·subst hb;rw [ar] at e;cases e;exact new
 ·rw [av hb] at e;exact (x b u e).pY (fun c v _ q=>k c v q) (fun c q=>by rw [av (az q hn)];exact q) fun c xs q=>by rw [av (az q hn)];exact q
end
def Rd (H:Hp) (a:Addr) (u:HO):Prop:=H a=some u\/∃ o,H a=some (.frz o u)
def Rd.of {H:Hp} {a:Addr} {u:HO} (h:H a=some u):Rd H a u:=.inl h
def Rd.ok {P:Jc} {w:World} {H:Hp} {h:Heap} {a:Addr} {u:HO} (r:Rd H a u) (x:HOk P w H h):bT P w H h a u:=by
 rcases r with r|⟨o,r⟩
 ·exact x a u r
 ·obtain ⟨_,q⟩:=x a _ r;exact q
def Mut:Option HO->Prop
 | some (.lst _)=>True
 | some (.dK _)=>True
 | some (.dT _)=>True
 | some (.set _ _)=>True
 | some (.ins _ _ _)=>True
 | some (.ext _)=>True
 | _=>False
section
variable {P:Jc} {w:World} {H:Hp} {h h':Heap} {x e:Addr} {o':HO}
def HOk.write (ok:HOk P w H h) (mu:Mut (H x)) (he:e=x\/H e=some (.own x)) (k:∀ b u,b≠e->h.get? b=some u->h'.get? b=some u) (heo:∃ u,h'.get? e=some u)
  (new:bT P w (upd H x o') h' x o'):HOk P w (upd H x o') h':=fun b u q=>by
 have nown:∀ c y,H c=some (.own y)->c≠x:=fun c y r z=>by subst z;rw [r] at mu;exact mu
 have ntup:∀ c xs,H c=some (.tup xs)->c≠x:=fun c xs r z=>by subst z;rw [r] at mu;exact mu
 by_cases hb:b=x
 ·subst hb;rw [ar] at q;cases q;exact new
 ·rw [av hb] at q
  by_cases hbe:b=e
  ·have q':H b=some (.own x):=by
    rcases he with z|z
    ·exact absurd (hbe.trans z) hb
    ·rw [hbe];exact z
   rw [q] at q';cases q';obtain ⟨v,hv⟩:=heo;exact ⟨v,by rw [hbe];exact hv⟩
  ·refine (ok b u q).pY (fun c v hc r=>k c v ?_ r) (fun c r=>by rw [av (nown c b r)];exact r) fun c xs r=>by rw [av (ntup c xs r)];exact r
   rcases hc with rfl|hc
   ·exact hbe
   ·rintro rfl;rcases he with z|z
    ·exact nown c b hc z
    ·rw [hc] at z;cases z;exact hb rfl
end
structure Un (fs ex:List Addr) (H H':Hp) (h h':Heap):Prop where
 keep:∀ b o,h.get? b=some o->H b=none->b∉fs->b∉ex->h'.get? b=some o
 slot:∀ b o,h.get? b=some o->H b=none->b∈fs->b∉ex->∃ sl,h'.get? b=some { o with slots:=sl }
 free:∀ b o,h.get? b=some o->H b=none->b∉ex->H' b=none
 there:∀ b o,h.get? b=some o->b∉ex->∃ o',h'.get? b=some o'
 jo:∀ b xs,H b=some (.tup xs)->H' b=some (.tup xs)
 iz:∀ b o u,H b=some (.frz o u)->H' b=some (.frz o u)
 jt:∀ b ps,H b=some (.tbl ps)->∃ more,H' b=some (.tbl (ps++more))
section
variable {fs fs' ex ex':List Addr} {H H1 H2:Hp} {h h1 h2 h':Heap} {a x e:Addr} {o:HO}
def Un.any (u:Un fs ex H H1 h h1) {b:Addr} {ob:Obj} (q:h.get? b=some ob) (n:H b=none) (hx:b∉ex):∃ sl,h1.get? b=some { ob with slots:=sl }:=by
 by_cases hb:b∈fs
 ·exact u.slot b ob q n hb hx
 ·exact ⟨ob.slots,u.keep b ob q n hb hx⟩
def Un.trans (a:Un fs ex H H1 h h1) (b:Un fs ex H1 H2 h1 h2):Un fs ex H H2 h h2 where
 keep:=fun c ob q n hc hx=>b.keep c ob (a.keep c ob q n hc hx) (a.free c ob q n hx) hc hx
 slot:=fun c ob q n hc hx=>by
  obtain ⟨sl,e1⟩:=a.slot c ob q n hc hx;obtain ⟨sl',e2⟩:=b.slot c _ e1 (a.free c ob q n hx) hc hx;exact ⟨sl',e2⟩
 free:=fun c ob q n hx=>by
  obtain ⟨o',e1⟩:=a.there c ob q hx;exact b.free c o' e1 (a.free c ob q n hx) hx
 there:=fun c ob q hx=>by
  obtain ⟨o',e1⟩:=a.there c ob q hx;exact b.there c o' e1 hx
 jo:=fun c xs q=>b.jo c xs (a.jo c xs q)
 iz:=fun c ob xs q=>b.iz c ob xs (a.iz c ob xs q)
 jt:=fun c ps q=>by
  obtain ⟨m1,e1⟩:=a.jt c ps q;obtain ⟨m2,e2⟩:=b.jt c _ e1;exact ⟨m1++m2,by rw [e2,Array.append_assoc]⟩
def Un.kept (k:∀ b u,h.get? b=some u->h'.get? b=some u):Un fs ex H H h h' :=
 ⟨fun b ob q _ _ _=>k b ob q,fun b ob q _ _ _=>⟨ob.slots,k b ob q⟩,fun _ _ _ n _=>n,fun b ob q _=>⟨ob,k b ob q⟩,fun _ _ q=>q,fun _ _ _ q=>q,fun _ ps q=>⟨#[],by rw [q];simp⟩⟩
def Un.refl:Un fs ex H H h h:=Un.kept fun _ _ q=>q
def Un.laid (k:∀ b u,h.get? b=some u->h'.get? b=some u) (hp:h.objs.size<=a) (hn:H a=none):Un fs ex H (upd H a o) h h' where
 keep:=fun b u q _ _ _=>k b u q
 slot:=fun b u q _ _ _=>⟨u.slots,k b u q⟩
 free:=fun b u q n _=>by rw [av (Jm (Ja (IY q) hp))];exact n
 there:=fun b u q _=>⟨u,k b u q⟩
 jo:=fun b xs q=>by rw [av (az q hn)];exact q
 iz:=fun b u xs q=>by rw [av (az q hn)];exact q
 jt:=fun b ps q=>⟨#[],by rw [av (az q hn),q];simp⟩
def Un.write (mu:Mut (H x)) (he:e=x\/H e=some (.own x)) (k:∀ b u,b≠e->h.get? b=some u->h'.get? b=some u) (heo:∃ u,h'.get? e=some u):Un fs ex H (upd H x o) h h':=by
 have hx:∀ b,H b=none->b≠x:=fun b n z=>by subst z;rw [n] at mu;exact mu
 have hb:∀ b,H b=none->b≠e:=fun b n z=>by
  subst z;rcases he with r|r
  ·exact hx b n r
  ·rw [n] at r;cases r
 have hm:∀ b u,H b=some u->¬ Mut (some u)->b≠x:=fun b u q nm z=>by subst z;rw [q] at mu;exact nm mu
 refine ⟨fun b u q n _ _=>k b u (hb b n) q,fun b u q n _ _=>⟨u.slots,k b u (hb b n) q⟩,fun b u q n _=>by rw [av (hx b n)];exact n,fun b u q _=>?_,
  fun b xs q=>by rw [av (hm b _ q fun z=>z)];exact q,fun b u xs q=>by rw [av (hm b _ q fun z=>z)];exact q,fun b ps q=>⟨#[],by rw [av (hm b _ q fun z=>z),q];simp⟩⟩
 by_cases hbe:b=e
 ·subst hbe;exact heo
 ·exact ⟨u,k b u hbe q⟩
def Un.mono (u:Un fs ex H H1 h h1) (hs:∀ b∈fs,b∈fs') (hx:∀ b∈ex,b∈ex'):Un fs' ex' H H1 h h1 :=
 ⟨fun b ob q n hb he=>u.keep b ob q n (fun z=>hb (hs b z)) fun z=>he (hx b z),fun _ _ q n _ he=>u.any q n fun z=>he (hx _ z),fun b ob q n he=>u.free b ob q n fun z=>he (hx b z),fun b ob q he=>u.there b ob q fun z=>he (hx b z),u.jo,u.iz,u.jt⟩
end
def trk (h:Heap) (H:Hp):List Addr:=(IF h.objs.size).filter fun a=>(H a).isSome
def mN (h:Heap) (H:Hp):Heap:=PySem.W.hideAll h (trk h H)
def BK (h:Heap) (H:Hp):(mN h H).objs.size=h.objs.size:=PySem.W.hideAll_size _ _
def Di {h:Heap} {H:Hp} {b:Addr} {o:Obj} (e:h.get? b=some o) (n:H b=none):(mN h H).get? b=some o :=
 PySem.W.hideAll_get _ e fun hm=>by
  have q:(H b).isSome=true:=(JX.mp hm).2;rw [n] at q;simp at q
def FV {h:Heap} {H:Hp} {b:Addr} {o:Obj} (e:(mN h H).get? b=some o):h.get? b=some o/\H b=none:=by
 have e':h.get? b=some o:=PySem.W.of_hideAll (trk h H) e;refine ⟨e',?_⟩;cases q:H b with
 | none=>rfl
 | some x =>
  have hm:b∈trk h H:=JX.mpr ⟨IK.mpr (IY e'),by simp [q]⟩
  have z:(mN h H).get? b=none:=PySem.W.hideAll_none (trk h H) hm;rw [z] at e;cases e
structure Mod (K:IC) (mg:Str->Option Value) (base:Heap):Prop where
 kin:K.In base
 glob:base.Ns JN mg
 blt:∃ mb,base.Ns builtinsNs mb/\∀ x:Str,x ≠ "__name__" -> mb x=bootBuiltins x
 nolimit:base.NoLimit
structure Cx where
 prog:Jc
 w:World
 K:IC
 mg:Str->Option Value
 base:Heap
 A:JF
 N:List Str
 s₀:IL
 H₀:Hp
 env:Env
 outer:List Env
 stack:List Env
 ex:List Addr
 fn:Str->Bool
 calm:Bool
 pn:List (Addr×Obj)
 xe:Value->IL->Prop
def frs (l:List Env):List Addr:=l.filterMap (·.frame)
abbrev Cx.fs (X:Cx):List Addr:=frs X.outer
def Vis (sc:Scope) (x:Str):Prop:=sc.names.lookup x=some .local\/sc.names.lookup x=some .cell\/sc.names.lookup x=some .free
def Loc (sc:Scope) (x:Str):Prop:=sc.names.lookup x=some .local\/sc.names.lookup x=some .cell
def Look (env:Env) (h:Heap) (m:Str->Option Value) (x:Str) (u:Value):Prop :=
 (env.kindOf x=some .local/\m x=some u)\/((env.kindOf x=some .cell\/env.kindOf x=some .free)/\∃ c,env.cells.lookup x=some c/\h.IsCell c (some u))
structure Cx.Ok (X:Cx):Prop where
 mod:Mod X.K X.mg X.base
 kind:X.env.scope.kind=.function
 glob:X.env.globals=JN
 blt:X.env.builtins=builtinsNs
 above:X.s₀.heap.objs.size<=X.env.locals
 inj:∀ x y c,X.env.cells.lookup x=some c->X.env.cells.lookup y=some c->x=y
 has:∀ x,(X.env.kindOf x=some .cell\/X.env.kindOf x=some .free)->∃ c,X.env.cells.lookup x=some c
 cab:∀ x c,X.fn x=true->X.env.cells.lookup x=some c->X.s₀.heap.objs.size<=c
 hd:X.calm=true->X.A.handled=none
 frames:X.A.frames=some X.stack
 stk:X.stack=X.outer\/(X.stack=X.env :: X.outer/\X.env.frame=some X.env.locals)
 exf:∀ b∈X.ex,b≠X.env.locals/\∀ x c,X.env.cells.lookup x=some c->c≠b
 bs:∀ b o,X.base.get? b=some o->X.s₀.heap.get? b=some o/\X.H₀ b=none
 bsz:X.base.objs.size<=X.s₀.heap.objs.size
 uv:∀ b o,X.base.get? b=some o->b∉X.ex
 tW:∀ b∈X.ex,b∉X.fs
 gQ:X.s₀.heap.FunFrames X.base X.outer
 frf:∀ b∈X.fs,X.H₀ b=none
structure Inv (X:Cx) (pins:List (Addr×Obj)) (σ:List (Option V)) (H:Hp) (s:IL):Prop where
 ok:X.Ok
 os:s.os=X.s₀.os
 bare:Nd s.gens
 base:Un X.fs X.ex X.H₀ H X.s₀.heap s.heap
 loc:∃ m,s.heap.Ns X.env.locals m/\∀ (i:Nat) (x:Str) (v:V),X.N[i]?=some x->σ[i]?=some (some v)->Vis X.env.scope x->∃ u,RelV v u/\Look X.env s.heap m x u
 cell:∀ x c,X.env.cells.lookup x=some c->∃ v,s.heap.IsCell c v
 free:H X.env.locals=none
 gh:∀ x c,X.env.cells.lookup x=some c->H c=none
 pin:∀ p∈X.pn++pins,s.heap.get? p.1=some p.2/\H p.1=none/\p.1≠X.env.locals/\p.1∉X.fs/\∀ v,p.2.data≠.cell v
 hok:HOk X.prog X.w H s.heap
 len:σ.length=X.N.length
section
variable {X:Cx} {pins:List (Addr×Obj)} {σ:List (Option V)} {H H':Hp} {s:IL} {h':Heap}
def Cx.Ok.Ih (ok:X.Ok) {b:Addr} {o:Obj} (e:X.base.get? b=some o):b∉X.fs:=fun hb=>by
 have:=(ok.gQ.mem hb).1;rw [e] at this;cases this
def Inv.bs (I:Inv X pins σ H s):∀ b o,X.base.get? b=some o->s.heap.get? b=some o/\H b=none:=fun b o e =>
 ⟨I.base.keep b o (I.ok.bs b o e).1 (I.ok.bs b o e).2 (I.ok.Ih e) (I.ok.uv b o e),I.base.free b o (I.ok.bs b o e).1 (I.ok.bs b o e).2 (I.ok.uv b o e)⟩
def Inv.bk (I:Inv X pins σ H s):∀ b o,X.base.get? b=some o->s.heap.get? b=some o:=fun b o e=>(I.bs b o e).1
def Inv.mod (I:Inv X pins σ H s):Mod X.K X.mg X.base:=I.ok.mod
def Inv.kIn (I:Inv X pins σ H s):X.K.In s.heap:=I.ok.mod.kin.keeps I.bk
def Inv.lt (I:Inv X pins σ H s):X.env.locals<s.heap.objs.size:=let ⟨_,hn,_⟩:=I.loc;hn.lt
def Inv.sz (I:Inv X pins σ H s):X.s₀.heap.objs.size<=s.heap.objs.size:=JV I.ok.above (K6 I.lt)
def Inv.Im (I:Inv X pins σ H s) {a:Addr} (h:s.heap.objs.size<=a):a∉X.fs:=fun hb=>by
 obtain ⟨_,o,ho,_⟩:=I.ok.gQ.mem hb;exact absurd (Ja (IY ho) (JV I.sz h)) (Ki _)
def Inv.cne (I:Inv X pins σ H s):∀ x c,X.env.cells.lookup x=some c->c≠X.env.locals:=fun x c e z=>by
 obtain ⟨v,o,ho,hd⟩:=I.cell x c e;obtain ⟨m,⟨o',es,ep,ho',hd',_⟩,_⟩:=I.loc;rw [z,ho'] at ho;cases ho;rw [hd'] at hd;cases hd
def Inv.gQ (I:Inv X pins σ H s):s.heap.FunFrames X.base X.outer:=by
 have all:∀ (l:List Env),(∀ b∈frs l,b∈X.fs)->X.s₀.heap.FunFrames X.base l->s.heap.FunFrames X.base l:=by
  intro l
  induction l with
  | nil=>intro _ _;trivial
  | cons env r ih =>
   intro hs hl;obtain ⟨hk,⟨L,o,hf,hn,ho,hd⟩,hr⟩:=hl;have hL:L∈X.fs:=hs L (by unfold frs;rw [Ly,hf];exact IT)
   obtain ⟨sl,e⟩:=I.base.slot L o ho (I.ok.frf L hL) hL fun z=>I.ok.tW L z hL;exact ⟨hk,⟨L,_,hf,hn,e,hd⟩,ih (fun b hb=>hs b (by unfold frs;rw [Ly,hf];exact IM _ hb)) hr⟩
 exact all X.outer (fun _ hb=>hb) I.ok.gQ
def Inv.stack (I:Inv X pins σ H s):s.heap.FunFrames X.base X.stack:=by
 rcases I.ok.stk with e|⟨e,hf⟩
 ·rw [e];exact I.gQ
 ·rw [e];obtain ⟨m,hn,_⟩:=I.loc;refine .cons (by rw [I.ok.kind];decide) hf hn ?_ I.gQ
  exact Heap.get?_none_of_le (JV I.ok.bsz I.ok.above)
def Inv.rB (I:Inv X pins σ H s):∀ b∈frs X.stack,b∈X.env.locals :: X.fs:=fun b hb=>by
 rcases I.ok.stk with e|⟨e,hf⟩
 ·rw [e] at hb;exact IM _ hb
 ·rw [e] at hb;unfold frs at hb;rw [Ly,hf] at hb;exact hb
def Inv.uL (I:Inv X pins σ H s):∀ b∈frs X.stack,H b=none:=fun b hb=>by
 rcases JB.mp (I.rB b hb) with e|hb
 ·rw [e];exact I.free
 ·obtain ⟨_,o,ho,_⟩:=I.ok.gQ.mem hb;exact I.base.free b o ho (I.ok.frf b hb) fun z=>I.ok.tW b z hb
def Inv.step {g':Array Mh} {t':Nat} {d':Drawn} {ch:List Addr} (I:Inv X pins σ H s)
  (hch:∀ b∈ch,(b∈X.ex\/X.s₀.heap.objs.size<=b)/\b≠X.env.locals/\(∀ x c,X.env.cells.lookup x=some c->c≠b)/\∀ p∈X.pn++pins,p.1≠b)
  (keep:∀ b o,b≠X.env.locals->b∉X.fs->b∉ch->s.heap.get? b=some o->H b=none->h'.get? b=some o)
  (slot:∀ b o,b≠X.env.locals->b∈X.fs->b∉ch->s.heap.get? b=some o->H b=none->∃ sl,h'.get? b=some { o with slots:=sl }) (free:∀ b o,b∉ch->s.heap.get? b=some o->H b=none->H' b=none)
  (there:∀ b o,b∉ch->s.heap.get? b=some o->∃ o',h'.get? b=some o')
  (jo:∀ b xs,H b=some (.tup xs)->H' b=some (.tup xs)) (iz:∀ b o u,H b=some (.frz o u)->H' b=some (.frz o u)) (jt:∀ b ps,H b=some (.tbl ps)->∃ more,H' b=some (.tbl (ps++more)))
  (ns:∀ m,s.heap.Ns X.env.locals m->h'.Ns X.env.locals m) (hok:HOk X.prog X.w H' h') (hg:Nd g') :
  Inv X pins σ H' { s with heap:=h',gens:=g',drawn:=d',toks:=t' }:=by
 have neL:∀ b o,X.s₀.heap.get? b=some o->b≠X.env.locals:=fun b o e=>Jm (Ja (IY e) I.ok.above);have neC:∀ b o,X.s₀.heap.get? b=some o->b∉X.ex->b∉ch:=fun b o e hx hb=>by
  rcases (hch b hb).1 with z|z
  ·exact hx z
  ·exact absurd (Ja (IY e) z) (Ki _)
 have cellK:∀ x c,X.env.cells.lookup x=some c->∀ v,s.heap.IsCell c v->h'.IsCell c v:=fun x c e v ⟨o,ho,hd⟩=>by
  have nch:c∉ch:=fun z=>(hch c z).2.2.1 x c e rfl
  by_cases hc:c∈X.fs
  ·obtain ⟨sl,q⟩:=slot c o (I.cne x c e) hc nch ho (I.gh x c e);exact ⟨_,q,hd⟩
  ·exact ⟨o,keep c o (I.cne x c e) hc nch ho (I.gh x c e),hd⟩
 refine ⟨I.ok,I.os,hg,⟨fun b o e n hb hx=>?_,fun b o e n hb hx=>?_,fun b o e n hx=>?_,fun b o e hx=>?_,fun b xs e=>jo b xs (I.base.jo b xs e),fun b o xs e=>iz b o xs (I.base.iz b o xs e),fun b ps e=>?_⟩,?_,fun x c e=>?_,?_,fun x c e=>?_,fun p hp=>?_,hok,I.len⟩
 ·exact keep b o (neL b o e) hb (neC b o e hx) (I.base.keep b o e n hb hx) (I.base.free b o e n hx)
 ·obtain ⟨sl,e1⟩:=I.base.slot b o e n hb hx;obtain ⟨sl',e2⟩:=slot b _ (neL b o e) hb (neC b o e hx) e1 (I.base.free b o e n hx);exact ⟨sl',e2⟩
 ·obtain ⟨o',e1⟩:=I.base.there b o e hx;exact free b o' (neC b o e hx) e1 (I.base.free b o e n hx)
 ·obtain ⟨o',e1⟩:=I.base.there b o e hx;exact there b o' (neC b o e hx) e1
 ·obtain ⟨m1,e1⟩:=I.base.jt b ps e;obtain ⟨m2,e2⟩:=jt b _ e1;exact ⟨m1++m2,by rw [e2,Array.append_assoc]⟩
 ·obtain ⟨m,hn,hl⟩:=I.loc;refine ⟨m,ns m hn,fun i x v e1 e2 e3=>?_⟩;obtain ⟨u,r,l⟩:=hl i x v e1 e2 e3;refine ⟨u,r,?_⟩;rcases l with l|⟨k,c,e,z⟩
  ·exact .inl l
  ·exact .inr ⟨k,c,e,cellK x c e _ z⟩
 ·obtain ⟨v,z⟩:=I.cell x c e;exact ⟨v,cellK x c e v z⟩
 ·obtain ⟨m,⟨o,_,_,ho,_⟩,_⟩:=I.loc;exact free _ o (fun z=>(hch _ z).2.1 rfl) ho I.free
 ·obtain ⟨v,o,ho,hd⟩:=I.cell x c e;exact free c o (fun z=>(hch c z).2.2.1 x c e rfl) ho (I.gh x c e)
 ·obtain ⟨e,n,ne,nf,d⟩:=I.pin p hp;have nch:p.1∉ch:=fun z=>(hch p.1 z).2.2.2 p hp rfl;exact ⟨keep p.1 p.2 ne nf nch e n,free p.1 p.2 nch e n,ne,nf,d⟩
def Inv.un {t':Nat} (I:Inv X pins σ H s) (u:Un X.fs [] H H' s.heap h') (hok:HOk X.prog X.w H' h'):Inv X pins σ H' { s with heap:=h',toks:=t' }:=by
 obtain ⟨m,⟨o,es,ep,ho,r⟩,_⟩:=id I.loc;obtain ⟨sl,hL⟩:=u.any ho I.free (by simp)
 exact I.step (g':=s.gens) (d':=s.drawn) (ch:=[]) (fun _ z=>nomatch z) (fun b o _ hb _ e n=>u.keep b o e n hb (by simp)) (fun b o _ hb _ e n=>u.slot b o e n hb (by simp)) (fun b o _ e n=>u.free b o e n (by simp)) (fun b o _ e=>u.there b o e (by simp)) u.jo u.iz u.jt (fun m' hm=>by
  obtain ⟨o',es',ep',ho',r'⟩:=hm;rw [ho] at ho';cases ho';exact ⟨_,es',ep',hL,r'⟩) hok I.bare
def Inv.call {g':Array Mh} {t':Nat} {d':Drawn} {ch:List Addr} (I:Inv X pins σ H s) (u:Un (frs X.stack) ch H H' s.heap h') (hok:HOk X.prog X.w H' h') (hg:Nd g')
  (hch:∀ b∈ch,(b∈X.ex\/X.s₀.heap.objs.size<=b)/\b≠X.env.locals/\(∀ x c,X.env.cells.lookup x=some c->c≠b)/\∀ p∈X.pn++pins,p.1≠b) :
  Inv X pins σ H' { s with heap:=h',gens:=g',drawn:=d',toks:=t' }:=by
 obtain ⟨m,⟨o,es,ep,ho,r⟩,_⟩:=id I.loc;obtain ⟨sl,hL⟩:=u.any ho I.free fun z=>(hch _ z).2.1 rfl;exact I.step (ch:=ch) hch (fun b o hL hb hc e n=>u.keep b o e n (fun z=>(JB.mp (I.rB b z)).elim hL hb) hc) (fun b o _ _ hc e n=>u.any e n hc) (fun b o hc e n=>u.free b o e n hc) (fun b o hc e=>u.there b o e hc) u.jo u.iz u.jt (fun m' hm=>by
  obtain ⟨o',es',ep',ho',r'⟩:=hm;rw [ho] at ho';cases ho';exact ⟨_,es',ep',hL,r'⟩) hok hg
def Inv.turned {t':Nat} {it:Addr} (I:Inv X pins σ H s) (k:∀ b o,b≠it->s.heap.get? b=some o->h'.get? b=some o) (hn:H it=none) (hL:it≠X.env.locals)
  (h1:it∈X.ex\/X.s₀.heap.objs.size<=it) (h2:∀ x c,X.env.cells.lookup x=some c->c≠it) (h3:∀ p∈X.pn++pins,p.1≠it):Inv X pins σ H { s with heap:=h',toks:=t' }:=by
 have nit:∀ b u,H b=some u->b≠it:=fun b u e z=>by rw [z,hn] at e;cases e
 refine I.step (g':=s.gens) (d':=s.drawn) (ch:=[it]) (fun b hb=>?_) (fun b o _ _ hc e _=>k b o (fun z=>hc (by simp [z])) e) (fun b o _ _ hc e _=>⟨o.slots,k b o (fun z=>hc (by simp [z])) e⟩) (fun _ _ _ _ n=>n)
  (fun b o hc e=>⟨o,k b o (fun z=>hc (by simp [z])) e⟩) (fun _ _ e=>e) (fun _ _ _ e=>e) (fun b ps e=>⟨#[],by rw [e];simp⟩) (fun m hm=>?_) (fun b u e=>?_) I.bare
 ·have e:b=it:=by simpa using hb
  subst e;exact ⟨h1,hL,h2,h3⟩
 ·obtain ⟨o,es,ep,ho,r⟩:=hm;exact ⟨o,es,ep,k _ o (Lr hL) ho,r⟩
 ·refine (I.hok b u e).pY (fun c v hc q=>k c v ?_ q) (fun _ q=>q) fun _ _ q=>q;rcases hc with z|z
  ·rw [z];exact nit b u e
  ·exact nit c _ z
def Inv.tok (I:Inv X pins σ H s) (t:Nat):Inv X pins σ H { s with toks:=t }:=I.un (h':=s.heap) (t':=t) Un.refl I.hok
def Inv.kept {t':Nat} (I:Inv X pins σ H s) (k:∀ b u,s.heap.get? b=some u->h'.get? b=some u):Inv X pins σ H { s with heap:=h',toks:=t' }:=I.un (Un.kept k) (I.hok.kept k)
def Inv.laid {a:Addr} {o:HO} {t':Nat} (I:Inv X pins σ H s) (k:∀ b u,s.heap.get? b=some u->h'.get? b=some u) (hp:s.heap.objs.size<=a) (new:bT X.prog X.w (upd H a o) h' a o) :
  Inv X pins σ (upd H a o) { s with heap:=h',toks:=t' }:=I.un (Un.laid k hp (I.hok.fresh hp)) (I.hok.laid k hp new)
def Inv.write {x e:Addr} {o:HO} {t':Nat} (I:Inv X pins σ H s) (mu:Mut (H x)) (he:e=x\/H e=some (.own x)) (k:∀ b u,b≠e->s.heap.get? b=some u->h'.get? b=some u) (heo:∃ u,h'.get? e=some u)
  (new:bT X.prog X.w (upd H x o) h' x o):Inv X pins σ (upd H x o) { s with heap:=h',toks:=t' }:=I.un (Un.write mu he k heo) (I.hok.write mu he k heo new)
def Inv.zQ {pins':List (Addr×Obj)} (I:Inv X pins σ H s) (h:∀ p∈pins',s.heap.get? p.1=some p.2/\H p.1=none/\p.1≠X.env.locals/\p.1∉X.fs/\∀ v,p.2.data≠.cell v):Inv X pins' σ H s :=
 ⟨I.ok,I.os,I.bare,I.base,I.loc,I.cell,I.free,I.gh,fun p hp=>(JG.mp hp).elim (fun z=>I.pin p (J2 _ z)) (h p),I.hok,I.len⟩
def wR {N:List Str} (hN:N.Nodup) {i j:Nat} {x:Str} (a:N[i]?=some x) (b:N[j]?=some x):i=j:=by
 obtain ⟨h1,e1⟩:=II.mp a;obtain ⟨h2,e2⟩:=II.mp b;exact (LW hN).mp (e1.trans e2.symm)
def u9 {M:Model} {A:JF} {E:Value->IL->Prop} {i:Nat} {x:Str} {v:V} {u:Value} {Q:Unit->IL->Prop} (I:Inv X pins σ H s) (hN:X.N.Nodup) (hi:X.N[i]?=some x) (hx:Loc X.env.scope x) (r:RelV v u)
  (h:∀ s',Inv X pins (σ.set i (some v)) H s'->(∃ a,Mi a s.heap s'.heap/\(a=X.env.locals\/X.env.cells.lookup x=some a))->Q () s') (hf:X.fn x=true\/X.env.scope.names.lookup x=some .local:=by first|exact .inl rfl|exact .inr rfl|assumption):wpAny M A (storeName X.env x u) Q E s:=by
 obtain ⟨m,hn,hl⟩:=id I.loc;have hcls:(X.env.scope.kind == .class || (X.env.scope.kind == .module && X.env.locals != X.env.globals))=false:=by rw [I.ok.kind];rfl
 have hiσ:i<σ.length:=by rw [I.len];exact (II.mp hi).1
 have cne:=I.cne;have tracked:∀ {a:Addr} {h':Heap},(∃ o,s.heap.get? a=some o/\H a=none)->Mi a s.heap h'->HOk X.prog X.w H h':=fun {a h'} ha hs b ob e=>by
  obtain ⟨_,_,hfree⟩:=ha;refine (I.hok b ob e).pY (fun c w' hc q=>(hs.2 c ?_).trans q) (fun _ q=>q) fun _ _ q=>q;rintro rfl;rcases hc with rfl|hc
  ·rw [hfree] at e;cases e
  ·rw [hfree] at hc;cases hc
 rcases hx with hk|hk
 ·refine wpAny_storeName_local hk hn (fun h' hn' hs=>?_) hcls;obtain ⟨oL,_,_,hoL,_⟩:=id hn;refine h _ ⟨I.ok,I.os,I.bare,⟨fun b o e n hb hx=>?_,fun b o e n hb hx=>?_,I.base.free,fun b o e hx=>?_,I.base.jo,I.base.iz,I.base.jt⟩,⟨_,hn',fun j y v' e1 e2 e3=>?_⟩,fun y c e=>?_,I.free,I.gh,fun p hp=>?_,tracked ⟨oL,hoL,I.free⟩ hs,by simpa using I.len⟩ ⟨_,hs,.inl rfl⟩
  ·exact (hs.2 b (Jm (Ja (IY e) I.ok.above))).trans (I.base.keep b o e n hb hx)
  ·obtain ⟨sl,e1⟩:=I.base.slot b o e n hb hx;exact ⟨sl,(hs.2 b (Jm (Ja (IY e) I.ok.above))).trans e1⟩
  ·obtain ⟨o',e1⟩:=I.base.there b o e hx;exact ⟨o',(hs.2 b (Jm (Ja (IY e) I.ok.above))).trans e1⟩
  ·by_cases hj:j=i
   ·subst hj;rw [hi] at e1;cases e1;rw [Ke hiσ] at e2;cases e2;exact ⟨u,r,.inl ⟨hk,by simp⟩⟩
   ·rw [Kp (Lr hj)] at e2;obtain ⟨u',r',q⟩:=hl j y v' e1 e2 e3;refine ⟨u',r',?_⟩;rcases q with ⟨k,e⟩|⟨k,c,e,z⟩
    ·refine .inl ⟨k,?_⟩;have:y≠x:=fun e=>hj (wR hN e1 (e ▸ hi));simp [this,e]
    ·exact .inr ⟨k,c,e,z.sameBut hs (cne y c e)⟩
  ·obtain ⟨w',z⟩:=I.cell y c e;exact ⟨w',z.sameBut hs (cne y c e)⟩
  ·obtain ⟨e,n,ne,nf,d⟩:=I.pin p hp;exact ⟨(hs.2 p.1 ne).trans e,n,ne,nf,d⟩
 ·have hfn:X.fn x=true:=by
   rcases hf with z|z
   ·exact z
   ·rw [z] at hk;cases hk
  obtain ⟨c,hc⟩:=I.ok.has x (.inl hk);obtain ⟨w',z⟩:=I.cell x c hc;refine wpAny_storeName_cell I.ok.kind hk hc z (fun h' hc' hs=>?_);obtain ⟨oc,hoc,hocd⟩:=id z;refine h { s with heap:=h' } ⟨I.ok,I.os,I.bare,⟨fun b o e n hb hx=>?_,fun b o e n hb hx=>?_,I.base.free,fun b o e hx=>?_,I.base.jo,I.base.iz,I.base.jt⟩,⟨m,hn.sameBut hs (Lr (cne x c hc)),fun j y v' e1 e2 e3=>?_⟩,fun y c' e=>?_,I.free,I.gh,fun p hp=>?_,tracked ⟨oc,hoc,I.gh x c hc⟩ hs,by simpa using I.len⟩ ⟨c,hs,.inr hc⟩
  ·exact (hs.2 b (Jm (Ja (IY e) (I.ok.cab x c hfn hc)))).trans (I.base.keep b o e n hb hx)
  ·obtain ⟨sl,e1⟩:=I.base.slot b o e n hb hx;exact ⟨sl,(hs.2 b (Jm (Ja (IY e) (I.ok.cab x c hfn hc)))).trans e1⟩
  ·obtain ⟨o',e1⟩:=I.base.there b o e hx;exact ⟨o',(hs.2 b (Jm (Ja (IY e) (I.ok.cab x c hfn hc)))).trans e1⟩
  ·by_cases hj:j=i
   ·subst hj;rw [hi] at e1;cases e1;rw [Ke hiσ] at e2;cases e2;exact ⟨u,r,.inr ⟨.inl hk,c,hc,hc'⟩⟩
   ·rw [Kp (Lr hj)] at e2;obtain ⟨u',r',q⟩:=hl j y v' e1 e2 e3;refine ⟨u',r',?_⟩;rcases q with q|⟨k,c',e,z'⟩
    ·exact .inl q
    ·refine .inr ⟨k,c',e,z'.sameBut hs ?_⟩;rintro rfl;exact hj (wR hN e1 (I.ok.inj _ _ _ e hc ▸ hi))
  ·by_cases hcc:c'=c
   ·subst hcc;exact ⟨_,hc'⟩
   ·obtain ⟨w2,z2⟩:=I.cell y c' e;exact ⟨w2,z2.sameBut hs hcc⟩
  ·obtain ⟨e,n,ne,nf,d⟩:=I.pin p hp;refine ⟨(hs.2 p.1 ?_).trans e,n,ne,nf,d⟩;intro q;rw [q,hoc] at e;have q':oc=p.2:=Jy e;exact d w' (by rw [<- q'];exact hocd)
def mO {M:Model} {A:JF} {E:Value->IL->Prop} {i:Nat} {x:Str} {v:V} {u:Value} {Q:Unit->IL->Prop} (I:Inv X pins σ H s) (hN:X.N.Nodup) (hi:X.N[i]?=some x) (hx:Loc X.env.scope x) (r:RelV v u)
  (h:∀ s',Inv X pins (σ.set i (some v)) H s'->Q () s') (hf:X.fn x=true\/X.env.scope.names.lookup x=some .local:=by first|exact .inl rfl|exact .inr rfl|assumption):wpAny M A (storeName X.env x u) Q E s :=
 u9 I hN hi hx r (fun s' I' _=>h s' I') hf
def Inv.E2 {s':IL} {ch:List Addr} (I:Inv X pins σ H s) (ho:s'.os=s.os) (u:Un (frs X.stack) ch H H' s.heap s'.heap) (hok:HOk X.prog X.w H' s'.heap) (hg:Nd s'.gens)
  (hch:∀ b∈ch,(b∈X.ex\/X.s₀.heap.objs.size<=b)/\b≠X.env.locals/\(∀ x c,X.env.cells.lookup x=some c->c≠b)/\∀ p∈X.pn++pins,p.1≠b):Inv X pins σ H' s':=by
 obtain ⟨h',g',d',t',o'⟩:=s';have e:o'=s.os:=ho;subst e;exact I.call (g':=g') (t':=t') (d':=d') u hok hg hch
end
abbrev XK:=Value->Option Addr->Hp->Prop
abbrev St:=List (Option V)
abbrev VK:=V->Hp->Prop
abbrev TE:=St->Hp->VK->Prop
abbrev TT:=St->Hp->(Bool->Hp->Prop)->Prop
abbrev TA:=St->Hp->(List V->Hp->Prop)->Prop
structure Ends where
 nx:St->Hp->Prop
 rt:VK
 bk:St->Hp->Prop:=fun _ _=>False
 ct:St->Hp->Prop:=fun _ _=>False
abbrev TS:=Ends->St->Hp->Prop
def EP (X:Cx) (pins:List (Addr×Obj)) (σ:St) (Q:VK) (u:Value) (s':IL):Prop:=∃ v H',Inv X pins σ H' s'/\RelV v u/\Q v H'
def TP (X:Cx) (pins:List (Addr×Obj)) (σ:St) (Q:Bool->Hp->Prop) (b:Bool) (s':IL):Prop:=∃ H',Inv X pins σ H' s'/\Q b H'
def AP (X:Cx) (pins:List (Addr×Obj)) (σ:St) (Q:List V->Hp->Prop) (us:List Value) (s':IL):Prop:=∃ vs H',Inv X pins σ H' s'/\Vals vs us/\Q vs H'
def SP (X:Cx) (pins:List (Addr×Obj)) (D:Ends) (f:Flow) (s':IL):Prop :=
 match f with
 | .next=>∃ σ' H',Inv X pins σ' H' s'/\D.nx σ' H'
 | .brk=>∃ σ' H',Inv X pins σ' H' s'/\D.bk σ' H'
 | .cont=>∃ σ' H',Inv X pins σ' H' s'/\D.ct σ' H'
 | .ret u=>∃ v σ' H',Inv X pins σ' H' s'/\RelV v u/\D.rt v H'
def PE (X:Cx) (e:Expr) (t:TE):Prop :=
 ∀ (pins:List (Addr×Obj)) (s:IL) (σ:St) (H:Hp) (Q:VK),Inv X pins σ H s->t σ H Q->wpAny (model X.prog X.w) X.A (eval e X.env) (EP X pins σ Q) X.xe s
def PT (X:Cx) (e:Expr) (t:TT):Prop :=
 ∀ (pins:List (Addr×Obj)) (s:IL) (σ:St) (H:Hp) (Q:Bool->Hp->Prop),Inv X pins σ H s->t σ H Q->wpAny (model X.prog X.w) X.A (isTrue e X.env (eval e X.env)) (TP X pins σ Q) X.xe s
def PW (X:Cx) (e:Expr) (t:TT):Prop :=
 ∀ (whole:Sem Value) (pins:List (Addr×Obj)) (s:IL) (σ:St) (H:Hp) (Q:Bool->Hp->Prop),Inv X pins σ H s->t σ H Q->wpAny (model X.prog X.w) X.A (isTrue e X.env whole) (TP X pins σ Q) X.xe s
def PW.pt {X:Cx} {e:Expr} {t:TT} (h:PW X e t):PT X e t:=h _
def PA (X:Cx) (es:List Expr) (t:TA):Prop :=
 ∀ (pos:Pos) (pins:List (Addr×Obj)) (s:IL) (σ:St) (H:Hp) (Q:List V->Hp->Prop),Inv X pins σ H s->t σ H Q->wpAny (model X.prog X.w) X.A (spliced (backTo pos (JP es X.env))) (AP X pins σ Q) X.xe s
def PS (X:Cx) (st:Stmt) (t:TS):Prop :=
 ∀ (pins:List (Addr×Obj)) (s:IL) (σ:St) (H:Hp) (D:Ends),Inv X pins σ H s->t D σ H->wpAny (model X.prog X.w) X.A (exec st X.env) (SP X pins D) X.xe s
def PSs (X:Cx) (st:List Stmt) (t:TS):Prop :=
 ∀ (pins:List (Addr×Obj)) (s:IL) (σ:St) (H:Hp) (D:Ends),Inv X pins σ H s->t D σ H->wpAny (model X.prog X.w) X.A (execs st X.env) (SP X pins D) X.xe s
def thn {α:Type} {t:Sem α} {Q Q':α->IL->Prop} {M:Model} {A:JF} {E:Value->IL->Prop} {s:IL} (h:wpAny M A t Q E s) (hQ:∀ a s,Q a s->Q' a s):wpAny M A t Q' E s:=KR h hQ fun _ _ x=>x
section
variable {X:Cx}
def oo (i:Nat):TE:=fun σ H Q=>∃ v,σ[i]?=some (some v)/\Q v H
def tC (v:V):TE:=fun _ H Q=>Q v H
def Hu {i:Nat} {x:Str} {pos:Pos} (hN:X.N[i]?=some x) (hv:Vis X.env.scope x) (hd:(x == ("__debug__" : Str))=false:=by decide) (hcd:(x == ("__classdict__" : Str))=false:=by decide):PE X (.Name x pos) (oo i):=by
 intro pins s σ H Q I h;obtain ⟨v,e,h⟩:=h;obtain ⟨m,hn,hl⟩:=I.loc;obtain ⟨u,r,l⟩:=hl i x v hN e hv;have fin:EP X pins σ Q u s:=⟨v,H,I,r,h⟩;rcases l with ⟨hk,hm⟩|⟨hk,c,hc,hcell⟩
 ·exact wpAny_Name (wpAny_loadName_local I.ok.kind hk hn hm fin) hd
 ·rcases hk with hk|hk
  ·exact wpAny_Name (wpAny_loadName_cell I.ok.kind hk hc hcell fin) hd
  ·exact wpAny_Name (wpAny_loadName_free I.ok.kind hk hc hcell fin hcd) hd
def ah {i j pos}:PE X (.Constant (.int i) j pos) (tC (.int i)):=fun _ _ _ H _ I h=>wpAny_Constant_int ⟨.int i,H,I.tok _,⟨_,rfl⟩,h⟩
def eY {b j pos}:PE X (.Constant (.bool b) j pos) (tC (.bl b)):=fun _ _ _ H _ I h=>Constant_bool ⟨.bl b,H,I,rfl,h⟩
def Hh {j pos}:PE X (.Constant .none j pos) (tC .non):=fun _ _ _ H _ I h=>NW ⟨.non,H,I,rfl,h⟩
def Gl (X:Cx) (x:Str):Prop:=X.env.kindOf x=some .globalImplicit
def o6 {E:Value->IL->Prop} {pins:List (Addr×Obj)} {s:IL} {σ:St} {H:Hp} {x:Str} {u:Value} {pos:Pos} {Q:Value->IL->Prop} (I:Inv X pins σ H s) (hg:Gl X x) (hm:X.mg x=some u) (h:Q u s)
  (hd:(x == ("__debug__" : Str))=false:=by decide):wpAny (model X.prog X.w) X.A (eval (.Name x pos) X.env) Q E s :=
 Mf I.ok.kind hg (Calls.loadGlobal_global (by rw [I.ok.glob];exact I.mod.glob.keeps I.bk) hm h) hd
def ja {E:Value->IL->Prop} {pins:List (Addr×Obj)} {s:IL} {σ:St} {H:Hp} {x:Str} {u:Value} {pos:Pos} {Q:Value->IL->Prop} (I:Inv X pins σ H s) (hg:Gl X x) (hm:X.mg x=none) (hv:bootBuiltins x=some u) (h:Q u s)
  (hn:x ≠ "__name__":=by decide) (hd:(x == ("__debug__" : Str))=false:=by decide):wpAny (model X.prog X.w) X.A (eval (.Name x pos) X.env) Q E s:=by
 obtain ⟨mb,h1,h2⟩:=I.mod.blt;exact Mf I.ok.kind hg (Calls.loadGlobal_builtin (by rw [I.ok.glob];exact I.mod.glob.keeps I.bk) hm (by rw [I.ok.blt];exact h1.keeps I.bk) ((h2 x hn).trans hv) h) hd
def ug {x:Str} {v:V} {u:Value} {pos:Pos} (hg:Gl X x) (hm:X.mg x=some u) (r:RelV v u) (hd:(x == ("__debug__" : Str))=false:=by decide):PE X (.Name x pos) (tC v) :=
 fun _ _ _ H _ I h=>o6 I hg hm ⟨v,H,I,r,h⟩ hd
def F0 {x:Str} {v:V} {u:Value} {pos:Pos} (hg:Gl X x) (hm:X.mg x=none) (hv:bootBuiltins x=some u) (r:RelV v u) (hn:x ≠ "__name__":=by decide) (hd:(x == ("__debug__" : Str))=false:=by decide):PE X (.Name x pos) (tC v) :=
 fun _ _ _ H _ I h=>ja I hg hm hv ⟨v,H,I,r,h⟩ hn hd
variable {a b:Expr} {ta tb:TE} {pos:Pos}
def PC (X:Cx) (op:CmpOp) (a b:Expr) (t:TE):Prop :=
 ∀ (pins:List (Addr×Obj)) (s:IL) (σ:St) (H:Hp) (Q:VK),Inv X pins σ H s->t σ H Q ->
  wpAny (model X.prog X.w) X.A (eval a X.env) (fun v s₁=>wpAny (model X.prog X.w) X.A (eval b X.env) (fun u s₂=>wpAny (model X.prog X.w) X.A (compareOp op v u) (EP X pins σ Q) X.xe s₂) X.xe s₁) X.xe s
def En (b:Expr) {op:CmpOp} (h:op≠.In) (h2:op≠.NotIn):behindInMarks op b=false:=by
 have e1:(op == CmpOp.In)=false:=by cases op <;> first|rfl|exact absurd rfl h
 have e2:(op == CmpOp.NotIn)=false:=by cases op <;> first|rfl|exact absurd rfl h2
 cases b <;> simp [behindInMarks,e1,e2]
def GY (ta:TE):TE:=fun σ H Q=>ta σ H fun x H1=>Q (.bl (decide (x=.non))) H1
def ED (ta:TE):TE:=fun σ H Q=>ta σ H fun x H1=>Q (.bl (!decide (x=.non))) H1
def RelV.ym {x:V} {v:Value} (r:RelV x v):(v == Mu)=decide (x=.non):=by
 cases x with
 | non=>cases r;rfl
 | bl _=>cases r;rfl
 | int _=>obtain ⟨t,rfl⟩:=r;rfl
 | str _=>obtain ⟨t,rfl⟩:=r;rfl
 | byt _=>obtain ⟨t,rfl⟩:=r;rfl
 | flt _=>obtain ⟨t,rfl⟩:=r;rfl
 | ref _=>cases r;rfl
 | ty _=>cases r;rfl
def Gq {j pos'} (ha:PE X a ta):PC X .Is a (.Constant .none j pos') (GY ta):=by
 intro pins s σ H Q I h;refine thn (ha pins s σ H _ I h) fun v s1 ⟨x,H1,I1,r1,q1⟩=>?_;exact NW (is_none_gen ⟨.bl _,H1,I1,by rw [r1.ym];rfl,q1⟩)
def FE {j pos'} (ha:PE X a ta):PC X .IsNot a (.Constant .none j pos') (ED ta):=by
 intro pins s σ H Q I h;refine thn (ha pins s σ H _ I h) fun v s1 ⟨x,H1,I1,r1,q1⟩=>?_;exact NW (isnot_none_gen ⟨.bl _,H1,I1,by rw [r1.ym];rfl,q1⟩)
def tB (t:TE):TT:=fun σ H Q=>t σ H fun x H1=>∃ c,x=.bl c/\Q c H1
def xp {op:CmpOp} {t:TE} (h:PC X op a b t) (h1:behindInMarks op b=false:=by first|exact En _ (by decide) (by decide)|rfl):PT X (.Compare a [op] [b] pos) (tB t):=by
 intro pins s σ H Q I hw;refine Nf (thn (h pins s σ H _ I hw) fun v s1 h1=>thn h1 fun u s2 h2=>thn h2 fun c s3 ⟨x,H1,I1,r1,q1⟩=>?_) h1;obtain ⟨d,rfl,q⟩:=q1;cases r1;exact KN ⟨H1,I1,q⟩
def gY {e:Expr} {t:TE} (h:PE X e t) (he:∀ whole,isTrue e X.env whole=(do let v <- whole;standAt e.pos;holding [v] (truthy v)):=by intro _;rfl):PT X e (tB t):=by
 intro pins s σ H Q I hw;refine isTrue_plain (thn (h pins s σ H _ I hw) fun v s1 ⟨x,H1,I1,r1,q1⟩=>?_) (he _);obtain ⟨d,rfl,q⟩:=q1;cases r1;exact KN ⟨H1,I1,q⟩
variable {tA tB':TT} {rest:List Expr}
def Ge (t u:TT):TT:=fun σ H Q=>t σ H fun c H1=>if c=true then u σ H1 Q else Q false H1
def tOr (t u:TT):TT:=fun σ H Q=>t σ H fun c H1=>if c=true then Q true H1 else u σ H1 Q
def GN (t:TT):TT:=fun σ H Q=>t σ H fun c H1=>Q (!c) H1
def jU (ha:PT X a tA):PW X (.BoolOp .And [a] pos) tA:=by
 intro wh pins s σ H Q I h;refine isTrue_and (thn (ha pins s σ H Q I h) fun c s1 e=>?_);cases c with
 | true=>exact isTrue_and_nil e
 | false=>exact e
def nM (ha:PT X a tA):PW X (.BoolOp .Or [a] pos) tA:=by
 intro wh pins s σ H Q I h;refine isTrue_or (thn (ha pins s σ H Q I h) fun c s1 e=>?_);cases c with
 | false=>exact isTrue_or_nil e
 | true=>exact e
def je (ha:PT X a tA) (hb:PW X (.BoolOp .And (b :: rest) pos) tB'):PW X (.BoolOp .And (a :: b :: rest) pos) (Ge tA tB'):=by
 intro wh pins s σ H Q I h;refine isTrue_and (thn (ha pins s σ H _ I h) fun c s1 ⟨H1,I1,q1⟩=>?_);cases c with
 | true=>exact hb wh pins s1 σ H1 Q I1 q1
 | false=>exact ⟨H1,I1,q1⟩
def sW (ha:PT X a tA) (hb:PW X (.BoolOp .Or (b :: rest) pos) tB'):PW X (.BoolOp .Or (a :: b :: rest) pos) (tOr tA tB'):=by
 intro wh pins s σ H Q I h;refine isTrue_or (thn (ha pins s σ H _ I h) fun c s1 ⟨H1,I1,q1⟩=>?_);cases c with
 | true=>exact ⟨H1,I1,q1⟩
 | false=>exact hb wh pins s1 σ H1 Q I1 q1
def l9 (ha:PT X a tA):PT X (.UnaryOp .Not a pos) (GN tA):=by
 intro pins s σ H Q I h;exact isTrue_not (ha pins s σ H (fun c H1=>Q (!c) H1) I h)
def ER (ta tb:TE):TE:=fun σ H Q=>ta σ H fun x H1=>∃ c,x=.bl c/\if c=true then tb σ H1 Q else Q (.bl false) H1
def GV (ta tb:TE):TE:=fun σ H Q=>ta σ H fun x H1=>∃ c,x=.bl c/\if c=true then Q (.bl true) H1 else tb σ H1 Q
def xg {op} {t:TE} (h:PE X a t):PE X (.BoolOp op [a] pos) t:=fun pins s σ H Q I hw=>BoolOp_one (h pins s σ H Q I hw)
def rh (ha:PE X a ta) (hb:PE X (.BoolOp .And (b :: rest) pos) tb):PE X (.BoolOp .And (a :: b :: rest) pos) (ER ta tb):=by
 intro pins s σ H Q I h;refine BoolOp_and (thn (ha pins s σ H _ I h) fun v s1 ⟨x,H1,I1,r1,q1⟩=>?_);obtain ⟨c,rfl,q1⟩:=q1;cases r1;refine KN ?_;cases c with
 | true=>exact hb pins s1 σ H1 Q I1 q1
 | false=>exact ⟨.bl false,H1,I1,rfl,q1⟩
def HE (ha:PE X a ta) (hb:PE X (.BoolOp .Or (b :: rest) pos) tb):PE X (.BoolOp .Or (a :: b :: rest) pos) (GV ta tb):=by
 intro pins s σ H Q I h;refine BoolOp_or (thn (ha pins s σ H _ I h) fun v s1 ⟨x,H1,I1,r1,q1⟩=>?_);obtain ⟨c,rfl,q1⟩:=q1;cases r1;refine KN ?_;cases c with
 | false=>exact hb pins s1 σ H1 Q I1 q1
 | true=>exact ⟨.bl true,H1,I1,rfl,q1⟩
end
def SqL (K:IC) (H:Hp) (a:Addr) (xs:List V):Prop :=
 Rd H a (.lst xs) \/
  ∃ (o:Obj) (its:Array Value) (n:Nat),K.lookup a=some o/\o.cls=.type "list" /\ o.dict=none/\o.data=.seq its n/\its.size<=Jr/\Vals xs its.toList
def SqT (K:IC) (H:Hp) (a:Addr) (xs:List V):Prop :=
 Rd H a (.tup xs) \/
  ∃ (o:Obj) (its:Array Value) (n:Nat),K.lookup a=some o/\o.cls=.type "tuple" /\ o.data=.seq its n/\its.size<=Jr/\Vals xs its.toList
def Iv:Value->Option V
 | .none=>some .non
 | .bool b=>some (.bl b)
 | .int i _=>some (.int i)
 | .str x _=>some (.str x)
 | .bytes b _=>some (.byt b)
 | .float b _=>some (.flt b)
 | .ref a=>some (.ref a)
 | .type n=>some (.ty n)
 | _=>none
def RelV.abs {x:V} {u:Value} (r:RelV x u):Iv u=some x:=by
 cases x with
 | non=>cases r;rfl
 | bl _=>cases r;rfl
 | int _=>obtain ⟨t,rfl⟩:=r;rfl
 | str _=>obtain ⟨t,rfl⟩:=r;rfl
 | byt _=>obtain ⟨t,rfl⟩:=r;rfl
 | flt _=>obtain ⟨t,rfl⟩:=r;rfl
 | ref _=>cases r;rfl
 | ty _=>cases r;rfl
def RelV.inj {x y:V} {u:Value} (r:RelV x u) (q:RelV y u):x=y:=Jy (r.abs.symm.trans q.abs)
def Vals.inj:∀ {xs ys:List V} {us:List Value},Vals xs us->Vals ys us->xs=ys
 | _,_,_,.nil,.nil=>rfl
 | _,_,_,.cons r t,.cons r' t'=>by rw [r.inj r',Vals.inj t t']
section
variable {X:Cx} {pins:List (Addr×Obj)} {σ:St} {H:Hp} {s:IL} {a:Addr} {xs ys:List V}
def SqL.of {K:IC} (h:H a=some (.lst xs)):SqL K H a xs:=.inl (.inl h)
def SqT.of {K:IC} (h:H a=some (.tup xs)):SqT K H a xs:=.inl (.inl h)
def Inv.list (I:Inv X pins σ H s) (h:SqL X.K H a xs):∃ its:List Value,Vals xs its/\PlainL s.heap a its.toArray/\xs.length<=Jr:=by
 rcases h with h|⟨o,its,n,hk,hc,hd,hs,hz,r⟩
 ·obtain ⟨z,its,n,r,e⟩:=h.ok I.hok;exact ⟨its,r,⟨_,n,e,rfl,rfl,rfl⟩,z⟩
 ·refine ⟨its.toList,r,⟨o,n,I.kIn a o hk,hc,hd,by simpa using hs⟩,?_⟩
  have e:=r.length;simp only [L4] at e;lia
def Inv.tuple (I:Inv X pins σ H s) (h:SqT X.K H a xs):∃ its:List Value,Vals xs its/\IsTup s.heap a its.toArray/\xs.length<=Jr:=by
 rcases h with h|⟨o,its,n,hk,hc,hs,hz,r⟩
 ·obtain ⟨z,its,r,p⟩:=h.ok I.hok;exact ⟨its,r,p,z⟩
 ·refine ⟨its.toList,r,⟨o,I.kIn a o hk,hc,n,by simpa using hs⟩,?_⟩
  have e:=r.length;simp only [L4] at e;lia
def Inv.iw (I:Inv X pins σ H s) (h:SqL X.K H a xs) (h':SqL X.K H a ys):xs=ys:=by
 obtain ⟨its,r,⟨o,n,e,_,_,d⟩,_⟩:=I.list h;obtain ⟨its',r',⟨o',n',e',_,_,d'⟩,_⟩:=I.list h';rw [e] at e';cases e';rw [d] at d';injection d' with d1 _;have:its=its':=by simpa using congrArg Array.toList d1
 subst this;exact r.inj r'
def Inv.vk (I:Inv X pins σ H s) (h:SqT X.K H a xs) (h':SqT X.K H a ys):xs=ys:=by
 obtain ⟨its,r,⟨o,e,_,n,d⟩,_⟩:=I.tuple h;obtain ⟨its',r',⟨o',e',_,n',d'⟩,_⟩:=I.tuple h';rw [e] at e';cases e';rw [d] at d';injection d' with d1 _;have:its=its':=by simpa using congrArg Array.toList d1
 subst this;exact r.inj r'
end
abbrev Cx.lH (X:Cx) (E:Value->IL->Prop):Cx:={ X with xe:=E }
abbrev Cx.nox (X:Cx):Cx:=X.lH fun _ _=>False
def Cx.Ok.lH {X:Cx} (ok:X.Ok) (E:Value->IL->Prop):(X.lH E).Ok :=
 ⟨ok.mod,ok.kind,ok.glob,ok.blt,ok.above,ok.inj,ok.has,ok.cab,ok.hd,ok.frames,ok.stk,ok.exf,ok.bs,ok.bsz,ok.uv,ok.tW,ok.gQ,ok.frf⟩
def Cx.Ok.i8 {X:Cx} {E:Value->IL->Prop} (ok:(X.lH E).Ok):X.Ok :=
 ⟨ok.mod,ok.kind,ok.glob,ok.blt,ok.above,ok.inj,ok.has,ok.cab,ok.hd,ok.frames,ok.stk,ok.exf,ok.bs,ok.bsz,ok.uv,ok.tW,ok.gQ,ok.frf⟩
section
variable {X:Cx} {pins:List (Addr×Obj)} {σ:St} {H:Hp} {s:IL} {E:Value->IL->Prop}
def Inv.lH (I:Inv X pins σ H s) (E:Value->IL->Prop):Inv (X.lH E) pins σ H s:=⟨I.ok.lH E,I.os,I.bare,I.base,I.loc,I.cell,I.free,I.gh,I.pin,I.hok,I.len⟩
def Inv.i8 (I:Inv (X.lH E) pins σ H s):Inv X pins σ H s:=⟨I.ok.i8,I.os,I.bare,I.base,I.loc,I.cell,I.free,I.gh,I.pin,I.hok,I.len⟩
def SP.i8 {D:Ends} {f:Flow} {s':IL} (h:SP (X.lH E) pins D f s'):SP X pins D f s':=by
 cases f with
 | next=>obtain ⟨σ',H',I,q⟩:=h;exact ⟨σ',H',I.i8,q⟩
 | brk=>obtain ⟨σ',H',I,q⟩:=h;exact ⟨σ',H',I.i8,q⟩
 | cont=>obtain ⟨σ',H',I,q⟩:=h;exact ⟨σ',H',I.i8,q⟩
 | ret u=>obtain ⟨v,σ',H',I,r,q⟩:=h;exact ⟨v,σ',H',I.i8,r,q⟩
def PSs.nox {st:List Stmt} {t:TS} (h:PSs X.nox st t):PSs X st t:=fun pins s σ H D I hw =>
 KR (h pins s σ H D (I.lH _) hw) (fun _ _ q=>q.i8) fun _ _ z=>KS z
end
section
variable {X:Cx} {st:Stmt} {rest:List Stmt} {t u:TS} {e:Expr} {te:TE} {pos:Pos}
def EA:TS:=fun D σ H=>D.nx σ H
def GI (t u:TS):TS:=fun D σ H=>t { D with nx:=u D } σ H
def aV:PSs X [] EA:=fun _ _ σ H _ I h=>L5 ⟨σ,H,I,h⟩
def ae (h1:PS X st t) (h2:PSs X rest u):PSs X (st :: rest) (GI t u):=by
 intro pins s σ H D I h;refine wpAny_execs_cons (thn (h1 pins s σ H { D with nx:=u D } I h) fun f s1 q=>?_);cases f with
 | next =>
  obtain ⟨σ',H',I',q⟩:=q;exact h2 pins s1 σ' H' D I' q
 | ret v=>exact q
 | brk=>exact q
 | cont=>exact q
def af (h1:PS X st t):PSs X [st] t:=by
 intro pins s σ H D I h;refine wpAny_execs_cons (thn (h1 pins s σ H D I h) fun f s1 q=>?_);cases f with
 | next=>exact L5 q
 | ret v=>exact q
 | brk=>exact q
 | cont=>exact q
def Inv.quiet {pins:List (Addr×Obj)} {σ:St} {H:Hp} {s:IL} (I:Inv X pins σ H s):interactive X.env=false:=by simp [interactive,I.ok.kind]
def EM (te:TE):TS:=fun D σ H=>te σ H fun _ H1=>D.nx σ H1
def bq (he:PE X e te) (hs:swapsWith e none pos.line X.env=pure false:=by rfl):PS X (.Expr e pos) (EM te):=by
 intro pins s σ H D I h;exact wpAny_Expr_any (thn (he pins s σ H _ I h) fun v s1 ⟨x,H1,I1,r1,q1⟩=>⟨σ,H1,I1,q1⟩) I.quiet hs
def Hb (te:TE):TS:=fun D σ H=>te σ H D.rt
def aL (he:PE X e te):PS X (.Return (some e) pos) (Hb te):=by
 intro pins s σ H D I h;exact wpAny_Return_some (thn (he pins s σ H _ I h) fun v s1 ⟨x,H1,I1,r1,q1⟩=>⟨x,σ,H1,I1,r1,q1⟩)
def C0 (c:TT) (t u:TS):TS:=fun D σ H=>c σ H fun b H1=>if b=true then t D σ H1 else u D σ H1
def bj {c:Expr} {a b:List Stmt} {tc:TT} (hc:PT X c tc) (ha:PSs X a t) (hb:PSs X b u):PS X (.If c a b pos) (C0 tc t u):=by
 intro pins s σ H D I h;refine wpAny_If (thn (hc pins s σ H _ I h) fun d s1 ⟨H1,I1,q1⟩=>?_);cases d with
 | true=>exact ha pins s1 σ H1 D I1 q1
 | false=>exact hb pins s1 σ H1 D I1 q1
def G6:TS:=fun _ _ _=>False
def b9:PS X st G6:=fun _ _ _ _ _ _ h=>h.elim
end
abbrev TG:=V->St->Hp->(St->Hp->Prop)->Prop
abbrev TGs:=List V->St->Hp->(St->Hp->Prop)->Prop
def PG (X:Cx) (target:Expr) (t:TG):Prop :=
 ∀ (pins:List (Addr×Obj)) (s:IL) (σ:St) (H:Hp) (v:V) (u:Value) (Q:St->Hp->Prop),Inv X pins σ H s->RelV v u->t v σ H Q ->
  wpAny (model X.prog X.w) X.A (assign target X.env u) (fun _ s'=>∃ σ' H',Inv X pins σ' H' s'/\Q σ' H') X.xe s
def PGs (X:Cx) (ts:List Expr) (t:TGs):Prop :=
 ∀ (pins:List (Addr×Obj)) (s:IL) (σ:St) (H:Hp) (vs:List V) (us:List Value) (Q:St->Hp->Prop),Inv X pins σ H s->Vals vs us->t vs σ H Q ->
  wpAny (model X.prog X.w) X.A (assignInOrder ((assignEach ts X.env).map (·.2)) us) (fun _ s'=>∃ σ' H',Inv X pins σ' H' s'/\Q σ' H') X.xe s
abbrev AG:=V->V->V->Hp->(Hp->Prop)->Prop
def Hk (X:Cx) (t:AG):Prop :=
 ∀ (pins:List (Addr×Obj)) (s:IL) (σ:St) (H:Hp) (o i v:V) (ov iv u:Value) (Q:Hp->Prop),Inv X pins σ H s->RelV o ov->RelV i iv->RelV v u->t o i v H Q ->
  wpAny (model X.prog X.w) X.A (setItem ov iv u) (fun _ s'=>∃ H',Inv X pins σ H' s'/\Q H') X.xe s
section
variable {X:Cx} {pos:Pos}
def da (i:Nat):TG:=fun v σ H Q=>Q (σ.set i (some v)) H
def au {i:Nat} {x:Str} (hN:X.N.Nodup) (hi:X.N[i]?=some x) (hx:Loc X.env.scope x) (hf:X.fn x=true\/X.env.scope.names.lookup x=some .local:=by first|exact .inl rfl|exact .inr rfl|assumption):PG X (.Name x pos) (da i):=by
 intro pins s σ H v u Q I r h;exact wpAny_assign_Name (mO I hN hi hx r (fun s' I'=>⟨_,H,I',h⟩) hf)
def oj:TGs:=fun vs σ H Q=>vs=[]/\Q σ H
def eL (t:TG) (u:TGs):TGs:=fun vs σ H Q=>∃ v r,vs=v :: r/\t v σ H fun σ' H'=>u r σ' H' Q
def eB:PGs X [] oj:=by
 intro pins s σ H vs us Q I r h;obtain ⟨e,h⟩:=h;subst e;cases r;exact assignInOrder_nil ⟨σ,H,I,h⟩
def bD {e:Expr} {es:List Expr} {t:TG} {u:TGs} (h1:PG X e t) (h2:PGs X es u)
  (hs:(assignEach (e :: es) X.env).map (·.2)=assign e X.env :: (assignEach es X.env).map (·.2):=by rfl):PGs X (e :: es) (eL t u):=by
 intro pins s σ H vs us Q I r h;obtain ⟨v,vr,e1,h⟩:=h;subst e1;cases r with
 | cons r rr =>
  rw [hs];refine Mj (thn (h1 pins s σ H _ _ _ I r h) fun _ s1 ⟨σ1,H1,I1,q1⟩=>?_);exact h2 pins s1 σ1 H1 _ _ Q I1 rr q1
def nN (K:IC) (n:Nat) (t:TGs):TG:=fun v σ H Q=>∃ a xs,v=.ref a/\SqT K H a xs/\xs.length=n/\t xs σ H Q
def fh {es:List Expr} {k:Nat} {t:TGs} {n:Nat} (hc:X.calm=true) (h:PGs X es t)
  (hn:(assignEach es X.env).length=n:=by rfl) (hst:(assignEach es X.env).findIdx? (·.1)=none:=by rfl):PG X (.Tuple es k pos) (nN X.K n t):=by
 intro pins s σ H v u Q I r hw;obtain ⟨a,xs,e1,hq,hl,hw⟩:=hw;subst e1;cases r;obtain ⟨its,rv,ht,hz⟩:=I.tuple hq;refine assign_Tuple_tuple (I.ok.hd hc) ht (by simp [hn,<- hl,rv.length]) hst fun h' hx=>?_
 have I1:Inv X pins σ H { s with heap:=h' }:=I.kept (t':=s.toks) fun b o e=>hx b o (Jm (IY e)) e;exact h pins _ σ H xs _ Q I1 (by simpa using rv) hw
def Hc (to ti:TE) (t:AG):TG:=fun v σ H Q=>to σ H fun o H1=>ti σ H1 fun i H2=>t o i v H2 fun H3=>Q σ H3
def xB {o i:Expr} {to ti:TE} {t:AG} (ho:PE X o to) (hi:PE X i ti) (hs:Hk X t)
  (ha:∀ v,assign (.Subscript o i pos) X.env v=(do
   let ov <- holding [v] (eval o X.env)
   let iv <- holding [v,ov] (eval i X.env)
   standAt pos
   holding [v,ov,iv] (setItem ov iv v)
   release [v,ov,iv] []):=by intro _;rfl):PG X (.Subscript o i pos) (Hc to ti t):=by
 intro pins s σ H v u Q I r h;rw [ha];refine IS (K8 (thn (ho pins s σ H _ I h) fun ov s1 ⟨x,H1,I1,r1,q1⟩=>?_));refine IS (K8 (thn (hi pins s1 σ H1 _ I1 q1) fun iv s2 ⟨y,H2,I2,r2,q2⟩=>?_));refine IS (MO (IS (K8 (thn (hs pins s2 σ H2 x y v ov iv u _ I2 r1 r2 r q2) fun _ s3 ⟨H3,I3,q3⟩=>?_))));exact wpAny_release ⟨σ,H3,I3,q3⟩
def Ae (te:TE) (g:TG):TS:=fun D σ H=>te σ H fun x H1=>g x σ H1 D.nx
def qT {tg e:Expr} {te:TE} {g:TG} (he:PE X e te) (hg:PG X tg g) (hs:swapsWithSole [tg] e pos.line X.env=pure false:=by rfl) (hw:swappedStores [tg] e X.env=pure none:=by rfl)
  (h1:(assignEach [tg] X.env).map (·.2)=[assign tg X.env]:=by rfl):PS X (.Assign [tg] e pos) (Ae te g):=by
 intro pins s σ H D I h;refine wpAny_Assign_stores (thn (he pins s σ H _ I h) fun v s1 ⟨x,H1,I1,r1,q1⟩=>?_) hs hw;rw [h1];exact thn (hg pins s1 σ H1 x v _ I1 r1 q1) fun _ s2 q=>q
def ao {i:Nat} {x:Str} {e:Expr} {te:TE} {pos':Pos} (hN:X.N.Nodup) (hi:X.N[i]?=some x) (hx:Loc X.env.scope x) (he:PE X e te) (hs:swapsWith e (some (.Name x pos')) pos.line X.env=pure false:=by rfl) (hf:X.fn x=true\/X.env.scope.names.lookup x=some .local:=by first|exact .inl rfl|exact .inr rfl|assumption) :
  PS X (.Assign [.Name x pos'] e pos) (Ae te (da i)):=by
 intro pins s σ H D I h;refine wpAny_Assign_Name (thn (he pins s σ H _ I h) fun v s1 ⟨y,H1,I1,r1,q1⟩=>?_) hs;exact mO I1 hN hi hx r1 (fun s2 I2=>⟨_,H1,I2,q1⟩) hf
def GC (i j:Nat) (ta:TA):TS:=fun D σ H=>ta σ H fun vs H1=>∃ v w,vs=[v,w]/\D.nx ((σ.set i (some v)).set j (some w)) H1
def BE {i j:Nat} {x y:Str} {a b:Expr} {ta:TA} {px py pt:Pos} {kt k2 pt2} (hc:X.calm=true) (hN:X.N.Nodup) (hi:X.N[i]?=some x) (hj:X.N[j]?=some y) (hij:i≠j)
  (hx:X.env.scope.names.lookup x=some .local) (hy:X.env.scope.names.lookup y=some .local) (ha:PA X [a,b] ta)
  (hw:swappedStores [.Tuple [.Name x px,.Name y py] kt pt] (.Tuple [a,b] k2 pt2) X.env=pure (some [x,y]))
  (hs:swapsWithSole [.Tuple [.Name x px,.Name y py] kt pt] (.Tuple [a,b] k2 pt2) pos.line X.env=pure false:=by rfl) :
  PS X (.Assign [.Tuple [.Name x px,.Name y py] kt pt] (.Tuple [a,b] k2 pt2) pos) (GC i j ta):=by
 intro pins s σ H D I h;rw [exec_Assign_arm];refine IS (MO ?_);rw [hs];refine IS (Ju ?_);rw [if_neg (by decide)]
 refine IS (Tuple_ (thn (ha _ pins s σ H _ I h) fun us s1 ⟨vs,H1,I1,r1,q1⟩=>?_));obtain ⟨v,w,e1,q1⟩:=q1;subst e1;obtain ⟨u1,u2,rfl,rv,rw'⟩:∃ u1 u2,us=[u1,u2]/\RelV v u1/\RelV w u2:=by
  cases r1 with
  | cons p q =>
   cases q with
   | cons p' q' =>
    cases q';exact ⟨_,_,rfl,p,p'⟩
 refine Mw ?_ (by show 2<=Jr;decide)
 have I2:Inv X pins σ H1 { s1 with heap:=s1.heap.push { cls:=.type "tuple",data:=.seq [u1,u2].toArray } }:=I1.kept (t':=s1.toks) fun b o e=>IU _ e;rw [hw];refine IS (Ju ?_);show wpAny (model X.prog X.w) X.A (do rule "assign.swapped-stores";let items <- unpackItems (.ref s1.heap.objs.size) 2 none;assignInOrder [fun v=>bindName X.env y v,fun v=>bindName X.env x v] items.reverse;pure Flow.next) _ _ _;refine IS (wpAny_rule (IS (unpackItems_tuple (items:=#[u1,u2]) (I.ok.hd hc) (IsTup.new s1.heap _) fun h' hx'=>?_)));have I3:=I2.kept (h':=h') (t':=s1.toks) fun b o e=>hx' b o (Jm (IY e)) e;show wpAny _ _ (assignInOrder [fun v=>bindName X.env y v,fun v=>bindName X.env x v] [u2,u1] >>= fun _=>pure Flow.next) _ _ _;refine IS (Mj (wpAny_bindName (mO I3 hN hj (.inl hy) rw' (fun s2 I4=>?_) (.inr hy))));refine Mj (wpAny_bindName (mO I4 hN hi (.inl hx) rv (fun s3 I5=>assignInOrder_nil (Ju ?_)) (.inr hx)));rw [List.set_comm _ _ (Lr hij)] at I5;exact ⟨_,H1,I5,q1⟩
def B0 (c:TT) (tb:TS):TS:=fun D σ H=>∃ W:Nat->St->Hp->Prop,(∃ m,W m σ H)/\∀ m σ H,W m σ H ->
 c σ H fun b H1=>if b=true then ∃ N:St->Hp->Prop,(∀ σ' H',N σ' H'->∃ m',m' < m/\W m' σ' H')/\tb { D with nx:=N,ct:=N,bk:=D.nx } σ H1 else D.nx σ H1
def jW {c:Expr} {body:List Stmt} {tc:TT} {tb:TS} (hp:PassesOwn (model X.prog X.w) X.A X.env X.xe) (hc:PT X c tc) (hb:PSs X body tb):PS X (.While c body [] pos) (B0 tc tb):=by
 intro pins s σ H D I h;obtain ⟨W,⟨m0,w0⟩,turn⟩:=h;refine wpAny_While (codeAny_whileLoop (fun n s'=>∃ σ' H',Inv X pins σ' H' s'/\W n σ' H') ?_ m0 ⟨σ,H,I,w0⟩);rintro n s1 ⟨σ1,H1,I1,w1⟩;refine K3 hp (thn (hc pins s1 σ1 H1 _ I1 (turn n σ1 H1 w1)) fun b s2 ⟨H2,I2,q2⟩=>?_);cases b with
 | true =>
  obtain ⟨N,hN,q2⟩:=q2;rw [if_pos rfl];refine K3 hp (thn (hb pins s2 σ1 H2 _ I2 q2) fun f s3 q3=>?_);cases f with
  | next =>
   obtain ⟨σ3,H3,I3,n3⟩:=q3;obtain ⟨m',hm,w3⟩:=hN σ3 H3 n3;exact ⟨m',hm,σ3,H3,I3,w3⟩
  | cont =>
   obtain ⟨σ3,H3,I3,n3⟩:=q3;obtain ⟨m',hm,w3⟩:=hN σ3 H3 n3;exact ⟨m',hm,σ3,H3,I3,w3⟩
  | brk=>exact q3
  | ret v=>exact q3
 | false =>
  rw [if_neg Jd];exact L5 ⟨σ1,H2,I2,q2⟩
end
structure It where
 go:Nat->Hp->Prop
 yld:Nat->Hp->V->Hp->Prop
 stop:Nat->Hp->Prop
def ie (X:Cx) (pins:List (Addr×Obj)) (H:Hp) (b:Addr):Prop :=
 H b=none/\b≠X.env.locals/\b∉X.fs/\(b∈X.ex\/X.s₀.heap.objs.size<=b)/\(∀ x c,X.env.cells.lookup x=some c->c≠b)/\∀ p∈X.pn++pins,p.1≠b
def Inv.pX {X:Cx} {pins:List (Addr×Obj)} {σ:St} {H H':Hp} {s:IL} {b:Addr} (I:Inv X pins σ H s) (hb:s.heap.objs.size<=b) (hn:H' b=none):ie X pins H' b:=by
 refine ⟨hn,N7 (Ja I.lt hb),I.Im hb,.inr (JV I.sz hb),fun x c e z=>?_,fun p hp z=>?_⟩
 ·obtain ⟨v,q⟩:=I.cell x c e;exact absurd (Ja q.lt (by rw [z];exact hb)) (Ki _)
 ·exact absurd (Ja (IY (I.pin p hp).1) (by rw [z];exact hb)) (Ki _)
structure Turn (P:Jc) (w:World) (K:IC) (tg:Expr) (J:It) (fp:List Addr) (it:Addr) (tn:Nat->Heap->Prop):Prop where
 mem:it∈fp
 obj:∀ i h,tn i h->∀ b∈fp,∃ o,h.get? b=some o/\∀ v,o.data≠.cell v
 keep:∀ i h h',tn i h->(∀ b∈fp,∀ o,h.get? b=some o->h'.get? b=some o)->tn i h'
 item:∀ (X:Cx),X.prog=P->X.w=w->X.K=K->X.calm=true->∀ (i:Nat) (pins:List (Addr×Obj)) (s:IL) (σ:St) (H:Hp) (E:Value->IL->Prop),Inv X pins σ H s->(∀ b∈fp,ie X pins H b)->tn i s.heap->J.go i H ->
  wpAny (model P w) X.A (pyNext (.ref it)) (fun r s1=>∃ u,r=some u /\
   wpAny (model P w) X.A (letOwnedTupleGo tg (.ref it) u) (fun _ s2=>∃ x H',Inv X pins σ H' s2/\RelV x u/\J.yld i H x H'/\tn (i+1) s2.heap/\∀ b∈fp,H' b=none) E s1) E s
 done:∀ (X:Cx),X.prog=P->X.w=w->X.K=K->X.calm=true->∀ (i:Nat) (pins:List (Addr×Obj)) (s:IL) (σ:St) (H:Hp) (E:Value->IL->Prop),Inv X pins σ H s->(∀ b∈fp,ie X pins H b)->tn i s.heap->J.stop i H ->
  wpAny (model P w) X.A (pyNext (.ref it)) (fun r s1=>r=none/\Inv X pins σ H s1) E s
 self:∀ (A:JF) (i:Nat) (s:IL) (Q:Value->IL->Prop) (E:Value->IL->Prop),tn i s.heap->Q (.ref it) s->wpAny (model P w) A (pyIter (.ref it)) Q E s
abbrev TI:=St->Hp->(It->Hp->Prop)->Prop
def PIE (X:Cx) (pins:List (Addr×Obj)) (σ:St) (tg:Expr) (R:It->Hp->Prop) (itv:Value) (s2:IL):Prop :=
 ∃ (it:Addr) (fp:List Addr) (tn:Nat->Heap->Prop) (J:It) (H':Hp),itv=.ref it/\Inv X pins σ H' s2/\Turn X.prog X.w X.K tg J fp it tn/\tn 0 s2.heap/\(∀ b∈fp,ie X pins H' b)/\R J H'
def PI (X:Cx) (tg iter:Expr) (wi:TI):Prop :=
 ∀ (pins:List (Addr×Obj)) (s:IL) (σ:St) (H:Hp) (R:It->Hp->Prop),Inv X pins σ H s->wi σ H R ->
  wpAny (model X.prog X.w) X.A (eval iter X.env) (fun v s1=>wpAny (model X.prog X.w) X.A (pyIter v) (PIE X pins σ tg R) X.xe s1) X.xe s
def EH {M:Model} {A:JF} {E:Value->IL->Prop} {s:IL} {tg:Expr} {it:Addr} {u:Value} {o:Obj} {n:String} {vs:Array Value} {Q:Unit->IL->Prop} (ho:s.heap.get? it=some o) (hc:o.cls=.type n) (hd:o.data=.fields vs)
  (hn:["enumerate","zip","dict_itemiterator","dict_reverseitemiterator","odict_iterator","itertools.zip_longest","itertools.pairwise"].contains n=false) (hQ:Q () s):wpAny M A (letOwnedTupleGo tg (.ref it) u) Q E s:=by
 unfold letOwnedTupleGo;cases tg <;> first
  | exact Ju hQ
  | (cases u <;> first
    | exact Ju hQ
    | (refine IS (wpAny_load ho ?_)
       rw [hc,hd];show wpAny M A (if (["enumerate","zip","dict_itemiterator","dict_reverseitemiterator","odict_iterator","itertools.zip_longest","itertools.pairwise"].contains n && vs[0]? == some (rawInt _))=true then _ else _) Q E s;rw [if_neg (by intro h;rw [hn,Bool.false_and] at h;cases h)]
       exact Ju hQ))
def Itl (K:IC) (a:Addr):It :=
 ⟨fun i H=>∃ xs x,SqL K H a xs/\xs[i]?=some x,fun i H x H'=>H'=H/\∀ xs,SqL K H a xs->xs[i]?=some x,fun i H=>∃ xs,SqL K H a xs/\xs.length<=i⟩
def Itr (lo:Int) (n:Nat):It:=⟨fun i _=>i<n,fun i H x H'=>H'=H/\x=.int (lo+i),fun i _=>n<=i⟩
def B3 {P:Jc} {w:World} {K:IC} {tg:Expr} (a it:Addr):Turn P w K tg (Itl K a) [it] it (fun i h=>h.IsListIter it a i) where
 mem:=by simp
 obj:=fun i h st b hb=>by
  have e:b=it:=by simpa using hb
  subst e;obtain ⟨o,e,c,d⟩:=st;exact ⟨o,e,fun v z=>by rw [d] at z;cases z⟩
 keep:=fun i h h' st k=>st.at fun o e=>k it (by simp) o e
 item:=by
  intro X hP hw hK hc i pins s σ H E I hf st hg;subst hP hw hK;obtain ⟨xs,x,hq,hx⟩:=hg;obtain ⟨its,rv,p,hz⟩:=I.list hq;obtain ⟨u,hu,ru⟩:=rv.get hx;obtain ⟨f0,f1,f2,f3,f4,f5⟩:=hf it (by simp)
  refine wpAny_pyNext_list_item st p.isList (x:=u) (by simpa using hu) fun h' st' sb=>?_
  have I1:Inv X pins σ H { s with heap:=h' }:=I.turned (t':=s.toks) (fun b o hb e=>(sb.2 b hb).trans e) f0 f1 f3 f4 f5;obtain ⟨o,e,c,d⟩:=id st';exact ⟨u,rfl,EH (s:={ s with heap:=h' }) e c d (by decide) ⟨x,H,I1,ru,⟨rfl,fun ys hy=>by rw [I.iw hy hq];exact hx⟩,st',fun b hb=>(hf b hb).1⟩⟩
 done:=by
  intro X hP hw hK hc i pins s σ H E I hf st hg;subst hP hw hK;obtain ⟨xs,hq,hx⟩:=hg;obtain ⟨its,rv,p,hz⟩:=I.list hq;obtain ⟨f0,f1,f2,f3,f4,f5⟩:=hf it (by simp)
  have hl:=rv.length;exact wpAny_pyNext_list_end (I.ok.hd hc) st p.isList (by simp;lia) fun h' eb=>⟨rfl,I.turned (t':=s.toks) (fun b o hb e=>eb b o hb e) f0 f1 f3 f4 f5⟩
 self:=fun _ _ _ _ _ st h=>wpAny_pyIter_listiter st h
def Bl {P:Jc} {w:World} {K:IC} {tg:Expr} (it:Addr) (lo:Int) (n:Nat):Turn P w K tg (Itr lo n) [it] it (fun i h=>IsRangeIter h it (lo+(i:Nat) * 1) ((n:Int) - (i:Nat)) 1) where
 mem:=by simp
 obj:=fun i h st b hb=>by
  have e:b=it:=by simpa using hb
  subst e;exact ⟨_,st,fun v z=>by
   have z':Og _=NX v:=z;cases z'⟩
 keep:=fun i h h' st k=>k it (by simp) _ st
 item:=by
  intro X hP hw hK hc i pins s σ H E I hf st hg;subst hP hw hK;obtain ⟨f0,f1,f2,f3,f4,f5⟩:=hf it (by simp)
  have W:=Walks.range (prog:=X.prog) (w:=X.w) (I.ok.hd hc) it lo 1 n;refine W.item i s _ _ hg st fun v h' tk hv st' kk=>?_;obtain ⟨t,rfl⟩:=hv;have I1:Inv X pins σ H { s with heap:=h',toks:=tk }:=I.turned (fun b o hb e=>kk b o (by simpa using hb) e) f0 f1 f3 f4 f5
  refine ⟨_,rfl,EH (s:={ s with heap:=h',toks:=tk }) (n:="range_iterator") st' rfl rfl (by decide) ⟨.int (lo+i),H,I1,⟨t,?_⟩,⟨rfl,rfl⟩,st',fun b hb=>(hf b hb).1⟩⟩
  rw [Int.mul_one]
 done:=by
  intro X hP hw hK hc i pins s σ H E I hf st hg;subst hP hw hK;obtain ⟨f0,f1,f2,f3,f4,f5⟩:=hf it (by simp)
  exact wpAny_pyNext_range_end (I.ok.hd hc) st (by have:n<=i:=hg;lia) fun h' eb=>⟨rfl,I.turned (t':=s.toks) (fun b o hb e=>eb b o hb e) f0 f1 f3 f4 f5⟩
 self:=fun _ _ _ _ _ st h=>wpAny_pyIter_rangeiter st h
section
variable {X:Cx} {tg:Expr}
def Av (K:IC) (tl:TE):TI:=fun σ H R=>tl σ H fun x H1=>∃ a,x=.ref a/\(∃ xs,SqL K H1 a xs)/\R (Itl K a) H1
def Fm {l:Expr} {tl:TE} (hl:PE X l tl):PI X tg l (Av X.K tl):=by
 intro pins s σ H R I h;refine thn (hl pins s σ H _ I h) fun v s1 ⟨x,H1,I1,r1,q1⟩=>?_;obtain ⟨a,e,⟨xs,hq⟩,q⟩:=q1;subst e;cases r1;obtain ⟨its,rv,p,hz⟩:=I1.list hq;refine Mx p.isList ?_;refine ⟨s1.heap.objs.size,[s1.heap.objs.size],_,_,H1,rfl,I1.kept (t':=s1.toks) fun b o e=>IU _ e,B3 a _,⟨_,JJ _ rfl,rfl,rfl⟩,fun b hb=>?_,q⟩;have e:b=s1.heap.objs.size:=by simpa using hb
 subst e;exact I1.pX (IV _) (I1.hok.fresh (IV _))
def Dt {pins:List (Addr×Obj)} {σ:St} {H:Hp} {s:IL} {R:It->Hp->Prop} {E:Value->IL->Prop} {lo hi:Int} {t u v:Tok} {tk:Nat} (I:Inv X pins σ H s) (h1:-(2 ^ 62)<=lo) (h2:lo<2 ^ 62) (h3:-(2 ^ 62)<=hi) (h4:hi<2 ^ 62)
  (q:R (Itr lo (hi - lo).toNat) H):wpAny (model X.prog X.w) X.A (pyIter (.ref s.heap.objs.size)) (PIE X pins σ tg R) E { s with heap:=s.heap.push { cls:=.type "range",data:=.fields #[.int lo t,.int hi u,.int 1 v] },toks:=tk }:=by
 refine wpAny_pyIter_range (IsRange.new ..) (small_one h1 h2 h3 h4) ?_;have I1:Inv X pins σ H { s with heap:=s.heap.push { cls:=.type "range",data:=.fields #[.int lo t,.int hi u,.int 1 v] },toks:=tk }:=I.kept fun b o e=>IU _ e;refine ⟨(s.heap.push { cls:=.type "range",data:=.fields #[.int lo t,.int hi u,.int 1 v] }).objs.size,[(s.heap.push { cls:=.type "range",data:=.fields #[.int lo t,.int hi u,.int 1 v] }).objs.size],_,_,H,rfl,
  I1.kept (t':=tk) fun b o e=>IU _ e,Bl _ lo (hi - lo).toNat,?_,fun b hb=>?_,q⟩
 ·have e1:lo+((0:Nat):Int) * 1=lo:=by simp
  have e2:(((hi - lo).toNat:Nat):Int) - ((0:Nat):Int)=MP lo hi 1:=by rw [rangeSize_one];split <;> lia
  show IsRangeIter _ _ (lo+((0:Nat):Int) * 1) ((((hi - lo).toNat:Nat):Int) - ((0:Nat):Int)) 1;rw [e1,e2];exact JJ _ rfl
 ·have e:b=(s.heap.push { cls:=.type "range",data:=.fields #[.int lo t,.int hi u,.int 1 v] }).objs.size:=by simpa using hb
  subst e;exact I1.pX (IV _) (I1.hok.fresh (IV _))
def AF (ta:TA):TI:=fun σ H R=>ta σ H fun vs H1=>∃ j:Int,vs=[.int j]/\-(2 ^ 62)<=j/\j<2 ^ 62/\R (Itr 0 j.toNat) H1
def Cw {a:Expr} {ta:TA} {p pos:Pos} (hg:Gl X "range") (hm:X.mg "range" = none) (ha:PA X [a] ta) (hs:JP [a] X.env=[(false,eval a X.env)]:=by rfl):PI X tg (.Call (.Name "range" p) [a] [] pos) (AF ta):=by
 intro pins s σ H R I h;refine Call_ (ja I hg hm boot_range (J7 (thn (ha pos pins s σ H _ I h) fun us s1 ⟨vs,H1,I1,r1,q1⟩=>?_) hs rfl));obtain ⟨j,e,q1,q2,q⟩:=q1;subst e;cases r1 with
 | cons r rr =>
  cases rr;obtain ⟨t,rfl⟩:=r;exact call_range_1 (Dt I1 (by lia) (by lia) q1 q2 (by simpa using q))
def G9 (wi:TI) (g:TG) (tb:TS):TS:=fun D σ H=>wi σ H fun J H1=>∃ W:Nat->Nat->St->Hp->Prop,(∃ m,W 0 m σ H1)/\∀ i m σ H,W i m σ H ->
 (J.stop i H/\D.nx σ H)\/(J.go i H/\∃ N:St->Hp->Prop,(∀ σ' H',N σ' H'->∃ m',m' < m/\W (i+1) m' σ' H')/\∀ x H',J.yld i H x H'->g x σ H' fun σ2 H2=>tb { D with nx:=N,ct:=N,bk:=D.nx } σ2 H2)
def jf (fp:List Addr) (h:Heap):List (Addr×Obj):=fp.filterMap fun b=>(h.get? b).map fun o=>(b,o)
def fN {fp:List Addr} {h:Heap} {b:Addr} {o:Obj} (hb:b∈fp) (e:h.get? b=some o):(b,o)∈jf fp h:=List.mem_filterMap.mpr ⟨b,hb,by rw [e];rfl⟩
def B9 {fp:List Addr} {h:Heap} {p:Addr×Obj} (hp:p∈jf fp h):p.1∈fp/\h.get? p.1=some p.2:=by
 obtain ⟨b,hb,e⟩:=List.mem_filterMap.mp hp;cases q:h.get? b with
 | none=>rw [q] at e;cases e
 | some o =>
  rw [q] at e;have e':(b,o)=p:=Jy e;subst e';exact ⟨hb,q⟩
def Inv.pinned {pins:List (Addr×Obj)} {σ:St} {H:Hp} {s:IL} {fp:List Addr} (I:Inv X pins σ H s) (hf:∀ b∈fp,ie X pins H b) (ho:∀ b∈fp,∃ o,s.heap.get? b=some o/\∀ v,o.data≠.cell v):Inv X (pins++jf fp s.heap) σ H s :=
 I.zQ fun p hp=>(JG.mp hp).elim (fun z=>I.pin p (Jx _ z)) fun z=>by
  obtain ⟨hb,e⟩:=B9 z;obtain ⟨f0,f1,f2,_⟩:=hf p.1 hb;obtain ⟨o,e',d⟩:=ho p.1 hb;rw [e] at e';cases e';exact ⟨e,f0,f1,f2,d⟩
def Inv.ku {pins pl:List (Addr×Obj)} {σ:St} {H:Hp} {s:IL} (I:Inv X (pins++pl) σ H s):Inv X pins σ H s:=I.zQ fun p hp=>I.pin p (Jx _ (J2 _ hp))
def bo {iter:Expr} {body:List Stmt} {wi:TI} {g:TG} {tb:TS} {pos:Pos} (hp:PassesOwn (model X.prog X.w) X.A X.env X.xe) (hc:X.calm=true) (hi:PI X tg iter wi) (hg:PG X tg g) (hb:PSs X body tb)
  (hs:∀ x,foldedSetIterable iter X.env x=pure x:=by intro _;rfl):PS X (.For tg iter body [] pos) (G9 wi g tb):=by
 intro pins s σ H D I h;refine wpAny_For (thn (hi pins s σ H _ I h) fun v s1 h1=>thn h1 fun itv s2 h2=>?_) hs;obtain ⟨it,fp,tn,J,H2,e,I2,T,st2,f2,W,⟨m0,w0⟩,turn⟩:=h2;subst e;have stat:∀ {H':Hp},(∀ b∈fp,H' b=none)->∀ b∈fp,ie X pins H' b:=fun hn b hb=>⟨hn b hb,(f2 b hb).2⟩;refine codeAny_forLoop_any (fun n s'=>∃ i σ' H',Inv X pins σ' H' s'/\tn i s'.heap/\(∀ b∈fp,H' b=none)/\W i n σ' H') ?_ m0 ⟨0,σ,H2,I2,st2,fun b hb=>(f2 b hb).1,w0⟩;rintro n s3 ⟨i,σ3,H3,I3,st3,fr3,w3⟩;rcases turn i n σ3 H3 w3 with ⟨stop,qn⟩|⟨go,N,hN,step⟩
 ·refine K3 hp (thn (T.done X rfl rfl rfl hc i pins s3 σ3 H3 X.xe I3 (stat fr3) st3 stop) fun r s4 ⟨hr,I4⟩=>?_);subst hr;exact L5 ⟨σ3,H3,I4,qn⟩
 ·refine K3 hp (thn (T.item X rfl rfl rfl hc i pins s3 σ3 H3 X.xe I3 (stat fr3) st3 go) fun r s4 ⟨u,hr,h4⟩=>?_);subst hr;refine K3 hp (thn h4 fun _ s5 ⟨x,H5,I5,r5,y5,st5,fr5⟩=>?_);have I5':=I5.pinned (stat fr5) (T.obj _ _ st5);refine K3 hp (thn (hg _ s5 σ3 H5 x u _ I5' r5 (step x H5 y5)) fun _ s6 ⟨σ6,H6,I6,q6⟩=>?_);refine K3 hp (thn (hb _ s6 σ6 H6 _ I6 q6) fun f s7 q7=>?_);have again:∀ {σ7:St} {H7:Hp},Inv X (pins++jf fp s5.heap) σ7 H7 s7->N σ7 H7->∃ m,m<n/\∃ i σ' H',Inv X pins σ' H' s7/\tn i s7.heap/\(∀ b∈fp,H' b=none)/\W i m σ' H':=fun {σ7 H7} I7 n7=>by
   obtain ⟨m',hm,w7⟩:=hN σ7 H7 n7;refine ⟨m',hm,i+1,σ7,H7,I7.ku,T.keep _ _ _ st5 fun b hb o e=>(I7.pin (b,o) (Jx _ (Jx _ (fN hb e)))).1,fun b hb=>?_,w7⟩;obtain ⟨o,e,d⟩:=T.obj _ _ st5 b hb;exact (I7.pin (b,o) (Jx _ (Jx _ (fN hb e)))).2.1
  cases f with
  | next=>obtain ⟨σ7,H7,I7,n7⟩:=q7;exact again I7 n7
  | cont=>obtain ⟨σ7,H7,I7,n7⟩:=q7;exact again I7 n7
  | brk=>obtain ⟨σ7,H7,I7,q7⟩:=q7;exact ⟨σ7,H7,I7.ku,q7⟩
  | ret v=>obtain ⟨x7,σ7,H7,I7,r7,q7⟩:=q7;exact ⟨x7,σ7,H7,I7.ku,r7,q7⟩
end
def qD {K:IC} {a:Addr} {xs:List V} {g:TG} {tb:TS} {D:Ends} {σ:St} {H:Hp} (Pv:Nat->St->Hp->Prop) (h0:Pv 0 σ H) (hl:∀ i σ H,i<=xs.length->Pv i σ H->SqL K H a xs)
  (hs:∀ i x σ H,xs[i]?=some x->Pv i σ H->g x σ H fun σ2 H2=>tb { D with nx:=Pv (i+1),ct:=Pv (i+1),bk:=D.nx } σ2 H2) (hd:∀ σ H,Pv xs.length σ H->D.nx σ H) :
  ∃ W:Nat->Nat->St->Hp->Prop,(∃ m,W 0 m σ H)/\∀ i m σ H,W i m σ H ->
   ((Itl K a).stop i H/\D.nx σ H)\/((Itl K a).go i H/\∃ N:St->Hp->Prop,(∀ σ' H',N σ' H'->∃ m',m' < m/\W (i+1) m' σ' H')/\∀ x H',(Itl K a).yld i H x H'->g x σ H' fun σ2 H2=>tb { D with nx:=N,ct:=N,bk:=D.nx } σ2 H2):=by
 refine ⟨fun i m σ H=>m=xs.length - i/\i<=xs.length/\Pv i σ H,⟨xs.length,by simp,J6 _,h0⟩,?_⟩
 rintro i m σ H ⟨rfl,hi,p⟩;have q:=hl i σ H hi p
 by_cases hlt:i<xs.length
 ·refine .inr ⟨⟨xs,xs[i],q,by simp [hlt]⟩,Pv (i+1),fun σ' H' p'=>⟨xs.length - (i+1),by lia,rfl,hlt,p'⟩,fun x H' y=>?_⟩
  obtain ⟨e,y⟩:=y;subst e;exact hs i x σ _ (y xs q) p
 ·have e:i=xs.length:=by lia
  subst e;exact .inl ⟨⟨xs,q,IV _⟩,hd σ H p⟩
def BZ {lo:Int} {n:Nat} {g:TG} {tb:TS} {D:Ends} {σ:St} {H:Hp} (Pv:Nat->St->Hp->Prop) (h0:Pv 0 σ H)
  (hs:∀ i σ H,i<n->Pv i σ H->g (.int (lo+i)) σ H fun σ2 H2=>tb { D with nx:=Pv (i+1),ct:=Pv (i+1),bk:=D.nx } σ2 H2) (hd:∀ σ H,Pv n σ H->D.nx σ H) :
  ∃ W:Nat->Nat->St->Hp->Prop,(∃ m,W 0 m σ H)/\∀ i m σ H,W i m σ H ->
   ((Itr lo n).stop i H/\D.nx σ H)\/((Itr lo n).go i H/\∃ N:St->Hp->Prop,(∀ σ' H',N σ' H'->∃ m',m' < m/\W (i+1) m' σ' H')/\∀ x H',(Itr lo n).yld i H x H'->g x σ H' fun σ2 H2=>tb { D with nx:=N,ct:=N,bk:=D.nx } σ2 H2):=by
 refine ⟨fun i m σ H=>m=n - i/\i<=n/\Pv i σ H,⟨n,by simp,J6 _,h0⟩,?_⟩
 rintro i m σ H ⟨rfl,hi,p⟩
 by_cases hlt:i<n
 ·refine .inr ⟨hlt,Pv (i+1),fun σ' H' p'=>⟨n - (i+1),by lia,rfl,hlt,p'⟩,fun x H' y=>?_⟩
  obtain ⟨e,y⟩:=y;subst e y;exact hs i σ _ hlt p
 ·have e:i=n:=by lia
  subst e;exact .inl ⟨IV _,hd σ H p⟩
abbrev R2:=V->V->Hp->VK->Prop
def OpR (X:Cx) (f:Value->Value->Sem Value) (r:R2):Prop :=
 ∀ (pins:List (Addr×Obj)) (s:IL) (σ:St) (H:Hp) (x y:V) (v u:Value) (Q:VK),Inv X pins σ H s->RelV x v->RelV y u->r x y H Q ->
  wpAny (model X.prog X.w) X.A (f v u) (EP X pins σ Q) X.xe s
def de (X:Cx) (f:Value) (r:List V->Hp->VK->Prop):Prop :=
 ∀ (pins:List (Addr×Obj)) (s:IL) (σ:St) (H:Hp) (xs:List V) (us:List Value) (Q:VK),Inv X pins σ H s->Vals xs us->r xs H Q ->
  wpAny (model X.prog X.w) X.A (call f us) (EP X pins σ Q) X.xe s
def tOp (r:R2) (ta tb:TE):TE:=fun σ H Q=>ta σ H fun x H1=>tb σ H1 fun y H2=>r x y H2 Q
def rI (C:Int->Int->Prop) (g:Int->Int->V):R2:=fun x y H Q=>∃ i j,x=.int i/\y=.int j/\C i j/\Q (g i j) H
def rI0 (g:Int->Int->V):R2:=fun x y H Q=>∃ i j,x=.int i/\y=.int j/\Q (g i j) H
section
variable {X:Cx} {a b c:Expr} {ta tb tc:TE} {pos:Pos}
def C1 (ha:PE X a ta) (hb:PE X b tb) {pins:List (Addr×Obj)} {s:IL} {σ:St} {H:Hp} {R:V->V->Hp->Prop} (I:Inv X pins σ H s)
  (h:ta σ H fun x H1=>tb σ H1 fun y H2=>R x y H2) {Q:Value->IL->Prop} {f:Value->Value->Sem Value}
  (hf:∀ v u s2 x y H2,Inv X pins σ H2 s2->RelV x v->RelV y u->R x y H2->wpAny (model X.prog X.w) X.A (f v u) Q X.xe s2) :
  wpAny (model X.prog X.w) X.A (eval a X.env) (fun v s₁=>wpAny (model X.prog X.w) X.A (eval b X.env) (fun u s₂=>wpAny (model X.prog X.w) X.A (f v u) Q X.xe s₂) X.xe s₁) X.xe s:=by
 refine thn (ha pins s σ H _ I h) fun v s1 ⟨x,H1,I1,r1,q1⟩=>?_;refine thn (hb pins s1 σ H1 _ I1 q1) fun u s2 ⟨y,H2,I2,r2,q2⟩=>?_;exact hf v u s2 x y H2 I2 r1 r2 q2
def ak {op:Operator} {r:R2} (ho:OpR X (binaryOp op) r) (ha:PE X a ta) (hb:PE X b tb):PE X (.BinOp a op b pos) (tOp r ta tb):=by
 intro pins s σ H Q I h;exact wpAny_BinOp (C1 ha hb I h fun v u s2 x y H2 I2 rx ry q=>ho pins s2 σ H2 x y v u Q I2 rx ry q)
def opI {f:Value->Value->Sem Value} {C:Int->Int->Prop} {g:Int->Int->Int}
  (rule:∀ (i j:Int) (t u:Tok) (s:IL) (Q:Value->IL->Prop) (E:Value->IL->Prop),C i j->Q (.int (g i j) s.toks) { s with toks:=s.toks+1 }->wpAny (model X.prog X.w) X.A (f (.int i t) (.int j u)) Q E s) :
  OpR X f (rI C fun i j=>.int (g i j)):=by
 intro pins s σ H x y v u Q I rx ry h;obtain ⟨i,j,rfl,rfl,hc,q⟩:=h;obtain ⟨t,rfl⟩:=rx;obtain ⟨t',rfl⟩:=ry;exact rule i j t t' s _ _ hc ⟨.int (g i j),H,I.tok _,⟨_,rfl⟩,q⟩
def Gk {f:Value->Value->Sem Value} {g:Int->Int->Int}
  (rule:∀ (i j:Int) (t u:Tok) (s:IL) (Q:Value->IL->Prop) (E:Value->IL->Prop),Q (.int (g i j) s.toks) { s with toks:=s.toks+1 }->wpAny (model X.prog X.w) X.A (f (.int i t) (.int j u)) Q E s) :
  OpR X f (rI0 fun i j=>.int (g i j)):=by
 intro pins s σ H x y v u Q I rx ry h;obtain ⟨i,j,rfl,rfl,q⟩:=h;obtain ⟨t,rfl⟩:=rx;obtain ⟨t',rfl⟩:=ry;exact rule i j t t' s _ _ ⟨.int (g i j),H,I.tok _,⟨_,rfl⟩,q⟩
def As {f:Value->Value->Sem Value} {g:Int->Int->Bool}
  (rule:∀ (i j:Int) (t u:Tok) (s:IL) (Q:Value->IL->Prop) (E:Value->IL->Prop),Q (.bool (g i j)) s->wpAny (model X.prog X.w) X.A (f (.int i t) (.int j u)) Q E s) :
  OpR X f (rI0 fun i j=>.bl (g i j)):=by
 intro pins s σ H x y v u Q I rx ry h;obtain ⟨i,j,rfl,rfl,q⟩:=h;obtain ⟨t,rfl⟩:=rx;obtain ⟨t',rfl⟩:=ry;exact rule i j t t' s _ _ ⟨.bl (g i j),H,I,rfl,q⟩
def GA (i j:Int):Prop:=0<j/\j<1073741824
def AM (i j:Int):Prop:=(-(2 ^ 64)<i/\i<2 ^ 64)\/(-(2 ^ 64)<j/\j<2 ^ 64)
def AM.ok {i j:Int} (h:AM i j):Oe i j:=by
 rcases h with ⟨h1,h2⟩|⟨h1,h2⟩
 ·exact .of_left (intBits_le_64 h1 h2)
 ·exact .of_right (intBits_le_64 h1 h2)
def aU:OpR X (binaryOp .Add) (rI0 fun i j=>.int (i+j)):=Gk fun _ _ _ _ _ _ _ q=>add_int q
def nX:OpR X (binaryOp .Sub) (rI0 fun i j=>.int (i - j)):=Gk fun _ _ _ _ _ _ _ q=>sub_int q
def bg:OpR X (binaryOp .Mult) (rI AM fun i j=>.int (i * j)):=opI fun _ _ _ _ _ _ _ hc q=>mul_int q hc.ok
def bz:OpR X (binaryOp .FloorDiv) (rI GA fun i j=>.int (i / j)):=opI fun i j _ _ _ _ _ hc q=>by
 have h1:(0:Int)<j:=hc.1;have h2:j<1073741824:=hc.2;exact floordiv_int (by lia) (by rw [Int.fdiv_eq_ediv_of_nonneg i (by lia)];exact q) (.inl (PyProof.noPylong_small (by lia)))
def aS:OpR X (binaryOp .Mod) (rI (fun _ j=>0<j) fun i j=>.int (i % j)):=opI fun i j _ _ _ _ _ hc q=>by
 have h1:(0:Int)<j:=hc;exact mod_int' (by lia) (by rw [Int.fmod_eq_emod_of_nonneg i (by lia)];exact q)
end
def Gp:V->V->Bool
 | .non,.non=>true | .non,.int _=>true | .int _,.non=>true | .non,.bl _=>true | .bl _,.non=>true | .non,.str _=>true | .str _,.non=>true
 | .int _,.int _=>true | .bl _,.bl _=>true | .str _,.str _=>true | .byt _,.byt _=>true
 | .int _,.str _=>true | .str _,.int _=>true | .bl _,.str _=>true | .str _,.bl _=>true
 | _,_=>false
def rEq:R2:=fun x y H Q=>Gp x y=true/\Q (.bl (decide (x=y))) H
def rNe:R2:=fun x y H Q=>Gp x y=true/\Q (.bl (!decide (x=y))) H
def zV {i j:Int}:decide (V.int i=V.int j)=(i == j):=by
 rw [Kn];simp
def BS {i j:Bool}:decide (V.bl i=V.bl j)=(i == j):=by
 rw [Kn];simp
def zC {i j:Str}:decide (V.str i=V.str j)=(i == j):=by
 rw [Kn];simp
def zT {i j:Array UInt8}:decide (V.byt i=V.byt j)=(i.toList == j.toList):=by
 rw [Kn];cases i;cases j;simp
section
variable {X:Cx} {a b c:Expr} {ta tb tc:TE} {pos:Pos}
def bB {pins:List (Addr×Obj)} {σ:St} {H:Hp} {s:IL} {Q:VK} {k k':Bool} (I:Inv X pins σ H s) (q:Q (.bl k) H) (e:k=k'):EP X pins σ Q (.bool k') s:=by
 subst e;exact ⟨.bl k,H,I,rfl,q⟩
def cL:OpR X (compareOp .Eq) rEq:=by
 intro pins s σ H x y v u Q I rx ry h;obtain ⟨hs,q⟩:=h;cases x with
 | non =>
  cases rx;cases y with
  | non=>cases ry;exact PySem.EqNone.eq_none_none (bB I q (by simp))
  | bl j=>cases ry;exact PySem.EqNone.eq_none_bool (bB I q (by simp))
  | int j=>obtain ⟨t',rfl⟩:=ry;exact PySem.EqNone.eq_none_int (bB I q (by simp))
  | str j=>obtain ⟨t',rfl⟩:=ry;exact PySem.EqNone.eq_none_str (bB I q (by simp))
  | _=>exact absurd (show false=true from hs) Jd
 | bl i =>
  cases rx;cases y with
  | non=>cases ry;exact PySem.EqNone.eq_bool_none (bB I q (by simp))
  | bl j=>cases ry;exact eq_bool (bB I q BS)
  | str j=>obtain ⟨t',rfl⟩:=ry;exact PySem.EqMixed.eq_bool_str (bB I q (by simp))
  | _=>exact absurd (show false=true from hs) Jd
 | int i =>
  obtain ⟨t,rfl⟩:=rx;cases y with
  | non=>cases ry;exact PySem.EqNone.eq_int_none (bB I q (by simp))
  | int j=>obtain ⟨t',rfl⟩:=ry;exact eq_int (bB I q zV)
  | str j=>obtain ⟨t',rfl⟩:=ry;exact PySem.EqMixed.eq_int_str (bB I q (by simp))
  | _=>exact absurd (show false=true from hs) Jd
 | str i =>
  obtain ⟨t,rfl⟩:=rx;cases y with
  | non=>cases ry;exact PySem.EqNone.eq_str_none (bB I q (by simp))
  | bl j=>cases ry;exact PySem.EqMixed.eq_str_bool (bB I q (by simp))
  | int j=>obtain ⟨t',rfl⟩:=ry;exact PySem.EqMixed.eq_str_int (bB I q (by simp))
  | str j=>obtain ⟨t',rfl⟩:=ry;exact eq_str (bB I q zC)
  | _=>exact absurd (show false=true from hs) Jd
 | byt i =>
  obtain ⟨t,rfl⟩:=rx;cases y with
  | byt j=>obtain ⟨t',rfl⟩:=ry;exact PySem.W.eq_bytes (bB I q zT)
  | _=>exact absurd (show false=true from hs) Jd
 | _=>cases y <;> exact absurd (show false=true from hs) Jd
def eK:OpR X (compareOp .NotEq) rNe:=by
 intro pins s σ H x y v u Q I rx ry h;obtain ⟨hs,q⟩:=h;cases x with
 | non =>
  cases rx;cases y with
  | non=>cases ry;exact PySem.EqNone.ne_none_none (bB I q (by simp))
  | bl j=>cases ry;exact PySem.EqNone.ne_none_bool (bB I q (by simp))
  | int j=>obtain ⟨t',rfl⟩:=ry;exact PySem.EqNone.ne_none_int (bB I q (by simp))
  | str j=>obtain ⟨t',rfl⟩:=ry;exact PySem.EqNone.ne_none_str (bB I q (by simp))
  | _=>exact absurd (show false=true from hs) Jd
 | bl i =>
  cases rx;cases y with
  | non=>cases ry;exact PySem.EqNone.ne_bool_none (bB I q (by simp))
  | bl j=>cases ry;exact ne_bool (bB I q (congrArg not BS))
  | str j=>obtain ⟨t',rfl⟩:=ry;exact PySem.EqMixed.ne_bool_str (bB I q (by simp))
  | _=>exact absurd (show false=true from hs) Jd
 | int i =>
  obtain ⟨t,rfl⟩:=rx;cases y with
  | non=>cases ry;exact PySem.EqNone.ne_int_none (bB I q (by simp))
  | int j=>obtain ⟨t',rfl⟩:=ry;exact ne_int (bB I q (congrArg not zV))
  | str j=>obtain ⟨t',rfl⟩:=ry;exact PySem.EqMixed.ne_int_str (bB I q (by simp))
  | _=>exact absurd (show false=true from hs) Jd
 | str i =>
  obtain ⟨t,rfl⟩:=rx;cases y with
  | non=>cases ry;exact PySem.EqNone.ne_str_none (bB I q (by simp))
  | bl j=>cases ry;exact PySem.EqMixed.ne_str_bool (bB I q (by simp))
  | int j=>obtain ⟨t',rfl⟩:=ry;exact PySem.EqMixed.ne_str_int (bB I q (by simp))
  | str j=>obtain ⟨t',rfl⟩:=ry;exact ne_str (bB I q (congrArg not zC))
  | _=>exact absurd (show false=true from hs) Jd
 | byt i =>
  obtain ⟨t,rfl⟩:=rx;cases y with
  | byt j=>obtain ⟨t',rfl⟩:=ry;exact PySem.W.ne_bytes (bB I q (congrArg not zT))
  | _=>exact absurd (show false=true from hs) Jd
 | _=>cases y <;> exact absurd (show false=true from hs) Jd
def lr:OpR X (compareOp .Lt) (rI0 fun i j=>.bl (decide (i<j))):=As fun _ _ _ _ _ _ _ q=>lt_int q
def HC:OpR X (compareOp .LtE) (rI0 fun i j=>.bl (decide (i<=j))):=As fun _ _ _ _ _ _ _ q=>le_int q
def jO:OpR X (compareOp .Gt) (rI0 fun i j=>.bl (decide (j<i))):=As fun _ _ _ _ _ _ _ q=>gt_int q
def wj:OpR X (compareOp .GtE) (rI0 fun i j=>.bl (decide (j<=i))):=As fun _ _ _ _ _ _ _ q=>ge_int q
def aJ (b:Expr) {op:CmpOp} (h:op≠.In:=by decide) (h2:op≠.NotIn:=by decide):behindInMarks op b=false:=by
 have e1:(op == CmpOp.In)=false:=by cases op <;> first|rfl|exact absurd rfl h
 have e2:(op == CmpOp.NotIn)=false:=by cases op <;> first|rfl|exact absurd rfl h2
 cases b <;> simp [behindInMarks,e1,e2]
def fG {op:CmpOp} {r:R2} (ho:OpR X (compareOp op) r) (ha:PE X a ta) (hb:PE X b tb) (hm:behindInMarks op b=false):PE X (.Compare a [op] [b] pos) (tOp r ta tb):=by
 intro pins s σ H Q I h;exact wpAny_Compare1 (C1 ha hb I h fun v u s2 x y H2 I2 rx ry q=>ho pins s2 σ H2 x y v u Q I2 rx ry q) hm
def Ep (t:TE):TT:=fun σ H Q=>t σ H fun x H'=>∃ k,x=.bl k/\Q k H'
def aD {op:CmpOp} {r:R2} (ho:OpR X (compareOp op) r) (ha:PE X a ta) (hb:PE X b tb) (hm:behindInMarks op b=false):PT X (.Compare a [op] [b] pos) (Ep (tOp r ta tb)):=by
 intro pins s σ H Q I h;refine Nf (thn (ha pins s σ H _ I h) fun v s1 ⟨x,H1,I1,r1,q1⟩=>thn (hb pins s1 σ H1 _ I1 q1) fun u s2 ⟨y,H2,I2,r2,q2⟩ =>
  thn (ho pins s2 σ H2 x y v u _ I2 r1 r2 q2) fun c s3 ⟨z,H3,I3,r3,k,e,q3⟩=>?_) hm
 subst e;cases r3;exact KN ⟨H3,I3,q3⟩
def rY:(Jr:Nat)<2 ^ 63:=by rw [Kc];decide
def vals1 {x:V} {us:List Value} (r:Vals [x] us):∃ u,us=[u]/\RelV x u:=by
 cases r with
 | cons r1 r2=>cases r2;exact ⟨_,rfl,r1⟩
def Cd:de X (.type "int") (fun xs H Q=>(∃ i,xs=[.int i]/\Q (.int i) H)\/∃ k,xs=[.bl k]/\Q (.int (if k then 1 else 0)) H):=by
 intro pins s σ H xs us Q I r h;rcases h with ⟨i,rfl,q⟩|⟨k,rfl,q⟩
 ·obtain ⟨u,rfl,t,rfl⟩:=vals1 r;exact call_int_int ⟨.int i,H,I,⟨_,rfl⟩,q⟩
 ·obtain ⟨u,rfl,r1⟩:=vals1 r;cases r1;exact call_int_bool ⟨.int (if k then 1 else 0),H,I.tok _,⟨_,rfl⟩,q⟩
end
structure qv (h:Heap) (x dx C:Addr) (mA:Str->Option Value):Prop where
 obj:h.get? x=some (KO C dx)
 ns:h.Ns1 dx mA
 ne:dx≠x
def Cc {h:Heap} {dx:Addr} {mA:Str->Option Value} (n:h.Ns1 dx mA):∃ od,h.get? dx=some od/\∀ name,Mq name od=some (mA name):=by
 obtain ⟨o,es,ep,ho,hd,hk,_,hm⟩:=n;refine ⟨o,ho,fun name=>?_⟩;have e:=hm name;unfold nsFind findBy at e;rw [<- Array.find?_toList] at e;unfold Mq;rw [hd];dsimp only
 split
 ·rename_i y q
  rw [q] at e;exact congrArg some e
 ·rename_i q
  rw [q] at e;have a:es.toList.any (·.refKey)=false:=by
   rw [LO];intro y hy;obtain ⟨z,t,hkey⟩:=hk y (Array.mem_toList_iff.mp hy);simp [DictEntry.refKey,hkey]
  have a':¬ es.toList.any (·.refKey)=true:=by rw [a];exact Jd
  rw [if_neg a'];exact congrArg some e
def qv.look {h:Heap} {x dx C:Addr} {mA:Str->Option Value} (I:qv h x dx C mA):∃ od,PySem.W.InstAt h x (KO C dx) C (some od)/\∀ name,Mq name od=some (mA name) :=
 let ⟨od,ho,hl⟩:=Cc I.ns
 ⟨od,⟨I.obj,rfl,rfl,ho⟩,hl⟩
section
variable {prog:Jc} {w:World} {A:JF} {E:Value->IL->Prop} {s:IL} {K:IC} {x dx C f:Addr} {mA:Str->Option Value} {name:Str} {v:Value}
def get_map {expr:Bool} {Q:Value->IL->Prop} (X:K.In s.heap) (I:qv s.heap x dx C mA) (hg:Lv K C name=true) (hh:LP K C=true)
  (ha:J0 K (.ref C) name=some none) (hv:mA name=some v) (hv':PySem.W.handedIn v=true) (h:Q v { s with toks:=s.toks+1 }) :
  wpAny (model prog w) A (getAttr (.ref x) name expr) Q E s:=by
 obtain ⟨od,J,hl⟩:=I.look;exact PySem.W.get_value X J (L6 hg).1 (PySem.W.findObj_own hh ha rfl (by rw [hl,hv])) hv' h
def C5 {pl:Sem Bool} {Q:Value×List Value->IL->Prop} (X:K.In s.heap) (I:qv s.heap x dx C mA) (hg:Lv K C name=true)
  (hf:J0 K (.ref C) name=some (some (.ref f))) (ht:Ml K (.ref f)=true) (hv:mA name=none) (h:Q (.ref f,[.ref x]) s) :
  wpAny (model prog w) A (getMethod (.ref x) name pl) Q E s:=by
 obtain ⟨od,J,hl⟩:=I.look;exact PySem.W.method_fn X J (L6 hg).1 (L6 hg).2 hf (beq_iff_eq.mp ht) (by show (Mq name od).map (·.isSome)=some false;rw [hl,hv];rfl) h
def FI {ns:List Str} {Q:Unit->IL->Prop} (X:K.In s.heap) (I:qv s.heap x dx C mA)
  (hs:J0 K (.ref C) "__setattr__" = some (some (.builtin "object.__setattr__"))) (hp:My K C=true) (ht:Ng K C name=some none) (hh:LP K C=true)
  (hw:N6 mA ns) (hsz:ns.length<=Jr)
  (h:∀ h',qv h' x dx C (fun y=>if y=name then some v else mA y)->Mi dx s.heap h'->Q () { s with heap:=h',toks:=s.toks+2 }) :
  wpAny (model prog w) A (setAttr (.ref x) name v) Q E s:=by
 obtain ⟨od,J,hl⟩:=I.look;refine PySem.W.set_plain X J hs (PySem.W.osa_open (s:={ s with toks:=s.toks+1 }) (r:=none) X J hp ht fun b=>?_);obtain ⟨cd,hc,hd'⟩:=PySem.W.any_some hh;have hx:s.heap.get? x=some ⟨.ref C,some dx,.plain,#[]⟩:=I.obj;refine IS (Ju (IS (IS (wpAny_loadPart hx (IS (PySem.W.Looks.here (s:={ s with toks:=s.toks+1 }) (PySem.W.looks_clsIn X hc) ?_))))));rw [hd'];refine Ju (a:=some dx) (IS (Ju (IS ?_)));refine wpAny_nsSet1 (s:={ s with toks:=s.toks+1 }) I.ns fun h' hn2 hs2=>?_;obtain ⟨oD,esD,epD,hoD,hdD,hcD⟩:=hn2.count (PySem.Within.cons name v hw);refine IS (wpAny_lookBehind hoD (by rw [hdD];exact pastItsLine_dict (JV hcD (by rw [Jp];lia))) ?_)
 exact Ju (h _ ⟨(hs2.2 _ (Lr I.ne)).trans I.obj,hn2,I.ne⟩ hs2)
def Ds {R:NY->IL->Prop} {vs:List Value} {kw:List (Str×Value)} (X:K.In s.heap) (hm:Nh K C=true)
  (hi:J0 K (.ref C) "__init__" = some (some (.ref f))) (hf:PySem.W.typeIn K (.ref f)=some (.type "function"))
  (h:codeAny (model prog w) (A.under (.builtin "type.__call__" ⟨.ref C :: vs,kw⟩)) (.call (.ref f) ⟨.ref (s.heap.objs.size+1) :: vs,kw⟩) (PySem.W.InitBack (s.heap.objs.size+1) R)
   { s with heap:=(s.heap.push Km).push (KO C s.heap.objs.size) }) :
  codeAny (model prog w) A (.call (.ref C) ⟨vs,kw⟩) R s:=by
 obtain ⟨hh,g,d,t,os⟩:=s;exact PySem.W.make_core (PySem.W.makes_of X hm) (PySem.W.looks_findIn X hi) (fun self=>PySem.W.bind_fn X self hf) (.inl rfl) h
end
def cE (f:Str) (v:V):List (Str×V)->List (Str×V)
 | []=>[(f,v)]
 | (g,x) :: r=>if g=f then (g,v) :: r else (g,x) :: cE f v r
def pF (f g:Str) (v:V):∀ fs:List (Str×V),(cE f v fs).lookup g=if g=f then some v else fs.lookup g
 | []=>by
  show LQ g [(f,v)]=_
  by_cases h:g=f
  ·have hb:(g == f)=true:=beq_iff_eq.mpr h;simp only [LQ,hb,if_pos h]
  ·have hb:(g == f)=false:=beq_eq_false_iff_ne.mpr h;simp only [LQ,hb,if_neg h]
 | (k,x) :: r=>by
  have ih:=pF f g v r;rw [show cE f v ((k,x) :: r)=(if k=f then (k,v) :: r else (k,x) :: cE f v r) from rfl]
  by_cases hk:k=f
  ·rw [if_pos hk]
   by_cases h:g=k
   ·have hb:(g == k)=true:=beq_iff_eq.mpr h;simp only [LQ,hb,if_pos (h.trans hk)]
   ·have hb:(g == k)=false:=beq_eq_false_iff_ne.mpr h;simp only [LQ,hb,if_neg (fun e:g=f=>h (e.trans hk.symm))]
  ·rw [if_neg hk]
   by_cases h:g=k
   ·have hb:(g == k)=true:=beq_iff_eq.mpr h;simp only [LQ,hb,if_neg (fun e:g=f=>hk (h.symm.trans e))]
   ·have hb:(g == k)=false:=beq_eq_false_iff_ne.mpr h;simp only [LQ,hb];exact ih
def n0 (f:Str) (v:V):∀ fs:List (Str×V),f∈(cE f v fs).map (·.1)/\∀ g,g∈fs.map (·.1)->g∈(cE f v fs).map (·.1)
 | []=>⟨by simp [cE],fun g h=>by simp at h⟩
 | (k,x) :: r=>by
  obtain ⟨i1,i2⟩:=n0 f v r;rw [show cE f v ((k,x) :: r)=(if k=f then (k,v) :: r else (k,x) :: cE f v r) from rfl]
  by_cases hk:k=f
  ·rw [if_pos hk];subst hk;exact ⟨by simp,fun g h=>by simpa using h⟩
  ·rw [if_neg hk];refine ⟨?_,fun g h=>?_⟩
   ·rw [JL];exact IM _ i1
   ·rw [JL] at h ⊢;rcases JB.mp h with e|e
    ·exact JB.mpr (.inl e)
    ·exact IM _ (i2 g e)
def pO (f:Str) (v:V):∀ fs:List (Str×V),(cE f v fs).length<=fs.length+1
 | []=>by simp [cE]
 | (k,x) :: r=>by
  have ih:=pO f v r;rw [show cE f v ((k,x) :: r)=(if k=f then (k,v) :: r else (k,x) :: cE f v r) from rfl]
  by_cases hk:k=f
  ·rw [if_pos hk,Jp,Jp];lia
  ·rw [if_neg hk,Jp,Jp];lia
def eE.some_of {v:V} {o:Option Value} (r:eE (some v) o):∃ u,o=some u/\RelV v u:=by
 cases o with
 | none=>exact (show False from r).elim
 | some u=>exact ⟨u,rfl,r⟩
def eE.none_of {o:Option Value} (r:eE none o):o=none:=by
 cases o with
 | none=>rfl
 | some u=>exact (show False from r).elim
def Ca {v:V} {u:Value} (r:RelV v u):PySem.W.handedIn u=true:=by
 cases v with
 | non=>cases (show u=Mu from r);rfl
 | bl b=>cases (show u=NB b from r);rfl
 | int i=>obtain ⟨t,e⟩:=(show ∃ t,u=LB i t from r);cases e;rfl
 | str x=>obtain ⟨t,e⟩:=(show ∃ t,u=NV x t from r);cases e;rfl
 | byt b=>obtain ⟨t,e⟩:=(show ∃ t,u=Value.bytes b t from r);cases e;rfl
 | flt b=>obtain ⟨t,e⟩:=(show ∃ t,u=Of b t from r);cases e;rfl
 | ref a=>cases (show u=JC a from r);rfl
 | ty n=>cases (show u=Value.type n from r);rfl
section
variable {P:Jc} {w:World} {H H':Hp} {h h':Heap} {a C dx:Addr} {fs fs':List (Str×V)}
def oW (hok:HOk P w H h) (e:H a=some (.ins C dx fs)):∃ mA,qv h a dx C mA/\(∀ f,eE (fs.lookup f) (mA f))/\N6 mA (fs.map (·.1))/\fs.length<=1000/\H dx=some (.own a):=by
 obtain ⟨d,z,ne,ob,mA,n,r,q⟩:=(show bT P w H h a (.ins C dx fs) from hok a _ e);exact ⟨mA,⟨ob,n,ne⟩,r,q,z,d⟩
end
structure Cls (K:IC) (C:Addr):Prop where
 pg:Lv K C Str.empty=true
 hd:LP K C=true
 po:My K C=true
 sa:J0 K (.ref C) "__setattr__" = some (some (.builtin "object.__setattr__"))
def Cls.get {K:IC} {C:Addr} (c:Cls K C) (f:Str):Lv K C f=true:=c.pg
def a0 (K:IC) (C:Addr) (f:Str):Prop:=J0 K (.ref C) f=some none
def a0.HA {K:IC} {C:Addr} {f:Str} (n:a0 K C f):Ng K C f=some none:=by
 unfold Ng;rw [show J0 K (.ref C) f=some none from n];rfl
structure Meth (K:IC) (C:Addr) (m:Str) (f:Addr):Prop where
 at_:J0 K (.ref C) m=some (some (.ref f))
 fn:Ml K (.ref f)=true
 kp:JM K (.ref f)=true
section
variable {X:Cx} {pins:List (Addr×Obj)} {σ:St} {H:Hp} {s:IL} {a C dx:Addr} {fs:List (Str×V)} {f:Str} {v:V} {A:JF} {E:Value->IL->Prop}
def AV {b:Bool} {Q:Value->IL->Prop} (I:Inv X pins σ H s) (e:H a=some (.ins C dx fs)) (c:Cls X.K C) (n:a0 X.K C f) (l:fs.lookup f=some v)
  (h:∀ u s',Inv X pins σ H s'->RelV v u->Q u s'):wpAny (model X.prog X.w) A (getAttr (.ref a) f b) Q E s:=by
 obtain ⟨mA,O,r,_,_,_⟩:=oW I.hok e;obtain ⟨u,hu,ru⟩:=eE.some_of (v:=v) (o:=mA f) (by rw [<- l];exact r f)
 exact get_map I.kIn O (c.get f) c.hd n hu (Ca ru) (h u _ (I.tok _) ru)
def Ak {m:Str} {g:Addr} {pl:Sem Bool} {Q:Value×List Value->IL->Prop} (I:Inv X pins σ H s) (e:H a=some (.ins C dx fs)) (c:Cls X.K C) (k:Meth X.K C m g) (l:fs.lookup m=none)
  (h:Q (.ref g,[.ref a]) s):wpAny (model X.prog X.w) A (getMethod (.ref a) m pl) Q E s:=by
 obtain ⟨mA,O,r,_,_,_⟩:=oW I.hok e;have hn:mA m=none:=eE.none_of (by rw [<- l];exact r m)
 exact C5 I.kIn O (c.get m) k.at_ k.fn hn h
def Aq {y:V} {u:Value} {Q:Unit->IL->Prop} (I:Inv X pins σ H s) (e:H a=some (.ins C dx fs)) (c:Cls X.K C) (n:a0 X.K C f) (hl:fs.length<1000) (ry:RelV y u)
  (h:∀ s',Inv X pins σ (upd H a (.ins C dx (cE f y fs))) s'->Q () s'):wpAny (model X.prog X.w) A (setAttr (.ref a) f u) Q E s:=by
 obtain ⟨mA,O,r,wi,_,ho⟩:=oW I.hok e;have hz:(fs.map (·.1)).length<=Jr:=by rw [IE,Kc];lia
 refine FI I.kIn O c.sa c.po n.HA c.hd wi hz fun h' O' sb=>h _ ?_;have hd:∃ o,h'.get? dx=some o:=let ⟨o,_,_,e',_⟩:=O'.ns;⟨o,e'⟩;refine I.write (x:=a) (e:=dx) (by rw [e];exact KU) (.inr ho) (fun b q hb z=>(sb.2 b hb).trans z) hd ?_
 refine ⟨by rw [av O.ne];exact ho,?_,O.ne,O'.obj,_,O'.ns,fun g=>?_,fun g hg=>?_⟩
 ·have:=pO f y fs;lia
 ·show eE ((cE f y fs).lookup g) (if g=f then some u else mA g);rw [pF]
  by_cases q:g=f
  ·rw [if_pos q,if_pos q];exact ry
  ·rw [if_neg q,if_neg q];exact r g
 ·by_cases q:g=f
  ·rw [q];exact (n0 f y fs).1
  ·refine (n0 f y fs).2 g (wi g fun z=>hg ?_);show (if g=f then some u else mA g)=none;rw [if_neg q];exact z
def Inv.made (I:Inv X pins σ H s):Inv X pins σ (upd (upd H s.heap.objs.size (.own (s.heap.objs.size+1))) (s.heap.objs.size+1) (.ins C s.heap.objs.size []))
  { s with heap:=(s.heap.push Km).push (KO C s.heap.objs.size) }:=by
 have e1:(s.heap.push Km).get? s.heap.objs.size=some Km:=JJ s.heap rfl;have e2:((s.heap.push Km).push (KO C s.heap.objs.size)).get? (s.heap.objs.size+1)=some (KO C s.heap.objs.size):=by
  have:=JJ (s.heap.push Km) (o:=KO C s.heap.objs.size) rfl
  rwa [Le] at this
 have e3:(s.heap.push Km).Ns s.heap.objs.size (fun _=>none):=⟨Km,#[],_,e1,rfl,(fun e he=>absurd he (by simp)),fun _=>rfl⟩
 have I1:=I.laid (a:=s.heap.objs.size) (o:=.own (s.heap.objs.size+1)) (h':=s.heap.push Km) (t':=s.toks) (fun b u q=>IU _ q) (IV _) ⟨_,e1⟩;refine I1.laid (a:=s.heap.objs.size+1) (o:=.ins C s.heap.objs.size []) (t':=s.toks) (fun b u q=>IU _ q) (Ni (Le _ _)) ?_;have ne:s.heap.objs.size≠s.heap.objs.size+1:=Jm (Lw _);refine ⟨by rw [av ne,ar],J6 _,ne,e2,fun _=>none,(Heap.Ns1.of_empty e3).at fun o q=>IU _ q,fun _=>KU,fun y hy=>absurd rfl hy⟩
def Fg {prog:Jc} {w:World} {env:Env} {e:Expr} {f:Str} {pos:Pos} {s:IL} {Q:Value->IL->Prop} (hb:attributeBase e f env (eval e env)=eval e env)
  (h:wpAny (model prog w) A (eval e env) (fun o s₁=>wpAny (model prog w) A (getAttr o f true) Q E s₁) E s):wpAny (model prog w) A (eval (.Attribute e f pos) env) Q E s :=
 Attribute_any_ h (by rw [arm_eval_Attribute,hb])
end
def DU (K:IC) (ta:TE) (f:Str):TE:=fun σ H Q=>ta σ H fun x H1=>∃ a C dx fs v,x=.ref a/\H1 a=some (.ins C dx fs)/\Cls K C/\a0 K C f/\fs.lookup f=some v/\Q v H1
def D7 (K:IC) (ta tv:TE) (f:Str):TS:=fun D σ H=>tv σ H fun y H1=>ta σ H1 fun x H2=>∃ a C dx fs,x=.ref a/\H2 a=some (.ins C dx fs)/\Cls K C/\a0 K C f/\fs.length<1000 /\
 D.nx σ (upd H2 a (.ins C dx (cE f y fs)))
section
variable {X:Cx} {o e value:Expr} {f:Str} {pos pos' tpos:Pos} {ta tv:TE}
def GP (he:PE X e ta) (hb:attributeBase e f X.env (eval e X.env)=eval e X.env):PE X (.Attribute e f pos) (DU X.K ta f):=by
 intro pins s σ H Q I h;refine Fg hb (thn (he pins s σ H _ I h) fun u s1 ⟨x,H1,I1,rx,a,C,dx,fs,v,ex,ea,c,n,l,q⟩=>?_);subst ex;obtain rfl:u=JC a:=rx;exact AV I1 ea c n l fun u' s2 I2 ru=>⟨v,H1,I2,ru,q⟩
def Gh (ha:PE X o ta) (hv:PE X value tv) (hs:swapsWith value (some (.Attribute o f pos')) pos.line X.env=pure false):PS X (.Assign [.Attribute o f pos'] value pos) (D7 X.K ta tv f):=by
 intro pins s σ H D I h;refine plainObj_wpAny_Assign_Attribute (thn (hv pins s σ H _ I h) fun u s1 ⟨y,H1,I1,ry,q⟩=>thn (ha pins s1 σ H1 _ I1 q) fun ov s2 ⟨x,H2,I2,rx,a,C,dx,fs,ex,ea,c,n,l,q2⟩=>?_) hs;subst ex;obtain rfl:ov=JC a:=rx;exact Aq I2 ea c n l ry fun s3 I3=>⟨σ,_,I3,q2⟩
end
section
variable {X:Cx} {pins:List (Addr×Obj)} {σ:St} {H:Hp} {s:IL} {A:JF} {E:Value->IL->Prop} {Q:Value->IL->Prop} {c:Value} {b:Bool}
inductive gm (K:IC) (H:Hp):V->Value->Prop where
 | non:gm K H .non (.type "NoneType")
 | bl (x:Bool):gm K H (.bl x) (.type "bool")
 | int (i:Int):gm K H (.int i) (.type "int")
 | str (x:Str):gm K H (.str x) (.type "str")
 | flt (x:UInt64):gm K H (.flt x) (.type "float")
 | lst {a:Addr} {xs:List V} (e:H a=some (.lst xs)):gm K H (.ref a) (.type "list")
 | frz {a:Addr} {o:Obj} {xs:List V} (e:H a=some (.frz o (.lst xs))):gm K H (.ref a) (.type "list")
 | tup {a:Addr} {xs:List V} (e:H a=some (.tup xs)):gm K H (.ref a) (.type "tuple")
 | dK {a:Addr} {kvs:List (Key×V)} (e:H a=some (.dK kvs)):gm K H (.ref a) (.type "dict")
 | dT {a:Addr} {kvs:List (List Key×V)} (e:H a=some (.dT kvs)):gm K H (.ref a) (.type "dict")
 | ins {a C dx:Addr} {fs:List (Str×V)} (e:H a=some (.ins C dx fs)) (cl:Cls K C) (ha:J0 K (.ref C) "__class__" = some (some (.builtin "object.__class__")))
   (hn:Mz K (.builtin "object.__class__") "__get__" = some (some (.builtin "getset_descriptor.__get__"))) (htk:PySem.W.takesIn K (.builtin "object.__class__")=some true)
   (hm:PySem.W.mroIn K C (.type "object")=some true):gm K H (.ref a) (.ref C)
def CH {x:V} {u t:Value} (I:Inv X pins σ H s) (rx:RelV x u) (ty:gm X.K H x t) (e:Mr X.K t c=some b) (h:∀ tk,Q (.bool b) { s with toks:=tk }) :
  wpAny (model X.prog X.w) A (call (.builtin "isinstance") [u,c]) Q E s:=by
 cases ty with
 | non=>cases (show u=Mu from rx);exact Kf PySem.W.kitx_none I.kIn KU e (fun z=>nomatch z) h
 | bl y=>cases (show u=NB y from rx);exact Kf PySem.W.kitx_bool I.kIn KU e (fun z=>nomatch z) h
 | int i=>obtain ⟨t,q⟩:=(show ∃ t,u=LB i t from rx);cases q;exact Kf PySem.W.kitx_int I.kIn KU e (fun z=>nomatch z) h
 | str y=>obtain ⟨t,q⟩:=(show ∃ t,u=NV y t from rx);cases q;exact Kf PySem.W.kitx_str I.kIn KU e (fun z=>nomatch z) h
 | flt y=>obtain ⟨t,q⟩:=(show ∃ t,u=Of y t from rx);cases q;exact Kf PySem.W.kitx_float I.kIn KU e (fun z=>nomatch z) h
 | @lst a xs ea =>
  cases (show u=JC a from rx);obtain ⟨_,_,n,_,h1⟩:=(show bT X.prog X.w H s.heap a (.lst xs) from I.hok a _ ea);exact Kf PySem.W.kitx_list I.kIn ⟨_,h1,rfl⟩ e (fun z=>nomatch z) h
 | @frz a ob xs ea =>
  cases (show u=JC a from rx);obtain ⟨_,_,_,n,_,h1⟩:=(show bT X.prog X.w H s.heap a (.frz ob (.lst xs)) from I.hok a _ ea);exact Kf PySem.W.kitx_list I.kIn ⟨_,h1,rfl⟩ e (fun z=>nomatch z) h
 | @tup a xs ea =>
  cases (show u=JC a from rx);obtain ⟨_,_,_,p⟩:=(show bT X.prog X.w H s.heap a (.tup xs) from I.hok a _ ea);obtain ⟨o,h1,h2,_⟩:=p;exact Kf PySem.W.kitx_tuple I.kIn ⟨o,h1,h2⟩ e (fun z=>nomatch z) h
 | @dK a kvs ea =>
  cases (show u=JC a from rx);obtain ⟨_,_,vs,_,p⟩:=(show bT X.prog X.w H s.heap a (.dK kvs) from I.hok a _ ea);obtain ⟨o,es,ep,h1,h2,_⟩:=p;exact Kf PySem.W.kitx_dict I.kIn ⟨o,h1,h2.1⟩ e (fun z=>nomatch z) h
 | @dT a kvs ea =>
  cases (show u=JC a from rx);obtain ⟨_,_,xs,_,o,es,ep,h1,h2,_⟩:=(show bT X.prog X.w H s.heap a (.dT kvs) from I.hok a _ ea);exact Kf PySem.W.kitx_dict I.kIn ⟨o,h1,h2.1⟩ e (fun z=>nomatch z) h
 | @ins a C dx fs ea cl ha hn htk hm =>
  cases (show u=JC a from rx);obtain ⟨mA,O,_⟩:=oW I.hok ea;obtain ⟨od,J,_⟩:=O.look;exact Kf (PySem.W.kitx_own (cl.get _) cl.hd ha hn htk hm) I.kIn J e (fun z=>nomatch z) h
end
structure bY (k:Nat) (A:JF):Prop where
 hd:A.handled=none
 dp:A.depth+3 * k+5<recursionLimit
 un:A.units+16 * k+200<cLine
def bY.mono {j k:Nat} {A:JF} (r:bY k A) (h:j<=k):bY j A:=⟨r.hd,by have:=r.dp;lia,by have:=r.un;lia⟩
def bY.deeper {k:Nat} {A:JF} (r:bY (k+1) A) (env:Env):bY k (A.deeper env) :=
 ⟨r.hd,by have:=r.dp;show A.depth+1+3 * k+5<_;lia,by have:=r.un;show A.units+3+16 * k+200<_;lia⟩
def bY.in1 {k:Nat} {A:JF} (r:bY (k+1) A):bY k A.in1 :=
 ⟨r.hd,by have:=r.dp;show A.depth+3 * k+5<_;lia,by have:=r.un;show A.units+1+16 * k+200<_;lia⟩
def A4 {A:JF} {C:Addr} {us:List Value} {kw:List (Str×Value)}:(A.under (.builtin "type.__call__" ⟨.ref C :: us,kw⟩)).depth=A.depth+1:=by
 first|rfl|simp [N8,Code.weight,Code.isCreation,Code.isGuard,Code.isCaller,Code.frames,N9,guardIds]
def A1 {A:JF} {C:Addr} {us:List Value} {kw:List (Str×Value)}:(A.under (.builtin "type.__call__" ⟨.ref C :: us,kw⟩)).units=A.units+1:=by
 first|rfl|simp [N8,Code.cUnits,Code.frames,N9]
def bY.make {k:Nat} {A:JF} (r:bY (k+1) A) (C:Addr) (us:List Value) (kw:List (Str×Value)):bY k (A.under (.builtin "type.__call__" ⟨.ref C :: us,kw⟩)) :=
 ⟨r.hd,by have:=r.dp;rw [A4];lia,by have:=r.un;rw [A1];lia⟩
def bY.depth {k:Nat} {A:JF} (r:bY k A):A.depth<recursionLimit:=by have:=r.dp;lia
def bY.units {k:Nat} {A:JF} (r:bY k A):A.units+64<cLine:=by have:=r.un;lia
def qr:TA:=fun _ H Q=>Q [] H
def jE (ta:TE) (tr:TA):TA:=fun σ H Q=>ta σ H fun x H1=>tr σ H1 fun xs H2=>Q (x :: xs) H2
section
variable {X:Cx} {e:Expr} {es:List Expr} {te:TE} {t:TA} {pos:Pos}
def aa:PA X [] qr:=fun _ _ _ _ H Q I h=>Calls.spliced_nil ⟨[],H,I,.nil,h⟩
def ue (ha:PE X e te) (hr:PA X es t) (hs:JP (e :: es) X.env=(false,eval e X.env) :: JP es X.env:=by rfl):PA X (e :: es) (jE te t):=by
 intro pos pins s σ H Q I h;rw [hs];show wpAny _ _ (spliced ((false,eval e X.env) :: backTo pos (JP es X.env))) _ _ s;refine Calls.spliced_cons (thn (ha pins s σ H _ I h) fun u s1 ⟨x,H1,I1,r1,q1⟩=>?_);exact thn (hr pos pins s1 σ H1 _ I1 q1) fun us s2 ⟨xs,H2,I2,r2,q2⟩=>⟨x :: xs,H2,I2,.cons r1 r2,q2⟩
def D9 (t:TA):TE:=fun σ H Q=>t σ H fun xs H1=>xs.length<=Jr/\∀ p,H1 p=none->Q (.ref p) (upd H1 p (.tup xs))
def xk (t:TA):TE:=fun σ H Q=>t σ H fun xs H1=>xs.length<=Jr/\∀ p,H1 p=none->Q (.ref p) (upd H1 p (.lst xs))
def kh {x1} (h:PA X es t):PE X (.Tuple es x1 pos) (D9 t):=by
 intro pins s σ H Q I hq;refine wpAny_Tuple_spliced (thn (h pos pins s σ H _ I hq) fun us s1 ⟨xs,H1,I1,r,z,q⟩=>⟨by rw [<- r.length];exact z,?_⟩)
 have hf:H1 s1.heap.objs.size=none:=I1.hok.fresh (IV _);refine ⟨.ref s1.heap.objs.size,upd H1 s1.heap.objs.size (.tup xs),I1.laid (t':=s1.toks) (fun b u e=>IU _ e) (IV _) ?_,rfl,q _ hf⟩;exact ⟨z,us,r,⟨_,JJ _ rfl,rfl,_,rfl⟩⟩
def cq (h:PA X es t):PE X (.List es pos) (xk t):=by
 intro pins s σ H Q I hq;refine wpAny_List_spliced (thn (h pos pins s σ H _ I hq) fun us s1 ⟨xs,H1,I1,r,z,q⟩=>⟨by rw [<- r.length];exact z,?_⟩)
 have hf:H1 s1.heap.objs.size=none:=I1.hok.fresh (IV _);refine ⟨.ref s1.heap.objs.size,upd H1 s1.heap.objs.size (.lst xs),I1.laid (t':=s1.toks) (fun b u e=>IU _ e) (IV _) ?_,rfl,q _ hf⟩;exact ⟨z,us,0,r,JJ _ rfl⟩
end
abbrev Sp:=List V->Hp->VK->XK->Prop
abbrev CXT:=List Env->Hp->IL->XK->Value->IL->Prop
structure lG (P:Jc) (w:World) (K:IC) (mg:Str->Option Value) (base:Heap) (A:JF) (outer:List Env) (s:IL) (H:Hp):Prop where
 frames:A.frames=some outer
 mod:Mod K mg base
 bs:∀ b o,base.get? b=some o->s.heap.get? b=some o/\H b=none
 bsz:base.objs.size<=s.heap.objs.size
 gQ:s.heap.FunFrames base outer
 frf:∀ b∈frs outer,H b=none
 hok:HOk P w H s.heap
 bare:Nd s.gens
def CE (outer:List Env) (P:Jc) (w:World) (H:Hp) (s:IL) (Q:VK) (u:Value) (s':IL):Prop :=
 ∃ v H',s'.os=s.os/\Nd s'.gens/\Un (frs outer) [] H H' s.heap s'.heap/\HOk P w H' s'.heap/\RelV v u/\Q v H'
def CR (CX:CXT) (outer:List Env) (P:Jc) (w:World) (H:Hp) (s:IL) (Q:VK) (E:XK) (r:NY) (s':IL):Prop :=
 match r with
 | .ok (.ret u)=>CE outer P w H s Q u s'
 | .ok _=>False
 | .error e=>CX outer H s E e s'
structure aN (P:Jc) (w:World) (K:IC) (mg:Str->Option Value) (base:Heap) (CX:CXT) (k:Nat) (f:Addr) (fd:JR) (ps:List Str) (sp:Sp):Prop where
 len:∀ vs H Q E,sp vs H Q E->vs.length=ps.length
 run:∀ (A:JF) (outer:List Env) (s:IL) (H:Hp) (args:Args) (us:List Value) (vs:List V) (Q:VK) (E:XK),bY k A->lG P w K mg base A outer s H->Ms s fd args (ps.zip us)->Vals vs us->sp vs H Q E ->
  codeAny (model P w) A (.call (.ref f) args) (CR CX outer P w H s Q E) s
def aN.mono {P:Jc} {w:World} {K:IC} {mg:Str->Option Value} {base:Heap} {CX:CXT} {j k:Nat} {f:Addr} {fd:JR} {ps:List Str} {sp:Sp} (F:aN P w K mg base CX j f fd ps sp) (h:j<=k) :
  aN P w K mg base CX k f fd ps sp:=⟨F.len,fun A outer s H args us vs Q E hr=>F.run A outer s H args us vs Q E (hr.mono h)⟩
def lG.make {P:Jc} {w:World} {K:IC} {mg:Str->Option Value} {base:Heap} {A:JF} {outer:List Env} {s:IL} {H:Hp} (e:lG P w K mg base A outer s H) (C:Addr) (us:List Value) (kw:List (Str×Value)) :
  lG P w K mg base (A.under (.builtin "type.__call__" ⟨.ref C :: us,kw⟩)) outer s H:=⟨by first|exact e.frames|(simpa [N8,Code.envs,N9,pushEnvs] using e.frames),e.mod,e.bs,e.bsz,e.gQ,e.frf,e.hok,e.bare⟩
def lG.in1 {P:Jc} {w:World} {K:IC} {mg:Str->Option Value} {base:Heap} {A:JF} {outer:List Env} {s:IL} {H:Hp} (e:lG P w K mg base A outer s H) :
  lG P w K mg base A.in1 outer s H:=⟨e.frames,e.mod,e.bs,e.bsz,e.gQ,e.frf,e.hok,e.bare⟩
section
variable {X:Cx} {pins:List (Addr×Obj)} {σ:St} {H:Hp} {s s':IL}
def Inv.GZ (I:Inv X pins σ H s):lG X.prog X.w X.K X.mg X.base X.A X.stack s H :=
 ⟨I.ok.frames,I.ok.mod,I.bs,JV I.ok.bsz I.sz,I.stack,I.uL,I.hok,I.bare⟩
def Inv.after {Q:VK} {u:Value} (I:Inv X pins σ H s) (h:CE X.stack X.prog X.w H s Q u s'):EP X pins σ Q u s':=by
 obtain ⟨v,H',os,bare,un,hok,r,q⟩:=h;obtain ⟨hh,g,d,t,os'⟩:=s';obtain rfl:os'=s.os:=os;exact ⟨v,H',I.call (h':=hh) (g':=g) (d':=d) (t':=t) (ch:=[]) un hok bare (fun b z=>absurd z (by simp)),r,q⟩
end
def oS (sp:Sp) (dvs:List V) (E:XK) (t:TA):TE:=fun σ H Q=>t σ H fun vs H1=>sp (vs++dvs) H1 Q E
def Bb (C:Addr) (sp:Sp) (dvs:List V) (E:XK) (t:TA):TE:=fun σ H Q=>t σ H fun vs H1=>∀ x dx,H1 x=none->H1 dx=none->dx≠x ->
 sp (.ref x :: (vs++dvs)) (upd (upd H1 dx (.own x)) x (.ins C dx [])) (fun v H2=>v=.non/\Q (.ref x) H2) E
def Binds (K:IC) (fd:JR) (ps:List Str) (ds:List Value):Prop :=
 ∀ (s:IL) (us:List Value),K.In s.heap->(us++ds).length=ps.length->Ms s fd ⟨us,[]⟩ (ps.zip (us++ds))
def Binds.all {K:IC} {fd:JR} {ps:List Str} (h:∀ us:List Value,us.length=ps.length->bindArgs fd ⟨us,[]⟩=pure (ps.zip us)):Binds K fd ps []:=fun s us _ hl=>by
 rw [LD] at hl ⊢;exact .of_eq (h us hl)
def Passes (CX:CXT) (X:Cx) (E:XK):Prop:=∀ (pins:List (Addr×Obj)) (σ:St) (H:Hp) (s:IL) (e:Value) (s':IL),Inv X pins σ H s->CX X.stack H s E e s'->X.xe e s'
section
variable {X:Cx} {CX:CXT} {k:Nat} {f C:Addr} {fd:JR} {ps:List Str} {sp:Sp} {dvs:List V} {ds:List Value} {E:XK} {x m:Str} {p pos apos:Pos} {e o:Expr} {es:List Expr} {ta:TE} {t:TA}
def xO {pins:List (Addr×Obj)} {σ:St} {H:Hp} {s:IL} {Q:VK} {us:List Value} {vs:List V} (F:aN X.prog X.w X.K X.mg X.base CX k f fd ps sp) (hr:bY k X.A) (hb:Binds X.K fd ps ds) (hd:Vals dvs ds) (hx:Passes CX X E)
  (I:Inv X pins σ H s) (r:Vals vs us) (h:sp (vs++dvs) H Q E):wpAny (model X.prog X.w) X.A (call (.ref f) us) (EP X pins σ Q) X.xe s:=by
 have r2:Vals (vs++dvs) (us++ds):=r.append hd;have hl:(us++ds).length=ps.length:=by rw [<- r2.length];exact F.len _ _ _ _ h
 refine wpAny_call (Nj (F.run X.A X.stack s H ⟨us,[]⟩ (us++ds) (vs++dvs) Q E hr I.GZ (hb s us I.kIn hl) r2 h) fun r s' hq=>?_);cases r with
 | error e=>exact hx pins σ H s e s' I hq
 | ok fl =>
  cases fl with
  | ret u=>exact I.after hq
  | next=>exact KS hq
  | brk=>exact KS hq
  | cont=>exact KS hq
def zW (F:aN X.prog X.w X.K X.mg X.base CX k f fd ps sp) (hr:bY k X.A) (hg:Gl X x) (hm:X.mg x=some (.ref f)) (hk:JM X.K (.ref f)=true) (hb:Binds X.K fd ps ds) (hd:Vals dvs ds) (hx:Passes CX X E)
  (ha:PA X (e :: es) t) (hdb:(x == ("__debug__" : Str))=false:=by decide) (he:JP (e :: es) X.env=(false,eval e X.env) :: JP es X.env:=by rfl) (hpl:(backTo pos (JP es X.env)).any (·.1)=false:=by rfl) :
  PE X (.Call (.Name x p) (e :: es) [] pos) (oS sp dvs E t):=by
 intro pins s σ H Q I h;refine LF (o6 I hg hm ?_ hdb);refine LG (h₀:=X.base) I.ok.mod.kin hk (thn (ha pos pins s σ H _ I h) fun us s1 ⟨vs,H1,I1,r,q⟩=>⟨I1.kIn,?_⟩) he hpl;exact xO F hr hb hd hx I1 r q
structure Mk (K:IC) (C f:Addr):Prop where
 makes:Nh K C=true
 init:J0 K (.ref C) "__init__" = some (some (.ref f))
 fn:Ml K (.ref f)=true
 kp:JM K (.ref C)=true
def C8 {pins:List (Addr×Obj)} {σ:St} {H:Hp} {s:IL} {Q:VK} {us:List Value} {vs:List V} (M:Mk X.K C f) (F:aN X.prog X.w X.K X.mg X.base CX k f fd ps sp) (hr:bY (k+1) X.A) (hb:Binds X.K fd ps ds) (hd:Vals dvs ds)
  (hx:Passes CX X E) (I:Inv X pins σ H s) (r:Vals vs us)
  (h:∀ x dx,H x=none->H dx=none->dx≠x->sp (.ref x :: (vs++dvs)) (upd (upd H dx (.own x)) x (.ins C dx [])) (fun v H2=>v=.non/\Q (.ref x) H2) E) :
  wpAny (model X.prog X.w) X.A (call (.ref C) us) (EP X pins σ Q) X.xe s:=by
 have hq:=h (s.heap.objs.size+1) s.heap.objs.size (I.hok.fresh (LR _)) (I.hok.fresh (IV _)) (Jm (Lw _));have I2:=Inv.made (C:=C) I;have r2:Vals (V.ref (s.heap.objs.size+1) :: (vs++dvs)) (JC (s.heap.objs.size+1) :: (us++ds)):=.cons rfl (r.append hd);have hl:(JC (s.heap.objs.size+1) :: us++ds).length=ps.length:=by
  have e:=r2.length;rw [F.len _ _ _ _ hq] at e;exact e.symm
 refine wpAny_call (Ds (f:=f) I.kIn M.makes M.init (beq_iff_eq.mp M.fn) (Nj (F.run _ X.stack _ _ ⟨JC (s.heap.objs.size+1) :: us,[]⟩ (JC (s.heap.objs.size+1) :: (us++ds)) _ _ E (hr.make C us [])
  (I2.GZ.make C us []) (hb _ (JC (s.heap.objs.size+1) :: us) I2.kIn hl) r2 hq) fun r s' hq'=>?_))
 cases r with
 | error e=>exact hx pins σ _ _ e s' I2 hq'
 | ok fl =>
  cases fl with
  | ret u =>
   obtain ⟨v,H',I3,rv,ev,q3⟩:=I2.after hq';subst ev;exact ⟨rv,⟨V.ref (s.heap.objs.size+1),H',I3,rfl,q3⟩⟩
  | next=>exact KS hq'
  | brk=>exact KS hq'
  | cont=>exact KS hq'
def F6 (M:Mk X.K C f) (F:aN X.prog X.w X.K X.mg X.base CX k f fd ps sp) (hr:bY (k+1) X.A) (hg:Gl X x) (hm:X.mg x=some (.ref C)) (hb:Binds X.K fd ps ds) (hd:Vals dvs ds) (hx:Passes CX X E)
  (ha:PA X (e :: es) t) (hdb:(x == ("__debug__" : Str))=false:=by decide) (he:JP (e :: es) X.env=(false,eval e X.env) :: JP es X.env:=by rfl) (hpl:(backTo pos (JP es X.env)).any (·.1)=false:=by rfl) :
  PE X (.Call (.Name x p) (e :: es) [] pos) (Bb C sp dvs E t):=by
 intro pins s σ H Q I h;refine LF (o6 I hg hm ?_ hdb);refine LG (h₀:=X.base) I.ok.mod.kin M.kp (thn (ha pos pins s σ H _ I h) fun us s1 ⟨vs,H1,I1,r,q⟩=>⟨I1.kIn,?_⟩) he hpl;exact C8 M F hr hb hd hx I1 r q
end
section
variable {X:Cx} {CX:CXT} {k:Nat} {f C:Addr} {fd:JR} {ps ks:List Str} {sp:Sp} {E:XK} {x m:Str} {p pos apos kpos:Pos} {e o:Expr} {es:List Expr} {kws:List Nk} {te ta:TE} {t tk:TA} {nm:Option Str}
structure yj (K:IC) (fd:JR) (ps ks:List Str) (g:List Value->List Value->List Value) (gV:List V->List V->List V):Prop where
 to:∀ (s:IL) (us ws:List Value),K.In s.heap->(g us ws).length=ps.length->Ms s fd ⟨us,ks.zip ws⟩ (ps.zip (g us ws))
 rel:∀ {vs:List V} {us:List Value} {zs:List V} {ws:List Value},Vals vs us->Vals zs ws->Vals (gV vs zs) (g us ws)
variable {g:List Value->List Value->List Value} {gV:List V->List V->List V}
end
structure aw (N P:List Str) (sc:Scope):Prop where
 kind:sc.kind=.function
 co:sc.isCoroutine=false
 gen:sc.isGenerator=false
 nd:N.Nodup
 pre:N.take P.length=P
 par:∀ x∈P,sc.names.lookup x=some .local\/sc.names.lookup x=some .cell
 Gw:∀ y∈sc.names,y.2≠.free
def uS {kindOf:Str->Option Ln} {x:Str}:∀ {binds:List (Str×Value)} {m:Str->Option Value},(∀ v,(x,v)∉binds)->bindL kindOf binds m x=m x
 | [],_,_=>rfl
 | (n,v) :: r,m,h=>by
  unfold bindL;rw [uS fun w hw=>h w (IM _ hw)]
  split
  ·have:x≠n:=by rintro rfl;exact h v IT
   simp [this]
  ·rfl
def uY {kindOf:Str->Option Ln} {x:Str}:∀ {binds:List (Str×Value)} {m:Str->Option Value},(∀ v,(x,v)∉binds)->bindC kindOf binds m x=m x
 | [],_,_=>rfl
 | (n,v) :: r,m,h=>by
  unfold bindC;rw [uY fun w hw=>h w (IM _ hw)]
  split
  ·rfl
  ·have:x≠n:=by rintro rfl;exact h v IT
   simp [this]
def u7 {kindOf:Str->Option Ln} {x:Str} {v:Value}:∀ {P:List Str} {vs:List Value} {i:Nat} {m:Str->Option Value},P.Nodup->P[i]?=some x->vs[i]?=some v->kindOf x=some .local ->
  bindL kindOf (P.zip vs) m x=some v
 | [],_,_,_,_,h,_,_=>by simp at h
 | _ :: _,[],_,_,_,_,h,_=>by simp at h
 | p :: P,w :: vs,0,m,nd,h1,h2,hk=>by
  simp at h1 h2;subst h1;subst h2;show bindL kindOf ((p,w) :: P.zip vs) m p=_;unfold bindL;rw [uS fun v hv=>(JS.mp nd).1 (Nl hv).1,if_pos hk];simp
 | p :: P,w :: vs,i+1,m,nd,h1,h2,hk=>by
  show bindL kindOf ((p,w) :: P.zip vs) m x=_;unfold bindL;exact u7 (i:=i) (JS.mp nd).2 (by simpa using h1) (by simpa using h2) hk
def uW {kindOf:Str->Option Ln} {x:Str} {v:Value}:∀ {P:List Str} {vs:List Value} {i:Nat} {m:Str->Option Value},P.Nodup->P[i]?=some x->vs[i]?=some v->kindOf x≠some .local ->
  bindC kindOf (P.zip vs) m x=some v
 | [],_,_,_,_,h,_,_=>by simp at h
 | _ :: _,[],_,_,_,_,h,_=>by simp at h
 | p :: P,w :: vs,0,m,nd,h1,h2,hk=>by
  simp at h1 h2;subst h1;subst h2;show bindC kindOf ((p,w) :: P.zip vs) m p=_;unfold bindC;rw [uY fun v hv=>(JS.mp nd).1 (Nl hv).1,if_neg hk];simp
 | p :: P,w :: vs,i+1,m,nd,h1,h2,hk=>by
  show bindC kindOf ((p,w) :: P.zip vs) m x=_;unfold bindC;exact uW (i:=i) (JS.mp nd).2 (by simpa using h1) (by simpa using h2) hk
def start (N:List Str) (vs:List V):St:=vs.map some++Jg (N.length - vs.length) none
def mz (CX:CXT) (P:Jc) (w:World) (K:IC) (mg:Str->Option Value) (base:Heap) (N:List Str) (qual:Str) (scope:Scope) (f:Addr) (cd:Value) (A:JF) (outer:List Env) (s:IL) (H:Hp) (E:XK):Cx where
 prog:=P
 w:=w
 K:=K
 mg:=mg
 base:=base
 A:=A.deeper (envOfC qual scope s.heap.objs.size f cd)
 N:=N
 s₀:=s
 H₀:=H
 env:=envOfC qual scope s.heap.objs.size f cd
 outer:=outer
 stack:=envOfC qual scope s.heap.objs.size f cd :: outer
 ex:=[]
 calm:=true
 fn:=fun _=>true
 pn:=[]
 xe:=fun e s'=>wpAny (model P w) (A.deeper (envOfC qual scope s.heap.objs.size f cd)) (leaving (envOfC qual scope s.heap.objs.size f cd) e) (fun _ s''=>CX outer H s E e s'') (fun e' s''=>CX outer H s E e' s'') s'
def yt {sc:Scope} {n:Nat} {x:Str} (h:sc.names.lookup x=some .cell):∃ c,(cellsFrom n sc.names []).lookup x=some c:=by
 have q:=M4 sc.names n [] (.inl h);exact MA.mp q
def BP {CX:CXT} {P:Jc} {w:World} {K:IC} {mg:Str->Option Value} {base:Heap} {N ps:List Str} {qual:Str} {scope:Scope} {f:Addr} {cd:Value} {A:JF} {outer:List Env} {s s1:IL} {H:Hp} {E:XK} {us:List Value} {vs:List V}
  (S:aw N ps scope) (hd:A.handled=none) (e0:lG P w K mg base A outer s H) (hl:vs.length=ps.length) (r:Vals vs us)
  (x:InCallC s s.heap.objs.size (bindL (envOfC qual scope s.heap.objs.size f cd).kindOf (ps.zip us) fun _=>none) (cellsFrom (s.heap.objs.size+1) scope.names []) (bindC (envOfC qual scope s.heap.objs.size f cd).kindOf (ps.zip us) fun _=>none) s1) :
  Inv (mz CX P w K mg base N qual scope f cd A outer s H E) [] (start N vs) H s1:=by
 have hpl:ps.length<=N.length:=by have:=congrArg Oh S.pre;rw [Je] at this;lia
 obtain ⟨h1,tk,rfl,hk⟩:=x.done;have noA:∀ b:Addr,b∉(mz CX P w K mg base N qual scope f cd A outer s H E).ex:=fun b z=>absurd (show b∈([]:List Addr) from z) (by simp)
 refine ⟨⟨e0.mod,S.kind,rfl,rfl,IV _,fun y z c h1 h2=>?_,fun y hy=>?_,fun y c _ h=>?_,fun _=>hd,Around.frames_deeper e0.frames,.inr ⟨rfl,rfl⟩,fun b z=>absurd z (noA b),e0.bs,e0.bsz,fun b _ _=>noA b,fun b z=>absurd z (noA b),e0.gQ,e0.frf⟩,
  rfl,e0.bare,Un.kept hk,⟨_,x.toInCall.ns,fun i y v h1 h2 h3=>?_⟩,fun y c h=>⟨_,x.cell y c h⟩,e0.hok.fresh (IV _),fun y c h=>?_,fun p hp=>absurd (show p∈([]:List (Addr×Obj)) from hp) (by simp),e0.hok.kept hk,?_⟩
 ·exact name_of_addr x.apart (JK h1) (JK h2)
 ·have hy:scope.names.lookup y=some .cell\/scope.names.lookup y=some .free:=hy;rcases hy with hy|hy
  ·exact yt hy
  ·exact absurd rfl (S.Gw _ (JK hy))
 ·exact K6 (x.above y c (JK h))
 ·have hi:i<vs.length:=by
   unfold start at h2
   by_cases hi:i<vs.length
   ·exact hi
   ·rw [Jl (by simpa using hi)] at h2
    rw [MQ] at h2
    split at h2 <;> cases h2
  have ha:vs[i]?=some v:=by
   unfold start at h2;rw [Jk (by simpa using hi),IJ] at h2
   cases e:vs[i]? with
   | none=>rw [e] at h2;cases h2
   | some a=>rw [e] at h2;cases h2;rfl
  obtain ⟨u,hu,rv⟩:=r.get ha;have hp:ps[i]?=some y:=by
   rw [<- S.pre,KC (by lia)];exact h1
  have ndP:ps.Nodup:=by rw [<- S.pre];exact S.nd.sublist (List.take_sublist _ _)
  refine ⟨u,rv,?_⟩;rcases S.par y (IH hp) with k|k
  ·exact .inl ⟨k,u7 ndP hp hu k⟩
  ·obtain ⟨c,e⟩:=yt (n:=s.heap.objs.size+1) k;refine .inr ⟨.inl k,c,e,?_⟩;have q:=x.cell y c e;rw [uW ndP hp hu (by show scope.names.lookup y≠_;rw [k];decide)] at q
   exact q
 ·exact e0.hok.fresh (K6 (x.above y c (JK h)))
 ·unfold start;show _=N.length;rw [IZ,IE,KY];lia
def EO {CX:CXT} {P:Jc} {w:World} {K:IC} {mg:Str->Option Value} {base:Heap} {k:Nat} {f:Addr} {name qual:Str} {params:Arguments} {body:List Stmt} {scope:Scope} {dV kV doc pm cdv ct oc:Value} {an od:Option Addr}
  {osl:Array (Option Value)} {N ps:List Str} {sp:Sp} (lk:K.lookup f=some ⟨oc,od,.func (JD name qual params body scope dV kV doc pm an cdv ct),osl⟩) (hcd:J9 K cdv qual=true) (S:aw N ps scope)
  (len:∀ vs H Q E,sp vs H Q E->vs.length=ps.length)
  (hbody:∀ (A:JF) (outer:List Env) (s:IL) (H:Hp) (vs:List V) (Q:VK) (E:XK),bY k (A.deeper (envOfC qual scope s.heap.objs.size f cdv))->sp vs H Q E ->
   ∃ t,PSs (mz CX P w K mg base N qual scope f cdv A outer s H E) body t/\t { nx:=fun _ H'=>Q .non H',rt:=Q } (start N vs) H) :
  aN P w K mg base CX (k+1) f (JD name qual params body scope dV kV doc pm an cdv ct) ps sp:=by
 refine ⟨len,fun A outer s H args us vs Q E hr e0 hb r hsp=>?_⟩;have hl:=len _ _ _ _ hsp;have KX:K.In s.heap:=e0.mod.kin.keeps fun b o e=>(e0.bs b o e).1;have lim:s.heap.NoLimit:=e0.mod.nolimit.keeps fun b o e=>(e0.bs b o e).1;have hkind:∀ y∈ps.zip us,scope.names.lookup y.1=some .local\/(scope.names.lookup y.1=some .cell/\((cellsFrom (s.heap.objs.size+1) scope.names []).lookup y.1).isSome=true):=fun ⟨n,v⟩ hy=>by
  rcases S.par n (Nl hy).1 with q|q
  ·exact .inl q
  ·exact .inr ⟨q,M4 _ _ _ (.inl q)⟩
 refine codeAny_call_function hr.depth (KX _ _ lk) rfl S.co S.gen rfl (PySem.W.codeRec_of KX hcd) (hb _ _ _ _ ?_);refine wpAny_newFunctionEnv_cells S.kind hkind fun env he s1 x=>?_;subst he;refine ⟨lim.keeps x.toInCall.keep,codeAny_func ?_⟩;obtain ⟨t,ht,hq⟩:=hbody A outer s H vs Q E (hr.deeper _) hsp;have I:Inv (mz CX P w K mg base N qual scope f cdv A outer s H E) [] (start N vs) H s1:=BP S hr.hd e0 hl r x;refine KR (ht [] s1 (start N vs) H _ I hq) (fun fl s' hs=>?_) fun e s' hs=>hs;have fin:∀ {σ':St} {H':Hp} {v:V} {u:Value},Inv (mz CX P w K mg base N qual scope f cdv A outer s H E) [] σ' H' s'->RelV v u->Q v H'->CE outer P w H s Q u s' :=
  fun {σ' H' v u} J rv q=>⟨v,H',J.os,J.bare,J.base,J.hok,rv,q⟩
 cases fl with
 | ret u =>
  obtain ⟨v,σ',H',J,rv,q⟩:=hs;exact fin J rv q
 | next =>
  obtain ⟨σ',H',J,q⟩:=hs;exact fin (v:=V.non) (u:=Mu) J rfl q
 | brk =>
  obtain ⟨_,_,_,q⟩:=hs;exact KS q
 | cont =>
  obtain ⟨_,_,_,q⟩:=hs;exact KS q
section
variable {X:Cx} {x:Str} {p pos:Pos} {e:Expr} {es:List Expr} {t:TA} {id T:String} {r:List V->Hp->VK->Prop}
def tCB (r:List V->Hp->VK->Prop) (t:TA):TE:=fun σ H Q=>t σ H fun vs H1=>r vs H1 Q
def D0 (hc:de X (.builtin id) r) (hg:Gl X x) (hm:X.mg x=none) (hv:bootBuiltins x=some (.builtin id)) (ha:PA X (e :: es) t) (hn:x ≠ "__name__":=by decide) (hdb:(x == ("__debug__" : Str))=false:=by decide)
  (he:JP (e :: es) X.env=(false,eval e X.env) :: JP es X.env:=by rfl) (hpl:(backTo pos (JP es X.env)).any (·.1)=false:=by rfl):PE X (.Call (.Name x p) (e :: es) [] pos) (tCB r t):=by
 intro pins s σ H Q I h;refine LF (ja I hg hm hv ?_ hn hdb);exact PyProof.Rows.callWith_builtin1 (thn (ha pos pins s σ H _ I h) fun us s1 ⟨vs,H1,I1,r1,q1⟩=>hc pins s1 σ H1 vs us Q I1 r1 q1) he hpl
def Ct (hc:de X (.type T) r) (hg:Gl X x) (hm:X.mg x=none) (hv:bootBuiltins x=some (.type T)) (ha:PA X (e :: es) t) (hn:x ≠ "__name__":=by decide) (hdb:(x == ("__debug__" : Str))=false:=by decide)
  (he:JP (e :: es) X.env=(false,eval e X.env) :: JP es X.env:=by rfl) (hpl:(backTo pos (JP es X.env)).any (·.1)=false:=by rfl):PE X (.Call (.Name x p) (e :: es) [] pos) (tCB r t):=by
 intro pins s σ H Q I h;refine LF (ja I hg hm hv ?_ hn hdb);exact J7 (thn (ha pos pins s σ H _ I h) fun us s1 ⟨vs,H1,I1,r1,q1⟩=>hc pins s1 σ H1 vs us Q I1 r1 q1) he hpl
end
end L2
namespace HT
open PySem PyProof.Rows
section
open PySem.SeqAt
open PySem.AutoSeq1 (wpAny_loadPart')
open PySem.MeetsSeq PySem.MeetsSeq2 PySem.MeetsSeq3
end
section
variable {prog:Jc} {w:World} {A:JF} {E:Value->IL->Prop} {s:IL}
def sIx (n d:Nat):Option Int->Nat
 | none=>d
 | some v=>if v<0 then (v+(n:Int)).toNat else min v.toNat n
def DA (n d:Nat):sIx n d none=d:=rfl
def FP (n d k:Nat):sIx n d (some (k:Int))=min k n:=by
 show (if (k:Int)<0 then ((k:Int)+(n:Int)).toNat else min (k:Int).toNat n)=min k n;rw [if_neg (by lia),MB]
end
end HT
namespace L2
open PySem PySem.Spec PyProof.Rows
abbrev TO:=St->Hp->(Option Int->Hp->Prop)->Prop
def PO (X:Cx) (e:Option Expr) (t:TO):Prop :=
 ∀ (pins:List (Addr×Obj)) (s:IL) (σ:St) (H:Hp) (Q:Option Int->Hp->Prop),Inv X pins σ H s->t σ H Q ->
  wpAny (model X.prog X.w) X.A (evalPart e X.env) (fun u s'=>∃ o H',Inv X pins σ H' s'/\IsPart u o/\Q o H') X.xe s
def zP:TO:=fun _ H Q=>Q none H
def E4 (t:TE):TO:=fun σ H Q=>t σ H fun x H1=>∃ i,x=.int i/\Q (some i) H1
section
variable {X:Cx} {e:Expr} {te:TE} {lo hi:Option Expr} {tl th:TO} {pos p2:Pos}
def Fc:PO X none zP:=by
 intro pins s σ H Q I h;rw [evalPart_none];exact Ju ⟨none,H,I,.none,h⟩
def tp (h:PE X e te):PO X (some e) (E4 te):=by
 intro pins s σ H Q I hw;rw [evalPart_some];refine thn (h pins s σ H _ I hw) fun u s1 ⟨x,H1,I1,r1,q1⟩=>?_;obtain ⟨i,rfl,q⟩:=q1;obtain ⟨t,rfl⟩:=r1;exact ⟨some i,H1,I1,.int i t,q⟩
def SlR (X:Cx) (r:V->Option Int->Option Int->Hp->VK->Prop):Prop :=
 ∀ (pins:List (Addr×Obj)) (s:IL) (σ:St) (H:Hp) (x:V) (v vl vu:Value) (lo hi:Option Int) (sl:Addr) (Q:VK),Inv X pins σ H s->RelV x v->s.heap.IsSliceOf sl vl vu .none->IsPart vl lo->IsPart vu hi->r x lo hi H Q ->
  ∃ T id,typeLookup (.type T) "__getitem__" = pure (some (.builtin id))/\s.TypeIs v T/\wpAny (model X.prog X.w) X.A (getItem v (.ref sl)) (EP X pins σ Q) X.xe s
def tSl (r:V->Option Int->Option Int->Hp->VK->Prop) (te:TE) (tl th:TO):TE:=fun σ H Q=>te σ H fun x H1=>tl σ H1 fun l H2=>th σ H2 fun u H3=>r x l u H3 Q
def xx {r:V->Option Int->Option Int->Hp->VK->Prop} (hr:SlR X r) (he:PE X e te) (hl:PO X lo tl) (hu:PO X hi th):PE X (.Subscript e (.Slice lo hi none p2) pos) (tSl r te tl th):=by
 intro pins s σ H Q I h;refine Subscript_ (thn (he pins s σ H _ I h) fun v s1 ⟨x,H1,I1,r1,q1⟩=>?_);refine wpAny_Slice (thn (hl pins s1 σ H1 _ I1 q1) fun vl s2 ⟨l,H2,I2,pl,q2⟩=>thn (hu pins s2 σ H2 _ I2 q2) fun vu s3 ⟨u,H3,I3,pu,q3⟩=>?_);rw [evalPart_none];refine Ju ?_;have I4:Inv X pins σ H3 { s3 with heap:=s3.heap.push { cls:=.type "slice",data:=.fields #[vl,vu,.none] } }:=I3.kept (t':=s3.toks) fun b ob q=>IU _ q;obtain ⟨T,id,hT,ht,hg⟩:=hr pins { s3 with heap:=s3.heap.push { cls:=.type "slice",data:=.fields #[vl,vu,.none] } } σ H3 x v vl vu l u s3.heap.objs.size Q I4 r1 (Heap.IsSliceOf.new ..) pl pu q3;show wpAny (model X.prog X.w) X.A (subscriptTail e (.Slice lo hi none p2) v (.ref s3.heap.objs.size)) (EP X pins σ Q) X.xe { s3 with heap:=s3.heap.push { cls:=.type "slice",data:=.fields #[vl,vu,.none] } };exact tail_any (ops:=[.ref s3.heap.objs.size,v]) ht hT hg (by with_unfolding_all rfl)
def qF (xs:List V) (lo hi:Option Int):List V:=(xs.drop (HT.sIx xs.length 0 lo)).take (HT.sIx xs.length xs.length hi - HT.sIx xs.length 0 lo)
def y7 (xs:List V) (lo hi:Option Int):(qF xs lo hi).length<=xs.length:=by
 unfold qF;rw [Je,LX];lia
end
def ixN (n:Nat) (i:Int):Option Nat:=if 0<=i then (if i<n then some i.toNat else none) else if -(n:Int)<=i then some (i+n).toNat else none
def atI {α:Type} (xs:List α) (i:Int):Option α:=(ixN xs.length i).bind fun j=>xs[j]?
def zH {n:Nat} {i:Int} {j:Nat} (h:ixN n i=some j):seqIndex? i n=some j/\j<n/\-(n:Int)<=i/\i<n:=by
 unfold ixN at h
 by_cases h0:0<=i
 ·rw [if_pos h0] at h
  by_cases h1:i<n
  ·rw [if_pos h1] at h;have e:i.toNat=j:=Jy h;exact ⟨by rw [Oi h0 h1,e],by lia,by lia,h1⟩
  ·rw [if_neg h1] at h;cases h
 ·rw [if_neg h0] at h
  by_cases h1:-(n:Int)<=i
  ·rw [if_pos h1] at h;have e:(i+n).toNat=j:=Jy h;exact ⟨by rw [Oa (by lia) h1,e],by lia,h1,by lia⟩
  ·rw [if_neg h1] at h;cases h
def zN {α:Type} {xs:List α} {i:Int} {v:α} (h:atI xs i=some v):∃ j,seqIndex? i xs.length=some j/\xs[j]?=some v/\j<xs.length/\-(xs.length:Int)<=i/\i<xs.length:=by
 unfold atI at h;cases e:ixN xs.length i with
 | none=>rw [e] at h;cases h
 | some j =>
  rw [e] at h;obtain ⟨h1,h2,h3,h4⟩:=zH e;exact ⟨j,h1,h,h2,h3,h4⟩
def iL {α:Type} {xs:List α} {j:Nat} {v:α} (h:xs[j]?=some v):atI xs (j:Int)=some v:=by
 have hj:j<xs.length:=(II.mp h).1;have e:ixN xs.length (j:Int)=some j:=by
  unfold ixN;rw [if_pos (by lia),if_pos (by lia)];simp
 unfold atI;rw [e];exact h
def FA (b:Expr):Prop:=∀ o i,subscripted b false o i=operate [o,i] (getItem o i)
def IxR (X:Cx) (r:R2):Prop :=
 ∀ (value slice:Expr) (pins:List (Addr×Obj)) (s:IL) (σ:St) (H:Hp) (x y:V) (v u:Value) (Q:VK),Inv X pins σ H s->RelV x v->RelV y u->r x y H Q ->
  subscripted slice false v u=operate [v,u] (getItem v u)->wpAny (model X.prog X.w) X.A (subscriptTail value slice v u) (EP X pins σ Q) X.xe s
def MtR (X:Cx) (id:String) (r:V->List V->Hp->VK->Prop):Prop :=
 ∀ (pins:List (Addr×Obj)) (s:IL) (σ:St) (H:Hp) (x:V) (xs:List V) (v:Value) (us:List Value) (Q:VK),Inv X pins σ H s->RelV x v->Vals xs us->r x xs H Q ->
  wpAny (model X.prog X.w) X.A (call (.builtin id) (v :: us)) (EP X pins σ Q) X.xe s
section
variable {X:Cx} {a b:Expr} {ta tb:TE} {pos:Pos}
def aq {r:R2} (hr:IxR X r) (ha:PE X a ta) (hb:PE X b tb) (hs:FA b):PE X (.Subscript a b pos) (tOp r ta tb):=by
 intro pins s σ H Q I h;exact Subscript_ (C1 ha hb I h fun v u s2 x y H2 I2 rx ry q=>hr a b pins s2 σ H2 x y v u Q I2 rx ry q (hs _ _))
def oF (K:IC):R2:=fun x y H Q=>∃ p xs i v,x=.ref p/\y=.int i/\SqL K H p xs/\atI xs i=some v/\Q v H
def DL (K:IC):R2:=fun x y H Q=>∃ p xs i v,x=.ref p/\y=.int i/\SqT K H p xs/\atI xs i=some v/\Q v H
def F5:IxR X (oF X.K):=by
 intro value slice pins s σ H x y v u Q I rx ry h hs;obtain ⟨p,xs,i,z,rfl,rfl,hq,he,q⟩:=h;cases rx;obtain ⟨t,rfl⟩:=ry;obtain ⟨its,r,pl,hz⟩:=I.list hq;obtain ⟨j,h1,h2,h3,h4,h5⟩:=zN he;obtain ⟨w,ew,rw'⟩:=r.get h2;have hl:=r.length;have hn:=rY;have fin:EP X pins σ Q w s:=⟨z,H,I,rw',q⟩
 by_cases h0:0<=i
 ·have hj:i.toNat=j:=by
   rw [Oi h0 h5] at h1;exact Jy h1
  exact item_listR pl.isList h0 (by lia) (by rw [hj];simpa using ew) fin hs
 ·have hj:(i+(its.toArray.size:Int)).toNat=j:=by
   rw [Oa (by lia) h4] at h1
   rw [Ji,<- hl];exact Jy h1
  exact M5 (x:=w) pl.isList.typeIs slot_list_getitem.lookup
   (wpAny_getItem_list_neg (Q:=fun r s'=>r=w/\EP X pins σ Q r s') pl.isList (by lia) (by rw [Ji] <;> lia) (by lia) (by rw [hj];simpa using ew) ⟨rfl,fin⟩) hs
def GD:IxR X (DL X.K):=by
 intro value slice pins s σ H x y v u Q I rx ry h hs;obtain ⟨p,xs,i,z,rfl,rfl,hq,he,q⟩:=h;cases rx;obtain ⟨t,rfl⟩:=ry;obtain ⟨its,r,pl,hz⟩:=I.tuple hq;obtain ⟨j,h1,h2,h3,h4,h5⟩:=zN he;obtain ⟨w,ew,rw'⟩:=r.get h2;have hl:=r.length;have hn:=rY;have fin:EP X pins σ Q w s:=⟨z,H,I,rw',q⟩;exact M5 (x:=w) pl.typeIs slot_tuple_getitem.lookup
  (getItem_tuple (j:=j) (Q:=fun r s'=>r=w/\EP X pins σ Q r s') pl (by lia) (by lia) (by rw [Ji,<- hl];exact h1) (by simpa using ew) ⟨rfl,fin⟩) hs
def AR (its:List Value) (n j:Nat) (u:Value):NC (·.setIfInBounds j u) { cls:=.type "list",data:=.seq its.toArray n }={ cls:=.type "list",data:=.seq (its.set j u).toArray n }:=by
 simp [NC]
def Inv.lst {pins:List (Addr×Obj)} {σ:St} {H:Hp} {s:IL} {p:Addr} {xs:List V} (I:Inv X pins σ H s) (h:H p=some (.lst xs)) :
  ∃ (its:List Value) (n:Nat),Vals xs its/\s.heap.get? p=some { cls:=.type "list",data:=.seq its.toArray n }/\xs.length<=Jr:=by
 obtain ⟨z,its,n,r,e⟩:=I.hok p _ h;exact ⟨its,n,r,e,z⟩
def Inv.GF {pins:List (Addr×Obj)} {σ:St} {H:Hp} {s:IL} {p:Addr} {xs ys:List V} {its its':List Value} {n n':Nat} {f:Obj->Obj} (I:Inv X pins σ H s) (h:H p=some (.lst xs))
  (ho:s.heap.get? p=some { cls:=.type "list",data:=.seq its.toArray n }) (hf:f { cls:=.type "list",data:=.seq its.toArray n }={ cls:=.type "list",data:=.seq its'.toArray n' }) (r:Vals ys its') (hz:ys.length<=Jr) (t:Nat) :
  Inv X pins σ (upd H p (.lst ys)) { s with heap:=s.heap.update p f,toks:=t }:=by
 have e:(s.heap.update p f).get? p=some { cls:=.type "list",data:=.seq its'.toArray n' }:=by
  rw [Heap.get?_update_self f ho (by rw [hf] <;> rfl),hf]
 refine I.write (x:=p) (e:=p) (by rw [h];trivial) (.inl rfl) (fun b u hb q=>(M6 _ _ (Lr hb)).trans q) ⟨_,e⟩ ?_
 exact ⟨hz,its',n',r,e⟩
def E5:V->V->V->Hp->(Hp->Prop)->Prop:=fun o i v H Q=>∃ p xs k j,o=.ref p/\i=.int k/\H p=some (.lst xs)/\ixN xs.length k=some j/\Q (upd H p (.lst (xs.set j v)))
def set_list:Hk X E5:=by
 intro pins s σ H o i v ov iv u Q I ro ri rv h;obtain ⟨p,xs,k,j,rfl,rfl,hp,hj,q⟩:=h;cases ro;obtain ⟨t,rfl⟩:=ri;obtain ⟨its,n,r,ho,hz⟩:=I.lst hp;obtain ⟨h1,h2,h3,h4⟩:=zH hj;have hl:=r.length;have hn:=rY;have I':Inv X pins σ (upd H p (.lst (xs.set j v))) { s with heap:=s.heap.update p (NC (·.setIfInBounds j u)) } :=
  I.GF hp ho (AR its n j u) (r.set rv j) (by rw [LH];exact hz) s.toks
 by_cases h0:0<=k
 ·have hk:k.toNat=j:=by
   rw [Oi h0 h4] at h1;exact Jy h1
  exact PySem.W.ki_setAt ho h0 (by lia) (by rw [Ji,<- hl];exact h4) (by rw [hk];exact ⟨_,I',q⟩)
 ·have hk:(k+(its.toArray.size:Int)).toNat=j:=by
   rw [Oa (by lia) h3] at h1
   rw [Ji,<- hl];exact Jy h1
  exact PySem.W.ki_setBack ho (by lia) (by rw [Ji,<- hl];exact h3) (by lia) (by rw [hk];exact ⟨_,I',q⟩)
def yp (lo hi:Option Int) (n:Nat):(sliceBounds lo hi none n).1=((HT.sIx n 0 lo:Nat):Int)/\(sliceBounds lo hi none n).2.1=((HT.sIx n n hi:Nat):Int)/\(sliceBounds lo hi none n).2.2=1:=by
 refine ⟨?_,?_,rfl⟩
 ·cases lo with
  | none=>simp [sliceBounds,HT.sIx]
  | some i =>
   simp only [sliceBounds,HT.sIx,Option.getD_none,show (1:Int) > 0 by decide,if_true]
   by_cases h:i<0
   ·simp only [h,if_true] <;> lia
   ·simp only [h,if_false] <;> lia
 ·cases hi with
  | none=>simp [sliceBounds,HT.sIx]
  | some i =>
   simp only [sliceBounds,HT.sIx,Option.getD_none,show (1:Int) > 0 by decide,if_true]
   by_cases h:i<0
   ·simp only [h,if_true] <;> lia
   ·simp only [h,if_false] <;> lia
def vI (its:List Value) (lo hi:Option Int):slicePick its.toArray lo hi none=((its.drop (HT.sIx its.length 0 lo)).take (HT.sIx its.length its.length hi - HT.sIx its.length 0 lo)).toArray:=by
 obtain ⟨h1,h2,h3⟩:=yp lo hi its.toArray.size;unfold slicePick;rw [h1,h2,h3];simp only [sliceRange_one,pick_run,Ji] <;> rfl
def Am (K:IC):V->Option Int->Option Int->Hp->VK->Prop:=fun x lo hi H Q=>∃ a xs,x=.ref a/\SqL K H a xs/\∀ p,H p=none->Q (.ref p) (upd H p (.lst (qF xs lo hi)))
def Fi:SlR X (Am X.K):=by
 intro pins s σ H x v vl vu lo hi sl Q I rx hs pl pu h;obtain ⟨a,xs,rfl,hx,q⟩:=h;cases rx;obtain ⟨its,r,ht,hz⟩:=I.list hx;have hlen:=r.length;refine ⟨"list",_,slot_list_getitem.lookup,ht.isList.typeIs,?_⟩;refine wpAny_getItem_list_slice ht.isList hs pl pu .none (by simp) ?_ (by rw [Ji] <;> lia)
 rw [vI,<- hlen];refine ⟨.ref s.heap.objs.size,_,I.laid (t':=s.toks) (o:=.lst (qF xs lo hi)) (fun b ob q=>IU _ q) (IV _) ?_,rfl,q _ (I.hok.fresh (IV _))⟩;exact ⟨JV (y7 xs lo hi) hz,_,0,(r.drop (HT.sIx xs.length 0 lo)).take (HT.sIx xs.length xs.length hi - HT.sIx xs.length 0 lo),JJ _ rfl⟩
def jF:V->Bool
 | .non=>true
 | .bl _=>true
 | .int _=>true
 | .str _=>true
 | _=>false
def eqV:V->V->Bool
 | .non,.non=>true
 | .bl a,.bl b=>a == b
 | .bl a,.int b=>(if a then 1 else 0) == b
 | .int a,.bl b=>a == (if b then 1 else 0)
 | .int a,.int b=>a == b
 | .str a,.str b=>a == b
 | _,_=>false
def xX {A:JF} {s:IL} {y x:V} {u v:Value} (ry:RelV y u) (rx:RelV x v) (fy:jF y=true) (fx:jF x=true):N3 A s u v (eqV y x):=by
 cases y with
 | non =>
  cases ry;cases x with
  | non=>cases rx;exact Nm _
  | bl b=>cases rx;exact SeqAt.EqAt.none_bool b
  | int b=>obtain ⟨t,rfl⟩:=rx;exact SeqAt.EqAt.none_int b t
  | str b=>obtain ⟨t,rfl⟩:=rx;exact SeqAt.EqAt.none_str b t
  | _=>exact absurd (show false=true from fx) Jd
 | bl a =>
  cases ry;cases x with
  | non=>cases rx;exact SeqAt.EqAt.bool_none a
  | bl b=>cases rx;exact SeqAt.EqAt.bool_bool a b
  | int b=>obtain ⟨t,rfl⟩:=rx;exact SeqAt.EqAt.bool_int a b t
  | str b=>obtain ⟨t,rfl⟩:=rx;exact SeqAt.EqAt.bool_str a b t
  | _=>exact absurd (show false=true from fx) Jd
 | int a =>
  obtain ⟨t',rfl⟩:=ry;cases x with
  | non=>cases rx;exact SeqAt.EqAt.int_none a t'
  | bl b=>cases rx;exact SeqAt.EqAt.int_bool a t' b
  | int b=>obtain ⟨t,rfl⟩:=rx;exact SeqAt.EqAt.int_int a t' b t
  | str b=>obtain ⟨t,rfl⟩:=rx;exact SeqAt.EqAt.int_str a t' b t
  | _=>exact absurd (show false=true from fx) Jd
 | str a =>
  obtain ⟨t',rfl⟩:=ry;cases x with
  | non=>cases rx;exact SeqAt.EqAt.str_none a t'
  | bl b=>cases rx;exact SeqAt.EqAt.str_bool a t' b
  | int b=>obtain ⟨t,rfl⟩:=rx;exact SeqAt.EqAt.str_int a t' b t
  | str b=>obtain ⟨t,rfl⟩:=rx;exact SeqAt.EqAt.str_str a t' b t
  | _=>exact absurd (show false=true from fx) Jd
 | _=>exact absurd (show false=true from fy) Jd
def eqU (x:V) (u:Value):Bool:=match u with
 | .none=>eqV .non x
 | .bool b=>eqV (.bl b) x
 | .int i _=>eqV (.int i) x
 | .str z _=>eqV (.str z) x
 | _=>false
def BN {x y:V} {u:Value} (r:RelV y u) (f:jF y=true):eqU x u=eqV y x:=by
 cases y with
 | non=>cases r;rfl
 | bl b=>cases r;rfl
 | int i=>obtain ⟨t,rfl⟩:=r;rfl
 | str z=>obtain ⟨t,rfl⟩:=r;rfl
 | _=>exact absurd (show false=true from f) Jd
def uB {x:V}:∀ {xs:List V} {us:List Value},Vals xs us->xs.all jF=true->us.any (eqU x)=xs.any fun y=>eqV y x
 | _,_,.nil,_=>rfl
 | y :: xs,u :: us,.cons r t,f=>by
  rw [MR,La] at f;rw [LI,LI,BN r f.1,uB t f.2]
def qB {A:JF} {s:IL} {x:V} {v:Value} (rx:RelV x v) (fx:jF x=true):∀ {xs:List V} {us:List Value},Vals xs us->xs.all jF=true->∀ u∈us,N3 A s u v (eqU x u)
 | _,_,.nil,_=>fun u hu=>by cases hu
 | y :: xs,u :: us,.cons r t,f=>fun u' hu=>by
  rw [MR,La] at f;rcases JB.mp hu with rfl|hu
  ·rw [BN r f.1];exact xX r rx f.1 fx
  ·exact qB rx fx t f.2 u' hu
def inV (x:V) (xs:List V):Bool:=xs.any fun y=>eqV y x
def rIn (K:IC) (neg:Bool):R2:=fun x y H Q=>∃ p xs,y=.ref p/\(SqL K H p xs\/SqT K H p xs)/\jF x=true/\xs.all jF=true/\Q (.bl (if neg then !inV x xs else inV x xs)) H
def yJ:OpR X (compareOp .NotIn) (rIn X.K true):=by
 intro pins s σ H x y v u Q I rx ry h;obtain ⟨p,xs,rfl,hq,fx,fs,q⟩:=h;cases ry;rcases hq with hq|hq
 ·obtain ⟨its,r,pl,hz⟩:=I.list hq;refine SeqAt.notIn_listAt (eqU x) pl.isList (fun w hw=>qB rx fx r fs w (by simpa using hw)) ⟨.bl _,H,I,rfl,?_⟩
  rw [show its.toArray.any (eqU x)=its.any (eqU x) by simp,uB r fs]
  exact q
 ·obtain ⟨its,r,pl,hz⟩:=I.tuple hq;refine SeqAt.notIn_tupleAt (eqU x) pl (fun w hw=>qB rx fx r fs w (by simpa using hw)) ⟨.bl _,H,I,rfl,?_⟩
  rw [show its.toArray.any (eqU x)=its.any (eqU x) by simp,uB r fs]
  exact q
def yo:de X (.builtin "len") (fun xs H Q=>∃ p ys,xs=[.ref p]/\(SqL X.K H p ys\/SqT X.K H p ys)/\Q (.int ys.length) H):=by
 intro pins s σ H xs us Q I r h;obtain ⟨p,ys,rfl,hq,q⟩:=h;obtain ⟨u,rfl,rx⟩:=vals1 r;cases rx;have hn:=rY;rcases hq with hq|hq
 ·obtain ⟨its,r',pl,hz⟩:=I.list hq;have hlen:=r'.length;exact Calls.call_len_list pl.isList (by simp only [Ji] <;> lia) ⟨.int ys.length,H,I.tok _,⟨s.toks+1,by rw [Ji,hlen]⟩,q⟩
 ·obtain ⟨its,r',pl,hz⟩:=I.tuple hq;have hlen:=r'.length;exact len_tuple pl (by simp only [Ji] <;> lia) ⟨.int ys.length,H,I.tok _,⟨s.toks+1,by rw [Ji,hlen]⟩,q⟩
def yr:de X (.type "list") (fun xs H Q=>∃ p ys,xs=[.ref p]/\(SqL X.K H p ys\/SqT X.K H p ys)/\∀ l,H l=none->Q (.ref l) (upd H l (.lst ys))):=by
 intro pins s σ H xs us Q I r h;obtain ⟨p,ys,rfl,hq,q⟩:=h;obtain ⟨u,rfl,rx⟩:=vals1 r;cases rx;have fin:∀ (its:List Value),Vals ys its->ys.length<=Jr->∀ (h':Heap) (c':Nat),(∀ b o',s.heap.get? b=some o'->h'.get? b=some o') ->
   h'.get? s.heap.objs.size=some { cls:=.type "list",dict:=none,data:=.seq its.toArray c',slots:=#[] }->EP X pins σ Q (.ref s.heap.objs.size) { s with heap:=h' }:=fun its r' hz h' c' kp e =>
  ⟨.ref s.heap.objs.size,_,I.laid (t':=s.toks) kp (IV _) (show bT X.prog X.w _ h' _ (.lst ys) from ⟨hz,its,c',r',e⟩),rfl,q _ (I.hok.fresh (IV _))⟩
 rcases hq with hq|hq
 ·obtain ⟨its,r',pl,hz⟩:=I.list hq;have hlen:=r'.length;obtain ⟨o,ho,hc,n,hd⟩:=pl.isList;exact call_list_seq p (.inl rfl) ho hc hd (fun h' c' kp e=>fin its r' hz h' c' kp e) (by simp only [Ji] <;> lia)
 ·obtain ⟨its,r',pl,hz⟩:=I.tuple hq;have hlen:=r'.length;obtain ⟨o,ho,hc,n,hd⟩:=pl;exact call_list_seq p (.inr rfl) ho hc hd (fun h' c' kp e=>fin its r' hz h' c' kp e) (by simp only [Ji] <;> lia)
def tyV (K:IC) (T:String) (x:V) (H:Hp):Prop:=match x with
 | .str _=>T = "str"
 | .int _=>T = "int"
 | .ref p=>(T = "list" /\ ∃ xs,SqL K H p xs)\/(T = "tuple" /\ ∃ o,K.lookup p=some o/\o.cls=.type "tuple" /\ o.dict=none) \/
   (T = "dict" /\ ((∃ kvs,H p=some (.dK kvs))\/∃ kvs,H p=some (.dT kvs)))\/(T = "set" /\ ∃ S n,H p=some (.set S n))
 | _=>False
def G8 {pins:List (Addr×Obj)} {σ:St} {H:Hp} {s:IL} {T:String} {x:V} {v:Value} (I:Inv X pins σ H s) (r:RelV x v) (ty:tyV X.K T x H) :
  s.TypeIs v T/\∀ a,v=.ref a->∃ ob,s.heap.get? a=some ob/\ob.dict=none:=by
 cases x with
 | str z =>
  obtain ⟨t,rfl⟩:=r;cases (show T = "str" from ty);exact ⟨typeIs_str s z t,fun _ e=>nomatch e⟩
 | int i =>
  obtain ⟨t,rfl⟩:=r;cases (show T = "int" from ty);exact ⟨typeIs_int s i t,fun _ e=>nomatch e⟩
 | ref p =>
  cases r;rcases ty with ⟨rfl,xs,hq⟩|⟨rfl,o,hk,hc,hd⟩|⟨rfl,hk⟩|⟨rfl,S,n,hk⟩
  ·obtain ⟨its,_,pl,_⟩:=I.list hq;refine ⟨pl.isList.typeIs,fun a e=>?_⟩;cases e;obtain ⟨o,n,e,c,hd,_⟩:=pl;exact ⟨o,e,hd⟩
  ·refine ⟨⟨o,I.kIn p o hk,hc⟩,fun a e=>?_⟩;cases e;exact ⟨o,I.kIn _ o hk,hd⟩
  ·have z:∃ o,s.heap.get? p=some o/\o.ExactDict:=by
    rcases hk with ⟨kvs,hk⟩|⟨kvs,hk⟩
    ·obtain ⟨_,_,_,_,o,_,_,e,ex,_⟩:=I.hok p _ hk;exact ⟨o,e,ex⟩
    ·obtain ⟨_,_,_,_,o,_,_,e,ex,_⟩:=I.hok p _ hk;exact ⟨o,e,ex⟩
   obtain ⟨o,e,ex⟩:=z;refine ⟨⟨o,e,ex.1⟩,fun a e2=>?_⟩;cases e2;exact ⟨o,e,ex.2.1⟩
  ·obtain ⟨o,_,_,_,e,ex,_⟩:=I.hok p _ hk;refine ⟨⟨o,e,ex.1⟩,fun a e2=>?_⟩;cases e2;exact ⟨o,e,ex.2.1⟩
 | _=>exact KS ty
def tBM (K:IC) (T:String) (r:V->List V->Hp->VK->Prop) (to:TE) (t:TA):TE:=fun σ H Q=>to σ H fun x H1=>tyV K T x H1/\t σ H1 fun xs H2=>r x xs H2 Q
variable {o e:Expr} {es:List Expr} {to:TE} {t:TA} {name:Str} {apos cpos:Pos} {T id:String} {r:V->List V->Hp->VK->Prop}
def HW (pa:PlainAttrs T) (slot:Slot T name id) (hty:typeOf (.builtin id)=pure (.type "method_descriptor")) (hm:MtR X id r) (ho:PE X o to) (ha:PA X (e :: es) t)
  (hbase:attributeBase o name X.env (eval o X.env)=eval o X.env:=by rfl)
  (hfew:((backTo cpos (JP (e :: es) X.env)).all (fun x=>!x.1) && (backToKw cpos (keywordEach [] X.env)).all (fun x=>x.1.isSome)
   && decide ((e :: es).length+([]:List Nk).length+(if ([]:List Nk).isEmpty then 0 else 1)<30))=true:=by rfl)
  (hline:(apos.endLine == cpos.line)=true:=by rfl) (hs:JP (e :: es) X.env=(false,eval e X.env) :: JP es X.env:=by rfl) (hplain:(backTo cpos (JP es X.env)).any (·.1)=false:=by rfl) :
  PE X (.Call (.Attribute o name apos) (e :: es) [] cpos) (tBM X.K T r to t):=by
 intro pins s σ H Q I h;refine wpAny_Call_method_late hbase hfew hline rfl (thn (ho pins s σ H _ I h) fun v s1 ⟨x,H1,I1,r1,ty,q1⟩=>?_);obtain ⟨h1,h2⟩:=G8 I1 r1 ty;refine ⟨T,id,pa,slot,hty,h1,h2,?_⟩;have hA:=ha cpos pins s1 σ H1 _ I1 q1;rw [hs] at hA ⊢;refine Calls.callWith_builtin (by show (false || (backTo cpos (JP es X.env)).any (·.1))=false;rw [hplain] <;> rfl) (Calls.evalArgs_plain ?_)
 exact thn hA fun us s2 ⟨vs,H2,I2,r2,q2⟩=>hm pins s2 σ H2 x vs v us Q I2 r1 r2 q2
/- xs.append(e),list.index on a module's tuple .. are MtR facts of 06m -/
end
def MtM (X:Cx) (id:String) (r:V->List V->Hp->VK->Prop):Prop :=
 ∀ (pins:List (Addr×Obj)) (s:IL) (σ:St) (H:Hp) (x:V) (xs:List V) (v:Value) (us:List Value) (Q:VK),Inv X pins σ H s->RelV x v->Vals xs us->r x xs H Q ->
  wpAny (model X.prog X.w) X.A (call (.builtin id) (v :: us)) (EP X pins σ Q) X.xe s
def Vals.one {x:V} {us:List Value} (h:Vals [x] us):∃ u,us=[u]/\RelV x u:=by
 cases h with
 | cons r t=>cases t;exact ⟨_,rfl,r⟩
def Vals.two {x y:V} {us:List Value} (h:Vals [x,y] us):∃ u v,us=[u,v]/\RelV x u/\RelV y v:=by
 cases h with
 | cons r t =>
  cases t with
  | cons q e=>cases e;exact ⟨_,_,rfl,r,q⟩
def Vals.rep {xs:List V} {us:List Value} (h:Vals xs us):∀ k:Nat,Vals (Jg k xs).flatten (Jg k us).flatten
 | 0=>.nil
 | k+1=>by
  rw [Kw,Kw,Lo,Lo];exact Vals.append h (Vals.rep h k)
def foldl_rep (its:List Value):∀ (k:Nat) (acc:List Value),
  List.foldl (fun x1 x2=>x1++x2) acc.toArray (Jg k its.toArray)=(acc++(Jg k its).flatten).toArray
 | 0,acc=>by simp
 | k+1,acc=>by
  have e:acc.toArray++its.toArray=(acc++its).toArray:=by simp
  have e2:(acc++its)++(Jg k its).flatten=acc++(Jg (k+1) its).flatten:=by
   rw [Kw,Lo,MC]
  rw [<- e2,<- foldl_rep its k (acc++its),<- e,Kw,List.foldl_cons]
section
variable {X:Cx} {pins:List (Addr×Obj)} {σ:St} {H:Hp} {s:IL} {l b:Addr} {xs ys zs:List V}
def Inv.Ea {its its':List Value} {n:Nat} {f:Array Value->Array Value} {t':Nat} (I:Inv X pins σ H s) (hH:H l=some (.lst xs))
  (e:s.heap.get? l=some { cls:=.type "list",data:=.seq its.toArray n }) (hf:f its.toArray=its'.toArray) (hv:Vals ys its') (hz:ys.length<=Jr) :
  Inv X pins σ (upd H l (.lst ys)) { s with heap:=s.heap.update l (NC f),toks:=t' }:=by
 have q:=PySem.IsL.update e f;rw [hf] at q;refine I.write (x:=l) (e:=l) (by rw [hH];exact trivial) (.inl rfl) (fun b' u hb hu=>(M6 s.heap (NC f) (Lr hb)).trans hu) ⟨_,q⟩ ?_
 exact ⟨hz,its',_,hv,q⟩
def Inv.Gf {its:List Value} {t':Nat} (I:Inv X pins σ H s) (hv:Vals ys its) (hz:ys.length<=Jr) :
  Inv X pins σ (upd H s.heap.objs.size (.lst ys)) { s with heap:=s.heap.push { cls:=.type "list",data:=.seq its.toArray },toks:=t' } :=
 I.laid (fun _ _ q=>IU _ q) (IV _) ⟨hz,its,0,hv,JJ _ rfl⟩
def Inv.fresh (I:Inv X pins σ H s):H s.heap.objs.size=none:=I.hok.fresh (IV _)
def Inv.oH (I:Inv X pins σ H s) (hH:H l=some (.lst xs)):xs.length<=Jr/\∃ (its:List Value) (n:Nat),Vals xs its/\xs.length=its.length/\s.heap.get? l=some { cls:=.type "list",data:=.seq its.toArray n }:=by
 obtain ⟨z,its,n,r,e⟩:=I.hok l _ hH;exact ⟨z,its,n,r,r.length,e⟩
def wV {n:Nat} (h:n<=Jr):K4 n=false:=by
 unfold K4;exact decide_eq_false (by lia)
end
section
variable {X:Cx}
def t5:V->List V->Hp->VK->Prop:=fun x vs H Q=>∃ l xs y,x=.ref l/\vs=[y]/\H l=some (.lst xs)/\xs.length<Jr/\Q .non (upd H l (.lst (xs++[y])))
def cc:MtM X "list.append" t5:=by
 intro pins s σ H x vs v us Q I rx rv h;obtain ⟨l,xs,y,rfl,rfl,hH,hz,q⟩:=h;cases rx;obtain ⟨u,rfl,ru⟩:=rv.one;obtain ⟨z,its,n,r,hl,e⟩:=I.oH hH;refine L3 F.slot_list_append ⟨_,e,rfl⟩ F.entry_list_append (F.args_list_append_2 _ _) (PySem.list_append l its.toArray n u (by rw [Ji];lia)) ⟨e,?_⟩
 refine ⟨.non,_,I.Ea (its':=its++[u]) hH e (by simp) (r.append (.cons ru .nil)) ?_,rfl,q⟩
 rw [IZ,List.length_singleton];lia
def Fe:V->List V->Hp->VK->Prop:=fun x vs H Q=>∃ l b xs zs,x=.ref l/\vs=[.ref b]/\H l=some (.lst xs)/\H b=some (.lst zs)/\xs.length+zs.length<=Jr/\Q .non (upd H l (.lst (xs++zs)))
def BR:MtM X "list.extend" Fe:=by
 intro pins s σ H x vs v us Q I rx rv h;obtain ⟨l,b,xs,zs,rfl,rfl,hH,hB,hz,q⟩:=h;cases rx;obtain ⟨u,rfl,ru⟩:=rv.one;cases ru;obtain ⟨z,its,n,r,hl,e⟩:=I.oH hH;obtain ⟨z2,its2,n2,r2,hl2,e2⟩:=I.oH hB;have hsz:its.toArray.size+its2.toArray.size<=Jr:=by rw [Ji,Ji];lia
 have hlong:¬ (!its.toArray.isEmpty && K4 (its.toArray.size+its2.toArray.size))=true:=by
  rw [wV hsz,Bool.and_false];exact Jd
 refine L3 F.slot_list_extend ⟨_,e,rfl⟩ F.entry_list_extend (F.args_list_extend_2 _ _)
  (AutoSeq1.list_extend_list_list_0 l its.toArray n b its2.toArray n2 hlong (by rw [Ji];lia) (by lia)) ⟨e,e2,?_⟩
 refine ⟨.non,_,I.Ea (its':=its++its2) hH e (by simp) (r.append r2) ?_,rfl,q⟩
 rw [IZ];lia
def Hf:R2:=fun x y H Q=>∃ l b xs zs,x=.ref l/\y=.ref b/\H l=some (.lst xs)/\H b=some (.lst zs)/\xs.length+zs.length<=Jr/\∀ p,H p=none->Q (.ref p) (upd H p (.lst (xs++zs)))
def CI:OpR X (binaryOp .Add) Hf:=by
 intro pins s σ H x y v u Q I rx ry h;obtain ⟨l,b,xs,zs,rfl,rfl,hH,hB,hz,q⟩:=h;cases rx;cases ry;obtain ⟨z,its,n,r,hl,e⟩:=I.oH hH;obtain ⟨z2,its2,n2,r2,hl2,e2⟩:=I.oH hB;refine PySem.P.add_list e e2 ?_ (by rw [Ji,Ji];lia)
 have ea:its.toArray++its2.toArray=(its++its2).toArray:=by simp
 rw [ea];exact ⟨.ref _,_,I.Gf (t':=s.toks) (r.append r2) (by rw [IZ];lia),rfl,q _ I.fresh⟩
def Iu:R2:=fun x y H Q=>∃ l k xs,x=.ref l/\y=.int k/\H l=some (.lst xs)/\-(2 ^ 63)<=k/\k<2 ^ 63/\xs.length * k.toNat<=Jr /\
 ∀ p,H p=none->Q (.ref p) (upd H p (.lst (Jg k.toNat xs).flatten))
def len_rep {α:Type} (xs:List α) (k:Nat):(Jg k xs).flatten.length=k * xs.length:=by
 induction k with
 | zero=>simp
 | succ k ih=>rw [Kw,Lo,IZ,ih,Ky,KH]
def Bo:OpR X (binaryOp .Mult) Iu:=by
 intro pins s σ H x y v u Q I rx ry h;obtain ⟨l,k,xs,rfl,rfl,hH,h1,h2,hz,q⟩:=h;cases rx;obtain ⟨t,rfl⟩:=ry;obtain ⟨z,its,n,r,hl,e⟩:=I.oH hH;have hlen:its.toArray.size * k.toNat<=Jr:=by rw [Ji,<- hl];exact hz
 have hcap:¬ its.toArray.size * k.toNat > (2 ^ 63 - 1) / 8:=by
  have:(Jr:Nat)<=(2 ^ 63 - 1) / 8:=by decide
  lia
 have hfit:¬ (!Builtin.List.listFitsIndex k)=true:=by
  rw [fitsIndex_both h1 h2];exact Jd
 have hlong:¬ K4 (its.toArray.size * k.toNat)=true:=by
  rw [wV hlen];exact Jd
 have hnew:List.foldl (fun x1 x2=>x1++x2) #[] (Jg (if its.toArray.isEmpty=true then 0 else k.toNat) its.toArray)=(Jg k.toNat its).flatten.toArray:=by
  have f0:∀ m:Nat,List.foldl (fun x1 x2=>x1++x2) #[] (Jg m its.toArray)=(Jg m its).flatten.toArray:=fun m=>by
   have:=foldl_rep its m [];rw [List.nil_append] at this;exact this
  rw [f0];cases its with
  | nil=>simp
  | cons a r'=>rw [if_neg (by simp)]
 refine wpAny_binaryOp_repeat_ref (T:="list") (U:="int") (by decide) ⟨_,e,rfl⟩ (fun s'=>typeIs_int s' k t) noFill_list_mul F.fills_int_mul F.slot_int_rmul repeat_list F.slot_int_index.lookup
  (L3 F.slot_int_rmul (typeIs_int s k t) F.entry_int_rmul (F.args_int_rmul_2 _ _) (int___rmul___int_list k t l its.toArray n)
   ⟨e,rfl,⟨_,e,rfl⟩,L3 F.slot_list_mul ⟨_,e,rfl⟩ F.entry_list_mul (F.args_list_mul_2 _ _) (AutoListH.list___mul___list_int_3 l its.toArray n k t hfit hcap hlong) ⟨e,?_⟩⟩)
 rw [hnew];exact ⟨.ref _,_,I.Gf (t':=s.toks) (r.rep k.toNat) (by rw [len_rep,Kd];exact hz),rfl,q _ I.fresh⟩
end
section
variable {prog:Jc} {w:World} {A:JF} {E:Value->IL->Prop} {s:IL}
end
section
variable {X:Cx}
end
end L2
namespace Att
open PySem PySem.W PySem.Calls PyProof.Rows
def qW {P:Params} {h:Heap}:∀ (ns:List Int) (vs:List Value),WellAll P h vs (ns.map WData.int)->N4 vs ns:=by
 intro ns
 induction ns with
 | nil =>
  intro vs w;rw [Ob] at w;cases w;exact .nil
 | cons n ns ih =>
  intro vs w;rw [JL] at w;cases w with
  | cons a b =>
   cases a;exact .cons _ _ (ih _ b)
def Cp {l:OpenLaw} {n:Nat} (hn:l.most=some n) {P:Params} {h:Heap} {args:List WData} {vals:List Value}
  (hpre:l.row.toRowW.claim.pre args=true) (hwl:WellAll P h vals args) :
  ∃ a vs ns,vals=[JC a]/\args=[WData.list (ns.map WData.int)]/\h.get? a=some { cls:=.type "list",data:=.seq vs.toArray }/\N4 vs ns/\ns.length<=n:=by
 have hsh:WShape.hasAll [] args [.list .int]=true:=(pre_splitW hpre).1;have hc:l.pre.holds [] { args:=args }=true:=(pre_splitW hpre).2;obtain ⟨d,r,rfl,h1,h2⟩:=hasAllW_cons hsh;obtain rfl:=hasAllW_nil h2;obtain ⟨xs,rfl,h3⟩:=hasW_list h1;obtain ⟨ns,rfl⟩:=items_int h3;have hlen:ns.length<=n:=by
  unfold OpenLaw.pre at hc;have h4:(WTm.not (.lt (.lit (.int (n:Int))) (.len (.arg 0)))).holds [] { args:=[.list (ns.map .int)] }=true:=by
   have h4:=(holds_andW hc).1;rw [hn] at h4;exact h4
  have h5:=condW_of h4 (w_not (w_lt w_lit (w_len_list (w_arg rfl))));rw [IE] at h5;refine Nat.le_of_not_lt fun q=>?_;have q':(n:Int)<((ns.length:Nat):Int):=by lia
  first
   | (rw [decide_eq_true q'] at h5;exact absurd h5 (by decide))
   | (simp at h5;lia)
 cases hwl with
 | cons w1 w2 =>
  cases w2;cases w1 with
  | list ho hall=>exact ⟨_,_,ns,rfl,rfl,ho,qW ns _ hall,hlen⟩
def CK (l:OpenLaw) (args:List WData):l.row.toRowW.claim.post args (.bool true) args=true :=
 postW_of (r:=l.row.toRowW) (X:=(true == true))
  (show WShape.has [] (.bool true) .bool=true by first|rfl|decide|simp [WShape.has,WShape.arms,WShape.armsAll])
  (show (WTm.eq .res (.lit (.bool true))).value [] { args:=args,res:=some (.bool true),after:=args }=some (.bool (true == true)) from w_eq_bool (w_res rfl) w_lit) rfl
def zm {l:OpenLaw} {n:Nat} {q:Jc} {loose:List Str} {XP:(Str->Option Value)->Heap->Prop} {YP:World->Heap->Prop} {d:DefRec}
  (hn:l.most=some n) (hdf:d.params.defaults=[])
  (call:∀ (w:World) (s₀ s₁:IL) (mg mb:Str->Option Value) (fa:Addr) (o:Obj) (pm cd doc:Value) (a:Addr) (vs:List Value) (ns:List Int),
   Ground q loose [] XP w s₀ mg mb s₁.heap->YP w s₁.heap ->
   s₁.heap.get? fa=some o->o.data=.func (docDef d.name d.params d.body d.scope pm cd doc)->s₁.heap.CodeRec cd d.name->mg d.name=some (.ref fa) ->
   s₁.heap.get? a=some { cls:=.type "list",data:=.seq vs.toArray }->N4 vs ns->ns.length<=n->s₁.gens=#[] ->
   codeAny (model l.prog w) callerA (.call (.ref fa) ⟨[.ref a],[]⟩) (fun r s'=>r=.ok (.ret (.bool true))/\OldK s₁.heap s'.heap/\s'.os=s₁.os/\Nd s'.gens) s₁) :
  WalkO q loose XP YP l.row.toRowW d [] (fun f vs=>PySem.call f vs):=by
 intro w s₀ s₁ mg mb G Y fa o pm cd doc dV kV ho hd hcd hD hmg hg args vals as hpre hlay hrd hwl hlo;obtain rfl:dV=.none:=Dflts.none hD hdf;obtain rfl:kV=.none:=Dflts.noKw hD;obtain ⟨a,vs,ns,rfl,rfl,hobj,hints,hlen⟩:=Cp hn hpre hwl;refine enter_call (Nj (call w s₀ s₁ mg mb fa o pm cd doc a vs ns G Y ho (fd_plain hd) hcd hmg hobj hints hlen hg) fun r s' hq=>?_);obtain ⟨rfl,h2,h3,h4⟩:=hq;exact ⟨.inl ⟨.bool true,.bool true,[],rfl,fun _=>rfl,.bool true,CK l _,fun _=>⟨List.Pairwise.nil,fun _ hm=>(nomatch hm)⟩⟩,h2,h3,h4⟩
section
variable {prog:Jc} {w:World} {A:JF} {E:Value->IL->Prop} {s:IL} {K:Frag}
end
end Att
namespace L2
open PySem PySem.Spec PyProof.Rows
def uP:∀ {vs:List Value} {ns:List Int},N4 vs ns->Vals (ns.map V.int) vs
 | _,_,.nil=>.nil
 | _,_,.cons n t h=>.cons ⟨t,rfl⟩ (uP h)
def Dv (H:Hp):Prop:=∀ b,H b=none\/∃ o xs,H b=some (.frz o (.lst xs))
def DJ {P:Jc} {w:World} {K:IC} {mg mb:Str->Option Value} {CX:CXT} {k:Nat} {fa a:Addr} {fd:JR} {x:Str} {sp:Sp} {s₁:IL} {vs:List Value} {ns:List Int}
  (KX:K.In s₁.heap) (hns:s₁.heap.Ns JN mg) (hb:s₁.heap.Ns builtinsNs mb) (hbb:∀ x:Str,x ≠ "__name__" -> mb x=bootBuiltins x) (hlim:s₁.heap.NoLimit) (hg:s₁.gens=#[])
  (ha:s₁.heap.get? a=some { cls:=.type "list",data:=.seq vs.toArray }) (hi:N4 vs ns) (hl:ns.length<=Jr) (hr:bY k callerA)
  (F:∀ base:Heap,K.In base->base.Ns JN mg->aN P w K mg base CX k fa fd [x] sp) (hbind:∀ (s:IL) (u:Value),Ms s fd ⟨[u],[]⟩ [(x,u)])
  (hsp:∀ H:Hp,Dv H->SqL K H a (ns.map V.int)->sp [.ref a] H (fun v _=>v=.bl true) fun _ _ _=>False)
  (hCX:∀ H e s',CX [] H s₁ (fun _ _ _=>False) e s'->False) :
  codeAny (model P w) callerA (.call (.ref fa) ⟨[.ref a],[]⟩) (fun r s'=>r=.ok (.ret (.bool true))/\OldK s₁.heap s'.heap/\s'.os=s₁.os/\Nd s'.gens) s₁:=by
 have rv:=uP hi;have lenV:=hi.length;have core:∀ H:Hp,Dv H->SqL K H a (ns.map V.int)->HOk P w H s₁.heap->(∀ b,H b≠none->b=a)->(H a≠none->K.lookup a=none) ->
   codeAny (model P w) callerA (.call (.ref fa) ⟨[.ref a],[]⟩) (fun r s'=>r=.ok (.ret (.bool true))/\OldK s₁.heap s'.heap/\s'.os=s₁.os/\Nd s'.gens) s₁:=by
  intro H hO hS hok hA hK;have base_of:∀ {b:Addr} {o:Obj},s₁.heap.get? b=some o->H b=none->(mN s₁.heap H).get? b=some o:=fun e n=>Di e n;have noA:∀ {b:Addr} {o:Obj} {es:Array DictEntry} {ep:Nat},s₁.heap.get? b=some o->o.data=.dict es ep->H b=none:=fun {b o es ep} e d=>by
   cases q:H b with
   | none=>rfl
   | some u =>
    have e':b=a:=hA b (by rw [q];simp)
    subst e';rw [ha] at e;cases e;have d':Data.seq vs.toArray _=Data.dict es ep:=d;cases d'
  have nsK:∀ {b:Addr} {m:Str->Option Value},s₁.heap.Ns b m->(mN s₁.heap H).Ns b m:=fun {b m} ⟨o,es,ep,e,d,r⟩=>⟨o,es,ep,base_of e (noA e d),d,r⟩;have hKb:K.In (mN s₁.heap H):=fun b o e=>base_of (KX b o e) (by
   cases q:H b with
   | none=>rfl
   | some u =>
    have e':b=a:=hA b (by rw [q];simp)
    subst e';rw [hK (by rw [q];simp)] at e;cases e)
  have hM:Mod K mg (mN s₁.heap H):=⟨hKb,nsK hns,⟨mb,nsK hb,hbb⟩,let ⟨mc,h1,h2⟩:=hlim;⟨mc,nsK h1,h2⟩⟩;have e0:lG P w K mg (mN s₁.heap H) callerA [] s₁ H:=⟨rfl,hM,fun b o e=>FV e,Ni (BK _ _),trivial,fun b hb=>absurd (show b∈([]:List Addr) from hb) (by simp),hok,.of_eq hg⟩
  refine Nj ((F _ hKb (nsK hns)).run callerA [] s₁ H ⟨[.ref a],[]⟩ [.ref a] [.ref a] _ _ hr e0 (hbind s₁ (.ref a)) (.cons rfl .nil) (hsp H hO hS)) fun r s' h=>?_;cases r with
  | error e=>exact (hCX H e s' h).elim
  | ok fl =>
   cases fl with
   | next=>exact KS h
   | brk=>exact KS h
   | cont=>exact KS h
   | ret u =>
    obtain ⟨v,H',os,bare,un,hok',r',q⟩:=h;have q':v=.bl true:=q;subst q';obtain rfl:u=NB true:=r';refine ⟨rfl,OldK.of_keep fun b o e=>?_,os,bare⟩;cases q:H b with
    | none=>exact un.keep b o e q (by intro z;exact absurd (show b∈([]:List Addr) from z) (by simp)) (by simp)
    | some u =>
     rcases hO b with z|⟨ob,xs,z⟩
     ·rw [q] at z;cases z
     ·have z2:=un.iz b ob _ z;obtain ⟨e1,_⟩:=hok b _ z;obtain ⟨e2,_⟩:=hok' b _ z2;rw [e] at e1;cases e1;exact e2
 cases hk:K.lookup a with
 | some o =>
  have e:=KX a o hk;rw [ha] at e;cases e;refine core (fun _=>none) (fun _=>.inl rfl) (.inr ⟨_,vs.toArray,_,hk,rfl,rfl,rfl,by rw [Ji,lenV];exact hl,by simpa using rv⟩) (fun b u z=>by have z':(none:Option HO)=some u:=z;cases z') (fun b z=>absurd rfl z) fun z=>absurd rfl z
 | none =>
  refine core (fun b=>if b=a then some (.frz { cls:=.type "list",data:=.seq vs.toArray } (.lst (ns.map V.int))) else none) (fun b=>?_) (.inl (.inr ⟨{ cls:=.type "list",data:=.seq vs.toArray },if_pos rfl⟩)) (fun b u z=>?_) (fun b z=>?_) fun _=>hk
  ·by_cases hb:b=a
   ·exact .inr ⟨_,_,if_pos hb⟩
   ·exact .inl (if_neg hb)
  ·by_cases hb:b=a
   ·have z':=(if_pos hb).symm.trans z;cases z';subst hb;exact ⟨ha,by rw [IE];exact hl,vs,_,rv,ha⟩
   ·have z':=(if_neg hb).symm.trans z;cases z'
  ·by_cases hb:b=a
   ·exact hb
   ·exact absurd (if_neg hb) z
def E8 {l:Nn} {n k:Nat} {q:Jc} {loose:List Str} {XP:(Str->Option Value)->Heap->Prop} {YP:World->Heap->Prop} {d:DefRec} {K:Params->IC} {CX:World->CXT} {sp:World->Sp} {x:Str}
  (hn:l.most=some n) (hn2:n<=Jr) (hdf:d.params.defaults=[]) (hr:bY k callerA)
  (hY:∀ (w:World) (h:Heap),YP w h->(K w.params).In h)
  (F:∀ (w:World) (mg:Str->Option Value) (fa:Addr) (h:Heap),(K w.params).In h->h.Ns JN mg->mg d.name=some (.ref fa) ->
   ∃ fd:JR,(∀ (s:IL) (u:Value),Ms s fd ⟨[u],[]⟩ [(x,u)]) /\
    ∀ base:Heap,(K w.params).In base->base.Ns JN mg->aN l.prog w (K w.params) mg base (CX w) k fa fd [x] (sp w))
  (hsp:∀ (w:World) (H:Hp) (a:Addr) (ns:List Int),ns.length<=n->Dv H->SqL (K w.params) H a (ns.map V.int)->sp w [.ref a] H (fun v _=>v=.bl true) fun _ _ _=>False)
  (hCX:∀ (w:World) (H:Hp) (s:IL) (e:Value) (s':IL),CX w [] H s (fun _ _ _=>False) e s'->False) :
  PySem.W.WalkO q loose XP YP l.row.toRowW d [] (fun f vs=>PySem.call f vs):=by
 refine Att.zm hn hdf fun w s₀ s₁ mg mb fa o pm cd doc a vs ns G Y ho hd hcd hmg hobj hints hlen hg=>?_;have KX:=hY w _ Y;obtain ⟨fd,hb,hF⟩:=F w mg fa _ KX G.T.g hmg;exact DJ KX G.T.g G.T.b G.T.builtins G.T.nolimit hg hobj hints (JV hlen hn2) hr hF hb (fun H hO hS=>hsp w H a ns hlen hO hS) fun H e s'=>hCX w H s₁ e s'
def inClass (s:Stmt) (j:Nat):Stmt:=match s with
 | .ClassDef _ _ _ body _ _ _ _ _ _ _=>body.getD j (.Pass ⟨0,0,0,0⟩)
 | _=>.Pass ⟨0,0,0,0⟩
def bI (s:Stmt):Arguments:=match s with
 | .FunctionDef _ a _ _ _ _ _ _ _ _=>a
 | _=>{ posonlyargs:=[],args:=[],vararg:=none,kwonlyargs:=[],kw_defaults:=[],kwarg:=none,defaults:=[] }
def bw (s:Stmt):List Stmt:=match s with
 | .FunctionDef _ _ b _ _ _ _ _ _ _=>b
 | _=>[]
def ag (s:Stmt):Scope:=match s with
 | .FunctionDef _ _ _ _ _ _ sc _ _ _=>sc
 | _=>{ kind:=.function,names:=[],isGenerator:=false,isCoroutine:=false }
abbrev CX0:CXT:=fun _ _ _ _ _ _=>False
abbrev E0:XK:=fun _ _ _=>False
def dX {X:Cx}:Passes CX0 X E0:=fun _ _ _ _ _ _ _ h=>h.elim
structure Fun (K:IC) (x qual:Str) (st:Stmt) (f:Addr) (fd:JR):Prop where
 ex:∃ (oc:Value) (od:Option Addr) (kV doc pm:Value) (an:Option Addr) (cdv ct:Value) (osl:Array (Option Value)),
  fd=JD x qual (bI st) (bw st) (ag st) .none kV doc pm an cdv ct/\K.lookup f=some ⟨oc,od,.func fd,osl⟩/\J9 K cdv qual=true
 kp:JM K (.ref f)=true
section
variable {P:Jc} {w:World} {K:IC} {mg:Str->Option Value} {base:Heap}
def Fun.ok {x qual:Str} {st:Stmt} {f:Addr} {fd:JR} {N ps:List Str} {k:Nat} {sp:Sp} (F:Fun K x qual st f fd) (S:aw N ps (ag st)) (len:∀ vs H Q E,sp vs H Q E->vs.length=ps.length)
  (hbody:∀ (cdv:Value) (A:JF) (outer:List Env) (s:IL) (H:Hp) (vs:List V) (Q:VK) (E:XK),bY k (A.deeper (envOfC qual (ag st) s.heap.objs.size f cdv))->sp vs H Q E ->
   ∃ t,PSs (mz CX0 P w K mg base N qual (ag st) f cdv A outer s H E).nox (bw st) t/\t { nx:=fun _ H'=>Q .non H',rt:=Q } (start N vs) H):aN P w K mg base CX0 (k+1) f fd ps sp:=by
 obtain ⟨oc,od,kV,doc,pm,an,cdv,ct,osl,rfl,lk,hcd⟩:=F.ex;refine EO lk hcd S len fun A outer s H vs Q E hr hsp=>?_;obtain ⟨t,h,q⟩:=hbody cdv A outer s H vs Q E hr hsp;exact ⟨t,h.nox,q⟩
def lN {x qual:Str} {st:Stmt} {f:Addr} {oc:Value} {od an:Option Addr} {osl:Array (Option Value)} {kV doc pm cdv ct:Value} (l:K.lookup f=some ⟨oc,od,.func (JD x qual (bI st) (bw st) (ag st) .none kV doc pm an cdv ct),osl⟩)
  (c:J9 K cdv qual=true) (k:JM K (.ref f)=true):Fun K x qual st f (JD x qual (bI st) (bw st) (ag st) .none kV doc pm an cdv ct):=⟨⟨oc,od,kV,doc,pm,an,cdv,ct,osl,rfl,l,c⟩,k⟩
end
def iP {A:JF} {k:Nat} (hr:bY k A):A.units+1<cLine:=JT (Nat.add_le_add_left (by decide:1<=64) _) hr.units
def BU {n:Nat} (h:n<=1000):n<Jr:=JT h (by decide)
section
variable {X:Cx}
def pv (i:Nat) {x:Str} {pos:Pos} (hN:X.N[i]?=some x:=by rfl) (hv:Vis X.env.scope x:=by first|exact IQ rfl|exact Lb (IQ rfl)|exact Lb (Lb rfl)) (hd:(x == ("__debug__" : Str))=false:=by decide)
  (hcd:(x == ("__classdict__" : Str))=false:=by decide):PE X (.Name x pos) (oo i):=Hu hN hv hd hcd
end
def eU {A B:Prop} (h:B):if false=true then A else B:=by
 rw [if_neg Jd];exact h
def t8 {A B:Prop} (h:A):if true=true then A else B:=by
 rw [if_pos rfl];exact h
def aj (H H':Hp):Prop:=∀ b o,H b=some o->H' b=some o
def aj.refl (H:Hp):aj H H:=fun _ _ h=>h
def aj.trans {H H1 H2:Hp} (a:aj H H1) (b:aj H1 H2):aj H H2:=fun c o h=>b c o (a c o h)
def aj.free {H H':Hp} (e:aj H H') {l:Addr} (h:H' l=Option.none):H l=Option.none:=by
 cases q:H l with
 | none=>rfl
 | some o =>
  rw [e l o q] at h;cases h
def aj.seq {K:IC} {H H':Hp} {a:Addr} {xs:List V} (e:aj H H') (h:SqL K H a xs):SqL K H' a xs:=by
 rcases h with (h|⟨o,h⟩)|h
 ·exact .inl (.inl (e _ _ h))
 ·exact .inl (.inr ⟨o,e _ _ h⟩)
 ·exact .inr h
def dy (env:Env):List (Str×Ln)->List (Str×Addr)->List (Str×Addr)
 | [],acc=>acc
 | (n,k) :: r,acc=>dy env r (if k == .free then (n,(env.cells.lookup n).getD 0) :: acc else acc)
def yD (env:Env):∀ (l:List (Str×Ln)) (acc:List (Str×Addr)),(∀ x∈l,x.2=.free->∃ c,env.cells.lookup x.1=some c) ->
  (forIn l acc (fun x r=>if (x.snd == Ka)=true then (do let c <- cellOf env x.fst;pure (Lg ((x.fst,c) :: r))) else pure (Lg r)):Sem (List (Str×Addr)))=pure (dy env l acc)
 | [],acc,_=>rfl
 | (n,k) :: r,acc,h=>by
  rw [Np];have ih:=yD env r;unfold dy
  by_cases hk:(k == Ka)=true
  ·obtain ⟨c,hc⟩:=h (n,k) IT (by simpa using hk)
   have e:cellOf env n=pure c:=by unfold cellOf;rw [hc]
   have hc':env.cells.lookup n=some c:=hc;dsimp only;rw [if_pos hk,if_pos hk,e,hc'];exact ih _ fun x hx=>h x (IM _ hx)
  ·dsimp only;rw [if_neg hk,if_neg hk];exact ih _ fun x hx=>h x (IM _ hx)
def uj {scope:Scope} {env:Env} (h:∀ x∈scope.names,x.2=.free->∃ c,env.cells.lookup x.1=some c):closureFor scope env=pure (dy env scope.names []):=by
 simp only [closureFor];rw [yD env scope.names [] h];rfl
def qp {env:Env}:∀ (l:List (Str×Ln)) (acc:List (Str×Addr)),(∀ x∈l,x.2=.free->∃ c,env.cells.lookup x.1=some c)->(∀ x c,acc.lookup x=some c->env.cells.lookup x=some c) ->
  ∀ x c,(dy env l acc).lookup x=some c->env.cells.lookup x=some c
 | [],acc,_,ha=>ha
 | (n,k) :: r,acc,h,ha=>by
  unfold dy;refine qp r _ (fun x hx=>h x (IM _ hx)) fun x c e=>?_
  by_cases hk:(k == Ka)=true
  ·rw [if_pos hk] at e;obtain ⟨c',hc⟩:=h (n,k) IT (by simpa using hk)
   have hc':env.cells.lookup n=some c':=hc;rw [JY] at e
   split at e
   ·rename_i q
    have q':x=n:=by simpa using q
    subst q';rw [hc'] at e ⊢
    simpa using e
   ·exact ha x c e
  ·rw [if_neg hk] at e;exact ha x c e
def uZ {env:Env}:∀ (l:List (Str×Ln)) (acc:List (Str×Addr)) (x:Str),(∃ c,acc.lookup x=some c)->∃ c,(dy env l acc).lookup x=some c
 | [],_,_,h=>h
 | (n,k) :: r,acc,x,h=>by
  unfold dy;refine uZ r _ x ?_
  by_cases hk:(k == Ka)=true
  ·rw [if_pos hk,JY]
   split
   ·exact ⟨_,rfl⟩
   ·exact h
  ·rw [if_neg hk];exact h
def kK {env:Env}:∀ (l:List (Str×Ln)) (acc:List (Str×Addr)) (x:Str),(x,Ka)∈l->∃ c,(dy env l acc).lookup x=some c
 | (n,k) :: r,acc,x,h=>by
  unfold dy;rcases JB.mp h with e|h
  ·cases e;refine uZ r _ _ ?_;rw [if_pos (by rfl),JY]
   simp
  ·exact kK r _ x h
def kr {env:Env}:∀ {names:List (Str×Ln)} {x:Str},names.lookup x=some .free ->
  (names.map fun (n,k)=>if (k == Ka && env.scope.kind == .function && env.kindOf n == some .cell) then (n,Kb) else (n,k)).lookup x=some .cell \/
  (names.map fun (n,k)=>if (k == Ka && env.scope.kind == .function && env.kindOf n == some .cell) then (n,Kb) else (n,k)).lookup x=some .free
 | [],_,h=>by simp at h
 | (n,k) :: r,x,h=>by
  rw [JL]
  by_cases hx:(x == n)=true
  ·rw [JY,hx] at h;dsimp only at h ⊢;cases h
   split
   ·rw [JY,hx];exact .inl rfl
   ·rw [JY,hx];exact .inr rfl
  ·have hx':(x == n)=false:=by simpa using hx
   rw [JY,hx'] at h;have ih:=kr (env:=env) (names:=r) (x:=x) h;dsimp only at h ⊢
   split
   ·rw [JY,hx'];exact ih
   ·rw [JY,hx'];exact ih
def jq {env:Env}:∀ {names:List (Str×Ln)} {x:Str},
  ((names.map fun (n,k)=>if (k == Ka && env.scope.kind == .function && env.kindOf n == some .cell) then (n,Kb) else (n,k)).lookup x=some .cell \/
  (names.map fun (n,k)=>if (k == Ka && env.scope.kind == .function && env.kindOf n == some .cell) then (n,Kb) else (n,k)).lookup x=some .free) ->
  (x,Ka)∈names\/(x,Kb)∈names
 | [],_,h=>by simp at h
 | (n,k) :: r,x,h=>by
  rw [JL] at h
  by_cases hx:(x == n)=true
  ·have q':x=n:=by simpa using hx
   dsimp only at h
   split at h
   ·rename_i hc
    have:k=Ka:=by
     cases k <;> simp_all
    subst this q';exact .inl IT
   ·rw [JY,hx] at h;dsimp only at h;subst q';rcases h with h|h
    ·cases h;exact .inr IT
    ·cases h;exact .inl IT
  ·have hx':(x == n)=false:=by simpa using hx
   have ih:=jq (env:=env) (names:=r) (x:=x);dsimp only at h
   split at h
   ·rw [JY,hx'] at h;exact (ih h).elim (fun z=>.inl (IM _ z)) fun z=>.inr (IM _ z)
   ·rw [JY,hx'] at h;exact (ih h).elim (fun z=>.inl (IM _ z)) fun z=>.inr (IM _ z)
def eX (own:List Str) (fr:List Nat) (N:List Str):List Str:=own++fr.map fun i=>(N[i]?).getD ("" : Str)
def bG (own:List Str) (fr:List Nat) (σ:St):St:=own.map (fun _=>none)++fr.map fun i=>(σ[i]?).join
def cD (X:Cx) (scope:Scope) (own:List Str) (fr:List Nat) (C:Addr) (s₂:IL) (H₂:Hp) (fp:List Addr):Cx :=
 { X with N:=eX own fr X.N,s₀:=s₂,H₀:=H₂,env:=compEnvC scope (dy X.env scope.names []) C X.env,outer:=X.stack,ex:=fp,fn:=fun _=>false,pn:=[],xe:=fun _ _=>False }
structure aX (sc:Scope) (N:List Str) (scope:Scope) (own:List Str) (fr:List Nat):Prop where
 kind:scope.kind=.function
 Bx:∀ y∈scope.names,y.2≠.cell
 names:∀ y∈scope.names,y.2=.local->scope.names.lookup y.1=some .local
 free:∀ y∈scope.names,y.2=.free->sc.names.lookup y.1=some .cell\/sc.names.lookup y.1=some .free
 fr0:∀ i∈fr,(N[i]?.bind fun x=>scope.names.lookup x)=some .free
 nd:(eX own fr N).Nodup
def aX.fr {sc:Scope} {N:List Str} {scope:Scope} {own:List Str} {fr:List Nat} (S:aX sc N scope own fr):∀ i∈fr,∃ x,N[i]?=some x/\scope.names.lookup x=some .free:=fun i hi=>by
 have q:=S.fr0 i hi;cases e:N[i]? with
 | none=>rw [e] at q;cases q
 | some x=>rw [e] at q;exact ⟨x,rfl,q⟩
section
variable {X:Cx} {scope:Scope} {own:List Str} {fr:List Nat} {pins:List (Addr×Obj)} {σ:St} {H₂:Hp} {s₂:IL} {fp:List Addr} {C D:Addr} {h₁:Heap} {m:Str->Option Value} {tk:Nat}
def aX.cells (S:aX X.env.scope X.N scope own fr) (ok:X.Ok):∀ x∈scope.names,x.2=.free->∃ c,X.env.cells.lookup x.1=some c:=fun x hx hf=>ok.has x.1 (S.free x hx hf)
def sU {i:Nat} {v:V} (h:(bG own fr σ)[i]?=some (some v)):∃ j,own.length<=i/\fr[i - own.length]?=some j/\σ[j]?=some (some v):=by
 unfold bG at h
 by_cases hi:i<own.length
 ·rw [Jk (by simpa using hi),IJ] at h
  cases e:own[i]? with
  | none=>rw [e] at h;cases h
  | some a=>rw [e] at h;cases h
 ·rw [Jl (by simpa using hi),IJ,IE] at h
  cases e:fr[i - own.length]? with
  | none=>rw [e] at h;cases h
  | some j =>
   rw [e] at h;refine ⟨j,by lia,rfl,?_⟩
   have h':(σ[j]?).join=some v:=by simpa using h
   cases q:σ[j]? with
   | none=>rw [q] at h';cases h'
   | some o=>rw [q] at h';exact congrArg some h'
def DT (S:aX X.env.scope X.N scope own fr) (I:Inv X pins σ H₂ s₂) (f2:∀ b∈fp,ie X pins H₂ b) (fo:∀ b∈fp,b<s₂.heap.objs.size)
  (hC:s₂.heap.objs.size<=C) (hD:s₂.heap.objs.size<=D) (hDC:D≠C) (old:∀ b o,s₂.heap.get? b=some o->h₁.get? b=some o) (hns:h₁.Ns C m) (new:∃ n,h₁.get? D=some { cls:=.type "list",data:=.seq #[] n }) :
  Inv (cD X scope own fr C s₂ H₂ fp) [] (bG own fr σ) (upd H₂ D (.lst [])) { s₂ with heap:=h₁,toks:=tk }:=by
 have hk:=S.cells I.ok;have sub:=qp (env:=X.env) scope.names [] hk (fun x c e=>by cases e)
 have fl:∀ x c,(dy X.env scope.names []).lookup x=some c->∃ v,s₂.heap.IsCell c v:=fun x c e=>I.cell x c (sub x c e);have okX:(cD X scope own fr C s₂ H₂ fp).Ok:=by
  refine ⟨I.ok.mod,S.kind,I.ok.glob,I.ok.blt,hC,fun x y c e1 e2=>I.ok.inj x y c (sub x c e1) (sub y c e2),fun x hx=>?_,fun x c hf=>absurd hf (by intro z;cases z),I.ok.hd,I.ok.frames,.inl rfl,fun b hb=>⟨?_,fun x c e z=>?_⟩,
   I.bs,JV I.ok.bsz I.sz,fun b o e hb=>?_,fun b hb=>?_,I.stack,I.uL⟩
  ·rcases jq hx with z|z
   ·exact kK _ _ _ z
   ·exact absurd rfl (S.Bx _ z)
  ·exact Jm (Ja (fo b hb) hC)
  ·exact (f2 b hb).2.2.2.2.1 x c (sub x c e) z
  ·obtain ⟨_,_,_,f3,_⟩:=f2 b hb;rcases f3 with z|z
   ·exact I.ok.uv b o e z
   ·exact absurd (Ja (IY (I.ok.bs b o e).1) z) (Ki _)
  ·obtain ⟨_,f1,f2',_⟩:=f2 b hb;intro z;rcases JB.mp (I.rB b z) with q|q
   ·exact f1 q
   ·exact f2' q
 have frH:∀ a,s₂.heap.objs.size<=a->H₂ a=none:=fun a h=>I.hok.fresh h;refine ⟨okX,rfl,I.bare,Un.laid old hD (frH D hD),⟨m,hns,fun i x v e1 e2 e3=>?_⟩,fun x c e=>?_,?_,fun x c e=>?_,fun p hp=>absurd (show p∈([]:List (Addr×Obj)) from hp) (by simp),I.hok.laid old hD ?_,?_⟩
 ·obtain ⟨j,hi,hj,hv⟩:=sU e2;have hx:X.N[j]?=some x:=by
   obtain ⟨y,hy,_⟩:=S.fr j (IH hj);have e1':(eX own fr X.N)[i]?=some x:=e1;unfold eX at e1';rw [Jl hi,IJ,hj] at e1';have e1'':(X.N[j]?).getD ("" : Str)=x:=by simpa using e1'
   rw [hy] at e1'' ⊢;exact congrArg some e1''
  obtain ⟨y,hy,hfree⟩:=S.fr j (IH hj);rw [hx] at hy;cases hy;have hkind:X.env.kindOf x=some .cell\/X.env.kindOf x=some .free:=S.free _ (JK hfree) rfl;obtain ⟨mo,hno,hlo⟩:=I.loc;obtain ⟨u,r,l⟩:=hlo j x v hx hv (hkind.elim (fun z=>.inr (.inl z)) fun z=>.inr (.inr z));refine ⟨u,r,.inr ⟨kr hfree,?_⟩⟩;obtain ⟨c,hc⟩:=kK (env:=X.env) scope.names [] x (JK hfree);refine ⟨c,hc,?_⟩;have hc':=sub x c hc;rcases l with ⟨k,_⟩|⟨_,c',e,o,z1,z2⟩
  ·rcases hkind with z|z
   ·rw [k] at z;cases z
   ·rw [k] at z;cases z
  ·rw [hc'] at e;cases e;exact ⟨o,old _ _ z1,z2⟩
 ·obtain ⟨v,o,z1,z2⟩:=fl x c e;exact ⟨v,o,old _ _ z1,z2⟩
 ·show (upd H₂ D (.lst [])) C=none;rw [av (Lr hDC)];exact frH C hC
 ·obtain ⟨v,o,z1,z2⟩:=fl x c e;rw [av (Jm (Ja (IY z1) hD))];exact I.gh x c (sub x c e)
 ·obtain ⟨n,e⟩:=new;exact ⟨J6 _,[],n,.nil,e⟩
 ·show (bG own fr σ).length=(eX own fr X.N).length;simp [bG,eX]
end
def PIf (X:Cx) (ifs:List Expr) (t:TT):Prop :=
 ∀ (pins:List (Addr×Obj)) (s:IL) (σ:St) (H:Hp) (Q:Bool->Hp->Prop),Inv X pins σ H s->t σ H Q ->
  wpAny (model X.prog X.w) X.A (forIn ifs true fun c r=>if r=true then (do let ok <- isTrue c X.env (eval c X.env);pure (Lg ok)) else pure (Lg r)) (TP X pins σ Q) X.xe s
def xG:TT:=fun _ H Q=>Q true H
def bb {X:Cx}:PIf X [] xG:=fun _ _ _ H _ I h=>wpAny_tests_nil ⟨H,I,h⟩
def oP {X:Cx} {c:Expr} {t:TT} (h:PT X c t):PIf X [c] t:=fun pins s σ H Q I hw=>wpAny_tests_one (h pins s σ H Q I hw)
section
variable {prog:Jc} {w:World} {A:JF} {R:NY->IL->Prop} {s:IL}
def vn {elt target iter:Expr} {ifs:List Expr} {scope:Scope} {pos:Pos} {it acc:Value} {env:Env} (J:Nat->IL->Prop)
  (turn:∀ n s,J n s->wpAny (model prog w) A (pyNext it) (fun r s₁=>match r with
   | none=>R (.ok .next) s₁
   | some v=>wpAny (model prog w) A (letOwnedTupleGo target it v) (fun _ s₂=>wpAny (model prog w) A (assign target env v) (fun _ s₃ =>
     wpAny (model prog w) A (forIn ifs true fun c r=>if r=true then (do let ok <- isTrue c env (eval c env);pure (Lg ok)) else pure (Lg r)) (fun ok s₄ =>
      if ok=true then wpAny (model prog w) A (eval elt env) (fun x s₅=>wpAny (model prog w) A (call (.builtin "list.append") [acc,x]) (fun _ s₆=>∃ m,m<n/\J m s₆) (fun _ _=>False) s₅) (fun _ _=>False) s₄
      else ∃ m,m<n/\J m s₄) (fun _ _=>False) s₃) (fun _ _=>False) s₂) (fun _ _=>False) s₁) (fun _ _=>False) s)
  (n:Nat) (h:J n s):codeAny (model prog w) A (.compLoop (.ListComp elt [⟨target,iter,ifs,0⟩] scope pos) 0 it acc env) R s:=by
 refine codeAny_loop rfl J (fun n s hJ=>?_) n h;show wpAny _ A ((compTurn (.ListComp elt [⟨target,iter,ifs,0⟩] scope pos) 0 it acc env).onRaise (fun x=>(do noteFrame x env;theTreesLotGoes x))) _ _ s;have nf:∀ {x:Value} {s':IL},False->notedBy (model prog w) A env (fun e s'=>R (.error e) s') x s':=fun z=>z.elim;refine wpAny_noted ?_;rw [compTurn_list];refine IS (MO (IS (KR (turn n s hJ) (fun r s₁ h₁=>?_) fun _ _ z=>nf z)));cases r with
 | none=>exact Ju h₁
 | some v =>
  refine IS (KR h₁ (fun _ s₂ h₂=>?_) fun _ _ z=>nf z);refine IS (KR h₂ (fun _ s₃ h₃=>?_) fun _ _ z=>nf z);refine IS (KR h₃ (fun ok s₄ h₄=>?_) fun _ _ z=>nf z);cases ok with
  | false=>exact Ju ⟨rfl,h₄⟩
  | true =>
   refine IS (IS (KR h₄ (fun x s₅ h₅=>?_) fun _ _ z=>nf z));exact IS (KR h₅ (fun _ s₆ h₆=>Ju (Ju ⟨rfl,h₆⟩)) fun _ _ z=>nf z)
end
def o7 (own:List Str) (fr:List Nat) (wi:TI) (g:TG) (tt:TT) (te:TE):TE:=fun σ H Q=>wi σ H fun J H1=>∀ D,H1 D=none ->
 ∃ W:Nat->Nat->St->Hp->Prop,(∃ m,W 0 m (bG own fr σ) (upd H1 D (.lst [])))/\∀ i m σ' H',W i m σ' H' ->
  (J.stop i H'/\Q (.ref D) H')\/(J.go i H'/\∀ x H2,J.yld i H' x H2->g x σ' H2 fun σ2 H3=>tt σ2 H3 fun ok H4 =>
   if ok=true then te σ2 H4 fun y H5=>∃ ys,H5 D=some (.lst ys)/\ys.length<Jr/\∃ m',m' < m/\W (i+1) m' σ2 (upd H5 D (.lst (ys++[y]))) else ∃ m',m' < m/\W (i+1) m' σ2 H4)
section
variable {X:Cx} {elt tg iter:Expr} {ifs:List Expr} {scope:Scope} {pos:Pos} {own:List Str} {fr:List Nat} {wi:TI} {g:TG} {tt:TT} {te:TE}
def ve {pins:List (Addr×Obj)} {s:IL} {σ:St} {H:Hp} {Q:VK} {RR:Value->Addr->NY->IL->Prop} (hc:X.calm=true) (S:aX X.env.scope X.N scope own fr) (hi:PI X tg iter wi)
  (hb:∀ C s₂ H₂ fp,PG (cD X scope own fr C s₂ H₂ fp) tg g/\PIf (cD X scope own fr C s₂ H₂ fp) ifs tt/\PE (cD X scope own fr C s₂ H₂ fp) elt te)
  (I:Inv X pins σ H s) (h:o7 own fr wi g tt te σ H Q)
  (hRR:∀ D C s' H' m',Inv X pins σ H' s'->Q (.ref D) H'->ie X pins H' C->s'.heap.Ns C m'->RR (.ref D) C (.ok .next) s') :
  wpAny (model X.prog X.w) X.A (eval iter X.env) (fun v s₁=>wpAny (model X.prog X.w) X.A (pyIter v) (fun it s₂=>wpAny (model X.prog X.w) X.A (newList []) (fun acc s₃ =>
   wpAny (model X.prog X.w) X.A (newFunctionEnv scope X.env.globals (dy X.env scope.names []) [] X.env.qual none .none (some X.env)) (fun cenv s₄ =>
    codeAny (model X.prog X.w) X.A (.compStart (.ListComp elt [⟨tg,iter,ifs,0⟩] scope pos) 0 it acc { cenv with scope:=relabel scope X.env }) (RR acc cenv.locals) s₄) X.xe s₃) X.xe s₂) X.xe s₁) X.xe s:=by
 refine thn (hi pins s σ H _ I h) fun v s1 h1=>thn h1 fun itv s2 h2=>?_;obtain ⟨it,fp,tn,J,H2,e,I2,T,st2,f2,hq⟩:=h2;subst e;refine Mw (wpAny_newFunctionEnv S.Bx (by intro y hy;simp at hy) (fun h₁ hns₁ hsb₁=>?_) S.kind)
 dsimp only at hns₁ hsb₁ ⊢;have hD:=I2.hok.fresh (IV s2.heap.objs.size);obtain ⟨W,⟨m0,w0⟩,turn⟩:=hq s2.heap.objs.size hD;generalize hH2:s2.heap.push { cls:=.type "list",dict:=none,data:=.seq ([]:List Value).toArray }=G at hns₁ hsb₁ ⊢;have hG:G.objs.size=s2.heap.objs.size+1:=by rw [<- hH2,Le]
 have hDC:s2.heap.objs.size≠G.objs.size:=by rw [hG];exact Jm (Lw _)
 have hC:s2.heap.objs.size<=G.objs.size:=by rw [hG];exact LR _
 have old:∀ b o,s2.heap.get? b=some o->h₁.get? b=some o:=fun b o e =>
  hsb₁.extBut b o (by rw [hG];exact Jm (MD (IY e))) (IU _ (hH2 ▸ IU _ e))
 have new:h₁.get? s2.heap.objs.size=some { cls:=.type "list",data:=.seq #[] 0 }:=hsb₁.extBut _ _ hDC (IU _ (hH2 ▸ JJ _ rfl));have fo:∀ b∈fp,b<s2.heap.objs.size:=fun b hb'=>let ⟨o,e,_⟩:=T.obj 0 _ st2 b hb';IY e;have I4:Inv (cD X scope own fr G.objs.size s2 H2 fp) [] (bG own fr σ) (upd H2 s2.heap.objs.size (.lst [])) { s2 with heap:=h₁,toks:=s2.toks+([]:List (Str×Value)).length } :=
  DT S I2 f2 fo hC (IV _) hDC old hns₁ ⟨_,new⟩
 obtain ⟨hg,ht,he⟩:=hb G.objs.size s2 H2 fp;have fpX:∀ {H':Hp},(∀ b∈fp,H' b=none)->∀ b∈fp,ie (cD X scope own fr G.objs.size s2 H2 fp) [] H' b:=fun {H'} hn b hb'=>by
  refine ⟨hn b hb',Jm (Ja (fo b hb') hC),I4.ok.tW b hb',.inl hb',(I4.ok.exf b hb').2,fun p hp=>absurd (show p∈([]:List (Addr×Obj)) from hp) (by simp)⟩
 have fr0:∀ b∈fp,(upd H2 s2.heap.objs.size (.lst [])) b=none:=fun b hb'=>by
  rw [av (Jm (fo b hb'))];exact (f2 b hb').1
 have tn0:tn 0 h₁:=T.keep _ _ _ st2 fun b hb' o e=>old b o e;have loop:codeAny (model X.prog X.w) X.A (.compLoop (.ListComp elt [⟨tg,iter,ifs,0⟩] scope pos) 0 (.ref it) (.ref s2.heap.objs.size) (compEnvC scope (dy X.env scope.names []) G.objs.size X.env))
   (RR (.ref s2.heap.objs.size) G.objs.size) { s2 with heap:=h₁,toks:=s2.toks+([]:List (Str×Value)).length }:=by
  refine vn (fun n s'=>∃ i σ' H',Inv (cD X scope own fr G.objs.size s2 H2 fp) [] σ' H' s'/\tn i s'.heap/\(∀ b∈fp,H' b=none)/\W i n σ' H') ?_ m0 ⟨0,_,_,I4,tn0,fr0,w0⟩;rintro n s3 ⟨i,σ3,H3,I3,st3,fr3,w3⟩;have nfp:∀ {H':Hp} {s':IL} {σ':St} {pl:List (Addr×Obj)},Inv (cD X scope own fr G.objs.size s2 H2 fp) pl σ' H' s'->pl=jf fp s'.heap->True:=fun _ _=>trivial;rcases turn i n σ3 H3 w3 with ⟨stop,qn⟩|⟨go,step⟩
  ·refine thn (T.done (cD X scope own fr G.objs.size s2 H2 fp) rfl rfl rfl hc i [] s3 σ3 H3 (fun _ _=>False) I3 (fpX fr3) st3 stop) fun r s4 ⟨hr,I5⟩=>?_;subst hr;have IX:Inv X pins σ H3 s4:=I2.E2 (ch:=fp) I5.os I5.base I5.hok I5.bare fun b hb'=>let ⟨_,f1,_,f3,f4,f5⟩:=f2 b hb';⟨f3,f1,f4,f5⟩;obtain ⟨m',hn',_⟩:=I5.loc;exact hRR _ _ _ _ m' IX qn (I2.pX hC I5.free) hn'
  ·refine thn (T.item (cD X scope own fr G.objs.size s2 H2 fp) rfl rfl rfl hc i [] s3 σ3 H3 (fun _ _=>False) I3 (fpX fr3) st3 go) fun r s4 ⟨u,hr,h4⟩=>?_;subst hr;refine thn h4 fun _ s5 ⟨x,H5,I5,r5,y5,st5,fr5⟩=>?_;have I5':=I5.pinned (fpX fr5) (T.obj _ _ st5);refine thn (hg _ s5 σ3 H5 x u _ I5' r5 (step x H5 y5)) fun _ s6 ⟨σ6,H6,I6,q6⟩=>?_;have again:∀ {s7:IL} {σ7:St} {H7:Hp} {m':Nat},Inv (cD X scope own fr G.objs.size s2 H2 fp) ([]++jf fp s5.heap) σ7 H7 s7->m' < n->W (i+1) m' σ7 H7 ->
     ∃ m,m<n/\∃ i σ' H',Inv (cD X scope own fr G.objs.size s2 H2 fp) [] σ' H' s7/\tn i s7.heap/\(∀ b∈fp,H' b=none)/\W i m σ' H':=fun {s7 σ7 H7 m'} I7 hm w7=>by
    refine ⟨m',hm,i+1,σ7,H7,I7.ku,T.keep _ _ _ st5 fun b hb' o e=>(I7.pin (b,o) (Jx _ (Jx _ (fN hb' e)))).1,fun b hb'=>?_,w7⟩;obtain ⟨o,e,d⟩:=T.obj _ _ st5 b hb';exact (I7.pin (b,o) (Jx _ (Jx _ (fN hb' e)))).2.1
   refine thn (ht _ s6 σ6 H6 _ I6 q6) fun ok s7 ⟨H7,I7,q7⟩=>?_;cases ok with
   | false =>
    rw [if_neg Jd] at q7 ⊢;obtain ⟨m',hm,w7⟩:=q7;exact again I7 hm w7
   | true =>
    rw [if_pos rfl] at q7 ⊢;refine thn (he _ s7 σ6 H7 _ I7 q7) fun y s8 ⟨yv,H8,I8,r8,q8⟩=>?_;obtain ⟨ys,hy,hl,m',hm,w8⟩:=q8;refine thn (cc _ s8 σ6 H8 (.ref s2.heap.objs.size) [yv] _ [y] (fun _ H9=>H9=upd H8 s2.heap.objs.size (.lst (ys++[yv]))) I8 rfl (.cons r8 .nil) ⟨_,ys,yv,rfl,rfl,hy,hl,rfl⟩) fun _ s9 ⟨_,H9,I9,_,e9⟩=>?_;subst e9;exact again I9 hm w8
 exact M7 loop (T.self X.A 0 _ _ _ tn0 loop)
def bE (hc:X.calm=true) (S:aX X.env.scope X.N scope own fr) (hi:PI X tg iter wi)
  (hb:∀ C s₂ H₂ fp,PG (cD X scope own fr C s₂ H₂ fp) tg g/\PIf (cD X scope own fr C s₂ H₂ fp) ifs tt/\PE (cD X scope own fr C s₂ H₂ fp) elt te)
  (hs:∀ x,foldedSetIterable iter X.env x=pure x:=by intro _;rfl):PE X (.ListComp elt [⟨tg,iter,ifs,0⟩] scope pos) (o7 own fr wi g tt te):=by
 intro pins s σ H Q I h;rw [eval_ListComp];refine Lz (use:=none) rfl hs (uj (S.cells I.ok)) S.kind S.names ?_;refine ve (RR:=fun acc C=>compPost (model X.prog X.w) X.A X.xe none (EP X pins σ Q) acc C) hc S hi hb I h ?_;intro D C s' H' m' I' q f hn;obtain ⟨f0,f1,f2,f3,f4,f5⟩:=f;exact ⟨m',hn,fun h' sb=>⟨.ref D,H',I'.turned (t':=s'.toks) (fun b o hb e=>(sb.2 b hb).trans e) f0 f1 f3 f4 f5,rfl,q⟩⟩
def cv {i:Nat} {y:Str} {py iG:Pos} (hc:X.calm=true) (hN:X.N.Nodup) (hi':X.N[i]?=some y) (hy:Loc X.env.scope y) (S:aX X.env.scope X.N scope own fr) (hi:PI X tg iter wi)
  (hb:∀ C s₂ H₂ fp,PG (cD X scope own fr C s₂ H₂ fp) tg g/\PIf (cD X scope own fr C s₂ H₂ fp) ifs tt/\PE (cD X scope own fr C s₂ H₂ fp) elt te)
  (hsw:swapsWith (.ListComp elt [⟨tg,iter,ifs,0⟩] scope pos) (some (.Name y py)) iG.line X.env=pure true)
  (hs:∀ x,foldedSetIterable iter X.env x=pure x:=by intro _;rfl) (hf:X.fn y=true\/X.env.scope.names.lookup y=some .local:=by first|exact .inl rfl|exact .inr rfl|assumption) :
  PS X (.Assign [.Name y py] (.ListComp elt [⟨tg,iter,ifs,0⟩] scope pos) iG) (Ae (o7 own fr wi g tt te) (da i)):=by
 intro pins s σ H D I h;rw [exec_Assign_Name_used _ _ _ _ hsw];refine IS (MO (IS ?_));show wpAny _ X.A (do let _ <- comprehension (.ListComp elt [⟨tg,iter,ifs,0⟩] scope pos) scope X.env _ (newList []) false (eval iter X.env) (some (assign (.Name y py) X.env))) _ _ s;refine IS (KR (Lz (use:=some (assign (.Name y py) X.env)) (Q:=fun _ s'=>SP X pins D .next s') rfl hs (uj (S.cells I.ok)) S.kind S.names ?_) (fun _ s' hq=>Ju (Ju hq)) fun _ _ e=>e);refine ve (RR:=fun acc C=>compPost (model X.prog X.w) X.A X.xe (some (assign (.Name y py) X.env)) (fun _ s'=>SP X pins D .next s') acc C) hc S hi hb I h ?_;intro D' C s' H' m' I' q f hn;show wpAny _ _ (assign (.Name y py) X.env (.ref D')) _ _ _;refine wpAny_assign_Name (u9 I' hN hi' hy (v:=.ref D') rfl (fun s2 I2 ⟨a,sb,ha⟩=>?_) hf);obtain ⟨f0,f1,f2,f3,f4,f5⟩:=f;have hCa:C≠a:=by
  rcases ha with e|e
  ·rw [e];exact f1
  ·exact fun z=>f4 y a e z.symm
 refine ⟨m',hn.sameBut sb hCa,fun h' sb'=>?_⟩;exact ⟨_,H',I2.turned (t':=s2.toks) (fun b o hb e=>(sb'.2 b hb).trans e) f0 f1 f3 f4 f5,q⟩
end
class Rep (α:Type) where
 is:IC->Hp->V->α->Prop
 mono:∀ {K:IC} {H H':Hp} {v:V} {a:α},aj H H'->is K H v a->is K H' v a
instance:Rep Int:=⟨fun _ _ v a=>v=.int a,fun _ h=>h⟩
instance:Rep Nat:=⟨fun _ _ v a=>v=.int (a:Int),fun _ h=>h⟩
instance:Rep Bool:=⟨fun _ _ v a=>v=.bl a,fun _ h=>h⟩
def Paired.get {α β:Type} {F:α->β->Prop}:∀ {l₁:List α} {l₂:List β} {i:Nat} {b:β},Kr F l₁ l₂->l₂[i]?=some b->∃ a,l₁[i]?=some a/\F a b
 | _,_,_,_,.nil,e=>by simp at e
 | _,_,0,_,.cons r _,e=>by simp at e;subst e;exact ⟨_,rfl,r⟩
 | _,_,i+1,b,.cons _ t,e=>by
  obtain ⟨a,h1,h2⟩:=Paired.get (i:=i) (b:=b) t (by simpa using e)
  exact ⟨a,by simpa using h1,h2⟩
def Paired.getL {α β:Type} {F:α->β->Prop}:∀ {l₁:List α} {l₂:List β} {i:Nat} {a:α},Kr F l₁ l₂->l₁[i]?=some a->∃ b,l₂[i]?=some b/\F a b
 | _,_,_,_,.nil,e=>by simp at e
 | _,_,0,_,.cons r _,e=>by simp at e;subst e;exact ⟨_,rfl,r⟩
 | _,_,i+1,b,.cons _ t,e=>by
  obtain ⟨a,h1,h2⟩:=Paired.getL (i:=i) (a:=b) t (by simpa using e)
  exact ⟨a,by simpa using h1,h2⟩
def Paired.app {α β:Type} {F:α->β->Prop}:∀ {l₁ l₃:List α} {l₂ l₄:List β},Kr F l₁ l₂->Kr F l₃ l₄->Kr F (l₁++l₃) (l₂++l₄)
 | _,_,_,_,.nil,s=>s
 | _,_,_,_,.cons r t,s=>.cons r (Paired.app t s)
def Paired.wH {α β:Type} {F:α->β->Prop}:∀ {l₁:List α} {l₂:List β} (n:Nat),Kr F l₁ l₂->Kr F (l₁.take n) (l₂.take n)
 | _,_,0,_=>.nil
 | _,_,_+1,.nil=>.nil
 | _,_,n+1,.cons r t=>.cons r (Paired.wH n t)
def Paired.wN {α β:Type} {F:α->β->Prop}:∀ {l₁:List α} {l₂:List β} (n:Nat),Kr F l₁ l₂->Kr F (l₁.drop n) (l₂.drop n)
 | _,_,0,r=>r
 | _,_,_+1,.nil=>.nil
 | _,_,n+1,.cons _ t=>Paired.wN n t
def Paired.of_map {α β γ:Type} {F:α->β->Prop} {f:γ->α} {g:γ->β} (h:∀ c,F (f c) (g c)):∀ l:List γ,Kr F (l.map f) (l.map g)
 | []=>.nil
 | c :: r=>.cons (h c) (Paired.of_map h r)
instance {α:Type} [Rep α]:Rep (List α) :=
 ⟨fun K H v l=>∃ p xs,v=.ref p/\SqL K H p xs/\Kr (Rep.is K H) xs l,fun e ⟨p,xs,h1,h2,h3⟩=>⟨p,xs,h1,e.seq h2,Paired.cY h3 fun _ _ q=>Rep.mono e q⟩⟩
def aj.tup {K:IC} {H H':Hp} {a:Addr} {xs:List V} (e:aj H H') (h:SqT K H a xs):SqT K H' a xs:=by
 rcases h with (h|⟨o,h⟩)|h
 ·exact .inl (.inl (e _ _ h))
 ·exact .inl (.inr ⟨o,e _ _ h⟩)
 ·exact .inr h
instance {α β:Type} [Rep α] [Rep β]:Rep (α×β) :=
 ⟨fun K H v l=>∃ p x y,v=.ref p/\SqT K H p [x,y]/\Rep.is K H x l.1/\Rep.is K H y l.2,fun e ⟨p,x,y,h1,h2,h3,h4⟩=>⟨p,x,y,h1,e.tup h2,Rep.mono e h3,Rep.mono e h4⟩⟩
abbrev At {α:Type} [Rep α] (K:IC) (H:Hp) (v:V) (a:α):Prop:=Rep.is K H v a
def FZ {K:IC} {H:Hp} {p:Addr} {ns:List Int} (h:SqL K H p (ns.map V.int)):At K H (.ref p) ns:=⟨p,_,rfl,h,by
 have q:=Paired.of_map (F:=fun (v:V) (a:Int)=>v=.int a) (f:=V.int) (g:=id) (fun _=>rfl) ns;rw [MT] at q;exact q⟩
def lY {K:IC} {H:Hp} {v:V} {ns:List Nat} (h:At K H v ns):∃ p,v=.ref p/\SqL K H p (ns.map fun (n:Nat)=>V.int (n:Int)):=by
 obtain ⟨p,xs,rfl,hS,hP⟩:=h;refine ⟨p,rfl,?_⟩;have e:xs=ns.map fun (n:Nat)=>V.int (n:Int):=by
  clear hS
  induction hP with
  | nil=>rfl
  | cons r _ ih=>rw [JL,<- ih];exact congrArg (· :: _) r
 rw [<- e];exact hS
def At.item {α:Type} [Rep α] {K:IC} {H:Hp} {v:V} {l:List α} {i:Nat} {a:α} (h:At K H v l) (e:l[i]?=some a):∃ p xs x,v=.ref p/\SqL K H p xs/\atI xs (i:Int)=some x/\At K H x a:=by
 obtain ⟨p,xs,rfl,hS,hP⟩:=h;obtain ⟨x,hx,r⟩:=Paired.get hP e;exact ⟨p,xs,x,rfl,hS,iL hx,r⟩
def At.len {α:Type} [Rep α] {K:IC} {H:Hp} {v:V} {l:List α} (h:At K H v l):∃ p xs,v=.ref p/\SqL K H p xs/\xs.length=l.length:=by
 obtain ⟨p,xs,rfl,hS,hP⟩:=h;exact ⟨p,xs,rfl,hS,hP.length⟩
class bV (α:Type) [Rep α] [DecidableEq α] where
 depth:Nat
 inj:∀ {X:Cx} {pins:List (Addr×Obj)} {σ:St} {H:Hp} {s:IL} {x:V} {a b:α},Inv X pins σ H s->At X.K H x a->At X.K H x b->a=b
 eq:∀ {X:Cx} {pins:List (Addr×Obj)} {σ:St} {H:Hp} {s:IL} {A:JF} {x y:V} {u v:Value} {a b:α},Inv X pins σ H s->At X.K H x a->At X.K H y b->RelV x u->RelV y v->A.units+depth<cLine ->
  N3 A s u v (decide (a=b))
instance:bV Int where
 depth:=0
 inj:=fun _ h h'=>by cases h;cases h';rfl
 eq:=fun {X pins σ H s A x y u v a b} _ hx hy ru rv _=>by
  cases hx;cases hy;have q:=xX (A:=A) (s:=s) ru rv rfl rfl;have e:eqV (.int a) (.int b)=decide (a=b):=rfl;rw [e] at q;exact q
instance:bV Nat where
 depth:=0
 inj:=fun _ h h'=>by
  have q:=(show _=V.int _ from h).symm.trans (show _=V.int _ from h');injection q with q;exact NZ q
 eq:=fun {X pins σ H s A x y u v a b} _ hx hy ru rv _=>by
  cases hx;cases hy;have q:=xX (A:=A) (s:=s) ru rv rfl rfl;have e:eqV (.int (a:Int)) (.int (b:Int))=decide (a=b):=by
   show decide ((a:Int)=(b:Int))=decide (a=b);exact decide_eq_decide.mpr Int.ofNat_inj
  rw [e] at q;exact q
def DD {A:JF} {n:Nat} (h:A.units+(n+1)<cLine):A.in1.units+n<cLine:=by
 show A.units+1+n<cLine;lia
def mP {X:Cx} {pins:List (Addr×Obj)} {σ:St} {H:Hp} {s:IL} {α:Type} [Rep α] [DecidableEq α] [bV α] (I:Inv X pins σ H s) :
  ∀ {xs:List V} {as bs:List α},Kr (Rep.is X.K H) xs as->Kr (Rep.is X.K H) xs bs->as=bs
 | _,_,_,.nil,.nil=>rfl
 | _,_,_,.cons r t,.cons r' t'=>by rw [bV.inj I r r',mP I t t']
def range_all {α:Type} [DecidableEq α]:∀ (as bs:List α),as.length=bs.length->((IF as.length).all fun j=>decide (as[j]?=bs[j]?))=decide (as=bs):=by
 intro as bs hl;rw [Kn];simp only [Jq,IK,decide_eq_true_eq];constructor
 ·intro h;refine List.ext_getElem? fun i=>?_
  by_cases hi:i<as.length
  ·exact h i hi
  ·rw [Kz (by lia),Kz (by lia)]
 ·intro h i _;rw [h]
def zZ {X:Cx} {pins:List (Addr×Obj)} {σ:St} {H:Hp} {s:IL} {A:JF} {α:Type} [Rep α] [DecidableEq α] [bV α] {p q:Addr} {xs ys:List V} {as bs:List α}
  (I:Inv X pins σ H s) (h1:SqL X.K H p xs) (r1:Kr (Rep.is X.K H) xs as) (h2:SqL X.K H q ys) (r2:Kr (Rep.is X.K H) ys bs) (hu:A.units+(bV.depth α+1)<cLine) (hl:as.length=bs.length) :
  ∃ its its2:List Value,s.heap.IsList p its.toArray/\s.heap.IsList q its2.toArray/\its.toArray.size=its2.toArray.size/\its.toArray.size=as.length /\
   ∀ j (h1:j<its.toArray.size) (h2:j<its2.toArray.size),N3 A.in1 s its.toArray[j] its2.toArray[j] (decide (as[j]?=bs[j]?)):=by
 obtain ⟨its,v1,p1,_⟩:=I.list h1;obtain ⟨its2,v2,p2,_⟩:=I.list h2;have e1:=v1.length;have e2:=v2.length;have e3:=r1.length;have e4:=r2.length;refine ⟨its,its2,p1.isList,p2.isList,by simp;lia,by simp;lia,fun j h1 h2=>?_⟩
 have h1':j<its.length:=by simpa using h1
 have h2':j<its2.length:=by simpa using h2
 have hx:j<xs.length:=by lia
 have hy:j<ys.length:=by lia
 obtain ⟨u,hu1,ru⟩:=v1.get (i:=j) (x:=xs[j]) (by simp [hx])
 obtain ⟨v,hv1,rv⟩:=v2.get (i:=j) (x:=ys[j]) (by simp [hy])
 obtain ⟨a,ha,ra⟩:=Paired.getL r1 (i:=j) (a:=xs[j]) (by simp [hx])
 obtain ⟨b,hb,rb⟩:=Paired.getL r2 (i:=j) (a:=ys[j]) (by simp [hy])
 have eu:its.toArray[j]=u:=by
  have:its[j]?=some its[j]:=by simp [h1']
  rw [this] at hu1
  simpa using hu1
 have ev:its2.toArray[j]=v:=by
  have:its2[j]?=some its2[j]:=by simp [h2']
  rw [this] at hv1
  simpa using hv1
 rw [eu,ev,ha,hb];have z:=bV.eq (A:=A.in1) I ra rb ru rv (DD hu);have e:decide (some a=some b)=decide (a=b):=by simp
 rw [e];exact z
instance {α:Type} [Rep α] [DecidableEq α] [bV α]:bV (List α) where
 depth:=bV.depth α+1
 inj:=fun {X pins σ H s x a b} I h h'=>by
  obtain ⟨p,xs,e,h1,r1⟩:=h;obtain ⟨q,ys,e',h2,r2⟩:=h';subst e;cases e';have:=I.iw h1 h2;subst this;exact mP I r1 r2
 eq:=fun {X pins σ H s A x y u v a b} I hx hy ru rv hu=>by
  obtain ⟨p,xs,e,h1,r1⟩:=hx;obtain ⟨q,ys,e',h2,r2⟩:=hy;subst e e';cases (show u=JC p from ru);cases (show v=JC q from rv)
  by_cases hpq:p=q
  ·subst hpq;have:=I.iw h1 h2;subst this;have:=mP I r1 r2;subst this;rw [decide_eq_true rfl];exact Nm _
  ·refine SeqAt.EqAt.of_refs hpq ?_;have hu0:A.units<cLine:=by lia
   by_cases hl:a.length=b.length
   ·obtain ⟨its,its2,l1,l2,e1,e2,he⟩:=zZ (A:=A) I h1 r1 h2 r2 hu hl;have z:=SeqAt.RcAt.lists l1 l2 e1 hu0 he;rw [e2,range_all a b hl] at z;exact z
   ·obtain ⟨its,v1,p1,_⟩:=I.list h1;obtain ⟨its2,v2,p2,_⟩:=I.list h2;have e1:=v1.length;have e2:=v2.length;have e3:=r1.length;have e4:=r2.length;rw [decide_eq_false (fun z=>hl (by rw [z]))]
    exact SeqAt.RcAt.lists_lengths p1.isList p2.isList (by simp;lia) hu0
def G3 {X:Cx} (α:Type) [Rep α] [DecidableEq α] [bV α] (hu:X.A.units+64<cLine) (hd:bV.depth α<=32:=by decide) :
  OpR X (compareOp .NotEq) (fun x y H Q=>∃ as bs:List α,At X.K H x as/\At X.K H y bs/\Q (.bl (!decide (as=bs))) H):=by
 intro pins s σ H x y u v Q I ru rv h;obtain ⟨as,bs,⟨p,xs,e,h1,r1⟩,⟨q,ys,e',h2,r2⟩,hq⟩:=h;subst e e';cases (show u=JC p from ru);cases (show v=JC q from rv);have hu0:X.A.units<cLine:=by lia
 have fin:∀ k:Bool,Q (.bl k) H->NB k≠Value.notImplemented/\EP X pins σ Q (.bool k) s:=fun k z=>⟨(fun z=>nomatch z),.bl k,H,I,rfl,z⟩
 by_cases hl:as.length=bs.length
 ·obtain ⟨its,its2,l1,l2,e1,e2,he⟩:=zZ (A:=X.A) I h1 r1 h2 r2 (by lia) hl
  obtain ⟨⟨cls,dd,data,sl⟩,ho,hc,n,hd'⟩:=id l1;obtain ⟨⟨cls2,dd2,data2,sl2⟩,ho2,hc2,n2,hd2⟩:=id l2;simp only at hc hd' hc2 hd2;subst hc hd' hc2 hd2;have hq':=fin _ hq;rw [<- range_all as bs hl,<- e2] at hq';exact M8 (op:=.NotEq) ⟨_,ho,rfl⟩ ⟨_,ho2,rfl⟩ F.slot_list_ne F.entry_list_ne (F.args_list_ne_2 _ _) (SeqAt.list_neAt p q _ _ n n2 dd dd2 sl sl2 e1 _) ⟨ho,ho2,he,hq'⟩ hu0
 ·obtain ⟨its,v1,p1,_⟩:=I.list h1;obtain ⟨its2,v2,p2,_⟩:=I.list h2;have e1:=v1.length;have e2:=v2.length;have e3:=r1.length;have e4:=r2.length;rw [decide_eq_false (fun z=>hl (by rw [z]))] at hq
  obtain ⟨⟨cls,dd,data,sl⟩,ho,hc,n,hd'⟩:=id p1.isList;obtain ⟨⟨cls2,dd2,data2,sl2⟩,ho2,hc2,n2,hd2⟩:=id p2.isList;simp only at hc hd' hc2 hd2;subst hc hd' hc2 hd2;exact M8 (op:=.NotEq) ⟨_,ho,rfl⟩ ⟨_,ho2,rfl⟩ F.slot_list_ne F.entry_list_ne (F.args_list_ne_2 _ _) (SeqAt.list_ne_lengthsAt p q _ _ n n2 dd dd2 sl sl2 (by simp;lia)) ⟨ho,ho2,fin _ hq⟩ hu0
def zo {X:Cx}:de X (.builtin "isinstance") (fun xs H Q=>∃ x n t b,xs=[x,.ty n]/\gm X.K H x t/\Mr X.K t (.type n)=some b/\Q (.bl b) H):=by
 intro pins s σ H xs us Q I r h;obtain ⟨x,n,t,b,rfl,ty,e,q⟩:=h;obtain ⟨u,v,rfl,ru,rv⟩:=r.two;cases (show v=Value.type n from rv);exact CH I ru ty e fun tk=>⟨.bl b,H,I.tok tk,rfl,q⟩
structure Df (K:IC) (mg:Str->Option Value) (x:Str) (st:Stmt) (ps:List Str) where
 f:Addr
 fd:JR
 fn:Fun K x x st f fd
 bd:Binds K fd ps []
 nm:mg x=some (.ref f)
section
variable {X:Cx} {x:Str} {st:Stmt} {ps:List Str} {k:Nat} {sp:Sp} {p pos:Pos} {e:Expr} {es:List Expr} {t:TA}
def HL (d:Df X.K X.mg x st ps) (G:aN X.prog X.w X.K X.mg X.base CX0 k d.f d.fd ps sp) (hr:bY k X.A) (hg:Gl X x) (ha:PA X (e :: es) t) (hdb:(x == ("__debug__" : Str))=false:=by decide)
  (he:JP (e :: es) X.env=(false,eval e X.env) :: JP es X.env:=by rfl) (hpl:(backTo pos (JP es X.env)).any (·.1)=false:=by rfl) :
  PE X (.Call (.Name x p) (e :: es) [] pos) (oS sp [] E0 t):=zW G hr hg d.nm d.fn.kp d.bd .nil dX ha hdb he hpl
end
def Df.ok {P:Jc} {w:World} {K:IC} {mg:Str->Option Value} {base:Heap} {x:Str} {st:Stmt} {N ps:List Str} {k:Nat} {sp:Sp} (d:Df K mg x st ps) (S:aw N ps (ag st)) (len:∀ vs H Q E,sp vs H Q E->vs.length=ps.length)
  (hbody:∀ (cdv:Value) (A:JF) (outer:List Env) (s:IL) (H:Hp) (vs:List V) (Q:VK) (E:XK),bY k (A.deeper (envOfC x (ag st) s.heap.objs.size d.f cdv))->sp vs H Q E ->
   ∃ t,PSs (mz CX0 P w K mg base N x (ag st) d.f cdv A outer s H E).nox (bw st) t/\t { nx:=fun _ H'=>Q .non H',rt:=Q } (start N vs) H):aN P w K mg base CX0 (k+1) d.f d.fd ps sp :=
 d.fn.ok S len hbody
def aE {H:Hp} {p:Addr} (h:H p=none) (o:HO):aj H (upd H p o):=fun b u q=>by rw [av (az q h)];exact q
def small {n:Nat} (h:n<=1000):n<=Jr:=K6 (BU h)
def isB (x:V) (H:Hp) (QB:Bool->Hp->Prop):Prop:=∃ k,x=.bl k/\QB k H
abbrev isF (K:IC) (f:Str) (x:V) (H1:Hp) (Q:VK):Prop:=∃ a C dx fs v,x=.ref a/\H1 a=some (.ins C dx fs)/\Cls K C/\a0 K C f/\fs.lookup f=some v/\Q v H1
def isI (x:V) (H:Hp) (QO:Option Int->Hp->Prop):Prop:=∃ i,x=.int i/\QO (some i) H
def kQ (g:TG) (t:TS) (D:Ends) (σ:St):It->Hp->Prop:=fun J H1=>∃ W:Nat->Nat->St->Hp->Prop,(∃ m,W 0 m σ H1)/\∀ i m σ H,W i m σ H ->
  (J.stop i H/\D.nx σ H)\/(J.go i H/\∃ N:St->Hp->Prop,(∀ σ' H',N σ' H'->∃ m',m' < m/\W (i+1) m' σ' H')/\∀ x H',J.yld i H x H'->g x σ H' fun σ2 H2=>t { D with nx:=N,ct:=N,bk:=D.nx } σ2 H2)
def dg (own:List Str) (fr:List Nat) (g:TG) (tt:TT) (ta:TE) (σ:St) (Q:VK):It->Hp->Prop:=fun J H1=>∀ d,H1 d=none->∃ W:Nat->Nat->St->Hp->Prop,(∃ m,W 0 m (bG own fr σ) (upd H1 d (.lst [])))/\∀ i m σ' H',W i m σ' H' ->
  (J.stop i H'/\Q (.ref d) H')\/(J.go i H'/\∀ x H2,J.yld i H' x H2->g x σ' H2 fun σ2 H3=>tt σ2 H3 fun ok H4 =>
   if ok=true then ta σ2 H4 fun y H5=>∃ ys,H5 d=some (.lst ys)/\ys.length<Jr/\∃ m',m' < m/\W (i+1) m' σ2 (upd H5 d (.lst (ys++[y]))) else ∃ m',m' < m/\W (i+1) m' σ2 H4)
def gG (K:IC) (x:V) (H:Hp) (R:It->Hp->Prop):Prop:=∃ a,x=.ref a/\(∃ xs,SqL K H a xs)/\R (Itl K a) H
def uw (vs:List V) (H:Hp) (R:It->Hp->Prop):Prop:=∃ j:Int,vs=[.int j]/\-(2 ^ 62)<=j/\j<2 ^ 62/\R (Itr 0 j.toNat) H
section
variable {σ:St} {H:Hp} {Q:VK} {QB:Bool->Hp->Prop} {D:Ends} {K:IC} {t u:TS} {ta tb tc:TE} {g:TG} {i:Nat} {v x y:V} {tt tu:TT} {tA:TA} {a b:Int}
def sL (h:D.nx σ H):EA D σ H:=h
def wJ (h:ta σ H fun x H1=>g x σ H1 D.nx):Ae ta g D σ H:=h
def om {QS:St->Hp->Prop} (h:QS (σ.set i (some v)) H):da i v σ H QS:=h
def rN (h:ta σ H fun _ H1=>D.nx σ H1):EM ta D σ H:=h
def wB (h:ta σ H D.rt):Hb ta D σ H:=h
def Et (h:tt σ H fun b H1=>if b=true then t D σ H1 else u D σ H1):C0 tt t u D σ H:=h
def kS (J:St->Hp->Prop) (main:∀ N:St->Hp->Prop,(∀ σ' H',J σ' H'->N σ' H')->tt σ H fun b H1=>if b=true then t { D with nx:=N } σ H1 else u { D with nx:=N } σ H1)
  (key:∀ σ' H',J σ' H'->D.nx σ' H'):C0 tt t u D σ H:=main D.nx key
def wg (e:σ[i]?=some (some v)) (h:Q v H):oo i σ H Q:=⟨v,e,h⟩
def r_C (h:Q v H):tC v σ H Q:=h
def Bj {r:R2} (h:ta σ H fun x H1=>tb σ H1 fun y H2=>r x y H2 Q):tOp r ta tb σ H Q:=h
def wL {f:Int->Int->V} (h:Q (f a b) H):rI0 f (.int a) (.int b) H Q:=⟨a,b,rfl,rfl,h⟩
def ir {C:Int->Int->Prop} {f:Int->Int->V} (c:C a b) (h:Q (f a b) H):rI C f (.int a) (.int b) H Q:=⟨a,b,rfl,rfl,c,h⟩
def rM (h:Q (.bl (decide (a=b))) H):rEq (.int a) (.int b) H Q:=⟨rfl,by
 have e:decide (V.int a=V.int b)=decide (a=b):=decide_eq_decide.mpr ⟨fun z=>by injection z,fun z=>by rw [z]⟩
 rw [e];exact h⟩
def r9 (h:Q (.bl (!decide (a=b))) H):rNe (.int a) (.int b) H Q:=⟨rfl,by
 have e:decide (V.int a=V.int b)=decide (a=b):=decide_eq_decide.mpr ⟨fun z=>by injection z,fun z=>by rw [z]⟩
 rw [e];exact h⟩
def rO (h:ta σ H fun x H'=>isB x H' QB):Ep ta σ H QB:=h
def Bc (h:ta σ H fun x H1=>isB x H1 QB):tB ta σ H QB:=h
def Ar {c:Bool} (h:QB c H):isB (.bl c) H QB:=⟨c,rfl,h⟩
def wF (h:tt σ H fun c H1=>if c=true then tu σ H1 QB else QB false H1):Ge tt tu σ H QB:=h
def AO (h:tt σ H fun c H1=>if c=true then QB true H1 else tu σ H1 QB):tOr tt tu σ H QB:=h
def v8 (h:tt σ H fun c H1=>QB (!c) H1):GN tt σ H QB:=h
def rF (h:ta σ H fun x H1=>isB x H1 fun c H1=>if c=true then tb σ H1 Q else Q (.bl false) H1):ER ta tb σ H Q:=h
def wM (h:ta σ H fun x H1=>isB x H1 fun c H1=>if c=true then Q (.bl true) H1 else tb σ H1 Q):GV ta tb σ H Q:=h
def wG {QA:List V->Hp->Prop} (h:QA [] H):qr σ H QA:=h
def rH {QA:List V->Hp->Prop} (h:ta σ H fun x H1=>tA σ H1 fun xs H2=>QA (x :: xs) H2):jE ta tA σ H QA:=h
def AE {r:List V->Hp->VK->Prop} (h:tA σ H fun vs H1=>r vs H1 Q):tCB r tA σ H Q:=h
def sE {sp:Sp} {E:XK} (h:tA σ H fun vs H1=>sp (vs++[]) H1 Q E):oS sp [] E tA σ H Q:=h
def i3 (h:tA σ H fun xs H1=>xs.length<=Jr/\∀ p,H1 p=none->Q (.ref p) (upd H1 p (.lst xs))):xk tA σ H Q:=h
def jK (h:tA σ H fun xs H1=>xs.length<=Jr/\∀ p,H1 p=none->Q (.ref p) (upd H1 p (.tup xs))):D9 tA σ H Q:=h
def wz (h:ta σ H fun x H1=>Q (.bl (decide (x=.non))) H1):GY ta σ H Q:=h
def qI (h:ta σ H fun x H1=>Q (.bl (!decide (x=.non))) H1):ED ta σ H Q:=h
def wD {wi:TI} (h:wi σ H (kQ g t D σ)):G9 wi g t D σ H:=h
def pe {R:It->Hp->Prop} (h:ta σ H fun x H1=>gG K x H1 R):Av K ta σ H R:=h
def oI {R:It->Hp->Prop} (h:tA σ H fun vs H1=>uw vs H1 R):AF tA σ H R:=h
def sk {own:List Str} {fr:List Nat} {wi:TI} (h:wi σ H (dg own fr g tt ta σ Q)):o7 own fr wi g tt ta σ H Q:=h
def Aa {r:V->Option Int->Option Int->Hp->VK->Prop} {tl th:TO} (h:ta σ H fun x H1=>tl σ H1 fun l H2=>th σ H2 fun u H3=>r x l u H3 Q):tSl r ta tl th σ H Q:=h
def mG {QO:Option Int->Hp->Prop} (h:QO none H):zP σ H QO:=h
def sh {QO:Option Int->Hp->Prop} (h:ta σ H fun x H1=>isI x H1 QO):E4 ta σ H QO:=h
def rq {QO:Option Int->Hp->Prop} (h:QO (some a) H):isI (.int a) H QO:=⟨a,rfl,h⟩
def A8 {T:String} {r:V->List V->Hp->VK->Prop} (h:ta σ H fun x H1=>tyV K T x H1/\tA σ H1 fun xs H2=>r x xs H2 Q):tBM K T r ta tA σ H Q:=h
def wI {f:Str} (h:ta σ H fun x H1=>isF K f x H1 Q):DU K ta f σ H Q:=h
def qO {C:Addr} {sp:Sp} {dvs:List V} {E:XK} (h:tA σ H fun vs H1=>∀ x dx,H1 x=none->H1 dx=none->dx≠x->sp (.ref x :: (vs++dvs)) (upd (upd H1 dx (.own x)) x (.ins C dx [])) (fun v H2=>v=.non/\Q (.ref x) H2) E):Bb C sp dvs E tA σ H Q:=h
def rT {f:Str} (h:tb σ H fun y H1=>ta σ H1 fun x H2=>∃ a C dx fs,x=.ref a/\H2 a=some (.ins C dx fs)/\Cls K C/\a0 K C f/\fs.length<1000/\D.nx σ (upd H2 a (.ins C dx (cE f y fs)))):D7 K ta tb f D σ H:=h
def c7 {α:Type} [Rep α] {l:List α} {n:Nat} {c:α} (h:At K H v l) (e:a=(n:Int)) (hn:l[n]?=some c) (q:∀ w,At K H w c->Q w H):oF K v (.int a) H Q:=by
 obtain ⟨p,xs,x,rfl,hS,hx,hc⟩:=h.item hn;subst e;exact ⟨p,xs,_,x,rfl,rfl,hS,hx,q x hc⟩
def gZ {l:List Nat} {n c:Nat} (h:At K H v l) (e:a=(n:Int)) (hn:l[n]?=some c) (q:Q (.int (c:Int)) H):oF K v (.int a) H Q :=
 c7 h e hn fun w hw=>by cases (show w=V.int (c:Int) from hw);exact q
def HG {l:List Int} {n:Nat} {c:Int} (h:At K H v l) (e:a=(n:Int)) (hn:l[n]?=some c) (q:Q (.int c) H):oF K v (.int a) H Q :=
 c7 h e hn fun w hw=>by cases (show w=V.int c from hw);exact q
def bR {n:Nat} (e:a=(n:Int)) (hn:n<=1000000) (Pv:Nat->St->Hp->Prop) (h0:Pv 0 σ H)
  (hs:∀ i σ' H',i<n->Pv i σ' H'->g (.int (i:Int)) σ' H' fun σ2 H2=>t { D with nx:=Pv (i+1),ct:=Pv (i+1),bk:=D.nx } σ2 H2) (hd:∀ σ' H',Pv n σ' H'->D.nx σ' H') :
  uw [.int a] H (kQ g t D σ):=by
 subst e;refine ⟨n,rfl,by lia,by lia,?_⟩
 have z:((n:Int)).toNat=n:=by lia
 show kQ g t D σ (Itr 0 (n:Int).toNat) H;rw [z];exact BZ Pv h0 (fun i σ' H' hi p=>by rw [Oc];exact hs i σ' H' hi p) hd
def jT {α:Type} [Rep α] {l:List α} (h:At K H v l) (Pv:Nat->St->Hp->Prop) (h0:Pv 0 σ H) (hl:∀ i σ' H',Pv i σ' H'->aj H H')
  (hs:∀ i c w σ' H',l[i]?=some c->At K H' w c->Pv i σ' H'->g w σ' H' fun σ2 H2=>t { D with nx:=Pv (i+1),ct:=Pv (i+1),bk:=D.nx } σ2 H2) (hd:∀ σ' H',Pv l.length σ' H'->D.nx σ' H') :
  gG K v H (kQ g t D σ):=by
 obtain ⟨p,xs,rfl,hS,hP⟩:=h;refine ⟨p,rfl,⟨xs,hS⟩,qD (K:=K) (a:=p) (xs:=xs) Pv h0 (fun i σ' H' _ q=>(hl i σ' H' q).seq hS) (fun i x σ' H' hx q=>?_) (fun σ' H' q=>?_)⟩
 ·obtain ⟨c,hc,r⟩:=Paired.getL hP hx;exact hs i c x σ' H' hc (Rep.mono (hl i σ' H' q) r) q
 ·rw [hP.length] at q;exact hd σ' H' q
def del (H:Hp) (d:Addr):Hp:=fun a=>if a=d then none else H a
def ef {H:Hp} {d b:Addr} (h:b≠d):del H d b=H b:=if_neg h
def mK {H H':Hp} {d:Addr} (e:aj H H'):aj (del H d) (del H' d):=fun b o h=>by
 by_cases hb:b=d
 ·rw [hb] at h;have z:del H d d=none:=if_pos rfl;rw [z] at h;cases h
 ·rw [ef hb] at h ⊢;exact e b o h
def ik {H:Hp} {d:Addr} {o:HO}:aj (del H d) (del (upd H d o) d):=fun b u h=>by
 by_cases hb:b=d
 ·rw [hb] at h;have z:del H d d=none:=if_pos rfl;rw [z] at h;cases h
 ·rw [ef hb] at h ⊢;rw [av hb];exact h
def gX {H:Hp} {d:Addr}:aj (del H d) H:=fun b u h=>by
 by_cases hb:b=d
 ·rw [hb] at h;have z:del H d d=none:=if_pos rfl;rw [z] at h;cases h
 ·rw [ef hb] at h;exact h
def uz {β:Type} [Rep β] {J:It} {n:Nat} {own:List Str} {fr:List Nat} (Src:Nat->V->Hp->Prop) (acc:Nat->List β) (Sh:St->Prop)
  (hgo:∀ i H',i<n->aj H H'->J.go i H') (hst:∀ H',aj H H'->J.stop n H') (hy:∀ i H' x H2,i<n->aj H H'->J.yld i H' x H2->H2=H'/\Src i x H')
  (hz:n<=100000) (ha0:acc 0=[]) (hal:∀ i,i<=n->(acc i).length<=i) (h0:Sh (bG own fr σ))
  (turn:∀ i w σ' H' (d:Addr) (R:St->V->Hp->Prop) (R0:St->Hp->Prop),i<n->aj H H'->Src i w H'->Sh σ' ->
   (∀ σ2 y b H5,Sh σ2->aj H' H5->At K (del H5 d) y b->acc (i+1)=acc i++[b]->R σ2 y H5)->(∀ σ2 H5,Sh σ2->aj H' H5->acc (i+1)=acc i->R0 σ2 H5)->(∃ ys,H' d=some (.lst ys)) ->
   g w σ' H' fun σ2 H3=>tt σ2 H3 fun ok H4=>if ok=true then ta σ2 H4 (R σ2) else R0 σ2 H4)
  (fin:∀ d H',H d=none->aj H H'->(∃ ys,H' d=some (.lst ys)/\Kr (Rep.is K (del H' d)) ys (acc n))->Q (.ref d) H') (d:Addr) (hd:H d=none) :
  ∃ W:Nat->Nat->St->Hp->Prop,(∃ m,W 0 m (bG own fr σ) (upd H d (.lst [])))/\∀ i m σ' H',W i m σ' H' ->
   (J.stop i H'/\Q (.ref d) H')\/(J.go i H'/\∀ x H2,J.yld i H' x H2->g x σ' H2 fun σ2 H3=>tt σ2 H3 fun ok H4 =>
    if ok=true then ta σ2 H4 fun y H5=>∃ ys,H5 d=some (.lst ys)/\ys.length<Jr/\∃ m',m' < m/\W (i+1) m' σ2 (upd H5 d (.lst (ys++[y]))) else ∃ m',m' < m/\W (i+1) m' σ2 H4):=by
 refine ⟨fun i m σ' H'=>m=n - i/\i<=n/\Sh σ'/\aj H H'/\∃ ys,H' d=some (.lst ys)/\Kr (Rep.is K (del H' d)) ys (acc i),⟨n,rfl,J6 _,h0,aE hd _,[],ar,by rw [ha0];exact .nil⟩,?_⟩
 rintro i m σ' H' ⟨rfl,hi,hsh,hs,ys,hys,hp⟩
 by_cases hlt:i<n
 ·refine .inr ⟨hgo i H' hlt hs,fun x H2 hx=>?_⟩;obtain ⟨rfl,hsrc⟩:=hy i H' x H2 hlt hs hx;refine turn i x σ' H2 d _ _ hlt hs hsrc hsh (fun σ2 y b H5 h1 h2 h3 h4=>?_) (fun σ2 H5 h1 h2 h4=>?_) ⟨ys,hys⟩
  ·have hl:=hp.length;have hl2:=hal i hi;refine ⟨ys,h2 _ _ hys,JT (show ys.length<=100000 by lia) (by rw [Kc];decide),n - (i+1),by lia,rfl,hlt,h1,fun b' o e=>?_,ys++[y],ar,?_⟩
   ·rw [av (az e hd)];exact h2 _ _ (hs _ _ e)
   ·rw [h4];exact Paired.app (Paired.cY hp fun _ _ q=>Rep.mono ik (Rep.mono (mK h2) q)) (.cons (Rep.mono ik h3) .nil)
  ·refine ⟨n - (i+1),by lia,rfl,hlt,h1,hs.trans h2,ys,h2 _ _ hys,?_⟩
   rw [h4];exact Paired.cY hp fun _ _ q=>Rep.mono (mK h2) q
 ·have e:i=n:=by lia
  subst e;exact .inl ⟨hst H' hs,fin d H' hd hs ⟨ys,hys,hp⟩⟩
def fv {α β:Type} [Rep α] [Rep β] {l:List α} {own:List Str} {fr:List Nat} (h:At K H v l) (hz:l.length<=100000) (acc:Nat->List β) (Sh:St->Prop) (ha0:acc 0=[]) (hal:∀ i,i<=l.length->(acc i).length<=i) (h0:Sh (bG own fr σ))
  (turn:∀ i c w σ' H' (d:Addr) (R:St->V->Hp->Prop) (R0:St->Hp->Prop),l[i]?=some c->aj H H'->At K H' w c->Sh σ' ->
   (∀ σ2 y b H5,Sh σ2->aj H' H5->At K (del H5 d) y b->acc (i+1)=acc i++[b]->R σ2 y H5)->(∀ σ2 H5,Sh σ2->aj H' H5->acc (i+1)=acc i->R0 σ2 H5)->(∃ ys,H' d=some (.lst ys)) ->
   g w σ' H' fun σ2 H3=>tt σ2 H3 fun ok H4=>if ok=true then ta σ2 H4 (R σ2) else R0 σ2 H4)
  (fin:∀ d H',H d=none->aj H H'->(∃ ys,H' d=some (.lst ys)/\Kr (Rep.is K (del H' d)) ys (acc l.length))->Q (.ref d) H') :
  gG K v H (dg own fr g tt ta σ Q):=by
 obtain ⟨p,xs,rfl,hS,hP⟩:=h;have hl:=hP.length;refine ⟨p,rfl,⟨xs,hS⟩,uz (J:=Itl K p) (n:=l.length) (fun i w H'=>∃ c,l[i]?=some c/\At K H' w c) acc Sh (fun i H' hi e=>⟨xs,xs[i]'(by lia),e.seq hS,by simp [hl,hi]⟩) (fun H' e=>⟨xs,e.seq hS,Ni hl⟩)
  (fun i H' x H2 hi e hy=>?_) hz ha0 hal h0 (fun i w σ' H' d R R0 hi e ⟨c,hc,hw⟩=>turn i c w σ' H' d R R0 hc e hw) fin⟩
 obtain ⟨e1,e2⟩:=hy;have z:=e2 xs (e.seq hS);obtain ⟨c,hc,r⟩:=Paired.getL hP z;exact ⟨e1,c,hc,Rep.mono e r⟩
def eF (K:IC) {β:Type} [Rep β] {n:Nat} {own:List Str} {fr:List Nat} (e:a=(n:Int)) (hz:n<=100000) (acc:Nat->List β) (Sh:St->Prop) (ha0:acc 0=[]) (hal:∀ i,i<=n->(acc i).length<=i) (h0:Sh (bG own fr σ))
  (turn:∀ i σ' H' (d:Addr) (R:St->V->Hp->Prop) (R0:St->Hp->Prop),i<n->aj H H'->Sh σ' ->
   (∀ σ2 y b H5,Sh σ2->aj H' H5->At K (del H5 d) y b->acc (i+1)=acc i++[b]->R σ2 y H5)->(∀ σ2 H5,Sh σ2->aj H' H5->acc (i+1)=acc i->R0 σ2 H5)->(∃ ys,H' d=some (.lst ys)) ->
   g (.int (i:Int)) σ' H' fun σ2 H3=>tt σ2 H3 fun ok H4=>if ok=true then ta σ2 H4 (R σ2) else R0 σ2 H4)
  (fin:∀ d H',H d=none->aj H H'->(∃ ys,H' d=some (.lst ys)/\Kr (Rep.is K (del H' d)) ys (acc n))->Q (.ref d) H') :
  uw [.int a] H (dg own fr g tt ta σ Q):=by
 subst e;refine ⟨n,rfl,by lia,by lia,?_⟩
 have z:((n:Int)).toNat=n:=by lia
 show dg own fr g tt ta σ Q (Itr 0 (n:Int).toNat) H;rw [z];refine uz (J:=Itr 0 n) (n:=n) (fun i w _=>w=.int (i:Int)) acc Sh (fun i H' hi _=>hi) (fun H' _=>IV n) (fun i H' x H2 hi e hy=>?_) hz ha0 hal h0 (fun i w σ' H' d R R0 hi e hw=>?_) fin
 ·obtain ⟨e1,e2⟩:=hy;exact ⟨e1,by rw [e2,Oc]⟩
 ·subst hw;exact turn i σ' H' d R R0 hi e
def kI {α β:Type} [Rep α] [Rep β] {l:List α} {own:List Str} {fr:List Nat} (h:At K H v l) (hz:l.length<=100000) (acc:Nat->List β) (Sh:St->Prop) (ha0:acc 0=[]) (hal:∀ i,i<=l.length->(acc i).length<=i) (h0:Sh (bG own fr σ))
  (turn:∀ i c w σ' H' (d:Addr) (R:St->V->Hp->Prop) (R0:St->Hp->Prop),l[i]?=some c->aj H H'->At K H' w c->Sh σ' ->
   (∀ σ2 y b H5,Sh σ2->aj H' H5->At K (del H5 d) y b->acc (i+1)=acc i++[b]->R σ2 y H5)->(∀ σ2 H5,Sh σ2->aj H' H5->acc (i+1)=acc i->R0 σ2 H5)->(∃ ys,H' d=some (.lst ys)) ->
   g w σ' H' fun σ2 H3=>tt σ2 H3 fun ok H4=>if ok=true then ta σ2 H4 (R σ2) else R0 σ2 H4)
  (fin:∀ d H',aj H H'->At K H' (.ref d) (acc l.length)->Q (.ref d) H') :
  gG K v H (dg own fr g tt ta σ Q) :=
 fv h hz acc Sh ha0 hal h0 turn fun d H' _ hs ⟨ys,hys,hp⟩=>fin d H' hs ⟨d,ys,rfl,SqL.of hys,Paired.cY hp fun _ _ q=>Rep.mono gX q⟩
def jb (K:IC) {β:Type} [Rep β] {n:Nat} {own:List Str} {fr:List Nat} (e:a=(n:Int)) (hz:n<=100000) (acc:Nat->List β) (Sh:St->Prop) (ha0:acc 0=[]) (hal:∀ i,i<=n->(acc i).length<=i) (h0:Sh (bG own fr σ))
  (turn:∀ i σ' H' (d:Addr) (R:St->V->Hp->Prop) (R0:St->Hp->Prop),i<n->aj H H'->Sh σ' ->
   (∀ σ2 y b H5,Sh σ2->aj H' H5->At K (del H5 d) y b->acc (i+1)=acc i++[b]->R σ2 y H5)->(∀ σ2 H5,Sh σ2->aj H' H5->acc (i+1)=acc i->R0 σ2 H5)->(∃ ys,H' d=some (.lst ys)) ->
   g (.int (i:Int)) σ' H' fun σ2 H3=>tt σ2 H3 fun ok H4=>if ok=true then ta σ2 H4 (R σ2) else R0 σ2 H4)
  (fin:∀ d H',aj H H'->At K H' (.ref d) (acc n)->Q (.ref d) H') :
  uw [.int a] H (dg own fr g tt ta σ Q) :=
 eF K e hz acc Sh ha0 hal h0 turn fun d H' _ hs ⟨ys,hys,hp⟩=>fin d H' hs ⟨d,ys,rfl,SqL.of hys,Paired.cY hp fun _ _ q=>Rep.mono gX q⟩
def rj (h:QB true H):xG σ H QB:=h
def qJ {A B:Prop} (h:A):if true=true then A else B:=t8 h
end
def bt {c A B:Prop} [Decidable c] (h1:c->A) (h2:¬ c->B):if decide c=true then A else B:=by
 by_cases h:c
 ·rw [decide_eq_true h];exact t8 (h1 h)
 ·rw [decide_eq_false h];exact eU (h2 h)
def ck {c A B:Prop} [Decidable c] (h1:¬ c->A) (h2:c->B):if (!decide c)=true then A else B:=by
 by_cases h:c
 ·rw [decide_eq_true h];exact eU (h2 h)
 ·rw [decide_eq_false h];exact t8 (h1 h)
def Gr {β:Type} [Rep β] (K:IC) (H:Hp) (d:Addr) (l:List β):Prop:=∃ ys,H d=some (.lst ys)/\Kr (Rep.is K (del H d)) ys l
section
variable {β:Type} [Rep β] {K:IC} {H H':Hp} {d:Addr} {l:List β} {y:V} {b:β} {Q:VK}
def Gr.nil (h:H d=some (.lst [])):Gr K H d ([]:List β):=⟨[],h,.nil⟩
def Gr.at (h:Gr K H d l):At K H (.ref d) l:=by
 obtain ⟨ys,h1,h2⟩:=h;exact ⟨d,ys,rfl,SqL.of h1,Paired.cY h2 fun _ _ q=>Rep.mono gX q⟩
def Gr.mono (s:aj H H') (h:Gr K H d l):Gr K H' d l:=by
 obtain ⟨ys,h1,h2⟩:=h;exact ⟨ys,s _ _ h1,Paired.cY h2 fun _ _ q=>Rep.mono (mK s) q⟩
def Gr.is (h:Gr K H d l):∃ ys,H d=some (.lst ys):=let ⟨ys,h1,_⟩:=h;⟨ys,h1⟩
def Gr.ty (h:Gr K H d l):tyV K "list" (.ref d) H:=by
 obtain ⟨ys,h1,_⟩:=h;exact .inl ⟨rfl,_,SqL.of h1⟩
def gj (h:Gr K H d l) (hl:l.length<=100000) (hy:At K (del H d) y b) (q:∀ H',Gr K H' d (l++[b])->(∀ a o,a≠d->H a=some o->H' a=some o)->(∀ a,a≠d->H' a=H a)->Q .non H'):t5 (.ref d) [y] H Q:=by
 obtain ⟨ys,h1,h2⟩:=h;have e:=h2.length;refine ⟨d,ys,y,rfl,rfl,h1,JT (show ys.length<=100000 by lia) (by rw [Kc];decide),?_⟩
 refine q _ ⟨_,ar,Paired.app (Paired.cY h2 fun _ _ z=>Rep.mono ik z) (.cons (Rep.mono ik hy) .nil)⟩ (fun a o ha z=>by rw [av ha];exact z) fun a ha=>av ha
def aj.but {H₀:Hp} (hd:H₀ d=none) (s:aj H₀ H) (k:∀ a o,a≠d->H a=some o->H' a=some o):aj H₀ H':=fun a o z=>k a o (az z hd) (s a o z)
end
def cut {α:Type} (l:List α) (lo hi:Option Int):List α:=(l.drop (HT.sIx l.length 0 lo)).take (HT.sIx l.length l.length hi - HT.sIx l.length 0 lo)
def FU {α:Type} [Rep α] {K:IC} {H:Hp} {v:V} {Q:VK} {l:List α} {lo hi:Option Int} (h:At K H v l) (q:∀ p H',aj H H'->H p=none->At K H' (.ref p) (cut l lo hi)->Q (.ref p) H'):Am K v lo hi H Q:=by
 obtain ⟨p,xs,rfl,hS,hP⟩:=h;refine ⟨p,xs,rfl,hS,fun d hd=>q d _ (aE hd _) hd ⟨d,_,rfl,SqL.of ar,?_⟩⟩;have e:=hP.length;unfold qF cut;rw [e];exact Paired.wH _ (Paired.wN _ (Paired.cY hP fun _ _ z=>Rep.mono (aE hd _) z))
def Fh {α:Type} (l:List α) (lo hi:Option Int):(cut l lo hi).length<=l.length:=by
 unfold cut;rw [Je,LX];lia
def BF {H:Hp} {d p:Addr} (hd:∃ ys,H d=some (.lst ys)) (hp:H p=none):p≠d:=fun e=>by
 obtain ⟨ys,hd⟩:=hd;rw [e,hd] at hp;cases hp
def Hi (K:IC):List V->Hp->VK->Prop:=fun xs H Q=>∃ p ys,xs=[.ref p]/\(SqL K H p ys\/SqT K H p ys)/\Q (.int ys.length) H
def Bk (K:IC):List V->Hp->VK->Prop:=fun xs H Q=>∃ p ys,xs=[.ref p]/\(SqL K H p ys\/SqT K H p ys)/\∀ l,H l=none->Q (.ref l) (upd H l (.lst ys))
def EX (K:IC):List V->Hp->VK->Prop:=fun xs H Q=>∃ x n t b,xs=[x,.ty n]/\gm K H x t/\Mr K t (.type n)=some b/\Q (.bl b) H
def Hn (α:Type) [Rep α] [DecidableEq α] (K:IC):R2:=fun x y H Q=>∃ as bs:List α,At K H x as/\At K H y bs/\Q (.bl (!decide (as=bs))) H
section
variable {K:IC} {H:Hp} {Q:VK} {v x y:V} {α:Type} [Rep α] {l:List α}
def cA (h:At K H v l) (q:Q (.int (l.length:Int)) H):Hi K [v] H Q:=by
 obtain ⟨p,xs,rfl,hS,e⟩:=h.len;exact ⟨p,xs,rfl,.inl hS,by rw [e];exact q⟩
def Gi {n:String} {t:Value} {b:Bool} (ty:gm K H x t) (e:Mr K t (.type n)=some b) (q:Q (.bl b) H):EX K [x,.ty n] H Q:=⟨x,n,t,b,rfl,ty,e,q⟩
def wq [DecidableEq α] {as bs:List α} (ha:At K H x as) (hb:At K H y bs) (q:Q (.bl (!decide (as=bs))) H):Hn α K x y H Q:=⟨as,bs,ha,hb,q⟩
end
section
variable {X:Cx} (K:IC) (hK:X.K=K) {e l o value:Expr} {ta tv tl:TE} {f:Str} {pos pos':Pos}
include hK
theorem ai:IxR X (oF K):=by subst hK;exact F5
theorem mj:IxR X (DL K):=by subst hK;exact GD
theorem aI (he:PE X e ta) (hb:attributeBase e f X.env (eval e X.env)=eval e X.env):PE X (.Attribute e f pos) (DU K ta f):=by subst hK;exact GP he hb
theorem eS (ha:PE X o ta) (hv:PE X value tv) (hs:swapsWith value (some (.Attribute o f pos')) pos.line X.env=pure false):PS X (.Assign [.Attribute o f pos'] value pos) (D7 K ta tv f):=by subst hK;exact Gh ha hv hs
theorem aT {tg:Expr} (hl:PE X l tl):PI X tg l (Av K tl):=by subst hK;exact Fm hl
theorem xZ:SlR X (Am K):=by subst hK;exact Fi
theorem aQ:de X (.builtin "len") (Hi K):=by subst hK;exact yo
theorem fP:de X (.type "list") (Bk K):=by subst hK;exact yr
theorem ya:de X (.builtin "isinstance") (EX K):=by subst hK;exact zo
theorem oQ (α:Type) [Rep α] [DecidableEq α] [bV α] (hu:X.A.units+64<cLine) (hd:bV.depth α<=32:=by decide) :
  OpR X (compareOp .NotEq) (Hn α K):=by subst hK;exact G3 α hu hd
theorem Gx {T id:String} {name:Str} {r:V->List V->Hp->VK->Prop} {to:TE} {t:TA} {e:Expr} {es:List Expr} {apos cpos:Pos} (pa:PlainAttrs T) (slot:Slot T name id) (hty:typeOf (.builtin id)=pure (.type "method_descriptor")) (hm:MtR X id r) (ho:PE X o to) (ha:PA X (e :: es) t)
  (hbase:attributeBase o name X.env (eval o X.env)=eval o X.env:=by rfl)
  (hfew:((backTo cpos (JP (e :: es) X.env)).all (fun x=>!x.1) && (backToKw cpos (keywordEach [] X.env)).all (fun x=>x.1.isSome)
   && decide ((e :: es).length+([]:List Nk).length+(if ([]:List Nk).isEmpty then 0 else 1)<30))=true:=by rfl)
  (hline:(apos.endLine == cpos.line)=true:=by rfl) (hs:JP (e :: es) X.env=(false,eval e X.env) :: JP es X.env:=by rfl) (hplain:(backTo cpos (JP es X.env)).any (·.1)=false:=by rfl) :
  PE X (.Call (.Attribute o name apos) (e :: es) [] cpos) (tBM K T r to t):=by subst hK;exact HW pa slot hty hm ho ha hbase hfew hline hs hplain
end
section
variable {X:Cx} {pins:List (Addr×Obj)} {σ:St} {H:Hp} {s:IL} {h':Heap} {t':Nat} {fp:List Addr} {p:Addr} {o:HO}
def Inv.vt (I:Inv X pins σ H s) (hf:∀ b∈fp,ie X pins H b) (k:∀ b ob,b∉fp->s.heap.get? b=some ob->h'.get? b=some ob) (hp:s.heap.objs.size<=p) (new:bT X.prog X.w (upd H p o) h' p o) :
  Inv X pins σ (upd H p o) { s with heap:=h',toks:=t' }:=by
 have hn:=I.hok.fresh hp;have lt:∀ {b:Addr} {ob:Obj},s.heap.get? b=some ob->b≠p:=fun e=>Jm (Ja (IY e) hp);have nofp:∀ b u,H b=some u->b∉fp:=fun b u e hb=>by rw [(hf b hb).1] at e;cases e
 refine I.step (g':=s.gens) (d':=s.drawn) (ch:=fp) (fun b hb=>let ⟨_,f1,_,f3,f4,f5⟩:=hf b hb;⟨f3,f1,f4,f5⟩) (fun b ob _ _ hc e _=>k b ob hc e) (fun b ob _ _ hc e _=>⟨ob.slots,k b ob hc e⟩)
  (fun b ob _ e n=>by rw [av (lt e)];exact n) (fun b ob hc e=>⟨ob,k b ob hc e⟩) (fun b xs e=>by rw [av (az e hn)];exact e) (fun b ob u e=>by rw [av (az e hn)];exact e)
  (fun b ps e=>⟨#[],by rw [av (az e hn),e];simp⟩) (fun m hm=>?_) (fun b u e=>?_) I.bare
 ·obtain ⟨ob,es,ep,e,r⟩:=hm;exact ⟨ob,es,ep,k _ ob (fun hb=>(hf _ hb).2.1 rfl) e,r⟩
 ·by_cases hb:b=p
  ·subst hb;rw [ar] at e;cases e;exact new
  ·rw [av hb] at e;refine (I.hok b u e).pY (fun c v hc q=>k c v ?_ q) (fun c q=>by rw [av (az q hn)];exact q) fun c xs q=>by rw [av (az q hn)];exact q
   rcases hc with z|z
   ·rw [z];exact nofp b u e
   ·exact nofp c _ z
end
def Ite (K:IC) (a:Addr):It :=
 ⟨fun i H=>∃ xs x,SqL K H a xs/\xs[i]?=some x,fun i H v H'=>∃ p x,v=.ref p/\H p=none/\H'=upd H p (.tup [.int (i:Int),x])/\∀ xs,SqL K H a xs->xs[i]?=some x,fun i H=>∃ xs,SqL K H a xs/\xs.length<=i⟩
def BG {P:Jc} {w:World} {K:IC} {es:List Expr} {kk:Nat} {tpos:Pos} (a e it:Addr) (hei:e≠it) :
  Turn P w K (.Tuple es kk tpos) (Ite K a) [e,it] e (fun i h=>(∃ old,IsEnum h e it i old)/\h.IsListIter it a i) where
 mem:=by simp
 obj:=fun i h st b hb=>by
  obtain ⟨⟨old,he⟩,o,e1,c,d⟩:=st;rcases JB.mp hb with z|hb
  ·rw [z];exact ⟨_,he,fun v z=>by
    have z':Og _=NX v:=z;cases z'⟩
  ·rw [I0.mp hb];exact ⟨o,e1,fun v z=>by rw [d] at z;cases z⟩
 keep:=fun i h h' st k=>⟨let ⟨old,he⟩:=st.1;⟨old,k e (by simp) _ he⟩,st.2.at fun o e=>k it (by simp) o e⟩
 item:=by
  intro X hP hw hK hc i pins s σ H E I hf st hg;subst hP hw hK;obtain ⟨xs,x,hq,hx⟩:=hg;obtain ⟨its,rv,p,hz⟩:=I.list hq;obtain ⟨u,hu,ru⟩:=rv.get hx;obtain ⟨⟨old,he⟩,hit⟩:=st;refine wpAny_pyNext_enum_item he hit p.isList (x:=u) (by simpa using hu) hei fun h' ho hit' hT hsz hk=>?_
  refine ⟨_,rfl,?_⟩;have I1:Inv X pins σ (upd H s.heap.objs.size (.tup [.int (i:Int),x])) { s with heap:=h',toks:=s.toks+1 } :=
   I.vt hf (fun b ob hb q=>hk b ob (fun z=>hb (by simp [z])) (fun z=>hb (by simp [z])) q) (IV _) ⟨by show 2<=Jr;decide,[.int i s.toks,u],.cons ⟨_,rfl⟩ (.cons ru .nil),⟨_,hT,rfl,_,rfl⟩⟩
  have fE:=hf e (by simp)
  have hlt:e<s.heap.objs.size:=IY he;have hlt2:it<s.heap.objs.size:=by obtain ⟨_,z,_⟩:=hit;exact IY z
  refine wpAny_letOwnedTupleGo_enum ho fun h2 he2 hs2=>?_;have nE:(upd H s.heap.objs.size (.tup [.int (i:Int),x])) e=none:=by rw [av (Jm hlt)];exact fE.1
  refine ⟨.ref s.heap.objs.size,_,I1.turned (t':=s.toks+1) (fun b ob hb q=>(hs2.2 b hb).trans q) nE fE.2.1 fE.2.2.2.1 fE.2.2.2.2.1 fE.2.2.2.2.2,rfl,⟨_,x,rfl,I.hok.fresh (IV _),rfl,fun ys hy=>by rw [I.iw hy hq];exact hx⟩,?_,fun b hb=>?_⟩
  ·refine ⟨⟨u,?_⟩,hit'.at fun o q=>(hs2.2 it (Lr hei)).trans q⟩;have e1:((i+1:Nat):Int)=(i:Int)+1:=by lia
   rw [e1];exact he2
  ·have hb':b<s.heap.objs.size:=by
    rcases JB.mp hb with z|hb
    ·rw [z];exact hlt
    ·rw [I0.mp hb];exact hlt2
   rw [av (Jm hb')];exact (hf b hb).1
 done:=by
  intro X hP hw hK hc i pins s σ H E I hf st hg;subst hP hw hK;obtain ⟨xs,hq,hx⟩:=hg;obtain ⟨its,rv,p,hz⟩:=I.list hq;obtain ⟨⟨old,he⟩,hit⟩:=st;have hl:=rv.length;obtain ⟨f0,f1,f2,f3,f4,f5⟩:=hf it (by simp)
  exact wpAny_pyNext_enum_end (I.ok.hd hc) he hit p.isList (by simp;lia) fun h' eb=>⟨rfl,I.turned (t':=s.toks) (fun b o hb e=>eb b o hb e) f0 f1 f3 f4 f5⟩
 self:=fun _ _ _ _ _ st h=>by
  obtain ⟨⟨old,he⟩,_⟩:=st;exact wpAny_pyIter_enum he h
def AD (K:IC) (vs:List V) (H:Hp) (R:It->Hp->Prop):Prop:=∃ a xs,vs=[.ref a]/\SqL K H a xs/\R (Ite K a) H
def AB (K:IC) (ta:TA):TI:=fun σ H R=>ta σ H fun vs H1=>AD K vs H1 R
def DE {X:Cx} (K:IC) (hK:X.K=K) {tgs:List Expr} {kk:Nat} {tpos:Pos} {a:Expr} {ta:TA} {p pos:Pos} (hg:Gl X "enumerate") (hm:X.mg "enumerate" = none) (ha:PA X [a] ta) (hs:JP [a] X.env=[(false,eval a X.env)]:=by rfl) :
  PI X (.Tuple tgs kk tpos) (.Call (.Name "enumerate" p) [a] [] pos) (AB K ta):=by
 subst hK;intro pins s σ H R I h;refine Call_ (ja I hg hm boot_enumerate (J7 (thn (ha pos pins s σ H _ I h) fun us s1 ⟨vs,H1,I1,r1,q1⟩=>?_) hs rfl));obtain ⟨l,xs,e,hS,q⟩:=q1;subst e;cases r1 with
 | cons r rr =>
  cases rr;cases (show _=JC l from r);obtain ⟨its,rv,pl,hz⟩:=I1.list hS;refine call_enumerate_list pl.isList fun h' he hit hsz hk=>?_;refine wpAny_pyIter_enum he ?_;have I2:Inv X pins σ H1 { s1 with heap:=h' }:=I1.kept (t':=s1.toks) hk;refine ⟨s1.heap.objs.size+1,[s1.heap.objs.size+1,s1.heap.objs.size],_,_,H1,rfl,I2,BG l _ _ (Nat.succ_ne_self _),⟨⟨.none,he⟩,hit⟩,fun b hb=>?_,q⟩;rcases JB.mp hb with z|hb
  ·rw [z];exact I1.pX (LR _) (I1.hok.fresh (LR _))
  ·rw [I0.mp hb];exact I1.pX (IV _) (I1.hok.fresh (IV _))
def zI:V->List V->Hp->VK->Prop:=fun x vs H Q=>∃ (l:Addr) (xs:List V) (k:Int) (y:V),x=.ref l/\vs=[.int k,y]/\H l=some (.lst xs)/\0<=k/\k.toNat<=xs.length/\xs.length<1000000/\Q .non (upd H l (.lst (xs.take k.toNat++y :: xs.drop k.toNat)))
def AS (its:List Value) (u2:Value) (k:Int) (h0:0<=k) (hi:k.toNat<=its.length) :
  (fun xs:Array Value=>(xs.extract 0 (if k<0 then (k+(xs.size:Int)).toNat else min k.toNat xs.size)).push u2++xs.extract (if k<0 then (k+(xs.size:Int)).toNat else min k.toNat xs.size)) its.toArray=(its.take k.toNat++u2 :: its.drop k.toNat).toArray:=by
 have h1:¬ (k<0):=by lia
 have hm:min k.toNat its.toArray.size=k.toNat:=by rw [Ji];lia
 dsimp only;rw [if_neg h1,hm];simp;exact Jh (by simp)
def CS {X:Cx}:MtM X "list.insert" zI:=by
 intro pins s σ H x vs v us Q I rx rv h;obtain ⟨l,xs,k,y,rfl,rfl,hH,h0,hi,hl,q⟩:=h;cases rx;obtain ⟨u1,u2,rfl,r1,r2⟩:=rv.two;obtain ⟨t,rfl⟩:=(show ∃ t,u1=LB k t from r1);obtain ⟨z,its,n,r,hl',e⟩:=I.oH hH;have hz2:its.toArray.size<=Jr:=by
  have e1:its.toArray.size=its.length:=Ji ..;lia
 have hfit:¬ (!Builtin.List.listFitsIndex k)=true:=by
  unfold Builtin.List.listFitsIndex;simp;lia
 have M3:=AutoSeq1.list_insert_list_int_val_1 l its.toArray n k t u2 hfit hz2;refine L3 F.slot_list_insert ⟨_,e,rfl⟩ F.entry_list_insert (F.args_list_insert_3 _ _ _) M3 ⟨e,?_⟩;have hv:Vals (xs.take k.toNat++y :: xs.drop k.toNat) (its.take k.toNat++u2 :: its.drop k.toNat):=(Vals.take k.toNat r).append (.cons r2 (Vals.drop k.toNat r));refine ⟨.non,_,I.Ea (its':=its.take k.toNat++u2 :: its.drop k.toNat) hH e (AS its u2 k h0 (by lia)) hv ?_,rfl,q⟩
 rw [IZ,Jp,Je,LX,Kc];lia
def Co:List V->Hp->VK->Prop:=fun xs H Q=>∃ j:Int,xs=[.int j]/\∀ p,H p=none->Q (.ref p) (upd H p (.rng 0 j))
def pH {X:Cx}:de X (.type "range") Co:=by
 intro pins s σ H xs us Q I r h;obtain ⟨j,rfl,q⟩:=h;obtain ⟨u,rfl,ru⟩:=vals1 r;obtain ⟨t,rfl⟩:=(show ∃ t,u=LB j t from ru);refine call_range_1 ?_;refine ⟨.ref s.heap.objs.size,_,I.laid (fun b u e=>IU _ e) (IV _) ?_,rfl,q _ (I.hok.fresh (IV _))⟩;exact ⟨_,_,_,JJ _ rfl⟩
def qN:List V->Hp->VK->Prop:=fun xs H Q=>∃ (p:Addr) (n:Nat),xs=[.ref p]/\H p=some (.rng 0 (n:Int))/\n<=1000000/\∀ l,H l=none->Q (.ref l) (upd H l (.lst ((IF n).map fun (i:Nat)=>V.int (i:Int))))
def pG:∀ {xs:List V} {us:List Value},xs.length=us.length->(∀ (i:Nat) (x:V) (u:Value),xs[i]?=some x->us[i]?=some u->RelV x u)->Vals xs us
 | [],[],_,_=>.nil
 | [],_ :: _,h,_=>by cases h
 | _ :: _,[],h,_=>by cases h
 | x :: xs,u :: us,h,g=>.cons (g 0 x u rfl rfl) (pG (by simpa using h) fun i y v hy hv=>g (i+1) y v (by simpa using hy) (by simpa using hv))
def Cf {n:Nat} (h:n<=1000000):n<=Jr:=by rw [Kc];lia
def lR {X:Cx} (hc:X.calm=true):de X (.type "list") qN:=by
 intro pins s σ H xs us Q I r h;obtain ⟨p,n,rfl,hp,hn,q⟩:=h;obtain ⟨u,rfl,ru⟩:=vals1 r;cases (show u=JC p from ru);obtain ⟨t1,t2,t3,hr⟩:=(show bT X.prog X.w H s.heap p (.rng 0 (n:Int)) from I.hok p _ hp);have hs:MP 0 (n:Int) 1=n:=by rw [rangeSize_one];split <;> lia
 refine call_list_range (n:=n) (I.ok.hd hc) hr (small_one (by lia) (by lia) (by lia) (by lia)) (by exact_mod_cast hs) (by lia) fun h' tk acc c' hk hS hacc=>?_
 refine ⟨.ref s.heap.objs.size,_,I.laid hk (IV _) ?_,rfl,q _ (I.hok.fresh (IV _))⟩;obtain ⟨ha1,ha2⟩:=hacc;have hl:((IF n).map fun (i:Nat)=>V.int (i:Int)).length=acc.toList.length:=by simp;exact ha1.symm
 refine ⟨by simp;exact Cf hn,acc.toList,c',pG hl fun i x u hx hu=>?_,by simpa using hS⟩
 have hi:i<n:=by
  have:=(II.mp hx).1
  simpa using this
 obtain ⟨t,e⟩:=ha2 i u (by simpa using hu)
 have ex:x=V.int (i:Int):=by
  rw [IJ,Jv hi] at hx;exact (Jy hx).symm
 rw [ex];exact ⟨t,by simpa using e⟩
section
variable {σ:St} {H:Hp} {Q:VK} {D:Ends} {K:IC} {t:TS} {ta tb:TE} {g:TG} {v w x y:V} {tA:TA} {a:Int}
def zS {n:Int} (q:∀ p,H p=none->Q (.ref p) (upd H p (.rng 0 n))):Co [.int n] H Q:=⟨n,rfl,q⟩
def jR {l:List Nat}:Kr (Rep.is K H) (l.map fun (n:Nat)=>V.int (n:Int)) l:=by
 have q:=Paired.of_map (F:=fun (v:V) (a:Nat)=>v=.int (a:Int)) (f:=fun (n:Nat)=>V.int (n:Int)) (g:=id) (fun _=>rfl) l;rw [MT] at q;exact q
def pP {p:Addr} {n:Nat} (hp:H p=some (.rng 0 (n:Int))) (hn:n<=1000000) (q:∀ l H',H l=none->aj H H'->Gr K H' l (IF n)->Q (.ref l) H'):qN [.ref p] H Q :=
 ⟨p,n,rfl,hp,hn,fun l hl=>q l _ hl (aE hl _) ⟨_,ar,jR⟩⟩
def rZ {to ti:TE} {ts:AG} {QS:St->Hp->Prop} (h:to σ H fun o H1=>ti σ H1 fun i H2=>ts o i v H2 fun H3=>QS σ H3):Hc to ti ts v σ H QS:=h
def yQ {p:Addr} {xs:List V} {j:Nat} {QH:Hp->Prop} (hp:H p=some (.lst xs)) (e:a=(j:Int)) (hj:j<xs.length) (q:QH (upd H p (.lst (xs.set j v)))):E5 (.ref p) (.int a) v H QH:=by
 subst e;refine ⟨p,xs,_,j,rfl,rfl,hp,?_,q⟩;unfold ixN;rw [if_pos (by lia),if_pos (by lia)]
 rfl
def isP (vs:List V) (H:Hp) (k:V->V->Hp->Prop):Prop:=∃ v w,vs=[v,w]/\k v w H
def v9 {i j:Nat} (h:tA σ H fun vs H1=>isP vs H1 fun v w H1=>D.nx ((σ.set i (some v)).set j (some w)) H1):GC i j tA D σ H:=h
def r6 {k:V->V->Hp->Prop} (h:k x y H):isP [x,y] H k:=⟨x,y,rfl,h⟩
def oO {R:It->Hp->Prop} (h:tA σ H fun vs H1=>AD K vs H1 R):AB K tA σ H R:=h
def lU {α:Type} [Rep α] {l:List α} {ia ib:Nat} {H₀:Hp} (h:At K H₀ v l) (Pv:Nat->St->Hp->Prop) (h0:Pv 0 σ H) (hl:∀ i σ' H',Pv i σ' H'->aj H₀ H')
  (hs:∀ i c w σ' H' H'' p,l[i]?=some c->At K H₀ w c->Pv i σ' H'->H' p=none->H''=upd H' p (.tup [.int (i:Int),w])->aj H' H''->t { D with nx:=Pv (i+1),ct:=Pv (i+1),bk:=D.nx } ((σ'.set ia (some (.int (i:Int)))).set ib (some w)) H'')
  (hd:∀ σ' H',Pv l.length σ' H'->D.nx σ' H'):AD K [v] H (kQ (nN K 2 (eL (da ia) (eL (da ib) oj))) t D σ):=by
 obtain ⟨p,xs,rfl,hS,hP⟩:=h;have hlen:=hP.length;refine ⟨p,xs,rfl,(hl 0 σ H h0).seq hS,fun i m σ' H'=>m=xs.length - i/\i<=xs.length/\Pv i σ' H',⟨xs.length,by simp,J6 _,h0⟩,?_⟩
 rintro i m σ' H' ⟨rfl,hi,p0⟩;have q:=(hl i σ' H' p0).seq hS
 by_cases hlt:i<xs.length
 ·refine .inr ⟨⟨xs,xs[i],q,by simp [hlt]⟩,Pv (i+1),fun σ2 H2 p'=>⟨xs.length - (i+1),by lia,rfl,hlt,p'⟩,fun z H2 yl=>?_⟩
  obtain ⟨d,w,rfl,hd',rfl,hw⟩:=yl;have hx:=hw xs q;obtain ⟨c,hc,r⟩:=Paired.getL hP hx;refine ⟨d,[.int (i:Int),w],rfl,SqT.of ar,rfl,⟨_,_,rfl,⟨_,_,rfl,⟨rfl,?_⟩⟩⟩⟩;exact hs i c w σ' H' _ d hc r p0 hd' rfl (aE hd' _)
 ·have e:i=xs.length:=by lia
  subst e;exact .inl ⟨⟨xs,q,IV _⟩,hd σ' H' (by rw [hlen] at p0;exact p0)⟩
end
def aH (r:List Nat):List V:=r.map fun (n:Nat)=>V.int (n:Int)
structure Tbl (H:Hp) (d:Addr) (rows:List (List Nat)) (ps:List Addr):Prop where
 top:H d=some (.lst (ps.map V.ref))
 nd:ps.Nodup
 ap:d∉ps
 len:ps.length=rows.length
 row:∀ (i:Nat) (p:Addr) (r:List Nat),ps[i]?=some p->rows[i]?=some r->H p=some (.lst (aH r))
section
variable {H H':Hp} {d:Addr} {rows:List (List Nat)} {ps:List Addr} {K:IC}
def Tbl.mono (s:aj H H') (h:Tbl H d rows ps):Tbl H' d rows ps:=⟨s _ _ h.top,h.nd,h.ap,h.len,fun i p r e1 e2=>s _ _ (h.row i p r e1 e2)⟩
def nq {α β:Type} {F:α->β->Prop}:∀ {xs:List α} {ys:List β},xs.length=ys.length->(∀ (i:Nat) (x:α) (y:β),xs[i]?=some x->ys[i]?=some y->F x y)->Kr F xs ys
 | [],[],_,_=>.nil
 | [],_ :: _,h,_=>by cases h
 | _ :: _,[],h,_=>by cases h
 | x :: xs,y :: ys,h,g=>.cons (g 0 x y rfl rfl) (nq (by simpa using h) fun i u v hu hv=>g (i+1) u v (by simpa using hu) (by simpa using hv))
def Tbl.at (h:Tbl H d rows ps):At K H (.ref d) rows:=by
 refine ⟨d,_,rfl,SqL.of h.top,nq (by rw [IE,h.len]) fun i x r hx hr=>?_⟩
 rw [IJ] at hx;cases e:ps[i]? with
 | none=>rw [e] at hx;cases hx
 | some p =>
  rw [e] at hx;have hx':x=V.ref p:=(Jy hx).symm;rw [hx'];exact ⟨p,_,rfl,SqL.of (h.row i p r e hr),jR⟩
def Tbl.get (h:Tbl H d rows ps) {i:Nat} {r:List Nat} (e:rows[i]?=some r):∃ p,ps[i]?=some p/\H p=some (.lst (aH r)):=by
 have hi:i<ps.length:=by rw [h.len];exact (II.mp e).1
 exact ⟨ps[i],by simp [hi],h.row i _ r (by simp [hi]) e⟩
def Tbl.set (h:Tbl H d rows ps) {i j n:Nat} {p:Addr} {r:List Nat} (e:rows[i]?=some r) (hp:ps[i]?=some p):Tbl (upd H p (.lst ((aH r).set j (.int (n:Int))))) d (rows.set i (r.set j n)) ps:=by
 have hi:i<ps.length:=(II.mp hp).1;have mem:p∈ps:=IH hp;refine ⟨by rw [av (fun z=>h.ap (by rw [z];exact mem))];exact h.top,h.nd,h.ap,by rw [LH];exact h.len,fun k q r' hq hr=>?_⟩
 by_cases hk:k=i
 ·subst hk;rw [hp] at hq;cases hq;rw [Ke (by rw [<- h.len];exact hi)] at hr
  cases hr;rw [ar];unfold aH;rw [List.map_set]
 ·rw [Kp (Lr hk)] at hr;have hne:q≠p:=fun z=>hk (by
   subst z;have h1:=(II.mp hq);have h2:=(II.mp hp);exact (LW h.nd).mp (h1.2.trans h2.2.symm))
  rw [av hne];exact h.row k q r' hq hr
end
def mq {K:IC} {H:Hp} {v:V} {Q:VK} {σ:St} {rows:List (List Nat)} {x:Str} (h:At K H v rows) (hz:rows.length<=100000) (fin:∀ d H' ps,aj H H'->H d=none->(∀ p∈ps,H p=none)->Tbl H' d rows ps->Q (.ref d) H') :
  gG K v H (dg [x] [] (da 0) xG (tCB (Bk K) (jE (oo 0) qr)) σ Q):=by
 obtain ⟨p,xs,rfl,hS,hP⟩:=h;have hl:=hP.length;refine ⟨p,rfl,⟨xs,hS⟩,fun d hd=>?_⟩;refine ⟨fun i m σ' H'=>m=xs.length - i/\i<=xs.length/\(∃ y,σ'=[y])/\aj H H'/\∃ ps,(∀ p∈ps,H p=none)/\Tbl H' d (rows.take i) ps,⟨xs.length,rfl,J6 _,⟨_,rfl⟩,aE hd _,[],by simp,⟨ar,NK,by simp,by simp,fun i p r e _=>by simp at e⟩⟩,?_⟩
 rintro i m σ' H' ⟨rfl,hi,⟨y,rfl⟩,hs,ps,hps,T⟩
 by_cases hlt:i<xs.length
 ·refine .inr ⟨⟨xs,xs[i],hs.seq hS,by simp [hlt]⟩,fun z H2 yl=>?_⟩
  obtain ⟨rfl,hz'⟩:=yl;have hx:=hz' xs (hs.seq hS);obtain ⟨c,hc,r⟩:=Paired.getL hP hx;obtain ⟨q,e,hq⟩:=lY (Rep.mono hs r);subst e;have tl:=T.len;have hci:i<rows.length:=(II.mp hc).1;rw [Je,L7 (by lia)] at tl
  refine om ?_;refine rj ?_;refine t8 ?_;refine ⟨_,rfl,q,_,rfl,.inl hq,fun l hl'=>?_⟩;have nld:l≠d:=fun e=>by rw [e,T.top] at hl';cases hl'
  have hHl:H l=none:=hs.free hl';refine ⟨_,(by rw [av nld.symm];exact T.top),?_,xs.length - (i+1),by lia,rfl,hlt,⟨_,rfl⟩,fun b o eb=>?_,ps++[l],fun p' hp'=>?_,?_⟩
  ·rw [IE,tl,Kc];lia
  ·rw [av (az eb hd),av (az eb hHl)];exact hs b o eb
  ·rcases JG.mp hp' with z|z
   ·exact hps p' z
   ·rw [I0.mp z];exact hHl
  ·have nlp:l∉ps:=fun z=>by
    obtain ⟨k,hk⟩:=J3 z;have hk':k<i:=by have:=(II.mp hk).1;lia
    have hr:(rows.take i)[k]?=some (rows[k]'(by lia)):=by rw [KC hk'];simp
    have z1:=T.row k l _ hk hr;rw [z1] at hl';cases hl'
   refine ⟨by rw [ar,JO];rfl,?_,?_,?_,fun k p' r' hk hr=>?_⟩
   ·rw [ME];exact ⟨T.nd,by simp,fun a ha b hb=>by rw [I0.mp hb];exact fun z=>nlp (z ▸ ha)⟩
   ·intro z;rcases JG.mp z with z|z
    ·exact T.ap z
    ·exact nld (I0.mp z).symm
   ·rw [IZ,Je,L7 (by lia)];simp;lia
   ·have nd':p'≠d:=fun z=>by
     rw [z] at hk;rcases JG.mp (IH hk) with z' | z'
     ·exact T.ap z'
     ·exact nld (I0.mp z').symm
    rw [av nd']
    by_cases hki:k<i
    ·rw [Jk (by lia)] at hk
     have hr2:(rows.take i)[k]?=some r':=by
      rw [KC (by lia)] at hr ⊢;exact hr
     have np:p'≠l:=fun z=>nlp (by rw [<- z];exact IH hk)
     rw [av np];exact T.row k p' r' hk hr2
    ·have hk2:k<i+1:=by
      have:=(II.mp hr).1;rw [Je] at this;lia
     have ek:k=i:=by lia
     subst ek;rw [Jl (by lia),tl,Od] at hk
     have e1:l=p':=by simpa using hk
     subst e1;rw [KC (by lia),hc] at hr
     cases hr;rw [ar];unfold aH;rfl
 ·have e:i=xs.length:=by lia
  subst e;refine .inl ⟨⟨xs,hs.seq hS,IV _⟩,?_⟩;rw [hl,Kj] at T;exact fin d H' ps hs hd hps T
def Wr (K:IC) {α:Type} [Rep α] (t:TE) (a:α):Prop:=∀ σ H Q,(∀ v H',aj H H'->At K H' v a->Q v H')->t σ H Q
def WrA (K:IC) {α:Type} [Rep α] (t:TA) (l:List α):Prop:=∀ σ H Q,(∀ vs H',aj H H'->Kr (Rep.is K H') vs l->Q vs H')->t σ H Q
section
variable {K:IC} {α:Type} [Rep α] {t:TE} {tA:TA} {a:α} {l:List α}
def CV {n:Nat} {i:Int} (e:i=(n:Int)):Wr K (tC (.int i)) n:=fun _ H _ q=>q _ H (aj.refl _) (by rw [e];rfl)
def hZ:WrA K qr ([]:List α):=fun _ H _ q=>q [] H (aj.refl _) .nil
def oU (h:Wr K t a) (hr:WrA K tA l):WrA K (jE t tA) (a :: l):=fun σ H Q q=>h σ H _ fun v H1 s1 a1=>hr σ H1 _ fun vs H2 s2 a2=>q _ H2 (s1.trans s2) (.cons (Rep.mono s2 a1) a2)
def B4 (h:WrA K tA l) (hz:l.length<=1000):Wr K (xk tA) l:=fun σ H Q q=>h σ H _ fun vs H1 s1 a1=>⟨by have:=a1.length;exact small (by lia),fun p hp=>q _ _ (s1.trans (aE hp _)) ⟨p,vs,rfl,SqL.of ar,Paired.cY a1 fun _ _ z=>Rep.mono (aE hp _) z⟩⟩
end
def ES {K:IC} {α:Type} [Rep α] {H:Hp} {x y:V} {l r:List α} {Q:VK} (hx:∃ p xs,x=.ref p/\H p=some (.lst xs)/\Kr (Rep.is K H) xs l) (hy:∃ p xs,y=.ref p/\H p=some (.lst xs)/\Kr (Rep.is K H) xs r) (hz:l.length+r.length<=100000)
  (q:∀ d H',H d=none->aj H H'->At K H' (.ref d) (l++r)->Q (.ref d) H'):Hf x y H Q:=by
 obtain ⟨p,xs,rfl,h1,r1⟩:=hx;obtain ⟨p',ys,rfl,h2,r2⟩:=hy;have e1:=r1.length;have e2:=r2.length;refine ⟨p,p',xs,ys,rfl,rfl,h1,h2,by rw [Kc];lia,fun d hd=>q d _ hd (aE hd _) ⟨d,_,rfl,SqL.of ar,Paired.app (Paired.cY r1 fun _ _ z=>Rep.mono (aE hd _) z) (Paired.cY r2 fun _ _ z=>Rep.mono (aE hd _) z)⟩⟩
def isStar:Expr->Bool
 | .Starred ..=>true
 | _=>false
def bM {e:Expr} {es:List Expr} {env:Env} (h:isStar e=false):JP (e :: es) env=(false,eval e env) :: JP es env:=by
 cases e <;> first|rfl|cases h
def cQ {env:Env} {pos:Pos}:∀ {es:List Expr},es.all (fun e=>!isStar e)=true->(backTo pos (JP es env)).any (·.1)=false
 | [],_=>rfl
 | e :: es,h=>by
  rw [MR,La] at h;rw [bM (by simpa using h.1)]
  have ih:=cQ (env:=env) (pos:=pos) h.2;show (backTo pos ((false,eval e env) :: JP es env)).any (·.1)=false;unfold backTo at ih ⊢
  simpa using ih
def D3 {env:Env} {pos:Pos} {es:List Expr} (h:es.all (fun e=>!isStar e)=true) (hl:es.length<30):((backTo pos (JP es env)).all (fun x=>!x.1) && (backToKw pos (keywordEach [] env)).all (fun x=>x.1.isSome)
   && decide (es.length+([]:List Nk).length+(if ([]:List Nk).isEmpty then 0 else 1)<30))=true:=by
 have h1:=cQ (env:=env) (pos:=pos) h;have h2:(backTo pos (JP es env)).all (fun x=>!x.1)=true:=by
  rw [LO] at h1;rw [Jq];intro x hx;have:=h1 x hx
  simpa using this
 rw [h2];show (true && true && decide (es.length+0+0<30))=true
 simpa using hl
section
variable {X:Cx} {e o:Expr} {es:List Expr} {te:TE} {t:TA} {x:Str} {st:Stmt} {ps:List Str} {k:Nat} {sp:Sp} {p pos:Pos}
def paF (ha:PE X e te) (hr:PA X es t) (hn:isStar e=false:=by rfl):PA X (e :: es) (jE te t):=ue ha hr (bM hn)
def ay (d:Df X.K X.mg x st ps) (G:aN X.prog X.w X.K X.mg X.base CX0 k d.f d.fd ps sp) (hr:bY k X.A) (hg:Gl X x) (ha:PA X (e :: es) t) (hn:isStar e=false:=by rfl) (hall:es.all (fun e=>!isStar e)=true:=by rfl) (hdb:(x == ("__debug__" : Str))=false:=by decide) :
  PE X (.Call (.Name x p) (e :: es) [] pos) (oS sp [] E0 t):=HL d G hr hg ha hdb (bM hn) (cQ hall)
def aA {id:String} {r:List V->Hp->VK->Prop} (hc:de X (.builtin id) r) (hg:Gl X x) (hm:X.mg x=none) (hv:bootBuiltins x=some (.builtin id)) (ha:PA X (e :: es) t) (hn':isStar e=false:=by rfl) (hall:es.all (fun e=>!isStar e)=true:=by rfl) (hn:x ≠ "__name__":=by decide) (hdb:(x == ("__debug__" : Str))=false:=by decide) :
  PE X (.Call (.Name x p) (e :: es) [] pos) (tCB r t):=D0 hc hg hm hv ha hn hdb (bM hn') (cQ hall)
def cG {T:String} {r:List V->Hp->VK->Prop} (hc:de X (.type T) r) (hg:Gl X x) (hm:X.mg x=none) (hv:bootBuiltins x=some (.type T)) (ha:PA X (e :: es) t) (hn':isStar e=false:=by rfl) (hall:es.all (fun e=>!isStar e)=true:=by rfl) (hn:x ≠ "__name__":=by decide) (hdb:(x == ("__debug__" : Str))=false:=by decide) :
  PE X (.Call (.Name x p) (e :: es) [] pos) (tCB r t):=Ct hc hg hm hv ha hn hdb (bM hn') (cQ hall)
def c9 (K:IC) (hK:X.K=K) {T id:String} {name:Str} {r:V->List V->Hp->VK->Prop} {to:TE} {apos cpos:Pos} (pa:PlainAttrs T) (slot:Slot T name id) (hty:typeOf (.builtin id)=pure (.type "method_descriptor")) (hm:MtR X id r) (ho:PE X o to) (ha:PA X (e :: es) t)
  (hbase:attributeBase o name X.env (eval o X.env)=eval o X.env:=by rfl) (hn:isStar e=false:=by rfl) (hall:es.all (fun e=>!isStar e)=true:=by rfl) (hl:(e :: es).length<30:=by decide) (hline:(apos.endLine == cpos.line)=true:=by rfl) :
  PE X (.Call (.Attribute o name apos) (e :: es) [] cpos) (tBM K T r to t) :=
 Gx K hK pa slot hty hm ho ha hbase (D3 (by rw [MR,hn,hall];rfl) hl) hline (bM hn) (cQ hall)
def aO {tg a:Expr} {ta:TA} (hg:Gl X "range") (hm:X.mg "range" = none) (ha:PA X [a] ta) (hn:isStar a=false:=by rfl):PI X tg (.Call (.Name "range" p) [a] [] pos) (AF ta):=Cw hg hm ha (bM hn)
def iH (K:IC) (hK:X.K=K) {tgs:List Expr} {kk:Nat} {tpos:Pos} {a:Expr} {ta:TA} (hg:Gl X "enumerate") (hm:X.mg "enumerate" = none) (ha:PA X [a] ta) (hn:isStar a=false:=by rfl) :
  PI X (.Tuple tgs kk tpos) (.Call (.Name "enumerate" p) [a] [] pos) (AB K ta):=DE K hK hg hm ha (bM hn)
end
section
variable {X:Cx} {CX:CXT} {k:Nat} {f C:Addr} {fd:JR} {ps:List Str} {sp:Sp} {dvs:List V} {ds:List Value} {E:XK} {x:Str} {p pos:Pos} {e:Expr} {es:List Expr} {t:TA}
def cP (M:Mk X.K C f) (F:aN X.prog X.w X.K X.mg X.base CX k f fd ps sp) (hr:bY (k+1) X.A) (hg:Gl X x) (hm:X.mg x=some (.ref C)) (hb:Binds X.K fd ps ds) (hd:Vals dvs ds) (hx:Passes CX X E)
  (ha:PA X (e :: es) t) (hn:isStar e=false:=by rfl) (hall:es.all (fun e=>!isStar e)=true:=by rfl) (hdb:(x == ("__debug__" : Str))=false:=by decide):PE X (.Call (.Name x p) (e :: es) [] pos) (Bb C sp dvs E t) :=
 F6 M F hr hg hm hb hd hx ha hdb (bM hn) (cQ hall)
end
section
variable {σ:St} {H H':Hp} {Q:VK} {K:IC} {a b:Nat}
def Ir {n:Nat} (h:Q (.int ((@OfNat.ofNat Nat n (instOfNatNat n):Nat):Int)) H):tC (.int (@OfNat.ofNat Int n instOfNat)) σ H Q:=h
def Gu (q:Q (.int ((a+b:Nat):Int)) H):rI0 (fun i j=>.int (i+j)) (.int (a:Int)) (.int (b:Int)) H Q:=⟨a,b,rfl,rfl,by
 have e:(a:Int)+(b:Int)=((a+b:Nat):Int):=by lia
 dsimp only;rw [e];exact q⟩
def kD (h:a<18446744073709551616\/b<18446744073709551616) (q:Q (.int ((a * b:Nat):Int)) H):rI AM (fun i j=>.int (i * j)) (.int (a:Int)) (.int (b:Int)) H Q:=⟨a,b,rfl,rfl,by
 rcases h with h|h
 ·exact .inl ⟨by lia,by lia⟩
 ·exact .inr ⟨by lia,by lia⟩,by
 have e:(a:Int) * (b:Int)=((a * b:Nat):Int):=by push_cast;rfl
 dsimp only;rw [e];exact q⟩
def yG (h:0<b) (q:Q (.int ((a % b:Nat):Int)) H):rI (fun _ j=>0<j) (fun i j=>.int (i % j)) (.int (a:Int)) (.int (b:Int)) H Q:=⟨a,b,rfl,rfl,by lia,by
 have e:(a:Int) % (b:Int)=((a % b:Nat):Int):=by push_cast;rfl
 dsimp only;rw [e];exact q⟩
def kf (h:0<b) (h2:b<1073741824) (q:Q (.int ((a / b:Nat):Int)) H):rI GA (fun i j=>.int (i / j)) (.int (a:Int)) (.int (b:Int)) H Q:=⟨a,b,rfl,rfl,⟨by lia,by lia⟩,by
 have e:(a:Int) / (b:Int)=((a / b:Nat):Int):=by push_cast;rfl
 dsimp only;rw [e];exact q⟩
def iF {p q:Prop} [Decidable p] [Decidable q] (h:p↔q) {R:Bool->Prop} (z:R (decide q)):R (decide p):=by
 rw [decide_eq_decide.mpr h];exact z
def HV (q:Q (.bl (decide (a=b))) H):rEq (.int (a:Int)) (.int (b:Int)) H Q:=rM (iF (R:=fun k=>Q (.bl k) H) (by lia) q)
def HS (q:Q (.bl (!decide (a=b))) H):rNe (.int (a:Int)) (.int (b:Int)) H Q:=r9 (iF (R:=fun k=>Q (.bl (!k)) H) (by lia) q)
def Ig (q:Q (.bl (decide (a<b))) H):rI0 (fun i j=>.bl (decide (i<j))) (.int (a:Int)) (.int (b:Int)) H Q:=⟨a,b,rfl,rfl,iF (R:=fun k=>Q (.bl k) H) (by lia) q⟩
def HZ (q:Q (.bl (decide (a<=b))) H):rI0 (fun i j=>.bl (decide (i<=j))) (.int (a:Int)) (.int (b:Int)) H Q:=⟨a,b,rfl,rfl,iF (R:=fun k=>Q (.bl k) H) (by lia) q⟩
def Hz (q:Q (.bl (decide (b<a))) H):rI0 (fun i j=>.bl (decide (j<i))) (.int (a:Int)) (.int (b:Int)) H Q:=⟨a,b,rfl,rfl,iF (R:=fun k=>Q (.bl k) H) (by lia) q⟩
def Ie (q:Q (.bl (decide (b<=a))) H):rI0 (fun i j=>.bl (decide (j<=i))) (.int (a:Int)) (.int (b:Int)) H Q:=⟨a,b,rfl,rfl,iF (R:=fun k=>Q (.bl k) H) (by lia) q⟩
def br {v:V} {l:List Nat} {n c:Nat} (h:At K H v l) (hn:l[n]?=some c) (q:Q (.int (c:Int)) H):oF K v (.int (n:Int)) H Q:=gZ h rfl hn q
end
section
variable {β:Type} [Rep β] {K:IC} {H H':Hp} {d:Addr} {l:List β} {y:V} {b:β} {Q:VK}
def DC {k:Nat} (h:Gr K H d l) (hk:k<=l.length) (hl:l.length<=100000) (hy:At K (del H d) y b) (q:∀ H',Gr K H' d (l.take k++b :: l.drop k)->(∀ a o,a≠d->H a=some o->H' a=some o)->Q .non H'):zI (.ref d) [.int (k:Int),y] H Q:=by
 obtain ⟨ys,h1,h2⟩:=h;have e:=h2.length;refine ⟨d,ys,k,y,rfl,rfl,h1,by lia,by lia,by lia,?_⟩
 refine q _ ⟨_,ar,?_⟩ (fun a o ha z=>by rw [av ha];exact z)
 rw [MB];exact Paired.app (Paired.wH k (Paired.cY h2 fun _ _ z=>Rep.mono ik z)) (.cons (Rep.mono ik hy) (Paired.wN k (Paired.cY h2 fun _ _ z=>Rep.mono ik z)))
end
def Ib {H H':Hp} {d:Addr} (k:∀ a o,a≠d->H a=some o->H' a=some o):aj (del H d) (del H' d):=fun b o h=>by
 by_cases hb:b=d
 ·rw [hb] at h;have z:del H d d=none:=if_pos rfl;rw [z] at h;cases h
 ·rw [ef hb] at h ⊢;exact k b o hb h
def mS {K:IC} {H:Hp} {p d:Addr} {l:List Nat} (h:Gr K H p l) (hne:p≠d):At K (del H d) (.ref p) l:=by
 obtain ⟨ys,hy,hP⟩:=h;refine ⟨p,ys,rfl,SqL.of (by rw [ef hne];exact hy),?_⟩
 exact Paired.cY hP fun _ _ z=>z
def HB {K:IC} {H:Hp} {d:Addr} {rows:List (List Nat)} {ps:List Addr} {i:Nat} {p:Addr} {Q:VK} (h:Tbl H d rows ps) (hp:ps[i]?=some p) (q:Q (.ref p) H):oF K (.ref d) (.int (i:Int)) H Q :=
 ⟨d,_,_,_,rfl,rfl,SqL.of h.top,iL (by rw [IJ,hp];rfl),q⟩
def DX {α:Type} (l:List α):cut l (some 1) none=l.drop 1:=by
 unfold cut;have e:HT.sIx l.length 0 (some 1)=min 1 l.length:=HT.FP l.length 0 1;rw [e,HT.DA];cases l with
 | nil=>rfl
 | cons x r =>
  have:min 1 (x :: r).length=1:=by simp
  rw [this];exact Jh (by simp)
def Gr.copy {α:Type} [Rep α] {K:IC} {H:Hp} {d:Addr} {l:List α} (h:Gr K H d l):∃ p xs,V.ref d=.ref p/\H p=some (.lst xs)/\Kr (Rep.is K H) xs l:=by
 obtain ⟨ys,h1,h2⟩:=h;exact ⟨d,ys,rfl,h1,Paired.cY h2 fun _ _ z=>Rep.mono gX z⟩
def dM {K:IC} {α:Type} [Rep α] {tA:TA} {l:List α} (h:WrA K tA l) (hz:l.length<=1000) {σ:St} {H:Hp} {Q:VK} (q:∀ d H',H d=none->aj H H'->Gr K H' d l->Q (.ref d) H'):xk tA σ H Q :=
 h σ H _ fun vs H1 s1 a1=>⟨by have:=a1.length;exact small (by lia),fun p hp=>q p _ (s1.free hp) (s1.trans (aE hp _)) ⟨vs,ar,Paired.cY a1 fun _ _ z=>Rep.mono (fun b o e=>by
  have hb:b≠p:=az e hp;rw [ef hb,av hb];exact e) z⟩⟩
def since (H H':Hp):Hp:=fun a=>match H a with
 | none=>H' a
 | some _=>none
section
variable {H H' H'':Hp} {a d:Addr} {rows:List (List Nat)} {ps:List Addr} {K:IC}
def e8 (h:H a=none):since H H' a=H' a:=by unfold since;rw [h]
def kO:aj (since H H') H':=fun b o h=>by
 unfold since at h
 split at h
 ·exact h
 ·cases h
def Tbl.since (h:Tbl H' d rows ps) (fd:H d=none) (fps:∀ p∈ps,H p=none):Tbl (since H H') d rows ps :=
 ⟨by rw [e8 fd];exact h.top,h.nd,h.ap,h.len,fun i p r e1 e2=>by rw [e8 (fps p (IH e1))];exact h.row i p r e1 e2⟩
def Gr.since {l:List Nat} (h:Gr K H' d l) (fd:H d=none):At K (since H H') (.ref d) l:=by
 obtain ⟨ys,hy,hP⟩:=h;exact ⟨d,ys,rfl,SqL.of (by rw [e8 fd];exact hy),Paired.cY hP fun _ _ z=>z⟩
end
def qi {K:IC} {H H₀:Hp} {σ:St} {g:TG} {t:TS} {D:Ends} {v:V} {α:Type} [Rep α] {l:List α} (h:At K H₀ v l) (Pv:Nat->St->Hp->Prop) (h0:Pv 0 σ H) (hl:∀ i σ' H',Pv i σ' H'->aj H₀ H')
  (hs:∀ i c w σ' H',l[i]?=some c->At K H₀ w c->Pv i σ' H'->g w σ' H' fun σ2 H2=>t { D with nx:=Pv (i+1),ct:=Pv (i+1),bk:=D.nx } σ2 H2) (hd:∀ σ' H',Pv l.length σ' H'->D.nx σ' H') :
  gG K v H (kQ g t D σ):=by
 obtain ⟨p,xs,rfl,hS,hP⟩:=h;refine ⟨p,rfl,⟨xs,(hl 0 σ H h0).seq hS⟩,qD (K:=K) (a:=p) (xs:=xs) Pv h0 (fun i σ' H' _ q=>(hl i σ' H' q).seq hS) (fun i x σ' H' hx q=>?_) (fun σ' H' q=>?_)⟩
 ·obtain ⟨c,hc,r⟩:=Paired.getL hP hx;exact hs i c x σ' H' hc r q
 ·rw [hP.length] at q;exact hd σ' H' q
def p7 {H H':Hp} {d:Addr} (s:aj H H') (hd:H d=none):aj H (del H' d):=fun b o z=>by
 rw [ef (az z hd)];exact s b o z
def kH {c:TT} {t:TS} {D:Ends} {σ:St} {H:Hp} (W:Nat->St->Hp->Prop) (m:Nat) (h0:W m σ H)
  (hs:∀ m σ' H',W m σ' H'->c σ' H' fun b H1=>if b=true then ∃ N:St->Hp->Prop,(∀ σ2 H2,N σ2 H2->∃ m',m' < m/\W m' σ2 H2)/\t { D with nx:=N,ct:=N,bk:=D.nx } σ' H1 else D.nx σ' H1):B0 c t D σ H:=⟨W,⟨m,h0⟩,hs⟩
def Dc (K:IC):List V->Hp->VK->Prop:=fun xs H Q=>∃ (p:Addr) (bs:List Bool),xs=[.ref p]/\SqL K H p (bs.map V.bl)/\Q (.bl (bs.any id)) H
def DH (K:IC):List V->Hp->VK->Prop:=fun xs H Q=>∃ (p:Addr) (bs:List Bool),xs=[.ref p]/\SqL K H p (bs.map V.bl)/\Q (.bl (bs.all id)) H
def oy:∀ {bs:List Bool} {its:List Value},Vals (bs.map V.bl) its->∀ (i:Nat) (v:Value),its[i]?=some v->∃ b,bs[i]?=some b/\v=.bool b
 | [],_,.nil,i,v,e=>by simp at e
 | b :: bs,_,.cons r t,0,v,e=>by
  simp at e;subst e;exact ⟨b,rfl,r⟩
 | b :: bs,_,.cons r t,i+1,v,e=>by
  obtain ⟨c,h1,h2⟩:=oy (bs:=bs) t i v (by simpa using e)
  exact ⟨c,by simpa using h1,h2⟩
def Aw (bs:List Bool):((IF bs.length).any fun i=>(bs[i]?).getD false)=bs.any id:=by
 rw [Kn,M0,M0];constructor
 ·rintro ⟨i,hi,e⟩;have hi':=IK.mp hi;simp only [IG hi',Lc] at e;exact ⟨_,Ks hi',e⟩
 ·rintro ⟨b,hb,e⟩;obtain ⟨i,hi,rfl⟩:=NP hb;exact ⟨i,IK.mpr hi,by simp only [IG hi,Lc];exact e⟩
def Ba (bs:List Bool):((IF bs.length).all fun i=>(bs[i]?).getD true)=bs.all id:=by
 rw [Kn,Jq,Jq];constructor
 ·intro h b hb;obtain ⟨i,hi,rfl⟩:=NP hb;have:=h i (IK.mpr hi);simp only [IG hi,Lc] at this;exact this
 ·intro h i hi;have hi':=IK.mp hi;simp only [IG hi',Lc];exact h _ (Ks hi')
def B5 {X:Cx} (hc:X.calm=true):de X (.builtin "any") (Dc X.K):=by
 intro pins s σ H xs us Q I r h;obtain ⟨p,bs,rfl,hS,q⟩:=h;obtain ⟨u,rfl,ru⟩:=vals1 r;cases (show u=JC p from ru);obtain ⟨its,rv,pl,hz⟩:=I.list hS;have hl:=pl.isList;have hlen:its.length=bs.length:=by have:=rv.length;simp at this;lia
 have hlt:p<s.heap.objs.size:=by obtain ⟨_,e,_⟩:=hl;exact IY e
 refine call_any_walk (Mx hl ?_);refine ⟨s.heap.objs.size,[s.heap.objs.size,p],[s.heap.objs.size],its.toArray.size,_,_,fun i=>(bs[i]?).getD false,rfl,Walks.list (A:=X.A.in1) (I.ok.hd hc) _ p (Jm hlt) its.toArray,
  ⟨⟨_,JJ _ rfl,rfl,rfl⟩,hl.push _⟩,fun i v s' Q' E' hP hQ=>?_,fun h' tk hk=>?_⟩
 ·obtain ⟨b,e,rfl⟩:=oy rv i v (by simpa using hP)
  simp only [e,Lc] at hQ;exact KN hQ
 ·have e:((IF its.toArray.size).any fun i=>(bs[i]?).getD false)=bs.any id:=by
   rw [Ji,hlen];exact Aw bs
  rw [e];exact ⟨.bl _,H,I.kept (t':=tk) (fun b x e=>hk b x (fun hm=>by rw [I0.mp hm] at e;exact Ki _ (IY e)) (IU _ e)),rfl,q⟩
def CD {X:Cx} (hc:X.calm=true):de X (.builtin "all") (DH X.K):=by
 intro pins s σ H xs us Q I r h;obtain ⟨p,bs,rfl,hS,q⟩:=h;obtain ⟨u,rfl,ru⟩:=vals1 r;cases (show u=JC p from ru);obtain ⟨its,rv,pl,hz⟩:=I.list hS;have hl:=pl.isList;have hlen:its.length=bs.length:=by have:=rv.length;simp at this;lia
 have hlt:p<s.heap.objs.size:=by obtain ⟨_,e,_⟩:=hl;exact IY e
 refine call_all_walk (Mx hl ?_);refine ⟨s.heap.objs.size,[s.heap.objs.size,p],[s.heap.objs.size],its.toArray.size,_,_,fun i=>(bs[i]?).getD true,rfl,Walks.list (A:=X.A.in1) (I.ok.hd hc) _ p (Jm hlt) its.toArray,
  ⟨⟨_,JJ _ rfl,rfl,rfl⟩,hl.push _⟩,fun i v s' Q' E' hP hQ=>?_,fun h' tk hk=>?_⟩
 ·obtain ⟨b,e,rfl⟩:=oy rv i v (by simpa using hP)
  simp only [e,Lc] at hQ;exact KN hQ
 ·have e:((IF its.toArray.size).all fun i=>(bs[i]?).getD true)=bs.all id:=by
   rw [Ji,hlen];exact Ba bs
  rw [e];exact ⟨.bl _,H,I.kept (t':=tk) (fun b x e=>hk b x (fun hm=>by rw [I0.mp hm] at e;exact Ki _ (IY e)) (IU _ e)),rfl,q⟩
def vg {X:Cx} (K:IC) (hK:X.K=K) (hc:X.calm=true):de X (.builtin "any") (Dc K):=by subst hK;exact B5 hc
def oi {X:Cx} (K:IC) (hK:X.K=K) (hc:X.calm=true):de X (.builtin "all") (DH K):=by subst hK;exact CD hc
section
variable {σ:St} {H H':Hp} {Q:VK} {K:IC} {v:V}
def yM {bs:List Bool} (h:At K H v bs):∃ p,v=.ref p/\SqL K H p (bs.map V.bl):=by
 obtain ⟨p,xs,rfl,hS,hP⟩:=h;refine ⟨p,rfl,?_⟩;have e:xs=bs.map V.bl:=by
  clear hS
  induction hP with
  | nil=>rfl
  | cons r _ ih=>rw [JL,<- ih];exact congrArg (· :: _) r
 rw [<- e];exact hS
def EV {bs:List Bool} (h:At K H v bs) (q:Q (.bl (bs.any id)) H):Dc K [v] H Q:=by
 obtain ⟨p,rfl,hS⟩:=yM h;exact ⟨p,bs,rfl,hS,q⟩
def xl {bs:List Bool} (h:At K H v bs) (q:Q (.bl (bs.all id)) H):DH K [v] H Q:=by
 obtain ⟨p,rfl,hS⟩:=yM h;exact ⟨p,bs,rfl,hS,q⟩
end
def pZ:∀ {ns:List Int} {its:List Value},Vals (ns.map V.int) its->N4 its ns
 | [],_,.nil=>.nil
 | n :: ns,_,.cons r t=>by
  obtain ⟨tk,e⟩:=(show ∃ tk,_=LB n tk from r);subst e;exact .cons n tk (pZ t)
def B2:V->List V->Hp->VK->Prop:=fun x vs H Q=>∃ (l:Addr) (ns:List Int) (k:Int),x=.ref l/\vs=[.int k]/\H l=some (.lst (ns.map V.int))/\k∈ns/\Q (.int (ns.idxOf k:Nat)) H
def xQ {X:Cx}:MtM X "list.index" B2:=by
 intro pins s σ H x vs v us Q I rx rv h;obtain ⟨l,ns,k,rfl,rfl,hH,hk,q⟩:=h;cases rx;obtain ⟨u,rfl,ru⟩:=rv.one;obtain ⟨t,rfl⟩:=(show ∃ t,u=LB k t from ru);obtain ⟨z,its,n,r,hl',e⟩:=I.oH hH;have hi:=pZ r;have hlen:=hi.length;have hj:ns.idxOf k<ns.length:=MF.mpr hk;have hz:ns.length<=Jr:=by simpa using z
 rw [Kc] at hz;refine L3 LJ ⟨_,e,rfl⟩ PySem.F.entry_list_index (PySem.F.args_list_index_2 _ _)
  (SeqAt.list_indexAt l its.toArray n none #[] (.int k t) (isInt k) (ns.idxOf k) (by simpa [hlen] using hj) (by lia) ?_ ?_) ⟨e,fun y hy=>(eq_isInt k t hi y (by simpa using hy)).at _ _,⟨.int _,H,I.tok _,⟨_,rfl⟩,q⟩⟩
 ·show isInt k its[ns.idxOf k]=true;rw [isInt_at k hi _ (by lia) hj]
  simpa using Ko hj
 ·intro j hjs hlt;show isInt k its[j]=false;rw [isInt_at k hi j (by simpa using hjs) (by lia)]
  exact ne_of_lt_idxOf hlt _
def zA {H:Hp} {Q:VK} {p:Addr} {r:List Nat} {k j:Nat} (h:H p=some (.lst (aH r))) (hk:r[j]?=some k) (hf:∀ i,i<j->r[i]?≠some k) (q:Q (.int (j:Int)) H):B2 (.ref p) [.int (k:Int)] H Q:=by
 have hj:j<r.length:=(II.mp hk).1;have e1:aH r=(r.map fun (n:Nat)=>(n:Int)).map V.int:=by
  unfold aH;rw [J4];rfl
 have e2:(r.map fun (n:Nat)=>(n:Int)).idxOf (k:Int)=j:=by
  have hm:(k:Int)∈r.map fun (n:Nat)=>(n:Int):=IP.mpr ⟨k,IH hk,rfl⟩;have hlt:=MF.mpr hm;have hat:=Ko hlt;rw [IE] at hlt;have hat':r[(r.map fun (n:Nat)=>(n:Int)).idxOf (k:Int)]?=some k:=by
   rw [IG hlt];rw [Lx] at hat;exact congrArg some (NZ hat)
  rcases Kx ((r.map fun (n:Nat)=>(n:Int)).idxOf (k:Int)) j with z|z|z
  ·exact absurd hat' (hf _ z)
  ·exact z
  ·exfalso
   have:=ne_of_lt_idxOf z (by rw [IE];exact hj)
   rw [IG hj] at hk;have hk':=Jy hk;simp [hk'] at this
 refine ⟨p,r.map fun (n:Nat)=>(n:Int),k,rfl,rfl,by rw [<- e1];exact h,IP.mpr ⟨k,IH hk,rfl⟩,?_⟩
 rw [e2];exact q
def Ft {K:IC} {H:Hp} {σ:St} {Q:VK} {g:TG} {tt:TT} {ta:TE} {d:Addr} {rows:List (List Nat)} {ps:List Addr} {β:Type} [Rep β] {own:List Str} {fr:List Nat} (h:Tbl H d rows ps) (hz:rows.length<=100000) (acc:Nat->List β) (Sh:St->Prop) (ha0:acc 0=[]) (hal:∀ i,i<=rows.length->(acc i).length<=i) (h0:Sh (bG own fr σ))
  (turn:∀ i c p σ' H' (d:Addr) (R:St->V->Hp->Prop) (R0:St->Hp->Prop),rows[i]?=some c->aj H H'->H' p=some (.lst (aH c))->Sh σ' ->
   (∀ σ2 y b H5,Sh σ2->aj H' H5->At K (del H5 d) y b->acc (i+1)=acc i++[b]->R σ2 y H5)->(∀ σ2 H5,Sh σ2->aj H' H5->acc (i+1)=acc i->R0 σ2 H5)->(∃ ys,H' d=some (.lst ys)) ->
   g (.ref p) σ' H' fun σ2 H3=>tt σ2 H3 fun ok H4=>if ok=true then ta σ2 H4 (R σ2) else R0 σ2 H4)
  (fin:∀ d H',H d=none->aj H H'->(∃ ys,H' d=some (.lst ys)/\Kr (Rep.is K (del H' d)) ys (acc rows.length))->Q (.ref d) H') :
  gG K (.ref d) H (dg own fr g tt ta σ Q):=by
 have hl:(ps.map V.ref).length=rows.length:=by rw [IE,h.len]
 refine ⟨d,rfl,⟨_,SqL.of h.top⟩,uz (J:=Itl K d) (n:=rows.length) (fun i w H'=>∃ p c,w=.ref p/\rows[i]?=some c/\H' p=some (.lst (aH c))) acc Sh (fun i H' hi e=>⟨_,(ps.map V.ref)[i]'(by lia),e.seq (SqL.of h.top),IG (by lia)⟩) (fun H' e=>⟨_,e.seq (SqL.of h.top),Ni hl⟩)
  (fun i H' x H2 hi e hy=>?_) hz ha0 hal h0 (fun i w σ' H' d' R R0 hi e ⟨p,c,hw,hc,hp⟩=>by subst hw;exact turn i c p σ' H' d' R R0 hc e hp) fin⟩
 obtain ⟨e1,e2⟩:=hy;have z:=e2 _ (e.seq (SqL.of h.top));rw [IJ] at z;cases q:ps[i]? with
 | none=>rw [q] at z;cases z
 | some p =>
  rw [q] at z;refine ⟨e1,p,rows[i],(Jy z).symm,IG hi,e _ _ (h.row i p _ q (IG hi))⟩
def Ec {α:Type} [Rep α] {K:IC} {H:Hp} {v:V} {Q:VK} {l:List α} {lo hi:Option Int} (h:At K H v l) (q:∀ p H',H p=none->aj H H'->Gr K H' p (cut l lo hi)->Q (.ref p) H'):Am K v lo hi H Q:=by
 obtain ⟨p,xs,rfl,hS,hP⟩:=h;refine ⟨p,xs,rfl,hS,fun d hd=>q d _ hd (aE hd _) ⟨_,ar,?_⟩⟩;have e:=hP.length;have sm:aj H (del (upd H d (.lst (qF xs lo hi))) d):=fun b o z=>by
  have hb:b≠d:=az z hd;rw [ef hb,av hb];exact z
 unfold qF cut at *;rw [e] at sm ⊢;exact Paired.wH _ (Paired.wN _ (Paired.cY hP fun _ _ z=>Rep.mono sm z))
def GO {K:IC} {i:Int}:Wr K (tC (.int i)) i:=fun _ H _ q=>q _ H (aj.refl _) rfl
def AQ:Expr->Option Int
 | .Constant (.int i) _ _=>some i
 | _=>none
def rP:List Expr->Option (List Int)
 | []=>some []
 | e :: es=>match AQ e,rP es with
  | some i,some l=>some (i :: l)
  | _,_=>none
def GJ:Expr->Option (List Int)
 | .List es _=>rP es
 | _=>none
def v7:List Expr->Option (List (List Int))
 | []=>some []
 | e :: es=>match GJ e,v7 es with
  | some i,some l=>some (i :: l)
  | _,_=>none
def oR:List Int->TA
 | []=>qr
 | i :: l=>jE (tC (.int i)) (oR l)
def sj:List (List Int)->TA
 | []=>qr
 | r :: l=>jE (xk (oR r)) (sj l)
def qk {X:Cx}:∀ {es:List Expr} (ns:List Int),rP es=some ns->PA X es (oR ns)
 | [],ns,h=>by cases h;exact aa
 | e :: es,ns,h=>by
  unfold rP at h
  split at h
  ·rename_i i l h1 h2
   cases h;cases e with
   | Constant c j pos =>
    cases c with
    | int k =>
     have hk:k=i:=by simpa [AQ] using h1
     subst hk;exact ue ah (qk l h2) (bM rfl)
    | _=>simp [AQ] at h1
   | _=>simp [AQ] at h1
  ·cases h
def xu {X:Cx}:∀ {es:List Expr} (rs:List (List Int)),v7 es=some rs->PA X es (sj rs)
 | [],rs,h=>by cases h;exact aa
 | e :: es,rs,h=>by
  unfold v7 at h
  split at h
  ·rename_i i l h1 h2
   cases h;cases e with
   | List ls pos=>exact ue (cq (qk i h1)) (xu l h2) (bM rfl)
   | _=>simp [GJ] at h1
  ·cases h
@[irreducible] def yK (es:List Expr) (ns:List Int):Bool:=decide (rP es=some ns)
@[irreducible] def xR (es:List Expr) (rs:List (List Int)):Bool:=decide (v7 es=some rs)
def Fj {X:Cx} {es:List Expr} (ns:List Int) (h:yK es ns=true):PA X es (oR ns):=qk ns (by unfold yK at h;exact of_decide_eq_true h)
def F2 {X:Cx} {es:List Expr} (rs:List (List Int)) (h:xR es rs=true):PA X es (sj rs):=xu rs (by unfold xR at h;exact of_decide_eq_true h)
structure IsP (p:Prop):Prop where
 out:p
def qz {X:Cx} {es:List Expr} (ns:List Int) (h:yK es ns=true):IsP (PA X es (oR ns)):=⟨Fj ns h⟩
def yC {X:Cx} {es:List Expr} (rs:List (List Int)) (h:xR es rs=true):IsP (PA X es (sj rs)):=⟨F2 rs h⟩
section
variable {K:IC}
def me:∀ (l:List Nat),WrA K (oR (l.map fun (n:Nat)=>(n:Int))) l
 | []=>hZ
 | n :: l=>oU (CV rfl) (me l)
def tU:∀ (rs:List (List Nat)),(∀ r∈rs,r.length<=1000)->WrA K (sj (rs.map fun r=>r.map fun (n:Nat)=>(n:Int))) rs
 | [],_=>hZ
 | r :: rs,h=>oU (B4 (me r) (h r IT)) (tU rs fun x hx=>h x (IM _ hx))
end
def vi:∀ {its:List Value} {ns:List Int},N4 its ns->Vals (ns.map V.int) its
 | _,_,.nil=>.nil
 | _,_,.cons n t r=>.cons ⟨t,rfl⟩ (vi r)
def tK (K:IC):List V->Hp->VK->Prop:=fun xs H Q=>∃ (p:Addr) (ns:List Int),xs=[.ref p]/\SqL K H p (ns.map V.int)/\ns.length<64 /\
 ∀ (d:Addr) (ns':List Int),H d=none->ns'.Perm ns->ns'.Pairwise (·<=·)->Q (.ref d) (upd H d (.lst (ns'.map V.int)))
def wW {X:Cx}:de X (.builtin "sorted") (tK X.K):=by
 intro pins s σ H xs us Q I r h;obtain ⟨p,ns,rfl,hS,h64,q⟩:=h;obtain ⟨u,rfl,ru⟩:=vals1 r;cases (show u=JC p from ru);obtain ⟨its,rv,pl,hz⟩:=I.list hS;have hi:=pZ rv;have hlen:=hi.length;refine sorted_ints pl.isList hi (by lia) fun out ns' a1 a2 a3=>?_
 obtain ⟨c,hc⟩:=sortedAll_at s.heap its out;have hn:H (s.heap.objs.size+1)=none:=I.hok.fresh (LR _);have hl':ns'.length=ns.length:=a2.length_eq;refine ⟨.ref (s.heap.objs.size+1),_,I.laid (o:=.lst (ns'.map V.int)) (fun b o e=>sortedAll_old e) (LR _) ⟨?_,out.toList,c,vi a1,?_⟩,rfl,q _ ns' hn a2 a3⟩
 ·rw [IE];exact small (by lia)
 ·simpa [seqObj] using hc
def n5 {X:Cx} (K:IC) (hK:X.K=K):de X (.builtin "sorted") (tK K):=by subst hK;exact wW
section
variable {σ:St} {H H':Hp} {Q:VK} {K:IC} {v:V}
def BA {ns':List Int} {l:List Nat} (h:ns'.Perm (l.map fun (n:Nat)=>(n:Int))):∃ l':List Nat,ns'=l'.map (fun (n:Nat)=>(n:Int))/\l'.Perm l:=by
 refine ⟨ns'.map N0,?_,?_⟩
 ·rw [J4];have e:∀ x∈ns',((fun (n:Nat)=>(n:Int)) ∘ N0) x=x:=fun x hx=>by
   obtain ⟨n,_,rfl⟩:=IP.mp (h.mem_iff.mp hx);rfl
  have:ns'.map ((fun (n:Nat)=>(n:Int)) ∘ N0)=ns'.map id:=Jn e;rw [this,MT]
 ·have:=h.map N0;rw [J4] at this;have e:(N0 ∘ fun (n:Nat)=>(n:Int))=id:=by funext n;rfl
  rw [e,MT] at this;exact this
def sx (l:List Nat):aH l=(l.map fun (n:Nat)=>(n:Int)).map V.int:=by
 unfold aH;rw [J4];rfl
def yH {l:List Nat} (h:At K H v l) (hl:l.length<64) (q:∀ (d:Addr) (l':List Nat) (H':Hp),H d=none->aj H H'->l'.Perm l->l'.Pairwise (·<=·)->Gr K H' d l'->Q (.ref d) H'):tK K [v] H Q:=by
 obtain ⟨p,rfl,hS⟩:=lY h;have hS':SqL K H p ((l.map fun (n:Nat)=>(n:Int)).map V.int):=by
  have e:=sx l;unfold aH at e;rw [<- e];exact hS
 refine ⟨p,_,rfl,hS',by rw [IE];exact hl,fun d ns' hd hp hs=>?_⟩
 obtain ⟨l',rfl,hp'⟩:=BA hp;have hs':l'.Pairwise (·<=·):=by
  rw [MG] at hs;exact hs.imp fun z=>by lia
 rw [<- sx];exact q d l' _ hd (aE hd _) hp' hs' ⟨_,ar,jR⟩
def Bp (l:List Nat):(l.map fun (n:Nat)=>V.int (n:Int)).all jF=true:=by
 rw [Jq];intro x hx;obtain ⟨n,_,rfl⟩:=IP.mp hx;rfl
def zO (x:Nat):∀ l:List Nat,inV (.int (x:Int)) (l.map fun (n:Nat)=>V.int (n:Int))=decide (x∈l)
 | []=>rfl
 | a :: l=>by
  have ih:=zO x l;rw [JL];simp only [inV] at ih ⊢;rw [LI,ih];have e1:eqV (V.int (a:Int)) (V.int (x:Int))=decide (x=a):=by
   show ((a:Int) == (x:Int))=decide (x=a);rw [Kn];simp;lia
  rw [e1,Kn];simp
def Fu {l:List Nat} {x:Nat} (h:At K H v l) (q:Q (.bl (!decide (x∈l))) H):rIn K true (.int (x:Int)) v H Q:=by
 obtain ⟨p,rfl,hS⟩:=lY h;refine ⟨p,_,rfl,.inl hS,rfl,Bp l,?_⟩;rw [zO];exact q
end
def Bs {X:Cx} (K:IC) (hK:X.K=K):OpR X (compareOp .NotIn) (rIn K true):=by subst hK;exact yJ
section
variable {X:Cx} {pins:List (Addr×Obj)} {σ:St} {H:Hp} {s:IL} {A:JF} {α β:Type} [Rep α] [DecidableEq α] [bV α] [Rep β] [DecidableEq β] [bV β]
def FW {p q:Addr} {x1 x2 y1 y2:V} {a c:α} {b d:β} (I:Inv X pins σ H s) (hp:SqT X.K H p [x1,x2]) (h1:At X.K H x1 a) (h2:At X.K H x2 b) (hq:SqT X.K H q [y1,y2]) (h3:At X.K H y1 c) (h4:At X.K H y2 d)
  (hu:A.units+(max (bV.depth α) (bV.depth β)+1)<cLine):SeqAt.RcAt A s (.ref p) (.ref q) (decide ((a,b)=(c,d))):=by
 obtain ⟨its,v1,t1,_⟩:=I.tuple hp;obtain ⟨its2,v2,t2,_⟩:=I.tuple hq;obtain ⟨u1,u2,rfl,r1,r2⟩:=v1.two;obtain ⟨w1,w2,rfl,r3,r4⟩:=v2.two;have e1:=bV.eq (A:=A.in1) I h1 h3 r1 r3 (by show A.units+1+_<_;lia)
 have e2:=bV.eq (A:=A.in1) I h2 h4 r2 r4 (by show A.units+1+_<_;lia)
 have z:=SeqAt.RcAt.tuples (A:=A) (e:=fun j=>if j=0 then decide (a=c) else decide (b=d)) t1 t2 (by lia) fun j hj1 hj2=>by
  have hj:j<2:=by simpa using hj1
  match j,hj with
  | 0,_=>exact e1
  | 1,_=>exact e2
 have ek:((IF (min (#[u1,u2]:Array Value).size (#[w1,w2]:Array Value).size)).all (fun j=>if j=0 then decide (a=c) else decide (b=d)) && (#[u1,u2]:Array Value).size == (#[w1,w2]:Array Value).size)=decide ((a,b)=(c,d)):=by
  have:(IF (min (#[u1,u2]:Array Value).size (#[w1,w2]:Array Value).size))=[0,1]:=rfl;rw [this,Kn];simp
 rw [<- ek];exact z
instance:bV (α×β) where
 depth:=max (bV.depth α) (bV.depth β)+1
 inj:=fun {X pins σ H s x a b} I h h'=>by
  obtain ⟨p,x1,x2,e,h1,h2,h3⟩:=h;obtain ⟨q,y1,y2,e',h4,h5,h6⟩:=h';subst e;cases e';have z:=I.vk h1 h4;cases z;exact Prod.ext (bV.inj I h2 h5) (bV.inj I h3 h6)
 eq:=fun {X pins σ H s A x y u v a b} I hx hy ru rv hu=>by
  obtain ⟨p,x1,x2,e,h1,h2,h3⟩:=hx;obtain ⟨q,y1,y2,e',h4,h5,h6⟩:=hy;subst e e';cases (show u=JC p from ru);cases (show v=JC q from rv)
  by_cases hpq:p=q
  ·subst hpq;have z:=I.vk h1 h4;cases z;have e1:a=b:=Prod.ext (bV.inj I h2 h5) (bV.inj I h3 h6);rw [decide_eq_true e1];exact Nm _
  ·exact SeqAt.EqAt.of_refs hpq (FW I h1 h2 h3 h4 h5 h6 hu)
end
section
variable {σ:St} {H:Hp} {Q:VK} {K:IC}
def E1 {p:Addr} {xs:List V} {i:Nat} {x:V} (h:H p=some (.tup xs)) (hx:xs[i]?=some x) (q:Q x H):DL K (.ref p) (.int (i:Int)) H Q:=⟨p,xs,_,x,rfl,rfl,SqT.of h,iL hx,q⟩
def Fl {p:Addr} {a b:Nat} (h:H p=some (.tup [.int (a:Int),.int (b:Int)])):At K H (.ref p) ((a,b):Nat×Nat):=⟨p,_,_,rfl,SqT.of h,rfl,rfl⟩
end
def rp {X:Cx} (K:IC) (hK:X.K=K) {pos p1 p2:Pos} {i j k:Nat} {x y:Str} (hc:X.calm=true) (hN:X.N.Nodup) (hi:X.N[i]?=some x) (hx:Loc X.env.scope x) (hj:X.N[j]?=some y) (hy:Loc X.env.scope y)
  (hf:X.fn x=true\/X.env.scope.names.lookup x=some .local:=by first|exact .inl rfl|exact .inr rfl|assumption) (hf':X.fn y=true\/X.env.scope.names.lookup y=some .local:=by first|exact .inl rfl|exact .inr rfl|assumption) :
  PG X (.Tuple [.Name x p1,.Name y p2] k pos) (nN K 2 (eL (da i) (eL (da j) oj))):=by
 subst hK;exact fh hc (bD (au hN hi hx hf) (bD (au hN hj hy hf') eB))
def zX {K:IC} {α:Type} [Rep α] {H:Hp} {v:V} {Q:VK} {l:List α} (h:At K H v l) (q:∀ p H',H p=none->aj H H'->Gr K H' p l->Q (.ref p) H'):Bk K [v] H Q:=by
 obtain ⟨p,xs,rfl,hS,hP⟩:=h;refine ⟨p,xs,rfl,.inl hS,fun d hd=>q d _ hd (aE hd _) ⟨_,ar,Paired.cY hP fun _ _ z=>Rep.mono (fun b o z=>?_) z⟩⟩;have hb:b≠d:=az z hd;rw [ef hb,av hb];exact z
def eJ {H:Hp} {p d:Addr} {o:HO} (h:H p=some o) (hd:H d=none):p≠d:=fun e=>by rw [e,hd] at h;cases h
section
variable {X:Cx} {pins:List (Addr×Obj)} {σ:St} {H:Hp} {s:IL} {h':Heap} {t':Nat} {fp:List Addr}
def Inv.Ce (I:Inv X pins σ H s) (hf:∀ b∈fp,ie X pins H b) (k:∀ b ob,b∉fp->s.heap.get? b=some ob->h'.get? b=some ob):Inv X pins σ H { s with heap:=h',toks:=t' }:=by
 have nofp:∀ b u,H b=some u->b∉fp:=fun b u e hb=>by rw [(hf b hb).1] at e;cases e
 refine I.step (g':=s.gens) (d':=s.drawn) (ch:=fp) (fun b hb=>let ⟨_,f1,_,f3,f4,f5⟩:=hf b hb;⟨f3,f1,f4,f5⟩) (fun b ob _ _ hc e _=>k b ob hc e) (fun b ob _ _ hc e _=>⟨ob.slots,k b ob hc e⟩)
  (fun _ _ _ _ n=>n) (fun b ob hc e=>⟨ob,k b ob hc e⟩) (fun _ _ e=>e) (fun _ _ _ e=>e) (fun b ps e=>⟨#[],by rw [e];simp⟩) (fun m hm=>?_) (fun b u e=>?_) I.bare
 ·obtain ⟨ob,es,ep,e,r⟩:=hm;exact ⟨ob,es,ep,k _ ob (fun hb=>(hf _ hb).2.1 rfl) e,r⟩
 ·refine (I.hok b u e).pY (fun c v hc q=>k c v ?_ q) (fun _ q=>q) fun _ _ q=>q;rcases hc with z|z
  ·rw [z];exact nofp b u e
  ·exact nofp c _ z
end
def F8 {a b:Nat} (h:¬ a=b):@Ne Addr a b:=h
def vv (n l l':Nat) (h1:l<n) (h2:l' < n):LU (n+4) (n+2) (n+3) n (n+1) l l':=by
 constructor <;> (refine F8 ?_;lia)
def Itz (K:IC) (a b:Addr):It :=
 ⟨fun i H=>∃ xs x ys y,SqL K H a xs/\xs[i]?=some x/\SqL K H b ys/\ys[i]?=some y,fun i H v H'=>∃ p x y,v=.ref p/\H p=none/\H'=upd H p (.tup [x,y])/\(∀ xs,SqL K H a xs->xs[i]?=some x)/\∀ ys,SqL K H b ys->ys[i]?=some y,
  fun i H=>∃ xs ys,SqL K H a xs/\SqL K H b ys/\(xs.length<=i\/ys.length<=i)⟩
def DM {P:Jc} {w:World} {K:IC} {es:List Expr} {kk:Nat} {tpos:Pos} (a b z TI TO i1 i2:Addr) (D:LU z TI TO i1 i2 a b) :
  Turn P w K (.Tuple es kk tpos) (Itz K a b) [z,TI,TO,i1,i2] z (fun i h=>IsZip h z TI TO .none/\NL h TI (.ref i1) (.ref i2)/\(∃ c d,NL h TO c d)/\h.IsListIter i1 a i/\h.IsListIter i2 b i) where
 mem:=by simp
 obj:=fun i h st c hc=>by
  obtain ⟨hz,hTI,⟨u,v,hTO⟩,⟨o1,e1,_,d1⟩,o2,e2,_,d2⟩:=st;have hc':c=z\/c=TI\/c=TO\/c=i1\/c=i2:=by simpa using hc
  rcases hc' with rfl|rfl|rfl|rfl|rfl
  ·exact ⟨_,hz,fun v y=>by
    have y':Og _=NX v:=y;cases y'⟩
  ·exact ⟨_,hTI,fun v y=>by
    have y':Data.seq _ _=NX v:=y;cases y'⟩
  ·exact ⟨_,hTO,fun v y=>by
    have y':Data.seq _ _=NX v:=y;cases y'⟩
  ·exact ⟨o1,e1,fun v y=>by rw [d1] at y;cases y⟩
  ·exact ⟨o2,e2,fun v y=>by rw [d2] at y;cases y⟩
 keep:=fun i h h' st k=>by
  obtain ⟨hz,hTI,⟨u,v,hTO⟩,h1,h2⟩:=st;exact ⟨k z (by simp) _ hz,k TI (by simp) _ hTI,⟨u,v,k TO (by simp) _ hTO⟩,h1.at fun o e=>k i1 (by simp) o e,h2.at fun o e=>k i2 (by simp) o e⟩
 item:=by
  intro X hP hw hK hc i pins s σ H E I hf st hg;subst hP hw hK;obtain ⟨xs,x,ys,y,hq,hx,hq2,hy⟩:=hg;obtain ⟨its,rv,p,_⟩:=I.list hq;obtain ⟨its2,rv2,p2,_⟩:=I.list hq2;obtain ⟨u,hu,ru⟩:=rv.get hx;obtain ⟨u2,hu2,ru2⟩:=rv2.get hy;obtain ⟨hz,hTI,⟨c,d,hTO⟩,h1,h2⟩:=st;have lz:z<s.heap.objs.size:=IY hz;have lTI:TI<s.heap.objs.size:=IY hTI;have lTO:TO<s.heap.objs.size:=IY hTO;have l1:i1<s.heap.objs.size:=by obtain ⟨_,q,_⟩:=h1;exact IY q
  have l2:i2<s.heap.objs.size:=by obtain ⟨_,q,_⟩:=h2;exact IY q
  refine Nq D hz hTI hTO h1 h2 p.isList p2.isList (x:=u) (y:=u2) (by simpa using hu) (by simpa using hu2) fun h' a1 a2 a3 a4 a5 a6 hk=>?_
  refine ⟨_,rfl,?_⟩;have I1:Inv X pins σ (upd H s.heap.objs.size (.tup [x,y])) { s with heap:=h',toks:=s.toks } :=
   I.vt hf (fun b ob hb q=>hk b ob (fun z=>hb (by simp [z])) (fun z=>hb (by simp [z])) (fun z=>hb (by simp [z])) (fun z=>hb (by simp [z])) q) (IV _) ⟨by show 2<=Jr;decide,[u,u2],.cons ru (.cons ru2 .nil),⟨_,a5,rfl,_,rfl⟩⟩
  have fE:=hf z (by simp)
  refine wpAny_letOwnedTupleGo_zip a1 fun h2' hz2 hs2=>?_;have nE:(upd H s.heap.objs.size (.tup [x,y])) z=none:=by rw [av (Jm lz)];exact fE.1
  refine ⟨.ref s.heap.objs.size,_,I1.turned (t':=s.toks) (fun b ob hb q=>(hs2.2 b hb).trans q) nE fE.2.1 fE.2.2.2.1 fE.2.2.2.2.1 fE.2.2.2.2.2,rfl,⟨_,x,y,rfl,I.hok.fresh (IV _),rfl,fun zs hz=>by rw [I.iw hz hq];exact hx,fun zs hz=>by rw [I.iw hz hq2];exact hy⟩,?_,fun b hb=>?_⟩
  ·exact ⟨hz2,hs2.extBut _ _ D.TIz (hk _ _ D.TIz D.TITO D.TIi1 D.TIi2 hTI),⟨_,_,hs2.extBut _ _ D.TOz a2⟩,a3.extBut hs2.extBut D.i1z,a4.extBut hs2.extBut D.i2z⟩
  ·have hb2:b=z\/b=TI\/b=TO\/b=i1\/b=i2:=by simpa using hb
   have hb':b<s.heap.objs.size:=by rcases hb2 with rfl|rfl|rfl|rfl|rfl <;> assumption
   rw [av (Jm hb')];exact (hf b hb).1
 done:=by
  intro X hP hw hK hc i pins s σ H E I hf st hg;subst hP hw hK;obtain ⟨xs,ys,hq,hq2,hx⟩:=hg;obtain ⟨its,rv,p,_⟩:=I.list hq;obtain ⟨its2,rv2,p2,_⟩:=I.list hq2;obtain ⟨hz,hTI,⟨c,d,hTO⟩,h1,h2⟩:=st;have e1:=rv.length;have e2:=rv2.length;refine NF (I.ok.hd hc) D hz hTI hTO h1 h2 p.isList p2.isList (by
   rcases hx with z|z
   ·exact .inl (by simp;lia)
   ·exact .inr (by simp;lia)) fun h' hk=>⟨rfl,I.Ce (t':=s.toks) hf fun b ob hb q=>hk b ob (fun z=>hb (by simp [z])) (fun z=>hb (by simp [z])) (fun z=>hb (by simp [z])) (fun z=>hb (by simp [z])) q⟩
 self:=fun _ _ _ _ _ st h=>M1 st.1 h
def Dy (K:IC) (vs:List V) (H:Hp) (R:It->Hp->Prop):Prop:=∃ a b xs ys,vs=[.ref a,.ref b]/\SqL K H a xs/\SqL K H b ys/\R (Itz K a b) H
def GU (K:IC) (ta:TA):TI:=fun σ H R=>ta σ H fun vs H1=>Dy K vs H1 R
def HF {K:IC} {ta:TA} {σ:St} {H:Hp} {R:It->Hp->Prop} (h:ta σ H fun vs H1=>Dy K vs H1 R):GU K ta σ H R:=h
def Fp {X:Cx} (K:IC) (hK:X.K=K) {tgs:List Expr} {kk:Nat} {tpos:Pos} {a b:Expr} {ta:TA} {p pos:Pos} (hg:Gl X "zip") (hm:X.mg "zip" = none) (ha:PA X [a,b] ta) (hn:isStar a=false:=by rfl) (hn2:isStar b=false:=by rfl) :
  PI X (.Tuple tgs kk tpos) (.Call (.Name "zip" p) [a,b] [] pos) (GU K ta):=by
 subst hK;intro pins s σ H R I h;refine Call_ (ja I hg hm boot_zip (J7 (thn (ha pos pins s σ H _ I h) fun us s1 ⟨vs,H1,I1,r1,q1⟩=>?_) (bM hn) (cQ (by simp [hn2]))))
 obtain ⟨l,l',xs,ys,e,hS,hS2,q⟩:=q1;subst e;cases r1 with
 | cons r rr =>
  cases rr with
  | cons r2 rr2 =>
   cases rr2;cases (show _=JC l from r);cases (show _=JC l' from r2);obtain ⟨its,rv,pl,_⟩:=I1.list hS;obtain ⟨its2,rv2,pl2,_⟩:=I1.list hS2;have lt1:l<s1.heap.objs.size:=by obtain ⟨_,z,_⟩:=pl.isList;exact IY z
   have lt2:l' < s1.heap.objs.size:=by obtain ⟨_,z,_⟩:=pl2.isList;exact IY z
   refine call_zip_2 pl.isList pl2.isList fun h' hz hTI hTO hi1 hi2 hsz hk=>?_;refine M1 hz ?_;have I2:Inv X pins σ H1 { s1 with heap:=h' }:=I1.kept (t':=s1.toks) hk;have D:LU (s1.heap.objs.size+4) (s1.heap.objs.size+2) (s1.heap.objs.size+3) s1.heap.objs.size (s1.heap.objs.size+1) l l':=by
    exact vv _ _ _ lt1 lt2
   refine ⟨s1.heap.objs.size+4,[s1.heap.objs.size+4,s1.heap.objs.size+2,s1.heap.objs.size+3,s1.heap.objs.size,s1.heap.objs.size+1],_,_,H1,rfl,I2,DM l l' _ _ _ _ _ D,⟨hz,hTI,⟨_,_,hTO⟩,hi1,hi2⟩,fun b hb=>?_,q⟩;have hb2:b=s1.heap.objs.size+4\/b=s1.heap.objs.size+2\/b=s1.heap.objs.size+3\/b=s1.heap.objs.size\/b=s1.heap.objs.size+1:=by simpa using hb
   have hb':s1.heap.objs.size<=b:=by rcases hb2 with rfl|rfl|rfl|rfl|rfl <;> lia
   exact I1.pX hb' (I1.hok.fresh hb')
def FO {K:IC} {H H₀:Hp} {σ:St} {t:TS} {D:Ends} {p p2:Addr} {xs ys:List V} {ia ib:Nat} (hS:SqL K H₀ p xs) (hS2:SqL K H₀ p2 ys) (he:xs.length=ys.length) (Pv:Nat->St->Hp->Prop) (h0:Pv 0 σ H) (hl:∀ i σ' H',Pv i σ' H'->aj H₀ H')
  (hs:∀ i w w2 σ' H' H'' p,xs[i]?=some w->ys[i]?=some w2->Pv i σ' H'->H' p=none->H''=upd H' p (.tup [w,w2])->aj H' H''->t { D with nx:=Pv (i+1),ct:=Pv (i+1),bk:=D.nx } ((σ'.set ia (some w)).set ib (some w2)) H'')
  (hd:∀ σ' H',Pv xs.length σ' H'->D.nx σ' H'):Dy K [.ref p,.ref p2] H (kQ (nN K 2 (eL (da ia) (eL (da ib) oj))) t D σ):=by
 refine ⟨p,p2,xs,ys,rfl,(hl 0 σ H h0).seq hS,(hl 0 σ H h0).seq hS2,fun i m σ' H'=>m=xs.length - i/\i<=xs.length/\Pv i σ' H',⟨xs.length,by simp,J6 _,h0⟩,?_⟩
 rintro i m σ' H' ⟨rfl,hi,p0⟩;have q:=(hl i σ' H' p0).seq hS;have q2:=(hl i σ' H' p0).seq hS2
 by_cases hlt:i<xs.length
 ·have hlt2:i<ys.length:=by lia
  refine .inr ⟨⟨xs,xs[i],ys,ys[i],q,by simp [hlt],q2,by simp [hlt2]⟩,Pv (i+1),fun σ2 H2 p'=>⟨xs.length - (i+1),by lia,rfl,hlt,p'⟩,fun z H2 yl=>?_⟩
  obtain ⟨d,w,w2,rfl,hd',rfl,hw,hw2⟩:=yl;refine ⟨d,[w,w2],rfl,SqT.of ar,rfl,⟨_,_,rfl,⟨_,_,rfl,⟨rfl,?_⟩⟩⟩⟩;exact hs i w w2 σ' H' _ d (hw xs q) (hw2 ys q2) p0 hd' rfl (aE hd' _)
 ·refine .inl ⟨⟨xs,ys,q,q2,.inl (by lia)⟩,?_⟩
  have:i=xs.length:=by lia
  rw [this] at p0;exact hd σ' H' p0
section
variable {prog:Jc} {w:World} {A:JF} {E:Value->IL->Prop}
variable {s:IL}
end
section
variable {X:Cx} {pos:Pos}
end
structure jy (K:IC) (x qual:Str) (st:Stmt) (f:Addr) (fd:JR):Prop where
 ex:∃ (oc:Value) (od:Option Addr) (D:Addr) (kV doc pm:Value) (an:Option Addr) (cdv ct:Value) (osl:Array (Option Value)) (dc:Value) (dd:Option Addr) (n:Nat) (dsl:Array (Option Value)),
  fd=JD x qual (bI st) (bw st) (ag st) (.ref D) kV doc pm an cdv ct/\K.lookup f=some ⟨oc,od,.func fd,osl⟩/\J9 K cdv qual=true/\K.lookup D=some ⟨dc,dd,.seq #[.none] n,dsl⟩
 kp:JM K (.ref f)=true
section
variable {P:Jc} {w:World} {K:IC} {mg:Str->Option Value} {base:Heap} {x qual:Str} {st:Stmt} {f:Addr} {fd:JR} {ps:List Str}
def jy.ok {N:List Str} {k:Nat} {sp:Sp} (F:jy K x qual st f fd) (S:aw N ps (ag st)) (len:∀ vs H Q E,sp vs H Q E->vs.length=ps.length)
  (hbody:∀ (cdv:Value) (A:JF) (outer:List Env) (s:IL) (H:Hp) (vs:List V) (Q:VK) (E:XK),bY k (A.deeper (envOfC qual (ag st) s.heap.objs.size f cdv))->sp vs H Q E ->
   ∃ t,PSs (mz CX0 P w K mg base N qual (ag st) f cdv A outer s H E).nox (bw st) t/\t { nx:=fun _ H'=>Q .non H',rt:=Q } (start N vs) H):aN P w K mg base CX0 (k+1) f fd ps sp:=by
 obtain ⟨oc,od,D,kV,doc,pm,an,cdv,ct,osl,dc,dd,n,dsl,rfl,lk,hcd,_⟩:=F.ex;refine EO lk hcd S len fun A outer s H vs Q E hr hsp=>?_;obtain ⟨t,h,q⟩:=hbody cdv A outer s H vs Q E hr hsp;exact ⟨t,h.nox,q⟩
def jy.to {s:IL} {args:Args} {bs:List (Str×Value)} (F:jy K x qual st f fd) (KI:K.In s.heap)
  (h:∀ (D:Addr) (kV doc pm:Value) (an:Option Addr) (cdv ct:Value),∃ k:Option (Array Value)->Sem (List (Str×Value)),bindArgs (JD x qual (bI st) (bw st) (ag st) (.ref D) kV doc pm an cdv ct) args=seqItems? (.ref D) >>= k/\k (some #[.none])=pure bs):Ms s fd args bs:=by
 obtain ⟨oc,od,D,kV,doc,pm,an,cdv,ct,osl,dc,dd,n,dsl,rfl,lk,hcd,dl⟩:=F.ex;obtain ⟨k,h1,h2⟩:=h D kV doc pm an cdv ct;exact BindsTo.of_defaults (fd:=JD x qual (bI st) (bw st) (ag st) (.ref D) kV doc pm an cdv ct) (T:=D) rfl (KI _ _ dl) rfl h1 h2
def lP {D:Addr} {oc dc:Value} {od an dd:Option Addr} {osl dsl:Array (Option Value)} {kV doc pm cdv ct:Value} {n:Nat} (l:K.lookup f=some ⟨oc,od,.func (JD x qual (bI st) (bw st) (ag st) (.ref D) kV doc pm an cdv ct),osl⟩)
  (d:K.lookup D=some ⟨dc,dd,.seq #[.none] n,dsl⟩) (c:J9 K cdv qual=true) (k:JM K (.ref f)=true):jy K x qual st f (JD x qual (bI st) (bw st) (ag st) (.ref D) kV doc pm an cdv ct) :=
 ⟨⟨oc,od,D,kV,doc,pm,an,cdv,ct,osl,dc,dd,n,dsl,rfl,l,c,d⟩,k⟩
end
def byName {α:Type} (k:Nat) (us ws:List α):List α:=if us.length=k/\ws.length=1 then us++ws else []
def Al {k:Nat} {vs zs:List V} {us ws:List Value} (r:Vals vs us) (rz:Vals zs ws):Vals (byName k vs zs) (byName k us ws):=by
 have h1:=r.length;have h2:=rz.length;unfold byName;rw [h1,h2]
 split
 ·exact r.append rz
 ·exact .nil
def Aj {K:IC} {fd:JR} {ps:List Str} {k:Nat} (hk:ps.length=k+1) (h:∀ (s:IL) (us:List Value),K.In s.heap->us.length=k->Ms s fd ⟨us,[]⟩ (ps.zip (us++[.none]))):Binds K fd ps [.none]:=fun s us KI hl=>h s us KI (by
 rw [IZ,hk] at hl;have:([Mu]:List Value).length=1:=rfl;lia)
def A5 {K:IC} {fd:JR} {ps:List Str} {y:Str} {k:Nat} (hk:ps.length=k+1) (h:∀ (s:IL) (us:List Value) (w:Value),K.In s.heap->us.length=k->Ms s fd ⟨us,[(y,w)]⟩ (ps.zip (us++[w]))):yj K fd ps [y] (byName k) (byName k):=by
 refine ⟨fun s us ws KI hl=>?_,Al⟩;unfold byName at hl ⊢
 split at hl
 ·rename_i c
  rw [if_pos c]
  match ws,c.2 with
  | [w],_=>exact h s us w KI c.1
 ·rw [hk] at hl;cases hl
structure DfD (K:IC) (mg:Str->Option Value) (x:Str) (st:Stmt) (ps:List Str) (y:Str) (k:Nat) where
 f:Addr
 fd:JR
 fn:jy K x x st f fd
 bd:Binds K fd ps []
 bn:Binds K fd ps [.none]
 bk:yj K fd ps [y] (byName k) (byName k)
 nm:mg x=some (.ref f)
def DfD.ok {P:Jc} {w:World} {K:IC} {mg:Str->Option Value} {base:Heap} {x y:Str} {st:Stmt} {N ps:List Str} {k j:Nat} {sp:Sp} (d:DfD K mg x st ps y j) (S:aw N ps (ag st)) (len:∀ vs H Q E,sp vs H Q E->vs.length=ps.length)
  (hbody:∀ (cdv:Value) (A:JF) (outer:List Env) (s:IL) (H:Hp) (vs:List V) (Q:VK) (E:XK),bY k (A.deeper (envOfC x (ag st) s.heap.objs.size d.f cdv))->sp vs H Q E ->
   ∃ t,PSs (mz CX0 P w K mg base N x (ag st) d.f cdv A outer s H E).nox (bw st) t/\t { nx:=fun _ H'=>Q .non H',rt:=Q } (start N vs) H):aN P w K mg base CX0 (k+1) d.f d.fd ps sp :=
 d.fn.ok S len hbody
section
variable {X:Cx} {x y:Str} {st:Stmt} {ps:List Str} {k j:Nat} {sp:Sp} {p pos kpos:Pos} {e a:Expr} {es:List Expr} {t:TA} {te:TE}
def HH (d:DfD X.K X.mg x st ps y j) (G:aN X.prog X.w X.K X.mg X.base CX0 k d.f d.fd ps sp) (hr:bY k X.A) (hg:Gl X x) (ha:PA X (e :: es) t) (hn:isStar e=false:=by rfl) (hall:es.all (fun e=>!isStar e)=true:=by rfl) (hdb:(x == ("__debug__" : Str))=false:=by decide) :
  PE X (.Call (.Name x p) (e :: es) [] pos) (oS sp [] E0 t):=zW G hr hg d.nm d.fn.kp d.bd .nil dX ha hdb (bM hn) (cQ hall)
end
end L2
set_option Elab.async false
set_option linter.all false
set_option maxRecDepth 100000
namespace L2
open PySem PySem.Spec PyProof.Rows
section
variable (P:Jc) (w:World)
end
section
variable {P:Jc} {w:World} {H H':Hp} {h h':Heap} {a:Addr} {o:HO}
end
section
variable {P:Jc} {w:World} {H:Hp} {h h':Heap} {x e:Addr} {o':HO}
end
section
variable {fs fs' ex ex':List Addr} {H H1 H2:Hp} {h h1 h2 h':Heap} {a x e:Addr} {o:HO}
end
section
variable {X:Cx} {pins:List (Addr×Obj)} {σ:List (Option V)} {H H':Hp} {s:IL} {h':Heap}
end
section
variable {X:Cx}
variable {a b:Expr} {ta tb:TE} {pos:Pos}
variable {tA tB':TT} {rest:List Expr}
end
section
variable {X:Cx} {pins:List (Addr×Obj)} {σ:St} {H:Hp} {s:IL} {a:Addr} {xs ys:List V}
end
section
variable {X:Cx} {pins:List (Addr×Obj)} {σ:St} {H:Hp} {s:IL} {E:Value->IL->Prop}
end
section
variable {X:Cx} {st:Stmt} {rest:List Stmt} {t u:TS} {e:Expr} {te:TE} {pos:Pos}
end
section
variable {X:Cx} {pos:Pos}
end
section
variable {X:Cx} {tg:Expr}
end
section
variable {X:Cx} {a b c:Expr} {ta tb tc:TE} {pos:Pos}
end
section
variable {prog:Jc} {w:World} {A:JF} {E:Value->IL->Prop} {s:IL} {K:IC} {x dx C f:Addr} {mA:Str->Option Value} {name:Str} {v:Value}
end
section
variable {P:Jc} {w:World} {H H':Hp} {h h':Heap} {a C dx:Addr} {fs fs':List (Str×V)}
end
section
variable {X:Cx} {pins:List (Addr×Obj)} {σ:St} {H:Hp} {s:IL} {a C dx:Addr} {fs:List (Str×V)} {f:Str} {v:V} {A:JF} {E:Value->IL->Prop}
end
section
variable {X:Cx} {o e value:Expr} {f:Str} {pos pos' tpos:Pos} {ta tv:TE}
end
section
variable {X:Cx} {pins:List (Addr×Obj)} {σ:St} {H:Hp} {s:IL} {A:JF} {E:Value->IL->Prop} {Q:Value->IL->Prop} {c:Value} {b:Bool}
end
section
variable {X:Cx} {e:Expr} {es:List Expr} {te:TE} {t:TA} {pos:Pos}
end
section
variable {X:Cx} {pins:List (Addr×Obj)} {σ:St} {H:Hp} {s s':IL}
end
section
variable {X:Cx} {CX:CXT} {k:Nat} {f C:Addr} {fd:JR} {ps:List Str} {sp:Sp} {dvs:List V} {ds:List Value} {E:XK} {x m:Str} {p pos apos:Pos} {e o:Expr} {es:List Expr} {ta:TE} {t:TA}
end
section
variable {X:Cx} {CX:CXT} {k:Nat} {f C:Addr} {fd:JR} {ps ks:List Str} {sp:Sp} {E:XK} {x m:Str} {p pos apos kpos:Pos} {e o:Expr} {es:List Expr} {kws:List Nk} {te ta:TE} {t tk:TA} {nm:Option Str}
variable {g:List Value->List Value->List Value} {gV:List V->List V->List V}
end
section
variable {X:Cx} {x:Str} {p pos:Pos} {e:Expr} {es:List Expr} {t:TA} {id T:String} {r:List V->Hp->VK->Prop}
end
section
variable {κ:Type} [DecidableEq κ]
def cy (kvs:List (κ×V)) (k:κ):Option V:=(kvs.find? fun kv=>decide (kv.1=k)).map (·.2)
def putK (kvs:List (κ×V)) (k:κ) (v:V):List (κ×V) :=
 if (kvs.any fun kv=>decide (kv.1=k))=true then kvs.map (fun kv=>if kv.1=k then (kv.1,v) else kv) else kvs++[(k,v)]
def c6 {p:κ×V} {r:List (κ×V)} {k:κ} (e:p.1=k):cy (p :: r) k=some p.2:=by simp [cy,Lh,e]
def cO {p:κ×V} {r:List (κ×V)} {k:κ} (e:¬ p.1=k):cy (p :: r) k=cy r k:=by simp [cy,Lh,e]
def kG (k:κ):∀ kvs:List (κ×V),(kvs.any fun kv=>decide (kv.1=k))=(cy kvs k).isSome
 | []=>rfl
 | p :: r=>by
  rw [LI]
  by_cases e:p.1=k
  ·simp only [c6 e,decide_eq_true e,Bool.true_or,Option.isSome_some]
  ·rw [cO e,decide_eq_false e,Bool.false_or];exact kG k r
def yz (k j:κ) (y:V):∀ kvs:List (κ×V),cy (kvs.map fun kv=>if kv.1=k then (kv.1,y) else kv) j=(cy kvs j).map fun x=>if j=k then y else x
 | []=>rfl
 | p :: r=>by
  have ih:=yz k j y r;rw [JL]
  by_cases h:p.1=k
  ·rw [if_pos h]
   by_cases e:p.1=j
   ·rw [c6 (p:=(p.1,y)) e,c6 e,L8,if_pos (e.symm.trans h)]
   ·rw [cO (p:=(p.1,y)) e,cO e,ih]
  ·rw [if_neg h]
   by_cases e:p.1=j
   ·rw [c6 (p:=p) e,c6 e,L8,if_neg (fun z=>h (e.trans z))]
   ·rw [cO (p:=p) e,cO e,ih]
def vj (k j:κ) (y:V):∀ kvs:List (κ×V),cy kvs k=none->cy (kvs++[(k,y)]) j=if j=k then some y else cy kvs j
 | [],_=>by
  by_cases e:k=j
  ·rw [if_pos e.symm];exact c6 (p:=(k,y)) e
  ·rw [if_neg (fun z=>e z.symm)];exact cO (p:=(k,y)) e
 | p :: r,hn=>by
  rw [List.cons_append];have hk:¬ p.1=k:=fun z=>by rw [c6 z] at hn;cases hn
  rw [cO hk] at hn;have ih:=vj k j y r hn
  by_cases e:p.1=j
  ·rw [c6 e,c6 e,if_neg (fun z=>hk (e.trans z))]
  ·rw [cO e,cO e,ih]
def Dr (kvs:List (κ×V)) (k j:κ) (y:V):cy (putK kvs k y) j=if j=k then some y else cy kvs j:=by
 unfold putK
 by_cases a:(kvs.any fun kv=>decide (kv.1=k))=true
 ·rw [if_pos a,yz];rw [kG] at a
  by_cases e:j=k
  ·obtain ⟨x,hx⟩:=MA.mp a;rw [if_pos e,e,hx,L8,if_pos rfl]
  ·rw [if_neg e];cases cy kvs j with
   | none=>rfl
   | some x=>rw [L8,if_neg e]
 ·rw [if_neg a];refine vj k j y kvs ?_;rw [kG] at a;cases q:cy kvs k with
  | none=>rfl
  | some x=>rw [q] at a;exact (a rfl).elim
def iV (kvs:List (κ×V)) (k:κ) (v:V):(putK kvs k v).length<=kvs.length+1:=by
 unfold putK
 split
 ·rw [IE];lia
 ·rw [IZ,Jp,L9];lia
def D1 {kvs:List (κ×V)} {k:κ} (v:V) (h:cy kvs k=none):putK kvs k v=kvs++[(k,v)]:=by
 unfold putK;rw [kG,h];exact if_neg (by decide)
def eE.nW {o:Option V} {u:Option Value} (r:eE o u):o.isSome=u.isSome:=by
 cases o with
 | none=>cases u with
  | none=>rfl
  | some _=>exact (show False from r).elim
 | some _=>cases u with
  | none=>exact (show False from r).elim
  | some _=>rfl
def eE.getD {o:Option V} {u:Option Value} {d:V} {d':Value} (r:eE o u) (rd:RelV d d'):RelV (o.getD d) (u.getD d'):=by
 cases o with
 | none=>cases u with
  | none=>exact rd
  | some _=>exact (show False from r).elim
 | some _=>cases u with
  | none=>exact (show False from r).elim
  | some _=>exact r
def KV.val {kvs:List (κ×V)} {vs:List (κ×Value)} (r:KV kvs vs) (k:κ):eE (cy kvs k) (valueAt vs k):=by
 unfold KV at r
 induction r with
 | nil=>exact KU
 | @cons p q ps qs h t ih =>
  obtain ⟨h1,h2⟩:=h
  by_cases e:p.1=k
  ·have e':q.1=k:=h1.symm.trans e;have b:valueAt (q :: qs) k=some q.2:=by simp [valueAt,Lh,e']
   rw [c6 e,b];exact h2
  ·have e':¬ q.1=k:=fun z=>e (h1.trans z);have b:valueAt (q :: qs) k=valueAt qs k:=by simp [valueAt,Lh,e']
   rw [cO e,b];exact ih
def KV.any {kvs:List (κ×V)} {vs:List (κ×Value)} (r:KV kvs vs) (k:κ):(kvs.any fun kv=>decide (kv.1=k))=vs.any fun kv=>decide (kv.1=k):=by
 unfold KV at r
 induction r with
 | nil=>rfl
 | cons h t ih=>rw [LI,LI,ih,h.1]
def KV.Ed {kvs:List (κ×V)} {vs:List (κ×Value)} (r:KV kvs vs) (k:κ) {y:V} {u:Value} (ry:RelV y u) :
  KV (kvs.map fun kv=>if kv.1=k then (kv.1,y) else kv) (vs.map fun kv=>if kv.1=k then (kv.1,u) else kv):=by
 unfold KV at r ⊢
 induction r with
 | nil=>exact .nil
 | @cons p q ps qs h t ih =>
  rw [JL,JL];refine .cons ?_ ih;obtain ⟨h1,h2⟩:=h
  by_cases e:p.1=k
  ·rw [if_pos e,if_pos (h1.symm.trans e)];exact ⟨h1,ry⟩
  ·rw [if_neg e,if_neg (fun z=>e (h1.trans z))];exact ⟨h1,h2⟩
def KV.put {kvs:List (κ×V)} {vs:List (κ×Value)} (r:KV kvs vs) (k:κ) {y:V} {u:Value} (ry:RelV y u):KV (putK kvs k y) (stored vs k u):=by
 unfold putK stored;rw [r.any k]
 by_cases e:(vs.any fun kv=>decide (kv.1=k))=true
 ·rw [if_pos e,if_pos e];exact r.Ed k ry
 ·rw [if_neg e,if_neg e];exact Paired.snoc r ⟨rfl,ry⟩
def KV.keys {kvs:List (κ×V)} {vs:List (κ×Value)} (r:KV kvs vs):kvs.map (·.1)=vs.map (·.1):=by
 unfold KV at r
 induction r with
 | nil=>rfl
 | cons h t ih=>rw [JL,JL,ih,h.1]
def KV.length {kvs:List (κ×V)} {vs:List (κ×Value)} (r:KV kvs vs):kvs.length=vs.length:=LC r
end
def oY {P:Jc} {w:World} {k:Key} {u:Value} (r:RelV (kV k) u):(cI P w).is k u=true:=by
 cases k with
 | inl i=>obtain ⟨t,e⟩:=(show ∃ t,u=LB i t from r);subst e;exact zg P w i t
 | inr x=>obtain ⟨t,e⟩:=(show ∃ t,u=NV x t from r);subst e;exact yZ P w x t
def uO {P:Jc} {w:World}:∀ {ks:List Key} {us:List Value},Vals (ks.map kV) us->ItemsAre (cI P w) ks us
 | [],_,r=>by rw [Ob] at r;cases r;exact .nil
 | k :: ks,_,r=>by
  rw [JL] at r;cases r with
  | cons h t=>exact .cons (oY h) (uO t)
abbrev KT (H:Hp):List (List Key×V)->List (List Key×Addr×Value)->Prop:=Kr fun p q=>p.1=q.1/\H q.2.1=some (.tup (p.1.map kV))/\RelV p.2 q.2.2
def KT.val {H:Hp} {kvs:List (List Key×V)} {xs:List (List Key×Addr×Value)} (r:KT H kvs xs) (k:List Key):eE (cy kvs k) ((atKey xs k).map (·.2)):=by
 induction r with
 | nil=>exact KU
 | @cons p q ps qs h t ih =>
  obtain ⟨h1,_,h2⟩:=h
  by_cases e:p.1=k
  ·have e':q.1=k:=h1.symm.trans e;have b:atKey (q :: qs) k=some q.2:=by simp [atKey,Lh,e']
   rw [c6 e,b];exact h2
  ·have e':¬ q.1=k:=fun z=>e (h1.trans z);have b:atKey (q :: qs) k=atKey qs k:=by simp [atKey,Lh,e']
   rw [cO e,b];exact ih
def KT.Ed {H:Hp} {kvs:List (List Key×V)} {xs:List (List Key×Addr×Value)} (r:KT H kvs xs) (k:List Key) {y:V} {u:Value} (ry:RelV y u) :
  KT H (kvs.map fun kv=>if kv.1=k then (kv.1,y) else kv) (xs.map (putAt k u)):=by
 induction r with
 | nil=>exact .nil
 | @cons p q ps qs h t ih =>
  rw [JL,JL];refine .cons ?_ ih;obtain ⟨h1,h2,h3⟩:=h;unfold putAt
  by_cases e:p.1=k
  ·rw [if_pos e,if_pos (h1.symm.trans e)];exact ⟨h1,h2,ry⟩
  ·rw [if_neg e,if_neg (fun z=>e (h1.trans z))];exact ⟨h1,h2,h3⟩
def KT.put {H:Hp} {kvs:List (List Key×V)} {xs:List (List Key×Addr×Value)} (r:KT H kvs xs) (k:List Key) {b:Addr} {y:V} {u:Value} (hb:H b=some (.tup (k.map kV))) (ry:RelV y u) :
  KT H (putK kvs k y) (storedH xs k b u):=by
 have e:(kvs.any fun kv=>decide (kv.1=k))=(atKey xs k).isSome:=by
  rw [kG,(r.val k).nW,Option.isSome_map]
 unfold putK storedH;rw [e]
 by_cases q:(atKey xs k).isSome=true
 ·rw [if_pos q,if_pos q];exact r.Ed k ry
 ·rw [if_neg q,if_neg q];exact Paired.snoc r ⟨rfl,hb,ry⟩
def KT.keeps {H H':Hp} {kvs:List (List Key×V)} {xs:List (List Key×Addr×Value)} (r:KT H kvs xs) (ht:∀ b ys,H b=some (.tup ys)->H' b=some (.tup ys)):KT H' kvs xs :=
 Paired.cY r fun _ _ z=>⟨z.1,ht _ _ z.2.1,z.2.2⟩
section
variable {P:Jc} {w:World} {H:Hp} {h:Heap} {a:Addr}
def EK {u:HO} (ok:HOk P w H h) (e:Rd H a u):bT P w H h a u:=e.ok ok
def v5 {kvs:List (Key×V)} (ok:HOk P w H h) (e:Rd H a (.dK kvs)):kvs.length<=Jr/\(a == sysModules)=false/\∃ vs,KV kvs vs/\h.DictOf (cI P w) a vs :=
 show bT P w H h a (.dK kvs) from EK ok e
def EJ {kvs:List (Key×V)} (ok:HOk P w H h) (e:H a=some (.dK kvs)):kvs.length<=Jr/\(a == sysModules)=false/\∃ vs,KV kvs vs/\h.DictOf (cI P w) a vs:=v5 ok (.inl e)
def sO {ks:List Key} (ok:HOk P w H h) (e:H a=some (.tup (ks.map kV))):(tupleKind (cI P w)).is h ks a:=by
 obtain ⟨_,its,r,o,h1,h2,n,h3⟩:=(show bT P w H h a (.tup (ks.map kV)) from ok a _ e);exact ⟨o,its.toArray,n,h1,h2,h3,by simpa using uO r⟩
def wO {kvs:List (List Key×V)} (ok:HOk P w H h) (e:Rd H a (.dT kvs)):kvs.length<=Jr/\(a == sysModules)=false /\
  ∃ xs,KT H kvs xs/\h.DictOfH (tupleKind (cI P w)) a xs:=by
 obtain ⟨z,y,xs,r,o,es,ep,h1,h2,h3,h4,h5⟩:=(show bT P w H h a (.dT kvs) from EK ok e);refine ⟨z,y,xs,r,o,es,ep,h1,h2,h3,h4,fun x hx=>?_,h5⟩;have all:∀ {l:List (List Key×V)} {m:List (List Key×Addr×Value)},KT H l m->∀ x∈m,(tupleKind (cI P w)).is h x.1 x.2.1:=by
  intro l m q
  induction q with
  | nil=>intro x hx;exact nomatch hx
  | @cons p q ps qs hq t ih =>
   intro x hx;rcases JB.mp hx with e|hx
   ·subst e;exact sO ok (by rw [<- hq.1];exact hq.2.1)
   ·exact ih x hx
 exact all r x hx
def HJ {kvs:List (List Key×V)} (ok:HOk P w H h) (e:H a=some (.dT kvs)):kvs.length<=Jr/\(a == sysModules)=false /\
  ∃ xs,KT H kvs xs/\h.DictOfH (tupleKind (cI P w)) a xs:=wO ok (.inl e)
end
def iy (H:Hp) (a:Addr) (y:V) (r:Option V):Prop :=
 (∃ kvs k,Rd H a (.dK kvs)/\y=kV k/\r=cy kvs k)\/∃ kvs k b,Rd H a (.dT kvs)/\y=.ref b/\H b=some (.tup (k.map kV))/\r=cy kvs k
def n9 (H:Hp) (a:Addr) (y v:V) (H':Hp):Prop :=
 (∃ kvs k,H a=some (.dK kvs)/\y=kV k/\kvs.length<Jr/\H'=upd H a (.dK (putK kvs k v))) \/
 ∃ kvs k b,H a=some (.dT kvs)/\y=.ref b/\H b=some (.tup (k.map kV))/\kvs.length<Jr/\H'=upd H a (.dT (putK kvs k v))
def iy.k {H:Hp} {a:Addr} {kvs:List (Key×V)} {k:Key} (e:H a=some (.dK kvs)):iy H a (kV k) (cy kvs k):=.inl ⟨kvs,k,.inl e,rfl,rfl⟩
def iy.t {H:Hp} {a b:Addr} {kvs:List (List Key×V)} {k:List Key} (e:H a=some (.dT kvs)) (eb:H b=some (.tup (k.map kV))):iy H a (.ref b) (cy kvs k):=.inr ⟨kvs,k,b,.inl e,rfl,eb,rfl⟩
def n9.k {H:Hp} {a:Addr} {kvs:List (Key×V)} {k:Key} {v:V} (e:H a=some (.dK kvs)) (hl:kvs.length<Jr):n9 H a (kV k) v (upd H a (.dK (putK kvs k v))):=.inl ⟨kvs,k,e,rfl,hl,rfl⟩
def n9.t {H:Hp} {a b:Addr} {kvs:List (List Key×V)} {k:List Key} {v:V} (e:H a=some (.dT kvs)) (eb:H b=some (.tup (k.map kV))) (hl:kvs.length<Jr) :
  n9 H a (.ref b) v (upd H a (.dT (putK kvs k v))):=.inr ⟨kvs,k,b,e,rfl,eb,hl,rfl⟩
section
variable {X:Cx} {pins:List (Addr×Obj)} {σ:St} {H:Hp} {s:IL} {a:Addr} {y v:V} {u r:Value} {o:Option V} {A:JF} {E:Value->IL->Prop}
def Inv.big (I:Inv X pins σ H s):sysModules<s.heap.objs.size:=by
 have h:JN<s.heap.objs.size:=(I.mod.glob.keeps I.bk).lt;exact Nr (by decide) h
def Bn {Q:Value->IL->Prop} (hu:A.units+1<cLine) (I:Inv X pins σ H s) (g:iy H a y (some v)) (ry:RelV y u) (h:∀ w' s',Inv X pins σ H s'->RelV v w'->Q w' s') :
  wpAny (model X.prog X.w) A (getItem (.ref a) u) Q E s:=by
 rcases g with ⟨kvs,k,e,ey,l⟩|⟨kvs,k,b,e,ey,eb,l⟩
 ·subst ey;obtain ⟨z,hd,vs,rel,dd⟩:=v5 I.hok e;obtain ⟨w',hw,rw'⟩:=eE.some_of (v:=v) (o:=valueAt vs k) (by rw [l];exact rel.val k)
  exact wpAny_getItem_of (oY ry) dd.mapOf hw (h w' _ (I.tok _) rw')
 ·subst ey;cases (show u=JC b from ry);obtain ⟨z,hd,xs,rel,dd⟩:=wO I.hok e;obtain ⟨w',hw,rw'⟩:=eE.some_of (v:=v) (o:=(atKey xs k).map (·.2)) (by rw [l];exact rel.val k)
  obtain ⟨p,hp,hp2⟩:=M9.mp hw;refine wpAny_getItem_heap (Mm hu) (sO I.hok eb) dd hp ?_;rw [hp2];exact h w' _ (I.tok _) rw'
def Ff {Q:Value->IL->Prop} (hu:A.units+1<cLine) (I:Inv X pins σ H s) (g:iy H a y o) (ry:RelV y u) (h:∀ s',Inv X pins σ H s'->Q (.bool (!o.isSome)) s') :
  wpAny (model X.prog X.w) A (compareOp .NotIn u (.ref a)) Q E s:=by
 rcases g with ⟨kvs,k,e,ey,l⟩|⟨kvs,k,b,e,ey,eb,l⟩
 ·subst ey;obtain ⟨z,hd,vs,rel,dd⟩:=v5 I.hok e;refine wpAny_notIn_of (oY ry) hd dd.mapOf ?_;rw [<- (rel.val k).nW,<- l];exact h _ (I.tok _)
 ·subst ey;cases (show u=JC b from ry);obtain ⟨z,hd,xs,rel,dd⟩:=wO I.hok e;refine wpAny_notIn_heap (Mm hu) (sO I.hok eb) hd dd ?_;have q:=(rel.val k).nW;rw [Option.isSome_map] at q;rw [<- q,<- l];exact h _ (I.tok _)
def uC {h':Heap} {t':Nat} {ob:HO} (I:Inv X pins σ H s) (mu:Mut (H a)) (hs:Mi a s.heap h') (he:∃ q,h'.get? a=some q) (new:bT X.prog X.w (upd H a ob) h' a ob) :
  Inv X pins σ (upd H a ob) { s with heap:=h',toks:=t' } :=
 I.write (x:=a) (e:=a) mu (.inl rfl) (fun b q hb z=>(hs.2 b hb).trans z) he new
def xw {P:Jc} {w:World} {H':Hp} {h':Heap} {kvs:List (Key×V)} {vs:List (Key×Value)} (z:kvs.length<=Jr) (hd:(a == sysModules)=false) (rel:KV kvs vs) (dd:h'.DictOf (cI P w) a vs) :
  bT P w H' h' a (.dK kvs):=⟨z,hd,vs,rel,dd⟩
def BI {H':Hp} {Q:Unit->IL->Prop} (hu:A.units+1<cLine) (I:Inv X pins σ H s) (g:n9 H a y v H') (ry:RelV y u) (rv:RelV v r) (h:∀ s',Inv X pins σ H' s'->Q () s') :
  wpAny (model X.prog X.w) A (setItem (.ref a) u r) Q E s:=by
 rcases g with ⟨kvs,k,e,ey,l,eH⟩|⟨kvs,k,b,e,ey,eb,l,eH⟩
 ·subst ey eH;obtain ⟨z,hd,vs,rel,dd⟩:=EJ I.hok e;have hz:vs.length<=Jr:=by rw [<- rel.length];exact z
  have hl:(putK kvs k v).length<=Jr:=by have:=iV kvs k v;lia
  refine wpAny_setItem_pairs (hsz:=hz) (oY ry) dd fun h' dd' hs=>h _ ?_;have he:∃ q,h'.get? a=some q:=let ⟨q,_,_,hq,_⟩:=dd';⟨q,hq⟩;exact uC I (by rw [e];exact KU) hs he (xw hl hd (rel.put k rv) dd')
 ·subst ey eH;cases (show u=JC b from ry);obtain ⟨z,hd,xs,rel,dd⟩:=HJ I.hok e;have hz:xs.length<=Jr:=by rw [<- LC rel];exact z
  have hl:(putK kvs k v).length<=Jr:=by have:=iV kvs k v;lia
  refine wpAny_setItem_heap (hsz:=hz) (Mm hu) (sO I.hok eb) dd fun h' dd' hs=>h _ ?_;obtain ⟨q,es,ep,hq,h2,h3,h4,_,h5⟩:=dd';refine uC I (by rw [e];exact KU) hs ⟨q,hq⟩ ⟨hl,hd,_,(rel.put k eb rv).keeps fun c ys ec=>?_,q,es,ep,hq,h2,h3,h4,h5⟩
  rw [av (Ia ec e (fun z=>nomatch z))];exact ec
end
section
variable {X:Cx} {pins:List (Addr×Obj)} {σ:St} {H:Hp} {s:IL} {a:Addr} {kvs:List (Key×V)} {k:Key} {u:Value} {A:JF} {E:Value->IL->Prop}
end
def Hq (i:Expr):Prop:=∀ ov iv,subscripted i false ov iv=operate [ov,iv] (getItem ov iv)
def FH {prog:Jc} {w:World} {A:JF} {E:Value->IL->Prop} {s:IL} {env:Env} {value slice:Expr} {pos:Pos} {T id:String} {Q:Value->IL->Prop}
  (hl:typeLookup (.type T) "__getitem__" = pure (some (.builtin id))) (hs:Hq slice)
  (h:wpAny (model prog w) A (eval value env) (fun o s₁=>wpAny (model prog w) A (eval slice env) (fun i s₂=>s₂.TypeIs o T/\wpAny (model prog w) A (getItem o i) Q E s₂) E s₁) E s) :
  wpAny (model prog w) A (eval (.Subscript value slice pos) env) Q E s:=by
 refine Subscript_ (KR h (fun o s₁ h₁=>KR h₁ (fun i s₂ h₂=>?_) fun _ _ x=>x) fun _ _ x=>x);obtain ⟨hT,h₂⟩:=h₂;unfold subscriptTail;refine IS ?_;rw [getitemInPython_of_ne hT.not_modules];refine IS (wpAny_specialOf hT hl ?_);have fin:wpAny (model prog w) A (subscripted slice false o i) (fun r s₃=>wpAny (model prog w) A (letTemporaryGo value o r >>= fun _=>pure r) Q E s₃) E s₂:=by
  rw [hs o i];exact wpAny_operating (KR h₂ (fun r s₃ h₃=>IS (wpAny_letTemporaryGo (Ju h₃))) fun _ _ x=>x)
 first
  | exact Ju (IS fin)
  | exact IS (Ju (IS fin))
  | exact IS fin
def zu {X:Cx} {pins:List (Addr×Obj)} {σ:St} {H:Hp} {s:IL} {a:Addr} {y:V} {o:Option V} (I:Inv X pins σ H s) (g:iy H a y o):s.TypeIs (.ref a) "dict":=by
 rcases g with ⟨kvs,k,e,_,_⟩|⟨kvs,k,b,e,_,_,_⟩
 ·obtain ⟨_,_,vs,_,dd⟩:=v5 I.hok e;exact dd.typeIs
 ·obtain ⟨_,_,xs,_,dd⟩:=wO I.hok e;exact dd.typeIs
def EY (td ty:TE):TE:=fun σ H Q=>td σ H fun x H1=>ty σ H1 fun y H2=>∃ a v,x=.ref a/\iy H2 a y (some v)/\Q v H2
def zG (ty td:TE):TE:=fun σ H Q=>ty σ H fun y H1=>td σ H1 fun x H2=>∃ a o,x=.ref a/\iy H2 a y o/\Q (.bl (!o.isSome)) H2
def EI (td ty tv:TE):TS:=fun D σ H=>tv σ H fun v H1=>td σ H1 fun x H2=>ty σ H2 fun y H3=>∃ a H4,x=.ref a/\n9 H3 a y v H4/\D.nx σ H4
section
variable {X:Cx} {o i e value:Expr} {pos pos' tpos:Pos} {td ty tv:TE}
def ix (hu:X.A.units+1<cLine) (ho:PE X o td) (hi:PE X i ty) (hs:Hq i):PE X (.Subscript o i pos) (EY td ty):=by
 intro pins s σ H Q I h;refine FH PySem.F.slot_dict_getitem.lookup hs (thn (ho pins s σ H _ I h) fun u s1 ⟨x,H1,I1,rx,q1⟩=>thn (hi pins s1 σ H1 _ I1 q1) fun iv s2 ⟨y,H2,I2,ry,a,v,ex,g,q2⟩=>?_);subst ex;obtain rfl:u=JC a:=rx;exact ⟨zu I2 g,Bn hu I2 g ry fun w' s3 I3 rw'=>⟨v,H2,I3,rw',q2⟩⟩
def BC (hu:X.A.units+1<cLine) (hi:PE X i ty) (ho:PE X o td):PC X .NotIn i o (zG ty td):=by
 intro pins s σ H Q I h;refine thn (hi pins s σ H _ I h) fun iv s1 ⟨y,H1,I1,ry,q1⟩=>thn (ho pins s1 σ H1 _ I1 q1) fun u s2 ⟨x,H2,I2,rx,a,ov,ex,g,q2⟩=>?_;subst ex;obtain rfl:u=JC a:=rx;exact Ff hu I2 g ry fun s3 I3=>⟨.bl (!ov.isSome),H2,I3,rfl,q2⟩
def zK (hu:X.A.units+1<cLine) (ho:PE X o td) (hi:PE X i ty) (hv:PE X value tv) (hs:swapsWith value (some (.Subscript o i pos')) pos.line X.env=pure false) :
  PS X (.Assign [.Subscript o i pos'] value pos) (EI td ty tv):=by
 intro pins s σ H D I h;refine wpAny_Assign_Subscript (thn (hv pins s σ H _ I h) fun r s1 ⟨v,H1,I1,rv,q1⟩=>thn (ho pins s1 σ H1 _ I1 q1) fun u s2 ⟨x,H2,I2,rx,q2⟩=>thn (hi pins s2 σ H2 _ I2 q2) fun iv s3 ⟨y,H3,I3,ry,a,H4,ex,g,q3⟩=>?_) hs;subst ex;obtain rfl:u=JC a:=rx;exact BI hu I3 g ry rv fun s4 I4=>⟨σ,H4,I4,q3⟩
end
def yw {P:Jc} {w:World} {H:Hp} (h:Heap) (hb:sysModules<h.objs.size):bT P w H (h.push { cls:=.type "dict",data:=.dict #[] }) h.objs.size (.dK []) :=
 ⟨J6 _,beq_eq_false_iff_ne.mpr (Lr (Jm hb)),[],.nil,Heap.DictOf.new h⟩
def CF:TE:=fun _ H Q=>∀ p,H p=none->Q (.ref p) (upd H p (.dK []))
section
variable {X:Cx} {pos:Pos}
def DO:PE X (.Dict [] [] pos) CF:=fun pins s σ H Q I h =>
 wpAny_Dict_empty ⟨.ref s.heap.objs.size,_,I.laid (a:=s.heap.objs.size) (o:=.dK []) (t':=s.toks) (fun _ _ q=>IU _ q) (IV _) (yw s.heap I.big),rfl,h _ (I.hok.fresh (IV _))⟩
end
def xI:List (TE×TE)->St->Hp->(List (V×V)->Hp->Prop)->Prop
 | [],_,H,Q=>Q [] H
 | (tk,tv) :: r,σ,H,Q=>tk σ H fun x H1=>tv σ H1 fun y H2=>xI r σ H2 fun ps H3=>Q ((x,y) :: ps) H3
abbrev VV:List (V×V)->List (Value×Value)->Prop:=Kr fun p q=>RelV p.1 q.1/\RelV p.2 q.2
def PPs (X:Cx) (pos:Pos) (keys:List (Option Expr)) (values:List Expr) (trs:List (TE×TE)):Prop :=
 ∀ (pins:List (Addr×Obj)) (s:IL) (σ:St) (H:Hp) (Q:List (V×V)->Hp->Prop),Inv X pins σ H s->xI trs σ H Q ->
  wpAny (model X.prog X.w) X.A (evalPairs (pairTrees keys values X.env pos)) (fun vs s'=>∃ ps H',Inv X pins σ H' s'/\VV ps vs/\Q ps H') X.xe s
def Ga {X:Cx} {pos:Pos}:PPs X pos [] [] []:=fun pins s σ H Q I h=>pairTrees_nil_walk ⟨[],H,I,.nil,h⟩
def DY {X:Cx} {pos:Pos} {k v:Expr} {ks:List (Option Expr)} {vs:List Expr} {tk tv:TE} {trs:List (TE×TE)} (hk:PE X k tk) (hv:PE X v tv) (hr:PPs X pos ks vs trs) :
  PPs X pos (some k :: ks) (v :: vs) ((tk,tv) :: trs):=fun pins s σ H Q I h =>
 pairTrees_cons_walk (thn (hk pins s σ H _ I h) fun u s1 ⟨x,H1,I1,rx,q1⟩=>thn (hv pins s1 σ H1 _ I1 q1) fun w2 s2 ⟨y,H2,I2,ry,q2⟩ =>
  thn (hr pins s2 σ H2 _ I2 q2) fun ws s3 ⟨ps,H3,I3,rel,q3⟩=>⟨(x,y) :: ps,H3,I3,.cons ⟨rx,ry⟩ rel,q3⟩)
def gL (kvs more:List (Key×V)):List (Key×V):=more.foldl (fun acc kv=>putK acc kv.1 kv.2) kvs
def KV.merge:∀ {more:List (Key×V)} {rs:List (Key×Value)} {kvs:List (Key×V)} {vs:List (Key×Value)},KV more rs->KV kvs vs->KV (gL kvs more) (merged vs rs):=by
 intro more rs kvs vs r;unfold KV at r
 induction r generalizing kvs vs with
 | nil=>intro q;exact q
 | @cons p q ps qs h t ih =>
  intro r0;have e:KV (putK kvs p.1 p.2) (stored vs q.1 q.2):=by
   have:=r0.put p.1 h.2;rw [<- h.1];exact this
  exact ih e
def m7:∀ (more kvs:List (Key×V)),(gL kvs more).length<=kvs.length+more.length
 | [],kvs=>by show kvs.length<=kvs.length+0;lia
 | p :: r,kvs=>by
  have h1:=m7 r (putK kvs p.1 p.2);have h2:=iV kvs p.1 p.2;show (gL (putK kvs p.1 p.2) r).length<=_;rw [Jp];lia
def qV {P:Jc} {w:World}:∀ {kvs:List (Key×V)} {ws:List (Value×Value)},VV (kvs.map fun kv=>(kV kv.1,kv.2)) ws->∃ rs,Carries (cI P w) ws rs/\KV kvs rs
 | [],_,r=>by rw [Ob] at r;cases r;exact ⟨[],KU,.nil⟩
 | p :: kvs,_,r=>by
  rw [JL] at r;cases r with
  | @cons a b as bs h t =>
   obtain ⟨rs,c,q⟩:=qV (P:=P) (w:=w) t;obtain ⟨b1,b2⟩:=b;exact ⟨(p.1,b2) :: rs,⟨oY h.1,rfl,c⟩,.cons ⟨rfl,h.2⟩ q⟩
def Ez (trs:List (TE×TE)):TE:=fun σ H Q=>∀ p,H p=none->xI trs σ (upd H p (.dK [])) fun ps H2=>H2 p=some (.dK [])/\∃ kvs:List (Key×V),ps=kvs.map (fun kv=>(kV kv.1,kv.2))/\kvs.length<=15/\Q (.ref p) (upd H2 p (.dK (gL [] kvs)))
def F1 {X:Cx} {pos:Pos} {keys:List (Option Expr)} {values:List Expr} {trs:List (TE×TE)} (h:PPs X pos keys values trs) (hall:keys.all (·.isSome)=true) (hl:keys.length=values.length) (h0:keys≠[])
  (h15:keys.length<=15):PE X (.Dict keys values pos) (Ez trs):=by
 intro pins s σ H Q I q;have hn:=I.hok.fresh (IV s.heap.objs.size);have I1:=I.laid (a:=s.heap.objs.size) (o:=.dK []) (h':=s.heap.push { cls:=.type "dict",data:=.dict #[] }) (t':=s.toks) (fun _ _ q=>IU _ q) (IV _) (yw s.heap I.big);refine wpAny_Dict_walk (knd:=cI X.prog X.w) hall hl h0 h15 (thn (h pins _ σ _ _ I1 (q _ hn)) fun ws s2 ⟨ps,H2,I2,rel,e,kvs,ep,lk,q2⟩=>?_);subst ep;obtain ⟨rs,c,rk⟩:=qV (P:=X.prog) (w:=X.w) rel;obtain ⟨z,hd,vs0,r0,dd⟩:=EJ I2.hok e;cases r0;refine ⟨rs,c,dd,fun h' dd' hs=>⟨.ref s.heap.objs.size,_,?_,rfl,q2⟩⟩;have hz:(gL [] kvs).length<=Jr:=by
  have h1:=m7 kvs [];rw [L9] at h1;rw [Kc];lia
 have he:∃ q,h'.get? s.heap.objs.size=some q:=let ⟨q,_,_,hq,_⟩:=dd';⟨q,hq⟩;exact uC I2 (by rw [e];exact KU) hs he (xw hz hd (rk.merge .nil) dd')
section
variable {X:Cx} {pins:List (Addr×Obj)} {σ:St} {H:Hp} {s:IL} {a:Addr} {y d:V} {u r:Value} {o:Option V} {A:JF} {E:Value->IL->Prop}
end
section
variable {X:Cx} {o e f:Expr} {apos cpos:Pos} {td ty tx:TE}
end
section
variable {X:Cx} {pins:List (Addr×Obj)} {σ:St} {H:Hp} {s:IL} {a:Addr} {kvs:List (Key×V)} {A:JF} {E:Value->IL->Prop}
end
section
variable {X:Cx} {pins:List (Addr×Obj)} {σ:St} {H:Hp} {s:IL} {a:Addr} {y:V} {u:Value} {A:JF} {E:Value->IL->Prop}
end
end L2
namespace Att
open PySem PySem.W PySem.Calls PyProof.Rows
section
variable {prog:Jc} {w:World} {A:JF} {E:Value->IL->Prop} {s:IL} {K:Frag}
end
end Att
namespace L2
open PySem PySem.Spec PyProof.Rows
section
variable {P:Jc} {w:World} {K:IC} {mg:Str->Option Value} {base:Heap}
end
section
variable {X:Cx}
end
section
variable {κ:Type} [DecidableEq κ]
def zY:∀ {l:List κ} {k:κ},l.Nodup->¬ k∈l->(l++[k]).Nodup
 | [],k,_,_=>by simp
 | a :: r,k,h,hk=>by
  obtain ⟨h1,h2⟩:=JS.mp h;show (a :: (r++[k])).Nodup;refine JS.mpr ⟨fun m=>?_,zY h2 fun m=>hk (JB.mpr (Lb m))⟩;rcases JG.mp m with q|q
  ·exact h1 q
  ·exact hk (JB.mpr (IQ (I0.mp q).symm))
end
section
variable {K:IC} {H:Hp} {σ:St} {Q:VK} {g:TG} {tt:TT} {ta:TE} {own:List Str} {fr:List Nat}
def qf {J:It} {n:Nat} (W:Addr->Nat->St->Hp->List V->Prop) (hz:n<=100000)
  (hgo:∀ d i σ' H' ys,i<n->W d i σ' H' ys->J.go i H') (hst:∀ d σ' H' ys,W d n σ' H' ys->J.stop n H')
  (hal:∀ d i σ' H' ys,i<=n->W d i σ' H' ys->ys.length<=i) (h0:∀ d,H d=none->W d 0 (bG own fr σ) (upd H d (.lst [])) [])
  (turn:∀ d i σ' H' ys x H2 (R:St->V->Hp->Prop) (R0:St->Hp->Prop),H d=none->i<n->W d i σ' H' ys->H' d=some (.lst ys)->J.yld i H' x H2 ->
   (∀ σ2 y H5,H5 d=some (.lst ys)->W d (i+1) σ2 (upd H5 d (.lst (ys++[y]))) (ys++[y])->R σ2 y H5)->(∀ σ2 H5,H5 d=some (.lst ys)->W d (i+1) σ2 H5 ys->R0 σ2 H5) ->
   g x σ' H2 fun σ2 H3=>tt σ2 H3 fun ok H4=>if ok=true then ta σ2 H4 (R σ2) else R0 σ2 H4)
  (fin:∀ d σ' H' ys,H d=none->H' d=some (.lst ys)->W d n σ' H' ys->Q (.ref d) H'):dg own fr g tt ta σ Q J H:=by
 intro d hd;refine ⟨fun i m σ' H'=>m=n - i/\i<=n/\∃ ys,H' d=some (.lst ys)/\W d i σ' H' ys,⟨n,rfl,J6 _,[],ar,h0 d hd⟩,?_⟩;rintro i m σ' H' ⟨rfl,hi,ys,hys,w⟩
 by_cases hlt:i<n
 ·refine .inr ⟨hgo d i σ' H' ys hlt w,fun x H2 hx=>turn d i σ' H' ys x H2 _ _ hd hlt w hys hx (fun σ2 y H5 h1 h2=>?_) (fun σ2 H5 h1 h2=>?_)⟩
  ·have hl:=hal d i σ' H' ys hi w;exact ⟨ys,h1,JT (show ys.length<=100000 by lia) (by rw [Kc];decide),n - (i+1),by lia,rfl,hlt,_,ar,h2⟩
  ·exact ⟨n - (i+1),by lia,rfl,hlt,ys,h1,h2⟩
 ·have e:i=n:=by lia
  subst e;exact .inl ⟨hst d σ' H' ys w,fin d σ' H' ys hd hys w⟩
def sZ {a:Int} {n:Nat} (e:a=(n:Int)) (hz:n<=100000) (W:Addr->Nat->St->Hp->List V->Prop)
  (hal:∀ d i σ' H' ys,i<=n->W d i σ' H' ys->ys.length<=i) (h0:∀ d,H d=none->W d 0 (bG own fr σ) (upd H d (.lst [])) [])
  (turn:∀ d i σ' H' ys (R:St->V->Hp->Prop) (R0:St->Hp->Prop),H d=none->i<n->W d i σ' H' ys->H' d=some (.lst ys) ->
   (∀ σ2 y H5,H5 d=some (.lst ys)->W d (i+1) σ2 (upd H5 d (.lst (ys++[y]))) (ys++[y])->R σ2 y H5)->(∀ σ2 H5,H5 d=some (.lst ys)->W d (i+1) σ2 H5 ys->R0 σ2 H5) ->
   g (.int (i:Int)) σ' H' fun σ2 H3=>tt σ2 H3 fun ok H4=>if ok=true then ta σ2 H4 (R σ2) else R0 σ2 H4)
  (fin:∀ d σ' H' ys,H d=none->H' d=some (.lst ys)->W d n σ' H' ys->Q (.ref d) H'):uw [.int a] H (dg own fr g tt ta σ Q):=by
 subst e;refine ⟨n,rfl,by lia,by lia,?_⟩
 have z:((n:Int)).toNat=n:=by lia
 show dg own fr g tt ta σ Q (Itr 0 (n:Int).toNat) H;rw [z];refine qf (n:=n) W hz (fun d i σ' H' ys hi _=>hi) (fun d σ' H' ys _=>IV n) hal h0 (fun d i σ' H' ys x H2 R R0 hd hi w hys hy=>?_) fin;obtain ⟨e1,e2⟩:=hy;subst e1 e2;rw [Oc];exact turn d i σ' _ ys R R0 hd hi w hys
def n8 {p:Addr} {xs:List V} (hz:xs.length<=100000) (W:Addr->Nat->St->Hp->List V->Prop) (hw:∀ d i σ' H' ys,W d i σ' H' ys->SqL K H' p xs) (hS:SqL K H p xs)
  (hal:∀ d i σ' H' ys,i<=xs.length->W d i σ' H' ys->ys.length<=i) (h0:∀ d,H d=none->W d 0 (bG own fr σ) (upd H d (.lst [])) [])
  (turn:∀ d i x σ' H' ys (R:St->V->Hp->Prop) (R0:St->Hp->Prop),H d=none->xs[i]?=some x->W d i σ' H' ys->H' d=some (.lst ys) ->
   (∀ σ2 y H5,H5 d=some (.lst ys)->W d (i+1) σ2 (upd H5 d (.lst (ys++[y]))) (ys++[y])->R σ2 y H5)->(∀ σ2 H5,H5 d=some (.lst ys)->W d (i+1) σ2 H5 ys->R0 σ2 H5) ->
   g x σ' H' fun σ2 H3=>tt σ2 H3 fun ok H4=>if ok=true then ta σ2 H4 (R σ2) else R0 σ2 H4)
  (fin:∀ d σ' H' ys,H d=none->H' d=some (.lst ys)->W d xs.length σ' H' ys->Q (.ref d) H'):gG K (.ref p) H (dg own fr g tt ta σ Q):=by
 refine ⟨p,rfl,⟨xs,hS⟩,qf (J:=Itl K p) (n:=xs.length) W hz (fun d i σ' H' ys hi w=>⟨xs,xs[i],hw d i σ' H' ys w,by simp [hi]⟩) (fun d σ' H' ys w=>⟨xs,hw d _ σ' H' ys w,IV _⟩) hal h0 (fun d i σ' H' ys x H2 R R0 hd hi w hys hy=>?_) fin⟩
 obtain ⟨e1,e2⟩:=hy;subst e1;exact turn d i x σ' _ ys R R0 hd (e2 xs (hw d i σ' _ ys w)) w hys
def BM {p:Addr} {xs:List V} {ia ib:Nat} (hz:xs.length<=100000) (W:Addr->Nat->St->Hp->List V->Prop) (hw:∀ d i σ' H' ys,W d i σ' H' ys->SqL K H' p xs) (hS:SqL K H p xs)
  (hal:∀ d i σ' H' ys,i<=xs.length->W d i σ' H' ys->ys.length<=i) (h0:∀ d,H d=none->W d 0 (bG own fr σ) (upd H d (.lst [])) [])
  (turn:∀ d i x σ' H' H2 ys (R:St->V->Hp->Prop) (R0:St->Hp->Prop),H d=none->xs[i]?=some x->W d i σ' H' ys->H' d=some (.lst ys)->aj H' H2 ->
   (∀ σ2 y H5,H5 d=some (.lst ys)->W d (i+1) σ2 (upd H5 d (.lst (ys++[y]))) (ys++[y])->R σ2 y H5)->(∀ σ2 H5,H5 d=some (.lst ys)->W d (i+1) σ2 H5 ys->R0 σ2 H5) ->
   tt ((σ'.set ia (some (.int (i:Int)))).set ib (some x)) H2 fun ok H4=>if ok=true then ta ((σ'.set ia (some (.int (i:Int)))).set ib (some x)) H4 (R ((σ'.set ia (some (.int (i:Int)))).set ib (some x))) else R0 ((σ'.set ia (some (.int (i:Int)))).set ib (some x)) H4)
  (fin:∀ d σ' H' ys,H d=none->H' d=some (.lst ys)->W d xs.length σ' H' ys->Q (.ref d) H'):AD K [.ref p] H (dg own fr (nN K 2 (eL (da ia) (eL (da ib) oj))) tt ta σ Q):=by
 refine ⟨p,xs,rfl,hS,qf (J:=Ite K p) (n:=xs.length) W hz (fun d i σ' H' ys hi w=>⟨xs,xs[i],hw d i σ' H' ys w,by simp [hi]⟩) (fun d σ' H' ys w=>⟨xs,hw d _ σ' H' ys w,IV _⟩) hal h0 (fun d i σ' H' ys x H2 R R0 hd hi w hys hy hR hR0=>?_) fin⟩
 obtain ⟨q,x',rfl,hq,rfl,e2⟩:=hy;have hx:=e2 xs (hw d i σ' H' ys w);refine ⟨q,[.int (i:Int),x'],rfl,SqT.of ar,rfl,⟨_,_,rfl,⟨_,_,rfl,⟨rfl,?_⟩⟩⟩⟩;exact turn d i x' σ' H' _ ys R R0 hd hx w hys (aE hq _) hR hR0
end
def Tbl.nil {H:Hp} {d:Addr}:Tbl (upd H d (.lst [])) d [] []:=⟨ar,NK,by simp,rfl,fun i p r e=>by simp at e⟩
def Tbl.snoc {H H5:Hp} {d p:Addr} {L:List (List Nat)} {ps:List Addr} {s:List Nat} (h:Tbl H d L ps) (hs:aj H H5) (hp:H5 p=some (.lst (aH s))) (hn:p∉ps) (hd:p≠d) :
  Tbl (upd H5 d (.lst (ps.map V.ref++[.ref p]))) d (L++[s]) (ps++[p]):=by
 refine ⟨?_,?_,?_,?_,fun i q r e1 e2=>?_⟩
 ·rw [ar,JO];rfl
 ·exact zY h.nd hn
 ·intro z;rcases JG.mp z with z|z
  ·exact h.ap z
  ·exact hd (I0.mp z).symm
 ·rw [IZ,IZ,h.len];rfl
 ·have hl:=h.len;rcases JI i ps.length with z|z
  ·rw [Jk z] at e1;rw [Jk (by lia)] at e2
   have hq:q≠d:=fun c=>h.ap (c ▸ IH e1);rw [av hq];exact hs _ _ (h.row i q r e1 e2)
  ·rw [Jl z] at e1;rw [Jl (by lia)] at e2
   have i0:i - ps.length=0:=by
    rcases LK (i - ps.length) with c|c
    ·exact c
    ·rw [Kz (by simp;lia)] at e1;cases e1
   rw [i0] at e1;rw [show i - L.length=0 by lia] at e2
   cases e1;cases e2;rw [av hd];exact hp
section
variable {H:Hp} {σ:St} {Q:VK} {td ty tv:TE}
def nk (k:Nat):Key:=MN (k:Int)
def EZ (x y:V) (H:Hp) (Q:VK):Prop:=∃ a v,x=.ref a/\iy H a y (some v)/\Q v H
def zw (y x:V) (H:Hp) (Q:VK):Prop:=∃ a o,x=.ref a/\iy H a y o/\Q (.bl (!o.isSome)) H
def EN (x y v:V) (H:Hp) (D:Hp->Prop):Prop:=∃ a H4,x=.ref a/\n9 H a y v H4/\D H4
def ig (h:td σ H fun x H1=>ty σ H1 fun y H2=>EZ x y H2 Q):EY td ty σ H Q:=h
def B7 (h:ty σ H fun y H1=>td σ H1 fun x H2=>zw y x H2 Q):zG ty td σ H Q:=h
def zL {D:Ends} (h:tv σ H fun v H1=>td σ H1 fun x H2=>ty σ H2 fun y H3=>EN x y v H3 (D.nx σ)):EI td ty tv D σ H:=h
def ki {a:Addr} {k:Nat} {kvs:List (Key×V)} {v:V} (h:H a=some (.dK kvs)) (hv:cy kvs (nk k)=some v) (q:Q v H):EZ (.ref a) (.int (k:Int)) H Q :=
 ⟨a,v,rfl,by rw [<- hv];exact iy.k (k:=nk k) h,q⟩
def C9 {a:Addr} {k:Nat} {kvs:List (Key×V)} (h:H a=some (.dK kvs)) (q:Q (.bl (!(cy kvs (nk k)).isSome)) H):zw (.int (k:Int)) (.ref a) H Q :=
 ⟨a,_,rfl,iy.k (k:=nk k) h,q⟩
def BQ {D:Hp->Prop} {a:Addr} {k:Nat} {kvs:List (Key×V)} {v:V} (h:H a=some (.dK kvs)) (hl:kvs.length<=100000) (q:D (upd H a (.dK (putK kvs (nk k) v)))):EN (.ref a) (.int (k:Int)) v H D :=
 ⟨a,_,rfl,n9.k (k:=nk k) h (JT hl (by rw [Kc];decide)),q⟩
def GX (h:∀ p,H p=none->Q (.ref p) (upd H p (.dK []))):CF σ H Q:=h
def F3 {tk:TE} (h:∀ p,H p=none->tk σ (upd H p (.dK [])) fun x H1=>tv σ H1 fun y H2=>H2 p=some (.dK [])/\∃ kvs:List (Key×V),[(x,y)]=kvs.map (fun kv=>(kV kv.1,kv.2))/\kvs.length<=15/\Q (.ref p) (upd H2 p (.dK (gL [] kvs)))):Ez [(tk,tv)] σ H Q:=h
def sY {a b:Nat} (h:nk a=nk b):a=b:=NZ (MN.inj h)
end
section
variable {prog:Jc} {w:World} {A:JF} {s:IL} {R:NY->IL->Prop}
variable {I:Addr} {fp wr:List Addr} {G:Array Mh->Array Mh->Prop} {n:Nat} {P:Nat->Value->Prop} {St:Nat->IL->Prop}
end
section
variable {prog:Jc} {w:World} {A:JF} {s:IL} {R:NY->IL->Prop} {E:Value->IL->Prop}
variable {I:Addr} {fp wr:List Addr} {G:Array Mh->Array Mh->Prop} {n:Nat} {P:Nat->Value->Prop} {St:Nat->IL->Prop}
end
section
variable {X:Cx} {pins:List (Addr×Obj)} {σ:St} {H:Hp} {s:IL} {a:Addr} {kvs:List (Key×V)} {ep:Nat}
end
section
variable {P:Jc} {w:World} {σ:St} {H:Hp} {Q:VK} {td ty:TE} {tl:TE} {ta:TA} {K:IC}
end
section
variable {X:Cx} {CX:CXT} {k:Nat} {f C:Addr} {fd:JR} {ps:List Str} {sp:Sp} {m:Str} {pos apos:Pos} {e o:Expr} {es:List Expr} {ta:TE} {t:TA}
end
section
variable {σ:St} {H:Hp} {Q:VK} {K:IC}
end
section
variable {σ:St} {H:Hp} {Q:VK} {D:Ends} {g:TG} {t:TS} {tA:TA} {tt:TT} {ta:TE} {own:List Str} {fr:List Nat}
end
def b5:∀ (names:List (Str×Ln)) (n:Nat) (acc:List (Str×Addr)),cellsFrom n names acc=cellsFrom n names []++acc
 | [],_,_=>rfl
 | (x,k) :: r,n,acc=>by
  unfold cellsFrom
  split
  ·rw [b5 r (n+1) ((x,n) :: acc),b5 r (n+1) [(x,n)],MC];rfl
  ·exact b5 r n acc
def f6:∀ (names:List (Str×Ln)) (n:Nat) (x:Str),(x,Kb)∈names->∃ c,(cellsFrom n names []).lookup x=some c
 | (y,k) :: r,n,x,h=>by
  unfold cellsFrom;rcases JB.mp h with e|h
  ·cases e;rw [if_pos (show (Kb == Kb)=true from rfl),b5,KZ];cases q:(cellsFrom (n+1) r []).lookup y with
   | some c=>exact ⟨c,rfl⟩
   | none=>exact ⟨n,by simp⟩
  ·split
   ·obtain ⟨c,hc⟩:=f6 r (n+1) x h;rw [b5,KZ,hc];exact ⟨c,rfl⟩
   ·exact f6 r n x h
def jn:∀ (names:List (Str×Ln)) (n:Nat) (x:Str) (c:Addr),(x,c)∈cellsFrom n names []->(x,Kb)∈names
 | [],_,_,_,h=>by simp [cellsFrom] at h
 | (y,k) :: r,n,x,c,h=>by
  unfold cellsFrom at h
  split at h
  ·rename_i hk
   rw [b5] at h;rcases JG.mp h with z|z
   ·exact IM _ (jn r (n+1) x c z)
   ·have z':=I0.mp z;cases z';have:k=Kb:=by simpa using hk
    rw [this];exact IT
  ·exact IM _ (jn r n x c h)
def pD {M:Model} {A:JF} {E:Value->IL->Prop} {s:IL} {scope:Scope} {globals:Addr} {cl:List (Str×Addr)} {qual:Str} {env:Env} {Q:Env->IL->Prop}
  (h:Q (newEnv scope s.heap.objs.size globals (cellsFrom (s.heap.objs.size+1) scope.names cl) qual none .none (some env) builtinsNs) { s with heap:=pushCells (s.heap.push { cls:=.type "dict",data:=.dict #[] }) scope.names }) :
  wpAny M A (newFunctionEnv scope globals cl [] qual none .none (some env)) Q E s:=by
 simp only [newFunctionEnv,Option.isSome_some,if_true];refine IS (wpAny_alloc ?_);refine IS (wpAny_layCells _ (fun name kind cells=>by cases hkc:kind == Kb <;> simp [hkc]) _ _ _ _ ?_)
 rw [show ({ s with heap:=s.heap.push { cls:=.type "dict",data:=.dict #[] } }:IL).heap.objs.size=s.heap.objs.size+1 from Le ..];exact IS (Ju (Ju h))
def cJ (X:Cx) (scope:Scope) (own:List Str) (fr:List Nat) (C:Addr) (s₂:IL) (H₂:Hp) (fp:List Addr):Cx :=
 { X with N:=eX own fr X.N,s₀:=s₂,H₀:=H₂,env:=compEnvC scope (cellsFrom (C+1) scope.names (dy X.env scope.names [])) C X.env,outer:=X.stack,ex:=fp,fn:=fun x=>decide ((x,Kb)∈scope.names),pn:=[],xe:=fun _ _=>False }
structure dN (sc:Scope) (N:List Str) (scope:Scope) (own:List Str) (fr:List Nat):Prop where
 kind:scope.kind=.function
 cf0:∀ y∈scope.names,y.2=.cell->(y.1,Ka)∉scope.names
 names:∀ y∈scope.names,y.2=.local->scope.names.lookup y.1=some .local
 free:∀ y∈scope.names,y.2=.free->sc.names.lookup y.1=some .cell\/sc.names.lookup y.1=some .free
 fr0:∀ i∈fr,(N[i]?.bind fun x=>scope.names.lookup x)=some .free
 nd:(eX own fr N).Nodup
def dN.cf {sc:Scope} {N:List Str} {scope:Scope} {own:List Str} {fr:List Nat} (S:dN sc N scope own fr) (x:Str) (h:(x,Kb)∈scope.names):(x,Ka)∉scope.names:=S.cf0 _ h rfl
def dN.fr {sc:Scope} {N:List Str} {scope:Scope} {own:List Str} {fr:List Nat} (S:dN sc N scope own fr):∀ i∈fr,∃ x,N[i]?=some x/\scope.names.lookup x=some .free:=fun i hi=>by
 have q:=S.fr0 i hi;cases e:N[i]? with
 | none=>rw [e] at q;cases q
 | some x=>rw [e] at q;exact ⟨x,rfl,q⟩
section
variable {X:Cx} {scope:Scope} {own:List Str} {fr:List Nat} {pins:List (Addr×Obj)} {σ:St} {H₂:Hp} {s₂:IL} {fp:List Addr} {C D:Addr} {h₁:Heap} {m:Str->Option Value} {tk:Nat}
def dN.cells (S:dN X.env.scope X.N scope own fr) (ok:X.Ok):∀ x∈scope.names,x.2=.free->∃ c,X.env.cells.lookup x.1=some c:=fun x hx hf=>ok.has x.1 (S.free x hx hf)
def CN (S:dN X.env.scope X.N scope own fr) (I:Inv X pins σ H₂ s₂) (f2:∀ b∈fp,ie X pins H₂ b) (fo:∀ b∈fp,b<s₂.heap.objs.size)
  (hC:s₂.heap.objs.size<=C) (hD:s₂.heap.objs.size<=D) (hDC:D≠C) (hDC':D<C) (old:∀ b o,s₂.heap.get? b=some o->h₁.get? b=some o) (hns:h₁.Ns C m) (new:∃ n,h₁.get? D=some { cls:=.type "list",data:=.seq #[] n }) (okc:CellsOk h₁ (C+1) (cellsFrom (C+1) scope.names [])) :
  Inv (cJ X scope own fr C s₂ H₂ fp) [] (bG own fr σ) (upd H₂ D (.lst [])) { s₂ with heap:=h₁,toks:=tk }:=by
 have hk:=S.cells I.ok;have sub:=qp (env:=X.env) scope.names [] hk (fun x c e=>by cases e)
 have fl:∀ x c,(dy X.env scope.names []).lookup x=some c->∃ v,s₂.heap.IsCell c v:=fun x c e=>I.cell x c (sub x c e);have two:∀ x c,(cellsFrom (C+1) scope.names (dy X.env scope.names [])).lookup x=some c->((cellsFrom (C+1) scope.names []).lookup x=some c)\/(dy X.env scope.names []).lookup x=some c:=fun x c e=>by
  rw [b5,KZ] at e;cases q:(cellsFrom (C+1) scope.names []).lookup x with
  | none=>rw [q] at e;exact .inr e
  | some c'=>rw [q] at e;exact .inl e
 have nw:∀ x c,(cellsFrom (C+1) scope.names []).lookup x=some c->h₁.IsCell c none/\C+1<=c:=fun x c e=>okc.empty x c (JK e);have ge:∀ x c,(cellsFrom (C+1) scope.names []).lookup x=some c->s₂.heap.objs.size<=c:=fun x c e=>JV hC (K6 (nw x c e).2);have olt:∀ x c,(dy X.env scope.names []).lookup x=some c->c<s₂.heap.objs.size:=fun x c e=>by
  obtain ⟨v,o,z1,_⟩:=fl x c e;exact IY z1
 have okX:(cJ X scope own fr C s₂ H₂ fp).Ok:=by
  refine ⟨I.ok.mod,S.kind,I.ok.glob,I.ok.blt,hC,fun x y c e1 e2=>?_,fun x hx=>?_,fun x c hf e=>?_,I.ok.hd,I.ok.frames,.inl rfl,fun b hb=>⟨?_,fun x c e z=>?_⟩,
   I.bs,JV I.ok.bsz I.sz,fun b o e hb=>?_,fun b hb=>?_,I.stack,I.uL⟩
  ·rcases two x c e1 with z1|z1 <;> rcases two y c e2 with z2|z2
   ·exact name_of_addr okc.apart (JK z1) (JK z2)
   ·exact absurd (JT (ge x c z1) (olt y c z2)) (Ki _)
   ·exact absurd (JT (ge y c z2) (olt x c z1)) (Ki _)
   ·exact I.ok.inj x y c (sub x c z1) (sub y c z2)
  ·show ∃ c,(cellsFrom (C+1) scope.names (dy X.env scope.names [])).lookup x=some c;rw [b5,KZ];cases q:(cellsFrom (C+1) scope.names []).lookup x with
   | some c'=>exact ⟨c',rfl⟩
   | none =>
    rcases jq hx with z|z
    ·exact kK _ _ _ z
    ·obtain ⟨c,hc⟩:=f6 scope.names (C+1) x z;rw [q] at hc;cases hc
  ·rcases two x c e with z|z
   ·exact ge x c z
   ·exfalso
    have hf':(x,Kb)∈scope.names:=of_decide_eq_true hf;have e':(cellsFrom (C+1) scope.names (dy X.env scope.names [])).lookup x=some c:=e;obtain ⟨c',hc'⟩:=f6 scope.names (C+1) x hf';rw [b5,KZ,hc'] at e';cases e';exact absurd (JT (ge x _ hc') (olt x _ z)) (Ki _)
  ·exact Jm (Ja (fo b hb) hC)
  ·rcases two x c e with y|y
   ·exact absurd (JT (ge x c y) (z ▸ fo b hb)) (Ki _)
   ·exact (f2 b hb).2.2.2.2.1 x c (sub x c y) z
  ·obtain ⟨_,_,_,f3,_⟩:=f2 b hb;rcases f3 with z|z
   ·exact I.ok.uv b o e z
   ·exact absurd (Ja (IY (I.ok.bs b o e).1) z) (Ki _)
  ·obtain ⟨_,f1,f2',_⟩:=f2 b hb;intro z;rcases JB.mp (I.rB b z) with q|q
   ·exact f1 q
   ·exact f2' q
 have frH:∀ a,s₂.heap.objs.size<=a->H₂ a=none:=fun a h=>I.hok.fresh h;refine ⟨okX,rfl,I.bare,Un.laid old hD (frH D hD),⟨m,hns,fun i x v e1 e2 e3=>?_⟩,fun x c e=>?_,?_,fun x c e=>?_,fun p hp=>absurd (show p∈([]:List (Addr×Obj)) from hp) (by simp),I.hok.laid old hD ?_,?_⟩
 ·obtain ⟨j,hi,hj,hv⟩:=sU e2;have hx:X.N[j]?=some x:=by
   obtain ⟨y,hy,_⟩:=S.fr j (IH hj);have e1':(eX own fr X.N)[i]?=some x:=e1;unfold eX at e1';rw [Jl hi,IJ,hj] at e1';have e1'':(X.N[j]?).getD ("" : Str)=x:=by simpa using e1'
   rw [hy] at e1'' ⊢;exact congrArg some e1''
  obtain ⟨y,hy,hfree⟩:=S.fr j (IH hj);rw [hx] at hy;cases hy;have hkind:X.env.kindOf x=some .cell\/X.env.kindOf x=some .free:=S.free _ (JK hfree) rfl;obtain ⟨mo,hno,hlo⟩:=I.loc;obtain ⟨u,r,l⟩:=hlo j x v hx hv (hkind.elim (fun z=>.inr (.inl z)) fun z=>.inr (.inr z));refine ⟨u,r,.inr ⟨kr hfree,?_⟩⟩;obtain ⟨c,hc⟩:=kK (env:=X.env) scope.names [] x (JK hfree);have hno:(cellsFrom (C+1) scope.names []).lookup x=none:=by
   cases q:(cellsFrom (C+1) scope.names []).lookup x with
   | none=>rfl
   | some c'=>exact absurd (JK hfree) (S.cf x (jn scope.names (C+1) x c' (JK q)))
  refine ⟨c,by show (cellsFrom (C+1) scope.names (dy X.env scope.names [])).lookup x=some c;rw [b5,KZ,hno];exact hc,?_⟩
  have hc':=sub x c hc;rcases l with ⟨k,_⟩|⟨_,c',e,o,z1,z2⟩
  ·rcases hkind with z|z
   ·rw [k] at z;cases z
   ·rw [k] at z;cases z
  ·rw [hc'] at e;cases e;exact ⟨o,old _ _ z1,z2⟩
 ·rcases two x c e with y|y
  ·exact ⟨none,(nw x c y).1⟩
  ·obtain ⟨v,o,z1,z2⟩:=fl x c y;exact ⟨v,o,old _ _ z1,z2⟩
 ·show (upd H₂ D (.lst [])) C=none;rw [av (Lr hDC)];exact frH C hC
 ·rcases two x c e with y|y
  ·rw [av (show c≠D from N7 (Nr hDC' (nw x c y).2))];exact frH c (ge x c y)
  ·obtain ⟨v,o,z1,z2⟩:=fl x c y;rw [av (Jm (Ja (IY z1) hD))];exact I.gh x c (sub x c y)
 ·obtain ⟨n,e⟩:=new;exact ⟨J6 _,[],n,.nil,e⟩
 ·show (bG own fr σ).length=(eX own fr X.N).length;simp [bG,eX]
end
section
variable {X:Cx} {elt tg iter:Expr} {ifs:List Expr} {scope:Scope} {pos:Pos} {own:List Str} {fr:List Nat} {wi:TI} {g:TG} {tt:TT} {te:TE}
def Bi {pins:List (Addr×Obj)} {s:IL} {σ:St} {H:Hp} {Q:VK} {RR:Value->Addr->NY->IL->Prop} (hc:X.calm=true) (S:dN X.env.scope X.N scope own fr) (hi:PI X tg iter wi)
  (hb:∀ C s₂ H₂ fp,PG (cJ X scope own fr C s₂ H₂ fp) tg g/\PIf (cJ X scope own fr C s₂ H₂ fp) ifs tt/\PE (cJ X scope own fr C s₂ H₂ fp) elt te)
  (I:Inv X pins σ H s) (h:o7 own fr wi g tt te σ H Q)
  (hRR:∀ D C s' H' m',Inv X pins σ H' s'->Q (.ref D) H'->ie X pins H' C->s'.heap.Ns C m'->RR (.ref D) C (.ok .next) s') :
  wpAny (model X.prog X.w) X.A (eval iter X.env) (fun v s₁=>wpAny (model X.prog X.w) X.A (pyIter v) (fun it s₂=>wpAny (model X.prog X.w) X.A (newList []) (fun acc s₃ =>
   wpAny (model X.prog X.w) X.A (newFunctionEnv scope X.env.globals (dy X.env scope.names []) [] X.env.qual none .none (some X.env)) (fun cenv s₄ =>
    codeAny (model X.prog X.w) X.A (.compStart (.ListComp elt [⟨tg,iter,ifs,0⟩] scope pos) 0 it acc { cenv with scope:=relabel scope X.env }) (RR acc cenv.locals) s₄) X.xe s₃) X.xe s₂) X.xe s₁) X.xe s:=by
 refine thn (hi pins s σ H _ I h) fun v s1 h1=>thn h1 fun itv s2 h2=>?_;obtain ⟨it,fp,tn,J,H2,e,I2,T,st2,f2,hq⟩:=h2;subst e;refine Mw (pD ?_);dsimp only;have hD:=I2.hok.fresh (IV s2.heap.objs.size);obtain ⟨W,⟨m0,w0⟩,turn⟩:=hq s2.heap.objs.size hD;generalize hH2:s2.heap.push { cls:=.type "list",dict:=none,data:=.seq ([]:List Value).toArray }=G at ⊢;have hG:G.objs.size=s2.heap.objs.size+1:=by rw [<- hH2,Le]
 have hDC:s2.heap.objs.size≠G.objs.size:=by rw [hG];exact Jm (Lw _)
 have hC:s2.heap.objs.size<=G.objs.size:=by rw [hG];exact LR _
 have old:∀ b o,s2.heap.get? b=some o->(pushCells (G.push { cls:=.type "dict",data:=.dict #[] }) scope.names).get? b=some o:=fun b o e =>
  Nt _ _ b o (IU _ (hH2 ▸ IU _ e))
 have new:(pushCells (G.push { cls:=.type "dict",data:=.dict #[] }) scope.names).get? s2.heap.objs.size=some { cls:=.type "list",data:=.seq #[] 0 } :=
  Nt _ _ _ _ (IU _ (hH2 ▸ JJ _ rfl))
 have hns₁:(pushCells (G.push { cls:=.type "dict",data:=.dict #[] }) scope.names).Ns G.objs.size (fun _=>none):=(Heap.Ns.new G (.type "dict")).keeps (Nt _ _);have okc:=cellsFrom_ok scope.names (G.push { cls:=.type "dict",data:=.dict #[] }) (G.objs.size+1) [] ⟨fun _ _ hm=>(nomatch hm),List.Pairwise.nil⟩ (by rw [Le];exact IV _)
 rw [Le] at okc;generalize hh1:pushCells (G.push { cls:=.type "dict",data:=.dict #[] }) scope.names=h₁ at old new hns₁ okc ⊢;have fo:∀ b∈fp,b<s2.heap.objs.size:=fun b hb'=>let ⟨o,e,_⟩:=T.obj 0 _ st2 b hb';IY e;have I4:Inv (cJ X scope own fr G.objs.size s2 H2 fp) [] (bG own fr σ) (upd H2 s2.heap.objs.size (.lst [])) { s2 with heap:=h₁ } :=
  CN (tk:=s2.toks) S I2 f2 fo hC (IV _) hDC (by rw [hG];exact Lw _) old hns₁ ⟨_,new⟩ okc
 obtain ⟨hg,ht,he⟩:=hb G.objs.size s2 H2 fp;have fpX:∀ {H':Hp},(∀ b∈fp,H' b=none)->∀ b∈fp,ie (cJ X scope own fr G.objs.size s2 H2 fp) [] H' b:=fun {H'} hn b hb'=>by
  refine ⟨hn b hb',Jm (Ja (fo b hb') hC),I4.ok.tW b hb',.inl hb',(I4.ok.exf b hb').2,fun p hp=>absurd (show p∈([]:List (Addr×Obj)) from hp) (by simp)⟩
 have fr0:∀ b∈fp,(upd H2 s2.heap.objs.size (.lst [])) b=none:=fun b hb'=>by
  rw [av (Jm (fo b hb'))];exact (f2 b hb').1
 have tn0:tn 0 h₁:=T.keep _ _ _ st2 fun b hb' o e=>old b o e;have loop:codeAny (model X.prog X.w) X.A (.compLoop (.ListComp elt [⟨tg,iter,ifs,0⟩] scope pos) 0 (.ref it) (.ref s2.heap.objs.size) (compEnvC scope (cellsFrom (G.objs.size+1) scope.names (dy X.env scope.names [])) G.objs.size X.env))
   (RR (.ref s2.heap.objs.size) G.objs.size) { s2 with heap:=h₁ }:=by
  refine vn (fun n s'=>∃ i σ' H',Inv (cJ X scope own fr G.objs.size s2 H2 fp) [] σ' H' s'/\tn i s'.heap/\(∀ b∈fp,H' b=none)/\W i n σ' H') ?_ m0 ⟨0,_,_,I4,tn0,fr0,w0⟩;rintro n s3 ⟨i,σ3,H3,I3,st3,fr3,w3⟩;have nfp:∀ {H':Hp} {s':IL} {σ':St} {pl:List (Addr×Obj)},Inv (cJ X scope own fr G.objs.size s2 H2 fp) pl σ' H' s'->pl=jf fp s'.heap->True:=fun _ _=>trivial;rcases turn i n σ3 H3 w3 with ⟨stop,qn⟩|⟨go,step⟩
  ·refine thn (T.done (cJ X scope own fr G.objs.size s2 H2 fp) rfl rfl rfl hc i [] s3 σ3 H3 (fun _ _=>False) I3 (fpX fr3) st3 stop) fun r s4 ⟨hr,I5⟩=>?_;subst hr;have IX:Inv X pins σ H3 s4:=I2.E2 (ch:=fp) I5.os I5.base I5.hok I5.bare fun b hb'=>let ⟨_,f1,_,f3,f4,f5⟩:=f2 b hb';⟨f3,f1,f4,f5⟩;obtain ⟨m',hn',_⟩:=I5.loc;exact hRR _ _ _ _ m' IX qn (I2.pX hC I5.free) hn'
  ·refine thn (T.item (cJ X scope own fr G.objs.size s2 H2 fp) rfl rfl rfl hc i [] s3 σ3 H3 (fun _ _=>False) I3 (fpX fr3) st3 go) fun r s4 ⟨u,hr,h4⟩=>?_;subst hr;refine thn h4 fun _ s5 ⟨x,H5,I5,r5,y5,st5,fr5⟩=>?_;have I5':=I5.pinned (fpX fr5) (T.obj _ _ st5);refine thn (hg _ s5 σ3 H5 x u _ I5' r5 (step x H5 y5)) fun _ s6 ⟨σ6,H6,I6,q6⟩=>?_;have again:∀ {s7:IL} {σ7:St} {H7:Hp} {m':Nat},Inv (cJ X scope own fr G.objs.size s2 H2 fp) ([]++jf fp s5.heap) σ7 H7 s7->m' < n->W (i+1) m' σ7 H7 ->
     ∃ m,m<n/\∃ i σ' H',Inv (cJ X scope own fr G.objs.size s2 H2 fp) [] σ' H' s7/\tn i s7.heap/\(∀ b∈fp,H' b=none)/\W i m σ' H':=fun {s7 σ7 H7 m'} I7 hm w7=>by
    refine ⟨m',hm,i+1,σ7,H7,I7.ku,T.keep _ _ _ st5 fun b hb' o e=>(I7.pin (b,o) (Jx _ (Jx _ (fN hb' e)))).1,fun b hb'=>?_,w7⟩;obtain ⟨o,e,d⟩:=T.obj _ _ st5 b hb';exact (I7.pin (b,o) (Jx _ (Jx _ (fN hb' e)))).2.1
   refine thn (ht _ s6 σ6 H6 _ I6 q6) fun ok s7 ⟨H7,I7,q7⟩=>?_;cases ok with
   | false =>
    rw [if_neg Jd] at q7 ⊢;obtain ⟨m',hm,w7⟩:=q7;exact again I7 hm w7
   | true =>
    rw [if_pos rfl] at q7 ⊢;refine thn (he _ s7 σ6 H7 _ I7 q7) fun y s8 ⟨yv,H8,I8,r8,q8⟩=>?_;obtain ⟨ys,hy,hl,m',hm,w8⟩:=q8;refine thn (cc _ s8 σ6 H8 (.ref s2.heap.objs.size) [yv] _ [y] (fun _ H9=>H9=upd H8 s2.heap.objs.size (.lst (ys++[yv]))) I8 rfl (.cons r8 .nil) ⟨_,ys,yv,rfl,rfl,hy,hl,rfl⟩) fun _ s9 ⟨_,H9,I9,_,e9⟩=>?_;subst e9;exact again I9 hm w8
 exact M7 loop (T.self X.A 0 _ _ _ tn0 loop)
def xr (hc:X.calm=true) (S:dN X.env.scope X.N scope own fr) (hi:PI X tg iter wi)
  (hb:∀ C s₂ H₂ fp,PG (cJ X scope own fr C s₂ H₂ fp) tg g/\PIf (cJ X scope own fr C s₂ H₂ fp) ifs tt/\PE (cJ X scope own fr C s₂ H₂ fp) elt te)
  (hs:∀ x,foldedSetIterable iter X.env x=pure x:=by intro _;rfl):PE X (.ListComp elt [⟨tg,iter,ifs,0⟩] scope pos) (o7 own fr wi g tt te):=by
 intro pins s σ H Q I h;rw [eval_ListComp];refine Lz (use:=none) rfl hs (uj (S.cells I.ok)) S.kind S.names ?_;refine Bi (RR:=fun acc C=>compPost (model X.prog X.w) X.A X.xe none (EP X pins σ Q) acc C) hc S hi hb I h ?_;intro D C s' H' m' I' q f hn;obtain ⟨f0,f1,f2,f3,f4,f5⟩:=f;exact ⟨m',hn,fun h' sb=>⟨.ref D,H',I'.turned (t':=s'.toks) (fun b o hb e=>(sb.2 b hb).trans e) f0 f1 f3 f4 f5,rfl,q⟩⟩
end
section
variable {K:IC} {H:Hp} {σ:St} {Q:VK} {tt:TT} {ta:TE} {own:List Str} {fr:List Nat}
end
section
variable {X:Cx}
def EG (i j:Int):Prop:=i.natAbs<2 ^ 250/\j.natAbs<2 ^ 250
def bits_le {k:Int} {n:Nat} (h:k.natAbs<2 ^ n):NQ k<=n:=by
 unfold NQ
 split
 ·lia
 ·next c =>
  have hk:k.natAbs≠0:=fun z=>c (by have:=Int.natAbs_eq_zero.mp z;simp [this])
  have:=(Nat.log2_lt hk).mpr h;lia
def EG.ok {i j:Int} (h:EG i j):Oe i j:=by
 have h1:=bits_le h.1;have h2:=bits_le h.2;unfold Oe;intro c;simp only [La] at c;have c2:=c.2;unfold Nu at c2;have c3:=of_decide_eq_true c2;have:(2000:Int)<=(bitsLine:Int):=by decide
 lia
end
end L2
namespace L2
section
variable {α:Type} {us:List α}
def len0 (h:us.length=0):us=[]:=List.length_eq_zero_iff.mp h
def wQ {n:Nat} (h:us.length=n+1):∃ a r,us=a :: r/\r.length=n:=by
 cases us with
 | nil=>simp at h
 | cons a r=>exact ⟨a,r,rfl,by simpa using h⟩
def G7 (h:us.length=1):∃ a,us=[a]:=by
 obtain ⟨a,r,rfl,h2⟩:=wQ h;obtain rfl:=len0 h2;exact ⟨a,rfl⟩
def GS (h:us.length=2):∃ a b,us=[a,b]:=by
 obtain ⟨a,r,rfl,h2⟩:=wQ h;obtain ⟨b,rfl⟩:=G7 h2;exact ⟨a,b,rfl⟩
def AZ (h:us.length=3):∃ a b c,us=[a,b,c]:=by
 obtain ⟨a,r,rfl,h2⟩:=wQ h;obtain ⟨b,c,rfl⟩:=GS h2;exact ⟨a,b,c,rfl⟩
def ka (h:us.length=4):∃ a b c d,us=[a,b,c,d]:=by
 obtain ⟨a,r,rfl,h2⟩:=wQ h;obtain ⟨b,c,d,rfl⟩:=AZ h2;exact ⟨a,b,c,d,rfl⟩
def Hl (h:us.length=5):∃ a b c d e,us=[a,b,c,d,e]:=by
 obtain ⟨a,r,rfl,h2⟩:=wQ h;obtain ⟨b,c,d,e,rfl⟩:=ka h2;exact ⟨a,b,c,d,e,rfl⟩
end
end L2
namespace L2
open PySem PySem.Spec PyProof.Rows
def bT.there {P:Jc} {w:World} {H:Hp} {h:Heap} {a:Addr} {o:HO} (x:bT P w H h a o):∃ ob,h.get? a=some ob:=by
 cases o with
 | lst xs=>obtain ⟨_,_,_,_,e⟩:=x;exact ⟨_,e⟩
 | tup xs=>obtain ⟨_,_,_,ob,e,_⟩:=x;exact ⟨_,e⟩
 | dK kvs=>obtain ⟨_,_,_,_,o,_,_,e,_⟩:=x;exact ⟨_,e⟩
 | dT kvs=>obtain ⟨_,_,_,_,o,_,_,e,_⟩:=x;exact ⟨_,e⟩
 | set S n=>obtain ⟨o,_,_,_,e,_⟩:=x;exact ⟨_,e⟩
 | ins C dx fs=>obtain ⟨_,_,_,e,_⟩:=x;exact ⟨_,e⟩
 | own y=>exact x
 | xd fs=>obtain ⟨_,⟨_,_,_,e,_⟩,_⟩:=x;exact ⟨_,e⟩
 | rng lo hi=>obtain ⟨_,_,_,e⟩:=x;exact ⟨_,e⟩
 | frz ob u=>obtain ⟨e,_⟩:=x;exact ⟨_,e⟩
 | tbl ps=>exact ⟨_,(show h.get? a=some _ from x)⟩
 | met f y=>exact ⟨_,(show h.get? a=some _ from x)⟩
 | ext φ=>obtain ⟨_,e,_⟩:=x;exact e
def Io (h:Heap) (x T C:Addr) (d:Option Addr) (fl:Value):Prop:=∃ oe vs oT ts,h.get? x=some oe/\oe.cls=.ref C/\oe.dict=d/\oe.data=.fields vs/\vs[1]?=some (.ref T)/\T≠x/\h.get? T=some oT/\oT.data=.fields ts/\ts[3]?=some fl
structure ET (l:List Env) (x:Addr) (ts:List Addr) (C:Addr) (d:Option Addr) (fl:Value) (T:Addr) (h h':Heap):Prop where
 keep:∀ b o,b∉frs l->b≠x->b∉ts->h.get? b=some o->h'.get? b=some o
 slot:∀ b o,b∈frs l->h.get? b=some o->∃ sl,h'.get? b=some { o with slots:=sl }
 exc:Io h' x T C d fl
 new:T∈ts\/h.get? T=none
section
variable {M:Model} {A:JF} {E:Value->IL->Prop} {s:IL} {base:Heap} {env:Env} {outer:List Env} {L x T C:Addr} {d:Option Addr} {fl:Value} {Q:Unit->IL->Prop}
def ET.gQ {l:List Env} {ts:List Addr} {h h':Heap} (F:ET l x ts C d fl T h h') (hl:h.FunFrames base l):h'.FunFrames base l:=by
 have all:∀ m:List Env,(∀ b∈frs m,b∈frs l)->h.FunFrames base m->h'.FunFrames base m:=by
  intro m
  induction m with
  | nil=>intro _ _;trivial
  | cons e r ih =>
   intro hs ⟨hk,⟨L,o,hf,hn,ho,hd⟩,hr⟩;have e1:frs (e :: r)=L :: frs r:=by unfold frs;rw [Ly,hf]
   rw [e1] at hs;obtain ⟨sl,q⟩:=F.slot L o (hs L (.head _)) ho;exact ⟨hk,⟨L,_,hf,hn,q,hd⟩,ih (fun b hb=>hs b (.tail _ hb)) hr⟩
 exact all l (fun _ z=>z) hl
end
structure Up (X:Cx) (pins:List (Addr×Obj)) (σ:St) (H:Hp) (s:IL) (x:Addr) (ts:List Addr):Prop where
 inv:Inv X pins σ H s
 fx:H x=none
 fT:∀ b∈ts,H b=none
 nx:X.s₀.heap.get? x=none
 nT:∀ b∈ts,X.s₀.heap.get? b=none
 px:∀ p∈X.pn++pins,p.1≠x/\p.1∉ts
section
variable {X:Cx} {pins:List (Addr×Obj)} {σ:St} {H H':Hp} {s s':IL} {x T C:Addr} {d:Option Addr} {fl:Value} {ts:List Addr} {h':Heap} {E:XK} {e:Value}
end
section
variable {P:Jc} {w:World} {K:IC} {mg:Str->Option Value} {base:Heap} {N:List Str} {qual:Str} {scope:Scope} {f:Addr} {cd:Value} {A:JF} {outer:List Env} {s:IL} {H:Hp} {E:XK}
end
abbrev bmV:List Value:=[.type "ValueError",.type "Exception",.type "BaseException",.type "object"]
abbrev Iy:String:="ValueError.__new__"
section
variable {X:Cx} {E:XK} {C:Addr} {x:Str} {np cpos pos:Pos} {e:Expr} {es:List Expr} {ta:TA}
end
section
variable {X:Cx} {pos:Pos}
end
section
variable {X:Cx} {pins:List (Addr×Obj)} {σ:St} {H:Hp} {s:IL} {x T C:Addr} {ts:List Addr}
end
section
variable {X:Cx} {pins:List (Addr×Obj)} {σ:St} {H:Hp} {s:IL} {e:Value}
section
variable {x T C B:Addr} {d:Option Addr} {cn:Str} {np:Pos} {b:Bool}
end
end
section
variable {X:Cx} {x:Str} {st:Stmt} {ps:List Str} {k:Nat} {sp:Sp} {p pos:Pos} {e:Expr} {es:List Expr} {t:TA} {E:XK}
end
section
variable {K:IC} {B C:Addr} {i:Nat} {tb t u:TXs} {ts:TS} {D:Ends} {σ:St} {H:Hp} {c:TT} {te:TXe} {sp:Sp} {ta:TA} {Q:VK} {Ex:St->Hp->Addr->Option Addr->Prop} {Eh:Hp->Addr->Option Addr->Prop} {E:XK} {th:TH}
end
section
open PySem.Calls PySem.Builtin PySem.Builtin.ObjectAttr PySem.Builtin.Getset_descriptor
variable {prog:Jc} {w:World} {A:JF} {E:Value->IL->Prop} {K:IC} {x C:Addr} {di:Option Addr} {h:Heap} {g:Array Mh} {d:Drawn} {t:Nat} {os:OsState}
end
section
variable {K:IC} {H:Hp} {Q:VK} {x C D:Addr} {d:Option Addr} {b:Bool}
end
section
variable {M:Model} {A:JF} {E:Value->IL->Prop} {s:IL} {base:Heap} {env:Env} {l:List Env} {L x T C:Addr} {d:Option Addr}
end
section
variable {X:Cx} {pins:List (Addr×Obj)} {σ:St} {H:Hp} {s s':IL} {x T C:Addr} {d:Option Addr} {ts:List Addr} {h':Heap} {E:XK} {e:Value} {fl:Value}
def Up.bare (U:Up X pins σ H s x ts):Up X [] σ H s x ts:=by
 have I:=U.inv;exact ⟨⟨I.ok,I.os,I.bare,I.base,I.loc,I.cell,I.free,I.gh,fun p hp=>I.pin p (by rw [LD] at hp;exact J2 _ hp),I.hok,I.len⟩,U.fx,U.fT,U.nx,U.nT,fun p hp=>U.px p (by rw [LD] at hp;exact J2 _ hp)⟩
end
section
variable {P:Jc} {w:World} {K:IC} {mg:Str->Option Value} {base:Heap} {N:List Str} {qual:Str} {scope:Scope} {f:Addr} {cd:Value} {A:JF} {outer:List Env} {s:IL} {H:Hp} {E:XK}
end
section
variable {X:Cx} {pos:Pos}
end
section
variable {σ:St} {H:Hp} {Q:VK} {D:Ends} {Ex:St->Hp->Addr->Option Addr->Prop} {Eh:Hp->Addr->Option Addr->Prop}
end
end L2
namespace L2
def Back (U N:St->Hp->Prop):Prop:=∀ σ' H',U σ' H'->N σ' H'
def su {t u:TS} {D:Ends} {σ:St} {H:Hp} (h:∀ N:St->Hp->Prop,Back (u D) N->t { D with nx:=N } σ H):GI t u D σ H:=h _ fun _ _ z=>z
def sX {U N:St->Hp->Prop} {σ:St} {H:Hp} (h:Back U N) (q:U σ H):N σ H:=h σ H q
end L2
namespace L2
open PySem PySem.Spec PyProof.Rows
structure Af (K:IC) (C:Addr) (m:Str) (f:Addr):Prop where
 ga:Mz K (.ref C) "__getattribute__" = some (some (.builtin "type.__getattribute__"))
 rd:PySem.W.readsIn K C (.type "type")=true
 fc:PySem.W.findCls K (.ref C) (.type "type") m=some (.val (.ref f))
 kp:JM K (.ref f)=true
section
variable {X:Cx} {k:Nat} {f C:Addr} {fd:JR} {ps:List Str} {sp:Sp} {x m:Str} {p pos apos:Pos} {e:Expr} {es:List Expr} {t:TA}
def kN {pl:Sem Bool} (hg:Gl X x) (hm:X.mg x=some (.ref C)) (hc:Af X.K C m f) (F:aN X.prog X.w X.K X.mg X.base CX0 k f fd ps sp) (hr:bY k X.A) (hb:Binds X.K fd ps []) (ha:PA X (e :: es) t)
  (hn:isStar e=false:=by rfl) (hall:es.all (fun e=>!isStar e)=true:=by rfl) (hdb:(x == ("__debug__" : Str))=false:=by decide)
  (ht:eval (.Call (.Attribute (.Name x p) m apos) (e :: es) [] pos) X.env=(do
   let ov <- eval (.Name x p) X.env
   standAt apos.atName
   let (f,first) <- holding [ov] (getMethod ov m pl)
   callWith pos f first (backTo pos (JP (e :: es) X.env)) (backToKw pos (keywordEach [] X.env))):=by rfl) :
  PE X (.Call (.Attribute (.Name x p) m apos) (e :: es) [] pos) (oS sp [] E0 t):=by
 intro pins s σ H Q I h;refine Nv (pl:=pl) (o6 I hg hm ?_ hdb) ht;refine PySem.W.method_cls I.kIn hc.ga (PySem.W.cls_value I.kIn hc.rd hc.fc rfl ?_);refine LG (first:=[]) (h₀:=X.base) I.ok.mod.kin hc.kp (thn (ha pos pins _ σ H _ (I.tok (s.toks+1)) h) fun us s2 ⟨vs,H2,I2,r,q2⟩=>⟨I2.kIn,?_⟩) (bM hn) (cQ hall);exact xO F hr hb .nil dX I2 r q2
end
section
variable {X:Cx} {k:Nat} {f C:Addr} {fd:JR} {ps ks:List Str} {sp:Sp} {x:Str} {p pos kpos:Pos} {e a:Expr} {es:List Expr} {kws:List Nk} {t tk:TA} {te:TE} {g:List Value->List Value->List Value} {gV:List V->List V->List V}
end
section
variable {X:Cx} {pins:List (Addr×Obj)} {σ:St} {H:Hp} {s:IL} {A:JF} {α β:Type} [Rep α] [DecidableEq α] [bV α] [Rep β] [DecidableEq β] [bV β]
end
end L2
namespace PySem
open Sem (wp)
def Fv:typeLookup (.type "zip") "__getattr__" = pure none:=am_miss_of_fast (by kernel_rfl)
def FR:typeLookup (.type "zip") "keys" = pure none:=am_miss_of_fast (by kernel_rfl)
def Dg:entryFor table "zip.__getattribute__" = some N5.«object.__getattribute__» :=
 entryFor_alias (id':="object.__getattribute__") (by kernel_rfl) (by trivial) (by trivial) (by kernel_rfl)
def DN (z:Addr) (fs:Array Value) (u:Tok) :
  Meets (N5.«object.__getattribute__» ⟨[.ref z,.str "keys" u],[]⟩) (fun A R s=>s.heap.get? z=some { cls:=.type "zip",dict:=none,data:=.fields fs,slots:=#[] }/\raisesAttr (.ref z) "keys" A R s) :=
 Meets.of_wp fun prog w A R s hs=>by
  obtain ⟨hp,g,d,tk,os⟩:=s;obtain ⟨hx,hA,hs⟩:=hs;have hT:(⟨hp,g,d,tk,os⟩:IL).TypeIs (.ref z) "zip":=⟨_,hx,rfl⟩;have hk:=FR;unfold N5.«object.__getattribute__»
  repeat (any_goals (first|assumption|wp_step))
  exact wpAny_raiseAttrError hA hs (attrMsg_fits (by trivial) (by trivial))
section
variable {prog:Jc} {w:World} {A:JF} {E:Value->IL->Prop} {s:IL}
def yW {z:Addr} {fs:Array Value} {Q:Option Value->IL->Prop} (hx:s.heap.get? z=some { cls:=.type "zip",dict:=none,data:=.fields fs,slots:=#[] }) (hA:A.handled=none)
  (h:∀ h' tk,(∀ b o,s.heap.get? b=some o->h'.get? b=some o)->Q none { s with heap:=h',toks:=tk }):wpAny (model prog w) A (getAttr? (.ref z) "keys") Q E s:=by
 obtain ⟨hp,g,d,tk,os⟩:=s;have hT:∀ tk',(⟨hp,g,d,tk',os⟩:IL).TypeIs (.ref z) "zip":=fun _=>⟨_,hx,rfl⟩;have f1:=sub_AttributeError;have f3:=LL.lookup;have f4:=LL.bind (.ref z);have f5:=Fv;unfold getAttr? getAttrBy? getAttrBy
 repeat (any_goals (first|assumption|exact hT _|((with_reducible show wpAny _ _ (call (Value.builtin "zip.__getattribute__") _ _) _ _ _);refine L3 LL (hT _) Dg (F.args_zip_getattribute_2 _ _) (DN z fs _) ⟨hx,hA,fun h' tk' e hn=>?_⟩)|wp_step))
 obtain ⟨t',u',he⟩:=hn.there;show wpAny _ _ (getattributeRaised _ _ _ _ _ _ _) _ _ _;unfold getattributeRaised
 repeat (any_goals (first|assumption|wp_step))
 exact h _ _ hn.keeps
end
end PySem
namespace PySem
open Sem (wp)
section
variable {prog:Jc} {w:World} {A:JF} {E:Value->IL->Prop} {s:IL}
abbrev fJ (h:Heap) (z TI TO T:Addr) (b:Bool):Prop:=h.get? z=some { cls:=.type "zip",dict:=none,data:=.fields #[rawInt T,.bool b,.bool false,.ref TI,.ref TO],slots:=#[] }
def uM {z TI TO T:Addr} {b:Bool} {oT:Obj} {Q:Bool->IL->Prop} (gz:fJ s.heap z TI TO T b) (gT:s.heap.get? T=some oT)
  (h:∀ h',fJ h' z TI TO T true->Mi z s.heap h'->Q false { s with heap:=h' }):wpAny (model prog w) A (Kl (.ref z)) Q E s:=by
 unfold Kl;refine IS (Ma gz rfl (x:=rawInt T) rfl ?_);have al:∀ {R:Option Obj->IL->Prop},R (some oT) s->wpAny (model prog w) A (loadIfAlive ((T:Int).toNat)) R E s:=fun {R} r=>by
  intro Γ q hΓ;show R (s.heap.get? ((T:Int).toNat)) s;rw [show ((T:Int).toNat)=T from MB T,gT];exact r
 refine IS (al ?_);rw [if_neg (fun z=>nomatch z)];refine IS (Ma gz rfl (x:=.bool b) rfl ?_);cases b with
 | true =>
  rw [if_neg (by decide)]
  exact Ju (h _ gz ⟨rfl,fun _ _=>rfl⟩)
 | false =>
  rw [if_pos (by decide)]
  exact IS (wpAny_setField_rec gz (by simp) fun h1 gz1 hs1=>Ju (h h1 gz1 hs1))
def vz {z TI TO T i1 i2 l1 l2:Addr} {k1 k2:Nat} {xs ys:Array Value} {x y:Value} {b:Bool} {oT:Obj} {Q:Value->IL->Prop} (D:LU z TI TO i1 i2 l1 l2)
  (gz:fJ s.heap z TI TO T b) (gT:s.heap.get? T=some oT) (gI:NL s.heap TI (.ref i1) (.ref i2))
  (g1:s.heap.IsListIter i1 l1 k1) (g2:s.heap.IsListIter i2 l2 k2) (gl1:s.heap.IsList l1 xs) (gl2:s.heap.IsList l2 ys) (gx:xs[k1]?=some x) (gy:ys[k2]?=some y)
  (hQ:∀ h',fJ h' z TI TO T true->h'.IsListIter i1 l1 (k1+1)->h'.IsListIter i2 l2 (k2+1)->NL h' s.heap.objs.size x y ->
   (∀ c o,c≠z->c≠i1->c≠i2->s.heap.get? c=some o->h'.get? c=some o)->Q (.ref s.heap.objs.size) { s with heap:=h' }) :
  wpAny (model prog w) A (N5.«zip.__next__» ⟨[.ref z],[]⟩) (fun fin s'=>∃ v,fin=.done (.ret v)/\Q v s') E s:=by
 show wpAny _ _ (field (.ref z) 2 >>= _) _ _ _;refine IS (Ma gz rfl (x:=.bool false) rfl ?_);show wpAny _ _ (field (.ref z) 3 >>= _) _ _ _;refine IS (Ma gz rfl (x:=.ref TI) rfl ?_);refine IS (NM gI rfl ?_);show wpAny _ _ (Kl (.ref z) >>= _) _ _ _;refine IS (uM gz gT fun h1 gz1 hs1=>?_);simp only [Bool.false_eq_true,if_false,List.forIn_toArray,Np,List.forIn_nil];refine IS (IS (IS (K8 ?_)));show wpAny _ _ (Ls (.ref i1) >>= _) _ _ _;refine IS (Na (g1.extBut hs1.extBut D.i1z) (gl1.extBut hs1.extBut D.l1z) gx fun h2 g12 hs2=>Ju (Ju ?_));refine IS (IS (K8 ?_));show wpAny _ _ (Ls (.ref i2) >>= _) _ _ _;refine IS (Na ((g2.extBut hs1.extBut D.i2z).extBut hs2.extBut D.i12.symm) ((gl2.extBut hs1.extBut D.l2z).extBut hs2.extBut D.l2i1) gy fun h3 g23 hs3=>Ju (Ju (Ju ?_)));refine IS (wpAny_newTuple (Ju ⟨_,rfl,?_⟩) (show 2<=Jr by decide))
 have e1:h1.objs.size=s.heap.objs.size:=hs1.1;have e2:h2.objs.size=h1.objs.size:=hs2.1;have e3:h3.objs.size=h2.objs.size:=hs3.1;have ez:h3.objs.size=s.heap.objs.size:=e3.trans (e2.trans e1);have up:∀ c o,c≠z->c≠i1->c≠i2->s.heap.get? c=some o->h3.get? c=some o:=fun c o n1 n2 n3 q=>hs3.extBut _ _ n3 (hs2.extBut _ _ n2 (hs1.extBut _ _ n1 q));have q:=hQ (h3.push { cls:=.type "tuple",data:=.seq #[x,y] }) (IU _ (hs3.extBut _ _ D.i2z.symm (hs2.extBut _ _ D.i1z.symm gz1))) ((g12.extBut hs3.extBut D.i12).at fun o e=>IU _ e) (g23.at fun o e=>IU _ e)
  (by rw [<- ez];exact JJ _ rfl) fun c o n1 n2 n3 q=>IU _ (up c o n1 n2 n3 q)
 rw [<- ez] at q;exact q
def Cn {z TI TO T i1 i2 l1 l2:Addr} {k1 k2:Nat} {xs ys:Array Value} {x y:Value} {b:Bool} {oT:Obj} {Q:Option Value->IL->Prop} (D:LU z TI TO i1 i2 l1 l2)
  (gz:fJ s.heap z TI TO T b) (gT:s.heap.get? T=some oT) (gI:NL s.heap TI (.ref i1) (.ref i2))
  (g1:s.heap.IsListIter i1 l1 k1) (g2:s.heap.IsListIter i2 l2 k2) (gl1:s.heap.IsList l1 xs) (gl2:s.heap.IsList l2 ys) (gx:xs[k1]?=some x) (gy:ys[k2]?=some y)
  (hQ:∀ h',fJ h' z TI TO T true->h'.IsListIter i1 l1 (k1+1)->h'.IsListIter i2 l2 (k2+1)->NL h' s.heap.objs.size x y ->
   (∀ c o,c≠z->c≠i1->c≠i2->s.heap.get? c=some o->h'.get? c=some o)->Q (some (.ref s.heap.objs.size)) { s with heap:=h' }) :
  wpAny (model prog w) A (pyNext (.ref z)) Q E s:=by
 have tz:s.TypeIs (.ref z) "zip":=⟨_,gz,rfl⟩;unfold pyNext;refine IS (wpAny_attempt (MU (name:=Str.ofString "__next__") tz Mb (wpAny_call_entry Mb tz F.entry_zip_next ?_ (F.args_zip_next_1 _))));exact vz D gz gT gI g1 g2 gl1 gl2 gx gy fun h' a1 a2 a3 a4 a5=>Ju (hQ h' a1 a2 a3 a4 a5)
def yg {z TI TO T i1 i2 l1 l2:Addr} {k1:Nat} {xs:Array Value} {b:Bool} {oT:Obj} {Q:Fin->IL->Prop} (hh:A.handled=none) (D:LU z TI TO i1 i2 l1 l2)
  (gz:fJ s.heap z TI TO T b) (gT:s.heap.get? T=some oT) (gI:NL s.heap TI (.ref i1) (.ref i2))
  (g1:s.heap.IsListIter i1 l1 k1) (gl1:s.heap.IsList l1 xs) (gx:xs[k1]?=none)
  (hE:∀ h' e,(∀ c o,c≠z->c≠i1->c≠i2->s.heap.get? c=some o->h'.get? c=some o)->(∃ o,h'.get? e=some o/\o.cls=.type "StopIteration")->E (.ref e) { s with heap:=h' }) :
  wpAny (model prog w) A (N5.«zip.__next__» ⟨[.ref z],[]⟩) Q E s:=by
 show wpAny _ _ (field (.ref z) 2 >>= _) _ _ _;refine IS (Ma gz rfl (x:=.bool false) rfl ?_);show wpAny _ _ (field (.ref z) 3 >>= _) _ _ _;refine IS (Ma gz rfl (x:=.ref TI) rfl ?_);refine IS (NM gI rfl ?_);show wpAny _ _ (Kl (.ref z) >>= _) _ _ _;refine IS (uM gz gT fun h1 gz1 hs1=>?_);simp only [Bool.false_eq_true,if_false,List.forIn_toArray,Np,List.forIn_nil];refine IS (IS (IS (K8 ?_)));show wpAny _ _ (Ls (.ref i1) >>= _) _ _ _;exact IS (wpAny_nextOf_list_end hh (g1.extBut hs1.extBut D.i1z) (gl1.extBut hs1.extBut D.l1z) gx fun h2 e hs2 he=>hE h2 e (fun c o n1 n2 n3 q=>hs2 _ _ n2 (hs1.extBut _ _ n1 q)) he)
def Ei {z TI TO T i1 i2 l1 l2:Addr} {k1:Nat} {xs:Array Value} {b:Bool} {oT:Obj} {Q:Option Value->IL->Prop} (hh:A.handled=none) (D:LU z TI TO i1 i2 l1 l2)
  (gz:fJ s.heap z TI TO T b) (gT:s.heap.get? T=some oT) (gI:NL s.heap TI (.ref i1) (.ref i2))
  (g1:s.heap.IsListIter i1 l1 k1) (gl1:s.heap.IsList l1 xs) (gx:xs[k1]?=none)
  (hQ:∀ h',(∀ c o,c≠z->c≠i1->c≠i2->s.heap.get? c=some o->h'.get? c=some o)->Q none { s with heap:=h' }):wpAny (model prog w) A (pyNext (.ref z)) Q E s:=by
 have tz:s.TypeIs (.ref z) "zip":=⟨_,gz,rfl⟩;unfold pyNext;refine IS (wpAny_attempt (MU (name:=Str.ofString "__next__") tz Mb (wpAny_call_entry Mb tz F.entry_zip_next (yg hh D gz gT gI g1 gl1 gx fun h' e hk he=>?_) (F.args_zip_next_1 _))));obtain ⟨o,ho,hc⟩:=he;exact IS (wpAny_isInstance (T:="StopIteration") (b:=true) ⟨o,ho,hc⟩ isSubtype_stop (Ju (hQ _ hk)))
end
end PySem
namespace PySem
open Sem (wp)
def w9:entryFor table "dict.update.loop" = some N5.«dict.update.loop»:=entryFor_of_tree (by kernel_rfl)
def mW:plainId "dict.update.loop" = true:=by trivial
structure jI (h:Heap) (z TI TO i1 i2 l1 l2:Addr) (i:Nat) (xs ys:Array Value):Prop where
 own:(IsZip h z TI TO .none/\∃ a b,NL h TO a b)\/∃ (T:Addr) (b:Bool) (oT:Obj),fJ h z TI TO T b/\h.get? T=some oT/\T≠z/\T≠i1/\T≠i2
 ins:NL h TI (.ref i1) (.ref i2)
 it1:h.IsListIter i1 l1 i
 it2:h.IsListIter i2 l2 i
 ls1:h.IsList l1 xs
 ls2:h.IsList l2 ys
def jI.keep {h h':Heap} {z TI TO i1 i2 l1 l2 d:Addr} {i:Nat} {xs ys:Array Value} (Z:jI h z TI TO i1 i2 l1 l2 i xs ys) (nz:z≠d) (nI:TI≠d) (nO:TO≠d) (n1:i1≠d) (n2:i2≠d) (n3:l1≠d) (n4:l2≠d)
  (k:∀ c o,c≠d->h.get? c=some o->h'.get? c=some o) (hd:∃ o,h'.get? d=some o):jI h' z TI TO i1 i2 l1 l2 i xs ys where
 own:=by
  rcases Z.own with ⟨gz,a,b,gO⟩|⟨T,b,oT,gz,gT,t1,t2,t3⟩
  ·exact .inl ⟨k _ _ nz gz,a,b,k _ _ nO gO⟩
  ·by_cases e:T=d
   ·obtain ⟨o,ho⟩:=hd;exact .inr ⟨T,b,o,k _ _ nz gz,by rw [e];exact ho,t1,t2,t3⟩
   ·exact .inr ⟨T,b,oT,k _ _ nz gz,k _ _ e gT,t1,t2,t3⟩
 ins:=k _ _ nI Z.ins
 it1:=Z.it1.at fun o q=>k _ o n1 q
 it2:=Z.it2.at fun o q=>k _ o n2 q
 ls1:=Z.ls1.at fun o q=>k _ o n3 q
 ls2:=Z.ls2.at fun o q=>k _ o n4 q
section
variable {prog:Jc} {w:World} {A:JF} {E:Value->IL->Prop} {s:IL} {z TI TO i1 i2 l1 l2:Addr} {xs ys:Array Value}
def Ai {i:Nat} {x y:Value} {Q:Option Value->IL->Prop} (D:LU z TI TO i1 i2 l1 l2) (Z:jI s.heap z TI TO i1 i2 l1 l2 i xs ys) (gx:xs[i]?=some x) (gy:ys[i]?=some y)
  (hQ:∀ h',jI h' z TI TO i1 i2 l1 l2 (i+1) xs ys->NL h' s.heap.objs.size x y->(∀ c o,c≠z->c≠TO->c≠i1->c≠i2->s.heap.get? c=some o->h'.get? c=some o)->Q (some (.ref s.heap.objs.size)) { s with heap:=h' }) :
  wpAny (model prog w) A (pyNext (.ref z)) Q E s:=by
 have lt:∀ {c:Addr} {o:Obj},s.heap.get? c=some o->s.heap.objs.size≠c:=fun e=>N7 (IY e);rcases Z.own with ⟨gz,a,b,gO⟩|⟨T,b,oT,gz,gT,t1,t2,t3⟩
 ·refine Nq D gz Z.ins gO Z.it1 Z.it2 Z.ls1 Z.ls2 gx gy fun h' a1 a2 a3 a4 a5 a6 hk=>hQ h' ⟨.inr ⟨s.heap.objs.size,false,_,a1,a5,lt gz,?_,?_⟩,hk _ _ D.TIz D.TITO D.TIi1 D.TIi2 Z.ins,a3,a4,Z.ls1.at fun o e=>hk _ o D.l1z D.l1TO D.l1i1 D.l1i2 e,Z.ls2.at fun o e=>hk _ o D.l2z D.l2TO D.l2i1 D.l2i2 e⟩ a5 hk
  ·obtain ⟨_,e,_⟩:=Z.it1;exact lt e
  ·obtain ⟨_,e,_⟩:=Z.it2;exact lt e
 ·exact Cn D gz gT Z.ins Z.it1 Z.it2 Z.ls1 Z.ls2 gx gy fun h' a1 a2 a3 a4 hk=>hQ h' ⟨.inr ⟨T,true,oT,a1,hk _ _ t1 t2 t3 gT,t1,t2,t3⟩,hk _ _ D.TIz D.TIi1 D.TIi2 Z.ins,a2,a3,Z.ls1.at fun o e=>hk _ o D.l1z D.l1i1 D.l1i2 e,Z.ls2.at fun o e=>hk _ o D.l2z D.l2i1 D.l2i2 e⟩ a4 fun c o c1 _ c3 c4 e=>hk c o c1 c3 c4 e
def CA {i:Nat} {Q:Option Value->IL->Prop} (hh:A.handled=none) (D:LU z TI TO i1 i2 l1 l2) (Z:jI s.heap z TI TO i1 i2 l1 l2 i xs ys) (gx:xs[i]?=none)
  (hQ:∀ h',(∀ c o,c≠z->c≠TO->c≠i1->c≠i2->s.heap.get? c=some o->h'.get? c=some o)->Q none { s with heap:=h' }):wpAny (model prog w) A (pyNext (.ref z)) Q E s:=by
 rcases Z.own with ⟨gz,a,b,gO⟩|⟨T,b,oT,gz,gT,t1,t2,t3⟩
 ·exact NF hh D gz Z.ins gO Z.it1 Z.it2 Z.ls1 Z.ls2 (.inl gx) fun h' hk=>hQ h' hk
 ·exact Ei hh D gz gT Z.ins Z.it1 Z.ls1 gx fun h' hk=>hQ h' fun c o c1 _ c3 c4 e=>hk c o c1 c3 c4 e
end
section
variable {prog:Jc} {w:World} {A:JF} {E:Value->IL->Prop} {Kk:Type} [DecidableEq Kk] {knd:KeyKind prog w Kk} {d z TI TO i1 i2 l1 l2:Addr} {xs ys:Array Value} {kvs:List (Kk×Value)}
def FN {R:NY->IL->Prop} (hh:A.handled=none) (D:LU z TI TO i1 i2 l1 l2) (nz:z≠d) (nI:TI≠d) (nO:TO≠d) (n1:i1≠d) (n2:i2≠d) (n3:l1≠d) (n4:l2≠d) (hl:kvs.length=xs.size) (hz:kvs.length<=Jr)
  (hkv:∀ (i:Nat) (k:Kk) (v:Value),kvs[i]?=some (k,v)->∃ x,xs[i]?=some x/\knd.is k x=true/\ys[i]?=some v) :
  ∀ (m i:Nat) (j:Int) (s:IL),kvs.length - i=m->i<=kvs.length->jI s.heap z TI TO i1 i2 l1 l2 i xs ys->s.heap.DictOf knd d (merged [] (kvs.take i)) ->
   (∀ h' t',h'.DictOf knd d (merged [] kvs)->(∀ c o,c≠d->c≠z->c≠TO->c≠i1->c≠i2->s.heap.get? c=some o->h'.get? c=some o)->R (.ok (.ret .none)) { s with heap:=h',toks:=t' }) ->
   codeAny (model prog w) A (.builtin "dict.update.loop" ⟨[.ref d,.ref z,rawInt j,.none],[]⟩) R s:=by
 intro m
 induction m with
 | zero =>
  intro i j s hm hi Z hd hR;have e:i=kvs.length:=by lia
  subst e;rw [Kj] at hd;refine codeAny_builtin w9 ?_;rw [NG mW _];show wpAny _ A.in1 (pyNext (.ref z) >>= _) _ _ s;refine IS (CA (by simpa using hh) D Z (Array.getElem?_eq_none (by lia)) fun h' hk=>?_)
  show wpAny _ A.in1 (Builtin.Dict.addKeywords d [] >>= _) _ _ _;refine IS (Ju (Ju (hR h' s.toks ?_ fun c o _ c1 c2 c3 c4 q=>hk c o c1 c2 c3 c4 q)));obtain ⟨o,es,ep,ho,rest⟩:=hd;exact ⟨o,es,ep,hk _ _ nz.symm nO.symm n1.symm n2.symm ho,rest⟩
 | succ m ih =>
  intro i j s hm hi Z hd hR;have hlt:i<kvs.length:=by lia
  obtain ⟨⟨k,v⟩,hg⟩:∃ p,kvs[i]?=some p:=⟨_,IG hlt⟩;obtain ⟨x,gx,kx,gy⟩:=hkv i k v hg;refine codeAny_builtin w9 ?_;rw [NG mW _];show wpAny _ A.in1 (pyNext (.ref z) >>= _) _ _ s;refine IS (Ai D Z gx gy fun h1 Z1 gp hk=>?_);show wpAny _ A.in1 (holding [JC s.heap.objs.size] _ >>= _) _ _ _;refine IS (K8 ?_);refine IS (wpAny_tryCatch ?_);unfold Builtin.Dict.pairItems;refine IS (wpAny_typeOf (T:="tuple") ⟨_,gp,rfl⟩ ?_);rw [if_pos (by decide)]
  refine IS (NM gp rfl (Ju ?_));show wpAny _ A.in1 (holding [x,v] (dictSet d x v)) _ _ _;refine K8 ?_;have hd1:h1.DictOf knd d (merged [] (kvs.take i)):=by
   obtain ⟨o,es,ep,ho,rest⟩:=hd;exact ⟨o,es,ep,hk _ _ nz.symm nO.symm n1.symm n2.symm ho,rest⟩
  have ml:=merged_length_le ([]:List (Kk×Value)) (kvs.take i);have tl:(kvs.take i).length<=i:=List.length_take_le ..;refine wpAny_dictSet_pairs (s:={ s with heap:=h1 }) (hsz:=by rw [L9,JU] at ml;lia) kx hd1 fun h2 hd2 hs2=>?_
  rw [<- merged_take_succ [] kvs i (k,v) hg] at hd2;have he:∃ o,h2.get? d=some o:=let ⟨o,_,_,ho,_⟩:=hd2;⟨o,ho⟩;refine Ju ⟨plainId_quiet mW _,ih (i+1) (j+1) _ (by lia) hlt (Z1.keep nz nI nO n1 n2 n3 n4 (fun c o c1 q=>(hs2.2 c c1).trans q) he) hd2 fun h3 t3 hd3 hk3=>?_⟩
  exact hR h3 t3 hd3 fun c o c0 c1 c2 c3 c4 q=>hk3 c o c0 c1 c2 c3 c4 ((hs2.2 c c0).trans (hk c o c1 c2 c3 c4 q))
def vM {s:IL} {Q:Value->IL->Prop} (hh:A.handled=none) (D:LU z TI TO i1 i2 l1 l2) (gz:IsZip s.heap z TI TO .none) (Z:jI s.heap z TI TO i1 i2 l1 l2 0 xs ys) (hl:kvs.length=xs.size) (hz:kvs.length<=Jr)
  (hkv:∀ (i:Nat) (k:Kk) (v:Value),kvs[i]?=some (k,v)->∃ x,xs[i]?=some x/\knd.is k x=true/\ys[i]?=some v) (nd:(kvs.map (·.1)).Nodup) (gO:∃ o,s.heap.get? TO=some o)
  (h:∀ h' t',h'.DictOf knd s.heap.objs.size kvs->(∀ c o,c≠z->c≠TO->c≠i1->c≠i2->s.heap.get? c=some o->h'.get? c=some o)->Q (.ref s.heap.objs.size) { s with heap:=h',toks:=t' }) :
  wpAny (model prog w) A (call (.type "dict") [.ref z]) Q E s:=by
 refine callType_codes (Q₁:=fun obj s₁=>obj=.ref s.heap.objs.size/\s₁={ s with heap:=s.heap.push { cls:=.type "dict",data:=.dict #[] } }) F.kt_called_dict (F.kt_typeCall_dict_1 _) F.entry_dict_init (kt_code_dict_new _ ⟨rfl,rfl⟩) ?_;rintro obj s₁ ⟨rfl,rfl⟩;have anew:(s.heap.push { cls:=.type "dict",data:=.dict #[] }).DictOf knd s.heap.objs.size []:=Heap.DictOf.new s.heap;have lt:∀ {c:Addr} {o:Obj},s.heap.get? c=some o->c≠s.heap.objs.size:=fun e=>Jm (IY e);have gz1:IsZip (s.heap.push { cls:=.type "dict",data:=.dict #[] }) z TI TO .none:=IU _ gz;have nz:=lt gz;have nI:=lt Z.ins;have nO:TO≠s.heap.objs.size:=let ⟨_,e⟩:=gO;lt e;have n1:i1≠s.heap.objs.size:=let ⟨_,e,_⟩:=Z.it1;lt e;have n2:i2≠s.heap.objs.size:=let ⟨_,e,_⟩:=Z.it2;lt e;have n3:l1≠s.heap.objs.size:=let ⟨_,e,_⟩:=Z.ls1;lt e;have n4:l2≠s.heap.objs.size:=let ⟨_,e,_⟩:=Z.ls2;lt e;refine ⟨anew.typeIs,F.args_dict_init_2 _ _,?_⟩;unfold N5.«dict.__init__»;refine IS ?_;unfold Builtin.Dict.selfAndRest;refine IS (wpAny_notOrdered_dict anew.typeIs ?_);show wpAny _ _ (pure (s.heap.objs.size,[JC z])) _ _ _;refine Ju ?_;show wpAny _ _ (MW "dict.__init__" s.heap.objs.size (.ref z) [] .none) _ _ _;unfold MW;refine IS (wpAny_typeOf (T:="zip") ⟨_,gz1,rfl⟩ ?_);rw [if_pos (by decide)]
 refine IS (yW gz1 (by simpa using hh) fun h1 t1 k1=>?_)
 rw [if_pos (show (none:Option Value).isNone=true from rfl)];refine IS (wpAny_rule ?_);refine IS (M1 (k1 _ _ gz1) ?_);have up:∀ c o,s.heap.get? c=some o->h1.get? c=some o:=fun c o e=>k1 c o (IU _ e);have anew1:h1.DictOf knd s.heap.objs.size []:=by
  obtain ⟨o,es,ep,ho,rest⟩:=anew;exact ⟨o,es,ep,k1 _ _ ho,rest⟩
 have Z1:jI h1 z TI TO i1 i2 l1 l2 0 xs ys:=Z.keep nz nI nO n1 n2 n3 n4 (fun c o _ e=>up c o e) (let ⟨o,_,_,ho,_⟩:=anew1;⟨o,ho⟩);refine Ju ⟨plainId_quiet mW _,FN (by simpa using hh) D nz nI nO n1 n2 n3 n4 hl hz hkv kvs.length 0 0 _ rfl (J6 _) Z1 anew1 fun h' t' hd' hk'=>?_⟩
 rw [merged_nil_of_nodup kvs nd] at hd';exact ⟨rfl,h h' t' hd' fun c o c1 c2 c3 c4 e=>hk' c o (lt e) c1 c2 c3 c4 (up c o e)⟩
end
end PySem
namespace L2
open PySem PySem.Spec PyProof.Rows
def BV:∀ {ks:List Key} {ys:List V} {us:List Value},Vals ys us->KV (ks.zip ys) (ks.zip us)
 | [],_,_,_=>by
  rw [List.zip_nil_left,List.zip_nil_left];exact Paired.nil
 | _ :: _,_,_,.nil=>Paired.nil
 | _ :: _,_,_,.cons r rr=>Paired.cons ⟨rfl,r⟩ (BV rr)
def wU (K:IC) (vs:List V) (H:Hp) (Q:VK):Prop:=∃ (a b:Addr) (ks:List Key) (ys:List V),vs=[.ref a,.ref b]/\SqL K H a (ks.map kV)/\SqL K H b ys/\ks.length=ys.length/\ks.Nodup/\∀ d,H d=none->Q (.ref d) (upd H d (.dK (ks.zip ys)))
def xT (K:IC) (ta:TA):TE:=fun σ H Q=>ta σ H fun vs H1=>wU K vs H1 Q
def CP {K:IC} {ta:TA} {σ:St} {H:Hp} {Q:VK} (h:ta σ H fun vs H1=>wU K vs H1 Q):xT K ta σ H Q:=h
def AN {X:Cx} (K:IC) (hK:X.K=K) (hc:X.calm=true) {a b:Expr} {ta:TA} {p p2 pos pos2:Pos} (hg1:Gl X "dict") (hm1:X.mg "dict" = none) (hg2:Gl X "zip") (hm2:X.mg "zip" = none) (ha:PA X [a,b] ta) (hn:isStar a=false:=by rfl) (hn2:isStar b=false:=by rfl) :
  PE X (.Call (.Name "dict" p) [.Call (.Name "zip" p2) [a,b] [] pos2] [] pos) (xT K ta):=by
 subst hK;intro pins s σ H Q I h;refine Call_ (ja I hg1 hm1 PyProof.Rows.boot_dict (J7 ?_ (bM rfl) (cQ rfl)));rw [bM rfl];show wpAny _ _ (spliced ((false,eval (.Call (.Name "zip" p2) [a,b] [] pos2) X.env) :: backTo pos (JP [] X.env))) _ _ s;refine Calls.spliced_cons ?_;refine Call_ (ja I hg2 hm2 boot_zip (J7 (thn (ha pos2 pins s σ H _ I h) fun us s1 ⟨vs,H1,I1,r1,q1⟩=>?_) (bM hn) (cQ (by simp [hn2]))))
 obtain ⟨l,l',ks,ys,e,hS,hS2,hlen,hnd,q⟩:=q1;subst e;cases r1 with
 | cons r rr =>
  cases rr with
  | cons r2 rr2 =>
   cases rr2;cases (show _=JC l from r);cases (show _=JC l' from r2);obtain ⟨its,rv,pl,hz1⟩:=I1.list hS;obtain ⟨its2,rv2,pl2,hz2⟩:=I1.list hS2;have e1:=rv.length;have e2:=rv2.length;rw [IE] at e1 hz1;have zl:(ks.zip its2).length=ks.length:=by rw [Nw];lia
   have zv:(ks.zip ys).length=ks.length:=by rw [Nw];lia
   have lt1:l<s1.heap.objs.size:=by obtain ⟨_,z,_⟩:=pl.isList;exact IY z
   have lt2:l' < s1.heap.objs.size:=by obtain ⟨_,z,_⟩:=pl2.isList;exact IY z
   refine call_zip_2 pl.isList pl2.isList fun h' gz gI gO g1 g2 gs hk=>?_;refine Calls.spliced_nil ?_;refine vM (knd:=cI X.prog X.w) (kvs:=ks.zip its2) (s:={ s1 with heap:=h' }) (I.ok.hd hc) (vv _ _ _ lt1 lt2) gz ⟨.inl ⟨gz,_,_,gO⟩,gI,g1,g2,pl.isList.at fun o e=>hk _ o e,pl2.isList.at fun o e=>hk _ o e⟩ (by rw [zl];simpa using e1) (by rw [zl];exact hz1) (fun i k v e=>?_) ?_ ⟨_,gO⟩ fun h2 t2 hd hk2=>?_
   ·obtain ⟨z1,z2⟩:=List.getElem?_zip_eq_some.mp e;obtain ⟨u,hu,ru⟩:=rv.get (show (ks.map kV)[i]?=some (kV k) by rw [IJ,z1];rfl)
    exact ⟨u,by simpa using hu,oY ru,by simpa using z2⟩
   ·rw [List.map_fst_zip (by lia)]
    exact hnd
   ·have gs':h'.objs.size=s1.heap.objs.size+5:=gs;have hp:s1.heap.objs.size<=h'.objs.size:=by rw [gs'];exact LY _ _
    refine ⟨.ref h'.objs.size,upd H1 h'.objs.size (.dK (ks.zip ys)),I1.laid (a:=h'.objs.size) (o:=.dK (ks.zip ys)) (fun b o e=>?_) hp (xw (by rw [zv];exact hz1) (beq_eq_false_iff_ne.mpr (Lr (Jm (Ja I1.big hp)))) (BV rv2) hd),rfl,q _ (I1.hok.fresh hp)⟩
    have lb:=IY e;exact hk2 b o (Jm (Ja lb (LY _ _))) (Jm (Ja lb (LY _ _))) (Jm lb) (Jm (Ja lb (LY _ _))) (hk b o e)
def c5 (R M:List Nat):List (Key×V):=(R.map nk).zip (aH M)
def jZ:∀ {F M:List Nat} {j f c:Nat},F.Nodup->F[j]?=some f->M[j]?=some c->cy (c5 F M) (nk f)=some (.int (c:Int))
 | [],_,_,_,_,_,h,_=>by simp at h
 | _ :: _,[],_,_,_,_,_,h=>by simp at h
 | a :: F,q :: M,0,f,c,_,h1,h2=>by
  cases h1;cases h2;exact c6 rfl
 | a :: F,q :: M,j+1,f,c,nd,h1,h2=>by
  have h1':F[j]?=some f:=h1;have h2':M[j]?=some c:=h2;obtain ⟨n1,n2⟩:=JS.mp nd;have h3:¬ nk a=nk f:=fun z=>n1 (by rw [sY z];exact IH h1')
  show cy ((nk a,V.int (q:Int)) :: c5 F M) (nk f)=_;rw [cO h3];exact jZ n2 h1' h2'
def xV:∀ {R:List Nat},R.Nodup->(R.map nk).Nodup
 | [],_=>NK
 | a :: R,h=>by
  obtain ⟨h1,h2⟩:=JS.mp h;refine JS.mpr ⟨fun z=>?_,xV h2⟩;obtain ⟨b,hb,e⟩:=IP.mp z;exact h1 (by rw [<- sY e];exact hb)
def F9 (R:List Nat):(R.map nk).map kV=aH R:=by
 unfold aH;rw [J4];rfl
def Iw {K:IC} {H:Hp} {Q:VK} {x y:V} {R M:List Nat} (hR:At K H x R) (hM:At K H y M) (e:R.length=M.length) (nd:R.Nodup) (q:∀ d,H d=none->Q (.ref d) (upd H d (.dK (c5 R M)))):wU K [x,y] H Q:=by
 obtain ⟨p,rfl,h1⟩:=lY hR;obtain ⟨p2,rfl,h2⟩:=lY hM;exact ⟨p,p2,R.map nk,aH M,rfl,by rw [F9];exact h1,h2,by unfold aH;rw [IE,IE];exact e,xV nd,q⟩
def CW (Cs:Addr->Prop) (m:Str) (sp:Sp) (ta:TE) (t:TA):TE:=fun σ H Q=>ta σ H fun x H1=>∃ C a dx fs,Cs C/\x=.ref a/\H1 a=some (.ins C dx fs)/\fs.lookup m=none/\t σ H1 fun vs H2=>sp (x :: (vs++[])) H2 Q E0
section
variable {X:Cx} {k:Nat} {f:Addr} {Cs:Addr->Prop} {fd:JR} {ps:List Str} {sp:Sp} {m:Str} {pos apos:Pos} {e o:Expr} {es:List Expr} {ta:TE} {t:TA}
def eD {pl:Sem Bool} (he:PE X o ta) (c:∀ C,Cs C->Cls X.K C/\Meth X.K C m f) (F:aN X.prog X.w X.K X.mg X.base CX0 k f fd ps sp) (hr:bY k X.A) (hb:Binds X.K fd ps []) (ha:PA X (e :: es) t)
  (hn:isStar e=false:=by rfl) (hall:es.all (fun e=>!isStar e)=true:=by rfl)
  (ht:eval (.Call (.Attribute o m apos) (e :: es) [] pos) X.env=(do
   let ov <- eval o X.env
   standAt apos.atName
   let (f,first) <- holding [ov] (getMethod ov m pl)
   callWith pos f first (backTo pos (JP (e :: es) X.env)) (backToKw pos (keywordEach [] X.env))):=by rfl) :
  PE X (.Call (.Attribute o m apos) (e :: es) [] pos) (CW Cs m sp ta t):=by
 intro pins s σ H Q I h;refine Nv (pl:=pl) (thn (he pins s σ H _ I h) fun u s1 ⟨x,H1,I1,rx,C,a,dx,fs,hC,ex,ea,l,q⟩=>?_) ht;subst ex;obtain rfl:u=JC a:=rx;refine Ak I1 ea (c C hC).1 (c C hC).2 l ?_;refine LG (first:=[.ref a]) (h₀:=X.base) I.ok.mod.kin (c C hC).2.kp (thn (ha pos pins s1 σ H1 _ I1 q) fun us s2 ⟨vs,H2,I2,r,q2⟩=>⟨I2.kIn,?_⟩) (bM hn) (cQ hall);exact xO (us:=.ref a :: us) (vs:=.ref a :: vs) F hr hb .nil dX I2 (.cons rfl r) q2
end
def fI {σ:St} {H:Hp} {Q:VK} {Cs:Addr->Prop} {m:Str} {sp:Sp} {ta:TE} {t:TA} (h:ta σ H fun x H1=>∃ C a dx fs,Cs C/\x=.ref a/\H1 a=some (.ins C dx fs)/\fs.lookup m=none/\t σ H1 fun vs H2=>sp (x :: (vs++[])) H2 Q E0):CW Cs m sp ta t σ H Q:=h
section
variable {X:Cx}
end
end L2
namespace L2
open PySem
structure Good (led:Bool) (es:Array (Int×Value)) (t:ND) (ks:List Nat):Prop where
 plain:t.plain=true
 led:t.led=led
 dum:t.dummies=#[]
 size:t.place.size=es.size
 rise:t.place.toList.Pairwise (· < ·)
 keys:es.toList.map (·.1)=ks.map fun (k:Nat)=>(k:Int)
 nd:ks.Nodup
 lt:∀ k∈ks,k<23
 st:(t.mask=7/\es.size<=4/\∀ j∈t.place.toList,j<8)\/((t.mask=31/\es.size<=18\/t.mask=127)/\t.place.toList=ks)
def Good.len {led:Bool} {es:Array (Int×Value)} {t:ND} {ks:List Nat} (g:Good led es t ks):es.size=ks.length:=by
 have:=congrArg Oh g.keys;rw [IE,IE,L4] at this;exact this
end L2
namespace L2
open PySem PySem.Spec PyProof.Rows
def DS (w:World):Bool:=w.params.followText "set-order"
def Nums (es:Array (Int×Value)):Prop:=∀ e∈es.toList,∃ (k:Nat) (tk:Tok),k<23/\e=((k:Int),LB (k:Int) tk)
def qa (h:Heap) (a:Addr) (led:Bool) (ks:List Nat):Prop:=∃ o es ep t,h.get? a=some o/\o.ExactSet/\o.data=.set es ep t/\Nums es/\Good led es t ks
section
variable {prog:Jc} {w:World} {A:JF} {E:Value->IL->Prop} {s:IL}
end
def vh (h:Heap) (it a:Addr) (slot i n ep:Nat):Prop:=h.get? it=some { cls:=.type "set_iterator",dict:=none,data:=.fields #[.int slot 0,.int i 0,.ref a,.int n 0,.int ep 0],slots:=#[] }
def A9 (h:Heap) (a:Addr) (es:Array (Int×Value)) (ep:Nat) (t:ND):Prop:=∃ o,h.get? a=some o/\o.ExactSet/\o.data=.set es ep t
def slotAt (t:ND) (i:Nat):Nat:=if i=0 then 0 else t.place.getD (i - 1) 0+1
section
variable {prog:Jc} {w:World} {A:JF} {E:Value->IL->Prop} {s:IL}
end
def AL (w:World) (h:Heap) (it a:Addr) (t:ND) (i n ep:Nat):Prop:=vh h it a (slotAt t i) i n ep\/(DS w=true/\∃ sl,vh h it a sl i n ep)
section
variable {prog:Jc} {w:World} {A:JF} {E:Value->IL->Prop} {s:IL}
def AL.keep {h h':Heap} {it a:Addr} {t:ND} {i n ep:Nat} (x:AL w h it a t i n ep) (k:∀ o,h.get? it=some o->h'.get? it=some o):AL w h' it a t i n ep:=by
 rcases x with z|⟨c,sl,z⟩
 ·exact .inl (k _ z)
 ·exact .inr ⟨c,sl,k _ z⟩
def A9.keep {h h':Heap} {a:Addr} {es:Array (Int×Value)} {ep:Nat} {t:ND} (x:A9 h a es ep t) (k:∀ o,h.get? a=some o->h'.get? a=some o):A9 h' a es ep t:=let ⟨o,ho,r⟩:=x;⟨o,k _ ho,r⟩
end
def qa.there {h:Heap} {a:Addr} {led:Bool} {ks:List Nat} (x:qa h a led ks):∃ o,h.get? a=some o:=let ⟨o,_,_,_,ho,_⟩:=x;⟨o,ho⟩
def qa.nd {h:Heap} {a:Addr} {led:Bool} {ks:List Nat} (x:qa h a led ks):ks.Nodup/\∀ k∈ks,k<23:=let ⟨_,_,_,_,_,_,_,_,g⟩:=x;⟨g.nd,g.lt⟩
def qa.keep {h h':Heap} {a:Addr} {led:Bool} {ks:List Nat} (x:qa h a led ks) (k:∀ o,h.get? a=some o->h'.get? a=some o):qa h' a led ks:=let ⟨o,es,ep,t,ho,r⟩:=x;⟨o,es,ep,t,k _ ho,r⟩
section
variable {H:Hp} {Q:VK} {K:IC} {v:V} {w:World}
end
section
variable {X:Cx} {elt tg iter:Expr} {ifs:List Expr} {scope:Scope} {pos:Pos} {own:List Str} {fr:List Nat} {wi:TI} {g:TG} {tt:TT} {te:TE}
end
section
variable {prog:Jc} {w:World} {A:JF} {K:IC} {C f:Addr} {R:NY->IL->Prop} {h:Heap} {g:Array Mh} {d:Drawn} {t:Nat} {os:OsState}
end
section
variable {prog:Jc} {w:World} {A:JF} {E:Value->IL->Prop} {s:IL} {K:IC} {C x f:Addr} {name:Str} {v:Value}
end
def Ip (dx:Addr) (fs:List (Str×V)) (h:Heap):Prop:=∃ mA,h.Ns1 dx mA/\∀ f,eE (fs.lookup f) (mA f)
abbrev xdO (dx:Addr) (fs:List (Str×V)):HO:=.ext (Ip dx fs)
section
variable {X:Cx} {pins:List (Addr×Obj)} {σ:St} {H:Hp} {s:IL} {a C i dx:Addr} {fs:List (Str×V)} {f:Str} {y:V} {u:Value} {A:JF} {E:Value->IL->Prop}
end
section
variable {prog:Jc} {w:World} {A:JF} {E:Value->IL->Prop} {s:IL} {env:Env} {C:Addr} {Q:Flow->IL->Prop}
end
section
variable {X:Cx} {pins:List (Addr×Obj)} {σ:St} {H:Hp} {s:IL} {E:XK} {C:Addr}
end
section
open PySem.Calls PySem.Builtin PySem.Builtin.ObjectAttr
variable {prog:Jc} {w:World} {A:JF} {E:Value->IL->Prop} {K:IC} {x C dx:Addr} {di:Option Addr} {h:Heap} {g:Array Mh} {d:Drawn} {t:Nat} {os:OsState} {name:Str} {v:Value} {mA:Str->Option Value}
end
section
variable {K:IC} {σ:St} {H:Hp} {Q:VK} {D:Ends} {ta tv:TE} {tA:TA} {f:Str} {E:XK} {C:Addr} {sp:Sp}
end
def Fld (H:Hp) (d:Option Addr) (l:List (Str×V)):Prop:=∃ dx fs,d=some dx/\H dx=some (xdO dx fs)/\∀ p∈l,fs.lookup p.1=some p.2
def Fld.mono {H H':Hp} {d:Option Addr} {l:List (Str×V)} (s:aj H H'):Fld H d l->Fld H' d l
 | ⟨dx,fs,e,h,k⟩=>⟨dx,fs,e,s _ _ h,k⟩
section
variable {P:Jc} {w:World} {K:IC} {mg:Str->Option Value} {base:Heap} {x qual:Str} {st:Stmt} {f:Addr} {fd:JR} {N ps:List Str} {k:Nat} {sp:Sp}
end
section
variable {X:Cx} {x y:Str} {st:Stmt} {ps:List Str} {k j:Nat} {sp:Sp} {p pos:Pos} {e:Expr} {es:List Expr} {t:TA} {E:XK}
end
section
variable {prog:Jc} {w:World} {A:JF} {R:NY->IL->Prop} {s:IL}
end
section
variable {X:Cx} {scope:Scope} {own:List Str} {fr fp:List Addr} {C:Addr} {s₂:IL} {H₂:Hp} {E:XK} {pins:List (Addr×Obj)} {σ:St}
end
section
variable {X:Cx} {elt tg iter:Expr} {ifs:List Expr} {scope:Scope} {pos:Pos} {own:List Str} {fr:List Nat} {wi:TI} {g:TG} {tt:TT} {te:TE}
end
end L2
namespace L2
open PySem PySem.W PyProof.Rows
section
variable {lt:Nat->Nat->Bool}
def yq (lt:Nat->Nat->Bool) (p:Array Nat) (n q:Nat):Prop:=q<n/\∀ i j,n - (q+1)<=i->i<n->n - (q+1)<=j->j<n->lt (p.getD i 0) (p.getD j 0)=false
end
end L2
namespace L2
open PySem PySem.W PyProof.Rows PySem.SeqAt
open AutoSeq1 (wpAny_loadPart')
open MeetsSeq MeetsSeq2 MeetsSeq3
section
variable {prog:Jc} {w:World} {A:JF} {E:Value->IL->Prop} {s:IL}
end
end L2
namespace L2
open PySem PySem.W PySem.Spec PyProof.Rows
section
variable {n:Nat}
end
section
variable {prog:Jc} {w:World} {A:JF} {E:Value->IL->Prop} {s:IL}
end
end L2
namespace L2
open PySem PySem.W PySem.Spec PyProof.Rows
def Rows (H H':Hp) (d:Addr) (L:List (List Nat)):Prop:=H d=none/\∃ ps:List Addr,H' d=some (.lst (ps.map V.ref))/\Kr (fun p r=>H p=none/\p≠d/\H' p=some (.lst (aH r))) ps L
def Rows.since {H0 H H':Hp} {d:Addr} {L:List (List Nat)} (s:aj H0 H) (h:Rows H H' d L):Rows H0 H' d L:=by
 obtain ⟨h1,ps,h2,h3⟩:=h;exact ⟨s.free h1,ps,h2,Paired.cY h3 fun _ _ z=>⟨s.free z.1,z.2⟩⟩
def Rows.mono {H H' H'':Hp} {d:Addr} {L:List (List Nat)} (s:aj H' H'') (h:Rows H H' d L):Rows H H'' d L:=by
 obtain ⟨h1,ps,h2,h3⟩:=h;exact ⟨h1,ps,s _ _ h2,Paired.cY h3 fun _ _ z=>⟨z.1,z.2.1,s _ _ z.2.2⟩⟩
def pI {α β γ:Type} {F:α->γ->Prop} {G:β->γ->Prop} {f:β->α} (h:∀ b c,G b c->F (f b) c):∀ {l:List β} {m:List γ},Kr G l m->Kr F (l.map f) m
 | _,_,.nil=>.nil
 | _,_,.cons r t=>.cons (h _ _ r) (pI h t)
def Rows.at {K:IC} {H H':Hp} {d:Addr} {L:List (List Nat)} (h:Rows H H' d L):At K H' (.ref d) L:=by
 obtain ⟨h1,ps,h2,h3⟩:=h;exact ⟨d,_,rfl,SqL.of h2,pI (fun p r z=>⟨p,_,rfl,SqL.of z.2.2,jR⟩) h3⟩
def Rows.nil {H H':Hp} {d:Addr} (hd:H d=none) (h:H' d=some (.lst [])):Rows H H' d []:=⟨hd,[],h,.nil⟩
end L2
namespace L2
open PySem PySem.W PySem.Spec PyProof.Rows
section
variable {prog:Jc} {w:World} {A:JF} {E:Value->IL->Prop} {s:IL}
end
end L2
namespace L2
open PySem PySem.Spec PyProof.Rows
section
variable {K:IC} {h:Heap} {mg:Str->Option Value} {f:Addr} {od an:Option Addr} {sl:Array (Option Value)} {oc kV dc pm cd ct:Value} {x:Str} {st:Stmt} {fd:JR}
def bd1 {p1:Str} (hb:∀ u1:Value,bindArgs fd ⟨[u1],[]⟩=pure [(p1,u1)]:=by intros;rfl):Binds K fd [p1] []:=.all fun us hl=>by obtain ⟨u1,rfl⟩:=G7 hl;exact hb _
def df1 {p1:Str} (X:K.In h) (G:h.Ns JN mg) (a:Li K JN x=some (some (.ref f)):=by k_is) (l:K.lookup f=some ⟨oc,od,.func (JD x x (bI st) (bw st) (ag st) .none kV dc pm an cd ct),sl⟩:=by k_is) (c:J9 K cd x=true:=by k_is) (k:JM K (.ref f)=true:=by k_is)
  (hb:∀ u1:Value,bindArgs (JD x x (bI st) (bw st) (ag st) .none kV dc pm an cd ct) ⟨[u1],[]⟩=pure [(p1,u1)]:=by intros;rfl):Df K mg x st [p1]:=⟨f,_,lN l c k,bd1 hb,Lp X G a⟩
def bd2 {p1 p2:Str} (hb:∀ u1 u2:Value,bindArgs fd ⟨[u1,u2],[]⟩=pure [(p1,u1),(p2,u2)]:=by intros;rfl):Binds K fd [p1,p2] []:=.all fun us hl=>by obtain ⟨u1,u2,rfl⟩:=GS hl;exact hb _ _
def df2 {p1 p2:Str} (X:K.In h) (G:h.Ns JN mg) (a:Li K JN x=some (some (.ref f)):=by k_is) (l:K.lookup f=some ⟨oc,od,.func (JD x x (bI st) (bw st) (ag st) .none kV dc pm an cd ct),sl⟩:=by k_is) (c:J9 K cd x=true:=by k_is) (k:JM K (.ref f)=true:=by k_is)
  (hb:∀ u1 u2:Value,bindArgs (JD x x (bI st) (bw st) (ag st) .none kV dc pm an cd ct) ⟨[u1,u2],[]⟩=pure [(p1,u1),(p2,u2)]:=by intros;rfl):Df K mg x st [p1,p2]:=⟨f,_,lN l c k,bd2 hb,Lp X G a⟩
def bd3 {p1 p2 p3:Str} (hb:∀ u1 u2 u3:Value,bindArgs fd ⟨[u1,u2,u3],[]⟩=pure [(p1,u1),(p2,u2),(p3,u3)]:=by intros;rfl):Binds K fd [p1,p2,p3] []:=.all fun us hl=>by obtain ⟨u1,u2,u3,rfl⟩:=AZ hl;exact hb _ _ _
def df3 {p1 p2 p3:Str} (X:K.In h) (G:h.Ns JN mg) (a:Li K JN x=some (some (.ref f)):=by k_is) (l:K.lookup f=some ⟨oc,od,.func (JD x x (bI st) (bw st) (ag st) .none kV dc pm an cd ct),sl⟩:=by k_is) (c:J9 K cd x=true:=by k_is) (k:JM K (.ref f)=true:=by k_is)
  (hb:∀ u1 u2 u3:Value,bindArgs (JD x x (bI st) (bw st) (ag st) .none kV dc pm an cd ct) ⟨[u1,u2,u3],[]⟩=pure [(p1,u1),(p2,u2),(p3,u3)]:=by intros;rfl):Df K mg x st [p1,p2,p3]:=⟨f,_,lN l c k,bd3 hb,Lp X G a⟩
def bd4 {p1 p2 p3 p4:Str} (hb:∀ u1 u2 u3 u4:Value,bindArgs fd ⟨[u1,u2,u3,u4],[]⟩=pure [(p1,u1),(p2,u2),(p3,u3),(p4,u4)]:=by intros;rfl):Binds K fd [p1,p2,p3,p4] []:=.all fun us hl=>by obtain ⟨u1,u2,u3,u4,rfl⟩:=ka hl;exact hb _ _ _ _
def df4 {p1 p2 p3 p4:Str} (X:K.In h) (G:h.Ns JN mg) (a:Li K JN x=some (some (.ref f)):=by k_is) (l:K.lookup f=some ⟨oc,od,.func (JD x x (bI st) (bw st) (ag st) .none kV dc pm an cd ct),sl⟩:=by k_is) (c:J9 K cd x=true:=by k_is) (k:JM K (.ref f)=true:=by k_is)
  (hb:∀ u1 u2 u3 u4:Value,bindArgs (JD x x (bI st) (bw st) (ag st) .none kV dc pm an cd ct) ⟨[u1,u2,u3,u4],[]⟩=pure [(p1,u1),(p2,u2),(p3,u3),(p4,u4)]:=by intros;rfl):Df K mg x st [p1,p2,p3,p4]:=⟨f,_,lN l c k,bd4 hb,Lp X G a⟩
def bd5 {p1 p2 p3 p4 p5:Str} (hb:∀ u1 u2 u3 u4 u5:Value,bindArgs fd ⟨[u1,u2,u3,u4,u5],[]⟩=pure [(p1,u1),(p2,u2),(p3,u3),(p4,u4),(p5,u5)]:=by intros;rfl):Binds K fd [p1,p2,p3,p4,p5] []:=.all fun us hl=>by obtain ⟨u1,u2,u3,u4,u5,rfl⟩:=Hl hl;exact hb _ _ _ _ _
def df5 {p1 p2 p3 p4 p5:Str} (X:K.In h) (G:h.Ns JN mg) (a:Li K JN x=some (some (.ref f)):=by k_is) (l:K.lookup f=some ⟨oc,od,.func (JD x x (bI st) (bw st) (ag st) .none kV dc pm an cd ct),sl⟩:=by k_is) (c:J9 K cd x=true:=by k_is) (k:JM K (.ref f)=true:=by k_is)
  (hb:∀ u1 u2 u3 u4 u5:Value,bindArgs (JD x x (bI st) (bw st) (ag st) .none kV dc pm an cd ct) ⟨[u1,u2,u3,u4,u5],[]⟩=pure [(p1,u1),(p2,u2),(p3,u3),(p4,u4),(p5,u5)]:=by intros;rfl):Df K mg x st [p1,p2,p3,p4,p5]:=⟨f,_,lN l c k,bd5 hb,Lp X G a⟩
end
section
variable {K:IC} {h:Heap} {mg:Str->Option Value} {f D:Addr} {od an dd:Option Addr} {sl dsl:Array (Option Value)} {oc kV dc pm cd ct dcl:Value} {x qual:Str} {st:Stmt} {fd:JR} {n:Nat}
def ToD (x qual:Str) (st:Stmt) (args:Args) (bs:List (Str×Value)):Prop:=∀ (D:Addr) (kV doc pm:Value) (an:Option Addr) (cdv ct:Value),∃ k:Option (Array Value)->Sem (List (Str×Value)),bindArgs (JD x qual (bI st) (bw st) (ag st) (.ref D) kV doc pm an cdv ct) args=seqItems? (.ref D) >>= k/\k (some #[.none])=pure bs
def bc4 {p1 p2 p3 p4:Str} (F:jy K x qual st f fd) (hb:∀ u1 u2 u3 u4:Value,ToD x qual st ⟨[u1,u2,u3,u4],[]⟩ [(p1,u1),(p2,u2),(p3,u3),(p4,u4)]:=by intros;intro _ _ _ _ _ _ _;exact ⟨_,rfl,rfl⟩):Binds K fd [p1,p2,p3,p4] []:=fun s us KI hl=>by rw [LD] at hl ⊢;obtain ⟨u1,u2,u3,u4,rfl⟩:=ka hl;exact F.to KI (hb _ _ _ _)
def bn4 {p1 p2 p3 p4:Str} (F:jy K x qual st f fd) (hb:∀ u1 u2 u3:Value,ToD x qual st ⟨[u1,u2,u3],[]⟩ [(p1,u1),(p2,u2),(p3,u3),(p4,.none)]:=by intros;intro _ _ _ _ _ _ _;exact ⟨_,rfl,rfl⟩):Binds K fd [p1,p2,p3,p4] [.none]:=Aj rfl fun s us KI hl=>by obtain ⟨u1,u2,u3,rfl⟩:=AZ hl;exact F.to KI (hb _ _ _)
def bk4 {p1 p2 p3 p4:Str} (F:jy K x qual st f fd) (hb:∀ u1 u2 u3 u4:Value,ToD x qual st ⟨[u1,u2,u3],[(p4,u4)]⟩ [(p1,u1),(p2,u2),(p3,u3),(p4,u4)]:=by intros;intro _ _ _ _ _ _ _;exact ⟨_,rfl,rfl⟩):yj K fd [p1,p2,p3,p4] [p4] (byName 3) (byName 3):=A5 rfl fun s us w KI hl=>by obtain ⟨u1,u2,u3,rfl⟩:=AZ hl;exact F.to KI (hb _ _ _ w)
def dd4 {p1 p2 p3 p4:Str} (X:K.In h) (G:h.Ns JN mg) (a:Li K JN x=some (some (.ref f)):=by k_is) (l:K.lookup f=some ⟨oc,od,.func (JD x x (bI st) (bw st) (ag st) (.ref D) kV dc pm an cd ct),sl⟩:=by k_is) (e:K.lookup D=some ⟨dcl,dd,.seq #[.none] n,dsl⟩:=by k_is) (c:J9 K cd x=true:=by k_is) (k:JM K (.ref f)=true:=by k_is)
  (ha:∀ u1 u2 u3 u4:Value,ToD x x st ⟨[u1,u2,u3,u4],[]⟩ [(p1,u1),(p2,u2),(p3,u3),(p4,u4)]:=by intros;intro _ _ _ _ _ _ _;exact ⟨_,rfl,rfl⟩) (hb:∀ u1 u2 u3:Value,ToD x x st ⟨[u1,u2,u3],[]⟩ [(p1,u1),(p2,u2),(p3,u3),(p4,.none)]:=by intros;intro _ _ _ _ _ _ _;exact ⟨_,rfl,rfl⟩) (hc:∀ u1 u2 u3 u4:Value,ToD x x st ⟨[u1,u2,u3],[(p4,u4)]⟩ [(p1,u1),(p2,u2),(p3,u3),(p4,u4)]:=by intros;intro _ _ _ _ _ _ _;exact ⟨_,rfl,rfl⟩):DfD K mg x st [p1,p2,p3,p4] p4 3:=⟨f,_,lP l e c k,bc4 (lP l e c k) ha,bn4 (lP l e c k) hb,bk4 (lP l e c k) hc,Lp X G a⟩
def bc5 {p1 p2 p3 p4 p5:Str} (F:jy K x qual st f fd) (hb:∀ u1 u2 u3 u4 u5:Value,ToD x qual st ⟨[u1,u2,u3,u4,u5],[]⟩ [(p1,u1),(p2,u2),(p3,u3),(p4,u4),(p5,u5)]:=by intros;intro _ _ _ _ _ _ _;exact ⟨_,rfl,rfl⟩):Binds K fd [p1,p2,p3,p4,p5] []:=fun s us KI hl=>by rw [LD] at hl ⊢;obtain ⟨u1,u2,u3,u4,u5,rfl⟩:=Hl hl;exact F.to KI (hb _ _ _ _ _)
end
section
variable {K:IC} {h:Heap} {mg:Str->Option Value} {f C D:Addr} {od an dd:Option Addr} {sl dsl:Array (Option Value)} {oc kV dc pm cd ct dcl:Value} {x qual:Str} {st:Stmt} {v:Value} {n:Nat}
def fnk (l:K.lookup f=some ⟨oc,od,.func (JD x qual (bI st) (bw st) (ag st) .none kV dc pm an cd ct),sl⟩:=by k_is) (c:J9 K cd qual=true:=by k_is) (k:JM K (.ref f)=true:=by k_is) :
  Fun K x qual st f (JD x qual (bI st) (bw st) (ag st) .none kV dc pm an cd ct):=lN l c k
def fDk (l:K.lookup f=some ⟨oc,od,.func (JD x qual (bI st) (bw st) (ag st) (.ref D) kV dc pm an cd ct),sl⟩:=by k_is) (e:K.lookup D=some ⟨dcl,dd,.seq #[.none] n,dsl⟩:=by k_is) (c:J9 K cd qual=true:=by k_is) (k:JM K (.ref f)=true:=by k_is) :
  jy K x qual st f (JD x qual (bI st) (bw st) (ag st) (.ref D) kV dc pm an cd ct):=lP l e c k
def mgk (X:K.In h) (G:h.Ns JN mg) (a:Li K JN x=some (some v):=by k_is):mg x=some v:=Lp X G a
def mgz (X:K.In h) (G:h.Ns JN mg) (a:Li K JN x=some none:=by k_is):mg x=none:=PySem.W.mg_none_of X G a
def qH (a:Lv K C Str.empty=true:=by k_is) (b:LP K C=true:=by k_is) (c:My K C=true:=by k_is) (d:J0 K (.ref C) "__setattr__" = some (some (.builtin "object.__setattr__")):=by k_is):Cls K C:=⟨a,b,c,d⟩
def mkk (a:Nh K C=true:=by k_is) (b:J0 K (.ref C) "__init__" = some (some (.ref f)):=by k_is) (c:Ml K (.ref f)=true:=by k_is) (d:JM K (.ref C)=true:=by k_is):Mk K C f:=⟨a,b,c,d⟩
def fW (a:J0 K (.ref C) x=some (some (.ref f)):=by k_is) (b:Ml K (.ref f)=true:=by k_is) (c:JM K (.ref f)=true:=by k_is):Meth K C x f:=⟨a,b,c⟩
def G2 (a:Mz K (.ref C) "__getattribute__" = some (some (.builtin "type.__getattribute__")):=by k_is) (b:PySem.W.readsIn K C (.type "type")=true:=by k_is) (c:PySem.W.findCls K (.ref C) (.type "type") x=some (.val (.ref f)):=by k_is) (d:JM K (.ref f)=true:=by k_is):Af K C x f:=⟨a,b,c,d⟩
def cC (a:J0 K (.ref C) x=some none:=by k_is):a0 K C x:=a
def krf {α:Type} {a b:α} (e:a=b:=by kernel_rfl):a=b:=e
end
def fsc {N P:List Str} {sc:Scope} (h1:sc.kind=.function) (h2:sc.isCoroutine=false) (h3:sc.isGenerator=false) (h5:N.take P.length=P) (h:N.Nodup/\(∀ x∈P,sc.names.lookup x=some .local\/sc.names.lookup x=some .cell)/\∀ y∈sc.names,y.2≠.free):aw N P sc:=⟨h1,h2,h3,h.1,h5,h.2.1,h.2.2⟩
def csc {sc:Scope} {N:List Str} {scope:Scope} {own:List Str} {fr:List Nat} (h1:scope.kind=.function) (h:(∀ y∈scope.names,y.2≠.cell)/\(∀ y∈scope.names,y.2=.local->scope.names.lookup y.1=some .local)/\(∀ y∈scope.names,y.2=.free->sc.names.lookup y.1=some .cell\/sc.names.lookup y.1=some .free)/\(∀ i∈fr,(N[i]?.bind fun x=>scope.names.lookup x)=some .free)/\(eX own fr N).Nodup):aX sc N scope own fr:=⟨h1,h.1,h.2.1,h.2.2.1,h.2.2.2.1,h.2.2.2.2⟩
def Gv {sc:Scope} {N:List Str} {scope:Scope} {own:List Str} {fr:List Nat} (h1:scope.kind=.function) (h:(∀ y∈scope.names,y.2=.cell->(y.1,Ka)∉scope.names)/\(∀ y∈scope.names,y.2=.local->scope.names.lookup y.1=some .local)/\(∀ y∈scope.names,y.2=.free->sc.names.lookup y.1=some .cell\/sc.names.lookup y.1=some .free)/\(∀ i∈fr,(N[i]?.bind fun x=>scope.names.lookup x)=some .free)/\(eX own fr N).Nodup):dN sc N scope own fr:=⟨h1,h.1,h.2.1,h.2.2.1,h.2.2.2.1,h.2.2.2.2⟩
section
variable {X:Cx}
def Bg:Nat:=2 ^ 2000
def EF (i j:Int):Prop:=i.natAbs<Bg/\j.natAbs<Bg
def EF.ok {i j:Int} (h:EF i j):Oe i j:=by
 have h1:=bits_le (n:=2000) h.1;have h2:=bits_le (n:=2000) h.2;unfold Oe;intro c;simp only [La] at c;have c2:=c.2;unfold Nu at c2;have c3:=of_decide_eq_true c2;have:(6000:Int)<=(bitsLine:Int):=by decide
 lia
end
end L2
namespace L2
open PySem PySem.W PySem.Spec PyProof.Rows
section
variable {X:Cx} {x y:Str} {st:Stmt} {ps:List Str} {k j:Nat} {sp:Sp} {p pos:Pos} {e:Expr} {es:List Expr} {t:TA} {E:XK}
end
def cH (l:List (Option V)) (i:Nat):Option V:=l.getD i none
end L2
set_option maxHeartbeats 4000000
namespace TB
open PySem L2
seal PE PA PS PSs PT PI PG PGs PO
local macro_rules | `(tactic| walk_at "rd1")=>`(tactic| with_reducible first
 | refine su (fun _ _=>?_)|refine sX (by assumption) ?_|refine sL ?_|refine wJ ?_|refine om ?_|refine rN ?_|refine wB ?_|refine r_retN ?_|refine Et ?_
 | refine r_C ?_|refine Bj ?_|refine r_un ?_|refine wL ?_|refine rM ?_|refine r9 ?_|refine rO ?_|refine Bc ?_|refine Ar ?_
 | refine wF ?_|refine AO ?_|refine v8 ?_|refine rF ?_|refine wM ?_|refine r_notV ?_|refine r_if ?_|refine wG ?_|refine rH ?_|refine AE ?_|refine sE ?_|refine i3 ?_|refine jK ?_
 | refine wD ?_|refine pe ?_|refine oI ?_|refine sk ?_|refine Aa ?_|refine mG ?_|refine sh ?_|refine rq ?_|refine A8 ?_|refine wI ?_|refine qO ?_|refine rT ?_|refine v9 ?_|refine r6 ?_|refine rZ ?_|refine oO ?_
 | refine wz ?_|refine qI ?_|refine rj ?_|refine qJ ?_|(refine' wg ?e ?_;(case e=>with_unfolding_all exact rfl)))
local macro_rules | `(tactic| walk_at "rs1")=>`(tactic| with_reducible first
 | refine su (fun _ _=>?_)|refine sX (by assumption) ?_|refine sL ?_|refine wJ ?_|refine om ?_|refine rN ?_|refine wB ?_|refine r_retN ?_
 | refine r_C ?_|refine Bj ?_|refine r_un ?_|refine wL ?_|refine rM ?_|refine r9 ?_|refine rO ?_|refine Bc ?_|refine Ar ?_
 | refine wF ?_|refine AO ?_|refine v8 ?_|refine rF ?_|refine wM ?_|refine r_notV ?_|refine r_if ?_|refine wG ?_|refine rH ?_|refine AE ?_|refine sE ?_|refine i3 ?_|refine jK ?_
 | refine wD ?_|refine pe ?_|refine oI ?_|refine sk ?_|refine Aa ?_|refine mG ?_|refine sh ?_|refine rq ?_|refine A8 ?_|refine wI ?_|refine qO ?_|refine rT ?_|refine v9 ?_|refine r6 ?_|refine rZ ?_|refine oO ?_
 | refine wz ?_|refine qI ?_|refine rj ?_|refine qJ ?_|(refine' wg ?e ?_;(case e=>with_unfolding_all exact rfl)))
local macro_rules | `(tactic| walk_at "rs")=>`(tactic| repeat walk_at "rs1")
local macro_rules | `(tactic| walk_at "rd")=>`(tactic| repeat walk_at "rd1")
local macro_rules | `(tactic| walk_at "rw1")=>`(tactic| with_reducible first
 | refine su (fun _ _=>?_)|refine sX (by assumption) ?_|refine sL ?_|refine wJ ?_|refine om ?_|refine rN ?_|refine wB ?_|refine r_retN ?_
 | refine r_C ?_|refine Bj ?_|refine r_un ?_|refine wL ?_|refine rM ?_|refine r9 ?_|refine rO ?_|refine Bc ?_|refine Ar ?_
 | refine wF ?_|refine AO ?_|refine v8 ?_|refine rF ?_|refine wM ?_|refine r_notV ?_|refine r_if ?_|refine wG ?_|refine rH ?_|refine AE ?_|refine sE ?_
 | refine wD ?_|refine pe ?_|refine oI ?_|refine sk ?_|refine Aa ?_|refine mG ?_|refine sh ?_|refine rq ?_|refine A8 ?_|refine wI ?_|refine qO ?_|refine rT ?_|refine v9 ?_|refine r6 ?_|refine rZ ?_|refine oO ?_
 | refine wz ?_|refine qI ?_|refine rj ?_|refine qJ ?_|(refine' wg ?e ?_;(case e=>with_unfolding_all exact rfl)))
local macro_rules | `(tactic| walk_at "rw")=>`(tactic| repeat walk_at "rw1")
local macro_rules | `(tactic| walk_at "wr")=>`(tactic| repeat (first|exact hZ|refine oU ?_ ?_|refine B4 ?_ (by decide)|exact CV rfl))
local macro_rules | `(tactic| walk_at "rn1")=>`(tactic| with_reducible first
 | refine su (fun _ _=>?_)|refine sX (by assumption) ?_|refine sL ?_|refine wJ ?_|refine om ?_|refine rN ?_|refine wB ?_|refine r_retN ?_
 | refine Ir ?_|refine r_C ?_|refine Bj ?_|refine r_un ?_|refine r_rU ?_|refine Gu ?_|refine HV ?_|refine HS ?_|refine Ig ?_|refine HZ ?_|refine Hz ?_|refine Ie ?_
 | refine yG (by first|assumption|omega) ?_|refine kf (by first|assumption|omega) (by first|assumption|omega) ?_|refine kD (by omega) ?_
 | refine wL ?_|refine rM ?_|refine r9 ?_|refine rO ?_|refine Bc ?_|refine Ar ?_
 | refine wF ?_|refine AO ?_|refine v8 ?_|refine rF ?_|refine wM ?_|refine r_notV ?_|refine r_if ?_|refine wG ?_|refine rH ?_|refine AE ?_|refine sE ?_
 | refine wD ?_|refine pe ?_|refine oI ?_|refine sk ?_|refine Aa ?_|refine mG ?_|refine sh ?_|refine rq ?_|refine A8 ?_|refine r_bm0 ?_|refine wI ?_|refine qO ?_|refine rT ?_|refine v9 ?_|refine r6 ?_|refine rZ ?_|refine oO ?_
 | refine wz ?_|refine qI ?_|refine rj ?_|refine qJ ?_|(refine' wg ?e ?_;(case e=>with_unfolding_all exact rfl)))
local macro_rules | `(tactic| walk_at "rx1")=>`(tactic| first|walk_at "rn1" | refine br (by assumption) (by rfl) ?_|refine cA (by assumption) ?_|refine r_in (by assumption) ?_|refine Fu (by assumption) ?_)
local macro_rules | `(tactic| walk_at "rx")=>`(tactic| repeat walk_at "rx1")
local macro_rules | `(tactic| walk_at "ifs")=>`(tactic| with_reducible refine Et ?_)
local macro_rules | `(tactic| walk_at "rn")=>`(tactic| repeat walk_at "rn1")
local macro_rules | `(tactic| walk_at "1") => `(tactic| (walk_at "rn";walk_at "ifs";walk_at "rn"))
local macro_rules | `(tactic| walk_at "2") => `(tactic| (walk_at "rn";refine fI ?_;walk_at "rn"))
local macro_rules | `(tactic| walk_at "3") => `(tactic| (walk_at "rx";walk_at "ifs";walk_at "rx"))
local macro_rules | `(tactic| walk_at "4") => `(tactic| (walk_at "rn";refine jK ?_;walk_at "rn"))
local macro_rules | `(tactic| walk_at "5") => `(tactic| (walk_at "rn";refine i3 ?_;walk_at "rn"))
local macro_rules | `(tactic| walk_at "6") => `(tactic| (walk_at "rn";refine eU ?_;walk_at "rn"))
local macro_rules | `(tactic| walk_at "7") => `(tactic| (refine eU ?_;walk_at "rx"))
local macro_rules | `(tactic| left) => `(tactic| walk_at "rx")
local macro_rules | `(tactic| symm) => `(tactic| walk_at "rg")
local macro_rules | `(tactic| right) => `(tactic| walk_at "rd")
def top (i:Nat):Stmt:=PySem.Challenge.pw_tracebook_k49_whole_lifts_and_restrictio.main.body.getD i (.Pass ⟨0,0,0,0⟩)
abbrev mE:Stmt:=top 17
abbrev nZ:Stmt:=top 18
abbrev jD:Stmt:=top 19
abbrev uN:Stmt:=top 20
abbrev oE:Stmt:=top 21
abbrev mY:Stmt:=top 22
abbrev vp:Stmt:=top 23
abbrev j9:Stmt:=top 24
abbrev zU:Stmt:=top 25
abbrev pd:Stmt:=top 26
abbrev nJ:Stmt:=top 28
abbrev uV:Stmt:=top 29
abbrev jY:Stmt:=top 30
abbrev uG:Stmt:=top 31
abbrev kB:Stmt:=top 32
abbrev oV:Stmt:=top 33
abbrev nC:Stmt:=top 34
abbrev jk:Stmt:=top 35
abbrev tJ:Stmt:=top 36
abbrev lM:Stmt:=top 39
abbrev uQ:Stmt:=top 41
abbrev jj:Stmt:=top 42
abbrev nr:Stmt:=top 43
abbrev pK:Stmt:=top 44
abbrev nj:Stmt:=top 47
abbrev lW:Stmt:=top 48
abbrev kP:Stmt:=top 51
abbrev qC:Stmt:=top 52
abbrev yP:Stmt:=top 54
abbrev iE:Stmt:=top 56
abbrev lO:Stmt:=top 59
abbrev rV:Stmt:=top 61
abbrev pJ:Stmt:=top 62
abbrev q9:Stmt:=top 63
abbrev rU:Stmt:=top 64
abbrev nQ:Stmt:=top 65
abbrev vd:Stmt:=top 66
abbrev mH:Stmt:=top 67
abbrev pN:Stmt:=top 68
abbrev iT:Stmt:=top 69
abbrev nY:Stmt:=top 70
abbrev pQ:Stmt:=top 72
abbrev iY:Stmt:=top 73
abbrev pV:Stmt:=top 74
abbrev kE:Stmt:=top 75
abbrev m4:Stmt:=top 76
abbrev lE:Stmt:=top 77
abbrev qU:Stmt:=top 78
abbrev uU:Stmt:=top 79
abbrev gi:Stmt:=top 80
abbrev i4:Stmt:=top 81
abbrev hV:Stmt:=top 82
abbrev wC:Stmt:=top 83
abbrev oz:Stmt:=inClass (top 16) 0
abbrev rg:Stmt:=inClass (top 49) 0
abbrev pW:Stmt:=inClass (top 49) 1
abbrev pU:Stmt:=inClass (top 49) 2
abbrev jx:Stmt:=inClass (top 50) 0
abbrev iK:Stmt:=inClass (top 53) 0
abbrev ji:Stmt:=inClass (top 55) 0
abbrev js:Stmt:=inClass (top 57) 0
abbrev jr:Stmt:=inClass (top 58) 0
def iO:aw ["table","rows","unit","backs"] ["table"] (ag mE):=fsc rfl rfl rfl rfl (by trivial)
def jw:aw ["rows","many","row"] ["rows"] (ag nZ):=fsc rfl rfl rfl rfl (by trivial)
def dQ:aw ["rows","many","row","column"] ["rows"] (ag jD):=fsc rfl rfl rfl rfl (by trivial)
def rL:aw ["rows","thing"] ["rows"] (ag uN):=fsc rfl rfl rfl rfl (by trivial)
def nh:aw ["rows","thing","other"] ["rows","thing"] (ag oE):=fsc rfl rfl rfl rfl (by trivial)
def zc:aw ["rows","unit"] ["rows","unit"] (ag mY):=fsc rfl rfl rfl rfl (by trivial)
def qK:aw ["rows","unit","thing","other"] ["rows","unit","thing"] (ag vp):=fsc rfl rfl rfl rfl (by trivial)
def c8:aw ["rows","many","one","two","three"] ["rows"] (ag j9):=fsc rfl rfl rfl rfl (by trivial)
def ko:aw ["group","thing","many","reached"] ["group","thing"] (ag zU):=fsc rfl rfl rfl rfl (by trivial)
def mF:aw ["group","orders","many"] ["group"] (ag pd):=fsc rfl rfl rfl rfl (by trivial)
def vT:aw ["group","some"] ["group","some"] (ag nJ):=fsc rfl rfl rfl rfl (by trivial)
def AY:aw ["group","some"] ["group","some"] (ag uV):=fsc rfl rfl rfl rfl (by trivial)
def vL:aw ["group","some"] ["group","some"] (ag jY):=fsc rfl rfl rfl rfl (by trivial)
def Dj:aw ["some"] ["some"] (ag uG):=fsc rfl rfl rfl rfl (by trivial)
def fR:aw ["group","some","one","other"] ["group","some"] (ag kB):=fsc rfl rfl rfl rfl (by trivial)
def yy:aw ["group","part","by_thing"] ["group","part"] (ag oV):=fsc rfl rfl rfl rfl (by trivial)
def Ac:aw ["group","part","thing"] ["group","part","thing"] (ag nC):=fsc rfl rfl rfl rfl (by trivial)
def tV:aw ["group","part"] ["group","part"] (ag jk):=fsc rfl rfl rfl rfl (by trivial)
def DG:aw ["group","part"] ["group","part"] (ag tJ):=fsc rfl rfl rfl rfl (by trivial)
def rf:aw ["many"] ["many"] (ag lM):=fsc rfl rfl rfl rfl (by trivial)
def rA:aw ["group","spokes","least"] ["group","spokes"] (ag uQ):=fsc rfl rfl rfl rfl (by trivial)
def t6:aw ["part","marks","spokes"] ["part","marks","spokes"] (ag jj):=fsc rfl rfl rfl rfl (by trivial)
def eg:aw ["group","part","marks","spokes","many","mark","one","other"] ["group","part","marks","spokes"] (ag nr):=fsc rfl rfl rfl rfl (by trivial)
def og:aw ["group","part","marks","spokes","found"] ["group","part","marks","spokes"] (ag pK):=fsc rfl rfl rfl rfl (by trivial)
def tI:aw ["one","other"] ["one","other"] (ag nj):=fsc rfl rfl rfl rfl (by trivial)
def rR:aw ["many"] ["many"] (ag lW):=fsc rfl rfl rfl rfl (by trivial)
def cZ:aw ["group","part","carriers","found","number","carrier","k","thing"] ["group","part"] (ag kP):=fsc rfl rfl rfl rfl (by trivial)
def B6:aw ["moves","many"] ["moves","many"] (ag qC):=fsc rfl rfl rfl rfl (by trivial)
def gD:aw ["moves","others","spokes","found","place","spoke","further","more"] ["moves","others","spokes"] (ag yP):=fsc rfl rfl rfl rfl (by trivial)
def qL:aw ["moves","spokes"] ["moves","spokes"] (ag iE):=fsc rfl rfl rfl rfl (by trivial)
def eZ:aw ["moves","way","found","number","k"] ["moves","way"] (ag lO):=fsc rfl rfl rfl rfl (by trivial)
def y8:aw ["_law_script","_law_k"] ["_law_script","_law_k"] (ag rV):=fsc rfl rfl rfl rfl (by trivial)
def cp:aw ["_law_one_here","_law_two","_law_number","_law_some_here","_law_top","_law_steps","_law_room","_law_first","_law_second","_law_third"] ["_law_one_here","_law_two"] (ag pJ):=fsc rfl rfl rfl rfl (by trivial)
def pL:aw ["_law_sizes_here","_law_number","_law_kinds"] ["_law_sizes_here","_law_number"] (ag q9):=fsc rfl rfl rfl rfl (by trivial)
def dZ:aw ["_law_many","_law_steps","_law_number","_law_units","_law_u","_law_found","_law_k"] ["_law_many","_law_steps","_law_number"] (ag rU):=fsc rfl rfl rfl rfl (by trivial)
def b6:aw ["_law_place","_law_sizes_here","_law_kind_here","_law_units","_law_x","_law_y","_law_w"] ["_law_place","_law_sizes_here","_law_kind_here","_law_units"] (ag nQ):=fsc rfl rfl rfl rfl (by trivial)
def gH:aw ["_law_one_here","_law_other","_law_sizes_here","_law_both","_law_x","_law_y","_law_w"] ["_law_one_here","_law_other","_law_sizes_here"] (ag vd):=fsc rfl rfl rfl rfl (by trivial)
def b4:aw ["_law_sizes_here","_law_turn","_law_end","_law_calm","_law_rows_here","_law_led","_law_i","_law_one_here","_law_row","_law_j","_law_other","_law_place"] ["_law_sizes_here","_law_turn","_law_end"] (ag mH):=fsc rfl rfl rfl rfl (by trivial)
def ic:aw ["_law_many","_law_number","_law_names_here","_law_k"] ["_law_many","_law_number"] (ag pN):=fsc rfl rfl rfl rfl (by trivial)
def bh:aw ["_law_script","_law_start","_law_one_here","_law_two","_law_sizes_here","_law_stirred","_law_kind_here","_law_units","_law_k","_law_calm","_law_turn","_law_end","_law_rows_here","_law_names_here","_law_row","_law_table","_law_a","_law_b","_law_thing_here"] ["_law_script","_law_start"] (ag iT):=fsc rfl rfl rfl rfl (by trivial)
def Ay:aw ["_law_table"] ["_law_table"] (ag nY):=fsc rfl rfl rfl rfl (by trivial)
def oA:aw ["_law_cell_here","_law_k","_law_many","_law_number"] ["_law_cell_here","_law_k","_law_many"] (ag pQ):=fsc rfl rfl rfl rfl (by trivial)
def eC:aw ["_law_table","_law_one_here","_law_powers","_law_many"] ["_law_table"] (ag iY):=fsc rfl rfl rfl rfl (by trivial)
def eA:aw ["_law_table","_law_thing_here","_law_one_here","_law_found","_law_many"] ["_law_table","_law_thing_here"] (ag pV):=fsc rfl rfl rfl rfl (by trivial)
def bu:aw ["_law_table","_law_some_here","_law_spokes","_law_cell_here","_law_given","_law_k","_law_size","_law_marks","_law_found","_law_at","_law_good","_law_one_here","_law_mark","_law_thing_here","_law_total","_law_part"] ["_law_table","_law_some_here","_law_spokes","_law_cell_here"] (ag kE):=fsc rfl rfl rfl rfl (by trivial)
def pE:aw ["_law_table","_law_cell_here","_law_number"] ["_law_table","_law_cell_here"] (ag m4):=fsc rfl rfl rfl rfl (by trivial)
def kj:aw ["_law_table","_law_part","_law_rows_here","_law_one_here"] ["_law_table","_law_part"] (ag lE):=fsc rfl rfl rfl rfl (by trivial)
def lD:aw ["_law_one_here","_law_other","_law_many","_law_thing_here","_law_counts"] ["_law_one_here","_law_other","_law_many"] (ag qU):=fsc rfl rfl rfl rfl (by trivial)
def mQ:aw ["_law_group_here","_law_table","_law_spokes","_law_cell_here","_law_part","_law_marks"] ["_law_group_here","_law_table","_law_spokes","_law_cell_here"] (ag uU):=fsc rfl rfl rfl rfl (by trivial)
def b7:aw ["_law_one_here","_law_other","_law_many","_law_spokes","_law_counts","_law_thing_here","_law_left","_law_right","_law_k","_law_j","_law_at"] ["_law_one_here","_law_other","_law_many"] (ag gi):=fsc rfl rfl rfl rfl (by trivial)
def cV:aw ["_law_group_here","_law_part","_law_near","_law_spokes","_law_cell_here","_law_many","_law_table","_law_some_here","_law_less","_law_small","_law_way","_law_far"] ["_law_group_here","_law_part","_law_near","_law_spokes","_law_cell_here"] (ag i4):=fsc rfl rfl rfl rfl (by trivial)
def dH:aw ["_law_group_here","_law_part","_law_way","_law_whole","_law_up","_law_within","_law_counts","_law_times"] ["_law_group_here","_law_part","_law_way","_law_whole"] (ag hV):=fsc rfl rfl rfl rfl (by trivial)
def fB:aw ["_law_script","_law_table","_law_group_here","_law_spokes","_law_cell_here","_law_some_here","_law_part","_law_near","_law_way","_law_whole"] ["_law_script"] (ag wC):=fsc rfl rfl rfl rfl (by trivial)
def vU:aw ["self","rows","unit","backs"] ["self","rows","unit","backs"] (ag oz):=fsc rfl rfl rfl rfl (by trivial)
def yU:aw ["self","group","spokes","deeds"] ["self","group","spokes","deeds"] (ag rg):=fsc rfl rfl rfl rfl (by trivial)
def xc:aw ["self","thing"] ["self","thing"] (ag pW):=fsc rfl rfl rfl rfl (by trivial)
def gJ:aw ["self","thing","counts","place","move"] ["self","thing"] (ag pU):=fsc rfl rfl rfl rfl (by trivial)
def l5:aw ["self","group","part","marks","spokes","deeds"] ["self","group","part","marks","spokes"] (ag jx):=fsc rfl rfl rfl rfl (by trivial)
def kW:aw ["self","one","other","deeds"] ["self","one","other"] (ag iK):=fsc rfl rfl rfl rfl (by trivial)
def lV:aw ["self","way","deeds"] ["self","way"] (ag ji):=fsc rfl rfl rfl rfl (by trivial)
def tH:aw ["self","way","part"] ["self","way","part"] (ag js):=fsc rfl rfl rfl rfl (by trivial)
def ij:aw ["self","group","part","way","spokes","deeds"] ["self","group","part","way"] (ag jr):=fsc rfl rfl rfl rfl (by trivial)
def nc:aX (ag mE) ["table","rows","unit","backs"] { kind:=.function,names:=[(".0",.local),("row",.local),("list",.globalImplicit)],isGenerator:=false,isCoroutine:=false,more:=[] } ["row"] []:=csc rfl (by trivial)
def ng:aX (ag mY) ["rows","unit"] { kind:=.function,names:=[(".0",.local),("thing",.local),("back_of",.globalImplicit),("rows",.free),("unit",.free)],isGenerator:=false,isCoroutine:=false,more:=[] } ["thing"] [0,1]:=csc rfl (by trivial)
def sM:aX (ag pd) ["group","orders","many"] { kind:=.function,names:=[(".0",.local),("thing",.local),("order",.globalImplicit),("group",.free)],isGenerator:=false,isCoroutine:=false,more:=[] } ["thing"] [0]:=csc rfl (by trivial)
def rD:aX (ag pd) ["group","orders","many"] { kind:=.function,names:=[(".0",.local),("times",.local),("many",.free)],isGenerator:=false,isCoroutine:=false,more:=[] } ["times"] [2]:=csc rfl (by trivial)
def lp:aX (ag jY) ["group","some"] { kind:=.function,names:=[(".0",.local),("number",.local),("group",.free)],isGenerator:=false,isCoroutine:=false,more:=[] } ["number"] [0]:=csc rfl (by trivial)
def qS:aX (ag uG) ["some"] { kind:=.function,names:=[(".0",.local),("place",.local),("some",.free)],isGenerator:=false,isCoroutine:=false,more:=[] } ["place"] [0]:=csc rfl (by trivial)
def sG:aX (ag oV) ["group","part","by_thing"] { kind:=.function,names:=[(".0",.local),("thing",.local),("side_of",.globalImplicit),("group",.free),("part",.free)],isGenerator:=false,isCoroutine:=false,more:=[] } ["thing"] [0,1]:=csc rfl (by trivial)
def sR:aX (ag oV) ["group","part","by_thing"] { kind:=.function,names:=[(".0",.local),("thing",.local),("side",.local)],isGenerator:=false,isCoroutine:=false,more:=[] } ["thing","side"] []:=csc rfl (by trivial)
def ox:aX (ag nC) ["group","part","thing"] { kind:=.function,names:=[(".0",.local),("other",.local),("group",.free),("thing",.free)],isGenerator:=false,isCoroutine:=false,more:=[] } ["other"] [0,2]:=csc rfl (by trivial)
def j6:aX (ag jk) ["group","part"] { kind:=.function,names:=[(".0",.local),("side",.local)],isGenerator:=false,isCoroutine:=false,more:=[] } ["side"] []:=csc rfl (by trivial)
def so:dN (ag tJ) ["group","part"] { kind:=.function,names:=[(".0",.local),("one",.cell),("group",.free),("part",.free)],isGenerator:=false,isCoroutine:=false,more:=[] } ["one"] [0,1]:=Gv rfl (by trivial)
def sS:aX { kind:=.function,names:=[(".0",.local),("one",.cell),("group",.cell),("part",.cell)],isGenerator:=false,isCoroutine:=false,more:=[] } ["one","group","part"] { kind:=.function,names:=[(".0",.local),("other",.local),("group",.free),("one",.free),("part",.free)],isGenerator:=false,isCoroutine:=false,more:=[] } ["other"] [1,0,2]:=csc rfl (by trivial)
def kC:aX (ag jj) ["part","marks","spokes"] { kind:=.function,names:=[(".0",.local),("mark",.local),("spokes",.free)],isGenerator:=false,isCoroutine:=false,more:=[] } ["mark"] [2]:=csc rfl (by trivial)
def lj:dN (ag kP) ["group","part","carriers","found","number","carrier","k","thing"] { kind:=.function,names:=[(".0",.local),("row",.cell),("carriers",.free),("found",.free)],isGenerator:=false,isCoroutine:=false,more:=[] } ["row"] [2,3]:=Gv rfl (by trivial)
def kZ:aX { kind:=.function,names:=[(".0",.local),("row",.cell),("carriers",.cell),("found",.cell)],isGenerator:=false,isCoroutine:=false,more:=[] } ["row","carriers","found"] { kind:=.function,names:=[(".0",.local),("carrier",.local),("found",.free),("row",.free)],isGenerator:=false,isCoroutine:=false,more:=[] } ["carrier"] [2,0]:=csc rfl (by trivial)
def pR:aX (ag qC) ["moves","many"] { kind:=.function,names:=[(".0",.local),("place",.local),("spoke",.local),("many",.free)],isGenerator:=false,isCoroutine:=false,more:=[] } ["place","spoke"] [1]:=csc rfl (by trivial)
def jB:aX (ag iE) ["moves","spokes"] { kind:=.function,names:=[(".0",.local),("place",.local),("spoke",.local),("spokes",.free)],isGenerator:=false,isCoroutine:=false,more:=[] } ["place","spoke"] [1]:=csc rfl (by trivial)
def m9:aX (ag mH) ["_law_sizes_here","_law_turn","_law_end","_law_calm","_law_rows_here","_law_led","_law_i","_law_one_here","_law_row","_law_j","_law_other","_law_place"] { kind:=.function,names:=[(".0",.local),("_law_place",.local),("_law_turn",.free)],isGenerator:=false,isCoroutine:=false,more:=[] } ["_law_place"] [1]:=csc rfl (by trivial)
def lK:aX (ag iT) ["_law_script","_law_start","_law_one_here","_law_two","_law_sizes_here","_law_stirred","_law_kind_here","_law_units","_law_k","_law_calm","_law_turn","_law_end","_law_rows_here","_law_names_here","_law_row","_law_table","_law_a","_law_b","_law_thing_here"] { kind:=.function,names:=[(".0",.local),("_law_place",.local),("_law_turned",.globalImplicit),("_law_kind_here",.free),("_law_sizes_here",.free),("_law_units",.free)],isGenerator:=false,isCoroutine:=false,more:=[] } ["_law_place"] [6,4,7]:=csc rfl (by trivial)
def mn:aX (ag iT) ["_law_script","_law_start","_law_one_here","_law_two","_law_sizes_here","_law_stirred","_law_kind_here","_law_units","_law_k","_law_calm","_law_turn","_law_end","_law_rows_here","_law_names_here","_law_row","_law_table","_law_a","_law_b","_law_thing_here"] { kind:=.function,names:=[(".0",.local),("_law_row",.local),("list",.globalImplicit)],isGenerator:=false,isCoroutine:=false,more:=[] } ["_law_row"] []:=csc rfl (by trivial)
def nB:aX (ag nY) ["_law_table"] { kind:=.function,names:=[(".0",.local),("_law_thing_here",.local),("_law_table",.free)],isGenerator:=false,isCoroutine:=false,more:=[] } ["_law_thing_here"] [0]:=csc rfl (by trivial)
def lZ:aX (ag iY) ["_law_table","_law_one_here","_law_powers","_law_many"] { kind:=.function,names:=[(".0",.local),("_law_end",.local),("_law_one_here",.free)],isGenerator:=false,isCoroutine:=false,more:=[] } ["_law_end"] [1]:=csc rfl (by trivial)
def lT:aX (ag iY) ["_law_table","_law_one_here","_law_powers","_law_many"] { kind:=.function,names:=[(".0",.local),("_law_thing_here",.local),("_law_powers",.free),("_law_table",.free)],isGenerator:=false,isCoroutine:=false,more:=[] } ["_law_thing_here"] [2,0]:=csc rfl (by trivial)
def kY:aX (ag kE) ["_law_table","_law_some_here","_law_spokes","_law_cell_here","_law_given","_law_k","_law_size","_law_marks","_law_found","_law_at","_law_good","_law_one_here","_law_mark","_law_thing_here","_law_total","_law_part"] { kind:=.function,names:=[(".0",.local),("_law_thing_here",.local),("int",.globalImplicit),("_law_good",.free),("_law_marks",.free)],isGenerator:=false,isCoroutine:=false,more:=[] } ["_law_thing_here"] [10,7]:=csc rfl (by trivial)
def ni:aX (ag m4) ["_law_table","_law_cell_here","_law_number"] { kind:=.function,names:=[(".0",.local),("_law_k",.local),("_law_thing",.globalImplicit),("len",.globalImplicit),("_law_cell_here",.free),("_law_table",.free)],isGenerator:=false,isCoroutine:=false,more:=[] } ["_law_k"] [1,0]:=csc rfl (by trivial)
def md:aX (ag lE) ["_law_table","_law_part","_law_rows_here","_law_one_here"] { kind:=.function,names:=[(".0",.local),("_law_other",.local),("_law_one_here",.free),("_law_part",.free),("_law_table",.free)],isGenerator:=false,isCoroutine:=false,more:=[] } ["_law_other"] [3,1,0]:=csc rfl (by trivial)
def kF:aX (ag gi) ["_law_one_here","_law_other","_law_many","_law_spokes","_law_counts","_law_thing_here","_law_left","_law_right","_law_k","_law_j","_law_at"] { kind:=.function,names:=[(".0",.local),("_law_k",.local),("_law_left",.free)],isGenerator:=false,isCoroutine:=false,more:=[] } ["_law_k"] [6]:=csc rfl (by trivial)
def kq:aX (ag gi) ["_law_one_here","_law_other","_law_many","_law_spokes","_law_counts","_law_thing_here","_law_left","_law_right","_law_k","_law_j","_law_at"] { kind:=.function,names:=[(".0",.local),("_law_k",.local),("_law_right",.free)],isGenerator:=false,isCoroutine:=false,more:=[] } ["_law_k"] [7]:=csc rfl (by trivial)
def lX:aX (ag i4) ["_law_group_here","_law_part","_law_near","_law_spokes","_law_cell_here","_law_many","_law_table","_law_some_here","_law_less","_law_small","_law_way","_law_far"] { kind:=.function,names:=[(".0",.local),("_law_k",.local),("_law_thing",.globalImplicit),("len",.globalImplicit),("_law_cell_here",.free),("_law_table",.free)],isGenerator:=false,isCoroutine:=false,more:=[] } ["_law_k"] [4,6]:=csc rfl (by trivial)
def mh:aX (ag i4) ["_law_group_here","_law_part","_law_near","_law_spokes","_law_cell_here","_law_many","_law_table","_law_some_here","_law_less","_law_small","_law_way","_law_far"] { kind:=.function,names:=[(".0",.local),("_law_k",.local),("_law_part",.free)],isGenerator:=false,isCoroutine:=false,more:=[] } ["_law_k"] [1]:=csc rfl (by trivial)
def jh:aX (ag hV) ["_law_group_here","_law_part","_law_way","_law_whole","_law_up","_law_within","_law_counts","_law_times"] { kind:=.function,names:=[(".0",.local),("_law_number",.local),("_law_times",.free)],isGenerator:=false,isCoroutine:=false,more:=[] } ["_law_number"] [7]:=csc rfl (by trivial)
def xm:aX (ag wC) ["_law_script","_law_table","_law_group_here","_law_spokes","_law_cell_here","_law_some_here","_law_part","_law_near","_law_way","_law_whole"] { kind:=.function,names:=[(".0",.local),("_law_row",.local),("list",.globalImplicit)],isGenerator:=false,isCoroutine:=false,more:=[] } ["_law_row"] []:=csc rfl (by trivial)
def yu:aX (ag wC) ["_law_script","_law_table","_law_group_here","_law_spokes","_law_cell_here","_law_some_here","_law_part","_law_near","_law_way","_law_whole"] { kind:=.function,names:=[(".0",.local),("_law_k",.local),("_law_thing",.globalImplicit),("len",.globalImplicit),("_law_cell_here",.free),("_law_table",.free)],isGenerator:=false,isCoroutine:=false,more:=[] } ["_law_k"] [4,1]:=csc rfl (by trivial)
def kL:aX (ag jx) ["self","group","part","marks","spokes","deeds"] { kind:=.function,names:=[(".0",.local),("moves",.local),("marks",.free)],isGenerator:=false,isCoroutine:=false,more:=[] } ["moves"] [3]:=csc rfl (by trivial)
def j8:aX { kind:=.function,names:=[(".0",.local),("moves",.local),("marks",.cell)],isGenerator:=false,isCoroutine:=false,more:=[] } ["moves","marks"] { kind:=.function,names:=[(".0",.local),("number",.local),("k",.local),("marks",.free)],isGenerator:=false,isCoroutine:=false,more:=[] } ["number","k"] [1]:=csc rfl (by trivial)
def jC:aX (ag iK) ["self","one","other","deeds"] { kind:=.function,names:=[(".0",.local),("thing",.local),("paired",.globalImplicit),("one",.free),("other",.free)],isGenerator:=false,isCoroutine:=false,more:=[] } ["thing"] [1,2]:=csc rfl (by trivial)
def kb:aX (ag ji) ["self","way","deeds"] { kind:=.function,names:=[(".0",.local),("thing",.local),("backed_moves",.globalImplicit),("way",.free)],isGenerator:=false,isCoroutine:=false,more:=[] } ["thing"] [1]:=csc rfl (by trivial)
def ky:aX (ag js) ["self","way","part"] { kind:=.function,names:=[(".0",.local),("thing",.local),("way",.free)],isGenerator:=false,isCoroutine:=false,more:=[] } ["thing"] [1]:=csc rfl (by trivial)
def kA:aX (ag jr) ["self","group","part","way","spokes","deeds"] { kind:=.function,names:=[(".0",.local),("moves",.local),("raised_moves",.globalImplicit),("way",.free)],isGenerator:=false,isCoroutine:=false,more:=[] } ["moves"] [3]:=csc rfl (by trivial)
set_option genInjectivity false in
set_option genSizeOf false in
structure Txt (K:IC) (mg:Str->Option Value) where
 hX:Df K mg "group_of" mE ["table"]
 gW:Df K mg "check_size" nZ ["rows"]
 ee:Df K mg "check_strangers" jD ["rows"]
 lg:Df K mg "unit_of" uN ["rows"]
 gK:Df K mg "leaves_all" oE ["rows","thing"]
 jN:Df K mg "backs_of" mY ["rows","unit"]
 la:Df K mg "back_of" vp ["rows","unit","thing"]
 eG:Df K mg "check_together" j9 ["rows"]
 oJ:Df K mg "order" zU ["group","thing"]
 o8:Df K mg "turns" pd ["group"]
 eo:Df K mg "check_part" nJ ["group","some"]
 kT:Df K mg "is_part" uV ["group","some"]
 gM:Df K mg "all_things" jY ["group","some"]
 oK:Df K mg "rises" uG ["some"]
 eM:Df K mg "holds_products" kB ["group","some"]
 pk:Df K mg "sides" oV ["group","part"]
 kR:Df K mg "side_of" nC ["group","part","thing"]
 fY:Df K mg "carriers_of" jk ["group","part"]
 ip:Df K mg "inner" tJ ["group","part"]
 fO:Df K mg "check_spokes" lM ["many"]
 gA:Df K mg "serving" uQ ["group","spokes"]
 f7:Df K mg "check_marks" jj ["part","marks","spokes"]
 gf:DfD K mg "first_break" nr ["group","part","marks","spokes"] "spokes" 3
 iW:Df K mg "check_way" pK ["group","part","marks","spokes"]
 fX:Df K mg "check_alike" nj ["one","other"]
 el:Df K mg "check_places" lW ["many"]
 fA:Df K mg "side_moves" kP ["group","part"]
 mL:Df K mg "behind" qC ["moves","many"]
 mX:Df K mg "paired" yP ["moves","others","spokes"]
 fM:Df K mg "backed_moves" iE ["moves","spokes"]
 fK:Df K mg "raised_moves" lO ["moves","way"]
 eI:Df K mg "_law_cell" rV ["_law_script","_law_k"]
 i5:Df K mg "_law_sizes" pJ ["_law_one_here","_law_two"]
 jM:Df K mg "_law_kind" q9 ["_law_sizes_here","_law_number"]
 jQ:Df K mg "_law_unit" rU ["_law_many","_law_steps","_law_number"]
 gE:Df K mg "_law_turned" nQ ["_law_place","_law_sizes_here","_law_kind_here","_law_units"]
 i7:Df K mg "_law_sum" vd ["_law_one_here","_law_other","_law_sizes_here"]
 jG:Df K mg "_law_rows" mH ["_law_sizes_here","_law_turn","_law_end"]
 iZ:Df K mg "_law_names" pN ["_law_many","_law_number"]
 iS:Df K mg "_law_group" iT ["_law_script","_law_start"]
 fF:Df K mg "_law_one" nY ["_law_table"]
 dY:Df K mg "_law_thing" pQ ["_law_cell_here","_law_k","_law_many"]
 i6:Df K mg "_law_turns" iY ["_law_table"]
 iU:Df K mg "_law_order" pV ["_law_table","_law_thing_here"]
 ei:Df K mg "_law_marked" kE ["_law_table","_law_some_here","_law_spokes","_law_cell_here"]
 jL:Df K mg "_law_some" m4 ["_law_table","_law_cell_here"]
 eT:Df K mg "_law_inner" lE ["_law_table","_law_part"]
 fL:Df K mg "_law_same" qU ["_law_one_here","_law_other","_law_many"]
 gC:Df K mg "_law_new" uU ["_law_group_here","_law_table","_law_spokes","_law_cell_here"]
 eN:Df K mg "_law_weighed" gi ["_law_one_here","_law_other","_law_many"]
 iQ:Df K mg "_law_twice" i4 ["_law_group_here","_law_part","_law_near","_law_spokes","_law_cell_here"]
 eW:Df K mg "_law_projected" hV ["_law_group_here","_law_part","_law_way","_law_whole"]
 oX:Df K mg "law" wC ["_law_script"]
 aM:Addr
 tM:Addr
 uF:JR
 FG:mg "Group" = some (.ref aM)
 iC:Cls K aM
 FK:Mk K aM tM
 Fz:Fun K "__init__" "Group.__init__" oz tM uF
 Fq:Binds K uF ["self","rows","unit","backs"] []
 nS:a0 K aM "many"
 nD:a0 K aM "rows"
 nV:a0 K aM "unit"
 vE:a0 K aM "backs"
 iR:Addr
 wm:Addr
 An:JR
 sP:mg "Way" = some (.ref iR)
 IB:Cls K iR
 IA:Mk K iR wm
 HY:Fun K "__init__" "Way.__init__" rg wm An
 qY:Binds K An ["self","group","spokes","deeds"] []
 rJ:Af K iR "__init__" wm
 Hw:a0 K iR "group"
 He:a0 K iR "spokes"
 Ic:a0 K iR "size"
 Hv:a0 K iR "deeds"
 cS:Addr
 lC:JR
 Hy:Meth K iR "moves" cS
 zh:Fun K "moves" "Way.moves" pW cS lC
 fS:Binds K lC ["self","thing"] []
 cU:Addr
 lI:JR
 Hx:Meth K iR "trace" cU
 zd:Fun K "trace" "Way.trace" pU cU lI
 iN:Binds K lI ["self","thing"] []
 bf:Addr
 qc:Addr
 p8:JR
 Ef:mg "Lifted" = some (.ref bf)
 j5:Cls K bf
 C4:Mk K bf qc
 w5:jy K "__init__" "Lifted.__init__" jx qc p8
 uk:Meth K bf "moves" cS
 tE:Meth K bf "trace" cU
 vV:a0 K bf "part"
 tY:a0 K bf "marks"
 uf:a0 K bf "group"
 rm:a0 K bf "spokes"
 vN:a0 K bf "size"
 tL:a0 K bf "deeds"
 bZ:Addr
 oq:Addr
 nt:JR
 uX:mg "Crossed" = some (.ref bZ)
 ou:Cls K bZ
 vf:Mk K bZ oq
 CJ:Fun K "__init__" "Crossed.__init__" iK oq nt
 vm:Binds K nt ["self","one","other"] []
 qX:Meth K bZ "moves" cS
 rC:Meth K bZ "trace" cU
 qP:a0 K bZ "group"
 qm:a0 K bZ "spokes"
 tG:a0 K bZ "size"
 sr:a0 K bZ "deeds"
 bX:Addr
 qE:Addr
 qd:JR
 wZ:mg "Backed" = some (.ref bX)
 p6:Cls K bX
 xH:Mk K bX qE
 Ej:Fun K "__init__" "Backed.__init__" ji qE qd
 w6:Binds K qd ["self","way"] []
 uI:Meth K bX "moves" cS
 tP:Meth K bX "trace" cU
 tF:a0 K bX "group"
 rX:a0 K bX "spokes"
 vJ:a0 K bX "size"
 t9:a0 K bX "deeds"
 cw:Addr
 qg:Addr
 qx:JR
 El:mg "Within" = some (.ref cw)
 p9:Cls K cw
 C3:Mk K cw qg
 D6:Fun K "__init__" "Within.__init__" js qg qx
 D2:Binds K qx ["self","way","part"] []
 tQ:Meth K cw "moves" cS
 ur:Meth K cw "trace" cU
 tX:a0 K cw "group"
 qM:a0 K cw "spokes"
 vR:a0 K cw "size"
 tq:a0 K cw "deeds"
 bQ:Addr
 qo:Addr
 qA:JR
 iq:mg "Raised" = some (.ref bQ)
 qy:Cls K bQ
 iM:Mk K bQ qo
 D8:Fun K "__init__" "Raised.__init__" jr qo qA
 iI:Binds K qA ["self","group","part","way"] []
 tf:Meth K bQ "moves" cS
 tS:Meth K bQ "trace" cU
 tD:a0 K bQ "group"
 sV:a0 K bQ "spokes"
 vB:a0 K bQ "size"
 ua:a0 K bQ "deeds"
 jH:Addr
 HI:mg "TooGreat" = some (.ref jH)
 HU:PySem.W.excIn K jH bmV Iy=true
 HX:PySem.W.exmOne K (.ref jH) (.ref jH)=some true
 vY:Tok
 vG:mg "MOST_PLACES" = some (.int 60 vY)
 vC:Tok
 vO:mg "MOST_SPOKES" = some (.int 60 vC)
 vP:Tok
 vZ:mg "MOST_THINGS" = some (.int 23 vP)
 A7:mg "all" = none
 Ey:mg "any" = none
 Hd:mg "dict" = none
 eR:mg "enumerate" = none
 HN:mg "int" = none
 ye:mg "isinstance" = none
 bC:mg "len" = none
 gF:mg "list" = none
 bc:mg "range" = none
 xJ:mg "sorted" = none
 EL:mg "zip" = none
section
variable {K:IC} {mg:Str->Option Value}
def Txt.Eb (T:Txt K mg):Binds K T.p8 ["self","group","part","marks","spokes"] []:=bc5 T.w5
end
def tb (t:List (List Nat)) (i j:Nat):Nat:=(t.getD i []).getD j 0
structure Sq (n:Nat) (t:List (List Nat)):Prop where
 len:t.length=n
 pos:1<=n
 le:n<=23
 row:∀ (i:Nat) (r:List Nat),t[i]?=some r->r.length=n
structure Gd (n:Nat) (t:List (List Nat)):Prop extends Sq n t where
 lt:∀ i j,i<n->j<n->tb t i j<n
structure GT (n:Nat) (t:List (List Nat)) (e:Nat):Prop extends Gd n t where
 elt:e<n
 unl:∀ i,i<n->tb t e i=i
 unr:∀ i,i<n->tb t i e=i
 back:∀ i,i<n->∃ b,b<n/\tb t i b=e/\tb t b i=e
 assoc:∀ i j k,i<n->j<n->k<n->tb t (tb t i j) k=tb t i (tb t j k)
def Sq.get {n:Nat} {t:List (List Nat)} (s:Sq n t) {i:Nat} (h:i<n):t[i]?=some (t.getD i []):=by
 have hl:i<t.length:=by rw [s.len];exact h
 rw [ID,IG hl];simp
def Sq.dF {n:Nat} {t:List (List Nat)} (s:Sq n t) {i j:Nat} (h:i<n) (h':j<n):(t.getD i [])[j]?=some (tb t i j):=by
 have hr:(t.getD i []).length=n:=s.row i _ (s.get h);have hl:j<(t.getD i []).length:=by rw [hr];exact h'
 unfold tb;rw [ID (l:=t.getD i []),IG hl];simp
def oC (n:Nat) (t:List (List Nat)) (x:Nat):Prop:=∀ o,o<n->tb t x o=o/\tb t o x=o
instance {n:Nat} {t:List (List Nat)} {x:Nat}:Decidable (oC n t x):=inferInstanceAs (Decidable (∀ o,o<n->tb t x o=o/\tb t o x=o))
def GT.rQ {n:Nat} {t:List (List Nat)} {e x:Nat} (g:GT n t e) (hx:x<n):oC n t x↔x=e:=by
 constructor
 ·intro h;have h1:=(h e g.elt).1;have h2:=g.unr x hx;rw [h2] at h1;exact h1
 ·rintro rfl o ho;exact ⟨g.unl o ho,g.unr o ho⟩
def a8 (n:Nat) (t:List (List Nat)) (e a:Nat):Nat:=((IF n).find? fun b=>decide (tb t a b=e/\tb t b a=e)).getD 0
def FT {n:Nat} {t:List (List Nat)} {e a b:Nat} (hb:b<n) (h:tb t a b=e/\tb t b a=e) (hn:∀ c,c<b->¬ (tb t a c=e/\tb t c a=e)):a8 n t e a=b:=by
 unfold a8;have:(IF n).find? (fun b=>decide (tb t a b=e/\tb t b a=e))=some b:=by
  rw [MH];refine ⟨by simpa using h,by simpa using hb,fun j hj=>?_⟩
  have:=hn j hj;simp only [Bool.not_eq_true',decide_eq_false_iff_not];exact this
 rw [this];rfl
def GT.bk {n:Nat} {t:List (List Nat)} {e a:Nat} (g:GT n t e) (ha:a<n):a8 n t e a<n/\tb t a (a8 n t e a)=e/\tb t (a8 n t e a) a=e:=by
 obtain ⟨b,hb,h⟩:=g.back a ha;unfold a8;cases q:(IF n).find? (fun b=>decide (tb t a b=e/\tb t b a=e)) with
 | none =>
  rw [MI] at q;have:=q b hb;simp at this;exact this.elim (fun z=>absurd h.1 z) fun z=>absurd h.2 z
 | some c =>
  have h1:=List.find?_some q;have h2:=IK.mp (List.mem_of_find?_eq_some q);simp only [decide_eq_true_eq] at h1;exact ⟨h2,h1⟩
def bks (n:Nat) (t:List (List Nat)) (e:Nat):List Nat:=(IF n).map (a8 n t e)
def prd (t:List (List Nat)) (e:Nat) (l:List Nat):Nat:=l.foldl (tb t) e
def cz {β:Type} (f:Nat->β) (n i:Nat) (h:i<n):((IF n).map f).take (i+1)=((IF n).map f).take i++[f i]:=by
 rw [Js];simp [h]
def mkT (n:Nat) (f:Nat->Nat->Nat):List (List Nat):=(IF n).map fun a=>(IF n).map fun b=>f a b
def Cj {n:Nat} {f:Nat->Nat->Nat} {a b:Nat} (ha:a<n) (hb:b<n):tb (mkT n f) a b=f a b:=by
 unfold tb mkT;simp [ID,ha,hb]
def Ho {n:Nat} {f:Nat->Nat->Nat} (h1:1<=n) (h2:n<=23):Sq n (mkT n f):=by
 refine ⟨by simp [mkT],h1,h2,fun i r h=>?_⟩
 have:r∈mkT n f:=IH h;unfold mkT at this;obtain ⟨a,_,rfl⟩:=IP.mp this;simp
def Bv {n:Nat} {f:Nat->Nat->Nat} {e:Nat} (h1:1<=n) (h2:n<=23) (lt:∀ a b,a<n->b<n->f a b<n) (elt:e<n) (unl:∀ a,a<n->f e a=a) (unr:∀ a,a<n->f a e=a)
  (back:∀ a,a<n->∃ b,b<n/\f a b=e/\f b a=e) (assoc:∀ a b c,a<n->b<n->c<n->f (f a b) c=f a (f b c)):GT n (mkT n f) e:=by
 have q:∀ {a b:Nat},a<n->b<n->tb (mkT n f) a b=f a b:=fun ha hb=>Cj ha hb;refine ⟨⟨Ho h1 h2,fun i j hi hj=>by rw [q hi hj];exact lt i j hi hj⟩,elt,fun i hi=>by rw [q elt hi];exact unl i hi,fun i hi=>by rw [q hi elt];exact unr i hi,fun i hi=>?_,fun i j k hi hj hk=>?_⟩
 ·obtain ⟨b,hb,x,y⟩:=back i hi;exact ⟨b,hb,by rw [q hi hb];exact x,by rw [q hb hi];exact y⟩
 ·rw [q hi hj,q hj hk,q (lt i j hi hj) hk,q hi (lt j k hj hk)];exact assoc i j k hi hj hk
structure Ab (m:Nat) (ad:Nat->Nat->Nat):Prop where
 pos:0<m
 lt:∀ x y,x<m->y<m->ad x y<m
 assoc:∀ x y z,x<m->y<m->z<m->ad (ad x y) z=ad x (ad y z)
 comm:∀ x y,x<m->y<m->ad x y=ad y x
 zero:∀ x,x<m->ad x 0=x
 neg:∀ x,x<m->∃ y,y<m/\ad x y=0
structure Tn (m:Nat) (ad:Nat->Nat->Nat) (f:Nat->Nat) (s e:Nat):Prop extends Ab m ad where
 iG:0<s
 flt:∀ x,x<m->f x<m
 fad:∀ x y,x<m->y<m->f (ad x y)=ad (f x) (f y)
 per:∀ x,x<m->Nat.repeat f s x=x
 elt:e<m
 fe:f e=e
def tim (ad:Nat->Nat->Nat) (e:Nat):Nat->Nat
 | 0=>0
 | k+1=>ad (tim ad e k) e
def cyc (m:Nat) (ad:Nat->Nat->Nat) (f:Nat->Nat) (s e I J:Nat):Nat :=
 (let p:=ad (I % m) (Nat.repeat f (I / m) (J % m));if I / m+J / m >= s then ad p e else p)+m * ((I / m+J / m) % s)
section
variable {m:Nat} {ad:Nat->Nat->Nat} {f:Nat->Nat} {s e:Nat}
def eO (T:Tn m ad f s e):∀ (k:Nat) {x:Nat},x<m->Nat.repeat f k x<m
 | 0,_,h=>h
 | k+1,_,h=>T.flt _ (eO T k h)
def oB (T:Tn m ad f s e):∀ (k:Nat) {x y:Nat},x<m->y<m->Nat.repeat f k (ad x y)=ad (Nat.repeat f k x) (Nat.repeat f k y)
 | 0,_,_,_,_=>rfl
 | k+1,x,y,hx,hy=>by
  show f (Nat.repeat f k (ad x y))=ad (f (Nat.repeat f k x)) (f (Nat.repeat f k y));rw [oB T k hx hy,T.fad _ _ (eO T k hx) (eO T k hy)]
def Ew (T:Tn m ad f s e):∀ k:Nat,Nat.repeat f k e=e
 | 0=>rfl
 | k+1=>by show f (Nat.repeat f k e)=e;rw [Ew T k,T.fe]
def jV (f:Nat->Nat) (x:Nat):∀ i j:Nat,Nat.repeat f (i+j) x=Nat.repeat f i (Nat.repeat f j x)
 | 0,j=>by rw [JU];rfl
 | i+1,j=>by
  have e:i+1+j=(i+j)+1:=by omega
  rw [e];show f (Nat.repeat f (i+j) x)=f (Nat.repeat f i (Nat.repeat f j x));rw [jV f x i j]
def FY (T:Tn m ad f s e) {x:Nat} (hx:x<m) {k:Nat} (hk:k<2 * s):Nat.repeat f (k % s) x=Nat.repeat f k x:=by
 have hs:=T.iG
 by_cases h:k<s
 ·rw [JE h]
 ·have e1:k % s=k - s:=by rw [Nat.mod_eq_sub_mod (by omega),JE (by omega)]
  have e2:k=(k - s)+s:=by omega
  rw [e1]
  conv=>rhs;rw [e2,jV,T.per x hx]
def dP (T:Tn m ad f s e):∀ k,tim ad e k<m
 | 0=>T.pos
 | k+1=>T.lt _ _ (dP T k) T.elt
def Cy (T:Ab m ad) {x:Nat} (hx:x<m):ad 0 x=x:=by rw [T.comm 0 x T.pos hx,T.zero x hx]
def ui (T:Tn m ad f s e):∀ i j,tim ad e (i+j)=ad (tim ad e i) (tim ad e j)
 | i,0=>by rw [Kt];show _=ad _ 0;rw [T.zero _ (dP T i)]
 | i,j+1=>by
  show ad (tim ad e (i+j)) e=ad (tim ad e i) (ad (tim ad e j) e);rw [ui T i j,T.assoc _ _ _ (dP T i) (dP T j) T.elt]
def uK (T:Tn m ad f s e) (k:Nat):∀ j,Nat.repeat f k (tim ad e j)=tim ad e j
 | 0=>by
  show Nat.repeat f k 0=0;have h0:Nat.repeat f k 0<m:=eO T k T.pos;have h1:ad (Nat.repeat f k 0) (Nat.repeat f k 0)=Nat.repeat f k 0:=by rw [<- oB T k T.pos T.pos,T.zero 0 T.pos]
  obtain ⟨y,hy,e1⟩:=T.neg _ h0;have h2:ad (ad (Nat.repeat f k 0) (Nat.repeat f k 0)) y=ad (Nat.repeat f k 0) y:=by rw [h1]
  rw [T.assoc _ _ _ h0 h0 hy,e1,T.zero _ h0] at h2;exact h2
 | j+1=>by
  show Nat.repeat f k (ad (tim ad e j) e)=ad (tim ad e j) e;rw [oB T k (dP T j) T.elt,uK T k j,Ew T k]
def i9 (T:Tn m ad f s e) {x y i j:Nat} (hx:x<m) (hy:y<m) (hi:i<s) (hj:j<s) :
  cyc m ad f s e (x+m * i) (y+m * j)=ad (ad x (Nat.repeat f i y)) (tim ad e ((i+j) / s))+m * ((i+j) % s):=by
 have hm:=T.pos;have d1:(x+m * i) / m=i:=by rw [Kq _ _ hm,JZ hx,JU]
 have d2:(y+m * j) / m=j:=by rw [Kq _ _ hm,JZ hy,JU]
 have r1:(x+m * i) % m=x:=by rw [Kg,JE hx]
 have r2:(y+m * j) % m=y:=by rw [Kg,JE hy]
 unfold cyc;rw [d1,d2,r1,r2];dsimp only;have hp:ad x (Nat.repeat f i y)<m:=T.lt _ _ hx (eO T i hy)
 by_cases h:i+j >= s
 ·have q:(i+j) / s=1:=by
   have:i+j=(i+j - s)+s * 1:=by omega
   rw [this,Kq _ _ T.iG,JZ (by omega)]
  rw [if_pos h,q];show _=ad _ (ad 0 e)+_;rw [Cy T.toAb T.elt]
 ·have q:(i+j) / s=0:=JZ (by omega)
  rw [if_neg h,q];show _=ad _ 0+_;rw [T.zero _ hp]
def dm (m:Nat) (I:Nat):I=I % m+m * (I / m):=(Nx I m).symm
def Cv (T:Tn m ad f s e) {I J:Nat} (hI:I<m * s) (hJ:J<m * s):cyc m ad f s e I J<m * s:=by
 have hm:=T.pos;have hi:I / m<s:=J5 hI;have hj:J / m<s:=J5 hJ;rw [dm m I,dm m J,i9 T (Jj _ hm) (Jj _ hm) hi hj];have h1:ad (ad (I % m) (Nat.repeat f (I / m) (J % m))) (tim ad e ((I / m+J / m) / s))<m:=T.lt _ _ (T.lt _ _ (Jj _ hm) (eO T _ (Jj _ hm))) (dP T _);have h2:(I / m+J / m) % s<s:=Jj _ T.iG;have h3:m * ((I / m+J / m) % s)+m<=m * s:=by
  rw [<- K7];exact JQ _ h2
 omega
def nP (T:Tn m ad f s e) {I J L:Nat} (hI:I<m * s) (hJ:J<m * s) (hL:L<m * s):cyc m ad f s e (cyc m ad f s e I J) L=cyc m ad f s e I (cyc m ad f s e J L):=by
 have hm:=T.pos;have hi:I / m<s:=J5 hI;have hj:J / m<s:=J5 hJ;have hl:L / m<s:=J5 hL;rw [dm m I,dm m J,dm m L];generalize I / m=i at hi;generalize J / m=j at hj;generalize L / m=l at hl;have hx:I % m<m:=Jj _ hm;have hy:J % m<m:=Jj _ hm;have hz:L % m<m:=Jj _ hm;generalize I % m=x at hx;generalize J % m=y at hy;generalize L % m=z at hz;have hs:=T.iG;have hij:(i+j) % s<s:=Jj _ hs;have hjl:(j+l) % s<s:=Jj _ hs;have fy:=eO T i hy;have fz:=eO T j hz;have t1:=dP T ((i+j) / s);have t2:=dP T ((j+l) / s);have p1:ad x (Nat.repeat f i y)<m:=T.lt _ _ hx fy;have p2:ad y (Nat.repeat f j z)<m:=T.lt _ _ hy fz;rw [i9 T hx hy hi hj,i9 T hy hz hj hl,i9 T (T.lt _ _ p1 t1) hz hij hl,i9 T hx (T.lt _ _ p2 t2) hi hjl];have em:((i+j) % s+l) % s=(i+(j+l) % s) % s:=by rw [Mc,Lj,K0]
 have ed:(i+j) / s+((i+j) % s+l) / s=(j+l) / s+(i+(j+l) % s) / s:=by
  have a1:=Lk (i+j) s;have a2:=Lk (j+l) s;have a3:=Lk ((i+j) % s+l) s;have a4:=Lk (i+(j+l) % s) s;rw [em] at a3;have:s * ((i+j) / s+((i+j) % s+l) / s)=s * ((j+l) / s+(i+(j+l) % s) / s):=by
   rw [Md,Md];omega
  exact Mt hs this
 rw [em]
 congr 1
 have fz2:Nat.repeat f ((i+j) % s) z<m:=eO T _ hz;have efz:Nat.repeat f ((i+j) % s) z=Nat.repeat f i (Nat.repeat f j z):=by rw [FY T hz (by omega),jV]
 have fz3:Nat.repeat f i (Nat.repeat f j z)<m:=eO T i fz;rw [oB T i p2 t2,oB T i hy fz,uK T i,efz];have t3:=dP T (((i+j) % s+l) / s);have t4:=dP T ((i+(j+l) % s) / s);rw [T.assoc _ _ _ p1 t1 fz3,T.comm _ _ t1 fz3,<- T.assoc _ _ _ p1 fz3 t1,T.assoc _ _ _ (T.lt _ _ p1 fz3) t1 t3,<- ui T,ed];rw [T.assoc _ _ _ hx fy fz3,<- T.assoc _ _ _ hx (T.lt _ _ fy fz3) t2,T.assoc _ _ _ (T.lt _ _ hx (T.lt _ _ fy fz3)) t2 t4,<- ui T]
def Fo (T:Tn m ad f s e) {I:Nat} (hI:I<m * s):cyc m ad f s e 0 I=I:=by
 have hm:=T.pos;have hi:I / m<s:=J5 hI;have hx:I % m<m:=Jj _ hm;have h:=i9 T (x:=0) (y:=I % m) (i:=0) (j:=I / m) hm hx T.iG hi;rw [<- dm m I,KL,Kt,JU,JZ hi,JE hi] at h;rw [h];show ad (ad 0 (I % m)) 0+_=_;rw [Cy T.toAb hx,T.zero _ hx,<- dm m I]
def tO (T:Tn m ad f s e) {I:Nat} (hI:I<m * s):cyc m ad f s e I 0=I:=by
 have hm:=T.pos;have hi:I / m<s:=J5 hI;have hx:I % m<m:=Jj _ hm;have h:=i9 T (x:=I % m) (y:=0) (i:=I / m) (j:=0) hx hm hi T.iG;rw [<- dm m I,KL,Kt,Kt,JZ hi,JE hi] at h;rw [h];have z0:Nat.repeat f (I / m) 0=0:=uK T (I / m) 0;show ad (ad (I % m) (Nat.repeat f (I / m) 0)) 0+_=_;rw [z0,T.zero _ hx,T.zero _ hx,<- dm m I]
def uT (T:Tn m ad f s e) {I:Nat} (hI:I<m * s):∃ J,J<m * s/\cyc m ad f s e I J=0:=by
 have hm:=T.pos;have hs:=T.iG;have hi:I / m<s:=J5 hI;have hx:I % m<m:=Jj _ hm;have hj:(s - I / m) % s<s:=Jj _ hs;have hw:ad (I % m) (tim ad e ((I / m+(s - I / m) % s) / s))<m:=T.lt _ _ hx (dP T _);obtain ⟨v,hv,ev⟩:=T.neg _ hw;have hy:Nat.repeat f ((s - I / m) % s) v<m:=eO T _ hv;refine ⟨Nat.repeat f ((s - I / m) % s) v+m * ((s - I / m) % s),?_,?_⟩
 ·have h3:m * ((s - I / m) % s)+m<=m * s:=by
   rw [<- K7];exact JQ _ hj
  omega
 ·have h:=i9 T (x:=I % m) (y:=Nat.repeat f ((s - I / m) % s) v) (i:=I / m) (j:=(s - I / m) % s) hx hy hi hj;rw [<- dm m I] at h;rw [h];have er:Nat.repeat f (I / m) (Nat.repeat f ((s - I / m) % s) v)=v:=by
   rw [<- jV]
   by_cases h0:I / m=0
   ·rw [h0,Nat.sub_zero,Mn];rfl
   ·rw [JE (Nat.sub_lt hs (Nat.pos_of_ne_zero h0))];have:I / m+(s - I / m)=s:=MJ (K6 hi);rw [this,T.per v hv]
  have e0:(I / m+(s - I / m) % s) % s=0:=by
   rw [Lj];have:I / m+(s - I / m)=s:=MJ (K6 hi);rw [this,Mn]
  rw [er,e0,KL,Kt,T.assoc _ _ _ hx hv (dP T _),T.comm _ _ hv (dP T _),<- T.assoc _ _ _ hx (dP T _) hv];exact ev
def DQ (T:Tn m ad f s e) {I:Nat} (hI:I<m * s):∃ J,J<m * s/\cyc m ad f s e I J=0/\cyc m ad f s e J I=0:=by
 obtain ⟨J,hJ,e1⟩:=uT T hI;obtain ⟨L,hL,e2⟩:=uT T hJ;refine ⟨J,hJ,e1,?_⟩;have hJI:=Cv T hJ hI;have h1:cyc m ad f s e J I=cyc m ad f s e (cyc m ad f s e J I) (cyc m ad f s e J L):=by rw [e2,tO T hJI]
 rw [h1,<- nP T hJI hJ hL,nP T hJ hI hJ,e1,tO T hJ,e2]
end
def lsum (a b c p q:Nat):Nat:=(p+q) % a+a * ((p / a+q / a) % b)+a * b * ((p / (a * b)+q / (a * b)) % c)
section
variable {a b c:Nat}
def E3 {x y w:Nat} (hx:x<a):(x+a * y+a * b * w) % a=x:=by
 rw [K1,K0,<- Md,Kg,JE hx]
def Es {x y w:Nat} (ha:0<a) (hx:x<a):(x+a * y+a * b * w) / a=y+b * w:=by
 rw [K1,K0,<- Md,Kq _ _ ha,JZ hx,JU]
def EU {x y w:Nat} (ha:0<a) (hx:x<a) (hy:y<b):(x+a * y+a * b * w) / a % b=y:=by
 rw [Es ha hx,Kg,JE hy]
def Eu {x y w:Nat} (ha:0<a) (hb:0<b) (hx:x<a) (hy:y<b):(x+a * y+a * b * w) / (a * b)=w:=by
 rw [<- Nb,Es ha hx,Kq _ _ hb,JZ hy,JU]
def B1 {x y w:Nat} (hx:x<a) (hy:y<b) (hw:w<c):x+a * y+a * b * w<a * b * c:=by
 have h1:a * y+a<=a * b:=by rw [<- K7];exact JQ _ hy
 have h2:a * b * w+a * b<=a * b * c:=by rw [<- K7];exact JQ _ hw
 omega
def Ha (ha:0<a) (hb:0<b) (p:Nat):p % a+a * (p / a % b)+a * b * (p / (a * b))=p:=by
 rw [<- Nb,K1,K0,<- Md,Nx,Nx]
def zR {p:Nat} (hp:p<a * b * c):p / (a * b)<c:=J5 hp
def BW (ha:0<a) (p q:Nat):lsum a b c p q % a=(p+q) % a:=E3 (Jj _ ha)
def Cr (ha:0<a) (hb:0<b) (p q:Nat):lsum a b c p q / a % b=(p / a+q / a) % b:=EU ha (Jj _ ha) (Jj _ hb)
def Cg (ha:0<a) (hb:0<b) (p q:Nat):lsum a b c p q / (a * b)=(p / (a * b)+q / (a * b)) % c:=Eu ha hb (Jj _ ha) (Jj _ hb)
def fU (x y k:Nat):(x % k+y) % k=(x+y) % k:=Mc x k y
def Fd (ha:0<a) (hb:0<b) (hc:0<c):Ab (a * b * c) (lsum a b c) where
 pos:=J8 (J8 ha hb) hc
 lt:=fun x y _ _=>B1 (Jj _ ha) (Jj _ hb) (Jj _ hc)
 comm:=fun x y _ _=>by unfold lsum;rw [KH x y,KH (x / a),KH (x / (a * b))]
 assoc:=fun x y z _ _ _=>by
  have e1:(lsum a b c x y+z) % a=(x+lsum a b c y z) % a:=by
   rw [<- fU,BW ha,fU,KH x (lsum a b c y z),<- fU (lsum a b c y z),BW ha,fU]
   congr 1;omega
  have e2:(lsum a b c x y / a+z / a) % b=(x / a+lsum a b c y z / a) % b:=by
   rw [<- fU,Cr ha hb,fU,KH (x / a) (lsum a b c y z / a),<- fU (lsum a b c y z / a),Cr ha hb,fU]
   congr 1;omega
  have e3:(lsum a b c x y / (a * b)+z / (a * b)) % c=(x / (a * b)+lsum a b c y z / (a * b)) % c:=by
   rw [Cg ha hb,Cg ha hb,fU,KH (x / (a * b)) (_ % c),fU]
   congr 1;omega
  show (lsum a b c x y+z) % a+a * ((lsum a b c x y / a+z / a) % b)+a * b * ((lsum a b c x y / (a * b)+z / (a * b)) % c)=(x+lsum a b c y z) % a+a * ((x / a+lsum a b c y z / a) % b)+a * b * ((x / (a * b)+lsum a b c y z / (a * b)) % c);rw [e1,e2,e3]
 zero:=fun x hx=>by
  unfold lsum;rw [Ny,Ny,Kt,Kt,Kt,JE (zR hx),Ha ha hb]
 neg:=fun x hx=>by
  have hx1:x % a<a:=Jj _ ha;have hy1:x / a % b<b:=Jj _ hb;have hw1:x / (a * b)<c:=zR hx;have lx:(a - x % a) % a<a:=Jj _ ha;have ly:(b - x / a % b) % b<b:=Jj _ hb;have lw:(c - x / (a * b)) % c<c:=Jj _ hc;refine ⟨(a - x % a) % a+a * ((b - x / a % b) % b)+a * b * ((c - x / (a * b)) % c),B1 lx ly lw,?_⟩;have f1:(x+((a - x % a) % a+a * ((b - x / a % b) % b)+a * b * ((c - x / (a * b)) % c))) % a=0:=by
   rw [MX,E3 lx,Lj];have:x % a+(a - x % a)=a:=by omega
   rw [this,Mn]
  have f2:(x / a+((a - x % a) % a+a * ((b - x / a % b) % b)+a * b * ((c - x / (a * b)) % c)) / a) % b=0:=by
   rw [MX,EU ha lx ly,Lj];have:x / a % b+(b - x / a % b)=b:=by omega
   rw [this,Mn]
  have f3:(x / (a * b)+((a - x % a) % a+a * ((b - x / a % b) % b)+a * b * ((c - x / (a * b)) % c)) / (a * b)) % c=0:=by
   rw [Eu ha hb lx ly,Lj];have:x / (a * b)+(c - x / (a * b))=c:=MJ (K6 hw1);rw [this,Mn]
  unfold lsum;rw [f1,f2,f3,KL,KL]
end
def dJ (a b c kind u0 u1 u2 p:Nat):Nat :=
 let x:=p % a
 let y:=p / a % b
 let w:=p / (a * b) * u2 % c
 match kind with
 | 1=>y+a * (x+b * w)
 | 2=>(a - y) % a+a * ((x+a - y) % a+b * w)
 | 3=>x+a * ((y+x) % b+b * w)
 | 4=>(x+a / 2 * y) % a+a * (y+b * w)
 | _=>x * u0 % a+a * (y * u1 % b+b * w)
def iter (f:Nat->Nat):Nat->Nat->Nat
 | 0,x=>x
 | n+1,x=>iter f n (f x)
def pw (u m:Nat):Nat->Nat
 | 0=>1
 | n+1=>pw u m n * u % m
def rS (a b c s kind u0 u1 u2:Nat):Bool :=
 (IF (a * b * c)).all fun p=>Nat.blt (dJ a b c kind u0 u1 u2 p) (a * b * c) && (KQ (iter (dJ a b c kind u0 u1 u2) s p) p &&
  (IF (a * b * c)).all fun q=>KQ (dJ a b c kind u0 u1 u2 (lsum a b c p q)) (lsum a b c (dJ a b c kind u0 u1 u2 p) (dJ a b c kind u0 u1 u2 q)))
def dW (a b s kind:Nat):Bool:=kind == 0 || (kind == 1 && (a == b && s % 2 == 0)) || (kind == 2 && (a == b && s % 3 == 0)) || (kind == 3 && (a % b == 0 && (decide (1<b) && s % b == 0))) || (kind == 4 && (a % 2 == 0 && (b % 2 == 0 && s % 2 == 0)))
def unitsOf (m s:Nat):List Nat:=(IF m).filter fun u=>KQ (pw u m s) (1 % m)
def BD:Bool:=(IF 4).all fun s'=>let s:=s'+1
 (IF (23 / s)).all fun a'=>let a:=a'+1
 (IF (23 / (s * a))).all fun b'=>let b:=b'+1
 (IF (23 / (s * a * b))).all fun c'=>let c:=c'+1
 (IF 5).all fun k=>!dW a b s k || ((if KQ k 0 then unitsOf a s else [0]).all fun u0=>(if KQ k 0 then unitsOf b s else [0]).all fun u1=>(unitsOf c s).all fun u2=>rS a b c s k u0 u1 u2)
set_option maxRecDepth 1000000 in
def BJ:BD=true:=by trivial
def xP (f:Nat->Nat):∀ (n x:Nat),iter f n x=Nat.repeat f n x
 | 0,_=>rfl
 | n+1,x=>by
  show iter f n (f x)=f (Nat.repeat f n x);rw [xP f n (f x)];have h1:=jV f x n 1;have h2:=jV f x 1 n;rw [KH] at h2;have e:Nat.repeat f n (Nat.repeat f 1 x)=Nat.repeat f 1 (Nat.repeat f n x):=h1.symm.trans h2;exact e
def nR {m s u:Nat}:u∈unitsOf m s↔u<m/\pw u m s=1 % m:=by
 unfold unitsOf;rw [JX,IK];simp
structure Par (a b c s kind u0 u1 u2:Nat):Prop where
 a1:1<=a
 b1:1<=b
 c1:1<=c
 s1:1<=s
 s4:s<=4
 le:a * b * c * s<=23
 k5:kind<5
 kind:dW a b s kind=true
 v0:u0∈unitsOf a s
 v1:u1∈unitsOf b s
 v2:u2∈unitsOf c s
def nH {x k n:Nat} (hx:1<=x) (hk:1<=k) (h:k * x<=n):x - 1<n / k:=by
 have:x<=n / k:=(Nat.le_div_iff_mul_le (by omega)).mpr (by rw [Kd];exact h)
 omega
def FD {a b c kind u0 u1 u2:Nat} (h:kind≠0) (h5:kind<5):dJ a b c kind u0 u1 u2=dJ a b c kind 0 0 u2:=by
 match kind,h,h5 with
 | 1,_,_=>rfl
 | 2,_,_=>rfl
 | 3,_,_=>rfl
 | 4,_,_=>rfl
 | 0,h,_=>exact absurd rfl h
def Par.chk {a b c s kind u0 u1 u2:Nat} (P:Par a b c s kind u0 u1 u2):rS a b c s kind u0 u1 u2=true:=by
 have hle:=P.le;have h1:s * a<=23:=by
  have:s * a * (b * c)=a * b * c * s:=by simp only [Kd,LS]
  have z:s * a * 1<=s * a * (b * c):=JQ _ (J8 P.b1 P.c1);omega
 have h2:s * a * b<=23:=by
  have:s * a * b * c=a * b * c * s:=by simp only [Kd,LS]
  have z:s * a * b * 1<=s * a * b * c:=JQ _ P.c1;omega
 have h3:s * a * b * c<=23:=by
  have:s * a * b * c=a * b * c * s:=by simp only [Kd,LS]
  omega
 have sa:1<=s * a:=J8 P.s1 P.a1;have sab:1<=s * a * b:=J8 sa P.b1;have q0:=BJ;unfold BD at q0;have q1:=Jq.mp q0 (s - 1) (IK.mpr (by have:=P.s1;have:=P.s4;omega))
 have es:s - 1+1=s:=by have:=P.s1;omega
 have ea:a - 1+1=a:=by have:=P.a1;omega
 have eb:b - 1+1=b:=by have:=P.b1;omega
 have ec:c - 1+1=c:=by have:=P.c1;omega
 try dsimp only at q1
 rw [es] at q1;have q2:=Jq.mp q1 (a - 1) (IK.mpr (nH P.a1 P.s1 h1))
 try dsimp only at q2
 rw [ea] at q2;have q3:=Jq.mp q2 (b - 1) (IK.mpr (nH P.b1 sa h2))
 try dsimp only at q3
 rw [eb] at q3;have q4:=Jq.mp q3 (c - 1) (IK.mpr (nH P.c1 sab h3))
 try dsimp only at q4
 rw [ec] at q4;have q5:=Jq.mp q4 kind (IK.mpr P.k5);rw [P.kind] at q5;simp only [Bool.not_true,Bool.false_or] at q5
 by_cases hk:kind=0
 ·subst hk;have q6:=Jq.mp q5 u0 P.v0;have q7:=Jq.mp q6 u1 P.v1;exact Jq.mp q7 u2 P.v2
 ·have hb:KQ kind 0=false:=by
   cases h:KQ kind 0 with
   | false=>rfl
   | true=>exact absurd (KA h) hk
  rw [hb] at q5;have q6:=Jq.mp q5 0 (I0.mpr rfl);have q7:=Jq.mp q6 0 (I0.mpr rfl);have q8:=Jq.mp q7 u2 P.v2;unfold rS at q8 ⊢;rw [FD hk P.k5];exact q8
def Par.tn {a b c s kind u0 u1 u2 e:Nat} (P:Par a b c s kind u0 u1 u2) (he:e<a * b * c) (fe:dJ a b c kind u0 u1 u2 e=e):Tn (a * b * c) (lsum a b c) (dJ a b c kind u0 u1 u2) s e:=by
 have q:=P.chk;unfold rS at q;have q':∀ p,p<a * b * c->_:=fun p hp=>Jq.mp q p (IK.mpr hp);simp only [La,Jq,IK] at q';refine { Fd P.a1 P.b1 P.c1 with iG:=P.s1,flt:=fun x hx=>?_,fad:=fun x y hx hy=>?_,per:=fun x hx=>?_,elt:=he,fe:=fe }
 ·have z:=(q' x hx).1;exact Nat.le_of_ble_eq_true z
 ·exact KA ((q' x hx).2.2 y hy)
 ·rw [<- xP];exact KA (q' x hx).2.1
def GT.rel {n:Nat} {t t':List (List Nat)} {e:Nat} (g:GT n t e) (π:List Nat) (hl:π.length=n) (hm:∀ x,x∈π↔x<n) (sq:Sq n t')
  (h:∀ a b,a<n->b<n->tb t' (π.getD a 0) (π.getD b 0)=π.getD (tb t a b) 0):GT n t' (π.getD e 0):=by
 have into:∀ a,a<n->π.getD a 0<n:=fun a ha=>by
  have:π.getD a 0∈π:=by
   rw [ID,IG (by omega)]
   exact Ks _
  exact (hm _).mp this
 have onto:∀ i,i<n->∃ a,a<n/\π.getD a 0=i:=fun i hi=>by
  obtain ⟨a,ha,e'⟩:=NH.mp ((hm i).mpr hi);refine ⟨a,by omega,?_⟩
  rw [ID,IG ha,e'];rfl
 refine ⟨⟨sq,fun i j hi hj=>?_⟩,into e g.elt,fun i hi=>?_,fun i hi=>?_,fun i hi=>?_,fun i j k hi hj hk=>?_⟩
 ·obtain ⟨a,ha,rfl⟩:=onto i hi;obtain ⟨b,hb,rfl⟩:=onto j hj;rw [h a b ha hb];exact into _ (g.lt a b ha hb)
 ·obtain ⟨a,ha,rfl⟩:=onto i hi;rw [h e a g.elt ha,g.unl a ha]
 ·obtain ⟨a,ha,rfl⟩:=onto i hi;rw [h a e ha g.elt,g.unr a ha]
 ·obtain ⟨a,ha,rfl⟩:=onto i hi;obtain ⟨b,hb,x,y⟩:=g.back a ha;exact ⟨π.getD b 0,into b hb,by rw [h a b ha hb,x],by rw [h b a hb ha,y]⟩
 ·obtain ⟨a,ha,rfl⟩:=onto i hi;obtain ⟨b,hb,rfl⟩:=onto j hj;obtain ⟨d,hd,rfl⟩:=onto k hk;rw [h a b ha hb,h b d hb hd,h _ d (g.lt a b ha hb) hd,h a _ ha (g.lt b d hb hd),g.assoc a b d ha hb hd]
def Gy {m:Nat} {ad:Nat->Nat->Nat} {f:Nat->Nat} {s e:Nat} (T:Tn m ad f s e) (h:m * s<=23):GT (m * s) (mkT (m * s) (cyc m ad f s e)) 0 :=
 Bv (J8 T.pos T.iG) h (fun _ _ ha hb=>Cv T ha hb) (J8 T.pos T.iG) (fun _ ha=>Fo T ha) (fun _ ha=>tO T ha) (fun _ ha=>DQ T ha) (fun _ _ _ ha hb hc=>nP T ha hb hc)
def getD_some {α:Type} {l:List α} {i:Nat} (d:α) (h:i<l.length):l[i]?=some (l.getD i d):=by
 rw [ID,IG h];rfl
def Hs {m:Nat} {ad:Nat->Nat->Nat} {f:Nat->Nat} {s e x y i j:Nat} (hx:x<m) (hy:y<m) :
  cyc m ad f s e (x+m * i) (y+m * j)=(if s<=i+j then ad (ad x (Nat.repeat f i y)) e else ad x (Nat.repeat f i y))+m * ((i+j) % s):=by
 have hm:0<m:=by omega
 have d1:(x+m * i) / m=i:=by rw [Kq _ _ hm,JZ hx,JU]
 have d2:(y+m * j) / m=j:=by rw [Kq _ _ hm,JZ hy,JU]
 have r1:(x+m * i) % m=x:=by rw [Kg,JE hx]
 have r2:(y+m * j) % m=y:=by rw [Kg,JE hy]
 unfold cyc;rw [d1,d2,r1,r2]
def AX (a b c kind u0 u1 u2:Nat):dJ a b c kind u0 u1 u2 0=0:=by
 unfold dJ;have e1:(0:Nat) / (a * b) * u2 % c=0:=by rw [Ny,K2,Mo]
 have e2:(0:Nat) / a % b=0:=by rw [Ny,Mo]
 simp only [e1,e2,Mo]
 split <;> simp
def GH:Bool:=(IF 24).all fun m=>(IF 5).all fun s=>KQ m 0 || (KQ s 0 || !(unitsOf m s).isEmpty)
def FX:GH=true:=by trivial
def DZ {m s:Nat} (h1:1<=m) (h2:m<=23) (h3:1<=s) (h4:s<=4):unitsOf m s≠[]:=by
 have q0:=FX;unfold GH at q0;have q1:=Jq.mp q0 m (IK.mpr (by omega))
 have q2:=Jq.mp q1 s (IK.mpr (by omega))
 have b1:KQ m 0=false:=by
  cases h:KQ m 0 with
  | false=>rfl
  | true=>have:=KA h;omega
 have b2:KQ s 0=false:=by
  cases h:KQ s 0 with
  | false=>rfl
  | true=>have:=KA h;omega
 rw [b1,b2] at q2;intro e;rw [e] at q2;exact absurd q2 (by decide)
def rK (m s i:Nat):((IF (i+1)).filter fun u=>KQ (pw u m s) (1 % m))=(if pw i m s=1 % m then ((IF i).filter fun u=>KQ (pw u m s) (1 % m))++[i] else (IF i).filter fun u=>KQ (pw u m s) (1 % m)):=by
 rw [K5,List.filter_append]
 by_cases h:pw i m s=1 % m
 ·rw [if_pos h];have:KQ (pw i m s) (1 % m)=true:=by rw [h];exact Nat.beq_refl _
  simp [this]
 ·rw [if_neg h];have:KQ (pw i m s) (1 % m)=false:=by
   cases q:KQ (pw i m s) (1 % m) with
   | false=>rfl
   | true=>exact absurd (KA q) h
  simp [this]
def DI {π:List Nat} {k i:Nat} (h:π.Perm (IF i)):(π.take k++i :: π.drop k).Perm (IF (i+1)):=by
 refine List.perm_middle.trans ?_;rw [List.take_append_drop,K5];exact (List.Perm.cons i h).trans (List.perm_append_singleton i (IF i)).symm
def GK {rows:List (List Nat)} {n i j i' j' x:Nat} (hl:rows.length=n) (hr:∀ (k:Nat) (r:List Nat),rows[k]?=some r->r.length=n) (hi:i<n) (hj:j<n) :
  tb (rows.set i ((rows.getD i []).set j x)) i' j'=if i'=i/\j'=j then x else tb rows i' j':=by
 have hi2:i<rows.length:=by omega
 unfold tb
 by_cases e:i'=i
 ·subst e;have hrow:(rows.getD i' []).length=n:=hr i' _ (by rw [ID,IG hi2];rfl)
  have e1:(rows.set i' ((rows.getD i' []).set j x)).getD i' []=(rows.getD i' []).set j x:=by
   rw [ID,Ke hi2];rfl
  rw [e1]
  by_cases e2:j'=j
  ·subst e2;rw [if_pos ⟨rfl,rfl⟩,ID,Ke (by omega)]
   rfl
  ·rw [if_neg (fun z=>e2 z.2),ID,Kp (Lr e2),<- ID]
 ·rw [if_neg (fun z=>e z.1)];have e1:(rows.set i ((rows.getD i []).set j x)).getD i' []=rows.getD i' []:=by
   rw [ID,Kp (Lr e),<- ID]
  rw [e1]
def kX {π:List Nat} {n a:Nat} (h:π.Perm (IF n)) (ha:a<n):π.getD a 0<n:=by
 have hl:π.length=n:=by rw [h.length_eq,Jb]
 have:π.getD a 0∈π:=by
  rw [ID,IG (by omega)]
  exact Ks _
 exact IK.mp (h.mem_iff.mp this)
def xE {π:List Nat} {n a b:Nat} (h:π.Perm (IF n)) (ha:a<n) (hb:b<n) (e:π.getD a 0=π.getD b 0):a=b:=by
 have hl:π.length=n:=by rw [h.length_eq,Jb]
 have nd:π.Nodup:=h.nodup_iff.mpr Ku;have ha':a<π.length:=by omega
 have hb':b<π.length:=by omega
 rw [ID,ID,IG ha',IG hb'] at e;exact (LW nd).mp e
structure Ren (n:Nat) (π:List Nat) (R rows:List (List Nat)) (A B:Nat):Prop where
 len:rows.length=n
 row:∀ (i:Nat) (r:List Nat),rows[i]?=some r->r.length=n
 at_:∀ a b,a<n->b<n->(a<A\/(a=A/\b<B))->tb rows (π.getD a 0) (π.getD b 0)=π.getD (tb R a b) 0
def Ren.put {n:Nat} {π:List Nat} {R rows:List (List Nat)} {A B:Nat} (h:Ren n π R rows A B) (hp:π.Perm (IF n)) (hA:A<n) (hB:B<n) :
  Ren n π R (rows.set (π.getD A 0) ((rows.getD (π.getD A 0) []).set (π.getD B 0) (π.getD (tb R A B) 0))) A (B+1):=by
 have iA:=kX hp hA;have iB:=kX hp hB;refine ⟨by rw [LH];exact h.len,fun i r e=>?_,fun a b ha hb c=>?_⟩
 ·by_cases q:i=π.getD A 0
  ·subst q;rw [Ke (by rw [h.len];exact iA)] at e
   cases e;rw [LH];exact h.row (π.getD A 0) _ (getD_some [] (by rw [h.len];exact iA))
  ·rw [Kp (Lr q)] at e;exact h.row i r e
 ·rw [GK h.len h.row iA iB]
  by_cases q:a=A/\b=B
  ·obtain ⟨rfl,rfl⟩:=q;rw [if_pos ⟨rfl,rfl⟩]
  ·rw [if_neg fun z=>q ⟨xE hp ha hA z.1,xE hp hb hB z.2⟩];refine h.at_ a b ha hb ?_;omega
def Ren.next {n:Nat} {π:List Nat} {R rows:List (List Nat)} {A:Nat} (h:Ren n π R rows A n):Ren n π R rows (A+1) 0 :=
 ⟨h.len,h.row,fun a b ha hb c=>h.at_ a b ha hb (by omega)⟩
def Ren.gt {n:Nat} {π:List Nat} {R rows:List (List Nat)} {e:Nat} (h:Ren n π R rows n 0) (hp:π.Perm (IF n)) (g:GT n R e):GT n rows (π.getD e 0) :=
 g.rel π (by rw [hp.length_eq,Jb]) (fun x=>by rw [hp.mem_iff,IK]) ⟨h.len,g.pos,g.le,h.row⟩ fun a b ha hb=>h.at_ a b ha hb (.inl ha)
def DF:List (List Nat):=[[2,2,1,3],[7,1,1,3],[5,1,1,4],[4,2,1,2],[3,3,1,2],[8,1,1,2],[4,1,1,2],[2,2,2,2],[3,1,1,4],[2,2,1,2],[5,1,1,2],[9,1,1,2]]
def fQ (p:Nat->Bool) (i:Nat):(IF (i+1)).filter p=if p i=true then (IF i).filter p++[i] else (IF i).filter p:=by
 rw [K5,List.filter_append];cases q:p i with
 | true=>simp [q]
 | false=>simp [q]
def gv (p:Nat->Bool) (i:Nat):((IF i).filter p).length<=i:=by
 have:=Lm p (IF i);rw [Jb] at this;exact this
def sub_len:∀ {l1 l2:List Nat},l1.Nodup->(∀ x∈l1,x∈l2)->l1.length<=l2.length
 | [],_,_,_=>J6 _
 | a :: l1,l2,nd,h=>by
  have ha:a∈l2:=h a IT;rw [JS] at nd;have ih:=sub_len (l1:=l1) (l2:=l2.erase a) nd.2 fun x hx=>(List.mem_erase_of_ne (show x≠a from fun e=>nd.1 (by rw [<- e];exact hx))).mpr (h x (IM _ hx))
  rw [List.length_erase_of_mem ha] at ih;have:0<l2.length:=KP ha;rw [Jp];omega
def dO {f:Nat->Nat}:∀ {l:List Nat},l.Nodup->(∀ x∈l,∀ y∈l,f x=f y->x=y)->(l.map f).Nodup
 | [],_,_=>by simp
 | a :: l,nd,h=>by
  rw [JS] at nd;rw [JL,JS];refine ⟨fun z=>?_,dO nd.2 fun x hx y hy=>h x (IM _ hx) y (IM _ hy)⟩;obtain ⟨b,hb,e⟩:=IP.mp z;exact nd.1 (h b (IM _ hb) a IT e ▸ hb)
def vc (p:Nat->Bool):∀ l:List Nat,l.length=(l.filter p).length+(l.filter fun y=>!p y).length
 | []=>rfl
 | a :: l=>by
  have ih:=vc p l;cases h:p a with
  | true =>
   rw [LM h,K9 (by simp [h]),Jp,Jp]
   omega
  | false =>
   rw [K9 (by simp [h]),LM (by simp [h]),Jp,Jp]
   omega
def php {n:Nat} {f:Nat->Nat} (h:∀ i,i<=n->f i<n):∃ i j,i<j/\j<=n/\f i=f j:=by
 by_cases q:∃ i j,i<j/\j<=n/\f i=f j
 ·exact q
 ·exfalso
  have nd:((IF (n+1)).map f).Nodup:=dO Ku fun x hx y hy e=>by
   have hx':=IK.mp hx;have hy':=IK.mp hy;rcases Kx x y with z|z|z
   ·exact absurd ⟨x,y,z,by omega,e⟩ q
   ·exact z
   ·exact absurd ⟨y,x,z,by omega,e.symm⟩ q
  have:=sub_len nd (l2:=IF n) fun x hx=>by
   obtain ⟨i,hi,rfl⟩:=IP.mp hx;exact IK.mpr (h i (by have:=IK.mp hi;omega))
  simp at this;omega
section
variable {n:Nat} {t:List (List Nat)} {e:Nat}
def GT.cM (g:GT n t e) {a:Nat} (ha:a<n):a8 n t e a<n:=(g.bk ha).1
def GT.gk (g:GT n t e) {a:Nat} (ha:a<n):tb t a (a8 n t e a)=e:=(g.bk ha).2.1
def GT.uu (g:GT n t e) {a:Nat} (ha:a<n):tb t (a8 n t e a) a=e:=(g.bk ha).2.2
def GT.dD (g:GT n t e) {x y z:Nat} (hx:x<n) (hy:y<n) (hz:z<n) (h:tb t x y=tb t x z):y=z:=by
 have hb:=g.cM hx;have h1:tb t (a8 n t e x) (tb t x y)=tb t (a8 n t e x) (tb t x z):=by rw [h]
 rw [<- g.assoc _ _ _ hb hx hy,<- g.assoc _ _ _ hb hx hz,g.uu hx,g.unl y hy,g.unl z hz] at h1;exact h1
def GT.CY (g:GT n t e) {x y z:Nat} (hx:x<n) (hy:y<n) (hz:z<n) (h:tb t y x=tb t z x):y=z:=by
 have hb:=g.cM hx;have h1:tb t (tb t y x) (a8 n t e x)=tb t (tb t z x) (a8 n t e x):=by rw [h]
 rw [g.assoc _ _ _ hy hx hb,g.assoc _ _ _ hz hx hb,g.gk hx,g.unr y hy,g.unr z hz] at h1;exact h1
def GT.idem (g:GT n t e) {x:Nat} (hx:x<n):tb t x x=x↔x=e:=by
 constructor
 ·intro h;refine g.dD hx hx g.elt ?_;rw [h,g.unr x hx]
 ·rintro rfl;exact g.unl _ hx
def GT.Bw (g:GT n t e) {a b:Nat} (ha:a<n) (hb:b<n) (h:tb t a b=e):b=a8 n t e a :=
 g.dD ha hb (g.cM ha) (h.trans (g.gk ha).symm)
def bp (t:List (List Nat)) (e a:Nat):Nat->Nat
 | 0=>e
 | k+1=>tb t (bp t e a k) a
variable {a:Nat}
def bW (g:GT n t e) (ha:a<n):∀ k,bp t e a k<n
 | 0=>g.elt
 | k+1=>g.lt _ _ (bW g ha k) ha
def kg (g:GT n t e) (ha:a<n):bp t e a 1=a:=g.unl a ha
def fj (g:GT n t e) (ha:a<n) (i:Nat):∀ j,bp t e a (i+j)=tb t (bp t e a i) (bp t e a j)
 | 0=>(g.unr _ (bW g ha i)).symm
 | j+1=>by
  show tb t (bp t e a (i+j)) a=tb t (bp t e a i) (tb t (bp t e a j) a);rw [fj g ha i j,g.assoc _ _ _ (bW g ha i) (bW g ha j) ha]
def Gb (g:GT n t e) (ha:a<n):∃ k,k<n/\bp t e a (k+1)=e:=by
 obtain ⟨i,j,hij,hj,q⟩:=php (f:=bp t e a) (n:=n) fun i _=>bW g ha i;refine ⟨j - i - 1,by omega,?_⟩
 have e1:j=i+(j - i - 1+1):=by omega
 rw [e1,fj g ha] at q;refine (g.dD (bW g ha i) (bW g ha _) g.elt ?_);rw [<- q,g.unr _ (bW g ha i)]
def aW (n:Nat) (t:List (List Nat)) (e a:Nat):Nat:=((IF n).find? fun k=>decide (bp t e a (k+1)=e)).getD 0+1
def dG (g:GT n t e) (ha:a<n):aW n t e a<=n/\bp t e a (aW n t e a)=e/\∀ k,1<=k->k<aW n t e a->bp t e a k≠e:=by
 obtain ⟨k,hk,h⟩:=Gb g ha;unfold aW;cases q:(IF n).find? (fun k=>decide (bp t e a (k+1)=e)) with
 | none =>
  rw [MI] at q;have:=q k hk;simp at this;exact absurd h this
 | some c =>
  rw [MH] at q;obtain ⟨h1,h2,h3⟩:=q;have h2':c<n:=by simpa using h2
  refine ⟨by show c+1<=n;omega,by simpa using h1,fun k k1 k2 z=>?_⟩
  have k2':k<c+1:=k2;have:=h3 (k - 1) (by omega)
  rw [show k - 1+1=k by omega,z] at this
  simp at this
def eQ:1<=aW n t e a:=Nat.succ_le_succ (J6 _)
def kc (g:GT n t e) (ha:a<n) {o:Nat} (h:bp t e a o=e):∀ k,bp t e a (o * k)=e
 | 0=>rfl
 | k+1=>by rw [K7,fj g ha,kc g ha h k,h,g.unl e g.elt]
def yE (g:GT n t e) (ha:a<n) (k:Nat):bp t e a (k % aW n t e a)=bp t e a k:=by
 have h:=(dG g ha).2.1
 conv=>rhs;rw [<- Lk k (aW n t e a),fj g ha,kc g ha h,g.unl _ (bW g ha _)]
def xF (g:GT n t e) (ha:a<n) {i j:Nat} (hi:i<aW n t e a) (hj:j<aW n t e a) (h:bp t e a i=bp t e a j):i=j:=by
 have key:∀ {i j:Nat},i<j->j<aW n t e a->bp t e a i=bp t e a j->False:=fun {i j} hij hj h=>by
  have e1:j=i+(j - i):=by omega
  rw [e1,fj g ha] at h;have:=g.dD (bW g ha i) (bW g ha (j - i)) g.elt (by rw [<- h,g.unr _ (bW g ha i)])
  exact (dG g ha).2.2 (j - i) (by omega) (by omega) this
 rcases Kx i j with z|z|z
 ·exact (key z hj h).elim
 ·exact z
 ·exact (key z hi h.symm).elim
def z7 (g:GT n t e) (ha:a<n) {k:Nat} (h:bp t e a k=e):aW n t e a ∣ k:=by
 have h1:=yE g ha k;rw [h] at h1;have h2:k % aW n t e a<aW n t e a:=Jj _ eQ;have h3:=xF g ha h2 (i:=k % aW n t e a) (j:=0) eQ h1;exact JH h3
def xb (g:GT n t e) {P:List Nat} (nd:P.Nodup) (lt:∀ h∈P,h<n) (he:e∈P) (cl:∀ h∈P,∀ k∈P,tb t h k∈P) (bk:∀ h∈P,a8 n t e h∈P) :
  ∀ (k:Nat) (S:List Nat),S.length<=k->S.Nodup->(∀ x∈S,x<n)->(∀ x∈S,∀ h∈P,tb t x h∈S)->P.length ∣ S.length
 | 0,S,hk,_,_,_=>by
  have:S.length=0:=by omega
  rw [this];exact Nat.dvd_zero _
 | k+1,[],_,_,_,_=>Nat.dvd_zero _
 | k+1,x :: S,hk,hn,hl,hc=>by
  have hx:x<n:=hl x IT
  let C:=P.map (tb t x)
  have cn:C.Nodup:=dO nd fun y hy z hz q=>g.dD hx (lt y hy) (lt z hz) q;have cs:∀ y∈C,y∈x :: S:=fun y hy=>by
   obtain ⟨h,hh,rfl⟩:=IP.mp hy;exact hc x IT h hh
  have xC:x∈C:=IP.mpr ⟨e,he,g.unr x hx⟩;have ih:=xb g nd lt he cl bk k ((x :: S).filter fun y=>!decide (y∈C)) (by
    have:((x :: S).filter fun y=>!decide (y∈C))=S.filter fun y=>!decide (y∈C):=by
     rw [K9];simp [xC]
    rw [this];have:=Lm (fun y=>!decide (y∈C)) S;rw [Jp] at hk;omega)
   (hn.sublist NR) (fun y hy=>hl y (JX.mp hy).1) fun y hy h hh=>by
    have hy1:=JX.mp hy;have hyn:=hl y hy1.1;refine JX.mpr ⟨hc y hy1.1 h hh,?_⟩;have ny:y∉C:=by simpa using hy1.2
    simp only [Bool.not_eq_true',decide_eq_false_iff_not];intro z;obtain ⟨h',hh',q⟩:=IP.mp z;have hb:=bk h hh;refine ny (IP.mpr ⟨tb t h' (a8 n t e h),cl h' hh' _ hb,?_⟩);rw [<- g.assoc _ _ _ hx (lt h' hh') (lt _ hb),q,g.assoc _ _ _ hyn (lt h hh) (lt _ hb),g.gk (lt h hh),g.unr y hyn]
  have e1:((x :: S).filter fun y=>decide (y∈C)).length=P.length:=by
   have l1:((x :: S).filter fun y=>decide (y∈C)).length<=C.length:=sub_len (hn.sublist NR) fun y hy=>by simpa using (JX.mp hy).2
   have l2:C.length<=((x :: S).filter fun y=>decide (y∈C)).length:=sub_len cn fun y hy=>JX.mpr ⟨cs y hy,by simpa using hy⟩
   have l3:C.length=P.length:=IE ..;omega
  have e2:(x :: S).length=((x :: S).filter fun y=>decide (y∈C)).length+((x :: S).filter fun y=>!decide (y∈C)).length:=vc _ _;rw [e2,e1];exact (Nat.dvd_add_right (Nat.dvd_refl _)).mpr ih
def CT (g:GT n t e) (ha:a<n):aW n t e a ∣ n:=by
 let P:=(IF (aW n t e a)).map (bp t e a)
 have mem:∀ k,bp t e a k∈P:=fun k=>by
  rw [<- yE g ha k];exact IP.mpr ⟨_,IK.mpr (Jj _ eQ),rfl⟩
 have frm:∀ h∈P,∃ k,k<aW n t e a/\bp t e a k=h:=fun h hh=>by
  obtain ⟨k,hk,q⟩:=IP.mp hh;exact ⟨k,IK.mp hk,q⟩
 have r:=xb g (P:=P) (dO Ku fun x hx y hy q=>xF g ha (IK.mp hx) (IK.mp hy) q)
  (fun h hh=>by obtain ⟨k,_,rfl⟩:=frm h hh;exact bW g ha k) (mem 0)
  (fun h hh k hk=>by
   obtain ⟨i,_,rfl⟩:=frm h hh;obtain ⟨j,_,rfl⟩:=frm k hk;rw [<- fj g ha];exact mem _)
  (fun h hh=>by
   obtain ⟨i,hi,rfl⟩:=frm h hh;have q:tb t (bp t e a i) (bp t e a (aW n t e a - i))=e:=by
    rw [<- fj g ha,show i+(aW n t e a - i)=aW n t e a by omega]
    exact (dG g ha).2.1
   rw [<- g.Bw (bW g ha i) (bW g ha _) q];exact mem _)
  n (IF n) (by simp) Ku (fun x hx=>IK.mp hx) fun x hx h hh=>by
   obtain ⟨k,_,rfl⟩:=frm h hh;exact IK.mpr (g.lt _ _ (IK.mp hx) (bW g ha k))
 have e1:P.length=aW n t e a:=by simp [P]
 rw [e1,Jb] at r;exact r
def Gm (g:GT n t e) (ha:a<n):bp t e a n=e:=by
 obtain ⟨k,hk⟩:=CT g ha
 conv=>lhs;rw [hk]
 exact kc g ha (dG g ha).2.1 k
end
def A2 {n:Nat} {t:List (List Nat)} {e:Nat} (g:GT n t e):((IF n).filter fun a=>decide (tb t a a=a))[0]?=some e:=by
 have he:e∈(IF n).filter fun a=>decide (tb t a a=a):=JX.mpr ⟨IK.mpr g.elt,by simpa using (g.idem g.elt).mpr rfl⟩
 cases q:(IF n).filter fun a=>decide (tb t a a=a) with
 | nil=>rw [q] at he;cases he
 | cons x r =>
  have hx:x∈(IF n).filter fun a=>decide (tb t a a=a):=by rw [q];exact IT
  have h1:=JX.mp hx;have h2:=(g.idem (IK.mp h1.1)).mp (by simpa using h1.2)
  rw [h2];rfl
structure bP (l:List Nat) (k:Nat):Prop where
 pos:1<=k
 all:∀ s∈l,k % s=0
 least:∀ j,1<=j->j<k->∃ s,s∈l/\j % s≠0
def bP.uni {l:List Nat} {k k':Nat} (h:bP l k) (h':bP l k'):k=k':=by
 rcases Kx k k' with z|z|z
 ·obtain ⟨s,hs,q⟩:=h'.least k h.pos z;exact absurd (h.all s hs) q
 ·exact z
 ·obtain ⟨s,hs,q⟩:=h.least k' h'.pos z;exact absurd (h'.all s hs) q
def bnd:List Nat->Nat
 | []=>1
 | s :: l=>s * bnd l
def tR:∀ {l:List Nat},(∀ s∈l,1<=s)->1<=bnd l
 | [],_=>IV _
 | s :: l,h=>J8 (h s IT) (tR fun x hx=>h x (IM _ hx))
def tZ:∀ {l:List Nat} {s:Nat},s∈l->bnd l % s=0
 | a :: l,s,h=>by
  rcases JB.mp h with z|z
  ·subst z;exact MK s (bnd l)
  ·have ih:=tZ z;obtain ⟨c,hc⟩:=JH ih;show a * bnd l % s=0;rw [hc,LS];exact MK s _
def my:∀ {l r:List Nat},l.Pairwise (· < ·)->r.Pairwise (· < ·)->(∀ x,x∈l↔x∈r)->l=r
 | [],[],_,_,_=>rfl
 | [],b :: r,_,_,h=>absurd ((h b).mpr IT) (by simp)
 | a :: l,[],_,_,h=>absurd ((h a).mp IT) (by simp)
 | a :: l,b :: r,hl,hr,h=>by
  rw [Lf] at hl hr;have e:a=b:=by
   rcases JB.mp ((h a).mp IT) with z|z
   ·exact z
   ·rcases JB.mp ((h b).mpr IT) with y|y
    ·exact y.symm
    ·have h1:=hr.1 a z;have h2:=hl.1 b y;omega
  subst e;refine congrArg (a :: ·) (my hl.2 hr.2 fun x=>?_);constructor
  ·intro hx;rcases JB.mp ((h x).mp (IM _ hx)) with z|z
   ·have:=hl.1 x hx;omega
   ·exact z
  ·intro hx;rcases JB.mp ((h x).mpr (IM _ hx)) with z|z
   ·have:=hr.1 x hx;omega
   ·exact z
def nv:∀ {l:List Nat},l.Nodup->l.Pairwise (·<=·)->l.Pairwise (· < ·)
 | [],_,_=>.nil
 | a :: l,nd,h=>by
  rw [JS] at nd;rw [Lf] at h ⊢;refine ⟨fun b hb=>?_,nv nd.2 h.2⟩;have h1:=h.1 b hb;have h2:a≠b:=fun z=>nd.1 (by rw [z];exact hb)
  omega
def bF {l:List Nat} (h:l.Pairwise (· < ·)):l.Nodup:=h.imp fun z=>Jm z
def eV {l:List Nat} {n:Nat} (nd:l.Nodup) (h:∀ x∈l,x<n):l.length<=n:=by
 have:=sub_len nd (l2:=IF n) fun x hx=>IK.mpr (h x hx)
 simpa using this
section
variable {n:Nat} {t:List (List Nat)} {e:Nat}
def B8 (g:GT n t e) {x:Nat} (hx:x<n):∀ (l:List Nat) {a:Nat},a<n->(∀ y∈l,y<n)->prd t (tb t x a) l=tb t x (prd t a l)
 | [],_,_,_=>rfl
 | y :: l,a,ha,hl=>by
  have hy:=hl y IT;show prd t (tb t (tb t x a) y) l=tb t x (prd t (tb t a y) l);rw [g.assoc x a y hx ha hy];exact B8 g hx l (g.lt a y ha hy) fun z hz=>hl z (IM _ hz)
def xq (g:GT n t e) {x:Nat} (hx:x<n) {l:List Nat} (hl:∀ y∈l,y<n):prd t x l=tb t x (prd t e l):=by
 rw [<- B8 g hx l g.elt hl,g.unr x hx]
def E9 (a:Nat) (l r:List Nat):prd t a (l++r)=prd t (prd t a l) r:=by
 unfold prd;rw [List.foldl_append]
structure Gen (n:Nat) (t:List (List Nat)) (e:Nat) (S P:List Nat):Prop where
 srt:P.Pairwise (· < ·)
 lt:∀ x∈P,x<n
 un:e∈P
 cl:∀ x∈P,∀ s∈S,tb t x s∈P
 wd:∀ x∈P,∃ l,(∀ y∈l,y∈S)/\prd t e l=x
structure IsPart (n:Nat) (t:List (List Nat)) (P:List Nat):Prop where
 srt:P.Pairwise (· < ·)
 lt:∀ x∈P,x<n
 ne:P≠[]
 cl:∀ x∈P,∀ y∈P,tb t x y∈P
variable {S P:List Nat}
def Gen.walk (G:Gen n t e S P):∀ (l:List Nat) {x:Nat},x∈P->(∀ y∈l,y∈S)->prd t x l∈P
 | [],_,hx,_=>hx
 | y :: l,x,hx,hl=>G.walk l (G.cl x hx y (hl y IT)) fun z hz=>hl z (IM _ hz)
def Gen.part (G:Gen n t e S P) (g:GT n t e) (hS:∀ s∈S,s<n):IsPart n t P:=by
 refine ⟨G.srt,G.lt,LN G.un,fun x hx y hy=>?_⟩;obtain ⟨l,hl,rfl⟩:=G.wd y hy;rw [<- xq g (G.lt x hx) fun z hz=>hS z (hl z hz)];exact G.walk l hx hl
def IsPart.pow (h:IsPart n t P) (g:GT n t e) {x:Nat} (hx:x∈P):∀ k,bp t e x (k+1)∈P
 | 0=>by rw [kg g (h.lt x hx)];exact hx
 | k+1=>h.cl _ (h.pow g hx k) _ hx
def IsPart.un (h:IsPart n t P) (g:GT n t e):e∈P:=by
 obtain ⟨x,hx⟩:=List.exists_mem_of_ne_nil _ h.ne;have o:=dG g (h.lt x hx);have:=h.pow g hx (aW n t e x - 1);rw [show aW n t e x - 1+1=aW n t e x by have:=eQ (n:=n) (t:=t) (e:=e) (a:=x);omega,o.2.1] at this
 exact this
def IsPart.bk (h:IsPart n t P) (g:GT n t e) {x:Nat} (hx:x∈P):a8 n t e x∈P:=by
 have hn:=h.lt x hx;have o:=dG g hn;have op:1<=aW n t e x:=eQ;have q:tb t x (bp t e x (aW n t e x - 1))=e:=by
  have:=fj g hn 1 (aW n t e x - 1);rw [show 1+(aW n t e x - 1)=aW n t e x by omega,o.2.1,kg g hn] at this
  exact this.symm
 rw [<- g.Bw hn (bW g hn _) q];cases h1:aW n t e x - 1 with
 | zero=>exact h.un g
 | succ k=>exact h.pow g hx k
def IsPart.len (h:IsPart n t P):P.length<=n:=eV (bF h.srt) h.lt
def Gen.len (G:Gen n t e S P):P.length<=n:=eV (bF G.srt) G.lt
def Gen.has (G:Gen n t e S P) (g:GT n t e) {s:Nat} (hs:s∈S) (hn:s<n):s∈P:=by
 have:=G.cl e G.un s hs;rw [g.unl s hn] at this;exact this
structure kM (n:Nat) (t:List (List Nat)) (e:Nat) (S F:List Nat) (A:Nat):Prop where
 nd:F.Nodup
 lt:∀ x∈F,x<n
 un:e∈F
 le:A<=F.length
 cl:∀ i x,i<A->F[i]?=some x->∀ s∈S,tb t x s∈F
 wd:∀ x∈F,∃ l,(∀ y∈l,y∈S)/\prd t e l=x
def kM.len {F:List Nat} {A:Nat} (G:kM n t e S F A):F.length<=n:=eV G.nd G.lt
def kM.put {F:List Nat} {A x s:Nat} (G:kM n t e S F A) (g:GT n t e) (hx:x∈F) (hs:s∈S) (hn:s<n) (h:tb t x s∉F):kM n t e S (F++[tb t x s]) A:=by
 refine ⟨?_,fun y hy=>?_,J2 _ G.un,by rw [IZ];have:=G.le;omega,fun i y hi e' r hr=>?_,fun y hy=>?_⟩
 ·rw [ME];exact ⟨G.nd,by simp,fun a ha b hb=>by rw [I0.mp hb];exact fun z=>h (z ▸ ha)⟩
 ·rcases JG.mp hy with z|z
  ·exact G.lt y z
  ·rw [I0.mp z];exact g.lt x s (G.lt x hx) hn
 ·rw [Jk (Ja hi G.le)] at e';exact J2 _ (G.cl i y hi e' r hr)
 ·rcases JG.mp hy with z|z
  ·exact G.wd y z
  ·obtain ⟨l,hl,q⟩:=G.wd x hx;refine ⟨l++[s],fun u hu=>?_,?_⟩
   ·rcases JG.mp hu with z' | z'
    ·exact hl u z'
    ·rw [I0.mp z'];exact hs
   ·rw [E9,q,I0.mp z];rfl
def kM.next {F:List Nat} {A x:Nat} (G:kM n t e S F A) (hx:F[A]?=some x) (h:∀ s∈S,tb t x s∈F):kM n t e S F (A+1) :=
 ⟨G.nd,G.lt,G.un,(II.mp hx).1,fun i y hi e'=>by
  rcases JI i A with z|z
  ·exact G.cl i y z e'
  ·have:i=A:=by omega
   subst this;rw [hx] at e';cases e';exact h,G.wd⟩
def kM.gen {F P:List Nat} {A:Nat} (G:kM n t e S F A) (hA:F.length<=A) (hp:P.Perm F) (hs:P.Pairwise (·<=·)):Gen n t e S P:=by
 refine ⟨nv (hp.nodup_iff.mpr G.nd) hs,fun x hx=>G.lt x (hp.mem_iff.mp hx),hp.mem_iff.mpr G.un,fun x hx s hs'=>?_,fun x hx=>G.wd x (hp.mem_iff.mp hx)⟩;obtain ⟨i,hi,e'⟩:=NH.mp (hp.mem_iff.mp hx);exact hp.mem_iff.mpr (G.cl i x (by omega) (by rw [IG hi,e']) s hs')
end
def thg (c:Int) (k n:Nat):Nat:=((c % 2147483647).toNat * 48271+69621 * k * k+7 * k) % 2147483629 * (((c % 2147483647).toNat * 48271+69621 * k * k+7 * k) % 2147483629) % 2147483587 % n
def sI (c:Int) (k:Nat) {n:Nat} (h:1<=n):thg c k n<n:=Jj _ h
structure wk (n:Nat) (t:List (List Nat)) (e:Nat) (R:List Nat) (L:List (List Nat)):Prop where
 ne:∀ s∈L,s≠[]
 srt:∀ s∈L,s.Pairwise (· < ·)
 lt:∀ s∈L,∀ x∈s,x<n
 len:∀ s∈L,s.length=R.length
 side:∀ s∈L,∀ x∈s,tb t (a8 n t e (s.getD 0 0)) x∈R
 heads:(L.map fun s=>s.getD 0 0).Pairwise (· < ·)
 all:L.flatten.Perm (IF n)
section
variable {n:Nat} {t:List (List Nat)} {e:Nat} {R:List Nat}
def cX (g:GT n t e) (p:IsPart n t R) {x y:Nat} (hx:x<n) (hy:y<n):tb t (a8 n t e x) y∈R↔∃ h,h∈R/\tb t x h=y:=by
 have hb:=g.cM hx;constructor
 ·intro h;refine ⟨_,h,?_⟩;rw [<- g.assoc _ _ _ hx hb hy,g.gk hx,g.unl y hy]
 ·rintro ⟨h,hh,rfl⟩;rw [<- g.assoc _ _ _ hb hx (p.lt h hh),g.uu hx,g.unl h (p.lt h hh)];exact hh
def va (g:GT n t e) (p:IsPart n t R) {x:Nat} (hx:x<n):tb t (a8 n t e x) x∈R:=by
 rw [g.uu hx];exact p.un g
def jc (g:GT n t e) (p:IsPart n t R) {a x y:Nat} (ha:a<n) (hx:x<n) (hy:y<n) (h1:tb t (a8 n t e a) x∈R) (h2:tb t (a8 n t e a) y∈R):tb t (a8 n t e x) y∈R:=by
 obtain ⟨k1,hk1,rfl⟩:=(cX g p ha hx).mp h1;obtain ⟨k2,hk2,rfl⟩:=(cX g p ha hy).mp h2;have l1:=p.lt k1 hk1;have l2:=p.lt k2 hk2;have lb:=g.cM l1;refine (cX g p hx hy).mpr ⟨tb t (a8 n t e k1) k2,p.cl _ (p.bk g hk1) _ hk2,?_⟩;rw [g.assoc _ _ _ ha l1 (g.lt _ _ lb l2),<- g.assoc k1 _ _ l1 lb l2,g.gk l1,g.unl k2 l2]
def dz (g:GT n t e) (p:IsPart n t R) {a x:Nat} (ha:a<n) (hx:x<n) (h:tb t (a8 n t e a) x∈R):tb t (a8 n t e x) a∈R:=jc g p ha hx ha h (va g p ha)
structure cW (n:Nat) (t:List (List Nat)) (e:Nat) (R:List Nat) (L:List (List Nat)) (i:Nat):Prop where
 ne:∀ s∈L,s≠[]
 srt:∀ s∈L,s.Pairwise (· < ·)
 lt:∀ s∈L,∀ x∈s,x<n
 len:∀ s∈L,s.length=R.length
 full:∀ s∈L,∀ y,y<n->(y∈s↔tb t (a8 n t e (s.getD 0 0)) y∈R)
 heads:(L.map fun s=>s.getD 0 0).Pairwise (· < ·)
 hl:∀ s∈L,s.getD 0 0<i
 nd:L.flatten.Nodup
 cov:∀ y,y<i->y∈L.flatten
def cW.nil:cW n t e R [] 0 :=
 ⟨by simp,by simp,by simp,by simp,by simp,by simp,by simp,by simp,fun y h=>absurd h (by omega)⟩
def head_mem {s:List Nat} (h:s≠[]):s.getD 0 0∈s:=by
 cases s with
 | nil=>exact absurd rfl h
 | cons a r=>simp
def cW.old {L:List (List Nat)} {i:Nat} (S:cW n t e R L i) (h:i∈L.flatten):cW n t e R L (i+1) :=
 ⟨S.ne,S.srt,S.lt,S.len,S.full,S.heads,fun s hs=>MD (S.hl s hs),S.nd,fun y hy=>by
  rcases JI y i with z|z
  ·exact S.cov y z
  ·have:y=i:=by omega
   rw [this];exact h⟩
def cW.new {L:List (List Nat)} {i:Nat} {s:List Nat} (S:cW n t e R L i) (g:GT n t e) (p:IsPart n t R) (hi:i<n) (h:i∉L.flatten) (hs:s.Pairwise (· < ·)) (hm:∀ y,y∈s↔∃ k,k∈R/\tb t i k=y):cW n t e R (L++[s]) (i+1):=by
 have hlt:∀ y∈s,y<n:=fun y hy=>by
  obtain ⟨k,hk,rfl⟩:=(hm y).mp hy;exact g.lt _ _ hi (p.lt k hk)
 have his:i∈s:=(hm i).mpr ⟨e,p.un g,g.unr i hi⟩;have hne:s≠[]:=LN his;have apart:∀ y∈s,y∉L.flatten:=fun y hy hf=>by
  obtain ⟨s',hs',hy'⟩:=KW.mp hf;have hn:=hlt y hy;have h0:=S.lt s' hs' _ (head_mem (S.ne s' hs'));have q1:=(S.full s' hs' y hn).mp hy';have q2:tb t (a8 n t e i) y∈R:=(cX g p hi hn).mpr ((hm y).mp hy);have q3:=dz g p hi hn q2;have q4:=jc g p hn h0 hi (dz g p h0 hn q1) q3;exact h (KW.mpr ⟨s',hs',(S.full s' hs' i hi).mpr q4⟩)
 have hge:∀ y∈s,i<=y:=fun y hy=>by
  rcases JI y i with z|z
  ·exact absurd (S.cov y z) (apart y hy)
  ·exact z
 have h0:s.getD 0 0=i:=by
  have h1:=hge _ (head_mem hne);cases s with
  | nil=>exact absurd rfl hne
  | cons a r =>
   have h1:i<=a:=h1;show a=i;rcases JB.mp his with z|z
   ·exact z.symm
   ·have:=(Lf.mp hs).1 i z;omega
 have hnd:=bF hs;have hlen:s.length=R.length:=by
  have m1:(R.map (tb t i)).Nodup:=dO (bF p.srt) fun x hx y hy q=>g.dD hi (p.lt x hx) (p.lt y hy) q;have e1:=sub_len hnd (l2:=R.map (tb t i)) fun y hy=>by
   obtain ⟨k,hk,q⟩:=(hm y).mp hy;exact IP.mpr ⟨k,hk,q⟩
  have e2:=sub_len m1 (l2:=s) fun y hy=>by
   obtain ⟨k,hk,q⟩:=IP.mp hy;exact (hm y).mpr ⟨k,hk,q⟩
  rw [IE] at e1 e2;omega
 have two:∀ {Z:List Nat->Prop},(∀ s'∈L,Z s')->Z s->∀ s'∈L++[s],Z s':=fun {Z} a b s' hs'=>by
  rcases JG.mp hs' with z|z
  ·exact a s' z
  ·rw [I0.mp z];exact b
 refine ⟨two S.ne hne,two S.srt hs,two S.lt hlt,two S.len hlen,two S.full fun y hy=>?_,?_,two (fun s' hs'=>MD (S.hl s' hs')) (by omega),?_,fun y hy=>?_⟩
 ·rw [h0,hm y];exact (cX g p hi hy).symm
 ·rw [JO];refine List.pairwise_append.mpr ⟨S.heads,by simp,fun a ha b hb=>?_⟩
  obtain ⟨s',hs',rfl⟩:=IP.mp ha;have:b=s.getD 0 0:=by simpa using hb
  rw [this,h0];exact S.hl s' hs'
 ·rw [NS];refine ME.mpr ⟨S.nd,by simpa using hnd,fun x hx y hy q=>?_⟩
  have hy':y∈s:=by simpa using hy
  rw [q] at hx;exact apart y hy' hx
 ·rw [NS];rcases JI y i with z|z
  ·exact J2 _ (S.cov y z)
  ·have:y=i:=by omega
   rw [this];exact Jx _ (by simpa using his)
def cW.fin {L:List (List Nat)} (S:cW n t e R L n):wk n t e R L:=by
 refine ⟨S.ne,S.srt,S.lt,S.len,fun s hs x hx=>(S.full s hs x (S.lt s hs x hx)).mp hx,S.heads,?_⟩;refine (Lq S.nd Ku).mpr fun x=>⟨fun hx=>?_,fun hx=>S.cov x (IK.mp hx)⟩;obtain ⟨s,hs,hx'⟩:=KW.mp hx;exact IK.mpr (S.lt s hs x hx')
end
section
variable {n:Nat} {t:List (List Nat)} {e:Nat} {S F:List Nat} {W:List (List Nat)}
end
section
variable {n:Nat} {t:List (List Nat)} {e:Nat} {R:List Nat}
def zJ {s:List Nat} (hs:s.Pairwise (· < ·)) {x:Nat} (hx:x∈s):s.getD 0 0<=x:=by
 cases s with
 | nil=>exact absurd hx (by simp)
 | cons a r =>
  show a<=x;rcases JB.mp hx with rfl|z
  ·exact IV _
  ·exact K6 ((Lf.mp hs).1 x z)
def cW.step {L:List (List Nat)} {i:Nat} {s:List Nat} (S:cW n t e R L i) (g:GT n t e) (p:IsPart n t R) (hi:i<n) (hs:s.Pairwise (· < ·)) (hm:∀ y,y∈s↔∃ k,k∈R/\tb t i k=y) :
  i∈s/\(s.getD 0 0=i->i∉L.flatten)/\(s.getD 0 0≠i->i∈L.flatten):=by
 have is:i∈s:=(hm i).mpr ⟨e,p.un g,g.unr i hi⟩;have hh:=head_mem (LN is);have le:=zJ hs is;refine ⟨is,fun eh hf=>?_,fun eh=>?_⟩
 ·obtain ⟨s',hs',hi'⟩:=KW.mp hf;have h1:=S.hl s' hs';have h2:=(S.full s' hs' i hi).mp hi';have h3:=dz g p (by omega) hi h2
  obtain ⟨k,hk,ek⟩:=(cX g p hi (by omega)).mp h3
  have:=zJ hs ((hm _).mpr ⟨k,hk,ek⟩);omega
 ·obtain ⟨s',hs',hi'⟩:=KW.mp (S.cov (s.getD 0 0) (by omega))
  have h1:=S.hl s' hs';have h2:=(S.full s' hs' _ (by omega)).mp hi'
  have h3:=dz g p (by omega) (by omega) h2
  have h4:=(cX g p hi (by omega)).mpr ((hm _).mp hh)
  have h5:=dz g p hi (by omega) h4
  exact KW.mpr ⟨s',hs',(S.full s' hs' i hi).mpr (jc g p (by omega) (by omega) hi h3 h5)⟩
end
section
variable {t:List (List Nat)} {R M:List Nat} {m:Nat}
def fD (t:List (List Nat)) (R M:List Nat) (m j k:Nat):Prop:=M.getD (R.idxOf (tb t (R.getD j 0) (R.getD k 0))) 0=(M.getD j 0+M.getD k 0) % m
def oM (t:List (List Nat)) (R M:List Nat) (m:Nat):Option (Nat×Nat)->Prop
 | none=>∀ j,j<R.length->∀ k,k<R.length->fD t R M m j k
 | some (a,b)=>∃ j k,j<R.length/\k<R.length/\R.getD j 0=a/\R.getD k 0=b/\¬ fD t R M m j k/\(∀ j',j' < j->∀ k',k' < R.length->fD t R M m j' k')/\∀ k',k' < k->fD t R M m j k'
def oM.uni {o o':Option (Nat×Nat)} (h:oM t R M m o) (h':oM t R M m o'):o=o':=by
 cases o with
 | none =>
  cases o' with
  | none=>rfl
  | some p =>
   obtain ⟨a,b⟩:=p;obtain ⟨j,k,hj,hk,_,_,q,_⟩:=h';exact absurd (h j hj k hk) q
 | some p =>
  obtain ⟨a,b⟩:=p;obtain ⟨j,k,hj,hk,ea,eb,q,q1,q2⟩:=h;cases o' with
  | none=>exact absurd (h' j hj k hk) q
  | some p' =>
   obtain ⟨a',b'⟩:=p';obtain ⟨j',k',hj',hk',ea',eb',q',q1',q2'⟩:=h';have ej:j=j':=by
    rcases Kx j j' with z|z|z
    ·exact absurd (q1' j z k hk) q
    ·exact z
    ·exact absurd (q1 j' z k' hk') q'
   subst ej;have ek:k=k':=by
    rcases Kx k k' with z|z|z
    ·exact absurd (q2' k z) q
    ·exact z
    ·exact absurd (q2 k' z) q'
   subst ek;rw [<- ea,<- eb,<- ea',<- eb']
def tN {l:List Nat} {x:Nat} (h:x∈l):l[l.idxOf x]?=some x:=by
 rw [IG (Jt h)];simp
def nL:∀ {l:List Nat} {x i:Nat},i<l.idxOf x->l[i]?≠some x
 | [],_,_,h=>absurd h (by simp)
 | y :: l,x,i,h=>by
  rw [List.idxOf_cons] at h
  by_cases e:y=x
  ·subst e;simp at h
  ·have hb:(y == x)=false:=by simp [e]
   rw [hb] at h;cases i with
   | zero=>simpa using e
   | succ i =>
    have h':i<l.idxOf x:=by simpa using h
    simpa using nL h'
end
section
variable {n:Nat} {t:List (List Nat)} {e:Nat} {R:List Nat}
def Bq (n:Nat) (t:List (List Nat)) (e:Nat) (R:List Nat) (x:Nat):Bool:=decide (∀ y,y<x->tb t (a8 n t e y) x∉R)
def qQ (n:Nat) (t:List (List Nat)) (e:Nat) (R:List Nat) (i:Nat):List Nat:=(IF i).filter (Bq n t e R)
def aG (n:Nat) (t:List (List Nat)) (e:Nat) (R:List Nat):List Nat:=qQ n t e R n
def Ag {i x:Nat}:x∈qQ n t e R i↔x<i/\∀ y,y<x->tb t (a8 n t e y) x∉R:=by
 unfold qQ Bq;rw [JX,IK,decide_eq_true_iff]
def iu {x:Nat}:x∈aG n t e R↔x<n/\∀ y,y<x->tb t (a8 n t e y) x∉R:=Ag
def AH {i:Nat}:(qQ n t e R i).Pairwise (· < ·):=NI _ Nc
def kz:(aG n t e R).Pairwise (· < ·):=AH
def a9 {x:Nat} (h:x∈aG n t e R):x<n:=(iu.mp h).1
def gw:(aG n t e R).length<=n:=eV (bF kz) fun x hx=>a9 hx
def lJ (g:GT n t e) (p:IsPart n t R) (x:Nat) (hx:x<n):∃ c,c∈aG n t e R/\tb t (a8 n t e c) x∈R:=by
 induction x using Nat.strongRecOn with
 | ind x ih =>
  by_cases h:∀ y,y<x->tb t (a8 n t e y) x∉R
  ·exact ⟨x,iu.mpr ⟨hx,h⟩,va g p hx⟩
  ·obtain ⟨y,hy⟩:=Classical.not_forall.mp h;obtain ⟨yx,hr⟩:=Classical.not_imp.mp hy;have hr':=Classical.not_not.mp hr;have yn:=Nr yx hx;obtain ⟨c,hc,q⟩:=ih y yx yn;exact ⟨c,hc,jc g p yn (a9 hc) hx (dz g p (a9 hc) yn q) hr'⟩
def qu (g:GT n t e) (p:IsPart n t R) {x c c':Nat} (hx:x<n) (hc:c∈aG n t e R) (hc':c'∈aG n t e R) (h:tb t (a8 n t e c) x∈R) (h':tb t (a8 n t e c') x∈R):c=c':=by
 have l:=a9 hc;have l':=a9 hc';have q:=jc g p hx l l' (dz g p l hx h) (dz g p l' hx h');have q':=dz g p l l' q;rcases Kx c c' with z|z|z
 ·exact absurd q ((iu.mp hc').2 c z)
 ·exact z
 ·exact absurd q' ((iu.mp hc).2 c' z)
def xN {s:List Nat} {x:Nat} (h:s.Pairwise (· < ·)) (hx:x∈s):s.getD 0 0<=x:=by
 cases s with
 | nil=>cases hx
 | cons a r =>
  show a<=x;rcases JB.mp hx with z|z
  ·omega
  ·have:=(Lf.mp h).1 x z;omega
def wk.aG {L:List (List Nat)} (S:wk n t e R L) (g:GT n t e) (p:IsPart n t R):L.map (fun s=>s.getD 0 0)=aG n t e R:=by
 refine my S.heads kz fun x=>?_;have full:∀ s∈L,∀ y,y<n->tb t (a8 n t e (s.getD 0 0)) y∈R->y∈s:=fun s hs y hy h=>by
  refine Kh fun no=>?_;have h0:=S.lt s hs _ (head_mem (S.ne s hs));have nd:(y :: s).Nodup:=JS.mpr ⟨no,bF (S.srt s hs)⟩;have:=sub_len nd (l2:=R.map (tb t (s.getD 0 0))) fun z hz=>by
   have hzr:z<n/\tb t (a8 n t e (s.getD 0 0)) z∈R:=by
    rcases JB.mp hz with q|q
    ·rw [q];exact ⟨hy,h⟩
    ·exact ⟨S.lt s hs z q,S.side s hs z q⟩
   obtain ⟨k,hk,q⟩:=(cX g p h0 hzr.1).mp hzr.2;exact IP.mpr ⟨k,hk,q⟩
  rw [Jp,IE,S.len s hs] at this;omega
 constructor
 ·intro hx;obtain ⟨s,hs,rfl⟩:=IP.mp hx;have h0:=S.lt s hs _ (head_mem (S.ne s hs));refine iu.mpr ⟨h0,fun y hy q=>?_⟩;have hyn:=Nr hy h0;have ys:=full s hs y hyn (dz g p hyn h0 q);have:=xN (S.srt s hs) ys;have hy':y<s.getD 0 0:=hy;omega
 ·intro hx;obtain ⟨hxn,h⟩:=iu.mp hx;obtain ⟨s,hs,xs⟩:=KW.mp (S.all.mem_iff.mpr (IK.mpr hxn));refine IP.mpr ⟨s,hs,?_⟩;have h1:=S.side s hs x xs;have hle:=xN (S.srt s hs) xs;show s.getD 0 0=x;rcases JI (s.getD 0 0) x with z|z
  ·exact absurd h1 (h _ z)
  ·omega
def hm (n:Nat) (t:List (List Nat)) (e:Nat) (R:List Nat) (x:Nat):Nat:=(aG n t e R).findIdx fun c=>decide (tb t (a8 n t e c) x∈R)
def ov (n:Nat) (t:List (List Nat)) (e:Nat) (R:List Nat) (x:Nat):Nat:=tb t (a8 n t e ((aG n t e R).getD (hm n t e R x) 0)) x
def AK (g:GT n t e) (p:IsPart n t R) {x i c:Nat} (hx:x<n) (hi:(aG n t e R)[i]?=some c) (h:tb t (a8 n t e c) x∈R):hm n t e R x=i:=by
 obtain ⟨hl,ec⟩:=II.mp hi;have hex:∃ c,c∈aG n t e R/\decide (tb t (a8 n t e c) x∈R)=true:=⟨c,IH hi,decide_eq_true h⟩;have hlt:hm n t e R x<(aG n t e R).length:=List.findIdx_lt_length_of_exists hex;have hget:=List.findIdx_getElem (w:=hlt);have h2:tb t (a8 n t e ((aG n t e R)[hm n t e R x])) x∈R:=of_decide_eq_true hget;have hc2:(aG n t e R)[hm n t e R x]∈aG n t e R:=Ks hlt;have:=qu g p hx (IH hi) hc2 h h2;have nd:=bF (kz (n:=n) (t:=t) (e:=e) (R:=R));exact (LW nd).mp (by rw [ec,<- this])
def jP (g:GT n t e) (p:IsPart n t R) {x:Nat} (hx:x<n):∃ c,(aG n t e R)[hm n t e R x]?=some c/\c<n/\tb t (a8 n t e c) x=ov n t e R x/\ov n t e R x∈R:=by
 obtain ⟨c,hc,h⟩:=lJ g p x hx;obtain ⟨i,hi⟩:=J3 hc;have q:=AK g p hx hi h;have hg:(aG n t e R).getD i 0=c:=by rw [ID,hi];rfl
 have ho:ov n t e R x=tb t (a8 n t e c) x:=by unfold ov;rw [q,hg]
 exact ⟨c,by rw [q];exact hi,a9 hc,ho.symm,by rw [ho];exact h⟩
def wK (g:GT n t e) (p:IsPart n t R) {x i c k h:Nat} (hi:(aG n t e R)[i]?=some c) (hk:R[k]?=some h) (q:tb t c h=x):hm n t e R x=i/\R.idxOf (ov n t e R x)=k:=by
 have hc:=IH hi;have hh:=IH hk;have cn:=a9 hc;have hn:=p.lt h hh;have hx:x<n:=by rw [<- q];exact g.lt _ _ cn hn
 have hb:=g.cM cn;have e1:tb t (a8 n t e c) x=h:=by rw [<- q,<- g.assoc _ _ _ hb cn hn,g.uu cn,g.unl h hn]
 have h1:=AK g p hx hi (by rw [e1];exact hh)
 obtain ⟨c',a1,_,a3,_⟩:=jP g p hx;rw [h1,hi] at a1;cases a1;refine ⟨h1,?_⟩;rw [<- a3,e1];obtain ⟨hl,eh⟩:=II.mp hk;rw [<- eh];exact (bF p.srt).idxOf_getElem k hl
def mw (g:GT n t e) (p:IsPart n t R) {x:Nat} (hx:x<n):∃ c k,(aG n t e R)[hm n t e R x]?=some c/\R[k]?=some (ov n t e R x)/\R.idxOf (ov n t e R x)=k/\tb t c (ov n t e R x)=x:=by
 obtain ⟨c,a1,a2,a3,a4⟩:=jP g p hx;refine ⟨c,_,a1,?_,rfl,?_⟩
 ·rw [IG (Jt a4),Ko]
 ·rw [<- a3,<- g.assoc _ _ _ a2 (g.cM a2) hx,g.gk a2,g.unl x hx]
def dR (n:Nat) (t:List (List Nat)) (e:Nat) (R:List Nat):List (List (Nat×Nat)):=(IF n).map fun a=>(aG n t e R).map fun c=>(hm n t e R (tb t a c),R.idxOf (ov n t e R (tb t a c)))
def fH (n:Nat) (t:List (List Nat)) (e:Nat) (R M:List Nat):List (List (Nat×Nat)):=(IF n).map fun a=>(aG n t e R).map fun c=>(hm n t e R (tb t a c),M.getD (R.idxOf (ov n t e R (tb t a c))) 0)
variable {S:List Nat}
def mC {m:Nat} {f:Nat->Nat} {μ:Nat->Nat} (G:Gen n t e S R) (m1:0<m) (hf:∀ x∈R,f x<m) (hs:∀ x∈R,∀ s∈S,f (tb t x s)=(f x+μ s) % m) :
  ∀ (l:List Nat) {x:Nat},x∈R->(∀ y∈l,y∈S)->f (prd t x l)=(f x+(l.map μ).sum) % m
 | [],x,hx,_=>by
  show f x=(f x+0) % m;rw [Kt,JE (hf x hx)]
 | y :: l,x,hx,hl=>by
  have hy:=hl y IT;show f (prd t (tb t x y) l)=(f x+(μ y+(l.map μ).sum)) % m;rw [mC G m1 hf hs l (G.cl x hx y hy) fun z hz=>hl z (IM _ hz),hs x hx y hy,Mc,K0]
def BY {m:Nat} {f:Nat->Nat} {μ:Nat->Nat} (g:GT n t e) (G:Gen n t e S R) (hS:∀ s∈S,s<n) (m1:0<m) (hf:∀ x∈R,f x<m) (he:f e=0) (hs:∀ x∈R,∀ s∈S,f (tb t x s)=(f x+μ s) % m) :
  ∀ x∈R,∀ y∈R,f (tb t x y)=(f x+f y) % m:=fun x hx y hy=>by
 obtain ⟨l,hl,rfl⟩:=G.wd y hy;have h1:=mC G m1 hf hs l hx hl;have h2:=mC G m1 hf hs l G.un hl;rw [he,JU] at h2;rw [xq g (G.lt x hx) fun z hz=>hS z (hl z hz)] at h1;rw [h1,h2,Lj]
def Gz {m:Nat} {f:Nat->Nat} (p:IsPart n t R) (h:∀ x∈R,∀ y∈R,f (tb t x y)=(f x+f y) % m) {j k:Nat} (hj:j<R.length) (hk:k<R.length):fD t R (R.map f) m j k:=by
 have gd:∀ i,i<R.length->R.getD i 0=R[i]!/\(R.map f).getD i 0=f (R.getD i 0)/\R.getD i 0∈R:=fun i hi=>by
  have e1:R.getD i 0=R[i]:=by rw [ID,IG hi];rfl
  refine ⟨by rw [e1];simp [hi],?_,by rw [e1];exact Ks hi⟩
  rw [ID,IJ,IG hi,e1];rfl
 obtain ⟨_,b1,c1⟩:=gd j hj;obtain ⟨_,b2,c2⟩:=gd k hk;have hab:=p.cl _ c1 _ c2;have hi:=Jt hab;obtain ⟨_,b3,c3⟩:=gd _ hi;unfold fD;rw [b1,b2,b3,<- h _ c1 _ c2]
 congr 1
 rw [ID,IG hi,Ko];rfl
def E7 {m:Nat} {j k:Nat}:fD t R (Jg R.length 0) m j k:=by
 have z:∀ i,(Jg R.length 0).getD i 0=0:=fun i=>by
  rw [ID];cases h:(Jg R.length 0)[i]? with
  | none=>rfl
  | some x =>
   have:=ML (IH h);rw [this];rfl
 unfold fD;rw [z,z,z];exact (Mo m).symm
end
section
variable {n:Nat} {t:List (List Nat)} {e:Nat} {R:List Nat}
def ba (t:List (List Nat)) (R:List Nat):List (List Nat):=R.map fun a=>R.map fun b=>R.idxOf (tb t a b)
def map_getD {β:Type} (f:Nat->β):∀ (R:List Nat),R.map f=(IF R.length).map fun i=>f (R.getD i 0):=fun R=>by
 refine Ld (by simp) fun i h1 h2=>?_
 simp at h1;simp [ID,h1]
def z9:ba t R=mkT R.length fun i j=>R.idxOf (tb t (R.getD i 0) (R.getD j 0)):=by
 unfold ba mkT;rw [map_getD];refine Jn fun i _=>?_;rw [map_getD]
def bH (p:IsPart n t R) {i:Nat} (h:i<R.length):R.getD i 0∈R/\R.idxOf (R.getD i 0)=i:=by
 have e1:R.getD i 0=R[i]:=by rw [ID,IG h];rfl
 rw [e1];exact ⟨Ks h,(bF p.srt).idxOf_getElem i h⟩
def aK {x:Nat} (h:x∈R):R.idxOf x<R.length/\R.getD (R.idxOf x) 0=x:=by
 have hi:=Jt h;refine ⟨hi,?_⟩;rw [ID,IG hi,Ko];rfl
def j7 (p:IsPart n t R) {i j:Nat} (hi:i<R.length) (hj:j<R.length):tb (ba t R) i j=R.idxOf (tb t (R.getD i 0) (R.getD j 0)):=by
 rw [z9,Cj hi hj]
def fq (g:GT n t e) (p:IsPart n t R):GT R.length (ba t R) (R.idxOf e):=by
 have un:=p.un g;have rl:=p.len;have n23:=g.le;rw [z9];refine Bv (Jw.mpr p.ne) (by omega) (fun a b ha hb=>?_) (aK un).1 (fun a ha=>?_) (fun a ha=>?_) (fun a ha=>?_) fun a b c ha hb hc=>?_
 ·exact (aK (p.cl _ (bH p ha).1 _ (bH p hb).1)).1
 ·obtain ⟨h1,h2⟩:=bH p ha;rw [(aK un).2,g.unl _ (p.lt _ h1)];exact h2
 ·obtain ⟨h1,h2⟩:=bH p ha;rw [(aK un).2,g.unr _ (p.lt _ h1)];exact h2
 ·obtain ⟨h1,_⟩:=bH p ha;have hb:=p.bk g h1;refine ⟨R.idxOf (a8 n t e (R.getD a 0)),(aK hb).1,?_,?_⟩
  ·rw [(aK hb).2,g.gk (p.lt _ h1)]
  ·rw [(aK hb).2,g.uu (p.lt _ h1)]
 ·obtain ⟨h1,_⟩:=bH p ha;obtain ⟨h2,_⟩:=bH p hb;obtain ⟨h3,_⟩:=bH p hc;rw [(aK (p.cl _ h1 _ h2)).2,(aK (p.cl _ h2 _ h3)).2,g.assoc _ _ _ (p.lt _ h1) (p.lt _ h2) (p.lt _ h3)]
def cF {α:Type} (D:List (List α)) (R:List Nat):List (List α):=R.map fun a=>D.getD a []
def f9 (m:Nat) (D:List (List (Nat×Nat))):List (List (Nat×Nat)):=D.map fun r=>r.map fun y=>(y.1,(m - y.2) % m)
def xA {α:Type} {f:Nat->List α} {k:Nat}:∀ {l:List Nat},(∀ c∈l,(f c).length=k)->(l.flatMap f).length=l.length * k
 | [],_=>by simp
 | c :: l,h=>by
  rw [J1,IZ,h c IT,xA fun x hx=>h x (IM _ hx),Jp,Ky];omega
def mB (g:GT n t e) (p:IsPart n t R):(aG n t e R).length * R.length=n:=by
 have len:((aG n t e R).flatMap fun c=>R.map (tb t c)).length=(aG n t e R).length * R.length:=xA fun c _=>IE _;have nd:((aG n t e R).flatMap fun c=>R.map (tb t c)).Nodup:=by
  refine Nz.mpr ⟨fun c hc=>?_,?_⟩
  ·exact dO (bF p.srt) fun x hx y hy q=>g.dD (a9 hc) (p.lt x hx) (p.lt y hy) q
  ·refine LA ?_ kz;intro a b ha hb ab x hx y hy q;obtain ⟨h,hh,rfl⟩:=IP.mp hx;obtain ⟨h',hh',q'⟩:=IP.mp hy;have xn:=g.lt a h (a9 ha) (p.lt h hh);have q1:=(cX g p (a9 ha) xn).mpr ⟨h,hh,rfl⟩;have q2:=(cX g p (a9 hb) xn).mpr ⟨h',hh',q'.trans q.symm⟩;have:=qu g p xn ha hb q1 q2;omega
 have a1:=sub_len nd (l2:=IF n) fun x hx=>by
  obtain ⟨c,hc,hx'⟩:=KD.mp hx;obtain ⟨h,hh,rfl⟩:=IP.mp hx';exact IK.mpr (g.lt c h (a9 hc) (p.lt h hh))
 have a2:=sub_len Ku (l2:=(aG n t e R).flatMap fun c=>R.map (tb t c)) fun x hx=>by
  obtain ⟨c,k,z1,z2,_,z4⟩:=mw g p (IK.mp hx);exact KD.mpr ⟨c,IH z1,IP.mpr ⟨_,IH z2,z4⟩⟩
 rw [Jb] at a1 a2;omega
def mU (g:GT n t e) (p:IsPart n t R):n / R.length=(aG n t e R).length:=by
 have h:=mB g p;have r1:0<R.length:=Jw.mpr p.ne;generalize (aG n t e R).length=k at h;rw [<- h];exact Nat.mul_div_cancel _ r1
def bL (D:List (List (Nat×Nat))) (z:Nat) (r:List (Nat×Nat)):List (Nat×Nat):=r.flatMap fun x=>(D.getD x.2 []).map fun y=>(x.1 * z+y.1,y.2)
def bN (n:Nat) (t:List (List Nat)) (e:Nat) (R:List Nat) (D:List (List (Nat×Nat))) (z:Nat):List (List (Nat×Nat)):=(dR n t e R).map (bL D z)
def mM {D:List (List (Nat×Nat))} {z:Nat}:∀ {r:List (Nat×Nat)},(∀ x∈r,(D.getD x.2 []).length=z)->(bL D z r).length=r.length * z
 | [],_=>by unfold bL;simp
 | x :: r,h=>by
  have ih:=mM (D:=D) (z:=z) (r:=r) fun y hy=>h y (IM _ hy);have hx:=h x IT;unfold bL at ih ⊢;rw [J1,IZ,IE,hx,ih,Jp,Ky];omega
def zp {D:List (List (Nat×Nat))} {z i:Nat} {r:List (Nat×Nat)} {x:Nat×Nat} (h:r[i]?=some x):bL D z (r.take (i+1))=bL D z (r.take i)++(D.getD x.2 []).map fun y=>(x.1 * z+y.1,y.2):=by
 unfold bL;rw [Js,h,NT];simp
end
def bP.dvd {l:List Nat} {k j:Nat} (h:bP l k) (hj:∀ s∈l,j % s=0):j % k=0:=by
 rcases LK (j % k) with z|z
 ·exact z
 ·obtain ⟨s,hs,q⟩:=h.least (j % k) z (Jj _ h.pos);refine absurd ?_ q;have d1:s ∣ j:=JH (hj s hs);have d2:s ∣ k:=JH (h.all s hs);exact Kv ((Nat.dvd_mod_iff d2).mpr d1)
section
variable {n:Nat} {t:List (List Nat)} {e:Nat} {R:List Nat}
def xt (g:GT n t e) (p:IsPart n t R) {i:Nat} (hi:i<R.length):∀ k,bp (ba t R) (R.idxOf e) i k=R.idxOf (bp t e (R.getD i 0) k)/\bp t e (R.getD i 0) k∈R
 | 0=>⟨rfl,p.un g⟩
 | k+1=>by
  obtain ⟨h1,h2⟩:=xt g p hi k;have hR:=(bH p hi).1;refine ⟨?_,p.cl _ h2 _ hR⟩;show tb (ba t R) (bp (ba t R) (R.idxOf e) i k) i=R.idxOf (tb t (bp t e (R.getD i 0) k) (R.getD i 0));rw [h1,j7 p (aK h2).1 hi,(aK h2).2]
def nU (g:GT n t e) (p:IsPart n t R) {l l':Nat} (h:bP ((IF n).map (aW n t e)) l) (h':bP ((IF R.length).map (aW R.length (ba t R) (R.idxOf e))) l'):l % l'=0:=by
 refine h'.dvd fun s hs=>?_;obtain ⟨i,hi,rfl⟩:=IP.mp hs;have hi':=IK.mp hi;have hx:=p.lt _ (bH p hi').1;obtain ⟨c,hc⟩:=JH (h.all _ (IP.mpr ⟨R.getD i 0,IK.mpr hx,rfl⟩));have q:bp t e (R.getD i 0) l=e:=by rw [hc];exact kc g hx (dG g hx).2.1 c
 refine Kv (z7 (fq g p) hi' ?_);rw [(xt g p hi' l).1,q]
def Dm {M:List Nat} (g:GT n t e) (p:IsPart n t R):bN n t e R ((IF R.length).map fun a=>[(0,M.getD a 0)]) 1=fH n t e R M:=by
 unfold bN dR fH;rw [J4];refine Jn fun a ha=>?_;have han:=IK.mp ha;show bL _ 1 ((aG n t e R).map fun c=>(hm n t e R (tb t a c),R.idxOf (ov n t e R (tb t a c))))=_;have key:∀ l:List Nat,(∀ c∈l,c∈aG n t e R)->bL ((IF R.length).map fun a=>[(0,M.getD a 0)]) 1 (l.map fun c=>(hm n t e R (tb t a c),R.idxOf (ov n t e R (tb t a c))))=l.map fun c=>(hm n t e R (tb t a c),M.getD (R.idxOf (ov n t e R (tb t a c))) 0):=fun l=>by
  induction l with
  | nil=>intro _;rfl
  | cons c l ih =>
   intro hl;have hc:=hl c IT;obtain ⟨_,_,_,_,h4⟩:=jP g p (g.lt a c han (a9 hc));have hi:=Jt h4;have e1:((IF R.length).map fun a=>[(0,M.getD a 0)]).getD (R.idxOf (ov n t e R (tb t a c))) []=[(0,M.getD (R.idxOf (ov n t e R (tb t a c))) 0)]:=by
    rw [ID,IJ,Jv hi];rfl
   have:=ih fun x hx=>hl x (IM _ hx);unfold bL at this ⊢;rw [JL,J1,this,JL];show (N1 _ (((IF R.length).map fun a=>[(0,M.getD a 0)]).getD (R.idxOf (ov n t e R (tb t a c))) []))++_=_;rw [e1];simp
 exact key _ fun c hc=>hc
end
section
variable {n:Nat} {t:List (List Nat)} {e:Nat} {R M:List Nat}
def cj (n:Nat) (t:List (List Nat)) (e x a:Nat):Nat:=tb t (tb t (a8 n t e x) a) x
def oN (g:GT n t e) {x a:Nat} (hx:x<n) (ha:a<n):cj n t e x a<n:=g.lt _ _ (g.lt _ _ (g.cM hx) ha) hx
def EE (g:GT n t e) {x a:Nat} (hx:x<n) (ha:a<n):cj n t e x a=tb t (a8 n t e x) (tb t a x):=g.assoc _ _ _ (g.cM hx) ha hx
def Gj (g:GT n t e) {x y:Nat} (hx:x<n) (hy:y<n):a8 n t e (tb t x y)=tb t (a8 n t e y) (a8 n t e x):=by
 have bx:=g.cM hx;have b2:=g.cM hy;have xy:=g.lt x y hx hy;refine g.dD xy (g.cM xy) (g.lt _ _ b2 bx) ?_;rw [g.gk xy,g.assoc x y _ hx hy (g.lt _ _ b2 bx),<- g.assoc y _ _ hy b2 bx,g.gk hy,g.unl _ bx,g.gk hx]
def wx (g:GT n t e) {x y a:Nat} (hx:x<n) (hy:y<n) (ha:a<n):cj n t e y (cj n t e x a)=cj n t e (tb t x y) a:=by
 have bx:=g.cM hx;have b2:=g.cM hy;have b3:=g.lt _ _ bx ha;unfold cj;rw [Gj g hx hy,g.assoc _ _ _ b2 bx ha,<- g.assoc _ _ _ b2 b3 hx,g.assoc _ _ _ (g.lt _ _ b2 b3) hx hy]
def G0 (g:GT n t e) {a:Nat} (ha:a<n):cj n t e e a=a:=by
 have h:a8 n t e e=e:=by
  have:=g.gk g.elt;rw [g.unl _ (g.cM g.elt)] at this;exact this
 unfold cj;rw [h,g.unl _ ha,g.unr _ ha]
def um (g:GT n t e) (p:IsPart n t R) {x a:Nat} (hx:x∈R) (ha:a∈R):cj n t e x a∈R:=p.cl _ (p.cl _ (p.bk g hx) _ ha) _ hx
def FC (g:GT n t e) (p:IsPart n t R) {x:Nat} (hx:x<n):∃ c h,c∈aG n t e R/\h∈R/\tb t c h=x:=by
 obtain ⟨c,k,h1,h2,_,h4⟩:=mw g p hx;exact ⟨c,_,IH h1,IH h2,h4⟩
def Eo (g:GT n t e) (p:IsPart n t R) {a c j:Nat} (ha:a<n) (hj:(aG n t e R)[j]?=some c):hm n t e R (tb t a c)=j↔cj n t e c a∈R:=by
 have hc:=a9 (IH hj);have hac:=g.lt a c ha hc;rw [EE g hc ha];constructor
 ·intro h;obtain ⟨c',a1,a2,a3,a4⟩:=jP g p hac;rw [h,hj] at a1;cases a1;rw [a3];exact a4
 ·exact fun h=>AK g p hac hj h
def Fx (g:GT n t e) (p:IsPart n t R) {a c j:Nat} (ha:a<n) (hj:(aG n t e R)[j]?=some c) (h:hm n t e R (tb t a c)=j):ov n t e R (tb t a c)=cj n t e c a:=by
 have hc:=a9 (IH hj);have hac:=g.lt a c ha hc;obtain ⟨c',a1,a2,a3,a4⟩:=jP g p hac;rw [h,hj] at a1;cases a1;rw [EE g hc ha,a3]
def mk (R M:List Nat) (x:Nat):Nat:=M.getD (R.idxOf x) 0
def EW (n:Nat) (t:List (List Nat)) (e:Nat) (R M:List Nat) (a:Nat):Prop:=∀ x,x<n->cj n t e x a∈R/\mk R M (cj n t e x a)=0
instance:DecidablePred (EW n t e R M):=fun a=>by unfold EW;infer_instance
def yq (n:Nat) (t:List (List Nat)) (e:Nat) (R M:List Nat) (a:Nat):Prop:=(∀ x,x<n->cj n t e x a∈R)/\∀ x,x<n->mk R M (cj n t e x a)=mk R M a
instance:DecidablePred (yq n t e R M):=fun a=>by unfold yq;infer_instance
def tm (p:IsPart n t R) {x y:Nat} (hx:x∈R) (hy:y∈R):tb (ba t R) (R.idxOf x) (R.idxOf y)=R.idxOf (tb t x y):=by
 rw [j7 p (aK hx).1 (aK hy).1,(aK hx).2,(aK hy).2]
def GG (g:GT n t e) (p:IsPart n t R) {x:Nat} (hx:x∈R):a8 R.length (ba t R) (R.idxOf e) (R.idxOf x)=R.idxOf (a8 n t e x):=by
 have g2:=fq g p;have h1:=(aK hx).1;have h2:=p.bk g hx;refine g2.dD h1 (g2.cM h1) (aK h2).1 ?_;rw [g2.gk h1,tm p hx h2,g.gk (p.lt x hx)]
def BL (g:GT n t e) (p:IsPart n t R) {x a:Nat} (hx:x∈R) (ha:a∈R):cj R.length (ba t R) (R.idxOf e) (R.idxOf x) (R.idxOf a)=R.idxOf (cj n t e x a):=by
 have h2:=p.bk g hx;unfold cj;rw [GG g p hx,tm p h2 ha,tm p (p.cl _ h2 _ ha) hx]
end
section
variable {P:Jc} {w:World} {K:IC} {mg:Str->Option Value} {base:Heap}
inductive vy (K:IC) (vs:List V) (H:Hp) (Q:VK) (E:XK):Prop
 | mk (v:V) (n:Nat) (t:List (List Nat)) (_:vs=[v]) (_:At K H v t) (_:Sq n t) (_:Q .non H)
def vF (T:Txt K mg):aN P w K mg base CX0 1 T.gW.f T.gW.fd ["rows"] (vy K):=by
 exists T.gW.ok jw
 ·obtain ⟨v,n,t,rfl,_⟩:=h;rfl
 obtain ⟨v,n,t,rfl,hT,sq,q⟩:=h;refine ⟨_,(ae (ao (i:=1) jw.nd rfl (IQ rfl) (aA (aQ K rfl) rfl T.bC Jf (paF (pv 0) aa)))
   (ae (bj (PW.pt (sW (aD lr (pv 1) ah (aJ _)) (nM (aD jO (pv 1) (ug (v:=.int 23) rfl T.vZ ⟨_,rfl⟩) (aJ _))))) (af b9) aV)
   (af (bo IW rfl (aT K rfl (pv 0)) (au (i:=2) jw.nd rfl (IQ rfl)) (af (bj (aD eK (aA (aQ K rfl) rfl T.bC Jf (paF (pv 2) aa)) (pv 1) (aJ _)) (af b9) aV)))))),?_⟩
 right;refine cA hT ?_;right;have h1:=sq.len;have h2:=sq.pos;have h3:=sq.le;refine bt (fun c=>absurd c (by omega)) (fun _=>?_)
 right;refine bt (fun c=>absurd c (by omega)) (fun _=>?_)
 right;refine jT hT (fun i σ H'=>H'=H/\∃ x,σ=[some v,some (.int t.length),x]) ⟨rfl,_,rfl⟩ (fun i σ H' h=>by rw [h.1];exact aj.refl _) ?_ ?_
 ·rintro i r w' σ' H' hr' hw ⟨rfl,x,rfl⟩;right;refine cA hw ?_;right;refine ck (fun c=>absurd (by rw [sq.row i r hr',h1]) c) (fun _=>?_)
  right;exact ⟨rfl,_,rfl⟩
 ·rintro σ' H' ⟨rfl,x,rfl⟩;exact q
inductive nu (K:IC) (vs:List V) (H:Hp) (Q:VK) (E:XK):Prop
 | mk (v:V) (n:Nat) (t:List (List Nat)) (_:vs=[v]) (_:At K H v t) (_:Gd n t) (_:Q .non H)
def nG (T:Txt K mg):aN P w K mg base CX0 1 T.ee.f T.ee.fd ["rows"] (nu K):=by
 exists T.ee.ok dQ
 ·obtain ⟨v,n,t,rfl,_⟩:=h;rfl
 obtain ⟨v,n,t,rfl,hT,gd,q⟩:=h;refine ⟨_,(ae (ao (i:=1) dQ.nd rfl (IQ rfl) (aA (aQ K rfl) rfl T.bC Jf (paF (pv 0) aa)))
   (af (bo IW rfl (aO rfl T.bc (paF (pv 1) aa)) (au (i:=2) dQ.nd rfl (IQ rfl)) (af (bo IW rfl (aO rfl T.bc (paF (pv 1) aa)) (au (i:=3) dQ.nd rfl (IQ rfl)) (af (bj (PW.pt (sW (aD lr (aq (ai K rfl) (aq (ai K rfl) (pv 0) (pv 2) (fun _ _=>rfl)) (pv 3) (fun _ _=>rfl)) ah (aJ _)) (nM (aD wj (aq (ai K rfl) (aq (ai K rfl) (pv 0) (pv 2) (fun _ _=>rfl)) (pv 3) (fun _ _=>rfl)) (pv 1) (aJ _))))) (af b9) aV))))))),?_⟩
 right;refine cA hT ?_;right;have h1:=gd.len;have h3:=gd.le;rw [h1];refine bR (n:=n) rfl (by omega) (fun i σ H'=>H'=H/\∃ x y,σ=[some v,some (.int n),x,y]) ⟨rfl,_,_,rfl⟩ ?_ ?_
 ·rintro i σ' H' hi ⟨rfl,x,y,rfl⟩;right;refine bR (n:=n) rfl (by omega) (fun j σ H''=>H''=H'/\∃ y,σ=[some v,some (.int n),some (.int (i:Int)),y]) ⟨rfl,_,rfl⟩ ?_ ?_
  ·rintro j σ'' H'' hj ⟨rfl,y,rfl⟩;have hlt:=gd.lt i j hi hj;right;refine c7 hT rfl (gd.get hi) fun w1 hw1=>?_;right;refine gZ hw1 rfl (gd.dF hi hj) ?_;right;refine bt (fun c=>absurd c (by omega)) (fun _=>?_)
   right;refine c7 hT rfl (gd.get hi) fun w2 hw2=>?_;right;refine gZ hw2 rfl (gd.dF hi hj) ?_;right;refine bt (fun c=>absurd c (by omega)) (fun _=>?_)
   right;exact ⟨rfl,_,rfl⟩
  ·rintro σ'' H'' ⟨rfl,y,rfl⟩;exact ⟨rfl,_,_,rfl⟩
 ·rintro σ' H' ⟨rfl,x,y,rfl⟩;exact q
inductive vW (K:IC) (vs:List V) (H:Hp) (Q:VK) (E:XK):Prop
 | mk (v:V) (n x:Nat) (t:List (List Nat)) (_:vs=[v,.int (x:Int)]) (_:At K H v t) (_:Sq n t) (_:x<n) (_:Q (.bl (decide (oC n t x))) H)
def vK (T:Txt K mg):aN P w K mg base CX0 1 T.gK.f T.gK.fd ["rows","thing"] (vW K):=by
 exists T.gK.ok nh
 ·obtain ⟨v,n,x,t,rfl,_⟩:=h;rfl
 obtain ⟨v,n,x,t,rfl,hT,sq,hx,q⟩:=h;refine ⟨_,(ae (bo IW rfl (aO rfl T.bc (paF (aA (aQ K rfl) rfl T.bC Jf (paF (pv 0) aa)) aa)) (au (i:=2) nh.nd rfl (IQ rfl)) (af (bj (PW.pt (sW (aD eK (aq (ai K rfl) (aq (ai K rfl) (pv 0) (pv 1) (fun _ _=>rfl)) (pv 2) (fun _ _=>rfl)) (pv 2) (aJ _)) (nM (aD eK (aq (ai K rfl) (aq (ai K rfl) (pv 0) (pv 2) (fun _ _=>rfl)) (pv 1) (fun _ _=>rfl)) (pv 2) (aJ _))))) (af (aL eY)) aV)))
   (af (aL eY))),?_⟩
 right;refine cA hT ?_;right;have h1:=sq.len;have h3:=sq.le;rw [h1];refine bR (n:=n) rfl (by omega) (fun i σ H'=>H'=H/\(∀ o,o<i->tb t x o=o/\tb t o x=o)/\∃ y,σ=[some v,some (.int (x:Int)),y]) ⟨rfl,fun o ho=>absurd ho (by omega),_,rfl⟩ ?_ ?_
 ·rintro i σ' H' hi ⟨rfl,hb,y,rfl⟩;have no:∀ (z:¬ (tb t x i=i/\tb t i x=i)),Q (.bl false) H':=fun z=>by
   rw [decide_eq_false (fun l:oC n t x=>z (l i hi))] at q;exact q
  right;refine c7 hT rfl (sq.get hx) fun w1 hw1=>?_;right;refine gZ hw1 rfl (sq.dF hx hi) ?_;right;refine ck (fun c=>?_) (fun c1=>?_)
  ·right;exact no fun z=>c (by rw [z.1])
  ·right;refine c7 hT rfl (sq.get hi) fun w2 hw2=>?_;right;refine gZ hw2 rfl (sq.dF hi hx) ?_;right;refine ck (fun c=>?_) (fun c2=>?_)
   ·right;exact no fun z=>c (by rw [z.2])
   ·right;refine ⟨rfl,fun o ho=>?_,_,rfl⟩;rcases JI o i with z|z
    ·exact hb o z
    ·have e:o=i:=by omega
     subst e;exact ⟨by omega,by omega⟩
 ·rintro σ' H' ⟨rfl,hb,y,rfl⟩;right;rw [decide_eq_true (show oC n t x from hb)] at q;exact q
inductive AA (K:IC) (vs:List V) (H:Hp) (Q:VK) (E:XK):Prop
 | mk (v:V) (n e:Nat) (t:List (List Nat)) (_:vs=[v]) (_:At K H v t) (_:GT n t e) (_:Q (.int (e:Int)) H)
def A6 (T:Txt K mg):aN P w K mg base CX0 2 T.lg.f T.lg.fd ["rows"] (AA K):=by
 exists T.lg.ok rL
 ·obtain ⟨v,n,e,t,rfl,_⟩:=h;rfl
 obtain ⟨v,n,e,t,rfl,hT,gt,q⟩:=h;refine ⟨_,(ae (bo IW rfl (aO rfl T.bc (paF (aA (aQ K rfl) rfl T.bC Jf (paF (pv 0) aa)) aa)) (au (i:=1) rL.nd rfl (IQ rfl)) (af (bj (gY (ay T.gK (vK T) (hr.mono (by decide)) rfl (paF (pv 0) (paF (pv 1) aa)))) (af (aL (pv 1))) aV)))
   (af b9)),?_⟩
 right;refine cA hT ?_;right;have h1:=gt.len;have h3:=gt.le;rw [h1];refine bR (n:=n) rfl (by omega) (fun i σ H'=>H'=H/\i<=e/\∃ y,σ=[some v,y]) ⟨rfl,J6 _,_,rfl⟩ ?_ ?_
 ·rintro i σ' H' hi ⟨rfl,hle,y,rfl⟩;right;refine ⟨v,n,i,t,rfl,hT,gt.toSq,hi,?_⟩;right;refine bt (fun c=>?_) (fun c=>?_)
  ·right;rw [(gt.rQ hi).mp c];exact q
  ·right;refine ⟨rfl,?_,_,rfl⟩;have:i≠e:=fun z=>c ((gt.rQ hi).mpr z);omega
 ·rintro σ' H' ⟨rfl,hle,y,rfl⟩;exact absurd gt.elt (by omega)
inductive AU (K:IC) (vs:List V) (H:Hp) (Q:VK) (E:XK):Prop
 | mk (v:V) (n e a:Nat) (t:List (List Nat)) (_:vs=[v,.int (e:Int),.int (a:Int)]) (_:At K H v t) (_:GT n t e) (_:a<n) (_:Q (.int (a8 n t e a:Int)) H)
def Az (T:Txt K mg):aN P w K mg base CX0 1 T.la.f T.la.fd ["rows","unit","thing"] (AU K):=by
 exists T.la.ok qK
 ·obtain ⟨v,n,e,a,t,rfl,_⟩:=h;rfl
 obtain ⟨v,n,e,a,t,rfl,hT,gt,ha,q⟩:=h;refine ⟨_,(ae (bo IW rfl (aO rfl T.bc (paF (aA (aQ K rfl) rfl T.bC Jf (paF (pv 0) aa)) aa)) (au (i:=3) qK.nd rfl (IQ rfl)) (af (bj (PW.pt (je (aD cL (aq (ai K rfl) (aq (ai K rfl) (pv 0) (pv 2) (fun _ _=>rfl)) (pv 3) (fun _ _=>rfl)) (pv 1) (aJ _)) (jU (aD cL (aq (ai K rfl) (aq (ai K rfl) (pv 0) (pv 3) (fun _ _=>rfl)) (pv 2) (fun _ _=>rfl)) (pv 1) (aJ _))))) (af (aL (pv 3))) aV)))
   (af b9)),?_⟩
 right;refine cA hT ?_;right;have h1:=gt.len;have h3:=gt.le;rw [h1];refine bR (n:=n) rfl (by omega) (fun i σ H'=>H'=H/\(∀ o,o<i->¬ (tb t a o=e/\tb t o a=e))/\∃ y,σ=[some v,some (.int (e:Int)),some (.int (a:Int)),y]) ⟨rfl,fun o ho=>absurd ho (by omega),_,rfl⟩ ?_ ?_
 ·rintro i σ' H' hi ⟨rfl,hb,y,rfl⟩;have on:(¬ (tb t a i=e/\tb t i a=e))->∀ o,o<i+1->¬ (tb t a o=e/\tb t o a=e):=fun z o ho=>by
   rcases JI o i with l|l
   ·exact hb o l
   ·have e':o=i:=by omega
    subst e';exact z
  right;refine c7 hT rfl (gt.get ha) fun w1 hw1=>?_;right;refine gZ hw1 rfl (gt.dF ha hi) ?_;right;refine bt (fun c1=>?_) (fun c=>?_)
  ·right;refine c7 hT rfl (gt.get hi) fun w2 hw2=>?_;right;refine gZ hw2 rfl (gt.dF hi ha) ?_;right;refine bt (fun c2=>?_) (fun c=>?_)
   ·right;rw [FT hi ⟨by omega,by omega⟩ hb] at q
    exact q
   ·right;exact ⟨rfl,on fun z=>c (by rw [z.2]),_,rfl⟩
  ·refine eU ?_;right;exact ⟨rfl,on fun z=>c (by rw [z.1]),_,rfl⟩
 ·rintro σ' H' ⟨rfl,hb,y,rfl⟩;obtain ⟨b,hb',z⟩:=gt.back a ha;exact absurd z (hb b hb')
inductive zr (K:IC) (vs:List V) (H:Hp) (Q:VK) (E:XK):Prop
 | mk (v:V) (n e:Nat) (t:List (List Nat)) (_:vs=[v,.int (e:Int)]) (_:At K H v t) (_:GT n t e) (_:∀ d H',H d=none->aj H H'->Gr K H' d (bks n t e)->Q (.ref d) H')
def yY (T:Txt K mg):aN P w K mg base CX0 2 T.jN.f T.jN.fd ["rows","unit"] (zr K):=by
 exists T.jN.ok zc
 ·obtain ⟨v,n,e,t,rfl,_⟩:=h;rfl
 obtain ⟨v,n,e,t,rfl,hT,gt,q⟩:=h;refine ⟨_,(af (aL (bE rfl ng (aO rfl T.bc (paF (aA (aQ K rfl) rfl T.bC Jf (paF (pv 0) aa)) aa)) (fun _ _ _ _=>⟨(au (i:=0) ng.nd rfl (IQ rfl)),bb,(ay T.la (Az T) (hr.mono (by decide)) rfl (paF (pv 1) (paF (pv 2) (paF (pv 0) aa))))⟩)))),?_⟩
 right;refine cA hT ?_;right;have h1:=gt.len;have h3:=gt.le;rw [h1];refine eF K (n:=n) rfl (by omega) (fun i=>(bks n t e).take i) (fun σ'=>∃ y,σ'=[y,some v,some (.int (e:Int))]) rfl (fun i hi=>by rw [Je];omega) ⟨_,rfl⟩ ?_ ?_
 ·rintro i σ' H' d R R0 hi hs ⟨y,rfl⟩ hR hR0 hd;right;refine ⟨v,n,e,i,t,rfl,Rep.mono hs hT,gt,hi,?_⟩;exact hR _ _ (a8 n t e i) _ ⟨_,rfl⟩ (aj.refl _) rfl (cz _ n i hi)
 ·intro d H' fd hs ha;have e1:(bks n t e).take n=bks n t e:=Jh (by simp [bks])
  have ha':Gr K H' d ((bks n t e).take n):=ha;rw [e1] at ha';exact q d H' fd hs ha'
inductive pz (K:IC) (vs:List V) (H:Hp) (Q:VK) (E:XK):Prop
 | mk (v:V) (n e:Nat) (t:List (List Nat)) (_:vs=[v]) (_:At K H v t) (_:GT n t e) (_:Q .non H)
def pB (T:Txt K mg):aN P w K mg base CX0 1 T.eG.f T.eG.fd ["rows"] (pz K):=by
 exists T.eG.ok c8
 ·obtain ⟨v,n,e,t,rfl,_⟩:=h;rfl
 obtain ⟨v,n,e,t,rfl,hT,gt,q⟩:=h;refine ⟨_,(ae (ao (i:=1) c8.nd rfl (IQ rfl) (aA (aQ K rfl) rfl T.bC Jf (paF (pv 0) aa)))
   (af (bo IW rfl (aO rfl T.bc (paF (pv 1) aa)) (au (i:=2) c8.nd rfl (IQ rfl)) (af (bo IW rfl (aO rfl T.bc (paF (pv 1) aa)) (au (i:=3) c8.nd rfl (IQ rfl)) (af (bo IW rfl (aO rfl T.bc (paF (pv 1) aa)) (au (i:=4) c8.nd rfl (IQ rfl)) (af (bj (aD eK (aq (ai K rfl) (aq (ai K rfl) (pv 0) (aq (ai K rfl) (aq (ai K rfl) (pv 0) (pv 2) (fun _ _=>rfl)) (pv 3) (fun _ _=>rfl)) (fun _ _=>rfl)) (pv 4) (fun _ _=>rfl)) (aq (ai K rfl) (aq (ai K rfl) (pv 0) (pv 2) (fun _ _=>rfl)) (aq (ai K rfl) (aq (ai K rfl) (pv 0) (pv 3) (fun _ _=>rfl)) (pv 4) (fun _ _=>rfl)) (fun _ _=>rfl)) (aJ _)) (af b9) aV))))))))),?_⟩
 right;refine cA hT ?_;right;have h1:=gt.len;have h3:=gt.le;rw [h1];refine bR (n:=n) rfl (by omega) (fun i σ H'=>H'=H/\∃ x y z,σ=[some v,some (.int n),x,y,z]) ⟨rfl,_,_,_,rfl⟩ ?_ ?_
 ·rintro i σ' H' hi ⟨rfl,x,y,z,rfl⟩;right;refine bR (n:=n) rfl (by omega) (fun j σ H''=>H''=H'/\∃ y z,σ=[some v,some (.int n),some (.int (i:Int)),y,z]) ⟨rfl,_,_,rfl⟩ ?_ ?_
  ·rintro j σ'' H'' hj ⟨rfl,y,z,rfl⟩;right;refine bR (n:=n) rfl (by omega) (fun k σ H3=>H3=H''/\∃ z,σ=[some v,some (.int n),some (.int (i:Int)),some (.int (j:Int)),z]) ⟨rfl,_,rfl⟩ ?_ ?_
   ·rintro k σ3 H3 hk ⟨rfl,z,rfl⟩;have hij:=gt.lt i j hi hj;have hjk:=gt.lt j k hj hk;right;refine c7 hT rfl (gt.get hi) fun w1 hw1=>?_;right;refine gZ hw1 rfl (gt.dF hi hj) ?_;refine c7 hT rfl (gt.get hij) fun w2 hw2=>?_;right;refine gZ hw2 rfl (gt.dF hij hk) ?_;right;refine c7 hT rfl (gt.get hi) fun w3 hw3=>?_;right;refine c7 hT rfl (gt.get hj) fun w4 hw4=>?_;right;refine gZ hw4 rfl (gt.dF hj hk) ?_;refine gZ hw3 rfl (gt.dF hi hjk) ?_;right;refine ck (fun c=>absurd (by rw [gt.assoc i j k hi hj hk]) c) (fun _=>?_)
    right;exact ⟨rfl,_,rfl⟩
   ·rintro σ3 H3 ⟨rfl,z,rfl⟩;exact ⟨rfl,_,_,rfl⟩
  ·rintro σ'' H'' ⟨rfl,y,z,rfl⟩;exact ⟨rfl,_,_,_,rfl⟩
 ·rintro σ' H' ⟨rfl,x,y,z,rfl⟩;exact q
def gfs (n:Int) (r e b:V):List (Str×V):=[("many",.int n),("rows",r),("unit",e),("backs",b)]
def Dd (n:Int) (r e b:V):(gfs n r e b).lookup ("many" : Str)=some (.int n):=rfl
def Em (n:Int) (r e b:V):(gfs n r e b).lookup ("rows" : Str)=some r:=rfl
def Dk (n:Int) (r e b:V):(gfs n r e b).lookup ("unit" : Str)=some e:=rfl
def aY (C:Addr) (H:Hp) (g:Addr) (n:Nat) (t:List (List Nat)) (e:Nat):Prop :=
 ∃ dx r b ps,H g=some (.ins C dx (gfs n (.ref r) (.int (e:Int)) (.ref b)))/\Tbl H r t ps/\H b=some (.lst (aH (bks n t e)))
def aY.mono {C:Addr} {H H':Hp} {g n e:Nat} {t:List (List Nat)} (s:aj H H') (h:aY C H g n t e):aY C H' g n t e:=by
 obtain ⟨dx,r,b,ps,h1,h2,h3⟩:=h;exact ⟨dx,r,b,ps,s _ _ h1,h2.mono s,s _ _ h3⟩
def bA {H:Hp} {b:Addr} {l:List Nat} (h:H b=some (.lst (aH l))):At K H (.ref b) l:=⟨b,_,rfl,SqL.of h,jR⟩
def dU {H:Hp} {d:Addr} {l:List Nat} (h:Gr K H d l):H d=some (.lst (aH l)):=by
 obtain ⟨ys,hy,hP⟩:=h;have e:ys=aH l:=by
  unfold aH
  clear hy
  induction hP with
  | nil=>rfl
  | cons r _ ih=>rw [JL,<- ih];exact congrArg (· :: _) r
 rw [<- e];exact hy
def aY.get {C:Addr} {H:Hp} {g n e:Nat} {t:List (List Nat)} (h:aY C H g n t e):∃ dx r b,H g=some (.ins C dx (gfs n (.ref r) (.int (e:Int)) (.ref b)))/\At K H (.ref r) t/\At K H (.ref b) (bks n t e):=by
 obtain ⟨dx,r,b,ps,h1,h2,h3⟩:=h;exact ⟨dx,r,b,h1,h2.at,bA h3⟩
section
variable (T:Txt K mg) {H:Hp} {g dx:Addr} {n:Int} {r e b:V} {Q:VK} (hg:H g=some (.ins T.aM dx (gfs n r e b)))
include hg
theorem bK (q:Q (.int n) H):isF K "many" (.ref g) H Q:=⟨g,T.aM,dx,_,_,rfl,hg,T.iC,T.nS,Dd _ _ _ _,q⟩
theorem bU (q:Q r H):isF K "rows" (.ref g) H Q:=⟨g,T.aM,dx,_,_,rfl,hg,T.iC,T.nD,Em _ _ _ _,q⟩
theorem cK (q:Q e H):isF K "unit" (.ref g) H Q:=⟨g,T.aM,dx,_,_,rfl,hg,T.iC,T.nV,Dk _ _ _ _,q⟩
end
inductive Dx (C:Addr) (K:IC) (vs:List V) (H:Hp) (Q:VK) (E:XK):Prop
 | mk (p dx:Addr) (r e b:V) (t:List (List Nat)) (_:vs=[.ref p,r,e,b]) (_:H p=some (.ins C dx [])) (_:At K H r t) (_:∀ H',H' p=some (.ins C dx (gfs t.length r e b))->(∀ a o,H a=some o->a≠p->H' a=some o)->Q .non H')
def Dn (T:Txt K mg):aN P w K mg base CX0 1 T.tM T.uF ["self","rows","unit","backs"] (Dx T.aM K):=by
 exists T.Fz.ok vU
 ·obtain ⟨p,dx,r,e,b,t,rfl,_⟩:=h;rfl
 obtain ⟨p,dx,r,e,b,t,rfl,hp,hT,k⟩:=h;refine ⟨_,(ae (eS K rfl (pv 0) (aA (aQ K rfl) rfl T.bC Jf (paF (pv 1) aa)) rfl)
   (ae (eS K rfl (pv 0) (pv 1) rfl)
   (ae (eS K rfl (pv 0) (pv 2) rfl)
   (af (eS K rfl (pv 0) (pv 3) rfl))))),?_⟩
 right;refine cA hT ?_;right;refine ⟨p,T.aM,dx,_,rfl,hp,T.iC,T.nS,(by show 0<1000;decide),?_⟩
 right;refine ⟨p,T.aM,dx,_,rfl,ar,T.iC,T.nD,(by show 1<1000;decide),?_⟩
 right;refine ⟨p,T.aM,dx,_,rfl,ar,T.iC,T.nV,(by show 2<1000;decide),?_⟩
 right;refine ⟨p,T.aM,dx,_,rfl,ar,T.iC,T.vE,(by show 3<1000;decide),?_⟩
 refine k _ ar fun a o ha hne=>?_;rw [av hne,av hne,av hne,av hne];exact ha
inductive zk (C:Addr) (K:IC) (vs:List V) (H:Hp) (Q:VK) (E:XK):Prop
 | mk (v:V) (n e:Nat) (t:List (List Nat)) (_:vs=[v]) (_:At K H v t) (_:GT n t e) (_:∀ g H',H g=none->aj H H'->aY C (since H H') g n t e->Q (.ref g) H')
def pM (T:Txt K mg):aN P w K mg base CX0 3 T.hX.f T.hX.fd ["table"] (zk T.aM K):=by
 exists T.hX.ok iO
 ·obtain ⟨v,n,e,t,rfl,_⟩:=h;rfl
 obtain ⟨v,n,e,t,rfl,hT,gt,k⟩:=h;refine ⟨_,(ae (cv (i:=1) rfl iO.nd rfl (IQ rfl) nc (aT K rfl (pv 0)) (fun _ _ _ _=>⟨(au (i:=0) nc.nd rfl (IQ rfl)),bb,(cG (fP K rfl) rfl T.gF JW (paF (pv 0) aa))⟩) rfl)
   (ae (bq (ay T.gW (vF T) (hr.mono (by decide)) rfl (paF (pv 1) aa)))
   (ae (bq (ay T.ee (nG T) (hr.mono (by decide)) rfl (paF (pv 1) aa)))
   (ae (ao (i:=2) iO.nd rfl (IQ rfl) (ay T.lg (A6 T) (hr.mono (by decide)) rfl (paF (pv 1) aa)))
   (ae (ao (i:=3) iO.nd rfl (IQ rfl) (ay T.jN (yY T) (hr.mono (by decide)) rfl (paF (pv 1) (paF (pv 2) aa))))
   (ae (bq (ay T.eG (pB T) (hr.mono (by decide)) rfl (paF (pv 1) aa)))
   (af (aL (cP T.FK (Dn T) (hr.mono (by decide)) rfl T.FG T.Fq .nil dX (paF (pv 1) (paF (pv 2) (paF (pv 3) aa)))))))))))),?_⟩
 have h1:=gt.len;have h3:=gt.le;right;refine mq hT (by omega) fun d H1 ps s1 fd fps tb1=>?_
 have hd':At K H1 (.ref d) t:=tb1.at;right;refine ⟨_,n,t,rfl,hd',gt.toSq,?_⟩;right;refine ⟨_,n,t,rfl,hd',gt.toGd,?_⟩;right;refine ⟨_,n,e,t,rfl,hd',gt,?_⟩;right;refine ⟨_,n,e,t,rfl,hd',gt,fun b H2 fb s2 hb=>?_⟩;right;refine ⟨_,n,e,t,rfl,Rep.mono s2 hd',gt,?_⟩;right;intro x dx hx hdx hne;have s3:aj H2 (upd (upd H2 dx (.own x)) x (.ins T.aM dx [])):=fun b' o z=>by
  rw [av (az z hx),av (az z hdx)];exact z
 refine ⟨x,dx,_,_,_,t,rfl,ar,Rep.mono s3 (Rep.mono s2 hd'),fun H4 h4 k4=>⟨rfl,?_⟩⟩;have s4:aj H2 H4:=fun b' o z=>k4 b' o (s3 b' o z) (az z hx);have fx:H x=none:=(s1.trans s2).free hx;refine k x H4 fx (s1.trans (s2.trans s4)) ⟨dx,d,b,ps,?_,(tb1.mono (s2.trans s4)).since fd fps,?_⟩
 ·rw [e8 fx,h4,h1]
 ·rw [e8 (s1.free fb)];exact s4 _ _ (dU hb)
end
def lq (ns:List Int) (k:Nat):Nat:=match ns[k]? with
 | some x=>(x % 2147483647).toNat
 | none=>0
def qj (ns:List Int) (k:Nat):lq ns k<2147483647:=by
 unfold lq
 split
 ·rename_i x _
  have:=Int.emod_lt_of_pos x (show (0:Int)<2147483647 by decide)
  have:=Me x (show (2147483647:Int)≠0 by decide)
  omega
 ·decide
structure fw (a b c s:Nat):Prop where
 a1:1<=a
 b1:1<=b
 c1:1<=c
 s1:1<=s
 s4:s<=4
 le:a * b * c * s<=23
def szL (l:List Nat):Bool:=match l with
 | [a,b,c,s]=>decide (1<=a/\1<=b/\1<=c/\1<=s/\s<=4/\a * b * c * s<=23)
 | _=>false
def Gs {l:List Nat} (h:szL l=true):∃ a b c s,l=[a,b,c,s]/\fw a b c s:=by
 match l,h with
 | [a,b,c,s],h =>
  have h':=of_decide_eq_true h;exact ⟨a,b,c,s,rfl,h'.1,h'.2.1,h'.2.2.1,h'.2.2.2.1,h'.2.2.2.2.1,h'.2.2.2.2.2⟩
def iJ {x y:Nat} (h:1<=y):x<=x * y:=by
 have:=JQ x h;omega
def fw.ab {a b c s:Nat} (h:fw a b c s):a * b<=23:=by
 have h1:=h.le;have h2:a * b<=a * b * c:=iJ h.c1;have h3:a * b * c<=a * b * c * s:=iJ h.s1;omega
def fw.abc {a b c s:Nat} (h:fw a b c s):a * b * c<=23:=by
 have h1:=h.le;have h3:a * b * c<=a * b * c * s:=iJ h.s1;omega
def fw.a23 {a b c s:Nat} (h:fw a b c s):a<=23:=by
 have h1:=h.ab;have h2:a<=a * b:=iJ h.b1;omega
def fw.b23 {a b c s:Nat} (h:fw a b c s):b<=23:=by
 have h1:=h.ab;have h2:b<=b * a:=iJ h.a1;rw [Kd] at h2;omega
def fw.c23 {a b c s:Nat} (h:fw a b c s):c<=23:=by
 have h1:=h.abc;have h2:c<=c * (a * b):=iJ (J8 h.a1 h.b1);rw [Kd] at h2;omega
def F7:DF.all szL=true:=by decide
def E6:∀ k,k<4->6<=([8,12,6,23]:List Nat).getD k 0/\([8,12,6,23]:List Nat).getD k 0<=23:=by decide
def Ek:∀ k,k<6->1<=([2,1,2,3,2,4]:List Nat).getD k 0/\([2,1,2,3,2,4]:List Nat).getD k 0<=4:=by decide
def Dl:∀ k,k<3->0<([12,276,6348]:List Nat).getD k 0/\([12,276,6348]:List Nat).getD k 0<1073741824:=by decide
def HP {fi se th st room top:Nat} (h1:1<=fi) (h2:1<=se) (h3:1<=th) (h4:1<=st) (h5:st<=4) (hfs:0<fi * se) (ht:th<=room / (fi * se)) (hr:room * st<=top) (h23:top<=23):fw fi se th st:=by
 refine ⟨h1,h2,h3,h4,h5,?_⟩;have e1:fi * se * th<=room:=JV (JQ _ ht) (NN room (fi * se));have e2:fi * se * th * st<=room * st:=KG _ e1;omega
section
variable {P:Jc} {w:World} {K:IC} {mg:Str->Option Value} {base:Heap}
inductive yX (K:IC) (vs:List V) (H:Hp) (Q:VK) (E:XK):Prop
 | mk (v:V) (ns:List Int) (k:Nat) (_:vs=[v,.int (k:Int)]) (_:At K H v ns) (_:Q (.int (lq ns k:Int)) H)
def iX (T:Txt K mg):aN P w K mg base CX0 1 T.eI.f T.eI.fd ["_law_script","_law_k"] (yX K):=by
 exists T.eI.ok y8
 ·obtain ⟨v,ns,k,rfl,_⟩:=h;rfl
 obtain ⟨v,ns,k,rfl,hA,q⟩:=h;refine ⟨_,(ae (bj (aD lr (pv 1) (aA (aQ K rfl) rfl T.bC Jf (paF (pv 0) aa)) (aJ _)) (af (aL (ak aS (aq (ai K rfl) (pv 0) (pv 1) (fun _ _=>rfl)) ah))) aV)
   (af (aL ah))),?_⟩
 right;refine cA hA ?_;right;refine bt (fun c=>?_) (fun c=>?_)
 ·have hk:k<ns.length:=by omega
  right;refine HG (n:=k) hA rfl (IG hk) ?_;right;refine ir (show (0:Int)<2147483647 by decide) ?_
  unfold lq at q;rw [IG hk] at q;have:=Me ns[k] (show (2147483647:Int)≠0 by decide)
  dsimp only at q;rw [Int.toNat_of_nonneg this] at q;exact q
 ·have hk:¬ k<ns.length:=by omega
  right;unfold lq at q;rw [Kz (by omega)] at q
  exact q
inductive xU (K:IC) (vs:List V) (H:Hp) (Q:VK) (E:XK):Prop
 | mk (one two:Nat) (_:vs=[.int (one:Int),.int (two:Int)]) (_:∀ v H' a b c s,aj H H'->fw a b c s->At K H' v [a,b,c,s]->Q v H')
def yA (T:Txt K mg):aN P w K mg base CX0 1 T.i5.f T.i5.fd ["_law_one_here","_law_two"] (xU K):=by
 exists T.i5.ok cp
 ·obtain ⟨one,two,rfl,_⟩:=h;rfl
 obtain ⟨one,two,rfl,q⟩:=h;refine ⟨_,(ae (ao (i:=2) cp.nd rfl (IQ rfl) (ak bz (pv 0) ah))
   (ae (bj (aD cL (ak aS (pv 0) ah) ah (aJ _)) (ae (ao (i:=3) cp.nd rfl (IQ rfl) (cq (yC [[2,2,1,3],[7,1,1,3],[5,1,1,4],[4,2,1,2],[3,3,1,2],[8,1,1,2]] (by trivial)).out))
   (ae (ao (i:=3) cp.nd rfl (IQ rfl) (ak CI (pv 3) (cq (yC [[4,1,1,2],[2,2,2,2],[3,1,1,4],[2,2,1,2],[5,1,1,2],[9,1,1,2]] (by trivial)).out)))
   (af (aL (aq (ai K rfl) (pv 3) (ak aS (pv 2) ah) (fun _ _=>rfl)))))) aV)
   (ae (ao (i:=4) cp.nd rfl (IQ rfl) (aq (ai K rfl) (cq (qz [8,12,6,23] (by trivial)).out) (ak aS (pv 2) ah) (fun _ _=>rfl)))
   (ae (ao (i:=5) cp.nd rfl (IQ rfl) (aq (ai K rfl) (cq (qz [2,1,2,3,2,4] (by trivial)).out) (ak aS (ak bz (pv 2) ah) ah) (fun _ _=>rfl)))
   (ae (ao (i:=6) cp.nd rfl (IQ rfl) (ak bz (pv 4) (pv 5)))
   (ae (ao (i:=7) cp.nd rfl (IQ rfl) (ak aU ah (ak aS (ak bz (pv 2) ah) (pv 6))))
   (ae (ao (i:=8) cp.nd rfl (IQ rfl) (ak aU ah (ak aS (pv 1) (ak bz (pv 6) (pv 7)))))
   (ae (ao (i:=9) cp.nd rfl (IQ rfl) (ak aU ah (ak aS (ak bz (pv 1) ah) (ak bz (pv 6) (ak bg (pv 7) (pv 8))))))
   (af (aL (cq (paF (pv 7) (paF (pv 8) (paF (pv 9) (paF (pv 5) aa))))))))))))))),?_⟩
 left;generalize one / 3=num;walk_at "ifs";left;refine bt (fun _=>?_) (fun _=>?_)
 ·left;refine dM (K:=K) (l:=([[2,2,1,3],[7,1,1,3],[5,1,1,4],[4,2,1,2],[3,3,1,2],[8,1,1,2]]:List (List Nat))) (tU _ (by decide)) (by decide) fun d1 H1 f1 s1 g1=>?_
  left;refine dM (K:=K) (l:=([[4,1,1,2],[2,2,2,2],[3,1,1,4],[2,2,1,2],[5,1,1,2],[9,1,1,2]]:List (List Nat))) (tU _ (by decide)) (by decide) fun d2 H2 f2 s2 g2=>?_
  refine ES (g1.mono s2).copy g2.copy (by decide) fun d3 H3 f3 s3 a3=>?_
  have a3':At K H3 (.ref d3) DF:=a3;left;have hm:num % 12<DF.length:=Jj _ (by decide)
  refine c7 (n:=num % 12) a3' rfl (getD_some [] hm) fun w hw=>?_;obtain ⟨a,b,c,s,e,ok⟩:=Gs (Jq.mp F7 _ (IH (getD_some [] hm)));rw [e] at hw;exact q w H3 a b c s (s1.trans (s2.trans s3)) ok hw
 ·left;refine dM (K:=K) (l:=([8,12,6,23]:List Nat)) (me _) (by decide) fun d1 H1 f1 s1 g1=>?_
  left;have hm4:num % 4<4:=Jj _ (by decide)
  refine br g1.at (getD_some 0 (show num % 4<([8,12,6,23]:List Nat).length from hm4)) ?_;obtain ⟨h6,h23⟩:=E6 (num % 4) hm4;generalize ([8,12,6,23]:List Nat).getD (num % 4) 0=top at h6 h23 ⊢;left;refine dM (K:=K) (l:=([2,1,2,3,2,4]:List Nat)) (me _) (by decide) fun d2 H2 f2 s2 g2=>?_
  left;have hm6:num / 4 % 6<6:=Jj _ (by decide)
  refine br g2.at (getD_some 0 (show num / 4 % 6<([2,1,2,3,2,4]:List Nat).length from hm6)) ?_;obtain ⟨t1,t4⟩:=Ek (num / 4 % 6) hm6;generalize ([2,1,2,3,2,4]:List Nat).getD (num / 4 % 6) 0=st at t1 t4 ⊢;left;have hroom:0<top / st:=NU (by omega) (by omega)
  have hrs:top / st * st<=top:=Nat.div_mul_le_self _ _;generalize top / st=room at hroom hrs ⊢;have hr23:room<=23:=by
   have:=Nat.le_mul_of_pos_right room (show 0<st by omega)
   omega
  left;have hf:1+num / 24 % room<=room:=by
   have:=Jj (num / 24) hroom;omega
  have hf1:1<=1+num / 24 % room:=by omega
  generalize 1+num / 24 % room=fi at hf hf1 ⊢;left;have h2:0<room / fi:=NU hf hf1;refine yG h2 ?_;left;have hse:1+two % (room / fi)<=room / fi:=by
   have:=Jj two h2;omega
  have hse1:1<=1+two % (room / fi):=by omega
  generalize 1+two % (room / fi)=se at hse hse1 ⊢;have hfs:fi * se<=room:=JV (JQ _ hse) (NN room fi);have hfs1:0<fi * se:=J8 hf1 hse1;left;have h3:0<room / (fi * se):=NU hfs hfs1;refine yG h3 ?_;left;have hth:1+two / 23 % (room / (fi * se))<=room / (fi * se):=by
   have:=Jj (two / 23) h3;omega
  have hth1:1<=1+two / 23 % (room / (fi * se)):=by omega
  generalize 1+two / 23 % (room / (fi * se))=th at hth hth1 ⊢;refine i3 ?_;left;refine ⟨small (by show 4<=1000;decide),fun p hp=>q _ _ fi se th st (s1.trans (s2.trans (aE hp _))) (HP hf1 hse1 hth1 t1 t4 hfs1 hth hrs h23) ?_⟩
  exact ⟨p,_,rfl,SqL.of ar,.cons rfl (.cons rfl (.cons rfl (.cons rfl .nil)))⟩
def KJ (K:IC) (H:Hp) (v:V) (x a b s:Nat) (d:Addr) (n:Nat):St->Hp->Prop:=fun σ' H'=>σ'=[some v,some (.int (x:Int)),some (.ref d)]/\aj H H'/\∃ l:List Nat,Gr K H' d l/\l≠[]/\l.length<=n/\∀ k∈l,k<5/\dW a b s k=true
def KJ.put {H H':Hp} {v:V} {x a b s n k:Nat} {d:Addr} {σ':St} {N:St->Hp->Prop} (hd:H d=none) (hn:n<=1000) (h:KJ K H v x a b s d n σ' H') (h5:k<5) (hk:dW a b s k=true) (hN:∀ H'',KJ K H v x a b s d (n+1) σ' H''->N σ' H'') :
  t5 (.ref d) [.int (k:Int)] H' fun _ H1=>N σ' H1:=by
 obtain ⟨e,s1,l,g,ne,ll,hl⟩:=h;refine gj (b:=k) g (by omega) rfl fun H3 g3 k3 _=>hN H3 ⟨e,aj.but hd s1 k3,_,g3,by simp,by rw [IZ];simp;omega,fun y hy=>?_⟩
 rcases JG.mp hy with z|z
 ·exact hl y z
 ·rw [I0.mp z];exact ⟨h5,hk⟩
def KJ.skip {H H':Hp} {v:V} {x a b s n:Nat} {d:Addr} {σ':St} (h:KJ K H v x a b s d n σ' H'):KJ K H v x a b s d (n+1) σ' H':=by
 obtain ⟨e,s1,l,g,ne,ll,hl⟩:=h;exact ⟨e,s1,l,g,ne,by omega,hl⟩
def KJ.ty {H H':Hp} {v:V} {x a b s n:Nat} {d:Addr} {σ':St} (h:KJ K H v x a b s d n σ' H'):tyV K "list" (.ref d) H':=by
 obtain ⟨e,s1,l,g,_⟩:=h;exact g.ty
def HK {a b s:Nat} (h1:a=b) (h2:s % 2=0):dW a b s 1=true:=by subst h1;simp [dW,h2]
def HR {a b s:Nat} (h1:a=b) (h2:s % 3=0):dW a b s 2=true:=by subst h1;simp [dW,h2]
def HM {a b s:Nat} (h1:a % b=0) (h2:1<b) (h3:s % b=0):dW a b s 3=true:=by simp [dW,h1,h2,h3]
def HQ {a b s:Nat} (h1:a % 2=0) (h2:b % 2=0) (h3:s % 2=0):dW a b s 4=true:=by simp [dW,h1,h2,h3]
inductive yT (K:IC) (vs:List V) (H:Hp) (Q:VK) (E:XK):Prop
 | mk (v:V) (x a b c s:Nat) (_:vs=[v,.int (x:Int)]) (_:fw a b c s) (_:At K H v [a,b,c,s]) (_:∀ k H',aj H H'->k<5->dW a b s k=true->Q (.int (k:Int)) H')
def zt (T:Txt K mg):aN P w K mg base CX0 1 T.jM.f T.jM.fd ["_law_sizes_here","_law_number"] (yT K):=by
 exists T.jM.ok pL
 ·obtain ⟨v,x,a,b,c,s,rfl,_⟩:=h;rfl
 obtain ⟨v,x,a,b,c,s,rfl,sz,hS,q⟩:=h;refine ⟨_,(ae (ao (i:=2) pL.nd rfl (IQ rfl) (cq (paF ah aa)))
   (ae (bj (PW.pt (je (aD cL (aq (ai K rfl) (pv 0) ah (fun _ _=>rfl)) (aq (ai K rfl) (pv 0) ah (fun _ _=>rfl)) (aJ _)) (jU (aD cL (ak aS (aq (ai K rfl) (pv 0) ah (fun _ _=>rfl)) ah) ah (aJ _))))) (af (bq (c9 K rfl Jo Jz JA cc (pv 2) (paF ah aa)))) aV)
   (ae (bj (PW.pt (je (aD cL (aq (ai K rfl) (pv 0) ah (fun _ _=>rfl)) (aq (ai K rfl) (pv 0) ah (fun _ _=>rfl)) (aJ _)) (jU (aD cL (ak aS (aq (ai K rfl) (pv 0) ah (fun _ _=>rfl)) ah) ah (aJ _))))) (af (bq (c9 K rfl Jo Jz JA cc (pv 2) (paF ah aa)))) aV)
   (ae (bj (PW.pt (je (aD cL (ak aS (aq (ai K rfl) (pv 0) ah (fun _ _=>rfl)) (aq (ai K rfl) (pv 0) ah (fun _ _=>rfl))) ah (aJ _)) (je (aD jO (aq (ai K rfl) (pv 0) ah (fun _ _=>rfl)) ah (aJ _)) (jU (aD cL (ak aS (aq (ai K rfl) (pv 0) ah (fun _ _=>rfl)) (aq (ai K rfl) (pv 0) ah (fun _ _=>rfl))) ah (aJ _)))))) (af (bq (c9 K rfl Jo Jz JA cc (pv 2) (paF ah aa)))) aV)
   (ae (bj (PW.pt (je (aD cL (ak aS (aq (ai K rfl) (pv 0) ah (fun _ _=>rfl)) ah) ah (aJ _)) (je (aD cL (ak aS (aq (ai K rfl) (pv 0) ah (fun _ _=>rfl)) ah) ah (aJ _)) (jU (aD cL (ak aS (aq (ai K rfl) (pv 0) ah (fun _ _=>rfl)) ah) ah (aJ _)))))) (af (bq (c9 K rfl Jo Jz JA cc (pv 2) (paF ah aa)))) aV)
   (af (aL (aq (ai K rfl) (pv 2) (ak aS (pv 1) (aA (aQ K rfl) rfl T.bC Jf (paF (pv 2) aa))) (fun _ _=>rfl))))))))),?_⟩
 have b1:=sz.b1;left;refine dM (K:=K) (l:=([0]:List Nat)) (by walk_at "wr") (by decide) fun d H1 f1 s1 g1=>?_
 have j1:KJ K H v x a b s d 1 [some v,some (.int (x:Int)),some (.ref d)] H1:=⟨rfl,s1,_,g1,by simp,by simp,fun k hk=>by rw [I0.mp hk];exact ⟨by decide,rfl⟩⟩
 have hS1:=Rep.mono s1 hS;left;refine kS (KJ K H v x a b s d 2) (fun N hN=>?_) ?_
 ·left;refine bt (fun c1=>?_) (fun _=>?_)
  ·left;refine bt (fun c2=>?_) (fun _=>?_)
   ·left;refine ⟨j1.ty,?_⟩;left;exact KJ.put f1 (by decide) j1 (by decide) (HK c1 c2) fun H2 z=>hN _ _ z
   ·left;exact hN _ _ j1.skip
  ·walk_at "7";exact hN _ _ j1.skip
 rintro σ2 H2 j2;obtain ⟨rfl,s2,z2⟩:=id j2;have hS2:=Rep.mono s2 hS;left;refine kS (KJ K H v x a b s d 3) (fun N hN=>?_) ?_
 ·left;refine bt (fun c1=>?_) (fun _=>?_)
  ·left;refine bt (fun c2=>?_) (fun _=>?_)
   ·left;refine ⟨j2.ty,?_⟩;left;exact KJ.put f1 (by decide) j2 (by decide) (HR c1 c2) fun H2 z=>hN _ _ z
   ·left;exact hN _ _ j2.skip
  ·walk_at "7";exact hN _ _ j2.skip
 rintro σ3 H3 j3;obtain ⟨rfl,s3,z3⟩:=id j3;have hS3:=Rep.mono s3 hS;left;refine kS (KJ K H v x a b s d 4) (fun N hN=>?_) ?_
 ·left;refine bt (fun c1=>?_) (fun _=>?_)
  ·left;refine bt (fun c2=>?_) (fun _=>?_)
   ·left;refine bt (fun c3=>?_) (fun _=>?_)
    ·left;refine ⟨j3.ty,?_⟩;left;exact KJ.put f1 (by decide) j3 (by decide) (HM c1 c2 c3) fun H2 z=>hN _ _ z
    ·left;exact hN _ _ j3.skip
   ·walk_at "7";exact hN _ _ j3.skip
  ·walk_at "7";exact hN _ _ j3.skip
 rintro σ4 H4 j4;obtain ⟨rfl,s4,z4⟩:=id j4;have hS4:=Rep.mono s4 hS;left;refine kS (KJ K H v x a b s d 5) (fun N hN=>?_) ?_
 ·left;refine bt (fun c1=>?_) (fun _=>?_)
  ·left;refine bt (fun c2=>?_) (fun _=>?_)
   ·left;refine bt (fun c3=>?_) (fun _=>?_)
    ·left;refine ⟨j4.ty,?_⟩;left;exact KJ.put f1 (by decide) j4 (by decide) (HQ c1 c2 c3) fun H2 z=>hN _ _ z
    ·left;exact hN _ _ j4.skip
   ·walk_at "7";exact hN _ _ j4.skip
  ·walk_at "7";exact hN _ _ j4.skip
 rintro σ5 H5 ⟨rfl,s5,l,g5,ne,ll,hl⟩;have ha5:=g5.at;have hl0:0<l.length:=Jw.mpr ne;left;have hm:x % l.length<l.length:=Jj _ hl0;refine br ha5 (getD_some 0 hm) ?_;have hk:=hl _ (IH (getD_some 0 hm));exact q _ H5 s5 hk.1 hk.2
inductive yS (K:IC) (vs:List V) (H:Hp) (Q:VK) (E:XK):Prop
 | mk (m s x:Nat) (_:vs=[.int (m:Int),.int (s:Int),.int (x:Int)]) (_:1<=m) (_:m<=23) (_:1<=s) (_:s<=4) (_:∀ u H',aj H H'->u∈unitsOf m s->Q (.int (u:Int)) H')
def zj (T:Txt K mg):aN P w K mg base CX0 1 T.jQ.f T.jQ.fd ["_law_many","_law_steps","_law_number"] (yS K):=by
 exists T.jQ.ok dZ
 ·obtain ⟨m,s,x,rfl,_⟩:=h;rfl
 obtain ⟨m,s,x,rfl,m1,m23,s1,s4,q⟩:=h;refine ⟨_,(ae (ao (i:=3) dZ.nd rfl (IQ rfl) (cq aa))
   (ae (bo IW rfl (aO rfl T.bc (paF (pv 0) aa)) (au (i:=4) dZ.nd rfl (IQ rfl)) (ae (ao (i:=5) dZ.nd rfl (IQ rfl) ah)
   (ae (bo IW rfl (aO rfl T.bc (paF (pv 1) aa)) (au (i:=6) dZ.nd rfl (IQ rfl)) (af (ao (i:=5) dZ.nd rfl (IQ rfl) (ak aS (ak bg (pv 5) (pv 4)) (pv 0)))))
   (af (bj (aD cL (pv 5) (ak aS ah (pv 0)) (aJ _)) (af (bq (c9 K rfl Jo Jz JA cc (pv 3) (paF (pv 4) aa)))) aV)))))
   (ae (bj (PW.pt (je (aD jO (ak bg (pv 0) (pv 1)) ah (aJ _)) (jU (aD jO (aA (aQ K rfl) rfl T.bC Jf (paF (pv 3) aa)) ah (aJ _))))) (af (ao (i:=3) dZ.nd rfl (IQ rfl) (xx (xZ K rfl) (pv 3) (tp ah) Fc))) aV)
   (af (aL (aq (ai K rfl) (pv 3) (ak aS (pv 2) (aA (aQ K rfl) rfl T.bC Jf (paF (pv 3) aa))) (fun _ _=>rfl))))))),?_⟩
 left;refine dM (K:=K) (l:=([]:List Nat)) hZ (by decide) fun d H1 f1 e1 g1=>?_
 left;refine bR (n:=m) rfl (by omega) (fun i σ H'=>aj H H'/\Gr K H' d ((IF i).filter fun u=>KQ (pw u m s) (1 % m))/\∃ y z k,σ=[some (.int (m:Int)),some (.int (s:Int)),some (.int (x:Int)),some (.ref d),y,z,k]) ⟨e1,g1,_,_,_,rfl⟩ ?_ ?_
 ·rintro i σ' H' hi ⟨e2,g2,y,z,k,rfl⟩;left;refine bR (n:=s) rfl (by omega) (fun j σ H2=>H2=H'/\∃ k,σ=[some (.int (m:Int)),some (.int (s:Int)),some (.int (x:Int)),some (.ref d),some (.int (i:Int)),some (.int (pw i m j:Int)),k]) ⟨rfl,_,rfl⟩ ?_ ?_
  ·rintro j σ'' H2 hj ⟨rfl,k,rfl⟩;left;exact ⟨rfl,_,rfl⟩
  ·rintro σ'' H2 ⟨rfl,k,rfl⟩;walk_at "3";have hl:((IF i).filter fun u=>KQ (pw u m s) (1 % m)).length<=100000:=by
    have:=Lm (fun u=>KQ (pw u m s) (1 % m)) (IF i);rw [Jb] at this;omega
   refine bt (fun c=>?_) (fun c=>?_)
   ·left;refine ⟨g2.ty,?_⟩;left;refine gj (b:=i) g2 hl rfl fun H3 g3 k3 _=>?_;refine ⟨aj.but f1 e2 k3,?_,_,_,_,rfl⟩;rw [rK,if_pos c];exact g3
   ·left;refine ⟨e2,?_,_,_,_,rfl⟩;rw [rK,if_neg c];exact g2
 ·rintro σ' H2 ⟨e2,g2,y,z,k,rfl⟩;have g2':Gr K H2 d (unitsOf m s):=g2;have a2:=g2'.at;have ne:=DZ m1 m23 s1 s4;have ul:(unitsOf m s).length<=23:=by
   have:=Lm (fun u=>KQ (pw u m s) (1 % m)) (IF m);rw [Jb] at this;exact JV this m23
  have u0:0<(unitsOf m s).length:=Jw.mpr ne;left;refine kS (fun σ' H'=>aj H H'/\∃ (p:Addr) (l:List Nat),At K H' (.ref p) l/\0<l.length/\(∀ u∈l,u∈unitsOf m s)/\∃ y z k,σ'=[some (.int (m:Int)),some (.int (s:Int)),some (.int (x:Int)),some (.ref p),y,z,k]) (fun N hN=>?_) ?_
  ·have no:N [some (.int (m:Int)),some (.int (s:Int)),some (.int (x:Int)),some (.ref d),y,z,k] H2:=hN _ _ ⟨e2,d,_,a2,u0,fun _ z=>z,_,_,_,rfl⟩;left;refine bt (fun c1=>?_) (fun _=>?_)
   ·left;refine bt (fun c2=>?_) (fun _=>?_)
    ·left;refine FU a2 fun p H3 e3 _ a3=>?_;left;have ec:cut (unitsOf m s) (some ((1:Nat):Int)) none=(unitsOf m s).drop 1:=DX _;rw [ec] at a3;exact hN _ _ ⟨e2.trans e3,p,_,a3,by rw [LX];omega,fun u hu=>List.mem_of_mem_drop hu,_,_,_,rfl⟩
    ·left;exact no
   ·walk_at "7";exact no
  ·rintro σ3 H3 ⟨e3,p,l,a3,l0,hl,y,z,k,rfl⟩;left;have hm:x % l.length<l.length:=Jj _ l0;refine br a3 (getD_some 0 hm) ?_;exact q _ H3 e3 (hl _ (IH (getD_some 0 hm)))
def Par.sz {a b c s kind u0 u1 u2:Nat} (h:Par a b c s kind u0 u1 u2):fw a b c s:=⟨h.a1,h.b1,h.c1,h.s1,h.s4,h.le⟩
inductive vD (K:IC) (vs:List V) (H:Hp) (Q:VK) (E:XK):Prop
 | mk (v u:V) (p kind a b c s u0 u1 u2:Nat) (_:vs=[.int (p:Int),v,.int (kind:Int),u]) (_:Par a b c s kind u0 u1 u2) (_:At K H v [a,b,c,s]) (_:At K H u [u0,u1,u2]) (_:p<a * b * c) (_:Q (.int (dJ a b c kind u0 u1 u2 p:Int)) H)
def vA (T:Txt K mg):aN P w K mg base CX0 1 T.gE.f T.gE.fd ["_law_place","_law_sizes_here","_law_kind_here","_law_units"] (vD K):=by
 exists T.gE.ok b6
 ·obtain ⟨v,u,p,kind,a,b,c,s,u0,u1,u2,rfl,_⟩:=h;rfl
 obtain ⟨v,u,p,kind,a,b,c,s,u0,u1,u2,rfl,pr,hS,hU,hp,q⟩:=h;refine ⟨_,(ae (ao (i:=4) b6.nd rfl (IQ rfl) (ak aS (pv 0) (aq (ai K rfl) (pv 1) ah (fun _ _=>rfl))))
   (ae (ao (i:=5) b6.nd rfl (IQ rfl) (ak aS (ak bz (pv 0) (aq (ai K rfl) (pv 1) ah (fun _ _=>rfl))) (aq (ai K rfl) (pv 1) ah (fun _ _=>rfl))))
   (ae (ao (i:=6) b6.nd rfl (IQ rfl) (ak aS (ak bg (ak bz (pv 0) (ak bg (aq (ai K rfl) (pv 1) ah (fun _ _=>rfl)) (aq (ai K rfl) (pv 1) ah (fun _ _=>rfl)))) (aq (ai K rfl) (pv 3) ah (fun _ _=>rfl))) (aq (ai K rfl) (pv 1) ah (fun _ _=>rfl))))
   (ae (bj (aD cL (pv 2) ah (aJ _)) (af (BE (i:=4) (j:=5) rfl b6.nd rfl rfl (by decide) rfl rfl (paF (pv 5) (paF (pv 4) aa)) rfl)) (af (bj (aD cL (pv 2) ah (aJ _)) (af (BE (i:=4) (j:=5) rfl b6.nd rfl rfl (by decide) rfl rfl (paF (ak aS (ak nX ah (pv 5)) (aq (ai K rfl) (pv 1) ah (fun _ _=>rfl))) (paF (ak aS (ak nX (pv 4) (pv 5)) (aq (ai K rfl) (pv 1) ah (fun _ _=>rfl))) aa)) rfl)) (af (bj (aD cL (pv 2) ah (aJ _)) (af (ao (i:=5) b6.nd rfl (IQ rfl) (ak aS (ak aU (pv 5) (pv 4)) (aq (ai K rfl) (pv 1) ah (fun _ _=>rfl))))) (af (bj (aD cL (pv 2) ah (aJ _)) (af (ao (i:=4) b6.nd rfl (IQ rfl) (ak aS (ak aU (pv 4) (ak bg (ak bz (aq (ai K rfl) (pv 1) ah (fun _ _=>rfl)) ah) (pv 5))) (aq (ai K rfl) (pv 1) ah (fun _ _=>rfl))))) (ae (ao (i:=4) b6.nd rfl (IQ rfl) (ak aS (ak bg (pv 4) (aq (ai K rfl) (pv 3) ah (fun _ _=>rfl))) (aq (ai K rfl) (pv 1) ah (fun _ _=>rfl))))
   (af (ao (i:=5) b6.nd rfl (IQ rfl) (ak aS (ak bg (pv 5) (aq (ai K rfl) (pv 3) ah (fun _ _=>rfl))) (aq (ai K rfl) (pv 1) ah (fun _ _=>rfl)))))))))))))
   (af (aL (ak aU (pv 4) (ak bg (aq (ai K rfl) (pv 1) ah (fun _ _=>rfl)) (ak aU (pv 5) (ak bg (aq (ai K rfl) (pv 1) ah (fun _ _=>rfl)) (pv 6))))))))))),?_⟩
 have a1:=pr.a1;have b1:=pr.b1;have c1:=pr.c1;have a23:=pr.sz.a23;have b23:=pr.sz.b23;have c23:=pr.sz.c23;have ab23:=pr.sz.ab;have ab0:0<a * b:=J8 a1 b1;have lu0:=(nR.mp pr.v0).1;have lu1:=(nR.mp pr.v1).1;have lu2:=(nR.mp pr.v2).1;left;refine kS (fun σ' H'=>H'=H/\∃ X Y:Nat,X+a * (Y+b * (p / (a * b) * u2 % c))=dJ a b c kind u0 u1 u2 p/\σ'=[some (.int (p:Int)),some v,some (.int (kind:Int)),some u,some (.int (X:Int)),some (.int (Y:Int)),some (.int ((p / (a * b) * u2 % c:Nat):Int))]) (fun N hN=>?_) ?_
 ·left;refine bt (fun k1=>?_) (fun k1=>?_)
  ·left;refine hN _ _ ⟨rfl,p / a % b,p % a,?_,rfl⟩;subst k1;rfl
  ·walk_at "ifs";left;refine bt (fun k2=>?_) (fun k2=>?_)
   ·have eab:a=b:=by
     have:=pr.kind;subst k2;simp [dW] at this;exact this.1
    have hy:p / a % b<a:=by rw [eab];exact Jj _ b1
    have hx:p % a<a:=Jj _ a1;left;refine ir (by omega) ?_
    left;refine ir (by omega) ?_
    left;refine hN _ _ ⟨rfl,(a - p / a % b) % a,(p % a+a - p / a % b) % a,?_,?_⟩
    ·subst k2;rfl
    ·have e1:(((0:Nat):Int) - ((p / a % b:Nat):Int)) % (a:Int)=(((a - p / a % b) % a:Nat):Int):=by
      have z:(((a - p / a % b) % a:Nat):Int)=((a - p / a % b:Nat):Int) % (a:Int):=by push_cast;rfl
      rw [z,show ((a - p / a % b:Nat):Int)=(((0:Nat):Int) - ((p / a % b:Nat):Int))+(a:Int) * 1 by omega,Mg]
     have e2:(((p % a:Nat):Int) - ((p / a % b:Nat):Int)) % (a:Int)=(((p % a+a - p / a % b) % a:Nat):Int):=by
      have z:(((p % a+a - p / a % b) % a:Nat):Int)=((p % a+a - p / a % b:Nat):Int) % (a:Int):=by push_cast;rfl
      rw [z,show ((p % a+a - p / a % b:Nat):Int)=(((p % a:Nat):Int) - ((p / a % b:Nat):Int))+(a:Int) * 1 by omega,Mg]
     rw [<- e1,<- e2];rfl
   ·walk_at "ifs";left;refine bt (fun k3=>?_) (fun k3=>?_)
    ·left;refine hN _ _ ⟨rfl,p % a,(p / a % b+p % a) % b,?_,rfl⟩;subst k3;rfl
    ·walk_at "ifs";left;refine bt (fun k4=>?_) (fun k4=>?_)
     ·left;refine hN _ _ ⟨rfl,(p % a+a / 2 * (p / a % b)) % a,p / a % b,?_,rfl⟩;subst k4;rfl
     ·have k0:kind=0:=by have:=pr.k5;omega
      left;refine hN _ _ ⟨rfl,p % a * u0 % a,p / a % b * u1 % b,?_,rfl⟩;subst k0;rfl
 ·rintro σ' H' ⟨rfl,X,Y,e,rfl⟩;left;rw [e];exact q
inductive Ap (K:IC) (vs:List V) (H:Hp) (Q:VK) (E:XK):Prop
 | mk (v:V) (p r a b c s:Nat) (_:vs=[.int (p:Int),.int (r:Int),v]) (_:fw a b c s) (_:At K H v [a,b,c,s]) (_:Q (.int (lsum a b c p r:Int)) H)
def sJ (T:Txt K mg):aN P w K mg base CX0 1 T.i7.f T.i7.fd ["_law_one_here","_law_other","_law_sizes_here"] (Ap K):=by
 exists T.i7.ok gH
 ·obtain ⟨v,p,r,a,b,c,s,rfl,_⟩:=h;rfl
 obtain ⟨v,p,r,a,b,c,s,rfl,sz,hS,q⟩:=h;refine ⟨_,(ae (ao (i:=3) gH.nd rfl (IQ rfl) (ak bg (aq (ai K rfl) (pv 2) ah (fun _ _=>rfl)) (aq (ai K rfl) (pv 2) ah (fun _ _=>rfl))))
   (ae (ao (i:=4) gH.nd rfl (IQ rfl) (ak aS (ak aU (pv 0) (pv 1)) (aq (ai K rfl) (pv 2) ah (fun _ _=>rfl))))
   (ae (ao (i:=5) gH.nd rfl (IQ rfl) (ak aS (ak aU (ak bz (pv 0) (aq (ai K rfl) (pv 2) ah (fun _ _=>rfl))) (ak bz (pv 1) (aq (ai K rfl) (pv 2) ah (fun _ _=>rfl)))) (aq (ai K rfl) (pv 2) ah (fun _ _=>rfl))))
   (ae (ao (i:=6) gH.nd rfl (IQ rfl) (ak aS (ak aU (ak bz (pv 0) (pv 3)) (ak bz (pv 1) (pv 3))) (aq (ai K rfl) (pv 2) ah (fun _ _=>rfl))))
   (af (aL (ak aU (ak aU (pv 4) (ak bg (aq (ai K rfl) (pv 2) ah (fun _ _=>rfl)) (pv 5))) (ak bg (pv 3) (pv 6))))))))),?_⟩
 have a1:=sz.a1;have b1:=sz.b1;have c1:=sz.c1;have a23:=sz.a23;have b23:=sz.b23;have ab23:=sz.ab;have ab0:0<a * b:=J8 a1 b1;left;exact q
inductive yI (K:IC) (vs:List V) (H:Hp) (Q:VK) (E:XK):Prop
 | mk (n x:Nat) (_:vs=[.int (n:Int),.int (x:Int)]) (_:n<=23) (_:x<2147483647) (_:∀ (d:Addr) (H':Hp) (π:List Nat),aj H H'->π.Perm (IF n)->At K H' (.ref d) π->Q (.ref d) H')
def xM (T:Txt K mg):aN P w K mg base CX0 1 T.iZ.f T.iZ.fd ["_law_many","_law_number"] (yI K):=by
 exists T.iZ.ok ic
 ·obtain ⟨n,x,rfl,_⟩:=h;rfl
 obtain ⟨n,x,rfl,n23,hx,q⟩:=h;refine ⟨_,(ae (ao (i:=2) ic.nd rfl (IQ rfl) (cq aa))
   (ae (bo IW rfl (aO rfl T.bc (paF (pv 0) aa)) (au (i:=3) ic.nd rfl (IQ rfl)) (ae (ao (i:=1) ic.nd rfl (IQ rfl) (ak aS (ak aU (ak aU (ak aU (ak bg (pv 1) (pv 1)) (ak bg ah (pv 1))) (pv 3)) ah) ah))
   (af (bq (c9 K rfl Jo PySem.F.slot_list_insert PySem.F.type_list_insert CS (pv 2) (paF (ak aS (pv 1) (ak aU (pv 3) ah)) (paF (pv 3) aa)))))))
   (af (aL (pv 2))))),?_⟩
 left;refine dM (K:=K) (l:=([]:List Nat)) hZ (by decide) fun d H1 f1 e1 g1=>?_
 left;refine bR (n:=n) rfl (by omega) (fun i σ H'=>aj H H'/\∃ (π:List Nat) (y:Nat) (k:Option V),π.Perm (IF i)/\y<2147483647/\Gr K H' d π/\σ=[some (.int (n:Int)),some (.int (y:Int)),some (.ref d),k]) ⟨e1,[],x,_,.refl _,hx,g1,rfl⟩ ?_ ?_
 ·rintro i σ' H' hi ⟨e2,π,y,k,hp,hy,g2,rfl⟩;have hl:π.length=i:=by rw [hp.length_eq,Jb]
  left;have hy2:(y * y+48271 * y+i+11) % 2147483647<2147483647:=Jj _ (by decide)
  generalize (y * y+48271 * y+i+11) % 2147483647=y2 at hy2 ⊢;refine ⟨g2.ty,?_⟩;left;have hk:y2 % (i+1)<i+1:=Jj _ (by omega)
  refine DC (b:=i) g2 (show y2 % (i+1)<=π.length by omega) (by omega) rfl fun H3 g3 k3=>?_
  exact ⟨aj.but f1 e2 k3,_,y2,_,DI hp,hy2,g3,rfl⟩
 ·rintro σ' H2 ⟨e2,π,y,k,hp,hy,g2,rfl⟩;left;exact q d H2 π e2 hp g2.at
def fZ {β:Type} (f:Nat->β) {n i:Nat} (h:i<n):((IF n).map f)[i]?=some (f i):=by simp [h]
inductive ze (K:IC) (vs:List V) (H:Hp) (Q:VK) (E:XK):Prop
 | mk (v tv:V) (a b c s e:Nat) (f:Nat->Nat) (_:vs=[v,tv,.int (e:Int)]) (_:fw a b c s) (_:Tn (a * b * c) (lsum a b c) f s e) (_:At K H v [a,b,c,s]) (_:At K H tv ((IF (a * b * c)).map f)) (_:∀ d H',aj H H'->At K H' (.ref d) (mkT (a * b * c * s) (cyc (a * b * c) (lsum a b c) f s e))->Q (.ref d) H')
def y9 (T:Txt K mg):aN P w K mg base CX0 2 T.jG.f T.jG.fd ["_law_sizes_here","_law_turn","_law_end"] (ze K):=by
 exists T.jG.ok b4
 ·obtain ⟨v,tv,a,b,c,s,e,f,rfl,_⟩:=h;rfl
 obtain ⟨v,tv,a,b,c,s,e,f,rfl,sz,tn,hS,hT,q⟩:=h;refine ⟨_,(ae (ao (i:=3) b4.nd rfl (IQ rfl) (aA (aQ K rfl) rfl T.bC Jf (paF (pv 1) aa)))
   (ae (ao (i:=4) b4.nd rfl (IQ rfl) (cq aa))
   (ae (ao (i:=5) b4.nd rfl (IQ rfl) (cG (lR rfl) rfl T.gF JW (paF (cG pH rfl T.bc MY (paF (pv 3) aa)) aa)))
   (ae (bo IW rfl (aO rfl T.bc (paF (aq (ai K rfl) (pv 0) ah (fun _ _=>rfl)) aa)) (au (i:=6) b4.nd rfl (IQ rfl)) (ae (bo IW rfl (aO rfl T.bc (paF (pv 3) aa)) (au (i:=7) b4.nd rfl (IQ rfl)) (ae (ao (i:=8) b4.nd rfl (IQ rfl) (cq aa))
   (ae (bo IW rfl (aO rfl T.bc (paF (aq (ai K rfl) (pv 0) ah (fun _ _=>rfl)) aa)) (au (i:=9) b4.nd rfl (IQ rfl)) (af (bo IW rfl (aO rfl T.bc (paF (pv 3) aa)) (au (i:=10) b4.nd rfl (IQ rfl)) (ae (ao (i:=11) b4.nd rfl (IQ rfl) (ay T.i7 (sJ T) (hr.mono (by decide)) rfl (paF (pv 7) (paF (aq (ai K rfl) (pv 5) (pv 10) (fun _ _=>rfl)) (paF (pv 0) aa)))))
   (ae (bj (aD wj (ak aU (pv 6) (pv 9)) (aq (ai K rfl) (pv 0) ah (fun _ _=>rfl)) (aJ _)) (af (ao (i:=11) b4.nd rfl (IQ rfl) (ay T.i7 (sJ T) (hr.mono (by decide)) rfl (paF (pv 11) (paF (pv 2) (paF (pv 0) aa)))))) aV)
   (af (bq (c9 K rfl Jo Jz JA cc (pv 8) (paF (ak aU (pv 11) (ak bg (pv 3) (ak aS (ak aU (pv 6) (pv 9)) (aq (ai K rfl) (pv 0) ah (fun _ _=>rfl))))) aa)))))))))
   (af (bq (c9 K rfl Jo Jz JA cc (pv 4) (paF (pv 8) aa)))))))
   (af (cv (i:=5) rfl b4.nd rfl (IQ rfl) m9 (aT K rfl (pv 5)) (fun _ _ _ _=>⟨(au (i:=0) m9.nd rfl (IQ rfl)),bb,(aq (ai K rfl) (pv 1) (pv 0) (fun _ _=>rfl))⟩) rfl))))
   (af (aL (pv 4))))))),?_⟩
 have s1:=sz.s1;have s4:=sz.s4;have hle:=sz.le;have m23:=sz.abc;have m0:=tn.pos;have hlen:((IF (a * b * c)).map f).length=a * b * c:=by simp
 left;rw [hlen];generalize hm:a * b * c=m at hle m23 m0 hlen tn hT q ⊢;generalize hF:cyc m (lsum a b c) f s e=F at q ⊢;refine dM (K:=K) (l:=([]:List (List Nat))) hZ (by decide) fun d H1 fd e1 g1=>?_
 left;refine zS fun pr hpr=>?_;left;refine pP (K:=K) ar (by omega) fun dl H2 fl e2 gl=>?_
 have e12:aj H H2:=e1.trans ((aE hpr _).trans e2);have g2:Gr K H2 d ([]:List (List Nat)):=g1.mono ((aE hpr _).trans e2);have hdl:dl≠d:=fun z=>by
  obtain ⟨ys,hy⟩:=g1.is;have:(upd H1 pr (.rng 0 (m:Int))) d=some (.lst ys):=by rw [av (az hy hpr)];exact hy
  rw [z,this] at fl;cases fl
 have hS2:=Rep.mono e12 hS;left;refine bR (n:=s) rfl (by omega) (fun i σ H'=>aj H H'/\Gr K H' d ((mkT (m * s) F).take (m * i))/\∃ (vl:V),At K (del H' d) vl ((IF m).map (Nat.repeat f i))/\∃ xf:Nat->Option V,σ=[some v,some tv,some (.int (e:Int)),some (.int (m:Int)),some (.ref d),some vl,xf 0,xf 1,xf 2,xf 3,xf 4,xf 5]) ?_ ?_ ?_
 ·refine ⟨e12,by rw [KL];exact g2,.ref dl,?_,cH [_,_,_,_,_,_],rfl⟩
  have z:(IF m).map (Nat.repeat f 0)=IF m:=by
   have:Nat.repeat f 0=id:=by funext x;rfl
   rw [this,MT]
  rw [z];exact mS gl hdl
 ·rintro i σ' H3 hi ⟨e3,g3,vl,hl3,xf,rfl⟩;left;refine bR (n:=m) rfl (by omega) (fun o σ H'=>aj H H'/\Gr K H' d ((mkT (m * s) F).take (m * i+o))/\At K (del H' d) vl ((IF m).map (Nat.repeat f i))/\∃ xf:Nat->Option V,σ=[some v,some tv,some (.int (e:Int)),some (.int (m:Int)),some (.ref d),some vl,some (.int (i:Int)),xf 0,xf 1,xf 2,xf 3,xf 4]) ⟨e3,g3,hl3,cH [_,_,_,_,_],rfl⟩ ?_ ?_
  ·rintro o σ' H4 ho ⟨e4,g4,hl4,xf,rfl⟩;have hI:m * i+o<m * s:=by
    have:m * (i+1)<=m * s:=JQ m hi;rw [K7] at this;omega
   left;refine dM (K:=K) (l:=([]:List Nat)) hZ (by decide) fun p H5 fp e5 g5=>?_
   have hpd:p≠d:=BF g4.is fp;have hS5:=Rep.mono (e4.trans e5) hS;left;refine bR (n:=s) rfl (by omega) (fun j σ H'=>aj H4 H'/\Gr K H' p (((IF (m * s)).map fun y=>F (m * i+o) y).take (m * j))/\∃ xf:Nat->Option V,σ=[some v,some tv,some (.int (e:Int)),some (.int (m:Int)),some (.ref d),some vl,some (.int (i:Int)),some (.int (o:Int)),some (.ref p),xf 0,xf 1,xf 2]) ⟨e5,by rw [KL];exact g5,cH [_,_,_],rfl⟩ ?_ ?_
   ·rintro j σ' H6 hj ⟨e6,g6,xf,rfl⟩;left;refine bR (n:=m) rfl (by omega) (fun k σ H'=>aj H4 H'/\Gr K H' p (((IF (m * s)).map fun y=>F (m * i+o) y).take (m * j+k))/\∃ xf:Nat->Option V,σ=[some v,some tv,some (.int (e:Int)),some (.int (m:Int)),some (.ref d),some vl,some (.int (i:Int)),some (.int (o:Int)),some (.ref p),some (.int (j:Int)),xf 0,xf 1]) ⟨e6,g6,cH [_,_],rfl⟩ ?_ ?_
    ·rintro k σ' H7 hk ⟨e7,g7,xf,rfl⟩;have hJ:m * j+k<m * s:=by
      have:m * (j+1)<=m * s:=JQ m hj;rw [K7] at this;omega
     have hS7:=Rep.mono (e4.trans e7) hS;have hl7:At K H7 vl ((IF m).map (Nat.repeat f i)):=Rep.mono e7 (Rep.mono gX hl4);left;refine br hl7 (fZ _ hk) ?_;left;refine ⟨v,o,Nat.repeat f i k,a,b,c,s,rfl,sz,hS7,?_⟩;left;refine kS (fun σ' H'=>H'=H7/\σ'=[some v,some tv,some (.int (e:Int)),some (.int (m:Int)),some (.ref d),some vl,some (.int (i:Int)),some (.int (o:Int)),some (.ref p),some (.int (j:Int)),some (.int (k:Int)),some (.int ((if s<=i+j then lsum a b c (lsum a b c o (Nat.repeat f i k)) e else lsum a b c o (Nat.repeat f i k):Nat):Int))]) (fun N hN=>?_) ?_
     ·left;refine bt (fun c1=>?_) (fun c1=>?_)
      ·left;refine ⟨v,_,e,a,b,c,s,rfl,sz,hS7,?_⟩;left;refine hN _ _ ⟨rfl,?_⟩;rw [if_pos c1];rfl
      ·left;refine hN _ _ ⟨rfl,?_⟩;rw [if_neg c1];rfl
     ·rintro σ' H8 ⟨rfl,rfl⟩;left;refine ⟨g7.ty,?_⟩;left;have ev:(if s<=i+j then lsum a b c (lsum a b c o (Nat.repeat f i k)) e else lsum a b c o (Nat.repeat f i k))+m * ((i+j) % s)=F (m * i+o) (m * j+k):=by
       rw [<- hF,KH (m * i) o,KH (m * j) k,Hs ho hk]
      rw [ev];refine gj (b:=F (m * i+o) (m * j+k)) g7 (by rw [Je];omega) rfl fun H9 g9 k9 _=>?_
      refine ⟨aj.but fp e7 k9,?_,cH [_,_],rfl⟩;rw [show m * j+(k+1)=(m * j+k)+1 by omega,cz (fun y=>F (m * i+o) y) (m * s) (m * j+k) hJ]
      exact g9
    ·rintro σ' H7 ⟨e7,g7,xf,rfl⟩;refine ⟨e7,?_,cH [_,_,_],rfl⟩;rw [K7];exact g7
   ·rintro σ' H6 ⟨e6,g6,xf,rfl⟩;have et:((IF (m * s)).map fun y=>F (m * i+o) y).take (m * s)=(IF (m * s)).map fun y=>F (m * i+o) y:=Jh (by simp)
    rw [et] at g6;have g6d:=g4.mono e6;left;refine ⟨g6d.ty,?_⟩;left;refine gj g6d (by rw [Je];omega) (mS g6 hpd) fun H7 g7 k7 _=>?_
    have hdH:H d=none:=fd;refine ⟨aj.but hdH (e4.trans e6) k7,?_,Rep.mono (Ib k7) (Rep.mono (mK e6) hl4),cH [_,_,_,_,_],rfl⟩;rw [show m * i+(o+1)=(m * i+o)+1 by omega]
    unfold mkT;rw [cz (fun x=>(IF (m * s)).map fun y=>F x y) (m * s) (m * i+o) hI];exact g7
  ·rintro σ' H4 ⟨e4,g4,hl4,xf,rfl⟩;left;have hl4':At K H4 vl ((IF m).map (Nat.repeat f i)):=Rep.mono gX hl4;have hll:((IF m).map (Nat.repeat f i)).length=m:=by simp
   refine fv (β:=Nat) hl4' (by omega) (fun k=>((IF m).map (Nat.repeat f (i+1))).take k) (fun σ'=>∃ y,σ'=[y,some tv]) rfl (fun k hk=>by rw [Je];omega) ⟨_,rfl⟩ ?_ ?_
   ·rintro k z w' σ' H5 d' R R0 hz hs hw ⟨y,rfl⟩ hR hR0 hd';have hkm:k<m:=by
     have:=(II.mp hz).1;omega
    rw [fZ _ hkm] at hz;cases hz;cases (show w'=V.int ((Nat.repeat f i k:Nat):Int) from hw);have hT5:=Rep.mono (e4.trans hs) hT;left;refine br hT5 (fZ _ (eO tn i hkm)) ?_;exact hR _ _ (Nat.repeat f (i+1) k) _ ⟨_,rfl⟩ (aj.refl _) rfl (cz _ m k hkm)
   ·intro d' H5 fd' e5 hg;have hg':Gr K H5 d' (((IF m).map (Nat.repeat f (i+1))).take m):=by
     have:=hg;rw [hll] at this;exact this
    rw [Jh (by simp)] at hg'
    left;refine ⟨e4.trans e5,?_,.ref d',mS hg' (BF g4.is fd'),cH [_,_,_,_,_,_],rfl⟩;rw [K7];exact g4.mono e5
 ·rintro σ' H3 ⟨e3,g3,vl,hl3,xf,rfl⟩;rw [Jh (by simp [mkT])] at g3
  left;exact q d H3 e3 g3.at
inductive yL (K:IC) (vs:List V) (H:Hp) (Q:VK) (E:XK):Prop
 | mk (v:V) (ns:List Int) (st:Nat) (_:vs=[v,.int (st:Int)]) (_:At K H v ns) (_:∀ d H' n t e ps,aj H H'->GT n t e->Tbl H' d t ps->H d=none->(∀ p∈ps,H p=none)->Q (.ref d) H')
def xD (T:Txt K mg):aN P w K mg base CX0 3 T.iS.f T.iS.fd ["_law_script","_law_start"] (yL K):=by
 exists T.iS.ok bh
 ·obtain ⟨v,ns,st,rfl,_⟩:=h;rfl
 obtain ⟨v,ns,st,rfl,hA,q⟩:=h;refine ⟨_,(ae (ao (i:=2) bh.nd rfl (IQ rfl) (ay T.eI (iX T) (hr.mono (by decide)) rfl (paF (pv 0) (paF (pv 1) aa))))
   (ae (ao (i:=3) bh.nd rfl (IQ rfl) (ay T.eI (iX T) (hr.mono (by decide)) rfl (paF (pv 0) (paF (ak aU (pv 1) ah) aa))))
   (ae (ao (i:=4) bh.nd rfl (Lb rfl) (ay T.i5 (yA T) (hr.mono (by decide)) rfl (paF (pv 2) (paF (pv 3) aa))))
   (ae (ao (i:=5) bh.nd rfl (IQ rfl) (ak aS (ak bg (ak bg (ak aU (pv 3) ah) (ak aU (pv 3) ah)) ah) ah))
   (ae (ao (i:=6) bh.nd rfl (Lb rfl) (ay T.jM (zt T) (hr.mono (by decide)) rfl (paF (pv 4) (paF (pv 5) aa))))
   (ae (ao (i:=7) bh.nd rfl (Lb rfl) (cq aa))
   (ae (bo IW rfl (aO rfl T.bc (paF ah aa)) (au (i:=8) bh.nd rfl (IQ rfl)) (af (bq (c9 K rfl Jo Jz JA cc (pv 7) (paF (ay T.jQ (zj T) (hr.mono (by decide)) rfl (paF (aq (ai K rfl) (pv 4) (pv 8) (fun _ _=>rfl)) (paF (aq (ai K rfl) (pv 4) ah (fun _ _=>rfl)) (paF (ak bz (pv 5) (aq (ai K rfl) (cq (qz [12,276,6348] (by trivial)).out) (pv 8) (fun _ _=>rfl))) aa)))) aa)))))
   (ae (ao (i:=9) bh.nd rfl (IQ rfl) (ak bg (ak bg (aq (ai K rfl) (pv 4) ah (fun _ _=>rfl)) (aq (ai K rfl) (pv 4) ah (fun _ _=>rfl))) (aq (ai K rfl) (pv 4) ah (fun _ _=>rfl))))
   (ae (cv (i:=10) rfl bh.nd rfl (IQ rfl) lK (aO rfl T.bc (paF (pv 9) aa)) (fun _ _ _ _=>⟨(au (i:=0) lK.nd rfl (IQ rfl)),bb,(ay T.gE (vA T) (hr.mono (by decide)) rfl (paF (pv 0) (paF (pv 2) (paF (pv 1) (paF (pv 3) aa)))))⟩) rfl)
   (ae (ao (i:=11) bh.nd rfl (IQ rfl) (ak aS (ak aS (ak bg (ak bg (ak aU (pv 2) ah) (ak aU (pv 2) ah)) ah) ah) (pv 9)))
   (ae (bj (aD eK (aq (ai K rfl) (pv 10) (pv 11) (fun _ _=>rfl)) (pv 11) (aJ _)) (af (ao (i:=11) bh.nd rfl (IQ rfl) ah)) aV)
   (ae (ao (i:=12) bh.nd rfl (IQ rfl) (ay T.jG (y9 T) (hr.mono (by decide)) rfl (paF (pv 4) (paF (pv 10) (paF (pv 11) aa)))))
   (ae (ao (i:=13) bh.nd rfl (IQ rfl) (ay T.iZ (xM T) (hr.mono (by decide)) rfl (paF (aA (aQ K rfl) rfl T.bC Jf (paF (pv 12) aa)) (paF (ay T.eI (iX T) (hr.mono (by decide)) rfl (paF (pv 0) (paF (ak aU (pv 1) ah) aa))) aa))))
   (ae (cv (i:=15) rfl bh.nd rfl (IQ rfl) mn (aT K rfl (pv 12)) (fun _ _ _ _=>⟨(au (i:=0) mn.nd rfl (IQ rfl)),bb,(cG (fP K rfl) rfl T.gF JW (paF (pv 0) aa))⟩) rfl)
   (ae (bo IW rfl (iH K rfl rfl T.eR (paF (pv 12) aa)) (fh rfl (bD (au (i:=16) bh.nd rfl (IQ rfl)) (bD (au (i:=14) bh.nd rfl (IQ rfl)) eB))) (af (bo IW rfl (iH K rfl rfl T.eR (paF (pv 14) aa)) (fh rfl (bD (au (i:=17) bh.nd rfl (IQ rfl)) (bD (au (i:=18) bh.nd rfl (IQ rfl)) eB))) (af (qT (aq (ai K rfl) (pv 13) (pv 18) (fun _ _=>rfl)) (xB (aq (ai K rfl) (pv 15) (aq (ai K rfl) (pv 13) (pv 16) (fun _ _=>rfl)) (fun _ _=>rfl)) (aq (ai K rfl) (pv 13) (pv 17) (fun _ _=>rfl)) set_list))))))
   (af (aL (pv 15)))))))))))))))))),?_⟩
 left;refine ⟨v,ns,st,rfl,hA,?_⟩;have one2:=qj ns st;generalize lq ns st=one at one2 ⊢;left;refine ⟨v,ns,st+1,rfl,hA,?_⟩;have two2:=qj ns (st+1);generalize lq ns (st+1)=two at two2 ⊢;left;refine ⟨one,two,rfl,fun vS H1 a b c s s1 sz hS=>?_⟩;left;generalize (two+11) * (two+29) * 48271 % 2147483629=stir;refine ⟨vS,stir,a,b,c,s,rfl,sz,hS,fun kind H2 s2 k5 hk=>?_⟩;have hS2:=Rep.mono s2 hS;left;refine dM (K:=K) (l:=([]:List Nat)) hZ (by decide) fun du H3 fu s3 gu=>?_
 left;refine bR (n:=3) rfl (by decide) (fun i σ H'=>aj H2 H'/\∃ us:List Nat,Gr K H' du us/\us.length=i/\(∀ j,j<i->us.getD j 0∈unitsOf ([a,b,c,s].getD j 0) s)/\∃ x8,σ=[some v,some (.int (st:Int)),some (.int (one:Int)),some (.int (two:Int)),some vS,some (.int (stir:Int)),some (.int (kind:Int)),some (.ref du),x8,none,none,none,none,none,none,none,none,none,none]) ⟨s3,[],gu,rfl,fun j hj=>absurd hj (by omega),_,rfl⟩ ?_ ?_
 ·rintro i σ' H4 hi ⟨s4,us,g4,l4,hu,x8,rfl⟩;left;refine ⟨g4.ty,?_⟩;have hS4:=Rep.mono s4 hS2;left;refine br hS4 (getD_some 0 (show i<4 by omega)) ?_
  left;refine dM (K:=K) (l:=([12,276,6348]:List Nat)) (me _) (by decide) fun d5 H5 f5 s5 g5=>?_
  left;refine br g5.at (getD_some 0 (show i<3 from hi)) ?_;obtain ⟨p1,p2⟩:=Dl i hi;refine kf p1 p2 ?_;left;have hmi:1<=[a,b,c,s].getD i 0/\[a,b,c,s].getD i 0<=23:=by
   match i,hi with
   | 0,_=>exact ⟨sz.a1,sz.a23⟩
   | 1,_=>exact ⟨sz.b1,sz.b23⟩
   | 2,_=>exact ⟨sz.c1,sz.c23⟩
  refine ⟨_,s,_,rfl,hmi.1,hmi.2,sz.s1,sz.s4,fun u H6 s6 hu6=>?_⟩;left;refine gj (b:=u) (g4.mono (s5.trans s6)) (by omega) rfl fun H7 g7 k7 _=>?_
  refine ⟨aj.but fu (s4.trans (s5.trans s6)) k7,_,g7,by rw [IZ,l4];rfl,fun j hj=>?_,_,rfl⟩
  rcases JI j i with z|z
  ·have e1:(us++[u]).getD j 0=us.getD j 0:=by
    rw [ID,Jk (by omega),<- ID]
   rw [e1];exact hu j z
  ·have e:j=i:=by omega
   subst e;have e1:(us++[u]).getD j 0=u:=by
    rw [ID,Jl (by omega),l4,Od]
    rfl
   rw [e1];exact hu6
 rintro σ' H4 ⟨s4,us,g4,l4,hu,x8,rfl⟩
 match us,l4 with
 | [u0,u1,u2],_ =>
 have v0:u0∈unitsOf a s:=hu 0 (by decide)
 have v1:u1∈unitsOf b s:=hu 1 (by decide)
 have v2:u2∈unitsOf c s:=hu 2 (by decide)
 have pr:Par a b c s kind u0 u1 u2:=⟨sz.a1,sz.b1,sz.c1,sz.s1,sz.s4,sz.le,k5,hk,v0,v1,v2⟩;have hS4:=Rep.mono s4 hS2;have hU4:=g4.at;have a23:=sz.a23;have ab23:=sz.ab;have m23:=sz.abc;have m0:0<a * b * c:=J8 (J8 sz.a1 sz.b1) sz.c1;left;refine jb K (n:=a * b * c) (β:=Nat) rfl (by omega) (fun i=>((IF (a * b * c)).map (dJ a b c kind u0 u1 u2)).take i) (fun σ'=>∃ y,σ'=[y,some (.int (kind:Int)),some vS,some (.ref du)]) rfl (fun i hi=>by rw [Je];omega) ⟨_,rfl⟩ ?_ ?_
 ·rintro i σ' H5 d' R R0 hi hs ⟨y,rfl⟩ hR hR0 hd';left;refine ⟨vS,_,i,kind,a,b,c,s,u0,u1,u2,rfl,pr,Rep.mono hs hS4,Rep.mono hs hU4,hi,?_⟩;exact hR _ _ _ _ ⟨_,rfl⟩ (aj.refl _) rfl (cz _ _ i hi)
 intro dt H5 s5 ht5;have ht5':At K H5 (.ref dt) ((IF (a * b * c)).map (dJ a b c kind u0 u1 u2)):=by
  have z:At K H5 (.ref dt) (((IF (a * b * c)).map (dJ a b c kind u0 u1 u2)).take (a * b * c)):=ht5;rw [Jh (by simp)] at z
  exact z
 left;have en:(one+5) * (one+17) * 69621 % 2147483587 % (a * b * c)<a * b * c:=Jj _ m0;generalize (one+5) * (one+17) * 69621 % 2147483587 % (a * b * c)=en0 at en ⊢;refine kS (fun σ' H'=>H'=H5/\∃ e:Nat,e<a * b * c/\dJ a b c kind u0 u1 u2 e=e/\σ'=[some v,some (.int (st:Int)),some (.int (one:Int)),some (.int (two:Int)),some vS,some (.int (stir:Int)),some (.int (kind:Int)),some (.ref du),x8,some (.int ((a * b * c:Nat):Int)),some (.ref dt),some (.int (e:Int)),none,none,none,none,none,none,none]) (fun N hN=>?_) ?_
 ·left;refine br ht5' (fZ _ en) ?_;left;refine ck (fun c1=>?_) (fun c1=>?_)
  ·left;exact hN _ _ ⟨rfl,0,m0,AX ..,rfl⟩
  ·left;exact hN _ _ ⟨rfl,en0,en,c1,rfl⟩
 rintro σ' H5 ⟨rfl,e,he,fe,rfl⟩;have tn:=pr.tn he fe;have hS5:=Rep.mono s5 hS4;left;refine ⟨vS,_,a,b,c,s,e,_,rfl,sz,tn,hS5,ht5',fun dr H6 s6 hR6=>?_⟩;have gt:=Gy tn sz.le;have s06:aj H H6:=s1.trans (s2.trans (s4.trans (s5.trans s6)));generalize mkT (a * b * c * s) (cyc (a * b * c) (lsum a b c) (dJ a b c kind u0 u1 u2) s e)=R at gt hR6;generalize a * b * c * s=n at gt;have hA6:=Rep.mono s06 hA;left;rw [gt.len];refine ⟨v,ns,st+2,rfl,hA6,?_⟩;left;refine ⟨n,_,rfl,gt.le,qj ns (st+2),fun dn H7 π s7 hp hN7=>?_⟩;have hR7:=Rep.mono s7 hR6;have hl:π.length=n:=by rw [hp.length_eq,Jb]
 left;refine mq hR7 (by rw [gt.len];have:=gt.le;omega) fun d H8 ps s8 fd fps tb8=>?_
 left;refine lU (H₀:=H7) hR7 (fun i σ H'=>aj H7 H'/\∃ rows,Ren n π R rows i 0/\Tbl H' d rows ps/\∃ xf:Nat->Option V,σ=[some v,some (.int (st:Int)),some (.int (one:Int)),some (.int (two:Int)),some vS,some (.int (stir:Int)),some (.int (kind:Int)),some (.ref du),x8,some (.int ((a * b * c:Nat):Int)),some (.ref dt),some (.int (e:Int)),some (.ref dr),some (.ref dn),xf 0,some (.ref d),xf 1,xf 2,xf 3]) ?_ (fun i σ' H' z=>z.1) ?_ ?_
 ·exact ⟨s8,R,⟨gt.len,gt.row,fun x y hx hy z=>absurd z (by omega)⟩,tb8,cH [_,_,_,_],rfl⟩
 ·rintro i row wr σ' H9 H10 p hrow hwr ⟨s9,rows,rn,tb9,xf,rfl⟩ hp9 e10 s10;have hi:i<n:=by
   have:=(II.mp hrow).1;rw [gt.len] at this;exact this
  have hrl:row.length=n:=gt.row i row hrow;left;refine lU (H₀:=H7) hwr (fun j σ H'=>aj H7 H'/\∃ rows,Ren n π R rows i j/\Tbl H' d rows ps/\∃ xf:Nat->Option V,σ=[some v,some (.int (st:Int)),some (.int (one:Int)),some (.int (two:Int)),some vS,some (.int (stir:Int)),some (.int (kind:Int)),some (.ref du),x8,some (.int ((a * b * c:Nat):Int)),some (.ref dt),some (.int (e:Int)),some (.ref dr),some (.ref dn),some wr,some (.ref d),some (.int (i:Int)),xf 0,xf 1]) ⟨s9.trans s10,rows,rn,tb9.mono s10,cH [_,_],rfl⟩ (fun j σ' H' z=>z.1) ?_ ?_
  ·rintro j th wt σ'' H11 H12 p2 hth hwt ⟨s11,rows2,rn2,tb11,xf,rfl⟩ hp11 e12 s12;have hj:j<n:=by
    have:=(II.mp hth).1;omega
   cases (show wt=V.int (th:Int) from hwt);have hth':th=tb R i j:=by
    have e1:=gt.get hi;rw [hrow] at e1;cases e1;have e2:=gt.dF hi hj;rw [hth] at e2;exact Jy e2
   have htl:th<n:=by rw [hth'];exact gt.lt i j hi hj
   have hN12:=Rep.mono (s11.trans s12) hN7;have tb12:=tb11.mono s12;left;refine br hN12 (getD_some 0 (by omega)) ?_
   left;refine br hN12 (getD_some 0 (by omega)) ?_
   have iA:=kX hp hi;have iB:=kX hp hj;have hrw:rows2[π.getD i 0]?=some (rows2.getD (π.getD i 0) []):=getD_some [] (by rw [rn2.len];exact iA)
   obtain ⟨pp,hpp,hHp⟩:=tb12.get hrw;refine HB tb12 hpp ?_;left;refine br hN12 (getD_some 0 (by omega)) ?_
   refine yQ hHp rfl (by unfold aH;rw [IE,rn2.row _ _ hrw];exact iB) ?_
   refine ⟨fun b' o z=>?_,_,?_,tb12.set hrw hpp,cH [_,_],rfl⟩
   ·rw [av (az z (fps pp (IH hpp)))];exact (s11.trans s12) b' o z
   ·rw [hth'];exact rn2.put hp hi hj
  ·rintro σ'' H11 ⟨s11,rows2,rn2,tb11,xf,rfl⟩;rw [hrl] at rn2;exact ⟨s11,rows2,rn2.next,tb11,cH [_,_,_,_],rfl⟩
 ·rintro σ' H9 ⟨s9,rows,rn,tb9,xf,rfl⟩;rw [gt.len] at rn;left;have s07:=s06.trans s7;exact q d H9 n rows _ ps (s07.trans s9) (rn.gt hp gt) tb9 (s07.free fd) fun p hp'=>s07.free (fps p hp')
inductive Au (K:IC) (vs:List V) (H:Hp) (Q:VK) (E:XK):Prop
 | mk (v:V) (n e:Nat) (t:List (List Nat)) (_:vs=[v]) (_:At K H v t) (_:GT n t e) (_:∀ H',aj H H'->Q (.int (e:Int)) H')
def jJ (T:Txt K mg):aN P w K mg base CX0 1 T.fF.f T.fF.fd ["_law_table"] (Au K):=by
 exists T.fF.ok Ay
 ·obtain ⟨v,n,e,t,rfl,_⟩:=h;rfl
 obtain ⟨v,n,e,t,rfl,hT,gt,q⟩:=h;refine ⟨_,(af (aL (aq (ai K rfl) (bE rfl nB (aO rfl T.bc (paF (aA (aQ K rfl) rfl T.bC Jf (paF (pv 0) aa)) aa)) (fun _ _ _ _=>⟨(au (i:=0) nB.nd rfl (IQ rfl)),(oP (aD cL (aq (ai K rfl) (aq (ai K rfl) (pv 1) (pv 0) (fun _ _=>rfl)) (pv 0) (fun _ _=>rfl)) (pv 0) (aJ _))),(pv 0)⟩)) ah (fun _ _=>rfl)))),?_⟩;have n23:=gt.le;left;rw [gt.len];refine jb K (n:=n) (β:=Nat) rfl (by omega) (fun i=>(IF i).filter fun a=>decide (tb t a a=a)) (fun σ'=>∃ y,σ'=[y,some v]) rfl (fun i _=>gv _ i) ⟨_,rfl⟩ ?_ ?_
 ·rintro i σ' H5 d' R R0 hi hs ⟨y,rfl⟩ hR hR0 hd';have ft:=fQ (fun a=>decide (tb t a a=a)) i;have hT5:=Rep.mono hs hT;left;refine c7 hT5 rfl (gt.get hi) fun w1 hw1=>?_;left;refine br hw1 (gt.dF hi hi) ?_;left;refine bt (fun z=>?_) (fun z=>?_)
  ·left;rw [if_pos (by simpa using z)] at ft
   exact hR _ _ i _ ⟨_,rfl⟩ (aj.refl _) rfl ft
  ·rw [if_neg (by simpa using z)] at ft
   exact hR0 _ _ ⟨_,rfl⟩ (aj.refl _) ft
 ·intro d H' hs ha;walk_at "rn";exact br ha (A2 gt) (q H' hs)
inductive xi (K:IC) (vs:List V) (H:Hp) (Q:VK) (E:XK):Prop
 | mk (c:Int) (k n:Nat) (_:vs=[.int c,.int (k:Int),.int (n:Int)]) (_:k<=100) (_:1<=n) (_:(thg c k n<n->Q (.int (thg c k n:Int)) H))
def gN (T:Txt K mg):aN P w K mg base CX0 1 T.dY.f T.dY.fd ["_law_cell_here","_law_k","_law_many"] (xi K):=by
 exists T.dY.ok oA
 ·obtain ⟨c,k,n,rfl,_⟩:=h;rfl
 obtain ⟨c,k,n,rfl,hk,hn,q⟩:=h;have q:=q (sI c k hn);unfold thg at q;refine ⟨_,(ae (ao (i:=3) oA.nd rfl (IQ rfl) (ak aS (ak aU (ak aU (ak bg (ak aS (pv 0) ah) ah) (ak bg (ak bg ah (pv 1)) (pv 1))) (ak bg ah (pv 1))) ah))
   (af (aL (ak aS (ak aS (ak bg (pv 3) (pv 3)) ah) (pv 2))))),?_⟩
 left;refine ir (by decide) ?_
 have c1:=Me c (show ((2147483647:Nat):Int)≠0 by decide)
 generalize hx:(c % ((2147483647:Nat):Int)).toNat=x;have ex:c % ((2147483647:Nat):Int)=(x:Int):=by omega
 rw [ex];have hx':(c % 2147483647).toNat=x:=hx;rw [hx'] at q;left;have hy:(x * 48271+69621 * k * k+7 * k) % 2147483629<2147483629:=Jj _ (by decide)
 generalize (x * 48271+69621 * k * k+7 * k) % 2147483629=y at hy q ⊢;left;exact q
end
local macro_rules | `(tactic| walk_at "rg1")=>`(tactic| first|walk_at "rx1" | refine bK (by assumption) (by assumption) ?_|refine bU (by assumption) (by assumption) ?_|refine cK (by assumption) (by assumption) ?_|refine r_gbacks (by assumption) (by assumption) ?_)
local macro_rules | `(tactic| walk_at "rg")=>`(tactic| repeat walk_at "rg1")
section
variable {P:Jc} {w:World} {K:IC} {mg:Str->Option Value} {base:Heap}
inductive D4 (C:Addr) (K:IC) (vs:List V) (H:Hp) (Q:VK) (E:XK):Prop
 | mk (g:Addr) (n e a:Nat) (t:List (List Nat)) (_:vs=[.ref g,.int (a:Int)]) (_:aY C H g n t e) (_:GT n t e) (_:a<n) (_:Q (.int (aW n t e a:Int)) H)
def DR (T:Txt K mg):aN P w K mg base CX0 1 T.oJ.f T.oJ.fd ["group","thing"] (D4 T.aM K):=by
 exists T.oJ.ok ko
 ·obtain ⟨g,n,e,a,t,rfl,_⟩:=h;rfl
 obtain ⟨g,n,e,a,t,rfl,hG,gt,ha,q⟩:=h;obtain ⟨dx,r,b,hg,hT,hb⟩:=hG.get (K:=K);refine ⟨_,(ae (ao (i:=2) ko.nd rfl (IQ rfl) ah)
   (ae (ao (i:=3) ko.nd rfl (IQ rfl) (pv 1))
   (ae (jW IW (aD eK (pv 3) (aI K rfl (pv 0) rfl) (aJ _)) (ae (ao (i:=3) ko.nd rfl (IQ rfl) (aq (ai K rfl) (aq (ai K rfl) (aI K rfl (pv 0) rfl) (pv 3) (fun _ _=>rfl)) (pv 1) (fun _ _=>rfl)))
   (af (ao (i:=2) ko.nd rfl (IQ rfl) (ak aU (pv 2) ah)))))
   (af (aL (pv 2)))))),?_⟩
 obtain ⟨o1,o2,o3⟩:=dG gt ha;have o4:1<=aW n t e a:=eQ;symm;refine kH (fun m σ' H'=>H'=H/\∃ k,1<=k/\k<=aW n t e a/\m=aW n t e a - k/\σ'=[some (.ref g),some (.int (a:Int)),some (.int (k:Int)),some (.int (bp t e a k:Int))]) (aW n t e a - 1) ⟨rfl,1,IV _,o4,rfl,by rw [kg gt ha];rfl⟩ ?_
 rintro m σ' H' ⟨rfl,k,k1,k2,rfl,rfl⟩;have kl:=bW gt ha k;symm;refine ck (fun c=>?_) (fun c=>?_)
 ·have k3:k<aW n t e a:=by
   rcases JI k (aW n t e a) with z|z
   ·exact z
   ·have:k=aW n t e a:=by omega
    rw [this] at c;exact absurd o2 c
  refine ⟨fun σ2 H2=>H2=H'/\σ2=[some (.ref g),some (.int (a:Int)),some (.int ((k+1:Nat):Int)),some (.int (bp t e a (k+1):Int))],fun σ2 H2 z=>⟨aW n t e a - (k+1),by omega,z.1,k+1,by omega,k3,rfl,z.2⟩,?_⟩
  symm;refine c7 hT rfl (gt.get kl) fun w1 hw1=>?_;symm;refine br hw1 (gt.dF kl ha) ?_;symm;exact ⟨rfl,rfl⟩
 ·have k3:k=aW n t e a:=by
   rcases JI k (aW n t e a) with z|z
   ·exact absurd c (o3 k k1 z)
   ·omega
  symm;rw [k3];exact q
def b8 (n:Nat) (t:List (List Nat)) (e:Nat):List Nat:=(IF n).map (aW n t e)
def yk {n:Nat} {t:List (List Nat)} {e:Nat}:∀ s∈b8 n t e,1<=s:=fun s hs=>by
 obtain ⟨a,_,rfl⟩:=IP.mp hs;exact eQ
inductive DW (C:Addr) (K:IC) (vs:List V) (H:Hp) (Q:VK) (E:XK):Prop
 | mk (g:Addr) (n e:Nat) (t:List (List Nat)) (_:vs=[.ref g]) (_:aY C H g n t e) (_:GT n t e) (_:∀ k H',aj H H'->bP (b8 n t e) k->Q (.int (k:Int)) H')
def Dq (T:Txt K mg):aN P w K mg base CX0 2 T.o8.f T.o8.fd ["group"] (DW T.aM K):=by
 exists T.o8.ok mF
 ·obtain ⟨g,n,e,t,rfl,_⟩:=h;rfl
 obtain ⟨g,n,e,t,rfl,hG,gt,q⟩:=h;obtain ⟨dx,r,b,hg,hT,hb⟩:=hG.get (K:=K);refine ⟨_,(ae (cv (i:=1) rfl mF.nd rfl (IQ rfl) sM (aO rfl T.bc (paF (aI K rfl (pv 0) rfl) aa)) (fun _ _ _ _=>⟨(au (i:=0) sM.nd rfl (IQ rfl)),bb,(ay T.oJ (DR T) (hr.mono (by decide)) rfl (paF (pv 1) (paF (pv 0) aa)))⟩) rfl)
   (ae (ao (i:=2) mF.nd rfl (Lb rfl) ah)
   (ae (jW IW (gY (aA (vg K rfl rfl) rfl T.Ey NA (paF (bE rfl rD (aT K rfl (pv 1)) (fun _ _ _ _=>⟨(au (i:=0) rD.nd rfl (IQ rfl)),bb,(fG eK (ak aS (pv 1) (pv 0)) ah (aJ _))⟩)) aa))) (af (ao (i:=2) mF.nd rfl (Lb rfl) (ak aU (pv 2) ah))))
   (af (aL (pv 2)))))),?_⟩
 have n23:=gt.le;symm;refine jb K (n:=n) (β:=Nat) rfl (by omega) (fun i=>(b8 n t e).take i) (fun σ'=>∃ y,σ'=[y,some (.ref g)]) rfl (fun i hi=>by rw [Je];omega) ⟨_,rfl⟩ ?_ ?_
 ·rintro i σ' H5 d' R R0 hi hs ⟨y,rfl⟩ hR hR0 hd';symm;refine ⟨g,n,e,i,t,rfl,aY.mono hs hG,gt,hi,?_⟩;exact hR _ _ _ _ ⟨_,rfl⟩ (aj.refl _) rfl (cz _ _ i hi)
 intro d1 H1 s1 h1;have hlen:(b8 n t e).length=n:=by simp [b8]
 have h1':At K H1 (.ref d1) (b8 n t e):=by
  have z:At K H1 (.ref d1) ((b8 n t e).take n):=h1;rw [Jh (by omega)] at z
  exact z
 symm;have b1:=tR (yk (n:=n) (t:=t) (e:=e));refine kH (fun m σ' H'=>aj H1 H'/\∃ k,1<=k/\k<=bnd (b8 n t e)/\m=bnd (b8 n t e) - k/\(∀ j,1<=j->j<k->∃ s,s∈b8 n t e/\j % s≠0)/\σ'=[some (.ref g),some (.ref d1),some (.int (k:Int))]) (bnd (b8 n t e) - 1) ⟨aj.refl _,1,IV _,b1,rfl,fun j j1 j2=>absurd j1 (by omega),rfl⟩ ?_
 rintro m σ' H2 ⟨s2,k,k1,k2,rfl,hk,rfl⟩;have h2:=Rep.mono s2 h1';symm;refine kI (β:=Bool) h2 (by omega) (fun i=>((b8 n t e).map fun s=>!decide (k % s=0)).take i) (fun σ'=>∃ y,σ'=[y,some (.int (k:Int))]) rfl (fun i hi=>by rw [Je];omega) ⟨_,rfl⟩ ?_ ?_
 ·rintro i c w' σ' H3 d' R R0 hc hs hw ⟨y,rfl⟩ hR hR0 hd';cases (show w'=V.int (c:Int) from hw);have c1:0<c:=yk c (IH hc);symm;refine hR _ _ (!decide (k % c=0)) _ ⟨_,rfl⟩ (aj.refl _) rfl ?_;rw [Js,IJ,hc];rfl
 intro d2 H3 s3 h3;have h3':At K H3 (.ref d2) ((b8 n t e).map fun s=>!decide (k % s=0)):=by
  have z:At K H3 (.ref d2) (((b8 n t e).map fun s=>!decide (k % s=0)).take (b8 n t e).length):=h3;rw [Jh (by simp)] at z
  exact z
 symm;refine EV h3' ?_;symm;cases hb':((b8 n t e).map fun s=>!decide (k % s=0)).any id with
 | true =>
  refine t8 ?_;have ex:∃ s,s∈b8 n t e/\k % s≠0:=by
   obtain ⟨x,hx,ex⟩:=M0.mp hb';obtain ⟨s,hs,rfl⟩:=IP.mp hx;exact ⟨s,hs,by simpa using ex⟩
  have k3:k<bnd (b8 n t e):=by
   rcases JI k (bnd (b8 n t e)) with z|z
   ·exact z
   ·have ek:k=bnd (b8 n t e):=by omega
    obtain ⟨s,hs,z⟩:=ex;rw [ek] at z;exact absurd (tZ hs) z
  refine ⟨fun σ2 H4=>aj H1 H4/\σ2=[some (.ref g),some (.ref d1),some (.int ((k+1:Nat):Int))],fun σ2 H4 z=>⟨bnd (b8 n t e) - (k+1),by omega,z.1,k+1,by omega,k3,rfl,fun j j1 j2=>?_,z.2⟩,?_⟩
  ·rcases JI j k with z' | z'
   ·exact hk j j1 z'
   ·have:j=k:=by omega
    rw [this];exact ex
  symm;exact ⟨s2.trans s3,rfl⟩
 | false =>
  refine eU ?_;symm;refine q k H3 (s1.trans (s2.trans s3)) ⟨k1,fun s hs=>?_,hk⟩;rw [LO] at hb';have:=hb' _ (IP.mpr ⟨s,hs,rfl⟩)
  simpa using this
end
section
def Ao (H:Hp) (x:V):Option (Nat×Nat)->Prop
 | none=>x=.non
 | some (a,b)=>∃ p,x=.ref p/\H p=some (.tup [.int (a:Int),.int (b:Int)])
def Ao.mono {H H':Hp} {x:V} (s:aj H H'):∀ {o:Option (Nat×Nat)},Ao H x o->Ao H' x o
 | none,h=>h
 | some _,⟨p,e,hp⟩=>⟨p,e,s _ _ hp⟩
inductive C7 (C:Addr) (K:IC) (vs:List V) (H:Hp) (Q:VK) (E:XK):Prop
 | mk (g:Addr) (v:V) (n e:Nat) (t:List (List Nat)) (R:List Nat) (_:vs=[.ref g,v]) (_:aY C H g n t e) (_:GT n t e) (_:At K H v R) (_:IsPart n t R) (_:∀ d H' L ps,H d=none->(∀ p∈ps,H p=none)->aj H H'->Tbl H' d L ps->wk n t e R L->Q (.ref d) H')
end
section
variable {P:Jc} {w:World} {K:IC} {mg:Str->Option Value} {base:Heap}
def IsPart.EB {n e:Nat} {t:List (List Nat)} {R:List Nat} (h:IsPart n t R) (g:GT n t e):R.length<=23:=JV h.len g.le
inductive vX (C:Addr) (K:IC) (vs:List V) (H:Hp) (Q:VK) (E:XK):Prop
 | mk (g:Addr) (v:V) (n e:Nat) (t:List (List Nat)) (R:List Nat) (_:vs=[.ref g,v]) (_:aY C H g n t e) (_:GT n t e) (_:At K H v R) (_:(∀ x∈R,x<n)) (_:R.length<=64) (_:∀ H',aj H H'->Q (.bl true) H')
def v3 (T:Txt K mg):aN P w K mg base CX0 1 T.gM.f T.gM.fd ["group","some"] (vX T.aM K):=by
 exists T.gM.ok vL
 ·obtain ⟨g,v,n,e,t,R,rfl,_⟩:=h;rfl
 obtain ⟨g,v,n,e,t,R,rfl,hG,gt,hR,hlt,hlen,q⟩:=h;obtain ⟨dx,r,bk,hg,hT,hB⟩:=hG.get (K:=K);refine ⟨_,(af (aL (aA (oi K rfl rfl) rfl T.A7 LV (paF (bE rfl lp (aT K rfl (pv 1)) (fun _ _ _ _=>⟨(au (i:=0) lp.nd rfl (IQ rfl)),bb,(rh (fG wj (pv 0) ah (aJ _)) (xg (fG lr (pv 0) (aI K rfl (pv 1) rfl) (aJ _))))⟩)) aa)))),?_⟩;symm;refine kI (β:=Bool) hR (by omega) (fun i=>Jg i true) (fun σ'=>∃ y,σ'=[y,some (.ref g)]) rfl (fun i hi=>by simp) ⟨_,rfl⟩ ?_ ?_
 ·rintro i c w' σ' H3 d' R' R0 hc hs hw ⟨y,rfl⟩ hR' hR0 hd';cases (show w'=V.int (c:Int) from hw);have hg3:=hs _ _ hg;have c1:=hlt c (IH hc);symm;refine bt (fun _=>?_) (fun z=>absurd (J6 _) z);symm;rw [decide_eq_true c1];exact hR' _ _ true _ ⟨_,rfl⟩ (aj.refl _) rfl LZ
 intro d2 H3 s3 h3;symm;refine xl h3 ?_;rw [show (Jg R.length true).all id=true by simp]
 exact q H3 s3
inductive DV (K:IC) (vs:List V) (H:Hp) (Q:VK) (E:XK):Prop
 | mk (v:V) (R:List Nat) (_:vs=[v]) (_:At K H v R) (_:R≠[]) (_:R.Pairwise (· < ·)) (_:R.length<=64) (_:∀ H',aj H H'->Q (.bl true) H')
def Dp (T:Txt K mg):aN P w K mg base CX0 1 T.oK.f T.oK.fd ["some"] (DV K):=by
 exists T.oK.ok Dj
 ·obtain ⟨v,R,rfl,_⟩:=h;rfl
 obtain ⟨v,R,rfl,hR,ne,srt,hlen,q⟩:=h;have l0:0<R.length:=Jw.mpr ne;refine ⟨_,(af (aL (aA (oi K rfl rfl) rfl T.A7 LV (paF (bE rfl qS (aO rfl T.bc (paF (ak nX (aA (aQ K rfl) rfl T.bC Jf (paF (pv 0) aa)) ah) aa)) (fun _ _ _ _=>⟨(au (i:=0) qS.nd rfl (IQ rfl)),bb,(fG lr (aq (ai K rfl) (pv 1) (pv 0) (fun _ _=>rfl)) (aq (ai K rfl) (pv 1) (ak aU (pv 0) ah) (fun _ _=>rfl)) (aJ _))⟩)) aa)))),?_⟩;symm;refine jb K (n:=R.length - 1) (β:=Bool) (by omega) (by omega) (fun i=>Jg i true) (fun σ'=>∃ y,σ'=[y,some v]) rfl (fun i hi=>by simp) ⟨_,rfl⟩ ?_ ?_
 ·rintro i σ' H3 d' R' R0 hi hs ⟨y,rfl⟩ hR' hR0 hd';have hR3:=Rep.mono hs hR;symm;refine br hR3 (IG (by omega)) ?_
  symm;refine br hR3 (IG (by omega)) ?_
  symm;rw [decide_eq_true ((Lu.mp srt) i (i+1) (by omega) (by omega) (by omega))]
  exact hR' _ _ true _ ⟨_,rfl⟩ (aj.refl _) rfl LZ
 intro d2 H3 s3 h3;symm;refine xl h3 ?_;rw [show (Jg (R.length - 1) true).all id=true by simp]
 exact q H3 s3
inductive pC (C:Addr) (K:IC) (vs:List V) (H:Hp) (Q:VK) (E:XK):Prop
 | mk (g:Addr) (v:V) (n e:Nat) (t:List (List Nat)) (R:List Nat) (_:vs=[.ref g,v]) (_:aY C H g n t e) (_:GT n t e) (_:At K H v R) (_:IsPart n t R) (_:Q (.bl true) H)
def pA (T:Txt K mg):aN P w K mg base CX0 1 T.eM.f T.eM.fd ["group","some"] (pC T.aM K):=by
 exists T.eM.ok fR
 ·obtain ⟨g,v,n,e,t,R,rfl,_⟩:=h;rfl
 obtain ⟨g,v,n,e,t,R,rfl,hG,gt,hR,pt,q⟩:=h;obtain ⟨dx,r,bk,hg,hT,hB⟩:=hG.get (K:=K);refine ⟨_,(ae (bo IW rfl (aT K rfl (pv 1)) (au (i:=2) fR.nd rfl (IQ rfl)) (af (bo IW rfl (aT K rfl (pv 1)) (au (i:=3) fR.nd rfl (IQ rfl)) (af (bj (aD (Bs K rfl) (aq (ai K rfl) (aq (ai K rfl) (aI K rfl (pv 0) rfl) (pv 2) (fun _ _=>rfl)) (pv 3) (fun _ _=>rfl)) (pv 1) (by with_unfolding_all rfl)) (af (aL eY)) aV)))))
   (af (aL eY))),?_⟩
 symm;refine jT hR (fun i σ H'=>H'=H/\∃ x y,σ=[some (.ref g),some v,x,y]) ⟨rfl,_,_,rfl⟩ (fun i σ H' h=>by rw [h.1];exact aj.refl _) ?_ ?_
 ·rintro i a w' σ' H' ha hw ⟨rfl,x,y,rfl⟩;cases (show w'=V.int (a:Int) from hw);have haR:=IH ha;symm;refine jT hR (fun i σ H''=>H''=H'/\∃ y,σ=[some (.ref g),some v,some (.int (a:Int)),y]) ⟨rfl,_,rfl⟩ (fun i σ H' h=>by rw [h.1];exact aj.refl _) ?_ ?_
  ·rintro j b w2 σ' H'' hb hw2 ⟨rfl,y,rfl⟩;cases (show w2=V.int (b:Int) from hw2);have hbR:=IH hb;symm;walk_at "ifs";symm;refine c7 hT rfl (gt.get (pt.lt a haR)) fun w1 hw1=>?_;symm;refine br hw1 (gt.dF (pt.lt a haR) (pt.lt b hbR)) ?_;symm;refine ck (fun z=>absurd (pt.cl a haR b hbR) z) (fun _=>?_);symm;exact ⟨rfl,_,rfl⟩
  ·rintro σ' H'' ⟨rfl,y,rfl⟩;exact ⟨rfl,_,_,rfl⟩
 ·rintro σ' H' ⟨rfl,x,y,rfl⟩;symm;exact q
inductive AJ (C:Addr) (K:IC) (vs:List V) (H:Hp) (Q:VK) (E:XK):Prop
 | mk (g:Addr) (v:V) (n e:Nat) (t:List (List Nat)) (R:List Nat) (_:vs=[.ref g,v]) (_:aY C H g n t e) (_:GT n t e) (_:At K H v R) (_:IsPart n t R) (_:∀ H',aj H H'->Q (.bl true) H')
def A3 (T:Txt K mg):aN P w K mg base CX0 2 T.kT.f T.kT.fd ["group","some"] (AJ T.aM K):=by
 exists T.kT.ok AY
 ·obtain ⟨g,v,n,e,t,R,rfl,_⟩:=h;rfl
 obtain ⟨g,v,n,e,t,R,rfl,hG,gt,hR,pt,q⟩:=h;have l0:0<R.length:=Jw.mpr pt.ne;have l23:=pt.EB gt;refine ⟨_,(af (aL (rh (fG jO (aA (aQ K rfl) rfl T.bC Jf (paF (pv 1) aa)) ah (aJ _)) (rh (ay T.gM (v3 T) (hr.mono (by decide)) rfl (paF (pv 0) (paF (pv 1) aa))) (rh (ay T.oK (Dp T) (hr.mono (by decide)) rfl (paF (pv 1) aa)) (xg (ay T.eM (pA T) (hr.mono (by decide)) rfl (paF (pv 0) (paF (pv 1) aa))))))))),?_⟩
 symm;refine bt (fun _=>?_) (fun z=>absurd l0 z);symm;refine ⟨g,v,n,e,t,R,rfl,hG,gt,hR,pt.lt,by omega,fun H1 s1=>?_⟩
 symm;refine ⟨v,R,rfl,Rep.mono s1 hR,pt.ne,pt.srt,by omega,fun H2 s2=>?_⟩
 symm;have s02:=s1.trans s2;exact ⟨g,v,n,e,t,R,rfl,hG.mono s02,gt,Rep.mono s02 hR,pt,q H2 s02⟩
inductive vH (C:Addr) (K:IC) (vs:List V) (H:Hp) (Q:VK) (E:XK):Prop
 | mk (g:Addr) (v:V) (n e:Nat) (t:List (List Nat)) (R:List Nat) (_:vs=[.ref g,v]) (_:aY C H g n t e) (_:GT n t e) (_:At K H v R) (_:IsPart n t R) (_:∀ H',aj H H'->Q .non H')
def jv (T:Txt K mg):aN P w K mg base CX0 3 T.eo.f T.eo.fd ["group","some"] (vH T.aM K):=by
 exists T.eo.ok vT
 ·obtain ⟨g,v,n,e,t,R,rfl,_⟩:=h;rfl
 obtain ⟨g,v,n,e,t,R,rfl,hG,gt,hR,pt,q⟩:=h;refine ⟨_,(af (bj (l9 (gY (ay T.kT (A3 T) (hr.mono (by decide)) rfl (paF (pv 0) (paF (pv 1) aa))))) (af b9) aV)),?_⟩
 symm;walk_at "ifs";symm;refine ⟨g,v,n,e,t,R,rfl,hG,gt,hR,pt,fun H1 s1=>?_⟩;symm;refine eU ?_;symm;exact q H1 s1
inductive Be (C:Addr) (K:IC) (vs:List V) (H:Hp) (Q:VK) (E:XK):Prop
 | mk (g:Addr) (v:V) (n e x:Nat) (t:List (List Nat)) (R:List Nat) (_:vs=[.ref g,v,.int (x:Int)]) (_:aY C H g n t e) (_:GT n t e) (_:At K H v R) (_:IsPart n t R) (_:x<n) (_:∀ d H' s,H d=none->aj H H'->Gr K H' d s->s.Pairwise (· < ·)->(∀ y,y∈s↔∃ k,k∈R/\tb t x k=y)->Q (.ref d) H')
def Ad (T:Txt K mg):aN P w K mg base CX0 1 T.kR.f T.kR.fd ["group","part","thing"] (Be T.aM K):=by
 exists T.kR.ok Ac
 ·obtain ⟨g,v,n,e,x,t,R,rfl,_⟩:=h;rfl
 obtain ⟨g,v,n,e,x,t,R,rfl,hG,gt,hR,pt,hx,q⟩:=h;obtain ⟨dx,r,bk,hg,hT,hB⟩:=hG.get (K:=K);have l23:=pt.EB gt;refine ⟨_,(af (aL (aA (n5 K rfl) rfl T.xJ MM (paF (bE rfl ox (aT K rfl (pv 1)) (fun _ _ _ _=>⟨(au (i:=0) ox.nd rfl (IQ rfl)),bb,(aq (ai K rfl) (aq (ai K rfl) (aI K rfl (pv 1) rfl) (pv 2) (fun _ _=>rfl)) (pv 0) (fun _ _=>rfl))⟩)) aa)))),?_⟩;symm;refine kI (β:=Nat) hR (by omega) (fun i=>(R.map fun k=>tb t x k).take i) (fun σ'=>∃ y,σ'=[y,some (.ref g),some (.int (x:Int))]) rfl (fun i hi=>by rw [Je];omega) ⟨_,rfl⟩ ?_ ?_
 ·rintro i c w' σ' H3 d' R' R0 hc hs hw ⟨y,rfl⟩ hR' hR0 hd';cases (show w'=V.int (c:Int) from hw);have hg3:=hs _ _ hg;have hT3:=Rep.mono hs hT;have c1:=pt.lt c (IH hc);symm;refine c7 hT3 rfl (gt.get hx) fun w1 hw1=>?_;symm;refine br hw1 (gt.dF hx c1) ?_;refine hR' _ _ (tb t x c) _ ⟨_,rfl⟩ (aj.refl _) rfl ?_;rw [Js,IJ,hc];rfl
 intro d2 H3 s3 h3;have h3':At K H3 (.ref d2) (R.map fun k=>tb t x k):=by
  have z:At K H3 (.ref d2) ((R.map fun k=>tb t x k).take R.length):=h3;rw [Jh (by simp)] at z
  exact z
 walk_at "rn";refine yH h3' (by rw [IE];omega) fun d l' H4 hd s4 hpm hsr g4=>?_
 have nd:(R.map fun k=>tb t x k).Nodup:=by
  have z:=bF pt.srt;unfold List.Nodup at z ⊢;rw [MG];exact z.imp_of_mem fun ha hb hne c=>hne (gt.dD hx (pt.lt _ ha) (pt.lt _ hb) c)
 refine q d H4 l' (s3.free hd) (s3.trans s4) g4 (nv (hpm.nodup_iff.mpr nd) hsr) fun y=>?_;rw [hpm.mem_iff,IP]
def Dw (T:Txt K mg):aN P w K mg base CX0 4 T.pk.f T.pk.fd ["group","part"] (C7 T.aM K):=by
 exists T.pk.ok yy
 ·obtain ⟨g,v,n,e,t,R,rfl,_⟩:=h;rfl
 obtain ⟨g,v,n,e,t,R,rfl,hG,gt,hR,pt,q⟩:=h;have n23:=gt.le;refine ⟨_,(ae (bq (ay T.eo (jv T) (hr.mono (by decide)) rfl (paF (pv 0) (paF (pv 1) aa))))
   (ae (cv (i:=2) rfl yy.nd rfl (IQ rfl) sG (aO rfl T.bc (paF (aI K rfl (pv 0) rfl) aa)) (fun _ _ _ _=>⟨(au (i:=0) sG.nd rfl (IQ rfl)),bb,(ay T.kR (Ad T) (hr.mono (by decide)) rfl (paF (pv 1) (paF (pv 2) (paF (pv 0) aa))))⟩) rfl)
   (af (aL (bE rfl sR (iH K rfl rfl T.eR (paF (pv 2) aa)) (fun _ _ _ _=>⟨(rp K rfl (i:=0) (j:=1) rfl sR.nd rfl (IQ rfl) rfl (IQ rfl)),(oP (aD cL (aq (ai K rfl) (pv 1) ah (fun _ _=>rfl)) (pv 0) (aJ _))),(pv 1)⟩)))))),?_⟩
 symm;refine ⟨g,v,n,e,t,R,rfl,hG,gt,hR,pt,fun H1 s1=>?_⟩;have hG1:=hG.mono s1;have hR1:=Rep.mono s1 hR;obtain ⟨dx,r,bk,hg,hT,hB⟩:=hG1.get (K:=K);symm;refine sZ (n:=n) rfl (by omega) (fun d i σ' H' ys=>aj H1 H'/\∃ (L:List (List Nat)) (ps:List Addr) (y:Option V),Tbl H' d L ps/\ys=ps.map V.ref/\ps.length=i/\(∀ p∈ps,H1 p=none)/\(∀ (j:Nat) (s:List Nat),L[j]?=some s->s.Pairwise (· < ·)/\∀ y,y∈s↔∃ k,k∈R/\tb t j k=y)/\σ'=[y,some (.ref g),some v])
  (fun d i σ' H' ys hi ⟨_,L,ps,y,_,e1,e2,_⟩=>by rw [e1,IE,e2];exact IV _) (fun d hd=>⟨aE hd _,[],[],_,Tbl.nil,rfl,rfl,by simp,by simp,rfl⟩) ?_ ?_
 ·rintro d i σ' H' ys R' R0 hd hi ⟨s2,L,ps,y,tb2,rfl,hl,fps,hL,rfl⟩ hys hR' hR0;symm;refine ⟨g,v,n,e,i,t,R,rfl,hG1.mono s2,gt,Rep.mono s2 hR1,pt,hi,fun p H3 sd fp s3 g3 srt hm=>?_⟩;have hp:=dU g3;have hdl:H3 d=some (.lst (ps.map V.ref)):=s3 _ _ tb2.top;have hpd:p≠d:=fun c=>by rw [c,tb2.top] at fp;cases fp
  refine hR' _ _ _ hdl ⟨fun b o z=>?_,L++[sd],ps++[p],some (.int (i:Int)),tb2.snoc s3 hp (fun c=>?_) hpd,by rw [JO];rfl,by rw [IZ,hl];rfl,fun q' hq'=>?_,fun j s' hj=>?_,rfl⟩
  ·rw [av (az z hd)];exact s3 _ _ (s2 _ _ z)
  ·obtain ⟨j,hj⟩:=J3 c;have:=tb2.row j p _ hj (IG (by rw [<- tb2.len];exact (II.mp hj).1))
   rw [fp] at this;cases this
  ·rcases JG.mp hq' with z|z
   ·exact fps q' z
   ·rw [I0.mp z];exact s2.free fp
  ·have e1:L.length=i:=by rw [<- tb2.len];exact hl
   rcases JI j L.length with z|z
   ·rw [Jk z] at hj;exact hL j s' hj
   ·rw [Jl z] at hj;have j0:j - L.length=0:=by
     rcases LK (j - L.length) with c|c
     ·exact c
     ·rw [Kz (by simp;omega)] at hj;cases hj
    rw [j0] at hj;cases hj;have:j=i:=by omega
    rw [this];exact ⟨srt,hm⟩
 rintro d1 σ1 H2 ys fd1 hd1 ⟨s2,L,ps,y,tb2,rfl,hl,fps,hL,rfl⟩;have s02:=s1.trans s2;have lL:L.length=n:=by rw [<- tb2.len];exact hl
 symm;refine BM (xs:=ps.map V.ref) (by rw [IE];omega) (fun d i σ' H' ys=>aj H2 H'/\∃ (L':List (List Nat)) (ps':List Addr) (y z:Option V),Tbl H' d L' ps'/\ys=ps'.map V.ref/\ps'.length<=i/\(∀ p∈ps',p∈ps.take i)/\cW n t e R L' i/\σ'=[y,z])
  (fun d i σ' H' ys ⟨z,_⟩=>SqL.of (z _ _ tb2.top)) (SqL.of tb2.top) (fun d i σ' H' ys hi ⟨_,L',ps',y,z,_,e1,e2,_⟩=>by rw [e1,IE];exact e2)
  (fun d hd=>⟨aE hd _,[],[],_,_,Tbl.nil,rfl,J6 _,by simp,cW.nil,rfl⟩) ?_ ?_
 ·rintro d i x σ' H3 H4 ys R' R0 hd hx ⟨s3,L',ps',y,z,tb3,rfl,hl',hps',st,rfl⟩ hys s4 hR' hR0;rw [IJ] at hx;obtain ⟨p,hp,rfl⟩:=M9.mp hx;have hi:i<n:=by rw [<- hl];exact (II.mp hp).1
  obtain ⟨sd,hsd⟩:∃ sd,L[i]?=some sd:=⟨L[i],IG (by omega)⟩
  obtain ⟨srt,hm⟩:=hL i sd hsd;obtain ⟨k1,k2,k3⟩:=st.step gt pt hi srt hm;have hp4:H4 p=some (.lst (aH sd)):=s4 _ _ (s3 _ _ (tb2.row i p sd hp hsd));have ap4:At K H4 (.ref p) sd:=bA hp4;have l0:0<sd.length:=Jw.mpr (LN k1);symm;refine br ap4 (getD_some 0 l0) ?_;symm;have hin:∀ q∈ps',q∈ps.take (i+1):=fun q hq=>by
   rw [Js];exact J2 _ (hps' q hq)
  refine bt (fun c=>?_) (fun c=>?_)
  ·symm;have hn:p∉ps':=fun c=>by
    have z1:=hps' p c;obtain ⟨j,hj⟩:=J3 z1;have hj1:j<i:=by
     have:=(II.mp hj).1;rw [Je] at this;omega
    rw [KC hj1] at hj;obtain ⟨i1,e1⟩:=(II.mp hj);obtain ⟨i2,e2⟩:=(II.mp hp);exact (Lu.mp tb2.nd) j i i1 i2 hj1 (e1.trans e2.symm)
   have hpd:p≠d:=fun c=>by
    have:=tb2.row i p sd hp hsd;rw [c,hd] at this;cases this
   refine hR' _ _ _ (s4 _ _ hys) ⟨fun b o zz=>?_,L'++[sd],ps'++[p],_,_,tb3.snoc s4 hp4 hn hpd,by rw [JO];rfl,by rw [IZ];show _+1<=_;omega,fun q' hq'=>?_,st.new gt pt hi (k2 c) srt hm,rfl⟩
   ·rw [av (az zz hd)];exact s4 _ _ (s3 _ _ zz)
   ·rcases JG.mp hq' with z|z
    ·exact hin q' z
    ·rw [I0.mp z,Js,hp];simp
  ·refine hR0 _ _ (s4 _ _ hys) ⟨s3.trans s4,L',ps',_,_,tb3.mono s4,rfl,by omega,hin,st.old (k3 c),rfl⟩
 rintro d2 σ2 H3 ys fd2 hd2 ⟨s3,L',ps',y,z,tb3,rfl,hl',hps',st,rfl⟩;rw [IE,hl] at st;symm;exact q d2 H3 L' ps' (s02.free fd2) (fun p hp=>s1.free (fps p (L0 (hps' p hp)))) (s02.trans s3) tb3 st.fin
inductive rG  (vs:List V) (H:Hp) (Q:VK) (E:XK):Prop
 | mk (m:Nat) (_:vs=[.int (m:Int)]) (_:1<=m) (_:m<=60) (_:Q .non H)
def sy (T:Txt K mg):aN P w K mg base CX0 1 T.fO.f T.fO.fd ["many"] rG:=by
 exists T.fO.ok rf
 ·obtain ⟨m,rfl,_⟩:=h;rfl
 obtain ⟨m,rfl,m1,m2,q⟩:=h;refine ⟨_,(af (bj (PW.pt (sW (aD lr (pv 0) ah (aJ _)) (nM (aD jO (pv 0) (ug (v:=.int 60) rfl T.vO ⟨_,rfl⟩) (aJ _))))) (af b9) aV)),?_⟩;walk_at "3";refine bt (fun c=>absurd c (by omega)) (fun _=>?_)
 left;refine bt (fun c=>absurd c (by omega)) (fun _=>?_)
 left;exact q
def xh (n:Nat) (t:List (List Nat)) (e:Nat) (z:V) (m:Nat):Prop:=(z=.non/\bP (b8 n t e) m)\/(z=.int (m:Int)/\1<=m/\m<=60/\∀ k,bP (b8 n t e) k->m % k=0)
inductive Bh (C:Addr) (vs:List V) (H:Hp) (Q:VK) (E:XK):Prop
 | mk (g:Addr) (z:V) (n e m:Nat) (t:List (List Nat)) (_:vs=[.ref g,z]) (_:aY C H g n t e) (_:GT n t e) (_:xh n t e z m) (_:∀ H',aj H H'->Q (.int (m:Int)) H')
def m3 (T:Txt K mg):aN P w K mg base CX0 3 T.gA.f T.gA.fd ["group","spokes"] (Bh T.aM):=by
 exists T.gA.ok rA
 ·obtain ⟨g,z,n,e,m,t,rfl,_⟩:=h;rfl
 obtain ⟨g,z,n,e,m,t,rfl,hG,gt,hz,q⟩:=h;refine ⟨_,(ae (ao (i:=2) rA.nd rfl (IQ rfl) (ay T.o8 (Dq T) (hr.mono (by decide)) rfl (paF (pv 0) aa)))
   (ae (bj (xp (Gq (pv 1))) (af (aL (pv 2))) aV)
   (ae (bq (ay T.fO (sy T) (hr.mono (by decide)) rfl (paF (pv 1) aa)))
   (ae (bj (aD eK (ak aS (pv 1) (pv 2)) ah (aJ _)) (af b9) aV)
   (af (aL (pv 1))))))),?_⟩
 left;refine ⟨g,n,e,t,rfl,hG,gt,fun k H1 s1 hk=>?_⟩;walk_at "3";rcases hz with ⟨rfl,hm⟩|⟨rfl,m1,m2,hm⟩
 ·refine bt (fun _=>?_) (fun c=>absurd rfl c);left;rw [hk.uni hm];exact q _ s1
 ·refine bt (fun c=>by cases c) (fun _=>?_)
  left;refine ⟨m,rfl,m1,m2,?_⟩;have hk0:=hk.pos;walk_at "3";refine ck (fun c=>absurd (hm k hk) c) (fun _=>?_);left;exact q _ s1
end
section
inductive uE (C:Addr) (K:IC) (vs:List V) (H:Hp) (Q:VK) (E:XK):Prop
 | mk (g:Addr) (v u z:V) (n e m l:Nat) (t:List (List Nat)) (R M:List Nat) (_:vs=[.ref g,v,u,z]) (_:aY C H g n t e) (_:GT n t e) (_:At K H v R) (_:IsPart n t R) (_:At K H u M) (_:M.length=R.length) (_:(∀ x∈M,x<m)) (_:(z=.int (m:Int)\/(z=.non/\m=l))) (_:bP (b8 n t e) l) (_:m % l=0) (_:0<m) (_:m<=60) (_:∀ x H' o,aj H H'->Ao H' x o->oM t R M m o->Q x H')
end
section
variable {P:Jc} {w:World} {K:IC} {mg:Str->Option Value} {base:Heap}
inductive uq (K:IC) (vs:List V) (H:Hp) (Q:VK) (E:XK):Prop
 | mk (v u:V) (m:Nat) (R M:List Nat) (_:vs=[v,u,.int (m:Int)]) (_:At K H v R) (_:At K H u M) (_:M.length=R.length) (_:M.length<=1000) (_:(∀ x∈M,x<m)) (_:∀ H',aj H H'->Q .non H')
def uA (T:Txt K mg):aN P w K mg base CX0 1 T.f7.f T.f7.fd ["part","marks","spokes"] (uq K):=by
 exists T.f7.ok t6
 ·obtain ⟨v,u,m,R,M,rfl,_⟩:=h;rfl
 obtain ⟨v,u,m,R,M,rfl,hR,hM,hl,h1,mm,q⟩:=h;refine ⟨_,(ae (bj (aD eK (aA (aQ K rfl) rfl T.bC Jf (paF (pv 1) aa)) (aA (aQ K rfl) rfl T.bC Jf (paF (pv 0) aa)) (aJ _)) (af b9) aV)
   (af (bj (gY (aA (vg K rfl rfl) rfl T.Ey NA (paF (bE rfl kC (aT K rfl (pv 1)) (fun _ _ _ _=>⟨(au (i:=0) kC.nd rfl (IQ rfl)),bb,(HE (fG lr (pv 0) ah (aJ _)) (xg (fG wj (pv 0) (pv 1) (aJ _))))⟩)) aa))) (af b9) aV))),?_⟩
 walk_at "3";refine ck (fun c=>absurd hl c) (fun _=>?_);walk_at "3";refine kI (β:=Bool) hM (by omega) (fun i=>Jg i false) (fun σ'=>∃ y,σ'=[y,some (.int (m:Int))]) rfl (fun i _=>by simp) ⟨_,rfl⟩ ?_ ?_
 ·rintro i c w' σ' H3 d' R' R0 hc hs hw ⟨y,rfl⟩ hR' hR0 hd';cases (show w'=V.int (c:Int) from hw);have c1:=mm c (IH hc);left;refine bt (fun c=>absurd c (by omega)) (fun _=>?_)
  left;rw [decide_eq_false (show ¬ c >= m by omega)]
  exact hR' _ _ false _ ⟨_,rfl⟩ (aj.refl _) rfl LZ
 intro d2 H3 s3 h3;have h3':At K H3 (.ref d2) (Jg M.length false):=h3;left;refine EV h3' ?_;rw [show (Jg M.length false).any id=false from LO.mpr fun x hx=>by rw [ML hx];decide]
 left;walk_at "7";exact q _ s3
def uD (T:Txt K mg):aN P w K mg base CX0 4 T.gf.f T.gf.fd ["group","part","marks","spokes"] (uE T.aM K):=by
 exists T.gf.ok eg
 ·obtain ⟨g,v,u,z,n,e,m,l,t,R,M,rfl,_⟩:=h;rfl
 obtain ⟨g,v,u,z,n,e,m,l,t,R,M,rfl,hG,gt,hR,pt,hM,ml,mm,hz,hl,ml0,m1,m60,q⟩:=h;have n23:=gt.le;have rl:=pt.len;have nd:=bF pt.srt;have sv:xh n t e z m:=by
  rcases hz with rfl|⟨rfl,rfl⟩
  ·exact .inr ⟨rfl,m1,m60,fun k hk=>by rw [hk.uni hl];exact ml0⟩
  ·exact .inl ⟨rfl,hl⟩
 refine ⟨_,(ae (bq (ay T.eo (jv T) (hr.mono (by decide)) rfl (paF (pv 0) (paF (pv 1) aa))))
   (ae (ao (i:=4) eg.nd rfl (IQ rfl) (ay T.gA (m3 T) (hr.mono (by decide)) rfl (paF (pv 0) (paF (pv 3) aa))))
   (ae (bq (ay T.f7 (uA T) (hr.mono (by decide)) rfl (paF (pv 1) (paF (pv 2) (paF (pv 4) aa)))))
   (ae (ao (i:=5) eg.nd rfl (IQ rfl) (AN K rfl rfl rfl T.Hd rfl T.EL (paF (pv 1) (paF (pv 2) aa))))
   (ae (bo IW rfl (aT K rfl (pv 1)) (au (i:=6) eg.nd rfl (IQ rfl)) (af (bo IW rfl (aT K rfl (pv 1)) (au (i:=7) eg.nd rfl (IQ rfl)) (af (bj (aD eK (ix (iP hr) (pv 5) (aq (ai K rfl) (aq (ai K rfl) (aI K rfl (pv 0) rfl) (pv 6) (fun _ _=>rfl)) (pv 7) (fun _ _=>rfl)) (fun _ _=>rfl)) (ak aS (ak aU (ix (iP hr) (pv 5) (pv 6) (fun _ _=>rfl)) (ix (iP hr) (pv 5) (pv 7) (fun _ _=>rfl))) (pv 4)) (aJ _)) (af (aL (kh (paF (pv 6) (paF (pv 7) aa))))) aV)))))
   (af (aL Hh))))))),?_⟩
 walk_at "rn";refine ⟨g,v,n,e,t,R,rfl,hG,gt,hR,pt,fun H1 s1=>?_⟩;walk_at "rn";refine ⟨g,z,n,e,m,t,rfl,aY.mono s1 hG,gt,sv,fun H2 s2=>?_⟩;have s02:=s1.trans s2;walk_at "rn";refine ⟨v,u,m,R,M,rfl,Rep.mono s02 hR,Rep.mono s02 hM,ml,by omega,mm,fun H3 s3=>?_⟩
 have s03:=s02.trans s3;walk_at "rn";refine CP ?_;walk_at "rn";refine Iw (Rep.mono s03 hR) (Rep.mono s03 hM) ml.symm nd fun d hd=>?_;have s04:=s03.trans (aE hd (.dK (c5 R M)));have hd4:upd H3 d (.dK (c5 R M)) d=some (.dK (c5 R M)):=ar;generalize upd H3 d (.dK (c5 R M))=H4 at s04 hd4 ⊢;have hG4:=aY.mono s04 hG;obtain ⟨dx,r4,bk,hg,hT,hB⟩:=hG4.get (K:=K);walk_at "rn";refine jT (Rep.mono s04 hR) (fun j σ' H'=>H'=H4/\(∀ j',j' < j->∀ k,k<R.length->fD t R M m j' k)/\∃ x6 x7,σ'=[some (.ref g),some v,some u,some z,some (.int (m:Int)),some (.ref d),x6,x7]) ⟨rfl,fun j hj=>absurd hj (by omega),_,_,rfl⟩ (fun i σ' H' y=>by rw [y.1];exact aj.refl _) ?_ ?_
 ·rintro j a w' σ' H' ha hw ⟨rfl,hj,x6,x7,rfl⟩;cases (show w'=V.int (a:Int) from hw);have jl:j<R.length:=(II.mp ha).1;have haR:=IH ha;have han:=pt.lt a haR;have mi:=getD_some (l:=M) 0 (show j<M.length by omega)
  have ea:R.getD j 0=a:=by rw [ID,ha];rfl
  walk_at "rn";refine jT (Rep.mono s04 hR) (fun k σ' H1=>H1=H'/\(∀ k',k' < k->fD t R M m j k')/\∃ x7,σ'=[some (.ref g),some v,some u,some z,some (.int (m:Int)),some (.ref d),some (.int (a:Int)),x7]) ⟨rfl,fun j hj=>absurd hj (by omega),_,rfl⟩ (fun i σ' H1 y=>by rw [y.1];exact aj.refl _) ?_ ?_
  ·rintro k b w2 σ' H1 hb hw2 ⟨rfl,hk',x7,rfl⟩;cases (show w2=V.int (b:Int) from hw2);have kl:k<R.length:=(II.mp hb).1;have hbR:=IH hb;have hbn:=pt.lt b hbR;have mk:=getD_some (l:=M) 0 (show k<M.length by omega)
   have eb:R.getD k 0=b:=by rw [ID,hb];rfl
   have hab:=pt.cl a haR b hbR;have hx:=Jt hab;have mx:=getD_some (l:=M) 0 (show R.idxOf (tb t a b)<M.length by omega)
   have oke:fD t R M m j k↔M.getD (R.idxOf (tb t a b)) 0=(M.getD j 0+M.getD k 0) % m:=by
    unfold fD;rw [ea,eb]
   walk_at "1";refine ig ?_;symm;refine c7 hT rfl (gt.get han) fun w1 hw1=>?_;walk_at "rn";refine br hw1 (gt.dF han hbn) ?_;refine ki hd4 (jZ nd (tN hab) mx) ?_;walk_at "rn";refine ig ?_;walk_at "rn";refine ki hd4 (jZ nd ha mi) ?_;walk_at "rn";refine ig ?_;walk_at "rn";refine ki hd4 (jZ nd hb mk) ?_;walk_at "rn";refine ck (fun y=>?_) (fun y=>?_)
   ·walk_at "4";refine ⟨small (by show 2<=1000;decide),fun p hp=>?_⟩
    exact q _ _ (some (a,b)) (s04.trans (aE hp _)) ⟨p,rfl,ar⟩ ⟨j,k,jl,kl,ea,eb,fun y'=>y (oke.mp y'),hj,hk'⟩
   ·walk_at "rn";refine ⟨rfl,fun k' hk2=>?_,_,rfl⟩;rcases JI k' k with y' | y'
    ·exact hk' k' y'
    ·have:k'=k:=by omega
     rw [this];exact oke.mpr y
  ·rintro σ' H1 ⟨rfl,hk',x7,rfl⟩;walk_at "rn";refine ⟨rfl,fun j' hj2 k hk=>?_,_,_,rfl⟩;rcases JI j' j with y|y
   ·exact hj j' y k hk
   ·have:j'=j:=by omega
    rw [this];exact hk' k hk
 ·rintro σ' H' ⟨rfl,hj,x6,x7,rfl⟩;walk_at "rn";exact q _ _ none s04 rfl fun j hj2 k hk=>hj j hj2 k hk
def bO (T:Txt K mg) (C:Addr):Prop:=C=T.bf\/C=T.bZ\/C=T.bX\/C=T.cw\/C=T.bQ
def vb (T:Txt K mg):bO T T.bf:=.inl rfl
def mR (T:Txt K mg):bO T T.bZ:=.inr (.inl rfl)
def ot (T:Txt K mg):bO T T.bX:=.inr (.inr (.inl rfl))
def vo (T:Txt K mg):bO T T.cw:=.inr (.inr (.inr (.inl rfl)))
def fk (T:Txt K mg):bO T T.bQ:=.inr (.inr (.inr (.inr (rfl))))
structure Ik (K:IC) (C:Addr):Prop where
 cls:Cls K C
 g:a0 K C "group"
 s:a0 K C "spokes"
 z:a0 K C "size"
 d:a0 K C "deeds"
def l8 (T:Txt K mg) {C:Addr} (h:bO T C):Ik K C:=by
 rcases h with rfl|rfl|rfl|rfl|rfl
 ·exact ⟨T.j5,T.uf,T.rm,T.vN,T.tL⟩
 ·exact ⟨T.ou,T.qP,T.qm,T.tG,T.sr⟩
 ·exact ⟨T.p6,T.tF,T.rX,T.vJ,T.t9⟩
 ·exact ⟨T.p9,T.tX,T.qM,T.vR,T.tq⟩
 ·exact ⟨T.qy,T.tD,T.sV,T.vB,T.ua⟩
def jg (T:Txt K mg):∀ C,bO T C->Cls K C/\Meth K C "moves" T.cS:=by
 rintro C (rfl|rfl|rfl|rfl|rfl)
 ·exact ⟨T.j5,T.uk⟩
 ·exact ⟨T.ou,T.qX⟩
 ·exact ⟨T.p6,T.uI⟩
 ·exact ⟨T.p9,T.tQ⟩
 ·exact ⟨T.qy,T.tf⟩
def lA (T:Txt K mg):∀ C,bO T C->Cls K C/\Meth K C "trace" T.cU:=by
 rintro C (rfl|rfl|rfl|rfl|rfl)
 ·exact ⟨T.j5,T.tE⟩
 ·exact ⟨T.ou,T.rC⟩
 ·exact ⟨T.p6,T.tP⟩
 ·exact ⟨T.p9,T.ur⟩
 ·exact ⟨T.qy,T.tS⟩
def bS (H:Hp) (p:Addr) (r:List (Nat×Nat)):Prop:=∃ qs:List Addr,H p=some (.lst (qs.map V.ref))/\qs.length=r.length/\∀ (i:Nat) (q:Addr) (x:Nat×Nat),qs[i]?=some q->r[i]?=some x->H q=some (.tup [.int (x.1:Int),.int (x.2:Int)])
def cT (H:Hp) (d:Addr) (D:List (List (Nat×Nat))):Prop:=∃ ps:List Addr,H d=some (.lst (ps.map V.ref))/\ps.length=D.length/\∀ (i:Nat) (p:Addr) (r:List (Nat×Nat)),ps[i]?=some p->D[i]?=some r->bS H p r
def bS.mono {H H':Hp} {p:Addr} {r:List (Nat×Nat)} (s:aj H H') (h:bS H p r):bS H' p r:=by
 obtain ⟨qs,h1,h2,h3⟩:=h;exact ⟨qs,s _ _ h1,h2,fun i q x a b=>s _ _ (h3 i q x a b)⟩
def cT.mono {H H':Hp} {d:Addr} {D:List (List (Nat×Nat))} (s:aj H H') (h:cT H d D):cT H' d D:=by
 obtain ⟨ps,h1,h2,h3⟩:=h;exact ⟨ps,s _ _ h1,h2,fun i p r a b=>(h3 i p r a b).mono s⟩
def nF {α β:Type} {F:α->β->Prop}:∀ {as:List α} {bs:List β},as.length=bs.length->(∀ (i:Nat) (a:α) (b:β),as[i]?=some a->bs[i]?=some b->F a b)->Kr F as bs
 | [],[],_,_=>.nil
 | [],_ :: _,h,_=>by cases h
 | _ :: _,[],h,_=>by cases h
 | a :: as,b :: bs,h,f=>.cons (f 0 a b rfl rfl) (nF (Nat.succ.inj h) fun i x y h1 h2=>f (i+1) x y h1 h2)
def bS.at {H:Hp} {p:Addr} {r:List (Nat×Nat)} (h:bS H p r):At K H (.ref p) r:=by
 obtain ⟨qs,h1,h2,h3⟩:=h;refine ⟨p,_,rfl,SqL.of h1,nF (by rw [IE];exact h2) fun i a b ha hb=>?_⟩
 rw [IJ] at ha;cases hq:qs[i]? with
 | none=>rw [hq] at ha;cases ha
 | some q =>
  rw [hq] at ha;cases ha;exact Fl (h3 i q b hq hb)
def cT.at {H:Hp} {d:Addr} {D:List (List (Nat×Nat))} (h:cT H d D):At K H (.ref d) D:=by
 obtain ⟨ps,h1,h2,h3⟩:=h;refine ⟨d,_,rfl,SqL.of h1,nF (by rw [IE];exact h2) fun i a b ha hb=>?_⟩
 rw [IJ] at ha;cases hq:ps[i]? with
 | none=>rw [hq] at ha;cases ha
 | some q =>
  rw [hq] at ha;cases ha;exact (h3 i q b hq hb).at
def cT.but {H H':Hp} {d p C dx:Addr} {fs:List (Str×V)} {D:List (List (Nat×Nat))} (h:cT H d D) (hp:H p=some (.ins C dx fs)) (k:∀ a o,H a=some o->a≠p->H' a=some o):cT H' d D:=by
 obtain ⟨ps,h1,h2,h3⟩:=h;have no:∀ (a:Addr) (o:HO),H a=some o->(∀ C dx fs,o≠.ins C dx fs)->H' a=some o:=fun a o ha n=>k a o ha fun e=>by
  rw [e,hp] at ha;exact n _ _ _ (Jy ha).symm
 refine ⟨ps,no _ _ h1 (fun _ _ _ z=>by cases z),h2,fun i q r a b=>?_⟩
 obtain ⟨qs,g1,g2,g3⟩:=h3 i q r a b;exact ⟨qs,no _ _ g1 (fun _ _ _ z=>by cases z),g2,fun j q' x y z=>no _ _ (g3 j q' x y z) (fun _ _ _ z=>by cases z)⟩
def bS.keep {H:Hp} {p d:Addr} {r:List (Nat×Nat)} {ys:List V} {o:HO} (h:bS H p r) (hd:H d=some (.lst ys)) (np:p≠d):bS (upd H d o) p r:=by
 obtain ⟨qs,h1,h2,h3⟩:=h;refine ⟨qs,by rw [av np];exact h1,h2,fun i q x a b=>?_⟩
 have z:=h3 i q x a b;rw [av (fun e=>by rw [e,hd] at z;cases z)]
 exact z
def mD {α:Type} {l:List α} {x y:α} {i:Nat} (h:(l++[x])[i]?=some y):(i<l.length/\l[i]?=some y)\/(i=l.length/\x=y):=by
 rcases JI i l.length with z|z
 ·rw [Jk z] at h;exact .inl ⟨z,h⟩
 ·rw [Jl z] at h;have:i - l.length=0:=by
   rcases LK (i - l.length) with y' | y'
   ·exact y'
   ·rw [Kz (by simp;omega)] at h;cases h
  rw [this] at h;exact .inr ⟨by omega,Jy h⟩
def kU {α β:Type} {F:α->β->Prop}:∀ {as:List α} {bs:List β} {i:Nat} {a:α},Kr F as bs->as[i]?=some a->∃ b,bs[i]?=some b/\F a b
 | _,_,0,_,.cons h _,e=>⟨_,rfl,by cases e;exact h⟩
 | _,_,i+1,_,.cons _ t,e=>kU (i:=i) t e
 | _,_,_,_,.nil,e=>by simp at e
def gR (acc:List Nat) (i:Nat) (x:Nat×Nat):List Nat:=if x.1=i then acc.set x.2 (acc.getD x.2 0+1) else acc
def jA:List (Nat×Nat)->Nat->List Nat->List Nat
 | [],_,acc=>acc
 | x :: r,i,acc=>jA r (i+1) (gR acc i x)
def vw (x:Nat×Nat):∀ (r:List (Nat×Nat)) (i:Nat) (acc:List Nat),jA (r++[x]) i acc=gR (jA r i acc) (i+r.length) x
 | [],i,acc=>rfl
 | y :: r,i,acc=>by
  show jA (r++[x]) (i+1) (gR acc i y)=gR (jA r (i+1) (gR acc i y)) (i+(r.length+1)) x;rw [vw x r,show i+1+r.length=i+(r.length+1) by omega]
def qw {acc:List Nat} {i:Nat} {x:Nat×Nat}:(gR acc i x).length=acc.length:=by
 unfold gR
 split
 ·rw [LH]
 ·rfl
def qb:∀ (r:List (Nat×Nat)) (i:Nat) (acc:List Nat),(jA r i acc).length=acc.length
 | [],_,_=>rfl
 | x :: r,i,acc=>by
  show (jA r (i+1) (gR acc i x)).length=_;rw [qb r,qw]
def cnt (m:Nat) (r:List (Nat×Nat)):List Nat:=jA r 0 (Jg m 0)
def uh {m:Nat} {r:List (Nat×Nat)}:(cnt m r).length=m:=by unfold cnt;rw [qb,KY]
def Ee {m:Nat} {r:List (Nat×Nat)} {i:Nat} {x:Nat×Nat} (h:r[i]?=some x):cnt m (r.take (i+1))=gR (cnt m (r.take i)) i x:=by
 have hi:=(II.mp h).1;unfold cnt;rw [Js,h];show jA (r.take i++[x]) 0 _=_;rw [vw,Je,show 0+min i r.length=i by omega]
def EC {a:Nat} (n:Nat):(Jg n [V.int (a:Int)]).flatten=aH (Jg n a):=by
 unfold aH;rw [List.map_replicate]
 induction n with
 | zero=>rfl
 | succ n ih=>rw [Kw,Kw,Lo,ih];rfl
def ints_set {l:List Nat} {k c:Nat}:(aH l).set k (V.int (c:Int))=aH (l.set k c):=by
 unfold aH;rw [List.map_set]
def cT.get {H H2:Hp} {d:Addr} {D:List (List (Nat×Nat))} {i:Nat} {r:List (Nat×Nat)} {Q:VK} (h:cT H d D) (s:aj H H2) (hi:D[i]?=some r) (q:∀ p,bS H p r->Q (.ref p) H2):oF K (.ref d) (.int (i:Int)) H2 Q:=by
 obtain ⟨ps,h1,h2,h3⟩:=h;have hl:i<ps.length:=by rw [h2];exact (II.mp hi).1
 refine ⟨d,_,_,.ref ps[i],rfl,rfl,SqL.of (s _ _ h1),iL (by rw [IJ,IG hl];rfl),q _ (h3 i _ r (IG hl) hi)⟩
def mV {H H':Hp} {b:Addr} {o:HO} (fb:H b=none) (s:aj H H'):aj H (upd H' b o):=fun a o' z=>by
 rw [av (az z fb)];exact s _ _ z
def o5 {H:Hp} {p:Addr} {xs:List V} {Q:VK} {σ:St} {g:TG} {tt:TT} {ta:TE} {own:List Str} {fr:List Nat} (r:List (Nat×Nat)) (Sh:St->Prop) (hS:SqL K H p xs) (hl:xs.length=r.length) (hz:r.length<=1000) (h0:Sh (bG own fr σ))
  (turn:∀ (i:Nat) (x:V) (y:Nat×Nat) σ' H' (R:St->V->Hp->Prop) (R0:St->Hp->Prop),xs[i]?=some x->r[i]?=some y->aj H H'->Sh σ'->(∀ σ2 q H5,Sh σ2->aj H' H5->H5 q=some (.tup [.int (y.1:Int),.int (y.2:Int)])->R σ2 (.ref q) H5) ->
   g x σ' H' fun σ2 H3=>tt σ2 H3 fun ok H4=>if ok=true then ta σ2 H4 (R σ2) else R0 σ2 H4)
  (fin:∀ d H',H d=none->aj H H'->bS H' d r->Q (.ref d) H'):gG K (.ref p) H (dg own fr g tt ta σ Q):=by
 refine n8 (p:=p) (xs:=xs) (by omega) (fun d i σ' H' ys=>aj H H'/\∃ (qs:List Addr),ys=qs.map V.ref/\qs.length=i/\(∀ (j:Nat) (q:Addr) (c:Nat×Nat),qs[j]?=some q->r[j]?=some c->H' q=some (.tup [.int (c.1:Int),.int (c.2:Int)]))/\Sh σ')
  (fun d i σ' H' ys z=>z.1.seq hS) hS (fun d i σ' H' ys hi z=>by obtain ⟨_,qs,e,e2,_⟩:=z;rw [e,IE,e2];exact IV _) (fun d hd=>⟨aE hd _,[],rfl,rfl,(fun j q c z=>by simp at z),h0⟩) ?_ ?_
 ·rintro d i o σ' H2 ys R R0 hd hi ⟨s2,qs,rfl,hq,hc,hsh⟩ hys hR hR0;have hil:i<r.length:=by rw [<- hl];exact (II.mp hi).1
  refine turn i o _ σ' H2 R R0 hi (IG hil) s2 hsh fun σ2 a H5 hs2 s5 ha=>?_;have na:a≠d:=fun e=>by rw [e,s5 _ _ hys] at ha;cases ha
  refine hR _ _ _ (s5 _ _ hys) ⟨fun b o zz=>by rw [av (az zz hd)];exact s5 _ _ (s2 _ _ zz),qs++[a],by rw [JO];rfl,by rw [IZ,hq];rfl,fun j q c' hj hj'=>?_,hs2⟩
  rcases mD hj with ⟨_,z⟩|⟨z1,z2⟩
  ·have zz:=s5 _ _ (hc j q c' z hj');rw [av (fun e=>by rw [e,s5 _ _ hys] at zz;cases zz)]
   exact zz
  ·subst z2;rw [z1,hq,IG hil] at hj';cases hj';rw [av na];exact ha
 ·rintro d σ' H2 ys fd hd ⟨s2,qs,rfl,hq,hc,_⟩;exact fin d H2 fd s2 ⟨qs,hd,by omega,hc⟩
def mI {H:Hp} {p:Addr} {xs:List V} {Q:VK} {σ:St} {g:TG} {tt:TT} {ta:TE} {own:List Str} {fr:List Nat} (D:List (List (Nat×Nat))) (Sh:St->Prop) (hS:SqL K H p xs) (hl:xs.length=D.length) (hz:D.length<=1000) (h0:Sh (bG own fr σ))
  (turn:∀ (i:Nat) (x:V) (r:List (Nat×Nat)) σ' H' (R:St->V->Hp->Prop) (R0:St->Hp->Prop),xs[i]?=some x->D[i]?=some r->aj H H'->Sh σ'->(∀ σ2 q H5,Sh σ2->aj H' H5->H' q=none->bS H5 q r->R σ2 (.ref q) H5) ->
   g x σ' H' fun σ2 H3=>tt σ2 H3 fun ok H4=>if ok=true then ta σ2 H4 (R σ2) else R0 σ2 H4)
  (fin:∀ d H',H d=none->aj H H'->cT H' d D->Q (.ref d) H'):gG K (.ref p) H (dg own fr g tt ta σ Q):=by
 refine n8 (p:=p) (xs:=xs) (by omega) (fun d i σ' H' ys=>aj H H'/\∃ (ps:List Addr),ys=ps.map V.ref/\ps.length=i/\(∀ p∈ps,p≠d)/\(∀ (j:Nat) (p:Addr) (r:List (Nat×Nat)),ps[j]?=some p->D[j]?=some r->bS H' p r)/\Sh σ')
  (fun d i σ' H' ys z=>z.1.seq hS) hS (fun d i σ' H' ys hi z=>by obtain ⟨_,qs,e,e2,_⟩:=z;rw [e,IE,e2];exact IV _) (fun d hd=>⟨aE hd _,[],rfl,rfl,(fun p hp=>by cases hp),(fun j q c z=>by simp at z),h0⟩) ?_ ?_
 ·rintro d i o σ' H2 ys R R0 hd hi ⟨s2,ps,rfl,hq,hnd,hc,hsh⟩ hys hR hR0;have hil:i<D.length:=by rw [<- hl];exact (II.mp hi).1
  refine turn i o _ σ' H2 R R0 hi (IG hil) s2 hsh fun σ2 a H5 hs2 s5 fa ra=>?_;have na:a≠d:=fun e=>by rw [e,hys] at fa;cases fa
  have hys5:=s5 _ _ hys;refine hR _ _ _ hys5 ⟨fun b o zz=>by rw [av (az zz hd)];exact s5 _ _ (s2 _ _ zz),ps++[a],by rw [JO];rfl,by rw [IZ,hq];rfl,fun p hp=>?_,fun j p' r' hj hj'=>?_,hs2⟩
  ·rcases JG.mp hp with z|z
   ·exact hnd p z
   ·rw [I0.mp z];exact na
  ·rcases mD hj with ⟨_,z⟩|⟨z1,z2⟩
   ·exact ((hc j p' r' z hj').mono s5).keep hys5 (hnd p' (IH z))
   ·subst z2;rw [z1,hq,IG hil] at hj';cases hj';exact ra.keep hys5 na
 ·rintro d σ' H2 ys fd hd ⟨s2,ps,rfl,hq,hnd,hc,_⟩;exact fin d H2 fd s2 ⟨ps,hd,by omega,hc⟩
inductive uH (C:Addr) (K:IC) (vs:List V) (H:Hp) (Q:VK) (E:XK):Prop
 | mk (g:Addr) (v:V) (n e:Nat) (t:List (List Nat)) (R:List Nat) (_:vs=[.ref g,v]) (_:aY C H g n t e) (_:GT n t e) (_:At K H v R) (_:IsPart n t R) (_:∀ d H',H d=none->aj H H'->Gr K H' d (aG n t e R)->Q (.ref d) H')
def tT (T:Txt K mg):aN P w K mg base CX0 5 T.fY.f T.fY.fd ["group","part"] (uH T.aM K):=by
 exists T.fY.ok tV
 ·obtain ⟨g,v,n,e,t,R,rfl,_⟩:=h;rfl
 obtain ⟨g,v,n,e,t,R,rfl,hG,gt,hR,pt,q⟩:=h;have n23:=gt.le;refine ⟨_,(af (aL (bE rfl j6 (aT K rfl (ay T.pk (Dw T) (hr.mono (by decide)) rfl (paF (pv 0) (paF (pv 1) aa)))) (fun _ _ _ _=>⟨(au (i:=0) j6.nd rfl (IQ rfl)),bb,(aq (ai K rfl) (pv 0) ah (fun _ _=>rfl))⟩)))),?_⟩
 walk_at "rn";refine ⟨g,v,n,e,t,R,rfl,hG,gt,hR,pt,fun d H1 L ps fd fps s1 hL hsd=>?_⟩;have ec:=hsd.aG gt pt;have ll:L.length<=n:=by
  have:=congrArg Oh ec;rw [IE] at this;rw [this];exact gw
 walk_at "rn";refine Ft (β:=Nat) hL (by omega) (fun i=>(L.map fun s=>s.getD 0 0).take i) (fun σ'=>∃ y,σ'=[y]) rfl (fun i _=>by rw [Je];omega) ⟨_,rfl⟩ ?_ ?_
 ·rintro i c p σ' H5 d' R' R0 hc hs hp ⟨y,rfl⟩ hR' hR0 hd';have cne:=hsd.ne c (IH hc);walk_at "rn";refine br (n:=0) (bA hp) (c:=c.getD 0 0) (getD_some 0 (Jw.mpr cne)) ?_;exact hR' _ _ _ _ ⟨_,rfl⟩ (aj.refl _) rfl (by rw [Js,IJ,hc];rfl)
 ·intro d' H5 fd' hs hg;have hg':Gr K H5 d' ((L.map fun s=>s.getD 0 0).take L.length):=hg;rw [Jh (by simp),ec] at hg'
  exact q d' H5 (s1.free fd') (s1.trans hs) hg'
def MV (n:Nat) (t:List (List Nat)) (e:Nat) (R:List Nat) (H:Hp) (kvs:List (Key×V)) (i k:Nat):Prop:=∀ i' k' c h,(i' < i\/(i'=i/\k' < k))->(aG n t e R)[i']?=some c->R[k']?=some h ->
 ∃ q,cy kvs (nk (tb t c h))=some (.ref q)/\H q=some (.tup [.int ((i':Nat):Int),.int ((k':Nat):Int)])
def MV.mono {n e i k:Nat} {t:List (List Nat)} {R:List Nat} {H H':Hp} {kvs:List (Key×V)} (s:aj H H') (h:MV n t e R H kvs i k):MV n t e R H' kvs i k:=fun i' k' c x a b d=>by
 obtain ⟨q,z1,z2⟩:=h i' k' c x a b d;exact ⟨q,z1,s _ _ z2⟩
def MV.nil {n e:Nat} {t:List (List Nat)} {R:List Nat} {H:Hp}:MV n t e R H [] 0 0:=fun i' k' c x a=>by omega
def MV.next {n e i:Nat} {t:List (List Nat)} {R:List Nat} {H:Hp} {kvs:List (Key×V)} (h:MV n t e R H kvs i R.length):MV n t e R H kvs (i+1) 0:=fun i' k' c x a b d=>by
 have:=(II.mp d).1;exact h i' k' c x (by omega) b d
def MV.put {n e i k c x:Nat} {t:List (List Nat)} {R:List Nat} {H:Hp} {kvs:List (Key×V)} {q df:Addr} (gt:GT n t e) (pt:IsPart n t R) (h:MV n t e R H kvs i k) (hd:H df=some (.dK kvs)) (hc:(aG n t e R)[i]?=some c) (hx:R[k]?=some x)
  (hq:H q=some (.tup [.int (i:Int),.int (k:Int)])):MV n t e R (upd H df (.dK (putK kvs (nk (tb t c x)) (.ref q)))) (putK kvs (nk (tb t c x)) (.ref q)) i (k+1):=fun i' k' c' x' a b d=>by
 have no:∀ {p:Addr} {ys:List V},H p=some (.tup ys)->p≠df:=fun z y=>by rw [y,hd] at z;cases z
 rw [Dr];obtain ⟨a1,a2⟩:=wK gt pt hc hx rfl
 by_cases hk:nk (tb t c' x')=nk (tb t c x)
 ·rw [if_pos hk];obtain ⟨b1,b2⟩:=wK gt pt b d (sY hk);refine ⟨q,rfl,?_⟩;rw [av (no hq),<- b1,<- b2,a1,a2];exact hq
 ·rw [if_neg hk];have ne:¬ (i'=i/\k'=k):=fun ⟨z1,z2⟩=>hk (by
   subst z1 z2;rw [hc] at b;rw [hx] at d;cases b;cases d;rfl)
  obtain ⟨q',z1,z2⟩:=h i' k' c' x' (by omega) b d
  exact ⟨q',z1,by rw [av (no z2)];exact z2⟩
inductive vQ (C:Addr) (K:IC) (vs:List V) (H:Hp) (Q:VK) (E:XK):Prop
 | mk (g:Addr) (v:V) (n e:Nat) (t:List (List Nat)) (R:List Nat) (_:vs=[.ref g,v]) (_:aY C H g n t e) (_:GT n t e) (_:At K H v R) (_:IsPart n t R) (_:∀ d H',H d=none->aj H H'->cT H' d (dR n t e R)->Q (.ref d) H')
def m8 (T:Txt K mg):aN P w K mg base CX0 6 T.fA.f T.fA.fd ["group","part"] (vQ T.aM K):=by
 exists T.fA.ok cZ
 ·obtain ⟨g,v,n,e,t,R,rfl,_⟩:=h;rfl
 obtain ⟨g,v,n,e,t,R,rfl,hG,gt,hR,pt,q⟩:=h;have n23:=gt.le;have rl:=pt.len;have cl:=gw (n:=n) (t:=t) (e:=e) (R:=R);refine ⟨_,(ae (ao (i:=2) cZ.nd rfl (Lb rfl) (ay T.fY (tT T) (hr.mono (by decide)) rfl (paF (pv 0) (paF (pv 1) aa))))
   (ae (ao (i:=3) cZ.nd rfl (Lb rfl) DO)
   (ae (bo IW rfl (iH K rfl rfl T.eR (paF (pv 2) aa)) (fh rfl (bD (au (i:=4) cZ.nd rfl (IQ rfl)) (bD (au (i:=5) cZ.nd rfl (IQ rfl)) eB))) (af (bo IW rfl (iH K rfl rfl T.eR (paF (pv 1) aa)) (fh rfl (bD (au (i:=6) cZ.nd rfl (IQ rfl)) (bD (au (i:=7) cZ.nd rfl (IQ rfl)) eB))) (af (zK (iP hr) (pv 3) (aq (ai K rfl) (aq (ai K rfl) (aI K rfl (pv 0) rfl) (pv 5) (fun _ _=>rfl)) (pv 7) (fun _ _=>rfl)) (kh (paF (pv 4) (paF (pv 6) aa))) rfl)))))
   (af (aL (xr rfl lj (aT K rfl (aI K rfl (pv 0) rfl)) (fun _ _ _ _=>⟨(au (i:=0) lj.nd rfl (Lb rfl)),bb,(bE rfl kZ (aT K rfl (pv 1)) (fun _ _ _ _=>⟨(au (i:=0) kZ.nd rfl (IQ rfl)),bb,(ix (iP hr) (pv 1) (aq (ai K rfl) (pv 2) (pv 0) (fun _ _=>rfl)) (fun _ _=>rfl))⟩))⟩))))))),?_⟩
 walk_at "rn";refine ⟨g,v,n,e,t,R,rfl,hG,gt,hR,pt,fun dc H1 fdc s1 gc=>?_⟩;have hG1:=aY.mono s1 hG;have hR1:=Rep.mono s1 hR;obtain ⟨dx,r4,bk,hg,hT,hB⟩:=hG1.get (K:=K);walk_at "rn";refine GX fun df hdf=>?_;walk_at "rn";refine lU (H₀:=H1) gc.at (fun i σ' H'=>aj H1 H'/\(∃ kvs,H' df=some (.dK kvs)/\kvs.length<=i * 23/\MV n t e R H' kvs i 0)/\∃ x4 x5 x6 x7,σ'=[some (.ref g),some v,some (.ref dc),some (.ref df),x4,x5,x6,x7]) ⟨aE hdf _,⟨[],ar,by simp,MV.nil⟩,_,_,_,_,rfl⟩ (fun i σ' H' z=>z.1) ?_ ?_
 ·rintro i c w' σ' H3 H4 pt' hc hw ⟨s3,⟨kvs,hd3,hl3,mv3⟩,x4,x5,x6,x7,rfl⟩ hpt rfl s4;cases (show w'=V.int (c:Int) from hw);have hil:=(II.mp hc).1;have cn:=a9 (IH hc);have s14:=s3.trans s4;have hd4:=s4 _ _ hd3;have mv4:=mv3.mono s4;generalize upd H3 pt' (.tup [.int (i:Int),.int (c:Int)])=H4 at s14 hd4 mv4;walk_at "rn";refine lU (H₀:=H1) hR1 (fun k σ' H'=>aj H1 H'/\(∃ kvs,H' df=some (.dK kvs)/\kvs.length<=i * 23+k/\MV n t e R H' kvs i k)/\∃ x6 x7,σ'=[some (.ref g),some v,some (.ref dc),some (.ref df),some (.int (i:Int)),some (.int (c:Int)),x6,x7]) ⟨s14,⟨kvs,hd4,by omega,mv4⟩,_,_,rfl⟩ (fun i σ' H' z=>z.1) ?_ ?_
  ·rintro k x w2 σ' H5 H6 pt2 hx hw2 ⟨s5,⟨kv5,hd5,hl5,mv5⟩,x6,x7,rfl⟩ hpt2 rfl s6;cases (show w2=V.int (x:Int) from hw2);have hkl:=(II.mp hx).1;have xn:=pt.lt x (IH hx);have s16:=s5.trans s6;have hd6:=s6 _ _ hd5;have mv6:=mv5.mono s6;generalize upd H5 pt2 (.tup [.int (k:Int),.int (x:Int)])=H6 at s16 hd6 mv6;walk_at "rn";refine zL ?_;walk_at "4";refine ⟨small (by show 2<=1000;decide),fun p hp=>?_⟩
   have s7:=aE hp (.tup [.int (i:Int),.int (k:Int)]);have hp7:(upd H6 p (.tup [.int (i:Int),.int (k:Int)])) p=some (.tup [.int (i:Int),.int (k:Int)]):=ar;have s17:=s16.trans s7;have hd7:=s7 _ _ hd6;have mv7:=mv6.mono s7;generalize upd H6 p (.tup [.int (i:Int),.int (k:Int)])=H7 at s17 hd7 mv7 hp7;have hg7:=s17 _ _ hg;have hT7:=Rep.mono s17 hT;symm;refine c7 hT7 rfl (gt.get cn) fun w1 hw1=>?_;walk_at "rn";refine br hw1 (gt.dF cn xn) ?_;have l7:=iV kv5 (nk (tb t c x)) (V.ref p);refine BQ hd7 (by omega) ⟨fun b o z=>by rw [av (az z hdf)];exact s17 _ _ z,⟨_,ar,by omega,mv7.put gt pt hd7 hc hx hp7⟩,_,_,rfl⟩
  ·rintro σ' H5 ⟨s5,⟨kv5,hd5,hl5,mv5⟩,x6,x7,rfl⟩;walk_at "rn";exact ⟨s5,⟨kv5,hd5,by omega,mv5.next⟩,_,_,_,_,rfl⟩
 ·rintro σ' H3 ⟨s3,⟨kvs,hd3,hl3,mv3⟩,x4,x5,x6,x7,rfl⟩;have hg3:=s3 _ _ hg;have hT3:=Rep.mono s3 hT;have aC:=Rep.mono s3 gc.at;symm;obtain ⟨pr,xs,epr,hSr,hPr⟩:=id hT3;cases epr;have lt:=LC hPr;have tl:=gt.len;refine mI (dR n t e R) (fun σ'=>∃ y,σ'=[y,some (.ref dc),some (.ref df)]) hSr (by unfold dR;rw [IE,Jb];omega) (by unfold dR;rw [IE,Jb];omega) ⟨_,rfl⟩ ?_ ?_
  ·rintro i o r σ' H4 R' R0 ho hr4 s4 ⟨y,rfl⟩ hR';obtain ⟨row,hrow,arow⟩:=kU hPr ho;have hin:i<n:=by rw [<- tl];exact (II.mp hrow).1
   have er:row=t.getD i []:=by
    have:=gt.get hin;rw [hrow] at this;exact Jy this
   subst er;have aR4:=Rep.mono s4 arow;have aC4:=Rep.mono s4 aC;obtain ⟨pc,cs,ecs,hSc,hPc⟩:=id aC4;cases ecs;have lc:=LC hPc;have e4:r=(aG n t e R).map fun c=>(hm n t e R (tb t i c),R.idxOf (ov n t e R (tb t i c))):=by
    unfold dR at hr4;rw [IJ,Jv hin] at hr4;exact (Jy hr4).symm
   subst e4;walk_at "rn";refine o5 ((aG n t e R).map fun c=>(hm n t e R (tb t i c),R.idxOf (ov n t e R (tb t i c)))) (fun σ'=>∃ y,σ'=[y,some (.ref df),some o]) hSc (by rw [IE];exact lc) (by rw [IE];omega) ⟨_,rfl⟩ ?_ ?_
   ·rintro j o2 y2 σ' H5 R2 R02 ho2 hy2 s5 ⟨y,rfl⟩ hR2;obtain ⟨c,hc,ac⟩:=kU hPc ho2;cases (show o2=V.int (c:Int) from ac);rw [IJ,hc] at hy2;cases hy2;have cn:=a9 (IH hc);have xn:=gt.lt i c hin cn;obtain ⟨c',k',z1,z2,z3,z4⟩:=mw gt pt xn;have s35:=s4.trans s5;obtain ⟨qq,v1,v2⟩:=mv3 _ _ c' _ (.inl (II.mp z1).1) z1 z2;rw [z4] at v1;walk_at "rn";refine ig ?_;walk_at "rn";refine br (Rep.mono s5 aR4) (gt.dF hin cn) ?_;refine ki (s35 _ _ hd3) v1 ?_;exact hR2 _ qq _ ⟨_,rfl⟩ (aj.refl _) (by dsimp only;rw [z3];exact s35 _ _ v2)
   ·intro d2 H5 fd2 s5 r5;exact hR' _ _ _ ⟨_,rfl⟩ s5 fd2 r5
  ·intro d2 H4 fd2 s4 hD;have s14:=s3.trans s4;exact q d2 H4 (s1.free (s3.free fd2)) (s1.trans s14) hD
inductive xa (C:Addr) (K:IC) (vs:List V) (H:Hp) (Q:VK) (E:XK):Prop
 | mk (g:Addr) (v u z:V) (n e m l:Nat) (t:List (List Nat)) (R M:List Nat) (_:vs=[.ref g,v,u,z]) (_:aY C H g n t e) (_:GT n t e) (_:At K H v R) (_:IsPart n t R) (_:At K H u M) (_:M.length=R.length) (_:(∀ x∈M,x<m)) (_:(z=.int (m:Int)\/(z=.non/\m=l))) (_:bP (b8 n t e) l) (_:m % l=0) (_:0<m) (_:m<=60) (_:(∀ j,j<R.length->∀ k,k<R.length->fD t R M m j k)) (_:∀ H',aj H H'->Q .non H')
def yB (T:Txt K mg):aN P w K mg base CX0 5 T.iW.f T.iW.fd ["group","part","marks","spokes"] (xa T.aM K):=by
 exists T.iW.ok og
 ·obtain ⟨g,v,u,z,n,e,m,l,t,R,M,rfl,_⟩:=h;rfl
 obtain ⟨g,v,u,z,n,e,m,l,t,R,M,rfl,hG,gt,hR,pt,hM,ml,mm,hz,hl,ml0,m1,m60,ok,q⟩:=h;refine ⟨_,(ae (ao (i:=4) og.nd rfl (IQ rfl) (HH T.gf (uD T) (hr.mono (by decide)) rfl (paF (pv 0) (paF (pv 1) (paF (pv 2) (paF (pv 3) aa))))))
   (af (bj (xp (FE (pv 4))) (af b9) aV))),?_⟩
 walk_at "rn";refine ⟨g,v,u,z,n,e,m,l,t,R,M,rfl,hG,gt,hR,pt,hM,ml,mm,hz,hl,ml0,m1,m60,fun x H1 o s1 hx hb=>?_⟩;cases hb.uni (o':=none) ok;cases (show x=.non from hx);walk_at "1";refine ck (fun c=>absurd rfl c) (fun _=>?_);walk_at "rn";exact q _ s1
end
section
variable {P:Jc} {w:World} {K:IC} {mg:Str->Option Value} {base:Heap}
def Il (g:V) (m z:Int) (d:V):List (Str×V):=[("group",g),("spokes",.int m),("size",.int z),("deeds",d)]
def Ii (a b g:V) (m z:Int) (d:V):List (Str×V):=[("part",a),("marks",b),("group",g),("spokes",.int m),("size",.int z),("deeds",d)]
def WF (fs:List (Str×V)) (g:V) (m z:Int) (d:V):Prop:=fs=Il g m z d\/∃ x y,fs=Ii x y g m z d
def dI (W:Addr->Prop) (H:Hp) (a g:Addr) (m z:Nat) (D:List (List (Nat×Nat))):Prop:=∃ C dx d fs,W C/\H a=some (.ins C dx fs)/\WF fs (.ref g) m z (.ref d)/\cT H d D
def dI.mono {W:Addr->Prop} {H H':Hp} {a g m z:Nat} {D:List (List (Nat×Nat))} (s:aj H H') (h:dI W H a g m z D):dI W H' a g m z D:=by
 obtain ⟨C,dx,d,fs,h0,h1,h2,h3⟩:=h;exact ⟨C,dx,d,fs,h0,s _ _ h1,h2,h3.mono s⟩
section
variable (T:Txt K mg) {H:Hp} {C a dx:Addr} {m z:Int} {g d:V} {fs:List (Str×V)} {Q:VK} (hC:bO T C) (ha:H a=some (.ins C dx fs)) (wf:WF fs g m z d)
include hC ha wf
theorem ff (q:Q g H):isF K "group" (.ref a) H Q:=by
 have c:=l8 T hC;rcases wf with rfl|⟨x,y,rfl⟩ <;> exact ⟨a,C,dx,_,_,rfl,ha,c.cls,c.g,rfl,q⟩
theorem dB (q:Q (.int m) H):isF K "spokes" (.ref a) H Q:=by
 have c:=l8 T hC;rcases wf with rfl|⟨x,y,rfl⟩ <;> exact ⟨a,C,dx,_,_,rfl,ha,c.cls,c.s,rfl,q⟩
theorem eP (q:Q (.int z) H):isF K "size" (.ref a) H Q:=by
 have c:=l8 T hC;rcases wf with rfl|⟨x,y,rfl⟩ <;> exact ⟨a,C,dx,_,_,rfl,ha,c.cls,c.z,rfl,q⟩
theorem xj (q:Q d H):isF K "deeds" (.ref a) H Q:=by
 have c:=l8 T hC;rcases wf with rfl|⟨x,y,rfl⟩ <;> exact ⟨a,C,dx,_,_,rfl,ha,c.cls,c.d,rfl,q⟩
end
def WF.moves {fs:List (Str×V)} {g d:V} {m z:Int} (wf:WF fs g m z d):fs.lookup ("moves" : Str)=none:=by
 rcases wf with rfl|⟨x,y,rfl⟩ <;> rfl
def WF.trace {fs:List (Str×V)} {g d:V} {m z:Int} (wf:WF fs g m z d):fs.lookup ("trace" : Str)=none:=by
 rcases wf with rfl|⟨x,y,rfl⟩ <;> rfl
inductive G1 (W:Addr->Prop) (vs:List V) (H:Hp) (Q:VK) (E:XK):Prop
 | mk (p C dx d:Addr) (g:V) (m:Int) (f0:List (Str×V)) (D:List (List (Nat×Nat))) (r:List (Nat×Nat)) (_:vs=[.ref p,g,.int m,.ref d]) (_:W C) (_:H p=some (.ins C dx f0)) (_:(f0=[]\/∃ x y:V,f0=([("part",x),("marks",y)]:List (Str×V)))) (_:cT H d D) (_:D[0]?=some r) (_:∀ H' fs,H' p=some (.ins C dx fs)->WF fs g m r.length (.ref d)->(∀ a o,H a=some o->a≠p->H' a=some o)->Q .non H')
def nA (T:Txt K mg):aN P w K mg base CX0 1 T.wm T.An ["self","group","spokes","deeds"] (G1 (bO T)):=by
 exists T.HY.ok yU
 ·obtain ⟨p,C,dx,d,g,m,f0,D,r,rfl,_⟩:=h;rfl
 obtain ⟨p,C,dx,d,g,m,f0,D,r,rfl,hC,hp,hf,hD,h0,k⟩:=h;have c:=l8 T hC;refine ⟨_,(ae (eS K rfl (pv 0) (pv 1) rfl)
   (ae (eS K rfl (pv 0) (pv 2) rfl)
   (ae (eS K rfl (pv 0) (aA (aQ K rfl) rfl T.bC Jf (paF (aq (ai K rfl) (pv 3) ah (fun _ _=>rfl)) aa)) rfl)
   (af (eS K rfl (pv 0) (pv 3) rfl))))),?_⟩
 right;refine ⟨p,C,dx,_,rfl,hp,c.cls,c.g,(by rcases hf with rfl|⟨x,y,rfl⟩;exact (show 0<1000 by decide);exact (show 2<1000 by decide)),?_⟩
 right;refine ⟨p,C,dx,_,rfl,ar,c.cls,c.s,(by rcases hf with rfl|⟨x,y,rfl⟩;exact (show 1<1000 by decide);exact (show 3<1000 by decide)),?_⟩
 right;have hD2:cT (upd (upd H p (.ins C dx (cE "group" g f0))) p (.ins C dx (cE "spokes" (V.int m) (cE "group" g f0)))) d D:=hD.but hp fun a o ha hne=>by
  rw [av hne,av hne];exact ha
 refine c7 (n:=0) (hD2.at (K:=K)) rfl h0 fun w1 hw1=>?_;right;refine cA hw1 ?_;right;refine ⟨p,C,dx,_,rfl,ar,c.cls,c.z,(by rcases hf with rfl|⟨x,y,rfl⟩;exact (show 2<1000 by decide);exact (show 4<1000 by decide)),?_⟩
 right;refine ⟨p,C,dx,_,rfl,ar,c.cls,c.d,(by rcases hf with rfl|⟨x,y,rfl⟩;exact (show 3<1000 by decide);exact (show 5<1000 by decide)),?_⟩
 refine k _ _ ar ?_ fun a o ha hne=>?_
 ·rcases hf with rfl|⟨x,y,rfl⟩
  ·exact .inl rfl
  ·exact .inr ⟨x,y,rfl⟩
 rw [av hne,av hne,av hne,av hne];exact ha
def vq {n e i:Nat} {t:List (List Nat)} {R:List Nat} (hi:i<n):(dR n t e R)[i]?=some ((aG n t e R).map fun c=>(hm n t e R (tb t i c),R.idxOf (ov n t e R (tb t i c)))):=by
 unfold dR;rw [IJ,Jv hi];rfl
def u6 {n e i:Nat} {t:List (List Nat)} {R M:List Nat} (hi:i<n):(fH n t e R M)[i]?=some ((aG n t e R).map fun c=>(hm n t e R (tb t i c),M.getD (R.idxOf (ov n t e R (tb t i c))) 0)):=by
 unfold fH;rw [IJ,Jv hi];rfl
inductive Cz (C CG:Addr) (K:IC) (vs:List V) (H:Hp) (Q:VK) (E:XK):Prop
 | mk (p dx g:Addr) (v u z:V) (n e m l:Nat) (t:List (List Nat)) (R M:List Nat) (H0:Hp) (_:vs=[.ref p,.ref g,v,u,z]) (_:H p=some (.ins C dx [])) (_:H0 p=none) (_:aj H0 H) (_:aY CG H0 g n t e) (_:GT n t e) (_:At K H0 v R) (_:IsPart n t R) (_:At K H0 u M) (_:M.length=R.length) (_:(∀ x∈M,x<m)) (_:(z=.int (m:Int)\/(z=.non/\m=l))) (_:bP (b8 n t e) l) (_:m % l=0) (_:0<m) (_:m<=60) (_:(∀ j,j<R.length->∀ k,k<R.length->fD t R M m j k)) (_:∀ d H' fs,aj H0 H'->H' p=some (.ins C dx fs)->WF fs (.ref g) m (aG n t e R).length (.ref d)->cT H' d (fH n t e R M)->Q .non H')
def BB (T:Txt K mg):aN P w K mg base CX0 7 T.qc T.p8 ["self","group","part","marks","spokes"] (Cz T.bf T.aM K):=by
 exists T.w5.ok l5
 ·obtain ⟨p,dx,g,v,u,z,n,e,m,l,t,R,M,H0,rfl,_⟩:=h;rfl
 obtain ⟨p,dx,g,v,u,z,n,e,m,l,t,R,M,H0,rfl,hp,h0p,s0,hG,gt,hR,pt,hM,ml,mm,hz,hl,ml0,m1,m60,ok,q⟩:=h;have n1:=gt.pos;have n23:=gt.le;have rl:=pt.len;have cl:=gw (n:=n) (t:=t) (e:=e) (R:=R);have sv:xh n t e z m:=by
  rcases hz with rfl|⟨rfl,rfl⟩
  ·exact .inr ⟨rfl,m1,m60,fun k hk=>by rw [hk.uni hl];exact ml0⟩
  ·exact .inl ⟨rfl,hl⟩
 refine ⟨_,(ae (bq (ay T.iW (yB T) (hr.mono (by decide)) rfl (paF (pv 1) (paF (pv 2) (paF (pv 3) (paF (pv 4) aa))))))
   (ae (eS K rfl (pv 0) (cG (fP K rfl) rfl T.gF JW (paF (pv 2) aa)) rfl)
   (ae (eS K rfl (pv 0) (cG (fP K rfl) rfl T.gF JW (paF (pv 3) aa)) rfl)
   (ae (cv (i:=5) rfl l5.nd rfl (IQ rfl) kL (aT K rfl (ay T.fA (m8 T) (hr.mono (by decide)) rfl (paF (pv 1) (paF (pv 2) aa)))) (fun _ _ _ _=>⟨(au (i:=0) kL.nd rfl (IQ rfl)),bb,(bE rfl j8 (aT K rfl (pv 0)) (fun _ _ _ _=>⟨(rp K rfl (i:=0) (j:=1) rfl j8.nd rfl (IQ rfl) rfl (IQ rfl)),bb,(kh (paF (pv 0) (paF (aq (ai K rfl) (pv 2) (pv 1) (fun _ _=>rfl)) aa)))⟩))⟩) rfl)
   (af (bq (kN rfl T.sP T.rJ (nA T) (hr.mono (by decide)) T.qY (paF (pv 0) (paF (pv 1) (paF (ay T.gA (m3 T) (hr.mono (by decide)) rfl (paF (pv 1) (paF (pv 4) aa))) (paF (pv 5) aa))))))))))),?_⟩
 walk_at "rn";refine ⟨g,v,u,z,n,e,m,l,t,R,M,rfl,hG.mono s0,gt,Rep.mono s0 hR,pt,Rep.mono s0 hM,ml,mm,hz,hl,ml0,m1,m60,ok,fun H1 s1=>?_⟩;have s01:=s0.trans s1;have hp1:=s1 _ _ hp;walk_at "rn";refine zX (Rep.mono s01 hR) fun pa H2 fpa s2 ga=>?_;have hp2:=s2 _ _ hp1;have hpa:=dU ga;have npa:pa≠p:=fun y=>by rw [y,hp2] at hpa;cases hpa
 have fpa0:H0 pa=none:=s01.free fpa;right;refine ⟨p,T.bf,dx,_,rfl,hp2,T.j5,T.vV,(by show 0<1000;decide),?_⟩
 have s03:aj H0 (upd H2 p (.ins T.bf dx (cE "part" (.ref pa) []))):=fun b o y=>by rw [av (az y h0p)];exact s2 _ _ (s01 _ _ y)
 have hp3:(upd H2 p (.ins T.bf dx (cE "part" (.ref pa) []))) p=some (.ins T.bf dx [("part",.ref pa)]):=ar;have ha3:(upd H2 p (.ins T.bf dx (cE "part" (.ref pa) []))) pa=some (.lst (aH R)):=by rw [av npa];exact hpa
 generalize upd H2 p (.ins T.bf dx (cE "part" (.ref pa) []))=H3 at s03 hp3 ha3;walk_at "rn";refine zX (Rep.mono s03 hM) fun ma H4 fma s4 gb=>?_;have hp4:=s4 _ _ hp3;have ha4:=s4 _ _ ha3;have hma:=dU gb;have nma:ma≠p:=fun y=>by rw [y,hp4] at hma;cases hma
 have fma0:H0 ma=none:=s03.free fma;right;refine ⟨p,T.bf,dx,_,rfl,hp4,T.j5,T.tY,(by show 1<1000;decide),?_⟩
 have s05:aj H0 (upd H4 p (.ins T.bf dx (cE "marks" (.ref ma) [("part",.ref pa)]))):=fun b o y=>by rw [av (az y h0p)];exact s4 _ _ (s03 _ _ y)
 have hp5:(upd H4 p (.ins T.bf dx (cE "marks" (.ref ma) [("part",.ref pa)]))) p=some (.ins T.bf dx [("part",.ref pa),("marks",.ref ma)]):=ar;have ha5:(upd H4 p (.ins T.bf dx (cE "marks" (.ref ma) [("part",.ref pa)]))) pa=some (.lst (aH R)):=by rw [av npa];exact ha4
 have hb5:(upd H4 p (.ins T.bf dx (cE "marks" (.ref ma) [("part",.ref pa)]))) ma=some (.lst (aH M)):=by rw [av nma];exact hma
 generalize upd H4 p (.ins T.bf dx (cE "marks" (.ref ma) [("part",.ref pa)]))=H5 at s05 hp5 ha5 hb5;walk_at "rn";refine ⟨g,v,n,e,t,R,rfl,hG.mono s05,gt,Rep.mono s05 hR,pt,fun d6 H6 fd6 s6 hD6=>?_⟩;have s06:=s05.trans s6;obtain ⟨ps6,h61,h62,h63⟩:=id hD6;have ln6:ps6.length=n:=by rw [h62];unfold dR;rw [IE,Jb]
 walk_at "rn";refine mI (fH n t e R M) (fun σ'=>∃ y,σ'=[y,some u]) (SqL.of h61) (by unfold fH;rw [IE,IE,Jb];exact ln6) (by unfold fH;rw [IE,Jb];omega) ⟨_,rfl⟩ ?_ ?_
 ·rintro i o r σ' H7 R' R0 ho hr7 s7 ⟨y,rfl⟩ hR';have hin:i<n:=by
   have:=(II.mp ho).1;rw [IE] at this;omega
  rw [u6 hin] at hr7;cases hr7;rw [IJ] at ho;cases hq:ps6[i]? with
  | none=>rw [hq] at ho;cases ho
  | some pq =>
   rw [hq] at ho;cases ho;obtain ⟨qs,r1,r2,r3⟩:=(h63 i pq _ hq (vq hin)).mono s7;rw [IE] at r2;walk_at "rn";refine o5 ((aG n t e R).map fun c=>(hm n t e R (tb t i c),M.getD (R.idxOf (ov n t e R (tb t i c))) 0)) (fun σ'=>∃ y1 y2,σ'=[y1,y2,some u]) (SqL.of r1) (by rw [IE,IE];exact r2) (by rw [IE];omega) ⟨_,_,rfl⟩ ?_ ?_
   ·rintro j o2 y2 σ' H8 R2 R02 ho2 hy2 s8 ⟨y1,y3,rfl⟩ hR2;rw [IJ] at ho2 hy2;cases hc:(aG n t e R)[j]? with
    | none=>rw [hc] at hy2;cases hy2
    | some c =>
     rw [hc] at hy2;cases hy2;cases hq2:qs[j]? with
     | none=>rw [hq2] at ho2;cases ho2
     | some q2 =>
      rw [hq2] at ho2;cases ho2;have ht:=s8 _ _ (r3 j q2 _ hq2 (by rw [IJ,hc];rfl))
      have cn:=a9 (IH hc);have xn:=gt.lt i c hin cn;obtain ⟨_,k',_,z2,z3,_⟩:=mw gt pt xn;have kl:R.idxOf (ov n t e R (tb t i c))<M.length:=by rw [z3,ml];exact (II.mp z2).1
      refine ⟨q2,_,rfl,SqT.of ht,rfl,⟨_,_,rfl,⟨_,_,rfl,⟨rfl,?_⟩⟩⟩⟩;walk_at "4";refine br (Rep.mono (s06.trans (s7.trans s8)) hM) (getD_some (l:=M) 0 kl) ?_;walk_at "rn";refine ⟨small (by show 2<=1000;decide),fun a ha=>?_⟩
      exact hR2 _ a _ ⟨_,_,rfl⟩ (aE ha _) ar
   ·intro d2 H8 fd2 s8 r8;exact hR' _ _ _ ⟨_,rfl⟩ s8 fd2 r8
 ·intro d7 H7 fd7 s7 hD7;have s07:=s06.trans s7;walk_at "rn";refine ⟨g,z,n,e,m,t,rfl,hG.mono s07,gt,sv,fun H8 s8=>?_⟩;have s58:=s6.trans (s7.trans s8);walk_at "rn";refine ⟨p,T.bf,dx,d7,.ref g,(m:Int),_,_,_,rfl,vb T,s58 _ _ hp5,.inr ⟨_,_,rfl⟩,hD7.mono s8,u6 n1,fun H9 fs h9 wf k9=>?_⟩;rw [IE] at wf;walk_at "rn";exact q d7 H9 fs (fun b o y=>k9 b o (s58 _ _ (s05 _ _ y)) (az y h0p)) h9 wf ((hD7.mono s8).but (s58 _ _ hp5) k9)
inductive DP (W:Addr->Prop) (vs:List V) (H:Hp) (Q:VK) (E:XK):Prop
 | mk (a g:Addr) (x m n:Nat) (D:List (List (Nat×Nat))) (r:List (Nat×Nat)) (_:vs=[.ref a,.int (x:Int)]) (_:dI W H a g m n D) (_:D[x]?=some r) (_:∀ p H',H p=none->aj H H'->bS H' p r->Q (.ref p) H')
def fC (T:Txt K mg):aN P w K mg base CX0 1 T.cS T.lC ["self","thing"] (DP (bO T)):=by
 exists T.zh.ok xc
 ·obtain ⟨a,g,x,m,n,D,r,rfl,_⟩:=h;rfl
 obtain ⟨a,g,x,m,n,D,r,rfl,hW,hx,q⟩:=h;obtain ⟨C,dx,d,fs,hC,ha,wf,hD⟩:=id hW;refine ⟨_,(af (aL (cG (fP K rfl) rfl T.gF JW (paF (aq (ai K rfl) (aI K rfl (pv 0) rfl) (pv 1) (fun _ _=>rfl)) aa)))),?_⟩;left;refine xj T hC ha wf ?_;left;refine hD.get (aj.refl _) hx fun p hp=>?_;left;obtain ⟨qs,h1,h2,h3⟩:=hp;refine ⟨p,_,rfl,.inl (SqL.of h1),fun l hl=>?_⟩;have s1:=aE hl (.lst (qs.map V.ref));exact q l _ hl s1 ⟨qs,ar,h2,fun i q' y z1 z2=>s1 _ _ (h3 i q' y z1 z2)⟩
inductive Eg (W:Addr->Prop) (vs:List V) (H:Hp) (Q:VK) (E:XK):Prop
 | mk (a g:Addr) (x m n:Nat) (D:List (List (Nat×Nat))) (r:List (Nat×Nat)) (_:vs=[.ref a,.int (x:Int)]) (_:dI W H a g m n D) (_:1<=m) (_:m<=60) (_:D[x]?=some r) (_:r.length<=1000) (_:(∀ y∈r,y.2<m)) (_:∀ p H',H p=none->aj H H'->H' p=some (.lst (aH (cnt m r)))->Q (.ref p) H')
def gP (T:Txt K mg):aN P w K mg base CX0 1 T.cU T.lI ["self","thing"] (Eg (bO T)):=by
 exists T.zd.ok gJ
 ·obtain ⟨a,g,x,m,n,D,r,rfl,_⟩:=h;rfl
 obtain ⟨a,g,x,m,n,D,r,rfl,hW,m1,m2,hx,hl,hr2,q⟩:=h;obtain ⟨C,dx,d,fs,hC,ha,wf,hD⟩:=id hW;refine ⟨_,(ae (ao (i:=2) gJ.nd rfl (IQ rfl) (ak Bo (cq (paF ah aa)) (aI K rfl (pv 0) rfl)))
   (ae (bo IW rfl (iH K rfl rfl T.eR (paF (aq (ai K rfl) (aI K rfl (pv 0) rfl) (pv 1) (fun _ _=>rfl)) aa)) (fh rfl (bD (au (i:=3) gJ.nd rfl (IQ rfl)) (bD (au (i:=4) gJ.nd rfl (IQ rfl)) eB))) (af (bj (aD cL (aq (mj K rfl) (pv 4) ah (fun _ _=>rfl)) (pv 3) (aJ _)) (af (qT (ak aU (aq (ai K rfl) (pv 2) (aq (mj K rfl) (pv 4) ah (fun _ _=>rfl)) (fun _ _=>rfl)) ah) (xB (pv 2) (aq (mj K rfl) (pv 4) ah (fun _ _=>rfl)) set_list))) aV)))
   (af (aL (pv 2))))),?_⟩
 left;refine i3 ?_;left;refine ⟨small (by show 1<=1000;decide),fun p1 hp1=>?_⟩
 have s1:=aE hp1 (.lst [.int ((0:Nat):Int)]);have h1:(upd H p1 (.lst [.int ((0:Nat):Int)])) p1=some (.lst [.int ((0:Nat):Int)]):=ar;generalize upd H p1 (.lst [.int ((0:Nat):Int)])=H1 at s1 h1;left;refine dB T hC (s1 _ _ ha) wf ?_;left;refine ⟨p1,_,_,rfl,rfl,h1,by omega,by omega,?_,fun c hc=>?_⟩
 ·rw [Kc];show 1 * _<=_;omega
 rw [show ((m:Nat):Int).toNat=m by omega,EC]
 have fc:H c=none:=s1.free hc;have s2:=s1.trans (aE hc (.lst (aH (Jg m 0))));have h2:(upd H1 c (.lst (aH (Jg m 0)))) c=some (.lst (aH (cnt m (r.take 0)))):=ar;generalize upd H1 c (.lst (aH (Jg m 0)))=H2 at s2 h2;left;refine xj T hC (s2 _ _ ha) wf ?_;left;refine hD.get s2 hx fun p hp=>?_;left;refine lU (H₀:=H) (hp.at (K:=K)) (fun i σ' H'=>aj H H'/\H' c=some (.lst (aH (cnt m (r.take i))))/\∃ x1 x2:Option V,σ'=[some (.ref a),some (.int (x:Int)),some (.ref c),x1,x2]) ⟨s2,h2,_,_,rfl⟩ (fun i σ' H' z=>z.1) ?_ ?_
 ·rintro i y w' σ' H3 H4 pt hy hw ⟨s3,h3,x1,x2,rfl⟩ hpt rfl s4;have s34:=s3.trans s4;have h4:=s4 _ _ h3;have hyi:=(II.mp hy).1;obtain ⟨y1,y2⟩:=y;have hy2:y2<m:=hr2 _ (IH hy);generalize upd H3 pt (.tup [.int (i:Int),w'])=H4 at s34 h4;obtain ⟨q1,v1,v2,rfl,hq,e1,e2⟩:=Rep.mono s34 hw;cases (show v1=V.int (y1:Int) from e1);cases (show v2=V.int (y2:Int) from e2);have et:=Ee (m:=m) hy;have lc:(cnt m (r.take i)).length=m:=uh;walk_at "3";refine ⟨q1,_,_,_,rfl,rfl,hq,iL (j:=0) rfl,?_⟩;left;refine bt (fun z=>?_) (fun z=>?_)
  ·left;refine ⟨q1,_,_,_,rfl,rfl,hq,iL (j:=1) rfl,?_⟩;refine br (bA h4) (c:=(cnt m (r.take i)).getD y2 0) (by rw [List.getD,IG (by omega)];rfl) ?_
   left;refine ⟨q1,_,_,_,rfl,rfl,hq,iL (j:=1) rfl,?_⟩;refine yQ h4 rfl (by unfold aH;rw [IE,lc];exact hy2) ?_
   refine ⟨fun b o zz=>by rw [av (az zz fc)];exact s34 _ _ zz,?_,_,_,rfl⟩
   rw [ar,ints_set,et];unfold gR;rw [if_pos z]
  ·left;refine ⟨s34,?_,_,_,rfl⟩;rw [h4,et];unfold gR;rw [if_neg z]
 ·rintro σ' H3 ⟨s3,h3,x1,x2,rfl⟩;rw [Kj] at h3;left;exact q c H3 fc s3 h3
end
section
variable {P:Jc} {w:World} {K:IC} {mg:Str->Option Value} {base:Heap}
structure WOk (n m z:Nat) (D:List (List (Nat×Nat))):Prop where
 len:D.length=n
 row:∀ r∈D,r.length=z
 lt:∀ r∈D,∀ y∈r,y.2<m
 m1:1<=m
 m60:m<=60
 z1:z<=1000
 z0:1<=z
def WOk.get {n m z i:Nat} {D:List (List (Nat×Nat))} (h:WOk n m z D) (hi:i<n):∃ r,D[i]?=some r/\r∈D/\D.getD i []=r:=by
 have hl:i<D.length:=by rw [h.len];exact hi
 exact ⟨D[i],IG hl,Ks hl,by rw [ID,IG hl];rfl⟩
def yc {H:Hp} {Q:VK} {σ:St} {g:TG} {tt:TT} {ta:TE} {own:List Str} {fr:List Nat} {b:Int} {n:Nat} (eb:b=(n:Int)) (D:List (List (Nat×Nat))) (Sh:St->Prop) (hl:n=D.length) (hz:D.length<=1000) (h0:Sh (bG own fr σ))
  (turn:∀ (i:Nat) (r:List (Nat×Nat)) σ' H' (R:St->V->Hp->Prop) (R0:St->Hp->Prop),i<n->D[i]?=some r->aj H H'->Sh σ'->(∀ σ2 q H5,Sh σ2->aj H' H5->H' q=none->bS H5 q r->R σ2 (.ref q) H5) ->
   g (.int (i:Int)) σ' H' fun σ2 H3=>tt σ2 H3 fun ok H4=>if ok=true then ta σ2 H4 (R σ2) else R0 σ2 H4)
  (fin:∀ d H',H d=none->aj H H'->cT H' d D->Q (.ref d) H'):uw [.int b] H (dg own fr g tt ta σ Q):=by
 refine sZ (n:=n) eb (by omega) (fun d i σ' H' ys=>aj H H'/\∃ (ps:List Addr),ys=ps.map V.ref/\ps.length=i/\(∀ p∈ps,p≠d)/\(∀ (j:Nat) (p:Addr) (r:List (Nat×Nat)),ps[j]?=some p->D[j]?=some r->bS H' p r)/\Sh σ')
  (fun d i σ' H' ys hi z=>by obtain ⟨_,qs,e,e2,_⟩:=z;rw [e,IE,e2];exact IV _) (fun d hd=>⟨aE hd _,[],rfl,rfl,(fun p hp=>by cases hp),(fun j q c z=>by simp at z),h0⟩) ?_ ?_
 ·rintro d i σ' H2 ys R R0 hd hi ⟨s2,ps,rfl,hq,hnd,hc,hsh⟩ hys hR hR0;have hil:i<D.length:=by omega
  refine turn i _ σ' H2 R R0 hi (IG hil) s2 hsh fun σ2 a H5 hs2 s5 fa ra=>?_;have na:a≠d:=fun e=>by rw [e,hys] at fa;cases fa
  have hys5:=s5 _ _ hys;refine hR _ _ _ hys5 ⟨fun b o zz=>by rw [av (az zz hd)];exact s5 _ _ (s2 _ _ zz),ps++[a],by rw [JO];rfl,by rw [IZ,hq];rfl,fun p hp=>?_,fun j p' r' hj hj'=>?_,hs2⟩
  ·rcases JG.mp hp with z|z
   ·exact hnd p z
   ·rw [I0.mp z];exact na
  ·rcases mD hj with ⟨_,z⟩|⟨z1,z2⟩
   ·exact ((hc j p' r' z hj').mono s5).keep hys5 (hnd p' (IH z))
   ·subst z2;rw [z1,hq,IG hil] at hj';cases hj';exact ra.keep hys5 na
 ·rintro d σ' H2 ys fd hd ⟨s2,ps,rfl,hq,hnd,hc,_⟩;exact fin d H2 fd s2 ⟨ps,hd,by omega,hc⟩
def Fy {n e m:Nat} {t:List (List Nat)} {R M:List Nat} (gt:GT n t e) (pt:IsPart n t R) (ml:M.length=R.length) (mm:∀ x∈M,x<m) (m1:0<m) (m60:m<=60):WOk n m (aG n t e R).length (fH n t e R M):=by
 have n23:=gt.le;have clen:=gw (n:=n) (t:=t) (e:=e) (R:=R);refine ⟨by unfold fH;rw [IE,Jb],fun r hr=>?_,fun r hr y hy=>?_,m1,m60,by omega,(let ⟨c,hc,_⟩:=lJ gt pt 0 gt.pos;KP hc)⟩
 ·unfold fH at hr;obtain ⟨b,_,rfl⟩:=IP.mp hr;rw [IE]
 ·unfold fH at hr;obtain ⟨b,hb,rfl⟩:=IP.mp hr;obtain ⟨c',hc',rfl⟩:=IP.mp hy;obtain ⟨_,k',_,z2,z3,_⟩:=mw gt pt (gt.lt b c' (IK.mp hb) (a9 hc'));have kl:R.idxOf (ov n t e R (tb t b c'))<M.length:=by rw [z3,ml];exact (II.mp z2).1
  exact mm _ (IH (getD_some (l:=M) 0 kl))
def Dh {l:List Nat} (h:∀ s∈l,1<=s):∃ k,bP l k:=by
 have key:∀ k,1<=k->(∀ s∈l,k % s=0)->∃ k,bP l k:=fun k=>by
  induction k using Nat.strongRecOn with
  | ind k ih =>
   intro h1 h2
   by_cases c:∃ j,1<=j/\j<k/\∀ s∈l,j % s=0
   ·obtain ⟨j,a,b,d⟩:=c;exact ih j b a d
   ·exact ⟨k,h1,h2,fun j a b=>Kh fun z=>c ⟨j,a,b,fun s hs=>Kh fun q=>z ⟨s,hs,q⟩⟩⟩
 exact key (bnd l) (tR h) fun s hs=>tZ hs
def mZ {n e:Nat} {t:List (List Nat)} (g:GT n t e):∃ k,bP (b8 n t e) k:=by
 refine Dh fun s hs=>?_;obtain ⟨x,hx,rfl⟩:=IP.mp hs;exact eQ
def CL {H:Hp} {p:Addr} {Q:VK} {σ:St} {r:List (Nat×Nat)} {x y:Str} {fr:List Nat} {ta:TE} (f:Nat×Nat->Nat×Nat) (rest:List (Option V)) (hp:bS H p r) (hz:r.length<=1000) (hs:bG [x,y] fr σ=none :: none :: rest)
  (turn:∀ (c:Nat×Nat) H' (R:V->Hp->Prop),c∈r->aj H H'->(∀ q H5,aj H' H5->H5 q=some (.tup [.int ((f c).1:Int),.int ((f c).2:Int)])->R (.ref q) H5)->ta (some (.int (c.1:Int)) :: some (.int (c.2:Int)) :: rest) H' R)
  (fin:∀ d H',H d=none->aj H H'->bS H' d (r.map f)->Q (.ref d) H') :
  gG K (.ref p) H (dg [x,y] fr (nN K 2 (eL (da 0) (eL (da 1) oj))) xG ta σ Q):=by
 obtain ⟨qs,h1,h2,h3⟩:=id hp;refine o5 (r.map f) (fun σ'=>∃ y1 y2,σ'=y1 :: y2 :: rest) (SqL.of h1) (by rw [IE,IE];exact h2) (by rw [IE];exact hz) ⟨none,none,hs⟩ ?_ fin
 rintro j o y0 σ' H8 R2 R02 ho hy s8 ⟨y1,y3,rfl⟩ hR2;rw [IJ] at ho hy;cases hc:r[j]? with
 | none=>rw [hc] at hy;cases hy
 | some c =>
  rw [hc] at hy;cases hy;cases hq:qs[j]? with
  | none=>rw [hq] at ho;cases ho
  | some q2 =>
   rw [hq] at ho;cases ho;have ht:=s8 _ _ (h3 j q2 c hq hc);refine ⟨q2,_,rfl,SqT.of ht,rfl,⟨_,_,rfl,⟨_,_,rfl,⟨rfl,?_⟩⟩⟩⟩;exact turn c H8 (R2 _) (IH hc) s8 fun q H5 s5 h5=>hR2 _ q H5 ⟨_,_,rfl⟩ s5 h5
def nK {H H₀:Hp} {σ:St} {t:TS} {E:Ends} {p:Addr} {r:List (Nat×Nat)} {ia ib:Nat} (h:bS H₀ p r) (Pv:Nat->St->Hp->Prop) (h0:Pv 0 σ H) (hl:∀ i σ' H',Pv i σ' H'->aj H₀ H')
  (hs:∀ (i:Nat) (c:Nat×Nat) σ' H',r[i]?=some c->Pv i σ' H'->t { E with nx:=Pv (i+1),ct:=Pv (i+1),bk:=E.nx } ((σ'.set ia (some (.int (c.1:Int)))).set ib (some (.int (c.2:Int)))) H') (hd:∀ σ' H',Pv r.length σ' H'->E.nx σ' H') :
  gG K (.ref p) H (kQ (nN K 2 (eL (da ia) (eL (da ib) oj))) t E σ):=by
 obtain ⟨qs,h1,h2,h3⟩:=h;have hS:SqL K H₀ p (qs.map V.ref):=SqL.of h1;refine ⟨p,rfl,⟨_,(hl 0 σ H h0).seq hS⟩,qD (K:=K) (a:=p) (xs:=qs.map V.ref) Pv h0 (fun i σ' H' _ q=>(hl i σ' H' q).seq hS) (fun i x σ' H' hx q=>?_) (fun σ' H' q=>?_)⟩
 ·rw [IJ] at hx;cases hq:qs[i]? with
  | none=>rw [hq] at hx;cases hx
  | some q1 =>
   rw [hq] at hx;cases hx;have hi:i<r.length:=by rw [<- h2];exact (II.mp hq).1
   have ht:=hl i σ' H' q _ _ (h3 i q1 _ hq (IG hi));exact ⟨q1,_,rfl,SqT.of ht,rfl,⟨_,_,rfl,⟨_,_,rfl,⟨rfl,hs i _ σ' H' (IG hi) q⟩⟩⟩⟩
 ·rw [IE,h2] at q;exact hd σ' H' q
def bS.snoc {H:Hp} {p q:Addr} {qs:List Addr} {r:List (Nat×Nat)} {y:Nat×Nat} (h1:H p=some (.lst (qs.map V.ref))) (h2:qs.length=r.length) (h3:∀ (i:Nat) (q:Addr) (x:Nat×Nat),qs[i]?=some q->r[i]?=some x->H q=some (.tup [.int (x.1:Int),.int (x.2:Int)])) (hq:H q=some (.tup [.int (y.1:Int),.int (y.2:Int)])):bS (upd H p (.lst (qs.map V.ref++[.ref q]))) p (r++[y]):=by
 refine ⟨qs++[q],by rw [ar,JO];rfl,by rw [IZ,IZ,h2];rfl,fun i q' x hi hx=>?_⟩
 have no:∀ {b:Addr} {ys:List V},H b=some (.tup ys)->b≠p:=fun z e=>by rw [e,h1] at z;cases z
 rcases mD hi with ⟨il,z⟩|⟨z1,z2⟩
 ·rw [Jk (by omega)] at hx
  have zz:=h3 i q' x z hx;rw [av (no zz)];exact zz
 ·subst z2;rw [z1,h2,Jl (IV _),Od] at hx;cases hx;rw [av (no hq)];exact hq
inductive uc (W:Addr->Prop) (CG:Addr) (vs:List V) (H:Hp) (Q:VK) (E:XK):Prop
 | mk (a b g g':Addr) (n e m z z':Nat) (t:List (List Nat)) (D E:List (List (Nat×Nat))) (_:vs=[.ref a,.ref b]) (_:dI W H a g m z D) (_:dI W H b g' m z' E) (_:aY CG H g n t e) (_:aY CG H g' n t e) (_:Q .non H)
def uo (T:Txt K mg):aN P w K mg base CX0 1 T.fX.f T.fX.fd ["one","other"] (uc (bO T) T.aM):=by
 exists T.fX.ok tI
 ·obtain ⟨a,b,g,g',n,e,m,z,z',t,D,E,rfl,_⟩:=h;rfl
 obtain ⟨a,b,g,g',n,e,m,z,z',t,D,E',rfl,⟨C,cx,d,fs,hC,ha,wf,_⟩,⟨C',cx',d',fs',hC',hb,wf',_⟩,hG,hG',q⟩:=h;obtain ⟨gx,gr,gb,hg,aR,aB⟩:=aY.get (K:=K) hG;obtain ⟨gx',gr',gb',hg',aR',aB'⟩:=aY.get (K:=K) hG';refine ⟨_,(ae (bj (aD (oQ K rfl (List Nat) hr.units) (aI K rfl (aI K rfl (pv 0) rfl) rfl) (aI K rfl (aI K rfl (pv 1) rfl) rfl) (aJ _)) (af b9) aV)
   (af (bj (aD eK (aI K rfl (pv 0) rfl) (aI K rfl (pv 1) rfl) (aJ _)) (af b9) aV))),?_⟩
 walk_at "1";refine ff T hC ha wf ?_;walk_at "rn";refine bU T hg ?_;walk_at "rn";refine ff T hC' hb wf' ?_;walk_at "rn";refine bU T hg' ?_;walk_at "rn";refine wq aR aR' ?_;walk_at "rn";refine ck (fun c=>absurd rfl c) (fun _=>?_);walk_at "1";refine dB T hC ha wf ?_;walk_at "rn";refine dB T hC' hb wf' ?_;walk_at "rn";refine ck (fun c=>absurd rfl c) (fun _=>?_);walk_at "rn";exact q
inductive sQ  (vs:List V) (H:Hp) (Q:VK) (E:XK):Prop
 | mk (k:Nat) (_:vs=[.int (k:Int)]) (_:k<=60) (_:Q .non H)
def lB (T:Txt K mg):aN P w K mg base CX0 1 T.el.f T.el.fd ["many"] sQ:=by
 exists T.el.ok rR
 ·obtain ⟨k,rfl,_⟩:=h;rfl
 obtain ⟨k,rfl,hk,q⟩:=h;refine ⟨_,(af (bj (aD jO (pv 0) (ug (v:=.int 60) rfl T.vG ⟨_,rfl⟩) (aJ _)) (af b9) aV)),?_⟩;walk_at "1";refine bt (fun c=>absurd c (by omega)) (fun _=>?_)
 walk_at "rn";exact q
inductive Cq  (vs:List V) (H:Hp) (Q:VK) (E:XK):Prop
 | mk (p:Addr) (k:Nat) (r:List (Nat×Nat)) (_:vs=[.ref p,.int (k:Int)]) (_:bS H p r) (_:r.length<=1000) (_:∀ d H',H d=none->aj H H'->bS H' d (r.map fun y=>(k+y.1,y.2))->Q (.ref d) H')
def BX (T:Txt K mg):aN P w K mg base CX0 1 T.mL.f T.mL.fd ["moves","many"] Cq:=by
 exists T.mL.ok B6
 ·obtain ⟨p,k,r,rfl,_⟩:=h;rfl
 obtain ⟨p,k,r,rfl,hp,hz,q⟩:=h;refine ⟨_,(af (aL (bE rfl pR (aT K rfl (pv 0)) (fun _ _ _ _=>⟨(rp K rfl (i:=0) (j:=1) rfl pR.nd rfl (IQ rfl) rfl (IQ rfl)),bb,(kh (paF (ak aU (pv 2) (pv 0)) (paF (pv 1) aa)))⟩)))),?_⟩;walk_at "rn";refine CL (fun y=>(k+y.1,y.2)) [some (.int (k:Int))] hp hz rfl (fun c H1 R hc hs hR=>?_) q;refine jK ?_;walk_at "rn";refine ⟨small (by show 2<=1000;decide),fun a ha=>?_⟩
 exact hR a _ (aE ha _) ar
structure Two (W:Addr->Prop) (CG:Addr) (H:Hp) (a b g g':Addr) (n e m z z':Nat) (t:List (List Nat)) (D E:List (List (Nat×Nat))):Prop where
 wa:dI W H a g m z D
 wb:dI W H b g' m z' E
 gp:aY CG H g n t e
 gq:aY CG H g' n t e
 gt:GT n t e
 oa:WOk n m z D
 ob:WOk n m z' E
def Two.mono {W:Addr->Prop} {CG:Addr} {H H':Hp} {a b g g':Addr} {n e m z z':Nat} {t:List (List Nat)} {D E:List (List (Nat×Nat))} (s:aj H H') (h:Two W CG H a b g g' n e m z z' t D E):Two W CG H' a b g g' n e m z z' t D E:=⟨h.wa.mono s,h.wb.mono s,h.gp.mono s,h.gq.mono s,h.gt,h.oa,h.ob⟩
def cg (m:Nat) (r s:List (Nat×Nat)):List (Nat×Nat):=r.flatMap fun x=>s.map fun y=>(x.1 * s.length+y.1,(x.2+y.2) % m)
def ju (n m:Nat) (D E:List (List (Nat×Nat))):List (List (Nat×Nat)):=(IF n).map fun i=>cg m (D.getD i []) (E.getD i [])
def mr {m:Nat} {s:List (Nat×Nat)}:∀ {r:List (Nat×Nat)},(cg m r s).length=r.length * s.length
 | []=>by unfold cg;simp
 | x :: r=>by
  have:=mr (m:=m) (s:=s) (r:=r);unfold cg at this ⊢;rw [J1,IZ,IE,this,Jp,Ky];omega
def WOk.cro {n m z z':Nat} {D E:List (List (Nat×Nat))} (h:WOk n m z D) (h':WOk n m z' E) (hz:z * z'<=1000):WOk n m (z * z') (ju n m D E):=by
 refine ⟨by unfold ju;rw [IE,Jb],fun r hr=>?_,fun r hr y hy=>?_,h.m1,h.m60,hz,J8 h.z0 h'.z0⟩
 ·obtain ⟨i,hi,rfl⟩:=IP.mp hr;obtain ⟨r1,_,h2,h3⟩:=h.get (IK.mp hi);obtain ⟨r2,_,h5,h6⟩:=h'.get (IK.mp hi);rw [h3,h6,mr,h.row r1 h2,h'.row r2 h5]
 ·obtain ⟨i,hi,rfl⟩:=IP.mp hr;unfold cg at hy;obtain ⟨x,_,hx⟩:=KD.mp hy;obtain ⟨y0,_,rfl⟩:=IP.mp hx;exact Jj _ h.m1
def mJ {n m i:Nat} {D E:List (List (Nat×Nat))} (hi:i<n):(ju n m D E)[i]?=some (cg m (D.getD i []) (E.getD i [])):=by
 unfold ju;rw [IJ,Jv hi];rfl
def Fb {m i:Nat} {r s:List (Nat×Nat)} {x:Nat×Nat} (h:r[i]?=some x):cg m (r.take (i+1)) s=cg m (r.take i) s++s.map fun y=>(x.1 * s.length+y.1,(x.2+y.2) % m):=by
 unfold cg;rw [Js,h,NT];simp
inductive Bz (K:IC) (vs:List V) (H:Hp) (Q:VK) (E:XK):Prop
 | mk (p p':Addr) (m:Nat) (r s:List (Nat×Nat)) (_:vs=[.ref p,.ref p',.int (m:Int)]) (_:bS H p r) (_:bS H p' s) (_:r.length * s.length<=1000) (_:s.length<=1000) (_:1<=m) (_:∀ d H',H d=none->aj H H'->bS H' d (cg m r s)->Q (.ref d) H')
def Cm (T:Txt K mg):aN P w K mg base CX0 1 T.mX.f T.mX.fd ["moves","others","spokes"] (Bz K):=by
 exists T.mX.ok gD
 ·obtain ⟨p,p',m,r,s,rfl,_⟩:=h;rfl
 obtain ⟨p,p',m,r,s',rfl,hp,hp',hz,hz',m1,q⟩:=h;refine ⟨_,(ae (ao (i:=3) gD.nd rfl (IQ rfl) (cq aa))
   (ae (bo IW rfl (aT K rfl (pv 0)) (fh rfl (bD (au (i:=4) gD.nd rfl (IQ rfl)) (bD (au (i:=5) gD.nd rfl (IQ rfl)) eB))) (af (bo IW rfl (aT K rfl (pv 1)) (fh rfl (bD (au (i:=6) gD.nd rfl (IQ rfl)) (bD (au (i:=7) gD.nd rfl (IQ rfl)) eB))) (af (bq (c9 K rfl Jo Jz JA cc (pv 3) (paF (kh (paF (ak aU (ak bg (pv 4) (aA (aQ K rfl) rfl T.bC Jf (paF (pv 1) aa))) (pv 6)) (paF (ak aS (ak aU (pv 5) (pv 7)) (pv 2)) aa))) aa)))))))
   (af (aL (pv 3))))),?_⟩
 walk_at "5";refine ⟨small (by show 0<=1000;decide),fun pf hpf=>?_⟩
 have s0:=aE hpf (.lst []);have f0:bS (upd H pf (.lst [])) pf []:=⟨[],ar,rfl,fun i q x z=>by simp at z⟩
 generalize upd H pf (.lst [])=H0 at s0 f0;walk_at "rn";refine nK (H₀:=H) hp (fun i σ' H'=>aj H H'/\bS H' pf (cg m (r.take i) s')/\∃ x4 x5 x6 x7:Option V,σ'=[some (.ref p),some (.ref p'),some (.int (m:Int)),some (.ref pf),x4,x5,x6,x7]) ⟨s0,f0,_,_,_,_,rfl⟩ (fun i σ' H' z=>z.1) ?_ ?_
 ·rintro i x σ' H1 hx ⟨s1,f1,x4,x5,x6,x7,rfl⟩;have il:=(II.mp hx).1;have cl:(cg m (r.take i) s').length+s'.length<=1000:=by
   rw [mr,Je,L7 (by omega)]
   have:(i+1) * s'.length<=r.length * s'.length:=KG _ il;rw [Ky] at this;omega
  walk_at "rn";refine nK (H₀:=H) hp' (fun j σ' H'=>aj H H'/\bS H' pf (cg m (r.take i) s'++(s'.take j).map fun y=>(x.1 * s'.length+y.1,(x.2+y.2) % m))/\∃ x6 x7:Option V,σ'=[some (.ref p),some (.ref p'),some (.int (m:Int)),some (.ref pf),some (.int (x.1:Int)),some (.int (x.2:Int)),x6,x7]) ⟨s1,by simpa using f1,_,_,rfl⟩ (fun i σ' H' z=>z.1) ?_ ?_
  ·rintro j y σ' H2 hy ⟨s2,f2,x6,x7,rfl⟩;have jl:=(II.mp hy).1;obtain ⟨qs,g1,g2,g3⟩:=id f2;have ql:qs.length<=1000:=by
    rw [g2,IZ,IE,Je];omega
   walk_at "rn";refine ⟨.inl ⟨rfl,_,SqL.of g1⟩,?_⟩;walk_at "4";refine cA (hp'.mono s2).at ?_;walk_at "rn";refine ⟨small (by show 2<=1000;decide),fun a ha=>?_⟩
   have s3:=aE ha (.tup [.int ((x.1 * s'.length+y.1:Nat):Int),.int (((x.2+y.2) % m:Nat):Int)]);have ha3:(upd H2 a (.tup [.int ((x.1 * s'.length+y.1:Nat):Int),.int (((x.2+y.2) % m:Nat):Int)])) a=some (.tup [.int ((x.1 * s'.length+y.1:Nat):Int),.int (((x.2+y.2) % m:Nat):Int)]):=ar;generalize upd H2 a (.tup [.int ((x.1 * s'.length+y.1:Nat):Int),.int (((x.2+y.2) % m:Nat):Int)])=H3 at s3 ha3;refine ⟨pf,_,_,rfl,rfl,s3 _ _ g1,JT (show (qs.map V.ref).length<=1000 by rw [IE];exact ql) (by rw [Kc];decide),?_⟩
   refine ⟨mV hpf (s2.trans s3),?_,_,_,rfl⟩;have:=bS.snoc (y:=(x.1 * s'.length+y.1,(x.2+y.2) % m)) (s3 _ _ g1) g2 (fun i q x a b=>s3 _ _ (g3 i q x a b)) ha3;rw [Js,hy,JO,<- MC];exact this
  ·rintro σ' H2 ⟨s2,f2,x6,x7,rfl⟩;rw [Kj] at f2;walk_at "rn";exact ⟨s2,by rw [Fb hx];exact f2,_,_,_,_,rfl⟩
 ·rintro σ' H1 ⟨s1,f1,x4,x5,x6,x7,rfl⟩;rw [Kj] at f1;walk_at "rn";exact q pf H1 hpf s1 f1
inductive A0 (W:Addr->Prop) (C CG:Addr) (vs:List V) (H:Hp) (Q:VK) (E:XK):Prop
 | mk (p dx a b g g':Addr) (n e m z z':Nat) (t:List (List Nat)) (D E:List (List (Nat×Nat))) (_:vs=[.ref p,.ref a,.ref b]) (_:H p=some (.ins C dx [])) (_:Two W CG H a b g g' n e m z z' t D E) (_:z * z'<=60) (_:∀ d H' fs,H' p=some (.ins C dx fs)->WF fs (.ref g) m (z * z':Nat) (.ref d)->cT H' d (ju n m D E)->(∀ a o,H a=some o->a≠p->H' a=some o)->Q .non H')
def sN (T:Txt K mg):aN P w K mg base CX0 2 T.oq T.nt ["self","one","other"] (A0 (bO T) T.bZ T.aM):=by
 exists T.CJ.ok kW
 ·obtain ⟨p,dx,a,b,g,g',n,e,m,z,z',t,D,E,rfl,_⟩:=h;rfl
 obtain ⟨p,dx,a,b,g,g',n,e,m,z,z',t,D,E',rfl,hp,tw,h60,k⟩:=h;obtain ⟨C,cx,d0,fs,hC,ha,wf,hD⟩:=id tw.wa;obtain ⟨C',cx',d0',fs',hC',hb,wf',hD'⟩:=id tw.wb;obtain ⟨gx,gr,gb,hg,aR,aB⟩:=aY.get (K:=K) tw.gp;have gt:=tw.gt;have n1:=gt.pos;have n23:=gt.le;have wo:=tw.oa.cro tw.ob (by omega)
 have zz1:=tw.oa.z1;refine ⟨_,(ae (bq (ay T.fX (uo T) (hr.mono (by decide)) rfl (paF (pv 1) (paF (pv 2) aa))))
   (ae (bq (ay T.el (lB T) (hr.mono (by decide)) rfl (paF (ak bg (aI K rfl (pv 1) rfl) (aI K rfl (pv 2) rfl)) aa)))
   (ae (cv (i:=3) rfl kW.nd rfl (IQ rfl) jC (aO rfl T.bc (paF (aI K rfl (aI K rfl (pv 1) rfl) rfl) aa)) (fun _ _ _ _=>⟨(au (i:=0) jC.nd rfl (IQ rfl)),bb,(ay T.mX (Cm T) (hr.mono (by decide)) rfl (paF (eD (pv 1) (jg T) (fC T) (hr.mono (by decide)) T.fS (paF (pv 0) aa)) (paF (eD (pv 2) (jg T) (fC T) (hr.mono (by decide)) T.fS (paF (pv 0) aa)) (paF (aI K rfl (pv 1) rfl) aa))))⟩) rfl)
   (af (bq (kN rfl T.sP T.rJ (nA T) (hr.mono (by decide)) T.qY (paF (pv 0) (paF (aI K rfl (pv 1) rfl) (paF (aI K rfl (pv 1) rfl) (paF (pv 3) aa)))))))))),?_⟩
 walk_at "rn";refine ⟨a,b,g,g',n,e,m,z,z',t,D,E',rfl,tw.wa,tw.wb,tw.gp,tw.gq,?_⟩;walk_at "rn";refine eP T hC ha wf ?_;walk_at "rn";refine eP T hC' hb wf' ?_;walk_at "rn";refine ⟨z * z',rfl,h60,?_⟩;walk_at "rn";refine ff T hC ha wf ?_;walk_at "rn";refine bK T hg ?_;walk_at "rn";refine yc (n:=n) rfl (ju n m D E') (fun σ'=>∃ y,σ'=[y,some (.ref a),some (.ref b)]) (by rw [wo.len]) (by rw [wo.len];omega) ⟨_,rfl⟩ ?_ ?_
 ·rintro i r σ' H1 R' R0 hi hr1 s1 ⟨y,rfl⟩ hR';obtain ⟨r1,hr,hm1,e1⟩:=tw.oa.get hi;obtain ⟨r2,hr2,hm2,e2⟩:=tw.ob.get hi;rw [mJ hi,e1,e2] at hr1;cases hr1;have l1:=tw.oa.row r1 hm1;have l2:=tw.ob.row r2 hm2;walk_at "2";refine ⟨C,a,cx,fs,hC,rfl,s1 _ _ ha,wf.moves,?_⟩;walk_at "rn";refine ⟨a,g,i,m,z,D,r1,rfl,tw.wa.mono s1,hr,fun pm H2 fpm s2 row1=>?_⟩;have s12:=s1.trans s2;walk_at "2";refine ⟨C',b,cx',fs',hC',rfl,s12 _ _ hb,wf'.moves,?_⟩;walk_at "rn";refine ⟨b,g',i,m,z',E',r2,rfl,tw.wb.mono s12,hr2,fun pn H3 fpn s3 row2=>?_⟩;have s13:=s12.trans s3;walk_at "rn";refine dB T hC (s13 _ _ ha) wf ?_;walk_at "rn";refine ⟨pm,pn,m,r1,r2,rfl,row1.mono s3,row2,by rw [l1,l2];omega,by rw [l2];exact tw.ob.z1,tw.oa.m1,fun d H4 fd s4 row=>?_⟩
  exact hR' _ d _ ⟨_,rfl⟩ ((s2.trans s3).trans s4) ((s2.trans s3).free fd) row
 ·intro d H1 fd s1 hD1;walk_at "rn";refine ff T hC (s1 _ _ ha) wf ?_;walk_at "rn";refine dB T hC (s1 _ _ ha) wf ?_;walk_at "rn";obtain ⟨r0,hr0,hm0,_⟩:=wo.get n1;refine ⟨p,T.bZ,dx,d,.ref g,(m:Int),[],_,_,rfl,mR T,s1 _ _ hp,.inl rfl,hD1,hr0,fun H2 fs2 h2 wf2 k2=>?_⟩;rw [wo.row r0 hm0] at wf2;walk_at "rn";exact k d H2 fs2 h2 wf2 (hD1.but (s1 _ _ hp) k2) fun b o hb hne=>k2 b o (s1 _ _ hb) hne
def Bd {H H1 H2:Hp} (s:aj H H1):aj (since H1 H2) (since H H2):=fun b o h=>by
 have hb:H1 b=none:=by
  unfold since at h;cases z:H1 b with
  | none=>rfl
  | some v=>rw [z] at h;cases h
 rw [e8 hb] at h;rw [e8 (s.free hb)];exact h
def Fw {H:Hp} {p:Addr} {xs:List V} {Q:VK} {σ:St} {g:TG} {tt:TT} {ta:TE} {own:List Str} {fr:List Nat} (L:List (List Nat)) (Sh:St->Prop) (hS:SqL K H p xs) (hl:xs.length=L.length) (hz:L.length<=1000) (h0:Sh (bG own fr σ))
  (turn:∀ (i:Nat) (x:V) (r:List Nat) σ' H' (R:St->V->Hp->Prop) (R0:St->Hp->Prop),xs[i]?=some x->L[i]?=some r->aj H H'->Sh σ'->(∀ σ2 q H5,Sh σ2->aj H' H5->H' q=none->H5 q=some (.lst (aH r))->R σ2 (.ref q) H5) ->
   g x σ' H' fun σ2 H3=>tt σ2 H3 fun ok H4=>if ok=true then ta σ2 H4 (R σ2) else R0 σ2 H4)
  (fin:∀ d H' ps,H d=none->aj H H'->Tbl H' d L ps->Q (.ref d) H'):gG K (.ref p) H (dg own fr g tt ta σ Q):=by
 refine n8 (p:=p) (xs:=xs) (by omega) (fun d i σ' H' ys=>aj H H'/\∃ (ps:List Addr),ys=ps.map V.ref/\i<=L.length/\Tbl H' d (L.take i) ps/\Sh σ')
  (fun d i σ' H' ys z=>z.1.seq hS) hS (fun d i σ' H' ys hi z=>by obtain ⟨_,ps,e,_,e2,_⟩:=z;rw [e,IE,e2.len,Je];omega) (fun d hd=>⟨aE hd _,[],rfl,J6 _,Tbl.nil,h0⟩) ?_ ?_
 ·rintro d i o σ' H2 ys R R0 hd hi ⟨s2,ps,rfl,hil',tb2,hsh⟩ hys hR hR0;have hil:i<L.length:=by rw [<- hl];exact (II.mp hi).1
  refine turn i o _ σ' H2 R R0 hi (IG hil) s2 hsh fun σ2 a H5 hs2 s5 fa ha=>?_;have na:a≠d:=fun e=>by rw [e,hys] at fa;cases fa
  have np:a∉ps:=fun z=>by
   obtain ⟨k,hk⟩:=J3 z;have hk':k<(L.take i).length:=by rw [<- tb2.len];exact (II.mp hk).1
   have:=tb2.row k a _ hk (IG hk');rw [fa] at this;cases this
  refine hR _ _ _ (s5 _ _ hys) ⟨fun b o zz=>by rw [av (az zz hd)];exact s5 _ _ (s2 _ _ zz),ps++[a],by rw [JO];rfl,hil,?_,hs2⟩
  rw [Js,IG hil];exact tb2.snoc s5 ha np na
 ·rintro d σ' H2 ys fd hd ⟨s2,ps,rfl,_,tb2,_⟩;rw [hl,Kj] at tb2;exact fin d H2 ps fd s2 tb2
inductive CZ (C:Addr) (K:IC) (vs:List V) (H:Hp) (Q:VK) (E:XK):Prop
 | mk (g p1:Addr) (n e:Nat) (t:List (List Nat)) (R:List Nat) (_:vs=[.ref g,.ref p1]) (_:aY C H g n t e) (_:GT n t e) (_:H p1=some (.lst (aH R))) (_:IsPart n t R) (_:∀ g' H',H g'=none->aj H H'->aY C (since H H') g' R.length (ba t R) (R.idxOf e)->Q (.ref g') H')
def m6 (T:Txt K mg):aN P w K mg base CX0 4 T.ip.f T.ip.fd ["group","part"] (CZ T.aM K):=by
 exists T.ip.ok DG
 ·obtain ⟨g,p1,n,e,t,R,rfl,_⟩:=h;rfl
 obtain ⟨g,p1,n,e,t,R,rfl,hG,gt,h1,pt,q⟩:=h;have n23:=gt.le;have rl:=pt.len;refine ⟨_,(ae (bq (ay T.eo (jv T) (hr.mono (by decide)) rfl (paF (pv 0) (paF (pv 1) aa))))
   (af (aL (ay T.hX (pM T) (hr.mono (by decide)) rfl (paF (xr rfl so (aT K rfl (pv 1)) (fun _ _ _ _=>⟨(au (i:=0) so.nd rfl (Lb rfl)),bb,(bE rfl sS (aT K rfl (pv 2)) (fun _ _ _ _=>⟨(au (i:=0) sS.nd rfl (IQ rfl)),bb,(c9 K rfl Jo LJ MZ xQ (pv 3) (paF (aq (ai K rfl) (aq (ai K rfl) (aI K rfl (pv 1) rfl) (pv 2) (fun _ _=>rfl)) (pv 0) (fun _ _=>rfl)) aa))⟩))⟩)) aa))))),?_⟩
 walk_at "rn";refine ⟨g,_,n,e,t,R,rfl,hG,gt,bA h1,pt,fun H1 s1=>?_⟩;obtain ⟨gx,gr,gb,hg,aR,aB⟩:=aY.get (K:=K) (hG.mono s1);have h11:=s1 _ _ h1;walk_at "rn";refine Fw (ba t R) (fun σ'=>∃ y,σ'=[y,some (.ref g),some (.ref p1)]) (SqL.of h11) (by unfold ba aH;rw [IE,IE]) (by unfold ba;rw [IE];omega) ⟨_,rfl⟩ ?_ ?_
 ·rintro i o r σ' H2 R' R0 ho hr2 hs ⟨y,rfl⟩ hR;unfold aH at ho;unfold ba at hr2;rw [IJ] at ho hr2;cases ha:R[i]? with
  | none=>rw [ha] at ho;cases ho
  | some a =>
   rw [ha] at ho hr2;cases ho;cases hr2;have haR:=IH ha;have han:=pt.lt a haR;have h12:=hs _ _ h11;walk_at "rn";refine fv (α:=Nat) (β:=Nat) (bA h12) (by omega) (fun j=>(R.map fun b=>R.idxOf (tb t a b)).take j) (fun σ'=>∃ y,σ'=[y,some (.ref g),some (.int (a:Int)),some (.ref p1)]) rfl (fun i _=>by rw [Je];omega) ⟨_,rfl⟩ ?_ ?_
   ·rintro j b w2 σ' H3 d3 R3 R03 hb hs3 hw2 ⟨y,rfl⟩ hR3 hR03 hd3;cases (show w2=V.int (b:Int) from hw2);have hbR:=IH hb;have hbn:=pt.lt b hbR;have h13:=hs3 _ _ h12;have s13:=hs.trans hs3;have hg3:=s13 _ _ hg;have aR3:=Rep.mono s13 aR;have hab:=pt.cl a haR b hbR;walk_at "rn";refine ⟨.inl ⟨rfl,_,SqL.of h13⟩,?_⟩;symm;refine c7 aR3 rfl (gt.get han) fun w1 hw1=>?_;walk_at "rn";refine br hw1 (gt.dF han hbn) ?_;walk_at "rn";refine zA h13 (tN hab) (fun i' hi'=>nL hi') ?_;exact hR3 _ _ _ _ ⟨_,rfl⟩ (aj.refl _) rfl (by rw [Js,IJ,hb];rfl)
   ·intro d3 H3 fd3 s3 h3;have g3:Gr K H3 d3 ((R.map fun b=>R.idxOf (tb t a b)).take R.length):=h3;rw [Jh (by simp)] at g3
    exact hR _ _ _ ⟨_,rfl⟩ s3 fd3 (dU g3)
 ·intro d2 H2 ps2 fd2 s2 tb2;walk_at "rn";refine ⟨_,_,_,ba t R,rfl,tb2.at,fq gt pt,fun g' H3 fg s3 hg3=>?_⟩;have s02:=s1.trans s2;exact q g' H3 (s02.free fg) (s02.trans s3) (hg3.mono (Bd s02))
def WOk.back {n m z:Nat} {D:List (List (Nat×Nat))} (h:WOk n m z D):WOk n m z (f9 m D):=by
 refine ⟨by unfold f9;rw [IE];exact h.len,fun r hr=>?_,fun r hr y hy=>?_,h.m1,h.m60,h.z1,h.z0⟩
 ·obtain ⟨r0,h0,rfl⟩:=IP.mp hr;rw [IE];exact h.row r0 h0
 ·obtain ⟨r0,h0,rfl⟩:=IP.mp hr;obtain ⟨y0,_,rfl⟩:=IP.mp hy;exact Jj _ h.m1
def WOk.part {n m z:Nat} {t:List (List Nat)} {R:List Nat} {D:List (List (Nat×Nat))} (h:WOk n m z D) (pt:IsPart n t R):WOk R.length m z (cF D R):=by
 refine ⟨by unfold cF;rw [IE],fun r hr=>?_,fun r hr=>?_,h.m1,h.m60,h.z1,h.z0⟩
 ·obtain ⟨a,ha,rfl⟩:=IP.mp hr;obtain ⟨r,_,h2,h3⟩:=h.get (pt.lt a ha);rw [h3];exact h.row r h2
 ·obtain ⟨a,ha,rfl⟩:=IP.mp hr;obtain ⟨r,_,h2,h3⟩:=h.get (pt.lt a ha);rw [h3];exact h.lt r h2
def Bf {H:Hp} {p:Addr} {Q:VK} {σ:St} {r:List (Nat×Nat)} {m:Nat} {x y:Str} {f:Nat} (hp:bS H p r) (hz:r.length<=1000) (m1:1<=m) (lt:∀ y∈r,y.2<m) (hs:bG [x,y] [f] σ=[none,none,some (.int (m:Int))])
  (fin:∀ d H',H d=none->aj H H'->bS H' d (r.map fun y=>(y.1,(m - y.2) % m))->Q (.ref d) H') :
  gG K (.ref p) H (dg [x,y] [f] (nN K 2 (eL (da 0) (eL (da 1) oj))) xG (D9 (jE (oo 0) (jE (tOp (rI (fun _ j=>0<j) fun i j=>.int (i % j)) (tOp (rI0 fun i j=>.int (i - j)) (oo 2) (oo 1)) (oo 2)) qr))) σ Q):=by
 obtain ⟨qs,h1,h2,h3⟩:=id hp;refine o5 (r.map fun y=>(y.1,(m - y.2) % m)) (fun σ'=>∃ y1 y2,σ'=[y1,y2,some (.int (m:Int))]) (SqL.of h1) (by rw [IE,IE];exact h2) (by rw [IE];exact hz) ⟨none,none,hs⟩ ?_ fin
 rintro j o y0 σ' H8 R2 R02 ho hy s8 ⟨y1,y3,rfl⟩ hR2;rw [IJ] at ho hy;cases hc:r[j]? with
 | none=>rw [hc] at hy;cases hy
 | some c =>
  rw [hc] at hy;cases hy;cases hq:qs[j]? with
  | none=>rw [hq] at ho;cases ho
  | some q2 =>
   rw [hq] at ho;cases ho;have ht:=s8 _ _ (h3 j q2 c hq hc);have hlt:=lt c (IH hc);refine ⟨q2,_,rfl,SqT.of ht,rfl,⟨_,_,rfl,⟨_,_,rfl,⟨rfl,?_⟩⟩⟩⟩;walk_at "4";rw [show ((m:Nat):Int) - ((c.2:Nat):Int)=((m - c.2:Nat):Int) by omega]
   walk_at "rn";refine ⟨small (by show 2<=1000;decide),fun a ha=>?_⟩
   exact hR2 _ a _ ⟨_,_,rfl⟩ (aE ha _) ar
inductive rW  (vs:List V) (H:Hp) (Q:VK) (E:XK):Prop
 | mk (p:Addr) (m:Nat) (r:List (Nat×Nat)) (_:vs=[.ref p,.int (m:Int)]) (_:bS H p r) (_:r.length<=1000) (_:1<=m) (_:(∀ y∈r,y.2<m)) (_:∀ d H',H d=none->aj H H'->bS H' d (r.map fun y=>(y.1,(m - y.2) % m))->Q (.ref d) H')
def rE (T:Txt K mg):aN P w K mg base CX0 1 T.fM.f T.fM.fd ["moves","spokes"] rW:=by
 exists T.fM.ok qL
 ·obtain ⟨p,m,r,rfl,_⟩:=h;rfl
 obtain ⟨p,m,r,rfl,hp,hz,m1,lt,q⟩:=h;refine ⟨_,(af (aL (bE rfl jB (aT K rfl (pv 0)) (fun _ _ _ _=>⟨(rp K rfl (i:=0) (j:=1) rfl jB.nd rfl (IQ rfl) rfl (IQ rfl)),bb,(kh (paF (pv 0) (paF (ak aS (ak nX (pv 2) (pv 1)) (pv 2)) aa)))⟩)))),?_⟩;walk_at "rn";exact Bf hp hz m1 lt rfl q
inductive Bu (W:Addr->Prop) (C CG:Addr) (vs:List V) (H:Hp) (Q:VK) (E:XK):Prop
 | mk (p dx a g:Addr) (n e m z:Nat) (t:List (List Nat)) (D:List (List (Nat×Nat))) (_:vs=[.ref p,.ref a]) (_:H p=some (.ins C dx [])) (_:dI W H a g m z D) (_:aY CG H g n t e) (_:GT n t e) (_:WOk n m z D) (_:∀ d H' fs,H' p=some (.ins C dx fs)->WF fs (.ref g) m z (.ref d)->cT H' d (f9 m D)->(∀ a o,H a=some o->a≠p->H' a=some o)->Q .non H')
def uR (T:Txt K mg):aN P w K mg base CX0 2 T.qE T.qd ["self","way"] (Bu (bO T) T.bX T.aM):=by
 exists T.Ej.ok lV
 ·obtain ⟨p,dx,a,g,n,e,m,z,t,D,rfl,_⟩:=h;rfl
 obtain ⟨p,dx,a,g,n,e,m,z,t,D,rfl,hp,hW,hG,gt,wo,k⟩:=h;obtain ⟨C,cx,d0,fs,hC,ha,wf,hD⟩:=id hW;obtain ⟨gx,gr,gb,hg,aR,aB⟩:=aY.get (K:=K) hG;have n1:=gt.pos;have n23:=gt.le;refine ⟨_,(ae (cv (i:=2) rfl lV.nd rfl (IQ rfl) kb (aO rfl T.bc (paF (aI K rfl (aI K rfl (pv 1) rfl) rfl) aa)) (fun _ _ _ _=>⟨(au (i:=0) kb.nd rfl (IQ rfl)),bb,(ay T.fM (rE T) (hr.mono (by decide)) rfl (paF (eD (pv 1) (jg T) (fC T) (hr.mono (by decide)) T.fS (paF (pv 0) aa)) (paF (aI K rfl (pv 1) rfl) aa)))⟩) rfl)
   (af (bq (kN rfl T.sP T.rJ (nA T) (hr.mono (by decide)) T.qY (paF (pv 0) (paF (aI K rfl (pv 1) rfl) (paF (aI K rfl (pv 1) rfl) (paF (pv 2) aa)))))))),?_⟩
 walk_at "rn";refine ff T hC ha wf ?_;walk_at "rn";refine bK T hg ?_;walk_at "rn";refine yc (n:=n) rfl (f9 m D) (fun σ'=>∃ y,σ'=[y,some (.ref a)]) (by unfold f9;rw [IE,wo.len]) (by unfold f9;rw [IE,wo.len];omega) ⟨_,rfl⟩ ?_ ?_
 ·rintro i r σ' H1 R' R0 hi hr1 s1 ⟨y,rfl⟩ hR';obtain ⟨r0,hr0,hm0,_⟩:=wo.get hi;unfold f9 at hr1;rw [IJ,hr0] at hr1;cases hr1;walk_at "2";refine ⟨C,a,cx,fs,hC,rfl,s1 _ _ ha,wf.moves,?_⟩;walk_at "rn";refine ⟨a,g,i,m,z,D,r0,rfl,hW.mono s1,hr0,fun pm H2 fpm s2 r2=>?_⟩;walk_at "rn";refine dB T hC ((s1.trans s2) _ _ ha) wf ?_;walk_at "rn";refine ⟨pm,m,r0,rfl,r2,by rw [wo.row r0 hm0];exact wo.z1,wo.m1,wo.lt r0 hm0,fun d H3 fd s3 r3=>?_⟩
  exact hR' _ _ _ ⟨_,rfl⟩ (s2.trans s3) (s2.free fd) r3
 ·intro d H1 fd s1 hD1;walk_at "rn";refine ff T hC (s1 _ _ ha) wf ?_;walk_at "rn";refine dB T hC (s1 _ _ ha) wf ?_;walk_at "rn";obtain ⟨r0,hr0,hm0,_⟩:=wo.get n1;refine ⟨p,T.bX,dx,d,.ref g,(m:Int),[],_,_,rfl,ot T,s1 _ _ hp,.inl rfl,hD1,(by unfold f9;rw [IJ,hr0];rfl),fun H2 fs2 h2 wf2 k2=>?_⟩
  rw [IE,wo.row r0 hm0] at wf2;walk_at "rn";exact k d H2 fs2 h2 wf2 (hD1.but (s1 _ _ hp) k2) fun b o hb hne=>k2 b o (s1 _ _ hb) hne
inductive Bm (W:Addr->Prop) (C CG:Addr) (vs:List V) (H:Hp) (Q:VK) (E:XK):Prop
 | mk (p dx a g p1:Addr) (n e m z:Nat) (t:List (List Nat)) (D:List (List (Nat×Nat))) (R:List Nat) (_:vs=[.ref p,.ref a,.ref p1]) (_:H p=some (.ins C dx [])) (_:dI W H a g m z D) (_:aY CG H g n t e) (_:GT n t e) (_:WOk n m z D) (_:H p1=some (.lst (aH R))) (_:IsPart n t R) (_:∀ g' d H' fs,aY CG (since H H') g' R.length (ba t R) (R.idxOf e)->H' p=some (.ins C dx fs)->WF fs (.ref g') m z (.ref d)->cT H' d (cF D R)->(∀ a o,H a=some o->a≠p->H' a=some o)->Q .non H')
def Ck (T:Txt K mg):aN P w K mg base CX0 5 T.qg T.qx ["self","way","part"] (Bm (bO T) T.cw T.aM):=by
 exists T.D6.ok tH
 ·obtain ⟨p,dx,a,g,p1,n,e,m,z,t,D,R,rfl,_⟩:=h;rfl
 obtain ⟨p,dx,a,g,p1,n,e,m,z,t,D,R,rfl,hp,hW,hG,gt,wo,h1,pt,k⟩:=h;obtain ⟨C,cx,d0,fs,hC,ha,wf,hD⟩:=id hW;have n23:=gt.le;have rl:=pt.len;refine ⟨_,(af (bq (kN rfl T.sP T.rJ (nA T) (hr.mono (by decide)) T.qY (paF (pv 0) (paF (ay T.ip (m6 T) (hr.mono (by decide)) rfl (paF (aI K rfl (pv 1) rfl) (paF (pv 2) aa))) (paF (aI K rfl (pv 1) rfl) (paF (bE rfl ky (aT K rfl (pv 2)) (fun _ _ _ _=>⟨(au (i:=0) ky.nd rfl (IQ rfl)),bb,(eD (pv 1) (jg T) (fC T) (hr.mono (by decide)) T.fS (paF (pv 0) aa))⟩)) aa))))))),?_⟩
 walk_at "rn";refine ff T hC ha wf ?_;walk_at "rn";refine ⟨g,p1,n,e,t,R,rfl,hG,gt,h1,pt,fun g' H1 fg s1 hg1=>?_⟩;walk_at "rn";refine dB T hC (s1 _ _ ha) wf ?_;walk_at "rn";have h11:=s1 _ _ h1;refine mI (cF D R) (fun σ'=>∃ y,σ'=[y,some (.ref a)]) (SqL.of h11) (by unfold cF aH;rw [IE,IE]) (by unfold cF;rw [IE];omega) ⟨_,rfl⟩ ?_ ?_
 ·rintro i o r σ' H2 R' R0 ho hr2 s2 ⟨y,rfl⟩ hR';unfold aH at ho;unfold cF at hr2;rw [IJ] at ho hr2;cases hb:R[i]? with
  | none=>rw [hb] at ho;cases ho
  | some b =>
   rw [hb] at ho hr2;cases ho;cases hr2;obtain ⟨r0,hr0,hm0,hd0⟩:=wo.get (pt.lt b (IH hb));dsimp only at hR';rw [hd0] at hR';have s12:=s1.trans s2;walk_at "2";refine ⟨C,a,cx,fs,hC,rfl,s12 _ _ ha,wf.moves,?_⟩;walk_at "rn";refine ⟨a,g,b,m,z,D,r0,rfl,hW.mono s12,hr0,fun pm H3 fpm s3 r3=>?_⟩;exact hR' _ _ _ ⟨_,rfl⟩ s3 fpm r3
 ·intro d H2 fd s2 hD2;have s12:=s1.trans s2;have wp:=wo.part pt;obtain ⟨r0,hr0,hm0,_⟩:=wp.get (Jw.mpr pt.ne);walk_at "rn";refine ⟨p,T.cw,dx,d,.ref g',(m:Int),[],_,_,rfl,vo T,s12 _ _ hp,.inl rfl,hD2,hr0,fun H3 fs3 h3 wf3 k3=>?_⟩;rw [wp.row r0 hm0] at wf3;walk_at "rn";refine k g' d H3 fs3 (hg1.mono fun b o y=>?_) h3 wf3 (hD2.but (s12 _ _ hp) k3) fun b o hb hne=>k3 b o (s12 _ _ hb) hne;have hb:H b=none:=by
   unfold since at y;cases z:H b with
   | none=>rfl
   | some v=>rw [z] at y;cases y
  rw [e8 hb] at y ⊢;exact k3 b o (s2 _ _ y) fun z=>by rw [z,hp] at hb;cases hb
inductive sH (W:Addr->Prop) (vs:List V) (H:Hp) (Q:VK) (E:XK):Prop
 | mk (p a g:Addr) (n m z:Nat) (r:List (Nat×Nat)) (D:List (List (Nat×Nat))) (_:vs=[.ref p,.ref a]) (_:bS H p r) (_:dI W H a g m z D) (_:WOk n m z D) (_:(∀ x∈r,x.2<n)) (_:r.length * z<=1000) (_:∀ d H',H d=none->aj H H'->bS H' d (bL D z r)->Q (.ref d) H')
def sf (T:Txt K mg):aN P w K mg base CX0 2 T.fK.f T.fK.fd ["moves","way"] (sH (bO T)):=by
 exists T.fK.ok eZ
 ·obtain ⟨p,a,g,n,m,z,r,D,rfl,_⟩:=h;rfl
 obtain ⟨p,a,g,n,m,z,r,D,rfl,hp,hW,wo,lt,hz,q⟩:=h;obtain ⟨C,cx,d0,fs,hC,ha,wf,_⟩:=id hW;refine ⟨_,(ae (ao (i:=2) eZ.nd rfl (IQ rfl) (cq aa))
   (ae (bo IW rfl (aT K rfl (pv 0)) (fh rfl (bD (au (i:=3) eZ.nd rfl (IQ rfl)) (bD (au (i:=4) eZ.nd rfl (IQ rfl)) eB))) (af (bq (c9 K rfl Jo PySem.F.slot_list_extend PySem.F.type_list_extend BR (pv 2) (paF (ay T.mL (BX T) (hr.mono (by decide)) rfl (paF (eD (pv 1) (jg T) (fC T) (hr.mono (by decide)) T.fS (paF (pv 4) aa)) (paF (ak bg (pv 3) (aI K rfl (pv 1) rfl)) aa))) aa)))))
   (af (aL (pv 2))))),?_⟩
 walk_at "5";refine ⟨small (by show 0<=1000;decide),fun pf hpf=>?_⟩
 have s0:=aE hpf (.lst []);have f0:bS (upd H pf (.lst [])) pf []:=⟨[],ar,rfl,fun i q x z=>by simp at z⟩
 generalize upd H pf (.lst [])=H0 at s0 f0;walk_at "rn";refine nK (H₀:=H) hp (fun i σ' H'=>aj H H'/\bS H' pf (bL D z (r.take i))/\∃ x3 x4:Option V,σ'=[some (.ref p),some (.ref a),some (.ref pf),x3,x4]) ⟨s0,f0,_,_,rfl⟩ (fun i σ' H' z=>z.1) ?_ ?_
 ·rintro i x σ' H1 hx ⟨s1,f1,x3,x4,rfl⟩;have il:=(II.mp hx).1;obtain ⟨r0,hr0,hm0,e0⟩:=wo.get (lt x (IH hx));have l0:=wo.row r0 hm0;have cl:(bL D z (r.take i)).length+z<=1000:=by
   rw [mM fun y hy=>?_,Je,L7 (by omega)]
   ·have:(i+1) * z<=r.length * z:=KG _ il;rw [Ky] at this;omega
   ·obtain ⟨r',_,hm',e'⟩:=wo.get (lt y (L0 hy));rw [e'];exact wo.row r' hm'
  obtain ⟨qs,g1,g2,g3⟩:=id f1;walk_at "rn";refine ⟨.inl ⟨rfl,_,SqL.of g1⟩,?_⟩;walk_at "2";refine ⟨C,a,cx,fs,hC,rfl,s1 _ _ ha,wf.moves,?_⟩;walk_at "rn";refine ⟨a,g,x.2,m,z,D,r0,rfl,hW.mono s1,hr0,fun pm H2 fpm s2 row1=>?_⟩;have s12:=s1.trans s2;walk_at "rn";refine eP T hC (s12 _ _ ha) wf ?_;have zb:=wo.z1;walk_at "rn";refine ⟨pm,x.1 * z,r0,rfl,row1,by omega,fun pb H3 fpb s3 row2=>?_⟩
  obtain ⟨ps,k1,k2,k3⟩:=id row2;rw [IE] at k2;have s23:=s2.trans s3;have g1':=s23 _ _ g1;walk_at "rn";refine ⟨pf,pb,_,_,rfl,rfl,g1',k1,JV (show (qs.map V.ref).length+(ps.map V.ref).length<=1000 by rw [IE,IE];omega) (by rw [Kc];decide),?_⟩
  refine ⟨mV hpf (s1.trans s23),?_,_,_,rfl⟩;rw [zp hx,e0];refine ⟨qs++ps,by rw [ar,JO],by rw [IZ,IZ,IE,g2,k2],fun j q' y hj hy=>?_⟩
  have key:H3 q'=some (.tup [.int (y.1:Int),.int (y.2:Int)]):=by
   rcases JI j qs.length with zz|zz
   ·rw [Jk zz] at hj;rw [Jk (by omega)] at hy
    exact s23 _ _ (g3 j q' y hj hy)
   ·rw [Jl zz] at hj;rw [Jl (by omega),<- g2] at hy
    exact k3 _ q' y hj hy
  rw [av (fun e=>by rw [e,g1'] at key;cases key)]
  exact key
 ·rintro σ' H1 ⟨s1,f1,x3,x4,rfl⟩;rw [Kj] at f1;walk_at "rn";exact q pf H1 hpf s1 f1
def jS {n e i:Nat} {t:List (List Nat)} {R:List Nat} (gt:GT n t e) (pt:IsPart n t R) (hi:i<n):∀ x∈(aG n t e R).map (fun c=>(hm n t e R (tb t i c),R.idxOf (ov n t e R (tb t i c)))),x.2<R.length:=fun x hx=>by
 obtain ⟨c,hc,rfl⟩:=IP.mp hx;obtain ⟨_,_,_,_,h⟩:=jP gt pt (gt.lt i c hi (a9 hc));exact Jt h
def kJ {n e i z:Nat} {t:List (List Nat)} {R:List Nat} {D:List (List (Nat×Nat))} (hi:i<n):(bN n t e R D z)[i]?=some (bL D z ((aG n t e R).map fun c=>(hm n t e R (tb t i c),R.idxOf (ov n t e R (tb t i c))))):=by
 unfold bN dR;rw [IJ,IJ,Jv hi];rfl
def zM {n e i m z:Nat} {t:List (List Nat)} {R:List Nat} {D:List (List (Nat×Nat))} (gt:GT n t e) (pt:IsPart n t R) (wo:WOk R.length m z D) (hi:i<n):(bL D z ((aG n t e R).map fun c=>(hm n t e R (tb t i c),R.idxOf (ov n t e R (tb t i c))))).length=(aG n t e R).length * z:=by
 rw [mM fun x hx=>?_,IE];obtain ⟨r,_,h2,h3⟩:=wo.get (jS gt pt hi x hx);rw [h3];exact wo.row r h2
structure Rai (W:Addr->Prop) (CG:Addr) (H:Hp) (g p1 a g':Addr) (n e m z l:Nat) (t:List (List Nat)) (R:List Nat) (D:List (List (Nat×Nat))):Prop where
 gp:aY CG H g n t e
 gt:GT n t e
 h1:H p1=some (.lst (aH R))
 pt:IsPart n t R
 wa:dI W H a g' m z D
 gp':aY CG H g' R.length (ba t R) (R.idxOf e)
 wo:WOk R.length m z D
 hl:bP (b8 n t e) l
 ml:m % l=0
def Rai.mono {W:Addr->Prop} {CG:Addr} {H H':Hp} {g p1 a g':Addr} {n e m z l:Nat} {t:List (List Nat)} {R:List Nat} {D:List (List (Nat×Nat))} (s:aj H H') (h:Rai W CG H g p1 a g' n e m z l t R D):Rai W CG H' g p1 a g' n e m z l t R D:=⟨h.gp.mono s,h.gt,s _ _ h.h1,h.pt,h.wa.mono s,h.gp'.mono s,h.wo,h.hl,h.ml⟩
inductive BH (W:Addr->Prop) (C CG:Addr) (vs:List V) (H:Hp) (Q:VK) (E:XK):Prop
 | mk (p dx g p1 a g':Addr) (n e m z l:Nat) (t:List (List Nat)) (R:List Nat) (D:List (List (Nat×Nat))) (_:vs=[.ref p,.ref g,.ref p1,.ref a]) (_:H p=some (.ins C dx [])) (_:Rai W CG H g p1 a g' n e m z l t R D) (_:(aG n t e R).length * z<=60) (_:∀ d H' fs,H' p=some (.ins C dx fs)->WF fs (.ref g) m ((aG n t e R).length * z:Nat) (.ref d)->cT H' d (bN n t e R D z)->(∀ a o,H a=some o->a≠p->H' a=some o)->Q .non H')
def gB (T:Txt K mg):aN P w K mg base CX0 7 T.qo T.qA ["self","group","part","way"] (BH (bO T) T.bQ T.aM):=by
 exists T.D8.ok ij
 ·obtain ⟨p,dx,g,p1,a,g',n,e,m,z,l,t,R,D,rfl,_⟩:=h;rfl
 obtain ⟨p,dx,g,p1,a,g',n,e,m,z,l,t,R,D,rfl,hp,ra,h60,k⟩:=h;obtain ⟨C,cx,d0,fs,hC,ha,wf,_⟩:=id ra.wa;obtain ⟨gx',gr',gb',hg',aR',aB'⟩:=aY.get (K:=K) ra.gp';obtain ⟨gx,gr,gb,hg,aR,aB⟩:=aY.get (K:=K) ra.gp;have gt:=ra.gt;have pt:=ra.pt;have wo:=ra.wo;have n1:=gt.pos;have n23:=gt.le;have rl:=pt.len;have r1:0<R.length:=Jw.mpr pt.ne;have zb:=wo.z1;refine ⟨_,(ae (bj (aD (oQ K rfl (List Nat) hr.units) (aI K rfl (aI K rfl (pv 3) rfl) rfl) (aI K rfl (ay T.ip (m6 T) (hr.mono (by decide)) rfl (paF (pv 1) (paF (pv 2) aa))) rfl) (aJ _)) (af b9) aV)
   (ae (ao (i:=4) ij.nd rfl (IQ rfl) (ay T.gA (m3 T) (hr.mono (by decide)) rfl (paF (pv 1) (paF (aI K rfl (pv 3) rfl) aa))))
   (ae (bq (ay T.el (lB T) (hr.mono (by decide)) rfl (paF (ak bg (ak bz (aI K rfl (pv 1) rfl) (aA (aQ K rfl) rfl T.bC Jf (paF (pv 2) aa))) (aI K rfl (pv 3) rfl)) aa)))
   (ae (cv (i:=5) rfl ij.nd rfl (IQ rfl) kA (aT K rfl (ay T.fA (m8 T) (hr.mono (by decide)) rfl (paF (pv 1) (paF (pv 2) aa)))) (fun _ _ _ _=>⟨(au (i:=0) kA.nd rfl (IQ rfl)),bb,(ay T.fK (sf T) (hr.mono (by decide)) rfl (paF (pv 0) (paF (pv 1) aa)))⟩) rfl)
   (af (bq (kN rfl T.sP T.rJ (nA T) (hr.mono (by decide)) T.qY (paF (pv 0) (paF (pv 1) (paF (pv 4) (paF (pv 5) aa))))))))))),?_⟩
 walk_at "1";refine ff T hC ha wf ?_;walk_at "rn";refine bU T hg' ?_;walk_at "rn";refine ⟨g,p1,n,e,t,R,rfl,ra.gp,gt,ra.h1,pt,fun g2 H1 fg s1 hg1=>?_⟩;obtain ⟨gx2,gr2,gb2,hg2,aR2,aB2⟩:=aY.get (K:=K) (hg1.mono kO);walk_at "rn";refine bU T hg2 ?_;walk_at "rn";refine wq (Rep.mono s1 aR') aR2 ?_;walk_at "rn";refine ck (fun c=>absurd rfl c) (fun _=>?_);walk_at "rn";refine dB T hC (s1 _ _ ha) wf ?_;walk_at "rn";refine ⟨g,.int (m:Int),n,e,m,t,rfl,ra.gp.mono s1,gt,.inr ⟨rfl,wo.m1,wo.m60,fun k hk=>by rw [hk.uni ra.hl];exact ra.ml⟩,fun H2 s2=>?_⟩
 have s12:=s1.trans s2;walk_at "rn";refine bK T (s12 _ _ hg) ?_;walk_at "rn";refine cA (bA (s12 _ _ ra.h1)) ?_;refine kf r1 (by omega) ?_
 rw [mU gt pt];walk_at "rn";refine eP T hC (s12 _ _ ha) wf ?_;walk_at "rn";refine ⟨_,rfl,h60,?_⟩;walk_at "rn";refine ⟨g,_,n,e,t,R,rfl,ra.gp.mono s12,gt,bA (s12 _ _ ra.h1),pt,fun d6 H6 fd6 s6 hD6=>?_⟩;have s16:=s12.trans s6;obtain ⟨ps6,h61,h62,h63⟩:=id hD6;have ln6:ps6.length=n:=by rw [h62];unfold dR;rw [IE,Jb]
 have rn:(bN n t e R D z).length=n:=by unfold bN dR;rw [IE,IE,Jb]
 walk_at "rn";refine mI (bN n t e R D z) (fun σ'=>∃ y,σ'=[y,some (.ref a)]) (SqL.of h61) (by rw [IE,rn];exact ln6) (by omega) ⟨_,rfl⟩ ?_ ?_
 ·rintro i o r σ' H7 R' R0 ho hr7 s7 ⟨y,rfl⟩ hR';have hin:i<n:=by
   have:=(II.mp ho).1;rw [IE] at this;omega
  rw [kJ hin] at hr7;cases hr7;rw [IJ] at ho;cases hq:ps6[i]? with
  | none=>rw [hq] at ho;cases ho
  | some pq =>
   rw [hq] at ho;cases ho;have row:=(h63 i pq _ hq (vq hin)).mono s7;walk_at "rn";refine ⟨pq,a,g',R.length,m,z,_,D,rfl,row,ra.wa.mono (s16.trans s7),wo,jS gt pt hin,by rw [IE];omega,fun d H8 fd s8 row8=>?_⟩
   exact hR' _ _ _ ⟨_,rfl⟩ s8 fd row8
 ·intro d7 H7 fd7 s7 hD7;have s17:=s16.trans s7;walk_at "rn";refine ⟨p,T.bQ,dx,d7,.ref g,(m:Int),[],_,_,rfl,fk T,s17 _ _ hp,.inl rfl,hD7,kJ n1,fun H9 fs9 h9 wf9 k9=>?_⟩;rw [zM gt pt wo n1] at wf9;walk_at "rn";exact k d7 H9 fs9 h9 wf9 (hD7.but (s17 _ _ hp) k9) fun b o hb hne=>k9 b o (s17 _ _ hb) hne
def WOk.rai {n e m z:Nat} {t:List (List Nat)} {R:List Nat} {D:List (List (Nat×Nat))} (gt:GT n t e) (pt:IsPart n t R) (wo:WOk R.length m z D) (hz:(aG n t e R).length * z<=1000):WOk n m ((aG n t e R).length * z) (bN n t e R D z):=by
 have rn:(bN n t e R D z).length=n:=by unfold bN dR;rw [IE,IE,Jb]
 have get:∀ r∈bN n t e R D z,∃ i,i<n/\r=bL D z ((aG n t e R).map fun c=>(hm n t e R (tb t i c),R.idxOf (ov n t e R (tb t i c)))):=fun r hr=>by
  obtain ⟨i,hi⟩:=J3 hr;have hin:i<n:=by rw [<- rn];exact (II.mp hi).1
  rw [kJ hin] at hi;exact ⟨i,hin,(Jy hi).symm⟩
 refine ⟨rn,fun r hr=>?_,fun r hr y hy=>?_,wo.m1,wo.m60,hz,J8 (let ⟨c,hc,_⟩:=lJ gt pt 0 gt.pos;KP hc) wo.z0⟩
 ·obtain ⟨i,hi,rfl⟩:=get r hr;exact zM gt pt wo hi
 ·obtain ⟨i,hi,rfl⟩:=get r hr;unfold bL at hy;obtain ⟨x,hx,hx'⟩:=KD.mp hy;obtain ⟨y0,hy0,rfl⟩:=IP.mp hx';obtain ⟨r0,_,h2,h3⟩:=wo.get (jS gt pt hi x hx);rw [h3] at hy0;exact wo.lt r0 h2 y0 hy0
def zf {n e k:Nat} {t:List (List Nat)} (gt:GT n t e) (h1:1<=k) (hk:∀ a,a<n->bp t e a k=e) (hj:∀ j,1<=j->j<k->∃ a,a<n/\bp t e a j≠e):bP (b8 n t e) k:=by
 refine ⟨h1,fun s hs=>?_,fun j j1 j2=>?_⟩
 ·obtain ⟨a,ha,rfl⟩:=IP.mp hs;exact Kv (z7 gt (IK.mp ha) (hk a (IK.mp ha)))
 ·obtain ⟨a,ha,q⟩:=hj j j1 j2;refine ⟨aW n t e a,IP.mpr ⟨a,IK.mpr ha,rfl⟩,fun z=>q ?_⟩;obtain ⟨c,rfl⟩:=JH z;exact kc gt ha (dG gt ha).2.1 c
inductive yf (K:IC) (vs:List V) (H:Hp) (Q:VK) (E:XK):Prop
 | mk (v:V) (n e:Nat) (t:List (List Nat)) (_:vs=[v]) (_:At K H v t) (_:GT n t e) (_:∀ k H',aj H H'->bP (b8 n t e) k->k<=n->Q (.int (k:Int)) H')
def yd (T:Txt K mg):aN P w K mg base CX0 2 T.i6.f T.i6.fd ["_law_table"] (yf K):=by
 exists T.i6.ok eC
 ·obtain ⟨v,n,e,t,rfl,_⟩:=h;rfl
 obtain ⟨v,n,e,t,rfl,hT,gt,q⟩:=h;refine ⟨_,(ae (ao (i:=1) eC.nd rfl (Lb rfl) (ay T.fF (jJ T) (hr.mono (by decide)) rfl (paF (pv 0) aa)))
   (ae (ao (i:=2) eC.nd rfl (Lb rfl) (cG (lR rfl) rfl T.gF JW (paF (cG pH rfl T.bc MY (paF (aA (aQ K rfl) rfl T.bC Jf (paF (pv 0) aa)) aa)) aa)))
   (ae (ao (i:=3) eC.nd rfl (IQ rfl) ah)
   (ae (jW IW (l9 (gY (aA (oi K rfl rfl) rfl T.A7 LV (paF (bE rfl lZ (aT K rfl (pv 2)) (fun _ _ _ _=>⟨(au (i:=0) lZ.nd rfl (IQ rfl)),bb,(fG cL (pv 0) (pv 1) (aJ _))⟩)) aa)))) (ae (ao (i:=2) eC.nd rfl (Lb rfl) (bE rfl lT (aO rfl T.bc (paF (aA (aQ K rfl) rfl T.bC Jf (paF (pv 0) aa)) aa)) (fun _ _ _ _=>⟨(au (i:=0) lT.nd rfl (IQ rfl)),bb,(aq (ai K rfl) (aq (ai K rfl) (pv 2) (aq (ai K rfl) (pv 1) (pv 0) (fun _ _=>rfl)) (fun _ _=>rfl)) (pv 0) (fun _ _=>rfl))⟩)))
   (af (ao (i:=3) eC.nd rfl (IQ rfl) (ak aU (pv 3) ah)))))
   (af (aL (pv 3))))))),?_⟩
 have n1:=gt.pos;have n23:=gt.le;walk_at "rn";refine ⟨v,n,e,t,rfl,hT,gt,fun H1 s1=>?_⟩;have hT1:=Rep.mono s1 hT;left;rw [gt.len];refine zS fun pr hpr=>?_;left;refine pP (K:=K) ar (by omega) fun dl H2 _ s2 gl=>?_
 have s12:aj H1 H2:=(aE hpr _).trans s2;have e1:IF n=(IF n).map fun a=>bp t e a 1:=by
  refine Ld (by simp) fun i h1 h2=>?_
  simp at h1
  simpa using (kg gt h1).symm
 have a1:=gl.at;rw [e1] at a1;left;refine kH (fun m σ' H'=>aj H1 H'/\∃ (k:Nat) (p:Addr),m=n - k/\1<=k/\k<=n/\(∀ j,1<=j->j<k->∃ a,a<n/\bp t e a j≠e)/\At K H' (.ref p) ((IF n).map fun a=>bp t e a k)/\σ'=[some v,some (.int (e:Int)),some (.ref p),some (.int (k:Int))]) (n - 1)
  ⟨s12,1,dl,rfl,IV _,n1,fun j j1 j2=>absurd j2 (by omega),a1,rfl⟩ ?_
 rintro m σ' H3 ⟨s3,k,p,rfl,k1,kn,hj,aP,rfl⟩;left;refine kI (β:=Bool) aP (by simp;omega) (fun i=>(((IF n).map fun a=>bp t e a k).map fun x=>decide (x=e)).take i) (fun σ'=>∃ y,σ'=[y,some (.int (e:Int))]) rfl (fun i _=>by rw [Je];omega) ⟨_,rfl⟩ ?_ ?_
 ·rintro i c w' σ' H4 d' R R0 hc hs hw ⟨y,rfl⟩ hR hR0 hd';cases (show w'=V.int (c:Int) from hw);left;refine hR _ _ (decide (c=e)) _ ⟨_,rfl⟩ (aj.refl _) rfl ?_;rw [Js,IJ,hc];rfl
 intro db H4 s4 hB;left;refine xl hB ?_;have s34:=s3.trans s4;have hT4:=Rep.mono s34 hT1;have aP4:=Rep.mono s4 aP;rw [Jh (by simp)]
 left;cases hall:((((IF n).map fun a=>bp t e a k).map fun x=>decide (x=e)).all id) with
 | false =>
  have zz:∃ a,a<n/\bp t e a k≠e:=by
   refine Kh fun no=>?_;rw [Bool.eq_false_iff] at hall;refine hall ?_;rw [Jq];intro x hx;simp only [IP,IK] at hx;obtain ⟨_,⟨a,ha,rfl⟩,rfl⟩:=hx;exact decide_eq_true (Kh fun q=>no ⟨a,ha,q⟩)
  have kl:k<n:=by
   rcases JI k n with y|y
   ·exact y
   ·obtain ⟨a,ha,q⟩:=zz;have:k=n:=by omega
    rw [this] at q;exact absurd (Gm gt ha) q
  refine t8 ?_;refine ⟨fun σ4 H4=>aj H1 H4/\∃ (p:Addr),At K H4 (.ref p) ((IF n).map fun a=>bp t e a (k+1))/\σ4=[some v,some (.int (e:Int)),some (.ref p),some (.int ((k+1:Nat):Int))],fun σ4 H4 y=>?_,?_⟩
  ·obtain ⟨y1,p',y2,y3⟩:=y;refine ⟨n - (k+1),by omega,y1,k+1,p',rfl,by omega,by omega,fun j j1 j2=>?_,y2,y3⟩
   rcases JI j k with u|u
   ·exact hj j j1 u
   ·have:j=k:=by omega
    rw [this];exact zz
  left;rw [gt.len];refine jb K (n:=n) (β:=Nat) rfl (by omega) (fun i=>((IF n).map fun a=>bp t e a (k+1)).take i) (fun σ'=>∃ y,σ'=[y,some (.ref p),some v]) rfl (fun i _=>by rw [Je];omega) ⟨_,rfl⟩ ?_ ?_
  ·rintro i σ' H5 d' R R0 hi hs ⟨y,rfl⟩ hR hR0 hd';have aP5:=Rep.mono hs aP4;have hT5:=Rep.mono hs hT4;have hpl:=bW gt hi k;walk_at "rn";refine br aP5 (c:=bp t e i k) (by simp [hi]) ?_
   refine c7 hT5 rfl (gt.get hpl) fun w1 hw1=>?_;walk_at "rn";refine br hw1 (gt.dF hpl hi) ?_;exact hR _ _ _ _ ⟨_,rfl⟩ (aj.refl _) rfl (cz _ n i hi)
  intro dn H5 s5 h5;have h5':At K H5 (.ref dn) (((IF n).map fun a=>bp t e a (k+1)).take n):=h5;rw [Jh (by simp)] at h5'
  left;exact ⟨s34.trans s5,dn,h5',rfl⟩
 | true =>
  refine eU ?_;have z:∀ a,a<n->bp t e a k=e:=fun a ha=>by
   rw [Jq] at hall;have:=hall (decide (bp t e a k=e)) (IP.mpr ⟨_,IP.mpr ⟨a,IK.mpr ha,rfl⟩,rfl⟩);exact of_decide_eq_true this
  left;exact q k H4 (s1.trans s34) (zf gt k1 z hj) kn
inductive yi (K:IC) (vs:List V) (H:Hp) (Q:VK) (E:XK):Prop
 | mk (v:V) (n e a:Nat) (t:List (List Nat)) (_:vs=[v,.int (a:Int)]) (_:At K H v t) (_:GT n t e) (_:a<n) (_:∀ H',aj H H'->Q (.int (aW n t e a:Int)) H')
def wX (T:Txt K mg):aN P w K mg base CX0 2 T.iU.f T.iU.fd ["_law_table","_law_thing_here"] (yi K):=by
 exists T.iU.ok eA
 ·obtain ⟨v,n,e,a,t,rfl,_⟩:=h;rfl
 obtain ⟨v,n,e,a,t,rfl,hT,gt,ha,q⟩:=h;have os:=dG gt ha;have op:=eQ (n:=n) (t:=t) (e:=e) (a:=a);refine ⟨_,(ae (ao (i:=2) eA.nd rfl (IQ rfl) (ay T.fF (jJ T) (hr.mono (by decide)) rfl (paF (pv 0) aa)))
   (ae (ao (i:=3) eA.nd rfl (IQ rfl) (pv 1))
   (ae (ao (i:=4) eA.nd rfl (IQ rfl) ah)
   (ae (jW IW (aD eK (pv 3) (pv 2) (aJ _)) (ae (ao (i:=3) eA.nd rfl (IQ rfl) (aq (ai K rfl) (aq (ai K rfl) (pv 0) (pv 3) (fun _ _=>rfl)) (pv 1) (fun _ _=>rfl)))
   (af (ao (i:=4) eA.nd rfl (IQ rfl) (ak aU (pv 4) ah)))))
   (af (aL (pv 4))))))),?_⟩
 walk_at "rn";refine ⟨v,n,e,t,rfl,hT,gt,fun H1 s1=>?_⟩;have hT1:=Rep.mono s1 hT;walk_at "rn";refine kH (fun b σ' H'=>H'=H1/\∃ k,1<=k/\k<=aW n t e a/\b=aW n t e a - k/\σ'=[some v,some (.int (a:Int)),some (.int (e:Int)),some (.int ((bp t e a k:Nat):Int)),some (.int (k:Int))]) (aW n t e a - 1) ⟨rfl,1,IV _,op,rfl,by rw [kg gt ha];rfl⟩ ?_
 rintro b σ' H2 ⟨rfl,k,k1,k2,rfl,rfl⟩;walk_at "rn";refine ck (fun z=>?_) (fun z=>?_)
 ·have k3:k<aW n t e a:=by
   rcases JI k (aW n t e a) with y|y
   ·exact y
   ·have:k=aW n t e a:=by omega
    rw [this] at z;exact absurd os.2.1 z
  have kl:=bW gt ha k;refine ⟨fun σ2 H4=>H4=H2/\σ2=[some v,some (.int (a:Int)),some (.int (e:Int)),some (.int ((bp t e a (k+1):Nat):Int)),some (.int ((k+1:Nat):Int))],fun σ2 H4 y=>⟨_,by omega,y.1,k+1,by omega,k3,rfl,y.2⟩,?_⟩
  walk_at "rn";refine c7 hT1 rfl (gt.get kl) fun w1 hw1=>?_;walk_at "rn";refine br hw1 (gt.dF kl ha) ?_;walk_at "rn";exact ⟨rfl,rfl⟩
 ·have ke:k=aW n t e a:=by
   rcases JI k (aW n t e a) with y|y
   ·exact absurd z (os.2.2 k k1 y)
   ·omega
  subst ke;walk_at "rn";exact q _ s1
inductive zi (K:IC) (vs:List V) (H:Hp) (Q:VK) (E:XK):Prop
 | mk (v:V) (n e:Nat) (c:Int) (t:List (List Nat)) (_:vs=[v,.int c]) (_:At K H v t) (_:GT n t e) (_:∀ d H' S,H d=none->aj H H'->Gr K H' d S->S.length<=2->(∀ x∈S,x<n)->Q (.ref d) H')
def yV (T:Txt K mg):aN P w K mg base CX0 2 T.jL.f T.jL.fd ["_law_table","_law_cell_here"] (zi K):=by
 exists T.jL.ok pE
 ·obtain ⟨v,n,e,c,t,rfl,_⟩:=h;rfl
 obtain ⟨v,n,e,c,t,rfl,hT,gt,q⟩:=h;have n1:=gt.pos;have n23:=gt.le;refine ⟨_,(ae (ao (i:=2) pE.nd rfl (IQ rfl) (ak aS (pv 1) ah))
   (af (aL (bE rfl ni (aO rfl T.bc (paF (ak aS (pv 2) ah) aa)) (fun _ _ _ _=>⟨(au (i:=0) ni.nd rfl (IQ rfl)),bb,(ay T.dY (gN T) (hr.mono (by decide)) rfl (paF (pv 1) (paF (ak aU ah (pv 0)) (paF (aA (aQ K rfl) rfl T.bC Jf (paF (pv 2) aa)) aa))))⟩))))),?_⟩
 left;refine ir (by decide) ?_
 have c1:=Me c (show ((2147483647:Nat):Int)≠0 by decide)
 generalize hx:(c % ((2147483647:Nat):Int)).toNat=x;have ex:c % ((2147483647:Nat):Int)=(x:Int):=by omega
 rw [ex];left;refine eF K (n:=x % 3) (β:=Nat) rfl (by omega) (fun i=>((IF (x % 3)).map fun k=>thg c (21+k) n).take i) (fun σ'=>∃ y,σ'=[y,some (.int c),some v]) rfl (fun i _=>by rw [Je];omega) ⟨_,rfl⟩ ?_ ?_
 ·rintro i σ' H5 d' R' R0 hi hs ⟨y,rfl⟩ hR hR0 hd';have hT5:=Rep.mono hs hT;left;rw [gt.len];refine ⟨c,21+i,n,rfl,by omega,n1,fun _=>?_⟩
  exact hR _ _ _ _ ⟨_,rfl⟩ (aj.refl _) rfl (cz _ (x % 3) i hi)
 ·intro d H5 fd s5 h5;have g5:Gr K H5 d (((IF (x % 3)).map fun k=>thg c (21+k) n).take (x % 3)):=h5;rw [Jh (by simp)] at g5
  refine q d H5 _ fd s5 g5 (by simp;omega) fun y hy=>?_
  obtain ⟨k,_,rfl⟩:=IP.mp hy;exact sI _ _ n1
def fm (F W:List Nat) (y:Nat):Nat:=W.getD (F.idxOf y) 0
def qR {F W:List Nat} {y z c:Nat} (h:y∈F) (hl:W.length=F.length):fm (F++[z]) (W++[c]) y=fm F W y:=by
 have hi:=Jt h;unfold fm;rw [List.idxOf_append,if_pos h,ID,ID,Jk (by omega)]
def GR {F W:List Nat} {z c:Nat} (h:z∉F) (hl:W.length=F.length):fm (F++[z]) (W++[c]) z=c:=by
 unfold fm;rw [List.idxOf_append,if_neg h,NJ,ID,JU,<- hl,Jl (IV _)];simp
def oh:∀ {F W:List Nat} {f:Nat},f∉F->cy (c5 F W) (nk f)=none
 | [],_,_,_=>rfl
 | _ :: _,[],_,_=>rfl
 | a :: F,c :: W,f,h=>by
  have h1:¬ nk a=nk f:=fun z=>h (by rw [sY z];exact IT)
  show cy ((nk a,V.int (c:Int)) :: c5 F W) (nk f)=none;rw [cO h1];exact oh fun z=>h (IM _ z)
def oZ {F W:List Nat} {y:Nat} (nd:F.Nodup) (hl:W.length=F.length) (h:y∈F):cy (c5 F W) (nk y)=some (.int ((fm F W y:Nat):Int)):=by
 have hi:=Jt h;exact jZ (j:=F.idxOf y) nd (by rw [IG hi,Ko]) (getD_some 0 (by omega))
def FJ {F W:List Nat} {f:Nat} (nd:F.Nodup) (hl:W.length=F.length):(cy (c5 F W) (nk f)).isSome=decide (f∈F):=by
 by_cases h:f∈F
 ·rw [oZ nd hl h,decide_eq_true h];rfl
 ·rw [oh h,decide_eq_false h];rfl
def CQ {F W:List Nat} {f c:Nat} (hl:W.length=F.length) (h:f∉F):putK (c5 F W) (nk f) (.int (c:Int))=c5 (F++[f]) (W++[c]):=by
 rw [D1 _ (oh h)];unfold c5 aH;rw [JO,JO,List.zip_append (by rw [IE,IE];exact hl.symm)]
 rfl
def Dz {F W:List Nat}:(c5 F W).length<=F.length:=by
 unfold c5;rw [Nw,IE];omega
def CM (t:List (List Nat)) (S G:List Nat) (m:Nat) (F W:List Nat) (x j:Nat):Prop:=∀ j' s μ,j' < j->S[j']?=some s->G[j']?=some μ->fm F W (tb t x s)=(fm F W x+μ) % m
def CM.grow {t:List (List Nat)} {S G F W:List Nat} {m x j z c:Nat} (h:CM t S G m F W x j) (hl:W.length=F.length) (hx:x∈F) (hj:∀ s∈S.take j,tb t x s∈F):CM t S G m (F++[z]) (W++[c]) x j:=fun j' s μ a b d=>by
 have hs:s∈S.take j:=by
  refine IH (i:=j') ?_;rw [List.getElem?_take,if_pos a];exact b
 rw [qR (hj s hs) hl,qR hx hl];exact h j' s μ a b d
structure MS (n:Nat) (t:List (List Nat)) (e:Nat) (S G:List Nat) (m:Nat) (F W:List Nat) (k:Nat) (b:Bool):Prop where
 gr:kM n t e S F k
 len:W.length=F.length
 lt:∀ x∈W,x<m
 e0:fm F W e=0
 cm:b=true->∀ i x,i<k->F[i]?=some x->CM t S G m F W x S.length
def MS.grow {n e m k c s x:Nat} {t:List (List Nat)} {S G F W:List Nat} {b:Bool} (M:MS n t e S G m F W k b) (gt:GT n t e) (hx:x∈F) (hs:s∈S) (hn:s<n) (h:tb t x s∉F) (hc:c<m):MS n t e S G m (F++[tb t x s]) (W++[c]) k b:=by
 refine ⟨M.gr.put gt hx hs hn h,by rw [IZ,IZ,M.len];rfl,fun y hy=>?_,by rw [qR M.gr.un M.len];exact M.e0,fun hb i y hi hy=>?_⟩
 ·rcases JG.mp hy with z|z
  ·exact M.lt y z
  ·rw [I0.mp z];exact hc
 ·rw [Jk (Ja hi M.gr.le)] at hy;exact (M.cm hb i y hi hy).grow M.len (IH hy) fun s hs=>M.gr.cl i y hi hy s (L0 hs)
inductive vx (K:IC) (vs:List V) (H:Hp) (Q:VK) (E:XK):Prop
 | mk (v u:V) (n e m:Nat) (c:Int) (t:List (List Nat)) (S:List Nat) (_:vs=[v,u,.int (m:Int),.int c]) (_:At K H v t) (_:GT n t e) (_:At K H u S) (_:S.length<=2) (_:(∀ x∈S,x<n)) (_:0<m) (_:m<=60) (_:∀ p dp dm H' R M,H dp=none->H dm=none->dp≠dm->aj H H'->H' p=some (.tup [.ref dp,.ref dm])->H' dp=some (.lst (aH R))->H' dm=some (.lst (aH M))->IsPart n t R->M.length=R.length->(∀ x∈M,x<m)->(∀ j,j<R.length->∀ k,k<R.length->fD t R M m j k)->Q (.ref p) H')
def jz (T:Txt K mg):aN P w K mg base CX0 3 T.ei.f T.ei.fd ["_law_table","_law_some_here","_law_spokes","_law_cell_here"] (vx K):=by
 exists T.ei.ok bu
 ·obtain ⟨v,u,n,e,m,c,t,S,rfl,_⟩:=h;rfl
 obtain ⟨v,u,n,e,m,c,t,S,rfl,hT,gt,hS,sl,hlt,m1,m60,q⟩:=h;have n1:=gt.pos;have n23:=gt.le;refine ⟨_,(ae (ao (i:=4) bu.nd rfl (IQ rfl) (cq aa))
   (ae (bo IW rfl (aO rfl T.bc (paF (aA (aQ K rfl) rfl T.bC Jf (paF (pv 1) aa)) aa)) (au (i:=5) bu.nd rfl (IQ rfl)) (ae (ao (i:=6) bu.nd rfl (IQ rfl) (ay T.iU (wX T) (hr.mono (by decide)) rfl (paF (pv 0) (paF (aq (ai K rfl) (pv 1) (pv 5) (fun _ _=>rfl)) aa))))
   (af (bq (c9 K rfl Jo Jz JA cc (pv 4) (paF (ak bg (ak bz (pv 2) (pv 6)) (ay T.dY (gN T) (hr.mono (by decide)) rfl (paF (pv 3) (paF (ak aU ah (pv 5)) (paF (pv 6) aa))))) aa))))))
   (ae (ao (i:=7) bu.nd rfl (Lb rfl) (F1 (DY (ay T.fF (jJ T) (hr.mono (by decide)) rfl (paF (pv 0) aa)) ah Ga) rfl rfl (by simp) (by decide)))
   (ae (ao (i:=8) bu.nd rfl (IQ rfl) (cq (paF (ay T.fF (jJ T) (hr.mono (by decide)) rfl (paF (pv 0) aa)) aa)))
   (ae (ao (i:=9) bu.nd rfl (IQ rfl) ah)
   (ae (ao (i:=10) bu.nd rfl (Lb rfl) eY)
   (ae (jW IW (aD lr (pv 9) (aA (aQ K rfl) rfl T.bC Jf (paF (pv 8) aa)) (aJ _)) (ae (bo IW rfl (Fp K rfl rfl T.EL (paF (pv 1) (paF (pv 4) aa))) (fh rfl (bD (au (i:=11) bu.nd rfl (IQ rfl)) (bD (au (i:=12) bu.nd rfl (IQ rfl)) eB))) (ae (ao (i:=13) bu.nd rfl (IQ rfl) (aq (ai K rfl) (aq (ai K rfl) (pv 0) (aq (ai K rfl) (pv 8) (pv 9) (fun _ _=>rfl)) (fun _ _=>rfl)) (pv 11) (fun _ _=>rfl)))
   (ae (ao (i:=14) bu.nd rfl (IQ rfl) (ak aS (ak aU (ix (iP hr) (pv 7) (aq (ai K rfl) (pv 8) (pv 9) (fun _ _=>rfl)) (fun _ _=>rfl)) (pv 12)) (pv 2)))
   (af (bj (xp (BC (iP hr) (pv 13) (pv 7))) (ae (zK (iP hr) (pv 7) (pv 13) (pv 14) rfl)
   (af (bq (c9 K rfl Jo Jz JA cc (pv 8) (paF (pv 13) aa))))) (af (bj (aD eK (ix (iP hr) (pv 7) (pv 13) (fun _ _=>rfl)) (pv 14) (aJ _)) (af (ao (i:=10) bu.nd rfl (Lb rfl) eY)) aV)))))))
   (af (ao (i:=9) bu.nd rfl (IQ rfl) (ak aU (pv 9) ah)))))
   (ae (ao (i:=15) bu.nd rfl (IQ rfl) (aA (n5 K rfl) rfl T.xJ MM (paF (pv 8) aa)))
   (af (aL (kh (paF (pv 15) (paF (bE rfl kY (aT K rfl (pv 15)) (fun _ _ _ _=>⟨(au (i:=0) kY.nd rfl (IQ rfl)),bb,(ak bg (ix (iP hr) (pv 2) (pv 0) (fun _ _=>rfl)) (cG Cd rfl T.HN PyProof.Rows.boot_int (paF (pv 1) aa)))⟩)) aa))))))))))))),?_⟩
 walk_at "5";refine ⟨small (by show 0<=1000;decide),fun pg hpg=>?_⟩
 have s0:=aE hpg (.lst []);have g0:Gr K (upd H pg (.lst [])) pg ([]:List Nat):=⟨_,ar,.nil⟩;generalize upd H pg (.lst [])=H0 at s0 g0;walk_at "rn";refine cA (Rep.mono s0 hS) ?_;refine bR (n:=S.length) rfl (by omega) (fun i σ' H'=>aj H H'/\∃ (G:List Nat) (x5 x6:Option V),Gr K H' pg G/\G.length=i/\σ'=[some v,some u,some (.int (m:Int)),some (.int c),some (.ref pg),x5,x6,none,none,none,none,none,none,none,none,none]) ⟨s0,[],_,_,g0,rfl,rfl⟩ ?_ ?_
 ·rintro i σ' H1 hi ⟨s1,G,x5,x6,g1,gl,rfl⟩;have hi':=getD_some (l:=S) 0 hi;have hsn:=hlt _ (IH hi');generalize S.getD i 0=x at hi' hsn;walk_at "rn";refine br (Rep.mono s1 hS) hi' ?_;walk_at "rn";refine ⟨v,n,e,x,t,rfl,Rep.mono s1 hT,gt,hsn,fun H2 s2=>?_⟩;have os:=dG gt hsn;have op:=eQ (n:=n) (t:=t) (e:=e) (a:=x);have ol:aW n t e x<=n:=os.1;generalize aW n t e x=o at op ol;walk_at "rn";refine ⟨(g1.mono s2).ty,?_⟩;walk_at "rn";refine ⟨c,11+i,o,rfl,by omega,op,fun th=>?_⟩
  have dv:m / o<=60:=JV (Nat.div_le_self _ _) m60;generalize m / o=d at dv;generalize thg c (11+i) o=y at th;walk_at "rn";refine gj (b:=d * y) (g1.mono s2) (by omega) rfl fun H3 g3 k3 _=>?_
  exact ⟨aj.but hpg (s1.trans s2) k3,G++[d * y],_,_,g3,by rw [IZ,gl];rfl,rfl⟩
 rintro σ' Hg ⟨sg,G,x5,x6,gg,gl,rfl⟩;have hTg:=Rep.mono sg hT;have hSg:=Rep.mono sg hS;have hpG:=dU gg;walk_at "rn";refine F3 (fun dw fdw=>?_);have sw:=aE fdw (.dK []);have hw0:(upd Hg dw (.dK [])) dw=some (.dK []):=ar;generalize upd Hg dw (.dK [])=H1 at sw hw0;walk_at "rn";refine ⟨v,n,e,t,rfl,Rep.mono sw hTg,gt,fun H2 s2=>?_⟩;walk_at "rn";refine ⟨s2 _ _ hw0,[(nk e,.int ((0:Nat):Int))],rfl,(by show 1<=15;decide),?_⟩
 have sg3:aj Hg (upd H2 dw (.dK (gL [] [(nk e,.int ((0:Nat):Int))]))):=fun b o z=>by
  rw [av (az z fdw)];exact s2 _ _ (sw _ _ z)
 have hw3:(upd H2 dw (.dK (gL [] [(nk e,.int ((0:Nat):Int))]))) dw=some (.dK (c5 [e] [0])):=ar;generalize upd H2 dw (.dK (gL [] [(nk e,.int ((0:Nat):Int))]))=H3 at sg3 hw3;walk_at "5";refine ⟨v,n,e,t,rfl,Rep.mono sg3 hTg,gt,fun H4 s4=>?_⟩;walk_at "rn";refine ⟨small (by show 1<=1000;decide),fun a ha=>?_⟩
 have sg4:=sg3.trans s4;have fa:Hg a=none:=sg4.free ha;have hw4:=s4 _ _ hw3;have sg5:=sg4.trans (aE ha (.lst [.int (e:Int)]));have hw5:=aE ha (.lst [.int (e:Int)]) _ _ hw4;have ha5:(upd H4 a (.lst [.int (e:Int)])) a=some (.lst (aH [e])):=ar;have nwa:dw≠a:=eJ hw4 ha;generalize upd H4 a (.lst [.int (e:Int)])=H5 at sg5 hw5 ha5;walk_at "rn";have fe:fm [e] [0] e=0:=by unfold fm;rw [NJ];rfl
 have ms0:MS n t e S G m [e] [0] 0 true:=⟨⟨by simp,fun x hx=>by rw [I0.mp hx];exact gt.elt,by simp,J6 _,fun i _ hi=>absurd hi (by omega),fun x hx=>⟨[],by simp,(I0.mp hx).symm⟩⟩,rfl,fun x hx=>by rw [I0.mp hx];exact m1,fe,fun _ i _ hi=>absurd hi (by omega)⟩
 refine kH (fun b σ' H'=>aj Hg H'/\∃ (F W:List Nat) (k:Nat) (fl:Bool) (y1 y2 y3 y4:Option V),b=n - k/\H' dw=some (.dK (c5 F W))/\H' a=some (.lst (aH F))/\MS n t e S G m F W k fl/\σ'=[some v,some u,some (.int (m:Int)),some (.int c),some (.ref pg),x5,x6,some (.ref dw),some (.ref a),some (.int (k:Int)),some (.bl fl),y1,y2,y3,y4,none]) (n - 0)
  ⟨sg5,[e],[0],0,true,_,_,_,_,rfl,hw5,ha5,ms0,rfl⟩ ?_
 rintro b σ' H6 ⟨s6,F,W,k,fl,y1,y2,y3,y4,rfl,hw6,ha6,ms,rfl⟩;have aF:At K H6 (.ref a) F:=bA ha6;have fl6:=ms.gr.len;walk_at "rn";refine cA aF ?_;walk_at "rn";refine bt (fun lt=>?_) (fun ge=>?_)
 ·obtain ⟨b0,hb0⟩:∃ b0,F[k]?=some b0:=⟨F[k],IG lt⟩;have hbF:b0∈F:=IH hb0;have hbn:=ms.gr.lt b0 hbF;refine ⟨fun σ4 H4=>aj Hg H4/\∃ (F4 W4:List Nat) (fl4:Bool) (y1 y2 y3 y4:Option V),H4 dw=some (.dK (c5 F4 W4))/\H4 a=some (.lst (aH F4))/\MS n t e S G m F4 W4 (k+1) fl4/\σ4=[some v,some u,some (.int (m:Int)),some (.int c),some (.ref pg),x5,x6,some (.ref dw),some (.ref a),some (.int ((k+1:Nat):Int)),some (.bl fl4),y1,y2,y3,y4,none],fun σ4 H4 z=>?_,?_⟩
  ·obtain ⟨z1,F4,W4,fl4,u1,u2,u3,u4,z2,z3,z5,z6⟩:=z;have:=z5.gr.le;have:=z5.gr.len;exact ⟨n - (k+1),by omega,z1,F4,W4,k+1,fl4,u1,u2,u3,u4,rfl,z2,z3,z5,z6⟩
  walk_at "rn";refine HF ?_;walk_at "rn";obtain ⟨pS,xS,rfl,hSS,hPS⟩:=id hSg;have lS:=LC hPS;refine FO (H₀:=Hg) hSS (SqL.of hpG) (by unfold aH;rw [IE];omega) (fun j σ4 H4=>aj Hg H4/\∃ (F4 W4:List Nat) (fl4:Bool) (y1 y2 y3 y4:Option V),H4 dw=some (.dK (c5 F4 W4))/\H4 a=some (.lst (aH F4))/\MS n t e S G m F4 W4 k fl4/\F4[k]?=some b0/\(∀ s∈S.take j,tb t b0 s∈F4)/\(fl4=true->CM t S G m F4 W4 b0 j)/\σ4=[some v,some (.ref pS),some (.int (m:Int)),some (.int c),some (.ref pg),x5,x6,some (.ref dw),some (.ref a),some (.int (k:Int)),some (.bl fl4),y1,y2,y3,y4,none])
   ⟨s6,F,W,fl,_,_,_,_,hw6,ha6,ms,hb0,fun s hs=>absurd hs (by simp),fun _ j' _ _ hj=>absurd hj (by omega),rfl⟩ (fun j σ4 H4 z=>z.1) ?_ ?_
  ·rintro j w1 w2 σ4 H7 H8 pt hw1 hw2 ⟨s7,F4,W4,fl4,u1,u2,u3,u4,hw7,ha7,ms4,hb4,hj,hcm,rfl⟩ hpt rfl s8;obtain ⟨x,hx,ax⟩:=kU hPS hw1;cases (show w1=V.int (x:Int) from ax);have hjl:j<G.length:=by
    have:=(II.mp hx).1;omega
   have hμ:=getD_some (l:=G) 0 hjl;generalize G.getD j 0=μ at hμ;have ew2:w2=V.int (μ:Int):=by
    unfold aH at hw2;rw [IJ,hμ] at hw2;exact (Jy hw2).symm
   subst ew2;have s78:=s7.trans s8;have hw8:=s8 _ _ hw7;have ha8:=s8 _ _ ha7;generalize upd H7 pt (.tup [.int (x:Int),.int (μ:Int)])=H8 at s78 hw8 ha8;have hxS:x∈S:=IH hx;have hxn:=hlt x hxS;have aF8:At K H8 (.ref a) F4:=bA ha8;have hT8:=Rep.mono s78 hTg;have bF4:b0∈F4:=IH hb4;have nd4:=ms4.gr.nd;have ka:=ms4.len;have fl4n:=ms4.gr.len;have hv0:=oZ nd4 ka bF4;have mlt:(fm F4 W4 b0+μ) % m<m:=Jj _ m1;walk_at "rn";refine br aF8 hb4 ?_;refine c7 hT8 rfl (gt.get hbn) fun w1 hw1=>?_;walk_at "rn";refine br hw1 (gt.dF hbn hxn) ?_;walk_at "rn";refine ig ?_;walk_at "rn";refine br aF8 hb4 ?_;refine ki hw8 hv0 ?_;walk_at "rn";have more:∀ F':List Nat,(∀ z∈F4,z∈F')->tb t b0 x∈F'->∀ s∈S.take (j+1),tb t b0 s∈F':=fun F' h1 h2 s hs=>by
    rw [Js,hx] at hs;rcases JG.mp hs with z|z
    ·exact h1 _ (hj s z)
    ·have:s=x:=by simpa using z
     rw [this];exact h2
   have cms:∀ F' W':List Nat,CM t S G m F' W' b0 j->fm F' W' (tb t b0 x)=(fm F' W' b0+μ) % m->CM t S G m F' W' b0 (j+1):=fun F' W' h1 h2 j' s' μ' a1 a2 a3=>by
    rcases JI j' j with z|z
    ·exact h1 j' s' μ' z a2 a3
    ·have:j'=j:=by omega
     subst this;rw [hx] at a2;rw [hμ] at a3;cases a2;cases a3;exact h2
   walk_at "ifs";walk_at "rn";refine B7 ?_;walk_at "rn";refine C9 hw8 ?_;rw [FJ nd4 ka];walk_at "rn";refine ck (fun z=>?_) (fun z=>?_)
   ·walk_at "rn";refine zL ?_;walk_at "rn";refine BQ hw8 (JV Dz (by omega)) ?_
    rw [CQ ka z];have hw9:(upd H8 dw (.dK (c5 (F4++[tb t b0 x]) (W4++[(fm F4 W4 b0+μ) % m])))) dw=some (.dK (c5 (F4++[tb t b0 x]) (W4++[(fm F4 W4 b0+μ) % m]))):=ar;have s9:aj Hg (upd H8 dw (.dK (c5 (F4++[tb t b0 x]) (W4++[(fm F4 W4 b0+μ) % m])))):=fun b o y=>by rw [av (az y fdw)];exact s78 _ _ y
    have ha9:(upd H8 dw (.dK (c5 (F4++[tb t b0 x]) (W4++[(fm F4 W4 b0+μ) % m])))) a=some (.lst (aH F4)):=by rw [av nwa.symm];exact ha8
    generalize upd H8 dw (.dK (c5 (F4++[tb t b0 x]) (W4++[(fm F4 W4 b0+μ) % m])))=H9 at hw9 s9 ha9;have g9:Gr K H9 a F4:=⟨_,ha9,jR⟩;walk_at "rn";refine ⟨g9.ty,?_⟩;walk_at "rn";refine gj (b:=tb t b0 x) g9 (by omega) rfl fun H10 g10 k10 _=>?_
    have ms5:=ms4.grow gt bF4 hxS hxn z mlt;refine ⟨aj.but fa s9 k10,_,_,fl4,_,_,_,_,k10 _ _ nwa hw9,dU g10,ms5,by rw [Jk (II.mp hb4).1];exact hb4,more _ (fun y hy=>J2 _ hy) (by simp),fun hfl=>cms _ _ ((hcm hfl).grow ka bF4 hj) ?_,rfl⟩
    rw [GR z ka,qR bF4 ka]
   ·have z':tb t b0 x∈F4:=z;walk_at "1";refine ig ?_;walk_at "rn";refine ki hw8 (oZ nd4 ka z') ?_;walk_at "rn";refine ck (fun y=>?_) (fun y=>?_)
    ·walk_at "rn";exact ⟨s78,F4,W4,false,_,_,_,_,hw8,ha8,⟨ms4.gr,ms4.len,ms4.lt,ms4.e0,(fun c=>by cases c)⟩,hb4,more _ (fun _ h=>h) z',(fun c=>by cases c),rfl⟩
    ·walk_at "rn";exact ⟨s78,F4,W4,fl4,_,_,_,_,hw8,ha8,ms4,hb4,more _ (fun _ h=>h) z',fun hfl=>cms _ _ (hcm hfl) y,rfl⟩
  ·rintro σ4 H7 ⟨s7,F4,W4,fl4,u1,u2,u3,u4,hw7,ha7,ms4,hb4,hj,hcm,rfl⟩;rw [lS,Kj] at hj;rw [lS] at hcm;walk_at "rn";refine ⟨s7,F4,W4,fl4,_,_,_,_,hw7,ha7,⟨ms4.gr.next hb4 hj,ms4.len,ms4.lt,ms4.e0,fun hfl i y hi hy=>?_⟩,rfl⟩;rcases JI i k with z|z
   ·exact ms4.cm hfl i y z hy
   ·have:i=k:=by omega
    subst this;rw [hb4] at hy;cases hy;exact hcm hfl
 ·walk_at "rn";refine yH aF (by omega) fun dp R H7 hdp s7 hpm hsr g7=>?_
  have G':=ms.gr.gen (by omega) hpm hsr
  have ptR:=G'.part gt hlt;have rl:=ptR.len;have fdp:H dp=none:=sg.free (s6.free hdp);have hw7:=s7 _ _ hw6;have nd:=ms.gr.nd;walk_at "4";refine fv (β:=Nat) g7.at (by omega) (fun i=>(R.map fun x=>if fl=true then fm F W x else 0).take i) (fun σ'=>∃ y,σ'=[y,some (.bl fl),some (.ref dw)]) rfl (fun i _=>by rw [Je];omega) ⟨_,rfl⟩ ?_ ?_
  ·rintro i x w' σ' H8 d' R' R0 hx hs hw ⟨y,rfl⟩ hR hR0 hd';cases (show w'=V.int (x:Int) from hw);have hxF:=hpm.mem_iff.mp (IH hx);walk_at "rn";refine ig ?_;walk_at "rn";refine ki (hs _ _ hw7) (oZ nd ms.len hxF) ?_;walk_at "rn";refine .inr ⟨fl,rfl,?_⟩;cases fl with
   | true =>
    refine kD (b:=1) (.inr (by decide)) ?_
    rw [Nat.mul_one];exact hR _ _ _ _ ⟨_,rfl⟩ (aj.refl _) rfl (by rw [Js,IJ,hx];rfl)
   | false =>
    refine kD (b:=0) (.inr (by decide)) ?_
    rw [KL];exact hR _ _ _ _ ⟨_,rfl⟩ (aj.refl _) rfl (by rw [Js,IJ,hx];rfl)
  intro dm H8 hdm s8 h8;have g8:Gr K H8 dm ((R.map fun x=>if fl=true then fm F W x else 0).take R.length):=h8;rw [Jh (by simp)] at g8
  walk_at "rn";refine ⟨small (by show 2<=1000;decide),fun p hp=>?_⟩
  have s68:=s7.trans s8;have sH8:=sg.trans (s6.trans s68);have hR8:=s8 _ _ (dU g7);have hM8:=dU g8;have s9:=aE hp (.tup [.ref dp,.ref dm]);have fml:∀ x∈R,fm F W x<m:=fun x hx=>by
   have hi:=Jt (hpm.mem_iff.mp hx);exact ms.lt _ (IH (getD_some 0 (show F.idxOf x<W.length by rw [ms.len];exact hi)))
  refine q p dp dm _ R _ fdp (sg.free (s6.free (s7.free hdm))) (eJ (dU g7) hdm) (sH8.trans s9) ar (s9 _ _ hR8) (s9 _ _ hM8) ptR (by simp) (fun x hx=>?_) fun j hj k' hk=>?_
  ·obtain ⟨y,hy,rfl⟩:=IP.mp hx
   by_cases hfl:fl=true
   ·rw [if_pos hfl];exact fml y hy
   ·rw [if_neg hfl];exact m1
  ·by_cases hfl:fl=true
   ·have em:(R.map fun x=>if fl=true then fm F W x else 0)=R.map (fm F W):=Jn fun x _=>if_pos hfl;rw [em];refine Gz ptR (BY (μ:=fun s=>G.getD (S.idxOf s) 0) gt G' hlt m1 fml ms.e0 fun x hx s hs=>?_) hj hk;obtain ⟨i,hi⟩:=J3 (hpm.mem_iff.mp hx);have sil:=Jt hs;refine ms.cm hfl i x ?_ hi (S.idxOf s) s _ sil (by rw [IG sil,Ko]) (getD_some 0 (by omega))
    have:=(II.mp hi).1;omega
   ·have em:(R.map fun x=>if fl=true then fm F W x else 0)=Jg R.length 0:=by
     rw [<- List.map_const'];exact Jn fun x _=>if_neg hfl
    rw [em];exact E7
inductive yF (K:IC) (vs:List V) (H:Hp) (Q:VK) (E:XK):Prop
 | mk (v:V) (dp:Addr) (n e:Nat) (t:List (List Nat)) (R:List Nat) (_:vs=[v,.ref dp]) (_:At K H v t) (_:GT n t e) (_:H dp=some (.lst (aH R))) (_:IsPart n t R) (_:∀ ds H' ps,aj H H'->Tbl H' ds (ba t R) ps->Q (.ref ds) H')
def jX (T:Txt K mg):aN P w K mg base CX0 1 T.eT.f T.eT.fd ["_law_table","_law_part"] (yF K):=by
 exists T.eT.ok kj
 ·obtain ⟨v,dp,n,e,t,R,rfl,_⟩:=h;rfl
 obtain ⟨v,dp,n,e,t,R,rfl,hT,gt,h1,pt,q⟩:=h;have n23:=gt.le;have rl:=pt.len;refine ⟨_,(ae (ao (i:=2) kj.nd rfl (IQ rfl) (cq aa))
   (ae (bo IW rfl (aT K rfl (pv 1)) (au (i:=3) kj.nd rfl (Lb rfl)) (af (bq (c9 K rfl Jo Jz JA cc (pv 2) (paF (bE rfl md (aT K rfl (pv 1)) (fun _ _ _ _=>⟨(au (i:=0) md.nd rfl (IQ rfl)),bb,(c9 K rfl Jo LJ MZ xQ (pv 2) (paF (aq (ai K rfl) (aq (ai K rfl) (pv 3) (pv 1) (fun _ _=>rfl)) (pv 0) (fun _ _=>rfl)) aa))⟩)) aa)))))
   (af (aL (pv 2))))),?_⟩
 walk_at "5";refine ⟨small (by show 0<=1000;decide),fun ds hds=>?_⟩
 have s0:=aE hds (.lst []);have t0:Tbl (upd H ds (.lst [])) ds [] []:=Tbl.nil;generalize upd H ds (.lst [])=H0 at s0 t0;walk_at "rn";refine qi (H₀:=H) (α:=Nat) (bA h1) (fun i σ' H'=>aj H H'/\∃ (ps:List Addr) (x3:Option V),Tbl H' ds ((ba t R).take i) ps/\σ'=[some v,some (.ref dp),some (.ref ds),x3]) ⟨s0,[],_,t0,rfl⟩ (fun i σ' H' z=>z.1) ?_ ?_
 ·rintro i a w' σ' H1 ha hw ⟨s1,ps,x3,tb1,rfl⟩;cases (show w'=V.int (a:Int) from hw);have haR:=IH ha;have han:=pt.lt a haR;have il:=(II.mp ha).1;have h11:=s1 _ _ h1;walk_at "rn";refine ⟨.inl ⟨rfl,_,SqL.of tb1.top⟩,?_⟩;walk_at "rn";refine fv (α:=Nat) (β:=Nat) (bA h11) (by omega) (fun j=>(R.map fun b=>R.idxOf (tb t a b)).take j) (fun σ'=>∃ y,σ'=[y,some (.int (a:Int)),some (.ref dp),some v]) rfl (fun i _=>by rw [Je];omega) ⟨_,rfl⟩ ?_ ?_
  ·rintro j b w2 σ' H3 d3 R3 R03 hb hs3 hw2 ⟨y,rfl⟩ hR3 hR03 hd3;cases (show w2=V.int (b:Int) from hw2);have hbR:=IH hb;have hbn:=pt.lt b hbR;have h13:=hs3 _ _ h11;have hT3:=Rep.mono (s1.trans hs3) hT;have hab:=pt.cl a haR b hbR;walk_at "rn";refine ⟨.inl ⟨rfl,_,SqL.of h13⟩,?_⟩;walk_at "rn";refine c7 hT3 rfl (gt.get han) fun w1 hw1=>?_;walk_at "rn";refine br hw1 (gt.dF han hbn) ?_;walk_at "rn";refine zA h13 (tN hab) (fun i' hi'=>nL hi') ?_;exact hR3 _ _ _ _ ⟨_,rfl⟩ (aj.refl _) rfl (by rw [Js,IJ,hb];rfl)
  intro dr H3 hdr s3 h3;have g3:Gr K H3 dr ((R.map fun b=>R.idxOf (tb t a b)).take R.length):=h3;rw [Jh (by simp)] at g3
  have nd:dr≠ds:=(eJ tb1.top hdr).symm;have np:dr∉ps:=fun z=>by
   obtain ⟨k,hk⟩:=J3 z;have hk':k<((ba t R).take i).length:=by rw [<- tb1.len];exact (II.mp hk).1
   have:=tb1.row k dr _ hk (IG hk');rw [hdr] at this;cases this
  have ql:ps.length<=23:=by rw [tb1.len,Je];omega
  walk_at "rn";refine ⟨ds,_,_,rfl,rfl,s3 _ _ tb1.top,JT (show (ps.map V.ref).length<=1000 by rw [IE];omega) (by rw [Kc];decide),?_⟩
  refine ⟨mV hds (s1.trans s3),ps++[dr],_,?_,rfl⟩;have:=tb1.snoc s3 (dU g3) np nd;have et:(ba t R).take (i+1)=(ba t R).take i++[R.map fun b=>R.idxOf (tb t a b)]:=by
   unfold ba;rw [Js,IJ,ha];rfl
  rw [et];exact this
 ·rintro σ' H1 ⟨s1,ps,x3,tb1,rfl⟩;rw [Jh (by unfold ba;simp)] at tb1
  walk_at "rn";exact q ds H1 ps s1 tb1
end
section
def ls (l:List Nat) (f:Nat->Nat):Nat:=(l.map f).sum
def bJ {x:Nat} {l:List Nat} {f:Nat->Nat}:ls (x :: l) f=f x+ls l f:=by unfold ls;rw [JL,List.sum_cons]
def oG {f g:Nat->Nat}:∀ {l:List Nat},ls l (fun x=>f x+g x)=ls l f+ls l g
 | []=>rfl
 | x :: l=>by rw [bJ,bJ,bJ,oG];omega
def aZ {f g:Nat->Nat} {l:List Nat} (h:∀ x∈l,f x=g x):ls l f=ls l g:=by unfold ls;rw [Jn h]
def dC {f:Nat->Nat}:∀ {l:List Nat},(∀ x∈l,f x=0)->ls l f=0
 | [],_=>rfl
 | x :: l,h=>by rw [bJ,h x IT,dC fun y hy=>h y (IM _ hy)]
def qZ {f:Nat->Nat} {l l':List Nat}:ls (l++l') f=ls l f+ls l' f:=by unfold ls;rw [JO,List.sum_append]
def zy {f:Nat->Nat} {l:List Nat} {i x:Nat} (h:l[i]?=some x):ls (l.take (i+1)) f=ls (l.take i) f+f x:=by
 rw [Js,h,qZ];show _+ls [x] f=_;rw [bJ];rfl
def lh {p:Nat->Bool} {f:Nat->Nat}:∀ {l:List Nat},(∀ x∈l,p x=false->f x=0)->ls (l.filter p) f=ls l f
 | [],_=>rfl
 | x :: l,h=>by
  have ih:=lh (p:=p) (f:=f) (l:=l) fun y hy=>h y (IM _ hy);cases c:p x with
  | true=>rw [LM c,bJ,bJ,ih]
  | false=>rw [K9 (by rw [c];exact Jd),bJ,h x IT c,ih,JU]
def yh {f:Nat->Nat} {a:Nat}:∀ {m:Nat},ls (IF m) (fun k=>if k=a then f k else 0)=if a<m then f a else 0
 | 0=>rfl
 | m+1=>by
  rw [K5,qZ,yh,bJ];show _+((if m=a then f m else 0)+0)=_;rcases Kx a m with z|z|z
  ·rw [if_pos z,if_neg (by omega),if_pos (by omega)];omega
  ·rw [if_neg (by omega),if_pos z.symm,if_pos (by omega),z];omega
  ·rw [if_neg (by omega),if_neg (by omega),if_neg (by omega)]
def stT:List (Nat×Nat)->Nat->Nat->Nat
 | [],_,_=>0
 | x :: r,i,k=>(if x=(i,k) then 1 else 0)+stT r (i+1) k
def uJ (k:Nat):∀ (r s:List (Nat×Nat)) (i:Nat),stT (r++s) i k=stT r i k+stT s (i+r.length) k
 | [],s,i=>by show stT s i k=0+stT s (i+0) k;rw [JU,Kt]
 | x :: r,s,i=>by
  show (if x=(i,k) then 1 else 0)+stT (r++s) (i+1) k=(if x=(i,k) then 1 else 0)+stT r (i+1) k+stT s (i+(r.length+1)) k;rw [uJ k r s,show i+1+r.length=i+(r.length+1) by omega]
  omega
def CB (k:Nat):∀ (r:List (Nat×Nat)) (i:Nat),stT r i k<=r.length
 | [],_=>IV _
 | x :: r,i=>by
  have:=CB k r (i+1);show (if x=(i,k) then 1 else 0)+stT r (i+1) k<=r.length+1
  split <;> omega
def C2 {acc:List Nat} {i k:Nat} {x:Nat×Nat} (hk:k<acc.length) (hx:x.2<acc.length):(gR acc i x).getD k 0=acc.getD k 0+if x=(i,k) then 1 else 0:=by
 obtain ⟨x1,x2⟩:=x;unfold gR
 by_cases h1:x1=i
 ·rw [if_pos h1]
  by_cases h2:x2=k
  ·subst h1 h2;rw [if_pos rfl,ID,Ke hk];rfl
  ·rw [if_neg (fun z=>h2 (congrArg Prod.snd z)),ID,Kp h2,ID];rfl
 ·rw [if_neg h1,if_neg (fun z=>h1 (congrArg Prod.fst z))];rfl
def yN {k:Nat}:∀ (r:List (Nat×Nat)) (i:Nat) (acc:List Nat),k<acc.length->(∀ y∈r,y.2<acc.length)->(jA r i acc).getD k 0=acc.getD k 0+stT r i k
 | [],_,_,_,_=>rfl
 | x :: r,i,acc,hk,h=>by
  show (jA r (i+1) (gR acc i x)).getD k 0=_+((if x=(i,k) then 1 else 0)+stT r (i+1) k);rw [yN r (i+1) _ (by rw [qw];exact hk) (fun y hy=>by rw [qw];exact h y (IM _ hy)),C2 hk (h x IT)]
  omega
def fV {m:Nat} {r:List (Nat×Nat)} (h:∀ y∈r,y.2<m):cnt m r=(IF m).map (stT r 0):=by
 refine Ld (by rw [uh,IE,Jb]) fun k h1 h2=>?_
 rw [uh] at h1;have:=yN (k:=k) r 0 (Jg m 0) (by rw [KY];exact h1) (fun y hy=>by rw [KY];exact h y hy)
 rw [ID,IG (by rw [qb,KY];exact h1),ID,MQ,if_pos h1] at this
 rw [Lx,Mp];exact (show (jA r 0 (Jg m 0))[k]'_=0+stT r 0 k from this).trans (JU _)
def CO {z a b i j:Nat} (hb:b<z) (hj:j<z):a * z+b=i * z+j↔a=i/\b=j:=by
 constructor
 ·intro h;have h1:=congrArg (· / z) h;have h2:=congrArg (· % z) h;simp only [Kd _ z,Nat.mul_add_div (show 0<z by omega),Nat.mul_add_mod,JZ hb,JZ hj,JE hb,JE hj] at h1 h2
  exact ⟨by omega,h2⟩
 ·rintro ⟨rfl,rfl⟩;rfl
def z8 {z b i k:Nat}:∀ (s:List (Nat×Nat)) (j:Nat),(∀ y∈s,y.1<z)->j+s.length<=z->stT (s.map fun y=>(b * z+y.1,y.2)) (i * z+j) k=if b=i then stT s j k else 0
 | [],_,_,_=>by show 0=if b=i then 0 else 0;split <;> rfl
 | y :: s,j,h,hl=>by
  show (if (b * z+y.1,y.2)=(i * z+j,k) then 1 else 0)+stT (s.map fun y=>(b * z+y.1,y.2)) (i * z+j+1) k=if b=i then (if y=(j,k) then 1 else 0)+stT s (j+1) k else 0;rw [Jp] at hl;rw [K0,z8 s (j+1) (fun x hx=>h x (IM _ hx)) (by omega)]
  have hy:=h y IT;obtain ⟨y1,y2⟩:=y
  replace hy:y1<z:=hy
  have e:=CO (a:=b) (i:=i) hy (show j<z by omega)
  by_cases c:b=i
  ·rw [if_pos c,if_pos c]
   congr 1
   by_cases d:(y1,y2)=(j,k)
   ·injection d with d1 d2;rw [if_pos (by rw [c,d1,d2]),if_pos (by rw [d1,d2])]
   ·rw [if_neg d,if_neg fun q=>d (by injection q with q1 q2;rw [(e.mp q1).2,show y2=k from q2])]
  ·rw [if_neg c,if_neg c,if_neg fun q=>c (by injection q with q1 q2;exact (e.mp q1).1)]
def yO {k z:Nat} {G:Nat->List (Nat×Nat)} {v:Nat->Nat}:∀ (l:List Nat) (i:Nat),(∀ x∈l,(G x).length=z)->(∀ (j x:Nat),l[j]?=some x->stT (G x) ((i+j) * z) k=v x)->stT (l.flatMap G) (i * z) k=ls l v
 | [],_,_,_=>rfl
 | x :: l,i,h,hv=>by
  rw [J1,uJ,h x IT,bJ,show i * z+z=(i+1) * z by rw [Ky],yO l (i+1) (fun y hy=>h y (IM _ hy)) fun j y hy=>by rw [show i+1+j=i+(j+1) by omega];exact hv (j+1) y hy]
  rw [show stT (G x) (i * z) k=v x from hv 0 x rfl]
def De (n:Nat) (t:List (List Nat)) (e:Nat) (R:List Nat) (T:List (List Nat)) (m a:Nat) (cs:List Nat):List Nat:=(IF m).map fun k=>ls cs fun c=>if cj n t e c a∈R then (T.getD (R.idxOf (cj n t e c a)) []).getD k 0 else 0
def Du (n:Nat) (t:List (List Nat)) (e:Nat) (R:List Nat) (T:List (List Nat)) (m:Nat):List (List Nat):=(IF n).map fun a=>De n t e R T m a (aG n t e R)
def CC {n e m z:Nat} {t:List (List Nat)} {R:List Nat} {D:List (List (Nat×Nat))} (gt:GT n t e) (pt:IsPart n t R) (wo:WOk R.length m z D) (hl:∀ r∈D,∀ y∈r,y.1<z):(bN n t e R D z).map (cnt m)=Du n t e R (D.map (cnt m)) m:=by
 unfold bN dR Du De;rw [J4,J4];refine Jn fun a ha=>?_;have han:=IK.mp ha;have row:∀ c∈aG n t e R,∃ r,r∈D/\D[R.idxOf (ov n t e R (tb t a c))]?=some r/\D.getD (R.idxOf (ov n t e R (tb t a c))) []=r:=fun c hc=>by
  obtain ⟨_,_,_,_,h4⟩:=jP gt pt (gt.lt a c han (a9 hc));obtain ⟨r,h1,h2,h3⟩:=wo.get (aK h4).1;exact ⟨r,h2,h1,h3⟩
 show cnt m (bL D z ((aG n t e R).map fun c=>(hm n t e R (tb t a c),R.idxOf (ov n t e R (tb t a c)))))=_;have e0:bL D z ((aG n t e R).map fun c=>(hm n t e R (tb t a c),R.idxOf (ov n t e R (tb t a c))))=(aG n t e R).flatMap fun c=>(D.getD (R.idxOf (ov n t e R (tb t a c))) []).map fun y=>(hm n t e R (tb t a c) * z+y.1,y.2):=by
  unfold bL;rw [List.flatMap_map]
 rw [e0,fV]
 ·refine Jn fun k hk=>?_;have hkm:=IK.mp hk;have:=yO (k:=k) (z:=z) (G:=fun c=>(D.getD (R.idxOf (ov n t e R (tb t a c))) []).map fun y=>(hm n t e R (tb t a c) * z+y.1,y.2)) (v:=fun c=>if cj n t e c a∈R then ((D.map (cnt m)).getD (R.idxOf (cj n t e c a)) []).getD k 0 else 0) (aG n t e R) 0 (fun c hc=>by
   obtain ⟨r,h1,_,h3⟩:=row c hc;rw [IE,h3];exact wo.row r h1) fun j c hj=>by
   obtain ⟨r,h1,h2,h3⟩:=row c (IH hj);rw [h3,JU];have:=z8 (z:=z) (b:=hm n t e R (tb t a c)) (i:=j) (k:=k) r 0 (hl r h1) (by rw [wo.row r h1];omega)
   rw [Kt] at this;rw [this];have si:=Eo gt pt han hj
   by_cases q:hm n t e R (tb t a c)=j
   ·rw [if_pos q,if_pos (si.mp q),<- Fx gt pt han hj q,ID (l:=D.map (cnt m)),IJ,h2];show _=(cnt m r).getD k 0;rw [fV (wo.lt r h1),ID,IJ,Jv hkm];rfl
   ·rw [if_neg q,if_neg fun y=>q (si.mpr y)]
  rw [K2] at this;exact this
 ·intro y hy;obtain ⟨c,hc,hy2⟩:=KD.mp hy;obtain ⟨y0,hy0,rfl⟩:=IP.mp hy2;obtain ⟨r,h1,_,h3⟩:=row c hc;rw [h3] at hy0;exact wo.lt r h1 y0 hy0
def cvC (m:Nat) (f g:Nat->Nat) (J K:List Nat) (c:Nat):Nat:=ls J fun j=>ls K fun k=>if c=(j+k) % m then f j * g k else 0
def zE {m z i c x2:Nat} {x1:Nat}:∀ (s:List (Nat×Nat)) (j:Nat),(∀ y∈s,y.1<z/\y.2<m)->j+s.length<=z->stT (s.map fun y=>(x1 * z+y.1,(x2+y.2) % m)) (i * z+j) c=if x1=i then ls (IF m) (fun k=>if c=(x2+k) % m then stT s j k else 0) else 0
 | [],_,_,_=>by
  rw [dC fun k _=>by show (if c=(x2+k) % m then 0 else 0)=0;split <;> rfl]
  split <;> rfl
 | y :: s,j,h,hl=>by
  rw [Jp] at hl;show (if (x1 * z+y.1,(x2+y.2) % m)=(i * z+j,c) then 1 else 0)+stT (s.map fun y=>(x1 * z+y.1,(x2+y.2) % m)) (i * z+j+1) c=if x1=i then ls (IF m) (fun k=>if c=(x2+k) % m then (if y=(j,k) then 1 else 0)+stT s (j+1) k else 0) else 0;rw [K0,zE s (j+1) (fun x hx=>h x (IM _ hx)) (by omega)]
  obtain ⟨hy1,hy2⟩:=h y IT;obtain ⟨y1,y2⟩:=y
  replace hy1:y1<z:=hy1
  replace hy2:y2<m:=hy2
  have e:=CO (a:=x1) (i:=i) hy1 (show j<z by omega)
  by_cases q:x1=i
  ·rw [if_pos q,if_pos q];have e2:ls (IF m) (fun k=>if c=(x2+k) % m then (if (y1,y2)=(j,k) then 1 else 0)+stT s (j+1) k else 0)=ls (IF m) (fun k=>if k=y2 then (if y1=j/\c=(x2+k) % m then 1 else 0) else 0)+ls (IF m) (fun k=>if c=(x2+k) % m then stT s (j+1) k else 0):=by
    rw [<- oG];refine aZ fun k _=>?_
    by_cases c1:c=(x2+k) % m
    ·rw [if_pos c1,if_pos c1]
     congr 1
     by_cases c2:(y1,y2)=(j,k)
     ·injection c2 with d1 d2;rw [if_pos (by rw [d1,d2]),if_pos d2.symm,if_pos ⟨d1,c1⟩]
     ·rw [if_neg c2]
      by_cases c3:k=y2
      ·rw [if_pos c3,if_neg fun w=>c2 (by rw [w.1,c3])]
      ·rw [if_neg c3]
    ·rw [if_neg c1,if_neg c1]
     by_cases c3:k=y2
     ·rw [if_pos c3,if_neg fun w=>c1 w.2]
     ·rw [if_neg c3]
   rw [e2,yh,if_pos hy2]
   congr 1
   by_cases c1:y1=j/\c=(x2+y2) % m
   ·rw [if_pos c1,if_pos (by rw [q,c1.1,<- c1.2])]
   ·rw [if_neg c1,if_neg fun w=>c1 (by injection w with w1 w2;exact ⟨(e.mp w1).2,w2.symm⟩)]
  ·rw [if_neg q,if_neg q,if_neg fun w=>q (by injection w with w1 w2;exact (e.mp w1).1)]
def ub {m c:Nat} {s:List (Nat×Nat)} (hs:∀ y∈s,y.1<s.length/\y.2<m):∀ (r:List (Nat×Nat)) (i:Nat),(∀ y∈r,y.2<m)->stT (cg m r s) (i * s.length) c=cvC m (stT r i) (stT s 0) (IF m) (IF m) c
 | [],i,_=>by
  unfold cvC;rw [dC fun j _=>dC fun k _=>by show (if c=(j+k) % m then 0 * stT s 0 k else 0)=0;rw [K2];split <;> rfl]
  rfl
 | x :: r,i,h=>by
  have e0:cg m (x :: r) s=(s.map fun y=>(x.1 * s.length+y.1,(x.2+y.2) % m))++cg m r s:=by unfold cg;rw [J1]
  rw [e0,uJ,IE,show i * s.length+s.length=(i+1) * s.length by rw [Ky],ub hs r (i+1) fun y hy=>h y (IM _ hy)]
  have hx:=h x IT;obtain ⟨x1,x2⟩:=x;have b:=zE (m:=m) (z:=s.length) (i:=i) (c:=c) (x1:=x1) (x2:=x2) s 0 hs (by omega)
  rw [Kt] at b;rw [b];unfold cvC;have e1:ls (IF m) (fun j=>ls (IF m) fun k=>if c=(j+k) % m then stT ((x1,x2) :: r) i j * stT s 0 k else 0)=ls (IF m) (fun j=>if j=x2 then (if x1=i then ls (IF m) (fun k=>if c=(j+k) % m then stT s 0 k else 0) else 0) else 0)+ls (IF m) (fun j=>ls (IF m) fun k=>if c=(j+k) % m then stT r (i+1) j * stT s 0 k else 0):=by
   rw [<- oG];refine aZ fun j _=>?_
   by_cases c2:(x1,x2)=(i,j)
   ·injection c2 with d1 d2;rw [if_pos d2.symm,if_pos d1,<- oG];refine aZ fun k _=>?_;show (if c=(j+k) % m then ((if (x1,x2)=(i,j) then 1 else 0)+stT r (i+1) j) * stT s 0 k else 0)=_;rw [show (if (x1,x2)=(i,j) then 1 else 0)=1 from if_pos (by rw [d1,d2]),Nat.add_mul,Nat.one_mul]
    split <;> rfl
   ·have e2:(if j=x2 then (if x1=i then ls (IF m) (fun k=>if c=(j+k) % m then stT s 0 k else 0) else 0) else 0)=0:=by
     by_cases c3:j=x2
     ·rw [if_pos c3,if_neg fun w=>c2 (by rw [w,c3])]
     ·rw [if_neg c3]
    rw [e2,JU];refine aZ fun k _=>?_;show (if c=(j+k) % m then ((if (x1,x2)=(i,j) then 1 else 0)+stT r (i+1) j) * stT s 0 k else 0)=_;rw [show (if (x1,x2)=(i,j) then 1 else 0)=0 from if_neg c2,JU]
  rw [e1,yh,if_pos hx]
def set_range {m a v:Nat} {F:Nat->Nat} (ha:a<m):((IF m).map F).set a (F a+v)=(IF m).map fun c=>F c+if c=a then v else 0:=by
 refine Ld (by simp) fun k h1 h2=>?_
 rw [List.getElem_set,Lx,Lx,Mp]
 by_cases c:a=k
 ·rw [if_pos c,if_pos c.symm,c]
 ·rw [if_neg c,if_neg fun q=>c q.symm];rfl
end
section
def dA (D:List (List (Nat×Nat))) (a p:Nat):Nat×Nat:=(D.getD a []).getD p (0,0)
def AI (m:Nat) (x y:Nat×Nat):Nat×Nat:=(x.1,(x.2+y.2) % m)
structure cB (n:Nat) (t:List (List Nat)) (e m z:Nat) (D:List (List (Nat×Nat))):Prop where
 lt:∀ a,a<n->∀ p,p<z->(dA D a p).1<z
 mul:∀ a,a<n->∀ b,b<n->∀ p,p<z->dA D (tb t a b) p=AI m (dA D a (dA D b p).1) (dA D b p)
 one:∀ p,p<z->dA D e p=(p,0)
def WOk.rows {n m z a:Nat} {D:List (List (Nat×Nat))} {r:List (Nat×Nat)} (h:WOk n m z D) (hr:D[a]?=some r):r=(IF z).map (dA D a):=by
 have e1:D.getD a []=r:=by rw [ID,hr];rfl
 have hl:=h.row r (IH hr);refine Ld (by rw [IE,Jb,hl]) fun k h1 h2=>?_
 rw [Lx,Mp];unfold dA;rw [e1,ID,IG h1];rfl
def WOk.xY {n m z a p:Nat} {D:List (List (Nat×Nat))} (h:WOk n m z D) (ha:a<n) (hp:p<z):∃ r,r∈D/\D[a]?=some r/\r[p]?=some (dA D a p):=by
 obtain ⟨r,h1,h2,h3⟩:=h.get ha;refine ⟨r,h2,h1,?_⟩;rw [h.rows h1,IJ,Jv hp];rfl
def cB.pl {n e m z:Nat} {t:List (List Nat)} {D:List (List (Nat×Nat))} (h:cB n t e m z D) (wo:WOk n m z D):∀ r∈D,∀ y∈r,y.1<z:=fun r hr y hy=>by
 obtain ⟨a,ha⟩:=J3 hr;have han:a<n:=by rw [<- wo.len];exact (II.mp ha).1
 rw [wo.rows ha] at hy;obtain ⟨p,hp,rfl⟩:=IP.mp hy;exact h.lt a han p (IK.mp hp)
def AW {D:List (List (Nat×Nat))} {a p:Nat} {r:List (Nat×Nat)} {x:Nat×Nat} (h:D[a]?=some r) (hx:r[p]?=some x):dA D a p=x:=by
 unfold dA;rw [show D.getD a []=r by rw [ID,h];rfl,ID,hx]
 rfl
def qe {α β:Type} {G:α->List β} {z j:Nat} (hj:j<z) {x:α}:∀ {l:List α} {i:Nat},(∀ y∈l,(G y).length=z)->l[i]?=some x->(l.flatMap G)[i * z+j]?=(G x)[j]?
 | [],_,_,h=>by cases h
 | y :: l,0,hl,h=>by
  cases h;rw [K2,JU,J1,Jk (by rw [hl _ IT];exact hj)]
 | y :: l,i+1,hl,h=>by
  have hy:=hl y IT;rw [J1,Jl (by rw [hy,Ky];omega),hy,show (i+1) * z+j - z=i * z+j by rw [Ky];omega]
  exact qe hj (fun w hw=>hl w (IM _ hw)) h
def By {a b l z:Nat} (ha:a<l) (hb:b<z):a * z+b<l * z:=by
 have:(a+1) * z<=l * z:=KG _ ha;rw [Ky] at this;omega
def lQ {l z p:Nat} (h:p<l * z):∃ i j,i<l/\j<z/\p=i * z+j:=by
 have z1:0<z:=Nat.pos_of_ne_zero fun y=>by rw [y,KL] at h;omega
 exact ⟨p / z,p % z,(Nat.div_lt_iff_lt_mul z1).mpr h,Jj _ z1,by have:=Lk p z;rw [Kd] at this;exact this.symm⟩
def Iz {a b c d m:Nat}:((a+b) % m+(c+d) % m) % m=((a+c) % m+(b+d) % m) % m:=by
 rw [<- MX,<- MX]
 congr 1
 omega
def cB.cro {n e m z z':Nat} {t:List (List Nat)} {D E:List (List (Nat×Nat))} (gt:GT n t e) (h:cB n t e m z D) (h':cB n t e m z' E) (wo:WOk n m z D) (wo':WOk n m z' E):cB n t e m (z * z') (ju n m D E):=by
 have a1:∀ a,a<n->∀ i,i<z->∀ j,j<z'->dA (ju n m D E) a (i * z'+j)=((dA D a i).1 * z'+(dA E a j).1,((dA D a i).2+(dA E a j).2) % m):=fun a ha i hi j hj=>by
  obtain ⟨r,h1,h2,h3⟩:=wo.xY ha hi;obtain ⟨r',h1',h2',h3'⟩:=wo'.xY ha hj;have hl:=wo'.row r' h1';refine AW (mJ ha) ?_;rw [show D.getD a []=r by rw [ID,h2];rfl,show E.getD a []=r' by rw [ID,h2'];rfl]
  unfold cg;rw [qe hj (fun y _=>by rw [IE,hl]) h3,IJ,h3',hl]
  rfl
 refine ⟨fun a ha p hp=>?_,fun a ha b hb p hp=>?_,fun p hp=>?_⟩
 ·obtain ⟨i,j,hi,hj,rfl⟩:=lQ hp;rw [a1 a ha i hi j hj];exact By (h.lt a ha i hi) (h'.lt a ha j hj)
 ·obtain ⟨i,j,hi,hj,rfl⟩:=lQ hp;rw [a1 _ (gt.lt a b ha hb) i hi j hj,a1 b hb i hi j hj,a1 a ha _ (h.lt b hb i hi) _ (h'.lt b hb j hj),h.mul a ha b hb i hi,h'.mul a ha b hb j hj];unfold AI;dsimp only;rw [Iz]
 ·obtain ⟨i,j,hi,hj,rfl⟩:=lQ hp;rw [a1 e gt.elt i hi j hj,h.one i hi,h'.one j hj];show (i * z'+j,(0+0) % m)=_;rw [Kt,Mo]
def cB.part {n e m z:Nat} {t:List (List Nat)} {R:List Nat} {D:List (List (Nat×Nat))} (gt:GT n t e) (pt:IsPart n t R) (h:cB n t e m z D):cB R.length (ba t R) (R.idxOf e) m z (cF D R):=by
 have a1:∀ a,a<R.length->∀ p,dA (cF D R) a p=dA D (R.getD a 0) p:=fun a ha p=>by
  unfold dA cF;rw [ID (l:=R.map _),IJ,getD_some 0 ha];rfl
 have lt:∀ a,a<R.length->R.getD a 0<n:=fun a ha=>pt.lt _ (bH pt ha).1;refine ⟨fun a ha p hp=>?_,fun a ha b hb p hp=>?_,fun p hp=>?_⟩
 ·rw [a1 a ha p];exact h.lt _ (lt a ha) p hp
 ·have hc:=pt.cl _ (bH pt ha).1 _ (bH pt hb).1;rw [j7 pt ha hb,a1 _ (aK hc).1 p,(aK hc).2,a1 b hb p,a1 a ha];exact h.mul _ (lt a ha) _ (lt b hb) p hp
 ·rw [a1 _ (aK (pt.un gt)).1 p,(aK (pt.un gt)).2];exact h.one p hp
def cB.rai {n e m z:Nat} {t:List (List Nat)} {R:List Nat} {D:List (List (Nat×Nat))} (gt:GT n t e) (pt:IsPart n t R) (wo:WOk R.length m z D) (h:cB R.length (ba t R) (R.idxOf e) m z D):cB n t e m ((aG n t e R).length * z) (bN n t e R D z):=by
 have a1:∀ a,a<n->∀ i c,(aG n t e R)[i]?=some c->∀ j,j<z->dA (bN n t e R D z) a (i * z+j)=(hm n t e R (tb t a c) * z+(dA D (R.idxOf (ov n t e R (tb t a c))) j).1,(dA D (R.idxOf (ov n t e R (tb t a c))) j).2):=fun a ha i c hc j hj=>by
  have mv:=jS gt pt ha;have cn:=a9 (IH hc);obtain ⟨_,_,_,_,h4⟩:=jP gt pt (gt.lt a c ha cn);obtain ⟨r,h1,h2,h3⟩:=wo.xY (aK h4).1 hj;refine AW (kJ ha) ?_;unfold bL;rw [qe hj (x:=(hm n t e R (tb t a c),R.idxOf (ov n t e R (tb t a c)))) (fun y hy=>?_) (by rw [IJ,hc];rfl),IJ]
  ·show (Option.map _ ((D.getD (R.idxOf (ov n t e R (tb t a c))) [])[j]?))=_;rw [show D.getD (R.idxOf (ov n t e R (tb t a c))) []=r by rw [ID,h2];rfl,h3]
   rfl
  ·obtain ⟨r',_,y2,y3⟩:=wo.get (mv y hy);rw [IE,y3];exact wo.row r' y2
 have ex:∀ i,i<(aG n t e R).length->∃ c,(aG n t e R)[i]?=some c/\c<n:=fun i hi=>⟨_,IG hi,a9 (Ks hi)⟩;have at':∀ {x:Nat},x∈R->R[R.idxOf x]?=some x:=fun hx=>by
  have:=aK hx;rw [getD_some 0 this.1,this.2]
 refine ⟨fun a ha p hp=>?_,fun a ha b hb p hp=>?_,fun p hp=>?_⟩
 ·obtain ⟨i,j,hi,hj,rfl⟩:=lQ hp;obtain ⟨c,hc,cn⟩:=ex i hi;obtain ⟨c',z1,_,_,z4⟩:=jP gt pt (gt.lt a c ha cn);rw [a1 a ha i c hc j hj];exact By (II.mp z1).1 (h.lt _ (aK z4).1 j hj)
 ·obtain ⟨i,j,hi,hj,rfl⟩:=lQ hp;obtain ⟨c,hc,cn⟩:=ex i hi;obtain ⟨c',k',z1,z2,_,z4⟩:=mw gt pt (gt.lt b c hb cn);have hR:=IH z2;have cn':=a9 (IH z1);obtain ⟨c2,k2,y1,y2,_,y4⟩:=mw gt pt (gt.lt a c' ha cn');have hR2:=IH y2;have cn2:=a9 (IH y1);have i1:=(aK hR).1;have i2:=(aK hR2).1;have hcl:=pt.cl _ hR2 _ hR;have hn:=pt.lt _ hR;have hn2:=pt.lt _ hR2;have key:=wK gt pt y1 (at' hcl) (x:=tb t (tb t a b) c) (by rw [<- gt.assoc _ _ _ cn2 hn2 hn,y4,gt.assoc _ _ _ ha cn' hn,z4,gt.assoc _ _ _ ha hb cn])
  have hq:=h.lt _ i1 j hj;rw [a1 _ (gt.lt a b ha hb) i c hc j hj,a1 b hb i c hc j hj,key.1,key.2,a1 a ha _ c' z1 _ hq];have mu:=h.mul _ i2 _ i1 j hj;rw [j7 pt i2 i1,(aK hR2).2,(aK hR).2] at mu;rw [mu];rfl
 ·obtain ⟨i,j,hi,hj,rfl⟩:=lQ hp;obtain ⟨c,hc,cn⟩:=ex i hi;have key:=wK gt pt hc (at' (pt.un gt)) (x:=tb t e c) (by rw [gt.unr c cn,gt.unl c cn])
  rw [a1 e gt.elt i c hc j hj,key.1,key.2,h.one j hj]
def t7 (R M:List Nat):List (List (Nat×Nat)):=(IF R.length).map fun a=>[(0,M.getD a 0)]
section
variable {n e m:Nat} {t:List (List Nat)} {R M:List Nat} (gt:GT n t e) (pt:IsPart n t R) (ml:M.length=R.length) (mm:∀ x∈M,x<m) (m1:0<m) (m60:m<=60) (ok:∀ j,j<R.length->∀ k,k<R.length->fD t R M m j k)
include ml mm m1 m60
theorem Fn:WOk R.length m 1 (t7 R M):=by
 refine ⟨by unfold t7;rw [IE,Jb],fun r hr=>?_,fun r hr y hy=>?_,m1,m60,by omega,IV _⟩
 ·obtain ⟨a,_,rfl⟩:=IP.mp hr;rfl
 ·obtain ⟨a,ha,rfl⟩:=IP.mp hr;rw [I0.mp hy];exact mm _ (IH (getD_some (l:=M) 0 (by rw [ml];exact IK.mp ha)))
omit m60 in
include gt pt ok in
theorem FL:cB R.length (ba t R) (R.idxOf e) m 1 (t7 R M):=by
 have a1:∀ a,a<R.length->dA (t7 R M) a 0=(0,M.getD a 0):=fun a ha=>by
  unfold t7;exact AW (by rw [IJ,Jv ha];rfl) rfl
 refine ⟨fun a ha p hp=>?_,fun a ha b hb p hp=>?_,fun p hp=>?_⟩
 ·cases (show p=0 by omega)
  rw [a1 a ha];exact Nat.one_pos
 ·cases (show p=0 by omega)
  have hc:=pt.cl _ (bH pt ha).1 _ (bH pt hb).1;rw [j7 pt ha hb,a1 _ (aK hc).1,a1 b hb,a1 a ha];unfold AI;rw [show M.getD (R.idxOf (tb t (R.getD a 0) (R.getD b 0))) 0=_ from ok a ha b hb]
 ·cases (show p=0 by omega)
  have hi:=(aK (pt.un gt)).1;rw [a1 _ hi];have h1:=ok _ hi _ hi;unfold fD at h1;rw [(aK (pt.un gt)).2,gt.unl e gt.elt] at h1;have h2:M.getD (R.idxOf e) 0<m:=mm _ (IH (getD_some (l:=M) 0 (by omega)))
  congr 1
  rcases JI (M.getD (R.idxOf e) 0+M.getD (R.idxOf e) 0) m with y|y
  ·rw [JE y] at h1;omega
  ·rw [Nat.mod_eq_sub_mod y,JE (by omega)] at h1;omega
include gt pt ok in
theorem DK:cB n t e m (aG n t e R).length (fH n t e R M):=by
 have:=cB.rai gt pt (Fn ml mm m1 m60) (FL gt pt ml mm m1 ok);rw [Nat.mul_one] at this;unfold t7 at this;rw [Dm gt pt] at this;exact this
include gt pt in
end
end
section
def zD {f:Nat->Nat} {l l':List Nat} (h:l.Perm l'):ls l f=ls l' f:=by
 induction h with
 | nil=>rfl
 | cons x _ ih=>rw [bJ,bJ,ih]
 | swap x y l=>rw [bJ,bJ,bJ,bJ];omega
 | trans _ _ a b=>exact a.trans b
def sF {f:Nat->Nat} {g:Nat->Nat} {l:List Nat}:ls (l.map g) f=ls l fun x=>f (g x):=by unfold ls;rw [J4];rfl
def zx {f:Nat->Nat} {G:Nat->List Nat}:∀ {l:List Nat},ls (l.flatMap G) f=ls l fun x=>ls (G x) f
 | []=>rfl
 | x :: l=>by rw [J1,qZ,bJ,zx]
def mT {c:Nat}:∀ {l:List Nat},ls l (fun _=>c)=l.length * c
 | []=>by rw [L9,K2];rfl
 | x :: l=>by rw [bJ,mT,Jp,Ky,KH]
def ow {f:Nat->Nat} {c:Nat}:∀ {l:List Nat},ls l (fun x=>c * f x)=c * ls l f
 | []=>rfl
 | x :: l=>by rw [bJ,bJ,ow,Md]
def iD {f:Nat->Nat->Nat} {l':List Nat}:∀ {l:List Nat},ls l (fun x=>ls l' fun y=>f x y)=ls l' fun y=>ls l fun x=>f x y
 | []=>(dC fun _ _=>rfl).symm
 | x :: l=>by
  rw [bJ,iD,<- oG];exact aZ fun y _=>by rw [bJ]
def xW {n:Nat} {σ f:Nat->Nat} (h1:∀ x,x<n->σ x<n) (h2:∀ x,x<n->∀ y,y<n->σ x=σ y->x=y):ls (IF n) (fun x=>f (σ x))=ls (IF n) f:=by
 rw [<- sF];have nd:((IF n).map σ).Nodup:=dO Ku fun x hx y hy q=>h2 x (IK.mp hx) y (IK.mp hy) q;have sub:∀ x∈(IF n).map σ,x∈IF n:=fun x hx=>by
  obtain ⟨y,hy,rfl⟩:=IP.mp hx;exact IK.mpr (h1 y (IK.mp hy))
 refine zD ((Lq nd Ku).mpr fun x=>⟨sub x,fun hx=>Kh fun no=>?_⟩);have:=sub_len (JS.mpr ⟨no,nd⟩) (l2:=IF n) fun y hy=>by
  rcases JB.mp hy with z|z
  ·rw [z];exact hx
  ·exact sub y z
 rw [Jp,IE,Jb] at this;omega
def CU {k:Nat}:∀ (r:List (Nat×Nat)) (i:Nat),stT r i k=ls (IF r.length) fun p=>if r.getD p (0,0)=(i+p,k) then 1 else 0
 | [],_=>rfl
 | x :: r,i=>by
  rw [Jp,List.range_succ_eq_map,bJ,sF];show (if x=(i,k) then 1 else 0)+stT r (i+1) k=(if x=(i,k) then 1 else 0)+_;rw [CU r (i+1)]
  congr 1
  exact aZ fun p _=>by rw [show i+1+p=i+(p+1) by omega];rfl
section
variable {n e m z:Nat} {t:List (List Nat)} {D:List (List (Nat×Nat))}
theorem WOk.stT (wo:WOk n m z D) {a:Nat} (ha:a<n) (k:Nat):stT (D.getD a []) 0 k=ls (IF z) fun p=>if dA D a p=(p,k) then 1 else 0:=by
 obtain ⟨r,h1,h2,h3⟩:=wo.get ha;rw [CU,h3,wo.row r h2];refine aZ fun p _=>?_;unfold dA;rw [h3,JU]
variable (h:cB n t e m z D) (wo:WOk n m z D) (gt:GT n t e)
include h wo gt
theorem cB.Er {x p:Nat} (hx:x<n) (hp:p<z):(dA D (a8 n t e x) (dA D x p).1).1=p/\((dA D (a8 n t e x) (dA D x p).1).2+(dA D x p).2) % m=0:=by
 have:=h.mul _ (gt.cM hx) _ hx p hp;rw [gt.uu hx,h.one p hp] at this;injection this with a b;exact ⟨a.symm,b.symm⟩
theorem cB.GW {x a p k:Nat} (hx:x<n) (ha:a<n) (hp:p<z) (hk:k<m) (hd:dA D a (dA D x p).1=((dA D x p).1,k)):dA D (cj n t e x a) p=(p,k):=by
 have hq:=h.lt x hx p hp;obtain ⟨b1,b2⟩:=h.Er wo gt hx hp;unfold cj;rw [h.mul _ (gt.lt _ _ (gt.cM hx) ha) _ hx p hp,h.mul _ (gt.cM hx) _ ha _ hq,hd];unfold AI;dsimp only;rw [b1]
 congr 1
 rw [Mc,show ∀ a b c:Nat,a+b+c=a+c+b from fun a b c=>by omega,MX,b2,JU,Nat.mod_mod,JE hk]
theorem cB.cls {x a:Nat} (hx:x<n) (ha:a<n):cnt m (D.getD (cj n t e x a) [])=cnt m (D.getD a []):=by
 have hc:=oN gt hx ha;have row:∀ a,a<n->∀ y∈D.getD a [],y.2<m:=fun a ha=>by
  obtain ⟨r,_,h2,h3⟩:=wo.get ha;rw [h3];exact wo.lt r h2
 have inv:∀ p,p<z->(dA D (a8 n t e x) (dA D x p).1).1=p:=fun p hp=>(h.Er wo gt hx hp).1;rw [fV (row _ hc),fV (row a ha)];refine Jn fun k hk=>?_;have hkm:=IK.mp hk;rw [wo.stT hc,wo.stT ha];refine (aZ fun p hp=>?_).trans (xW (σ:=fun p=>(dA D x p).1) (f:=fun p=>if dA D a p=(p,k) then 1 else 0) (h.lt x hx) fun p hp q hq y=>by rw [<- inv p hp,<- inv q hq];exact congrArg (fun q=>(dA D (a8 n t e x) q).1) y)
 have hpz:=IK.mp hp;have hq:=h.lt x hx p hpz;have bx:=gt.cM hx
 by_cases c:dA D a (dA D x p).1=((dA D x p).1,k)
 ·rw [if_pos c,if_pos (h.GW wo gt hx ha hpz hkm c)]
 ·rw [if_neg c,if_neg fun y=>c ?_];have:=h.GW wo gt (x:=a8 n t e x) (a:=cj n t e x a) (p:=(dA D x p).1) (k:=k) bx hc hq hkm (by rw [inv p hpz];exact y)
  rw [wx gt hx bx ha,gt.gk hx,G0 gt ha] at this;exact this
end
section
variable {n e:Nat} {t:List (List Nat)} {R:List Nat} (gt:GT n t e) (pt:IsPart n t R)
include gt pt
theorem Br:((aG n t e R).flatMap fun c=>R.map (tb t c)).Perm (IF n):=by
 have nd:((aG n t e R).flatMap fun c=>R.map (tb t c)).Nodup:=by
  refine Nz.mpr ⟨fun c hc=>?_,?_⟩
  ·exact dO (bF pt.srt) fun x hx y hy q=>gt.dD (a9 hc) (pt.lt x hx) (pt.lt y hy) q
  ·refine LA ?_ kz;intro a b ha hb ab x hx y hy q;obtain ⟨h,hh,rfl⟩:=IP.mp hx;obtain ⟨h',hh',q'⟩:=IP.mp hy;have xn:=gt.lt a h (a9 ha) (pt.lt h hh);have:=qu gt pt xn ha hb ((cX gt pt (a9 ha) xn).mpr ⟨h,hh,rfl⟩) ((cX gt pt (a9 hb) xn).mpr ⟨h',hh',q'.trans q.symm⟩);omega
 refine (Lq nd Ku).mpr fun x=>⟨fun hx=>?_,fun hx=>?_⟩
 ·obtain ⟨c,hc,hx'⟩:=KD.mp hx;obtain ⟨h,hh,rfl⟩:=IP.mp hx';exact IK.mpr (gt.lt c h (a9 hc) (pt.lt h hh))
 ·obtain ⟨c,h,hc,hh,q⟩:=FC gt pt (IK.mp hx);exact KD.mpr ⟨c,hc,IP.mpr ⟨h,hh,q⟩⟩
omit pt in
theorem ud {x a:Nat} (hx:x<n) (ha:a<n):cj n t e (a8 n t e x) (cj n t e x a)=a:=by rw [wx gt hx (gt.cM hx) ha,gt.gk hx,G0 gt ha]
theorem BO {x a:Nat} (hx:x∈R) (ha:a<n):cj n t e x a∈R↔a∈R:=⟨fun h=>by rw [<- ud gt (pt.lt x hx) ha];exact um gt pt (pt.bk gt hx) h,fun h=>um gt pt hx h⟩
theorem D5 {F:Nat->Nat} (hF:∀ h∈R,∀ b,b<n->F (cj n t e h b)=F b) {a:Nat} (ha:a<n):R.length * ls (aG n t e R) (fun c=>F (cj n t e c a))=ls (IF n) fun x=>F (cj n t e x a):=by
 rw [<- zD (Br gt pt),zx,<- ow];refine aZ fun c hc=>?_;rw [sF,<- mT];exact aZ fun h hh=>by rw [<- wx gt (a9 hc) (pt.lt h hh) ha,hF h hh _ (oN gt (a9 hc) ha)]
end
def trF (m:Nat) (R:List Nat) (D:List (List (Nat×Nat))) (k b:Nat):Nat:=if b∈R then (cnt m (D.getD (R.idxOf b) [])).getD k 0 else 0
section
variable {n e m z:Nat} {t:List (List Nat)} {R:List Nat} {D:List (List (Nat×Nat))} (gt:GT n t e) (pt:IsPart n t R) (wo:WOk R.length m z D) (ho:cB R.length (ba t R) (R.idxOf e) m z D)
include gt pt wo ho
theorem Fs {k h b:Nat} (hh:h∈R) (hb:b<n):trF m R D k (cj n t e h b)=trF m R D k b:=by
 have c:=BO gt pt hh hb;unfold trF
 by_cases q:b∈R
 ·obtain ⟨i1,i2⟩:=aK hh;obtain ⟨j1,j2⟩:=aK q;rw [if_pos q,if_pos (c.mpr q),<- BL gt pt hh q,ho.cls wo (fq gt pt) i1 j1]
 ·rw [if_neg q,if_neg fun y=>q (c.mp y)]
theorem o9 {a k:Nat} (ha:a<n) (hk:k<m):stT ((bN n t e R D z).getD a []) 0 k=ls (aG n t e R) fun c=>trF m R D k (cj n t e c a):=by
 have h1:=CC gt pt wo (ho.pl wo);have h2:=congrArg (fun l=>(l.getD a []).getD k 0) h1;have rn:(bN n t e R D z).length=n:=by unfold bN dR;rw [IE,IE,Jb]
 have gr:=kJ (D:=D) (z:=z) (t:=t) (e:=e) (R:=R) ha;rw [ID (l:=(bN n t e R D z).map _),IJ,gr] at h2;unfold Du De at h2;rw [ID (l:=(IF n).map _),IJ,Jv ha] at h2;rw [show (bN n t e R D z).getD a []=bL D z ((aG n t e R).map fun c=>(hm n t e R (tb t a c),R.idxOf (ov n t e R (tb t a c)))) by rw [ID,gr];rfl]
 have lt:∀ y∈bL D z ((aG n t e R).map fun c=>(hm n t e R (tb t a c),R.idxOf (ov n t e R (tb t a c)))),y.2<m:=fun y hy=>by
  unfold bL at hy;obtain ⟨x,hx,hx'⟩:=KD.mp hy;obtain ⟨y0,hy0,rfl⟩:=IP.mp hx';obtain ⟨r0,_,q2,q3⟩:=wo.get (jS gt pt ha x hx);rw [q3] at hy0;exact wo.lt r0 q2 y0 hy0
 replace h2:(cnt m (bL D z ((aG n t e R).map fun c=>(hm n t e R (tb t a c),R.idxOf (ov n t e R (tb t a c)))))).getD k 0=((IF m).map fun k=>ls (aG n t e R) fun c=>if cj n t e c a∈R then ((D.map (cnt m)).getD (R.idxOf (cj n t e c a)) []).getD k 0 else 0).getD k 0:=h2
 rw [fV lt,ID,IJ,Jv hk,ID,IJ,Jv hk] at h2;refine (show stT _ 0 k=_ from h2).trans (aZ fun c _=>?_);unfold trF
 by_cases q:cj n t e c a∈R
 ·rw [if_pos q,if_pos q];have il:=(aK q).1;rw [ID (l:=D.map _),IJ,ID (l:=D),IG (by rw [wo.len];exact il)]
  rfl
 ·rw [if_neg q,if_neg q]
theorem uy {a k:Nat} (ha:a<n) (hk:k<m):R.length * stT ((bN n t e R D z).getD a []) 0 k=ls (IF n) fun x=>trF m R D k (cj n t e x a):=by
 rw [o9 gt pt wo ho ha hk];exact D5 gt pt (fun h hh b hb=>Fs gt pt wo ho hh hb) ha
end
end
section
def zF {m:Nat} {r s:List (Nat×Nat)} (hr:∀ y∈r,y.2<m) (hs:∀ y∈s,y.2<m) (h:∀ k,k<m->stT r 0 k=stT s 0 k):cnt m r=cnt m s:=by
 rw [fV hr,fV hs];exact Jn fun k hk=>h k (IK.mp hk)
def ph {m k:Nat} {r:List (Nat×Nat)} (hr:∀ y∈r,y.2<m) (hk:k<m):(cnt m r).getD k 0=stT r 0 k:=by
 rw [fV hr,ID,IJ,Jv hk];rfl
def WOk.rlt {n m z a:Nat} {D:List (List (Nat×Nat))} (wo:WOk n m z D) (ha:a<n):∀ y∈D.getD a [],y.2<m:=by
 obtain ⟨r,_,h2,h3⟩:=wo.get ha;rw [h3];exact wo.lt r h2
def WOk.Ij {n m z a:Nat} {D:List (List (Nat×Nat))} (wo:WOk n m z D) (ha:a<n):(D.getD a []).length=z:=by
 obtain ⟨r,_,h2,h3⟩:=wo.get ha;rw [h3];exact wo.row r h2
def cB.stc {n e m z x a k:Nat} {t:List (List Nat)} {D:List (List (Nat×Nat))} (h:cB n t e m z D) (wo:WOk n m z D) (gt:GT n t e) (hx:x<n) (ha:a<n) (hk:k<m):stT (D.getD (cj n t e x a) []) 0 k=stT (D.getD a []) 0 k:=by
 rw [<- ph (wo.rlt (oN gt hx ha)) hk,<- ph (wo.rlt ha) hk,h.cls wo gt hx ha]
section
variable {n e:Nat} {t:List (List Nat)} {R L:List Nat} (gt:GT n t e) (pt:IsPart n t R) (p2:IsPart R.length (ba t R) L)
def up (R L:List Nat):List Nat:=L.map fun i=>R.getD i 0
include gt pt p2
omit gt in
theorem jd {b:Nat}:b∈up R L↔b∈R/\R.idxOf b∈L:=by
 unfold up;rw [IP];constructor
 ·rintro ⟨i,hi,rfl⟩;obtain ⟨h1,h2⟩:=bH pt (p2.lt i hi);exact ⟨h1,by rw [h2];exact hi⟩
 ·rintro ⟨h1,h2⟩;exact ⟨_,h2,(aK h1).2⟩
omit gt in
theorem Gn {i j:Nat} (hi:i∈L) (hj:j∈L) (q:R.getD i 0=R.getD j 0):i=j:=by
 rw [<- (bH pt (p2.lt i hi)).2,<- (bH pt (p2.lt j hj)).2,q]
theorem l6:IsPart n t (up R L):=by
 refine ⟨?_,fun x hx=>pt.lt x ((jd pt p2).mp hx).1,fun z=>p2.ne (List.map_eq_nil_iff.mp z),fun x hx y hy=>?_⟩
 ·unfold up;refine MG.mpr (LA ?_ p2.srt);intro a b ha hb ab;have h1:=p2.lt a ha;have h2:=p2.lt b hb;rw [ID,IG h1,ID,IG h2];exact Lu.mp pt.srt a b h1 h2 ab
 ·obtain ⟨x1,x2⟩:=(jd pt p2).mp hx;obtain ⟨y1,y2⟩:=(jd pt p2).mp hy;refine (jd pt p2).mpr ⟨pt.cl x x1 y y1,?_⟩;have:=p2.cl _ x2 _ y2;rw [j7 pt (aK x1).1 (aK y1).1,(aK x1).2,(aK y1).2] at this;exact this
omit gt in
theorem xK {b:Nat} (hb:b∈up R L):(up R L).idxOf b=L.idxOf (R.idxOf b):=by
 obtain ⟨h1,h2⟩:=(jd pt p2).mp hb;have il:=Jt h2;have nd:(up R L).Nodup:=dO (bF p2.srt) fun x hx y hy q=>Gn pt p2 hx hy q;have lu:L.idxOf (R.idxOf b)<(up R L).length:=by unfold up;rw [IE];exact il
 have e0:(up R L)[L.idxOf (R.idxOf b)]?=some b:=by
  unfold up;rw [IJ,IG il,Ko];exact congrArg some (aK h1).2
 have e1:=(II.mp e0).2;have:=nd.idxOf_getElem _ lu;rw [e1] at this;exact this
theorem yR:ba t (up R L)=ba (ba t R) L:=by
 unfold ba;rw [show (up R L).map (fun a=>(up R L).map fun b=>(up R L).idxOf (tb t a b))=L.map (fun i=>L.map fun j=>(up R L).idxOf (tb t (R.getD i 0) (R.getD j 0))) by unfold up;rw [J4];exact Jn fun i _=>by show N1 _ (N1 _ L)=_;rw [J4];rfl]
 refine Jn fun i hi=>Jn fun j hj=>?_;have i1:=p2.lt i hi;have j1:=p2.lt j hj;have hm:tb t (R.getD i 0) (R.getD j 0)∈up R L:=(l6 gt pt p2).cl _ (IP.mpr ⟨i,hi,rfl⟩) _ (IP.mpr ⟨j,hj,rfl⟩);rw [xK pt p2 hm]
 congr 1
 have:=j7 pt i1 j1;unfold ba at this;exact this.symm
theorem C6:(up R L).idxOf e=L.idxOf (R.idxOf e):=xK pt p2 ((l6 gt pt p2).un gt)
variable {m z:Nat} {D:List (List (Nat×Nat))} (wo:WOk L.length m z D) (ho:cB L.length (ba (ba t R) L) (L.idxOf (R.idxOf e)) m z D)
omit gt pt p2 in
theorem gU:(up R L).length=L.length:=by unfold up;rw [IE]
omit gt in
theorem GB {k c:Nat} (hc:c∈R):trF m L D k (R.idxOf c)=trF m (up R L) D k c:=by
 unfold trF
 by_cases q:R.idxOf c∈L
 ·have hu:=(jd pt p2).mpr ⟨hc,q⟩;rw [if_pos q,if_pos hu,xK pt p2 hu]
 ·rw [if_neg q,if_neg fun y=>q ((jd pt p2).mp y).2]
omit gt p2 in
theorem zB {f:Nat->Nat}:ls (IF R.length) f=ls R fun h=>f (R.idxOf h):=by
 rw [<- sF (g:=R.idxOf)]
 congr 1
 rw [map_getD];refine (List.map_id' _).symm.trans (Jn fun i hi=>?_);exact (bH pt (IK.mp hi)).2.symm
include wo ho
theorem zq {a k:Nat} (ha:a<n) (hk:k<m) (hz:(aG R.length (ba t R) (R.idxOf e) L).length * z<=1000) :
  stT ((bN n t e R (bN R.length (ba t R) (R.idxOf e) L D z) ((aG R.length (ba t R) (R.idxOf e) L).length * z)).getD a []) 0 k=stT ((bN n t e (up R L) D z).getD a []) 0 k:=by
 have g2:=fq gt pt;have wo1:=wo.rai g2 p2 hz;have ho1:=ho.rai g2 p2 wo;have s1:=uy gt pt wo1 ho1 ha hk;have pu:=l6 gt pt p2;have woU:WOk (up R L).length m z D:=by rw [gU];exact wo
 have hoU:cB (up R L).length (ba t (up R L)) ((up R L).idxOf e) m z D:=by rw [gU,yR gt pt p2,C6 gt pt p2];exact ho
 have s2:=uy gt pu woU hoU ha hk;have key:∀ b,b<n->L.length * trF m R (bN R.length (ba t R) (R.idxOf e) L D z) k b=ls R fun h=>trF m (up R L) D k (cj n t e h b):=fun b hb=>by
  by_cases q:b∈R
  ·obtain ⟨j1,j2⟩:=aK q;have s3:=uy g2 p2 wo ho j1 hk;rw [show trF m R (bN R.length (ba t R) (R.idxOf e) L D z) k b=stT ((bN R.length (ba t R) (R.idxOf e) L D z).getD (R.idxOf b) []) 0 k by unfold trF;rw [if_pos q,ph (wo1.rlt j1) hk],s3,zB pt]
   exact aZ fun h hh=>by rw [BL gt pt hh q,GB pt p2 (um gt pt hh q)]
  ·rw [show trF m R (bN R.length (ba t R) (R.idxOf e) L D z) k b=0 by unfold trF;rw [if_neg q],KL]
   refine (dC fun h hh=>?_).symm;unfold trF;rw [if_neg fun y=>q ((BO gt pt hh hb).mp ((jd pt p2).mp y).1)]
 have all:L.length * ls (IF n) (fun x=>trF m R (bN R.length (ba t R) (R.idxOf e) L D z) k (cj n t e x a))=R.length * ls (IF n) fun x=>trF m (up R L) D k (cj n t e x a):=by
  rw [<- ow,<- mT (l:=R),aZ (fun x hx=>key _ (oN gt (IK.mp hx) ha)),iD];refine aZ fun h hh=>?_;have hn:=pt.lt h hh;refine (aZ fun x hx=>?_).trans (xW (σ:=fun x=>tb t x h) (f:=fun x=>trF m (up R L) D k (cj n t e x a)) (fun x hx=>gt.lt x h hx hn) fun x hx y hy q=>gt.CY hn hx hy q);rw [wx gt (IK.mp hx) hn ha]
 rw [<- s1,<- s2,gU] at all;have r1:0<R.length:=Jw.mpr pt.ne;have l1:0<L.length:=Jw.mpr p2.ne;refine Mt (J8 l1 r1) ?_;rw [K1,all,Kd L.length R.length,K1]
theorem twice_len:(aG n t e R).length * ((aG R.length (ba t R) (R.idxOf e) L).length * z)=(aG n t e (up R L)).length * z:=by
 have h1:=mB gt pt;have h2:=mB (fq gt pt) p2;have h3:=mB gt (l6 gt pt p2);rw [gU] at h3;have l1:0<L.length:=Jw.mpr p2.ne;rw [<- K1]
 congr 1
 refine Nat.eq_of_mul_eq_mul_right l1 ?_;rw [K1,h2,h1,h3]
end
def sT {α β:Type} {f g:α->List β}:∀ {l:List α},(∀ x∈l,f x=g x)->l.flatMap f=l.flatMap g
 | [],_=>rfl
 | x :: l,h=>by rw [J1,J1,h x IT,sT fun y hy=>h y (IM _ hy)]
def G4 {m c:Nat} {C J K:List Nat} {F:Nat->Nat->Nat} {g:Nat->Nat}:ls C (fun x=>cvC m (F x) g J K c)=cvC m (fun j=>ls C fun x=>F x j) g J K c:=by
 unfold cvC;rw [iD];refine aZ fun j _=>?_;rw [iD];refine aZ fun k _=>?_
 by_cases q:c=(j+k) % m
 ·rw [if_pos q,aZ (fun x _=>if_pos q),Kd,<- ow];exact aZ fun x _=>Kd _ _
 ·rw [if_neg q];exact dC fun x _=>if_neg q
def wvC (m:Nat) (f g:Nat->Nat) (J K:List Nat) (c:Nat):Nat:=ls J fun j=>ls K fun k=>if c=(j+(m - k)) % m then f j * g k else 0
def Gg {m c:Nat} {C J K:List Nat} {F:Nat->Nat->Nat} {g:Nat->Nat}:ls C (fun x=>wvC m (F x) g J K c)=wvC m (fun j=>ls C fun x=>F x j) g J K c:=by
 unfold wvC;rw [iD];refine aZ fun j _=>?_;rw [iD];refine aZ fun k _=>?_
 by_cases q:c=(j+(m - k)) % m
 ·rw [if_pos q,aZ (fun x _=>if_pos q),Kd,<- ow];exact aZ fun x _=>Kd _ _
 ·rw [if_neg q];exact dC fun x _=>if_neg q
def wY {m c:Nat} {f f' g g':Nat->Nat} (hf:∀ k,k<m->f k=f' k) (hg:∀ k,k<m->g k=g' k):cvC m f g (IF m) (IF m) c=cvC m f' g' (IF m) (IF m) c:=by
 unfold cvC;exact aZ fun j hj=>aZ fun k hk=>by rw [hf j (IK.mp hj),hg k (IK.mp hk)]
def qt {m c:Nat} {f f' g g':Nat->Nat} (hf:∀ k,k<m->f k=f' k) (hg:∀ k,k<m->g k=g' k):wvC m f g (IF m) (IF m) c=wvC m f' g' (IF m) (IF m) c:=by
 unfold wvC;exact aZ fun j hj=>aZ fun k hk=>by rw [hf j (IK.mp hj),hg k (IK.mp hk)]
section
variable {n e m z y:Nat} {t:List (List Nat)} {R:List Nat} {D E:List (List (Nat×Nat))} (gt:GT n t e) (pt:IsPart n t R) (wo:WOk R.length m z D) (ho:cB R.length (ba t R) (R.idxOf e) m z D) (we:WOk n m y E) (he:cB n t e m y E)
include gt pt wo ho we he
omit ho we he in
theorem tj {k b:Nat} (hb:b∈R) (hk:k<m):trF m R D k b=stT (D.getD (R.idxOf b) []) 0 k:=by
 unfold trF;rw [if_pos hb,ph (wo.rlt (aK hb).1) hk]
theorem Ax {a c:Nat} (ha:a<n) (hc:c<m) (hz:z * y<=1000) (hc2:(aG n t e R).length * z<=1000) :
  stT (cg m ((bN n t e R D z).getD a []) (E.getD a [])) 0 c=stT ((bN n t e R (ju R.length m D (cF E R)) (z * y)).getD a []) 0 c:=by
 have wp:=we.part pt;have hp:=he.part gt pt;have wc:=wo.cro wp hz;have hcro:=ho.cro (fq gt pt) hp wo wp;have wr:=wo.rai gt pt hc2;have le:=we.Ij ha;have row:∀ b,b<n->∀ x∈E.getD b [],x.1<(E.getD b []).length/\x.2<m:=fun b hb x hx=>by
  obtain ⟨r,_,r2,r3⟩:=we.get hb;rw [r3] at hx ⊢;exact ⟨by rw [we.row r r2];exact he.pl we r r2 x hx,we.lt r r2 x hx⟩
 have c1:=ub (c:=c) (row a ha) ((bN n t e R D z).getD a []) 0 (wr.rlt ha);rw [K2] at c1;rw [c1,o9 gt pt wc hcro ha hc,wY (fun j hj=>o9 gt pt wo ho ha hj) fun _ _=>rfl,<- G4];refine aZ fun x hx=>?_;have xn:=a9 hx;have bn:=oN gt xn ha
 by_cases q:cj n t e x a∈R
 ·obtain ⟨i1,i2⟩:=aK q;have e2:(cF E R).getD (R.idxOf (cj n t e x a)) []=E.getD (cj n t e x a) []:=by
   unfold cF;rw [ID,IJ,getD_some 0 i1,i2];rfl
  have e1:(ju R.length m D (cF E R)).getD (R.idxOf (cj n t e x a)) []=cg m (D.getD (R.idxOf (cj n t e x a)) []) (E.getD (cj n t e x a) []):=by
   rw [ID,mJ i1,<- e2];rfl
  rw [tj gt pt wc q hc,e1];have c2:=ub (c:=c) (row _ bn) (D.getD (R.idxOf (cj n t e x a)) []) 0 (wo.rlt i1);rw [K2] at c2;rw [c2];exact wY (fun j hj=>tj gt pt wo q hj) fun k hk=>(he.stc we gt xn ha hk).symm
 ·have z1:∀ k,trF m R D k (cj n t e x a)=0:=fun k=>by unfold trF;rw [if_neg q]
  rw [show trF m R (ju R.length m D (cF E R)) c (cj n t e x a)=0 by unfold trF;rw [if_neg q]]
  unfold cvC;exact dC fun j _=>dC fun k _=>by dsimp only;rw [z1,K2];split <;> rfl
theorem y6 {c:Nat} :
  ls (IF n) (fun a=>wvC m (stT ((bN n t e R D z).getD a []) 0) (stT (E.getD a []) 0) (IF m) (IF m) c)=(aG n t e R).length * ls (IF R.length) fun i=>wvC m (stT (D.getD i []) 0) (stT ((cF E R).getD i []) 0) (IF m) (IF m) c:=by
 have e0:ls (IF n) (fun a=>wvC m (stT ((bN n t e R D z).getD a []) 0) (stT (E.getD a []) 0) (IF m) (IF m) c)=ls (IF n) fun a=>ls (aG n t e R) fun x=>wvC m (fun j=>trF m R D j (cj n t e x a)) (stT (E.getD (cj n t e x a) []) 0) (IF m) (IF m) c:=by
  refine aZ fun a ha=>?_;have han:=IK.mp ha;rw [qt (fun j hj=>o9 gt pt wo ho han hj) fun _ _=>rfl,<- Gg];exact aZ fun x hx=>qt (fun _ _=>rfl) fun k hk=>(he.stc we gt (a9 hx) han hk).symm
 rw [e0,iD,<- mT];refine aZ fun x hx=>?_;have xn:=a9 hx;have bx:=gt.cM xn;refine (xW (σ:=fun a=>cj n t e x a) (f:=fun b=>wvC m (fun j=>trF m R D j b) (stT (E.getD b []) 0) (IF m) (IF m) c) (fun a ha=>oN gt xn ha) fun a ha b hb q=>by rw [<- ud gt xn ha,<- ud gt xn hb];exact congrArg (cj n t e (a8 n t e x)) q).trans ?_
 have z0:∀ b,b∉R->wvC m (fun j=>trF m R D j b) (stT (E.getD b []) 0) (IF m) (IF m) c=0:=fun b hb=>by
  unfold wvC;exact dC fun j _=>dC fun k _=>by dsimp only;rw [show trF m R D j b=0 by unfold trF;rw [if_neg hb],K2];split <;> rfl
 rw [<- lh (p:=fun b=>decide (b∈R)) fun b _ q=>z0 b (of_decide_eq_false q),show (IF n).filter (fun b=>decide (b∈R))=R from my (NI _ Nc) pt.srt fun b=>by rw [JX,IK,decide_eq_true_iff];exact ⟨fun q=>q.2,fun q=>⟨pt.lt b q,q⟩⟩,zB pt]
 refine aZ fun b hb=>?_;obtain ⟨i1,i2⟩:=aK hb;refine qt (fun j hj=>tj gt pt wo hb hj) fun k _=>?_;unfold cF;rw [ID (l:=R.map _),IJ,getD_some 0 i1,i2];rfl
omit ho we he in
theorem xo:f9 m (bN n t e R D z)=bN n t e R (f9 m D) z:=by
 unfold bN;unfold f9;rw [J4];unfold dR;rw [J4,J4];refine Jn fun a ha=>?_;show N1 _ (bL D z _)=bL _ z _;unfold bL;rw [List.map_flatMap];refine sT fun x hx=>?_;have il:=jS gt pt (IK.mp ha) x hx;have dl:x.2<D.length:=by rw [wo.len];exact il
 rw [ID (l:=D.map _),IJ,ID (l:=D),IG dl,J4];show _=N1 _ (N1 _ D[x.2]);rw [J4];rfl
end
end
section
variable {P:Jc} {w:World} {K:IC} {mg:Str->Option Value} {base:Heap}
def cN {H:Hp} {x dx C:Addr} (hx:H x=none) (hd:H dx=none):aj H (upd (upd H dx (.own x)) x (.ins C dx [])):=fun b o z=>by
 rw [av (az z hx),av (az z hd)];exact z
def dE {H H':Hp} {x dx C:Addr} (hx:H x=none) (hd:H dx=none) (k:∀ a o,(upd (upd H dx (.own x)) x (.ins C dx [])) a=some o->a≠x->H' a=some o):aj H H':=fun b o z=>k b o (cN hx hd _ _ z) (az z hx)
structure n6 (W:Addr->Prop) (H:Hp) (a g:Addr) (n:Nat) (t:List (List Nat)) (e m z:Nat) (D:List (List (Nat×Nat))):Prop where
 wa:dI W H a g m z D
 wo:WOk n m z D
 ho:cB n t e m z D
def n6.mono {W:Addr->Prop} {H H':Hp} {a g n e m z:Nat} {t:List (List Nat)} {D:List (List (Nat×Nat))} (s:aj H H') (h:n6 W H a g n t e m z D):n6 W H' a g n t e m z D:=⟨h.wa.mono s,h.wo,h.ho⟩
inductive za (W:Addr->Prop) (vs:List V) (H:Hp) (Q:VK) (E:XK):Prop
 | mk (a b g g' n m z:Nat) (D F:List (List (Nat×Nat))) (_:vs=[.ref a,.ref b,.int (n:Int)]) (_:dI W H a g m z D) (_:dI W H b g' m z F) (_:WOk n m z D) (_:WOk n m z F) (_:∀ x,x<n->cnt m (D.getD x [])=cnt m (F.getD x [])) (_:n<=23) (_:∀ H',aj H H'->Q (.bl true) H')
def lF (T:Txt K mg):aN P w K mg base CX0 2 T.fL.f T.fL.fd ["_law_one_here","_law_other","_law_many"] (za (bO T)):=by
 exists T.fL.ok lD
 ·obtain ⟨a,b,g,g',n,m,z,D,F,rfl,_⟩:=h;rfl
 obtain ⟨a,b,g,g',n,m,z,D,F,rfl,hW,hW',wo,wo',eq,n23,q⟩:=h;obtain ⟨C,cx,d0,fs,hC,ha,wf,_⟩:=id hW;obtain ⟨C',cx',d0',fs',hC',hb,wf',_⟩:=id hW';have zb:=wo.z1;refine ⟨_,(ae (bo IW rfl (aO rfl T.bc (paF (pv 2) aa)) (au (i:=3) lD.nd rfl (IQ rfl)) (ae (ao (i:=4) lD.nd rfl (IQ rfl) (eD (pv 0) (lA T) (gP T) (hr.mono (by decide)) T.iN (paF (pv 3) aa)))
   (af (bj (PW.pt (sW (l9 (gY (aA (ya K rfl) rfl T.ye PyProof.Rows.boot_isinstance (paF (pv 4) (paF (F0 (v:=.ty "list") rfl T.gF JW rfl) aa))))) (nM (aD (oQ K rfl Nat hr.units) (pv 4) (eD (pv 1) (lA T) (gP T) (hr.mono (by decide)) T.iN (paF (pv 3) aa)) (aJ _))))) (af (aL eY)) aV))))
   (af (aL (fG cL (aI K rfl (pv 0) rfl) (aI K rfl (pv 1) rfl) (aJ _))))),?_⟩
 walk_at "rn";refine bR (n:=n) rfl (by omega) (fun i σ' H'=>aj H H'/\∃ f:Nat->Option V,σ'=[some (.ref a),some (.ref b),some (.int (n:Int)),f 0,f 1]) ⟨aj.refl _,cH [_,_],rfl⟩ ?_ ?_
 ·rintro i σ' H1 hi ⟨s1,f,rfl⟩;obtain ⟨r,h1,m1,e1⟩:=wo.get hi;obtain ⟨r',h1',m1',e1'⟩:=wo'.get hi;walk_at "2";refine ⟨C,a,cx,fs,hC,rfl,s1 _ _ ha,wf.trace,?_⟩;walk_at "rn";refine ⟨a,g,i,m,z,D,r,rfl,hW.mono s1,wo.m1,wo.m60,h1,by rw [wo.row r m1];exact zb,wo.lt r m1,fun p H2 fp s2 hp=>?_⟩
  have s12:=s1.trans s2;walk_at "1";refine Gi (b:=true) (.lst hp) rfl ?_;walk_at "rn";refine eU ?_;walk_at "2";refine ⟨C',b,cx',fs',hC',rfl,s12 _ _ hb,wf'.trace,?_⟩;walk_at "rn";refine ⟨b,g',i,m,z,F,r',rfl,hW'.mono s12,wo.m1,wo.m60,h1',by rw [wo'.row r' m1'];exact zb,wo'.lt r' m1',fun p2 H3 fp2 s3 hp2=>?_⟩
  walk_at "rn";refine wq (α:=Nat) (bA (s3 _ _ hp)) (bA hp2) ?_;walk_at "rn";refine ck (fun c=>absurd (by rw [<- e1,<- e1'];exact eq i hi) c) (fun _=>?_)
  walk_at "rn";exact ⟨s12.trans s3,cH [_,_],rfl⟩
 ·rintro σ' H1 ⟨s1,f,rfl⟩;walk_at "rn";refine eP T hC (s1 _ _ ha) wf ?_;walk_at "rn";refine eP T hC' (s1 _ _ hb) wf' ?_;walk_at "rn";rw [decide_eq_true rfl];exact q _ s1
inductive Ah (W:Addr->Prop) (CG:Addr) (vs:List V) (H:Hp) (Q:VK) (E:XK):Prop
 | mk (g d:Addr) (n e m l:Nat) (c:Int) (t:List (List Nat)) (ps:List Addr) (_:vs=[.ref g,.ref d,.int (m:Int),.int c]) (_:aY CG H g n t e) (_:GT n t e) (_:Tbl H d t ps) (_:bP (b8 n t e) l) (_:m % l=0) (_:0<m) (_:m<=60)
  (_:∀ a z D H',aj H H'->z<=n->n6 W H' a g n t e m z D->Q (.ref a) H')
def m5 (T:Txt K mg):aN P w K mg base CX0 9 T.gC.f T.gC.fd ["_law_group_here","_law_table","_law_spokes","_law_cell_here"] (Ah (bO T) T.aM):=by
 exists T.gC.ok mQ
 ·obtain ⟨g,d,n,e,m,l,c,t,ps,rfl,_⟩:=h;rfl
 obtain ⟨g,d,n,e,m,l,c,t,ps,rfl,hG,gt,tb0,hl,ml0,m1,m60,q⟩:=h;refine ⟨_,(ae (qT (ay T.ei (jz T) (hr.mono (by decide)) rfl (paF (pv 1) (paF (ay T.jL (yV T) (hr.mono (by decide)) rfl (paF (pv 1) (paF (ak bz (pv 3) ah) aa))) (paF (pv 2) (paF (pv 3) aa))))) (fh rfl (bD (au (i:=4) mQ.nd rfl (IQ rfl)) (bD (au (i:=5) mQ.nd rfl (IQ rfl)) eB))))
   (af (aL (cP T.C4 (BB T) (hr.mono (by decide)) rfl T.Ef T.Eb .nil dX (paF (pv 0) (paF (pv 4) (paF (pv 5) (paF (pv 2) aa)))))))),?_⟩
 walk_at "rn";refine ir ⟨by decide,by decide⟩ ?_
 walk_at "rn";refine ⟨_,n,e,_,t,rfl,tb0.at,gt,fun dS H1 S _ s1 gS sl hlt=>?_⟩;walk_at "rn";refine ⟨_,_,n,e,m,_,t,S,rfl,(tb0.mono s1).at,gt,gS.at,sl,hlt,m1,m60,fun pT dp dm H2 R M _ _ _ s2 hT2 hp2 hm2 pt ml mm ok=>?_⟩;have s02:=s1.trans s2;walk_at "rn";refine ⟨pT,_,rfl,SqT.of hT2,rfl,⟨_,_,rfl,⟨_,_,rfl,⟨rfl,?_⟩⟩⟩⟩;walk_at "rn";intro x1 dx1 hx1 hdx1 hne1;refine ⟨x1,dx1,g,_,_,.int (m:Int),n,e,m,l,t,R,M,H2,rfl,ar,hx1,cN hx1 hdx1,hG.mono s02,gt,bA hp2,pt,bA hm2,ml,mm,.inl rfl,hl,ml0,m1,m60,ok,fun d3 H4 fs s4 h4 wf hD=>⟨rfl,?_⟩⟩;exact q x1 _ _ _ (s02.trans s4) gw ⟨⟨T.bf,dx1,d3,fs,vb T,h4,wf,hD⟩,Fy gt pt ml mm m1 m60,DK gt pt ml mm m1 m60 ok⟩
def nzL (m:Nat) (f:Nat->Nat):List Nat:=(IF m).filter fun k=>!decide (f k=0)
def wgV (n m:Nat) (D F:List (List (Nat×Nat))):List Nat:=(IF m).map fun c=>ls (IF n) fun a=>wvC m (stT (D.getD a []) 0) (stT (F.getD a []) 0) (IF m) (IF m) c
def wgM (m:Nat) (B:Nat->Nat) (f g:Nat->Nat) (J K:List Nat):List Nat:=(IF m).map fun c=>B c+wvC m f g J K c
def wgN (m:Nat) (B:Nat->Nat) (f g:Nat->Nat) (J K K':List Nat) (j:Nat):List Nat:=(IF m).map fun c=>B c+wvC m f g J K c+ls K' fun k=>if c=(j+(m - k)) % m then f j * g k else 0
def Hm {m j k l:Nat} {B f g:Nat->Nat} {J K:List Nat} (m1:1<=m) (hk:K[l]?=some k):(wgN m B f g J K (K.take l) j).set ((j+(m - k)) % m) ((wgN m B f g J K (K.take l) j).getD ((j+(m - k)) % m) 0+f j * g k)=wgN m B f g J K (K.take (l+1)) j:=by
 have ha:=Jj (j+(m - k)) m1;unfold wgN;rw [ID,IJ,Jv ha];refine (set_range (v:=f j * g k) ha).trans (Jn fun c _=>?_);rw [zy hk,K0]
def Hr {m j i:Nat} {B f g:Nat->Nat} {J K:List Nat} (hj:J[i]?=some j):wgN m B f g (J.take i) K (K.take K.length) j=wgM m B f g (J.take (i+1)) K:=by
 unfold wgN wgM;refine Jn fun c _=>?_;unfold wvC;rw [zy hj,Kj,K0]
def FQ {m j:Nat} {B f g:Nat->Nat} {J K:List Nat}:wgN m B f g J K (K.take 0) j=wgM m B f g J K:=by
 unfold wgN wgM;exact Jn fun c _=>by rw [List.take_zero];rfl
def HD {m c:Nat} {f g:Nat->Nat}:wvC m f g (nzL m f) (nzL m g) c=wvC m f g (IF m) (IF m) c:=by
 unfold wvC nzL;rw [lh fun j _ q=>dC fun k _=>by rw [show f j=0 by simpa using q,K2];split <;> rfl]
 refine aZ fun j _=>?_;rw [lh fun k _ q=>by rw [show g k=0 by simpa using q,KL];split <;> rfl]
inductive ux (W:Addr->Prop) (vs:List V) (H:Hp) (Q:VK) (E:XK):Prop
 | mk (a b g g' n m z z':Nat) (D F:List (List (Nat×Nat))) (_:vs=[.ref a,.ref b,.int (n:Int)]) (_:dI W H a g m z D) (_:dI W H b g' m z' F) (_:WOk n m z D) (_:WOk n m z' F) (_:n<=23) (_:∀ p H',aj H H'->H' p=some (.lst (aH (wgV n m D F)))->Q (.ref p) H')
def mf (T:Txt K mg):aN P w K mg base CX0 2 T.eN.f T.eN.fd ["_law_one_here","_law_other","_law_many"] (ux (bO T)):=by
 exists T.eN.ok b7
 ·obtain ⟨a,b,g,g',n,m,z,z',D,F,rfl,_⟩:=h;rfl
 obtain ⟨a,b,g,g',n,m,z,z',D,F,rfl,hW,hW',wo,wo',n23,q⟩:=h;obtain ⟨C,cx,d0,fs,hC,ha,wf,_⟩:=id hW;obtain ⟨C',cx',d0',fs',hC',hb,wf',_⟩:=id hW';have zb:=wo.z1;have zb':=wo'.z1;have m1:=wo.m1;have m60:=wo.m60;refine ⟨_,(ae (ao (i:=3) b7.nd rfl (IQ rfl) (aI K rfl (pv 0) rfl))
   (ae (ao (i:=4) b7.nd rfl (IQ rfl) (ak Bo (cq (paF ah aa)) (pv 3)))
   (ae (bo IW rfl (aO rfl T.bc (paF (pv 2) aa)) (au (i:=5) b7.nd rfl (IQ rfl)) (ae (ao (i:=6) b7.nd rfl (Lb rfl) (eD (pv 0) (lA T) (gP T) (hr.mono (by decide)) T.iN (paF (pv 5) aa)))
   (ae (ao (i:=7) b7.nd rfl (Lb rfl) (eD (pv 1) (lA T) (gP T) (hr.mono (by decide)) T.iN (paF (pv 5) aa)))
   (af (bo IW rfl (aT K rfl (bE rfl kF (aO rfl T.bc (paF (pv 3) aa)) (fun _ _ _ _=>⟨(au (i:=0) kF.nd rfl (IQ rfl)),(oP (aD eK (aq (ai K rfl) (pv 1) (pv 0) (fun _ _=>rfl)) ah (aJ _))),(pv 0)⟩))) (au (i:=9) b7.nd rfl (IQ rfl)) (af (bo IW rfl (aT K rfl (bE rfl kq (aO rfl T.bc (paF (pv 3) aa)) (fun _ _ _ _=>⟨(au (i:=0) kq.nd rfl (IQ rfl)),(oP (aD eK (aq (ai K rfl) (pv 1) (pv 0) (fun _ _=>rfl)) ah (aJ _))),(pv 0)⟩))) (au (i:=8) b7.nd rfl (IQ rfl)) (ae (ao (i:=10) b7.nd rfl (IQ rfl) (ak aS (ak nX (pv 9) (pv 8)) (pv 3)))
   (af (qT (ak aU (aq (ai K rfl) (pv 4) (pv 10) (fun _ _=>rfl)) (ak bg (aq (ai K rfl) (pv 6) (pv 9) (fun _ _=>rfl)) (aq (ai K rfl) (pv 7) (pv 8) (fun _ _=>rfl)))) (xB (pv 4) (pv 10) set_list)))))))))))
   (af (aL (pv 4)))))),?_⟩
 walk_at "rn";refine dB T hC ha wf ?_;walk_at "5";refine ⟨small (by show 1<=1000;decide),fun p1 hp1=>?_⟩
 have s4:=aE hp1 (.lst [.int ((0:Nat):Int)]);have h4:(upd H p1 (.lst [.int ((0:Nat):Int)])) p1=some (.lst [.int ((0:Nat):Int)]):=ar;generalize upd H p1 (.lst [.int ((0:Nat):Int)])=H4 at s4 h4;walk_at "rn";refine ⟨p1,_,_,rfl,rfl,h4,by omega,by omega,?_,fun c hc=>?_⟩
 ·rw [Kc];show 1 * _<=_;omega
 rw [show ((m:Nat):Int).toNat=m by omega,EC]
 have fc:H c=none:=s4.free hc;have s5:=s4.trans (aE hc (.lst (aH (Jg m 0))));have h5:(upd H4 c (.lst (aH (Jg m 0)))) c=some (.lst (aH (wgV 0 m D F))):=by
  rw [ar]
  congr 3
  refine Ld (by unfold wgV;simp) fun k h1 h2=>by unfold wgV;simp [ls]
 generalize upd H4 c (.lst (aH (Jg m 0)))=H5 at s5 h5;walk_at "rn";refine bR (n:=n) rfl (by omega) (fun i σ' H'=>aj H H'/\H' c=some (.lst (aH (wgV i m D F)))/\∃ f:Nat->Option V,σ'=[some (.ref a),some (.ref b),some (.int (n:Int)),some (.int (m:Int)),some (.ref c),f 0,f 1,f 2,f 3,f 4,f 5]) ⟨s5,h5,cH [_,_,_,_,_,_],rfl⟩ ?_ ?_
 ·rintro i σ' H1 hi ⟨s1,h1,f,rfl⟩;obtain ⟨r,g1,k1,e1⟩:=wo.get hi;obtain ⟨r',g1',k1',e1'⟩:=wo'.get hi;have l1:=wo.row r k1;have lt1:=wo.lt r k1;have lt2:=wo'.lt r' k1';walk_at "2";refine ⟨C,a,cx,fs,hC,rfl,s1 _ _ ha,wf.trace,?_⟩;walk_at "rn";refine ⟨a,g,i,m,z,D,r,rfl,hW.mono s1,m1,m60,g1,by omega,lt1,fun w1 H2 fw1 s2 hw1=>?_⟩
  have s12:=s1.trans s2;walk_at "2";refine ⟨C',b,cx',fs',hC',rfl,s12 _ _ hb,wf'.trace,?_⟩;walk_at "rn";refine ⟨b,g',i,m,z',F,r',rfl,hW'.mono s12,m1,m60,g1',by rw [wo'.row r' k1'];exact zb',lt2,fun w2 H3 fw2 s3 hw2=>?_⟩
  have n1c:w1≠c:=(eJ h1 fw1).symm;have n2c:w2≠c:=(eJ (s2 _ _ h1) fw2).symm;have h3:=(s2.trans s3) _ _ h1;have sd:aj H (del H3 c):=p7 (s12.trans s3) fc;have hw1':(del H3 c) w1=some (.lst (aH (cnt m r))):=by rw [ef n1c];exact s3 _ _ hw1
  have hw2':(del H3 c) w2=some (.lst (aH (cnt m r'))):=by rw [ef n2c];exact hw2
  have rd1:∀ k,k<m->(cnt m r)[k]?=some (stT r 0 k):=fun k hk=>by rw [fV lt1,IJ,Jv hk];rfl
  have rd2:∀ k,k<m->(cnt m r')[k]?=some (stT r' 0 k):=fun k hk=>by rw [fV lt2,IJ,Jv hk];rfl
  have st:wgV i m D F=wgM m (fun c=>ls (IF i) fun a=>wvC m (stT (D.getD a []) 0) (stT (F.getD a []) 0) (IF m) (IF m) c) (stT r 0) (stT r' 0) ((nzL m (stT r 0)).take 0) (nzL m (stT r' 0)):=by
   unfold wgV wgM;exact Jn fun c _=>by rw [List.take_zero];rfl
  have fin:wgM m (fun c=>ls (IF i) fun a=>wvC m (stT (D.getD a []) 0) (stT (F.getD a []) 0) (IF m) (IF m) c) (stT r 0) (stT r' 0) (nzL m (stT r 0)) (nzL m (stT r' 0))=wgV (i+1) m D F:=by
   unfold wgV wgM;refine Jn fun c _=>?_;rw [HD,K5,qZ,bJ,e1,e1'];rfl
  rw [st] at h3;generalize (fun c=>ls (IF i) fun a=>wvC m (stT (D.getD a []) 0) (stT (F.getD a []) 0) (IF m) (IF m) c)=B at h3 fin;walk_at "rn";refine eF K (n:=m) (β:=Nat) rfl (by omega) (fun j=>(IF j).filter fun k=>!decide (stT r 0 k=0)) (fun σ'=>∃ y,σ'=[y,some (.ref w1)]) rfl (fun j _=>gv _ j) ⟨_,rfl⟩ ?_ ?_
  ·rintro j σ' H6 d6 R6 R06 hj hs6 ⟨y,rfl⟩ hR6 hR06 hd6;have ft:=fQ (fun k=>!decide (stT r 0 k=0)) j;walk_at "rn";refine br (bA (hs6 _ _ (s3 _ _ hw1))) (rd1 j hj) ?_;walk_at "rn";refine ck (fun z=>?_) (fun z=>?_)
   ·walk_at "rn";rw [if_pos (by simpa using z)] at ft
    exact hR6 _ _ j _ ⟨_,rfl⟩ (aj.refl _) rfl ft
   ·rw [if_neg (by simpa using z)] at ft
    exact hR06 _ _ ⟨_,rfl⟩ (aj.refl _) ft
  intro dj H6 fdj s6 g6;have g6:H6 dj=some (.lst (aH (nzL m (stT r 0)))):=dU g6;have h6:=s6 _ _ h3;have njc:dj≠c:=(eJ h3 fdj).symm;have sA:aj (del H3 c) (del H6 c):=p7 (gX.trans s6) (by unfold del;simp)
  walk_at "rn";refine qi (H₀:=del H6 c) (α:=Nat) (l:=nzL m (stT r 0)) (bA (by rw [ef njc];exact g6)) (fun i' σ' H'=>aj (del H6 c) H'/\H' c=some (.lst (aH (wgM m B (stT r 0) (stT r' 0) ((nzL m (stT r 0)).take i') (nzL m (stT r' 0)))))/\∃ f:Nat->Option V,σ'=[some (.ref a),some (.ref b),some (.int (n:Int)),some (.int (m:Int)),some (.ref c),some (.int (i:Int)),some (.ref w1),some (.ref w2),f 0,f 1,f 2]) ⟨gX,h6,cH [_,_,_],rfl⟩ (fun j σ' H' z=>z.1) ?_ ?_
  ·rintro i' j w' σ' H7 hj hw ⟨s7,h7,f,rfl⟩;cases (show w'=V.int (j:Int) from hw);have jm:j<m:=IK.mp (JX.mp (IH hj)).1;have sB:=sA.trans s7;walk_at "rn";refine eF K (n:=m) (β:=Nat) rfl (by omega) (fun j=>(IF j).filter fun k=>!decide (stT r' 0 k=0)) (fun σ'=>∃ y,σ'=[y,some (.ref w2)]) rfl (fun j _=>gv _ j) ⟨_,rfl⟩ ?_ ?_
   ·rintro j' σ' H8 d8 R8 R08 hj' hs8 ⟨y,rfl⟩ hR8 hR08 hd8;have ft:=fQ (fun k=>!decide (stT r' 0 k=0)) j';walk_at "rn";refine br (bA (hs8 _ _ (sB _ _ hw2'))) (rd2 j' hj') ?_;walk_at "rn";refine ck (fun z=>?_) (fun z=>?_)
    ·walk_at "rn";rw [if_pos (by simpa using z)] at ft
     exact hR8 _ _ j' _ ⟨_,rfl⟩ (aj.refl _) rfl ft
    ·rw [if_neg (by simpa using z)] at ft
     exact hR08 _ _ ⟨_,rfl⟩ (aj.refl _) ft
   intro dk H8 fdk s8 g8;have g8:H8 dk=some (.lst (aH (nzL m (stT r' 0)))):=dU g8;have h8:=s8 _ _ h7;have nkc:dk≠c:=(eJ h7 fdk).symm;have sC:aj (del H6 c) (del H8 c):=p7 (s7.trans s8) (by unfold del;simp)
   rw [<- FQ (j:=j)] at h8;walk_at "rn";refine qi (H₀:=del H8 c) (α:=Nat) (l:=nzL m (stT r' 0)) (bA (by rw [ef nkc];exact g8)) (fun l σ' H'=>aj (del H8 c) H'/\H' c=some (.lst (aH (wgN m B (stT r 0) (stT r' 0) ((nzL m (stT r 0)).take i') (nzL m (stT r' 0)) ((nzL m (stT r' 0)).take l) j)))/\∃ f:Nat->Option V,σ'=[some (.ref a),some (.ref b),some (.int (n:Int)),some (.int (m:Int)),some (.ref c),some (.int (i:Int)),some (.ref w1),some (.ref w2),f 0,some (.int (j:Int)),f 1]) ⟨gX,h8,cH [_,_],rfl⟩ (fun j σ' H' z=>z.1) ?_ ?_
   ·rintro l k w' σ' H9 hk hw ⟨s9,h9,f,rfl⟩;cases (show w'=V.int (k:Int) from hw);have km:k<m:=IK.mp (JX.mp (IH hk)).1;have sD:=sA.trans (sC.trans s9);have am:=Jj (j+(m - k)) m1;have ax:=CB j r 0;have ms:=Hm (B:=B) (f:=stT r 0) (g:=stT r' 0) (J:=(nzL m (stT r 0)).take i') (j:=j) m1 hk;have ml:(wgN m B (stT r 0) (stT r' 0) ((nzL m (stT r 0)).take i') (nzL m (stT r' 0)) ((nzL m (stT r' 0)).take l) j).length=m:=by unfold wgN;rw [IE,Jb]
    generalize wgN m B (stT r 0) (stT r' 0) ((nzL m (stT r 0)).take i') (nzL m (stT r' 0)) ((nzL m (stT r' 0)).take l) j=W at h9 ms ml;walk_at "rn";refine ir (by show (0:Int)<(m:Int);omega) ?_
    rw [show ((j:Nat):Int) - ((k:Nat):Int)=((j+(m - k):Nat):Int) - ((m:Nat):Int) by omega,Int.sub_emod_right,show ((j+(m - k):Nat):Int) % ((m:Nat):Int)=(((j+(m - k)) % m:Nat):Int) from rfl]
    walk_at "rn";refine br (bA h9) (getD_some (l:=W) 0 (by rw [ml];exact am)) ?_
    walk_at "rn";refine br (bA (sD _ _ hw1')) (rd1 j jm) ?_;walk_at "rn";refine br (bA (sD _ _ hw2')) (rd2 k km) ?_;refine kD (.inl (by omega)) ?_
    walk_at "rn";refine yQ h9 rfl (by unfold aH;rw [IE,ml];exact am) ?_
    rw [ints_set,ms];exact ⟨mV (by unfold del;simp) s9,ar,cH [_,_],rfl⟩
   ·rintro σ' H9 ⟨s9,h9,f,rfl⟩;rw [Hr hj] at h9;walk_at "rn";exact ⟨sC.trans s9,h9,cH [_,_,_],rfl⟩
  ·rintro σ' H7 ⟨s7,h7,f,rfl⟩;rw [Kj,fin] at h7;walk_at "rn";exact ⟨sd.trans (sA.trans s7),h7,cH [_,_,_,_,_,_],rfl⟩
 ·rintro σ' H1 ⟨s1,h1,f,rfl⟩;walk_at "rn";exact q c H1 s1 h1
inductive xv (CG:Addr) (vs:List V) (H:Hp) (Q:VK) (E:XK):Prop
 | mk (g dp g2:Addr) (n e m l:Nat) (c:Int) (t:List (List Nat)) (R:List Nat) (_:vs=[.ref g,.ref dp,.ref g2,.int (m:Int),.int c]) (_:aY CG H g n t e) (_:GT n t e) (_:H dp=some (.lst (aH R))) (_:IsPart n t R) (_:aY CG H g2 R.length (ba t R) (R.idxOf e)) (_:bP (b8 n t e) l) (_:m % l=0) (_:0<m) (_:m<=60) (_:∀ H',aj H H'->Q (.bl true) H')
def x9 (T:Txt K mg):aN P w K mg base CX0 10 T.iQ.f T.iQ.fd ["_law_group_here","_law_part","_law_near","_law_spokes","_law_cell_here"] (xv T.aM):=by
 exists T.iQ.ok cV
 ·obtain ⟨g,dp,g2,n,e,m,l,c,t,R,rfl,_⟩:=h;rfl
 obtain ⟨g,dp,g2,n,e,m,l,c,t,R,rfl,hG,gt,hp,pt,hG2,hl,ml0,m1,m60,q⟩:=h;obtain ⟨gx,gr,gb,hg,aR,aB⟩:=aY.get (K:=K) hG;have n23:=gt.le;have rl:=pt.len;have r1:0<R.length:=Jw.mpr pt.ne;have gt2:=fq gt pt;obtain ⟨l2,hl2⟩:=mZ gt2;have ml2:m % l2=0:=Kv (N2 (JH (nU gt pt hl hl2)) (JH ml0));refine ⟨_,(ae (ao (i:=5) cV.nd rfl (IQ rfl) (aI K rfl (pv 0) rfl))
   (ae (ao (i:=6) cV.nd rfl (Lb rfl) (ay T.eT (jX T) (hr.mono (by decide)) rfl (paF (aI K rfl (pv 0) rfl) (paF (pv 1) aa))))
   (ae (cv (i:=7) rfl cV.nd rfl (IQ rfl) lX (aO rfl T.bc (paF (ak aS (ak bz (pv 4) ah) ah) aa)) (fun _ _ _ _=>⟨(au (i:=0) lX.nd rfl (IQ rfl)),bb,(ay T.dY (gN T) (hr.mono (by decide)) rfl (paF (pv 1) (paF (ak aU ah (pv 0)) (paF (aA (aQ K rfl) rfl T.bC Jf (paF (pv 2) aa)) aa))))⟩) rfl)
   (ae (ao (i:=8) cV.nd rfl (IQ rfl) (aq (mj K rfl) (ay T.ei (jz T) (hr.mono (by decide)) rfl (paF (pv 6) (paF (pv 7) (paF (pv 3) (paF (pv 4) aa))))) ah (fun _ _=>rfl)))
   (ae (ao (i:=9) cV.nd rfl (IQ rfl) (ay T.ip (m6 T) (hr.mono (by decide)) rfl (paF (pv 2) (paF (pv 8) aa))))
   (ae (ao (i:=10) cV.nd rfl (IQ rfl) (ay T.gC (m5 T) (hr.mono (by decide)) rfl (paF (pv 9) (paF (ay T.eT (jX T) (hr.mono (by decide)) rfl (paF (pv 6) (paF (pv 8) aa))) (paF (pv 3) (paF (pv 4) aa))))))
   (ae (bj (aD jO (ak bg (ak bz (pv 5) (aA (aQ K rfl) rfl T.bC Jf (paF (pv 8) aa))) (aI K rfl (pv 10) rfl)) ah (aJ _)) (af (aL eY)) aV)
   (ae (ao (i:=11) cV.nd rfl (IQ rfl) (cP T.iM (gB T) (hr.mono (by decide)) rfl T.iq T.iI .nil dX (paF (pv 0) (paF (pv 1) (paF (cP T.iM (gB T) (hr.mono (by decide)) rfl T.iq T.iI .nil dX (paF (pv 2) (paF (pv 8) (paF (pv 10) aa)))) aa)))))
   (af (aL (ay T.fL (lF T) (hr.mono (by decide)) rfl (paF (pv 11) (paF (cP T.iM (gB T) (hr.mono (by decide)) rfl T.iq T.iI .nil dX (paF (pv 0) (paF (bE rfl mh (aT K rfl (pv 8)) (fun _ _ _ _=>⟨(au (i:=0) mh.nd rfl (IQ rfl)),bb,(aq (ai K rfl) (pv 1) (pv 0) (fun _ _=>rfl))⟩)) (paF (pv 10) aa)))) (paF (pv 5) aa)))))))))))))),?_⟩
 walk_at "rn";refine bK T hg ?_;walk_at "rn";refine bU T hg ?_;walk_at "rn";refine ⟨_,dp,n,e,t,R,rfl,aR,gt,hp,pt,fun ds H1 pss s1 tbs=>?_⟩;walk_at "rn";refine ir ⟨by decide,by decide⟩ ?_
 walk_at "rn";refine ir (by decide) ?_
 obtain ⟨k,hk,k3⟩:∃ k:Nat,c / ((3:Nat):Int) % ((3:Nat):Int)=(k:Int)/\k<=2:=⟨(c / ((3:Nat):Int) % ((3:Nat):Int)).toNat,by omega,by omega⟩
 rw [hk];walk_at "rn";refine eF K (n:=k) (β:=Nat) rfl (by omega) (fun j=>(IF j).map fun j=>thg c (61+j) R.length) (fun σ'=>∃ y,σ'=[y,some (.int c),some (.ref ds)]) rfl (fun i _=>by rw [IE,Jb];exact IV _) ⟨_,rfl⟩ ?_ ?_
 ·rintro j σ' H3 d3 R3 R03 hj hs3 ⟨y,rfl⟩ hR3 hR03 hd3;walk_at "rn";refine cA (tbs.mono hs3).at ?_;rw [show (ba t R).length=R.length by unfold ba;rw [IE]]
  walk_at "rn";refine ⟨c,61+j,R.length,rfl,by omega,r1,fun _=>?_⟩
  exact hR3 _ _ _ _ ⟨_,rfl⟩ (aj.refl _) rfl (by rw [K5,JO];rfl)
 intro dS H2 fdS s2 gS;have gS:Gr K H2 dS ((IF k).map fun j=>thg c (61+j) R.length):=gS;have hp2:=(s1.trans s2) _ _ hp;walk_at "rn";refine ⟨_,_,_,_,m,c,ba t R,_,rfl,(tbs.mono s2).at,gt2,gS.at,by rw [IE,Jb];exact k3,fun x hx=>by obtain ⟨j,_,rfl⟩:=IP.mp hx;exact sI c _ r1,m1,m60,fun pT dp2 dm H3 L M _ _ _ s3 hT3 hp3 hm3 p2 _ _ _=>?_⟩
 have s03:=(s1.trans s2).trans s3;have L1:0<L.length:=Jw.mpr p2.ne;have Ll:=p2.len;have gt3:=fq gt2 p2;obtain ⟨l3,hl3⟩:=mZ gt3;have ml3:m % l3=0:=Kv (N2 (JH (nU gt2 p2 hl2 hl3)) (JH ml2));have pu:=l6 gt pt p2;walk_at "rn";refine E1 (i:=0) hT3 rfl ?_;walk_at "rn";refine ⟨g2,dp2,_,_,_,L,rfl,hG2.mono s03,gt2,hp3,p2,fun g3 H4 fg3 s4 hg4=>?_⟩;have hg4':=hg4.mono kO;walk_at "rn";refine ⟨_,dp2,_,_,_,L,rfl,(tbs.mono (s2.trans (s3.trans s4))).at,gt2,s4 _ _ hp3,p2,fun ds2 H5 pss2 s5 tbs2=>?_⟩;have s05:=s03.trans (s4.trans s5);walk_at "rn";refine ⟨g3,ds2,_,_,m,l3,c,_,pss2,rfl,hg4'.mono s5,gt3,tbs2,hl3,ml3,m1,m60,fun a z D H6 s6 zl wy=>?_⟩;have s06:=s05.trans s6;have hp6:=s06 _ _ hp;have hq6:=(s4.trans (s5.trans s6)) _ _ hp3;have hg6:=(hg4'.mono s5).mono s6;obtain ⟨C,cx,d0,fs,hC,ha,wf,_⟩:=id wy.wa;walk_at "1";refine cA (bA hq6) ?_;refine kf L1 (by omega) ?_
 rw [show n / L.length=(aG n t e (up R L)).length by rw [<- mU gt pu,gU]]
 walk_at "rn";refine eP T hC ha wf ?_;have zb:=wy.wo.z1;refine kD (.inr (by omega)) ?_
 walk_at "rn";refine bt (fun _=>?_) (fun h60=>?_)
 ·walk_at "rn";exact q _ s06
 have tl:=twice_len gt pt p2 wy.wo wy.ho;have c1:1<=(aG n t e R).length:=let ⟨x,hx,_⟩:=lJ gt pt 0 gt.pos;KP hx;have h60':(aG R.length (ba t R) (R.idxOf e) L).length * z<=60:=by
  have:=KG ((aG R.length (ba t R) (R.idxOf e) L).length * z) c1;omega
 walk_at "rn";intro x1 dx1 hx1 hdx1 hne1;have ra1:Rai (bO T) T.aM H6 g2 dp2 a g3 R.length (R.idxOf e) m z l2 (ba t R) L D:=⟨hG2.mono s06,gt2,hq6,p2,wy.wa,hg6,wy.wo,hl2,ml2⟩;refine ⟨x1,dx1,g2,dp2,a,g3,_,_,m,z,l2,_,L,D,rfl,ar,ra1.mono (cN hx1 hdx1),h60',fun d7 H7 fs7 h7 wf7 hD7 k7=>⟨rfl,?_⟩⟩;have s7:=dE hx1 hdx1 k7;have s07:=s06.trans s7;have wo1:=wy.wo.rai gt2 p2 (by omega)
 walk_at "rn";intro x2 dx2 hx2 hdx2 hne2;have ra2:Rai (bO T) T.aM H7 g dp x1 g2 n e m _ l t R _:=⟨hG.mono s07,gt,s07 _ _ hp,pt,⟨T.bQ,dx1,d7,fs7,fk T,h7,wf7,hD7⟩,hG2.mono s07,wo1,hl,ml0⟩;refine ⟨x2,dx2,g,dp,x1,g2,n,e,m,_,l,t,R,_,rfl,ar,ra2.mono (cN hx2 hdx2),by omega,fun d8 H8 fs8 h8 wf8 hD8 k8=>⟨rfl,?_⟩⟩
 have s8:=dE hx2 hdx2 k8;have s68:=s7.trans s8;have s08:=s06.trans s68;have wo2:=wo1.rai gt pt (by omega)
 walk_at "rn";refine fv (α:=Nat) (β:=Nat) (bA (s68 _ _ hq6)) (by omega) (fun j=>(up R L).take j) (fun σ'=>∃ y,σ'=[y,some (.ref dp)]) rfl (fun i _=>by rw [Je];omega) ⟨_,rfl⟩ ?_ ?_
 ·rintro j b w2 σ' H9 d9 R9 R09 hb hs9 hw2 ⟨y,rfl⟩ hR9 hR09 hd9;cases (show w2=V.int (b:Int) from hw2);walk_at "rn";refine br (bA ((s08.trans hs9) _ _ hp)) (getD_some 0 (p2.lt b (IH hb))) ?_;exact hR9 _ _ _ _ ⟨_,rfl⟩ (aj.refl _) rfl (by unfold up;rw [Js,IJ,hb];rfl)
 intro dq H9 fdq s9 gq;have gq:Gr K H9 dq ((up R L).take L.length):=gq;rw [Jh (by rw [gU];exact IV _)] at gq
 have s69:=s68.trans s9;have s09:=s06.trans s69;walk_at "rn";intro x3 dx3 hx3 hdx3 hne3;have wu:WOk (up R L).length m z D:=by rw [gU];exact wy.wo
 have hu:cB (up R L).length (ba t (up R L)) ((up R L).idxOf e) m z D:=by rw [gU,yR gt pt p2,C6 gt pt p2];exact wy.ho
 have ra3:Rai (bO T) T.aM H9 g dq a g3 n e m z l t (up R L) D:=⟨hG.mono s09,gt,dU gq,pu,wy.wa.mono s69,by rw [gU,yR gt pt p2,C6 gt pt p2];exact hg6.mono s69,wu,hl,ml0⟩
 refine ⟨x3,dx3,g,dq,a,g3,n,e,m,z,l,t,_,D,rfl,ar,ra3.mono (cN hx3 hdx3),by omega,fun d10 H10 fs10 h10 wf10 hD10 k10=>⟨rfl,?_⟩⟩
 have s10:=dE hx3 hdx3 k10;rw [tl] at wf8 wo2;have s810:=s9.trans s10;have wo3:=wu.rai gt pu (by omega)
 walk_at "rn";exact ⟨x2,x3,g,g,n,m,_,_,_,rfl,⟨T.bQ,dx2,d8,fs8,fk T,s810 _ _ h8,wf8,hD8.mono s810⟩,⟨T.bQ,dx3,d10,fs10,fk T,h10,wf10,hD10⟩,wo2,wo3,fun x hx=>zF (wo2.rlt hx) (wo3.rlt hx) fun k hk=>zq gt pt p2 wy.wo wy.ho hx hk (by omega),n23,fun H11 s11=>q _ (s09.trans (s10.trans s11))⟩
def DB {n e m z y:Nat} {t:List (List Nat)} {R:List Nat} {D E:List (List (Nat×Nat))} (gt:GT n t e) (pt:IsPart n t R) (wo:WOk R.length m z D) (ho:cB R.length (ba t R) (R.idxOf e) m z D) (we:WOk n m y E) (he:cB n t e m y E):wgV n m (bN n t e R D z) E=(wgV R.length m D (cF E R)).map fun x=>(aG n t e R).length * x:=by
 unfold wgV;rw [J4];exact Jn fun c _=>y6 gt pt wo ho we he
inductive qh (W:Addr->Prop) (CG:Addr) (vs:List V) (H:Hp) (Q:VK) (E:XK):Prop
 | mk (g dp a b g2:Addr) (n e m l z y:Nat) (t:List (List Nat)) (R:List Nat) (D F:List (List (Nat×Nat))) (_:vs=[.ref g,.ref dp,.ref a,.ref b]) (_:aY CG H g n t e) (_:GT n t e) (_:H dp=some (.lst (aH R))) (_:IsPart n t R) (_:aY CG H g2 R.length (ba t R) (R.idxOf e)) (_:n6 W H a g2 R.length (ba t R) (R.idxOf e) m z D) (_:n6 W H b g n t e m y F) (_:bP (b8 n t e) l) (_:m % l=0) (_:(aG n t e R).length * z<=60) (_:∀ H',aj H H'->Q (.bl true) H')
def qG (T:Txt K mg):aN P w K mg base CX0 9 T.eW.f T.eW.fd ["_law_group_here","_law_part","_law_way","_law_whole"] (qh (bO T) T.aM):=by
 exists T.eW.ok dH
 ·obtain ⟨g,dp,a,b,g2,n,e,m,l,z,y,t,R,D,F,rfl,_⟩:=h;rfl
 obtain ⟨g,dp,a,b,g2,n,e,m,l,z,y,t,R,D,F,rfl,hG,gt,hp,pt,hG2,wa,wb,hl,ml0,h60,q⟩:=h;obtain ⟨gx,gr,gb,hg,aR,aB⟩:=aY.get (K:=K) hG;have n23:=gt.le;have rl:=pt.len;have r1:0<R.length:=Jw.mpr pt.ne;have gt2:=fq gt pt;have zb:=wa.wo.z1;have yb:=wb.wo.z1;refine ⟨_,(ae (ao (i:=4) dH.nd rfl (IQ rfl) (cP T.iM (gB T) (hr.mono (by decide)) rfl T.iq T.iI .nil dX (paF (pv 0) (paF (pv 1) (paF (pv 2) aa)))))
   (ae (ao (i:=5) dH.nd rfl (IQ rfl) (cP T.C3 (Ck T) (hr.mono (by decide)) rfl T.El T.D2 .nil dX (paF (pv 3) (paF (pv 1) aa))))
   (ae (bj (l9 (gY (ay T.fL (lF T) (hr.mono (by decide)) rfl (paF (cP T.xH (uR T) (hr.mono (by decide)) rfl T.wZ T.w6 .nil dX (paF (pv 4) aa)) (paF (cP T.iM (gB T) (hr.mono (by decide)) rfl T.iq T.iI .nil dX (paF (pv 0) (paF (pv 1) (paF (cP T.xH (uR T) (hr.mono (by decide)) rfl T.wZ T.w6 .nil dX (paF (pv 2) aa)) aa)))) (paF (aI K rfl (pv 0) rfl) aa)))))) (af (aL eY)) aV)
   (ae (ao (i:=6) dH.nd rfl (IQ rfl) (ay T.eN (mf T) (hr.mono (by decide)) rfl (paF (pv 2) (paF (pv 5) (paF (aA (aQ K rfl) rfl T.bC Jf (paF (pv 1) aa)) aa)))))
   (ae (ao (i:=7) dH.nd rfl (Lb rfl) (ak bz (aI K rfl (pv 0) rfl) (aA (aQ K rfl) rfl T.bC Jf (paF (pv 1) aa))))
   (ae (bj (aD (oQ K rfl Nat hr.units) (ay T.eN (mf T) (hr.mono (by decide)) rfl (paF (pv 4) (paF (pv 3) (paF (aI K rfl (pv 0) rfl) aa)))) (bE rfl jh (aT K rfl (pv 6)) (fun _ _ _ _=>⟨(au (i:=0) jh.nd rfl (IQ rfl)),bb,(ak bg (pv 1) (pv 0))⟩)) (aJ _)) (af (aL eY)) aV)
   (ae (bj (aD jO (ak bg (aI K rfl (pv 4) rfl) (aI K rfl (pv 3) rfl)) ah (aJ _)) (af (aL eY)) aV)
   (af (aL (ay T.fL (lF T) (hr.mono (by decide)) rfl (paF (cP T.vf (sN T) (hr.mono (by decide)) rfl T.uX T.vm .nil dX (paF (pv 4) (paF (pv 3) aa))) (paF (cP T.iM (gB T) (hr.mono (by decide)) rfl T.iq T.iI .nil dX (paF (pv 0) (paF (pv 1) (paF (cP T.vf (sN T) (hr.mono (by decide)) rfl T.uX T.vm .nil dX (paF (pv 2) (paF (pv 5) aa))) aa)))) (paF (aI K rfl (pv 0) rfl) aa))))))))))))),?_⟩
 walk_at "rn";intro x1 dx1 hx1 hdx1 hne1;have ra1:Rai (bO T) T.aM H g dp a g2 n e m z l t R D:=⟨hG,gt,hp,pt,wa.wa,hG2,wa.wo,hl,ml0⟩;refine ⟨x1,dx1,g,dp,a,g2,n,e,m,z,l,t,R,D,rfl,ar,ra1.mono (cN hx1 hdx1),h60,fun d1 H1 fs1 h1 wf1 hD1 k1=>⟨rfl,?_⟩⟩;have s1:=dE hx1 hdx1 k1;have wu:n6 (bO T) H1 x1 g n t e m _ _:=⟨⟨T.bQ,dx1,d1,fs1,fk T,h1,wf1,hD1⟩,wa.wo.rai gt pt (by omega),wa.ho.rai gt pt wa.wo⟩
 walk_at "rn";intro x2 dx2 hx2 hdx2 hne2;have sn2:=cN (C:=T.cw) hx2 hdx2;refine ⟨x2,dx2,b,g,dp,n,e,m,y,t,F,R,rfl,ar,(wb.wa.mono s1).mono sn2,(hG.mono s1).mono sn2,gt,wb.wo,(s1.trans sn2) _ _ hp,pt,fun g3 d2 H2 fs2 hg2 h2 wf2 hD2 k2=>⟨rfl,?_⟩⟩;have s2:=dE hx2 hdx2 k2;have s02:=s1.trans s2;have hg3:=hg2.mono kO;have wp:n6 (bO T) H2 x2 g3 R.length (ba t R) (R.idxOf e) m y (cF F R):=⟨⟨T.cw,dx2,d2,fs2,vo T,h2,wf2,hD2⟩,wb.wo.part pt,wb.ho.part gt pt⟩;have wu2:=wu.mono s2;walk_at "1";intro x3 dx3 hx3 hdx3 hne3;have sn3:=cN (C:=T.bX) hx3 hdx3;refine ⟨x3,dx3,x1,g,n,e,m,_,t,_,rfl,ar,wu2.wa.mono sn3,(hG.mono s02).mono sn3,gt,wu.wo,fun d3 H3 fs3 h3 wf3 hD3 k3=>⟨rfl,?_⟩⟩;have s3:=dE hx3 hdx3 k3;have s03:=s02.trans s3;walk_at "rn";intro x4 dx4 hx4 hdx4 hne4;have sn4:=cN (C:=T.bX) hx4 hdx4;refine ⟨x4,dx4,a,g2,_,_,m,z,_,D,rfl,ar,(wa.wa.mono s03).mono sn4,(hG2.mono s03).mono sn4,gt2,wa.wo,fun d4 H4 fs4 h4 wf4 hD4 k4=>⟨rfl,?_⟩⟩;have s4:=dE hx4 hdx4 k4;have s04:=s03.trans s4;walk_at "rn";intro x5 dx5 hx5 hdx5 hne5;have ra5:Rai (bO T) T.aM H4 g dp x4 g2 n e m z l t R (f9 m D):=⟨hG.mono s04,gt,s04 _ _ hp,pt,⟨T.bX,dx4,d4,fs4,ot T,h4,wf4,hD4⟩,hG2.mono s04,wa.wo.back,hl,ml0⟩;refine ⟨x5,dx5,g,dp,x4,g2,n,e,m,z,l,t,R,_,rfl,ar,ra5.mono (cN hx5 hdx5),h60,fun d5 H5 fs5 h5 wf5 hD5 k5=>⟨rfl,?_⟩⟩;have s5:=dE hx5 hdx5 k5;have s35:=s4.trans s5;have s05:=s03.trans s35;walk_at "rn";refine bK T (s05 _ _ hg) ?_;walk_at "rn";refine ⟨x3,x5,g,g,n,m,_,_,_,rfl,⟨T.bX,dx3,d3,fs3,ot T,s35 _ _ h3,wf3,hD3.mono s35⟩,⟨T.bQ,dx5,d5,fs5,fk T,h5,wf5,hD5⟩,wu.wo.back,by rw [<- xo gt pt wa.wo];exact wu.wo.back,fun x _=>by rw [xo gt pt wa.wo],n23,fun H6 s6=>?_⟩
 have s26:=s3.trans (s35.trans s6);have s06:=s02.trans s26;walk_at "6";refine cA (bA (s06 _ _ hp)) ?_;walk_at "rn";refine ⟨a,x2,g2,g3,R.length,m,z,y,D,_,rfl,wa.wa.mono s06,wp.wa.mono s26,wa.wo,wp.wo,by omega,fun pw H7 s7 hw=>?_⟩
 have s27:=s26.trans s7;have s07:=s06.trans s7;walk_at "rn";refine bK T (s07 _ _ hg) ?_;walk_at "rn";refine cA (bA (s07 _ _ hp)) ?_;refine kf r1 (by omega) ?_
 rw [mU gt pt];have cl:=gw (n:=n) (t:=t) (e:=e) (R:=R);walk_at "1";refine bK T (s07 _ _ hg) ?_;walk_at "rn";refine ⟨x1,b,g,g,n,m,_,y,_,F,rfl,wu2.wa.mono s27,wb.wa.mono s07,wu.wo,wb.wo,n23,fun pv H8 s8 hv=>?_⟩;walk_at "rn";refine fv (α:=Nat) (β:=Nat) (bA (s8 _ _ hw)) (by unfold wgV;rw [IE,Jb];have:=wa.wo.m60;omega) (fun j=>((wgV R.length m D (cF F R)).map fun x=>(aG n t e R).length * x).take j) (fun σ'=>∃ y,σ'=[y,some (.int ((aG n t e R).length:Nat))]) rfl (fun i _=>by rw [Je];omega) ⟨_,rfl⟩ ?_ ?_
 ·rintro j b' w2 σ' H9 d9 R9 R09 hb' hs9 hw2 ⟨y',rfl⟩ hR9 hR09 hd9;cases (show w2=V.int (b':Int) from hw2);walk_at "rn";exact hR9 _ _ _ _ ⟨_,rfl⟩ (aj.refl _) rfl (by rw [Js,IJ,hb'];rfl)
 intro dn H9 fdn s9 gn;have gn:Gr K H9 dn (((wgV R.length m D (cF F R)).map fun x=>(aG n t e R).length * x).take (wgV R.length m D (cF F R)).length):=gn;rw [Jh (by rw [IE];exact IV _)] at gn
 have s79:=s8.trans s9;have s29:=s27.trans s79;have s09:=s07.trans s79;walk_at "rn";refine wq (α:=Nat) (bA (s9 _ _ hv)) gn.at ?_;walk_at "rn";refine ck (fun c=>absurd (DB gt pt wa.wo wa.ho wb.wo wb.ho) c) (fun _=>?_);have wu9:=wu2.mono s29;have wb9:=wb.mono s09;obtain ⟨Cu,cu,du,fu,hCu,hu,wfu,_⟩:=id wu9.wa;obtain ⟨Cb,cb,db,fb,hCb,hb,wfb,_⟩:=id wb9.wa;walk_at "1";refine eP T hCu hu wfu ?_;walk_at "rn";refine eP T hCb hb wfb ?_;refine kD (.inl (by omega)) ?_
 walk_at "rn";refine bt (fun _=>?_) (fun hc60=>?_)
 ·walk_at "rn";exact q _ s09
 have hz60:(aG n t e R).length * (z * y)<=60:=by rw [<- K1];omega
 have c1:1<=(aG n t e R).length:=let ⟨x,hx,_⟩:=lJ gt pt 0 gt.pos;KP hx;have hzy:z * y<=60:=by
  have:=KG (z * y) c1;omega
 walk_at "rn";intro x6 dx6 hx6 hdx6 hne6;have tw6:Two (bO T) T.aM H9 x1 b g g n e m _ y t _ F:=⟨wu9.wa,wb9.wa,hG.mono s09,hG.mono s09,gt,wu.wo,wb.wo⟩;refine ⟨x6,dx6,x1,b,g,g,n,e,m,_,y,t,_,F,rfl,ar,tw6.mono (cN hx6 hdx6),by omega,fun d6 H10 fs6 h6 wf6 hD6 k6=>⟨rfl,?_⟩⟩
 have s10:=dE hx6 hdx6 k6;have s010:=s09.trans s10;have s210:=s29.trans s10;walk_at "rn";intro x7 dx7 hx7 hdx7 hne7;have tw7:Two (bO T) T.aM H10 a x2 g2 g3 R.length (R.idxOf e) m z y (ba t R) D (cF F R):=⟨wa.wa.mono s010,wp.wa.mono s210,hG2.mono s010,hg3.mono s210,gt2,wa.wo,wp.wo⟩;refine ⟨x7,dx7,a,x2,g2,g3,_,_,m,z,y,_,D,_,rfl,ar,tw7.mono (cN hx7 hdx7),hzy,fun d7 H11 fs7 h7 wf7 hD7 k7=>⟨rfl,?_⟩⟩;have s11:=dE hx7 hdx7 k7;have s011:=s010.trans s11;have wc:=wa.wo.cro wp.wo (show z * y<=1000 by omega)
 have hcr:=wa.ho.cro gt2 wp.ho wa.wo wp.wo;walk_at "rn";intro x8 dx8 hx8 hdx8 hne8;have ra8:Rai (bO T) T.aM H11 g dp x7 g2 n e m (z * y) l t R _:=⟨hG.mono s011,gt,s011 _ _ hp,pt,⟨T.bZ,dx7,d7,fs7,mR T,h7,wf7,hD7⟩,hG2.mono s011,wc,hl,ml0⟩;refine ⟨x8,dx8,g,dp,x7,g2,n,e,m,_,l,t,R,_,rfl,ar,ra8.mono (cN hx8 hdx8),hz60,fun d8 H12 fs8 h8 wf8 hD8 k8=>⟨rfl,?_⟩⟩;have s12:=dE hx8 hdx8 k8;have s1012:=s11.trans s12;have wl:=wu.wo.cro wb.wo (show (aG n t e R).length * z * y<=1000 by omega)
 have wr:=wc.rai gt pt (show (aG n t e R).length * (z * y)<=1000 by omega)
 rw [<- K1] at wr wf8;walk_at "rn";refine bK T ((s010.trans s1012) _ _ hg) ?_;walk_at "rn";refine ⟨x6,x8,g,g,n,m,_,_,_,rfl,⟨T.bZ,dx6,d6,fs6,mR T,s1012 _ _ h6,wf6,hD6.mono s1012⟩,⟨T.bQ,dx8,d8,fs8,fk T,h8,wf8,hD8⟩,wl,wr,fun x hx=>zF (wl.rlt hx) (wr.rlt hx) fun k hk=>?_,n23,fun H13 s13=>q _ (s010.trans (s1012.trans s13))⟩;rw [show (ju n m (bN n t e R D z) F).getD x []=cg m ((bN n t e R D z).getD x []) (F.getD x []) by rw [ID,mJ hx];rfl]
 exact Ax gt pt wa.wo wa.ho wb.wo wb.ho hx hk (by omega) (by omega)
def wA (K:IC):Sp:=fun vs H Q _=>∃ (a:Addr) (ns:List Int),vs=[.ref a]/\SqL K H a (ns.map V.int)/\ns.length<=63/\∀ H',Q (.bl true) H'
def Hj (T:Txt K mg):aN P w K mg base CX0 12 T.oX.f T.oX.fd ["_law_script"] (wA K):=by
 exists T.oX.ok fB
 ·obtain ⟨a,ns,rfl,_⟩:=h;rfl
 obtain ⟨a,ns,rfl,hS,h63,q⟩:=h;have hA:=FZ hS;refine ⟨_,(ae (ao (i:=1) fB.nd rfl (Lb rfl) (ay T.iS (xD T) (hr.mono (by decide)) rfl (paF (pv 0) (paF ah aa))))
   (ae (ao (i:=2) fB.nd rfl (IQ rfl) (ay T.hX (pM T) (hr.mono (by decide)) rfl (paF (bE rfl xm (aT K rfl (pv 1)) (fun _ _ _ _=>⟨(au (i:=0) xm.nd rfl (IQ rfl)),bb,(cG (fP K rfl) rfl T.gF JW (paF (pv 0) aa))⟩)) aa)))
   (ae (ao (i:=3) fB.nd rfl (IQ rfl) (ay T.i6 (yd T) (hr.mono (by decide)) rfl (paF (pv 1) aa)))
   (ae (ao (i:=3) fB.nd rfl (IQ rfl) (ak bg (pv 3) (ak aU ah (ak aS (ay T.eI (iX T) (hr.mono (by decide)) rfl (paF (pv 0) (paF ah aa))) (ak bz ah (pv 3))))))
   (ae (bo IW rfl (aT K rfl (ak CI (xx (xZ K rfl) (pv 0) (tp ah) (tp (ak aU ah (ak bz ah (aA (aQ K rfl) rfl T.bC Jf (paF (pv 1) aa)))))) (cq (paF ah aa)))) (au (i:=4) fB.nd rfl (Lb rfl)) (ae (cv (i:=5) rfl fB.nd rfl (IQ rfl) yu (aO rfl T.bc (paF (ak aU ah (ak aS (pv 4) ah)) aa)) (fun _ _ _ _=>⟨(au (i:=0) yu.nd rfl (IQ rfl)),bb,(ay T.dY (gN T) (hr.mono (by decide)) rfl (paF (pv 1) (paF (ak aU ah (pv 0)) (paF (aA (aQ K rfl) rfl T.bC Jf (paF (pv 2) aa)) aa))))⟩) rfl)
   (ae (ao (i:=6) fB.nd rfl (IQ rfl) (aq (mj K rfl) (ay T.ei (jz T) (hr.mono (by decide)) rfl (paF (pv 1) (paF (pv 5) (paF (pv 3) (paF (pv 4) aa))))) ah (fun _ _=>rfl)))
   (ae (ao (i:=7) fB.nd rfl (IQ rfl) (ay T.ip (m6 T) (hr.mono (by decide)) rfl (paF (pv 2) (paF (pv 6) aa))))
   (ae (bj (l9 (gY (ay T.iQ (x9 T) (hr.mono (by decide)) rfl (paF (pv 2) (paF (pv 6) (paF (pv 7) (paF (pv 3) (paF (ak bz (pv 4) ah) aa)))))))) (af (aL eY)) aV)
   (ae (ao (i:=8) fB.nd rfl (IQ rfl) (ay T.gC (m5 T) (hr.mono (by decide)) rfl (paF (pv 7) (paF (ay T.eT (jX T) (hr.mono (by decide)) rfl (paF (pv 1) (paF (pv 6) aa))) (paF (pv 3) (paF (ak bz (pv 4) ah) aa))))))
   (af (bj (aD HC (ak bg (aI K rfl (pv 8) rfl) (ak bz (aA (aQ K rfl) rfl T.bC Jf (paF (pv 1) aa)) (aA (aQ K rfl) rfl T.bC Jf (paF (pv 6) aa)))) ah (aJ _)) (ae (ao (i:=9) fB.nd rfl (IQ rfl) (ay T.gC (m5 T) (hr.mono (by decide)) rfl (paF (pv 2) (paF (pv 1) (paF (pv 3) (paF (ak bz (pv 4) ah) aa))))))
   (af (bj (l9 (gY (ay T.eW (qG T) (hr.mono (by decide)) rfl (paF (pv 2) (paF (pv 6) (paF (pv 8) (paF (pv 9) aa))))))) (af (aL eY)) aV))) aV))))))))
   (af (aL eY))))))),?_⟩
 walk_at "rn";refine ⟨_,ns,0,rfl,hA,fun d1 H1 n t e ps1 s1 gt tb1 _ _=>?_⟩;have n1:=gt.pos;have n23:=gt.le;have hA1:=Rep.mono s1 hA;walk_at "rn";refine mq (K:=K) tb1.at (by rw [gt.len];omega) fun dh H2 psh s2 _ _ tbh=>?_
 walk_at "rn";refine ⟨_,n,e,t,rfl,tbh.at,gt,fun g H3 _ s3 hg0=>?_⟩;have hg:=aY.mono kO hg0;have tb3:=tb1.mono (s2.trans s3);have hA3:=Rep.mono (s2.trans s3) hA1;walk_at "rn";refine ⟨_,n,e,t,rfl,tb3.at,gt,fun l H4 s4 hl ln=>?_⟩;have l1:=hl.pos;have hg4:=aY.mono s4 hg;have tb4:=tb3.mono s4;have hA4:=Rep.mono s4 hA3;walk_at "rn";refine ⟨_,ns,3,rfl,hA4,?_⟩;generalize lq ns 3=kd;have hk60:0<60 / l:=NU (by omega) (by omega)
 have hm:=Jj kd hk60;have m60:l * (1+kd % (60 / l))<=60:=JV (JQ l (by omega)) (NN 60 l)
 have m1:0<l * (1+kd % (60 / l)):=J8 (by omega) (by omega)
 have ml0:l * (1+kd % (60 / l)) % l=0:=MK _ _;walk_at "rn";generalize l * (1+kd % (60 / l))=m at m60 m1 ml0;refine cA tb4.at ?_;rw [gt.len];refine kf (by omega) (by omega) ?_
 walk_at "rn";refine Ec hA4 fun pc H5 _ s5 gc=>?_;have hcl:=Fh ns (some ((4:Nat):Int)) (some ((5+12 / n:Nat):Int));generalize cut ns (some ((4:Nat):Int)) (some ((5+12 / n:Nat):Int))=cs at gc hcl;refine dM (K:=K) (l:=([2]:List Int)) (oU GO hZ) (by decide) fun d6 H6 _ s6 g6=>?_
 refine ES (gc.mono s6).copy g6.copy (by simp;omega) fun d7 H7 _ s7 a7=>?_
 have s47:=s5.trans (s6.trans s7);have tb7:=tb4.mono s47;have hg7:=aY.mono s47 hg4;refine jT a7 (fun i σ H'=>aj H7 H'/\∃ f:Nat->Option V,σ=[some (.ref a),some (.ref d1),some (.ref g),some (.int (m:Int)),f 0,f 1,f 2,f 3,f 4,f 5]) ⟨aj.refl _,cH [none,none,none,none,none,none],rfl⟩ (fun i σ' H' z=>z.1) ?_ ?_
 ·rintro i c w' σ' H8 hc hw ⟨s8,f,rfl⟩;cases (show w'=V.int c from hw);have tb8:=tb7.mono s8;have hg8:=aY.mono s8 hg7;walk_at "rn";refine ir (by decide) ?_
  obtain ⟨k,hk,k3⟩:∃ k:Nat,c % ((2:Nat):Int)=(k:Int)/\k<=1:=⟨(c % ((2:Nat):Int)).toNat,by omega,by omega⟩
  rw [hk];walk_at "rn";refine eF K (n:=1+k) (β:=Nat) rfl (by omega) (fun j=>(IF j).map fun j=>thg c (71+j) n) (fun σ'=>∃ y,σ'=[y,some (.int c),some (.ref d1)]) rfl (fun i _=>by rw [IE,Jb];exact IV _) ⟨_,rfl⟩ ?_ ?_
  ·rintro j σ' H9 d9 R9 R09 hj hs9 ⟨y,rfl⟩ hR9 hR09 hd9;walk_at "rn";refine cA (tb8.mono hs9).at ?_;rw [gt.len];walk_at "rn";refine ⟨c,71+j,n,rfl,by omega,n1,fun _=>?_⟩
   exact hR9 _ _ _ _ ⟨_,rfl⟩ (aj.refl _) rfl (by rw [K5,JO];rfl)
  intro dS H9 fdS s9 gS;have gS:Gr K H9 dS ((IF (1+k)).map fun j=>thg c (71+j) n):=gS;walk_at "rn";refine ⟨_,_,n,e,m,c,t,_,rfl,(tb8.mono s9).at,gt,gS.at,by rw [IE,Jb];omega,fun x hx=>by obtain ⟨j,_,rfl⟩:=IP.mp hx;exact sI c _ n1,m1,m60,fun pT dp dm H10 R M _ _ _ s10 hT hp hm pt _ _ _=>?_⟩
  have s810:=s9.trans s10;have r1:0<R.length:=Jw.mpr pt.ne;have rl:=pt.len;have gt2:=fq gt pt;obtain ⟨l2,hl2⟩:=mZ gt2;have ml2:m % l2=0:=Kv (N2 (JH (nU gt pt hl hl2)) (JH ml0));walk_at "rn";refine E1 (i:=0) hT rfl ?_;walk_at "rn";refine ⟨g,dp,n,e,t,R,rfl,hg8.mono s810,gt,hp,pt,fun g2 H11 fg2 s11 hg11=>?_⟩;have hg11':=hg11.mono kO;have s811:=s810.trans s11;walk_at "1";refine ir ⟨by decide,by decide⟩ ?_
  walk_at "rn";refine ⟨g,dp,g2,n,e,m,l,_,t,R,rfl,hg8.mono s811,gt,s11 _ _ hp,pt,hg11',hl,ml0,m1,m60,fun H12 s12=>?_⟩;have s812:=s811.trans s12;have hp12:=(s11.trans s12) _ _ hp;walk_at "6";refine ⟨_,dp,n,e,t,R,rfl,(tb8.mono s812).at,gt,hp12,pt,fun ds H13 pss s13 tbs=>?_⟩;walk_at "rn";refine ir ⟨by decide,by decide⟩ ?_
  walk_at "rn";refine ⟨g2,ds,_,_,m,l2,_,_,pss,rfl,(hg11'.mono s12).mono s13,gt2,tbs,hl2,ml2,m1,m60,fun x z D H14 s14 zl wy=>?_⟩;have s814:=s812.trans (s13.trans s14);have tb14:=tb8.mono s814;have hp14:=(s13.trans s14) _ _ hp12;have hgn:=((hg11'.mono s12).mono s13).mono s14;obtain ⟨C,cx,d0,fs,hC,hx,wf,_⟩:=id wy.wa;walk_at "1";refine eP T hC hx wf ?_;walk_at "rn";refine cA tb14.at ?_;rw [gt.len];walk_at "rn";refine cA (bA hp14) ?_;refine kf r1 (by omega) ?_
  rw [mU gt pt];have cl:=gw (n:=n) (t:=t) (e:=e) (R:=R);refine kD (.inl (by omega)) ?_
  walk_at "rn";refine bt (fun h60=>?_) (fun _=>?_)
  ·walk_at "rn";refine ir ⟨by decide,by decide⟩ ?_
   walk_at "rn";refine ⟨g,d1,n,e,m,l,_,t,ps1,rfl,hg8.mono s814,gt,tb14,hl,ml0,m1,m60,fun b y F H15 s15 yl wb=>?_⟩;walk_at "1";refine ⟨g,dp,x,b,g2,n,e,m,l,z,y,t,R,D,F,rfl,(hg8.mono s814).mono s15,gt,s15 _ _ hp14,pt,hgn.mono s15,wy.mono s15,wb,hl,ml0,by rw [Kd];exact h60,fun H16 s16=>?_⟩
   walk_at "6";exact ⟨s8.trans (s814.trans (s15.trans s16)),cH [_,_,_,_,_,_],rfl⟩
  ·walk_at "rn";exact ⟨s8.trans s814,cH [_,_,_,_,_,_],rfl⟩
 ·rintro σ' H8 ⟨s8,f,rfl⟩;walk_at "rn";exact q _
end
def FF {l:Nn} {w:World} {K:IC} {mg:Str->Option Value} {fa:Addr} (hfa:mg "law" = some (.ref fa)) (T:Txt K mg) (hb:∀ (s:IL) (v:Value),Ms s T.oX.fd ⟨[v],[]⟩ [("_law_script",v)]) :
  ∃ fd:JR,(∀ (s:IL) (v:Value),Ms s fd ⟨[v],[]⟩ [("_law_script",v)])/\∀ base:Heap,K.In base->base.Ns JN mg->aN l.prog w K mg base CX0 12 fa fd ["_law_script"] (wA K):=by
 refine ⟨T.oX.fd,hb,fun base _ _=>?_⟩;cases hfa.symm.trans T.oX.nm;exact Hj T
def walk {l:Nn} {q:Jc} {loose:List Str} {XP:(Str->Option Value)->Heap->Prop} {YP:World->Heap->Prop} {d:DefRec} {K:Params->IC} (hn:l.most=some 63) (hdf:d.params.defaults=[])
  (hY:∀ (w:World) (h:Heap),YP w h->(K w.params).In h)
  (F:∀ (w:World) (mg:Str->Option Value) (fa:Addr) (h:Heap),(K w.params).In h->h.Ns JN mg->mg d.name=some (.ref fa) ->
   ∃ fd:JR,(∀ (s:IL) (u:Value),Ms s fd ⟨[u],[]⟩ [("_law_script",u)])/\∀ base:Heap,(K w.params).In base->base.Ns JN mg->aN l.prog w (K w.params) mg base CX0 12 fa fd ["_law_script"] (wA (K w.params))) :
  PySem.W.WalkO q loose XP YP l.row.toRowW d [] (fun f vs=>PySem.call f vs) :=
 L2.E8 (n:=63) (k:=12) (x:="_law_script") (CX:=fun _=>CX0) (sp:=fun w=>wA (K w.params)) hn (by decide) hdf ⟨rfl,by decide,by decide⟩ hY F (fun _ _ a ns hl _ hS=>⟨a,ns,rfl,hS,hl,fun _=>rfl⟩) fun _ _ _ _ _ z=>z
end TB
namespace PySem.W.Fast
def tw3565660462301886730:=0
def tw8993427455642489727:=0
def tw16441457877724406004:=0
def tw15336730690993656080:=0
def tw5991586856762983830:=0
def tw5706812743473069807:=0
def tw10603539890446252546:=0
def tw12570888041904416173:=0
def tw7663433203612922372:=0
def tw7715561665095501557:=0
def tw17062524331957014992:=0
def tw16895956904629171389:=0
def tw16444491590769253668:=0
def tw12944557968290036563:=0
def tw6460264057769718904:=0
def tw9540243438098947454:=0
def tw9786483054456029870:=0
def tw11320360719399684282:=0
def tw5284866595353847807:=0
def tw2088149827299011127:=0
def tw2260552937935173470:=0
def tw8234765561980528925:=0
def tw14929312666149258219:=0
def tw951105868848155083:=0
def tw7601548801347412171:=0
def tw9001690026070994622:=0
def tw10561985271258866505:=0
def tw4187835059040145592:=0
def tw10048844868084968706:=0
def tw3605244590578857586:=0
def tw8659871843430971997:=0
def tw17879608905408051875:=0
def tw6880019079464240028:=0
def tw15758489492503110784:=0
def tw7150373984231573365:=0
def tw9801727881442273256:=0
def tw150630739204293232:=0
def tw10948724903549929520:=0
def tw4122503886950011579:=0
def tw8712263432755789973:=0
def tw17555850253325835602:=0
def tw11990942148780354426:=0
def tw3046726253378996941:=0
def tw1234003846455763235:=0
def tw13912533186391731869:=0
def tw12024328714654820628:=0
def tw12516280001569304902:=0
def tw11476420147217456785:=0
def tw12279379135322868550:=0
def tw9105386467110849933:=0
def tw18332530221772220111:=0
def tw15721767473806558219:=0
def tw2471481810816333097:=0
def tw16604896238829727025:=0
def tw16438490904533514464:=0
def tw10783677125000790954:=0
def tw13242770839507689795:=0
def tw3017915440664689620:=0
def tw8089454577226554362:=0
def tw6084505823723851759:=0
def tw3282425165375477871:=0
def tw2167205610923939066:=0
def tw16849482221868712027:=0
def tw14268475755459421252:=0
def tw6206429449290473894:=0
def tw13753289905604203985:=0
def tw6775907452234920997:=0
def tw13883992832984374963:=0
def tw10580192080263544321:=0
def tw4467885878413375066:=0
def tw17268955909994760033:=0
def tw9963163162076627609:=0
def tw6488575617823324914:=0
def tw6354530150207700082:=0
def tw8433917697572960936:=0
def tw15361035581847401831:=0
def tw5560361136656153156:=0
def tw879826403294772558:=0
def tw6623975572052002520:=0
def tw4868574391229141044:=0
def tw4148022396069776319:=0
def tw14156219337741627775:=0
def tw9235091092462509296:=0
def tw8466539126829135682:=0
def tw14435104190745780590:=0
def tw832684466987341803:=0
def tw16015959184449051374:=0
def tw2064757005252169701:=0
def tw1765620196890035210:=0
def tw4076253897224331705:=0
def tw8118756930355216935:=0
def tw4968147849931189338:=0
def tw17108115883385785678:=0
def tw12825842188295100610:=0
def tw287037596954108130:=0
def tw13210850702032674784:=0
def tw10279036835937080783:=0
def tw17756493367807176976:=0
def tw15480690197740195048:=0
def tw3958981165896758789:=0
def tw7670899145262589301:=0
def tw10883991927643997451:=0
def tw925535956637871170:=0
def tw6698552432000465858:=0
def tw3110610004329338035:=0
def tw6126579019214634471:=0
def tw1544883423279890708:=0
def tw6756864436767631826:=0
def tw18218541741110873102:=0
def tw10618482009407706370:=0
def tw3200117116183459216:=0
def tw7621081819263665364:=0
def tw3947771231669897079:=0
def tw7368202229173277656:=0
def tw3928581364502030168:=0
def tw12497423413369080005:=0
def tw9552542842025386004:=0
def tw3671169275881910364:=0
def tw5381015832740295591:=0
def tw11414557373967743031:=0
def tw7633337202288117426:=0
def tw10323687927520221182:=0
def tw4155520830691387173:=0
def tw6960658697516578065:=0
def tw5185896795532743311:=0
def tw169518958233517819:=0
def tw12311027128063807239:=0
def tw17814274763548066527:=0
def tw3738388840087426474:=0
def tw4446727122262321640:=0
def tw7925650331543559280:=0
def tw4574422941993110079:=0
def tw10365698107410480490:=0
def tw3836129261293126861:=0
def tw16161237551918554322:=0
def tw15760827965136904948:=0
def tw4540457699909246606:=0
def tw6849126108454346300:=0
def tw701959143498492918:=0
def tw7565339556548894494:=0
def tw2147908142530633095:=0
def tw1302133248682593110:=0
def tw17238931253358254736:=0
def tw9222716048183689455:=0
def tw10262651818761790641:=0
def tw12541127241405459912:=0
def tw14865721544901375891:=0
def tw915129096758882905:=0
def tw14415210410055530483:=0
def tw15160523967950694845:=0
def tw10660663257642505787:=0
def tw10610007740023116420:=0
def tw9646110176782002681:=0
def tw13668134819667322899:=0
def tw5116701784818149202:=0
def tw6310127064363359759:=0
def tw2147528402050560228:=0
def tw16056974272674990881:=0
def tw14944225334858318002:=0
def tw9186671407565873974:=0
def tw3054335984831185159:=0
def tw8545782010194285645:=0
def tw15211271290018392156:=0
def tw12066700923127535842:=0
def tw12986264432620686470:=0
def tw13521081984397766962:=0
def tw18216662215549365294:=0
def tw10368802347857060403:=0
def tw14027706505275526620:=0
def tw4086800791069310167:=0
def tw1718515688004209812:=0
def tw7180635194803264306:=0
def tw18187948409431528607:=0
def tw2820991279978379656:=0
def tw15904163514218840434:=0
def tw6105832606139480644:=0
def tw18087334067835609358:=0
def tw14046516044384186801:=0
def tw14731853588916012379:=0
def tw1567713900195844989:=0
def tw14581894104546823842:=0
def tw3096328776903142293:=0
def tw12282303782885934314:=0
def tw15867072655419309898:=0
def tw8881751692005389429:=0
def tw11734520627771336616:=0
def tw13622259993327695864:=0
def tw8004303509568410566:=0
def tw7372777381232995027:=0
def tw14482852234777213753:=0
def tw10196126938190110987:=0
def tw16130459196276596766:=0
def tw12187393797900132027:=0
def tw544452215911298634:=0
def tw10164844112974890506:=0
def tw7074120414210446360:=0
def tw8011205557115061462:=0
def tw4996432873305147520:=0
def tw8297701291239130820:=0
def tw18066623546987755120:=0
def tw15665427175863936795:=0
def tw14563026709419286691:=0
def tw16510520953461319738:=0
def tw15234958945790600190:=0
def tw11495801617915678704:=0
def tw12937705270559097260:=0
def tw18045945501541415077:=0
def tw13725672306121124008:=0
def tw3201942492515761425:=0
def tw17285074815451979456:=0
end PySem.W.Fast
open PySem PySem.W PyProof.Rows L2
set_option maxRecDepth 100000 in
set_option maxHeartbeats 0 in
theorem PySem.Challenge.cw_tracebook_k49_whole_lifts_and_restrictio_holds : PySem.Challenge.rw_tracebook_k49_whole_lifts_and_restrictio.Holds := by
 w_on;o_law;k_head;(case hw=>w_witness2)
 k_fill
 refine TB.walk (l:=PySem.Challenge.rw_tracebook_k49_whole_lifts_and_restrictio) rfl rfl (fun w h Y=>PySem.W.kIn_of Y) ?F
 case F =>
  intro w mg fa h KX G hmg
  exact TB.FF hmg ⟨df1 KX G,df1 KX G,df1 KX G,df1 KX G,df2 KX G,df2 KX G,df3 KX G,df1 KX G,df2 KX G,df1 KX G,df2 KX G,df2 KX G,df2 KX G,df1 KX G,df2 KX G,df2 KX G,df3 KX G,df2 KX G,df2 KX G,df1 KX G,df2 KX G,df3 KX G,dd4 KX G,df4 KX G,df2 KX G,df1 KX G,df2 KX G,df2 KX G,df3 KX G,df2 KX G,df2 KX G,df2 KX G,df2 KX G,df2 KX G,df3 KX G,df4 KX G,df3 KX G,df3 KX G,df2 KX G,df2 KX G,df1 KX G,df3 KX G,df1 KX G,df2 KX G,df4 KX G,df2 KX G,df2 KX G,df3 KX G,df4 KX G,df3 KX G,df5 KX G,df4 KX G,df1 KX G,_,_,_,mgk KX G,qH,mkk,fnk,bd4,cC,cC,cC,cC,_,_,_,mgk KX G,qH,mkk,fnk,bd4,G2,cC,cC,cC,cC,_,_,fW,fnk,bd2,_,_,fW,fnk,bd2,_,_,_,mgk KX G,qH,mkk,fDk,fW,fW,cC,cC,cC,cC,cC,cC,_,_,_,mgk KX G,qH,mkk,fnk,bd3,fW,fW,cC,cC,cC,cC,_,_,_,mgk KX G,qH,mkk,fnk,bd2,fW,fW,cC,cC,cC,cC,_,_,_,mgk KX G,qH,mkk,fnk,bd3,fW,fW,cC,cC,cC,cC,_,_,_,mgk KX G,qH,mkk,fnk,bd4,fW,fW,cC,cC,cC,cC,_,mgk KX G,krf,krf,_,mgk KX G,_,mgk KX G,_,mgk KX G,mgz KX G,mgz KX G,mgz KX G,mgz KX G,mgz KX G,mgz KX G,mgz KX G,mgz KX G,mgz KX G,mgz KX G,mgz KX G⟩ fun s v=>.of_eq rfl
